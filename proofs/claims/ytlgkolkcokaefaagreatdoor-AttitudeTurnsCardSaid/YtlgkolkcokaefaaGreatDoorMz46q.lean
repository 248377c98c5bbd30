/- texts -/
import Derived.Test.YtlgkolkcokaefaaGreatDoorMz45q
import Derived.Test.YtlgkolkcokaefaaGreatDoorHd
open Go.Proofs.Tryz
set_option maxRecDepth 100000
set_option maxHeartbeats 20000000
open Go.Lib (hid)
namespace Go.Proofs.YtlgkolkcokaefaaGreatDoor
open Go.RowKit Go.Gb
theorem lG (x1 x2 y1 y2:ByteArray)(p q r s c:Int)(w:World)
 (h1:CQ 114 #[.agg #[.string x1,.string x2],.agg #[.string y1,.string y2]] (.tuple #[.agg #[.int .i64 p,.int .i64 q],.agg #[.int .i64 r,.int .i64 s],.bool true]))
 (h2:CQ 126 #[.agg #[.int .i64 p,.int .i64 q],.agg #[.int .i64 r,.int .i64 s]] (.int .i64 c)) :
 CR 105 #[.agg #[.string x1,.string x2],.agg #[.string y1,.string y2]] w (.int .i64 c):=by
 have C1:=hid h1;have C2:=hid h2;obtain⟨w0,hw0⟩:∃ w0:World,w0=((w.alloc (.cells #[.string x1,.string x2] 128)).alloc (.cells #[.string y1,.string y2] 128)):=⟨_,rfl⟩;have hz0:w0.heap.size=w.heap.size+2:=by rw[hw0];simp
 have hB0:Below w.heap.size w w0:=by
  rw[hw0];repeat (first|exact Below.refl _ _|refine Below.setCell ?_ (by first|omega|(simp;omega)|simp) _|refine Below.alloc ?_ (by first|omega|(simp;omega)|simp) _|refine Below.drew ?_)
 have hS0:w0.cell? ⟨w.heap.size,0,none⟩=some (.string x1)∧w0.cell? ⟨w.heap.size,1,none⟩=some (.string x2)∧w0.cell? ⟨w.heap.size+1,0,none⟩=some (.string y1)∧w0.cell? ⟨w.heap.size+1,1,none⟩=some (.string y2):=by rw[hw0];exact⟨((q_lt).trans ((aV).trans rfl)),((q_lt).trans ((aV).trans rfl)),((aV).trans rfl),((aV).trans rfl)⟩
 have KS:=hid (show ∀ W:World,Below w0.heap.size w0 W→(W.cell? ⟨w.heap.size,0,none⟩=some (.string x1)∧W.cell? ⟨w.heap.size,1,none⟩=some (.string x2)∧W.cell? ⟨w.heap.size+1,0,none⟩=some (.string y1)∧W.cell? ⟨w.heap.size+1,1,none⟩=some (.string y2)) from fun W hB=>by
  obtain⟨c0,c1,c2,c3⟩:=hS0
  exact⟨(hB.cell (p:=⟨w.heap.size,0,none⟩) (by show w.heap.size<_;omega)).trans c0,(hB.cell (p:=⟨w.heap.size,1,none⟩) (by show w.heap.size<_;omega)).trans c1,(hB.cell (p:=⟨w.heap.size+1,0,none⟩) (by show w.heap.size+1<_;omega)).trans c2,(hB.cell (p:=⟨w.heap.size+1,1,none⟩) (by show w.heap.size+1<_;omega)).trans c3⟩)
 have KZ:=hid (show ∀ W:World,Below w0.heap.size w0 W→w.heap.size+2≤W.heap.size from fun W hB=>by have:=hB.size;omega);have KB:=hid (show ∀ W:World,Below w0.heap.size w0 W→Below w.heap.size w W from fun W hB=>hB0.trans (hB.mono (by omega)));have F0:=hid (Below.refl w0.heap.size w0);have HW0:=hid hw0;clear hz0 hB0 hS0 hw0 h1 h2;go_enter func105,ntmps105
 go_wp2_with fail
 rw[← HW0.out];obtain⟨d0,d1,d2,d3⟩:=KS.out _ F0.out;go_wp2_with fail
 refine(C1.out _).mono ?_;rintro e w1 ⟨rfl,hb⟩;obtain⟨w2,hw2⟩:∃ W:World,W=(w1.alloc (.cells #[.int .i64 p,.int .i64 q] 148)).alloc (.cells #[.int .i64 r,.int .i64 s] 148):=⟨_,rfl⟩;have HW2:=hid hw2;have F2:=hid (show Below w0.heap.size w0 w2 by rw[hw2];exact dw (dw (aA F0.out hb) _) _);have SZ:w1.heap.size<(w1.alloc (.cells #[.int .i64 p,.int .i64 q] 148)).heap.size:=by simp
 have k0:w2.cell? ⟨w1.heap.size,0,none⟩=some (.int .i64 p):=by rw[hw2];exact(q_lt SZ).trans ((aV rfl).trans rfl)
 have k1:w2.cell? ⟨w1.heap.size,1,none⟩=some (.int .i64 q):=by rw[hw2];exact(q_lt SZ).trans ((aV rfl).trans rfl)
 have k2:w2.cell? ⟨w1.heap.size+1,0,none⟩=some (.int .i64 r):=by rw[hw2];exact(aV (by simp)).trans rfl
 have k3:w2.cell? ⟨w1.heap.size+1,1,none⟩=some (.int .i64 s):=by rw[hw2];exact(aV (by simp)).trans rfl
 clear SZ hw2 hb d0 d1 d2 d3;obtain⟨d0,d1,d2,d3⟩:=KS.out _ F2.out;go_upto_region 3 with fail
 rw[← HW2.out];go_wp2_with fail
 refine(C2.out _).mono ?_;rintro e w3 ⟨rfl,hb⟩;have F3:=hid (aA F2.out hb);clear hb d0 d1 d2 d3;obtain⟨d0,d1,d2,d3⟩:=KS.out _ F3.out;go_wp2;go_ret
 exact⟨rfl,KB.out _ F3.out⟩
theorem lZ (x1 x2 y1 y2:ByteArray)(p q c:Int)(hpq:p≠q)(w:World)(hl:La w)
 (h1:CQ 114 #[.agg #[.string x1,.string x2],.agg #[.string y1,.string y2]] (.tuple #[.agg #[.int .i64 0,.int .i64 0],.agg #[.int .i64 0,.int .i64 0],.bool false]))
 (h2:CL 102 #[.string x1] (.int .i64 p))
 (h3:CL 102 #[.string y1] (.int .i64 q))
 (h4:CL 127 #[.string x1,.string y1] (.int .i64 c)) :
 CR 105 #[.agg #[.string x1,.string x2],.agg #[.string y1,.string y2]] w (.int .i64 c):=by
 obtain ⟨C1,C2,C3,C4⟩:=aH h1 h2 h3 h4;obtain⟨w0,hw0⟩:∃ w0:World,w0=((w.alloc (.cells #[.string x1,.string x2] 128)).alloc (.cells #[.string y1,.string y2] 128)):=⟨_,rfl⟩;have hz0:w0.heap.size=w.heap.size+2:=by rw[hw0];simp
 have hB0:Below w.heap.size w w0:=by
  rw[hw0];repeat (first|exact Below.refl _ _|refine Below.setCell ?_ (by first|omega|(simp;omega)|simp) _|refine Below.alloc ?_ (by first|omega|(simp;omega)|simp) _|refine Below.drew ?_)
 have hS0:w0.cell? ⟨w.heap.size,0,none⟩=some (.string x1)∧w0.cell? ⟨w.heap.size,1,none⟩=some (.string x2)∧w0.cell? ⟨w.heap.size+1,0,none⟩=some (.string y1)∧w0.cell? ⟨w.heap.size+1,1,none⟩=some (.string y2):=by rw[hw0];exact⟨((q_lt).trans ((aV).trans rfl)),((q_lt).trans ((aV).trans rfl)),((aV).trans rfl),((aV).trans rfl)⟩
 have KS:=hid (show ∀ W:World,Below w0.heap.size w0 W→(W.cell? ⟨w.heap.size,0,none⟩=some (.string x1)∧W.cell? ⟨w.heap.size,1,none⟩=some (.string x2)∧W.cell? ⟨w.heap.size+1,0,none⟩=some (.string y1)∧W.cell? ⟨w.heap.size+1,1,none⟩=some (.string y2)) from fun W hB=>by
  obtain⟨c0,c1,c2,c3⟩:=hS0
  exact⟨(hB.cell (p:=⟨w.heap.size,0,none⟩) (by show w.heap.size<_;omega)).trans c0,(hB.cell (p:=⟨w.heap.size,1,none⟩) (by show w.heap.size<_;omega)).trans c1,(hB.cell (p:=⟨w.heap.size+1,0,none⟩) (by show w.heap.size+1<_;omega)).trans c2,(hB.cell (p:=⟨w.heap.size+1,1,none⟩) (by show w.heap.size+1<_;omega)).trans c3⟩)
 have KZ:=hid (show ∀ W:World,Below w0.heap.size w0 W→w.heap.size+2≤W.heap.size from fun W hB=>by have:=hB.size;omega);have KB:=hid (show ∀ W:World,Below w0.heap.size w0 W→Below w.heap.size w W from fun W hB=>hB0.trans (hB.mono (by omega)));have F0:=hid (Below.refl w0.heap.size w0);have HW0:=hid hw0;clear hz0 hB0 hS0 hw0;have HL:=hid (show ∀ W:World,Below w0.heap.size w0 W→La W from fun W hB=>hl.on (KB.out W hB));clear hl;have hpq1:(p==q)=false:=by simpa using hpq
 have hpq2:(p != q)=true:=by simpa using hpq
 clear h1 h2 h3 h4;go_enter func105,ntmps105
 go_wp2_with fail
 rw[← HW0.out];obtain⟨d0,d1,d2,d3⟩:=KS.out _ F0.out;go_wp2_with fail
 refine(C1.out _).mono ?_;rintro e w1 ⟨rfl,hb⟩;obtain⟨w2,hw2⟩:∃ W:World,W=(w1.alloc (.cells #[.int .i64 0,.int .i64 0] 148)).alloc (.cells #[.int .i64 0,.int .i64 0] 148):=⟨_,rfl⟩;have HW2:=hid hw2;have F2:=hid (show Below w0.heap.size w0 w2 by rw[hw2];exact dw (dw (aA F0.out hb) _) _);clear hw2 hb d0 d1 d2 d3;obtain⟨d0,d1,d2,d3⟩:=KS.out _ F2.out;go_upto_region 4 with fail
 rw[← HW2.out];go_wp2_with fail
 go_region_held3 (fun w'=>w'.cell? ⟨w.heap.size,0,none⟩=some (.string x1)∧w'.cell? ⟨w.heap.size,1,none⟩=some (.string x2)∧w'.cell? ⟨w.heap.size+1,0,none⟩=some (.string y1)∧w'.cell? ⟨w.heap.size+1,1,none⟩=some (.string y2)) (first|(with_reducible exact KS.out _ F4.out)|(with_reducible exact KS.out _ F4.out.drew)|(with_reducible exact KS.out _ F3.out)|(with_reducible exact KS.out _ F3.out.drew)|(with_reducible exact KS.out _ F2.out)|(with_reducible exact KS.out _ F2.out.drew))
  (first
   | (go_at_call 102;(with_reducible refine(C2.out _ ?la2).mono ?_);(case la2=>first|exact HL.out _ F2.out|exact HL.out _ F2.out.drew);rintro e w3 ⟨rfl,hb⟩;have F3:=hid (show Below w0.heap.size w0 w3 by first|exact aA F2.out hb|exact aA F2.out.drew hb);clear hb)
   | (go_at_call 102;(with_reducible refine(C3.out _ ?la3).mono ?_);(case la3=>first|exact HL.out _ F3.out|exact HL.out _ F3.out.drew);rintro e w4 ⟨rfl,hb⟩;have F4:=hid (show Below w0.heap.size w0 w4 by first|exact aA F3.out hb|exact aA F3.out.drew hb);clear hb)
   | fail)
 go_wp2_with fail
 obtain⟨d0,d1,d2,d3⟩:=KS.out _ F4.out;go_wp2_with fail
 refine(C4.out _ (HL.out _ F4.out)).mono ?_;rintro e w5 ⟨rfl,hb⟩;have F5:=hid (aA F4.out hb);clear hb d0 d1 d2 d3;obtain⟨d0,d1,d2,d3⟩:=KS.out _ F5.out;go_wp2;go_ret
 exact⟨rfl,KB.out _ F5.out⟩
theorem lH (x1 x2 y1 y2 t u:ByteArray)(p c:Int)(w:World)(hl:La w)
 (h1:CQ 114 #[.agg #[.string x1,.string x2],.agg #[.string y1,.string y2]] (.tuple #[.agg #[.int .i64 0,.int .i64 0],.agg #[.int .i64 0,.int .i64 0],.bool false]))
 (h2:CL 102 #[.string x1] (.int .i64 p))
 (h3:CL 102 #[.string y1] (.int .i64 p))
 (h4:CL 128 #[.string x1,.string y2] (.string t))
 (h5:CL 128 #[.string y1,.string x2] (.string u))
 (h6:CL 127 #[.string t,.string u] (.int .i64 c)) :
 CR 105 #[.agg #[.string x1,.string x2],.agg #[.string y1,.string y2]] w (.int .i64 c):=by
 obtain ⟨C1,C2,C3,C4,C5,C6⟩:=bL h1 h2 h3 h4 h5 h6;obtain⟨w0,hw0⟩:∃ w0:World,w0=((w.alloc (.cells #[.string x1,.string x2] 128)).alloc (.cells #[.string y1,.string y2] 128)):=⟨_,rfl⟩;have hz0:w0.heap.size=w.heap.size+2:=by rw[hw0];simp
 have hB0:Below w.heap.size w w0:=by
  rw[hw0];repeat (first|exact Below.refl _ _|refine Below.setCell ?_ (by first|omega|(simp;omega)|simp) _|refine Below.alloc ?_ (by first|omega|(simp;omega)|simp) _|refine Below.drew ?_)
 have hS0:w0.cell? ⟨w.heap.size,0,none⟩=some (.string x1)∧w0.cell? ⟨w.heap.size,1,none⟩=some (.string x2)∧w0.cell? ⟨w.heap.size+1,0,none⟩=some (.string y1)∧w0.cell? ⟨w.heap.size+1,1,none⟩=some (.string y2):=by rw[hw0];exact⟨((q_lt).trans ((aV).trans rfl)),((q_lt).trans ((aV).trans rfl)),((aV).trans rfl),((aV).trans rfl)⟩
 have KS:=hid (show ∀ W:World,Below w0.heap.size w0 W→(W.cell? ⟨w.heap.size,0,none⟩=some (.string x1)∧W.cell? ⟨w.heap.size,1,none⟩=some (.string x2)∧W.cell? ⟨w.heap.size+1,0,none⟩=some (.string y1)∧W.cell? ⟨w.heap.size+1,1,none⟩=some (.string y2)) from fun W hB=>by
  obtain⟨c0,c1,c2,c3⟩:=hS0
  exact⟨(hB.cell (p:=⟨w.heap.size,0,none⟩) (by show w.heap.size<_;omega)).trans c0,(hB.cell (p:=⟨w.heap.size,1,none⟩) (by show w.heap.size<_;omega)).trans c1,(hB.cell (p:=⟨w.heap.size+1,0,none⟩) (by show w.heap.size+1<_;omega)).trans c2,(hB.cell (p:=⟨w.heap.size+1,1,none⟩) (by show w.heap.size+1<_;omega)).trans c3⟩)
 have KZ:=hid (show ∀ W:World,Below w0.heap.size w0 W→w.heap.size+2≤W.heap.size from fun W hB=>by have:=hB.size;omega);have KB:=hid (show ∀ W:World,Below w0.heap.size w0 W→Below w.heap.size w W from fun W hB=>hB0.trans (hB.mono (by omega)));have F0:=hid (Below.refl w0.heap.size w0);have HW0:=hid hw0;clear hz0 hB0 hS0 hw0;have HL:=hid (show ∀ W:World,Below w0.heap.size w0 W→La W from fun W hB=>hl.on (KB.out W hB));clear hl h1 h2 h3 h4 h5 h6;go_enter func105,ntmps105
 go_wp2_with fail
 rw[← HW0.out];obtain⟨d0,d1,d2,d3⟩:=KS.out _ F0.out;go_wp2_with fail
 refine(C1.out _).mono ?_;rintro e w1 ⟨rfl,hb⟩;obtain⟨w2,hw2⟩:∃ W:World,W=(w1.alloc (.cells #[.int .i64 0,.int .i64 0] 148)).alloc (.cells #[.int .i64 0,.int .i64 0] 148):=⟨_,rfl⟩;have HW2:=hid hw2;have F2:=hid (show Below w0.heap.size w0 w2 by rw[hw2];exact dw (dw (aA F0.out hb) _) _);clear hw2 hb d0 d1 d2 d3;obtain⟨d0,d1,d2,d3⟩:=KS.out _ F2.out;go_upto_region 4 with fail
 rw[← HW2.out];go_wp2_with fail
 go_region_held3 (fun w'=>w'.cell? ⟨w.heap.size,0,none⟩=some (.string x1)∧w'.cell? ⟨w.heap.size,1,none⟩=some (.string x2)∧w'.cell? ⟨w.heap.size+1,0,none⟩=some (.string y1)∧w'.cell? ⟨w.heap.size+1,1,none⟩=some (.string y2)) (first|(with_reducible exact KS.out _ F4.out)|(with_reducible exact KS.out _ F4.out.drew)|(with_reducible exact KS.out _ F3.out)|(with_reducible exact KS.out _ F3.out.drew)|(with_reducible exact KS.out _ F2.out)|(with_reducible exact KS.out _ F2.out.drew))
  (first
   | (go_at_call 102;(with_reducible refine(C2.out _ ?la2).mono ?_);(case la2=>first|exact HL.out _ F2.out|exact HL.out _ F2.out.drew);rintro e w3 ⟨rfl,hb⟩;have F3:=hid (show Below w0.heap.size w0 w3 by first|exact aA F2.out hb|exact aA F2.out.drew hb);clear hb)
   | (go_at_call 102;(with_reducible refine(C3.out _ ?la3).mono ?_);(case la3=>first|exact HL.out _ F3.out|exact HL.out _ F3.out.drew);rintro e w4 ⟨rfl,hb⟩;have F4:=hid (show Below w0.heap.size w0 w4 by first|exact aA F3.out hb|exact aA F3.out.drew hb);clear hb)
   | fail)
 go_wp2_with fail
 go_region_held3 (fun w'=>w'.cell? ⟨w.heap.size,0,none⟩=some (.string x1)∧w'.cell? ⟨w.heap.size,1,none⟩=some (.string x2)∧w'.cell? ⟨w.heap.size+1,0,none⟩=some (.string y1)∧w'.cell? ⟨w.heap.size+1,1,none⟩=some (.string y2)) (first|(with_reducible exact KS.out _ F7.out)|(with_reducible exact KS.out _ F7.out.drew)|(with_reducible exact KS.out _ F6.out)|(with_reducible exact KS.out _ F6.out.drew)|(with_reducible exact KS.out _ F5.out)|(with_reducible exact KS.out _ F5.out.drew)|(with_reducible exact KS.out _ F4.out)|(with_reducible exact KS.out _ F4.out.drew))
  (first
   | (go_at_call 128;(with_reducible refine(C4.out _ ?la4).mono ?_);(case la4=>first|exact HL.out _ F4.out|exact HL.out _ F4.out.drew);rintro e w5 ⟨rfl,hb⟩;have F5:=hid (show Below w0.heap.size w0 w5 by first|exact aA F4.out hb|exact aA F4.out.drew hb);clear hb)
   | (go_at_call 128;(with_reducible refine(C5.out _ ?la5).mono ?_);(case la5=>first|exact HL.out _ F5.out|exact HL.out _ F5.out.drew);rintro e w6 ⟨rfl,hb⟩;have F6:=hid (show Below w0.heap.size w0 w6 by first|exact aA F5.out hb|exact aA F5.out.drew hb);clear hb)
   | (go_at_call 127;(with_reducible refine(C6.out _ ?la6).mono ?_);(case la6=>first|exact HL.out _ F6.out|exact HL.out _ F6.out.drew);rintro e w7 ⟨rfl,hb⟩;have F7:=hid (show Below w0.heap.size w0 w7 by first|exact aA F6.out hb|exact aA F6.out.drew hb);clear hb)
   | fail)
 all_goals
  go_wp2;go_ret
  exact⟨rfl,by first|exact KB.out _ F7.out|exact KB.out _ F7.out.drew⟩
theorem ru (q:Rat)(h:q.den≠1):Sz q.num++⟨#[47]⟩++Sz (q.den:Int)=Sq q:=by
 rw[pJ h,dK];apply ByteArray.ext
 apply Array.ext'
 simp[Sn]
theorem vL (n:Int)(d:Nat)(hd:d≠0):n.tdiv ((Nat.gcd n.natAbs d:Nat):Int)=(mkRat n d).num∧(d:Int).tdiv ((Nat.gcd n.natAbs d:Nat):Int)=((mkRat n d).den:Int)∧0<Nat.gcd n.natAbs d∧Nat.gcd n.natAbs d≤d∧((mkRat n d).den=1→d=Nat.gcd n.natAbs d)∧((mkRat n d).den≠1→d≠Nat.gcd n.natAbs d):=by
 obtain⟨e1,e2⟩:=mD n d hd;have hg:0<Nat.gcd n.natAbs d:=Nat.gcd_pos_of_pos_right _ (Nat.pos_of_ne_zero hd);have hdv:Nat.gcd n.natAbs d∣d:=Nat.gcd_dvd_right _ _;have hnv:((Nat.gcd n.natAbs d:Nat):Int)∣n:=Int.dvd_natAbs.1 (Int.natCast_dvd_natCast.2 (Nat.gcd_dvd_left _ _));refine⟨?_,?_,hg,Nat.gcd_le_right _ (Nat.pos_of_ne_zero hd),?_,?_⟩
 · rw[e1];exact Int.tdiv_eq_ediv_of_dvd hnv
 · rw[e2,Int.natCast_ediv];exact Int.tdiv_eq_ediv_of_nonneg (by omega)
 · intro h
   rw[e2]at h;have h2:=Nat.div_mul_cancel hdv;rw[h,Nat.one_mul]at h2;exact h2.symm
 · intro h h2
   apply h
   rw[e2];exact Nat.div_eq_of_eq_mul_left hg (by omega)
theorem qZ (n:Int)(d:Nat)(hd:d≠0)(bn:n.natAbs≤4000000000000000000)(bd:d≤4000000000000000000):(mkRat n d).num.natAbs≤4000000000000000000∧(mkRat n d).den≤4000000000000000000∧(Sz (mkRat n d).num).size≤1000∧(Sz ((mkRat n d).den:Int)).size≤1000:=by
 obtain⟨e1,e2⟩:=z4l n d hd;have h1:Sm 20 (mkRat n d).num.natAbs:=by unfold Sm;omega
 have h2:Sm 20 ((mkRat n d).den:Int).natAbs:=by rw[Int.natAbs_natCast];unfold Sm;omega
 have h3:=jO h1 (by decide);have h4:=jO h2 (by decide);exact⟨by omega,by omega,by omega,by omega⟩
theorem vK (n:Int)(d:Nat)(hd:d≠0)(bn:n.natAbs≤4000000000000000000)(bd:d≤4000000000000000000)(w:World)(hl:La w) :
 CR 115 #[.agg #[.int .i64 n,.int .i64 (d:Int)]] w (.string (Sq (mkRat n d))):=by
 obtain⟨f1,f2,f3,f4,f5,f6⟩:=vL n d hd;obtain⟨b1,b2,b3,b4⟩:=qZ n d hd bn bd;have hg:=fun W=>rgcd n (d:Int) (by omega) (by rw[Int.natAbs_natCast];omega) W;rw[Int.natAbs_natCast]at hg;have k1:(mkRat n d).num≤9223372036854775807 ∧ -9223372036854775808≤(mkRat n d).num:=by omega
 by_cases h:(mkRat n d).den=1
 · have h2:=f5 h
   rw[j5 h];rw[← h2]at hg f1;exact nY n (d:Int) (mkRat n d).num _ ⟨#[]⟩ (by omega) (by omega) f1 b1 w hl b3 (by decide) hg (fun W hW=>rfmt _ k1.2 k1.1 W hW)
 · have h2:=f6 h
   rw[← ru _ h];exact mU n (d:Int) ((Nat.gcd n.natAbs d:Nat):Int) (mkRat n d).num ((mkRat n d).den:Int) _ _ (by omega) (by omega) (by omega) f1 b1 f2 (by rw[Int.natAbs_natCast];exact b2) (by rw[beq_eq_false_iff_ne];omega) w hl b3 b4 hg (fun W hW=>rfmt _ k1.2 k1.1 W hW) (fun W hW=>rfmt _ (by omega) (by omega) W hW)
theorem z4c (a b n:Int)(d:Nat)(hn : -a=n)(hb : -b=(d:Int))(hd:d≠0)(bn:n.natAbs≤4000000000000000000)(bd:d≤4000000000000000000)(w:World)(hl:La w) :
 CR 115 #[.agg #[.int .i64 a,.int .i64 b]] w (.string (Sq (mkRat n d))):=by
 obtain⟨f1,f2,f3,f4,f5,f6⟩:=vL n d hd;obtain⟨b1,b2,b3,b4⟩:=qZ n d hd bn bd;have hg:=fun W=>rgcd n (d:Int) (by omega) (by rw[Int.natAbs_natCast];omega) W;rw[Int.natAbs_natCast]at hg;have k1:(mkRat n d).num≤9223372036854775807 ∧ -9223372036854775808≤(mkRat n d).num:=by omega
 by_cases h:(mkRat n d).den=1
 · have h2:=f5 h
   rw[j5 h];rw[← h2]at hg f1;exact nZ a b (d:Int) (mkRat n d).num n _ ⟨#[]⟩ hn hb (by omega) (by omega) (by omega) (by omega) f1 b1 w hl b3 (by decide) hg (fun W hW=>rfmt _ k1.2 k1.1 W hW)
 · have h2:=f6 h
   rw[← ru _ h];exact mV a b ((Nat.gcd n.natAbs d:Nat):Int) (mkRat n d).num ((mkRat n d).den:Int) n (d:Int) _ _ hn hb (by omega) (by omega) (by omega) (by omega) (by omega) f1 b1 f2 (by rw[Int.natAbs_natCast];exact b2) (by rw[beq_eq_false_iff_ne];omega) w hl b3 b4 hg (fun W hW=>rfmt _ k1.2 k1.1 W hW) (fun W hW=>rfmt _ (by omega) (by omega) W hW)
def Sma (x y:Rat):Prop:=(Sz x.num).size≤9∧(Sz (x.den:Int)).size≤9∧(Sz y.num).size≤9∧(Sz (y.den:Int)).size≤9
theorem eu {z:Int}(h:(Sz z).size≤9):z.natAbs<1000000000:=by
 have h1:z.natAbs<10^9:=j6 h;omega
theorem eG (x y:Rat)(h:Sma x y)(w:World) :
 CR 114 #[Fv x,Fv y] w (.tuple #[.agg #[.int .i64 x.num,.int .i64 (x.den:Int)],.agg #[.int .i64 y.num,.int .i64 (y.den:Int)],.bool true]):=by
 unfold Fv
 exact pM _ _ _ _ _ _ _ _ h w (fun W=>oD _ (Nat.le_trans h.1 (by decide)) W) (fun W=>oD _ (Nat.le_trans h.2.1 (by decide)) W) (fun W=>oD _ (Nat.le_trans h.2.2.1 (by decide)) W) (fun W=>oD _ (Nat.le_trans h.2.2.2 (by decide)) W)
theorem eH (x y:Rat)(h:¬ Sma x y)(w:World) :
 CR 114 #[Fv x,Fv y] w (.tuple #[.agg #[.int .i64 0,.int .i64 0],.agg #[.int .i64 0,.int .i64 0],.bool false]):=by
 unfold Fv
 refine rz _ _ _ _ ?_ w;unfold Sma at h
 omega
theorem lK (a b:Int):cmpZ a b=if a<b then -1 else if b<a then 1 else 0:=by
 rcases Int.lt_trichotomy a b with h|h|h
 · rw[nM h,if_pos h]
 · subst h;rw[qH,if_neg (by omega),if_neg (by omega)]
 · rw[nN h,if_neg (by omega),if_pos h]
theorem lU (n:Int)(d:Nat)(hd:d≠0):(n*(d:Int)<0∧n<0)∨(n*(d:Int)=0∧n=0)∨(0<n*(d:Int)∧0<n):=by
 have hp:(0:Int)<(d:Int):=by omega
 rcases Int.lt_trichotomy n 0 with h|h|h
 · exact Or.inl ⟨Int.mul_neg_of_neg_of_pos h hp,h⟩
 · subst h;exact Or.inr (Or.inl ⟨by simp,rfl⟩)
 · exact Or.inr (Or.inr ⟨Int.mul_pos h hp,h⟩)
theorem z0E (x y:Rat)(h:x.num.sign≠y.num.sign):cmpZ x.num y.num=cmpQ x y:=by
 rw[iJ x y _ _ rfl rfl,lK];rcases lU x.num y.den y.den_nz with⟨h1,h2⟩|⟨h1,h2⟩|⟨h1,h2⟩<;>rcases lU y.num x.den x.den_nz with⟨h3,h4⟩|⟨h3,h4⟩|⟨h3,h4⟩
 · exact absurd (by rw[Int.sign_eq_neg_one_of_neg h2,Int.sign_eq_neg_one_of_neg h4]) h
 · rw[if_pos (by omega),if_pos (by omega)]
 · rw[if_pos (by omega),if_pos (by omega)]
 · rw[if_neg (by omega),if_pos (by omega),if_neg (by omega),if_pos (by omega)]
 · exact absurd (by rw[h2,h4]) h
 · rw[if_pos (by omega),if_pos (by omega)]
 · rw[if_neg (by omega),if_pos (by omega),if_neg (by omega),if_pos (by omega)]
 · rw[if_neg (by omega),if_pos (by omega),if_neg (by omega),if_pos (by omega)]
 · exact absurd (by rw[Int.sign_eq_one_of_pos h2,Int.sign_eq_one_of_pos h4]) h
theorem kK {x y:Rat}(hx:FitQ x)(hy:FitQ y):FitL (x.num*(y.den:Int)):=by
 unfold FitL
 rw[Int.natAbs_mul,Int.natAbs_natCast];exact(Sm.mul hx.1 hy.2).mono (by decide)
theorem z0u (x y:Rat)(c:Int)(hc:cmpQ x y=c)(hs:Sma x y)(w:World) :
 CR 105 #[Fv x,Fv y] w (.int .i64 c):=by
 subst hc;have h1:=fun W=>eG x y hs W;unfold Fv at h1 ⊢
 exact lG _ _ _ _ _ _ _ _ _ w h1 (fun W=>scmp _ _ _ _ _ (eu hs.1) (eu hs.2.1) (eu hs.2.2.1) (eu hs.2.2.2) (by rw[iJ x y _ _ rfl rfl,lK]) W)
theorem z2j (x y:Rat)(c:Int)(hc:cmpQ x y=c)(hx:FitQ x)(hy:FitQ y)(w:World)(hl:La w) :
 CR 105 #[Fv x,Fv y] w (.int .i64 c):=by
 by_cases hs:Sma x y
 · exact z0u x y c hc hs w
 subst hc;have h1:=fun W=>eH x y hs W;unfold Fv at h1 ⊢
 by_cases hsg:x.num.sign=y.num.sign
 · exact lH _ _ _ _ (Sz (x.num*(y.den:Int))) (Sz (y.num*(x.den:Int))) x.num.sign _ w hl h1 (fun W hW=>pQ _ _ rfl hx.numL W hW) (fun W hW=>pQ _ _ hsg.symm hy.numL W hW) (fun W hW=>mX _ _ _ rfl hx.numL hy.denL (kK hx hy) W hW) (fun W hW=>mX _ _ _ rfl hy.numL hx.denL (kK hy hx) W hW) (fun W hW=>z2W _ _ _ (by rw[iJ x y _ _ rfl rfl,lK]) (kK hx hy) (kK hy hx) W hW)
 · exact lZ _ _ _ _ x.num.sign y.num.sign _ hsg w hl h1 (fun W hW=>pQ _ _ rfl hx.numL W hW) (fun W hW=>pQ _ _ rfl hy.numL W hW) (fun W hW=>z2W _ _ _ (z0E x y hsg) hx.numL hy.numL W hW)
theorem qj (a n1 d1 n2 d2:ByteArray)(w:World)
 (h1:CR 104 #[.string a,.string a] w (.tuple #[.agg #[.string n1,.string d1],.agg #[.string n2,.string d2],.bool true])) :
 CR 93 #[.string a,.string a] w (.tuple #[.int .i64 0,.int .i64 0]):=by
 have C1:=hid h1;clear h1;go_enter func93,ntmps93
 go_wp2_with fail
 refine C1.out.mono ?_;rintro e w1 ⟨rfl,hb⟩;have HB:=hid ((hb.alloc hb.size (.cells #[.string n1,.string d1] 128)).alloc (by have:=hb.size;simp;omega) (.cells #[.string n2,.string d2] 128));clear hb;go_wp2;go_ret2
 exact⟨rfl,HB.out⟩
theorem ql (a b n1 d1 n2 d2:ByteArray)(c:Int)(hab:(a.toList==b.toList)=false)(w:World)(hl:La w)
 (h1:CR 104 #[.string a,.string b] w (.tuple #[.agg #[.string n1,.string d1],.agg #[.string n2,.string d2],.bool true]))
 (h2:CL 105 #[.agg #[.string n1,.string d1],.agg #[.string n2,.string d2]] (.int .i64 c)) :
 CR 93 #[.string a,.string b] w (.tuple #[.int .i64 c,.int .i64 0]):=by
 obtain ⟨C1,C2,HL⟩:=ah h1 h2 hl;clear h1 h2 hl;go_enter func93,ntmps93
 go_wp2_with fail
 refine C1.out.mono ?_;rintro e w1 ⟨rfl,hb⟩;have HB:=hid ((hb.alloc hb.size (.cells #[.string n1,.string d1] 128)).alloc (by have:=hb.size;simp;omega) (.cells #[.string n2,.string d2] 128));clear hb;go_wp2_with fail
 refine(C2.out _ (HL.out.on HB.out)).mono ?_;rintro e w2 ⟨rfl,hb⟩;have HB2:=hbt HB hb;clear hb;go_wp2;go_ret2
 exact⟨rfl,HB2.out⟩
theorem z1G (x y:Rat)(c:Int)(hc:cmpQ x y=c)(hx:FitQ x)(hy:FitQ y)(w:World)(hl:La w) :
 CR 93 #[.string (Sq x),.string (Sq y)] w (.tuple #[.int .i64 c,.int .i64 0]):=by
 by_cases h:x=y
 · subst h
   rw[z0I]at hc;subst hc;have h1:=dV x x hx hx w hl;unfold Fv at h1
   exact qj _ _ _ _ _ w h1
 · have h1:=dV x y hx hy w hl
   have h2:=fun W hW=>z2j x y c hc hx hy W hW;unfold Fv at h1 h2
   exact ql _ _ _ _ _ _ _ (yU h) w hl h1 h2
theorem wm (a b d:ByteArray)(n:Int)(w:World)
 (h1:CR 95 #[.string a,.int .u8 43,.string b] w (.tuple #[.string d,.int .i64 n])) :
 CR 85 #[.string a,.string b] w (.tuple #[.string d,.int .i64 n]):=by
 have C1:=hid h1;clear h1;go_enter func85,ntmps85
 go_wp2_with fail
 refine C1.out.mono ?_;rintro e w1 ⟨rfl,hb⟩;go_wp2;go_ret2
 exact⟨rfl,hb⟩
theorem vX (a b d:ByteArray)(n:Int)(w:World)
 (h1:CR 95 #[.string a,.int .u8 45,.string b] w (.tuple #[.string d,.int .i64 n])) :
 CR 84 #[.string a,.string b] w (.tuple #[.string d,.int .i64 n]):=by
 have C1:=hid h1;clear h1;go_enter func84,ntmps84
 go_wp2_with fail
 refine C1.out.mono ?_;rintro e w1 ⟨rfl,hb⟩;go_wp2;go_ret2
 exact⟨rfl,hb⟩
theorem vY (a b d:ByteArray)(n:Int)(w:World)
 (h1:CR 95 #[.string a,.int .u8 42,.string b] w (.tuple #[.string d,.int .i64 n])) :
 CR 78 #[.string a,.string b] w (.tuple #[.string d,.int .i64 n]):=by
 have C1:=hid h1;clear h1;go_enter func78,ntmps78
 go_wp2_with fail
 refine C1.out.mono ?_;rintro e w1 ⟨rfl,hb⟩;go_wp2;go_ret2
 exact⟨rfl,hb⟩
theorem vZ (a b d:ByteArray)(n:Int)(hb0:(b.toList==[48])=false)(w:World)
 (h1:CR 95 #[.string a,.int .u8 47,.string b] w (.tuple #[.string d,.int .i64 n])) :
 CR 94 #[.string a,.string b] w (.tuple #[.string d,.int .i64 n]):=by
 have C1:=hid h1;clear h1;go_enter func94,ntmps94
 go_wp2_with fail
 refine C1.out.mono ?_;rintro e w1 ⟨rfl,hb⟩;go_wp2;go_ret2
 exact⟨rfl,hb⟩
theorem z4Y (x y z:Rat)(hz:x+y=z)(hx:FitQ x)(hy:FitQ y)(hs:Sma x y)(w:World)(hl:La w) :
 CR 85 #[.string (Sq x),.string (Sq y)] w (.tuple #[.string (Sq z),.int .i64 0]):=by
 subst hz;refine wm _ _ _ _ w ?_;have h1:=fun W hW=>dV x y hx hy W hW;have h2:=fun W=>eG x y hs W;have a1:=eu hs.1;have a2:=eu hs.2.1;have a3:=eu hs.2.2.1;have a4:=eu hs.2.2.2;unfold Fv at h1 h2
 have h4:=fun W hW=>vK (x.num*(y.den:Int)+y.num*(x.den:Int)) (x.den*y.den) (iH x y) ?b1 ?b2 W hW;rw[← jw x y,Int.natCast_mul]at h4;exact kE _ _ _ _ _ _ _ _ _ _ _ _ _ w hl h1 h2 (fun W=>sadd _ _ _ _ a1 a2 a3 a4 W) h4
 · have h5:=bN a1 a4;have h6:=bN a3 a2;omega
 · have:=bN a2 a4;rw[← Int.natCast_mul,Int.natAbs_natCast]at this;omega
theorem qAdd (x y z:Rat)(hz:x+y=z)(hx:FitQ x)(hy:FitQ y)(w:World)(hl:La w) :
 CR 85 #[.string (Sq x),.string (Sq y)] w (.tuple #[.string (Sq z),.int .i64 0]):=by
 by_cases hs:Sma x y
 · exact z4Y x y z hz hx hy hs w hl
 subst hz;refine wm _ _ _ _ w ?_;have h1:=fun W hW=>dV x y hx hy W hW;have h2:=fun W=>eH x y hs W;have h3:=fun W hW=>fadd x y hx hy W hW;have hsz:SmQ 1900 (x+y):=(SmQ.add (show SmQ 900 x from hx) (show SmQ 900 y from hy)).mono (by decide);have h4:=fun W=>wL (x+y) hsz.1 (FitL.nat hsz.2) W;unfold Fv at h1 h2 h3
 exact lX _ _ _ _ _ _ _ _ _ w hl h1 h2 h3 h4
theorem z4U (x y z:Rat)(hz:x-y=z)(hx:FitQ x)(hy:FitQ y)(hs:Sma x y)(w:World)(hl:La w) :
 CR 84 #[.string (Sq x),.string (Sq y)] w (.tuple #[.string (Sq z),.int .i64 0]):=by
 subst hz;refine vX _ _ _ _ w ?_;have h1:=fun W hW=>dV x y hx hy W hW;have h2:=fun W=>eG x y hs W;have a1:=eu hs.1;have a2:=eu hs.2.1;have a3:=eu hs.2.2.1;have a4:=eu hs.2.2.2;unfold Fv at h1 h2
 have h4:=fun W hW=>vK (x.num*(y.den:Int)-y.num*(x.den:Int)) (x.den*y.den) (iH x y) ?b1 ?b2 W hW;rw[← yR x y,Int.natCast_mul]at h4;exact jS _ _ _ _ _ _ _ _ _ _ _ _ _ w hl h1 h2 (fun W=>ssub _ _ _ _ a1 a2 a3 a4 W) h4
 · have h5:=bN a1 a4;have h6:=bN a3 a2;omega
 · have:=bN a2 a4;rw[← Int.natCast_mul,Int.natAbs_natCast]at this;omega
theorem qSub (x y z:Rat)(hz:x-y=z)(hx:FitQ x)(hy:FitQ y)(w:World)(hl:La w) :
 CR 84 #[.string (Sq x),.string (Sq y)] w (.tuple #[.string (Sq z),.int .i64 0]):=by
 by_cases hs:Sma x y
 · exact z4U x y z hz hx hy hs w hl
 subst hz;refine vX _ _ _ _ w ?_;have h1:=fun W hW=>dV x y hx hy W hW;have h2:=fun W=>eH x y hs W;have h3:=fun W hW=>fsub x y hx hy W hW;have hsz:SmQ 1900 (x-y):=(SmQ.sub (show SmQ 900 x from hx) (show SmQ 900 y from hy)).mono (by decide);have h4:=fun W=>wL (x-y) hsz.1 (FitL.nat hsz.2) W;unfold Fv at h1 h2 h3
 exact lu _ _ _ _ _ _ _ _ _ w hl h1 h2 h3 h4
theorem z4V (x y z:Rat)(hz:x*y=z)(hx:FitQ x)(hy:FitQ y)(hs:Sma x y)(w:World)(hl:La w) :
 CR 78 #[.string (Sq x),.string (Sq y)] w (.tuple #[.string (Sq z),.int .i64 0]):=by
 subst hz;refine vY _ _ _ _ w ?_;have h1:=fun W hW=>dV x y hx hy W hW;have h2:=fun W=>eG x y hs W;have a1:=eu hs.1;have a2:=eu hs.2.1;have a3:=eu hs.2.2.1;have a4:=eu hs.2.2.2;unfold Fv at h1 h2
 have h4:=fun W hW=>vK (x.num*y.num) (x.den*y.den) (iH x y) ?b1 ?b2 W hW;rw[← jf x y,Int.natCast_mul]at h4;exact lq _ _ _ _ _ _ _ _ _ _ _ _ _ w hl h1 h2 (fun W=>smul _ _ _ _ a1 a2 a3 a4 W) h4
 · have h5:=bN a1 a3;omega
 · have:=bN a2 a4;rw[← Int.natCast_mul,Int.natAbs_natCast]at this;omega
theorem qMul (x y z:Rat)(hz:x*y=z)(hx:FitQ x)(hy:FitQ y)(w:World)(hl:La w) :
 CR 78 #[.string (Sq x),.string (Sq y)] w (.tuple #[.string (Sq z),.int .i64 0]):=by
 by_cases hs:Sma x y
 · exact z4V x y z hz hx hy hs w hl
 subst hz;refine vY _ _ _ _ w ?_;have h1:=fun W hW=>dV x y hx hy W hW;have h2:=fun W=>eH x y hs W;have h3:=fun W hW=>fmul x y hx hy W hW;have hsz:SmQ 1900 (x*y):=(SmQ.mul (show SmQ 900 x from hx) (show SmQ 900 y from hy)).mono (by decide);have h4:=fun W=>wL (x*y) hsz.1 (FitL.nat hsz.2) W;unfold Fv at h1 h2 h3
 exact ni _ _ _ _ _ _ _ _ _ w hl h1 h2 h3 h4
theorem z4X (x y z:Rat)(hz:x / y=z)(hx:FitQ x)(hy:FitQ y)(h0:y≠0)(hs:Sma x y)(w:World)(hl:La w) :
 CR 94 #[.string (Sq x),.string (Sq y)] w (.tuple #[.string (Sq z),.int .i64 0]):=by
 subst hz;refine vZ _ _ _ _ (by have h:=yU h0;rwa [show Sq 0=⟨#[48]⟩by decide +kernel,toList_data ⟨#[48]⟩]at h) w ?_;have h1:=fun W hW=>dV x y hx hy W hW;have h2:=fun W=>eG x y hs W;have a1:=eu hs.1;have a2:=eu hs.2.1;have a3:=eu hs.2.2.1;have a4:=eu hs.2.2.2;unfold Fv at h1 h2
 have hn:y.num≠0:=fun h=>h0 (Rat.num_eq_zero.1 h);have h5:=bN a1 a4;have h6:=bN a2 a3;rcases Int.lt_or_gt_of_ne hn with h|h
 · obtain⟨m,hm⟩:∃ m:Nat,-y.num=(m:Int):=⟨y.num.natAbs,by omega⟩
   have hm0:x.den*m≠0:=Nat.mul_ne_zero x.den_nz (by omega);have e : -((x.den:Int)*y.num)=((x.den*m:Nat):Int):=by rw[Int.natCast_mul,← hm,Int.mul_neg]
   have h4:=fun W hW=>z4c (x.num*(y.den:Int)) ((x.den:Int)*y.num) (-(x.num*(y.den:Int))) (x.den*m) rfl e hm0 ?b1 ?b2 W hW;have e2:mkRat (-(x.num*(y.den:Int))) (x.den*m)=x / y:=by rw[qE x y h,show(-y.num).toNat=m by omega]
   rw[e2]at h4;exact iD _ _ _ _ _ _ _ _ _ _ _ _ _ w hl h1 h2 (fun W=>sdiv _ _ _ _ a1 a2 a3 a4 W) h4
   · omega
   · omega
 · obtain⟨m,hm⟩:∃ m:Nat,y.num=(m:Int):=⟨y.num.natAbs,by omega⟩
   have hm0:x.den*m≠0:=Nat.mul_ne_zero x.den_nz (by omega);have e:(x.den:Int)*y.num=((x.den*m:Nat):Int):=by rw[Int.natCast_mul,← hm]
   have h4:=fun W hW=>vK (x.num*(y.den:Int)) (x.den*m) hm0 ?b3 ?b4 W hW;have e2:mkRat (x.num*(y.den:Int)) (x.den*m)=x / y:=by rw[qD x y h,show y.num.toNat=m by omega]
   rw[e2,← e]at h4;exact iD _ _ _ _ _ _ _ _ _ _ _ _ _ w hl h1 h2 (fun W=>sdiv _ _ _ _ a1 a2 a3 a4 W) h4
   · omega
   · omega
theorem qDiv (x y z:Rat)(hz:x / y=z)(hx:FitQ x)(hy:FitQ y)(h0:y≠0)(w:World)(hl:La w) :
 CR 94 #[.string (Sq x),.string (Sq y)] w (.tuple #[.string (Sq z),.int .i64 0]):=by
 by_cases hs:Sma x y
 · exact z4X x y z hz hx hy h0 hs w hl
 subst hz;refine vZ _ _ _ _ (by have h:=yU h0;rwa [show Sq 0=⟨#[48]⟩by decide +kernel,toList_data ⟨#[48]⟩]at h) w ?_;have h1:=fun W hW=>dV x y hx hy W hW;have h2:=fun W=>eH x y hs W;have h3:=fun W hW=>fdiv x y hx hy h0 W hW;have hsz:SmQ 1900 (x / y):=(SmQ.div (show SmQ 900 x from hx) (show SmQ 900 y from hy) h0).mono (by decide);have h4:=fun W=>wL (x / y) hsz.1 (FitL.nat hsz.2) W;unfold Fv at h1 h2 h3
 exact nk _ _ _ _ _ _ _ _ _ w hl h1 h2 h3 h4
theorem ut {x y z:Rat}(h:x+y=z)(hx:FitQ x)(hy:FitQ y)(w:World)(hla:La w):CV w 64 #[.string (Sq x),.string (Sq y)] (.string (Sq z)) :=
 z03 _ _ _ 0 w (fun W hW=>qAdd x y z h hx hy W (hla.on hW))
theorem wI {x y z:Rat}(h:x-y=z)(hx:FitQ x)(hy:FitQ y)(w:World)(hla:La w):CV w 62 #[.string (Sq x),.string (Sq y)] (.string (Sq z)) :=
 xR _ _ _ 0 w (fun W hW=>qSub x y z h hx hy W (hla.on hW))
theorem fG {x y z:Rat}(h:x*y=z)(hx:FitQ x)(hy:FitQ y)(w:World)(hla:La w):CV w 58 #[.string (Sq x),.string (Sq y)] (.string (Sq z)) :=
 xO _ _ _ 0 w (fun W hW=>qMul x y z h hx hy W (hla.on hW))
theorem z05 {x y z:Rat}(h:x / y=z)(hx:FitQ x)(hy:FitQ y)(h0:y≠0)(w:World)(hla:La w):CV w 76 #[.string (Sq x),.string (Sq y)] (.string (Sq z)) :=
 z04 _ _ _ 0 w (fun W hW=>qDiv x y z h hx hy h0 W (hla.on hW))
theorem qz {x y:Rat}{c:Int}(h:cmpQ x y=c)(hx:FitQ x)(hy:FitQ y)(w:World)(hla:La w):CV w 75 #[.string (Sq x),.string (Sq y)] (.int .i64 c) :=
 xQ _ _ _ 0 w (fun W hW=>z1G x y c h hx hy W (hla.on hW))
theorem hs1:SmQ 1 (1:Rat):=⟨by unfold Sm;decide,by unfold Sm;decide⟩
theorem hs0:SmQ 1 (0:Rat):=⟨by unfold Sm;decide,by unfold Sm;decide⟩
theorem hs2:SmQ 1 (2:Rat):=⟨by unfold Sm;decide,by unfold Sm;decide⟩
theorem hsn:SmQ 1 (-1:Rat):=⟨by unfold Sm;decide,by unfold Sm;decide⟩
theorem hsh:SmQ 1 ((1:Rat) / 2):=⟨by unfold Sm;decide +kernel,by unfold Sm;decide +kernel⟩
theorem hsnh:SmQ 1 (-(1:Rat) / 2):=⟨by unfold Sm;decide +kernel,by unfold Sm;decide +kernel⟩
theorem hq1:Sq (1:Rat)=⟨#[49]⟩:=by decide +kernel
theorem hq0:Sq (0:Rat)=⟨#[48]⟩:=by decide +kernel
theorem hq2:Sq (2:Rat)=⟨#[50]⟩:=by decide +kernel
theorem hqn:Sq (-1:Rat)=⟨#[45,49]⟩:=by decide +kernel
theorem hqh:Sq ((1:Rat) / 2)=⟨#[49,47,50]⟩:=by decide +kernel
theorem hqnh:Sq (-(1:Rat) / 2)=⟨#[45,49,47,50]⟩:=by decide +kernel
theorem sD {a:ByteArray}(ha:a.size≤900)(w:World)(hla:La w):CV w 74 #[.string a] (.bool (vldQ a.data.toList)):=by
 cases h:vldQ a.data.toList with
 | false=>exact fun W hW=>zA a h ha W (hla.on hW)
 | true =>
   have e:=z3l h;obtain⟨q,hq⟩:∃ q,q=qval a.data.toList:=⟨_,rfl⟩;rw[← hq]at e;subst e;exact fun W hW=>ll q (zf ha (by decide)) W (hla.on hW)
theorem z06 {x:Rat}(hx:FitQ x)(w:World)(hla:La w):CV w 34 #[.string (Sq x)] (.string (Sq (0-x))):=by
 have k:=wI (x:=0) (y:=x) rfl (hs0.fit (by decide)) hx w hla;rw[hq0]at k;exact z1T _ _ w k
theorem hform {k:Nat}(hk:0<k)(x:ByteArray)(h:x.size≤k):vldQ x.data.toList=false∨∃ q,x=Sq q∧SmQ k q:=by
 cases hv:vldQ x.data.toList with
 | false=>exact Or.inl rfl
 | true =>
   have hq:=z3l hv;refine Or.inr ⟨_,hq,zf ?_ hk⟩;rwa [← hq]
theorem z5b (x:Rat):x*((x.den:Nat):Rat)=((x.num:Int):Rat):=by
 have h:=Rat.num_divInt_den x;rw[Rat.divInt_eq_div,Rat.intCast_natCast]at h;have hd:((x.den:Nat):Rat)≠0:=fun h=>x.den_nz (Rat.natCast_eq_zero_iff.1 h);have e:((x.num:Int):Rat) / ((x.den:Nat):Rat)*((x.den:Nat):Rat)=((x.num:Int):Rat):=Rat.div_mul_cancel hd;rwa [h]at e
theorem z5g (t:Rat):cosQ t=mkRat (((t.den*t.den:Nat):Int)-((t.num.natAbs*t.num.natAbs:Nat):Int)) (t.den*t.den+t.num.natAbs*t.num.natAbs)∧sinQ t=mkRat (2*(t.num*(t.den:Int))) (t.den*t.den+t.num.natAbs*t.num.natAbs):=by
 have hx:=z5b t;have hd:((t.den:Nat):Rat)≠0:=fun h=>t.den_nz (Rat.natCast_eq_zero_iff.1 h);have hn:((t.num.natAbs*t.num.natAbs:Nat):Int)=t.num*t.num:=Int.natAbs_mul_self;have hp:=qX t
 have hD:((t.den*t.den+t.num.natAbs*t.num.natAbs:Nat):Rat)=((t.den:Nat):Rat)*((t.den:Nat):Rat)+((t.num:Int):Rat)*((t.num:Int):Rat):=by
  rw[← Rat.intCast_natCast,Int.natCast_add,hn,Int.natCast_mul,Rat.intCast_add,Rat.intCast_mul,Rat.intCast_mul,Rat.intCast_natCast]
 constructor
 · rw[Rat.mkRat_eq_div,hD,hn,Int.natCast_mul,Rat.intCast_sub,Rat.intCast_mul,Rat.intCast_mul,Rat.intCast_natCast,← hx]
   unfold cosQ
   generalize ((t.den:Nat):Rat)=d at *
   have h2:d*d+t*d*(t*d)≠0:=by
    rw[show d*d+t*d*(t*d)=d*(d*(1+t*t)) by grind];intro h;rcases Rat.mul_eq_zero.1 h with h|h
    · exact hd h
    · rcases Rat.mul_eq_zero.1 h with h|h
      · exact hd h
      · exact hp h
   grind
 · rw[Rat.mkRat_eq_div,hD,Rat.intCast_mul,Rat.intCast_mul,Rat.intCast_natCast,← hx]
   unfold sinQ
   rw[show((2:Int):Rat)=2 from rfl];generalize ((t.den:Nat):Rat)=d at *
   have h2:d*d+t*d*(t*d)≠0:=by
    rw[show d*d+t*d*(t*d)=d*(d*(1+t*t)) by grind];intro h;rcases Rat.mul_eq_zero.1 h with h|h
    · exact hd h
    · rcases Rat.mul_eq_zero.1 h with h|h
      · exact hd h
      · exact hp h
   grind
theorem rA {t:Rat}{k:Nat}(ht:SmQ k t):SmQ (k+k+1) (cosQ t)∧SmQ (k+k+1) (sinQ t):=by
 obtain⟨e1,e2⟩:=z5g t;have a:=ht.2.mul ht.2;have b:=ht.1.mul ht.1;have c:=Sm.add a b;have d:=Sm.add (ht.1.mul ht.2) (ht.1.mul ht.2)
 have h0:t.den*t.den+t.num.natAbs*t.num.natAbs≠0:=by
  have:=Nat.mul_ne_zero t.den_nz t.den_nz;omega
 rw[e1,e2];refine⟨vN h0 (Sm.le c ?_) c,vN h0 (Sm.le d ?_) c⟩
 · generalize t.den*t.den=x
   generalize t.num.natAbs*t.num.natAbs=y;omega
 · rw[Int.natAbs_mul,Int.natAbs_mul,Int.natAbs_natCast]
   generalize t.num.natAbs*t.den=x;show 2*x≤x+x
   omega
theorem sG {t:Rat}{k:Nat}(ht:SmQ k t)(hk:k≤200)(w:World)(hla:La w):CV w 57 #[.string (Sq t)] (.tuple #[.string (Sq (cosQ t)),.string (Sq (sinQ t))]):=by
 have q:=ht.mul ht;have a:=hs1.sub q;have b:=hs1.add q;have d:=hs2.mul ht;have h2:=ut (x:=1) (y:=t*t) rfl (hs1.fit (by decide)) (q.fit (by omega)) w hla;have h3:=wI (x:=1) (y:=t*t) rfl (hs1.fit (by decide)) (q.fit (by omega)) w hla;have h5:=fG (x:=2) (y:=t) rfl (hs2.fit (by decide)) (ht.fit (by omega)) w hla;rw[hq1]at h2 h3;rw[hq2]at h5;exact uu _ _ _ _ _ _ _ w (fG rfl (ht.fit (by omega)) (ht.fit (by omega)) w hla) h2 h3 (z05 rfl (a.fit (by omega)) (b.fit (by omega)) (qX t) w hla) h5 (z05 rfl (d.fit (by omega)) (b.fit (by omega)) (qX t) w hla)
theorem qA {p q:Rat}(hp:SmQ 40 p)(hq:SmQ 40 q)(w:World)(hla:La w):CV w 30 #[.agg #[.string (Sq (p)),.string (Sq (q))]] (.agg #[.string (Sq (cosQ q)),.string (Sq (0-sinQ p*sinQ q)),.string (Sq (cosQ p*sinQ q)),.string (Sq (0:Rat)),.string (Sq (cosQ p)),.string (Sq (sinQ p)),.string (Sq (0-sinQ q)),.string (Sq (0-sinQ p*cosQ q)),.string (Sq (cosQ p*cosQ q))]):=by
 have a:=rA hp;have b:=rA hq;have k:=xS _ _ _ _ _ _ _ _ _ _ _ _ _ w (sG hp (by decide) w hla) (sG hq (by decide) w hla) (fG rfl (a.2.fit (by decide)) (b.2.fit (by decide)) w hla) (z06 ((a.2.mul b.2).fit (by decide)) w hla) (fG rfl (a.1.fit (by decide)) (b.2.fit (by decide)) w hla) (z06 (b.2.fit (by decide)) w hla) (fG rfl (a.2.fit (by decide)) (b.1.fit (by decide)) w hla) (z06 ((a.2.mul b.1).fit (by decide)) w hla) (fG rfl (a.1.fit (by decide)) (b.1.fit (by decide)) w hla);rw[← hq0]at k;exact k
theorem jP {k:Nat}{x:Rat}(h:SmQ k x):SmQ k (0-x):=by
 rw[show 0-x = -x by grind];exact h.neg
theorem mW {p q:Rat}(hp:SmQ 40 p)(hq:SmQ 40 q):SmQ 162 (cosQ q)∧SmQ 162 (0-sinQ p*sinQ q)∧SmQ 162 (cosQ p*sinQ q)∧SmQ 162 (0:Rat)∧SmQ 162 (cosQ p)∧SmQ 162 (sinQ p)∧SmQ 162 (0-sinQ q)∧SmQ 162 (0-sinQ p*cosQ q)∧SmQ 162 (cosQ p*cosQ q):=by
 obtain⟨a,b⟩:=rA hp;obtain⟨c,d⟩:=rA hq;exact⟨c.mono (by decide),jP (b.mul d),a.mul d,hs0.mono (by decide),a.mono (by decide),b.mono (by decide),(jP d).mono (by decide),jP (b.mul c),a.mul c⟩
theorem z0f {a1 a2 a3 x y z:Rat}{k l:Nat}(pa:SmQ k a1)(pb:SmQ k a2)(pc:SmQ k a3)(px:SmQ l x)(py:SmQ l y)(pz:SmQ l z)(hkl:k+l≤900)(hf:FitQ (a1*x+a2*y))(w:World)(hla:La w)(g:Nat)(W:World)(hW:Below w.heap.size w W)(hk:SBk W g #[.string (Sq x),.string (Sq y),.string (Sq z)] 65) :
 CV W 63 #[.agg #[.string (Sq (a1)),.string (Sq (a2)),.string (Sq (a3))],.pointer (some ⟨g,0,none⟩)] (.string (Sq (dotR a1 a2 a3 x y z))) :=
 have hL:=hla.on hW;xP g _ _ _ _ _ _ _ _ _ _ _ W (fG rfl (pa.fit (by omega)) (px.fit (by omega)) W hL) (fG rfl (pb.fit (by omega)) (py.fit (by omega)) W hL) (ut rfl ((pa.mul px).fit hkl) ((pb.mul py).fit hkl) W hL) (fG rfl (pc.fit (by omega)) (pz.fit (by omega)) W hL) (ut rfl hf ((pc.mul pz).fit hkl) W hL) hk
theorem z0F (x y:Rat):cmpQ x y≤0↔x≤y:=by
 rcases oP x y with⟨h,e⟩|⟨h,e⟩|⟨h,e⟩<;>rw[e]<;>constructor<;>intro h2<;>first|omega|grind
theorem z0e {l x u:Rat}{b:Bool}(hb:decide (l≤x∧x≤u)=b)(hl:FitQ l)(hx:FitQ x)(hu:FitQ u)(w:World)(hla:La w):CV w 56 #[.string (Sq l),.string (Sq x),.string (Sq u)] (.bool b):=by
 by_cases h:l≤x
 · refine z0d _ _ _ _ _ b w (qz rfl hl hx w hla) (qz rfl hx hu w hla) (decide_eq_true ((z0F _ _).2 h)) ?_
   rw[← hb];exact decide_eq_decide.2 ⟨fun h2=>⟨h,(z0F _ _).1 h2⟩,fun h2=>(z0F _ _).2 h2.2⟩
 · obtain rfl:b=false:=by rw[← hb];exact decide_eq_false (fun h2=>h h2.1)
   exact z1X _ _ _ w (qz (z0H (by grind)) hl hx w hla)
def InA (p q:Rat):Prop:=(-1≤p∧p≤1)∧(-(1:Rat) / 2≤q∧q≤1 / 2)
instance (p q:Rat):Decidable (InA p q):=inferInstanceAs (Decidable (_∧_))
theorem hfh {p:Rat}{b:Bool}(hb:decide (-1≤p∧p≤1)=b)(hp:FitQ p)(w:World)(hla:La w):CV w 56 #[.string ⟨#[45,49]⟩,.string (Sq p),.string ⟨#[49]⟩] (.bool b):=by
 have k:=z0e hb (hsn.fit (by decide)) hp (hs1.fit (by decide)) w hla;rwa [hqn,hq1]at k
theorem hft {p:Rat}{b:Bool}(hb:decide (-(1:Rat) / 2≤p∧p≤1 / 2)=b)(hp:FitQ p)(w:World)(hla:La w):CV w 56 #[.string ⟨#[45,49,47,50]⟩,.string (Sq p),.string ⟨#[49,47,50]⟩] (.bool b):=by
 have k:=z0e hb (hsnh.fit (by decide)) hp (hsh.fit (by decide)) w hla;rwa [hqnh,hqh]at k
theorem z02 {a1 a2 a3 b1 b2 b3 c1 c2 c3 x y z:Rat}{k l:Nat}(pa1:SmQ k a1)(pa2:SmQ k a2)(pa3:SmQ k a3)(pb1:SmQ k b1)(pb2:SmQ k b2)(pb3:SmQ k b3)(pc1:SmQ k c1)(pc2:SmQ k c2)(pc3:SmQ k c3)(px:SmQ l x)(py:SmQ l y)(pz:SmQ l z)(hkl:k+l≤900)(f0:FitQ (a1*x+a2*y))(f1:FitQ (b1*x+b2*y))(f2:FitQ (c1*x+c2*y))(w:World)(hla:La w) :
 CV w 36 #[.agg #[.string (Sq (a1)),.string (Sq (a2)),.string (Sq (a3)),.string (Sq (b1)),.string (Sq (b2)),.string (Sq (b3)),.string (Sq (c1)),.string (Sq (c2)),.string (Sq (c3))],.agg #[.string (Sq (x)),.string (Sq (y)),.string (Sq (z))]] (.agg #[.string (Sq (dotR a1 a2 a3 x y z)),.string (Sq (dotR b1 b2 b3 x y z)),.string (Sq (dotR c1 c2 c3 x y z))]) :=
 z01 _ _ _ _ _ _ _ _ _ _ _ _ _ _ _ w (z0f pa1 pa2 pa3 px py pz hkl f0 w hla) (z0f pb1 pb2 pb3 px py pz hkl f1 w hla) (z0f pc1 pc2 pc3 px py pz hkl f2 w hla)
theorem z5d {p q:Rat}(hp:SmQ 40 p)(hq:SmQ 40 q)(w:World)(hla:La w)(hc:CV w 29 #[.agg #[.string (Sq (p)),.string (Sq (q))],.slice none 0 0] (.int .i64 0)):CV w 11 #[.agg #[.string (Sq (p)),.string (Sq (q))]] (.tuple #[.agg #[.string (Sq (cosQ q)),.string (Sq (0-sinQ p*sinQ q)),.string (Sq (cosQ p*sinQ q)),.string (Sq (0:Rat)),.string (Sq (cosQ p)),.string (Sq (sinQ p)),.string (Sq (0-sinQ q)),.string (Sq (0-sinQ p*cosQ q)),.string (Sq (cosQ p*cosQ q))],.int .i64 0]) :=
 z3D _ _ _ _ _ _ _ _ _ _ _ w hc (qA hp hq w hla)
theorem z0i {p q x y z:Rat}(hp:SmQ 40 p)(hq:SmQ 40 q){l:Nat}(px:SmQ l x)(py:SmQ l y)(pz:SmQ l z)(hl:l≤700)(f0:FitQ ((cosQ q)*x+(0-sinQ p*sinQ q)*y))(f1:FitQ ((0:Rat)*x+(cosQ p)*y))(f2:FitQ ((0-sinQ q)*x+(0-sinQ p*cosQ q)*y))(w:World)(hla:La w)(hc:Ch3 w (Sq p) (Sq q) (Sq x) (Sq y) (Sq z) 0):CV w 20 #[.agg #[.string (Sq (p)),.string (Sq (q))],.agg #[.string (Sq (x)),.string (Sq (y)),.string (Sq (z))]] (.tuple #[.agg #[.string (Sq (dotR (cosQ q) (0-sinQ p*sinQ q) (cosQ p*sinQ q) x y z)),.string (Sq (dotR 0 (cosQ p) (sinQ p) x y z)),.string (Sq (dotR (0-sinQ q) (0-sinQ p*cosQ q) (cosQ p*cosQ q) x y z))],.int .i64 0]):=by
 obtain⟨s1,s2,s3,s4,s5,s6,s7,s8,s9⟩:=mW hp hq;exact z0h _ _ _ _ _ _ _ _ _ _ _ _ _ _ _ _ _ w (qA hp hq w hla) (z02 s1 s2 s3 s4 s5 s6 s7 s8 s9 px py pz (by omega) f0 f1 f2 w hla) hc
theorem z3F {p q x y z:Rat}(hp:SmQ 40 p)(hq:SmQ 40 q){l:Nat}(px:SmQ l x)(py:SmQ l y)(pz:SmQ l z)(hl:l≤700)(f0:FitQ ((cosQ q)*x+(0)*y))(f1:FitQ ((0-sinQ p*sinQ q)*x+(cosQ p)*y))(f2:FitQ ((cosQ p*sinQ q)*x+(sinQ p)*y))(w:World)(hla:La w)(hc:Ch3 w (Sq p) (Sq q) (Sq x) (Sq y) (Sq z) 0):CV w 22 #[.agg #[.string (Sq (p)),.string (Sq (q))],.agg #[.string (Sq (x)),.string (Sq (y)),.string (Sq (z))]] (.tuple #[.agg #[.string (Sq (dotR (cosQ q) 0 (0-sinQ q) x y z)),.string (Sq (dotR (0-sinQ p*sinQ q) (cosQ p) (0-sinQ p*cosQ q) x y z)),.string (Sq (dotR (cosQ p*sinQ q) (sinQ p) (cosQ p*cosQ q) x y z))],.int .i64 0]):=by
 obtain⟨s1,s2,s3,s4,s5,s6,s7,s8,s9⟩:=mW hp hq;exact z0j _ _ _ _ _ _ _ _ _ _ _ _ _ _ _ _ _ w (qA hp hq w hla) (z02 s1 s4 s7 s2 s5 s8 s3 s6 s9 px py pz (by omega) f0 f1 f2 w hla) hc
theorem z2y {p q x y z:Rat}(hp:SmQ 40 p)(hq:SmQ 40 q)(hx:FitQ x)(hy:FitQ y)(hz:FitQ z)(hr:InA p q)(w:World)(hla:La w):Ch3 w (Sq p) (Sq q) (Sq x) (Sq y) (Sq z) 0:=by
 have hv:∀ {x:Rat},FitQ x→CV w 74 #[.string (Sq x)] (.bool true):=fun hx W hW=>ll _ hx W (hla.on hW);have n2:=uR (hv (hp.fit (by decide))) (hv (hq.fit (by decide)));have n3:=z0N (hv hx) (hv hy) (hv hz);have f1:=hfh (decide_eq_true hr.1) (hp.fit (by decide)) w hla;have f2:=hft (decide_eq_true hr.2) (hq.fit (by decide)) w hla;exact fun g W hW k=>(z0g g _ _ _ _ _ W (f1.mono hW) (f2.mono hW) (dZ n2 hW) (fK n3 hW) k).at
theorem z3L {p q:Rat}(hp:SmQ 40 p)(hq:SmQ 40 q)(hr:InA p q)(w:World)(hla:La w):CV w 29 #[.agg #[.string (Sq (p)),.string (Sq (q))],.slice none 0 0] (.int .i64 0):=by
 have hv:∀ {x:Rat},FitQ x→CV w 74 #[.string (Sq x)] (.bool true):=fun hx W hW=>ll _ hx W (hla.on hW);exact z3C _ _ w (hfh (decide_eq_true hr.1) (hp.fit (by decide)) w hla) (hft (decide_eq_true hr.2) (hq.fit (by decide)) w hla) (uR (hv (hp.fit (by decide))) (hv (hq.fit (by decide))))
