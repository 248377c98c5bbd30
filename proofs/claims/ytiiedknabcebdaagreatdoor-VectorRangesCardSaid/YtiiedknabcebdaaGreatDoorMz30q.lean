/- texts -/
import Derived.Test.YtiiedknabcebdaaGreatDoorMz29q
open Go.Proofs.Tryz
set_option maxRecDepth 100000
set_option maxHeartbeats 20000000
open Go.Lib (hid)
namespace Go.Proofs.YtiiedknabcebdaaGreatDoor
open Go.RowKit Go.Gb
theorem lK (x1 x2 y1 y2:ByteArray)(p q r s c:Int)(w:World)
 (h1:CQ 83 #[.agg #[.string x1,.string x2],.agg #[.string y1,.string y2]] (.tuple #[.agg #[.int .i64 p,.int .i64 q],.agg #[.int .i64 r,.int .i64 s],.bool true]))
 (h2:CQ 84 #[.agg #[.int .i64 p,.int .i64 q],.agg #[.int .i64 r,.int .i64 s]] (.int .i64 c)) :
 CR 60 #[.agg #[.string x1,.string x2],.agg #[.string y1,.string y2]] w (.int .i64 c):=by
 have C1:=hid h1;have C2:=hid h2;obtain⟨w0,hw0⟩:∃ w0:World,w0=((w.alloc (.cells #[.string x1,.string x2] 94)).alloc (.cells #[.string y1,.string y2] 94)):=⟨_,rfl⟩;have hz0:w0.heap.size=w.heap.size+2:=by rw[hw0];simp
 have hB0:Below w.heap.size w w0:=by
  rw[hw0];repeat (first|exact Below.refl _ _|refine Below.setCell ?_ (by first|omega|(simp;omega)|simp) _|refine Below.alloc ?_ (by first|omega|(simp;omega)|simp) _|refine Below.drew ?_)
 have hS0:w0.cell? ⟨w.heap.size,0,none⟩=some (.string x1)∧w0.cell? ⟨w.heap.size,1,none⟩=some (.string x2)∧w0.cell? ⟨w.heap.size+1,0,none⟩=some (.string y1)∧w0.cell? ⟨w.heap.size+1,1,none⟩=some (.string y2):=by rw[hw0];exact⟨((q_lt).trans ((bf).trans rfl)),((q_lt).trans ((bf).trans rfl)),((bf).trans rfl),((bf).trans rfl)⟩
 have KS:=hid (show ∀ W:World,Below w0.heap.size w0 W→(W.cell? ⟨w.heap.size,0,none⟩=some (.string x1)∧W.cell? ⟨w.heap.size,1,none⟩=some (.string x2)∧W.cell? ⟨w.heap.size+1,0,none⟩=some (.string y1)∧W.cell? ⟨w.heap.size+1,1,none⟩=some (.string y2)) from fun W hB=>by
  obtain⟨c0,c1,c2,c3⟩:=hS0
  exact⟨(hB.cell (p:=⟨w.heap.size,0,none⟩) (by show w.heap.size<_;omega)).trans c0,(hB.cell (p:=⟨w.heap.size,1,none⟩) (by show w.heap.size<_;omega)).trans c1,(hB.cell (p:=⟨w.heap.size+1,0,none⟩) (by show w.heap.size+1<_;omega)).trans c2,(hB.cell (p:=⟨w.heap.size+1,1,none⟩) (by show w.heap.size+1<_;omega)).trans c3⟩)
 have KZ:=hid (show ∀ W:World,Below w0.heap.size w0 W→w.heap.size+2≤W.heap.size from fun W hB=>by have:=hB.size;omega);have KB:=hid (show ∀ W:World,Below w0.heap.size w0 W→Below w.heap.size w W from fun W hB=>hB0.trans (hB.mono (by omega)));have F0:=hid (Below.refl w0.heap.size w0);have HW0:=hid hw0;clear hz0 hB0 hS0 hw0 h1 h2;go_enter func60,ntmps60
 go_wp2_with fail
 rw[← HW0.o];obtain⟨d0,d1,d2,d3⟩:=KS.o _ F0.o;go_wp2_with fail
 refine(C1.o _).mono ?_;rintro e w1 ⟨rfl,hb⟩;obtain⟨w2,hw2⟩:∃ W:World,W=(w1.alloc (.cells #[.int .i64 p,.int .i64 q] 120)).alloc (.cells #[.int .i64 r,.int .i64 s] 120):=⟨_,rfl⟩;have HW2:=hid hw2;have F2:=hid (show Below w0.heap.size w0 w2 by rw[hw2];exact dG (dG (aA F0.o hb) _) _);have SZ:w1.heap.size<(w1.alloc (.cells #[.int .i64 p,.int .i64 q] 120)).heap.size:=by simp
 have k0:w2.cell? ⟨w1.heap.size,0,none⟩=some (.int .i64 p):=by rw[hw2];exact(q_lt SZ).trans ((bf rfl).trans rfl)
 have k1:w2.cell? ⟨w1.heap.size,1,none⟩=some (.int .i64 q):=by rw[hw2];exact(q_lt SZ).trans ((bf rfl).trans rfl)
 have k2:w2.cell? ⟨w1.heap.size+1,0,none⟩=some (.int .i64 r):=by rw[hw2];exact(bf (by simp)).trans rfl
 have k3:w2.cell? ⟨w1.heap.size+1,1,none⟩=some (.int .i64 s):=by rw[hw2];exact(bf (by simp)).trans rfl
 clear SZ hw2 hb d0 d1 d2 d3;obtain⟨d0,d1,d2,d3⟩:=KS.o _ F2.o;go_upto_region 3 with fail
 rw[← HW2.o];go_wp2_with fail
 refine(C2.o _).mono ?_;rintro e w3 ⟨rfl,hb⟩;have F3:=hid (aA F2.o hb);clear hb d0 d1 d2 d3;obtain⟨d0,d1,d2,d3⟩:=KS.o _ F3.o;go_wp2;go_ret
 exact⟨rfl,KB.o _ F3.o⟩
theorem mo (x1 x2 y1 y2:ByteArray)(p q c:Int)(hpq:p≠q)(w:World)(hl:La w)
 (h1:CQ 83 #[.agg #[.string x1,.string x2],.agg #[.string y1,.string y2]] (.tuple #[.agg #[.int .i64 0,.int .i64 0],.agg #[.int .i64 0,.int .i64 0],.bool false]))
 (h2:CL 81 #[.string x1] (.int .i64 p))
 (h3:CL 81 #[.string y1] (.int .i64 q))
 (h4:CL 85 #[.string x1,.string y1] (.int .i64 c)) :
 CR 60 #[.agg #[.string x1,.string x2],.agg #[.string y1,.string y2]] w (.int .i64 c):=by
 obtain ⟨C1,C2,C3,C4⟩:=aQ h1 h2 h3 h4;obtain⟨w0,hw0⟩:∃ w0:World,w0=((w.alloc (.cells #[.string x1,.string x2] 94)).alloc (.cells #[.string y1,.string y2] 94)):=⟨_,rfl⟩;have hz0:w0.heap.size=w.heap.size+2:=by rw[hw0];simp
 have hB0:Below w.heap.size w w0:=by
  rw[hw0];repeat (first|exact Below.refl _ _|refine Below.setCell ?_ (by first|omega|(simp;omega)|simp) _|refine Below.alloc ?_ (by first|omega|(simp;omega)|simp) _|refine Below.drew ?_)
 have hS0:w0.cell? ⟨w.heap.size,0,none⟩=some (.string x1)∧w0.cell? ⟨w.heap.size,1,none⟩=some (.string x2)∧w0.cell? ⟨w.heap.size+1,0,none⟩=some (.string y1)∧w0.cell? ⟨w.heap.size+1,1,none⟩=some (.string y2):=by rw[hw0];exact⟨((q_lt).trans ((bf).trans rfl)),((q_lt).trans ((bf).trans rfl)),((bf).trans rfl),((bf).trans rfl)⟩
 have KS:=hid (show ∀ W:World,Below w0.heap.size w0 W→(W.cell? ⟨w.heap.size,0,none⟩=some (.string x1)∧W.cell? ⟨w.heap.size,1,none⟩=some (.string x2)∧W.cell? ⟨w.heap.size+1,0,none⟩=some (.string y1)∧W.cell? ⟨w.heap.size+1,1,none⟩=some (.string y2)) from fun W hB=>by
  obtain⟨c0,c1,c2,c3⟩:=hS0
  exact⟨(hB.cell (p:=⟨w.heap.size,0,none⟩) (by show w.heap.size<_;omega)).trans c0,(hB.cell (p:=⟨w.heap.size,1,none⟩) (by show w.heap.size<_;omega)).trans c1,(hB.cell (p:=⟨w.heap.size+1,0,none⟩) (by show w.heap.size+1<_;omega)).trans c2,(hB.cell (p:=⟨w.heap.size+1,1,none⟩) (by show w.heap.size+1<_;omega)).trans c3⟩)
 have KZ:=hid (show ∀ W:World,Below w0.heap.size w0 W→w.heap.size+2≤W.heap.size from fun W hB=>by have:=hB.size;omega);have KB:=hid (show ∀ W:World,Below w0.heap.size w0 W→Below w.heap.size w W from fun W hB=>hB0.trans (hB.mono (by omega)));have F0:=hid (Below.refl w0.heap.size w0);have HW0:=hid hw0;clear hz0 hB0 hS0 hw0;have HL:=hid (show ∀ W:World,Below w0.heap.size w0 W→La W from fun W hB=>hl.on (KB.o W hB));clear hl;have hpq1:(p==q)=false:=by simpa using hpq
 have hpq2:(p != q)=true:=by simpa using hpq
 clear h1 h2 h3 h4;go_enter func60,ntmps60
 go_wp2_with fail
 rw[← HW0.o];obtain⟨d0,d1,d2,d3⟩:=KS.o _ F0.o;go_wp2_with fail
 refine(C1.o _).mono ?_;rintro e w1 ⟨rfl,hb⟩;obtain⟨w2,hw2⟩:∃ W:World,W=(w1.alloc (.cells #[.int .i64 0,.int .i64 0] 120)).alloc (.cells #[.int .i64 0,.int .i64 0] 120):=⟨_,rfl⟩;have HW2:=hid hw2;have F2:=hid (show Below w0.heap.size w0 w2 by rw[hw2];exact dG (dG (aA F0.o hb) _) _);clear hw2 hb d0 d1 d2 d3;obtain⟨d0,d1,d2,d3⟩:=KS.o _ F2.o;go_upto_region 4 with fail
 rw[← HW2.o];go_wp2_with fail
 go_region_held3 (fun w'=>w'.cell? ⟨w.heap.size,0,none⟩=some (.string x1)∧w'.cell? ⟨w.heap.size,1,none⟩=some (.string x2)∧w'.cell? ⟨w.heap.size+1,0,none⟩=some (.string y1)∧w'.cell? ⟨w.heap.size+1,1,none⟩=some (.string y2)) (first|(with_reducible exact KS.o _ F4.o)|(with_reducible exact KS.o _ F4.o.drew)|(with_reducible exact KS.o _ F3.o)|(with_reducible exact KS.o _ F3.o.drew)|(with_reducible exact KS.o _ F2.o)|(with_reducible exact KS.o _ F2.o.drew))
  (first
   | (go_at_call 81;(with_reducible refine(C2.o _ ?la2).mono ?_);(case la2=>first|exact HL.o _ F2.o|exact HL.o _ F2.o.drew);rintro e w3 ⟨rfl,hb⟩;have F3:=hid (show Below w0.heap.size w0 w3 by first|exact aA F2.o hb|exact aA F2.o.drew hb);clear hb)
   | (go_at_call 81;(with_reducible refine(C3.o _ ?la3).mono ?_);(case la3=>first|exact HL.o _ F3.o|exact HL.o _ F3.o.drew);rintro e w4 ⟨rfl,hb⟩;have F4:=hid (show Below w0.heap.size w0 w4 by first|exact aA F3.o hb|exact aA F3.o.drew hb);clear hb)
   | fail)
 go_wp2_with fail
 obtain⟨d0,d1,d2,d3⟩:=KS.o _ F4.o;go_wp2_with fail
 refine(C4.o _ (HL.o _ F4.o)).mono ?_;rintro e w5 ⟨rfl,hb⟩;have F5:=hid (aA F4.o hb);clear hb d0 d1 d2 d3;obtain⟨d0,d1,d2,d3⟩:=KS.o _ F5.o;go_wp2;go_ret
 exact⟨rfl,KB.o _ F5.o⟩
theorem lL (x1 x2 y1 y2 t u:ByteArray)(p c:Int)(w:World)(hl:La w)
 (h1:CQ 83 #[.agg #[.string x1,.string x2],.agg #[.string y1,.string y2]] (.tuple #[.agg #[.int .i64 0,.int .i64 0],.agg #[.int .i64 0,.int .i64 0],.bool false]))
 (h2:CL 81 #[.string x1] (.int .i64 p))
 (h3:CL 81 #[.string y1] (.int .i64 p))
 (h4:CL 86 #[.string x1,.string y2] (.string t))
 (h5:CL 86 #[.string y1,.string x2] (.string u))
 (h6:CL 85 #[.string t,.string u] (.int .i64 c)) :
 CR 60 #[.agg #[.string x1,.string x2],.agg #[.string y1,.string y2]] w (.int .i64 c):=by
 obtain ⟨C1,C2,C3,C4,C5,C6⟩:=dQ h1 h2 h3 h4 h5 h6;obtain⟨w0,hw0⟩:∃ w0:World,w0=((w.alloc (.cells #[.string x1,.string x2] 94)).alloc (.cells #[.string y1,.string y2] 94)):=⟨_,rfl⟩;have hz0:w0.heap.size=w.heap.size+2:=by rw[hw0];simp
 have hB0:Below w.heap.size w w0:=by
  rw[hw0];repeat (first|exact Below.refl _ _|refine Below.setCell ?_ (by first|omega|(simp;omega)|simp) _|refine Below.alloc ?_ (by first|omega|(simp;omega)|simp) _|refine Below.drew ?_)
 have hS0:w0.cell? ⟨w.heap.size,0,none⟩=some (.string x1)∧w0.cell? ⟨w.heap.size,1,none⟩=some (.string x2)∧w0.cell? ⟨w.heap.size+1,0,none⟩=some (.string y1)∧w0.cell? ⟨w.heap.size+1,1,none⟩=some (.string y2):=by rw[hw0];exact⟨((q_lt).trans ((bf).trans rfl)),((q_lt).trans ((bf).trans rfl)),((bf).trans rfl),((bf).trans rfl)⟩
 have KS:=hid (show ∀ W:World,Below w0.heap.size w0 W→(W.cell? ⟨w.heap.size,0,none⟩=some (.string x1)∧W.cell? ⟨w.heap.size,1,none⟩=some (.string x2)∧W.cell? ⟨w.heap.size+1,0,none⟩=some (.string y1)∧W.cell? ⟨w.heap.size+1,1,none⟩=some (.string y2)) from fun W hB=>by
  obtain⟨c0,c1,c2,c3⟩:=hS0
  exact⟨(hB.cell (p:=⟨w.heap.size,0,none⟩) (by show w.heap.size<_;omega)).trans c0,(hB.cell (p:=⟨w.heap.size,1,none⟩) (by show w.heap.size<_;omega)).trans c1,(hB.cell (p:=⟨w.heap.size+1,0,none⟩) (by show w.heap.size+1<_;omega)).trans c2,(hB.cell (p:=⟨w.heap.size+1,1,none⟩) (by show w.heap.size+1<_;omega)).trans c3⟩)
 have KZ:=hid (show ∀ W:World,Below w0.heap.size w0 W→w.heap.size+2≤W.heap.size from fun W hB=>by have:=hB.size;omega);have KB:=hid (show ∀ W:World,Below w0.heap.size w0 W→Below w.heap.size w W from fun W hB=>hB0.trans (hB.mono (by omega)));have F0:=hid (Below.refl w0.heap.size w0);have HW0:=hid hw0;clear hz0 hB0 hS0 hw0;have HL:=hid (show ∀ W:World,Below w0.heap.size w0 W→La W from fun W hB=>hl.on (KB.o W hB));clear hl h1 h2 h3 h4 h5 h6;go_enter func60,ntmps60
 go_wp2_with fail
 rw[← HW0.o];obtain⟨d0,d1,d2,d3⟩:=KS.o _ F0.o;go_wp2_with fail
 refine(C1.o _).mono ?_;rintro e w1 ⟨rfl,hb⟩;obtain⟨w2,hw2⟩:∃ W:World,W=(w1.alloc (.cells #[.int .i64 0,.int .i64 0] 120)).alloc (.cells #[.int .i64 0,.int .i64 0] 120):=⟨_,rfl⟩;have HW2:=hid hw2;have F2:=hid (show Below w0.heap.size w0 w2 by rw[hw2];exact dG (dG (aA F0.o hb) _) _);clear hw2 hb d0 d1 d2 d3;obtain⟨d0,d1,d2,d3⟩:=KS.o _ F2.o;go_upto_region 4 with fail
 rw[← HW2.o];go_wp2_with fail
 go_region_held3 (fun w'=>w'.cell? ⟨w.heap.size,0,none⟩=some (.string x1)∧w'.cell? ⟨w.heap.size,1,none⟩=some (.string x2)∧w'.cell? ⟨w.heap.size+1,0,none⟩=some (.string y1)∧w'.cell? ⟨w.heap.size+1,1,none⟩=some (.string y2)) (first|(with_reducible exact KS.o _ F4.o)|(with_reducible exact KS.o _ F4.o.drew)|(with_reducible exact KS.o _ F3.o)|(with_reducible exact KS.o _ F3.o.drew)|(with_reducible exact KS.o _ F2.o)|(with_reducible exact KS.o _ F2.o.drew))
  (first
   | (go_at_call 81;(with_reducible refine(C2.o _ ?la2).mono ?_);(case la2=>first|exact HL.o _ F2.o|exact HL.o _ F2.o.drew);rintro e w3 ⟨rfl,hb⟩;have F3:=hid (show Below w0.heap.size w0 w3 by first|exact aA F2.o hb|exact aA F2.o.drew hb);clear hb)
   | (go_at_call 81;(with_reducible refine(C3.o _ ?la3).mono ?_);(case la3=>first|exact HL.o _ F3.o|exact HL.o _ F3.o.drew);rintro e w4 ⟨rfl,hb⟩;have F4:=hid (show Below w0.heap.size w0 w4 by first|exact aA F3.o hb|exact aA F3.o.drew hb);clear hb)
   | fail)
 go_wp2_with fail
 go_region_held3 (fun w'=>w'.cell? ⟨w.heap.size,0,none⟩=some (.string x1)∧w'.cell? ⟨w.heap.size,1,none⟩=some (.string x2)∧w'.cell? ⟨w.heap.size+1,0,none⟩=some (.string y1)∧w'.cell? ⟨w.heap.size+1,1,none⟩=some (.string y2)) (first|(with_reducible exact KS.o _ F7.o)|(with_reducible exact KS.o _ F7.o.drew)|(with_reducible exact KS.o _ F6.o)|(with_reducible exact KS.o _ F6.o.drew)|(with_reducible exact KS.o _ F5.o)|(with_reducible exact KS.o _ F5.o.drew)|(with_reducible exact KS.o _ F4.o)|(with_reducible exact KS.o _ F4.o.drew))
  (first
   | (go_at_call 86;(with_reducible refine(C4.o _ ?la4).mono ?_);(case la4=>first|exact HL.o _ F4.o|exact HL.o _ F4.o.drew);rintro e w5 ⟨rfl,hb⟩;have F5:=hid (show Below w0.heap.size w0 w5 by first|exact aA F4.o hb|exact aA F4.o.drew hb);clear hb)
   | (go_at_call 86;(with_reducible refine(C5.o _ ?la5).mono ?_);(case la5=>first|exact HL.o _ F5.o|exact HL.o _ F5.o.drew);rintro e w6 ⟨rfl,hb⟩;have F6:=hid (show Below w0.heap.size w0 w6 by first|exact aA F5.o hb|exact aA F5.o.drew hb);clear hb)
   | (go_at_call 85;(with_reducible refine(C6.o _ ?la6).mono ?_);(case la6=>first|exact HL.o _ F6.o|exact HL.o _ F6.o.drew);rintro e w7 ⟨rfl,hb⟩;have F7:=hid (show Below w0.heap.size w0 w7 by first|exact aA F6.o hb|exact aA F6.o.drew hb);clear hb)
   | fail)
 all_goals
  go_wp2;go_ret
  exact⟨rfl,by first|exact KB.o _ F7.o|exact KB.o _ F7.o.drew⟩
theorem ry (q:Rat)(h:q.den≠1):Sz q.num++⟨#[47]⟩++Sz (q.den:Int)=Sq q:=by
 rw[pF h,dP];apply ByteArray.ext
 apply Array.ext'
 simp[Sn]
theorem vS (n:Int)(d:Nat)(hd:d≠0):n.tdiv ((Nat.gcd n.natAbs d:Nat):Int)=(mkRat n d).num∧(d:Int).tdiv ((Nat.gcd n.natAbs d:Nat):Int)=((mkRat n d).den:Int)∧0<Nat.gcd n.natAbs d∧Nat.gcd n.natAbs d≤d∧((mkRat n d).den=1→d=Nat.gcd n.natAbs d)∧((mkRat n d).den≠1→d≠Nat.gcd n.natAbs d):=by
 obtain⟨e1,e2⟩:=mE n d hd;have hg:0<Nat.gcd n.natAbs d:=Nat.gcd_pos_of_pos_right _ (Nat.pos_of_ne_zero hd);have hdv:Nat.gcd n.natAbs d∣d:=Nat.gcd_dvd_right _ _;have hnv:((Nat.gcd n.natAbs d:Nat):Int)∣n:=Int.dvd_natAbs.1 (Int.natCast_dvd_natCast.2 (Nat.gcd_dvd_left _ _));refine⟨?_,?_,hg,Nat.gcd_le_right _ (Nat.pos_of_ne_zero hd),?_,?_⟩
 · rw[e1];exact Int.tdiv_eq_ediv_of_dvd hnv
 · rw[e2,Int.natCast_ediv];exact Int.tdiv_eq_ediv_of_nonneg (by omega)
 · intro h
   rw[e2]at h;have h2:=Nat.div_mul_cancel hdv;rw[h,Nat.one_mul]at h2;exact h2.symm
 · intro h h2
   apply h
   rw[e2];exact Nat.div_eq_of_eq_mul_left hg (by omega)
theorem rq (n:Int)(d:Nat)(hd:d≠0)(bn:n.natAbs≤4000000000000000000)(bd:d≤4000000000000000000):(mkRat n d).num.natAbs≤4000000000000000000∧(mkRat n d).den≤4000000000000000000∧(Sz (mkRat n d).num).size≤1000∧(Sz ((mkRat n d).den:Int)).size≤1000:=by
 obtain⟨e1,e2⟩:=z3W n d hd;have h1:Sm 20 (mkRat n d).num.natAbs:=by unfold Sm;omega
 have h2:Sm 20 ((mkRat n d).den:Int).natAbs:=by rw[Int.natAbs_natCast];unfold Sm;omega
 have h3:=jR h1 (by decide);have h4:=jR h2 (by decide);exact⟨by omega,by omega,by omega,by omega⟩
theorem vR (n:Int)(d:Nat)(hd:d≠0)(bn:n.natAbs≤4000000000000000000)(bd:d≤4000000000000000000)(w:World)(hl:La w) :
 CR 101 #[.agg #[.int .i64 n,.int .i64 (d:Int)]] w (.string (Sq (mkRat n d))):=by
 obtain⟨f1,f2,f3,f4,f5,f6⟩:=vS n d hd;obtain⟨b1,b2,b3,b4⟩:=rq n d hd bn bd;have hg:=fun W=>rgcd n (d:Int) (by omega) (by rw[Int.natAbs_natCast];omega) W;rw[Int.natAbs_natCast]at hg;have k1:(mkRat n d).num≤9223372036854775807 ∧ -9223372036854775808≤(mkRat n d).num:=by omega
 by_cases h:(mkRat n d).den=1
 · have h2:=f5 h
   rw[je h];rw[← h2]at hg f1;exact nZ n (d:Int) (mkRat n d).num _ ⟨#[]⟩ (by omega) (by omega) f1 b1 w hl b3 (by decide) hg (fun W hW=>rfmt _ k1.2 k1.1 W hW)
 · have h2:=f6 h
   rw[← ry _ h];exact mU n (d:Int) ((Nat.gcd n.natAbs d:Nat):Int) (mkRat n d).num ((mkRat n d).den:Int) _ _ (by omega) (by omega) (by omega) f1 b1 f2 (by rw[Int.natAbs_natCast];exact b2) (by rw[beq_eq_false_iff_ne];omega) w hl b3 b4 hg (fun W hW=>rfmt _ k1.2 k1.1 W hW) (fun W hW=>rfmt _ (by omega) (by omega) W hW)
theorem z3L (a b n:Int)(d:Nat)(hn : -a=n)(hb : -b=(d:Int))(hd:d≠0)(bn:n.natAbs≤4000000000000000000)(bd:d≤4000000000000000000)(w:World)(hl:La w) :
 CR 101 #[.agg #[.int .i64 a,.int .i64 b]] w (.string (Sq (mkRat n d))):=by
 obtain⟨f1,f2,f3,f4,f5,f6⟩:=vS n d hd;obtain⟨b1,b2,b3,b4⟩:=rq n d hd bn bd;have hg:=fun W=>rgcd n (d:Int) (by omega) (by rw[Int.natAbs_natCast];omega) W;rw[Int.natAbs_natCast]at hg;have k1:(mkRat n d).num≤9223372036854775807 ∧ -9223372036854775808≤(mkRat n d).num:=by omega
 by_cases h:(mkRat n d).den=1
 · have h2:=f5 h
   rw[je h];rw[← h2]at hg f1;exact o5 a b (d:Int) (mkRat n d).num n _ ⟨#[]⟩ hn hb (by omega) (by omega) (by omega) (by omega) f1 b1 w hl b3 (by decide) hg (fun W hW=>rfmt _ k1.2 k1.1 W hW)
 · have h2:=f6 h
   rw[← ry _ h];exact mV a b ((Nat.gcd n.natAbs d:Nat):Int) (mkRat n d).num ((mkRat n d).den:Int) n (d:Int) _ _ hn hb (by omega) (by omega) (by omega) (by omega) (by omega) f1 b1 f2 (by rw[Int.natAbs_natCast];exact b2) (by rw[beq_eq_false_iff_ne];omega) w hl b3 b4 hg (fun W hW=>rfmt _ k1.2 k1.1 W hW) (fun W hW=>rfmt _ (by omega) (by omega) W hW)
def Sma (x y:Rat):Prop:=(Sz x.num).size≤9∧(Sz (x.den:Int)).size≤9∧(Sz y.num).size≤9∧(Sz (y.den:Int)).size≤9
theorem eQ {z:Int}(h:(Sz z).size≤9):z.natAbs<1000000000:=by
 have h1:z.natAbs<10^9:=jk h;omega
theorem eY (x y:Rat)(h:Sma x y)(w:World) :
 CR 83 #[Fv x,Fv y] w (.tuple #[.agg #[.int .i64 x.num,.int .i64 (x.den:Int)],.agg #[.int .i64 y.num,.int .i64 (y.den:Int)],.bool true]):=by
 unfold Fv
 exact pI _ _ _ _ _ _ _ _ h w (fun W=>oC _ (Nat.le_trans h.1 (by decide)) W) (fun W=>oC _ (Nat.le_trans h.2.1 (by decide)) W) (fun W=>oC _ (Nat.le_trans h.2.2.1 (by decide)) W) (fun W=>oC _ (Nat.le_trans h.2.2.2 (by decide)) W)
theorem eZ (x y:Rat)(h:¬ Sma x y)(w:World) :
 CR 83 #[Fv x,Fv y] w (.tuple #[.agg #[.int .i64 0,.int .i64 0],.agg #[.int .i64 0,.int .i64 0],.bool false]):=by
 unfold Fv
 refine rA _ _ _ _ ?_ w;unfold Sma at h
 omega
theorem lQ (a b:Int):cmpZ a b=if a<b then -1 else if b<a then 1 else 0:=by
 rcases Int.lt_trichotomy a b with h|h|h
 · rw[nM h,if_pos h]
 · subst h;rw[qJ,if_neg (by omega),if_neg (by omega)]
 · rw[nN h,if_neg (by omega),if_pos h]
theorem lY (n:Int)(d:Nat)(hd:d≠0):(n*(d:Int)<0∧n<0)∨(n*(d:Int)=0∧n=0)∨(0<n*(d:Int)∧0<n):=by
 have hp:(0:Int)<(d:Int):=by omega
 rcases Int.lt_trichotomy n 0 with h|h|h
 · exact Or.inl ⟨Int.mul_neg_of_neg_of_pos h hp,h⟩
 · subst h;exact Or.inr (Or.inl ⟨by simp,rfl⟩)
 · exact Or.inr (Or.inr ⟨Int.mul_pos h hp,h⟩)
theorem z0l (x y:Rat)(h:x.num.sign≠y.num.sign):cmpZ x.num y.num=cmpQ x y:=by
 rw[iT x y _ _ rfl rfl,lQ];rcases lY x.num y.den y.den_nz with⟨h1,h2⟩|⟨h1,h2⟩|⟨h1,h2⟩<;>rcases lY y.num x.den x.den_nz with⟨h3,h4⟩|⟨h3,h4⟩|⟨h3,h4⟩
 · exact absurd (by rw[Int.sign_eq_neg_one_of_neg h2,Int.sign_eq_neg_one_of_neg h4]) h
 · rw[if_pos (by omega),if_pos (by omega)]
 · rw[if_pos (by omega),if_pos (by omega)]
 · rw[if_neg (by omega),if_pos (by omega),if_neg (by omega),if_pos (by omega)]
 · exact absurd (by rw[h2,h4]) h
 · rw[if_pos (by omega),if_pos (by omega)]
 · rw[if_neg (by omega),if_pos (by omega),if_neg (by omega),if_pos (by omega)]
 · rw[if_neg (by omega),if_pos (by omega),if_neg (by omega),if_pos (by omega)]
 · exact absurd (by rw[Int.sign_eq_one_of_pos h2,Int.sign_eq_one_of_pos h4]) h
theorem kN {x y:Rat}(hx:FitQ x)(hy:FitQ y):FitL (x.num*(y.den:Int)):=by
 unfold FitL
 rw[Int.natAbs_mul,Int.natAbs_natCast];exact(Sm.mul hx.1 hy.2).mono (by decide)
theorem z0c (x y:Rat)(c:Int)(hc:cmpQ x y=c)(hs:Sma x y)(w:World) :
 CR 60 #[Fv x,Fv y] w (.int .i64 c):=by
 subst hc;have h1:=fun W=>eY x y hs W;unfold Fv at h1 ⊢
 exact lK _ _ _ _ _ _ _ _ _ w h1 (fun W=>scmp _ _ _ _ _ (eQ hs.1) (eQ hs.2.1) (eQ hs.2.2.1) (eQ hs.2.2.2) (by rw[iT x y _ _ rfl rfl,lQ]) W)
theorem z1G (x y:Rat)(c:Int)(hc:cmpQ x y=c)(hx:FitQ x)(hy:FitQ y)(w:World)(hl:La w) :
 CR 60 #[Fv x,Fv y] w (.int .i64 c):=by
 by_cases hs:Sma x y
 · exact z0c x y c hc hs w
 subst hc;have h1:=fun W=>eZ x y hs W;unfold Fv at h1 ⊢
 by_cases hsg:x.num.sign=y.num.sign
 · exact lL _ _ _ _ (Sz (x.num*(y.den:Int))) (Sz (y.num*(x.den:Int))) x.num.sign _ w hl h1 (fun W hW=>pM _ _ rfl hx.numL W hW) (fun W hW=>pM _ _ hsg.symm hy.numL W hW) (fun W hW=>mX _ _ _ rfl hx.numL hy.denL (kN hx hy) W hW) (fun W hW=>mX _ _ _ rfl hy.numL hx.denL (kN hy hx) W hW) (fun W hW=>z2D _ _ _ (by rw[iT x y _ _ rfl rfl,lQ]) (kN hx hy) (kN hy hx) W hW)
 · exact mo _ _ _ _ x.num.sign y.num.sign _ hsg w hl h1 (fun W hW=>pM _ _ rfl hx.numL W hW) (fun W hW=>pM _ _ rfl hy.numL W hW) (fun W hW=>z2D _ _ _ (z0l x y hsg) hx.numL hy.numL W hW)
theorem pX (a n1 d1 n2 d2:ByteArray)(w:World)
 (h1:CR 59 #[.string a,.string a] w (.tuple #[.agg #[.string n1,.string d1],.agg #[.string n2,.string d2],.bool true])) :
 CR 43 #[.string a,.string a] w (.tuple #[.int .i64 0,.int .i64 0]):=by
 have C1:=hid h1;clear h1;go_enter func43,ntmps43
 go_wp2_with fail
 refine C1.o.mono ?_;rintro e w1 ⟨rfl,hb⟩;have HB:=hid ((hb.alloc hb.size (.cells #[.string n1,.string d1] 94)).alloc (by have:=hb.size;simp;omega) (.cells #[.string n2,.string d2] 94));clear hb;go_wp2;go_ret2
 exact⟨rfl,HB.o⟩
theorem pY (a b n1 d1 n2 d2:ByteArray)(c:Int)(hab:(a.toList==b.toList)=false)(w:World)(hl:La w)
 (h1:CR 59 #[.string a,.string b] w (.tuple #[.agg #[.string n1,.string d1],.agg #[.string n2,.string d2],.bool true]))
 (h2:CL 60 #[.agg #[.string n1,.string d1],.agg #[.string n2,.string d2]] (.int .i64 c)) :
 CR 43 #[.string a,.string b] w (.tuple #[.int .i64 c,.int .i64 0]):=by
 obtain ⟨C1,C2,HL⟩:=ax h1 h2 hl;clear h1 h2 hl;go_enter func43,ntmps43
 go_wp2_with fail
 refine C1.o.mono ?_;rintro e w1 ⟨rfl,hb⟩;have HB:=hid ((hb.alloc hb.size (.cells #[.string n1,.string d1] 94)).alloc (by have:=hb.size;simp;omega) (.cells #[.string n2,.string d2] 94));clear hb;go_wp2_with fail
 refine(C2.o _ (HL.o.on HB.o)).mono ?_;rintro e w2 ⟨rfl,hb⟩;have wo:=hbt HB hb;clear hb;go_wp2;go_ret2
 exact⟨rfl,wo.o⟩
theorem z1l (x y:Rat)(c:Int)(hc:cmpQ x y=c)(hx:FitQ x)(hy:FitQ y)(w:World)(hl:La w) :
 CR 43 #[.string (Sq x),.string (Sq y)] w (.tuple #[.int .i64 c,.int .i64 0]):=by
 by_cases h:x=y
 · subst h
   rw[uU]at hc;subst hc;have h1:=eF x x hx hx w hl;unfold Fv at h1
   exact pX _ _ _ _ _ w h1
 · have h1:=eF x y hx hy w hl
   have h2:=fun W hW=>z1G x y c hc hx hy W hW;unfold Fv at h1 h2
   exact pY _ _ _ _ _ _ _ (vT h) w hl h1 h2
theorem wF (a b d:ByteArray)(n:Int)(w:World)
 (h1:CR 78 #[.string a,.int .u8 43,.string b] w (.tuple #[.string d,.int .i64 n])) :
 CR 57 #[.string a,.string b] w (.tuple #[.string d,.int .i64 n]):=by
 have C1:=hid h1;clear h1;go_enter func57,ntmps57
 go_wp2_with fail
 refine C1.o.mono ?_;rintro e w1 ⟨rfl,hb⟩;go_wp2;go_ret2
 exact⟨rfl,hb⟩
theorem wC (a b d:ByteArray)(n:Int)(w:World)
 (h1:CR 78 #[.string a,.int .u8 45,.string b] w (.tuple #[.string d,.int .i64 n])) :
 CR 56 #[.string a,.string b] w (.tuple #[.string d,.int .i64 n]):=by
 have C1:=hid h1;clear h1;go_enter func56,ntmps56
 go_wp2_with fail
 refine C1.o.mono ?_;rintro e w1 ⟨rfl,hb⟩;go_wp2;go_ret2
 exact⟨rfl,hb⟩
theorem wD (a b d:ByteArray)(n:Int)(w:World)
 (h1:CR 78 #[.string a,.int .u8 42,.string b] w (.tuple #[.string d,.int .i64 n])) :
 CR 77 #[.string a,.string b] w (.tuple #[.string d,.int .i64 n]):=by
 have C1:=hid h1;clear h1;go_enter func77,ntmps77
 go_wp2_with fail
 refine C1.o.mono ?_;rintro e w1 ⟨rfl,hb⟩;go_wp2;go_ret2
 exact⟨rfl,hb⟩
theorem wE (a b d:ByteArray)(n:Int)(hb0:(b.toList==[48])=false)(w:World)
 (h1:CR 78 #[.string a,.int .u8 47,.string b] w (.tuple #[.string d,.int .i64 n])) :
 CR 55 #[.string a,.string b] w (.tuple #[.string d,.int .i64 n]):=by
 have C1:=hid h1;clear h1;go_enter func55,ntmps55
 go_wp2_with fail
 refine C1.o.mono ?_;rintro e w1 ⟨rfl,hb⟩;go_wp2;go_ret2
 exact⟨rfl,hb⟩
theorem z4I (x y z:Rat)(hz:x+y=z)(hx:FitQ x)(hy:FitQ y)(hs:Sma x y)(w:World)(hl:La w) :
 CR 57 #[.string (Sq x),.string (Sq y)] w (.tuple #[.string (Sq z),.int .i64 0]):=by
 subst hz;refine wF _ _ _ _ w ?_;have h1:=fun W hW=>eF x y hx hy W hW;have h2:=fun W=>eY x y hs W;have a1:=eQ hs.1;have a2:=eQ hs.2.1;have a3:=eQ hs.2.2.1;have a4:=eQ hs.2.2.2;unfold Fv at h1 h2
 have h4:=fun W hW=>vR (x.num*(y.den:Int)+y.num*(x.den:Int)) (x.den*y.den) (iQ x y) ?b1 ?b2 W hW;rw[← jC x y,Int.natCast_mul]at h4;exact kF _ _ _ _ _ _ _ _ _ _ _ _ _ w hl h1 h2 (fun W=>sadd _ _ _ _ a1 a2 a3 a4 W) h4
 · have h5:=bR a1 a4;have h6:=bR a3 a2;omega
 · have:=bR a2 a4;rw[← Int.natCast_mul,Int.natAbs_natCast]at this;omega
theorem qAdd (x y z:Rat)(hz:x+y=z)(hx:FitQ x)(hy:FitQ y)(w:World)(hl:La w) :
 CR 57 #[.string (Sq x),.string (Sq y)] w (.tuple #[.string (Sq z),.int .i64 0]):=by
 by_cases hs:Sma x y
 · exact z4I x y z hz hx hy hs w hl
 subst hz;refine wF _ _ _ _ w ?_;have h1:=fun W hW=>eF x y hx hy W hW;have h2:=fun W=>eZ x y hs W;have h3:=fun W hW=>fadd x y hx hy W hW;have hsz:SmQ 1900 (x+y):=(SmQ.add (show SmQ 900 x from hx) (show SmQ 900 y from hy)).mono (by decide);have h4:=fun W=>wQ (x+y) hsz.1 (FitL.nat hsz.2) W;unfold Fv at h1 h2 h3
 exact mg _ _ _ _ _ _ _ _ _ w hl h1 h2 h3 h4
theorem z4F (x y z:Rat)(hz:x-y=z)(hx:FitQ x)(hy:FitQ y)(hs:Sma x y)(w:World)(hl:La w) :
 CR 56 #[.string (Sq x),.string (Sq y)] w (.tuple #[.string (Sq z),.int .i64 0]):=by
 subst hz;refine wC _ _ _ _ w ?_;have h1:=fun W hW=>eF x y hx hy W hW;have h2:=fun W=>eY x y hs W;have a1:=eQ hs.1;have a2:=eQ hs.2.1;have a3:=eQ hs.2.2.1;have a4:=eQ hs.2.2.2;unfold Fv at h1 h2
 have h4:=fun W hW=>vR (x.num*(y.den:Int)-y.num*(x.den:Int)) (x.den*y.den) (iQ x y) ?b1 ?b2 W hW;rw[← yS x y,Int.natCast_mul]at h4;exact jT _ _ _ _ _ _ _ _ _ _ _ _ _ w hl h1 h2 (fun W=>ssub _ _ _ _ a1 a2 a3 a4 W) h4
 · have h5:=bR a1 a4;have h6:=bR a3 a2;omega
 · have:=bR a2 a4;rw[← Int.natCast_mul,Int.natAbs_natCast]at this;omega
theorem qSub (x y z:Rat)(hz:x-y=z)(hx:FitQ x)(hy:FitQ y)(w:World)(hl:La w) :
 CR 56 #[.string (Sq x),.string (Sq y)] w (.tuple #[.string (Sq z),.int .i64 0]):=by
 by_cases hs:Sma x y
 · exact z4F x y z hz hx hy hs w hl
 subst hz;refine wC _ _ _ _ w ?_;have h1:=fun W hW=>eF x y hx hy W hW;have h2:=fun W=>eZ x y hs W;have h3:=fun W hW=>fsub x y hx hy W hW;have hsz:SmQ 1900 (x-y):=(SmQ.sub (show SmQ 900 x from hx) (show SmQ 900 y from hy)).mono (by decide);have h4:=fun W=>wQ (x-y) hsz.1 (FitL.nat hsz.2) W;unfold Fv at h1 h2 h3
 exact lF _ _ _ _ _ _ _ _ _ w hl h1 h2 h3 h4
theorem z4G (x y z:Rat)(hz:x*y=z)(hx:FitQ x)(hy:FitQ y)(hs:Sma x y)(w:World)(hl:La w) :
 CR 77 #[.string (Sq x),.string (Sq y)] w (.tuple #[.string (Sq z),.int .i64 0]):=by
 subst hz;refine wD _ _ _ _ w ?_;have h1:=fun W hW=>eF x y hx hy W hW;have h2:=fun W=>eY x y hs W;have a1:=eQ hs.1;have a2:=eQ hs.2.1;have a3:=eQ hs.2.2.1;have a4:=eQ hs.2.2.2;unfold Fv at h1 h2
 have h4:=fun W hW=>vR (x.num*y.num) (x.den*y.den) (iQ x y) ?b1 ?b2 W hW;rw[← jo x y,Int.natCast_mul]at h4;exact lD _ _ _ _ _ _ _ _ _ _ _ _ _ w hl h1 h2 (fun W=>smul _ _ _ _ a1 a2 a3 a4 W) h4
 · have h5:=bR a1 a3;omega
 · have:=bR a2 a4;rw[← Int.natCast_mul,Int.natAbs_natCast]at this;omega
theorem qMul (x y z:Rat)(hz:x*y=z)(hx:FitQ x)(hy:FitQ y)(w:World)(hl:La w) :
 CR 77 #[.string (Sq x),.string (Sq y)] w (.tuple #[.string (Sq z),.int .i64 0]):=by
 by_cases hs:Sma x y
 · exact z4G x y z hz hx hy hs w hl
 subst hz;refine wD _ _ _ _ w ?_;have h1:=fun W hW=>eF x y hx hy W hW;have h2:=fun W=>eZ x y hs W;have h3:=fun W hW=>fmul x y hx hy W hW;have hsz:SmQ 1900 (x*y):=(SmQ.mul (show SmQ 900 x from hx) (show SmQ 900 y from hy)).mono (by decide);have h4:=fun W=>wQ (x*y) hsz.1 (FitL.nat hsz.2) W;unfold Fv at h1 h2 h3
 exact nk _ _ _ _ _ _ _ _ _ w hl h1 h2 h3 h4
theorem z4H (x y z:Rat)(hz:x / y=z)(hx:FitQ x)(hy:FitQ y)(h0:y≠0)(hs:Sma x y)(w:World)(hl:La w) :
 CR 55 #[.string (Sq x),.string (Sq y)] w (.tuple #[.string (Sq z),.int .i64 0]):=by
 subst hz;refine wE _ _ _ _ (by have h:=vT h0;rwa [show Sq 0=⟨#[48]⟩by decide +kernel,toList_data ⟨#[48]⟩]at h) w ?_;have h1:=fun W hW=>eF x y hx hy W hW;have h2:=fun W=>eY x y hs W;have a1:=eQ hs.1;have a2:=eQ hs.2.1;have a3:=eQ hs.2.2.1;have a4:=eQ hs.2.2.2;unfold Fv at h1 h2
 have hn:y.num≠0:=fun h=>h0 (Rat.num_eq_zero.1 h);have h5:=bR a1 a4;have h6:=bR a2 a3;rcases Int.lt_or_gt_of_ne hn with h|h
 · obtain⟨m,hm⟩:∃ m:Nat,-y.num=(m:Int):=⟨y.num.natAbs,by omega⟩
   have hm0:x.den*m≠0:=Nat.mul_ne_zero x.den_nz (by omega);have e : -((x.den:Int)*y.num)=((x.den*m:Nat):Int):=by rw[Int.natCast_mul,← hm,Int.mul_neg]
   have h4:=fun W hW=>z3L (x.num*(y.den:Int)) ((x.den:Int)*y.num) (-(x.num*(y.den:Int))) (x.den*m) rfl e hm0 ?b1 ?b2 W hW;have e2:mkRat (-(x.num*(y.den:Int))) (x.den*m)=x / y:=by rw[qF x y h,show(-y.num).toNat=m by omega]
   rw[e2]at h4;exact iM _ _ _ _ _ _ _ _ _ _ _ _ _ w hl h1 h2 (fun W=>sdiv _ _ _ _ a1 a2 a3 a4 W) h4
   · omega
   · omega
 · obtain⟨m,hm⟩:∃ m:Nat,y.num=(m:Int):=⟨y.num.natAbs,by omega⟩
   have hm0:x.den*m≠0:=Nat.mul_ne_zero x.den_nz (by omega);have e:(x.den:Int)*y.num=((x.den*m:Nat):Int):=by rw[Int.natCast_mul,← hm]
   have h4:=fun W hW=>vR (x.num*(y.den:Int)) (x.den*m) hm0 ?b3 ?b4 W hW;have e2:mkRat (x.num*(y.den:Int)) (x.den*m)=x / y:=by rw[qE x y h,show y.num.toNat=m by omega]
   rw[e2,← e]at h4;exact iM _ _ _ _ _ _ _ _ _ _ _ _ _ w hl h1 h2 (fun W=>sdiv _ _ _ _ a1 a2 a3 a4 W) h4
   · omega
   · omega
theorem qDiv (x y z:Rat)(hz:x / y=z)(hx:FitQ x)(hy:FitQ y)(h0:y≠0)(w:World)(hl:La w) :
 CR 55 #[.string (Sq x),.string (Sq y)] w (.tuple #[.string (Sq z),.int .i64 0]):=by
 by_cases hs:Sma x y
 · exact z4H x y z hz hx hy h0 hs w hl
 subst hz;refine wE _ _ _ _ (by have h:=vT h0;rwa [show Sq 0=⟨#[48]⟩by decide +kernel,toList_data ⟨#[48]⟩]at h) w ?_;have h1:=fun W hW=>eF x y hx hy W hW;have h2:=fun W=>eZ x y hs W;have h3:=fun W hW=>fdiv x y hx hy h0 W hW;have hsz:SmQ 1900 (x / y):=(SmQ.div (show SmQ 900 x from hx) (show SmQ 900 y from hy) h0).mono (by decide);have h4:=fun W=>wQ (x / y) hsz.1 (FitL.nat hsz.2) W;unfold Fv at h1 h2 h3
 exact nu _ _ _ _ _ _ _ _ _ w hl h1 h2 h3 h4
open Go.Lib (hid)
abbrev CV (w:World) (f:Nat) (args:Array Value) (v:Value):Prop:=∀ W,Below w.heap.size w W→Calls Tryz.prog f args W fun e w'=>e=.returned v∧Below W.heap.size W w'
theorem CV.mono {w W:World}{f:Nat}{args:Array Value}{v:Value}(h:CV w f args v)(hb:Below w.heap.size w W):CV W f args v:=fun X hX=>h X (hb.trans (hX.mono hb.size))
theorem CV.at {w:World}{f:Nat}{args:Array Value}{v:Value}(h:CV w f args v):Calls Tryz.prog f args w fun e w'=>e=.returned v∧Below w.heap.size w w':=h w (Below.refl _ _)
theorem kRat (x:ByteArray)(n:Int)(w₀:World)   :
 CV w₀ 54 #[.string x,.int .i64 n] (.string x):=by
 intro w hw;clear hw;go_enter func54,ntmps54
 have u6:=hid (Below.refl w.heap.size w);go_wp2;exact bodyPost_ret (v:=.string x) (by simp[results,results54,go_sem]) rfl ⟨rfl,u6.o⟩
theorem kInt (x n:Int)(w₀:World)   :
 CV w₀ 42 #[.int .i64 x,.int .i64 n] (.int .i64 x):=by
 intro w hw;clear hw;go_enter func42,ntmps42
 have u6:=hid (Below.refl w.heap.size w);go_wp2;exact bodyPost_ret (v:=.int .i64 x) (by simp[results,results42,go_sem]) rfl ⟨rfl,u6.o⟩
theorem mQ (x y z:ByteArray)(n:Int)(w₀:World)(h1:CV w₀ 57 #[.string x,.string y] (.tuple #[.string z,.int .i64 n]))  :
 CV w₀ 37 #[.string x,.string y] (.string z):=by
 intro w hw;have C1:=hid (h1.mono hw);clear h1 hw;go_enter func37,ntmps37
 have u6:=hid (Below.refl w.heap.size w);go_wp2_with fail
 with_reducible refine(C1.o _ u6.o).mono ?_
 rintro e W1 ⟨rfl,hb⟩;have w9:=hbt u6 hb;clear hb;go_wp2_with fail
 with_reducible refine(kRat z n _ _ w9.o).mono ?_
 rintro e W2 ⟨rfl,hb⟩;have wo:=hbt w9 hb;clear hb;go_wp2;exact bodyPost_ret (v:=.string z) (by simp[results,results37,go_sem]) rfl ⟨rfl,wo.o⟩
theorem xq (x y z:ByteArray)(n:Int)(w₀:World)(h1:CV w₀ 56 #[.string x,.string y] (.tuple #[.string z,.int .i64 n]))  :
 CV w₀ 34 #[.string x,.string y] (.string z):=by
 intro w hw;have C1:=hid (h1.mono hw);clear h1 hw;go_enter func34,ntmps34
 have u6:=hid (Below.refl w.heap.size w);go_wp2_with fail
 with_reducible refine(C1.o _ u6.o).mono ?_
 rintro e W1 ⟨rfl,hb⟩;have w9:=hbt u6 hb;clear hb;go_wp2_with fail
 with_reducible refine(kRat z n _ _ w9.o).mono ?_
 rintro e W2 ⟨rfl,hb⟩;have wo:=hbt w9 hb;clear hb;go_wp2;exact bodyPost_ret (v:=.string z) (by simp[results,results34,go_sem]) rfl ⟨rfl,wo.o⟩
theorem lc (x y z:ByteArray)(n:Int)(w₀:World)(h1:CV w₀ 77 #[.string x,.string y] (.tuple #[.string z,.int .i64 n]))  :
 CV w₀ 52 #[.string x,.string y] (.string z):=by
 intro w hw;have C1:=hid (h1.mono hw);clear h1 hw;go_enter func52,ntmps52
 have u6:=hid (Below.refl w.heap.size w);go_wp2_with fail
 with_reducible refine(C1.o _ u6.o).mono ?_
 rintro e W1 ⟨rfl,hb⟩;have w9:=hbt u6 hb;clear hb;go_wp2_with fail
 with_reducible refine(kRat z n _ _ w9.o).mono ?_
 rintro e W2 ⟨rfl,hb⟩;have wo:=hbt w9 hb;clear hb;go_wp2;exact bodyPost_ret (v:=.string z) (by simp[results,results52,go_sem]) rfl ⟨rfl,wo.o⟩
theorem yK (x y z:ByteArray)(n:Int)(w₀:World)(h1:CV w₀ 55 #[.string x,.string y] (.tuple #[.string z,.int .i64 n]))  :
 CV w₀ 33 #[.string x,.string y] (.string z):=by
 intro w hw;have C1:=hid (h1.mono hw);clear h1 hw;go_enter func33,ntmps33
 have u6:=hid (Below.refl w.heap.size w);go_wp2_with fail
 with_reducible refine(C1.o _ u6.o).mono ?_
 rintro e W1 ⟨rfl,hb⟩;have w9:=hbt u6 hb;clear hb;go_wp2_with fail
 with_reducible refine(kRat z n _ _ w9.o).mono ?_
 rintro e W2 ⟨rfl,hb⟩;have wo:=hbt w9 hb;clear hb;go_wp2;exact bodyPost_ret (v:=.string z) (by simp[results,results33,go_sem]) rfl ⟨rfl,wo.o⟩
theorem xn (x y:ByteArray)(c n:Int)(w₀:World)(h1:CV w₀ 43 #[.string x,.string y] (.tuple #[.int .i64 c,.int .i64 n]))  :
 CV w₀ 21 #[.string x,.string y] (.int .i64 c):=by
 intro w hw;have C1:=hid (h1.mono hw);clear h1 hw;go_enter func21,ntmps21
 have u6:=hid (Below.refl w.heap.size w);go_wp2_with fail
 with_reducible refine(C1.o _ u6.o).mono ?_
 rintro e W1 ⟨rfl,hb⟩;have w9:=hbt u6 hb;clear hb;go_wp2_with fail
 with_reducible refine(kInt c n _ _ w9.o).mono ?_
 rintro e W2 ⟨rfl,hb⟩;have wo:=hbt w9 hb;clear hb;go_wp2;exact bodyPost_ret (v:=.int .i64 c) (by simp[results,results21,go_sem]) rfl ⟨rfl,wo.o⟩
end Go.Proofs.YtiiedknabcebdaaGreatDoor
open Go.Lib (hid)
namespace Go.Proofs.YtiiedknabcebdaaGreatDoor
open Go.RowKit Go.Gb
theorem wJ {x:ByteArray}(h:x≠⟨#[]⟩):(x.toList==[])=false:=by
 rw[toList_data,beq_eq_false_iff_ne];intro e;apply h
 cases x with
 | mk d=>exact congrArg ByteArray.mk (Array.ext' (by simpa using e))
theorem ug (x y z:ByteArray)(w₀:World)   :
 CV w₀ 53 #[.agg #[.string x,.string y,.string z]] (.agg #[.string x,.string y,.string z]):=by
 intro w hw;clear hw;go_enter func53,ntmps53
 go_upto_region 1 with fail
 refine ay w [(#[.string x,.string y,.string z],90),(#[.string ⟨#[]⟩,.string ⟨#[]⟩,.string ⟨#[]⟩],67)] rfl ?_;rintro W0 ⟨k1,k2,hb⟩;have u6:=hid (show Below w.heap.size w W0 from hb);have K1:=hid k1;have K2:=hid k2;clear k1 k2 hb;obtain ⟨wu,ww,wy⟩:=aj K1.o rfl rfl rfl;obtain ⟨wz,sw,rM⟩:=aj K2.o rfl rfl rfl;obtain ⟨rV,p8,pq⟩:=aW K2.o;go_wp2;exact bodyPost_ret (v:=.agg #[.string x,.string y,.string z]) (by simp[results,results53,go_sem,wz,sw,rM]) rfl ⟨rfl,(au (l:=[.string x,.string y,.string z]) (i:=0) (by omega) u6.o)⟩
theorem fZ (x y z:ByteArray)(w₀:World)   :
 CV w₀ 29 #[.agg #[.string x,.string y,.string z]] (.agg #[.string x,.string y,.string z]):=by
 intro w hw;clear hw;go_enter func29,ntmps29
 go_upto_region 1 with fail
 refine ay w [(#[.string x,.string y,.string z],25),(#[.string ⟨#[]⟩,.string ⟨#[]⟩,.string ⟨#[]⟩],67)] rfl ?_;rintro W0 ⟨k1,k2,hb⟩;have u6:=hid (show Below w.heap.size w W0 from hb);have K1:=hid k1;have K2:=hid k2;clear k1 k2 hb;obtain ⟨wu,ww,wy⟩:=aj K1.o rfl rfl rfl;go_wp2_with fail
 with_reducible refine(ug x y z _ _ u6.o).mono ?_
 rintro e W1 ⟨rfl,hb⟩;clear wu ww wy;have K2:=hid (K2.o.below hb);have w9:=hbt u6 hb;clear hb;obtain ⟨wz,sw,rM⟩:=aj K2.o rfl rfl rfl;obtain ⟨rV,p8,pq⟩:=aW K2.o;go_wp2;exact bodyPost_ret (v:=.agg #[.string x,.string y,.string z]) (by simp[results,results29,go_sem,wz,sw,rM]) rfl ⟨rfl,(au (l:=[.string x,.string y,.string z]) (i:=0) (by omega) w9.o)⟩
theorem z0L  (w₀:World)   :
 CV w₀ 38 #[] (.agg #[.string ⟨#[48]⟩,.string ⟨#[48]⟩,.string ⟨#[48]⟩]):=by
 intro w hw;clear hw;go_enter func38,ntmps38
 go_upto_region 1 with fail
 refine ay w [(#[.string ⟨#[]⟩,.string ⟨#[]⟩,.string ⟨#[]⟩],67)] rfl ?_;rintro W0 ⟨k1,hb⟩;have u6:=hid (show Below w.heap.size w W0 from hb);have K1:=hid k1;clear k1 hb;obtain ⟨wu,ww,wy⟩:=aj K1.o rfl rfl rfl;obtain ⟨ol,oM,oV⟩:=aW K1.o;go_wp2;exact bodyPost_ret (v:=.agg #[.string ⟨#[48]⟩,.string ⟨#[48]⟩,.string ⟨#[48]⟩]) (by simp[results,results38,go_sem,wu,ww,wy]) rfl ⟨rfl,(au (l:=[.string ⟨#[48]⟩,.string ⟨#[48]⟩,.string ⟨#[48]⟩]) (i:=0) (by omega) u6.o)⟩
theorem cix0 (x y z:ByteArray)(W:World):(Instr.index 67 (.agg #[.string x,.string y,.string z]) (.int .i64 0)).run Tryz.prog W=.ok (.string x) W:=by kernel_rfl
theorem cix1 (x y z:ByteArray)(W:World):(Instr.index 67 (.agg #[.string x,.string y,.string z]) (.int .i64 1)).run Tryz.prog W=.ok (.string y) W:=by kernel_rfl
theorem cix2 (x y z:ByteArray)(W:World):(Instr.index 67 (.agg #[.string x,.string y,.string z]) (.int .i64 2)).run Tryz.prog W=.ok (.string z) W:=by kernel_rfl
theorem z0S (x y z:ByteArray)(w₀:World)  (hx:x≠⟨#[]⟩)(hy:y≠⟨#[]⟩)(hz:z≠⟨#[]⟩) :
 CV w₀ 30 #[.agg #[.string x,.string y,.string z]] (.tuple #[.agg #[.string x,.string y,.string z],.int .i64 0]):=by
 intro w hw;have i0:=cix0 x y z;have i1:=cix1 x y z;have i2:=cix2 x y z;have kx:=wJ hx;clear hx;have ky:=wJ hy;clear hy;have kz:=wJ hz;clear hz hw;go_enter func30,ntmps30
 go_upto_region 1 with fail
 refine ay w [(#[.string x,.string y,.string z],67),(#[.string ⟨#[]⟩,.string ⟨#[]⟩,.string ⟨#[]⟩],25)] rfl ?_;rintro W0 ⟨k1,k2,hb⟩;have u6:=hid (show Below w.heap.size w W0 from hb);have K1:=hid k1;have K2:=hid k2;clear k1 k2 hb;obtain ⟨wu,ww,wy⟩:=aj K1.o rfl rfl rfl;go_wp2;clear wu ww wy;refine wp_loop_rounds 4 ?_;rw[rounds_succ];go_wp2;rw[rounds_succ];go_wp2;rw[rounds_succ];go_wp2;rw[rounds_succ];obtain ⟨wu,ww,wy⟩:=aj K1.o rfl rfl rfl;obtain ⟨wz,sw,rM⟩:=aj K2.o rfl rfl rfl;obtain ⟨rV,p8,pq⟩:=aW K2.o;go_wp2;exact bodyPost_ret (v:=.tuple #[.agg #[.string x,.string y,.string z],.int .i64 0]) (by simp[results,results30,go_sem,wz,sw,rM]) rfl ⟨rfl,(au (l:=[.string x,.string y,.string z]) (i:=0) (by omega) u6.o)⟩
theorem qd (x:ByteArray)(w₀:World)  (hx:x≠⟨#[]⟩) :
 CV w₀ 40 #[.string x] (.tuple #[.string x,.int .i64 0]):=by
 intro w hw;have kx:=wJ hx;clear hx hw;go_enter func40,ntmps40
 have u6:=hid (Below.refl w.heap.size w);go_wp2;exact bodyPost_ret (v:=.tuple #[.string x,.int .i64 0]) (by simp[results,results40,go_sem]) rfl ⟨rfl,u6.o⟩
theorem z3e  (w₀:World)   :
 CV w₀ 40 #[.string ⟨#[]⟩] (.tuple #[.string ⟨#[]⟩,.int .i64 1]):=by
 intro w hw;clear hw;go_enter func40,ntmps40
 have u6:=hid (Below.refl w.heap.size w);go_wp2;exact bodyPost_ret (v:=.tuple #[.string ⟨#[]⟩,.int .i64 1]) (by simp[results,results40,go_sem]) rfl ⟨rfl,u6.o⟩
set_option maxRecDepth 100000 in
theorem uH (d:Nat)(a b c x y z:ByteArray)(W:World):(Op.equalIn (d+1+1) 67 (.agg #[.string a,.string b,.string c]) (.agg #[.string x,.string y,.string z])).run Tryz.prog W=.ok (a.toList==x.toList&&(b.toList==y.toList&&c.toList==z.toList)) W:=by
 have hs:∀ a b:ByteArray,∀ W,(Op.equalIn (d+1) 23 (.string a) (.string b)).run Tryz.prog W=.ok (a.toList==b.toList) W:=fun a b W=>run_equalIn_string W d 23 a b underlying23;have p0:∀ (a b c:ByteArray) W,(part 23 #[.string a,.string b,.string c] 0).run Tryz.prog W=.ok (.string a) W:=fun _ _ _ _=>by kernel_rfl
 have p1:∀ (a b c:ByteArray) W,(part 23 #[.string a,.string b,.string c] 1).run Tryz.prog W=.ok (.string b) W:=fun _ _ _ _=>by kernel_rfl
 have p2:∀ (a b c:ByteArray) W,(part 23 #[.string a,.string b,.string c] 2).run Tryz.prog W=.ok (.string c) W:=fun _ _ _ _=>by kernel_rfl
 have hc:∀ W,(sizeOf 23).run Tryz.prog W=.ok 1 W:=fun _=>by kernel_rfl
 generalize d+1=k at *;have hu:=underlying67;simp only[Op.equalIn,Sem.run_bind,run_underlying hu,Result.andThen_ok,hc];rw[show([:3]:Std.Legacy.Range)=[0:3]from rfl];simp only[Std.Legacy.Range.forIn_eq_forIn_range',Std.Legacy.Range.size,List.range',List.forIn_cons,List.forIn_nil,Sem.run_bind,Nat.mul_one,Nat.zero_add,p0,hs,Result.andThen_ok];cases a.toList==x.toList<;>cases h2:b.toList==y.toList<;>cases h3:c.toList==z.toList<;>simp[Sem.run_pure,Sem.run_bind,h2,h3,p1,p2,hs]
def pJ (a b c x y z:ByteArray):Bool:=a.toList==x.toList&&(b.toList==y.toList&&c.toList==z.toList)
theorem qD {a b c x y z:ByteArray}{r:Bool}(h:pJ a b c x y z=r)(W:World):(Op.equalIn 10000 67 (.agg #[.string a,.string b,.string c]) (.agg #[.string x,.string y,.string z])).run Tryz.prog W=.ok r W:=by
 subst h;exact uH 9998 a b c x y z W
