/- rational.compare; Add, Sub, Mul, Div, Compare, Make in core's Rat. -/
import Derived.Test.YthjmjlfnpnbonaaGreatDoorQi
set_option maxRecDepth 100000
set_option maxHeartbeats 20000000
open Go.Lib (hid)
namespace Go.Proofs.YthjmjlfnpnbonaaGreatDoor
open Go.RowKit Go.Gb
theorem compare_small_raw (x1 x2 y1 y2:ByteArray)(p q r s c:Int)(w:World)
 (h1:CQ 114 #[.agg #[.string x1,.string x2],.agg #[.string y1,.string y2]] (.tuple #[.agg #[.int .i64 p,.int .i64 q],.agg #[.int .i64 r,.int .i64 s],.bool true]))
 (h2:CQ 126 #[.agg #[.int .i64 p,.int .i64 q],.agg #[.int .i64 r,.int .i64 s]] (.int .i64 c)) :
 CR 105 #[.agg #[.string x1,.string x2],.agg #[.string y1,.string y2]] w (.int .i64 c):=by
 have C1:=hid h1
 have C2:=hid h2
 obtain⟨w0,hw0⟩:∃ w0:World,w0=((w.alloc (.cells #[.string x1,.string x2] 128)).alloc (.cells #[.string y1,.string y2] 128)):=⟨_,rfl⟩
 have hz0:w0.heap.size=w.heap.size+2:=by rw[hw0];simp
 have hB0:Below w.heap.size w w0:=by
  rw[hw0]
  repeat (first|exact Below.refl _ _|refine Below.setCell ?_ (by first|omega|(simp;omega)|simp) _|refine Below.alloc ?_ (by first|omega|(simp;omega)|simp) _|refine Below.drew ?_)
 have hS0:w0.cell? ⟨w.heap.size,0,none⟩=some (.string x1)∧w0.cell? ⟨w.heap.size,1,none⟩=some (.string x2)∧w0.cell? ⟨w.heap.size+1,0,none⟩=some (.string y1)∧w0.cell? ⟨w.heap.size+1,1,none⟩=some (.string y2):=by rw[hw0];exact⟨((q_lt).trans ((q_new).trans rfl)),((q_lt).trans ((q_new).trans rfl)),((q_new).trans rfl),((q_new).trans rfl)⟩
 have KS:=hid (show ∀ W:World,Below w0.heap.size w0 W→(W.cell? ⟨w.heap.size,0,none⟩=some (.string x1)∧W.cell? ⟨w.heap.size,1,none⟩=some (.string x2)∧W.cell? ⟨w.heap.size+1,0,none⟩=some (.string y1)∧W.cell? ⟨w.heap.size+1,1,none⟩=some (.string y2)) from fun W hB=>by
  obtain⟨c0,c1,c2,c3⟩:=hS0
  exact⟨(hB.cell (p:=⟨w.heap.size,0,none⟩) (by show w.heap.size<_;omega)).trans c0,(hB.cell (p:=⟨w.heap.size,1,none⟩) (by show w.heap.size<_;omega)).trans c1,(hB.cell (p:=⟨w.heap.size+1,0,none⟩) (by show w.heap.size+1<_;omega)).trans c2,(hB.cell (p:=⟨w.heap.size+1,1,none⟩) (by show w.heap.size+1<_;omega)).trans c3⟩)
 have KZ:=hid (show ∀ W:World,Below w0.heap.size w0 W→w.heap.size+2≤W.heap.size from fun W hB=>by have:=hB.size;omega)
 have KB:=hid (show ∀ W:World,Below w0.heap.size w0 W→Below w.heap.size w W from fun W hB=>hB0.trans (hB.mono (by omega)))
 have F0:=hid (Below.refl w0.heap.size w0)
 have HW0:=hid hw0
 clear hz0 hB0 hS0 hw0 h1 h2
 go_enter Tryz.func105,Tryz.ntmps105
 go_wp2_with fail
 rw[← HW0.out]
 obtain⟨d0,d1,d2,d3⟩:=KS.out _ F0.out
 go_wp2_with fail
 refine(C1.out _).mono ?_
 rintro e w1 ⟨rfl,hb⟩
 obtain⟨w2,hw2⟩:∃ W:World,W=(w1.alloc (.cells #[.int .i64 p,.int .i64 q] 148)).alloc (.cells #[.int .i64 r,.int .i64 s] 148):=⟨_,rfl⟩
 have HW2:=hid hw2
 have F2:=hid (show Below w0.heap.size w0 w2 by rw[hw2];exact fr_alloc (fr_alloc (fr_chain F0.out hb) _) _)
 have SZ:w1.heap.size<(w1.alloc (.cells #[.int .i64 p,.int .i64 q] 148)).heap.size:=by simp
 have k0:w2.cell? ⟨w1.heap.size,0,none⟩=some (.int .i64 p):=by rw[hw2];exact(q_lt SZ).trans ((q_new rfl).trans rfl)
 have k1:w2.cell? ⟨w1.heap.size,1,none⟩=some (.int .i64 q):=by rw[hw2];exact(q_lt SZ).trans ((q_new rfl).trans rfl)
 have k2:w2.cell? ⟨w1.heap.size+1,0,none⟩=some (.int .i64 r):=by rw[hw2];exact(q_new (by simp)).trans rfl
 have k3:w2.cell? ⟨w1.heap.size+1,1,none⟩=some (.int .i64 s):=by rw[hw2];exact(q_new (by simp)).trans rfl
 clear SZ hw2 hb d0 d1 d2 d3
 obtain⟨d0,d1,d2,d3⟩:=KS.out _ F2.out
 go_upto_region 3 with fail
 rw[← HW2.out]
 go_wp2_with fail
 refine(C2.out _).mono ?_
 rintro e w3 ⟨rfl,hb⟩
 have F3:=hid (fr_chain F2.out hb)
 clear hb d0 d1 d2 d3
 obtain⟨d0,d1,d2,d3⟩:=KS.out _ F3.out
 go_wp2
 go_ret
 exact⟨rfl,KB.out _ F3.out⟩
theorem compare_sign_raw (x1 x2 y1 y2:ByteArray)(p q c:Int)(hpq:p≠q)(w:World)(hl:La w)
 (h1:CQ 114 #[.agg #[.string x1,.string x2],.agg #[.string y1,.string y2]] (.tuple #[.agg #[.int .i64 0,.int .i64 0],.agg #[.int .i64 0,.int .i64 0],.bool false]))
 (h2:CL 102 #[.string x1] (.int .i64 p))
 (h3:CL 102 #[.string y1] (.int .i64 q))
 (h4:CL 127 #[.string x1,.string y1] (.int .i64 c)) :
 CR 105 #[.agg #[.string x1,.string x2],.agg #[.string y1,.string y2]] w (.int .i64 c):=by
 have C1:=hid h1
 have C2:=hid h2
 have C3:=hid h3
 have C4:=hid h4
 obtain⟨w0,hw0⟩:∃ w0:World,w0=((w.alloc (.cells #[.string x1,.string x2] 128)).alloc (.cells #[.string y1,.string y2] 128)):=⟨_,rfl⟩
 have hz0:w0.heap.size=w.heap.size+2:=by rw[hw0];simp
 have hB0:Below w.heap.size w w0:=by
  rw[hw0]
  repeat (first|exact Below.refl _ _|refine Below.setCell ?_ (by first|omega|(simp;omega)|simp) _|refine Below.alloc ?_ (by first|omega|(simp;omega)|simp) _|refine Below.drew ?_)
 have hS0:w0.cell? ⟨w.heap.size,0,none⟩=some (.string x1)∧w0.cell? ⟨w.heap.size,1,none⟩=some (.string x2)∧w0.cell? ⟨w.heap.size+1,0,none⟩=some (.string y1)∧w0.cell? ⟨w.heap.size+1,1,none⟩=some (.string y2):=by rw[hw0];exact⟨((q_lt).trans ((q_new).trans rfl)),((q_lt).trans ((q_new).trans rfl)),((q_new).trans rfl),((q_new).trans rfl)⟩
 have KS:=hid (show ∀ W:World,Below w0.heap.size w0 W→(W.cell? ⟨w.heap.size,0,none⟩=some (.string x1)∧W.cell? ⟨w.heap.size,1,none⟩=some (.string x2)∧W.cell? ⟨w.heap.size+1,0,none⟩=some (.string y1)∧W.cell? ⟨w.heap.size+1,1,none⟩=some (.string y2)) from fun W hB=>by
  obtain⟨c0,c1,c2,c3⟩:=hS0
  exact⟨(hB.cell (p:=⟨w.heap.size,0,none⟩) (by show w.heap.size<_;omega)).trans c0,(hB.cell (p:=⟨w.heap.size,1,none⟩) (by show w.heap.size<_;omega)).trans c1,(hB.cell (p:=⟨w.heap.size+1,0,none⟩) (by show w.heap.size+1<_;omega)).trans c2,(hB.cell (p:=⟨w.heap.size+1,1,none⟩) (by show w.heap.size+1<_;omega)).trans c3⟩)
 have KZ:=hid (show ∀ W:World,Below w0.heap.size w0 W→w.heap.size+2≤W.heap.size from fun W hB=>by have:=hB.size;omega)
 have KB:=hid (show ∀ W:World,Below w0.heap.size w0 W→Below w.heap.size w W from fun W hB=>hB0.trans (hB.mono (by omega)))
 have F0:=hid (Below.refl w0.heap.size w0)
 have HW0:=hid hw0
 clear hz0 hB0 hS0 hw0
 have HL:=hid (show ∀ W:World,Below w0.heap.size w0 W→La W from fun W hB=>hl.on (KB.out W hB))
 clear hl
 have hpq1:(p==q)=false:=by simpa using hpq
 have hpq2:(p != q)=true:=by simpa using hpq
 clear h1 h2 h3 h4
 go_enter Tryz.func105,Tryz.ntmps105
 go_wp2_with fail
 rw[← HW0.out]
 obtain⟨d0,d1,d2,d3⟩:=KS.out _ F0.out
 go_wp2_with fail
 refine(C1.out _).mono ?_
 rintro e w1 ⟨rfl,hb⟩
 obtain⟨w2,hw2⟩:∃ W:World,W=(w1.alloc (.cells #[.int .i64 0,.int .i64 0] 148)).alloc (.cells #[.int .i64 0,.int .i64 0] 148):=⟨_,rfl⟩
 have HW2:=hid hw2
 have F2:=hid (show Below w0.heap.size w0 w2 by rw[hw2];exact fr_alloc (fr_alloc (fr_chain F0.out hb) _) _)
 clear hw2 hb d0 d1 d2 d3
 obtain⟨d0,d1,d2,d3⟩:=KS.out _ F2.out
 go_upto_region 4 with fail
 rw[← HW2.out]
 go_wp2_with fail
 go_region_held3 (fun w'=>w'.cell? ⟨w.heap.size,0,none⟩=some (.string x1)∧w'.cell? ⟨w.heap.size,1,none⟩=some (.string x2)∧w'.cell? ⟨w.heap.size+1,0,none⟩=some (.string y1)∧w'.cell? ⟨w.heap.size+1,1,none⟩=some (.string y2)) (first|(with_reducible exact KS.out _ F4.out)|(with_reducible exact KS.out _ F4.out.drew)|(with_reducible exact KS.out _ F3.out)|(with_reducible exact KS.out _ F3.out.drew)|(with_reducible exact KS.out _ F2.out)|(with_reducible exact KS.out _ F2.out.drew))
  (first
   | (go_at_call 102;(with_reducible refine(C2.out _ ?la2).mono ?_);(case la2=>first|exact HL.out _ F2.out|exact HL.out _ F2.out.drew);rintro e w3 ⟨rfl,hb⟩;have F3:=hid (show Below w0.heap.size w0 w3 by first|exact fr_chain F2.out hb|exact fr_chain F2.out.drew hb);clear hb)
   | (go_at_call 102;(with_reducible refine(C3.out _ ?la3).mono ?_);(case la3=>first|exact HL.out _ F3.out|exact HL.out _ F3.out.drew);rintro e w4 ⟨rfl,hb⟩;have F4:=hid (show Below w0.heap.size w0 w4 by first|exact fr_chain F3.out hb|exact fr_chain F3.out.drew hb);clear hb)
   | fail)
 go_wp2_with fail
 obtain⟨d0,d1,d2,d3⟩:=KS.out _ F4.out
 go_wp2_with fail
 refine(C4.out _ (HL.out _ F4.out)).mono ?_
 rintro e w5 ⟨rfl,hb⟩
 have F5:=hid (fr_chain F4.out hb)
 clear hb d0 d1 d2 d3
 obtain⟨d0,d1,d2,d3⟩:=KS.out _ F5.out
 go_wp2
 go_ret
 exact⟨rfl,KB.out _ F5.out⟩
theorem compare_cross_raw (x1 x2 y1 y2 t u:ByteArray)(p c:Int)(w:World)(hl:La w)
 (h1:CQ 114 #[.agg #[.string x1,.string x2],.agg #[.string y1,.string y2]] (.tuple #[.agg #[.int .i64 0,.int .i64 0],.agg #[.int .i64 0,.int .i64 0],.bool false]))
 (h2:CL 102 #[.string x1] (.int .i64 p))
 (h3:CL 102 #[.string y1] (.int .i64 p))
 (h4:CL 128 #[.string x1,.string y2] (.string t))
 (h5:CL 128 #[.string y1,.string x2] (.string u))
 (h6:CL 127 #[.string t,.string u] (.int .i64 c)) :
 CR 105 #[.agg #[.string x1,.string x2],.agg #[.string y1,.string y2]] w (.int .i64 c):=by
 have C1:=hid h1
 have C2:=hid h2
 have C3:=hid h3
 have C4:=hid h4
 have C5:=hid h5
 have C6:=hid h6
 obtain⟨w0,hw0⟩:∃ w0:World,w0=((w.alloc (.cells #[.string x1,.string x2] 128)).alloc (.cells #[.string y1,.string y2] 128)):=⟨_,rfl⟩
 have hz0:w0.heap.size=w.heap.size+2:=by rw[hw0];simp
 have hB0:Below w.heap.size w w0:=by
  rw[hw0]
  repeat (first|exact Below.refl _ _|refine Below.setCell ?_ (by first|omega|(simp;omega)|simp) _|refine Below.alloc ?_ (by first|omega|(simp;omega)|simp) _|refine Below.drew ?_)
 have hS0:w0.cell? ⟨w.heap.size,0,none⟩=some (.string x1)∧w0.cell? ⟨w.heap.size,1,none⟩=some (.string x2)∧w0.cell? ⟨w.heap.size+1,0,none⟩=some (.string y1)∧w0.cell? ⟨w.heap.size+1,1,none⟩=some (.string y2):=by rw[hw0];exact⟨((q_lt).trans ((q_new).trans rfl)),((q_lt).trans ((q_new).trans rfl)),((q_new).trans rfl),((q_new).trans rfl)⟩
 have KS:=hid (show ∀ W:World,Below w0.heap.size w0 W→(W.cell? ⟨w.heap.size,0,none⟩=some (.string x1)∧W.cell? ⟨w.heap.size,1,none⟩=some (.string x2)∧W.cell? ⟨w.heap.size+1,0,none⟩=some (.string y1)∧W.cell? ⟨w.heap.size+1,1,none⟩=some (.string y2)) from fun W hB=>by
  obtain⟨c0,c1,c2,c3⟩:=hS0
  exact⟨(hB.cell (p:=⟨w.heap.size,0,none⟩) (by show w.heap.size<_;omega)).trans c0,(hB.cell (p:=⟨w.heap.size,1,none⟩) (by show w.heap.size<_;omega)).trans c1,(hB.cell (p:=⟨w.heap.size+1,0,none⟩) (by show w.heap.size+1<_;omega)).trans c2,(hB.cell (p:=⟨w.heap.size+1,1,none⟩) (by show w.heap.size+1<_;omega)).trans c3⟩)
 have KZ:=hid (show ∀ W:World,Below w0.heap.size w0 W→w.heap.size+2≤W.heap.size from fun W hB=>by have:=hB.size;omega)
 have KB:=hid (show ∀ W:World,Below w0.heap.size w0 W→Below w.heap.size w W from fun W hB=>hB0.trans (hB.mono (by omega)))
 have F0:=hid (Below.refl w0.heap.size w0)
 have HW0:=hid hw0
 clear hz0 hB0 hS0 hw0
 have HL:=hid (show ∀ W:World,Below w0.heap.size w0 W→La W from fun W hB=>hl.on (KB.out W hB))
 clear hl h1 h2 h3 h4 h5 h6
 go_enter Tryz.func105,Tryz.ntmps105
 go_wp2_with fail
 rw[← HW0.out]
 obtain⟨d0,d1,d2,d3⟩:=KS.out _ F0.out
 go_wp2_with fail
 refine(C1.out _).mono ?_
 rintro e w1 ⟨rfl,hb⟩
 obtain⟨w2,hw2⟩:∃ W:World,W=(w1.alloc (.cells #[.int .i64 0,.int .i64 0] 148)).alloc (.cells #[.int .i64 0,.int .i64 0] 148):=⟨_,rfl⟩
 have HW2:=hid hw2
 have F2:=hid (show Below w0.heap.size w0 w2 by rw[hw2];exact fr_alloc (fr_alloc (fr_chain F0.out hb) _) _)
 clear hw2 hb d0 d1 d2 d3
 obtain⟨d0,d1,d2,d3⟩:=KS.out _ F2.out
 go_upto_region 4 with fail
 rw[← HW2.out]
 go_wp2_with fail
 go_region_held3 (fun w'=>w'.cell? ⟨w.heap.size,0,none⟩=some (.string x1)∧w'.cell? ⟨w.heap.size,1,none⟩=some (.string x2)∧w'.cell? ⟨w.heap.size+1,0,none⟩=some (.string y1)∧w'.cell? ⟨w.heap.size+1,1,none⟩=some (.string y2)) (first|(with_reducible exact KS.out _ F4.out)|(with_reducible exact KS.out _ F4.out.drew)|(with_reducible exact KS.out _ F3.out)|(with_reducible exact KS.out _ F3.out.drew)|(with_reducible exact KS.out _ F2.out)|(with_reducible exact KS.out _ F2.out.drew))
  (first
   | (go_at_call 102;(with_reducible refine(C2.out _ ?la2).mono ?_);(case la2=>first|exact HL.out _ F2.out|exact HL.out _ F2.out.drew);rintro e w3 ⟨rfl,hb⟩;have F3:=hid (show Below w0.heap.size w0 w3 by first|exact fr_chain F2.out hb|exact fr_chain F2.out.drew hb);clear hb)
   | (go_at_call 102;(with_reducible refine(C3.out _ ?la3).mono ?_);(case la3=>first|exact HL.out _ F3.out|exact HL.out _ F3.out.drew);rintro e w4 ⟨rfl,hb⟩;have F4:=hid (show Below w0.heap.size w0 w4 by first|exact fr_chain F3.out hb|exact fr_chain F3.out.drew hb);clear hb)
   | fail)
 go_wp2_with fail
 go_region_held3 (fun w'=>w'.cell? ⟨w.heap.size,0,none⟩=some (.string x1)∧w'.cell? ⟨w.heap.size,1,none⟩=some (.string x2)∧w'.cell? ⟨w.heap.size+1,0,none⟩=some (.string y1)∧w'.cell? ⟨w.heap.size+1,1,none⟩=some (.string y2)) (first|(with_reducible exact KS.out _ F7.out)|(with_reducible exact KS.out _ F7.out.drew)|(with_reducible exact KS.out _ F6.out)|(with_reducible exact KS.out _ F6.out.drew)|(with_reducible exact KS.out _ F5.out)|(with_reducible exact KS.out _ F5.out.drew)|(with_reducible exact KS.out _ F4.out)|(with_reducible exact KS.out _ F4.out.drew))
  (first
   | (go_at_call 128;(with_reducible refine(C4.out _ ?la4).mono ?_);(case la4=>first|exact HL.out _ F4.out|exact HL.out _ F4.out.drew);rintro e w5 ⟨rfl,hb⟩;have F5:=hid (show Below w0.heap.size w0 w5 by first|exact fr_chain F4.out hb|exact fr_chain F4.out.drew hb);clear hb)
   | (go_at_call 128;(with_reducible refine(C5.out _ ?la5).mono ?_);(case la5=>first|exact HL.out _ F5.out|exact HL.out _ F5.out.drew);rintro e w6 ⟨rfl,hb⟩;have F6:=hid (show Below w0.heap.size w0 w6 by first|exact fr_chain F5.out hb|exact fr_chain F5.out.drew hb);clear hb)
   | (go_at_call 127;(with_reducible refine(C6.out _ ?la6).mono ?_);(case la6=>first|exact HL.out _ F6.out|exact HL.out _ F6.out.drew);rintro e w7 ⟨rfl,hb⟩;have F7:=hid (show Below w0.heap.size w0 w7 by first|exact fr_chain F6.out hb|exact fr_chain F6.out.drew hb);clear hb)
   | fail)
 all_goals
  go_wp2
  go_ret
  exact⟨rfl,by first|exact KB.out _ F7.out|exact KB.out _ F7.out.drew⟩
theorem sq_concat (q:Rat)(h:q.den≠1):Sz q.num++⟨#[47]⟩++Sz (q.den:Int)=Sq q:=by
 rw[sq_frac h,sz_nat]
 apply ByteArray.ext
 apply Array.ext'
 simp[Sn]
theorem sw_facts (n:Int)(d:Nat)(hd:d≠0):n.tdiv ((Nat.gcd n.natAbs d:Nat):Int)=(mkRat n d).num∧(d:Int).tdiv ((Nat.gcd n.natAbs d:Nat):Int)=((mkRat n d).den:Int)∧0<Nat.gcd n.natAbs d∧Nat.gcd n.natAbs d≤d∧((mkRat n d).den=1→d=Nat.gcd n.natAbs d)∧((mkRat n d).den≠1→d≠Nat.gcd n.natAbs d):=by
 obtain⟨e1,e2⟩:=mk_parts n d hd
 have hg:0<Nat.gcd n.natAbs d:=Nat.gcd_pos_of_pos_right _ (Nat.pos_of_ne_zero hd)
 have hdv:Nat.gcd n.natAbs d∣d:=Nat.gcd_dvd_right _ _
 have hnv:((Nat.gcd n.natAbs d:Nat):Int)∣n:=Int.dvd_natAbs.1 (Int.natCast_dvd_natCast.2 (Nat.gcd_dvd_left _ _))
 refine⟨?_,?_,hg,Nat.gcd_le_right _ (Nat.pos_of_ne_zero hd),?_,?_⟩
 · rw[e1];exact Int.tdiv_eq_ediv_of_dvd hnv
 · rw[e2,Int.natCast_ediv];exact Int.tdiv_eq_ediv_of_nonneg (by omega)
 · intro h
   rw[e2]at h
   have h2:=Nat.div_mul_cancel hdv
   rw[h,Nat.one_mul]at h2
   exact h2.symm
 · intro h h2
   apply h
   rw[e2]
   exact Nat.div_eq_of_eq_mul_left hg (by omega)
theorem sw_bounds (n:Int)(d:Nat)(hd:d≠0)(bn:n.natAbs≤4000000000000000000)(bd:d≤4000000000000000000):(mkRat n d).num.natAbs≤4000000000000000000∧(mkRat n d).den≤4000000000000000000∧(Sz (mkRat n d).num).size≤1000∧(Sz ((mkRat n d).den:Int)).size≤1000:=by
 obtain⟨e1,e2⟩:=mk_le n d hd
 have h1:Sm 20 (mkRat n d).num.natAbs:=by unfold Sm;omega
 have h2:Sm 20 ((mkRat n d).den:Int).natAbs:=by rw[Int.natAbs_natCast];unfold Sm;omega
 have h3:=sz_size h1 (by decide)
 have h4:=sz_size h2 (by decide)
 exact⟨by omega,by omega,by omega,by omega⟩
theorem sw_pos (n:Int)(d:Nat)(hd:d≠0)(bn:n.natAbs≤4000000000000000000)(bd:d≤4000000000000000000)(w:World)(hl:La w) :
 CR 115 #[.agg #[.int .i64 n,.int .i64 (d:Int)]] w (.string (Sq (mkRat n d))):=by
 obtain⟨f1,f2,f3,f4,f5,f6⟩:=sw_facts n d hd
 obtain⟨b1,b2,b3,b4⟩:=sw_bounds n d hd bn bd
 have hg:=fun W=>rgcd n (d:Int) (by omega) (by rw[Int.natAbs_natCast];omega) W
 rw[Int.natAbs_natCast]at hg
 have k1:(mkRat n d).num≤9223372036854775807 ∧ -9223372036854775808≤(mkRat n d).num:=by omega
 by_cases h:(mkRat n d).den=1
 · have h2:=f5 h
   rw[sq_int h]
   rw[← h2]at hg f1
   exact swrite_pos_one n (d:Int) (mkRat n d).num _ ⟨#[]⟩ (by omega) (by omega) f1 b1 w hl b3 (by decide) hg (fun W hW=>rfmt _ k1.2 k1.1 W hW)
 · have h2:=f6 h
   rw[← sq_concat _ h]
   exact swrite_pos_more n (d:Int) ((Nat.gcd n.natAbs d:Nat):Int) (mkRat n d).num ((mkRat n d).den:Int) _ _ (by omega) (by omega) (by omega) f1 b1 f2 (by rw[Int.natAbs_natCast];exact b2) (by rw[beq_eq_false_iff_ne];omega) w hl b3 b4 hg (fun W hW=>rfmt _ k1.2 k1.1 W hW) (fun W hW=>rfmt _ (by omega) (by omega) W hW)
theorem sw_neg (a b n:Int)(d:Nat)(hn : -a=n)(hb : -b=(d:Int))(hd:d≠0)(bn:n.natAbs≤4000000000000000000)(bd:d≤4000000000000000000)(w:World)(hl:La w) :
 CR 115 #[.agg #[.int .i64 a,.int .i64 b]] w (.string (Sq (mkRat n d))):=by
 obtain⟨f1,f2,f3,f4,f5,f6⟩:=sw_facts n d hd
 obtain⟨b1,b2,b3,b4⟩:=sw_bounds n d hd bn bd
 have hg:=fun W=>rgcd n (d:Int) (by omega) (by rw[Int.natAbs_natCast];omega) W
 rw[Int.natAbs_natCast]at hg
 have k1:(mkRat n d).num≤9223372036854775807 ∧ -9223372036854775808≤(mkRat n d).num:=by omega
 by_cases h:(mkRat n d).den=1
 · have h2:=f5 h
   rw[sq_int h]
   rw[← h2]at hg f1
   exact swrite_neg_one a b (d:Int) (mkRat n d).num n _ ⟨#[]⟩ hn hb (by omega) (by omega) (by omega) (by omega) f1 b1 w hl b3 (by decide) hg (fun W hW=>rfmt _ k1.2 k1.1 W hW)
 · have h2:=f6 h
   rw[← sq_concat _ h]
   exact swrite_neg_more a b ((Nat.gcd n.natAbs d:Nat):Int) (mkRat n d).num ((mkRat n d).den:Int) n (d:Int) _ _ hn hb (by omega) (by omega) (by omega) (by omega) (by omega) f1 b1 f2 (by rw[Int.natAbs_natCast];exact b2) (by rw[beq_eq_false_iff_ne];omega) w hl b3 b4 hg (fun W hW=>rfmt _ k1.2 k1.1 W hW) (fun W hW=>rfmt _ (by omega) (by omega) W hW)
def Sma (x y:Rat):Prop:=(Sz x.num).size≤9∧(Sz (x.den:Int)).size≤9∧(Sz y.num).size≤9∧(Sz (y.den:Int)).size≤9
theorem sm9_lt {z:Int}(h:(Sz z).size≤9):z.natAbs<1000000000:=by
 have h1:z.natAbs<10^9:=smz_of' h
 omega
theorem smallBoth_yes (x y:Rat)(h:Sma x y)(w:World) :
 CR 114 #[Fv x,Fv y] w (.tuple #[.agg #[.int .i64 x.num,.int .i64 (x.den:Int)],.agg #[.int .i64 y.num,.int .i64 (y.den:Int)],.bool true]):=by
 unfold Fv
 exact smallBoth_raw _ _ _ _ _ _ _ _ h w (fun W=>rparse _ (Nat.le_trans h.1 (by decide)) W) (fun W=>rparse _ (Nat.le_trans h.2.1 (by decide)) W) (fun W=>rparse _ (Nat.le_trans h.2.2.1 (by decide)) W) (fun W=>rparse _ (Nat.le_trans h.2.2.2 (by decide)) W)
theorem smallBoth_not (x y:Rat)(h:¬ Sma x y)(w:World) :
 CR 114 #[Fv x,Fv y] w (.tuple #[.agg #[.int .i64 0,.int .i64 0],.agg #[.int .i64 0,.int .i64 0],.bool false]):=by
 unfold Fv
 refine smallBoth_no _ _ _ _ ?_ w
 unfold Sma at h
 omega
theorem cmpZ_cross (a b:Int):cmpZ a b=if a<b then -1 else if b<a then 1 else 0:=by
 rcases Int.lt_trichotomy a b with h|h|h
 · rw[cmpZ_lt h,if_pos h]
 · subst h;rw[cmpZ_eq,if_neg (by omega),if_neg (by omega)]
 · rw[cmpZ_gt h,if_neg (by omega),if_pos h]
theorem mul_den_sign (n:Int)(d:Nat)(hd:d≠0):(n*(d:Int)<0∧n<0)∨(n*(d:Int)=0∧n=0)∨(0<n*(d:Int)∧0<n):=by
 have hp:(0:Int)<(d:Int):=by omega
 rcases Int.lt_trichotomy n 0 with h|h|h
 · exact Or.inl ⟨Int.mul_neg_of_neg_of_pos h hp,h⟩
 · subst h;exact Or.inr (Or.inl ⟨by simp,rfl⟩)
 · exact Or.inr (Or.inr ⟨Int.mul_pos h hp,h⟩)
theorem cmp_signs (x y:Rat)(h:x.num.sign≠y.num.sign):cmpZ x.num y.num=cmpQ x y:=by
 rw[cmpQ_cross x y _ _ rfl rfl,cmpZ_cross]
 rcases mul_den_sign x.num y.den y.den_nz with⟨h1,h2⟩|⟨h1,h2⟩|⟨h1,h2⟩<;>rcases mul_den_sign y.num x.den x.den_nz with⟨h3,h4⟩|⟨h3,h4⟩|⟨h3,h4⟩
 · exact absurd (by rw[Int.sign_eq_neg_one_of_neg h2,Int.sign_eq_neg_one_of_neg h4]) h
 · rw[if_pos (by omega),if_pos (by omega)]
 · rw[if_pos (by omega),if_pos (by omega)]
 · rw[if_neg (by omega),if_pos (by omega),if_neg (by omega),if_pos (by omega)]
 · exact absurd (by rw[h2,h4]) h
 · rw[if_pos (by omega),if_pos (by omega)]
 · rw[if_neg (by omega),if_pos (by omega),if_neg (by omega),if_pos (by omega)]
 · rw[if_neg (by omega),if_pos (by omega),if_neg (by omega),if_pos (by omega)]
 · exact absurd (by rw[Int.sign_eq_one_of_pos h2,Int.sign_eq_one_of_pos h4]) h
theorem fit_cross {x y:Rat}(hx:FitQ x)(hy:FitQ y):FitL (x.num*(y.den:Int)):=by
 unfold FitL
 rw[Int.natAbs_mul,Int.natAbs_natCast]
 exact(Sm.mul hx.1 hy.2).mono (by decide)
theorem fcompareS (x y:Rat)(c:Int)(hc:cmpQ x y=c)(hs:Sma x y)(w:World) :
 CR 105 #[Fv x,Fv y] w (.int .i64 c):=by
 subst hc
 have h1:=fun W=>smallBoth_yes x y hs W
 unfold Fv at h1 ⊢
 exact compare_small_raw _ _ _ _ _ _ _ _ _ w h1 (fun W=>scmp _ _ _ _ _ (sm9_lt hs.1) (sm9_lt hs.2.1) (sm9_lt hs.2.2.1) (sm9_lt hs.2.2.2) (by rw[cmpQ_cross x y _ _ rfl rfl,cmpZ_cross]) W)
theorem fcompare (x y:Rat)(c:Int)(hc:cmpQ x y=c)(hx:FitQ x)(hy:FitQ y)(w:World)(hl:La w) :
 CR 105 #[Fv x,Fv y] w (.int .i64 c):=by
 by_cases hs:Sma x y
 · exact fcompareS x y c hc hs w
 subst hc
 have h1:=fun W=>smallBoth_not x y hs W
 unfold Fv at h1 ⊢
 by_cases hsg:x.num.sign=y.num.sign
 · exact compare_cross_raw _ _ _ _ (Sz (x.num*(y.den:Int))) (Sz (y.num*(x.den:Int))) x.num.sign _ w hl h1 (fun W hW=>rsign _ _ rfl hx.numL W hW) (fun W hW=>rsign _ _ hsg.symm hy.numL W hW) (fun W hW=>rtimes _ _ _ rfl hx.numL hy.denL (fit_cross hx hy) W hW) (fun W hW=>rtimes _ _ _ rfl hy.numL hx.denL (fit_cross hy hx) W hW) (fun W hW=>rorder _ _ _ (by rw[cmpQ_cross x y _ _ rfl rfl,cmpZ_cross]) (fit_cross hx hy) (fit_cross hy hx) W hW)
 · exact compare_sign_raw _ _ _ _ x.num.sign y.num.sign _ hsg w hl h1 (fun W hW=>rsign _ _ rfl hx.numL W hW) (fun W hW=>rsign _ _ rfl hy.numL W hW) (fun W hW=>rorder _ _ _ (cmp_signs x y hsg) hx.numL hy.numL W hW)
theorem qcompare_same (a n1 d1 n2 d2:ByteArray)(w:World)
 (h1:CR 104 #[.string a,.string a] w (.tuple #[.agg #[.string n1,.string d1],.agg #[.string n2,.string d2],.bool true])) :
 CR 93 #[.string a,.string a] w (.tuple #[.int .i64 0,.int .i64 0]):=by
 have C1:=hid h1
 clear h1
 go_enter Tryz.func93,Tryz.ntmps93
 go_wp2_with fail
 refine C1.out.mono ?_
 rintro e w1 ⟨rfl,hb⟩
 have HB:=hid ((hb.alloc hb.size (.cells #[.string n1,.string d1] 128)).alloc (by have:=hb.size;simp;omega) (.cells #[.string n2,.string d2] 128))
 clear hb
 go_wp2
 go_ret2
 exact⟨rfl,HB.out⟩
theorem qcompare_more (a b n1 d1 n2 d2:ByteArray)(c:Int)(hab:(a.toList==b.toList)=false)(w:World)(hl:La w)
 (h1:CR 104 #[.string a,.string b] w (.tuple #[.agg #[.string n1,.string d1],.agg #[.string n2,.string d2],.bool true]))
 (h2:CL 105 #[.agg #[.string n1,.string d1],.agg #[.string n2,.string d2]] (.int .i64 c)) :
 CR 93 #[.string a,.string b] w (.tuple #[.int .i64 c,.int .i64 0]):=by
 have C1:=hid h1
 have C2:=hid h2
 have HL:=hid hl
 clear h1 h2 hl
 go_enter Tryz.func93,Tryz.ntmps93
 go_wp2_with fail
 refine C1.out.mono ?_
 rintro e w1 ⟨rfl,hb⟩
 have HB:=hid ((hb.alloc hb.size (.cells #[.string n1,.string d1] 128)).alloc (by have:=hb.size;simp;omega) (.cells #[.string n2,.string d2] 128))
 clear hb
 go_wp2_with fail
 refine(C2.out _ (HL.out.on HB.out)).mono ?_
 rintro e w2 ⟨rfl,hb⟩
 have HB2:=hbt HB hb
 clear hb
 go_wp2
 go_ret2
 exact⟨rfl,HB2.out⟩
theorem qCompare (x y:Rat)(c:Int)(hc:cmpQ x y=c)(hx:FitQ x)(hy:FitQ y)(w:World)(hl:La w) :
 CR 93 #[.string (Sq x),.string (Sq y)] w (.tuple #[.int .i64 c,.int .i64 0]):=by
 by_cases h:x=y
 · subst h
   rw[cmpQ_eq]at hc
   subst hc
   have h1:=fboth_yes x x hx hx w hl
   unfold Fv at h1
   exact qcompare_same _ _ _ _ _ w h1
 · have h1:=fboth_yes x y hx hy w hl
   have h2:=fun W hW=>fcompare x y c hc hx hy W hW
   unfold Fv at h1 h2
   exact qcompare_more _ _ _ _ _ _ _ (sq_neq h) w hl h1 h2
theorem qadd_raw (a b d:ByteArray)(n:Int)(w:World)
 (h1:CR 95 #[.string a,.int .u8 43,.string b] w (.tuple #[.string d,.int .i64 n])) :
 CR 85 #[.string a,.string b] w (.tuple #[.string d,.int .i64 n]):=by
 have C1:=hid h1
 clear h1
 go_enter Tryz.func85,Tryz.ntmps85
 go_wp2_with fail
 refine C1.out.mono ?_
 rintro e w1 ⟨rfl,hb⟩
 go_wp2
 go_ret2
 exact⟨rfl,hb⟩
theorem qsub_raw (a b d:ByteArray)(n:Int)(w:World)
 (h1:CR 95 #[.string a,.int .u8 45,.string b] w (.tuple #[.string d,.int .i64 n])) :
 CR 84 #[.string a,.string b] w (.tuple #[.string d,.int .i64 n]):=by
 have C1:=hid h1
 clear h1
 go_enter Tryz.func84,Tryz.ntmps84
 go_wp2_with fail
 refine C1.out.mono ?_
 rintro e w1 ⟨rfl,hb⟩
 go_wp2
 go_ret2
 exact⟨rfl,hb⟩
theorem qmul_raw (a b d:ByteArray)(n:Int)(w:World)
 (h1:CR 95 #[.string a,.int .u8 42,.string b] w (.tuple #[.string d,.int .i64 n])) :
 CR 78 #[.string a,.string b] w (.tuple #[.string d,.int .i64 n]):=by
 have C1:=hid h1
 clear h1
 go_enter Tryz.func78,Tryz.ntmps78
 go_wp2_with fail
 refine C1.out.mono ?_
 rintro e w1 ⟨rfl,hb⟩
 go_wp2
 go_ret2
 exact⟨rfl,hb⟩
theorem qdiv_raw (a b d:ByteArray)(n:Int)(hb0:(b.toList==[48])=false)(w:World)
 (h1:CR 95 #[.string a,.int .u8 47,.string b] w (.tuple #[.string d,.int .i64 n])) :
 CR 94 #[.string a,.string b] w (.tuple #[.string d,.int .i64 n]):=by
 have C1:=hid h1
 clear h1
 go_enter Tryz.func94,Tryz.ntmps94
 go_wp2_with fail
 refine C1.out.mono ?_
 rintro e w1 ⟨rfl,hb⟩
 go_wp2
 go_ret2
 exact⟨rfl,hb⟩
theorem qAddS (x y z:Rat)(hz:x+y=z)(hx:FitQ x)(hy:FitQ y)(hs:Sma x y)(w:World)(hl:La w) :
 CR 85 #[.string (Sq x),.string (Sq y)] w (.tuple #[.string (Sq z),.int .i64 0]):=by
 subst hz
 refine qadd_raw _ _ _ _ w ?_
 have h1:=fun W hW=>fboth_yes x y hx hy W hW
 have h2:=fun W=>smallBoth_yes x y hs W
 have a1:=sm9_lt hs.1
 have a2:=sm9_lt hs.2.1
 have a3:=sm9_lt hs.2.2.1
 have a4:=sm9_lt hs.2.2.2
 unfold Fv at h1 h2
 have h4:=fun W hW=>sw_pos (x.num*(y.den:Int)+y.num*(x.den:Int)) (x.den*y.den) (den_mul_nz x y) ?b1 ?b2 W hW
 rw[← add_small x y,Int.natCast_mul]at h4
 exact operate_plus_small _ _ _ _ _ _ _ _ _ _ _ _ _ w hl h1 h2 (fun W=>sadd _ _ _ _ a1 a2 a3 a4 W) h4
 · have h5:=small_mul a1 a4;have h6:=small_mul a3 a2;omega
 · have:=small_mul a2 a4;rw[← Int.natCast_mul,Int.natAbs_natCast]at this;omega
theorem qAdd (x y z:Rat)(hz:x+y=z)(hx:FitQ x)(hy:FitQ y)(w:World)(hl:La w) :
 CR 85 #[.string (Sq x),.string (Sq y)] w (.tuple #[.string (Sq z),.int .i64 0]):=by
 by_cases hs:Sma x y
 · exact qAddS x y z hz hx hy hs w hl
 subst hz
 refine qadd_raw _ _ _ _ w ?_
 have h1:=fun W hW=>fboth_yes x y hx hy W hW
 have h2:=fun W=>smallBoth_not x y hs W
 have h3:=fun W hW=>fadd x y hx hy W hW
 have hsz:SmQ 1900 (x+y):=(SmQ.add (show SmQ 900 x from hx) (show SmQ 900 y from hy)).mono (by decide)
 have h4:=fun W=>fwrite (x+y) hsz.1 (FitL.nat hsz.2) W
 unfold Fv at h1 h2 h3
 exact operate_plus_any _ _ _ _ _ _ _ _ _ w hl h1 h2 h3 h4
theorem qSubS (x y z:Rat)(hz:x-y=z)(hx:FitQ x)(hy:FitQ y)(hs:Sma x y)(w:World)(hl:La w) :
 CR 84 #[.string (Sq x),.string (Sq y)] w (.tuple #[.string (Sq z),.int .i64 0]):=by
 subst hz
 refine qsub_raw _ _ _ _ w ?_
 have h1:=fun W hW=>fboth_yes x y hx hy W hW
 have h2:=fun W=>smallBoth_yes x y hs W
 have a1:=sm9_lt hs.1
 have a2:=sm9_lt hs.2.1
 have a3:=sm9_lt hs.2.2.1
 have a4:=sm9_lt hs.2.2.2
 unfold Fv at h1 h2
 have h4:=fun W hW=>sw_pos (x.num*(y.den:Int)-y.num*(x.den:Int)) (x.den*y.den) (den_mul_nz x y) ?b1 ?b2 W hW
 rw[← sub_small x y,Int.natCast_mul]at h4
 exact operate_minus_small _ _ _ _ _ _ _ _ _ _ _ _ _ w hl h1 h2 (fun W=>ssub _ _ _ _ a1 a2 a3 a4 W) h4
 · have h5:=small_mul a1 a4;have h6:=small_mul a3 a2;omega
 · have:=small_mul a2 a4;rw[← Int.natCast_mul,Int.natAbs_natCast]at this;omega
theorem qSub (x y z:Rat)(hz:x-y=z)(hx:FitQ x)(hy:FitQ y)(w:World)(hl:La w) :
 CR 84 #[.string (Sq x),.string (Sq y)] w (.tuple #[.string (Sq z),.int .i64 0]):=by
 by_cases hs:Sma x y
 · exact qSubS x y z hz hx hy hs w hl
 subst hz
 refine qsub_raw _ _ _ _ w ?_
 have h1:=fun W hW=>fboth_yes x y hx hy W hW
 have h2:=fun W=>smallBoth_not x y hs W
 have h3:=fun W hW=>fsub x y hx hy W hW
 have hsz:SmQ 1900 (x-y):=(SmQ.sub (show SmQ 900 x from hx) (show SmQ 900 y from hy)).mono (by decide)
 have h4:=fun W=>fwrite (x-y) hsz.1 (FitL.nat hsz.2) W
 unfold Fv at h1 h2 h3
 exact operate_minus_any _ _ _ _ _ _ _ _ _ w hl h1 h2 h3 h4
theorem qMulS (x y z:Rat)(hz:x*y=z)(hx:FitQ x)(hy:FitQ y)(hs:Sma x y)(w:World)(hl:La w) :
 CR 78 #[.string (Sq x),.string (Sq y)] w (.tuple #[.string (Sq z),.int .i64 0]):=by
 subst hz
 refine qmul_raw _ _ _ _ w ?_
 have h1:=fun W hW=>fboth_yes x y hx hy W hW
 have h2:=fun W=>smallBoth_yes x y hs W
 have a1:=sm9_lt hs.1
 have a2:=sm9_lt hs.2.1
 have a3:=sm9_lt hs.2.2.1
 have a4:=sm9_lt hs.2.2.2
 unfold Fv at h1 h2
 have h4:=fun W hW=>sw_pos (x.num*y.num) (x.den*y.den) (den_mul_nz x y) ?b1 ?b2 W hW
 rw[← mul_small x y,Int.natCast_mul]at h4
 exact operate_mul_small _ _ _ _ _ _ _ _ _ _ _ _ _ w hl h1 h2 (fun W=>smul _ _ _ _ a1 a2 a3 a4 W) h4
 · have h5:=small_mul a1 a3;omega
 · have:=small_mul a2 a4;rw[← Int.natCast_mul,Int.natAbs_natCast]at this;omega
theorem qMul (x y z:Rat)(hz:x*y=z)(hx:FitQ x)(hy:FitQ y)(w:World)(hl:La w) :
 CR 78 #[.string (Sq x),.string (Sq y)] w (.tuple #[.string (Sq z),.int .i64 0]):=by
 by_cases hs:Sma x y
 · exact qMulS x y z hz hx hy hs w hl
 subst hz
 refine qmul_raw _ _ _ _ w ?_
 have h1:=fun W hW=>fboth_yes x y hx hy W hW
 have h2:=fun W=>smallBoth_not x y hs W
 have h3:=fun W hW=>fmul x y hx hy W hW
 have hsz:SmQ 1900 (x*y):=(SmQ.mul (show SmQ 900 x from hx) (show SmQ 900 y from hy)).mono (by decide)
 have h4:=fun W=>fwrite (x*y) hsz.1 (FitL.nat hsz.2) W
 unfold Fv at h1 h2 h3
 exact operate_mul_any _ _ _ _ _ _ _ _ _ w hl h1 h2 h3 h4
theorem qDivS (x y z:Rat)(hz:x / y=z)(hx:FitQ x)(hy:FitQ y)(h0:y≠0)(hs:Sma x y)(w:World)(hl:La w) :
 CR 94 #[.string (Sq x),.string (Sq y)] w (.tuple #[.string (Sq z),.int .i64 0]):=by
 subst hz
 refine qdiv_raw _ _ _ _ (by have h:=sq_neq h0;rwa [show Sq 0=⟨#[48]⟩by decide +kernel,toList_data ⟨#[48]⟩]at h) w ?_
 have h1:=fun W hW=>fboth_yes x y hx hy W hW
 have h2:=fun W=>smallBoth_yes x y hs W
 have a1:=sm9_lt hs.1
 have a2:=sm9_lt hs.2.1
 have a3:=sm9_lt hs.2.2.1
 have a4:=sm9_lt hs.2.2.2
 unfold Fv at h1 h2
 have hn:y.num≠0:=fun h=>h0 (Rat.num_eq_zero.1 h)
 have h5:=small_mul a1 a4
 have h6:=small_mul a2 a3
 rcases Int.lt_or_gt_of_ne hn with h|h
 · obtain⟨m,hm⟩:∃ m:Nat,-y.num=(m:Int):=⟨y.num.natAbs,by omega⟩
   have hm0:x.den*m≠0:=Nat.mul_ne_zero x.den_nz (by omega)
   have e : -((x.den:Int)*y.num)=((x.den*m:Nat):Int):=by rw[Int.natCast_mul,← hm,Int.mul_neg]
   have h4:=fun W hW=>sw_neg (x.num*(y.den:Int)) ((x.den:Int)*y.num) (-(x.num*(y.den:Int))) (x.den*m) rfl e hm0 ?b1 ?b2 W hW
   have e2:mkRat (-(x.num*(y.den:Int))) (x.den*m)=x / y:=by rw[div_small_neg x y h,show(-y.num).toNat=m by omega]
   rw[e2]at h4
   exact operate_div_small _ _ _ _ _ _ _ _ _ _ _ _ _ w hl h1 h2 (fun W=>sdiv _ _ _ _ a1 a2 a3 a4 W) h4
   · omega
   · omega
 · obtain⟨m,hm⟩:∃ m:Nat,y.num=(m:Int):=⟨y.num.natAbs,by omega⟩
   have hm0:x.den*m≠0:=Nat.mul_ne_zero x.den_nz (by omega)
   have e:(x.den:Int)*y.num=((x.den*m:Nat):Int):=by rw[Int.natCast_mul,← hm]
   have h4:=fun W hW=>sw_pos (x.num*(y.den:Int)) (x.den*m) hm0 ?b3 ?b4 W hW
   have e2:mkRat (x.num*(y.den:Int)) (x.den*m)=x / y:=by rw[div_small_pos x y h,show y.num.toNat=m by omega]
   rw[e2,← e]at h4
   exact operate_div_small _ _ _ _ _ _ _ _ _ _ _ _ _ w hl h1 h2 (fun W=>sdiv _ _ _ _ a1 a2 a3 a4 W) h4
   · omega
   · omega
theorem qDiv (x y z:Rat)(hz:x / y=z)(hx:FitQ x)(hy:FitQ y)(h0:y≠0)(w:World)(hl:La w) :
 CR 94 #[.string (Sq x),.string (Sq y)] w (.tuple #[.string (Sq z),.int .i64 0]):=by
 by_cases hs:Sma x y
 · exact qDivS x y z hz hx hy h0 hs w hl
 subst hz
 refine qdiv_raw _ _ _ _ (by have h:=sq_neq h0;rwa [show Sq 0=⟨#[48]⟩by decide +kernel,toList_data ⟨#[48]⟩]at h) w ?_
 have h1:=fun W hW=>fboth_yes x y hx hy W hW
 have h2:=fun W=>smallBoth_not x y hs W
 have h3:=fun W hW=>fdiv x y hx hy h0 W hW
 have hsz:SmQ 1900 (x / y):=(SmQ.div (show SmQ 900 x from hx) (show SmQ 900 y from hy) h0).mono (by decide)
 have h4:=fun W=>fwrite (x / y) hsz.1 (FitL.nat hsz.2) W
 unfold Fv at h1 h2 h3
 exact operate_div_any _ _ _ _ _ _ _ _ _ w hl h1 h2 h3 h4
end Go.Proofs.YthjmjlfnpnbonaaGreatDoor
