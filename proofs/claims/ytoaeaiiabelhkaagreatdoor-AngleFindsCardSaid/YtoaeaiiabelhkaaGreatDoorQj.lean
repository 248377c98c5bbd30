/- texts -/
import Derived.Test.YtoaeaiiabelhkaaGreatDoorMz31q
open Go.Proofs.Tryz
set_option maxRecDepth 100000
set_option maxHeartbeats 20000000
open Go.Lib (hid)
namespace Go.Proofs.YtoaeaiiabelhkaaGreatDoor
open Go.RowKit Go.Gb
theorem lW (x1 x2 y1 y2:ByteArray)(p q r s c:Int)(w:World)
 (h1:CQ 114 #[.agg #[.string x1,.string x2],.agg #[.string y1,.string y2]] (.tuple #[.agg #[.int .i64 p,.int .i64 q],.agg #[.int .i64 r,.int .i64 s],.bool true]))
 (h2:CQ 117 #[.agg #[.int .i64 p,.int .i64 q],.agg #[.int .i64 r,.int .i64 s]] (.int .i64 c)) :
 CR 75 #[.agg #[.string x1,.string x2],.agg #[.string y1,.string y2]] w (.int .i64 c):=by
 have C1:=hid h1;have C2:=hid h2;obtain⟨w0,hw0⟩:∃ w0:World,w0=((w.alloc (.cells #[.string x1,.string x2] 67)).alloc (.cells #[.string y1,.string y2] 67)):=⟨_,rfl⟩;have hz0:w0.heap.size=w.heap.size+2:=by rw[hw0];simp
 have hB0:Below w.heap.size w w0:=by
  rw[hw0];repeat (first|exact Below.refl _ _|refine Below.setCell ?_ (by first|omega|(simp;omega)|simp) _|refine Below.alloc ?_ (by first|omega|(simp;omega)|simp) _|refine Below.drew ?_)
 have hS0:w0.cell? ⟨w.heap.size,0,none⟩=some (.string x1)∧w0.cell? ⟨w.heap.size,1,none⟩=some (.string x2)∧w0.cell? ⟨w.heap.size+1,0,none⟩=some (.string y1)∧w0.cell? ⟨w.heap.size+1,1,none⟩=some (.string y2):=by rw[hw0];exact⟨((q_lt).trans ((aM).trans rfl)),((q_lt).trans ((aM).trans rfl)),((aM).trans rfl),((aM).trans rfl)⟩
 have KS:=hid (show ∀ W:World,Below w0.heap.size w0 W→(W.cell? ⟨w.heap.size,0,none⟩=some (.string x1)∧W.cell? ⟨w.heap.size,1,none⟩=some (.string x2)∧W.cell? ⟨w.heap.size+1,0,none⟩=some (.string y1)∧W.cell? ⟨w.heap.size+1,1,none⟩=some (.string y2)) from fun W hB=>by
  obtain⟨c0,c1,c2,c3⟩:=hS0
  exact⟨hB.kc c0 (by omega),hB.kc c1 (by omega),hB.kc c2 (by omega),hB.kc c3 (by omega)⟩)
 have KZ:=Below.kz (show w.heap.size+2≤w0.heap.size by omega);have KB:=hB0.kb (by omega);have F0:=hid (Below.refl w0.heap.size w0);have HW0:=hid hw0;clear hz0 hB0 hS0 hw0 h1 h2;go_enter func75,ntmps75
 go_wp2_with fail
 rw[← HW0.o];obtain⟨d0,d1,d2,d3⟩:=KS.o _ F0.o;go_wp2_with fail
 refine(C1.o _).mono ?_;rintro e w1 ⟨rfl,hb⟩;obtain⟨w2,hw2⟩:∃ W:World,W=(w1.alloc (.cells #[.int .i64 p,.int .i64 q] 129)).alloc (.cells #[.int .i64 r,.int .i64 s] 129):=⟨_,rfl⟩;have HW2:=hid hw2;have F2:=hid (show Below w0.heap.size w0 w2 by rw[hw2];exact dH (dH (au F0.o hb) _) _);have SZ:w1.heap.size<(w1.alloc (.cells #[.int .i64 p,.int .i64 q] 129)).heap.size:=by simp
 have k0:w2.cell? ⟨w1.heap.size,0,none⟩=some (.int .i64 p):=by rw[hw2];exact(q_lt SZ).trans ((aM rfl).trans rfl)
 have k1:w2.cell? ⟨w1.heap.size,1,none⟩=some (.int .i64 q):=by rw[hw2];exact(q_lt SZ).trans ((aM rfl).trans rfl)
 have k2:w2.cell? ⟨w1.heap.size+1,0,none⟩=some (.int .i64 r):=by rw[hw2];exact(aM (by simp)).trans rfl
 have k3:w2.cell? ⟨w1.heap.size+1,1,none⟩=some (.int .i64 s):=by rw[hw2];exact(aM (by simp)).trans rfl
 clear SZ hw2 hb d0 d1 d2 d3;obtain⟨d0,d1,d2,d3⟩:=KS.o _ F2.o;go_upto_region 3 with fail
 rw[← HW2.o];go_wp2_with fail
 refine(C2.o _).mono ?_;rintro e w3 ⟨rfl,hb⟩;have F3:=hid (au F2.o hb);clear hb d0 d1 d2 d3;obtain⟨d0,d1,d2,d3⟩:=KS.o _ F3.o;go_wp2;go_ret
 exact⟨rfl,KB.o _ F3.o⟩
theorem mQ (x1 x2 y1 y2:ByteArray)(p q c:Int)(hpq:p≠q)(w:World)(hl:La w)
 (h1:CQ 114 #[.agg #[.string x1,.string x2],.agg #[.string y1,.string y2]] (.tuple #[.agg #[.int .i64 0,.int .i64 0],.agg #[.int .i64 0,.int .i64 0],.bool false]))
 (h2:CL 78 #[.string x1] (.int .i64 p))
 (h3:CL 78 #[.string y1] (.int .i64 q))
 (h4:CL 118 #[.string x1,.string y1] (.int .i64 c)) :
 CR 75 #[.agg #[.string x1,.string x2],.agg #[.string y1,.string y2]] w (.int .i64 c):=by
 obtain ⟨C1,C2,C3,C4⟩:=aN h1 h2 h3 h4;obtain⟨w0,hw0⟩:∃ w0:World,w0=((w.alloc (.cells #[.string x1,.string x2] 67)).alloc (.cells #[.string y1,.string y2] 67)):=⟨_,rfl⟩;have hz0:w0.heap.size=w.heap.size+2:=by rw[hw0];simp
 have hB0:Below w.heap.size w w0:=by
  rw[hw0];repeat (first|exact Below.refl _ _|refine Below.setCell ?_ (by first|omega|(simp;omega)|simp) _|refine Below.alloc ?_ (by first|omega|(simp;omega)|simp) _|refine Below.drew ?_)
 have hS0:w0.cell? ⟨w.heap.size,0,none⟩=some (.string x1)∧w0.cell? ⟨w.heap.size,1,none⟩=some (.string x2)∧w0.cell? ⟨w.heap.size+1,0,none⟩=some (.string y1)∧w0.cell? ⟨w.heap.size+1,1,none⟩=some (.string y2):=by rw[hw0];exact⟨((q_lt).trans ((aM).trans rfl)),((q_lt).trans ((aM).trans rfl)),((aM).trans rfl),((aM).trans rfl)⟩
 have KS:=hid (show ∀ W:World,Below w0.heap.size w0 W→(W.cell? ⟨w.heap.size,0,none⟩=some (.string x1)∧W.cell? ⟨w.heap.size,1,none⟩=some (.string x2)∧W.cell? ⟨w.heap.size+1,0,none⟩=some (.string y1)∧W.cell? ⟨w.heap.size+1,1,none⟩=some (.string y2)) from fun W hB=>by
  obtain⟨c0,c1,c2,c3⟩:=hS0
  exact⟨hB.kc c0 (by omega),hB.kc c1 (by omega),hB.kc c2 (by omega),hB.kc c3 (by omega)⟩)
 have KZ:=Below.kz (show w.heap.size+2≤w0.heap.size by omega);have KB:=hB0.kb (by omega);have F0:=hid (Below.refl w0.heap.size w0);have HW0:=hid hw0;clear hz0 hB0 hS0 hw0;have HL:=KB.kl fun _=>hl.on;clear hl;have hpq1:(p==q)=false:=by simpa using hpq
 have hpq2:(p != q)=true:=by simpa using hpq
 clear h1 h2 h3 h4;go_enter func75,ntmps75
 go_wp2_with fail
 rw[← HW0.o];obtain⟨d0,d1,d2,d3⟩:=KS.o _ F0.o;go_wp2_with fail
 refine(C1.o _).mono ?_;rintro e w1 ⟨rfl,hb⟩;obtain⟨w2,hw2⟩:∃ W:World,W=(w1.alloc (.cells #[.int .i64 0,.int .i64 0] 129)).alloc (.cells #[.int .i64 0,.int .i64 0] 129):=⟨_,rfl⟩;have HW2:=hid hw2;have F2:=hid (show Below w0.heap.size w0 w2 by rw[hw2];exact dH (dH (au F0.o hb) _) _);clear hw2 hb d0 d1 d2 d3;obtain⟨d0,d1,d2,d3⟩:=KS.o _ F2.o;go_upto_region 4 with fail
 rw[← HW2.o];go_wp2_with fail
 go_region_held3 (fun w'=>w'.cell? ⟨w.heap.size,0,none⟩=some (.string x1)∧w'.cell? ⟨w.heap.size,1,none⟩=some (.string x2)∧w'.cell? ⟨w.heap.size+1,0,none⟩=some (.string y1)∧w'.cell? ⟨w.heap.size+1,1,none⟩=some (.string y2)) (first|(with_reducible exact KS.o _ F4.o)|(with_reducible exact KS.o _ F4.o.drew)|(with_reducible exact KS.o _ F3.o)|(with_reducible exact KS.o _ F3.o.drew)|(with_reducible exact KS.o _ F2.o)|(with_reducible exact KS.o _ F2.o.drew))
  (first
   | (go_at_call 78;(with_reducible refine(C2.o _ ?la2).mono ?_);(case la2=>first|exact HL.o _ F2.o|exact HL.o _ F2.o.drew);rintro e w3 ⟨rfl,hb⟩;have F3:=hid (show Below w0.heap.size w0 w3 by first|exact au F2.o hb|exact au F2.o.drew hb);clear hb)
   | (go_at_call 78;(with_reducible refine(C3.o _ ?la3).mono ?_);(case la3=>first|exact HL.o _ F3.o|exact HL.o _ F3.o.drew);rintro e w4 ⟨rfl,hb⟩;have F4:=hid (show Below w0.heap.size w0 w4 by first|exact au F3.o hb|exact au F3.o.drew hb);clear hb)
   | fail)
 go_wp2_with fail
 obtain⟨d0,d1,d2,d3⟩:=KS.o _ F4.o;go_wp2_with fail
 refine(C4.o _ (HL.o _ F4.o)).mono ?_;rintro e w5 ⟨rfl,hb⟩;have F5:=hid (au F4.o hb);clear hb d0 d1 d2 d3;obtain⟨d0,d1,d2,d3⟩:=KS.o _ F5.o;go_wp2;go_ret
 exact⟨rfl,KB.o _ F5.o⟩
theorem lX (x1 x2 y1 y2 t u:ByteArray)(p c:Int)(w:World)(hl:La w)
 (h1:CQ 114 #[.agg #[.string x1,.string x2],.agg #[.string y1,.string y2]] (.tuple #[.agg #[.int .i64 0,.int .i64 0],.agg #[.int .i64 0,.int .i64 0],.bool false]))
 (h2:CL 78 #[.string x1] (.int .i64 p))
 (h3:CL 78 #[.string y1] (.int .i64 p))
 (h4:CL 119 #[.string x1,.string y2] (.string t))
 (h5:CL 119 #[.string y1,.string x2] (.string u))
 (h6:CL 118 #[.string t,.string u] (.int .i64 c)) :
 CR 75 #[.agg #[.string x1,.string x2],.agg #[.string y1,.string y2]] w (.int .i64 c):=by
 obtain ⟨C1,C2,C3,C4,C5,C6⟩:=di h1 h2 h3 h4 h5 h6;obtain⟨w0,hw0⟩:∃ w0:World,w0=((w.alloc (.cells #[.string x1,.string x2] 67)).alloc (.cells #[.string y1,.string y2] 67)):=⟨_,rfl⟩;have hz0:w0.heap.size=w.heap.size+2:=by rw[hw0];simp
 have hB0:Below w.heap.size w w0:=by
  rw[hw0];repeat (first|exact Below.refl _ _|refine Below.setCell ?_ (by first|omega|(simp;omega)|simp) _|refine Below.alloc ?_ (by first|omega|(simp;omega)|simp) _|refine Below.drew ?_)
 have hS0:w0.cell? ⟨w.heap.size,0,none⟩=some (.string x1)∧w0.cell? ⟨w.heap.size,1,none⟩=some (.string x2)∧w0.cell? ⟨w.heap.size+1,0,none⟩=some (.string y1)∧w0.cell? ⟨w.heap.size+1,1,none⟩=some (.string y2):=by rw[hw0];exact⟨((q_lt).trans ((aM).trans rfl)),((q_lt).trans ((aM).trans rfl)),((aM).trans rfl),((aM).trans rfl)⟩
 have KS:=hid (show ∀ W:World,Below w0.heap.size w0 W→(W.cell? ⟨w.heap.size,0,none⟩=some (.string x1)∧W.cell? ⟨w.heap.size,1,none⟩=some (.string x2)∧W.cell? ⟨w.heap.size+1,0,none⟩=some (.string y1)∧W.cell? ⟨w.heap.size+1,1,none⟩=some (.string y2)) from fun W hB=>by
  obtain⟨c0,c1,c2,c3⟩:=hS0
  exact⟨hB.kc c0 (by omega),hB.kc c1 (by omega),hB.kc c2 (by omega),hB.kc c3 (by omega)⟩)
 have KZ:=Below.kz (show w.heap.size+2≤w0.heap.size by omega);have KB:=hB0.kb (by omega);have F0:=hid (Below.refl w0.heap.size w0);have HW0:=hid hw0;clear hz0 hB0 hS0 hw0;have HL:=KB.kl fun _=>hl.on;clear hl h1 h2 h3 h4 h5 h6;go_enter func75,ntmps75
 go_wp2_with fail
 rw[← HW0.o];obtain⟨d0,d1,d2,d3⟩:=KS.o _ F0.o;go_wp2_with fail
 refine(C1.o _).mono ?_;rintro e w1 ⟨rfl,hb⟩;obtain⟨w2,hw2⟩:∃ W:World,W=(w1.alloc (.cells #[.int .i64 0,.int .i64 0] 129)).alloc (.cells #[.int .i64 0,.int .i64 0] 129):=⟨_,rfl⟩;have HW2:=hid hw2;have F2:=hid (show Below w0.heap.size w0 w2 by rw[hw2];exact dH (dH (au F0.o hb) _) _);clear hw2 hb d0 d1 d2 d3;obtain⟨d0,d1,d2,d3⟩:=KS.o _ F2.o;go_upto_region 4 with fail
 rw[← HW2.o];go_wp2_with fail
 go_region_held3 (fun w'=>w'.cell? ⟨w.heap.size,0,none⟩=some (.string x1)∧w'.cell? ⟨w.heap.size,1,none⟩=some (.string x2)∧w'.cell? ⟨w.heap.size+1,0,none⟩=some (.string y1)∧w'.cell? ⟨w.heap.size+1,1,none⟩=some (.string y2)) (first|(with_reducible exact KS.o _ F4.o)|(with_reducible exact KS.o _ F4.o.drew)|(with_reducible exact KS.o _ F3.o)|(with_reducible exact KS.o _ F3.o.drew)|(with_reducible exact KS.o _ F2.o)|(with_reducible exact KS.o _ F2.o.drew))
  (first
   | (go_at_call 78;(with_reducible refine(C2.o _ ?la2).mono ?_);(case la2=>first|exact HL.o _ F2.o|exact HL.o _ F2.o.drew);rintro e w3 ⟨rfl,hb⟩;have F3:=hid (show Below w0.heap.size w0 w3 by first|exact au F2.o hb|exact au F2.o.drew hb);clear hb)
   | (go_at_call 78;(with_reducible refine(C3.o _ ?la3).mono ?_);(case la3=>first|exact HL.o _ F3.o|exact HL.o _ F3.o.drew);rintro e w4 ⟨rfl,hb⟩;have F4:=hid (show Below w0.heap.size w0 w4 by first|exact au F3.o hb|exact au F3.o.drew hb);clear hb)
   | fail)
 go_wp2_with fail
 go_region_held3 (fun w'=>w'.cell? ⟨w.heap.size,0,none⟩=some (.string x1)∧w'.cell? ⟨w.heap.size,1,none⟩=some (.string x2)∧w'.cell? ⟨w.heap.size+1,0,none⟩=some (.string y1)∧w'.cell? ⟨w.heap.size+1,1,none⟩=some (.string y2)) (first|(with_reducible exact KS.o _ F7.o)|(with_reducible exact KS.o _ F7.o.drew)|(with_reducible exact KS.o _ F6.o)|(with_reducible exact KS.o _ F6.o.drew)|(with_reducible exact KS.o _ F5.o)|(with_reducible exact KS.o _ F5.o.drew)|(with_reducible exact KS.o _ F4.o)|(with_reducible exact KS.o _ F4.o.drew))
  (first
   | (go_at_call 119;(with_reducible refine(C4.o _ ?la4).mono ?_);(case la4=>first|exact HL.o _ F4.o|exact HL.o _ F4.o.drew);rintro e w5 ⟨rfl,hb⟩;have F5:=hid (show Below w0.heap.size w0 w5 by first|exact au F4.o hb|exact au F4.o.drew hb);clear hb)
   | (go_at_call 119;(with_reducible refine(C5.o _ ?la5).mono ?_);(case la5=>first|exact HL.o _ F5.o|exact HL.o _ F5.o.drew);rintro e w6 ⟨rfl,hb⟩;have F6:=hid (show Below w0.heap.size w0 w6 by first|exact au F5.o hb|exact au F5.o.drew hb);clear hb)
   | (go_at_call 118;(with_reducible refine(C6.o _ ?la6).mono ?_);(case la6=>first|exact HL.o _ F6.o|exact HL.o _ F6.o.drew);rintro e w7 ⟨rfl,hb⟩;have F7:=hid (show Below w0.heap.size w0 w7 by first|exact au F6.o hb|exact au F6.o.drew hb);clear hb)
   | fail)
 all_goals
  go_wp2;go_ret
  exact⟨rfl,by first|exact KB.o _ F7.o|exact KB.o _ F7.o.drew⟩
theorem sZ (q:Rat)(h:q.den≠1):Sz q.num++⟨#[47]⟩++Sz (q.den:Int)=Sq q:=by
 rw[qL h,dU];apply ByteArray.ext
 apply Array.ext'
 simp[Sn]
theorem xI (n:Int)(d:Nat)(hd:d≠0):n.tdiv ((Nat.gcd n.natAbs d:Nat):Int)=(mkRat n d).num∧(d:Int).tdiv ((Nat.gcd n.natAbs d:Nat):Int)=((mkRat n d).den:Int)∧0<Nat.gcd n.natAbs d∧Nat.gcd n.natAbs d≤d∧((mkRat n d).den=1→d=Nat.gcd n.natAbs d)∧((mkRat n d).den≠1→d≠Nat.gcd n.natAbs d):=by
 obtain⟨e1,e2⟩:=mX n d hd;have hg:0<Nat.gcd n.natAbs d:=Nat.gcd_pos_of_pos_right _ (Nat.pos_of_ne_zero hd);have hdv:Nat.gcd n.natAbs d∣d:=Nat.gcd_dvd_right _ _;have hnv:((Nat.gcd n.natAbs d:Nat):Int)∣n:=Int.dvd_natAbs.1 (Int.natCast_dvd_natCast.2 (Nat.gcd_dvd_left _ _));refine⟨?_,?_,hg,Nat.gcd_le_right _ (Nat.pos_of_ne_zero hd),?_,?_⟩
 · rw[e1];exact Int.tdiv_eq_ediv_of_dvd hnv
 · rw[e2,Int.natCast_ediv];exact Int.tdiv_eq_ediv_of_nonneg (by omega)
 · intro h
   rw[e2]at h;have h2:=Nat.div_mul_cancel hdv;rw[h,Nat.one_mul]at h2;exact h2.symm
 · intro h h2
   apply h
   rw[e2];exact Nat.div_eq_of_eq_mul_left hg (by omega)
theorem sV (n:Int)(d:Nat)(hd:d≠0)(bn:n.natAbs≤4000000000000000000)(bd:d≤4000000000000000000):(mkRat n d).num.natAbs≤4000000000000000000∧(mkRat n d).den≤4000000000000000000∧(Sz (mkRat n d).num).size≤1000∧(Sz ((mkRat n d).den:Int)).size≤1000:=by
 obtain⟨e1,e2⟩:=z3a n d hd;have h1:Sm 20 (mkRat n d).num.natAbs:=by unfold Sm;omega
 have h2:Sm 20 ((mkRat n d).den:Int).natAbs:=by rw[Int.natAbs_natCast];unfold Sm;omega
 have h3:=jZ h1 (by decide);have h4:=jZ h2 (by decide);exact⟨by omega,by omega,by omega,by omega⟩
theorem xH (n:Int)(d:Nat)(hd:d≠0)(bn:n.natAbs≤4000000000000000000)(bd:d≤4000000000000000000)(w:World)(hl:La w) :
 CR 115 #[.agg #[.int .i64 n,.int .i64 (d:Int)]] w (.string (Sq (mkRat n d))):=by
 obtain⟨f1,f2,f3,f4,f5,f6⟩:=xI n d hd;obtain⟨b1,b2,b3,b4⟩:=sV n d hd bn bd;have hg:=fun W=>rgcd n (d:Int) (by omega) (by rw[Int.natAbs_natCast];omega) W;rw[Int.natAbs_natCast]at hg;have k1:(mkRat n d).num≤9223372036854775807 ∧ -9223372036854775808≤(mkRat n d).num:=by omega
 by_cases h:(mkRat n d).den=1
 · have h2:=f5 h
   rw[jr h];rw[← h2]at hg f1;exact oN n (d:Int) (mkRat n d).num _ ⟨#[]⟩ (by omega) (by omega) f1 b1 w hl b3 (by decide) hg (fun W hW=>rfmt _ k1.2 k1.1 W hW)
 · have h2:=f6 h
   rw[← sZ _ h];exact nI n (d:Int) ((Nat.gcd n.natAbs d:Nat):Int) (mkRat n d).num ((mkRat n d).den:Int) _ _ (by omega) (by omega) (by omega) f1 b1 f2 (by rw[Int.natAbs_natCast];exact b2) (by rw[beq_eq_false_iff_ne];omega) w hl b3 b4 hg (fun W hW=>rfmt _ k1.2 k1.1 W hW) (fun W hW=>rfmt _ (by omega) (by omega) W hW)
theorem z6d (a b n:Int)(d:Nat)(hn : -a=n)(hb : -b=(d:Int))(hd:d≠0)(bn:n.natAbs≤4000000000000000000)(bd:d≤4000000000000000000)(w:World)(hl:La w) :
 CR 115 #[.agg #[.int .i64 a,.int .i64 b]] w (.string (Sq (mkRat n d))):=by
 obtain⟨f1,f2,f3,f4,f5,f6⟩:=xI n d hd;obtain⟨b1,b2,b3,b4⟩:=sV n d hd bn bd;have hg:=fun W=>rgcd n (d:Int) (by omega) (by rw[Int.natAbs_natCast];omega) W;rw[Int.natAbs_natCast]at hg;have k1:(mkRat n d).num≤9223372036854775807 ∧ -9223372036854775808≤(mkRat n d).num:=by omega
 by_cases h:(mkRat n d).den=1
 · have h2:=f5 h
   rw[jr h];rw[← h2]at hg f1;exact oO a b (d:Int) (mkRat n d).num n _ ⟨#[]⟩ hn hb (by omega) (by omega) (by omega) (by omega) f1 b1 w hl b3 (by decide) hg (fun W hW=>rfmt _ k1.2 k1.1 W hW)
 · have h2:=f6 h
   rw[← sZ _ h];exact nJ a b ((Nat.gcd n.natAbs d:Nat):Int) (mkRat n d).num ((mkRat n d).den:Int) n (d:Int) _ _ hn hb (by omega) (by omega) (by omega) (by omega) (by omega) f1 b1 f2 (by rw[Int.natAbs_natCast];exact b2) (by rw[beq_eq_false_iff_ne];omega) w hl b3 b4 hg (fun W hW=>rfmt _ k1.2 k1.1 W hW) (fun W hW=>rfmt _ (by omega) (by omega) W hW)
def Sma (x y:Rat):Prop:=(Sz x.num).size≤9∧(Sz (x.den:Int)).size≤9∧(Sz y.num).size≤9∧(Sz (y.den:Int)).size≤9
theorem eT {z:Int}(h:(Sz z).size≤9):z.natAbs<1000000000:=by
 have h1:z.natAbs<10^9:=jv h;omega
theorem eZ (x y:Rat)(h:Sma x y)(w:World) :
 CR 114 #[Fv x,Fv y] w (.tuple #[.agg #[.int .i64 x.num,.int .i64 (x.den:Int)],.agg #[.int .i64 y.num,.int .i64 (y.den:Int)],.bool true]):=by
 unfold Fv
 exact qN _ _ _ _ _ _ _ _ h w (fun W=>pR _ (Nat.le_trans h.1 (by decide)) W) (fun W=>pR _ (Nat.le_trans h.2.1 (by decide)) W) (fun W=>pR _ (Nat.le_trans h.2.2.1 (by decide)) W) (fun W=>pR _ (Nat.le_trans h.2.2.2 (by decide)) W)
theorem fe (x y:Rat)(h:¬ Sma x y)(w:World) :
 CR 114 #[Fv x,Fv y] w (.tuple #[.agg #[.int .i64 0,.int .i64 0],.agg #[.int .i64 0,.int .i64 0],.bool false]):=by
 unfold Fv
 refine tC _ _ _ _ ?_ w;unfold Sma at h
 omega
theorem mg (a b:Int):cmpZ a b=if a<b then -1 else if b<a then 1 else 0:=by
 rcases Int.lt_trichotomy a b with h|h|h
 · rw[oh h,if_pos h]
 · subst h;rw[rX,if_neg (by omega),if_neg (by omega)]
 · rw[om h,if_neg (by omega),if_pos h]
theorem mH (n:Int)(d:Nat)(hd:d≠0):(n*(d:Int)<0∧n<0)∨(n*(d:Int)=0∧n=0)∨(0<n*(d:Int)∧0<n):=by
 have hp:(0:Int)<(d:Int):=by omega
 rcases Int.lt_trichotomy n 0 with h|h|h
 · exact Or.inl ⟨Int.mul_neg_of_neg_of_pos h hp,h⟩
 · subst h;exact Or.inr (Or.inl ⟨by simp,rfl⟩)
 · exact Or.inr (Or.inr ⟨Int.mul_pos h hp,h⟩)
theorem z1P (x y:Rat)(h:x.num.sign≠y.num.sign):cmpZ x.num y.num=cmpQ x y:=by
 rw[iW x y _ _ rfl rfl,mg];rcases mH x.num y.den y.den_nz with⟨h1,h2⟩|⟨h1,h2⟩|⟨h1,h2⟩<;>rcases mH y.num x.den x.den_nz with⟨h3,h4⟩|⟨h3,h4⟩|⟨h3,h4⟩
 · exact absurd (by rw[Int.sign_eq_neg_one_of_neg h2,Int.sign_eq_neg_one_of_neg h4]) h
 · rw[if_pos (by omega),if_pos (by omega)]
 · rw[if_pos (by omega),if_pos (by omega)]
 · rw[if_neg (by omega),if_pos (by omega),if_neg (by omega),if_pos (by omega)]
 · exact absurd (by rw[h2,h4]) h
 · rw[if_pos (by omega),if_pos (by omega)]
 · rw[if_neg (by omega),if_pos (by omega),if_neg (by omega),if_pos (by omega)]
 · rw[if_neg (by omega),if_pos (by omega),if_neg (by omega),if_pos (by omega)]
 · exact absurd (by rw[Int.sign_eq_one_of_pos h2,Int.sign_eq_one_of_pos h4]) h
theorem kY {x y:Rat}(hx:aO x)(hy:aO y):FitL (x.num*(y.den:Int)):=by
 unfold FitL
 rw[Int.natAbs_mul,Int.natAbs_natCast];exact(Sm.mul hx.1 hy.2).mono (by decide)
theorem z1A (x y:Rat)(c:Int)(hc:cmpQ x y=c)(hs:Sma x y)(w:World) :
 CR 75 #[Fv x,Fv y] w (.int .i64 c):=by
 subst hc;have h1:=fun W=>eZ x y hs W;unfold Fv at h1 ⊢
 exact lW _ _ _ _ _ _ _ _ _ w h1 (fun W=>scmp _ _ _ _ _ (eT hs.1) (eT hs.2.1) (eT hs.2.2.1) (eT hs.2.2.2) (by rw[iW x y _ _ rfl rfl,mg]) W)
theorem z3s (x y:Rat)(c:Int)(hc:cmpQ x y=c)(hx:aO x)(hy:aO y)(w:World)(hl:La w) :
 CR 75 #[Fv x,Fv y] w (.int .i64 c):=by
 by_cases hs:Sma x y
 · exact z1A x y c hc hs w
 subst hc;have h1:=fun W=>fe x y hs W;unfold Fv at h1 ⊢
 by_cases hsg:x.num.sign=y.num.sign
 · exact lX _ _ _ _ (Sz (x.num*(y.den:Int))) (Sz (y.num*(x.den:Int))) x.num.sign _ w hl h1 (fun W hW=>qQ _ _ rfl hx.numL W hW) (fun W hW=>qQ _ _ hsg.symm hy.numL W hW) (fun W hW=>nK _ _ _ rfl hx.numL hy.denL (kY hx hy) W hW) (fun W hW=>nK _ _ _ rfl hy.numL hx.denL (kY hy hx) W hW) (fun W hW=>z4w _ _ _ (by rw[iW x y _ _ rfl rfl,mg]) (kY hx hy) (kY hy hx) W hW)
 · exact mQ _ _ _ _ x.num.sign y.num.sign _ hsg w hl h1 (fun W hW=>qQ _ _ rfl hx.numL W hW) (fun W hW=>qQ _ _ rfl hy.numL W hW) (fun W hW=>z4w _ _ _ (z1P x y hsg) hx.numL hy.numL W hW)
theorem r9 (a n1 d1 n2 d2:ByteArray)(w:World)
 (h1:CR 74 #[.string a,.string a] w (.tuple #[.agg #[.string n1,.string d1],.agg #[.string n2,.string d2],.bool true])) :
 CR 38 #[.string a,.string a] w (.tuple #[.int .i64 0,.int .i64 0]):=by
 have C1:=hid h1;clear h1;go_enter func38,ntmps38
 go_wp2_with fail
 refine C1.o.mono ?_;rintro e w1 ⟨rfl,hb⟩;have HB:=hid ((hb.alloc hb.size (.cells #[.string n1,.string d1] 67)).alloc (by have:=hb.size;simp;omega) (.cells #[.string n2,.string d2] 67));clear hb;go_wp2;go_ret2
 exact⟨rfl,HB.o⟩
theorem rf (a b n1 d1 n2 d2:ByteArray)(c:Int)(hab:(a.toList==b.toList)=false)(w:World)(hl:La w)
 (h1:CR 74 #[.string a,.string b] w (.tuple #[.agg #[.string n1,.string d1],.agg #[.string n2,.string d2],.bool true]))
 (h2:CL 75 #[.agg #[.string n1,.string d1],.agg #[.string n2,.string d2]] (.int .i64 c)) :
 CR 38 #[.string a,.string b] w (.tuple #[.int .i64 c,.int .i64 0]):=by
 obtain ⟨C1,C2,HL⟩:=ak h1 h2 hl;clear h1 h2 hl;go_enter func38,ntmps38
 go_wp2_with fail
 refine C1.o.mono ?_;rintro e w1 ⟨rfl,hb⟩;have HB:=hid ((hb.alloc hb.size (.cells #[.string n1,.string d1] 67)).alloc (by have:=hb.size;simp;omega) (.cells #[.string n2,.string d2] 67));clear hb;go_wp2_with fail
 refine(C2.o _ (HL.o.on HB.o)).mono ?_;rintro e w2 ⟨rfl,hb⟩;have u6:=hbt HB hb;clear hb;go_wp2;go_ret2
 exact⟨rfl,u6.o⟩
theorem ru (x y:Rat)(c:Int)(hc:cmpQ x y=c)(hx:aO x)(hy:aO y)(w:World)(hl:La w) :
 CR 38 #[.string (Sq x),.string (Sq y)] w (.tuple #[.int .i64 c,.int .i64 0]):=by
 by_cases h:x=y
 · subst h
   rw[z1R]at hc;subst hc;have h1:=eH x x hx hx w hl;unfold Fv at h1
   exact r9 _ _ _ _ _ w h1
 · have h1:=eH x y hx hy w hl
   have h2:=fun W hW=>z3s x y c hc hx hy W hW;unfold Fv at h1 h2
   exact rf _ _ _ _ _ _ _ (z0w h) w hl h1 h2
theorem yf (a b d:ByteArray)(n:Int)(w:World)
 (h1:CR 72 #[.string a,.int .u8 43,.string b] w (.tuple #[.string d,.int .i64 n])) :
 CR 71 #[.string a,.string b] w (.tuple #[.string d,.int .i64 n]):=by
 have C1:=hid h1;clear h1;go_enter func71,ntmps71
 go_wp2_with fail
 refine C1.o.mono ?_;rintro e w1 ⟨rfl,hb⟩;go_wp2;go_ret2
 exact⟨rfl,hb⟩
theorem xY (a b d:ByteArray)(n:Int)(w:World)
 (h1:CR 72 #[.string a,.int .u8 45,.string b] w (.tuple #[.string d,.int .i64 n])) :
 CR 70 #[.string a,.string b] w (.tuple #[.string d,.int .i64 n]):=by
 have C1:=hid h1;clear h1;go_enter func70,ntmps70
 go_wp2_with fail
 refine C1.o.mono ?_;rintro e w1 ⟨rfl,hb⟩;go_wp2;go_ret2
 exact⟨rfl,hb⟩
theorem xZ (a b d:ByteArray)(n:Int)(w:World)
 (h1:CR 72 #[.string a,.int .u8 42,.string b] w (.tuple #[.string d,.int .i64 n])) :
 CR 69 #[.string a,.string b] w (.tuple #[.string d,.int .i64 n]):=by
 have C1:=hid h1;clear h1;go_enter func69,ntmps69
 go_wp2_with fail
 refine C1.o.mono ?_;rintro e w1 ⟨rfl,hb⟩;go_wp2;go_ret2
 exact⟨rfl,hb⟩
theorem yc (a b d:ByteArray)(n:Int)(hb0:(b.toList==[48])=false)(w:World)
 (h1:CR 72 #[.string a,.int .u8 47,.string b] w (.tuple #[.string d,.int .i64 n])) :
 CR 34 #[.string a,.string b] w (.tuple #[.string d,.int .i64 n]):=by
 have C1:=hid h1;clear h1;go_enter func34,ntmps34
 go_wp2_with fail
 refine C1.o.mono ?_;rintro e w1 ⟨rfl,hb⟩;go_wp2;go_ret2
 exact⟨rfl,hb⟩
theorem qZ (a:ByteArray)(w:World)
 (h1:CR 16 #[.string a] w (.bool true)) :
 CR 34 #[.string a,.string ⟨#[48]⟩] w (.tuple #[.string ⟨#[]⟩,.int .i64 16]):=by
 have C1:=hid h1;clear h1;go_enter func34,ntmps34
 go_wp2_with fail
 refine C1.o.mono ?_;rintro e w1 ⟨rfl,hb⟩;go_wp2;go_ret2
 exact⟨rfl,hb⟩
theorem z7g (x y z:Rat)(hz:x+y=z)(hx:aO x)(hy:aO y)(hs:Sma x y)(w:World)(hl:La w) :
 CR 71 #[.string (Sq x),.string (Sq y)] w (.tuple #[.string (Sq z),.int .i64 0]):=by
 subst hz;refine yf _ _ _ _ w ?_;have h1:=fun W hW=>eH x y hx hy W hW;have h2:=fun W=>eZ x y hs W;have a1:=eT hs.1;have a2:=eT hs.2.1;have a3:=eT hs.2.2.1;have a4:=eT hs.2.2.2;unfold Fv at h1 h2
 have h4:=fun W hW=>xH (x.num*(y.den:Int)+y.num*(x.den:Int)) (x.den*y.den) (iU x y) ?b1 ?b2 W hW;rw[← jI x y,Int.natCast_mul]at h4;exact kQ _ _ _ _ _ _ _ _ _ _ _ _ _ w hl h1 h2 (fun W=>sadd _ _ _ _ a1 a2 a3 a4 W) h4
 · have h5:=bS a1 a4;have h6:=bS a3 a2;omega
 · have:=bS a2 a4;rw[← Int.natCast_mul,Int.natAbs_natCast]at this;omega
theorem qAdd (x y z:Rat)(hz:x+y=z)(hx:aO x)(hy:aO y)(w:World)(hl:La w) :
 CR 71 #[.string (Sq x),.string (Sq y)] w (.tuple #[.string (Sq z),.int .i64 0]):=by
 by_cases hs:Sma x y
 · exact z7g x y z hz hx hy hs w hl
 subst hz;refine yf _ _ _ _ w ?_;have h1:=fun W hW=>eH x y hx hy W hW;have h2:=fun W=>fe x y hs W;have h3:=fun W hW=>fadd x y hx hy W hW;have hsz:SmQ 1900 (x+y):=(SmQ.add (show SmQ 900 x from hx) (show SmQ 900 y from hy)).mono (by decide);have h4:=fun W=>yA (x+y) hsz.1 (FitL.nat hsz.2) W;unfold Fv at h1 h2 h3
 exact mO _ _ _ _ _ _ _ _ _ w hl h1 h2 h3 h4
theorem z7d (x y z:Rat)(hz:x-y=z)(hx:aO x)(hy:aO y)(hs:Sma x y)(w:World)(hl:La w) :
 CR 70 #[.string (Sq x),.string (Sq y)] w (.tuple #[.string (Sq z),.int .i64 0]):=by
 subst hz;refine xY _ _ _ _ w ?_;have h1:=fun W hW=>eH x y hx hy W hW;have h2:=fun W=>eZ x y hs W;have a1:=eT hs.1;have a2:=eT hs.2.1;have a3:=eT hs.2.2.1;have a4:=eT hs.2.2.2;unfold Fv at h1 h2
 have h4:=fun W hW=>xH (x.num*(y.den:Int)-y.num*(x.den:Int)) (x.den*y.den) (iU x y) ?b1 ?b2 W hW;rw[← z0s x y,Int.natCast_mul]at h4;exact ku _ _ _ _ _ _ _ _ _ _ _ _ _ w hl h1 h2 (fun W=>ssub _ _ _ _ a1 a2 a3 a4 W) h4
 · have h5:=bS a1 a4;have h6:=bS a3 a2;omega
 · have:=bS a2 a4;rw[← Int.natCast_mul,Int.natAbs_natCast]at this;omega
theorem qSub (x y z:Rat)(hz:x-y=z)(hx:aO x)(hy:aO y)(w:World)(hl:La w) :
 CR 70 #[.string (Sq x),.string (Sq y)] w (.tuple #[.string (Sq z),.int .i64 0]):=by
 by_cases hs:Sma x y
 · exact z7d x y z hz hx hy hs w hl
 subst hz;refine xY _ _ _ _ w ?_;have h1:=fun W hW=>eH x y hx hy W hW;have h2:=fun W=>fe x y hs W;have h3:=fun W hW=>fsub x y hx hy W hW;have hsz:SmQ 1900 (x-y):=(SmQ.sub (show SmQ 900 x from hx) (show SmQ 900 y from hy)).mono (by decide);have h4:=fun W=>yA (x-y) hsz.1 (FitL.nat hsz.2) W;unfold Fv at h1 h2 h3
 exact lN _ _ _ _ _ _ _ _ _ w hl h1 h2 h3 h4
theorem z7e (x y z:Rat)(hz:x*y=z)(hx:aO x)(hy:aO y)(hs:Sma x y)(w:World)(hl:La w) :
 CR 69 #[.string (Sq x),.string (Sq y)] w (.tuple #[.string (Sq z),.int .i64 0]):=by
 subst hz;refine xZ _ _ _ _ w ?_;have h1:=fun W hW=>eH x y hx hy W hW;have h2:=fun W=>eZ x y hs W;have a1:=eT hs.1;have a2:=eT hs.2.1;have a3:=eT hs.2.2.1;have a4:=eT hs.2.2.2;unfold Fv at h1 h2
 have h4:=fun W hW=>xH (x.num*y.num) (x.den*y.den) (iU x y) ?b1 ?b2 W hW;rw[← jA x y,Int.natCast_mul]at h4;exact lM _ _ _ _ _ _ _ _ _ _ _ _ _ w hl h1 h2 (fun W=>smul _ _ _ _ a1 a2 a3 a4 W) h4
 · have h5:=bS a1 a3;omega
 · have:=bS a2 a4;rw[← Int.natCast_mul,Int.natAbs_natCast]at this;omega
theorem qMul (x y z:Rat)(hz:x*y=z)(hx:aO x)(hy:aO y)(w:World)(hl:La w) :
 CR 69 #[.string (Sq x),.string (Sq y)] w (.tuple #[.string (Sq z),.int .i64 0]):=by
 by_cases hs:Sma x y
 · exact z7e x y z hz hx hy hs w hl
 subst hz;refine xZ _ _ _ _ w ?_;have h1:=fun W hW=>eH x y hx hy W hW;have h2:=fun W=>fe x y hs W;have h3:=fun W hW=>fmul x y hx hy W hW;have hsz:SmQ 1900 (x*y):=(SmQ.mul (show SmQ 900 x from hx) (show SmQ 900 y from hy)).mono (by decide);have h4:=fun W=>yA (x*y) hsz.1 (FitL.nat hsz.2) W;unfold Fv at h1 h2 h3
 exact nP _ _ _ _ _ _ _ _ _ w hl h1 h2 h3 h4
theorem z7f (x y z:Rat)(hz:x / y=z)(hx:aO x)(hy:aO y)(h0:y≠0)(hs:Sma x y)(w:World)(hl:La w) :
 CR 34 #[.string (Sq x),.string (Sq y)] w (.tuple #[.string (Sq z),.int .i64 0]):=by
 subst hz;refine yc _ _ _ _ (by have h:=z0w h0;rwa [show Sq 0=⟨#[48]⟩by decide +kernel,toList_data ⟨#[48]⟩]at h) w ?_;have h1:=fun W hW=>eH x y hx hy W hW;have h2:=fun W=>eZ x y hs W;have a1:=eT hs.1;have a2:=eT hs.2.1;have a3:=eT hs.2.2.1;have a4:=eT hs.2.2.2;unfold Fv at h1 h2
 have hn:y.num≠0:=fun h=>h0 (Rat.num_eq_zero.1 h);have h5:=bS a1 a4;have h6:=bS a2 a3;rcases Int.lt_or_gt_of_ne hn with h|h
 · obtain⟨m,hm⟩:∃ m:Nat,-y.num=(m:Int):=⟨y.num.natAbs,by omega⟩
   have hm0:x.den*m≠0:=Nat.mul_ne_zero x.den_nz (by omega);have e : -((x.den:Int)*y.num)=((x.den*m:Nat):Int):=by rw[Int.natCast_mul,← hm,Int.mul_neg]
   have h4:=fun W hW=>z6d (x.num*(y.den:Int)) ((x.den:Int)*y.num) (-(x.num*(y.den:Int))) (x.den*m) rfl e hm0 ?b1 ?b2 W hW;have e2:mkRat (-(x.num*(y.den:Int))) (x.den*m)=x / y:=by rw[rT x y h,show(-y.num).toNat=m by omega]
   rw[e2]at h4;exact iP _ _ _ _ _ _ _ _ _ _ _ _ _ w hl h1 h2 (fun W=>sdiv _ _ _ _ a1 a2 a3 a4 W) h4
   · omega
   · omega
 · obtain⟨m,hm⟩:∃ m:Nat,y.num=(m:Int):=⟨y.num.natAbs,by omega⟩
   have hm0:x.den*m≠0:=Nat.mul_ne_zero x.den_nz (by omega);have e:(x.den:Int)*y.num=((x.den*m:Nat):Int):=by rw[Int.natCast_mul,← hm]
   have h4:=fun W hW=>xH (x.num*(y.den:Int)) (x.den*m) hm0 ?b3 ?b4 W hW;have e2:mkRat (x.num*(y.den:Int)) (x.den*m)=x / y:=by rw[rR x y h,show y.num.toNat=m by omega]
   rw[e2,← e]at h4;exact iP _ _ _ _ _ _ _ _ _ _ _ _ _ w hl h1 h2 (fun W=>sdiv _ _ _ _ a1 a2 a3 a4 W) h4
   · omega
   · omega
theorem qDiv (x y z:Rat)(hz:x / y=z)(hx:aO x)(hy:aO y)(h0:y≠0)(w:World)(hl:La w) :
 CR 34 #[.string (Sq x),.string (Sq y)] w (.tuple #[.string (Sq z),.int .i64 0]):=by
 by_cases hs:Sma x y
 · exact z7f x y z hz hx hy h0 hs w hl
 subst hz;refine yc _ _ _ _ (by have h:=z0w h0;rwa [show Sq 0=⟨#[48]⟩by decide +kernel,toList_data ⟨#[48]⟩]at h) w ?_;have h1:=fun W hW=>eH x y hx hy W hW;have h2:=fun W=>fe x y hs W;have h3:=fun W hW=>fdiv x y hx hy h0 W hW;have hsz:SmQ 1900 (x / y):=(SmQ.div (show SmQ 900 x from hx) (show SmQ 900 y from hy) h0).mono (by decide);have h4:=fun W=>yA (x / y) hsz.1 (FitL.nat hsz.2) W;unfold Fv at h1 h2 h3
 exact nQ _ _ _ _ _ _ _ _ _ w hl h1 h2 h3 h4
theorem z0V (x:Rat)(hx:aO x)(w:World)(hl:La w) :
 CR 34 #[.string (Sq x),.string ⟨#[48]⟩] w (.tuple #[.string ⟨#[]⟩,.int .i64 16]):=qZ _ w (jL x hx w hl)
