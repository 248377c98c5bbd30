/- texts -/
import Derived.Test.YtoaeaiiabelhkaaGreatDoorMz27q
import Derived.Test.YtoaeaiiabelhkaaGreatDoorQd
open Go.Proofs.Tryz
set_option maxRecDepth 100000
set_option maxHeartbeats 20000000
open Go.Lib (hid)
namespace Go.Proofs.YtoaeaiiabelhkaaGreatDoor
open Go.RowKit Go.Gb
theorem lT (a b:ByteArray)(x y g:Int)(r:Bool)(hr:(g==1)=r)(w:World)
 (h1:∀ W,Calls Tryz.prog 123 #[.string a] W fun e w'=>e=.returned (.bool true)∧W=w') (h2:∀ W,Calls Tryz.prog 123 #[.string b] W fun e w'=>e=.returned (.bool true)∧W=w')
 (h3:CQ 125 #[.string a] (.int .i64 x)) (h4:CQ 125 #[.string b] (.int .i64 y))
 (h5:CQ 124 #[.int .i64 x,.int .i64 y] (.int .i64 g)) :
 CR 79 #[.string a,.string b] w (.bool r):=by
 obtain ⟨C1,C2,C3,C4,C5,u6,HR⟩:=eB h1 h2 h3 h4 h5 (Below.refl w.heap.size w) hr;clear h1 h2 h3 h4 h5 hr;go_enter func79,ntmps79
 go_wp2_with fail
 refine(C1.o _).mono ?_;rintro e w' ⟨rfl,rfl⟩;go_wp2_with fail
 refine(C2.o _).mono ?_;rintro e w' ⟨rfl,rfl⟩;go_wp2_with fail
 refine(C3.o _).mono ?_;rintro e w1 ⟨rfl,hb⟩;have uu:=hbt u6 hb;clear hb;go_wp2_with fail
 refine(C4.o _).mono ?_;rintro e w2 ⟨rfl,hb⟩;have w9:=hbt uu hb;clear hb;go_wp2_with fail
 refine(C5.o _).mono ?_;rintro e w3 ⟨rfl,hb⟩;have wm:=hbt w9 hb;clear hb;go_wp2;go_ret
 exact⟨by rw[← HR.o];rfl,wm.o⟩
theorem lV (a b g:ByteArray)(r:Bool)(hr:(g.toList==[49])=r)(w:World)(hl:La w)
 (h1:∀ W,Calls Tryz.prog 123 #[.string a] W fun e w'=>e=.returned (.bool false)∧W=w')
 (h3:CL 126 #[.string a,.string b] (.string g)) :
 CR 79 #[.string a,.string b] w (.bool r):=by
 obtain ⟨C1,C3,u6,HL,HR⟩:=bz h1 h3 (Below.refl w.heap.size w) hl hr;clear h1 h3 hr hl;go_enter func79,ntmps79
 go_wp2_with fail
 refine(C1.o _).mono ?_;rintro e w' ⟨rfl,rfl⟩;go_wp2_with fail
 refine(C3.o _ (HL.o.on u6.o)).mono ?_;rintro e w1 ⟨rfl,hb⟩;have uu:=hbt u6 hb;clear hb;go_wp2;go_ret
 exact⟨by rw[← HR.o];rfl,uu.o⟩
theorem lU (a b g:ByteArray)(r:Bool)(hr:(g.toList==[49])=r)(w:World)(hl:La w)
 (h1:∀ W,Calls Tryz.prog 123 #[.string a] W fun e w'=>e=.returned (.bool true)∧W=w') (h2:∀ W,Calls Tryz.prog 123 #[.string b] W fun e w'=>e=.returned (.bool false)∧W=w')
 (h3:CL 126 #[.string a,.string b] (.string g)) :
 CR 79 #[.string a,.string b] w (.bool r):=by
 obtain ⟨C1,C2,C3,u6,HL,HR⟩:=di h1 h2 h3 (Below.refl w.heap.size w) hl hr;clear h1 h2 h3 hr hl;go_enter func79,ntmps79
 go_wp2_with fail
 refine(C1.o _).mono ?_;rintro e w' ⟨rfl,rfl⟩;go_wp2_with fail
 refine(C2.o _).mono ?_;rintro e w' ⟨rfl,rfl⟩;go_wp2_with fail
 refine(C3.o _ (HL.o.on u6.o)).mono ?_;rintro e w1 ⟨rfl,hb⟩;have uu:=hbt u6 hb;clear hb;go_wp2;go_ret
 exact⟨by rw[← HR.o];rfl,uu.o⟩
theorem z0F {z:Int}(h:(Sz z).size≤18):z.natAbs<4611686018427387904:=by
 have h1:z.natAbs<10^18:=jv h;omega
theorem xX (x y:Int)(r:Bool)(hr:(Nat.gcd x.natAbs y.natAbs==1)=r)(hx:FitL x)(hy:FitL y)(w:World)(hl:La w) :
 CR 79 #[.string (Sz x),.string (Sz y)] w (.bool r):=by
 have hlong:((Sz ((Nat.gcd x.natAbs y.natAbs:Nat):Int)).toList==[49])=r:=by
  rw[← hr];by_cases h:Nat.gcd x.natAbs y.natAbs=1
  · rw[h,show((1:Nat):Int)=1 from rfl,kG,toList_data];rfl
  · rw[jo (by omega)];simpa using h
 by_cases h1:(Sz x).size≤18
 · by_cases h2:(Sz y).size≤18
   · refine lT _ _ x y ((Nat.gcd x.natAbs y.natAbs:Nat):Int) r ?_ w (fun W=>lL _ h1 W) (fun W=>lL _ h2 W) (fun W=>pR x h1 W) (fun W=>pR y h2 W) (fun W=>rgcd x y (z0F h1) (z0F h2) W)
     rw[← hr,Bool.eq_iff_iff];simp
     omega
   · exact lU _ _ _ r hlong w hl (fun W=>lL _ h1 W) (fun W=>tZ _ (by omega) W) (fun W hW=>lK x y _ rfl hx hy W hW)
 · exact lV _ _ _ r hlong w hl (fun W=>tZ _ (by omega) W) (fun W hW=>lK x y _ rfl hx hy W hW)
theorem zH (a:ByteArray)(w:World) :
 CR 116 #[.agg #[.string a,.string ⟨#[49]⟩]] w (.string a):=by
 go_enter func116,ntmps116
 go_wp2;go_ret
 exact⟨rfl,(Below.refl _ _).alloc (Nat.le_refl _) _⟩
theorem vX (a b:ByteArray)(h1:(b.toList==[49])=false)(ha:a.size≤10000)(hb:b.size≤10000)(w:World) :
 CR 116 #[.agg #[.string a,.string b]] w (.string (a++⟨#[47]⟩++b)):=by
 have s1:(⟨#[47]⟩:ByteArray).size=1:=rfl;have s2:(a++⟨#[47]⟩:ByteArray).size=a.size+1:=by rw[ByteArray.size_append,s1]
 have e1:=run_string_add_sum (P:=Tryz.prog) (w.alloc (.cells #[.string a,.string b] 67)) a ⟨#[47]⟩ (by rw[s1];omega);have e2:=run_string_add_sum (P:=Tryz.prog) (w.alloc (.cells #[.string a,.string b] 67)) (a++⟨#[47]⟩) b (by rw[s2];omega);clear s1 s2 ha hb;go_enter func116,ntmps116
 go_wp2;go_ret
 exact⟨rfl,(Below.refl _ _).alloc (Nat.le_refl _) _⟩
theorem yA (q:Rat)(hn:FitL q.num)(hd:FitL (q.den:Int))(w:World) :
 CR 116 #[.agg #[.string (Sz q.num),.string (Sz (q.den:Int))]] w (.string (Sq q)):=by
 by_cases h:q.den=1
 · rw[h,jr h,show((1:Nat):Int)=1 from rfl,kG]
   exact zH _ w
 · have h2:=vX (Sz q.num) (Sz (q.den:Int)) (jo (by omega)) (by have:=jZ hn (by decide);omega) (by have:=jZ hd (by decide);omega) w
   have e:Sz q.num++⟨#[47]⟩++Sz (q.den:Int)=Sq q:=by
    rw[qL h,dU];apply ByteArray.ext
    apply Array.ext'
    simp[Sn]
   rw[e]at h2;exact h2
theorem mF (a n d:ByteArray)(r:Bool)(w:World)(hl:La w)
 (h1:CQ 76 #[.string a,.string ⟨#[47]⟩] (.tuple #[.string n,.string d,.bool false]))
 (h2:CL 77 #[.string n] (.bool r)) :
 CR 39 #[.string a] w (.tuple #[.agg #[.string n,.string ⟨#[49]⟩],.bool r]):=by
 have C1:=hid h1;have C2:=hid h2;obtain⟨w0,hw0⟩:∃ w0:World,w0=(w.alloc (.cells #[.string ⟨#[]⟩,.string ⟨#[]⟩] 67)):=⟨_,rfl⟩;have hz0:w0.heap.size=w.heap.size+1:=by rw[hw0];simp
 have hB0:Below w.heap.size w w0:=by
  rw[hw0];repeat (first|exact Below.refl _ _|refine Below.setCell ?_ (by first|omega|(simp;omega)|simp) _|refine Below.alloc ?_ (by first|omega|(simp;omega)|simp) _|refine Below.drew ?_)
 have hS0:w0.cell? ⟨w.heap.size,0,none⟩=some (.string ⟨#[]⟩)∧w0.cell? ⟨w.heap.size,1,none⟩=some (.string ⟨#[]⟩):=by rw[hw0];exact⟨((aM).trans rfl),((aM).trans rfl)⟩
 have KS:=hid (show ∀ W:World,Below w0.heap.size w0 W→(W.cell? ⟨w.heap.size,0,none⟩=some (.string ⟨#[]⟩)∧W.cell? ⟨w.heap.size,1,none⟩=some (.string ⟨#[]⟩)) from fun W hB=>by
  obtain⟨c0,c1⟩:=hS0
  exact⟨hB.kc c0 (by omega),hB.kc c1 (by omega)⟩)
 have KZ:=Below.kz (show w.heap.size+1≤w0.heap.size by omega);have KB:=hB0.kb (by omega);have hR0:w0.cell? ⟨w.heap.size,0,none⟩=some (.string ⟨#[]⟩)∧w0.cell? ⟨w.heap.size,1,none⟩=some (.string ⟨#[]⟩)∧w0.frozen? ⟨w.heap.size,0,none⟩=false∧w0.frozen? ⟨w.heap.size,1,none⟩=false:=by rw[hw0];exact⟨((aM).trans rfl),((aM).trans rfl),(bG),(bG)⟩
 have KR:=hid (show ∀ W:World,Below w0.heap.size w0 W→(W.cell? ⟨w.heap.size,0,none⟩=some (.string ⟨#[]⟩)∧W.cell? ⟨w.heap.size,1,none⟩=some (.string ⟨#[]⟩)∧W.frozen? ⟨w.heap.size,0,none⟩=false∧W.frozen? ⟨w.heap.size,1,none⟩=false) from fun W hB=>by
  obtain⟨c0,c1,f0,f1⟩:=hR0
  exact⟨hB.kc c0 (by omega),hB.kc c1 (by omega),hB.kf f0 (by omega),hB.kf f1 (by omega)⟩)
 clear hR0;have F0:=hid (Below.refl w0.heap.size w0);have HW0:=hid hw0;clear hz0 hB0 hS0 hw0;have HL:=KB.kl fun _=>hl.on;clear hl h1 h2;go_enter func39,ntmps39
 go_wp2_with fail
 rw[← HW0.o];obtain⟨d0,d1⟩:=KS.o _ F0.o;go_wp2_with fail
 refine(C1.o _).mono ?_;rintro e w1 ⟨rfl,hb⟩;have F1:=hid (au F0.o hb);clear hb d0 d1;obtain⟨d0,d1⟩:=KS.o _ F1.o;go_wp2_with fail
 refine(C2.o _ (HL.o _ F1.o)).mono ?_;rintro e w2 ⟨rfl,hb⟩;have F2:=hid (au F1.o hb);clear hb d0 d1;obtain⟨d0,d1⟩:=KS.o _ F2.o
 all_goals
  obtain⟨m0,m1,n0,n1⟩:=KR.o _ F2.o;have hz:=KZ.o _ F2.o;go_wp2;refine bodyPost_ret (v:=.tuple #[.agg #[.string n,.string ⟨#[49]⟩],.bool r]) (by simp[results,results39,go_sem,m0,m1]) rfl ⟨rfl,?_⟩;repeat (first|exact KB.o _ F2.o|refine Below.setCell ?_ (by first|omega|(simp;omega)|simp) _|refine Below.alloc ?_ (by first|omega|(simp;omega)|simp) _|refine Below.drew ?_)
theorem kP (a n d:ByteArray)(s:Int)(r:Bool)(hd1:(d.toList==[49])=false)(hs:1≤s)(w:World)(hl:La w)
 (h1:CQ 76 #[.string a,.string ⟨#[47]⟩] (.tuple #[.string n,.string d,.bool true]))
 (h2:CL 77 #[.string n] (.bool true))
 (h3:CL 77 #[.string d] (.bool true))
 (h4:CL 78 #[.string d] (.int .i64 s))
 (h5:CL 79 #[.string n,.string d] (.bool r)) :
 CR 39 #[.string a] w (.tuple #[.agg #[.string n,.string d],.bool r]):=by
 obtain ⟨C1,C2,C3,C4,C5⟩:=bz h1 h2 h3 h4 h5;obtain⟨w0,hw0⟩:∃ w0:World,w0=(w.alloc (.cells #[.string ⟨#[]⟩,.string ⟨#[]⟩] 67)):=⟨_,rfl⟩;have hz0:w0.heap.size=w.heap.size+1:=by rw[hw0];simp
 have hB0:Below w.heap.size w w0:=by
  rw[hw0];repeat (first|exact Below.refl _ _|refine Below.setCell ?_ (by first|omega|(simp;omega)|simp) _|refine Below.alloc ?_ (by first|omega|(simp;omega)|simp) _|refine Below.drew ?_)
 have hS0:w0.cell? ⟨w.heap.size,0,none⟩=some (.string ⟨#[]⟩)∧w0.cell? ⟨w.heap.size,1,none⟩=some (.string ⟨#[]⟩):=by rw[hw0];exact⟨((aM).trans rfl),((aM).trans rfl)⟩
 have KS:=hid (show ∀ W:World,Below w0.heap.size w0 W→(W.cell? ⟨w.heap.size,0,none⟩=some (.string ⟨#[]⟩)∧W.cell? ⟨w.heap.size,1,none⟩=some (.string ⟨#[]⟩)) from fun W hB=>by
  obtain⟨c0,c1⟩:=hS0
  exact⟨hB.kc c0 (by omega),hB.kc c1 (by omega)⟩)
 have KZ:=Below.kz (show w.heap.size+1≤w0.heap.size by omega);have KB:=hB0.kb (by omega);have hR0:w0.cell? ⟨w.heap.size,0,none⟩=some (.string ⟨#[]⟩)∧w0.cell? ⟨w.heap.size,1,none⟩=some (.string ⟨#[]⟩)∧w0.frozen? ⟨w.heap.size,0,none⟩=false∧w0.frozen? ⟨w.heap.size,1,none⟩=false:=by rw[hw0];exact⟨((aM).trans rfl),((aM).trans rfl),(bG),(bG)⟩
 have KR:=hid (show ∀ W:World,Below w0.heap.size w0 W→(W.cell? ⟨w.heap.size,0,none⟩=some (.string ⟨#[]⟩)∧W.cell? ⟨w.heap.size,1,none⟩=some (.string ⟨#[]⟩)∧W.frozen? ⟨w.heap.size,0,none⟩=false∧W.frozen? ⟨w.heap.size,1,none⟩=false) from fun W hB=>by
  obtain⟨c0,c1,f0,f1⟩:=hR0
  exact⟨hB.kc c0 (by omega),hB.kc c1 (by omega),hB.kf f0 (by omega),hB.kf f1 (by omega)⟩)
 clear hR0;have F0:=hid (Below.refl w0.heap.size w0);have HW0:=hid hw0;clear hz0 hB0 hS0 hw0;have HL:=KB.kl fun _=>hl.on;clear hl h1 h2 h3 h4 h5;go_enter func39,ntmps39
 have hs1:decide (s<1)=false:=by rw[decide_eq_false_iff_not];omega
 clear hs;go_wp2_with fail
 rw[← HW0.o];obtain⟨d0,d1⟩:=KS.o _ F0.o;go_wp2_with fail
 refine(C1.o _).mono ?_;rintro e w1 ⟨rfl,hb⟩;have F1:=hid (au F0.o hb);clear hb d0 d1;obtain⟨d0,d1⟩:=KS.o _ F1.o;go_wp2_with fail
 refine(C2.o _ (HL.o _ F1.o)).mono ?_;rintro e w2 ⟨rfl,hb⟩;have F2:=hid (au F1.o hb);clear hb d0 d1;obtain⟨d0,d1⟩:=KS.o _ F2.o;go_wp2_with fail
 refine(C3.o _ (HL.o _ F2.o)).mono ?_;rintro e w3 ⟨rfl,hb⟩;have F3:=hid (au F2.o hb);clear hb d0 d1;obtain⟨d0,d1⟩:=KS.o _ F3.o;go_wp2_with fail
 refine(C4.o _ (HL.o _ F3.o)).mono ?_;rintro e w4 ⟨rfl,hb⟩;have F4:=hid (au F3.o hb);clear hb d0 d1;obtain⟨d0,d1⟩:=KS.o _ F4.o;go_wp2_with fail
 refine(C5.o _ (HL.o _ F4.o)).mono ?_;rintro e w5 ⟨rfl,hb⟩;have F5:=hid (au F4.o hb);clear hb d0 d1;obtain⟨d0,d1⟩:=KS.o _ F5.o
 all_goals
  obtain⟨m0,m1,n0,n1⟩:=KR.o _ F5.o;have hz:=KZ.o _ F5.o;go_wp2;refine bodyPost_ret (v:=.tuple #[.agg #[.string n,.string d],.bool r]) (by simp[results,results39,go_sem,m0,m1]) rfl ⟨rfl,?_⟩;repeat (first|exact KB.o _ F5.o|refine Below.setCell ?_ (by first|omega|(simp;omega)|simp) _|refine Below.alloc ?_ (by first|omega|(simp;omega)|simp) _|refine Below.drew ?_)
theorem qX (a n d:ByteArray)(w:World)(hl:La w)
 (h1:CQ 76 #[.string a,.string ⟨#[47]⟩] (.tuple #[.string n,.string d,.bool true]))
 (h2:CL 77 #[.string n] (.bool false)) :
 CR 39 #[.string a] w (.tuple #[.agg #[.string ⟨#[]⟩,.string ⟨#[]⟩],.bool false]):=by
 have C1:=hid h1;have C2:=hid h2;obtain⟨w0,hw0⟩:∃ w0:World,w0=(w.alloc (.cells #[.string ⟨#[]⟩,.string ⟨#[]⟩] 67)):=⟨_,rfl⟩;have hz0:w0.heap.size=w.heap.size+1:=by rw[hw0];simp
 have hB0:Below w.heap.size w w0:=by
  rw[hw0];repeat (first|exact Below.refl _ _|refine Below.setCell ?_ (by first|omega|(simp;omega)|simp) _|refine Below.alloc ?_ (by first|omega|(simp;omega)|simp) _|refine Below.drew ?_)
 have hS0:w0.cell? ⟨w.heap.size,0,none⟩=some (.string ⟨#[]⟩)∧w0.cell? ⟨w.heap.size,1,none⟩=some (.string ⟨#[]⟩):=by rw[hw0];exact⟨((aM).trans rfl),((aM).trans rfl)⟩
 have KS:=hid (show ∀ W:World,Below w0.heap.size w0 W→(W.cell? ⟨w.heap.size,0,none⟩=some (.string ⟨#[]⟩)∧W.cell? ⟨w.heap.size,1,none⟩=some (.string ⟨#[]⟩)) from fun W hB=>by
  obtain⟨c0,c1⟩:=hS0
  exact⟨hB.kc c0 (by omega),hB.kc c1 (by omega)⟩)
 have KZ:=Below.kz (show w.heap.size+1≤w0.heap.size by omega);have KB:=hB0.kb (by omega);have hR0:w0.cell? ⟨w.heap.size,0,none⟩=some (.string ⟨#[]⟩)∧w0.cell? ⟨w.heap.size,1,none⟩=some (.string ⟨#[]⟩)∧w0.frozen? ⟨w.heap.size,0,none⟩=false∧w0.frozen? ⟨w.heap.size,1,none⟩=false:=by rw[hw0];exact⟨((aM).trans rfl),((aM).trans rfl),(bG),(bG)⟩
 have KR:=hid (show ∀ W:World,Below w0.heap.size w0 W→(W.cell? ⟨w.heap.size,0,none⟩=some (.string ⟨#[]⟩)∧W.cell? ⟨w.heap.size,1,none⟩=some (.string ⟨#[]⟩)∧W.frozen? ⟨w.heap.size,0,none⟩=false∧W.frozen? ⟨w.heap.size,1,none⟩=false) from fun W hB=>by
  obtain⟨c0,c1,f0,f1⟩:=hR0
  exact⟨hB.kc c0 (by omega),hB.kc c1 (by omega),hB.kf f0 (by omega),hB.kf f1 (by omega)⟩)
 clear hR0;have F0:=hid (Below.refl w0.heap.size w0);have HW0:=hid hw0;clear hz0 hB0 hS0 hw0;have HL:=KB.kl fun _=>hl.on;clear hl h1 h2;go_enter func39,ntmps39
 go_wp2_with fail
 rw[← HW0.o];obtain⟨d0,d1⟩:=KS.o _ F0.o;go_wp2_with fail
 refine(C1.o _).mono ?_;rintro e w1 ⟨rfl,hb⟩;have F1:=hid (au F0.o hb);clear hb d0 d1;obtain⟨d0,d1⟩:=KS.o _ F1.o;go_wp2_with fail
 refine(C2.o _ (HL.o _ F1.o)).mono ?_;rintro e w2 ⟨rfl,hb⟩;have F2:=hid (au F1.o hb);clear hb d0 d1;obtain⟨d0,d1⟩:=KS.o _ F2.o
 all_goals
  obtain⟨m0,m1,n0,n1⟩:=KR.o _ F2.o;have hz:=KZ.o _ F2.o;go_wp2;refine bodyPost_ret (v:=.tuple #[.agg #[.string ⟨#[]⟩,.string ⟨#[]⟩],.bool false]) (by simp[results,results39,go_sem,m0,m1]) rfl ⟨rfl,?_⟩;repeat (first|exact KB.o _ F2.o|refine Below.setCell ?_ (by first|omega|(simp;omega)|simp) _|refine Below.alloc ?_ (by first|omega|(simp;omega)|simp) _|refine Below.drew ?_)
theorem qW (a n d:ByteArray)(w:World)(hl:La w)
 (h1:CQ 76 #[.string a,.string ⟨#[47]⟩] (.tuple #[.string n,.string d,.bool true]))
 (h2:CL 77 #[.string n] (.bool true))
 (h3:CL 77 #[.string d] (.bool false)) :
 CR 39 #[.string a] w (.tuple #[.agg #[.string ⟨#[]⟩,.string ⟨#[]⟩],.bool false]):=by
 obtain ⟨C1,C2,C3⟩:=ak h1 h2 h3;obtain⟨w0,hw0⟩:∃ w0:World,w0=(w.alloc (.cells #[.string ⟨#[]⟩,.string ⟨#[]⟩] 67)):=⟨_,rfl⟩;have hz0:w0.heap.size=w.heap.size+1:=by rw[hw0];simp
 have hB0:Below w.heap.size w w0:=by
  rw[hw0];repeat (first|exact Below.refl _ _|refine Below.setCell ?_ (by first|omega|(simp;omega)|simp) _|refine Below.alloc ?_ (by first|omega|(simp;omega)|simp) _|refine Below.drew ?_)
 have hS0:w0.cell? ⟨w.heap.size,0,none⟩=some (.string ⟨#[]⟩)∧w0.cell? ⟨w.heap.size,1,none⟩=some (.string ⟨#[]⟩):=by rw[hw0];exact⟨((aM).trans rfl),((aM).trans rfl)⟩
 have KS:=hid (show ∀ W:World,Below w0.heap.size w0 W→(W.cell? ⟨w.heap.size,0,none⟩=some (.string ⟨#[]⟩)∧W.cell? ⟨w.heap.size,1,none⟩=some (.string ⟨#[]⟩)) from fun W hB=>by
  obtain⟨c0,c1⟩:=hS0
  exact⟨hB.kc c0 (by omega),hB.kc c1 (by omega)⟩)
 have KZ:=Below.kz (show w.heap.size+1≤w0.heap.size by omega);have KB:=hB0.kb (by omega);have hR0:w0.cell? ⟨w.heap.size,0,none⟩=some (.string ⟨#[]⟩)∧w0.cell? ⟨w.heap.size,1,none⟩=some (.string ⟨#[]⟩)∧w0.frozen? ⟨w.heap.size,0,none⟩=false∧w0.frozen? ⟨w.heap.size,1,none⟩=false:=by rw[hw0];exact⟨((aM).trans rfl),((aM).trans rfl),(bG),(bG)⟩
 have KR:=hid (show ∀ W:World,Below w0.heap.size w0 W→(W.cell? ⟨w.heap.size,0,none⟩=some (.string ⟨#[]⟩)∧W.cell? ⟨w.heap.size,1,none⟩=some (.string ⟨#[]⟩)∧W.frozen? ⟨w.heap.size,0,none⟩=false∧W.frozen? ⟨w.heap.size,1,none⟩=false) from fun W hB=>by
  obtain⟨c0,c1,f0,f1⟩:=hR0
  exact⟨hB.kc c0 (by omega),hB.kc c1 (by omega),hB.kf f0 (by omega),hB.kf f1 (by omega)⟩)
 clear hR0;have F0:=hid (Below.refl w0.heap.size w0);have HW0:=hid hw0;clear hz0 hB0 hS0 hw0;have HL:=KB.kl fun _=>hl.on;clear hl h1 h2 h3;go_enter func39,ntmps39
 go_wp2_with fail
 rw[← HW0.o];obtain⟨d0,d1⟩:=KS.o _ F0.o;go_wp2_with fail
 refine(C1.o _).mono ?_;rintro e w1 ⟨rfl,hb⟩;have F1:=hid (au F0.o hb);clear hb d0 d1;obtain⟨d0,d1⟩:=KS.o _ F1.o;go_wp2_with fail
 refine(C2.o _ (HL.o _ F1.o)).mono ?_;rintro e w2 ⟨rfl,hb⟩;have F2:=hid (au F1.o hb);clear hb d0 d1;obtain⟨d0,d1⟩:=KS.o _ F2.o;go_wp2_with fail
 refine(C3.o _ (HL.o _ F2.o)).mono ?_;rintro e w3 ⟨rfl,hb⟩;have F3:=hid (au F2.o hb);clear hb d0 d1;obtain⟨d0,d1⟩:=KS.o _ F3.o
 all_goals
  obtain⟨m0,m1,n0,n1⟩:=KR.o _ F3.o;have hz:=KZ.o _ F3.o;go_wp2;refine bodyPost_ret (v:=.tuple #[.agg #[.string ⟨#[]⟩,.string ⟨#[]⟩],.bool false]) (by simp[results,results39,go_sem,m0,m1]) rfl ⟨rfl,?_⟩;repeat (first|exact KB.o _ F3.o|refine Below.setCell ?_ (by first|omega|(simp;omega)|simp) _|refine Below.alloc ?_ (by first|omega|(simp;omega)|simp) _|refine Below.drew ?_)
theorem qV (a n:ByteArray)(w:World)(hl:La w)
 (h1:CQ 76 #[.string a,.string ⟨#[47]⟩] (.tuple #[.string n,.string ⟨#[49]⟩,.bool true]))
 (h2:CL 77 #[.string n] (.bool true))
 (h3:CL 77 #[.string ⟨#[49]⟩] (.bool true)) :
 CR 39 #[.string a] w (.tuple #[.agg #[.string ⟨#[]⟩,.string ⟨#[]⟩],.bool false]):=by
 obtain ⟨C1,C2,C3⟩:=ak h1 h2 h3;obtain⟨w0,hw0⟩:∃ w0:World,w0=(w.alloc (.cells #[.string ⟨#[]⟩,.string ⟨#[]⟩] 67)):=⟨_,rfl⟩;have hz0:w0.heap.size=w.heap.size+1:=by rw[hw0];simp
 have hB0:Below w.heap.size w w0:=by
  rw[hw0];repeat (first|exact Below.refl _ _|refine Below.setCell ?_ (by first|omega|(simp;omega)|simp) _|refine Below.alloc ?_ (by first|omega|(simp;omega)|simp) _|refine Below.drew ?_)
 have hS0:w0.cell? ⟨w.heap.size,0,none⟩=some (.string ⟨#[]⟩)∧w0.cell? ⟨w.heap.size,1,none⟩=some (.string ⟨#[]⟩):=by rw[hw0];exact⟨((aM).trans rfl),((aM).trans rfl)⟩
 have KS:=hid (show ∀ W:World,Below w0.heap.size w0 W→(W.cell? ⟨w.heap.size,0,none⟩=some (.string ⟨#[]⟩)∧W.cell? ⟨w.heap.size,1,none⟩=some (.string ⟨#[]⟩)) from fun W hB=>by
  obtain⟨c0,c1⟩:=hS0
  exact⟨hB.kc c0 (by omega),hB.kc c1 (by omega)⟩)
 have KZ:=Below.kz (show w.heap.size+1≤w0.heap.size by omega);have KB:=hB0.kb (by omega);have hR0:w0.cell? ⟨w.heap.size,0,none⟩=some (.string ⟨#[]⟩)∧w0.cell? ⟨w.heap.size,1,none⟩=some (.string ⟨#[]⟩)∧w0.frozen? ⟨w.heap.size,0,none⟩=false∧w0.frozen? ⟨w.heap.size,1,none⟩=false:=by rw[hw0];exact⟨((aM).trans rfl),((aM).trans rfl),(bG),(bG)⟩
 have KR:=hid (show ∀ W:World,Below w0.heap.size w0 W→(W.cell? ⟨w.heap.size,0,none⟩=some (.string ⟨#[]⟩)∧W.cell? ⟨w.heap.size,1,none⟩=some (.string ⟨#[]⟩)∧W.frozen? ⟨w.heap.size,0,none⟩=false∧W.frozen? ⟨w.heap.size,1,none⟩=false) from fun W hB=>by
  obtain⟨c0,c1,f0,f1⟩:=hR0
  exact⟨hB.kc c0 (by omega),hB.kc c1 (by omega),hB.kf f0 (by omega),hB.kf f1 (by omega)⟩)
 clear hR0;have F0:=hid (Below.refl w0.heap.size w0);have HW0:=hid hw0;clear hz0 hB0 hS0 hw0;have HL:=KB.kl fun _=>hl.on;clear hl h1 h2 h3;go_enter func39,ntmps39
 go_wp2_with fail
 rw[← HW0.o];obtain⟨d0,d1⟩:=KS.o _ F0.o;go_wp2_with fail
 refine(C1.o _).mono ?_;rintro e w1 ⟨rfl,hb⟩;have F1:=hid (au F0.o hb);clear hb d0 d1;obtain⟨d0,d1⟩:=KS.o _ F1.o;go_wp2_with fail
 refine(C2.o _ (HL.o _ F1.o)).mono ?_;rintro e w2 ⟨rfl,hb⟩;have F2:=hid (au F1.o hb);clear hb d0 d1;obtain⟨d0,d1⟩:=KS.o _ F2.o;go_wp2_with fail
 refine(C3.o _ (HL.o _ F2.o)).mono ?_;rintro e w3 ⟨rfl,hb⟩;have F3:=hid (au F2.o hb);clear hb d0 d1;obtain⟨d0,d1⟩:=KS.o _ F3.o
 all_goals
  obtain⟨m0,m1,n0,n1⟩:=KR.o _ F3.o;have hz:=KZ.o _ F3.o;go_wp2;refine bodyPost_ret (v:=.tuple #[.agg #[.string ⟨#[]⟩,.string ⟨#[]⟩],.bool false]) (by simp[results,results39,go_sem,m0,m1]) rfl ⟨rfl,?_⟩;repeat (first|exact KB.o _ F3.o|refine Below.setCell ?_ (by first|omega|(simp;omega)|simp) _|refine Below.alloc ?_ (by first|omega|(simp;omega)|simp) _|refine Below.drew ?_)
theorem qU (a n d:ByteArray)(s:Int)(hd1:(d.toList==[49])=false)(hs:s<1)(w:World)(hl:La w)
 (h1:CQ 76 #[.string a,.string ⟨#[47]⟩] (.tuple #[.string n,.string d,.bool true]))
 (h2:CL 77 #[.string n] (.bool true))
 (h3:CL 77 #[.string d] (.bool true))
 (h4:CL 78 #[.string d] (.int .i64 s)) :
 CR 39 #[.string a] w (.tuple #[.agg #[.string ⟨#[]⟩,.string ⟨#[]⟩],.bool false]):=by
 obtain ⟨C1,C2,C3,C4⟩:=aN h1 h2 h3 h4;obtain⟨w0,hw0⟩:∃ w0:World,w0=(w.alloc (.cells #[.string ⟨#[]⟩,.string ⟨#[]⟩] 67)):=⟨_,rfl⟩;have hz0:w0.heap.size=w.heap.size+1:=by rw[hw0];simp
 have hB0:Below w.heap.size w w0:=by
  rw[hw0];repeat (first|exact Below.refl _ _|refine Below.setCell ?_ (by first|omega|(simp;omega)|simp) _|refine Below.alloc ?_ (by first|omega|(simp;omega)|simp) _|refine Below.drew ?_)
 have hS0:w0.cell? ⟨w.heap.size,0,none⟩=some (.string ⟨#[]⟩)∧w0.cell? ⟨w.heap.size,1,none⟩=some (.string ⟨#[]⟩):=by rw[hw0];exact⟨((aM).trans rfl),((aM).trans rfl)⟩
 have KS:=hid (show ∀ W:World,Below w0.heap.size w0 W→(W.cell? ⟨w.heap.size,0,none⟩=some (.string ⟨#[]⟩)∧W.cell? ⟨w.heap.size,1,none⟩=some (.string ⟨#[]⟩)) from fun W hB=>by
  obtain⟨c0,c1⟩:=hS0
  exact⟨hB.kc c0 (by omega),hB.kc c1 (by omega)⟩)
 have KZ:=Below.kz (show w.heap.size+1≤w0.heap.size by omega);have KB:=hB0.kb (by omega);have hR0:w0.cell? ⟨w.heap.size,0,none⟩=some (.string ⟨#[]⟩)∧w0.cell? ⟨w.heap.size,1,none⟩=some (.string ⟨#[]⟩)∧w0.frozen? ⟨w.heap.size,0,none⟩=false∧w0.frozen? ⟨w.heap.size,1,none⟩=false:=by rw[hw0];exact⟨((aM).trans rfl),((aM).trans rfl),(bG),(bG)⟩
 have KR:=hid (show ∀ W:World,Below w0.heap.size w0 W→(W.cell? ⟨w.heap.size,0,none⟩=some (.string ⟨#[]⟩)∧W.cell? ⟨w.heap.size,1,none⟩=some (.string ⟨#[]⟩)∧W.frozen? ⟨w.heap.size,0,none⟩=false∧W.frozen? ⟨w.heap.size,1,none⟩=false) from fun W hB=>by
  obtain⟨c0,c1,f0,f1⟩:=hR0
  exact⟨hB.kc c0 (by omega),hB.kc c1 (by omega),hB.kf f0 (by omega),hB.kf f1 (by omega)⟩)
 clear hR0;have F0:=hid (Below.refl w0.heap.size w0);have HW0:=hid hw0;clear hz0 hB0 hS0 hw0;have HL:=KB.kl fun _=>hl.on;clear hl h1 h2 h3 h4;go_enter func39,ntmps39
 go_wp2_with fail
 rw[← HW0.o];obtain⟨d0,d1⟩:=KS.o _ F0.o;go_wp2_with fail
 refine(C1.o _).mono ?_;rintro e w1 ⟨rfl,hb⟩;have F1:=hid (au F0.o hb);clear hb d0 d1;obtain⟨d0,d1⟩:=KS.o _ F1.o;go_wp2_with fail
 refine(C2.o _ (HL.o _ F1.o)).mono ?_;rintro e w2 ⟨rfl,hb⟩;have F2:=hid (au F1.o hb);clear hb d0 d1;obtain⟨d0,d1⟩:=KS.o _ F2.o;go_wp2_with fail
 refine(C3.o _ (HL.o _ F2.o)).mono ?_;rintro e w3 ⟨rfl,hb⟩;have F3:=hid (au F2.o hb);clear hb d0 d1;obtain⟨d0,d1⟩:=KS.o _ F3.o;go_wp2_with fail
 refine(C4.o _ (HL.o _ F3.o)).mono ?_;rintro e w4 ⟨rfl,hb⟩;have F4:=hid (au F3.o hb);clear hb d0 d1;obtain⟨d0,d1⟩:=KS.o _ F4.o
 all_goals
  obtain⟨m0,m1,n0,n1⟩:=KR.o _ F4.o;have hz:=KZ.o _ F4.o;go_wp2;refine bodyPost_ret (v:=.tuple #[.agg #[.string ⟨#[]⟩,.string ⟨#[]⟩],.bool false]) (by simp[results,results39,go_sem,m0,m1]) rfl ⟨rfl,?_⟩;repeat (first|exact KB.o _ F4.o|refine Below.setCell ?_ (by first|omega|(simp;omega)|simp) _|refine Below.alloc ?_ (by first|omega|(simp;omega)|simp) _|refine Below.drew ?_)
def Fv (q:Rat):Value:=.agg #[.string (Sz q.num),.string (Sz (q.den:Int))]
theorem aO.numL {q:Rat}(h:aO q):FitL q.num:=h.1.mono (by decide)
theorem aO.denL {q:Rat}(h:aO q):FitL (q.den:Int):=FitL.nat (h.2.mono (by decide))
theorem z3C (s:ByteArray)(hs:s.size≤100000)(n d:List UInt8)(f:Bool)(h:Lib.cut s.data.toList [47]=(n,d,f))(W:World) :
 CR 76 #[.string s,.string ⟨#[47]⟩] W (.tuple #[.string ⟨n.toArray⟩,.string ⟨d.toArray⟩,.bool f]):=by
 have h1:=cut1 47 s hs W;rw[h]at h1;exact h1
theorem z7i (z:Int):(⟨(Sz z).data.toList.toArray⟩:ByteArray)=Sz z:=by cases Sz z;simp
theorem z6p (n:Nat):(⟨(Lib.decDigits n).toArray⟩:ByteArray)=Sz (n:Int):=by rw[dU];rfl
theorem o6 (q:Rat)(hq:aO q)(w:World)(hl:La w) :
 CR 39 #[.string (Sq q)] w (.tuple #[Fv q,.bool true]):=by
 have hsz:(Sq q).size≤100000:=by have:=z0v (show SmQ 900 q from hq) (by decide);omega
 unfold Fv
 by_cases h:q.den=1
 · have hc:=z1M q.num
   rw[← jr h]at hc
   have h2:=mF (Sq q) (Sq q) ⟨#[]⟩ true w hl (fun W=>by
    have:=z3C (Sq q) hsz _ _ _ hc W
    rwa [show(⟨(Sq q).data.toList.toArray⟩:ByteArray)=Sq q by cases Sq q;simp]at this) (fun W hW=>by rw[jr h];exact dQ q.num hq.numL.z W hW.zz)
   rw[h,show((1:Nat):Int)=1 from rfl,kG];rw[jr h]at h2 ⊢;exact h2
 · have hc:=yI h
   have hd:=q.den_nz
   refine kP (Sq q) (Sz q.num) (Sz (q.den:Int)) 1 true (jo (by omega)) (by decide) w hl (fun W=>by
    have:=z3C (Sq q) hsz _ _ _ hc W
    rwa [z7i,z6p]at this) (fun W hW=>dQ q.num hq.numL.z W hW.zz) (fun W hW=>dQ (q.den:Int) hq.denL.z W hW.zz) (fun W hW=>qQ _ _ (Int.sign_natCast_of_ne_zero hd) hq.denL W hW) (fun W hW=>xX _ _ _ ?_ hq.numL hq.denL W hW)
   have hg:Nat.gcd q.num.natAbs q.den=1:=q.reduced;rw[Int.natAbs_natCast,hg];rfl
theorem size_mk (l:List UInt8):(⟨l.toArray⟩:ByteArray).size=l.length:=by simp[ByteArray.size]
theorem z1d (l:List UInt8):(⟨l.toArray⟩:ByteArray).data.toList=l:=by simp
theorem z3n (a:ByteArray)(h:vldQ a.data.toList=false)(ha:a.size≤900)(w:World)(hl:La w) :
 Calls Tryz.prog 39 #[.string a] w fun e w'=>(∃ n d:ByteArray,e=.returned (.tuple #[.agg #[.string n,.string d],.bool false]))∧Below w.heap.size w w':=by
 have hsz:a.size≤100000:=by omega
 rcases og 47 a.data.toList with⟨_,e⟩|⟨x,y,hx47,el,e⟩
 · unfold vldQ at h
   rw[e]at h;simp only[Bool.false_eq_true,if_false]at h;have hc:=fun W=>z3C a hsz _ _ _ e W;rw[show(⟨a.data.toList.toArray⟩:ByteArray)=a by cases a;simp]at hc;refine(mF a a ⟨#[]⟩ false w hl hc (fun W hW=>nA a h (by unfold maxLen;omega) W)).mono ?_;rintro e w' ⟨rfl,hb⟩;exact⟨⟨_,_,rfl⟩,hb⟩
 · have hl2:x.length+1+y.length≤900:=by
    have h2:a.data.toList.length=x.length+1+y.length:=by rw[el];simp;omega
    rw[aF]at h2;omega
   unfold vldQ at h
   rw[e]at h;simp only[if_true]at h;have hc:=fun W=>z3C a hsz _ _ _ e W;have fin:∀ {v w'},(v=Ending.returned (.tuple #[.agg #[.string ⟨#[]⟩,.string ⟨#[]⟩],.bool false])∧Below w.heap.size w w')→(∃ n d:ByteArray,v=.returned (.tuple #[.agg #[.string n,.string d],.bool false]))∧Below w.heap.size w w':=fun h=>⟨⟨_,_,h.1⟩,h.2⟩
   cases hv1:vldZ x with
   | false =>
     refine(qX a ⟨x.toArray⟩ ⟨y.toArray⟩ w hl hc (fun W hW=>nA _ (by simpa using hv1) (by rw[size_mk];unfold maxLen;omega) W)).mono ?_;intro e w' h;exact fin h
   | true =>
     have ex:=z0q (a:=⟨x.toArray⟩) (by simpa using hv1);rw[z1d]at ex
     have fx:FitL (zval x):=by
        have:=jv (z:=zval x) (k:=900) (by rw[← ex,size_mk];omega);exact FitL.of this (by decide)
     rw[ex]at hc
     cases hv2:vldZ y with
     | false =>
       refine(qW a _ ⟨y.toArray⟩ w hl hc (fun W hW=>dQ _ fx.z W hW.zz) (fun W hW=>nA _ (by simpa using hv2) (by rw[size_mk];unfold maxLen;omega) W)).mono ?_;intro e w' h;exact fin h
     | true =>
       have ey:=z0q (a:=⟨y.toArray⟩) (by simpa using hv2);rw[z1d]at ey
       have fy:FitL (zval y):=by
        have:=jv (z:=zval y) (k:=900) (by rw[← ey,size_mk];omega);exact FitL.of this (by decide)
       rw[ey]at hc;by_cases hy1:zval y=1
       · rw[hy1,kG]at hc
         refine(qV a _ w hl hc (fun W hW=>dQ _ fx.z W hW.zz) (fun W hW=>by have:=dQ 1 fl1.z W hW.zz;rwa [kG]at this)).mono ?_;intro e w' h;exact fin h
       · have hne:=jo hy1
         by_cases hpos:1≤zval y
         · have hco:(Nat.gcd (zval x).natAbs (zval y).natAbs==1)=false:=by
            unfold vldP at h
            rw[hv1,hv2]at h
            have h49:(y==[49])=false:=by
             rw[beq_eq_false_iff_ne];rintro rfl;exact hy1 (by decide)
            rw[h49]at h;simpa [hpos] using h
           refine(kP a _ _ 1 false hne (by decide) w hl hc (fun W hW=>dQ _ fx.z W hW.zz) (fun W hW=>dQ _ fy.z W hW.zz) (fun W hW=>qQ _ _ (Int.sign_eq_one_of_pos (by omega)) fy W hW) (fun W hW=>xX _ _ _ hco fx fy W hW)).mono ?_;rintro e w' ⟨rfl,hb⟩;exact⟨⟨_,_,rfl⟩,hb⟩
         · refine(qU a _ _ (zval y).sign hne ?_ w hl hc (fun W hW=>dQ _ fx.z W hW.zz) (fun W hW=>dQ _ fy.z W hW.zz) (fun W hW=>qQ _ _ rfl fy W hW)).mono ?_
           · rcases Int.sign_trichotomy (zval y) with h3|h3|h3
             · exact absurd (Int.sign_eq_one_iff_pos.1 h3) (by omega)
             · omega
             · omega
           · intro e w' h;exact fin h
