/- texts -/
import Derived.Test.YtkiklcbhglpooaaGreatDoorMz25q
import Derived.Test.YtkiklcbhglpooaaGreatDoorQd
open Go.Proofs.Tryz
set_option maxRecDepth 100000
set_option maxHeartbeats 20000000
open Go.Lib (hid)
namespace Go.Proofs.YtkiklcbhglpooaaGreatDoor
open Go.RowKit Go.Gb
theorem lT (a b:ByteArray)(x y g:Int)(r:Bool)(hr:(g==1)=r)(w:World)
 (h1:∀ W,Calls Tryz.prog 171 #[.string a] W fun e w'=>e=.returned (.bool true)∧W=w') (h2:∀ W,Calls Tryz.prog 171 #[.string b] W fun e w'=>e=.returned (.bool true)∧W=w')
 (h3:CQ 173 #[.string a] (.int .i64 x)) (h4:CQ 173 #[.string b] (.int .i64 y))
 (h5:CQ 172 #[.int .i64 x,.int .i64 y] (.int .i64 g)) :
 CR 122 #[.string a,.string b] w (.bool r):=by
 obtain ⟨C1,C2,C3,C4,C5,u6,HR⟩:=dQ h1 h2 h3 h4 h5 (Below.refl w.heap.size w) hr;clear h1 h2 h3 h4 h5 hr;go_enter func122,ntmps122
 go_wp2_with fail
 refine(C1.o _).mono ?_;rintro e w' ⟨rfl,rfl⟩;go_wp2_with fail
 refine(C2.o _).mono ?_;rintro e w' ⟨rfl,rfl⟩;go_wp2_with fail
 refine(C3.o _).mono ?_;rintro e w1 ⟨rfl,hb⟩;have w9:=hbt u6 hb;clear hb;go_wp2_with fail
 refine(C4.o _).mono ?_;rintro e w2 ⟨rfl,hb⟩;have wm:=hbt w9 hb;clear hb;go_wp2_with fail
 refine(C5.o _).mono ?_;rintro e w3 ⟨rfl,hb⟩;have wo:=hbt wm hb;clear hb;go_wp2;go_ret
 exact⟨by rw[← HR.o];rfl,wo.o⟩
theorem lV (a b g:ByteArray)(r:Bool)(hr:(g.toList==[49])=r)(w:World)(hl:La w)
 (h1:∀ W,Calls Tryz.prog 171 #[.string a] W fun e w'=>e=.returned (.bool false)∧W=w')
 (h3:CL 174 #[.string a,.string b] (.string g)) :
 CR 122 #[.string a,.string b] w (.bool r):=by
 obtain ⟨C1,C3,u6,HL,HR⟩:=bD h1 h3 (Below.refl w.heap.size w) hl hr;clear h1 h3 hr hl;go_enter func122,ntmps122
 go_wp2_with fail
 refine(C1.o _).mono ?_;rintro e w' ⟨rfl,rfl⟩;go_wp2_with fail
 refine(C3.o _ (HL.o.on u6.o)).mono ?_;rintro e w1 ⟨rfl,hb⟩;have w9:=hbt u6 hb;clear hb;go_wp2;go_ret
 exact⟨by rw[← HR.o];rfl,w9.o⟩
theorem lU (a b g:ByteArray)(r:Bool)(hr:(g.toList==[49])=r)(w:World)(hl:La w)
 (h1:∀ W,Calls Tryz.prog 171 #[.string a] W fun e w'=>e=.returned (.bool true)∧W=w') (h2:∀ W,Calls Tryz.prog 171 #[.string b] W fun e w'=>e=.returned (.bool false)∧W=w')
 (h3:CL 174 #[.string a,.string b] (.string g)) :
 CR 122 #[.string a,.string b] w (.bool r):=by
 obtain ⟨C1,C2,C3,u6,HL,HR⟩:=dh h1 h2 h3 (Below.refl w.heap.size w) hl hr;clear h1 h2 h3 hr hl;go_enter func122,ntmps122
 go_wp2_with fail
 refine(C1.o _).mono ?_;rintro e w' ⟨rfl,rfl⟩;go_wp2_with fail
 refine(C2.o _).mono ?_;rintro e w' ⟨rfl,rfl⟩;go_wp2_with fail
 refine(C3.o _ (HL.o.on u6.o)).mono ?_;rintro e w1 ⟨rfl,hb⟩;have w9:=hbt u6 hb;clear hb;go_wp2;go_ret
 exact⟨by rw[← HR.o];rfl,w9.o⟩
theorem z0G {z:Int}(h:(Sz z).size≤18):z.natAbs<4611686018427387904:=by
 have h1:z.natAbs<10^18:=iE h;omega
theorem yu (x y:Int)(r:Bool)(hr:(Nat.gcd x.natAbs y.natAbs==1)=r)(hx:FitL x)(hy:FitL y)(w:World)(hl:La w) :
 CR 122 #[.string (Sz x),.string (Sz y)] w (.bool r):=by
 have hlong:((Sz ((Nat.gcd x.natAbs y.natAbs:Nat):Int)).toList==[49])=r:=by
  rw[← hr];by_cases h:Nat.gcd x.natAbs y.natAbs=1
  · rw[h,show((1:Nat):Int)=1 from rfl,kH,toList_data];rfl
  · rw[jr (by omega)];simpa using h
 by_cases h1:(Sz x).size≤18
 · by_cases h2:(Sz y).size≤18
   · refine lT _ _ x y ((Nat.gcd x.natAbs y.natAbs:Nat):Int) r ?_ w (fun W=>lL _ h1 W) (fun W=>lL _ h2 W) (fun W=>pU x h1 W) (fun W=>pU y h2 W) (fun W=>rgcd x y (z0G h1) (z0G h2) W)
     rw[← hr,Bool.eq_iff_iff];simp
     omega
   · exact lU _ _ _ r hlong w hl (fun W=>lL _ h1 W) (fun W=>tV _ (by omega) W) (fun W hW=>lK x y _ rfl hx hy W hW)
 · exact lV _ _ _ r hlong w hl (fun W=>tV _ (by omega) W) (fun W hW=>lK x y _ rfl hx hy W hW)
theorem zR (a:ByteArray)(w:World) :
 CR 162 #[.agg #[.string a,.string ⟨#[49]⟩]] w (.string a):=by
 go_enter func162,ntmps162
 go_wp2;go_ret
 exact⟨rfl,(Below.refl _ _).alloc (Nat.le_refl _) _⟩
theorem wD (a b:ByteArray)(h1:(b.toList==[49])=false)(ha:a.size≤10000)(hb:b.size≤10000)(w:World) :
 CR 162 #[.agg #[.string a,.string b]] w (.string (a++⟨#[47]⟩++b)):=by
 have s1:(⟨#[47]⟩:ByteArray).size=1:=rfl;have s2:(a++⟨#[47]⟩:ByteArray).size=a.size+1:=by rw[ByteArray.size_append,s1]
 have e1:=run_string_add_sum (P:=Tryz.prog) (w.alloc (.cells #[.string a,.string b] 86)) a ⟨#[47]⟩ (by rw[s1];omega);have e2:=run_string_add_sum (P:=Tryz.prog) (w.alloc (.cells #[.string a,.string b] 86)) (a++⟨#[47]⟩) b (by rw[s2];omega);clear s1 s2 ha hb;go_enter func162,ntmps162
 go_wp2;go_ret
 exact⟨rfl,(Below.refl _ _).alloc (Nat.le_refl _) _⟩
theorem yP (q:Rat)(hn:FitL q.num)(hd:FitL (q.den:Int))(w:World) :
 CR 162 #[.agg #[.string (Sz q.num),.string (Sz (q.den:Int))]] w (.string (Sq q)):=by
 by_cases h:q.den=1
 · rw[h,jw h,show((1:Nat):Int)=1 from rfl,kH]
   exact zR _ w
 · have h2:=wD (Sz q.num) (Sz (q.den:Int)) (jr (by omega)) (by have:=jZ hn (by decide);omega) (by have:=jZ hd (by decide);omega) w
   have e:Sz q.num++⟨#[47]⟩++Sz (q.den:Int)=Sq q:=by
    rw[qL h,dW];apply ByteArray.ext
    apply Array.ext'
    simp[Sn]
   rw[e]at h2;exact h2
theorem mG (a n d:ByteArray)(r:Bool)(w:World)(hl:La w)
 (h1:CQ 119 #[.string a,.string ⟨#[47]⟩] (.tuple #[.string n,.string d,.bool false]))
 (h2:CL 120 #[.string n] (.bool r)) :
 CR 62 #[.string a] w (.tuple #[.agg #[.string n,.string ⟨#[49]⟩],.bool r]):=by
 have C1:=hid h1;have C2:=hid h2;obtain⟨w0,hw0⟩:∃ w0:World,w0=(w.alloc (.cells #[.string ⟨#[]⟩,.string ⟨#[]⟩] 86)):=⟨_,rfl⟩;have hz0:w0.heap.size=w.heap.size+1:=by rw[hw0];simp
 have hB0:Below w.heap.size w w0:=by
  rw[hw0];repeat (first|exact Below.refl _ _|refine Below.setCell ?_ (by first|omega|(simp;omega)|simp) _|refine Below.alloc ?_ (by first|omega|(simp;omega)|simp) _|refine Below.drew ?_)
 have hS0:w0.cell? ⟨w.heap.size,0,none⟩=some (.string ⟨#[]⟩)∧w0.cell? ⟨w.heap.size,1,none⟩=some (.string ⟨#[]⟩):=by rw[hw0];exact⟨((aN).trans rfl),((aN).trans rfl)⟩
 have KS:=hid (show ∀ W:World,Below w0.heap.size w0 W→(W.cell? ⟨w.heap.size,0,none⟩=some (.string ⟨#[]⟩)∧W.cell? ⟨w.heap.size,1,none⟩=some (.string ⟨#[]⟩)) from fun W hB=>by
  obtain⟨c0,c1⟩:=hS0
  exact⟨(hB.cell (p:=⟨w.heap.size,0,none⟩) (by show w.heap.size<_;omega)).trans c0,(hB.cell (p:=⟨w.heap.size,1,none⟩) (by show w.heap.size<_;omega)).trans c1⟩)
 have KZ:=hid (show ∀ W:World,Below w0.heap.size w0 W→w.heap.size+1≤W.heap.size from fun W hB=>by have:=hB.size;omega);have KB:=hid (show ∀ W:World,Below w0.heap.size w0 W→Below w.heap.size w W from fun W hB=>hB0.trans (hB.mono (by omega)));have hR0:w0.cell? ⟨w.heap.size,0,none⟩=some (.string ⟨#[]⟩)∧w0.cell? ⟨w.heap.size,1,none⟩=some (.string ⟨#[]⟩)∧w0.frozen? ⟨w.heap.size,0,none⟩=false∧w0.frozen? ⟨w.heap.size,1,none⟩=false:=by rw[hw0];exact⟨((aN).trans rfl),((aN).trans rfl),(bG),(bG)⟩
 have KR:=hid (show ∀ W:World,Below w0.heap.size w0 W→(W.cell? ⟨w.heap.size,0,none⟩=some (.string ⟨#[]⟩)∧W.cell? ⟨w.heap.size,1,none⟩=some (.string ⟨#[]⟩)∧W.frozen? ⟨w.heap.size,0,none⟩=false∧W.frozen? ⟨w.heap.size,1,none⟩=false) from fun W hB=>by
  obtain⟨c0,c1,f0,f1⟩:=hR0
  exact⟨(hB.cell (p:=⟨w.heap.size,0,none⟩) (by show w.heap.size<_;omega)).trans c0,(hB.cell (p:=⟨w.heap.size,1,none⟩) (by show w.heap.size<_;omega)).trans c1,(hB.frozen (p:=⟨w.heap.size,0,none⟩) (by show w.heap.size<_;omega)).trans f0,(hB.frozen (p:=⟨w.heap.size,1,none⟩) (by show w.heap.size<_;omega)).trans f1⟩)
 clear hR0;have F0:=hid (Below.refl w0.heap.size w0);have HW0:=hid hw0;clear hz0 hB0 hS0 hw0;have HL:=hid (show ∀ W:World,Below w0.heap.size w0 W→La W from fun W hB=>hl.on (KB.o W hB));clear hl h1 h2;go_enter func62,ntmps62
 go_wp2_with fail
 rw[← HW0.o];obtain⟨d0,d1⟩:=KS.o _ F0.o;go_wp2_with fail
 refine(C1.o _).mono ?_;rintro e w1 ⟨rfl,hb⟩;have F1:=hid (av F0.o hb);clear hb d0 d1;obtain⟨d0,d1⟩:=KS.o _ F1.o;go_wp2_with fail
 refine(C2.o _ (HL.o _ F1.o)).mono ?_;rintro e w2 ⟨rfl,hb⟩;have F2:=hid (av F1.o hb);clear hb d0 d1;obtain⟨d0,d1⟩:=KS.o _ F2.o
 all_goals
  obtain⟨m0,m1,n0,n1⟩:=KR.o _ F2.o;have hz:=KZ.o _ F2.o;go_wp2;refine bodyPost_ret (v:=.tuple #[.agg #[.string n,.string ⟨#[49]⟩],.bool r]) (by simp[results,results62,go_sem,m0,m1]) rfl ⟨rfl,?_⟩;repeat (first|exact KB.o _ F2.o|refine Below.setCell ?_ (by first|omega|(simp;omega)|simp) _|refine Below.alloc ?_ (by first|omega|(simp;omega)|simp) _|refine Below.drew ?_)
theorem kQ (a n d:ByteArray)(s:Int)(r:Bool)(hd1:(d.toList==[49])=false)(hs:1≤s)(w:World)(hl:La w)
 (h1:CQ 119 #[.string a,.string ⟨#[47]⟩] (.tuple #[.string n,.string d,.bool true]))
 (h2:CL 120 #[.string n] (.bool true))
 (h3:CL 120 #[.string d] (.bool true))
 (h4:CL 121 #[.string d] (.int .i64 s))
 (h5:CL 122 #[.string n,.string d] (.bool r)) :
 CR 62 #[.string a] w (.tuple #[.agg #[.string n,.string d],.bool r]):=by
 obtain ⟨C1,C2,C3,C4,C5⟩:=bD h1 h2 h3 h4 h5;obtain⟨w0,hw0⟩:∃ w0:World,w0=(w.alloc (.cells #[.string ⟨#[]⟩,.string ⟨#[]⟩] 86)):=⟨_,rfl⟩;have hz0:w0.heap.size=w.heap.size+1:=by rw[hw0];simp
 have hB0:Below w.heap.size w w0:=by
  rw[hw0];repeat (first|exact Below.refl _ _|refine Below.setCell ?_ (by first|omega|(simp;omega)|simp) _|refine Below.alloc ?_ (by first|omega|(simp;omega)|simp) _|refine Below.drew ?_)
 have hS0:w0.cell? ⟨w.heap.size,0,none⟩=some (.string ⟨#[]⟩)∧w0.cell? ⟨w.heap.size,1,none⟩=some (.string ⟨#[]⟩):=by rw[hw0];exact⟨((aN).trans rfl),((aN).trans rfl)⟩
 have KS:=hid (show ∀ W:World,Below w0.heap.size w0 W→(W.cell? ⟨w.heap.size,0,none⟩=some (.string ⟨#[]⟩)∧W.cell? ⟨w.heap.size,1,none⟩=some (.string ⟨#[]⟩)) from fun W hB=>by
  obtain⟨c0,c1⟩:=hS0
  exact⟨(hB.cell (p:=⟨w.heap.size,0,none⟩) (by show w.heap.size<_;omega)).trans c0,(hB.cell (p:=⟨w.heap.size,1,none⟩) (by show w.heap.size<_;omega)).trans c1⟩)
 have KZ:=hid (show ∀ W:World,Below w0.heap.size w0 W→w.heap.size+1≤W.heap.size from fun W hB=>by have:=hB.size;omega);have KB:=hid (show ∀ W:World,Below w0.heap.size w0 W→Below w.heap.size w W from fun W hB=>hB0.trans (hB.mono (by omega)));have hR0:w0.cell? ⟨w.heap.size,0,none⟩=some (.string ⟨#[]⟩)∧w0.cell? ⟨w.heap.size,1,none⟩=some (.string ⟨#[]⟩)∧w0.frozen? ⟨w.heap.size,0,none⟩=false∧w0.frozen? ⟨w.heap.size,1,none⟩=false:=by rw[hw0];exact⟨((aN).trans rfl),((aN).trans rfl),(bG),(bG)⟩
 have KR:=hid (show ∀ W:World,Below w0.heap.size w0 W→(W.cell? ⟨w.heap.size,0,none⟩=some (.string ⟨#[]⟩)∧W.cell? ⟨w.heap.size,1,none⟩=some (.string ⟨#[]⟩)∧W.frozen? ⟨w.heap.size,0,none⟩=false∧W.frozen? ⟨w.heap.size,1,none⟩=false) from fun W hB=>by
  obtain⟨c0,c1,f0,f1⟩:=hR0
  exact⟨(hB.cell (p:=⟨w.heap.size,0,none⟩) (by show w.heap.size<_;omega)).trans c0,(hB.cell (p:=⟨w.heap.size,1,none⟩) (by show w.heap.size<_;omega)).trans c1,(hB.frozen (p:=⟨w.heap.size,0,none⟩) (by show w.heap.size<_;omega)).trans f0,(hB.frozen (p:=⟨w.heap.size,1,none⟩) (by show w.heap.size<_;omega)).trans f1⟩)
 clear hR0;have F0:=hid (Below.refl w0.heap.size w0);have HW0:=hid hw0;clear hz0 hB0 hS0 hw0;have HL:=hid (show ∀ W:World,Below w0.heap.size w0 W→La W from fun W hB=>hl.on (KB.o W hB));clear hl h1 h2 h3 h4 h5;go_enter func62,ntmps62
 have hs1:decide (s<1)=false:=by rw[decide_eq_false_iff_not];omega
 clear hs;go_wp2_with fail
 rw[← HW0.o];obtain⟨d0,d1⟩:=KS.o _ F0.o;go_wp2_with fail
 refine(C1.o _).mono ?_;rintro e w1 ⟨rfl,hb⟩;have F1:=hid (av F0.o hb);clear hb d0 d1;obtain⟨d0,d1⟩:=KS.o _ F1.o;go_wp2_with fail
 refine(C2.o _ (HL.o _ F1.o)).mono ?_;rintro e w2 ⟨rfl,hb⟩;have F2:=hid (av F1.o hb);clear hb d0 d1;obtain⟨d0,d1⟩:=KS.o _ F2.o;go_wp2_with fail
 refine(C3.o _ (HL.o _ F2.o)).mono ?_;rintro e w3 ⟨rfl,hb⟩;have F3:=hid (av F2.o hb);clear hb d0 d1;obtain⟨d0,d1⟩:=KS.o _ F3.o;go_wp2_with fail
 refine(C4.o _ (HL.o _ F3.o)).mono ?_;rintro e w4 ⟨rfl,hb⟩;have F4:=hid (av F3.o hb);clear hb d0 d1;obtain⟨d0,d1⟩:=KS.o _ F4.o;go_wp2_with fail
 refine(C5.o _ (HL.o _ F4.o)).mono ?_;rintro e w5 ⟨rfl,hb⟩;have F5:=hid (av F4.o hb);clear hb d0 d1;obtain⟨d0,d1⟩:=KS.o _ F5.o
 all_goals
  obtain⟨m0,m1,n0,n1⟩:=KR.o _ F5.o;have hz:=KZ.o _ F5.o;go_wp2;refine bodyPost_ret (v:=.tuple #[.agg #[.string n,.string d],.bool r]) (by simp[results,results62,go_sem,m0,m1]) rfl ⟨rfl,?_⟩;repeat (first|exact KB.o _ F5.o|refine Below.setCell ?_ (by first|omega|(simp;omega)|simp) _|refine Below.alloc ?_ (by first|omega|(simp;omega)|simp) _|refine Below.drew ?_)
theorem qX (a n d:ByteArray)(w:World)(hl:La w)
 (h1:CQ 119 #[.string a,.string ⟨#[47]⟩] (.tuple #[.string n,.string d,.bool true]))
 (h2:CL 120 #[.string n] (.bool false)) :
 CR 62 #[.string a] w (.tuple #[.agg #[.string ⟨#[]⟩,.string ⟨#[]⟩],.bool false]):=by
 have C1:=hid h1;have C2:=hid h2;obtain⟨w0,hw0⟩:∃ w0:World,w0=(w.alloc (.cells #[.string ⟨#[]⟩,.string ⟨#[]⟩] 86)):=⟨_,rfl⟩;have hz0:w0.heap.size=w.heap.size+1:=by rw[hw0];simp
 have hB0:Below w.heap.size w w0:=by
  rw[hw0];repeat (first|exact Below.refl _ _|refine Below.setCell ?_ (by first|omega|(simp;omega)|simp) _|refine Below.alloc ?_ (by first|omega|(simp;omega)|simp) _|refine Below.drew ?_)
 have hS0:w0.cell? ⟨w.heap.size,0,none⟩=some (.string ⟨#[]⟩)∧w0.cell? ⟨w.heap.size,1,none⟩=some (.string ⟨#[]⟩):=by rw[hw0];exact⟨((aN).trans rfl),((aN).trans rfl)⟩
 have KS:=hid (show ∀ W:World,Below w0.heap.size w0 W→(W.cell? ⟨w.heap.size,0,none⟩=some (.string ⟨#[]⟩)∧W.cell? ⟨w.heap.size,1,none⟩=some (.string ⟨#[]⟩)) from fun W hB=>by
  obtain⟨c0,c1⟩:=hS0
  exact⟨(hB.cell (p:=⟨w.heap.size,0,none⟩) (by show w.heap.size<_;omega)).trans c0,(hB.cell (p:=⟨w.heap.size,1,none⟩) (by show w.heap.size<_;omega)).trans c1⟩)
 have KZ:=hid (show ∀ W:World,Below w0.heap.size w0 W→w.heap.size+1≤W.heap.size from fun W hB=>by have:=hB.size;omega);have KB:=hid (show ∀ W:World,Below w0.heap.size w0 W→Below w.heap.size w W from fun W hB=>hB0.trans (hB.mono (by omega)));have hR0:w0.cell? ⟨w.heap.size,0,none⟩=some (.string ⟨#[]⟩)∧w0.cell? ⟨w.heap.size,1,none⟩=some (.string ⟨#[]⟩)∧w0.frozen? ⟨w.heap.size,0,none⟩=false∧w0.frozen? ⟨w.heap.size,1,none⟩=false:=by rw[hw0];exact⟨((aN).trans rfl),((aN).trans rfl),(bG),(bG)⟩
 have KR:=hid (show ∀ W:World,Below w0.heap.size w0 W→(W.cell? ⟨w.heap.size,0,none⟩=some (.string ⟨#[]⟩)∧W.cell? ⟨w.heap.size,1,none⟩=some (.string ⟨#[]⟩)∧W.frozen? ⟨w.heap.size,0,none⟩=false∧W.frozen? ⟨w.heap.size,1,none⟩=false) from fun W hB=>by
  obtain⟨c0,c1,f0,f1⟩:=hR0
  exact⟨(hB.cell (p:=⟨w.heap.size,0,none⟩) (by show w.heap.size<_;omega)).trans c0,(hB.cell (p:=⟨w.heap.size,1,none⟩) (by show w.heap.size<_;omega)).trans c1,(hB.frozen (p:=⟨w.heap.size,0,none⟩) (by show w.heap.size<_;omega)).trans f0,(hB.frozen (p:=⟨w.heap.size,1,none⟩) (by show w.heap.size<_;omega)).trans f1⟩)
 clear hR0;have F0:=hid (Below.refl w0.heap.size w0);have HW0:=hid hw0;clear hz0 hB0 hS0 hw0;have HL:=hid (show ∀ W:World,Below w0.heap.size w0 W→La W from fun W hB=>hl.on (KB.o W hB));clear hl h1 h2;go_enter func62,ntmps62
 go_wp2_with fail
 rw[← HW0.o];obtain⟨d0,d1⟩:=KS.o _ F0.o;go_wp2_with fail
 refine(C1.o _).mono ?_;rintro e w1 ⟨rfl,hb⟩;have F1:=hid (av F0.o hb);clear hb d0 d1;obtain⟨d0,d1⟩:=KS.o _ F1.o;go_wp2_with fail
 refine(C2.o _ (HL.o _ F1.o)).mono ?_;rintro e w2 ⟨rfl,hb⟩;have F2:=hid (av F1.o hb);clear hb d0 d1;obtain⟨d0,d1⟩:=KS.o _ F2.o
 all_goals
  obtain⟨m0,m1,n0,n1⟩:=KR.o _ F2.o;have hz:=KZ.o _ F2.o;go_wp2;refine bodyPost_ret (v:=.tuple #[.agg #[.string ⟨#[]⟩,.string ⟨#[]⟩],.bool false]) (by simp[results,results62,go_sem,m0,m1]) rfl ⟨rfl,?_⟩;repeat (first|exact KB.o _ F2.o|refine Below.setCell ?_ (by first|omega|(simp;omega)|simp) _|refine Below.alloc ?_ (by first|omega|(simp;omega)|simp) _|refine Below.drew ?_)
theorem qW (a n d:ByteArray)(w:World)(hl:La w)
 (h1:CQ 119 #[.string a,.string ⟨#[47]⟩] (.tuple #[.string n,.string d,.bool true]))
 (h2:CL 120 #[.string n] (.bool true))
 (h3:CL 120 #[.string d] (.bool false)) :
 CR 62 #[.string a] w (.tuple #[.agg #[.string ⟨#[]⟩,.string ⟨#[]⟩],.bool false]):=by
 obtain ⟨C1,C2,C3⟩:=au h1 h2 h3;obtain⟨w0,hw0⟩:∃ w0:World,w0=(w.alloc (.cells #[.string ⟨#[]⟩,.string ⟨#[]⟩] 86)):=⟨_,rfl⟩;have hz0:w0.heap.size=w.heap.size+1:=by rw[hw0];simp
 have hB0:Below w.heap.size w w0:=by
  rw[hw0];repeat (first|exact Below.refl _ _|refine Below.setCell ?_ (by first|omega|(simp;omega)|simp) _|refine Below.alloc ?_ (by first|omega|(simp;omega)|simp) _|refine Below.drew ?_)
 have hS0:w0.cell? ⟨w.heap.size,0,none⟩=some (.string ⟨#[]⟩)∧w0.cell? ⟨w.heap.size,1,none⟩=some (.string ⟨#[]⟩):=by rw[hw0];exact⟨((aN).trans rfl),((aN).trans rfl)⟩
 have KS:=hid (show ∀ W:World,Below w0.heap.size w0 W→(W.cell? ⟨w.heap.size,0,none⟩=some (.string ⟨#[]⟩)∧W.cell? ⟨w.heap.size,1,none⟩=some (.string ⟨#[]⟩)) from fun W hB=>by
  obtain⟨c0,c1⟩:=hS0
  exact⟨(hB.cell (p:=⟨w.heap.size,0,none⟩) (by show w.heap.size<_;omega)).trans c0,(hB.cell (p:=⟨w.heap.size,1,none⟩) (by show w.heap.size<_;omega)).trans c1⟩)
 have KZ:=hid (show ∀ W:World,Below w0.heap.size w0 W→w.heap.size+1≤W.heap.size from fun W hB=>by have:=hB.size;omega);have KB:=hid (show ∀ W:World,Below w0.heap.size w0 W→Below w.heap.size w W from fun W hB=>hB0.trans (hB.mono (by omega)));have hR0:w0.cell? ⟨w.heap.size,0,none⟩=some (.string ⟨#[]⟩)∧w0.cell? ⟨w.heap.size,1,none⟩=some (.string ⟨#[]⟩)∧w0.frozen? ⟨w.heap.size,0,none⟩=false∧w0.frozen? ⟨w.heap.size,1,none⟩=false:=by rw[hw0];exact⟨((aN).trans rfl),((aN).trans rfl),(bG),(bG)⟩
 have KR:=hid (show ∀ W:World,Below w0.heap.size w0 W→(W.cell? ⟨w.heap.size,0,none⟩=some (.string ⟨#[]⟩)∧W.cell? ⟨w.heap.size,1,none⟩=some (.string ⟨#[]⟩)∧W.frozen? ⟨w.heap.size,0,none⟩=false∧W.frozen? ⟨w.heap.size,1,none⟩=false) from fun W hB=>by
  obtain⟨c0,c1,f0,f1⟩:=hR0
  exact⟨(hB.cell (p:=⟨w.heap.size,0,none⟩) (by show w.heap.size<_;omega)).trans c0,(hB.cell (p:=⟨w.heap.size,1,none⟩) (by show w.heap.size<_;omega)).trans c1,(hB.frozen (p:=⟨w.heap.size,0,none⟩) (by show w.heap.size<_;omega)).trans f0,(hB.frozen (p:=⟨w.heap.size,1,none⟩) (by show w.heap.size<_;omega)).trans f1⟩)
 clear hR0;have F0:=hid (Below.refl w0.heap.size w0);have HW0:=hid hw0;clear hz0 hB0 hS0 hw0;have HL:=hid (show ∀ W:World,Below w0.heap.size w0 W→La W from fun W hB=>hl.on (KB.o W hB));clear hl h1 h2 h3;go_enter func62,ntmps62
 go_wp2_with fail
 rw[← HW0.o];obtain⟨d0,d1⟩:=KS.o _ F0.o;go_wp2_with fail
 refine(C1.o _).mono ?_;rintro e w1 ⟨rfl,hb⟩;have F1:=hid (av F0.o hb);clear hb d0 d1;obtain⟨d0,d1⟩:=KS.o _ F1.o;go_wp2_with fail
 refine(C2.o _ (HL.o _ F1.o)).mono ?_;rintro e w2 ⟨rfl,hb⟩;have F2:=hid (av F1.o hb);clear hb d0 d1;obtain⟨d0,d1⟩:=KS.o _ F2.o;go_wp2_with fail
 refine(C3.o _ (HL.o _ F2.o)).mono ?_;rintro e w3 ⟨rfl,hb⟩;have F3:=hid (av F2.o hb);clear hb d0 d1;obtain⟨d0,d1⟩:=KS.o _ F3.o
 all_goals
  obtain⟨m0,m1,n0,n1⟩:=KR.o _ F3.o;have hz:=KZ.o _ F3.o;go_wp2;refine bodyPost_ret (v:=.tuple #[.agg #[.string ⟨#[]⟩,.string ⟨#[]⟩],.bool false]) (by simp[results,results62,go_sem,m0,m1]) rfl ⟨rfl,?_⟩;repeat (first|exact KB.o _ F3.o|refine Below.setCell ?_ (by first|omega|(simp;omega)|simp) _|refine Below.alloc ?_ (by first|omega|(simp;omega)|simp) _|refine Below.drew ?_)
theorem qV (a n:ByteArray)(w:World)(hl:La w)
 (h1:CQ 119 #[.string a,.string ⟨#[47]⟩] (.tuple #[.string n,.string ⟨#[49]⟩,.bool true]))
 (h2:CL 120 #[.string n] (.bool true))
 (h3:CL 120 #[.string ⟨#[49]⟩] (.bool true)) :
 CR 62 #[.string a] w (.tuple #[.agg #[.string ⟨#[]⟩,.string ⟨#[]⟩],.bool false]):=by
 obtain ⟨C1,C2,C3⟩:=au h1 h2 h3;obtain⟨w0,hw0⟩:∃ w0:World,w0=(w.alloc (.cells #[.string ⟨#[]⟩,.string ⟨#[]⟩] 86)):=⟨_,rfl⟩;have hz0:w0.heap.size=w.heap.size+1:=by rw[hw0];simp
 have hB0:Below w.heap.size w w0:=by
  rw[hw0];repeat (first|exact Below.refl _ _|refine Below.setCell ?_ (by first|omega|(simp;omega)|simp) _|refine Below.alloc ?_ (by first|omega|(simp;omega)|simp) _|refine Below.drew ?_)
 have hS0:w0.cell? ⟨w.heap.size,0,none⟩=some (.string ⟨#[]⟩)∧w0.cell? ⟨w.heap.size,1,none⟩=some (.string ⟨#[]⟩):=by rw[hw0];exact⟨((aN).trans rfl),((aN).trans rfl)⟩
 have KS:=hid (show ∀ W:World,Below w0.heap.size w0 W→(W.cell? ⟨w.heap.size,0,none⟩=some (.string ⟨#[]⟩)∧W.cell? ⟨w.heap.size,1,none⟩=some (.string ⟨#[]⟩)) from fun W hB=>by
  obtain⟨c0,c1⟩:=hS0
  exact⟨(hB.cell (p:=⟨w.heap.size,0,none⟩) (by show w.heap.size<_;omega)).trans c0,(hB.cell (p:=⟨w.heap.size,1,none⟩) (by show w.heap.size<_;omega)).trans c1⟩)
 have KZ:=hid (show ∀ W:World,Below w0.heap.size w0 W→w.heap.size+1≤W.heap.size from fun W hB=>by have:=hB.size;omega);have KB:=hid (show ∀ W:World,Below w0.heap.size w0 W→Below w.heap.size w W from fun W hB=>hB0.trans (hB.mono (by omega)));have hR0:w0.cell? ⟨w.heap.size,0,none⟩=some (.string ⟨#[]⟩)∧w0.cell? ⟨w.heap.size,1,none⟩=some (.string ⟨#[]⟩)∧w0.frozen? ⟨w.heap.size,0,none⟩=false∧w0.frozen? ⟨w.heap.size,1,none⟩=false:=by rw[hw0];exact⟨((aN).trans rfl),((aN).trans rfl),(bG),(bG)⟩
 have KR:=hid (show ∀ W:World,Below w0.heap.size w0 W→(W.cell? ⟨w.heap.size,0,none⟩=some (.string ⟨#[]⟩)∧W.cell? ⟨w.heap.size,1,none⟩=some (.string ⟨#[]⟩)∧W.frozen? ⟨w.heap.size,0,none⟩=false∧W.frozen? ⟨w.heap.size,1,none⟩=false) from fun W hB=>by
  obtain⟨c0,c1,f0,f1⟩:=hR0
  exact⟨(hB.cell (p:=⟨w.heap.size,0,none⟩) (by show w.heap.size<_;omega)).trans c0,(hB.cell (p:=⟨w.heap.size,1,none⟩) (by show w.heap.size<_;omega)).trans c1,(hB.frozen (p:=⟨w.heap.size,0,none⟩) (by show w.heap.size<_;omega)).trans f0,(hB.frozen (p:=⟨w.heap.size,1,none⟩) (by show w.heap.size<_;omega)).trans f1⟩)
 clear hR0;have F0:=hid (Below.refl w0.heap.size w0);have HW0:=hid hw0;clear hz0 hB0 hS0 hw0;have HL:=hid (show ∀ W:World,Below w0.heap.size w0 W→La W from fun W hB=>hl.on (KB.o W hB));clear hl h1 h2 h3;go_enter func62,ntmps62
 go_wp2_with fail
 rw[← HW0.o];obtain⟨d0,d1⟩:=KS.o _ F0.o;go_wp2_with fail
 refine(C1.o _).mono ?_;rintro e w1 ⟨rfl,hb⟩;have F1:=hid (av F0.o hb);clear hb d0 d1;obtain⟨d0,d1⟩:=KS.o _ F1.o;go_wp2_with fail
 refine(C2.o _ (HL.o _ F1.o)).mono ?_;rintro e w2 ⟨rfl,hb⟩;have F2:=hid (av F1.o hb);clear hb d0 d1;obtain⟨d0,d1⟩:=KS.o _ F2.o;go_wp2_with fail
 refine(C3.o _ (HL.o _ F2.o)).mono ?_;rintro e w3 ⟨rfl,hb⟩;have F3:=hid (av F2.o hb);clear hb d0 d1;obtain⟨d0,d1⟩:=KS.o _ F3.o
 all_goals
  obtain⟨m0,m1,n0,n1⟩:=KR.o _ F3.o;have hz:=KZ.o _ F3.o;go_wp2;refine bodyPost_ret (v:=.tuple #[.agg #[.string ⟨#[]⟩,.string ⟨#[]⟩],.bool false]) (by simp[results,results62,go_sem,m0,m1]) rfl ⟨rfl,?_⟩;repeat (first|exact KB.o _ F3.o|refine Below.setCell ?_ (by first|omega|(simp;omega)|simp) _|refine Below.alloc ?_ (by first|omega|(simp;omega)|simp) _|refine Below.drew ?_)
theorem qU (a n d:ByteArray)(s:Int)(hd1:(d.toList==[49])=false)(hs:s<1)(w:World)(hl:La w)
 (h1:CQ 119 #[.string a,.string ⟨#[47]⟩] (.tuple #[.string n,.string d,.bool true]))
 (h2:CL 120 #[.string n] (.bool true))
 (h3:CL 120 #[.string d] (.bool true))
 (h4:CL 121 #[.string d] (.int .i64 s)) :
 CR 62 #[.string a] w (.tuple #[.agg #[.string ⟨#[]⟩,.string ⟨#[]⟩],.bool false]):=by
 obtain ⟨C1,C2,C3,C4⟩:=aM h1 h2 h3 h4;obtain⟨w0,hw0⟩:∃ w0:World,w0=(w.alloc (.cells #[.string ⟨#[]⟩,.string ⟨#[]⟩] 86)):=⟨_,rfl⟩;have hz0:w0.heap.size=w.heap.size+1:=by rw[hw0];simp
 have hB0:Below w.heap.size w w0:=by
  rw[hw0];repeat (first|exact Below.refl _ _|refine Below.setCell ?_ (by first|omega|(simp;omega)|simp) _|refine Below.alloc ?_ (by first|omega|(simp;omega)|simp) _|refine Below.drew ?_)
 have hS0:w0.cell? ⟨w.heap.size,0,none⟩=some (.string ⟨#[]⟩)∧w0.cell? ⟨w.heap.size,1,none⟩=some (.string ⟨#[]⟩):=by rw[hw0];exact⟨((aN).trans rfl),((aN).trans rfl)⟩
 have KS:=hid (show ∀ W:World,Below w0.heap.size w0 W→(W.cell? ⟨w.heap.size,0,none⟩=some (.string ⟨#[]⟩)∧W.cell? ⟨w.heap.size,1,none⟩=some (.string ⟨#[]⟩)) from fun W hB=>by
  obtain⟨c0,c1⟩:=hS0
  exact⟨(hB.cell (p:=⟨w.heap.size,0,none⟩) (by show w.heap.size<_;omega)).trans c0,(hB.cell (p:=⟨w.heap.size,1,none⟩) (by show w.heap.size<_;omega)).trans c1⟩)
 have KZ:=hid (show ∀ W:World,Below w0.heap.size w0 W→w.heap.size+1≤W.heap.size from fun W hB=>by have:=hB.size;omega);have KB:=hid (show ∀ W:World,Below w0.heap.size w0 W→Below w.heap.size w W from fun W hB=>hB0.trans (hB.mono (by omega)));have hR0:w0.cell? ⟨w.heap.size,0,none⟩=some (.string ⟨#[]⟩)∧w0.cell? ⟨w.heap.size,1,none⟩=some (.string ⟨#[]⟩)∧w0.frozen? ⟨w.heap.size,0,none⟩=false∧w0.frozen? ⟨w.heap.size,1,none⟩=false:=by rw[hw0];exact⟨((aN).trans rfl),((aN).trans rfl),(bG),(bG)⟩
 have KR:=hid (show ∀ W:World,Below w0.heap.size w0 W→(W.cell? ⟨w.heap.size,0,none⟩=some (.string ⟨#[]⟩)∧W.cell? ⟨w.heap.size,1,none⟩=some (.string ⟨#[]⟩)∧W.frozen? ⟨w.heap.size,0,none⟩=false∧W.frozen? ⟨w.heap.size,1,none⟩=false) from fun W hB=>by
  obtain⟨c0,c1,f0,f1⟩:=hR0
  exact⟨(hB.cell (p:=⟨w.heap.size,0,none⟩) (by show w.heap.size<_;omega)).trans c0,(hB.cell (p:=⟨w.heap.size,1,none⟩) (by show w.heap.size<_;omega)).trans c1,(hB.frozen (p:=⟨w.heap.size,0,none⟩) (by show w.heap.size<_;omega)).trans f0,(hB.frozen (p:=⟨w.heap.size,1,none⟩) (by show w.heap.size<_;omega)).trans f1⟩)
 clear hR0;have F0:=hid (Below.refl w0.heap.size w0);have HW0:=hid hw0;clear hz0 hB0 hS0 hw0;have HL:=hid (show ∀ W:World,Below w0.heap.size w0 W→La W from fun W hB=>hl.on (KB.o W hB));clear hl h1 h2 h3 h4;go_enter func62,ntmps62
 go_wp2_with fail
 rw[← HW0.o];obtain⟨d0,d1⟩:=KS.o _ F0.o;go_wp2_with fail
 refine(C1.o _).mono ?_;rintro e w1 ⟨rfl,hb⟩;have F1:=hid (av F0.o hb);clear hb d0 d1;obtain⟨d0,d1⟩:=KS.o _ F1.o;go_wp2_with fail
 refine(C2.o _ (HL.o _ F1.o)).mono ?_;rintro e w2 ⟨rfl,hb⟩;have F2:=hid (av F1.o hb);clear hb d0 d1;obtain⟨d0,d1⟩:=KS.o _ F2.o;go_wp2_with fail
 refine(C3.o _ (HL.o _ F2.o)).mono ?_;rintro e w3 ⟨rfl,hb⟩;have F3:=hid (av F2.o hb);clear hb d0 d1;obtain⟨d0,d1⟩:=KS.o _ F3.o;go_wp2_with fail
 refine(C4.o _ (HL.o _ F3.o)).mono ?_;rintro e w4 ⟨rfl,hb⟩;have F4:=hid (av F3.o hb);clear hb d0 d1;obtain⟨d0,d1⟩:=KS.o _ F4.o
 all_goals
  obtain⟨m0,m1,n0,n1⟩:=KR.o _ F4.o;have hz:=KZ.o _ F4.o;go_wp2;refine bodyPost_ret (v:=.tuple #[.agg #[.string ⟨#[]⟩,.string ⟨#[]⟩],.bool false]) (by simp[results,results62,go_sem,m0,m1]) rfl ⟨rfl,?_⟩;repeat (first|exact KB.o _ F4.o|refine Below.setCell ?_ (by first|omega|(simp;omega)|simp) _|refine Below.alloc ?_ (by first|omega|(simp;omega)|simp) _|refine Below.drew ?_)
def Fv (q:Rat):Value:=.agg #[.string (Sz q.num),.string (Sz (q.den:Int))]
theorem aP.numL {q:Rat}(h:aP q):FitL q.num:=h.1.mono (by decide)
theorem aP.denL {q:Rat}(h:aP q):FitL (q.den:Int):=FitL.nat (h.2.mono (by decide))
theorem z3I (s:ByteArray)(hs:s.size≤100000)(n d:List UInt8)(f:Bool)(h:Lib.cut s.data.toList [47]=(n,d,f))(W:World) :
 CR 119 #[.string s,.string ⟨#[47]⟩] W (.tuple #[.string ⟨n.toArray⟩,.string ⟨d.toArray⟩,.bool f]):=by
 have h1:=cut1 47 s hs W;rw[h]at h1;exact h1
theorem z7d (z:Int):(⟨(Sz z).data.toList.toArray⟩:ByteArray)=Sz z:=by cases Sz z;simp
theorem z6m (n:Nat):(⟨(Lib.decDigits n).toArray⟩:ByteArray)=Sz (n:Int):=by rw[dW];rfl
theorem o6 (q:Rat)(hq:aP q)(w:World)(hl:La w) :
 CR 62 #[.string (Sq q)] w (.tuple #[Fv q,.bool true]):=by
 have hsz:(Sq q).size≤100000:=by have:=z0x (show SmQ 900 q from hq) (by decide);omega
 unfold Fv
 by_cases h:q.den=1
 · have hc:=z1M q.num
   rw[← jw h]at hc
   have h2:=mG (Sq q) (Sq q) ⟨#[]⟩ true w hl (fun W=>by
    have:=z3I (Sq q) hsz _ _ _ hc W
    rwa [show(⟨(Sq q).data.toList.toArray⟩:ByteArray)=Sq q by cases Sq q;simp]at this) (fun W hW=>by rw[jw h];exact dS q.num hq.numL.z W hW.zz)
   rw[h,show((1:Nat):Int)=1 from rfl,kH];rw[jw h]at h2 ⊢;exact h2
 · have hc:=yV h
   have hd:=q.den_nz
   refine kQ (Sq q) (Sz q.num) (Sz (q.den:Int)) 1 true (jr (by omega)) (by decide) w hl (fun W=>by
    have:=z3I (Sq q) hsz _ _ _ hc W
    rwa [z7d,z6m]at this) (fun W hW=>dS q.num hq.numL.z W hW.zz) (fun W hW=>dS (q.den:Int) hq.denL.z W hW.zz) (fun W hW=>qQ _ _ (Int.sign_natCast_of_ne_zero hd) hq.denL W hW) (fun W hW=>yu _ _ _ ?_ hq.numL hq.denL W hW)
   have hg:Nat.gcd q.num.natAbs q.den=1:=q.reduced;rw[Int.natAbs_natCast,hg];rfl
theorem size_mk (l:List UInt8):(⟨l.toArray⟩:ByteArray).size=l.length:=by simp[ByteArray.size]
theorem z1f (l:List UInt8):(⟨l.toArray⟩:ByteArray).data.toList=l:=by simp
theorem z3t (a:ByteArray)(h:vldQ a.data.toList=false)(ha:a.size≤900)(w:World)(hl:La w) :
 Calls Tryz.prog 62 #[.string a] w fun e w'=>(∃ n d:ByteArray,e=.returned (.tuple #[.agg #[.string n,.string d],.bool false]))∧Below w.heap.size w w':=by
 have hsz:a.size≤100000:=by omega
 rcases og 47 a.data.toList with⟨_,e⟩|⟨x,y,hx47,el,e⟩
 · unfold vldQ at h
   rw[e]at h;simp only[Bool.false_eq_true,if_false]at h;have hc:=fun W=>z3I a hsz _ _ _ e W;rw[show(⟨a.data.toList.toArray⟩:ByteArray)=a by cases a;simp]at hc;refine(mG a a ⟨#[]⟩ false w hl hc (fun W hW=>ny a h (by unfold maxLen;omega) W)).mono ?_;rintro e w' ⟨rfl,hb⟩;exact⟨⟨_,_,rfl⟩,hb⟩
 · have hl2:x.length+1+y.length≤900:=by
    have h2:a.data.toList.length=x.length+1+y.length:=by rw[el];simp;omega
    rw[aG]at h2;omega
   unfold vldQ at h
   rw[e]at h;simp only[if_true]at h;have hc:=fun W=>z3I a hsz _ _ _ e W;have fin:∀ {v w'},(v=Ending.returned (.tuple #[.agg #[.string ⟨#[]⟩,.string ⟨#[]⟩],.bool false])∧Below w.heap.size w w')→(∃ n d:ByteArray,v=.returned (.tuple #[.agg #[.string n,.string d],.bool false]))∧Below w.heap.size w w':=fun h=>⟨⟨_,_,h.1⟩,h.2⟩
   cases hv1:vldZ x with
   | false =>
     refine(qX a ⟨x.toArray⟩ ⟨y.toArray⟩ w hl hc (fun W hW=>ny _ (by simpa using hv1) (by rw[size_mk];unfold maxLen;omega) W)).mono ?_;intro e w' h;exact fin h
   | true =>
     have ex:=z0s (a:=⟨x.toArray⟩) (by simpa using hv1);rw[z1f]at ex
     have fx:FitL (zval x):=by
        have:=iE (z:=zval x) (k:=900) (by rw[← ex,size_mk];omega);exact FitL.of this (by decide)
     rw[ex]at hc
     cases hv2:vldZ y with
     | false =>
       refine(qW a _ ⟨y.toArray⟩ w hl hc (fun W hW=>dS _ fx.z W hW.zz) (fun W hW=>ny _ (by simpa using hv2) (by rw[size_mk];unfold maxLen;omega) W)).mono ?_;intro e w' h;exact fin h
     | true =>
       have ey:=z0s (a:=⟨y.toArray⟩) (by simpa using hv2);rw[z1f]at ey
       have fy:FitL (zval y):=by
        have:=iE (z:=zval y) (k:=900) (by rw[← ey,size_mk];omega);exact FitL.of this (by decide)
       rw[ey]at hc;by_cases hy1:zval y=1
       · rw[hy1,kH]at hc
         refine(qV a _ w hl hc (fun W hW=>dS _ fx.z W hW.zz) (fun W hW=>by have:=dS 1 fl1.z W hW.zz;rwa [kH]at this)).mono ?_;intro e w' h;exact fin h
       · have hne:=jr hy1
         by_cases hpos:1≤zval y
         · have hco:(Nat.gcd (zval x).natAbs (zval y).natAbs==1)=false:=by
            unfold vldP at h
            rw[hv1,hv2]at h
            have h49:(y==[49])=false:=by
             rw[beq_eq_false_iff_ne];rintro rfl;exact hy1 (by decide)
            rw[h49]at h;simpa [hpos] using h
           refine(kQ a _ _ 1 false hne (by decide) w hl hc (fun W hW=>dS _ fx.z W hW.zz) (fun W hW=>dS _ fy.z W hW.zz) (fun W hW=>qQ _ _ (Int.sign_eq_one_of_pos (by omega)) fy W hW) (fun W hW=>yu _ _ _ hco fx fy W hW)).mono ?_;rintro e w' ⟨rfl,hb⟩;exact⟨⟨_,_,rfl⟩,hb⟩
         · refine(qU a _ _ (zval y).sign hne ?_ w hl hc (fun W hW=>dS _ fx.z W hW.zz) (fun W hW=>dS _ fy.z W hW.zz) (fun W hW=>qQ _ _ rfl fy W hW)).mono ?_
           · rcases Int.sign_trichotomy (zval y) with h3|h3|h3
             · exact absurd (Int.sign_eq_one_iff_pos.1 h3) (by omega)
             · omega
             · omega
           · intro e w' h;exact fin h
