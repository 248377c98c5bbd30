/- texts -/
import Derived.Test.YtoaeaiiabelhkaaGreatDoorMz14q
open Go.Proofs.Tryz
set_option maxRecDepth 100000
set_option maxHeartbeats 20000000
open Go.Lib (hid)
namespace Go.Proofs.YtoaeaiiabelhkaaGreatDoor
open Go.RowKit Go.Gb
theorem q_lt {w:World}{o:Obj}{b k:Nat}(h:b<w.heap.size:=by first|omega|(simp;done)|(simp;omega)):(w.alloc o).cell? ⟨b,k,none⟩=w.cell? ⟨b,k,none⟩:=((Below.refl w.heap.size w).alloc (Nat.le_refl _) o).cell (p:=⟨b,k,none⟩) h
theorem aM {w:World}{cs:Array Value}{T:TypeId}{g k:Nat}(h:g=w.heap.size:=by first|omega|(simp;done)|(simp;omega)):(w.alloc (.cells cs T)).cell? ⟨g,k,none⟩=cs[k]? := by subst h;unfold World.cell?;simp only[heap_alloc_new];simp
theorem jV {w:World}{o:Obj}{b k:Nat}(h:b<w.heap.size:=by first|omega|(simp;done)|(simp;omega)):(w.alloc o).frozen? ⟨b,k,none⟩=w.frozen? ⟨b,k,none⟩:=((Below.refl w.heap.size w).alloc (Nat.le_refl _) o).frozen (p:=⟨b,k,none⟩) h
theorem bG {w:World}{cs:Array Value}{T:TypeId}{g k:Nat}(h:g=w.heap.size:=by first|omega|(simp;done)|(simp;omega)):(w.alloc (.cells cs T)).frozen? ⟨g,k,none⟩=false:=by subst h;unfold World.frozen?;simp only[heap_alloc_new];simp
theorem aY {w:World}{v:Value}{b c i k:Nat}(h:c≠b):(w.setCell ⟨b,i,none⟩ v).cell? ⟨c,k,none⟩=w.cell? ⟨c,k,none⟩:=World.cell?_of_block (w:=w) (Below.heap_setCell w ⟨b,i,none⟩ v c h)
theorem au {w0 a b:World}(h:Below w0.heap.size w0 a)(k:Below a.heap.size a b):Below w0.heap.size w0 b:=h.trans (k.mono h.size)
theorem z3p (n m d:ByteArray)(w:World)(hl:La w)
 (hc:CL 157 #[.string n] (.string m)) :
 CR 140 #[.agg #[.string n,.string d]] w (.agg #[.string m,.string d]):=by
 have C1:=hid hc;obtain⟨w0,hw0⟩:∃ w0:World,w0=((w.alloc (.cells #[.string n,.string d] 67)).alloc (.cells #[.string ⟨#[]⟩,.string ⟨#[]⟩] 67)):=⟨_,rfl⟩;have hz0:w0.heap.size=w.heap.size+2:=by rw[hw0];simp
 have hB0:Below w.heap.size w w0:=by
  rw[hw0];repeat (first|exact Below.refl _ _|refine Below.setCell ?_ (by first|omega|(simp;omega)|simp) _|refine Below.alloc ?_ (by first|omega|(simp;omega)|simp) _|refine Below.drew ?_)
 have hS0:w0.cell? ⟨w.heap.size,0,none⟩=some (.string n)∧w0.cell? ⟨w.heap.size,1,none⟩=some (.string d):=by rw[hw0];exact⟨((q_lt).trans ((aM).trans rfl)),((q_lt).trans ((aM).trans rfl))⟩
 have KS:=hid (show ∀ W:World,Below w0.heap.size w0 W→(W.cell? ⟨w.heap.size,0,none⟩=some (.string n)∧W.cell? ⟨w.heap.size,1,none⟩=some (.string d)) from fun W hB=>by
  obtain⟨c0,c1⟩:=hS0
  exact⟨hB.kc c0 (by omega),hB.kc c1 (by omega)⟩)
 have KZ:=Below.kz (show w.heap.size+2≤w0.heap.size by omega);have KB:=hB0.kb (by omega);have hR0:w0.cell? ⟨w.heap.size+1,0,none⟩=some (.string ⟨#[]⟩)∧w0.cell? ⟨w.heap.size+1,1,none⟩=some (.string ⟨#[]⟩)∧w0.frozen? ⟨w.heap.size+1,0,none⟩=false∧w0.frozen? ⟨w.heap.size+1,1,none⟩=false:=by rw[hw0];exact⟨((aM).trans rfl),((aM).trans rfl),(bG),(bG)⟩
 have KR:=hid (show ∀ W:World,Below w0.heap.size w0 W→(W.cell? ⟨w.heap.size+1,0,none⟩=some (.string ⟨#[]⟩)∧W.cell? ⟨w.heap.size+1,1,none⟩=some (.string ⟨#[]⟩)∧W.frozen? ⟨w.heap.size+1,0,none⟩=false∧W.frozen? ⟨w.heap.size+1,1,none⟩=false) from fun W hB=>by
  obtain⟨c0,c1,f0,f1⟩:=hR0
  exact⟨hB.kc c0 (by omega),hB.kc c1 (by omega),hB.kf f0 (by omega),hB.kf f1 (by omega)⟩)
 clear hR0
 have KT0:=hid (show ∀ (W:World) (v u:Value),Below w0.heap.size w0 W→(((W.setCell ⟨w.heap.size+1,0,none⟩ v).setCell ⟨w.heap.size+1,1,none⟩ u).cell? ⟨w.heap.size,0,none⟩=some (.string n)∧((W.setCell ⟨w.heap.size+1,0,none⟩ v).setCell ⟨w.heap.size+1,1,none⟩ u).cell? ⟨w.heap.size,1,none⟩=some (.string d)) from fun W v u hB=>by
  have hh:=KS.o W hB;obtain⟨c0,c1⟩:=hh
  exact⟨(aY (by omega)).trans ((aY (by omega)).trans c0),(aY (by omega)).trans ((aY (by omega)).trans c1)⟩)
 have F0:=hid (Below.refl w0.heap.size w0);have HW0:=hid hw0;clear hz0 hB0 hS0 hw0;have HL:=KB.kl fun _=>hl.on;clear hl hc;go_enter func140,ntmps140
 go_wp2_with fail
 rw[← HW0.o];go_wp2_with fail
 go_region_held3 (fun w'=>w'.cell? ⟨w.heap.size,0,none⟩=some (.string n)∧w'.cell? ⟨w.heap.size,1,none⟩=some (.string d)) (first|exact KS.o _ F1.o|exact KS.o _ F1.o.drew|exact KS.o _ F0.o|exact KS.o _ F0.o.drew|exact KT0.o _ _ _ F1.o|exact KT0.o _ _ _ F1.o.drew)
  (first
   | (go_at_call 157;(with_reducible refine(C1.o _ ?la0).mono ?_);(case la0=>first|exact HL.o _ F0.o|exact HL.o _ F0.o.drew);rintro e w1 ⟨rfl,hb⟩;have F1:=hid (show Below w0.heap.size w0 w1 by first|exact au F0.o hb|exact au F0.o.drew hb);clear hb;have hz:=KZ.o _ F1.o;obtain⟨m0,m1,n0,n1⟩:=KR.o _ F1.o)
   | fail)
 all_goals
  have hz:=KZ.o _ F1.o;go_wp2;refine bodyPost_ret (v:=.agg #[.string m,.string d]) (by simp[results,results140,go_sem,m0,m1]) rfl ⟨rfl,?_⟩;repeat (first|exact KB.o _ F1.o|refine Below.setCell ?_ (by first|omega|(simp;omega)|simp) _|refine Below.alloc ?_ (by first|omega|(simp;omega)|simp) _|refine Below.drew ?_)
theorem uC (n d n' d':ByteArray)(w:World)(hl:La w)
 (hs:CL 78 #[.string n] (.int .i64 (-1)))
 (hn:CL 157 #[.string n] (.string n'))
 (hd:CL 157 #[.string d] (.string d')) :
 CR 141 #[.agg #[.string n,.string d]] w (.agg #[.string d',.string n']):=by
 obtain ⟨C1,C2,C3⟩:=ak hs hn hd;obtain⟨w0,hw0⟩:∃ w0:World,w0=((w.alloc (.cells #[.string n,.string d] 67)).alloc (.cells #[.string ⟨#[]⟩,.string ⟨#[]⟩] 67)):=⟨_,rfl⟩;have hz0:w0.heap.size=w.heap.size+2:=by rw[hw0];simp
 have hB0:Below w.heap.size w w0:=by
  rw[hw0];repeat (first|exact Below.refl _ _|refine Below.setCell ?_ (by first|omega|(simp;omega)|simp) _|refine Below.alloc ?_ (by first|omega|(simp;omega)|simp) _|refine Below.drew ?_)
 have hS0:w0.cell? ⟨w.heap.size,0,none⟩=some (.string n)∧w0.cell? ⟨w.heap.size,1,none⟩=some (.string d):=by rw[hw0];exact⟨((q_lt).trans ((aM).trans rfl)),((q_lt).trans ((aM).trans rfl))⟩
 have KS:=hid (show ∀ W:World,Below w0.heap.size w0 W→(W.cell? ⟨w.heap.size,0,none⟩=some (.string n)∧W.cell? ⟨w.heap.size,1,none⟩=some (.string d)) from fun W hB=>by
  obtain⟨c0,c1⟩:=hS0
  exact⟨hB.kc c0 (by omega),hB.kc c1 (by omega)⟩)
 have KZ:=Below.kz (show w.heap.size+2≤w0.heap.size by omega);have KB:=hB0.kb (by omega);have hR0:w0.cell? ⟨w.heap.size+1,0,none⟩=some (.string ⟨#[]⟩)∧w0.cell? ⟨w.heap.size+1,1,none⟩=some (.string ⟨#[]⟩)∧w0.frozen? ⟨w.heap.size+1,0,none⟩=false∧w0.frozen? ⟨w.heap.size+1,1,none⟩=false:=by rw[hw0];exact⟨((aM).trans rfl),((aM).trans rfl),(bG),(bG)⟩
 have KR:=hid (show ∀ W:World,Below w0.heap.size w0 W→(W.cell? ⟨w.heap.size+1,0,none⟩=some (.string ⟨#[]⟩)∧W.cell? ⟨w.heap.size+1,1,none⟩=some (.string ⟨#[]⟩)∧W.frozen? ⟨w.heap.size+1,0,none⟩=false∧W.frozen? ⟨w.heap.size+1,1,none⟩=false) from fun W hB=>by
  obtain⟨c0,c1,f0,f1⟩:=hR0
  exact⟨hB.kc c0 (by omega),hB.kc c1 (by omega),hB.kf f0 (by omega),hB.kf f1 (by omega)⟩)
 clear hR0
 have KT0:=hid (show ∀ (W:World) (v u:Value),Below w0.heap.size w0 W→(((W.setCell ⟨w.heap.size+1,0,none⟩ v).setCell ⟨w.heap.size+1,1,none⟩ u).cell? ⟨w.heap.size,0,none⟩=some (.string n)∧((W.setCell ⟨w.heap.size+1,0,none⟩ v).setCell ⟨w.heap.size+1,1,none⟩ u).cell? ⟨w.heap.size,1,none⟩=some (.string d)) from fun W v u hB=>by
  have hh:=KS.o W hB;obtain⟨c0,c1⟩:=hh
  exact⟨(aY (by omega)).trans ((aY (by omega)).trans c0),(aY (by omega)).trans ((aY (by omega)).trans c1)⟩)
 have F0:=hid (Below.refl w0.heap.size w0);have HW0:=hid hw0;clear hz0 hB0 hS0 hw0;have HL:=KB.kl fun _=>hl.on;clear hl hs hn hd;go_enter func141,ntmps141
 go_wp2_with fail
 rw[← HW0.o];obtain⟨d0,d1⟩:=KS.o _ F0.o;go_wp2_with fail
 refine(C1.o _ (HL.o _ F0.o)).mono ?_;rintro e w1 ⟨rfl,hb⟩;have F1:=hid (au F0.o hb);clear hb d0 d1;obtain⟨d0,d1⟩:=KS.o _ F1.o;go_wp2_with fail
 go_region_held3 (fun w'=>w'.cell? ⟨w.heap.size,0,none⟩=some (.string n)∧w'.cell? ⟨w.heap.size,1,none⟩=some (.string d)) (first|exact KS.o _ F3.o|exact KS.o _ F3.o.drew|exact KS.o _ F2.o|exact KS.o _ F2.o.drew|exact KS.o _ F1.o|exact KS.o _ F1.o.drew|exact KT0.o _ _ _ F3.o|exact KT0.o _ _ _ F3.o.drew)
  (first
   | (go_at_call 157;(with_reducible refine(C3.o _ ?la1).mono ?_);(case la1=>first|exact HL.o _ F1.o|exact HL.o _ F1.o.drew);rintro e w2 ⟨rfl,hb⟩;have F2:=hid (show Below w0.heap.size w0 w2 by first|exact au F1.o hb|exact au F1.o.drew hb);clear hb)
   | (go_at_call 157;(with_reducible refine(C2.o _ ?la2).mono ?_);(case la2=>first|exact HL.o _ F2.o|exact HL.o _ F2.o.drew);rintro e w3 ⟨rfl,hb⟩;have F3:=hid (show Below w0.heap.size w0 w3 by first|exact au F2.o hb|exact au F2.o.drew hb);clear hb;have hz:=KZ.o _ F3.o;obtain⟨m0,m1,n0,n1⟩:=KR.o _ F3.o)
   | fail)
 all_goals
  have hz:=KZ.o _ F3.o;go_wp2;refine bodyPost_ret (v:=.agg #[.string d',.string n']) (by simp[results,results141,go_sem,m0,m1]) rfl ⟨rfl,?_⟩;repeat (first|exact KB.o _ F3.o|refine Below.setCell ?_ (by first|omega|(simp;omega)|simp) _|refine Below.alloc ?_ (by first|omega|(simp;omega)|simp) _|refine Below.drew ?_)
theorem uB (n d:ByteArray)(w:World)(hl:La w)
 (hs:CL 78 #[.string n] (.int .i64 1)) :
 CR 141 #[.agg #[.string n,.string d]] w (.agg #[.string d,.string n]):=by
 have C1:=hid hs;obtain⟨w0,hw0⟩:∃ w0:World,w0=((w.alloc (.cells #[.string n,.string d] 67)).alloc (.cells #[.string ⟨#[]⟩,.string ⟨#[]⟩] 67)):=⟨_,rfl⟩;have hz0:w0.heap.size=w.heap.size+2:=by rw[hw0];simp
 have hB0:Below w.heap.size w w0:=by
  rw[hw0];repeat (first|exact Below.refl _ _|refine Below.setCell ?_ (by first|omega|(simp;omega)|simp) _|refine Below.alloc ?_ (by first|omega|(simp;omega)|simp) _|refine Below.drew ?_)
 have hS0:w0.cell? ⟨w.heap.size,0,none⟩=some (.string n)∧w0.cell? ⟨w.heap.size,1,none⟩=some (.string d):=by rw[hw0];exact⟨((q_lt).trans ((aM).trans rfl)),((q_lt).trans ((aM).trans rfl))⟩
 have KS:=hid (show ∀ W:World,Below w0.heap.size w0 W→(W.cell? ⟨w.heap.size,0,none⟩=some (.string n)∧W.cell? ⟨w.heap.size,1,none⟩=some (.string d)) from fun W hB=>by
  obtain⟨c0,c1⟩:=hS0
  exact⟨hB.kc c0 (by omega),hB.kc c1 (by omega)⟩)
 have KZ:=Below.kz (show w.heap.size+2≤w0.heap.size by omega);have KB:=hB0.kb (by omega);have hR0:w0.cell? ⟨w.heap.size+1,0,none⟩=some (.string ⟨#[]⟩)∧w0.cell? ⟨w.heap.size+1,1,none⟩=some (.string ⟨#[]⟩)∧w0.frozen? ⟨w.heap.size+1,0,none⟩=false∧w0.frozen? ⟨w.heap.size+1,1,none⟩=false:=by rw[hw0];exact⟨((aM).trans rfl),((aM).trans rfl),(bG),(bG)⟩
 have KR:=hid (show ∀ W:World,Below w0.heap.size w0 W→(W.cell? ⟨w.heap.size+1,0,none⟩=some (.string ⟨#[]⟩)∧W.cell? ⟨w.heap.size+1,1,none⟩=some (.string ⟨#[]⟩)∧W.frozen? ⟨w.heap.size+1,0,none⟩=false∧W.frozen? ⟨w.heap.size+1,1,none⟩=false) from fun W hB=>by
  obtain⟨c0,c1,f0,f1⟩:=hR0
  exact⟨hB.kc c0 (by omega),hB.kc c1 (by omega),hB.kf f0 (by omega),hB.kf f1 (by omega)⟩)
 clear hR0
 have KT0:=hid (show ∀ (W:World) (v u:Value),Below w0.heap.size w0 W→(((W.setCell ⟨w.heap.size+1,0,none⟩ v).setCell ⟨w.heap.size+1,1,none⟩ u).cell? ⟨w.heap.size,0,none⟩=some (.string n)∧((W.setCell ⟨w.heap.size+1,0,none⟩ v).setCell ⟨w.heap.size+1,1,none⟩ u).cell? ⟨w.heap.size,1,none⟩=some (.string d)) from fun W v u hB=>by
  have hh:=KS.o W hB;obtain⟨c0,c1⟩:=hh
  exact⟨(aY (by omega)).trans ((aY (by omega)).trans c0),(aY (by omega)).trans ((aY (by omega)).trans c1)⟩)
 have F0:=hid (Below.refl w0.heap.size w0);have HW0:=hid hw0;clear hz0 hB0 hS0 hw0;have HL:=KB.kl fun _=>hl.on;clear hl hs;go_enter func141,ntmps141
 go_wp2_with fail
 rw[← HW0.o];obtain⟨d0,d1⟩:=KS.o _ F0.o;go_wp2_with fail
 refine(C1.o _ (HL.o _ F0.o)).mono ?_;rintro e w1 ⟨rfl,hb⟩;have F1:=hid (au F0.o hb);clear hb d0 d1;obtain⟨d0,d1⟩:=KS.o _ F1.o
 all_goals
  obtain⟨m0,m1,n0,n1⟩:=KR.o _ F1.o;have hz:=KZ.o _ F1.o;go_wp2;refine bodyPost_ret (v:=.agg #[.string d,.string n]) (by simp[results,results141,go_sem,m0,m1]) rfl ⟨rfl,?_⟩;repeat (first|exact KB.o _ F1.o|refine Below.setCell ?_ (by first|omega|(simp;omega)|simp) _|refine Below.alloc ?_ (by first|omega|(simp;omega)|simp) _|refine Below.drew ?_)
theorem z3t (x1 x2 y1 y2 g m t1 q t2 t3 r u v z:ByteArray)(w:World)(hl:La w)
 (h1:CL 126 #[.string x2,.string y2] (.string g))
 (h2:CL 138 #[.string y2,.string g] (.string m))
 (h3:CL 119 #[.string x1,.string m] (.string t1))
 (h4:CL 138 #[.string x2,.string g] (.string q))
 (h5:CL 119 #[.string y1,.string q] (.string t2))
 (h6:CL 139 #[.string t1,.string t2] (.string t3))
 (h7:CL 126 #[.string t3,.string g] (.string r))
 (h8:CL 138 #[.string t3,.string r] (.string u))
 (h9:CL 138 #[.string x2,.string r] (.string v))
 (h10:CL 119 #[.string v,.string m] (.string z)) :
 CR 107 #[.agg #[.string x1,.string x2],.agg #[.string y1,.string y2]] w (.agg #[.string u,.string z]):=by
 obtain ⟨C1,C2,C3,C4,C5,C6,C7,C8,C9⟩:=bQ h1 h2 h3 h4 h5 h6 h7 h8 h9;have C10:=hid h10;obtain⟨w0,hw0⟩:∃ w0:World,w0=(((w.alloc (.cells #[.string x1,.string x2] 67)).alloc (.cells #[.string y1,.string y2] 67)).alloc (.cells #[.string ⟨#[]⟩,.string ⟨#[]⟩] 67)):=⟨_,rfl⟩;have hz0:w0.heap.size=w.heap.size+3:=by rw[hw0];simp
 have hB0:Below w.heap.size w w0:=by
  rw[hw0];repeat (first|exact Below.refl _ _|refine Below.setCell ?_ (by first|omega|(simp;omega)|simp) _|refine Below.alloc ?_ (by first|omega|(simp;omega)|simp) _|refine Below.drew ?_)
 have hS0:w0.cell? ⟨w.heap.size,0,none⟩=some (.string x1)∧w0.cell? ⟨w.heap.size,1,none⟩=some (.string x2)∧w0.cell? ⟨w.heap.size+1,0,none⟩=some (.string y1)∧w0.cell? ⟨w.heap.size+1,1,none⟩=some (.string y2):=by rw[hw0];exact⟨((q_lt).trans ((q_lt).trans ((aM).trans rfl))),((q_lt).trans ((q_lt).trans ((aM).trans rfl))),((q_lt).trans ((aM).trans rfl)),((q_lt).trans ((aM).trans rfl))⟩
 have KS:=hid (show ∀ W:World,Below w0.heap.size w0 W→(W.cell? ⟨w.heap.size,0,none⟩=some (.string x1)∧W.cell? ⟨w.heap.size,1,none⟩=some (.string x2)∧W.cell? ⟨w.heap.size+1,0,none⟩=some (.string y1)∧W.cell? ⟨w.heap.size+1,1,none⟩=some (.string y2)) from fun W hB=>by
  obtain⟨c0,c1,c2,c3⟩:=hS0
  exact⟨hB.kc c0 (by omega),hB.kc c1 (by omega),hB.kc c2 (by omega),hB.kc c3 (by omega)⟩)
 have KZ:=Below.kz (show w.heap.size+3≤w0.heap.size by omega);have KB:=hB0.kb (by omega);have hR0:w0.cell? ⟨w.heap.size+1+1,0,none⟩=some (.string ⟨#[]⟩)∧w0.cell? ⟨w.heap.size+1+1,1,none⟩=some (.string ⟨#[]⟩)∧w0.frozen? ⟨w.heap.size+1+1,0,none⟩=false∧w0.frozen? ⟨w.heap.size+1+1,1,none⟩=false:=by rw[hw0];exact⟨((aM).trans rfl),((aM).trans rfl),(bG),(bG)⟩
 have KR:=hid (show ∀ W:World,Below w0.heap.size w0 W→(W.cell? ⟨w.heap.size+1+1,0,none⟩=some (.string ⟨#[]⟩)∧W.cell? ⟨w.heap.size+1+1,1,none⟩=some (.string ⟨#[]⟩)∧W.frozen? ⟨w.heap.size+1+1,0,none⟩=false∧W.frozen? ⟨w.heap.size+1+1,1,none⟩=false) from fun W hB=>by
  obtain⟨c0,c1,f0,f1⟩:=hR0
  exact⟨hB.kc c0 (by omega),hB.kc c1 (by omega),hB.kf f0 (by omega),hB.kf f1 (by omega)⟩)
 clear hR0
 have KT0:=hid (show ∀ (W:World) (v u:Value),Below w0.heap.size w0 W→(((W.setCell ⟨w.heap.size+1+1,0,none⟩ v).setCell ⟨w.heap.size+1+1,1,none⟩ u).cell? ⟨w.heap.size,0,none⟩=some (.string x1)∧((W.setCell ⟨w.heap.size+1+1,0,none⟩ v).setCell ⟨w.heap.size+1+1,1,none⟩ u).cell? ⟨w.heap.size,1,none⟩=some (.string x2)∧((W.setCell ⟨w.heap.size+1+1,0,none⟩ v).setCell ⟨w.heap.size+1+1,1,none⟩ u).cell? ⟨w.heap.size+1,0,none⟩=some (.string y1)∧((W.setCell ⟨w.heap.size+1+1,0,none⟩ v).setCell ⟨w.heap.size+1+1,1,none⟩ u).cell? ⟨w.heap.size+1,1,none⟩=some (.string y2)) from fun W v u hB=>by
  have hh:=KS.o W hB;obtain⟨c0,c1,c2,c3⟩:=hh
  exact⟨(aY (by omega)).trans ((aY (by omega)).trans c0),(aY (by omega)).trans ((aY (by omega)).trans c1),(aY (by omega)).trans ((aY (by omega)).trans c2),(aY (by omega)).trans ((aY (by omega)).trans c3)⟩)
 have F0:=hid (Below.refl w0.heap.size w0);have HW0:=hid hw0;clear hz0 hB0 hS0 hw0;have HL:=KB.kl fun _=>hl.on;clear hl h1 h2 h3 h4 h5 h6 h7 h8 h9 h10;go_enter func107,ntmps107
 go_wp2_with fail
 rw[← HW0.o];obtain⟨d0,d1,d2,d3⟩:=KS.o _ F0.o;go_wp2_with fail
 refine(C1.o _ (HL.o _ F0.o)).mono ?_;rintro e w1 ⟨rfl,hb⟩;have F1:=hid (au F0.o hb);clear hb d0 d1 d2 d3;obtain⟨d0,d1,d2,d3⟩:=KS.o _ F1.o;go_wp2_with fail
 refine(C2.o _ (HL.o _ F1.o)).mono ?_;rintro e w2 ⟨rfl,hb⟩;have F2:=hid (au F1.o hb);clear hb d0 d1 d2 d3;obtain⟨d0,d1,d2,d3⟩:=KS.o _ F2.o;go_wp2_with fail
 go_region_held3 (fun w'=>w'.cell? ⟨w.heap.size,0,none⟩=some (.string x1)∧w'.cell? ⟨w.heap.size,1,none⟩=some (.string x2)∧w'.cell? ⟨w.heap.size+1,0,none⟩=some (.string y1)∧w'.cell? ⟨w.heap.size+1,1,none⟩=some (.string y2)) (first|exact KS.o _ F6.o|exact KS.o _ F6.o.drew|exact KS.o _ F5.o|exact KS.o _ F5.o.drew|exact KS.o _ F4.o|exact KS.o _ F4.o.drew|exact KS.o _ F3.o|exact KS.o _ F3.o.drew|exact KS.o _ F2.o|exact KS.o _ F2.o.drew)
  (first
   | (go_at_call 119;(with_reducible refine(C3.o _ ?la2).mono ?_);(case la2=>first|exact HL.o _ F2.o|exact HL.o _ F2.o.drew);rintro e w3 ⟨rfl,hb⟩;have F3:=hid (show Below w0.heap.size w0 w3 by first|exact au F2.o hb|exact au F2.o.drew hb);clear hb)
   | (go_at_call 138;(with_reducible refine(C4.o _ ?la3).mono ?_);(case la3=>first|exact HL.o _ F3.o|exact HL.o _ F3.o.drew);rintro e w4 ⟨rfl,hb⟩;have F4:=hid (show Below w0.heap.size w0 w4 by first|exact au F3.o hb|exact au F3.o.drew hb);clear hb)
   | (go_at_call 119;(with_reducible refine(C5.o _ ?la4).mono ?_);(case la4=>first|exact HL.o _ F4.o|exact HL.o _ F4.o.drew);rintro e w5 ⟨rfl,hb⟩;have F5:=hid (show Below w0.heap.size w0 w5 by first|exact au F4.o hb|exact au F4.o.drew hb);clear hb)
   | (go_at_call 139;(with_reducible refine(C6.o _ ?la5).mono ?_);(case la5=>first|exact HL.o _ F5.o|exact HL.o _ F5.o.drew);rintro e w6 ⟨rfl,hb⟩;have F6:=hid (show Below w0.heap.size w0 w6 by first|exact au F5.o hb|exact au F5.o.drew hb);clear hb)
   | fail)
 go_wp2_with fail
 obtain⟨d0,d1,d2,d3⟩:=KS.o _ F6.o;go_wp2_with fail
 refine(C7.o _ (HL.o _ F6.o)).mono ?_;rintro e w7 ⟨rfl,hb⟩;have F7:=hid (au F6.o hb);clear hb d0 d1 d2 d3;obtain⟨d0,d1,d2,d3⟩:=KS.o _ F7.o;go_wp2_with fail
 go_region_held3 (fun w'=>w'.cell? ⟨w.heap.size,0,none⟩=some (.string x1)∧w'.cell? ⟨w.heap.size,1,none⟩=some (.string x2)∧w'.cell? ⟨w.heap.size+1,0,none⟩=some (.string y1)∧w'.cell? ⟨w.heap.size+1,1,none⟩=some (.string y2)) (first|exact KS.o _ F10.o|exact KS.o _ F10.o.drew|exact KS.o _ F9.o|exact KS.o _ F9.o.drew|exact KS.o _ F8.o|exact KS.o _ F8.o.drew|exact KS.o _ F7.o|exact KS.o _ F7.o.drew|exact KT0.o _ _ _ F10.o|exact KT0.o _ _ _ F10.o.drew)
  (first
   | (go_at_call 138;(with_reducible refine(C8.o _ ?la7).mono ?_);(case la7=>first|exact HL.o _ F7.o|exact HL.o _ F7.o.drew);rintro e w8 ⟨rfl,hb⟩;have F8:=hid (show Below w0.heap.size w0 w8 by first|exact au F7.o hb|exact au F7.o.drew hb);clear hb)
   | (go_at_call 138;(with_reducible refine(C9.o _ ?la8).mono ?_);(case la8=>first|exact HL.o _ F8.o|exact HL.o _ F8.o.drew);rintro e w9 ⟨rfl,hb⟩;have F9:=hid (show Below w0.heap.size w0 w9 by first|exact au F8.o hb|exact au F8.o.drew hb);clear hb)
   | (go_at_call 119;(with_reducible refine(C10.o _ ?la9).mono ?_);(case la9=>first|exact HL.o _ F9.o|exact HL.o _ F9.o.drew);rintro e w10 ⟨rfl,hb⟩;have F10:=hid (show Below w0.heap.size w0 w10 by first|exact au F9.o hb|exact au F9.o.drew hb);clear hb;have hz:=KZ.o _ F10.o;obtain⟨m0,m1,n0,n1⟩:=KR.o _ F10.o)
   | fail)
 all_goals
  have hz:=KZ.o _ F10.o;go_wp2;refine bodyPost_ret (v:=.agg #[.string u,.string z]) (by simp[results,results107,go_sem,m0,m1]) rfl ⟨rfl,?_⟩;repeat (first|exact KB.o _ F10.o|refine Below.setCell ?_ (by first|omega|(simp;omega)|simp) _|refine Below.alloc ?_ (by first|omega|(simp;omega)|simp) _|refine Below.drew ?_)
theorem z3q (x1 x2 y1 y2 g1 g2 q1 q2 n q3 q4 d:ByteArray)(w:World)(hl:La w)
 (h1:CL 126 #[.string x1,.string y2] (.string g1))
 (h2:CL 126 #[.string y1,.string x2] (.string g2))
 (h3:CL 138 #[.string x1,.string g1] (.string q1))
 (h4:CL 138 #[.string y1,.string g2] (.string q2))
 (h5:CL 119 #[.string q1,.string q2] (.string n))
 (h6:CL 138 #[.string x2,.string g2] (.string q3))
 (h7:CL 138 #[.string y2,.string g1] (.string q4))
 (h8:CL 119 #[.string q3,.string q4] (.string d)) :
 CR 111 #[.agg #[.string x1,.string x2],.agg #[.string y1,.string y2]] w (.agg #[.string n,.string d]):=by
 obtain ⟨C1,C2,C3,C4,C5,C6,C7,C8⟩:=jc h1 h2 h3 h4 h5 h6 h7 h8;obtain⟨w0,hw0⟩:∃ w0:World,w0=(((w.alloc (.cells #[.string x1,.string x2] 67)).alloc (.cells #[.string y1,.string y2] 67)).alloc (.cells #[.string ⟨#[]⟩,.string ⟨#[]⟩] 67)):=⟨_,rfl⟩;have hz0:w0.heap.size=w.heap.size+3:=by rw[hw0];simp
 have hB0:Below w.heap.size w w0:=by
  rw[hw0];repeat (first|exact Below.refl _ _|refine Below.setCell ?_ (by first|omega|(simp;omega)|simp) _|refine Below.alloc ?_ (by first|omega|(simp;omega)|simp) _|refine Below.drew ?_)
 have hS0:w0.cell? ⟨w.heap.size,0,none⟩=some (.string x1)∧w0.cell? ⟨w.heap.size,1,none⟩=some (.string x2)∧w0.cell? ⟨w.heap.size+1,0,none⟩=some (.string y1)∧w0.cell? ⟨w.heap.size+1,1,none⟩=some (.string y2):=by rw[hw0];exact⟨((q_lt).trans ((q_lt).trans ((aM).trans rfl))),((q_lt).trans ((q_lt).trans ((aM).trans rfl))),((q_lt).trans ((aM).trans rfl)),((q_lt).trans ((aM).trans rfl))⟩
 have KS:=hid (show ∀ W:World,Below w0.heap.size w0 W→(W.cell? ⟨w.heap.size,0,none⟩=some (.string x1)∧W.cell? ⟨w.heap.size,1,none⟩=some (.string x2)∧W.cell? ⟨w.heap.size+1,0,none⟩=some (.string y1)∧W.cell? ⟨w.heap.size+1,1,none⟩=some (.string y2)) from fun W hB=>by
  obtain⟨c0,c1,c2,c3⟩:=hS0
  exact⟨hB.kc c0 (by omega),hB.kc c1 (by omega),hB.kc c2 (by omega),hB.kc c3 (by omega)⟩)
 have KZ:=Below.kz (show w.heap.size+3≤w0.heap.size by omega);have KB:=hB0.kb (by omega);have hR0:w0.cell? ⟨w.heap.size+1+1,0,none⟩=some (.string ⟨#[]⟩)∧w0.cell? ⟨w.heap.size+1+1,1,none⟩=some (.string ⟨#[]⟩)∧w0.frozen? ⟨w.heap.size+1+1,0,none⟩=false∧w0.frozen? ⟨w.heap.size+1+1,1,none⟩=false:=by rw[hw0];exact⟨((aM).trans rfl),((aM).trans rfl),(bG),(bG)⟩
 have KR:=hid (show ∀ W:World,Below w0.heap.size w0 W→(W.cell? ⟨w.heap.size+1+1,0,none⟩=some (.string ⟨#[]⟩)∧W.cell? ⟨w.heap.size+1+1,1,none⟩=some (.string ⟨#[]⟩)∧W.frozen? ⟨w.heap.size+1+1,0,none⟩=false∧W.frozen? ⟨w.heap.size+1+1,1,none⟩=false) from fun W hB=>by
  obtain⟨c0,c1,f0,f1⟩:=hR0
  exact⟨hB.kc c0 (by omega),hB.kc c1 (by omega),hB.kf f0 (by omega),hB.kf f1 (by omega)⟩)
 clear hR0
 have KT0:=hid (show ∀ (W:World) (v u:Value),Below w0.heap.size w0 W→(((W.setCell ⟨w.heap.size+1+1,0,none⟩ v).setCell ⟨w.heap.size+1+1,1,none⟩ u).cell? ⟨w.heap.size,0,none⟩=some (.string x1)∧((W.setCell ⟨w.heap.size+1+1,0,none⟩ v).setCell ⟨w.heap.size+1+1,1,none⟩ u).cell? ⟨w.heap.size,1,none⟩=some (.string x2)∧((W.setCell ⟨w.heap.size+1+1,0,none⟩ v).setCell ⟨w.heap.size+1+1,1,none⟩ u).cell? ⟨w.heap.size+1,0,none⟩=some (.string y1)∧((W.setCell ⟨w.heap.size+1+1,0,none⟩ v).setCell ⟨w.heap.size+1+1,1,none⟩ u).cell? ⟨w.heap.size+1,1,none⟩=some (.string y2)) from fun W v u hB=>by
  have hh:=KS.o W hB;obtain⟨c0,c1,c2,c3⟩:=hh
  exact⟨(aY (by omega)).trans ((aY (by omega)).trans c0),(aY (by omega)).trans ((aY (by omega)).trans c1),(aY (by omega)).trans ((aY (by omega)).trans c2),(aY (by omega)).trans ((aY (by omega)).trans c3)⟩)
 have F0:=hid (Below.refl w0.heap.size w0);have HW0:=hid hw0;clear hz0 hB0 hS0 hw0;have HL:=KB.kl fun _=>hl.on;clear hl h1 h2 h3 h4 h5 h6 h7 h8;go_enter func111,ntmps111
 go_wp2_with fail
 rw[← HW0.o];go_wp2_with fail
 go_region_held3 (fun w'=>w'.cell? ⟨w.heap.size,0,none⟩=some (.string x1)∧w'.cell? ⟨w.heap.size,1,none⟩=some (.string x2)∧w'.cell? ⟨w.heap.size+1,0,none⟩=some (.string y1)∧w'.cell? ⟨w.heap.size+1,1,none⟩=some (.string y2)) (first|exact KS.o _ F2.o|exact KS.o _ F2.o.drew|exact KS.o _ F1.o|exact KS.o _ F1.o.drew|exact KS.o _ F0.o|exact KS.o _ F0.o.drew)
  (first
   | (go_at_call 126;(with_reducible refine(C1.o _ ?la0).mono ?_);(case la0=>first|exact HL.o _ F0.o|exact HL.o _ F0.o.drew);rintro e w1 ⟨rfl,hb⟩;have F1:=hid (show Below w0.heap.size w0 w1 by first|exact au F0.o hb|exact au F0.o.drew hb);clear hb)
   | (go_at_call 126;(with_reducible refine(C2.o _ ?la1).mono ?_);(case la1=>first|exact HL.o _ F1.o|exact HL.o _ F1.o.drew);rintro e w2 ⟨rfl,hb⟩;have F2:=hid (show Below w0.heap.size w0 w2 by first|exact au F1.o hb|exact au F1.o.drew hb);clear hb)
   | fail)
 go_wp2_with fail
 go_region_held3 (fun w'=>w'.cell? ⟨w.heap.size,0,none⟩=some (.string x1)∧w'.cell? ⟨w.heap.size,1,none⟩=some (.string x2)∧w'.cell? ⟨w.heap.size+1,0,none⟩=some (.string y1)∧w'.cell? ⟨w.heap.size+1,1,none⟩=some (.string y2)) (first|exact KS.o _ F5.o|exact KS.o _ F5.o.drew|exact KS.o _ F4.o|exact KS.o _ F4.o.drew|exact KS.o _ F3.o|exact KS.o _ F3.o.drew|exact KS.o _ F2.o|exact KS.o _ F2.o.drew)
  (first
   | (go_at_call 138;(with_reducible refine(C3.o _ ?la2).mono ?_);(case la2=>first|exact HL.o _ F2.o|exact HL.o _ F2.o.drew);rintro e w3 ⟨rfl,hb⟩;have F3:=hid (show Below w0.heap.size w0 w3 by first|exact au F2.o hb|exact au F2.o.drew hb);clear hb)
   | (go_at_call 138;(with_reducible refine(C4.o _ ?la3).mono ?_);(case la3=>first|exact HL.o _ F3.o|exact HL.o _ F3.o.drew);rintro e w4 ⟨rfl,hb⟩;have F4:=hid (show Below w0.heap.size w0 w4 by first|exact au F3.o hb|exact au F3.o.drew hb);clear hb)
   | (go_at_call 119;(with_reducible refine(C5.o _ ?la4).mono ?_);(case la4=>first|exact HL.o _ F4.o|exact HL.o _ F4.o.drew);rintro e w5 ⟨rfl,hb⟩;have F5:=hid (show Below w0.heap.size w0 w5 by first|exact au F4.o hb|exact au F4.o.drew hb);clear hb)
   | fail)
 go_wp2_with fail
 go_region_held3 (fun w'=>w'.cell? ⟨w.heap.size,0,none⟩=some (.string x1)∧w'.cell? ⟨w.heap.size,1,none⟩=some (.string x2)∧w'.cell? ⟨w.heap.size+1,0,none⟩=some (.string y1)∧w'.cell? ⟨w.heap.size+1,1,none⟩=some (.string y2)) (first|exact KS.o _ F8.o|exact KS.o _ F8.o.drew|exact KS.o _ F7.o|exact KS.o _ F7.o.drew|exact KS.o _ F6.o|exact KS.o _ F6.o.drew|exact KS.o _ F5.o|exact KS.o _ F5.o.drew|exact KT0.o _ _ _ F8.o|exact KT0.o _ _ _ F8.o.drew)
  (first
   | (go_at_call 138;(with_reducible refine(C6.o _ ?la5).mono ?_);(case la5=>first|exact HL.o _ F5.o|exact HL.o _ F5.o.drew);rintro e w6 ⟨rfl,hb⟩;have F6:=hid (show Below w0.heap.size w0 w6 by first|exact au F5.o hb|exact au F5.o.drew hb);clear hb)
   | (go_at_call 138;(with_reducible refine(C7.o _ ?la6).mono ?_);(case la6=>first|exact HL.o _ F6.o|exact HL.o _ F6.o.drew);rintro e w7 ⟨rfl,hb⟩;have F7:=hid (show Below w0.heap.size w0 w7 by first|exact au F6.o hb|exact au F6.o.drew hb);clear hb)
   | (go_at_call 119;(with_reducible refine(C8.o _ ?la7).mono ?_);(case la7=>first|exact HL.o _ F7.o|exact HL.o _ F7.o.drew);rintro e w8 ⟨rfl,hb⟩;have F8:=hid (show Below w0.heap.size w0 w8 by first|exact au F7.o hb|exact au F7.o.drew hb);clear hb;have hz:=KZ.o _ F8.o;obtain⟨m0,m1,n0,n1⟩:=KR.o _ F8.o)
   | fail)
 all_goals
  have hz:=KZ.o _ F8.o;go_wp2;refine bodyPost_ret (v:=.agg #[.string n,.string d]) (by simp[results,results111,go_sem,m0,m1]) rfl ⟨rfl,?_⟩;repeat (first|exact KB.o _ F8.o|refine Below.setCell ?_ (by first|omega|(simp;omega)|simp) _|refine Below.alloc ?_ (by first|omega|(simp;omega)|simp) _|refine Below.drew ?_)
