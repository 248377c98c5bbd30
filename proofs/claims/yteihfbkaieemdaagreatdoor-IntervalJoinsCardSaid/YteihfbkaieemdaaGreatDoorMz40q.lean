/- texts -/
import Derived.Test.YteihfbkaieemdaaGreatDoorMz39q
open Go.Proofs.Tryz
set_option maxRecDepth 100000
set_option maxHeartbeats 20000000
open Go.Lib (hid)
namespace Go.Proofs.YteihfbkaieemdaaGreatDoor
open Go.RowKit Go.Gb
theorem z2j (l1 h1 l2 h2 lo hi:ByteArray)(w:World)(hl:La w)
 (g1:CL 27 #[.agg #[.string l1,.string h1]] (.bool true))
 (g2:CL 27 #[.agg #[.string l2,.string h2]] (.bool true))
 (g3:CL 38 #[.agg #[.string l1,.string h1],.agg #[.string l2,.string h2],.func (.func 39) #[] #[]] (.agg #[.string lo,.string hi])) :
 CR 11 #[.agg #[.string l1,.string h1],.agg #[.string l2,.string h2]] w (.tuple #[.agg #[.string lo,.string hi],.int .i64 0]):=by
 obtain ⟨C1,C2,C3⟩:=ak g1 g2 g3;obtain⟨w0,hw0⟩:∃ w0:World,w0=(((w.alloc (.cells #[.string l1,.string h1] 24)).alloc (.cells #[.string l2,.string h2] 24)).alloc (.cells #[.string ⟨#[]⟩,.string ⟨#[]⟩] 24)):=⟨_,rfl⟩;have hz0:w0.heap.size=w.heap.size+3:=by rw[hw0];simp
 have hB0:Below w.heap.size w w0:=by
  rw[hw0];repeat (first|exact Below.refl _ _|refine Below.setCell ?_ (by first|omega|(simp;omega)|simp) _|refine Below.alloc ?_ (by first|omega|(simp;omega)|simp) _|refine Below.drew ?_)
 have hS0:w0.cell? ⟨w.heap.size,0,none⟩=some (.string l1)∧w0.cell? ⟨w.heap.size,1,none⟩=some (.string h1)∧w0.cell? ⟨w.heap.size+1,0,none⟩=some (.string l2)∧w0.cell? ⟨w.heap.size+1,1,none⟩=some (.string h2):=by rw[hw0];exact⟨((q_lt).trans ((q_lt).trans ((aC).trans rfl))),((q_lt).trans ((q_lt).trans ((aC).trans rfl))),((q_lt).trans ((aC).trans rfl)),((q_lt).trans ((aC).trans rfl))⟩
 have KS:=hid (show ∀ W:World,Below w0.heap.size w0 W→(W.cell? ⟨w.heap.size,0,none⟩=some (.string l1)∧W.cell? ⟨w.heap.size,1,none⟩=some (.string h1)∧W.cell? ⟨w.heap.size+1,0,none⟩=some (.string l2)∧W.cell? ⟨w.heap.size+1,1,none⟩=some (.string h2)) from fun W hB=>by
  obtain⟨c0,c1,c2,c3⟩:=hS0
  exact⟨(hB.cell (p:=⟨w.heap.size,0,none⟩) (by show w.heap.size<_;omega)).trans c0,(hB.cell (p:=⟨w.heap.size,1,none⟩) (by show w.heap.size<_;omega)).trans c1,(hB.cell (p:=⟨w.heap.size+1,0,none⟩) (by show w.heap.size+1<_;omega)).trans c2,(hB.cell (p:=⟨w.heap.size+1,1,none⟩) (by show w.heap.size+1<_;omega)).trans c3⟩)
 have KZ:=hid (show ∀ W:World,Below w0.heap.size w0 W→w.heap.size+3≤W.heap.size from fun W hB=>by have:=hB.size;omega);have KB:=hid (show ∀ W:World,Below w0.heap.size w0 W→Below w.heap.size w W from fun W hB=>hB0.trans (hB.mono (by omega)));have hR0:w0.cell? ⟨w.heap.size+1+1,0,none⟩=some (.string ⟨#[]⟩)∧w0.cell? ⟨w.heap.size+1+1,1,none⟩=some (.string ⟨#[]⟩)∧w0.frozen? ⟨w.heap.size+1+1,0,none⟩=false∧w0.frozen? ⟨w.heap.size+1+1,1,none⟩=false:=by rw[hw0];exact⟨((aC).trans rfl),((aC).trans rfl),(aX),(aX)⟩
 have KR:=hid (show ∀ W:World,Below w0.heap.size w0 W→(W.cell? ⟨w.heap.size+1+1,0,none⟩=some (.string ⟨#[]⟩)∧W.cell? ⟨w.heap.size+1+1,1,none⟩=some (.string ⟨#[]⟩)∧W.frozen? ⟨w.heap.size+1+1,0,none⟩=false∧W.frozen? ⟨w.heap.size+1+1,1,none⟩=false) from fun W hB=>by
  obtain⟨c0,c1,f0,f1⟩:=hR0
  exact⟨(hB.cell (p:=⟨w.heap.size+1+1,0,none⟩) (by show w.heap.size+1+1<_;omega)).trans c0,(hB.cell (p:=⟨w.heap.size+1+1,1,none⟩) (by show w.heap.size+1+1<_;omega)).trans c1,(hB.frozen (p:=⟨w.heap.size+1+1,0,none⟩) (by show w.heap.size+1+1<_;omega)).trans f0,(hB.frozen (p:=⟨w.heap.size+1+1,1,none⟩) (by show w.heap.size+1+1<_;omega)).trans f1⟩)
 clear hR0
 have KT0:=hid (show ∀ (W:World) (v u:Value),Below w0.heap.size w0 W→(((W.setCell ⟨w.heap.size+1+1,0,none⟩ v).setCell ⟨w.heap.size+1+1,1,none⟩ u).cell? ⟨w.heap.size,0,none⟩=some (.string l1)∧((W.setCell ⟨w.heap.size+1+1,0,none⟩ v).setCell ⟨w.heap.size+1+1,1,none⟩ u).cell? ⟨w.heap.size,1,none⟩=some (.string h1)∧((W.setCell ⟨w.heap.size+1+1,0,none⟩ v).setCell ⟨w.heap.size+1+1,1,none⟩ u).cell? ⟨w.heap.size+1,0,none⟩=some (.string l2)∧((W.setCell ⟨w.heap.size+1+1,0,none⟩ v).setCell ⟨w.heap.size+1+1,1,none⟩ u).cell? ⟨w.heap.size+1,1,none⟩=some (.string h2)) from fun W v u hB=>by
  have hh:=KS.o W hB;obtain⟨c0,c1,c2,c3⟩:=hh
  exact⟨(aQ (by omega)).trans ((aQ (by omega)).trans c0),(aQ (by omega)).trans ((aQ (by omega)).trans c1),(aQ (by omega)).trans ((aQ (by omega)).trans c2),(aQ (by omega)).trans ((aQ (by omega)).trans c3)⟩)
 have F0:=hid (Below.refl w0.heap.size w0);have HW0:=hid hw0;clear hz0 hB0 hS0 hw0;have HL:=hid (show ∀ W:World,Below w0.heap.size w0 W→La W from fun W hB=>hl.on (KB.o W hB));clear hl g1 g2 g3;go_enter func11,ntmps11
 go_wp2_with fail
 rw[← HW0.o];obtain⟨d0,d1,d2,d3⟩:=KS.o _ F0.o;go_wp2_with fail
 refine(C1.o _ (HL.o _ F0.o)).mono ?_;rintro e w1 ⟨rfl,hb⟩;have F1:=hid (ai F0.o hb);clear hb d0 d1 d2 d3;obtain⟨d0,d1,d2,d3⟩:=KS.o _ F1.o;go_wp2_with fail
 refine(C2.o _ (HL.o _ F1.o)).mono ?_;rintro e w2 ⟨rfl,hb⟩;have F2:=hid (ai F1.o hb);clear hb d0 d1 d2 d3;obtain⟨d0,d1,d2,d3⟩:=KS.o _ F2.o;go_wp2_with fail
 refine(C3.o _ (HL.o _ F2.o)).mono ?_;rintro e w3 ⟨rfl,hb⟩;have F3:=hid (ai F2.o hb);clear hb d0 d1 d2 d3;obtain⟨d0,d1,d2,d3⟩:=KS.o _ F3.o
 all_goals
  obtain⟨m0,m1,n0,n1⟩:=KR.o _ F3.o;have hz:=KZ.o _ F3.o;go_wp2;refine bodyPost_ret (v:=.tuple #[.agg #[.string lo,.string hi],.int .i64 0]) (by simp[results,results11,go_sem,m0,m1]) rfl ⟨rfl,?_⟩;repeat (first|exact KB.o _ F3.o|refine Below.setCell ?_ (by first|omega|(simp;omega)|simp) _|refine Below.alloc ?_ (by first|omega|(simp;omega)|simp) _|refine Below.drew ?_)
theorem z2o (l1 h1 l2 h2 lo hi:ByteArray)(w:World)(hl:La w)
 (g1:CL 27 #[.agg #[.string l1,.string h1]] (.bool true))
 (g2:CL 27 #[.agg #[.string l2,.string h2]] (.bool true))
 (g3:CL 41 #[.agg #[.string l2,.string h2],.string ⟨#[48]⟩] (.bool false))
 (g4:CL 38 #[.agg #[.string l1,.string h1],.agg #[.string l2,.string h2],.func (.func 42) #[] #[]] (.agg #[.string lo,.string hi])) :
 CR 13 #[.agg #[.string l1,.string h1],.agg #[.string l2,.string h2]] w (.tuple #[.agg #[.string lo,.string hi],.int .i64 0]):=by
 obtain ⟨C1,C2,C3,C4⟩:=aL g1 g2 g3 g4;obtain⟨w0,hw0⟩:∃ w0:World,w0=(((w.alloc (.cells #[.string l1,.string h1] 24)).alloc (.cells #[.string l2,.string h2] 24)).alloc (.cells #[.string ⟨#[]⟩,.string ⟨#[]⟩] 24)):=⟨_,rfl⟩;have hz0:w0.heap.size=w.heap.size+3:=by rw[hw0];simp
 have hB0:Below w.heap.size w w0:=by
  rw[hw0];repeat (first|exact Below.refl _ _|refine Below.setCell ?_ (by first|omega|(simp;omega)|simp) _|refine Below.alloc ?_ (by first|omega|(simp;omega)|simp) _|refine Below.drew ?_)
 have hS0:w0.cell? ⟨w.heap.size,0,none⟩=some (.string l1)∧w0.cell? ⟨w.heap.size,1,none⟩=some (.string h1)∧w0.cell? ⟨w.heap.size+1,0,none⟩=some (.string l2)∧w0.cell? ⟨w.heap.size+1,1,none⟩=some (.string h2):=by rw[hw0];exact⟨((q_lt).trans ((q_lt).trans ((aC).trans rfl))),((q_lt).trans ((q_lt).trans ((aC).trans rfl))),((q_lt).trans ((aC).trans rfl)),((q_lt).trans ((aC).trans rfl))⟩
 have KS:=hid (show ∀ W:World,Below w0.heap.size w0 W→(W.cell? ⟨w.heap.size,0,none⟩=some (.string l1)∧W.cell? ⟨w.heap.size,1,none⟩=some (.string h1)∧W.cell? ⟨w.heap.size+1,0,none⟩=some (.string l2)∧W.cell? ⟨w.heap.size+1,1,none⟩=some (.string h2)) from fun W hB=>by
  obtain⟨c0,c1,c2,c3⟩:=hS0
  exact⟨(hB.cell (p:=⟨w.heap.size,0,none⟩) (by show w.heap.size<_;omega)).trans c0,(hB.cell (p:=⟨w.heap.size,1,none⟩) (by show w.heap.size<_;omega)).trans c1,(hB.cell (p:=⟨w.heap.size+1,0,none⟩) (by show w.heap.size+1<_;omega)).trans c2,(hB.cell (p:=⟨w.heap.size+1,1,none⟩) (by show w.heap.size+1<_;omega)).trans c3⟩)
 have KZ:=hid (show ∀ W:World,Below w0.heap.size w0 W→w.heap.size+3≤W.heap.size from fun W hB=>by have:=hB.size;omega);have KB:=hid (show ∀ W:World,Below w0.heap.size w0 W→Below w.heap.size w W from fun W hB=>hB0.trans (hB.mono (by omega)));have hR0:w0.cell? ⟨w.heap.size+1+1,0,none⟩=some (.string ⟨#[]⟩)∧w0.cell? ⟨w.heap.size+1+1,1,none⟩=some (.string ⟨#[]⟩)∧w0.frozen? ⟨w.heap.size+1+1,0,none⟩=false∧w0.frozen? ⟨w.heap.size+1+1,1,none⟩=false:=by rw[hw0];exact⟨((aC).trans rfl),((aC).trans rfl),(aX),(aX)⟩
 have KR:=hid (show ∀ W:World,Below w0.heap.size w0 W→(W.cell? ⟨w.heap.size+1+1,0,none⟩=some (.string ⟨#[]⟩)∧W.cell? ⟨w.heap.size+1+1,1,none⟩=some (.string ⟨#[]⟩)∧W.frozen? ⟨w.heap.size+1+1,0,none⟩=false∧W.frozen? ⟨w.heap.size+1+1,1,none⟩=false) from fun W hB=>by
  obtain⟨c0,c1,f0,f1⟩:=hR0
  exact⟨(hB.cell (p:=⟨w.heap.size+1+1,0,none⟩) (by show w.heap.size+1+1<_;omega)).trans c0,(hB.cell (p:=⟨w.heap.size+1+1,1,none⟩) (by show w.heap.size+1+1<_;omega)).trans c1,(hB.frozen (p:=⟨w.heap.size+1+1,0,none⟩) (by show w.heap.size+1+1<_;omega)).trans f0,(hB.frozen (p:=⟨w.heap.size+1+1,1,none⟩) (by show w.heap.size+1+1<_;omega)).trans f1⟩)
 clear hR0
 have KT0:=hid (show ∀ (W:World) (v u:Value),Below w0.heap.size w0 W→(((W.setCell ⟨w.heap.size+1+1,0,none⟩ v).setCell ⟨w.heap.size+1+1,1,none⟩ u).cell? ⟨w.heap.size,0,none⟩=some (.string l1)∧((W.setCell ⟨w.heap.size+1+1,0,none⟩ v).setCell ⟨w.heap.size+1+1,1,none⟩ u).cell? ⟨w.heap.size,1,none⟩=some (.string h1)∧((W.setCell ⟨w.heap.size+1+1,0,none⟩ v).setCell ⟨w.heap.size+1+1,1,none⟩ u).cell? ⟨w.heap.size+1,0,none⟩=some (.string l2)∧((W.setCell ⟨w.heap.size+1+1,0,none⟩ v).setCell ⟨w.heap.size+1+1,1,none⟩ u).cell? ⟨w.heap.size+1,1,none⟩=some (.string h2)) from fun W v u hB=>by
  have hh:=KS.o W hB;obtain⟨c0,c1,c2,c3⟩:=hh
  exact⟨(aQ (by omega)).trans ((aQ (by omega)).trans c0),(aQ (by omega)).trans ((aQ (by omega)).trans c1),(aQ (by omega)).trans ((aQ (by omega)).trans c2),(aQ (by omega)).trans ((aQ (by omega)).trans c3)⟩)
 have F0:=hid (Below.refl w0.heap.size w0);have HW0:=hid hw0;clear hz0 hB0 hS0 hw0;have HL:=hid (show ∀ W:World,Below w0.heap.size w0 W→La W from fun W hB=>hl.on (KB.o W hB));clear hl g1 g2 g3 g4;go_enter func13,ntmps13
 go_wp2_with fail
 rw[← HW0.o];obtain⟨d0,d1,d2,d3⟩:=KS.o _ F0.o;go_wp2_with fail
 refine(C1.o _ (HL.o _ F0.o)).mono ?_;rintro e w1 ⟨rfl,hb⟩;have F1:=hid (ai F0.o hb);clear hb d0 d1 d2 d3;obtain⟨d0,d1,d2,d3⟩:=KS.o _ F1.o;go_wp2_with fail
 refine(C2.o _ (HL.o _ F1.o)).mono ?_;rintro e w2 ⟨rfl,hb⟩;have F2:=hid (ai F1.o hb);clear hb d0 d1 d2 d3;obtain⟨d0,d1,d2,d3⟩:=KS.o _ F2.o;go_wp2_with fail
 refine(C3.o _ (HL.o _ F2.o)).mono ?_;rintro e w3 ⟨rfl,hb⟩;have F3:=hid (ai F2.o hb);clear hb d0 d1 d2 d3;obtain⟨d0,d1,d2,d3⟩:=KS.o _ F3.o;go_wp2_with fail
 refine(C4.o _ (HL.o _ F3.o)).mono ?_;rintro e w4 ⟨rfl,hb⟩;have F4:=hid (ai F3.o hb);clear hb d0 d1 d2 d3;obtain⟨d0,d1,d2,d3⟩:=KS.o _ F4.o
 all_goals
  obtain⟨m0,m1,n0,n1⟩:=KR.o _ F4.o;have hz:=KZ.o _ F4.o;go_wp2;refine bodyPost_ret (v:=.tuple #[.agg #[.string lo,.string hi],.int .i64 0]) (by simp[results,results13,go_sem,m0,m1]) rfl ⟨rfl,?_⟩;repeat (first|exact KB.o _ F4.o|refine Below.setCell ?_ (by first|omega|(simp;omega)|simp) _|refine Below.alloc ?_ (by first|omega|(simp;omega)|simp) _|refine Below.drew ?_)
theorem vo (l h p q lo hi:ByteArray)(w:World)(hl:La w)
 (g1:CL 27 #[.agg #[.string l,.string h]] (.bool true))
 (g2:CL 39 #[.string l,.string l] (.tuple #[.string p,.int .i64 0]))
 (g3:CL 39 #[.string h,.string h] (.tuple #[.string q,.int .i64 0]))
 (g4:CL 41 #[.agg #[.string l,.string h],.string ⟨#[48]⟩] (.bool false))
 (g5:∀ W g,La W→g<W.heap.size→W.cell? ⟨g,0,none⟩=some (.string p)→W.cell? ⟨g,1,none⟩=some (.string q)→CR 45 #[.slice (some ⟨g,0,none⟩) 2 2] W (.agg #[.string lo,.string hi])) :
 CR 15 #[.agg #[.string l,.string h]] w (.tuple #[.agg #[.string lo,.string hi],.int .i64 0]):=by
 obtain ⟨C1,C2,C3,C4,C5⟩:=bI g1 g2 g3 g4 g5;obtain⟨w0,hw0⟩:∃ w0:World,w0=((w.alloc (.cells #[.string l,.string h] 24)).alloc (.cells #[.string ⟨#[]⟩,.string ⟨#[]⟩] 24)):=⟨_,rfl⟩;have hz0:w0.heap.size=w.heap.size+2:=by rw[hw0];simp
 have hB0:Below w.heap.size w w0:=by
  rw[hw0];repeat (first|exact Below.refl _ _|refine Below.setCell ?_ (by first|omega|(simp;omega)|simp) _|refine Below.alloc ?_ (by first|omega|(simp;omega)|simp) _|refine Below.drew ?_)
 have hS0:w0.cell? ⟨w.heap.size,0,none⟩=some (.string l)∧w0.cell? ⟨w.heap.size,1,none⟩=some (.string h):=by rw[hw0];exact⟨((q_lt).trans ((aC).trans rfl)),((q_lt).trans ((aC).trans rfl))⟩
 have KS:=hid (show ∀ W:World,Below w0.heap.size w0 W→(W.cell? ⟨w.heap.size,0,none⟩=some (.string l)∧W.cell? ⟨w.heap.size,1,none⟩=some (.string h)) from fun W hB=>by
  obtain⟨c0,c1⟩:=hS0
  exact⟨(hB.cell (p:=⟨w.heap.size,0,none⟩) (by show w.heap.size<_;omega)).trans c0,(hB.cell (p:=⟨w.heap.size,1,none⟩) (by show w.heap.size<_;omega)).trans c1⟩)
 have KZ:=hid (show ∀ W:World,Below w0.heap.size w0 W→w.heap.size+2≤W.heap.size from fun W hB=>by have:=hB.size;omega);have KB:=hid (show ∀ W:World,Below w0.heap.size w0 W→Below w.heap.size w W from fun W hB=>hB0.trans (hB.mono (by omega)));have hR0:w0.cell? ⟨w.heap.size+1,0,none⟩=some (.string ⟨#[]⟩)∧w0.cell? ⟨w.heap.size+1,1,none⟩=some (.string ⟨#[]⟩)∧w0.frozen? ⟨w.heap.size+1,0,none⟩=false∧w0.frozen? ⟨w.heap.size+1,1,none⟩=false:=by rw[hw0];exact⟨((aC).trans rfl),((aC).trans rfl),(aX),(aX)⟩
 have KR:=hid (show ∀ W:World,Below w0.heap.size w0 W→(W.cell? ⟨w.heap.size+1,0,none⟩=some (.string ⟨#[]⟩)∧W.cell? ⟨w.heap.size+1,1,none⟩=some (.string ⟨#[]⟩)∧W.frozen? ⟨w.heap.size+1,0,none⟩=false∧W.frozen? ⟨w.heap.size+1,1,none⟩=false) from fun W hB=>by
  obtain⟨c0,c1,f0,f1⟩:=hR0
  exact⟨(hB.cell (p:=⟨w.heap.size+1,0,none⟩) (by show w.heap.size+1<_;omega)).trans c0,(hB.cell (p:=⟨w.heap.size+1,1,none⟩) (by show w.heap.size+1<_;omega)).trans c1,(hB.frozen (p:=⟨w.heap.size+1,0,none⟩) (by show w.heap.size+1<_;omega)).trans f0,(hB.frozen (p:=⟨w.heap.size+1,1,none⟩) (by show w.heap.size+1<_;omega)).trans f1⟩)
 clear hR0
 have KT0:=hid (show ∀ (W:World) (v u:Value),Below w0.heap.size w0 W→(((W.setCell ⟨w.heap.size+1,0,none⟩ v).setCell ⟨w.heap.size+1,1,none⟩ u).cell? ⟨w.heap.size,0,none⟩=some (.string l)∧((W.setCell ⟨w.heap.size+1,0,none⟩ v).setCell ⟨w.heap.size+1,1,none⟩ u).cell? ⟨w.heap.size,1,none⟩=some (.string h)) from fun W v u hB=>by
  have hh:=KS.o W hB;obtain⟨c0,c1⟩:=hh
  exact⟨(aQ (by omega)).trans ((aQ (by omega)).trans c0),(aQ (by omega)).trans ((aQ (by omega)).trans c1)⟩)
 have F0:=hid (Below.refl w0.heap.size w0);have HW0:=hid hw0;clear hz0 hB0 hS0 hw0;have HL:=hid (show ∀ W:World,Below w0.heap.size w0 W→La W from fun W hB=>hl.on (KB.o W hB));clear hl g1 g2 g3 g4 g5;go_enter func15,ntmps15
 go_wp2_with fail
 rw[← HW0.o];obtain⟨d0,d1⟩:=KS.o _ F0.o;go_wp2_with fail
 refine(C1.o _ (HL.o _ F0.o)).mono ?_;rintro e w1 ⟨rfl,hb⟩;have F1:=hid (ai F0.o hb);clear hb d0 d1;obtain⟨d0,d1⟩:=KS.o _ F1.o;go_wp2_with fail
 refine(C2.o _ (HL.o _ F1.o)).mono ?_;rintro e w2 ⟨rfl,hb⟩;have F2:=hid (ai F1.o hb);clear hb d0 d1;obtain⟨d0,d1⟩:=KS.o _ F2.o;go_wp2_with fail
 refine(C3.o _ (HL.o _ F2.o)).mono ?_;rintro e w3 ⟨rfl,hb⟩;have F3:=hid (ai F2.o hb);clear hb d0 d1;obtain⟨d0,d1⟩:=KS.o _ F3.o;go_wp2_with fail
 refine(C4.o _ (HL.o _ F3.o)).mono ?_;rintro e w4 ⟨rfl,hb⟩;have F4:=hid (ai F3.o hb);clear hb d0 d1;obtain⟨d0,d1⟩:=KS.o _ F4.o;go_wp2_with fail
 have FA:=hid (F4.o.alloc (F4.o.size) (.cells #[.string p,.string q] 22));refine(C5.o (w4.alloc (.cells #[.string p,.string q] 22)) w4.heap.size (HL.o _ FA.o) (by simp) ((aC rfl).trans rfl) ((aC rfl).trans rfl)).mono ?_;rintro e w5 ⟨rfl,hb⟩;have F5:=hid (ai FA.o hb);clear hb d0 d1;obtain⟨d0,d1⟩:=KS.o _ F5.o
 all_goals
  obtain⟨m0,m1,n0,n1⟩:=KR.o _ F5.o;have hz:=KZ.o _ F5.o;go_wp2;refine bodyPost_ret (v:=.tuple #[.agg #[.string lo,.string hi],.int .i64 0]) (by simp[results,results15,go_sem,m0,m1]) rfl ⟨rfl,?_⟩;repeat (first|exact KB.o _ F5.o|refine Below.setCell ?_ (by first|omega|(simp;omega)|simp) _|refine Below.alloc ?_ (by first|omega|(simp;omega)|simp) _|refine Below.drew ?_)
theorem mJ (l h p q lo hi:ByteArray)(w:World)(hl:La w)
 (g1:CL 27 #[.agg #[.string l,.string h]] (.bool true))
 (g2:CL 39 #[.string l,.string l] (.tuple #[.string p,.int .i64 0]))
 (g3:CL 39 #[.string h,.string h] (.tuple #[.string q,.int .i64 0]))
 (g4:CL 41 #[.agg #[.string l,.string h],.string ⟨#[48]⟩] (.bool true))
 (g5:∀ W g,La W→g<W.heap.size→W.cell? ⟨g,0,none⟩=some (.string ⟨#[48]⟩)→W.cell? ⟨g,1,none⟩=some (.string p)→W.cell? ⟨g,2,none⟩=some (.string q)→CR 45 #[.slice (some ⟨g,0,none⟩) 3 3] W (.agg #[.string lo,.string hi])) :
 CR 15 #[.agg #[.string l,.string h]] w (.tuple #[.agg #[.string lo,.string hi],.int .i64 0]):=by
 obtain ⟨C1,C2,C3,C4,C5⟩:=bI g1 g2 g3 g4 g5;obtain⟨w0,hw0⟩:∃ w0:World,w0=((w.alloc (.cells #[.string l,.string h] 24)).alloc (.cells #[.string ⟨#[]⟩,.string ⟨#[]⟩] 24)):=⟨_,rfl⟩;have hz0:w0.heap.size=w.heap.size+2:=by rw[hw0];simp
 have hB0:Below w.heap.size w w0:=by
  rw[hw0];repeat (first|exact Below.refl _ _|refine Below.setCell ?_ (by first|omega|(simp;omega)|simp) _|refine Below.alloc ?_ (by first|omega|(simp;omega)|simp) _|refine Below.drew ?_)
 have hS0:w0.cell? ⟨w.heap.size,0,none⟩=some (.string l)∧w0.cell? ⟨w.heap.size,1,none⟩=some (.string h):=by rw[hw0];exact⟨((q_lt).trans ((aC).trans rfl)),((q_lt).trans ((aC).trans rfl))⟩
 have KS:=hid (show ∀ W:World,Below w0.heap.size w0 W→(W.cell? ⟨w.heap.size,0,none⟩=some (.string l)∧W.cell? ⟨w.heap.size,1,none⟩=some (.string h)) from fun W hB=>by
  obtain⟨c0,c1⟩:=hS0
  exact⟨(hB.cell (p:=⟨w.heap.size,0,none⟩) (by show w.heap.size<_;omega)).trans c0,(hB.cell (p:=⟨w.heap.size,1,none⟩) (by show w.heap.size<_;omega)).trans c1⟩)
 have KZ:=hid (show ∀ W:World,Below w0.heap.size w0 W→w.heap.size+2≤W.heap.size from fun W hB=>by have:=hB.size;omega);have KB:=hid (show ∀ W:World,Below w0.heap.size w0 W→Below w.heap.size w W from fun W hB=>hB0.trans (hB.mono (by omega)));have hR0:w0.cell? ⟨w.heap.size+1,0,none⟩=some (.string ⟨#[]⟩)∧w0.cell? ⟨w.heap.size+1,1,none⟩=some (.string ⟨#[]⟩)∧w0.frozen? ⟨w.heap.size+1,0,none⟩=false∧w0.frozen? ⟨w.heap.size+1,1,none⟩=false:=by rw[hw0];exact⟨((aC).trans rfl),((aC).trans rfl),(aX),(aX)⟩
 have KR:=hid (show ∀ W:World,Below w0.heap.size w0 W→(W.cell? ⟨w.heap.size+1,0,none⟩=some (.string ⟨#[]⟩)∧W.cell? ⟨w.heap.size+1,1,none⟩=some (.string ⟨#[]⟩)∧W.frozen? ⟨w.heap.size+1,0,none⟩=false∧W.frozen? ⟨w.heap.size+1,1,none⟩=false) from fun W hB=>by
  obtain⟨c0,c1,f0,f1⟩:=hR0
  exact⟨(hB.cell (p:=⟨w.heap.size+1,0,none⟩) (by show w.heap.size+1<_;omega)).trans c0,(hB.cell (p:=⟨w.heap.size+1,1,none⟩) (by show w.heap.size+1<_;omega)).trans c1,(hB.frozen (p:=⟨w.heap.size+1,0,none⟩) (by show w.heap.size+1<_;omega)).trans f0,(hB.frozen (p:=⟨w.heap.size+1,1,none⟩) (by show w.heap.size+1<_;omega)).trans f1⟩)
 clear hR0
 have KT0:=hid (show ∀ (W:World) (v u:Value),Below w0.heap.size w0 W→(((W.setCell ⟨w.heap.size+1,0,none⟩ v).setCell ⟨w.heap.size+1,1,none⟩ u).cell? ⟨w.heap.size,0,none⟩=some (.string l)∧((W.setCell ⟨w.heap.size+1,0,none⟩ v).setCell ⟨w.heap.size+1,1,none⟩ u).cell? ⟨w.heap.size,1,none⟩=some (.string h)) from fun W v u hB=>by
  have hh:=KS.o W hB;obtain⟨c0,c1⟩:=hh
  exact⟨(aQ (by omega)).trans ((aQ (by omega)).trans c0),(aQ (by omega)).trans ((aQ (by omega)).trans c1)⟩)
 have F0:=hid (Below.refl w0.heap.size w0);have HW0:=hid hw0;clear hz0 hB0 hS0 hw0;have HL:=hid (show ∀ W:World,Below w0.heap.size w0 W→La W from fun W hB=>hl.on (KB.o W hB));clear hl g1 g2 g3 g4 g5;go_enter func15,ntmps15
 go_wp2_with fail
 rw[← HW0.o];obtain⟨d0,d1⟩:=KS.o _ F0.o;go_wp2_with fail
 refine(C1.o _ (HL.o _ F0.o)).mono ?_;rintro e w1 ⟨rfl,hb⟩;have F1:=hid (ai F0.o hb);clear hb d0 d1;obtain⟨d0,d1⟩:=KS.o _ F1.o;go_wp2_with fail
 refine(C2.o _ (HL.o _ F1.o)).mono ?_;rintro e w2 ⟨rfl,hb⟩;have F2:=hid (ai F1.o hb);clear hb d0 d1;obtain⟨d0,d1⟩:=KS.o _ F2.o;go_wp2_with fail
 refine(C3.o _ (HL.o _ F2.o)).mono ?_;rintro e w3 ⟨rfl,hb⟩;have F3:=hid (ai F2.o hb);clear hb d0 d1;obtain⟨d0,d1⟩:=KS.o _ F3.o;go_wp2_with fail
 refine(C4.o _ (HL.o _ F3.o)).mono ?_;rintro e w4 ⟨rfl,hb⟩;have F4:=hid (ai F3.o hb);clear hb d0 d1;obtain⟨d0,d1⟩:=KS.o _ F4.o;go_wp2_with fail
 have FA:=hid (F4.o.alloc (F4.o.size) (.cells #[.string ⟨#[48]⟩,.string p,.string q] 22));refine(C5.o (w4.alloc (.cells #[.string ⟨#[48]⟩,.string p,.string q] 22)) w4.heap.size (HL.o _ FA.o) (by simp) ((aC rfl).trans rfl) ((aC rfl).trans rfl) ((aC rfl).trans rfl)).mono ?_;rintro e w5 ⟨rfl,hb⟩;have F5:=hid (ai FA.o hb);clear hb d0 d1;obtain⟨d0,d1⟩:=KS.o _ F5.o
 all_goals
  obtain⟨m0,m1,n0,n1⟩:=KR.o _ F5.o;have hz:=KZ.o _ F5.o;go_wp2;refine bodyPost_ret (v:=.tuple #[.agg #[.string lo,.string hi],.int .i64 0]) (by simp[results,results15,go_sem,m0,m1]) rfl ⟨rfl,?_⟩;repeat (first|exact KB.o _ F5.o|refine Below.setCell ?_ (by first|omega|(simp;omega)|simp) _|refine Below.alloc ?_ (by first|omega|(simp;omega)|simp) _|refine Below.drew ?_)
theorem yF (x:ByteArray)(w:World)(hl:La w)
 (g1:CL 59 #[.string x] (.bool true)) :
 CR 26 #[.string x] w (.tuple #[.agg #[.string x,.string x],.int .i64 0]):=by
 have C1:=hid g1;obtain⟨w0,hw0⟩:∃ w0:World,w0=(w.alloc (.cells #[.string ⟨#[]⟩,.string ⟨#[]⟩] 24)):=⟨_,rfl⟩;have hz0:w0.heap.size=w.heap.size+1:=by rw[hw0];simp
 have hB0:Below w.heap.size w w0:=by
  rw[hw0];repeat (first|exact Below.refl _ _|refine Below.setCell ?_ (by first|omega|(simp;omega)|simp) _|refine Below.alloc ?_ (by first|omega|(simp;omega)|simp) _|refine Below.drew ?_)
 have hS0:w0.cell? ⟨w.heap.size,0,none⟩=some (.string ⟨#[]⟩)∧w0.cell? ⟨w.heap.size,1,none⟩=some (.string ⟨#[]⟩):=by rw[hw0];exact⟨((aC).trans rfl),((aC).trans rfl)⟩
 have KS:=hid (show ∀ W:World,Below w0.heap.size w0 W→(W.cell? ⟨w.heap.size,0,none⟩=some (.string ⟨#[]⟩)∧W.cell? ⟨w.heap.size,1,none⟩=some (.string ⟨#[]⟩)) from fun W hB=>by
  obtain⟨c0,c1⟩:=hS0
  exact⟨(hB.cell (p:=⟨w.heap.size,0,none⟩) (by show w.heap.size<_;omega)).trans c0,(hB.cell (p:=⟨w.heap.size,1,none⟩) (by show w.heap.size<_;omega)).trans c1⟩)
 have KZ:=hid (show ∀ W:World,Below w0.heap.size w0 W→w.heap.size+1≤W.heap.size from fun W hB=>by have:=hB.size;omega);have KB:=hid (show ∀ W:World,Below w0.heap.size w0 W→Below w.heap.size w W from fun W hB=>hB0.trans (hB.mono (by omega)));have hR0:w0.cell? ⟨w.heap.size,0,none⟩=some (.string ⟨#[]⟩)∧w0.cell? ⟨w.heap.size,1,none⟩=some (.string ⟨#[]⟩)∧w0.frozen? ⟨w.heap.size,0,none⟩=false∧w0.frozen? ⟨w.heap.size,1,none⟩=false:=by rw[hw0];exact⟨((aC).trans rfl),((aC).trans rfl),(aX),(aX)⟩
 have KR:=hid (show ∀ W:World,Below w0.heap.size w0 W→(W.cell? ⟨w.heap.size,0,none⟩=some (.string ⟨#[]⟩)∧W.cell? ⟨w.heap.size,1,none⟩=some (.string ⟨#[]⟩)∧W.frozen? ⟨w.heap.size,0,none⟩=false∧W.frozen? ⟨w.heap.size,1,none⟩=false) from fun W hB=>by
  obtain⟨c0,c1,f0,f1⟩:=hR0
  exact⟨(hB.cell (p:=⟨w.heap.size,0,none⟩) (by show w.heap.size<_;omega)).trans c0,(hB.cell (p:=⟨w.heap.size,1,none⟩) (by show w.heap.size<_;omega)).trans c1,(hB.frozen (p:=⟨w.heap.size,0,none⟩) (by show w.heap.size<_;omega)).trans f0,(hB.frozen (p:=⟨w.heap.size,1,none⟩) (by show w.heap.size<_;omega)).trans f1⟩)
 clear hR0;have F0:=hid (Below.refl w0.heap.size w0);have HW0:=hid hw0;clear hz0 hB0 hS0 hw0;have HL:=hid (show ∀ W:World,Below w0.heap.size w0 W→La W from fun W hB=>hl.on (KB.o W hB));clear hl g1;go_enter func26,ntmps26
 go_wp2_with fail
 rw[← HW0.o];obtain⟨d0,d1⟩:=KS.o _ F0.o;go_wp2_with fail
 refine(C1.o _ (HL.o _ F0.o)).mono ?_;rintro e w1 ⟨rfl,hb⟩;have F1:=hid (ai F0.o hb);clear hb d0 d1;obtain⟨d0,d1⟩:=KS.o _ F1.o
 all_goals
  obtain⟨m0,m1,n0,n1⟩:=KR.o _ F1.o;have hz:=KZ.o _ F1.o;go_wp2;refine bodyPost_ret (v:=.tuple #[.agg #[.string x,.string x],.int .i64 0]) (by simp[results,results26,go_sem,m0,m1]) rfl ⟨rfl,?_⟩;repeat (first|exact KB.o _ F1.o|refine Below.setCell ?_ (by first|omega|(simp;omega)|simp) _|refine Below.alloc ?_ (by first|omega|(simp;omega)|simp) _|refine Below.drew ?_)
open Go.Lib (hid)
theorem nM (x pt t f r:ByteArray)(u:World)(hl:La u)
 (h1:CL 39 #[.string x,.string pt] (.tuple #[.string t,.int .i64 0]))
 (h2:CL 80 #[.string t] (.tuple #[.string f,.int .i64 0]))
 (h3:CL 81 #[.string f,.string pt] (.tuple #[.string r,.int .i64 0])) :
 CR 56 #[.string x,.string pt] u (.string r):=by
 obtain ⟨C1,C2,C3⟩:=ak h1 h2 h3;have HL:=hid (show ∀ W:World,Below u.heap.size u W→La W from fun W hB=>hl.on hB);have F0:=hid (Below.refl u.heap.size u);clear hl h1 h2 h3;go_enter func56,ntmps56
 go_wp2_with fail
 refine(C1.o _ (HL.o _ F0.o)).mono ?_;rintro e w1 ⟨rfl,hb⟩;have F1:=hid (ai F0.o hb);clear hb;go_wp2_with fail
 refine(C2.o _ (HL.o _ F1.o)).mono ?_;rintro e w2 ⟨rfl,hb⟩;have F2:=hid (ai F1.o hb);clear hb;go_wp2_with fail
 refine(C3.o _ (HL.o _ F2.o)).mono ?_;rintro e w3 ⟨rfl,hb⟩;have F3:=hid (ai F2.o hb);clear hb;go_wp2;go_ret
 exact⟨rfl,F3.o⟩
theorem z2f (x r:ByteArray)(u:World)(hl:La u)
 (h1:CL 36 #[.string ⟨#[48]⟩,.string x] (.tuple #[.string r,.int .i64 0])) :
 CR 57 #[.string x] u (.string r):=by
 have C1:=hid h1;have HL:=hid (show ∀ W:World,Below u.heap.size u W→La W from fun W hB=>hl.on hB);have F0:=hid (Below.refl u.heap.size u);clear hl h1;go_enter func57,ntmps57
 go_wp2_with fail
 refine(C1.o _ (HL.o _ F0.o)).mono ?_;rintro e w1 ⟨rfl,hb⟩;have F1:=hid (ai F0.o hb);clear hb;go_wp2;go_ret
 exact⟨rfl,F1.o⟩
theorem yE (l h pt p q r s:ByteArray)(n:Int)(hn1:decide (n<1)=false)(hn2:decide (1000000000<n)=false)(w:World)(hl:La w)
 (g1:CL 27 #[.agg #[.string l,.string h]] (.bool true))
 (g2:CL 55 #[.int .i64 n] (.string pt))
 (g3:CL 56 #[.string l,.string pt] (.string p))
 (g4:CL 57 #[.string h] (.string q))
 (g5:CL 56 #[.string q,.string pt] (.string r))
 (g6:CL 57 #[.string r] (.string s)) :
 CR 22 #[.agg #[.string l,.string h],.int .i64 n] w (.tuple #[.agg #[.string p,.string s],.int .i64 0]):=by
 obtain ⟨C1,C2,C3,C4,C5,C6⟩:=cK g1 g2 g3 g4 g5 g6;obtain⟨w0,hw0⟩:∃ w0:World,w0=((w.alloc (.cells #[.string l,.string h] 24)).alloc (.cells #[.string ⟨#[]⟩,.string ⟨#[]⟩] 24)):=⟨_,rfl⟩;have hz0:w0.heap.size=w.heap.size+2:=by rw[hw0];simp
 have hB0:Below w.heap.size w w0:=by
  rw[hw0];repeat (first|exact Below.refl _ _|refine Below.setCell ?_ (by first|omega|(simp;omega)|simp) _|refine Below.alloc ?_ (by first|omega|(simp;omega)|simp) _|refine Below.drew ?_)
 have hS0:w0.cell? ⟨w.heap.size,0,none⟩=some (.string l)∧w0.cell? ⟨w.heap.size,1,none⟩=some (.string h):=by rw[hw0];exact⟨((q_lt).trans ((aC).trans rfl)),((q_lt).trans ((aC).trans rfl))⟩
 have KS:=hid (show ∀ W:World,Below w0.heap.size w0 W→(W.cell? ⟨w.heap.size,0,none⟩=some (.string l)∧W.cell? ⟨w.heap.size,1,none⟩=some (.string h)) from fun W hB=>by
  obtain⟨c0,c1⟩:=hS0
  exact⟨(hB.cell (p:=⟨w.heap.size,0,none⟩) (by show w.heap.size<_;omega)).trans c0,(hB.cell (p:=⟨w.heap.size,1,none⟩) (by show w.heap.size<_;omega)).trans c1⟩)
 have KZ:=hid (show ∀ W:World,Below w0.heap.size w0 W→w.heap.size+2≤W.heap.size from fun W hB=>by have:=hB.size;omega);have KB:=hid (show ∀ W:World,Below w0.heap.size w0 W→Below w.heap.size w W from fun W hB=>hB0.trans (hB.mono (by omega)));have hR0:w0.cell? ⟨w.heap.size+1,0,none⟩=some (.string ⟨#[]⟩)∧w0.cell? ⟨w.heap.size+1,1,none⟩=some (.string ⟨#[]⟩)∧w0.frozen? ⟨w.heap.size+1,0,none⟩=false∧w0.frozen? ⟨w.heap.size+1,1,none⟩=false:=by rw[hw0];exact⟨((aC).trans rfl),((aC).trans rfl),(aX),(aX)⟩
 have KR:=hid (show ∀ W:World,Below w0.heap.size w0 W→(W.cell? ⟨w.heap.size+1,0,none⟩=some (.string ⟨#[]⟩)∧W.cell? ⟨w.heap.size+1,1,none⟩=some (.string ⟨#[]⟩)∧W.frozen? ⟨w.heap.size+1,0,none⟩=false∧W.frozen? ⟨w.heap.size+1,1,none⟩=false) from fun W hB=>by
  obtain⟨c0,c1,f0,f1⟩:=hR0
  exact⟨(hB.cell (p:=⟨w.heap.size+1,0,none⟩) (by show w.heap.size+1<_;omega)).trans c0,(hB.cell (p:=⟨w.heap.size+1,1,none⟩) (by show w.heap.size+1<_;omega)).trans c1,(hB.frozen (p:=⟨w.heap.size+1,0,none⟩) (by show w.heap.size+1<_;omega)).trans f0,(hB.frozen (p:=⟨w.heap.size+1,1,none⟩) (by show w.heap.size+1<_;omega)).trans f1⟩)
 clear hR0
 have KT0:=hid (show ∀ (W:World) (v u:Value),Below w0.heap.size w0 W→(((W.setCell ⟨w.heap.size+1,0,none⟩ v).setCell ⟨w.heap.size+1,1,none⟩ u).cell? ⟨w.heap.size,0,none⟩=some (.string l)∧((W.setCell ⟨w.heap.size+1,0,none⟩ v).setCell ⟨w.heap.size+1,1,none⟩ u).cell? ⟨w.heap.size,1,none⟩=some (.string h)) from fun W v u hB=>by
  have hh:=KS.o W hB;obtain⟨c0,c1⟩:=hh
  exact⟨(aQ (by omega)).trans ((aQ (by omega)).trans c0),(aQ (by omega)).trans ((aQ (by omega)).trans c1)⟩)
 have F0:=hid (Below.refl w0.heap.size w0);have HW0:=hid hw0;clear hz0 hB0 hS0 hw0;have HL:=hid (show ∀ W:World,Below w0.heap.size w0 W→La W from fun W hB=>hl.on (KB.o W hB));clear hl g1 g2 g3 g4 g5 g6;go_enter func22,ntmps22
 go_wp2_with fail
 rw[← HW0.o];obtain⟨d0,d1⟩:=KS.o _ F0.o;go_wp2_with fail
 refine(C1.o _ (HL.o _ F0.o)).mono ?_;rintro e w1 ⟨rfl,hb⟩;have F1:=hid (ai F0.o hb);clear hb d0 d1;obtain⟨d0,d1⟩:=KS.o _ F1.o;go_wp2_with fail
 refine(C2.o _ (HL.o _ F1.o)).mono ?_;rintro e w2 ⟨rfl,hb⟩;have F2:=hid (ai F1.o hb);clear hb d0 d1;obtain⟨d0,d1⟩:=KS.o _ F2.o;go_wp2_with fail
 go_region_held3 (fun w'=>w'.cell? ⟨w.heap.size,0,none⟩=some (.string l)∧w'.cell? ⟨w.heap.size,1,none⟩=some (.string h)) (first|(with_reducible exact KS.o _ F6.o)|(with_reducible exact KS.o _ F6.o.drew)|(with_reducible exact KS.o _ F5.o)|(with_reducible exact KS.o _ F5.o.drew)|(with_reducible exact KS.o _ F4.o)|(with_reducible exact KS.o _ F4.o.drew)|(with_reducible exact KS.o _ F3.o)|(with_reducible exact KS.o _ F3.o.drew)|(with_reducible exact KS.o _ F2.o)|(with_reducible exact KS.o _ F2.o.drew)|(with_reducible exact KT0.o _ _ _ F6.o)|(with_reducible exact KT0.o _ _ _ F6.o.drew))
  (first
   | (go_at_call 56;(with_reducible refine(C3.o _ ?la2).mono ?_);(case la2=>first|exact HL.o _ F2.o|exact HL.o _ F2.o.drew);rintro e w3 ⟨rfl,hb⟩;have F3:=hid (show Below w0.heap.size w0 w3 by first|exact ai F2.o hb|exact ai F2.o.drew hb);clear hb)
   | (go_at_call 57;(with_reducible refine(C4.o _ ?la3).mono ?_);(case la3=>first|exact HL.o _ F3.o|exact HL.o _ F3.o.drew);rintro e w4 ⟨rfl,hb⟩;have F4:=hid (show Below w0.heap.size w0 w4 by first|exact ai F3.o hb|exact ai F3.o.drew hb);clear hb)
   | (go_at_call 56;(with_reducible refine(C5.o _ ?la4).mono ?_);(case la4=>first|exact HL.o _ F4.o|exact HL.o _ F4.o.drew);rintro e w5 ⟨rfl,hb⟩;have F5:=hid (show Below w0.heap.size w0 w5 by first|exact ai F4.o hb|exact ai F4.o.drew hb);clear hb)
   | (go_at_call 57;(with_reducible refine(C6.o _ ?la5).mono ?_);(case la5=>first|exact HL.o _ F5.o|exact HL.o _ F5.o.drew);rintro e w6 ⟨rfl,hb⟩;have F6:=hid (show Below w0.heap.size w0 w6 by first|exact ai F5.o hb|exact ai F5.o.drew hb);clear hb;have hz:=KZ.o _ F6.o;obtain⟨m0,m1,n0,n1⟩:=KR.o _ F6.o)
   | fail)
 all_goals
  have hz:=KZ.o _ F6.o;go_wp2;refine bodyPost_ret (v:=.tuple #[.agg #[.string p,.string s],.int .i64 0]) (by simp[results,results22,go_sem,m0,m1]) rfl ⟨rfl,?_⟩;repeat (first|exact KB.o _ F6.o|refine Below.setCell ?_ (by first|omega|(simp;omega)|simp) _|refine Below.alloc ?_ (by first|omega|(simp;omega)|simp) _|refine Below.drew ?_)
def Vq (x y:Rat):Value:=.agg #[.string (Sq x),.string (Sq y)]
theorem ut {x y:Rat}(h:x≤y):cmpQ x y≤0:=by
 rcases eT x y with⟨h,e⟩|⟨h,e⟩|⟨h,e⟩<;>rw[e]<;>grind
theorem bS (x y:Rat)(h:x≤y)(hx:aR x)(hy:aR y)(w:World)(hl:La w) :
 CR 27 #[Vq x y] w (.bool true) :=
 oH _ _ _ (ut h) w hl (fun W hW=>qN x y _ rfl hx hy W hW)
theorem z0n (x y:Rat)(h:y<x)(hx:aR x)(hy:aR y)(w:World)(hl:La w) :
 CR 27 #[Vq x y] w (.bool false) :=
 qW _ _ w hl (fun W hW=>qN x y 1 (lZ h) hx hy W hW)
theorem sQ (a:ByteArray)(ha:a.size≤900)(w:World)(hl:La w) :
 Calls Tryz.prog 84 #[.string a] w fun e w'=>(∃ s b:ByteArray,e=.returned (.tuple #[.agg #[.string s,.string b],.bool (vldQ a.data.toList)]))∧Below w.heap.size w w':=by
 cases h:vldQ a.data.toList with
 | false=>exact z2A a h ha w hl
 | true =>
   have e:=z3N h;rw[e];have hq:(Sq (qval a.data.toList)).size≤900:=by rw[← e];exact ha
   exact(jF (qval a.data.toList) (zF hq (by decide)) w hl).mono (fun _ _ ⟨h1,h2⟩=>⟨⟨_,_,h1⟩,h2⟩)
theorem lM (l h:ByteArray)(hv:(vldQ l.data.toList&&vldQ h.data.toList)=false)(hl1:l.size≤900)(hh:h.size≤900)(w:World)(hl:La w) :
 CR 27 #[.agg #[.string l,.string h]] w (.bool false):=by
 refine qV l h w hl (fun W hW=>yM l h W ?_);have h2:=rf l h _ _ W hW (fun V hV=>sQ l hl1 V hV) (fun V hV=>sQ h hh V hV);rwa [hv]at h2
theorem qX (x y z:Rat)(r:Bool)(hr:decide (x≤z∧z≤y)=r)(hx:aR x)(hy:aR y)(hz:aR z)(w:World)(hl:La w) :
 CR 41 #[Vq x y,.string (Sq z)] w (.bool r):=by
 subst hr;by_cases h1:x≤z
 · by_cases h2:z≤y
   · rw[show decide (x≤z∧z≤y)=true by rw[decide_eq_true_iff];exact⟨h1,h2⟩]
     exact tN _ _ _ _ _ (ut h1) (ut h2) w hl (fun W hW=>iY x z _ rfl hx hz W hW) (fun W hW=>iY z y _ rfl hz hy W hW)
   · rw[show decide (x≤z∧z≤y)=false by rw[decide_eq_false_iff_not];exact fun h=>h2 h.2]
     exact tO _ _ _ _ (ut h1) w hl (fun W hW=>iY x z _ rfl hx hz W hW) (fun W hW=>iY z y 1 (lZ (by grind)) hz hy W hW)
 · rw[show decide (x≤z∧z≤y)=false by rw[decide_eq_false_iff_not];exact fun h=>h1 h.1]
   exact tQ _ _ _ w hl (fun W hW=>iY x z 1 (lZ (by grind)) hx hz W hW)
theorem iHas (x y z:Rat)(r:Bool)(hr:decide (x≤z∧z≤y)=r)(h:x≤y)(hx:aR x)(hy:aR y)(hz:aR z)(w:World)(hl:La w) :
 CR 28 #[Vq x y,.string (Sq z)] w (.bool r) :=
 z2m _ _ _ r w hl (fun W hW=>bS x y h hx hy W hW) (fun W hW=>pG z hz W hW) (fun W hW=>qX x y z r hr hx hy hz W hW)
theorem iAdd (a b c d s t:Rat)(hs:a+c=s)(ht:b+d=t)(h1:a≤b)(h2:c≤d)(ha:aR a)(hb:aR b)(hc:aR c)(hd:aR d)(w:World)(hl:La w) :
 CR 7 #[Vq a b,Vq c d] w (.tuple #[Vq s t,.int .i64 0]) :=
 z2p _ _ _ _ _ _ w hl (fun W hW=>bS a b h1 ha hb W hW) (fun W hW=>bS c d h2 hc hd W hW) (fun W hW=>qAdd a c s hs ha hc W hW) (fun W hW=>qAdd b d t ht hb hd W hW)
theorem iSub (a b c d s t:Rat)(hs:a-d=s)(ht:b-c=t)(h1:a≤b)(h2:c≤d)(ha:aR a)(hb:aR b)(hc:aR c)(hd:aR d)(w:World)(hl:La w) :
 CR 9 #[Vq a b,Vq c d] w (.tuple #[Vq s t,.int .i64 0]) :=
 z2g _ _ _ _ _ _ w hl (fun W hW=>bS a b h1 ha hb W hW) (fun W hW=>bS c d h2 hc hd W hW) (fun W hW=>qSub a d s hs ha hd W hW) (fun W hW=>qSub b c t ht hb hc W hW)
def row4 (p0 p1 p2 p3:Rat):Nat→Rat
 | 0=>p0
 | 1=>p1
 | 2=>p2
 | _=>p3
theorem ext4 (p0 p1 p2 p3:Rat)(f0:aR p0)(f1:aR p1)(f2:aR p2)(f3:aR p3)(W:World)(g:Nat)(hW:La W)(hg:g<W.heap.size)
 (c0:W.cell? ⟨g,0,none⟩=some (.string (Sq p0))) (c1:W.cell? ⟨g,1,none⟩=some (.string (Sq p1))) (c2:W.cell? ⟨g,2,none⟩=some (.string (Sq p2))) (c3:W.cell? ⟨g,3,none⟩=some (.string (Sq p3))) :
 CR 45 #[.slice (some ⟨g,0,none⟩) 4 4] W (.agg #[.string (Sq (exOf (row4 p0 p1 p2 p3) 3).1),.string (Sq (exOf (row4 p0 p1 p2 p3) 3).2)]) :=
 gu g 4 4 (row4 p0 p1 p2 p3) (by decide) (by decide) (by decide) W hW hg
  (fun i hi=>match i,hi with
   | 0,_=>f0
   | 1,_=>f1
   | 2,_=>f2
   | 3,_=>f3)
  (fun i hi=>match i,hi with
   | 0,_=>c0
   | 1,_=>c1
   | 2,_=>c2
   | 3,_=>c3)
theorem iMul (a b c d p0 p1 p2 p3:Rat)(e0:a*c=p0)(e1:a*d=p1)(e2:b*c=p2)(e3:b*d=p3)(h1:a≤b)(h2:c≤d)(ha:aR a)(hb:aR b)(hc:aR c)(hd:aR d)(f0:aR p0)(f1:aR p1)(f2:aR p2)(f3:aR p3)(w:World)(hl:La w) :
 CR 11 #[Vq a b,Vq c d] w (.tuple #[Vq (exOf (row4 p0 p1 p2 p3) 3).1 (exOf (row4 p0 p1 p2 p3) 3).2,.int .i64 0]) :=
 z2j _ _ _ _ _ _ w hl (fun W hW=>bS a b h1 ha hb W hW) (fun W hW=>bS c d h2 hc hd W hW)
  (fun W hW=>oK _ _ _ _ _ _ _ _ _ _ W hW (fun V hV=>qMul a c p0 e0 ha hc V hV) (fun V hV=>qMul a d p1 e1 ha hd V hV) (fun V hV=>qMul b c p2 e2 hb hc V hV) (fun V hV=>qMul b d p3 e3 hb hd V hV) (fun V g hV=>ext4 p0 p1 p2 p3 f0 f1 f2 f3 V g hV))
theorem iDiv (a b c d p0 p1 p2 p3:Rat)(e0:a / c=p0)(e1:a / d=p1)(e2:b / c=p2)(e3:b / d=p3)(h1:a≤b)(h2:c≤d)(hz:decide (c≤0∧0≤d)=false)(ha:aR a)(hb:aR b)(hc:aR c)(hd:aR d)(f0:aR p0)(f1:aR p1)(f2:aR p2)(f3:aR p3)(w:World)(hl:La w) :
 CR 13 #[Vq a b,Vq c d] w (.tuple #[Vq (exOf (row4 p0 p1 p2 p3) 3).1 (exOf (row4 p0 p1 p2 p3) 3).2,.int .i64 0]):=by
 have hz2:=of_decide_eq_false hz;have hc0:c≠0:=by rintro rfl;exact hz2 ⟨by grind,h2⟩
 have hd0:d≠0:=by rintro rfl;exact hz2 ⟨h2,by grind⟩
 have h3:=fun W hW=>qX c d 0 false hz hc hd (aH (by decide +kernel) (by decide +kernel)) W hW;rw[q_0]at h3
 exact z2o _ _ _ _ _ _ w hl (fun W hW=>bS a b h1 ha hb W hW) (fun W hW=>bS c d h2 hc hd W hW) h3
  (fun W hW=>oL _ _ _ _ _ _ _ _ _ _ W hW (fun V hV=>qDiv a c p0 e0 ha hc hc0 V hV) (fun V hV=>qDiv a d p1 e1 ha hd hd0 V hV) (fun V hV=>qDiv b c p2 e2 hb hc hc0 V hV) (fun V hV=>qDiv b d p3 e3 hb hd hd0 V hV) (fun V g hV=>ext4 p0 p1 p2 p3 f0 f1 f2 f3 V g hV))
theorem z5c (x:Rat)(hx:aR x)(w:World)(hl:La w) :
 CR 26 #[.string (Sq x)] w (.tuple #[Vq x x,.int .i64 0]) :=
 yF _ w hl (fun W hW=>pG x hx W hW)
def row2 (p0 p1:Rat):Nat→Rat
 | 0=>p0
 | _=>p1
def row3 (p0 p1 p2:Rat):Nat→Rat
 | 0=>p0
 | 1=>p1
 | _=>p2
theorem ext2 (p0 p1:Rat)(f0:aR p0)(f1:aR p1)(W:World)(g:Nat)(hW:La W)(hg:g<W.heap.size)
 (c0:W.cell? ⟨g,0,none⟩=some (.string (Sq p0))) (c1:W.cell? ⟨g,1,none⟩=some (.string (Sq p1))) :
 CR 45 #[.slice (some ⟨g,0,none⟩) 2 2] W (.agg #[.string (Sq (exOf (row2 p0 p1) 1).1),.string (Sq (exOf (row2 p0 p1) 1).2)]) :=
 gu g 2 2 (row2 p0 p1) (by decide) (by decide) (by decide) W hW hg
  (fun i hi=>match i,hi with
   | 0,_=>f0
   | 1,_=>f1)
  (fun i hi=>match i,hi with
   | 0,_=>c0
   | 1,_=>c1)
theorem ext3 (p0 p1 p2:Rat)(f0:aR p0)(f1:aR p1)(f2:aR p2)(W:World)(g:Nat)(hW:La W)(hg:g<W.heap.size)
 (c0:W.cell? ⟨g,0,none⟩=some (.string (Sq p0))) (c1:W.cell? ⟨g,1,none⟩=some (.string (Sq p1))) (c2:W.cell? ⟨g,2,none⟩=some (.string (Sq p2))) :
 CR 45 #[.slice (some ⟨g,0,none⟩) 3 3] W (.agg #[.string (Sq (exOf (row3 p0 p1 p2) 2).1),.string (Sq (exOf (row3 p0 p1 p2) 2).2)]) :=
 gu g 3 3 (row3 p0 p1 p2) (by decide) (by decide) (by decide) W hW hg
  (fun i hi=>match i,hi with
   | 0,_=>f0
   | 1,_=>f1
   | 2,_=>f2)
  (fun i hi=>match i,hi with
   | 0,_=>c0
   | 1,_=>c1
   | 2,_=>c2)
theorem fq00:aR 0:=aH (by decide +kernel) (by decide +kernel)
def sqI (a b:Rat):Rat × Rat:=if a≤0∧0≤b then exOf (row3 0 (a*a) (b*b)) 2 else exOf (row2 (a*a) (b*b)) 1
theorem z4f (a b p q:Rat)(e0:a*a=p)(e1:b*b=q)(h:a≤b)(ha:aR a)(hb:aR b)(f0:aR p)(f1:aR q)(w:World)(hl:La w) :
 CR 15 #[Vq a b] w (.tuple #[Vq (sqI a b).1 (sqI a b).2,.int .i64 0]):=by
 unfold sqI
 by_cases hz:a≤0∧0≤b
 · rw[if_pos hz,e0,e1]
   have h3:=fun W hW=>qX a b 0 true (by rw[decide_eq_true_iff];exact hz) ha hb fq00 W hW;rw[q_0]at h3;refine mJ _ _ _ _ _ _ w hl (fun W hW=>bS a b h ha hb W hW) (fun W hW=>qMul a a p e0 ha ha W hW) (fun W hW=>qMul b b q e1 hb hb W hW) h3 (fun W g hW hg c0 c1 c2=>?_);rw[← q_0]at c0;exact ext3 0 p q fq00 f0 f1 W g hW hg c0 c1 c2
 · rw[if_neg hz,e0,e1]
   have h3:=fun W hW=>qX a b 0 false (by rw[decide_eq_false_iff_not];exact hz) ha hb fq00 W hW;rw[q_0]at h3;exact vo _ _ _ _ _ _ w hl (fun W hW=>bS a b h ha hb W hW) (fun W hW=>qMul a a p e0 ha ha W hW) (fun W hW=>qMul b b q e1 hb hb W hW) h3 (fun W g hW=>ext2 p q f0 f1 W g hW)
def rdQ (x:Rat) (n:Int):Rat:=Rat.divInt ((x*Rat.ofInt n).num / ((x*Rat.ofInt n).den:Int)) n
theorem sJ {k:Nat}{z:Int}(h:Sm k z.natAbs)(hk:1≤k):SmQ k (Rat.ofInt z):=⟨h,(show Sm 1 1 by simp[Sm]).mono hk⟩
theorem qD {k:Nat}{x:Rat}(h:SmQ k x)(hk:1≤k):Sm (k+1) (x.num / (x.den:Int)).natAbs:=by
 refine Sm.le (n:=x.num.natAbs+1) (Sm.add h.1 ((show Sm 1 1 by simp[Sm]).mono hk)) ?_;have:=Int.natAbs_ediv_le_natAbs x.num (x.den:Int);omega
theorem z1B {k:Nat}{x:Rat}{n:Int}(hx:SmQ k x)(hn:Sm 10 n.natAbs)(hn0:n≠0):SmQ (k+10+1) (rdQ x n):=by
 unfold rdQ
 exact pz hn0 (qD (hx.mul (sJ hn (by decide))) (by omega)) (hn.mono (by omega))
theorem pR {k:Nat}(x:Rat)(n:Int)(hk:k≤800)(hx:SmQ k x)(hn:Sm 10 n.natAbs)(hn0:n≠0)(w:World)(hl:La w) :
 CR 56 #[.string (Sq x),.string (Sz n)] w (.string (Sq (rdQ x n))):=by
 have hm:SmQ (k+10) (x*Rat.ofInt n):=hx.mul (sJ hn (by decide));have h1:=fun W hW=>qMul x (Rat.ofInt n) _ rfl (hx.fit (by omega)) ((sJ hn (by decide)).fit (by decide)) W hW;rw[wQ]at h1
 exact nM _ _ _ _ _ w hl h1 (fun W hW=>z4T _ (hm.fit (by omega)) W hW)
  (fun W hW=>z5E _ n hn0 (FitL.of (qD hm (by omega)) (by omega)) (FitL.of hn (by decide)) W hW)
theorem iNeg (x y:Rat)(h:0-x=y)(hx:aR x)(w:World)(hl:La w) :
 CR 57 #[.string (Sq x)] w (.string (Sq y)):=by
 have h1:=fun W hW=>qSub 0 x y h fq00 hx W hW;rw[q_0]at h1;exact z2f _ _ w hl h1
theorem z5L (n:Int)(h0 : -9223372036854775808≤n)(h1:n≤9223372036854775807)(w:World)(hl:La w) :
 CR 55 #[.int .i64 n] w (.string (Sz n)):=by
 have h:=Tryz.strconv_Itoa n h0 h1 w hl.tb;rw[z0k]at h;exact h.mono (fun e w' ⟨e1,k,os,e2⟩=>⟨e1,e2▸Lib.below_grow w.heap.size w (Nat.le_refl _) k os⟩)
theorem z3u {k:Nat}(a b:Rat)(n:Int)(hk:k≤400)(h:a≤b)(ha:SmQ k a)(hb:SmQ k b)(hn1:1≤n)(hn2:n≤1000000000)(w:World)(hl:La w) :
 CR 22 #[Vq a b,.int .i64 n] w (.tuple #[Vq (rdQ a n) (0-rdQ (0-b) n),.int .i64 0]):=by
 have hn:Sm 10 n.natAbs:=by
  have:n.natAbs<10^10:=by omega
  exact this
 have hq:SmQ (k+2) (0-b):=((show SmQ 1 0 from⟨by unfold Sm;decide +kernel,by unfold Sm;decide +kernel⟩).sub hb).mono (by omega);have hr:=z1B (n:=n) hq hn (by omega)
 exact yE _ _ _ _ _ _ _ n (by rw[decide_eq_false_iff_not];omega) (by rw[decide_eq_false_iff_not];omega) w hl (fun W hW=>bS a b h (ha.fit (by omega)) (hb.fit (by omega)) W hW)
  (fun W hW=>z5L n (by omega) (by omega) W hW) (fun W hW=>pR a n (by omega) ha hn (by omega) W hW) (fun W hW=>iNeg b _ rfl (hb.fit (by omega)) W hW)
  (fun W hW=>pR _ n (by omega) hq hn (by omega) W hW) (fun W hW=>iNeg _ _ rfl (hr.fit (by omega)) W hW)
