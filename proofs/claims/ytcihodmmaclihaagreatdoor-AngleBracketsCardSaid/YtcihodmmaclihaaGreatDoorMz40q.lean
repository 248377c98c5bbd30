/- Texts of this proof, one behind the other. -/
import Derived.Test.YtcihodmmaclihaaGreatDoorMz39q
set_option maxRecDepth 100000
set_option maxHeartbeats 20000000
open Go.Lib (hid)
namespace Go.Proofs.YtcihodmmaclihaaGreatDoor
open Go.RowKit Go.Gb
theorem iMul_raw (l1 h1 l2 h2 lo hi:ByteArray)(w:World)(hl:La w)
 (g1:CL 17 #[.agg #[.string l1,.string h1]] (.bool true))
 (g2:CL 17 #[.agg #[.string l2,.string h2]] (.bool true))
 (g3:CL 61 #[.agg #[.string l1,.string h1],.agg #[.string l2,.string h2],.func (.func 54) #[] #[]] (.agg #[.string lo,.string hi])) :
 CR 59 #[.agg #[.string l1,.string h1],.agg #[.string l2,.string h2]] w (.tuple #[.agg #[.string lo,.string hi],.int .i64 0]):=by
 have C1:=hid g1
 have C2:=hid g2
 have C3:=hid g3
 obtain⟨w0,hw0⟩:∃ w0:World,w0=(((w.alloc (.cells #[.string l1,.string h1] 26)).alloc (.cells #[.string l2,.string h2] 26)).alloc (.cells #[.string ⟨#[]⟩,.string ⟨#[]⟩] 26)):=⟨_,rfl⟩
 have hz0:w0.heap.size=w.heap.size+3:=by rw[hw0];simp
 have hB0:Below w.heap.size w w0:=by
  rw[hw0]
  repeat (first|exact Below.refl _ _|refine Below.setCell ?_ (by first|omega|(simp;omega)|simp) _|refine Below.alloc ?_ (by first|omega|(simp;omega)|simp) _|refine Below.drew ?_)
 have hS0:w0.cell? ⟨w.heap.size,0,none⟩=some (.string l1)∧w0.cell? ⟨w.heap.size,1,none⟩=some (.string h1)∧w0.cell? ⟨w.heap.size+1,0,none⟩=some (.string l2)∧w0.cell? ⟨w.heap.size+1,1,none⟩=some (.string h2):=by rw[hw0];exact⟨((q_lt).trans ((q_lt).trans ((q_new).trans rfl))),((q_lt).trans ((q_lt).trans ((q_new).trans rfl))),((q_lt).trans ((q_new).trans rfl)),((q_lt).trans ((q_new).trans rfl))⟩
 have KS:=hid (show ∀ W:World,Below w0.heap.size w0 W→(W.cell? ⟨w.heap.size,0,none⟩=some (.string l1)∧W.cell? ⟨w.heap.size,1,none⟩=some (.string h1)∧W.cell? ⟨w.heap.size+1,0,none⟩=some (.string l2)∧W.cell? ⟨w.heap.size+1,1,none⟩=some (.string h2)) from fun W hB=>by
  obtain⟨c0,c1,c2,c3⟩:=hS0
  exact⟨(hB.cell (p:=⟨w.heap.size,0,none⟩) (by show w.heap.size<_;omega)).trans c0,(hB.cell (p:=⟨w.heap.size,1,none⟩) (by show w.heap.size<_;omega)).trans c1,(hB.cell (p:=⟨w.heap.size+1,0,none⟩) (by show w.heap.size+1<_;omega)).trans c2,(hB.cell (p:=⟨w.heap.size+1,1,none⟩) (by show w.heap.size+1<_;omega)).trans c3⟩)
 have KZ:=hid (show ∀ W:World,Below w0.heap.size w0 W→w.heap.size+3≤W.heap.size from fun W hB=>by have:=hB.size;omega)
 have KB:=hid (show ∀ W:World,Below w0.heap.size w0 W→Below w.heap.size w W from fun W hB=>hB0.trans (hB.mono (by omega)))
 have hR0:w0.cell? ⟨w.heap.size+1+1,0,none⟩=some (.string ⟨#[]⟩)∧w0.cell? ⟨w.heap.size+1+1,1,none⟩=some (.string ⟨#[]⟩)∧w0.frozen? ⟨w.heap.size+1+1,0,none⟩=false∧w0.frozen? ⟨w.heap.size+1+1,1,none⟩=false:=by rw[hw0];exact⟨((q_new).trans rfl),((q_new).trans rfl),(fq_new),(fq_new)⟩
 have KR:=hid (show ∀ W:World,Below w0.heap.size w0 W→(W.cell? ⟨w.heap.size+1+1,0,none⟩=some (.string ⟨#[]⟩)∧W.cell? ⟨w.heap.size+1+1,1,none⟩=some (.string ⟨#[]⟩)∧W.frozen? ⟨w.heap.size+1+1,0,none⟩=false∧W.frozen? ⟨w.heap.size+1+1,1,none⟩=false) from fun W hB=>by
  obtain⟨c0,c1,f0,f1⟩:=hR0
  exact⟨(hB.cell (p:=⟨w.heap.size+1+1,0,none⟩) (by show w.heap.size+1+1<_;omega)).trans c0,(hB.cell (p:=⟨w.heap.size+1+1,1,none⟩) (by show w.heap.size+1+1<_;omega)).trans c1,(hB.frozen (p:=⟨w.heap.size+1+1,0,none⟩) (by show w.heap.size+1+1<_;omega)).trans f0,(hB.frozen (p:=⟨w.heap.size+1+1,1,none⟩) (by show w.heap.size+1+1<_;omega)).trans f1⟩)
 clear hR0
 have KT0:=hid (show ∀ (W:World) (v u:Value),Below w0.heap.size w0 W→(((W.setCell ⟨w.heap.size+1+1,0,none⟩ v).setCell ⟨w.heap.size+1+1,1,none⟩ u).cell? ⟨w.heap.size,0,none⟩=some (.string l1)∧((W.setCell ⟨w.heap.size+1+1,0,none⟩ v).setCell ⟨w.heap.size+1+1,1,none⟩ u).cell? ⟨w.heap.size,1,none⟩=some (.string h1)∧((W.setCell ⟨w.heap.size+1+1,0,none⟩ v).setCell ⟨w.heap.size+1+1,1,none⟩ u).cell? ⟨w.heap.size+1,0,none⟩=some (.string l2)∧((W.setCell ⟨w.heap.size+1+1,0,none⟩ v).setCell ⟨w.heap.size+1+1,1,none⟩ u).cell? ⟨w.heap.size+1,1,none⟩=some (.string h2)) from fun W v u hB=>by
  have hh:=KS.out W hB
  obtain⟨c0,c1,c2,c3⟩:=hh
  exact⟨(q_set (by omega)).trans ((q_set (by omega)).trans c0),(q_set (by omega)).trans ((q_set (by omega)).trans c1),(q_set (by omega)).trans ((q_set (by omega)).trans c2),(q_set (by omega)).trans ((q_set (by omega)).trans c3)⟩)
 have F0:=hid (Below.refl w0.heap.size w0)
 have HW0:=hid hw0
 clear hz0 hB0 hS0 hw0
 have HL:=hid (show ∀ W:World,Below w0.heap.size w0 W→La W from fun W hB=>hl.on (KB.out W hB))
 clear hl g1 g2 g3
 go_enter Tryz.func59,Tryz.ntmps59
 go_wp2_with fail
 rw[← HW0.out]
 obtain⟨d0,d1,d2,d3⟩:=KS.out _ F0.out
 go_wp2_with fail
 refine(C1.out _ (HL.out _ F0.out)).mono ?_
 rintro e w1 ⟨rfl,hb⟩
 have F1:=hid (fr_chain F0.out hb)
 clear hb d0 d1 d2 d3
 obtain⟨d0,d1,d2,d3⟩:=KS.out _ F1.out
 go_wp2_with fail
 refine(C2.out _ (HL.out _ F1.out)).mono ?_
 rintro e w2 ⟨rfl,hb⟩
 have F2:=hid (fr_chain F1.out hb)
 clear hb d0 d1 d2 d3
 obtain⟨d0,d1,d2,d3⟩:=KS.out _ F2.out
 go_wp2_with fail
 refine(C3.out _ (HL.out _ F2.out)).mono ?_
 rintro e w3 ⟨rfl,hb⟩
 have F3:=hid (fr_chain F2.out hb)
 clear hb d0 d1 d2 d3
 obtain⟨d0,d1,d2,d3⟩:=KS.out _ F3.out
 all_goals
  obtain⟨m0,m1,n0,n1⟩:=KR.out _ F3.out
  have hz:=KZ.out _ F3.out
  go_wp2
  refine bodyPost_ret (v:=.tuple #[.agg #[.string lo,.string hi],.int .i64 0]) (by simp[results,Tryz.results59,go_sem,m0,m1]) rfl ⟨rfl,?_⟩
  repeat (first|exact KB.out _ F3.out|refine Below.setCell ?_ (by first|omega|(simp;omega)|simp) _|refine Below.alloc ?_ (by first|omega|(simp;omega)|simp) _|refine Below.drew ?_)
theorem iDiv_raw (l1 h1 l2 h2 lo hi:ByteArray)(w:World)(hl:La w)
 (g1:CL 17 #[.agg #[.string l1,.string h1]] (.bool true))
 (g2:CL 17 #[.agg #[.string l2,.string h2]] (.bool true))
 (g3:CL 32 #[.agg #[.string l2,.string h2],.string ⟨#[48]⟩] (.bool false))
 (g4:CL 61 #[.agg #[.string l1,.string h1],.agg #[.string l2,.string h2],.func (.func 39) #[] #[]] (.agg #[.string lo,.string hi])) :
 CR 45 #[.agg #[.string l1,.string h1],.agg #[.string l2,.string h2]] w (.tuple #[.agg #[.string lo,.string hi],.int .i64 0]):=by
 have C1:=hid g1
 have C2:=hid g2
 have C3:=hid g3
 have C4:=hid g4
 obtain⟨w0,hw0⟩:∃ w0:World,w0=(((w.alloc (.cells #[.string l1,.string h1] 26)).alloc (.cells #[.string l2,.string h2] 26)).alloc (.cells #[.string ⟨#[]⟩,.string ⟨#[]⟩] 26)):=⟨_,rfl⟩
 have hz0:w0.heap.size=w.heap.size+3:=by rw[hw0];simp
 have hB0:Below w.heap.size w w0:=by
  rw[hw0]
  repeat (first|exact Below.refl _ _|refine Below.setCell ?_ (by first|omega|(simp;omega)|simp) _|refine Below.alloc ?_ (by first|omega|(simp;omega)|simp) _|refine Below.drew ?_)
 have hS0:w0.cell? ⟨w.heap.size,0,none⟩=some (.string l1)∧w0.cell? ⟨w.heap.size,1,none⟩=some (.string h1)∧w0.cell? ⟨w.heap.size+1,0,none⟩=some (.string l2)∧w0.cell? ⟨w.heap.size+1,1,none⟩=some (.string h2):=by rw[hw0];exact⟨((q_lt).trans ((q_lt).trans ((q_new).trans rfl))),((q_lt).trans ((q_lt).trans ((q_new).trans rfl))),((q_lt).trans ((q_new).trans rfl)),((q_lt).trans ((q_new).trans rfl))⟩
 have KS:=hid (show ∀ W:World,Below w0.heap.size w0 W→(W.cell? ⟨w.heap.size,0,none⟩=some (.string l1)∧W.cell? ⟨w.heap.size,1,none⟩=some (.string h1)∧W.cell? ⟨w.heap.size+1,0,none⟩=some (.string l2)∧W.cell? ⟨w.heap.size+1,1,none⟩=some (.string h2)) from fun W hB=>by
  obtain⟨c0,c1,c2,c3⟩:=hS0
  exact⟨(hB.cell (p:=⟨w.heap.size,0,none⟩) (by show w.heap.size<_;omega)).trans c0,(hB.cell (p:=⟨w.heap.size,1,none⟩) (by show w.heap.size<_;omega)).trans c1,(hB.cell (p:=⟨w.heap.size+1,0,none⟩) (by show w.heap.size+1<_;omega)).trans c2,(hB.cell (p:=⟨w.heap.size+1,1,none⟩) (by show w.heap.size+1<_;omega)).trans c3⟩)
 have KZ:=hid (show ∀ W:World,Below w0.heap.size w0 W→w.heap.size+3≤W.heap.size from fun W hB=>by have:=hB.size;omega)
 have KB:=hid (show ∀ W:World,Below w0.heap.size w0 W→Below w.heap.size w W from fun W hB=>hB0.trans (hB.mono (by omega)))
 have hR0:w0.cell? ⟨w.heap.size+1+1,0,none⟩=some (.string ⟨#[]⟩)∧w0.cell? ⟨w.heap.size+1+1,1,none⟩=some (.string ⟨#[]⟩)∧w0.frozen? ⟨w.heap.size+1+1,0,none⟩=false∧w0.frozen? ⟨w.heap.size+1+1,1,none⟩=false:=by rw[hw0];exact⟨((q_new).trans rfl),((q_new).trans rfl),(fq_new),(fq_new)⟩
 have KR:=hid (show ∀ W:World,Below w0.heap.size w0 W→(W.cell? ⟨w.heap.size+1+1,0,none⟩=some (.string ⟨#[]⟩)∧W.cell? ⟨w.heap.size+1+1,1,none⟩=some (.string ⟨#[]⟩)∧W.frozen? ⟨w.heap.size+1+1,0,none⟩=false∧W.frozen? ⟨w.heap.size+1+1,1,none⟩=false) from fun W hB=>by
  obtain⟨c0,c1,f0,f1⟩:=hR0
  exact⟨(hB.cell (p:=⟨w.heap.size+1+1,0,none⟩) (by show w.heap.size+1+1<_;omega)).trans c0,(hB.cell (p:=⟨w.heap.size+1+1,1,none⟩) (by show w.heap.size+1+1<_;omega)).trans c1,(hB.frozen (p:=⟨w.heap.size+1+1,0,none⟩) (by show w.heap.size+1+1<_;omega)).trans f0,(hB.frozen (p:=⟨w.heap.size+1+1,1,none⟩) (by show w.heap.size+1+1<_;omega)).trans f1⟩)
 clear hR0
 have KT0:=hid (show ∀ (W:World) (v u:Value),Below w0.heap.size w0 W→(((W.setCell ⟨w.heap.size+1+1,0,none⟩ v).setCell ⟨w.heap.size+1+1,1,none⟩ u).cell? ⟨w.heap.size,0,none⟩=some (.string l1)∧((W.setCell ⟨w.heap.size+1+1,0,none⟩ v).setCell ⟨w.heap.size+1+1,1,none⟩ u).cell? ⟨w.heap.size,1,none⟩=some (.string h1)∧((W.setCell ⟨w.heap.size+1+1,0,none⟩ v).setCell ⟨w.heap.size+1+1,1,none⟩ u).cell? ⟨w.heap.size+1,0,none⟩=some (.string l2)∧((W.setCell ⟨w.heap.size+1+1,0,none⟩ v).setCell ⟨w.heap.size+1+1,1,none⟩ u).cell? ⟨w.heap.size+1,1,none⟩=some (.string h2)) from fun W v u hB=>by
  have hh:=KS.out W hB
  obtain⟨c0,c1,c2,c3⟩:=hh
  exact⟨(q_set (by omega)).trans ((q_set (by omega)).trans c0),(q_set (by omega)).trans ((q_set (by omega)).trans c1),(q_set (by omega)).trans ((q_set (by omega)).trans c2),(q_set (by omega)).trans ((q_set (by omega)).trans c3)⟩)
 have F0:=hid (Below.refl w0.heap.size w0)
 have HW0:=hid hw0
 clear hz0 hB0 hS0 hw0
 have HL:=hid (show ∀ W:World,Below w0.heap.size w0 W→La W from fun W hB=>hl.on (KB.out W hB))
 clear hl g1 g2 g3 g4
 go_enter Tryz.func45,Tryz.ntmps45
 go_wp2_with fail
 rw[← HW0.out]
 obtain⟨d0,d1,d2,d3⟩:=KS.out _ F0.out
 go_wp2_with fail
 refine(C1.out _ (HL.out _ F0.out)).mono ?_
 rintro e w1 ⟨rfl,hb⟩
 have F1:=hid (fr_chain F0.out hb)
 clear hb d0 d1 d2 d3
 obtain⟨d0,d1,d2,d3⟩:=KS.out _ F1.out
 go_wp2_with fail
 refine(C2.out _ (HL.out _ F1.out)).mono ?_
 rintro e w2 ⟨rfl,hb⟩
 have F2:=hid (fr_chain F1.out hb)
 clear hb d0 d1 d2 d3
 obtain⟨d0,d1,d2,d3⟩:=KS.out _ F2.out
 go_wp2_with fail
 refine(C3.out _ (HL.out _ F2.out)).mono ?_
 rintro e w3 ⟨rfl,hb⟩
 have F3:=hid (fr_chain F2.out hb)
 clear hb d0 d1 d2 d3
 obtain⟨d0,d1,d2,d3⟩:=KS.out _ F3.out
 go_wp2_with fail
 refine(C4.out _ (HL.out _ F3.out)).mono ?_
 rintro e w4 ⟨rfl,hb⟩
 have F4:=hid (fr_chain F3.out hb)
 clear hb d0 d1 d2 d3
 obtain⟨d0,d1,d2,d3⟩:=KS.out _ F4.out
 all_goals
  obtain⟨m0,m1,n0,n1⟩:=KR.out _ F4.out
  have hz:=KZ.out _ F4.out
  go_wp2
  refine bodyPost_ret (v:=.tuple #[.agg #[.string lo,.string hi],.int .i64 0]) (by simp[results,Tryz.results45,go_sem,m0,m1]) rfl ⟨rfl,?_⟩
  repeat (first|exact KB.out _ F4.out|refine Below.setCell ?_ (by first|omega|(simp;omega)|simp) _|refine Below.alloc ?_ (by first|omega|(simp;omega)|simp) _|refine Below.drew ?_)
theorem iExact_raw (x:ByteArray)(w:World)(hl:La w)
 (g1:CL 31 #[.string x] (.bool true)) :
 CR 82 #[.string x] w (.tuple #[.agg #[.string x,.string x],.int .i64 0]):=by
 have C1:=hid g1
 obtain⟨w0,hw0⟩:∃ w0:World,w0=(w.alloc (.cells #[.string ⟨#[]⟩,.string ⟨#[]⟩] 26)):=⟨_,rfl⟩
 have hz0:w0.heap.size=w.heap.size+1:=by rw[hw0];simp
 have hB0:Below w.heap.size w w0:=by
  rw[hw0]
  repeat (first|exact Below.refl _ _|refine Below.setCell ?_ (by first|omega|(simp;omega)|simp) _|refine Below.alloc ?_ (by first|omega|(simp;omega)|simp) _|refine Below.drew ?_)
 have hS0:w0.cell? ⟨w.heap.size,0,none⟩=some (.string ⟨#[]⟩)∧w0.cell? ⟨w.heap.size,1,none⟩=some (.string ⟨#[]⟩):=by rw[hw0];exact⟨((q_new).trans rfl),((q_new).trans rfl)⟩
 have KS:=hid (show ∀ W:World,Below w0.heap.size w0 W→(W.cell? ⟨w.heap.size,0,none⟩=some (.string ⟨#[]⟩)∧W.cell? ⟨w.heap.size,1,none⟩=some (.string ⟨#[]⟩)) from fun W hB=>by
  obtain⟨c0,c1⟩:=hS0
  exact⟨(hB.cell (p:=⟨w.heap.size,0,none⟩) (by show w.heap.size<_;omega)).trans c0,(hB.cell (p:=⟨w.heap.size,1,none⟩) (by show w.heap.size<_;omega)).trans c1⟩)
 have KZ:=hid (show ∀ W:World,Below w0.heap.size w0 W→w.heap.size+1≤W.heap.size from fun W hB=>by have:=hB.size;omega)
 have KB:=hid (show ∀ W:World,Below w0.heap.size w0 W→Below w.heap.size w W from fun W hB=>hB0.trans (hB.mono (by omega)))
 have hR0:w0.cell? ⟨w.heap.size,0,none⟩=some (.string ⟨#[]⟩)∧w0.cell? ⟨w.heap.size,1,none⟩=some (.string ⟨#[]⟩)∧w0.frozen? ⟨w.heap.size,0,none⟩=false∧w0.frozen? ⟨w.heap.size,1,none⟩=false:=by rw[hw0];exact⟨((q_new).trans rfl),((q_new).trans rfl),(fq_new),(fq_new)⟩
 have KR:=hid (show ∀ W:World,Below w0.heap.size w0 W→(W.cell? ⟨w.heap.size,0,none⟩=some (.string ⟨#[]⟩)∧W.cell? ⟨w.heap.size,1,none⟩=some (.string ⟨#[]⟩)∧W.frozen? ⟨w.heap.size,0,none⟩=false∧W.frozen? ⟨w.heap.size,1,none⟩=false) from fun W hB=>by
  obtain⟨c0,c1,f0,f1⟩:=hR0
  exact⟨(hB.cell (p:=⟨w.heap.size,0,none⟩) (by show w.heap.size<_;omega)).trans c0,(hB.cell (p:=⟨w.heap.size,1,none⟩) (by show w.heap.size<_;omega)).trans c1,(hB.frozen (p:=⟨w.heap.size,0,none⟩) (by show w.heap.size<_;omega)).trans f0,(hB.frozen (p:=⟨w.heap.size,1,none⟩) (by show w.heap.size<_;omega)).trans f1⟩)
 clear hR0
 have F0:=hid (Below.refl w0.heap.size w0)
 have HW0:=hid hw0
 clear hz0 hB0 hS0 hw0
 have HL:=hid (show ∀ W:World,Below w0.heap.size w0 W→La W from fun W hB=>hl.on (KB.out W hB))
 clear hl g1
 go_enter Tryz.func82,Tryz.ntmps82
 go_wp2_with fail
 rw[← HW0.out]
 obtain⟨d0,d1⟩:=KS.out _ F0.out
 go_wp2_with fail
 refine(C1.out _ (HL.out _ F0.out)).mono ?_
 rintro e w1 ⟨rfl,hb⟩
 have F1:=hid (fr_chain F0.out hb)
 clear hb d0 d1
 obtain⟨d0,d1⟩:=KS.out _ F1.out
 all_goals
  obtain⟨m0,m1,n0,n1⟩:=KR.out _ F1.out
  have hz:=KZ.out _ F1.out
  go_wp2
  refine bodyPost_ret (v:=.tuple #[.agg #[.string x,.string x],.int .i64 0]) (by simp[results,Tryz.results82,go_sem,m0,m1]) rfl ⟨rfl,?_⟩
  repeat (first|exact KB.out _ F1.out|refine Below.setCell ?_ (by first|omega|(simp;omega)|simp) _|refine Below.alloc ?_ (by first|omega|(simp;omega)|simp) _|refine Below.drew ?_)
def Vq (x y:Rat):Value:=.agg #[.string (Sq x),.string (Sq y)]
theorem cmp_le {x y:Rat}(h:x≤y):cmpQ x y≤0:=by
 rcases cmpQ_cases x y with⟨h,e⟩|⟨h,e⟩|⟨h,e⟩<;>rw[e]<;>grind
theorem iValid_yes (x y:Rat)(h:x≤y)(hx:FitQ x)(hy:FitQ y)(w:World)(hl:La w) :
 CR 17 #[Vq x y] w (.bool true) :=
 ivalid_yes_raw _ _ _ (cmp_le h) w hl (fun W hW=>qCompare x y _ rfl hx hy W hW)
theorem iHas_in (x y z:Rat)(r:Bool)(hr:decide (x≤z∧z≤y)=r)(hx:FitQ x)(hy:FitQ y)(hz:FitQ z)(w:World)(hl:La w) :
 CR 32 #[Vq x y,.string (Sq z)] w (.bool r):=by
 subst hr
 by_cases h1:x≤z
 · by_cases h2:z≤y
   · rw[show decide (x≤z∧z≤y)=true by rw[decide_eq_true_iff];exact⟨h1,h2⟩]
     exact ihas_yes_raw _ _ _ _ _ (cmp_le h1) (cmp_le h2) w hl (fun W hW=>iOrder x z _ rfl hx hz W hW) (fun W hW=>iOrder z y _ rfl hz hy W hW)
   · rw[show decide (x≤z∧z≤y)=false by rw[decide_eq_false_iff_not];exact fun h=>h2 h.2]
     exact ihas_no2_raw _ _ _ _ (cmp_le h1) w hl (fun W hW=>iOrder x z _ rfl hx hz W hW) (fun W hW=>iOrder z y 1 (cmpQ_gt (by grind)) hz hy W hW)
 · rw[show decide (x≤z∧z≤y)=false by rw[decide_eq_false_iff_not];exact fun h=>h1 h.1]
   exact ihas_no1_raw _ _ _ w hl (fun W hW=>iOrder x z 1 (cmpQ_gt (by grind)) hx hz W hW)
theorem iHas (x y z:Rat)(r:Bool)(hr:decide (x≤z∧z≤y)=r)(h:x≤y)(hx:FitQ x)(hy:FitQ y)(hz:FitQ z)(w:World)(hl:La w) :
 CR 15 #[Vq x y,.string (Sq z)] w (.bool r) :=
 iHas_raw _ _ _ r w hl (fun W hW=>iValid_yes x y h hx hy W hW) (fun W hW=>qvalid_yes z hz W hW) (fun W hW=>iHas_in x y z r hr hx hy hz W hW)
theorem iSub (a b c d s t:Rat)(hs:a-d=s)(ht:b-c=t)(h1:a≤b)(h2:c≤d)(ha:FitQ a)(hb:FitQ b)(hc:FitQ c)(hd:FitQ d)(w:World)(hl:La w) :
 CR 13 #[Vq a b,Vq c d] w (.tuple #[Vq s t,.int .i64 0]) :=
 iSub_raw _ _ _ _ _ _ w hl (fun W hW=>iValid_yes a b h1 ha hb W hW) (fun W hW=>iValid_yes c d h2 hc hd W hW) (fun W hW=>qSub a d s hs ha hd W hW) (fun W hW=>qSub b c t ht hb hc W hW)
def row4 (p0 p1 p2 p3:Rat):Nat→Rat
 | 0=>p0
 | 1=>p1
 | 2=>p2
 | _=>p3
theorem ext4 (p0 p1 p2 p3:Rat)(f0:FitQ p0)(f1:FitQ p1)(f2:FitQ p2)(f3:FitQ p3)(W:World)(g:Nat)(hW:La W)(hg:g<W.heap.size)
 (c0:W.cell? ⟨g,0,none⟩=some (.string (Sq p0))) (c1:W.cell? ⟨g,1,none⟩=some (.string (Sq p1))) (c2:W.cell? ⟨g,2,none⟩=some (.string (Sq p2))) (c3:W.cell? ⟨g,3,none⟩=some (.string (Sq p3))) :
 CR 25 #[.slice (some ⟨g,0,none⟩) 4 4] W (.agg #[.string (Sq (exOf (row4 p0 p1 p2 p3) 3).1),.string (Sq (exOf (row4 p0 p1 p2 p3) 3).2)]) :=
 extremes_any g 4 4 (row4 p0 p1 p2 p3) (by decide) (by decide) (by decide) W hW hg
  (fun i hi=>match i,hi with
   | 0,_=>f0
   | 1,_=>f1
   | 2,_=>f2
   | 3,_=>f3)
  (fun i hi=>match i,hi with
   | 0,_=>c0
   | 1,_=>c1
   | 2,_=>c2
   | 3,_=>c3)
theorem iMul (a b c d p0 p1 p2 p3:Rat)(e0:a*c=p0)(e1:a*d=p1)(e2:b*c=p2)(e3:b*d=p3)(h1:a≤b)(h2:c≤d)(ha:FitQ a)(hb:FitQ b)(hc:FitQ c)(hd:FitQ d)(f0:FitQ p0)(f1:FitQ p1)(f2:FitQ p2)(f3:FitQ p3)(w:World)(hl:La w) :
 CR 59 #[Vq a b,Vq c d] w (.tuple #[Vq (exOf (row4 p0 p1 p2 p3) 3).1 (exOf (row4 p0 p1 p2 p3) 3).2,.int .i64 0]) :=
 iMul_raw _ _ _ _ _ _ w hl (fun W hW=>iValid_yes a b h1 ha hb W hW) (fun W hW=>iValid_yes c d h2 hc hd W hW)
  (fun W hW=>combineMul_raw _ _ _ _ _ _ _ _ _ _ W hW (fun V hV=>qMul a c p0 e0 ha hc V hV) (fun V hV=>qMul a d p1 e1 ha hd V hV) (fun V hV=>qMul b c p2 e2 hb hc V hV) (fun V hV=>qMul b d p3 e3 hb hd V hV) (fun V g hV=>ext4 p0 p1 p2 p3 f0 f1 f2 f3 V g hV))
theorem iDiv (a b c d p0 p1 p2 p3:Rat)(e0:a / c=p0)(e1:a / d=p1)(e2:b / c=p2)(e3:b / d=p3)(h1:a≤b)(h2:c≤d)(hz:decide (c≤0∧0≤d)=false)(ha:FitQ a)(hb:FitQ b)(hc:FitQ c)(hd:FitQ d)(f0:FitQ p0)(f1:FitQ p1)(f2:FitQ p2)(f3:FitQ p3)(w:World)(hl:La w) :
 CR 45 #[Vq a b,Vq c d] w (.tuple #[Vq (exOf (row4 p0 p1 p2 p3) 3).1 (exOf (row4 p0 p1 p2 p3) 3).2,.int .i64 0]):=by
 have hz2:=of_decide_eq_false hz
 have hc0:c≠0:=by rintro rfl;exact hz2 ⟨by grind,h2⟩
 have hd0:d≠0:=by rintro rfl;exact hz2 ⟨h2,by grind⟩
 have h3:=fun W hW=>iHas_in c d 0 false hz hc hd (fitq_small (by decide +kernel) (by decide +kernel)) W hW
 rw[q_0]at h3
 exact iDiv_raw _ _ _ _ _ _ w hl (fun W hW=>iValid_yes a b h1 ha hb W hW) (fun W hW=>iValid_yes c d h2 hc hd W hW) h3
  (fun W hW=>combineDiv_raw _ _ _ _ _ _ _ _ _ _ W hW (fun V hV=>qDiv a c p0 e0 ha hc hc0 V hV) (fun V hV=>qDiv a d p1 e1 ha hd hd0 V hV) (fun V hV=>qDiv b c p2 e2 hb hc hc0 V hV) (fun V hV=>qDiv b d p3 e3 hb hd hd0 V hV) (fun V g hV=>ext4 p0 p1 p2 p3 f0 f1 f2 f3 V g hV))
theorem iExact (x:Rat)(hx:FitQ x)(w:World)(hl:La w) :
 CR 82 #[.string (Sq x)] w (.tuple #[Vq x x,.int .i64 0]) :=
 iExact_raw _ w hl (fun W hW=>qvalid_yes x hx W hW)
def row2 (p0 p1:Rat):Nat→Rat
 | 0=>p0
 | _=>p1
theorem ext2 (p0 p1:Rat)(f0:FitQ p0)(f1:FitQ p1)(W:World)(g:Nat)(hW:La W)(hg:g<W.heap.size)
 (c0:W.cell? ⟨g,0,none⟩=some (.string (Sq p0))) (c1:W.cell? ⟨g,1,none⟩=some (.string (Sq p1))) :
 CR 25 #[.slice (some ⟨g,0,none⟩) 2 2] W (.agg #[.string (Sq (exOf (row2 p0 p1) 1).1),.string (Sq (exOf (row2 p0 p1) 1).2)]) :=
 extremes_any g 2 2 (row2 p0 p1) (by decide) (by decide) (by decide) W hW hg
  (fun i hi=>match i,hi with
   | 0,_=>f0
   | 1,_=>f1)
  (fun i hi=>match i,hi with
   | 0,_=>c0
   | 1,_=>c1)
theorem itoaB (n:Int)(h0 : -9223372036854775808≤n)(h1:n≤9223372036854775807)(w:World)(hl:La w) :
 CR 81 #[.int .i64 n] w (.string (Sz n)):=by
 have h:=Tryz.strconv_Itoa n h0 h1 w hl.tb
 rw[itoa_sz]at h
 exact h.mono (fun e w' ⟨e1,k,os,e2⟩=>⟨e1,e2▸Lib.below_grow w.heap.size w (Nat.le_refl _) k os⟩)
end Go.Proofs.YtcihodmmaclihaaGreatDoor
