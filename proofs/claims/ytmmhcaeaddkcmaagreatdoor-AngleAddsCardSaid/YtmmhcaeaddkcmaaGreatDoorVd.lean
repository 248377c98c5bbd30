/- interval: Mul, Div, Square, Exact. -/
import Derived.Test.YtmmhcaeaddkcmaaGreatDoorMz42q
set_option maxRecDepth 100000
set_option maxHeartbeats 20000000
open Go.Lib (hid)
namespace Go.Proofs.YtmmhcaeaddkcmaaGreatDoor
open Go.RowKit Go.Gb
theorem iMul_raw (l1 h1 l2 h2 lo hi:ByteArray)(w:World)(hl:La w)
 (g1:CL 20 #[.agg #[.string l1,.string h1]] (.bool true))
 (g2:CL 20 #[.agg #[.string l2,.string h2]] (.bool true))
 (g3:CL 86 #[.agg #[.string l1,.string h1],.agg #[.string l2,.string h2],.func (.func 10) #[] #[]] (.agg #[.string lo,.string hi])) :
 CR 81 #[.agg #[.string l1,.string h1],.agg #[.string l2,.string h2]] w (.tuple #[.agg #[.string lo,.string hi],.int .i64 0]):=by
 have C1:=hid g1
 have C2:=hid g2
 have C3:=hid g3
 obtain⟨w0,hw0⟩:∃ w0:World,w0=(((w.alloc (.cells #[.string l1,.string h1] 34)).alloc (.cells #[.string l2,.string h2] 34)).alloc (.cells #[.string ⟨#[]⟩,.string ⟨#[]⟩] 34)):=⟨_,rfl⟩
 have hz0:w0.heap.size=w.heap.size+3:=by rw[hw0];simp
 have hB0:Below w.heap.size w w0:=by
  rw[hw0]
  repeat (first|exact Below.refl _ _|refine Below.setCell ?_ (by first|omega|(simp;omega)|simp) _|refine Below.alloc ?_ (by first|omega|(simp;omega)|simp) _|refine Below.drew ?_)
 have hS0:w0.cell? ⟨w.heap.size,0,none⟩=some (.string l1)∧w0.cell? ⟨w.heap.size,1,none⟩=some (.string h1)∧w0.cell? ⟨w.heap.size+1,0,none⟩=some (.string l2)∧w0.cell? ⟨w.heap.size+1,1,none⟩=some (.string h2):=by rw[hw0];exact⟨((q_lt).trans ((q_lt).trans ((q_new).trans rfl))),((q_lt).trans ((q_lt).trans ((q_new).trans rfl))),((q_lt).trans ((q_new).trans rfl)),((q_lt).trans ((q_new).trans rfl))⟩
 have KS:=hid (show ∀ W:World,Below w0.heap.size w0 W→(W.cell? ⟨w.heap.size,0,none⟩=some (.string l1)∧W.cell? ⟨w.heap.size,1,none⟩=some (.string h1)∧W.cell? ⟨w.heap.size+1,0,none⟩=some (.string l2)∧W.cell? ⟨w.heap.size+1,1,none⟩=some (.string h2)) from fun W hB=>by
  obtain⟨c0,c1,c2,c3⟩:=hS0
  exact⟨(hB.cell (p:=⟨w.heap.size,0,none⟩) (by show w.heap.size<_;omega)).trans c0,(hB.cell (p:=⟨w.heap.size,1,none⟩) (by show w.heap.size<_;omega)).trans c1,(hB.cell (p:=⟨w.heap.size+1,0,none⟩) (by show w.heap.size+1<_;omega)).trans c2,(hB.cell (p:=⟨w.heap.size+1,1,none⟩) (by show w.heap.size+1<_;omega)).trans c3⟩)
 have KZ:=hid (show ∀ W:World,Below w0.heap.size w0 W→w.heap.size+3≤W.heap.size from fun W hB=>by have:=hB.size;omega)
 have KB:=hid (show ∀ W:World,Below w0.heap.size w0 W→Below w.heap.size w W from fun W hB=>hB0.trans (hB.mono (by omega)))
 have hR0:w0.cell? ⟨w.heap.size+1+1,0,none⟩=some (.string ⟨#[]⟩)∧w0.cell? ⟨w.heap.size+1+1,1,none⟩=some (.string ⟨#[]⟩)∧w0.frozen? ⟨w.heap.size+1+1,0,none⟩=false∧w0.frozen? ⟨w.heap.size+1+1,1,none⟩=false:=by rw[hw0];exact⟨((q_new).trans rfl),((q_new).trans rfl),(fq_new),(fq_new)⟩
 have KR:=hid (show ∀ W:World,Below w0.heap.size w0 W→(W.cell? ⟨w.heap.size+1+1,0,none⟩=some (.string ⟨#[]⟩)∧W.cell? ⟨w.heap.size+1+1,1,none⟩=some (.string ⟨#[]⟩)∧W.frozen? ⟨w.heap.size+1+1,0,none⟩=false∧W.frozen? ⟨w.heap.size+1+1,1,none⟩=false) from fun W hB=>by
  obtain⟨c0,c1,f0,f1⟩:=hR0
  exact⟨(hB.cell (p:=⟨w.heap.size+1+1,0,none⟩) (by show w.heap.size+1+1<_;omega)).trans c0,(hB.cell (p:=⟨w.heap.size+1+1,1,none⟩) (by show w.heap.size+1+1<_;omega)).trans c1,(hB.frozen (p:=⟨w.heap.size+1+1,0,none⟩) (by show w.heap.size+1+1<_;omega)).trans f0,(hB.frozen (p:=⟨w.heap.size+1+1,1,none⟩) (by show w.heap.size+1+1<_;omega)).trans f1⟩)
 clear hR0
 have KT0:=hid (show ∀ (W:World) (v u:Value),Below w0.heap.size w0 W→(((W.setCell ⟨w.heap.size+1+1,0,none⟩ v).setCell ⟨w.heap.size+1+1,1,none⟩ u).cell? ⟨w.heap.size,0,none⟩=some (.string l1)∧((W.setCell ⟨w.heap.size+1+1,0,none⟩ v).setCell ⟨w.heap.size+1+1,1,none⟩ u).cell? ⟨w.heap.size,1,none⟩=some (.string h1)∧((W.setCell ⟨w.heap.size+1+1,0,none⟩ v).setCell ⟨w.heap.size+1+1,1,none⟩ u).cell? ⟨w.heap.size+1,0,none⟩=some (.string l2)∧((W.setCell ⟨w.heap.size+1+1,0,none⟩ v).setCell ⟨w.heap.size+1+1,1,none⟩ u).cell? ⟨w.heap.size+1,1,none⟩=some (.string h2)) from fun W v u hB=>by
  have hh:=KS.out W hB
  obtain⟨c0,c1,c2,c3⟩:=hh
  exact⟨(q_set (by omega)).trans ((q_set (by omega)).trans c0),(q_set (by omega)).trans ((q_set (by omega)).trans c1),(q_set (by omega)).trans ((q_set (by omega)).trans c2),(q_set (by omega)).trans ((q_set (by omega)).trans c3)⟩)
 have F0:=hid (Below.refl w0.heap.size w0)
 have HW0:=hid hw0
 clear hz0 hB0 hS0 hw0
 have HL:=hid (show ∀ W:World,Below w0.heap.size w0 W→La W from fun W hB=>hl.on (KB.out W hB))
 clear hl g1 g2 g3
 go_enter Tryz.func81,Tryz.ntmps81
 go_wp2_with fail
 rw[← HW0.out]
 obtain⟨d0,d1,d2,d3⟩:=KS.out _ F0.out
 go_wp2_with fail
 refine(C1.out _ (HL.out _ F0.out)).mono ?_
 rintro e w1 ⟨rfl,hb⟩
 have F1:=hid (fr_chain F0.out hb)
 clear hb d0 d1 d2 d3
 obtain⟨d0,d1,d2,d3⟩:=KS.out _ F1.out
 go_wp2_with fail
 refine(C2.out _ (HL.out _ F1.out)).mono ?_
 rintro e w2 ⟨rfl,hb⟩
 have F2:=hid (fr_chain F1.out hb)
 clear hb d0 d1 d2 d3
 obtain⟨d0,d1,d2,d3⟩:=KS.out _ F2.out
 go_wp2_with fail
 refine(C3.out _ (HL.out _ F2.out)).mono ?_
 rintro e w3 ⟨rfl,hb⟩
 have F3:=hid (fr_chain F2.out hb)
 clear hb d0 d1 d2 d3
 obtain⟨d0,d1,d2,d3⟩:=KS.out _ F3.out
 all_goals
  obtain⟨m0,m1,n0,n1⟩:=KR.out _ F3.out
  have hz:=KZ.out _ F3.out
  go_wp2
  refine bodyPost_ret (v:=.tuple #[.agg #[.string lo,.string hi],.int .i64 0]) (by simp[results,Tryz.results81,go_sem,m0,m1]) rfl ⟨rfl,?_⟩
  repeat (first|exact KB.out _ F3.out|refine Below.setCell ?_ (by first|omega|(simp;omega)|simp) _|refine Below.alloc ?_ (by first|omega|(simp;omega)|simp) _|refine Below.drew ?_)
theorem iDiv_raw (l1 h1 l2 h2 lo hi:ByteArray)(w:World)(hl:La w)
 (g1:CL 20 #[.agg #[.string l1,.string h1]] (.bool true))
 (g2:CL 20 #[.agg #[.string l2,.string h2]] (.bool true))
 (g3:CL 39 #[.agg #[.string l2,.string h2],.string ⟨#[48]⟩] (.bool false))
 (g4:CL 86 #[.agg #[.string l1,.string h1],.agg #[.string l2,.string h2],.func (.func 31) #[] #[]] (.agg #[.string lo,.string hi])) :
 CR 63 #[.agg #[.string l1,.string h1],.agg #[.string l2,.string h2]] w (.tuple #[.agg #[.string lo,.string hi],.int .i64 0]):=by
 have C1:=hid g1
 have C2:=hid g2
 have C3:=hid g3
 have C4:=hid g4
 obtain⟨w0,hw0⟩:∃ w0:World,w0=(((w.alloc (.cells #[.string l1,.string h1] 34)).alloc (.cells #[.string l2,.string h2] 34)).alloc (.cells #[.string ⟨#[]⟩,.string ⟨#[]⟩] 34)):=⟨_,rfl⟩
 have hz0:w0.heap.size=w.heap.size+3:=by rw[hw0];simp
 have hB0:Below w.heap.size w w0:=by
  rw[hw0]
  repeat (first|exact Below.refl _ _|refine Below.setCell ?_ (by first|omega|(simp;omega)|simp) _|refine Below.alloc ?_ (by first|omega|(simp;omega)|simp) _|refine Below.drew ?_)
 have hS0:w0.cell? ⟨w.heap.size,0,none⟩=some (.string l1)∧w0.cell? ⟨w.heap.size,1,none⟩=some (.string h1)∧w0.cell? ⟨w.heap.size+1,0,none⟩=some (.string l2)∧w0.cell? ⟨w.heap.size+1,1,none⟩=some (.string h2):=by rw[hw0];exact⟨((q_lt).trans ((q_lt).trans ((q_new).trans rfl))),((q_lt).trans ((q_lt).trans ((q_new).trans rfl))),((q_lt).trans ((q_new).trans rfl)),((q_lt).trans ((q_new).trans rfl))⟩
 have KS:=hid (show ∀ W:World,Below w0.heap.size w0 W→(W.cell? ⟨w.heap.size,0,none⟩=some (.string l1)∧W.cell? ⟨w.heap.size,1,none⟩=some (.string h1)∧W.cell? ⟨w.heap.size+1,0,none⟩=some (.string l2)∧W.cell? ⟨w.heap.size+1,1,none⟩=some (.string h2)) from fun W hB=>by
  obtain⟨c0,c1,c2,c3⟩:=hS0
  exact⟨(hB.cell (p:=⟨w.heap.size,0,none⟩) (by show w.heap.size<_;omega)).trans c0,(hB.cell (p:=⟨w.heap.size,1,none⟩) (by show w.heap.size<_;omega)).trans c1,(hB.cell (p:=⟨w.heap.size+1,0,none⟩) (by show w.heap.size+1<_;omega)).trans c2,(hB.cell (p:=⟨w.heap.size+1,1,none⟩) (by show w.heap.size+1<_;omega)).trans c3⟩)
 have KZ:=hid (show ∀ W:World,Below w0.heap.size w0 W→w.heap.size+3≤W.heap.size from fun W hB=>by have:=hB.size;omega)
 have KB:=hid (show ∀ W:World,Below w0.heap.size w0 W→Below w.heap.size w W from fun W hB=>hB0.trans (hB.mono (by omega)))
 have hR0:w0.cell? ⟨w.heap.size+1+1,0,none⟩=some (.string ⟨#[]⟩)∧w0.cell? ⟨w.heap.size+1+1,1,none⟩=some (.string ⟨#[]⟩)∧w0.frozen? ⟨w.heap.size+1+1,0,none⟩=false∧w0.frozen? ⟨w.heap.size+1+1,1,none⟩=false:=by rw[hw0];exact⟨((q_new).trans rfl),((q_new).trans rfl),(fq_new),(fq_new)⟩
 have KR:=hid (show ∀ W:World,Below w0.heap.size w0 W→(W.cell? ⟨w.heap.size+1+1,0,none⟩=some (.string ⟨#[]⟩)∧W.cell? ⟨w.heap.size+1+1,1,none⟩=some (.string ⟨#[]⟩)∧W.frozen? ⟨w.heap.size+1+1,0,none⟩=false∧W.frozen? ⟨w.heap.size+1+1,1,none⟩=false) from fun W hB=>by
  obtain⟨c0,c1,f0,f1⟩:=hR0
  exact⟨(hB.cell (p:=⟨w.heap.size+1+1,0,none⟩) (by show w.heap.size+1+1<_;omega)).trans c0,(hB.cell (p:=⟨w.heap.size+1+1,1,none⟩) (by show w.heap.size+1+1<_;omega)).trans c1,(hB.frozen (p:=⟨w.heap.size+1+1,0,none⟩) (by show w.heap.size+1+1<_;omega)).trans f0,(hB.frozen (p:=⟨w.heap.size+1+1,1,none⟩) (by show w.heap.size+1+1<_;omega)).trans f1⟩)
 clear hR0
 have KT0:=hid (show ∀ (W:World) (v u:Value),Below w0.heap.size w0 W→(((W.setCell ⟨w.heap.size+1+1,0,none⟩ v).setCell ⟨w.heap.size+1+1,1,none⟩ u).cell? ⟨w.heap.size,0,none⟩=some (.string l1)∧((W.setCell ⟨w.heap.size+1+1,0,none⟩ v).setCell ⟨w.heap.size+1+1,1,none⟩ u).cell? ⟨w.heap.size,1,none⟩=some (.string h1)∧((W.setCell ⟨w.heap.size+1+1,0,none⟩ v).setCell ⟨w.heap.size+1+1,1,none⟩ u).cell? ⟨w.heap.size+1,0,none⟩=some (.string l2)∧((W.setCell ⟨w.heap.size+1+1,0,none⟩ v).setCell ⟨w.heap.size+1+1,1,none⟩ u).cell? ⟨w.heap.size+1,1,none⟩=some (.string h2)) from fun W v u hB=>by
  have hh:=KS.out W hB
  obtain⟨c0,c1,c2,c3⟩:=hh
  exact⟨(q_set (by omega)).trans ((q_set (by omega)).trans c0),(q_set (by omega)).trans ((q_set (by omega)).trans c1),(q_set (by omega)).trans ((q_set (by omega)).trans c2),(q_set (by omega)).trans ((q_set (by omega)).trans c3)⟩)
 have F0:=hid (Below.refl w0.heap.size w0)
 have HW0:=hid hw0
 clear hz0 hB0 hS0 hw0
 have HL:=hid (show ∀ W:World,Below w0.heap.size w0 W→La W from fun W hB=>hl.on (KB.out W hB))
 clear hl g1 g2 g3 g4
 go_enter Tryz.func63,Tryz.ntmps63
 go_wp2_with fail
 rw[← HW0.out]
 obtain⟨d0,d1,d2,d3⟩:=KS.out _ F0.out
 go_wp2_with fail
 refine(C1.out _ (HL.out _ F0.out)).mono ?_
 rintro e w1 ⟨rfl,hb⟩
 have F1:=hid (fr_chain F0.out hb)
 clear hb d0 d1 d2 d3
 obtain⟨d0,d1,d2,d3⟩:=KS.out _ F1.out
 go_wp2_with fail
 refine(C2.out _ (HL.out _ F1.out)).mono ?_
 rintro e w2 ⟨rfl,hb⟩
 have F2:=hid (fr_chain F1.out hb)
 clear hb d0 d1 d2 d3
 obtain⟨d0,d1,d2,d3⟩:=KS.out _ F2.out
 go_wp2_with fail
 refine(C3.out _ (HL.out _ F2.out)).mono ?_
 rintro e w3 ⟨rfl,hb⟩
 have F3:=hid (fr_chain F2.out hb)
 clear hb d0 d1 d2 d3
 obtain⟨d0,d1,d2,d3⟩:=KS.out _ F3.out
 go_wp2_with fail
 refine(C4.out _ (HL.out _ F3.out)).mono ?_
 rintro e w4 ⟨rfl,hb⟩
 have F4:=hid (fr_chain F3.out hb)
 clear hb d0 d1 d2 d3
 obtain⟨d0,d1,d2,d3⟩:=KS.out _ F4.out
 all_goals
  obtain⟨m0,m1,n0,n1⟩:=KR.out _ F4.out
  have hz:=KZ.out _ F4.out
  go_wp2
  refine bodyPost_ret (v:=.tuple #[.agg #[.string lo,.string hi],.int .i64 0]) (by simp[results,Tryz.results63,go_sem,m0,m1]) rfl ⟨rfl,?_⟩
  repeat (first|exact KB.out _ F4.out|refine Below.setCell ?_ (by first|omega|(simp;omega)|simp) _|refine Below.alloc ?_ (by first|omega|(simp;omega)|simp) _|refine Below.drew ?_)
theorem iExact_raw (x:ByteArray)(w:World)(hl:La w)
 (g1:CL 37 #[.string x] (.bool true)) :
 CR 103 #[.string x] w (.tuple #[.agg #[.string x,.string x],.int .i64 0]):=by
 have C1:=hid g1
 obtain⟨w0,hw0⟩:∃ w0:World,w0=(w.alloc (.cells #[.string ⟨#[]⟩,.string ⟨#[]⟩] 34)):=⟨_,rfl⟩
 have hz0:w0.heap.size=w.heap.size+1:=by rw[hw0];simp
 have hB0:Below w.heap.size w w0:=by
  rw[hw0]
  repeat (first|exact Below.refl _ _|refine Below.setCell ?_ (by first|omega|(simp;omega)|simp) _|refine Below.alloc ?_ (by first|omega|(simp;omega)|simp) _|refine Below.drew ?_)
 have hS0:w0.cell? ⟨w.heap.size,0,none⟩=some (.string ⟨#[]⟩)∧w0.cell? ⟨w.heap.size,1,none⟩=some (.string ⟨#[]⟩):=by rw[hw0];exact⟨((q_new).trans rfl),((q_new).trans rfl)⟩
 have KS:=hid (show ∀ W:World,Below w0.heap.size w0 W→(W.cell? ⟨w.heap.size,0,none⟩=some (.string ⟨#[]⟩)∧W.cell? ⟨w.heap.size,1,none⟩=some (.string ⟨#[]⟩)) from fun W hB=>by
  obtain⟨c0,c1⟩:=hS0
  exact⟨(hB.cell (p:=⟨w.heap.size,0,none⟩) (by show w.heap.size<_;omega)).trans c0,(hB.cell (p:=⟨w.heap.size,1,none⟩) (by show w.heap.size<_;omega)).trans c1⟩)
 have KZ:=hid (show ∀ W:World,Below w0.heap.size w0 W→w.heap.size+1≤W.heap.size from fun W hB=>by have:=hB.size;omega)
 have KB:=hid (show ∀ W:World,Below w0.heap.size w0 W→Below w.heap.size w W from fun W hB=>hB0.trans (hB.mono (by omega)))
 have hR0:w0.cell? ⟨w.heap.size,0,none⟩=some (.string ⟨#[]⟩)∧w0.cell? ⟨w.heap.size,1,none⟩=some (.string ⟨#[]⟩)∧w0.frozen? ⟨w.heap.size,0,none⟩=false∧w0.frozen? ⟨w.heap.size,1,none⟩=false:=by rw[hw0];exact⟨((q_new).trans rfl),((q_new).trans rfl),(fq_new),(fq_new)⟩
 have KR:=hid (show ∀ W:World,Below w0.heap.size w0 W→(W.cell? ⟨w.heap.size,0,none⟩=some (.string ⟨#[]⟩)∧W.cell? ⟨w.heap.size,1,none⟩=some (.string ⟨#[]⟩)∧W.frozen? ⟨w.heap.size,0,none⟩=false∧W.frozen? ⟨w.heap.size,1,none⟩=false) from fun W hB=>by
  obtain⟨c0,c1,f0,f1⟩:=hR0
  exact⟨(hB.cell (p:=⟨w.heap.size,0,none⟩) (by show w.heap.size<_;omega)).trans c0,(hB.cell (p:=⟨w.heap.size,1,none⟩) (by show w.heap.size<_;omega)).trans c1,(hB.frozen (p:=⟨w.heap.size,0,none⟩) (by show w.heap.size<_;omega)).trans f0,(hB.frozen (p:=⟨w.heap.size,1,none⟩) (by show w.heap.size<_;omega)).trans f1⟩)
 clear hR0
 have F0:=hid (Below.refl w0.heap.size w0)
 have HW0:=hid hw0
 clear hz0 hB0 hS0 hw0
 have HL:=hid (show ∀ W:World,Below w0.heap.size w0 W→La W from fun W hB=>hl.on (KB.out W hB))
 clear hl g1
 go_enter Tryz.func103,Tryz.ntmps103
 go_wp2_with fail
 rw[← HW0.out]
 obtain⟨d0,d1⟩:=KS.out _ F0.out
 go_wp2_with fail
 refine(C1.out _ (HL.out _ F0.out)).mono ?_
 rintro e w1 ⟨rfl,hb⟩
 have F1:=hid (fr_chain F0.out hb)
 clear hb d0 d1
 obtain⟨d0,d1⟩:=KS.out _ F1.out
 all_goals
  obtain⟨m0,m1,n0,n1⟩:=KR.out _ F1.out
  have hz:=KZ.out _ F1.out
  go_wp2
  refine bodyPost_ret (v:=.tuple #[.agg #[.string x,.string x],.int .i64 0]) (by simp[results,Tryz.results103,go_sem,m0,m1]) rfl ⟨rfl,?_⟩
  repeat (first|exact KB.out _ F1.out|refine Below.setCell ?_ (by first|omega|(simp;omega)|simp) _|refine Below.alloc ?_ (by first|omega|(simp;omega)|simp) _|refine Below.drew ?_)
end Go.Proofs.YtmmhcaeaddkcmaaGreatDoor
