/- texts -/
import Derived.Test.YtodcdibanokjjaaGreatDoorMz40q
open Go.Proofs.Tryz
set_option maxRecDepth 100000
set_option maxHeartbeats 20000000
open Go.Lib (hid)
namespace Go.Proofs.YtodcdibanokjjaaGreatDoor
open Go.RowKit Go.Gb
def Cb (w wr:World) (l1 h1 l2 h2:ByteArray) (c:Nat→ByteArray):Prop:=Below w.heap.size w wr∧w.heap.size+4≤wr.heap.size ∧
 (∀ k b,(k,b)∈[(0,(l1,h1)),(1,(l2,h2)),(2,((⟨#[]⟩:ByteArray),(⟨#[]⟩:ByteArray)))]→(wr.cell? ⟨w.heap.size+k,0,none⟩=some (.string b.1)∧wr.cell? ⟨w.heap.size+k,1,none⟩=some (.string b.2)∧wr.frozen? ⟨w.heap.size+k,0,none⟩=false∧wr.frozen? ⟨w.heap.size+k,1,none⟩=false)) ∧
 (∀ k,k<4→wr.cell? ⟨w.heap.size+3,k,none⟩=some (.string (c k))∧wr.frozen? ⟨w.heap.size+3,k,none⟩=false)
theorem Cb.call {w a b:World}{l1 h1 l2 h2:ByteArray}{c:Nat→ByteArray}(h:Cb w a l1 h1 l2 h2 c)(hb:Below a.heap.size a b):Cb w b l1 h1 l2 h2 c:=by
 obtain⟨e1,e2,e3,e4⟩:=h;refine⟨e1.trans (hb.mono e1.size),Nat.le_trans e2 hb.size,fun k p hk=>?_,fun k hk=>?_⟩
 · obtain⟨c0,c1,f0,f1⟩:=e3 k p hk
   have hk3:k<3:=by simp at hk;omega
   exact⟨(hb.cell (p:=⟨w.heap.size+k,0,none⟩) (by show w.heap.size+k<_;omega)).trans c0,(hb.cell (p:=⟨w.heap.size+k,1,none⟩) (by show w.heap.size+k<_;omega)).trans c1,(hb.frozen (p:=⟨w.heap.size+k,0,none⟩) (by show w.heap.size+k<_;omega)).trans f0,(hb.frozen (p:=⟨w.heap.size+k,1,none⟩) (by show w.heap.size+k<_;omega)).trans f1⟩
 · obtain⟨c0,f0⟩:=e4 k hk
   exact⟨(hb.cell (p:=⟨w.heap.size+3,k,none⟩) (by show w.heap.size+3<_;omega)).trans c0,(hb.frozen (p:=⟨w.heap.size+3,k,none⟩) (by show w.heap.size+3<_;omega)).trans f0⟩
theorem Cb.store {w a:World}{l1 h1 l2 h2:ByteArray}{c:Nat→ByteArray}(h:Cb w a l1 h1 l2 h2 c)(k:Nat)(hk:k<4)(v:ByteArray):Cb w (a.setCell ⟨w.heap.size+3,k,none⟩ (.string v)) l1 h1 l2 h2 (fun j=>if j=k then v else c j):=by
 obtain⟨e1,e2,e3,e4⟩:=h;refine⟨e1.setCell (p:=⟨w.heap.size+3,k,none⟩) (by show w.heap.size≤w.heap.size+3;omega) _,by simpa using e2,fun j p hj=>?_,fun j hj=>?_⟩
 · obtain⟨c0,c1,f0,f1⟩:=e3 j p hj
   have hj3:j<3:=by simp at hj;omega
   rw[sj,sj];exact⟨(aX (by omega)).trans c0,(aX (by omega)).trans c1,f0,f1⟩
 · obtain⟨c0,f0⟩:=e4 j hj
   rw[sj];by_cases hjk:j=k
   · subst hjk
     refine⟨?_,f0⟩;show _=some (Value.string (if j=j then v else c j))
     rw[if_pos rfl];exact World.cell?_setCell_same _ _ _ c0
   · show(_=some (Value.string (if j=k then v else c j)))∧_
     rw[if_neg hjk];exact⟨(World.cell?_setCell_other _ _ _ _ (by intro e;injection e with e1 e2;exact hjk e2.symm)).trans c0,f0⟩
theorem Cb.facts {w a:World}{l1 h1 l2 h2:ByteArray}{c:Nat→ByteArray}(h:Cb w a l1 h1 l2 h2 c) :
 (a.cell? ⟨w.heap.size,0,none⟩=some (.string l1)∧a.cell? ⟨w.heap.size,1,none⟩=some (.string h1)) ∧
 (a.cell? ⟨w.heap.size+1,0,none⟩=some (.string l2)∧a.cell? ⟨w.heap.size+1,1,none⟩=some (.string h2)) ∧
 (a.cell? ⟨w.heap.size+1+1,0,none⟩=some (.string ⟨#[]⟩)∧a.cell? ⟨w.heap.size+1+1,1,none⟩=some (.string ⟨#[]⟩)∧a.frozen? ⟨w.heap.size+1+1,0,none⟩=false∧a.frozen? ⟨w.heap.size+1+1,1,none⟩=false) ∧
 (a.cell? ⟨w.heap.size+1+1+1,0,none⟩=some (.string (c 0))∧a.cell? ⟨w.heap.size+1+1+1,1,none⟩=some (.string (c 1))∧a.cell? ⟨w.heap.size+1+1+1,2,none⟩=some (.string (c 2))∧a.cell? ⟨w.heap.size+1+1+1,3,none⟩=some (.string (c 3))) ∧
 (a.frozen? ⟨w.heap.size+1+1+1,0,none⟩=false∧a.frozen? ⟨w.heap.size+1+1+1,1,none⟩=false∧a.frozen? ⟨w.heap.size+1+1+1,2,none⟩=false∧a.frozen? ⟨w.heap.size+1+1+1,3,none⟩=false):=by
 obtain⟨e1,e2,e3,e4⟩:=h;have a0:=e3 0 _ (.head _);have a1:=e3 1 _ (.tail _ (.head _));have a2:=e3 2 _ (.tail _ (.tail _ (.head _)));exact⟨⟨a0.1,a0.2.1⟩,⟨a1.1,a1.2.1⟩,a2,⟨(e4 0 (by decide)).1,(e4 1 (by decide)).1,(e4 2 (by decide)).1,(e4 3 (by decide)).1⟩,⟨(e4 0 (by decide)).2,(e4 1 (by decide)).2,(e4 2 (by decide)).2,(e4 3 (by decide)).2⟩⟩
theorem Cb.start (w:World)(l1 h1 l2 h2:ByteArray):Cb w ((((w.alloc (.cells #[.string l1,.string h1] 32)).alloc (.cells #[.string l2,.string h2] 32)).alloc (.cells #[.string ⟨#[]⟩,.string ⟨#[]⟩] 32)).alloc (.cells #[.string ⟨#[]⟩,.string ⟨#[]⟩,.string ⟨#[]⟩,.string ⟨#[]⟩] 146)) l1 h1 l2 h2 (fun _=>⟨#[]⟩):=by
 refine⟨?_,by simp,fun k p hk=>?_,fun k hk=>?_⟩
 · repeat (first|exact Below.refl _ _|refine Below.alloc ?_ (by first|omega|(simp;omega)|simp) _)
 · simp only[List.mem_cons,Prod.mk.injEq,List.mem_nil_iff,or_false]at hk
   rcases hk with⟨rfl,rfl⟩|⟨rfl,rfl⟩|⟨rfl,rfl⟩
   · exact⟨(q_lt).trans ((q_lt).trans ((q_lt).trans ((aN).trans rfl))),(q_lt).trans ((q_lt).trans ((q_lt).trans ((aN).trans rfl))),(jG).trans ((jG).trans ((jG).trans (bF))),(jG).trans ((jG).trans ((jG).trans (bF)))⟩
   · exact⟨(q_lt).trans ((q_lt).trans ((aN).trans rfl)),(q_lt).trans ((q_lt).trans ((aN).trans rfl)),(jG).trans ((jG).trans (bF)),(jG).trans ((jG).trans (bF))⟩
   · exact⟨(q_lt).trans ((aN).trans rfl),(q_lt).trans ((aN).trans rfl),(jG).trans (bF),(jG).trans (bF)⟩
 · match k,hk with
   | 0,_=>exact⟨(aN).trans rfl,bF⟩
   | 1,_=>exact⟨(aN).trans rfl,bF⟩
   | 2,_=>exact⟨(aN).trans rfl,bF⟩
   | 3,_=>exact⟨(aN).trans rfl,bF⟩
theorem oq (l1 h1 l2 h2 p0 p1 p2 p3 lo hi:ByteArray)(w:World)(hl:La w)
 (g0:CL 51 #[.string l1,.string l2] (.tuple #[.string p0,.int .i64 0]))
 (g1:CL 51 #[.string l1,.string h2] (.tuple #[.string p1,.int .i64 0]))
 (g2:CL 51 #[.string h1,.string l2] (.tuple #[.string p2,.int .i64 0]))
 (g3:CL 51 #[.string h1,.string h2] (.tuple #[.string p3,.int .i64 0]))
 (g4:∀ W g,La W→g<W.heap.size→W.cell? ⟨g,0,none⟩=some (.string p0)→W.cell? ⟨g,1,none⟩=some (.string p1)→W.cell? ⟨g,2,none⟩=some (.string p2)→W.cell? ⟨g,3,none⟩=some (.string p3)→CR 133 #[.slice (some ⟨g,0,none⟩) 4 4] W (.agg #[.string lo,.string hi])) :
 CR 109 #[.agg #[.string l1,.string h1],.agg #[.string l2,.string h2],.func (.func 51) #[] #[]] w (.agg #[.string lo,.string hi]):=by
 obtain ⟨C0,C1,C2,C3,C4⟩:=aQ g0 g1 g2 g3 g4;have ix0:∀ W:World,(Instr.index 147 (.agg #[.string l1,.string h1]) (.int .i64 0)).run Tryz.prog W=.ok (.string l1) W:=fun _=>by kernel_rfl
 have ix1:∀ W:World,(Instr.index 147 (.agg #[.string l1,.string h1]) (.int .i64 1)).run Tryz.prog W=.ok (.string h1) W:=fun _=>by kernel_rfl
 have HL:=hid (show ∀ W:World,Below w.heap.size w W→La W from fun W h=>hl.on h);have M0:=hid (Cb.start w l1 h1 l2 h2);have wm:IntKind.i64.wrap (2*0)=0:=by decide
 have wm1:IntKind.i64.wrap (2*1)=2:=by decide
 have wp1:IntKind.i64.wrap (0+1)=1:=by decide
 have wp2:IntKind.i64.wrap (2+1)=3:=by decide
 have wp3:IntKind.i64.wrap (1+1)=2:=by decide
 obtain⟨w0,hw0⟩:∃ w0:World,w0=((((w.alloc (.cells #[.string l1,.string h1] 32)).alloc (.cells #[.string l2,.string h2] 32)).alloc (.cells #[.string ⟨#[]⟩,.string ⟨#[]⟩] 32)).alloc (.cells #[.string ⟨#[]⟩,.string ⟨#[]⟩,.string ⟨#[]⟩,.string ⟨#[]⟩] 146)):=⟨_,rfl⟩;rw[← hw0]at M0;have HW0:=hid hw0;clear hw0 hl g0 g1 g2 g3 g4;go_enter func109,ntmps109
 go_upto_region 2 with fail
 rw[← HW0.out];obtain⟨⟨a0,a1⟩,⟨b0,b1⟩,⟨r0,r1,r2,r3⟩,⟨c0,c1,c2,c3⟩,⟨d0,d1,d2,d3⟩⟩:=M0.out.facts;have kz:=M0.out.2.1;go_wp2_with fail
 refine wp_loop_rounds 3 ?_;rw[rounds_succ];go_wp2_with fail
 refine(C0.out _ (HL.out _ M0.out.1)).mono ?_;rintro e w1 ⟨rfl,hb⟩;have M1:=hid (M0.out.call hb);clear hb a0 a1 b0 b1 r0 r1 r2 r3 c0 c1 c2 c3 d0 d1 d2 d3 kz;obtain⟨⟨a0,a1⟩,⟨b0,b1⟩,⟨r0,r1,r2,r3⟩,⟨c0,c1,c2,c3⟩,⟨d0,d1,d2,d3⟩⟩:=M1.out.facts;have kz:=M1.out.2.1;go_upto_region 6 with fail
 obtain⟨w2,hw⟩:∃ w2:World,w2=w1.setCell ⟨w.heap.size+1+1+1,0,none⟩ (.string p0):=⟨_,rfl⟩;rw[← hw];have M2:=M1.out.store 0 (by decide) p0;rw[show w1.setCell ⟨w.heap.size+3,0,none⟩ (.string p0)=w2 from hw.symm]at M2;have M2:=hid M2;clear hw a0 a1 b0 b1 r0 r1 r2 r3 c0 c1 c2 c3 d0 d1 d2 d3 kz;obtain⟨⟨a0,a1⟩,⟨b0,b1⟩,⟨r0,r1,r2,r3⟩,⟨c0,c1,c2,c3⟩,⟨d0,d1,d2,d3⟩⟩:=M2.out.facts;have kz:=M2.out.2.1;go_wp2_with fail
 refine(C1.out _ (HL.out _ M2.out.1)).mono ?_;rintro e w3 ⟨rfl,hb⟩;have M3:=hid (M2.out.call hb);clear hb a0 a1 b0 b1 r0 r1 r2 r3 c0 c1 c2 c3 d0 d1 d2 d3 kz;obtain⟨⟨a0,a1⟩,⟨b0,b1⟩,⟨r0,r1,r2,r3⟩,⟨c0,c1,c2,c3⟩,⟨d0,d1,d2,d3⟩⟩:=M3.out.facts;have kz:=M3.out.2.1;go_upto_region 7 with fail
 obtain⟨w4,hw⟩:∃ w4:World,w4=w3.setCell ⟨w.heap.size+1+1+1,1,none⟩ (.string p1):=⟨_,rfl⟩;rw[← hw];have M4:=M3.out.store 1 (by decide) p1;rw[show w3.setCell ⟨w.heap.size+3,1,none⟩ (.string p1)=w4 from hw.symm]at M4;have M4:=hid M4;clear hw a0 a1 b0 b1 r0 r1 r2 r3 c0 c1 c2 c3 d0 d1 d2 d3 kz;obtain⟨⟨a0,a1⟩,⟨b0,b1⟩,⟨r0,r1,r2,r3⟩,⟨c0,c1,c2,c3⟩,⟨d0,d1,d2,d3⟩⟩:=M4.out.facts;have kz:=M4.out.2.1;go_wp2_with fail
 rw[rounds_succ];go_wp2_with fail
 refine(C2.out _ (HL.out _ M4.out.1)).mono ?_;rintro e w5 ⟨rfl,hb⟩;have M5:=hid (M4.out.call hb);clear hb a0 a1 b0 b1 r0 r1 r2 r3 c0 c1 c2 c3 d0 d1 d2 d3 kz;obtain⟨⟨a0,a1⟩,⟨b0,b1⟩,⟨r0,r1,r2,r3⟩,⟨c0,c1,c2,c3⟩,⟨d0,d1,d2,d3⟩⟩:=M5.out.facts;have kz:=M5.out.2.1;go_upto_region 6 with fail
 obtain⟨w6,hw⟩:∃ w6:World,w6=w5.setCell ⟨w.heap.size+1+1+1,2,none⟩ (.string p2):=⟨_,rfl⟩;rw[← hw];have M6:=M5.out.store 2 (by decide) p2;rw[show w5.setCell ⟨w.heap.size+3,2,none⟩ (.string p2)=w6 from hw.symm]at M6;have M6:=hid M6;clear hw a0 a1 b0 b1 r0 r1 r2 r3 c0 c1 c2 c3 d0 d1 d2 d3 kz;obtain⟨⟨a0,a1⟩,⟨b0,b1⟩,⟨r0,r1,r2,r3⟩,⟨c0,c1,c2,c3⟩,⟨d0,d1,d2,d3⟩⟩:=M6.out.facts;have kz:=M6.out.2.1;go_wp2_with fail
 refine(C3.out _ (HL.out _ M6.out.1)).mono ?_;rintro e w7 ⟨rfl,hb⟩;have M7:=hid (M6.out.call hb);clear hb a0 a1 b0 b1 r0 r1 r2 r3 c0 c1 c2 c3 d0 d1 d2 d3 kz;obtain⟨⟨a0,a1⟩,⟨b0,b1⟩,⟨r0,r1,r2,r3⟩,⟨c0,c1,c2,c3⟩,⟨d0,d1,d2,d3⟩⟩:=M7.out.facts;have kz:=M7.out.2.1;go_upto_region 7 with fail
 obtain⟨w8,hw⟩:∃ w8:World,w8=w7.setCell ⟨w.heap.size+1+1+1,3,none⟩ (.string p3):=⟨_,rfl⟩;rw[← hw];have M8:=M7.out.store 3 (by decide) p3;rw[show w7.setCell ⟨w.heap.size+3,3,none⟩ (.string p3)=w8 from hw.symm]at M8;have M8:=hid M8;clear hw a0 a1 b0 b1 r0 r1 r2 r3 c0 c1 c2 c3 d0 d1 d2 d3 kz;obtain⟨⟨a0,a1⟩,⟨b0,b1⟩,⟨r0,r1,r2,r3⟩,⟨c0,c1,c2,c3⟩,⟨d0,d1,d2,d3⟩⟩:=M8.out.facts;have kz:=M8.out.2.1;go_wp2_with fail
 rw[rounds_succ];go_wp2_with fail
 refine(C4.out w8 (w.heap.size+1+1+1) (HL.out _ M8.out.1) (by omega) (M8.out.2.2.2 0 (by decide)).1 (M8.out.2.2.2 1 (by decide)).1 (M8.out.2.2.2 2 (by decide)).1 (M8.out.2.2.2 3 (by decide)).1).mono ?_;rintro e w9 ⟨rfl,hb⟩;have M9:=hid (M8.out.call hb);clear hb a0 a1 b0 b1 r0 r1 r2 r3 c0 c1 c2 c3 d0 d1 d2 d3 kz;obtain⟨⟨a0,a1⟩,⟨b0,b1⟩,⟨r0,r1,r2,r3⟩,⟨c0,c1,c2,c3⟩,⟨d0,d1,d2,d3⟩⟩:=M9.out.facts;have kz:=M9.out.2.1;go_wp2;refine bodyPost_ret (v:=.agg #[.string lo,.string hi]) (by simp[results,results109,go_sem,r0,r1]) rfl ⟨rfl,?_⟩;exact(M9.out.1.setCell (p:=⟨w.heap.size+1+1,0,none⟩) (by show w.heap.size≤w.heap.size+1+1;omega) _).setCell (p:=⟨w.heap.size+1+1,1,none⟩) (by show w.heap.size≤w.heap.size+1+1;omega) _
theorem ou (l1 h1 l2 h2 p0 p1 p2 p3 lo hi:ByteArray)(w:World)(hl:La w)
 (g0:CL 31 #[.string l1,.string l2] (.tuple #[.string p0,.int .i64 0]))
 (g1:CL 31 #[.string l1,.string h2] (.tuple #[.string p1,.int .i64 0]))
 (g2:CL 31 #[.string h1,.string l2] (.tuple #[.string p2,.int .i64 0]))
 (g3:CL 31 #[.string h1,.string h2] (.tuple #[.string p3,.int .i64 0]))
 (g4:∀ W g,La W→g<W.heap.size→W.cell? ⟨g,0,none⟩=some (.string p0)→W.cell? ⟨g,1,none⟩=some (.string p1)→W.cell? ⟨g,2,none⟩=some (.string p2)→W.cell? ⟨g,3,none⟩=some (.string p3)→CR 133 #[.slice (some ⟨g,0,none⟩) 4 4] W (.agg #[.string lo,.string hi])) :
 CR 109 #[.agg #[.string l1,.string h1],.agg #[.string l2,.string h2],.func (.func 31) #[] #[]] w (.agg #[.string lo,.string hi]):=by
 obtain ⟨C0,C1,C2,C3,C4⟩:=aQ g0 g1 g2 g3 g4;have ix0:∀ W:World,(Instr.index 147 (.agg #[.string l1,.string h1]) (.int .i64 0)).run Tryz.prog W=.ok (.string l1) W:=fun _=>by kernel_rfl
 have ix1:∀ W:World,(Instr.index 147 (.agg #[.string l1,.string h1]) (.int .i64 1)).run Tryz.prog W=.ok (.string h1) W:=fun _=>by kernel_rfl
 have HL:=hid (show ∀ W:World,Below w.heap.size w W→La W from fun W h=>hl.on h);have M0:=hid (Cb.start w l1 h1 l2 h2);have wm:IntKind.i64.wrap (2*0)=0:=by decide
 have wm1:IntKind.i64.wrap (2*1)=2:=by decide
 have wp1:IntKind.i64.wrap (0+1)=1:=by decide
 have wp2:IntKind.i64.wrap (2+1)=3:=by decide
 have wp3:IntKind.i64.wrap (1+1)=2:=by decide
 obtain⟨w0,hw0⟩:∃ w0:World,w0=((((w.alloc (.cells #[.string l1,.string h1] 32)).alloc (.cells #[.string l2,.string h2] 32)).alloc (.cells #[.string ⟨#[]⟩,.string ⟨#[]⟩] 32)).alloc (.cells #[.string ⟨#[]⟩,.string ⟨#[]⟩,.string ⟨#[]⟩,.string ⟨#[]⟩] 146)):=⟨_,rfl⟩;rw[← hw0]at M0;have HW0:=hid hw0;clear hw0 hl g0 g1 g2 g3 g4;go_enter func109,ntmps109
 go_upto_region 2 with fail
 rw[← HW0.out];obtain⟨⟨a0,a1⟩,⟨b0,b1⟩,⟨r0,r1,r2,r3⟩,⟨c0,c1,c2,c3⟩,⟨d0,d1,d2,d3⟩⟩:=M0.out.facts;have kz:=M0.out.2.1;go_wp2_with fail
 refine wp_loop_rounds 3 ?_;rw[rounds_succ];go_wp2_with fail
 refine(C0.out _ (HL.out _ M0.out.1)).mono ?_;rintro e w1 ⟨rfl,hb⟩;have M1:=hid (M0.out.call hb);clear hb a0 a1 b0 b1 r0 r1 r2 r3 c0 c1 c2 c3 d0 d1 d2 d3 kz;obtain⟨⟨a0,a1⟩,⟨b0,b1⟩,⟨r0,r1,r2,r3⟩,⟨c0,c1,c2,c3⟩,⟨d0,d1,d2,d3⟩⟩:=M1.out.facts;have kz:=M1.out.2.1;go_upto_region 6 with fail
 obtain⟨w2,hw⟩:∃ w2:World,w2=w1.setCell ⟨w.heap.size+1+1+1,0,none⟩ (.string p0):=⟨_,rfl⟩;rw[← hw];have M2:=M1.out.store 0 (by decide) p0;rw[show w1.setCell ⟨w.heap.size+3,0,none⟩ (.string p0)=w2 from hw.symm]at M2;have M2:=hid M2;clear hw a0 a1 b0 b1 r0 r1 r2 r3 c0 c1 c2 c3 d0 d1 d2 d3 kz;obtain⟨⟨a0,a1⟩,⟨b0,b1⟩,⟨r0,r1,r2,r3⟩,⟨c0,c1,c2,c3⟩,⟨d0,d1,d2,d3⟩⟩:=M2.out.facts;have kz:=M2.out.2.1;go_wp2_with fail
 refine(C1.out _ (HL.out _ M2.out.1)).mono ?_;rintro e w3 ⟨rfl,hb⟩;have M3:=hid (M2.out.call hb);clear hb a0 a1 b0 b1 r0 r1 r2 r3 c0 c1 c2 c3 d0 d1 d2 d3 kz;obtain⟨⟨a0,a1⟩,⟨b0,b1⟩,⟨r0,r1,r2,r3⟩,⟨c0,c1,c2,c3⟩,⟨d0,d1,d2,d3⟩⟩:=M3.out.facts;have kz:=M3.out.2.1;go_upto_region 7 with fail
 obtain⟨w4,hw⟩:∃ w4:World,w4=w3.setCell ⟨w.heap.size+1+1+1,1,none⟩ (.string p1):=⟨_,rfl⟩;rw[← hw];have M4:=M3.out.store 1 (by decide) p1;rw[show w3.setCell ⟨w.heap.size+3,1,none⟩ (.string p1)=w4 from hw.symm]at M4;have M4:=hid M4;clear hw a0 a1 b0 b1 r0 r1 r2 r3 c0 c1 c2 c3 d0 d1 d2 d3 kz;obtain⟨⟨a0,a1⟩,⟨b0,b1⟩,⟨r0,r1,r2,r3⟩,⟨c0,c1,c2,c3⟩,⟨d0,d1,d2,d3⟩⟩:=M4.out.facts;have kz:=M4.out.2.1;go_wp2_with fail
 rw[rounds_succ];go_wp2_with fail
 refine(C2.out _ (HL.out _ M4.out.1)).mono ?_;rintro e w5 ⟨rfl,hb⟩;have M5:=hid (M4.out.call hb);clear hb a0 a1 b0 b1 r0 r1 r2 r3 c0 c1 c2 c3 d0 d1 d2 d3 kz;obtain⟨⟨a0,a1⟩,⟨b0,b1⟩,⟨r0,r1,r2,r3⟩,⟨c0,c1,c2,c3⟩,⟨d0,d1,d2,d3⟩⟩:=M5.out.facts;have kz:=M5.out.2.1;go_upto_region 6 with fail
 obtain⟨w6,hw⟩:∃ w6:World,w6=w5.setCell ⟨w.heap.size+1+1+1,2,none⟩ (.string p2):=⟨_,rfl⟩;rw[← hw];have M6:=M5.out.store 2 (by decide) p2;rw[show w5.setCell ⟨w.heap.size+3,2,none⟩ (.string p2)=w6 from hw.symm]at M6;have M6:=hid M6;clear hw a0 a1 b0 b1 r0 r1 r2 r3 c0 c1 c2 c3 d0 d1 d2 d3 kz;obtain⟨⟨a0,a1⟩,⟨b0,b1⟩,⟨r0,r1,r2,r3⟩,⟨c0,c1,c2,c3⟩,⟨d0,d1,d2,d3⟩⟩:=M6.out.facts;have kz:=M6.out.2.1;go_wp2_with fail
 refine(C3.out _ (HL.out _ M6.out.1)).mono ?_;rintro e w7 ⟨rfl,hb⟩;have M7:=hid (M6.out.call hb);clear hb a0 a1 b0 b1 r0 r1 r2 r3 c0 c1 c2 c3 d0 d1 d2 d3 kz;obtain⟨⟨a0,a1⟩,⟨b0,b1⟩,⟨r0,r1,r2,r3⟩,⟨c0,c1,c2,c3⟩,⟨d0,d1,d2,d3⟩⟩:=M7.out.facts;have kz:=M7.out.2.1;go_upto_region 7 with fail
 obtain⟨w8,hw⟩:∃ w8:World,w8=w7.setCell ⟨w.heap.size+1+1+1,3,none⟩ (.string p3):=⟨_,rfl⟩;rw[← hw];have M8:=M7.out.store 3 (by decide) p3;rw[show w7.setCell ⟨w.heap.size+3,3,none⟩ (.string p3)=w8 from hw.symm]at M8;have M8:=hid M8;clear hw a0 a1 b0 b1 r0 r1 r2 r3 c0 c1 c2 c3 d0 d1 d2 d3 kz;obtain⟨⟨a0,a1⟩,⟨b0,b1⟩,⟨r0,r1,r2,r3⟩,⟨c0,c1,c2,c3⟩,⟨d0,d1,d2,d3⟩⟩:=M8.out.facts;have kz:=M8.out.2.1;go_wp2_with fail
 rw[rounds_succ];go_wp2_with fail
 refine(C4.out w8 (w.heap.size+1+1+1) (HL.out _ M8.out.1) (by omega) (M8.out.2.2.2 0 (by decide)).1 (M8.out.2.2.2 1 (by decide)).1 (M8.out.2.2.2 2 (by decide)).1 (M8.out.2.2.2 3 (by decide)).1).mono ?_;rintro e w9 ⟨rfl,hb⟩;have M9:=hid (M8.out.call hb);clear hb a0 a1 b0 b1 r0 r1 r2 r3 c0 c1 c2 c3 d0 d1 d2 d3 kz;obtain⟨⟨a0,a1⟩,⟨b0,b1⟩,⟨r0,r1,r2,r3⟩,⟨c0,c1,c2,c3⟩,⟨d0,d1,d2,d3⟩⟩:=M9.out.facts;have kz:=M9.out.2.1;go_wp2;refine bodyPost_ret (v:=.agg #[.string lo,.string hi]) (by simp[results,results109,go_sem,r0,r1]) rfl ⟨rfl,?_⟩;exact(M9.out.1.setCell (p:=⟨w.heap.size+1+1,0,none⟩) (by show w.heap.size≤w.heap.size+1+1;omega) _).setCell (p:=⟨w.heap.size+1+1,1,none⟩) (by show w.heap.size≤w.heap.size+1+1;omega) _
open Go.Lib (hid)
theorem z2d (l1 h1 l2 h2 lo hi:ByteArray)(w:World)(hl:La w)
 (g1:CL 19 #[.agg #[.string l1,.string h1]] (.bool true))
 (g2:CL 19 #[.agg #[.string l2,.string h2]] (.bool true))
 (g3:CL 109 #[.agg #[.string l1,.string h1],.agg #[.string l2,.string h2],.func (.func 51) #[] #[]] (.agg #[.string lo,.string hi])) :
 CR 104 #[.agg #[.string l1,.string h1],.agg #[.string l2,.string h2]] w (.tuple #[.agg #[.string lo,.string hi],.int .i64 0]):=by
 obtain ⟨C1,C2,C3⟩:=ai g1 g2 g3;obtain⟨w0,hw0⟩:∃ w0:World,w0=(((w.alloc (.cells #[.string l1,.string h1] 32)).alloc (.cells #[.string l2,.string h2] 32)).alloc (.cells #[.string ⟨#[]⟩,.string ⟨#[]⟩] 32)):=⟨_,rfl⟩;have hz0:w0.heap.size=w.heap.size+3:=by rw[hw0];simp
 have hB0:Below w.heap.size w w0:=by
  rw[hw0];repeat (first|exact Below.refl _ _|refine Below.setCell ?_ (by first|omega|(simp;omega)|simp) _|refine Below.alloc ?_ (by first|omega|(simp;omega)|simp) _|refine Below.drew ?_)
 have hS0:w0.cell? ⟨w.heap.size,0,none⟩=some (.string l1)∧w0.cell? ⟨w.heap.size,1,none⟩=some (.string h1)∧w0.cell? ⟨w.heap.size+1,0,none⟩=some (.string l2)∧w0.cell? ⟨w.heap.size+1,1,none⟩=some (.string h2):=by rw[hw0];exact⟨((q_lt).trans ((q_lt).trans ((aN).trans rfl))),((q_lt).trans ((q_lt).trans ((aN).trans rfl))),((q_lt).trans ((aN).trans rfl)),((q_lt).trans ((aN).trans rfl))⟩
 have KS:=hid (show ∀ W:World,Below w0.heap.size w0 W→(W.cell? ⟨w.heap.size,0,none⟩=some (.string l1)∧W.cell? ⟨w.heap.size,1,none⟩=some (.string h1)∧W.cell? ⟨w.heap.size+1,0,none⟩=some (.string l2)∧W.cell? ⟨w.heap.size+1,1,none⟩=some (.string h2)) from fun W hB=>by
  obtain⟨c0,c1,c2,c3⟩:=hS0
  exact⟨(hB.cell (p:=⟨w.heap.size,0,none⟩) (by show w.heap.size<_;omega)).trans c0,(hB.cell (p:=⟨w.heap.size,1,none⟩) (by show w.heap.size<_;omega)).trans c1,(hB.cell (p:=⟨w.heap.size+1,0,none⟩) (by show w.heap.size+1<_;omega)).trans c2,(hB.cell (p:=⟨w.heap.size+1,1,none⟩) (by show w.heap.size+1<_;omega)).trans c3⟩)
 have KZ:=hid (show ∀ W:World,Below w0.heap.size w0 W→w.heap.size+3≤W.heap.size from fun W hB=>by have:=hB.size;omega);have KB:=hid (show ∀ W:World,Below w0.heap.size w0 W→Below w.heap.size w W from fun W hB=>hB0.trans (hB.mono (by omega)));have hR0:w0.cell? ⟨w.heap.size+1+1,0,none⟩=some (.string ⟨#[]⟩)∧w0.cell? ⟨w.heap.size+1+1,1,none⟩=some (.string ⟨#[]⟩)∧w0.frozen? ⟨w.heap.size+1+1,0,none⟩=false∧w0.frozen? ⟨w.heap.size+1+1,1,none⟩=false:=by rw[hw0];exact⟨((aN).trans rfl),((aN).trans rfl),(bF),(bF)⟩
 have KR:=hid (show ∀ W:World,Below w0.heap.size w0 W→(W.cell? ⟨w.heap.size+1+1,0,none⟩=some (.string ⟨#[]⟩)∧W.cell? ⟨w.heap.size+1+1,1,none⟩=some (.string ⟨#[]⟩)∧W.frozen? ⟨w.heap.size+1+1,0,none⟩=false∧W.frozen? ⟨w.heap.size+1+1,1,none⟩=false) from fun W hB=>by
  obtain⟨c0,c1,f0,f1⟩:=hR0
  exact⟨(hB.cell (p:=⟨w.heap.size+1+1,0,none⟩) (by show w.heap.size+1+1<_;omega)).trans c0,(hB.cell (p:=⟨w.heap.size+1+1,1,none⟩) (by show w.heap.size+1+1<_;omega)).trans c1,(hB.frozen (p:=⟨w.heap.size+1+1,0,none⟩) (by show w.heap.size+1+1<_;omega)).trans f0,(hB.frozen (p:=⟨w.heap.size+1+1,1,none⟩) (by show w.heap.size+1+1<_;omega)).trans f1⟩)
 clear hR0
 have KT0:=hid (show ∀ (W:World) (v u:Value),Below w0.heap.size w0 W→(((W.setCell ⟨w.heap.size+1+1,0,none⟩ v).setCell ⟨w.heap.size+1+1,1,none⟩ u).cell? ⟨w.heap.size,0,none⟩=some (.string l1)∧((W.setCell ⟨w.heap.size+1+1,0,none⟩ v).setCell ⟨w.heap.size+1+1,1,none⟩ u).cell? ⟨w.heap.size,1,none⟩=some (.string h1)∧((W.setCell ⟨w.heap.size+1+1,0,none⟩ v).setCell ⟨w.heap.size+1+1,1,none⟩ u).cell? ⟨w.heap.size+1,0,none⟩=some (.string l2)∧((W.setCell ⟨w.heap.size+1+1,0,none⟩ v).setCell ⟨w.heap.size+1+1,1,none⟩ u).cell? ⟨w.heap.size+1,1,none⟩=some (.string h2)) from fun W v u hB=>by
  have hh:=KS.out W hB;obtain⟨c0,c1,c2,c3⟩:=hh
  exact⟨(aX (by omega)).trans ((aX (by omega)).trans c0),(aX (by omega)).trans ((aX (by omega)).trans c1),(aX (by omega)).trans ((aX (by omega)).trans c2),(aX (by omega)).trans ((aX (by omega)).trans c3)⟩)
 have F0:=hid (Below.refl w0.heap.size w0);have HW0:=hid hw0;clear hz0 hB0 hS0 hw0;have HL:=hid (show ∀ W:World,Below w0.heap.size w0 W→La W from fun W hB=>hl.on (KB.out W hB));clear hl g1 g2 g3;go_enter func104,ntmps104
 go_wp2_with fail
 rw[← HW0.out];obtain⟨d0,d1,d2,d3⟩:=KS.out _ F0.out;go_wp2_with fail
 refine(C1.out _ (HL.out _ F0.out)).mono ?_;rintro e w1 ⟨rfl,hb⟩;have F1:=hid (ak F0.out hb);clear hb d0 d1 d2 d3;obtain⟨d0,d1,d2,d3⟩:=KS.out _ F1.out;go_wp2_with fail
 refine(C2.out _ (HL.out _ F1.out)).mono ?_;rintro e w2 ⟨rfl,hb⟩;have F2:=hid (ak F1.out hb);clear hb d0 d1 d2 d3;obtain⟨d0,d1,d2,d3⟩:=KS.out _ F2.out;go_wp2_with fail
 refine(C3.out _ (HL.out _ F2.out)).mono ?_;rintro e w3 ⟨rfl,hb⟩;have F3:=hid (ak F2.out hb);clear hb d0 d1 d2 d3;obtain⟨d0,d1,d2,d3⟩:=KS.out _ F3.out
 all_goals
  obtain⟨m0,m1,n0,n1⟩:=KR.out _ F3.out;have hz:=KZ.out _ F3.out;go_wp2;refine bodyPost_ret (v:=.tuple #[.agg #[.string lo,.string hi],.int .i64 0]) (by simp[results,results104,go_sem,m0,m1]) rfl ⟨rfl,?_⟩;repeat (first|exact KB.out _ F3.out|refine Below.setCell ?_ (by first|omega|(simp;omega)|simp) _|refine Below.alloc ?_ (by first|omega|(simp;omega)|simp) _|refine Below.drew ?_)
theorem z2f (l1 h1 l2 h2 lo hi:ByteArray)(w:World)(hl:La w)
 (g1:CL 19 #[.agg #[.string l1,.string h1]] (.bool true))
 (g2:CL 19 #[.agg #[.string l2,.string h2]] (.bool true))
 (g3:CL 47 #[.agg #[.string l2,.string h2],.string ⟨#[48]⟩] (.bool false))
 (g4:CL 109 #[.agg #[.string l1,.string h1],.agg #[.string l2,.string h2],.func (.func 31) #[] #[]] (.agg #[.string lo,.string hi])) :
 CR 75 #[.agg #[.string l1,.string h1],.agg #[.string l2,.string h2]] w (.tuple #[.agg #[.string lo,.string hi],.int .i64 0]):=by
 obtain ⟨C1,C2,C3,C4⟩:=aG g1 g2 g3 g4;obtain⟨w0,hw0⟩:∃ w0:World,w0=(((w.alloc (.cells #[.string l1,.string h1] 32)).alloc (.cells #[.string l2,.string h2] 32)).alloc (.cells #[.string ⟨#[]⟩,.string ⟨#[]⟩] 32)):=⟨_,rfl⟩;have hz0:w0.heap.size=w.heap.size+3:=by rw[hw0];simp
 have hB0:Below w.heap.size w w0:=by
  rw[hw0];repeat (first|exact Below.refl _ _|refine Below.setCell ?_ (by first|omega|(simp;omega)|simp) _|refine Below.alloc ?_ (by first|omega|(simp;omega)|simp) _|refine Below.drew ?_)
 have hS0:w0.cell? ⟨w.heap.size,0,none⟩=some (.string l1)∧w0.cell? ⟨w.heap.size,1,none⟩=some (.string h1)∧w0.cell? ⟨w.heap.size+1,0,none⟩=some (.string l2)∧w0.cell? ⟨w.heap.size+1,1,none⟩=some (.string h2):=by rw[hw0];exact⟨((q_lt).trans ((q_lt).trans ((aN).trans rfl))),((q_lt).trans ((q_lt).trans ((aN).trans rfl))),((q_lt).trans ((aN).trans rfl)),((q_lt).trans ((aN).trans rfl))⟩
 have KS:=hid (show ∀ W:World,Below w0.heap.size w0 W→(W.cell? ⟨w.heap.size,0,none⟩=some (.string l1)∧W.cell? ⟨w.heap.size,1,none⟩=some (.string h1)∧W.cell? ⟨w.heap.size+1,0,none⟩=some (.string l2)∧W.cell? ⟨w.heap.size+1,1,none⟩=some (.string h2)) from fun W hB=>by
  obtain⟨c0,c1,c2,c3⟩:=hS0
  exact⟨(hB.cell (p:=⟨w.heap.size,0,none⟩) (by show w.heap.size<_;omega)).trans c0,(hB.cell (p:=⟨w.heap.size,1,none⟩) (by show w.heap.size<_;omega)).trans c1,(hB.cell (p:=⟨w.heap.size+1,0,none⟩) (by show w.heap.size+1<_;omega)).trans c2,(hB.cell (p:=⟨w.heap.size+1,1,none⟩) (by show w.heap.size+1<_;omega)).trans c3⟩)
 have KZ:=hid (show ∀ W:World,Below w0.heap.size w0 W→w.heap.size+3≤W.heap.size from fun W hB=>by have:=hB.size;omega);have KB:=hid (show ∀ W:World,Below w0.heap.size w0 W→Below w.heap.size w W from fun W hB=>hB0.trans (hB.mono (by omega)));have hR0:w0.cell? ⟨w.heap.size+1+1,0,none⟩=some (.string ⟨#[]⟩)∧w0.cell? ⟨w.heap.size+1+1,1,none⟩=some (.string ⟨#[]⟩)∧w0.frozen? ⟨w.heap.size+1+1,0,none⟩=false∧w0.frozen? ⟨w.heap.size+1+1,1,none⟩=false:=by rw[hw0];exact⟨((aN).trans rfl),((aN).trans rfl),(bF),(bF)⟩
 have KR:=hid (show ∀ W:World,Below w0.heap.size w0 W→(W.cell? ⟨w.heap.size+1+1,0,none⟩=some (.string ⟨#[]⟩)∧W.cell? ⟨w.heap.size+1+1,1,none⟩=some (.string ⟨#[]⟩)∧W.frozen? ⟨w.heap.size+1+1,0,none⟩=false∧W.frozen? ⟨w.heap.size+1+1,1,none⟩=false) from fun W hB=>by
  obtain⟨c0,c1,f0,f1⟩:=hR0
  exact⟨(hB.cell (p:=⟨w.heap.size+1+1,0,none⟩) (by show w.heap.size+1+1<_;omega)).trans c0,(hB.cell (p:=⟨w.heap.size+1+1,1,none⟩) (by show w.heap.size+1+1<_;omega)).trans c1,(hB.frozen (p:=⟨w.heap.size+1+1,0,none⟩) (by show w.heap.size+1+1<_;omega)).trans f0,(hB.frozen (p:=⟨w.heap.size+1+1,1,none⟩) (by show w.heap.size+1+1<_;omega)).trans f1⟩)
 clear hR0
 have KT0:=hid (show ∀ (W:World) (v u:Value),Below w0.heap.size w0 W→(((W.setCell ⟨w.heap.size+1+1,0,none⟩ v).setCell ⟨w.heap.size+1+1,1,none⟩ u).cell? ⟨w.heap.size,0,none⟩=some (.string l1)∧((W.setCell ⟨w.heap.size+1+1,0,none⟩ v).setCell ⟨w.heap.size+1+1,1,none⟩ u).cell? ⟨w.heap.size,1,none⟩=some (.string h1)∧((W.setCell ⟨w.heap.size+1+1,0,none⟩ v).setCell ⟨w.heap.size+1+1,1,none⟩ u).cell? ⟨w.heap.size+1,0,none⟩=some (.string l2)∧((W.setCell ⟨w.heap.size+1+1,0,none⟩ v).setCell ⟨w.heap.size+1+1,1,none⟩ u).cell? ⟨w.heap.size+1,1,none⟩=some (.string h2)) from fun W v u hB=>by
  have hh:=KS.out W hB;obtain⟨c0,c1,c2,c3⟩:=hh
  exact⟨(aX (by omega)).trans ((aX (by omega)).trans c0),(aX (by omega)).trans ((aX (by omega)).trans c1),(aX (by omega)).trans ((aX (by omega)).trans c2),(aX (by omega)).trans ((aX (by omega)).trans c3)⟩)
 have F0:=hid (Below.refl w0.heap.size w0);have HW0:=hid hw0;clear hz0 hB0 hS0 hw0;have HL:=hid (show ∀ W:World,Below w0.heap.size w0 W→La W from fun W hB=>hl.on (KB.out W hB));clear hl g1 g2 g3 g4;go_enter func75,ntmps75
 go_wp2_with fail
 rw[← HW0.out];obtain⟨d0,d1,d2,d3⟩:=KS.out _ F0.out;go_wp2_with fail
 refine(C1.out _ (HL.out _ F0.out)).mono ?_;rintro e w1 ⟨rfl,hb⟩;have F1:=hid (ak F0.out hb);clear hb d0 d1 d2 d3;obtain⟨d0,d1,d2,d3⟩:=KS.out _ F1.out;go_wp2_with fail
 refine(C2.out _ (HL.out _ F1.out)).mono ?_;rintro e w2 ⟨rfl,hb⟩;have F2:=hid (ak F1.out hb);clear hb d0 d1 d2 d3;obtain⟨d0,d1,d2,d3⟩:=KS.out _ F2.out;go_wp2_with fail
 refine(C3.out _ (HL.out _ F2.out)).mono ?_;rintro e w3 ⟨rfl,hb⟩;have F3:=hid (ak F2.out hb);clear hb d0 d1 d2 d3;obtain⟨d0,d1,d2,d3⟩:=KS.out _ F3.out;go_wp2_with fail
 refine(C4.out _ (HL.out _ F3.out)).mono ?_;rintro e w4 ⟨rfl,hb⟩;have F4:=hid (ak F3.out hb);clear hb d0 d1 d2 d3;obtain⟨d0,d1,d2,d3⟩:=KS.out _ F4.out
 all_goals
  obtain⟨m0,m1,n0,n1⟩:=KR.out _ F4.out;have hz:=KZ.out _ F4.out;go_wp2;refine bodyPost_ret (v:=.tuple #[.agg #[.string lo,.string hi],.int .i64 0]) (by simp[results,results75,go_sem,m0,m1]) rfl ⟨rfl,?_⟩;repeat (first|exact KB.out _ F4.out|refine Below.setCell ?_ (by first|omega|(simp;omega)|simp) _|refine Below.alloc ?_ (by first|omega|(simp;omega)|simp) _|refine Below.drew ?_)
theorem xP (x:ByteArray)(w:World)(hl:La w)
 (g1:CL 45 #[.string x] (.bool true)) :
 CR 130 #[.string x] w (.tuple #[.agg #[.string x,.string x],.int .i64 0]):=by
 have C1:=hid g1;obtain⟨w0,hw0⟩:∃ w0:World,w0=(w.alloc (.cells #[.string ⟨#[]⟩,.string ⟨#[]⟩] 32)):=⟨_,rfl⟩;have hz0:w0.heap.size=w.heap.size+1:=by rw[hw0];simp
 have hB0:Below w.heap.size w w0:=by
  rw[hw0];repeat (first|exact Below.refl _ _|refine Below.setCell ?_ (by first|omega|(simp;omega)|simp) _|refine Below.alloc ?_ (by first|omega|(simp;omega)|simp) _|refine Below.drew ?_)
 have hS0:w0.cell? ⟨w.heap.size,0,none⟩=some (.string ⟨#[]⟩)∧w0.cell? ⟨w.heap.size,1,none⟩=some (.string ⟨#[]⟩):=by rw[hw0];exact⟨((aN).trans rfl),((aN).trans rfl)⟩
 have KS:=hid (show ∀ W:World,Below w0.heap.size w0 W→(W.cell? ⟨w.heap.size,0,none⟩=some (.string ⟨#[]⟩)∧W.cell? ⟨w.heap.size,1,none⟩=some (.string ⟨#[]⟩)) from fun W hB=>by
  obtain⟨c0,c1⟩:=hS0
  exact⟨(hB.cell (p:=⟨w.heap.size,0,none⟩) (by show w.heap.size<_;omega)).trans c0,(hB.cell (p:=⟨w.heap.size,1,none⟩) (by show w.heap.size<_;omega)).trans c1⟩)
 have KZ:=hid (show ∀ W:World,Below w0.heap.size w0 W→w.heap.size+1≤W.heap.size from fun W hB=>by have:=hB.size;omega);have KB:=hid (show ∀ W:World,Below w0.heap.size w0 W→Below w.heap.size w W from fun W hB=>hB0.trans (hB.mono (by omega)));have hR0:w0.cell? ⟨w.heap.size,0,none⟩=some (.string ⟨#[]⟩)∧w0.cell? ⟨w.heap.size,1,none⟩=some (.string ⟨#[]⟩)∧w0.frozen? ⟨w.heap.size,0,none⟩=false∧w0.frozen? ⟨w.heap.size,1,none⟩=false:=by rw[hw0];exact⟨((aN).trans rfl),((aN).trans rfl),(bF),(bF)⟩
 have KR:=hid (show ∀ W:World,Below w0.heap.size w0 W→(W.cell? ⟨w.heap.size,0,none⟩=some (.string ⟨#[]⟩)∧W.cell? ⟨w.heap.size,1,none⟩=some (.string ⟨#[]⟩)∧W.frozen? ⟨w.heap.size,0,none⟩=false∧W.frozen? ⟨w.heap.size,1,none⟩=false) from fun W hB=>by
  obtain⟨c0,c1,f0,f1⟩:=hR0
  exact⟨(hB.cell (p:=⟨w.heap.size,0,none⟩) (by show w.heap.size<_;omega)).trans c0,(hB.cell (p:=⟨w.heap.size,1,none⟩) (by show w.heap.size<_;omega)).trans c1,(hB.frozen (p:=⟨w.heap.size,0,none⟩) (by show w.heap.size<_;omega)).trans f0,(hB.frozen (p:=⟨w.heap.size,1,none⟩) (by show w.heap.size<_;omega)).trans f1⟩)
 clear hR0;have F0:=hid (Below.refl w0.heap.size w0);have HW0:=hid hw0;clear hz0 hB0 hS0 hw0;have HL:=hid (show ∀ W:World,Below w0.heap.size w0 W→La W from fun W hB=>hl.on (KB.out W hB));clear hl g1;go_enter func130,ntmps130
 go_wp2_with fail
 rw[← HW0.out];obtain⟨d0,d1⟩:=KS.out _ F0.out;go_wp2_with fail
 refine(C1.out _ (HL.out _ F0.out)).mono ?_;rintro e w1 ⟨rfl,hb⟩;have F1:=hid (ak F0.out hb);clear hb d0 d1;obtain⟨d0,d1⟩:=KS.out _ F1.out
 all_goals
  obtain⟨m0,m1,n0,n1⟩:=KR.out _ F1.out;have hz:=KZ.out _ F1.out;go_wp2;refine bodyPost_ret (v:=.tuple #[.agg #[.string x,.string x],.int .i64 0]) (by simp[results,results130,go_sem,m0,m1]) rfl ⟨rfl,?_⟩;repeat (first|exact KB.out _ F1.out|refine Below.setCell ?_ (by first|omega|(simp;omega)|simp) _|refine Below.alloc ?_ (by first|omega|(simp;omega)|simp) _|refine Below.drew ?_)
end Go.Proofs.YtodcdibanokjjaaGreatDoor
