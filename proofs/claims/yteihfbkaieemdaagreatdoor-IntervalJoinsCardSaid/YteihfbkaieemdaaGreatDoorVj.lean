/- texts -/
import Derived.Test.YteihfbkaieemdaaGreatDoorMz40q
set_option maxRecDepth 100000
set_option maxHeartbeats 20000000
open Go.Lib (hid)
namespace Go.Proofs.YteihfbkaieemdaaGreatDoor
open Go.RowKit Go.Gb
theorem tT (l1 h1 l2 h2 a1 lo hi a2:ByteArray)(c:Int)(bb:Bool)(hc:decide (0<c)=bb)(w:World)(hl:La w)
 (g1:CL 27 #[.agg #[.string l1,.string h1]] (.bool true))
 (g2:CL 27 #[.agg #[.string l2,.string h2]] (.bool true))
 (g3:∀ W g,La W→g<W.heap.size→W.cell? ⟨g,0,none⟩=some (.string l1)→W.cell? ⟨g,1,none⟩=some (.string l2)→CR 45 #[.slice (some ⟨g,0,none⟩) 2 2] W (.agg #[.string a1,.string lo]))
 (g4:∀ W g,La W→g<W.heap.size→W.cell? ⟨g,0,none⟩=some (.string h1)→W.cell? ⟨g,1,none⟩=some (.string h2)→CR 45 #[.slice (some ⟨g,0,none⟩) 2 2] W (.agg #[.string hi,.string a2]))
 (g5:CL 51 #[.string lo,.string hi] (.int .i64 c)) :
 CR 17 #[.agg #[.string l1,.string h1],.agg #[.string l2,.string h2]] w (cond bb (.tuple #[.agg #[.string ⟨#[]⟩,.string ⟨#[]⟩],.bool false]) (.tuple #[.agg #[.string lo,.string hi],.bool true])):=by
 cases bb<;>(
  have fd1:∀ W:World,(Instr.field 24 (.agg #[.string a1,.string lo]) 1).run Tryz.prog W=.ok (.string lo) W:=fun _=>by kernel_rfl
  have fd0:∀ W:World,(Instr.field 24 (.agg #[.string hi,.string a2]) 0).run Tryz.prog W=.ok (.string hi) W:=fun _=>by kernel_rfl
  obtain ⟨C1,C2,C3,C4,C5⟩:=bI g1 g2 g3 g4 g5;obtain⟨w0,hw0⟩:∃ w0:World,w0=(((w.alloc (.cells #[.string l1,.string h1] 24)).alloc (.cells #[.string l2,.string h2] 24)).alloc (.cells #[.string ⟨#[]⟩,.string ⟨#[]⟩] 24)):=⟨_,rfl⟩;have hz0:w0.heap.size=w.heap.size+3:=by rw[hw0];simp
  have hB0:Below w.heap.size w w0:=by
   rw[hw0];repeat (first|exact Below.refl _ _|refine Below.setCell ?_ (by first|omega|(simp;omega)|simp) _|refine Below.alloc ?_ (by first|omega|(simp;omega)|simp) _|refine Below.drew ?_)
  have hS0:w0.cell? ⟨w.heap.size,0,none⟩=some (.string l1)∧w0.cell? ⟨w.heap.size,1,none⟩=some (.string h1)∧w0.cell? ⟨w.heap.size+1,0,none⟩=some (.string l2)∧w0.cell? ⟨w.heap.size+1,1,none⟩=some (.string h2):=by rw[hw0];exact⟨((q_lt).trans ((q_lt).trans ((aC).trans rfl))),((q_lt).trans ((q_lt).trans ((aC).trans rfl))),((q_lt).trans ((aC).trans rfl)),((q_lt).trans ((aC).trans rfl))⟩
  have KS:=hid (show ∀ W:World,Below w0.heap.size w0 W→(W.cell? ⟨w.heap.size,0,none⟩=some (.string l1)∧W.cell? ⟨w.heap.size,1,none⟩=some (.string h1)∧W.cell? ⟨w.heap.size+1,0,none⟩=some (.string l2)∧W.cell? ⟨w.heap.size+1,1,none⟩=some (.string h2)) from fun W hB=>by
   obtain⟨c0,c1,c2,c3⟩:=hS0
   exact⟨(hB.cell (p:=⟨w.heap.size,0,none⟩) (by show w.heap.size<_;omega)).trans c0,(hB.cell (p:=⟨w.heap.size,1,none⟩) (by show w.heap.size<_;omega)).trans c1,(hB.cell (p:=⟨w.heap.size+1,0,none⟩) (by show w.heap.size+1<_;omega)).trans c2,(hB.cell (p:=⟨w.heap.size+1,1,none⟩) (by show w.heap.size+1<_;omega)).trans c3⟩)
  have KZ:=hid (show ∀ W:World,Below w0.heap.size w0 W→w.heap.size+3≤W.heap.size from fun W hB=>by have:=hB.size;omega);have KB:=hid (show ∀ W:World,Below w0.heap.size w0 W→Below w.heap.size w W from fun W hB=>hB0.trans (hB.mono (by omega)));have hR0:w0.cell? ⟨w.heap.size+1+1,0,none⟩=some (.string ⟨#[]⟩)∧w0.cell? ⟨w.heap.size+1+1,1,none⟩=some (.string ⟨#[]⟩)∧w0.frozen? ⟨w.heap.size+1+1,0,none⟩=false∧w0.frozen? ⟨w.heap.size+1+1,1,none⟩=false:=by rw[hw0];exact⟨((aC).trans rfl),((aC).trans rfl),(aX),(aX)⟩
  have KR:=hid (show ∀ W:World,Below w0.heap.size w0 W→(W.cell? ⟨w.heap.size+1+1,0,none⟩=some (.string ⟨#[]⟩)∧W.cell? ⟨w.heap.size+1+1,1,none⟩=some (.string ⟨#[]⟩)∧W.frozen? ⟨w.heap.size+1+1,0,none⟩=false∧W.frozen? ⟨w.heap.size+1+1,1,none⟩=false) from fun W hB=>by
   obtain⟨c0,c1,f0,f1⟩:=hR0
   exact⟨(hB.cell (p:=⟨w.heap.size+1+1,0,none⟩) (by show w.heap.size+1+1<_;omega)).trans c0,(hB.cell (p:=⟨w.heap.size+1+1,1,none⟩) (by show w.heap.size+1+1<_;omega)).trans c1,(hB.frozen (p:=⟨w.heap.size+1+1,0,none⟩) (by show w.heap.size+1+1<_;omega)).trans f0,(hB.frozen (p:=⟨w.heap.size+1+1,1,none⟩) (by show w.heap.size+1+1<_;omega)).trans f1⟩)
  clear hR0
  have KT0:=hid (show ∀ (W:World) (v u:Value),Below w0.heap.size w0 W→(((W.setCell ⟨w.heap.size+1+1,0,none⟩ v).setCell ⟨w.heap.size+1+1,1,none⟩ u).cell? ⟨w.heap.size,0,none⟩=some (.string l1)∧((W.setCell ⟨w.heap.size+1+1,0,none⟩ v).setCell ⟨w.heap.size+1+1,1,none⟩ u).cell? ⟨w.heap.size,1,none⟩=some (.string h1)∧((W.setCell ⟨w.heap.size+1+1,0,none⟩ v).setCell ⟨w.heap.size+1+1,1,none⟩ u).cell? ⟨w.heap.size+1,0,none⟩=some (.string l2)∧((W.setCell ⟨w.heap.size+1+1,0,none⟩ v).setCell ⟨w.heap.size+1+1,1,none⟩ u).cell? ⟨w.heap.size+1,1,none⟩=some (.string h2)) from fun W v u hB=>by
   have hh:=KS.o W hB;obtain⟨c0,c1,c2,c3⟩:=hh
   exact⟨(aQ (by omega)).trans ((aQ (by omega)).trans c0),(aQ (by omega)).trans ((aQ (by omega)).trans c1),(aQ (by omega)).trans ((aQ (by omega)).trans c2),(aQ (by omega)).trans ((aQ (by omega)).trans c3)⟩)
  have F0:=hid (Below.refl w0.heap.size w0);have HW0:=hid hw0;clear hz0 hB0 hS0 hw0;have HL:=hid (show ∀ W:World,Below w0.heap.size w0 W→La W from fun W hB=>hl.on (KB.o W hB));clear hl g1 g2 g3 g4 g5;go_enter Tryz.func17,Tryz.ntmps17
  go_wp2_with fail
  rw[← HW0.o];obtain⟨d0,d1,d2,d3⟩:=KS.o _ F0.o;go_wp2_with fail
  refine(C1.o _ (HL.o _ F0.o)).mono ?_;rintro e w1 ⟨rfl,hb⟩;have F1:=hid (ai F0.o hb);clear hb d0 d1 d2 d3;obtain⟨d0,d1,d2,d3⟩:=KS.o _ F1.o;go_wp2_with fail
  refine(C2.o _ (HL.o _ F1.o)).mono ?_;rintro e w2 ⟨rfl,hb⟩;have F2:=hid (ai F1.o hb);clear hb d0 d1 d2 d3;obtain⟨d0,d1,d2,d3⟩:=KS.o _ F2.o;go_upto_region 3 with fail
  refine ou (by kernel_rfl) 16 (fun i=>if i=15 then 6 else 16+i) (SlR w0.heap.size [.val (.pointer (some ⟨w.heap.size,0,none⟩)),.val (.string l1),.val (.pointer (some ⟨w.heap.size+1,0,none⟩)),.val (.string l2),.row [.string l1,.string l2],.val (.agg #[.string a1,.string lo]),.val (.string lo),.val (.pointer (some ⟨w.heap.size,1,none⟩)),.val (.string h1),.val (.pointer (some ⟨w.heap.size+1,1,none⟩)),.val (.string h2),.row [.string h1,.string h2],.val (.agg #[.string hi,.string a2]),.val (.string hi),.val (.agg #[.string lo,.string hi]),.ptr [.string ⟨#[]⟩,.string ⟨#[]⟩]]) (fun W=>Below w0.heap.size w0 W) (by kernel_rfl) (by kernel_rfl) (by kernel_rfl) F2.o.drew ?_ ?_
  · intro w9 a W i hI hrd him
    have HI:=hid hI;have Hi:=fun(j:Nat) (h:i=j)=>(hid (h▸hrd):Hid (j∈_));clear hI hrd d0 d1 d2 d3
    match i,him with
    | 0,_ =>
      have Hi:=Hi 0 rfl;have y:a.tmps[2]? = some (.pointer (some ⟨w.heap.size,0,none⟩)):=HI.o.rest 2 (by intro j hj;(try dsimp only);split<;>omega);refine wpOp_step rfl (fun K' hK=>?_);have hK:=hid hK;go_simp;exact hK.o _ _ (HI.o.put Hi.o (by decide) rfl (by simp) (by intro j hj h;(try dsimp only at h);split at h<;>omega) (rfl) (fun j u h=>h) (HI.o.world))
    | 1,_ =>
      have Hi:=Hi 1 rfl
      have x0:a.tmps[16]? = some (.pointer (some ⟨w.heap.size,0,none⟩)):=by
       obtain⟨v,y,e⟩:=HI.o.at (i:=0) Hi.o (by kernel_rfl) (by decide);obtain rfl:v=(.pointer (some ⟨w.heap.size,0,none⟩)):=e;exact y
      obtain⟨d0,d1,d2,d3⟩:=KS.o W HI.o.world;refine wpOp_step rfl (fun K' hK=>?_);have hK:=hid hK;go_simp;exact hK.o _ _ (HI.o.put Hi.o (by decide) rfl (by simp) (by intro j hj h;(try dsimp only at h);split at h<;>omega) (rfl) (fun j u h=>h) (HI.o.world))
    | 2,_ =>
      have Hi:=Hi 2 rfl;have y:a.tmps[3]? = some (.pointer (some ⟨w.heap.size+1,0,none⟩)):=HI.o.rest 3 (by intro j hj;(try dsimp only);split<;>omega);refine wpOp_step rfl (fun K' hK=>?_);have hK:=hid hK;go_simp;exact hK.o _ _ (HI.o.put Hi.o (by decide) rfl (by simp) (by intro j hj h;(try dsimp only at h);split at h<;>omega) (rfl) (fun j u h=>h) (HI.o.world))
    | 3,_ =>
      have Hi:=Hi 3 rfl
      have x2:a.tmps[18]? = some (.pointer (some ⟨w.heap.size+1,0,none⟩)):=by
       obtain⟨v,y,e⟩:=HI.o.at (i:=2) Hi.o (by kernel_rfl) (by decide);obtain rfl:v=(.pointer (some ⟨w.heap.size+1,0,none⟩)):=e;exact y
      obtain⟨d0,d1,d2,d3⟩:=KS.o W HI.o.world;refine wpOp_step rfl (fun K' hK=>?_);have hK:=hid hK;go_simp;exact hK.o _ _ (HI.o.put Hi.o (by decide) rfl (by simp) (by intro j hj h;(try dsimp only at h);split at h<;>omega) (rfl) (fun j u h=>h) (HI.o.world))
    | 4,_ =>
      have Hi:=Hi 4 rfl
      have x1:a.tmps[17]? = some (.string l1):=by
       obtain⟨v,y,e⟩:=HI.o.at (i:=1) Hi.o (by kernel_rfl) (by decide);obtain rfl:v=(.string l1):=e;exact y
      have x3:a.tmps[19]? = some (.string l2):=by
       obtain⟨v,y,e⟩:=HI.o.at (i:=3) Hi.o (by kernel_rfl) (by decide);obtain rfl:v=(.string l2):=e;exact y
      refine wpOp_step rfl (fun K' hK=>?_);have hK:=hid hK;go_simp;have hb:=(Below.refl W.heap.size W).alloc (Nat.le_refl _) (.cells #[.string l1,.string l2] 22);refine hK.o _ _ (HI.o.put Hi.o (by decide) rfl (by simp) (by intro j hj h;(try dsimp only at h);split at h<;>omega) (⟨W.heap.size,rfl,HI.o.world.size,by simp,fun i x hx=>?_⟩) (fun j u h=>SlR.mono hb j u h) (HI.o.world.alloc HI.o.world.size _))
      match i,hx with
      | 0,hx=>simp at hx;subst hx;exact(aC rfl).trans rfl
      | 1,hx=>simp at hx;subst hx;exact(aC rfl).trans rfl
      | n+2,hx=>simp at hx
    | 5,_ =>
      have Hi:=Hi 5 rfl;obtain⟨v,x4,g,e,g1,g2,g3⟩:=HI.o.at (i:=4) Hi.o (by kernel_rfl) (by decide);obtain rfl:=e;have k0:=g3 0 _ rfl;have k1:=g3 1 _ rfl;clear g3;have x4:a.tmps[20]? = some (.slice (some ⟨g,0,none⟩) 2 2):=x4;refine wpOp_step rfl (fun K' hK=>?_);have hK:=hid hK;go_simp;refine(C3.o W g (HL.o W HI.o.world) g2 k0 k1).mono ?_;rintro e W' ⟨rfl,hb⟩;exact hK.o _ _ (HI.o.put Hi.o (by decide) rfl (by simp) (by intro j hj h;(try dsimp only at h);split at h<;>omega) (rfl) (fun j u h=>SlR.mono hb j u h) (ai HI.o.world hb))
    | 6,_ =>
      have Hi:=Hi 6 rfl
      have x5:a.tmps[21]? = some (.agg #[.string a1,.string lo]):=by
       obtain⟨v,y,e⟩:=HI.o.at (i:=5) Hi.o (by kernel_rfl) (by decide);obtain rfl:v=(.agg #[.string a1,.string lo]):=e;exact y
      refine wpOp_step rfl (fun K' hK=>?_);have hK:=hid hK;go_simp;exact hK.o _ _ (HI.o.put Hi.o (by decide) rfl (by simp) (by intro j hj h;(try dsimp only at h);split at h<;>omega) (rfl) (fun j u h=>h) (HI.o.world))
    | 7,_ =>
      have Hi:=Hi 7 rfl;have y:a.tmps[2]? = some (.pointer (some ⟨w.heap.size,0,none⟩)):=HI.o.rest 2 (by intro j hj;(try dsimp only);split<;>omega);refine wpOp_step rfl (fun K' hK=>?_);have hK:=hid hK;go_simp;exact hK.o _ _ (HI.o.put Hi.o (by decide) rfl (by simp) (by intro j hj h;(try dsimp only at h);split at h<;>omega) (rfl) (fun j u h=>h) (HI.o.world))
    | 8,_ =>
      have Hi:=Hi 8 rfl
      have x7:a.tmps[23]? = some (.pointer (some ⟨w.heap.size,1,none⟩)):=by
       obtain⟨v,y,e⟩:=HI.o.at (i:=7) Hi.o (by kernel_rfl) (by decide);obtain rfl:v=(.pointer (some ⟨w.heap.size,1,none⟩)):=e;exact y
      obtain⟨d0,d1,d2,d3⟩:=KS.o W HI.o.world;refine wpOp_step rfl (fun K' hK=>?_);have hK:=hid hK;go_simp;exact hK.o _ _ (HI.o.put Hi.o (by decide) rfl (by simp) (by intro j hj h;(try dsimp only at h);split at h<;>omega) (rfl) (fun j u h=>h) (HI.o.world))
    | 9,_ =>
      have Hi:=Hi 9 rfl;have y:a.tmps[3]? = some (.pointer (some ⟨w.heap.size+1,0,none⟩)):=HI.o.rest 3 (by intro j hj;(try dsimp only);split<;>omega);refine wpOp_step rfl (fun K' hK=>?_);have hK:=hid hK;go_simp;exact hK.o _ _ (HI.o.put Hi.o (by decide) rfl (by simp) (by intro j hj h;(try dsimp only at h);split at h<;>omega) (rfl) (fun j u h=>h) (HI.o.world))
    | 10,_ =>
      have Hi:=Hi 10 rfl
      have x9:a.tmps[25]? = some (.pointer (some ⟨w.heap.size+1,1,none⟩)):=by
       obtain⟨v,y,e⟩:=HI.o.at (i:=9) Hi.o (by kernel_rfl) (by decide);obtain rfl:v=(.pointer (some ⟨w.heap.size+1,1,none⟩)):=e;exact y
      obtain⟨d0,d1,d2,d3⟩:=KS.o W HI.o.world;refine wpOp_step rfl (fun K' hK=>?_);have hK:=hid hK;go_simp;exact hK.o _ _ (HI.o.put Hi.o (by decide) rfl (by simp) (by intro j hj h;(try dsimp only at h);split at h<;>omega) (rfl) (fun j u h=>h) (HI.o.world))
    | 11,_ =>
      have Hi:=Hi 11 rfl
      have x8:a.tmps[24]? = some (.string h1):=by
       obtain⟨v,y,e⟩:=HI.o.at (i:=8) Hi.o (by kernel_rfl) (by decide);obtain rfl:v=(.string h1):=e;exact y
      have x10:a.tmps[26]? = some (.string h2):=by
       obtain⟨v,y,e⟩:=HI.o.at (i:=10) Hi.o (by kernel_rfl) (by decide);obtain rfl:v=(.string h2):=e;exact y
      refine wpOp_step rfl (fun K' hK=>?_);have hK:=hid hK;go_simp;have hb:=(Below.refl W.heap.size W).alloc (Nat.le_refl _) (.cells #[.string h1,.string h2] 22);refine hK.o _ _ (HI.o.put Hi.o (by decide) rfl (by simp) (by intro j hj h;(try dsimp only at h);split at h<;>omega) (⟨W.heap.size,rfl,HI.o.world.size,by simp,fun i x hx=>?_⟩) (fun j u h=>SlR.mono hb j u h) (HI.o.world.alloc HI.o.world.size _))
      match i,hx with
      | 0,hx=>simp at hx;subst hx;exact(aC rfl).trans rfl
      | 1,hx=>simp at hx;subst hx;exact(aC rfl).trans rfl
      | n+2,hx=>simp at hx
    | 12,_ =>
      have Hi:=Hi 12 rfl;obtain⟨v,x11,g,e,g1,g2,g3⟩:=HI.o.at (i:=11) Hi.o (by kernel_rfl) (by decide);obtain rfl:=e;have k0:=g3 0 _ rfl;have k1:=g3 1 _ rfl;clear g3;have x11:a.tmps[27]? = some (.slice (some ⟨g,0,none⟩) 2 2):=x11;refine wpOp_step rfl (fun K' hK=>?_);have hK:=hid hK;go_simp;refine(C4.o W g (HL.o W HI.o.world) g2 k0 k1).mono ?_;rintro e W' ⟨rfl,hb⟩;exact hK.o _ _ (HI.o.put Hi.o (by decide) rfl (by simp) (by intro j hj h;(try dsimp only at h);split at h<;>omega) (rfl) (fun j u h=>SlR.mono hb j u h) (ai HI.o.world hb))
    | 13,_ =>
      have Hi:=Hi 13 rfl
      have x12:a.tmps[28]? = some (.agg #[.string hi,.string a2]):=by
       obtain⟨v,y,e⟩:=HI.o.at (i:=12) Hi.o (by kernel_rfl) (by decide);obtain rfl:v=(.agg #[.string hi,.string a2]):=e;exact y
      refine wpOp_step rfl (fun K' hK=>?_);have hK:=hid hK;go_simp;exact hK.o _ _ (HI.o.put Hi.o (by decide) rfl (by simp) (by intro j hj h;(try dsimp only at h);split at h<;>omega) (rfl) (fun j u h=>h) (HI.o.world))
    | 14,_ =>
      have Hi:=Hi 14 rfl
      have x6:a.tmps[22]? = some (.string lo):=by
       obtain⟨v,y,e⟩:=HI.o.at (i:=6) Hi.o (by kernel_rfl) (by decide);obtain rfl:v=(.string lo):=e;exact y
      have x13:a.tmps[29]? = some (.string hi):=by
       obtain⟨v,y,e⟩:=HI.o.at (i:=13) Hi.o (by kernel_rfl) (by decide);obtain rfl:v=(.string hi):=e;exact y
      refine wpOp_step rfl (fun K' hK=>?_);have hK:=hid hK;go_simp;exact hK.o _ _ (HI.o.put Hi.o (by decide) rfl (by simp) (by intro j hj h;(try dsimp only at h);split at h<;>omega) (rfl) (fun j u h=>h) (HI.o.world))
    | 15,_ =>
      have Hi:=Hi 15 rfl;refine wpOp_step rfl (fun K' hK=>?_);have hK:=hid hK;go_simp;have hb:=(Below.refl W.heap.size W).alloc (Nat.le_refl _) (.cells #[.string ⟨#[]⟩,.string ⟨#[]⟩] 24);refine hK.o _ _ (HI.o.put Hi.o (by decide) rfl (by simp) (by intro j hj h;(try dsimp only at h);split at h<;>omega) (⟨W.heap.size,rfl,HI.o.world.size,by simp,fun i x hx=>?_,fun i x hx=>?_⟩) (fun j u h=>SlR.mono hb j u h) (HI.o.world.alloc HI.o.world.size _))
      · match i,hx with
        | 0,hx=>simp at hx;subst hx;exact(aC rfl).trans rfl
        | 1,hx=>simp at hx;subst hx;exact(aC rfl).trans rfl
        | n+2,hx=>simp at hx
      · exact aX rfl
    | n+16,h=>exact absurd h (by omega)
  intro w9 a W hI u6;obtain⟨v0,x0,e0⟩:=hI.slots 0 (by decide) (u6 0 (by decide));obtain rfl:v0=(.pointer (some ⟨w.heap.size,0,none⟩)):=e0;obtain⟨v1,x1,e1⟩:=hI.slots 1 (by decide) (u6 1 (by decide));obtain rfl:v1=(.string l1):=e1;obtain⟨v2,x2,e2⟩:=hI.slots 2 (by decide) (u6 2 (by decide));obtain rfl:v2=(.pointer (some ⟨w.heap.size+1,0,none⟩)):=e2;obtain⟨v3,x3,e3⟩:=hI.slots 3 (by decide) (u6 3 (by decide));obtain rfl:v3=(.string l2):=e3;obtain⟨v4,x4,g4,e4,-,-,-⟩:=hI.slots 4 (by decide) (u6 4 (by decide));obtain rfl:=e4;obtain⟨v5,x5,e5⟩:=hI.slots 5 (by decide) (u6 5 (by decide));obtain rfl:v5=(.agg #[.string a1,.string lo]):=e5;obtain⟨v6,x6,e6⟩:=hI.slots 6 (by decide) (u6 6 (by decide));obtain rfl:v6=(.string lo):=e6;obtain⟨v7,x7,e7⟩:=hI.slots 7 (by decide) (u6 7 (by decide));obtain rfl:v7=(.pointer (some ⟨w.heap.size,1,none⟩)):=e7;obtain⟨v8,x8,e8⟩:=hI.slots 8 (by decide) (u6 8 (by decide));obtain rfl:v8=(.string h1):=e8;obtain⟨v9,x9,e9⟩:=hI.slots 9 (by decide) (u6 9 (by decide));obtain rfl:v9=(.pointer (some ⟨w.heap.size+1,1,none⟩)):=e9;obtain⟨v10,x10,e10⟩:=hI.slots 10 (by decide) (u6 10 (by decide));obtain rfl:v10=(.string h2):=e10;obtain⟨v11,x11,g11,e11,-,-,-⟩:=hI.slots 11 (by decide) (u6 11 (by decide));obtain rfl:=e11;obtain⟨v12,x12,e12⟩:=hI.slots 12 (by decide) (u6 12 (by decide));obtain rfl:v12=(.agg #[.string hi,.string a2]):=e12;obtain⟨v13,x13,e13⟩:=hI.slots 13 (by decide) (u6 13 (by decide));obtain rfl:v13=(.string hi):=e13;obtain⟨v14,x14,e14⟩:=hI.slots 14 (by decide) (u6 14 (by decide));obtain rfl:v14=(.agg #[.string lo,.string hi]):=e14;obtain⟨v15,x15,g,e15,g1,g2,g3,g4⟩:=hI.slots 15 (by decide) (u6 15 (by decide));obtain rfl:=e15;have k0:=g3 0 _ rfl;have k1:=g3 1 _ rfl;have f0:=g4 0 _ rfl;have f1:=g4 1 _ rfl;clear g3 g4
  have ea:=hI.fin [(16,(.pointer (some ⟨w.heap.size,0,none⟩))),(17,(.string l1)),(18,(.pointer (some ⟨w.heap.size+1,0,none⟩))),(19,(.string l2)),(20,.slice (some ⟨g4,0,none⟩) 2 2),(21,(.agg #[.string a1,.string lo])),(22,(.string lo)),(23,(.pointer (some ⟨w.heap.size,1,none⟩))),(24,(.string h1)),(25,(.pointer (some ⟨w.heap.size+1,1,none⟩))),(26,(.string h2)),(27,.slice (some ⟨g11,0,none⟩) 2 2),(28,(.agg #[.string hi,.string a2])),(29,(.string hi)),(30,(.agg #[.string lo,.string hi])),(6,.pointer (some ⟨g,0,none⟩))] (by
   intro p hp;simp only[List.mem_cons,List.not_mem_nil,or_false]at hp;rcases hp with rfl|rfl|rfl|rfl|rfl|rfl|rfl|rfl|rfl|rfl|rfl|rfl|rfl|rfl|rfl|rfl
   · exact x0
   · exact x1
   · exact x2
   · exact x3
   · exact x4
   · exact x5
   · exact x6
   · exact x7
   · exact x8
   · exact x9
   · exact x10
   · exact x11
   · exact x12
   · exact x13
   · exact x14
   · exact x15) (by
   intro d hd i him h
   match i,him with
   | 0,_=>exact hd _ (List.Mem.head _) h
   | 1,_=>exact hd _ (List.Mem.tail _ (List.Mem.head _)) h
   | 2,_=>exact hd _ (List.Mem.tail _ (List.Mem.tail _ (List.Mem.head _))) h
   | 3,_=>exact hd _ (List.Mem.tail _ (List.Mem.tail _ (List.Mem.tail _ (List.Mem.head _)))) h
   | 4,_=>exact hd _ (List.Mem.tail _ (List.Mem.tail _ (List.Mem.tail _ (List.Mem.tail _ (List.Mem.head _))))) h
   | 5,_=>exact hd _ (List.Mem.tail _ (List.Mem.tail _ (List.Mem.tail _ (List.Mem.tail _ (List.Mem.tail _ (List.Mem.head _)))))) h
   | 6,_=>exact hd _ (List.Mem.tail _ (List.Mem.tail _ (List.Mem.tail _ (List.Mem.tail _ (List.Mem.tail _ (List.Mem.tail _ (List.Mem.head _))))))) h
   | 7,_=>exact hd _ (List.Mem.tail _ (List.Mem.tail _ (List.Mem.tail _ (List.Mem.tail _ (List.Mem.tail _ (List.Mem.tail _ (List.Mem.tail _ (List.Mem.head _)))))))) h
   | 8,_=>exact hd _ (List.Mem.tail _ (List.Mem.tail _ (List.Mem.tail _ (List.Mem.tail _ (List.Mem.tail _ (List.Mem.tail _ (List.Mem.tail _ (List.Mem.tail _ (List.Mem.head _))))))))) h
   | 9,_=>exact hd _ (List.Mem.tail _ (List.Mem.tail _ (List.Mem.tail _ (List.Mem.tail _ (List.Mem.tail _ (List.Mem.tail _ (List.Mem.tail _ (List.Mem.tail _ (List.Mem.tail _ (List.Mem.head _)))))))))) h
   | 10,_=>exact hd _ (List.Mem.tail _ (List.Mem.tail _ (List.Mem.tail _ (List.Mem.tail _ (List.Mem.tail _ (List.Mem.tail _ (List.Mem.tail _ (List.Mem.tail _ (List.Mem.tail _ (List.Mem.tail _ (List.Mem.head _))))))))))) h
   | 11,_=>exact hd _ (List.Mem.tail _ (List.Mem.tail _ (List.Mem.tail _ (List.Mem.tail _ (List.Mem.tail _ (List.Mem.tail _ (List.Mem.tail _ (List.Mem.tail _ (List.Mem.tail _ (List.Mem.tail _ (List.Mem.tail _ (List.Mem.head _)))))))))))) h
   | 12,_=>exact hd _ (List.Mem.tail _ (List.Mem.tail _ (List.Mem.tail _ (List.Mem.tail _ (List.Mem.tail _ (List.Mem.tail _ (List.Mem.tail _ (List.Mem.tail _ (List.Mem.tail _ (List.Mem.tail _ (List.Mem.tail _ (List.Mem.tail _ (List.Mem.head _))))))))))))) h
   | 13,_=>exact hd _ (List.Mem.tail _ (List.Mem.tail _ (List.Mem.tail _ (List.Mem.tail _ (List.Mem.tail _ (List.Mem.tail _ (List.Mem.tail _ (List.Mem.tail _ (List.Mem.tail _ (List.Mem.tail _ (List.Mem.tail _ (List.Mem.tail _ (List.Mem.tail _ (List.Mem.head _)))))))))))))) h
   | 14,_=>exact hd _ (List.Mem.tail _ (List.Mem.tail _ (List.Mem.tail _ (List.Mem.tail _ (List.Mem.tail _ (List.Mem.tail _ (List.Mem.tail _ (List.Mem.tail _ (List.Mem.tail _ (List.Mem.tail _ (List.Mem.tail _ (List.Mem.tail _ (List.Mem.tail _ (List.Mem.tail _ (List.Mem.head _))))))))))))))) h
   | 15,_=>exact hd _ (List.Mem.tail _ (List.Mem.tail _ (List.Mem.tail _ (List.Mem.tail _ (List.Mem.tail _ (List.Mem.tail _ (List.Mem.tail _ (List.Mem.tail _ (List.Mem.tail _ (List.Mem.tail _ (List.Mem.tail _ (List.Mem.tail _ (List.Mem.tail _ (List.Mem.tail _ (List.Mem.tail _ (List.Mem.head _)))))))))))))))) h
   | n+16,h=>omega)
  have F3:=hid hI.world;have hz:=KZ.o _ F0.o;clear hI u6 x0 x1 x2 x3 x4 x5 x6 x7 x8 x9 x10 x11 x12 x13 x14 x15 d0 d1 d2 d3;subst ea;simp only[putL,List.setIfInBounds_toArray,List.set_cons_zero,List.set_cons_succ];refine wpOp_step rfl (fun K' hK=>?_);have hK:=hid hK;go_simp;refine hK.o _ _ ?_;clear hK;have F3:=hid ((F3.o.setCell (p:=⟨g,0,none⟩) g1 (.string lo)).setCell (p:=⟨g,1,none⟩) g1 (.string hi));have e1:=(z4U (w:=W) (v:=.string lo) (b:=g) (i:=0) (k:=1) (by decide)).trans k1;have e0:=z3s (v:=.string lo) k0;have c1:=z3s (v:=.string hi) e1;have c0:=(z4U (w:=W.setCell ⟨g,0,none⟩ (.string lo)) (v:=.string hi) (b:=g) (i:=1) (k:=0) (by decide)).trans e0;have hz3:g<((W.setCell ⟨g,0,none⟩ (.string lo)).setCell ⟨g,1,none⟩ (.string hi)).heap.size:=by simpa using g2
  generalize ((W.setCell ⟨g,0,none⟩ (.string lo)).setCell ⟨g,1,none⟩ (.string hi))=w3 at *;clear e0 e1 k0 k1 f0 f1 g2;go_wp2_with fail
  refine(C5.o _ (HL.o _ F3.o)).mono ?_;rintro e w4 ⟨rfl,hb⟩;have F4:=hid (ai F3.o hb);have c0:=(hb.cell (p:=⟨g,0,none⟩) hz3).trans c0;have c1:=(hb.cell (p:=⟨g,1,none⟩) hz3).trans c1;clear hb
  all_goals
   obtain⟨m0,m1,n0,n1⟩:=KR.o _ F4.o;have hz:=KZ.o _ F4.o;go_wp2;first|refine bodyPost_ret (v:=.tuple #[.agg #[.string lo,.string hi],.bool true]) (by simp[results,Tryz.results17,go_sem,m0,m1]) rfl ⟨rfl,?_⟩|refine bodyPost_ret (v:=.tuple #[.agg #[.string ⟨#[]⟩,.string ⟨#[]⟩],.bool false]) (by simp[results,Tryz.results17,go_sem,m0,m1]) rfl ⟨rfl,?_⟩
   repeat (first|exact KB.o _ F4.o|refine Below.setCell ?_ (by first|omega|(simp;omega)|simp) _|refine Below.alloc ?_ (by first|omega|(simp;omega)|simp) _|refine Below.drew ?_))
theorem z0o (l1 h1 l2 h2 a1 lo hi a2:ByteArray)(c:Int)(hc:decide (0<c)=false)(w:World)(hl:La w)
 (g1:CL 27 #[.agg #[.string l1,.string h1]] (.bool true))
 (g2:CL 27 #[.agg #[.string l2,.string h2]] (.bool true))
 (g3:∀ W g,La W→g<W.heap.size→W.cell? ⟨g,0,none⟩=some (.string l1)→W.cell? ⟨g,1,none⟩=some (.string l2)→CR 45 #[.slice (some ⟨g,0,none⟩) 2 2] W (.agg #[.string a1,.string lo]))
 (g4:∀ W g,La W→g<W.heap.size→W.cell? ⟨g,0,none⟩=some (.string h1)→W.cell? ⟨g,1,none⟩=some (.string h2)→CR 45 #[.slice (some ⟨g,0,none⟩) 2 2] W (.agg #[.string hi,.string a2]))
 (g5:CL 51 #[.string lo,.string hi] (.int .i64 c)) :
 CR 17 #[.agg #[.string l1,.string h1],.agg #[.string l2,.string h2]] w (.tuple #[.agg #[.string lo,.string hi],.bool true]) :=
 tT l1 h1 l2 h2 a1 lo hi a2 c false hc w hl g1 g2 g3 g4 g5
theorem nP (l1 h1 l2 h2 a1 lo hi a2:ByteArray)(w:World)(hl:La w)
 (g1:CL 27 #[.agg #[.string l1,.string h1]] (.bool true))
 (g2:CL 27 #[.agg #[.string l2,.string h2]] (.bool true))
 (g3:∀ W g,La W→g<W.heap.size→W.cell? ⟨g,0,none⟩=some (.string l1)→W.cell? ⟨g,1,none⟩=some (.string l2)→CR 45 #[.slice (some ⟨g,0,none⟩) 2 2] W (.agg #[.string a1,.string lo]))
 (g4:∀ W g,La W→g<W.heap.size→W.cell? ⟨g,0,none⟩=some (.string h1)→W.cell? ⟨g,1,none⟩=some (.string h2)→CR 45 #[.slice (some ⟨g,0,none⟩) 2 2] W (.agg #[.string hi,.string a2]))
 (g5:CL 51 #[.string lo,.string hi] (.int .i64 1)) :
 CR 17 #[.agg #[.string l1,.string h1],.agg #[.string l2,.string h2]] w (.tuple #[.agg #[.string ⟨#[]⟩,.string ⟨#[]⟩],.bool false]) :=
 tT l1 h1 l2 h2 a1 lo hi a2 1 true (by decide) w hl g1 g2 g3 g4 g5
