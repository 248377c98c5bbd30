/- texts -/
import Derived.Test.YtkiklcbhglpooaaGreatDoorMz39q
open Go.Proofs.Tryz
set_option maxRecDepth 100000
set_option maxHeartbeats 20000000
open Go.Lib (hid)
namespace Go.Proofs.YtkiklcbhglpooaaGreatDoor
open Go.RowKit Go.Gb
set_option linter.unusedSimpArgs false
set_option linter.unusedVariables false
abbrev RII (W:World) (x y:Rat):Ending→World→Prop:=fun e w'=>∃ qa qb:QS,e=.returned (.agg #[.bool qa.b,.slice qa.a qa.n qa.c,.slice qa.e qa.m qa.d,.bool qb.b,.slice qb.a qb.n qb.c,.slice qb.e qb.m qb.d])∧FQ w' qa x∧FQ w' qb y∧Below W.heap.size W w'
abbrev KI1 (f:Nat) (x0:Rat) (x y:Rat):Prop:=∀ (q0:QS) (W:World),FQ W q0 x0→Calls Tryz.prog f #[.agg #[.bool q0.b,.slice q0.a q0.n q0.c,.slice q0.e q0.m q0.d]] W (RII W x y)
abbrev KII (f:Nat) (xa xb ya yb:Rat) (x y:Rat):Prop:=∀ (qa qb qc qd:QS) (W:World),FQ W qa xa→FQ W qb xb→FQ W qc ya→FQ W qd yb→Calls Tryz.prog f #[.agg #[.bool qa.b,.slice qa.a qa.n qa.c,.slice qa.e qa.m qa.d,.bool qb.b,.slice qb.a qb.n qb.c,.slice qb.e qb.m qb.d],.agg #[.bool qc.b,.slice qc.a qc.n qc.c,.slice qc.e qc.m qc.d,.bool qd.b,.slice qd.a qd.n qd.c,.slice qd.e qd.m qd.d]] W (RII W x y)
abbrev KIQ (f:Nat) (xa xb xk:Rat) (x y:Rat):Prop:=∀ (qa qb qc:QS) (W:World),FQ W qa xa→FQ W qb xb→FQ W qc xk→Calls Tryz.prog f #[.agg #[.bool qa.b,.slice qa.a qa.n qa.c,.slice qa.e qa.m qa.d,.bool qb.b,.slice qb.a qb.n qb.c,.slice qb.e qb.m qb.d],.agg #[.bool qc.b,.slice qc.a qc.n qc.c,.slice qc.e qc.m qc.d]] W (RII W x y)
theorem z7i (xa:Rat)(q1:QS)(w:World)   (r1:FQ w q1 xa) :
 Calls Tryz.prog 146 #[(QS.v q1)] w (RII w xa xa):=by
 dsimp only[QS.v];have R1:=hid r1;clear r1;go_enter func146,ntmps146
 go_upto_region 1 with fail
 refine ak w [(q1.l.toArray,50),(#[.bool false,.slice none 0 0,.slice none 0 0,.bool false,.slice none 0 0,.slice none 0 0],58)] rfl ?_;rintro W0 ⟨k1,k2,hb⟩;have wu:=hid (show Below w.heap.size w W0 from hb);obtain ⟨K1,K2,R1⟩:=au k1 k2 (R1.o.below wu.o);clear k1 k2 hb;obtain ⟨bg,bn,bq⟩:=aC K1.o rfl rfl rfl;obtain ⟨l6,lg,bu,bv,bM,bV⟩:=bQ K2.o rfl rfl rfl rfl rfl rfl;obtain ⟨u0n,u0o,u0r,u0s,u0t,u0u⟩:=dR K2.o;go_wp2;exact bodyPost_ret (v:=.agg #[.bool q1.b,.slice q1.a q1.n q1.c,.slice q1.e q1.m q1.d,.bool q1.b,.slice q1.a q1.n q1.c,.slice q1.e q1.m q1.d]) (by simp[results,results146,go_sem,l6,lg,bu,bv,bM,bV]) rfl ⟨_,_,rfl,(bO [.bool q1.b,.slice q1.a q1.n q1.c,.slice q1.e q1.m q1.d,.bool q1.b,.slice q1.a q1.n q1.c,.slice q1.e q1.m q1.d] 0 R1.o K2.o (by simp[bJ]) (by simp[aW])),(bO [.bool q1.b,.slice q1.a q1.n q1.c,.slice q1.e q1.m q1.d,.bool q1.b,.slice q1.a q1.n q1.c,.slice q1.e q1.m q1.d] 0 R1.o K2.o (by simp[bJ]) (by simp[aW])),(aj (l:=[.bool q1.b,.slice q1.a q1.n q1.c,.slice q1.e q1.m q1.d,.bool q1.b,.slice q1.a q1.n q1.c,.slice q1.e q1.m q1.d]) (i:=0) (by omega) wu.o)⟩
theorem z6u (xa xb ya yb za zb:Rat)(q1a q1b:QS)(q2a q2b:QS)(w:World)  (h1:KQ2 106 xa yb za)(h2:KQ2 106 xb ya zb)(r1a:FQ w q1a xa)(r1b:FQ w q1b xb)(r2a:FQ w q2a ya)(r2b:FQ w q2b yb) :
 Calls Tryz.prog 102 #[(Qii q1a q1b),(Qii q2a q2b)] w (RII w za zb):=by
 dsimp only[Qii];obtain ⟨C1,C2,R1a,R1b,R2a,R2b⟩:=dh h1 h2 r1a r1b r2a r2b;clear h1 h2 r1a r1b r2a r2b;go_enter func102,ntmps102
 go_upto_region 1 with fail
 refine ak w [(#[.bool q1a.b,.slice q1a.a q1a.n q1a.c,.slice q1a.e q1a.m q1a.d,.bool q1b.b,.slice q1b.a q1b.n q1b.c,.slice q1b.e q1b.m q1b.d],58),(#[.bool q2a.b,.slice q2a.a q2a.n q2a.c,.slice q2a.e q2a.m q2a.d,.bool q2b.b,.slice q2b.a q2b.n q2b.c,.slice q2b.e q2b.m q2b.d],58),(#[.bool false,.slice none 0 0,.slice none 0 0,.bool false,.slice none 0 0,.slice none 0 0],58)] rfl ?_;rintro W0 ⟨k1,k2,k3,hb⟩;have wu:=hid (show Below w.heap.size w W0 from hb);obtain ⟨R1a,R1b,R2a,R2b⟩:=bR wu.o R1a R1b R2a R2b;obtain ⟨K1,K2,K3⟩:=au k1 k2 k3;clear k1 k2 k3 hb;go_wp2_with fail
 refine az (fun a0 a' V=>∃ (ww:QS) (si:QS) (u6:QS) (w9:QS),a'=⟨putL [(5,.pointer (some ⟨w.heap.size,0,none⟩)),(6,q1a.v),(7,.pointer (some ⟨w.heap.size+1,3,none⟩)),(8,q2b.v),(9,ww.v),(10,.pointer (some ⟨w.heap.size,3,none⟩)),(11,q1b.v),(12,.pointer (some ⟨w.heap.size+1,0,none⟩)),(13,q2a.v),(14,si.v),(15,Qii u6 w9)] a0.tmps,a0.defers⟩∧Below w.heap.size w V∧SBk V (w.heap.size+1+1) #[.bool u6.b,.slice u6.a u6.n u6.c,.slice u6.e u6.m u6.d,.bool w9.b,.slice w9.a w9.n w9.c,.slice w9.e w9.m w9.d] 58∧FQ V u6 za∧FQ V w9 zb) ?_ ?_
 · refine aL 11 1 [5,6,7,8,9,10,11,12,13,14,15] [Rel.val (.pointer (some ⟨w.heap.size,0,none⟩)),Rel.val (q1a.v),Rel.val (.pointer (some ⟨w.heap.size+1,3,none⟩)),Rel.val (q2b.v),Rel.q za,Rel.val (.pointer (some ⟨w.heap.size,3,none⟩)),Rel.val (q1b.v),Rel.val (.pointer (some ⟨w.heap.size+1,0,none⟩)),Rel.val (q2a.v),Rel.q zb,Rel.qi za zb] ?_ ?_
   · intro mf a W i HI hD Hr him
     obtain⟨y2,y3⟩:=HI.o.s2 2 3;obtain ⟨bg,bn,bq,af,u00,u01⟩:=bQ (K1.o.below HI.o.world) rfl rfl rfl rfl rfl rfl;have bv:=(K2.o.below HI.o.world).cell (i:=3) rfl;have bM:=(K2.o.below HI.o.world).cell (i:=4) rfl;have bV:=(K2.o.below HI.o.world).cell (i:=5) rfl;obtain ⟨l6,lg,bu⟩:=aC (K2.o.below HI.o.world) rfl rfl rfl;obtain⟨X0,X2,X1,X3,X5,X7⟩:=HI.o.g6 0 5 2 7 1 6 3 8 5 10 7 12;obtain⟨X6,X8⟩:=HI.o.g2 6 11 8 13
     match i,him,Hr with
     | 0,_,Hi|1,_,Hi|2,_,Hi|3,_,Hi|5,_,Hi|6,_,Hi|7,_,Hi|8,_,Hi =>
       try have x0:=X0.t Hi.o
       try have x2:=X2.t Hi.o
       try have x5:=X5.t Hi.o
       try have x7:=X7.t Hi.o
       refine aA rfl fun K' hK=>?_;go_simp;exact hK.o _ _ (HI.o.pw Hi.o)
     | 4,_,Hi =>
       have x1:=X1.q Hi.o;have x3:=X3.q Hi.o;refine aA rfl fun K' hK=>?_;go_simp;with_reducible refine(C1.o _ _ _ (R1a.o.below HI.o.world) (R2b.o.below HI.o.world)).mono ?_
       rintro e W' ⟨ww,rfl,u0a,hb⟩;exact hK.o _ _ ⟨HI.o.pc Hi.o hb ⟨ww,rfl,u0a⟩,trivial⟩
     | 9,_,Hi =>
       have x6:=X6.q Hi.o;have x8:=X8.q Hi.o;refine aA rfl fun K' hK=>?_;go_simp;with_reducible refine(C2.o _ _ _ (R1b.o.below HI.o.world) (R2a.o.below HI.o.world)).mono ?_
       rintro e W' ⟨si,rfl,u0b,hb⟩;exact hK.o _ _ ⟨HI.o.pc Hi.o hb ⟨si,rfl,u0b⟩,trivial⟩
     | 10,_,Hi =>
       obtain⟨ww,x4,kz⟩:=qAt HI.o 4 9 Hi.o (by kernel_rfl);dsimp only[QS.v]at x4;obtain⟨si,x9,kM⟩:=qAt HI.o 9 14 Hi.o (by kernel_rfl);dsimp only[QS.v]at x9;refine aA rfl fun K' hK=>?_;go_simp;exact hK.o _ _ ⟨HI.o.pv Hi.o ⟨ww,si,rfl,kz.o,kM.o⟩,trivial⟩
     | n+11,h,_=>exact absurd h (by omega)
   · intro mf a W HI hD HA
     obtain⟨ww,x4,kz⟩:=qEnd HI.o HA.o 4 9;obtain⟨si,x9,kM⟩:=qEnd HI.o HA.o 9 14;obtain⟨u6,w9,x10,u02,u03⟩:=iO HI.o HA.o 10 15;have sj:=hid HI.o.world;obtain ⟨mi,K3⟩:=aD (wu.o.trans (sj.o.mono wu.o.size)) (K3.o.below sj.o);have RA:=kz;have RB:=kM;have kV:=u02;have gy:=u03;obtain ⟨rM,rV,p8,pq,pu,ol⟩:=bQ K3.o rfl rfl rfl rfl rfl rfl;obtain ⟨u04,u05,u06,u07,u08,u09⟩:=dR K3.o;have y4:=HI.o.rst 4 rfl;dsimp only[Qii]at x10;refine aZ (t:=0) ?_;refine aA rfl fun K' hK=>?_;go_simp;refine hK.o _ _ ?_;clear hK;refine aV ?_;rw[← dM];have s0:∀ {q':QS} {x':Rat},FQ W q' x'→FQ (storeAll W (w.heap.size+1+1) 0 [.bool u6.b,.slice u6.a u6.n u6.c,.slice u6.e u6.m u6.d,.bool w9.b,.slice w9.a w9.n w9.c,.slice w9.e w9.m w9.d]) q' x':=fun h'=>bO _ 0 h' K3.o (by simp[bJ]) (by simp[aW]);exact⟨rfl,ww,si,u6,w9,(HI.o.finx ⟨HI.o.sx HA.o 0,HI.o.sx HA.o 1,HI.o.sx HA.o 2,HI.o.sx HA.o 3,x4,HI.o.sx HA.o 5,HI.o.sx HA.o 6,HI.o.sx HA.o 7,HI.o.sx HA.o 8,x9,x10,trivial⟩ rfl),(aj (l:=[.bool u6.b,.slice u6.a u6.n u6.c,.slice u6.e u6.m u6.d,.bool w9.b,.slice w9.a w9.n w9.c,.slice w9.e w9.m w9.d]) (i:=0) (by omega) mi.o),(dC K3.o),(s0 kV.o),(s0 gy.o)⟩
 rintro a' W1 ⟨ww,si,u6,w9,rfl,z0,z1,z2,z3⟩;obtain ⟨l5,K3,kV,gy⟩:=aM z0 z1 z2 z3;clear z0 z1 z2 z3;simp only[putL,List.setIfInBounds_toArray,List.set_cons_zero,List.set_cons_succ];go_wp2;obtain ⟨rM,rV,p8,pq,pu,ol⟩:=bQ K3.o rfl rfl rfl rfl rfl rfl;exact bodyPost_ret (v:=.agg #[.bool u6.b,.slice u6.a u6.n u6.c,.slice u6.e u6.m u6.d,.bool w9.b,.slice w9.a w9.n w9.c,.slice w9.e w9.m w9.d]) (by simp[results,results102,go_sem,rM,rV,p8,pq,pu,ol]) rfl ⟨_,_,rfl,kV.o,gy.o,l5.o⟩
theorem z7j (xa xb ya yb za zb:Rat)(q1a q1b:QS)(q2a q2b:QS)(w:World)  (h1:KQ2 183 xa ya za)(h2:KQ2 184 xb yb zb)(r1a:FQ w q1a xa)(r1b:FQ w q1b xb)(r2a:FQ w q2a ya)(r2b:FQ w q2b yb) :
 Calls Tryz.prog 145 #[(Qii q1a q1b),(Qii q2a q2b)] w (RII w za zb):=by
 dsimp only[Qii];obtain ⟨C1,C2,R1a,R1b,R2a,R2b⟩:=dh h1 h2 r1a r1b r2a r2b;clear h1 h2 r1a r1b r2a r2b;go_enter func145,ntmps145
 go_upto_region 1 with fail
 refine ak w [(#[.bool q1a.b,.slice q1a.a q1a.n q1a.c,.slice q1a.e q1a.m q1a.d,.bool q1b.b,.slice q1b.a q1b.n q1b.c,.slice q1b.e q1b.m q1b.d],58),(#[.bool q2a.b,.slice q2a.a q2a.n q2a.c,.slice q2a.e q2a.m q2a.d,.bool q2b.b,.slice q2b.a q2b.n q2b.c,.slice q2b.e q2b.m q2b.d],58),(#[.bool false,.slice none 0 0,.slice none 0 0,.bool false,.slice none 0 0,.slice none 0 0],58)] rfl ?_;rintro W0 ⟨k1,k2,k3,hb⟩;have wu:=hid (show Below w.heap.size w W0 from hb);obtain ⟨R1a,R1b,R2a,R2b⟩:=bR wu.o R1a R1b R2a R2b;obtain ⟨K1,K2,K3⟩:=au k1 k2 k3;clear k1 k2 k3 hb;go_wp2_with fail
 refine az (fun a0 a' V=>∃ (ww:QS) (si:QS) (u6:QS) (w9:QS),a'=⟨putL [(5,.pointer (some ⟨w.heap.size,0,none⟩)),(6,q1a.v),(7,.pointer (some ⟨w.heap.size+1,0,none⟩)),(8,q2a.v),(9,ww.v),(10,.pointer (some ⟨w.heap.size,3,none⟩)),(11,q1b.v),(12,.pointer (some ⟨w.heap.size+1,3,none⟩)),(13,q2b.v),(14,si.v),(15,Qii u6 w9)] a0.tmps,a0.defers⟩∧Below w.heap.size w V∧SBk V (w.heap.size+1+1) #[.bool u6.b,.slice u6.a u6.n u6.c,.slice u6.e u6.m u6.d,.bool w9.b,.slice w9.a w9.n w9.c,.slice w9.e w9.m w9.d] 58∧FQ V u6 za∧FQ V w9 zb) ?_ ?_
 · refine aL 11 1 [5,6,7,8,9,10,11,12,13,14,15] [Rel.val (.pointer (some ⟨w.heap.size,0,none⟩)),Rel.val (q1a.v),Rel.val (.pointer (some ⟨w.heap.size+1,0,none⟩)),Rel.val (q2a.v),Rel.q za,Rel.val (.pointer (some ⟨w.heap.size,3,none⟩)),Rel.val (q1b.v),Rel.val (.pointer (some ⟨w.heap.size+1,3,none⟩)),Rel.val (q2b.v),Rel.q zb,Rel.qi za zb] ?_ ?_
   · intro mf a W i HI hD Hr him
     obtain⟨y2,y3⟩:=HI.o.s2 2 3;obtain ⟨bg,bn,bq,af,u00,u01⟩:=bQ (K1.o.below HI.o.world) rfl rfl rfl rfl rfl rfl;obtain ⟨l6,lg,bu,bv,bM,bV⟩:=bQ (K2.o.below HI.o.world) rfl rfl rfl rfl rfl rfl;obtain⟨X0,X2,X1,X3,X5,X7⟩:=HI.o.g6 0 5 2 7 1 6 3 8 5 10 7 12;obtain⟨X6,X8⟩:=HI.o.g2 6 11 8 13
     match i,him,Hr with
     | 0,_,Hi|1,_,Hi|2,_,Hi|3,_,Hi|5,_,Hi|6,_,Hi|7,_,Hi|8,_,Hi =>
       try have x0:=X0.t Hi.o
       try have x2:=X2.t Hi.o
       try have x5:=X5.t Hi.o
       try have x7:=X7.t Hi.o
       refine aA rfl fun K' hK=>?_;go_simp;exact hK.o _ _ (HI.o.pw Hi.o)
     | 4,_,Hi =>
       have x1:=X1.q Hi.o;have x3:=X3.q Hi.o;refine aA rfl fun K' hK=>?_;go_simp;with_reducible refine(C1.o _ _ _ (R1a.o.below HI.o.world) (R2a.o.below HI.o.world)).mono ?_
       rintro e W' ⟨ww,rfl,u0a,hb⟩;exact hK.o _ _ ⟨HI.o.pc Hi.o hb ⟨ww,rfl,u0a⟩,trivial⟩
     | 9,_,Hi =>
       have x6:=X6.q Hi.o;have x8:=X8.q Hi.o;refine aA rfl fun K' hK=>?_;go_simp;with_reducible refine(C2.o _ _ _ (R1b.o.below HI.o.world) (R2b.o.below HI.o.world)).mono ?_
       rintro e W' ⟨si,rfl,u0b,hb⟩;exact hK.o _ _ ⟨HI.o.pc Hi.o hb ⟨si,rfl,u0b⟩,trivial⟩
     | 10,_,Hi =>
       obtain⟨ww,x4,kz⟩:=qAt HI.o 4 9 Hi.o (by kernel_rfl);dsimp only[QS.v]at x4;obtain⟨si,x9,kM⟩:=qAt HI.o 9 14 Hi.o (by kernel_rfl);dsimp only[QS.v]at x9;refine aA rfl fun K' hK=>?_;go_simp;exact hK.o _ _ ⟨HI.o.pv Hi.o ⟨ww,si,rfl,kz.o,kM.o⟩,trivial⟩
     | n+11,h,_=>exact absurd h (by omega)
   · intro mf a W HI hD HA
     obtain⟨ww,x4,kz⟩:=qEnd HI.o HA.o 4 9;obtain⟨si,x9,kM⟩:=qEnd HI.o HA.o 9 14;obtain⟨u6,w9,x10,u02,u03⟩:=iO HI.o HA.o 10 15;have sj:=hid HI.o.world;obtain ⟨mi,K3⟩:=aD (wu.o.trans (sj.o.mono wu.o.size)) (K3.o.below sj.o);have RA:=kz;have RB:=kM;have kV:=u02;have gy:=u03;obtain ⟨rM,rV,p8,pq,pu,ol⟩:=bQ K3.o rfl rfl rfl rfl rfl rfl;obtain ⟨u04,u05,u06,u07,u08,u09⟩:=dR K3.o;have y4:=HI.o.rst 4 rfl;dsimp only[Qii]at x10;refine aZ (t:=0) ?_;refine aA rfl fun K' hK=>?_;go_simp;refine hK.o _ _ ?_;clear hK;refine aV ?_;rw[← dM];have s0:∀ {q':QS} {x':Rat},FQ W q' x'→FQ (storeAll W (w.heap.size+1+1) 0 [.bool u6.b,.slice u6.a u6.n u6.c,.slice u6.e u6.m u6.d,.bool w9.b,.slice w9.a w9.n w9.c,.slice w9.e w9.m w9.d]) q' x':=fun h'=>bO _ 0 h' K3.o (by simp[bJ]) (by simp[aW]);exact⟨rfl,ww,si,u6,w9,(HI.o.finx ⟨HI.o.sx HA.o 0,HI.o.sx HA.o 1,HI.o.sx HA.o 2,HI.o.sx HA.o 3,x4,HI.o.sx HA.o 5,HI.o.sx HA.o 6,HI.o.sx HA.o 7,HI.o.sx HA.o 8,x9,x10,trivial⟩ rfl),(aj (l:=[.bool u6.b,.slice u6.a u6.n u6.c,.slice u6.e u6.m u6.d,.bool w9.b,.slice w9.a w9.n w9.c,.slice w9.e w9.m w9.d]) (i:=0) (by omega) mi.o),(dC K3.o),(s0 kV.o),(s0 gy.o)⟩
 rintro a' W1 ⟨ww,si,u6,w9,rfl,z0,z1,z2,z3⟩;obtain ⟨l5,K3,kV,gy⟩:=aM z0 z1 z2 z3;clear z0 z1 z2 z3;simp only[putL,List.setIfInBounds_toArray,List.set_cons_zero,List.set_cons_succ];go_wp2;obtain ⟨rM,rV,p8,pq,pu,ol⟩:=bQ K3.o rfl rfl rfl rfl rfl rfl;exact bodyPost_ret (v:=.agg #[.bool u6.b,.slice u6.a u6.n u6.c,.slice u6.e u6.m u6.d,.bool w9.b,.slice w9.a w9.n w9.c,.slice w9.e w9.m w9.d]) (by simp[results,results145,go_sem,rM,rV,p8,pq,pu,ol]) rfl ⟨_,_,rfl,kV.o,gy.o,l5.o⟩
theorem z6t (xa xb k pa pb za zb:Rat)(q1a q1b:QS)(q2:QS)(w:World)  (h1:KQ2 30 xa k pa)(h2:KI1 146 pa pa pa)(h3:KQ2 30 xb k pb)(h4:KI1 146 pb pb pb)(h5:KII 145 pa pa pb pb za zb)(r1a:FQ w q1a xa)(r1b:FQ w q1b xb)(r2:FQ w q2 k) :
 Calls Tryz.prog 100 #[(Qii q1a q1b),(QS.v q2)] w (RII w za zb):=by
 dsimp only[QS.v,Qii];obtain ⟨C1,C2,C3,C4,C5,R1a,R1b,R2⟩:=jf h1 h2 h3 h4 h5 r1a r1b r2;clear h1 h2 h3 h4 h5 r1a r1b r2;go_enter func100,ntmps100
 go_upto_region 1 with fail
 refine ak w [(#[.bool q1a.b,.slice q1a.a q1a.n q1a.c,.slice q1a.e q1a.m q1a.d,.bool q1b.b,.slice q1b.a q1b.n q1b.c,.slice q1b.e q1b.m q1b.d],58),(q2.l.toArray,50),(#[.bool false,.slice none 0 0,.slice none 0 0,.bool false,.slice none 0 0,.slice none 0 0],58)] rfl ?_;rintro W0 ⟨k1,k2,k3,hb⟩;have wu:=hid (show Below w.heap.size w W0 from hb);obtain ⟨R1a,R1b,R2⟩:=bA wu.o R1a R1b R2;obtain ⟨K1,K2,K3⟩:=au k1 k2 k3;clear k1 k2 k3 hb;go_wp2_with fail
 refine az (fun a0 a' V=>∃ (sw:QS) (fq:QS) (fQ:QS) (ed:QS) (d9:QS) (dn:QS) (u6:QS) (w9:QS),a'=⟨putL [(5,.pointer (some ⟨w.heap.size,0,none⟩)),(6,q1a.v),(7,q2.v),(8,sw.v),(9,Qii fq fQ),(10,.pointer (some ⟨w.heap.size,3,none⟩)),(11,q1b.v),(12,q2.v),(13,ed.v),(14,Qii d9 dn),(15,Qii u6 w9)] a0.tmps,a0.defers⟩∧Below w.heap.size w V∧SBk V (w.heap.size+1+1) #[.bool u6.b,.slice u6.a u6.n u6.c,.slice u6.e u6.m u6.d,.bool w9.b,.slice w9.a w9.n w9.c,.slice w9.e w9.m w9.d] 58∧FQ V u6 za∧FQ V w9 zb) ?_ ?_
 · refine aL 11 1 [5,6,7,8,9,10,11,12,13,14,15] [Rel.val (.pointer (some ⟨w.heap.size,0,none⟩)),Rel.val (q1a.v),Rel.val (q2.v),Rel.q pa,Rel.qi pa pa,Rel.val (.pointer (some ⟨w.heap.size,3,none⟩)),Rel.val (q1b.v),Rel.val (q2.v),Rel.q pb,Rel.qi pb pb,Rel.qi za zb] ?_ ?_
   · intro mf a W i HI hD Hr him
     obtain⟨y2,y3⟩:=HI.o.s2 2 3;obtain ⟨bg,bn,bq,af,u00,u01⟩:=bQ (K1.o.below HI.o.world) rfl rfl rfl rfl rfl rfl;obtain⟨l6,lg,bu⟩:=cells3 (K2.o.below HI.o.world);obtain⟨X0,X1,X2,X5,X6,X7⟩:=HI.o.g6 0 5 1 6 2 7 5 10 6 11 7 12
     match i,him,Hr with
     | 0,_,Hi|1,_,Hi|2,_,Hi|5,_,Hi|6,_,Hi|7,_,Hi =>
       try have x0:=X0.t Hi.o
       try have x5:=X5.t Hi.o
       refine aA rfl fun K' hK=>?_;go_simp;exact hK.o _ _ (HI.o.pw Hi.o)
     | 3,_,Hi =>
       have x1:=X1.q Hi.o;have x2:=X2.q Hi.o;refine aA rfl fun K' hK=>?_;go_simp;with_reducible refine(C1.o _ _ _ (R1a.o.below HI.o.world) (R2.o.below HI.o.world)).mono ?_
       rintro e W' ⟨sw,rfl,u0c,hb⟩;exact hK.o _ _ ⟨HI.o.pc Hi.o hb ⟨sw,rfl,u0c⟩,trivial⟩
     | 4,_,Hi =>
       obtain⟨sw,x3,dx⟩:=qAt HI.o 3 8 Hi.o (by kernel_rfl);refine aA rfl fun K' hK=>?_;go_simp;with_reducible refine(C2.o _ _ dx.o).mono ?_
       rintro e W' ⟨fq,fQ,rfl,rn1_4a,rn1_4b,hb⟩;exact hK.o _ _ ⟨HI.o.pc Hi.o hb ⟨fq,fQ,rfl,rn1_4a,rn1_4b⟩,trivial⟩
     | 8,_,Hi =>
       have x6:=X6.q Hi.o;have x7:=X7.q Hi.o;refine aA rfl fun K' hK=>?_;go_simp;with_reducible refine(C3.o _ _ _ (R1b.o.below HI.o.world) (R2.o.below HI.o.world)).mono ?_
       rintro e W' ⟨ed,rfl,u0p,hb⟩;exact hK.o _ _ ⟨HI.o.pc Hi.o hb ⟨ed,rfl,u0p⟩,trivial⟩
     | 9,_,Hi =>
       obtain⟨ed,x8,u0d⟩:=qAt HI.o 8 13 Hi.o (by kernel_rfl);refine aA rfl fun K' hK=>?_;go_simp;with_reducible refine(C4.o _ _ u0d.o).mono ?_
       rintro e W' ⟨d9,dn,rfl,rn1_9a,rn1_9b,hb⟩;exact hK.o _ _ ⟨HI.o.pc Hi.o hb ⟨d9,dn,rfl,rn1_9a,rn1_9b⟩,trivial⟩
     | 10,_,Hi =>
       obtain⟨fq,fQ,x4,u0e,u0f⟩:=qAti HI.o 4 9 Hi.o (by kernel_rfl);dsimp only[Qii]at x4;obtain⟨d9,dn,x9,u0g,u0h⟩:=qAti HI.o 9 14 Hi.o (by kernel_rfl);dsimp only[Qii]at x9;refine aA rfl fun K' hK=>?_;go_simp;with_reducible refine(C5.o _ _ _ _ _ u0e.o u0f.o u0g.o u0h.o).mono ?_
       rintro e W' ⟨u6,w9,rfl,rn1_10a,rn1_10b,hb⟩;exact hK.o _ _ ⟨HI.o.pc Hi.o hb ⟨u6,w9,rfl,rn1_10a,rn1_10b⟩,trivial⟩
     | n+11,h,_=>exact absurd h (by omega)
   · intro mf a W HI hD HA
     obtain⟨sw,x3,dx⟩:=qEnd HI.o HA.o 3 8;obtain⟨fq,fQ,x4,u0e,u0f⟩:=iO HI.o HA.o 4 9;obtain⟨ed,x8,u0d⟩:=qEnd HI.o HA.o 8 13;obtain⟨d9,dn,x9,u0g,u0h⟩:=iO HI.o HA.o 9 14;obtain⟨u6,w9,x10,u02,u03⟩:=iO HI.o HA.o 10 15;have sj:=hid HI.o.world;obtain ⟨mi,K3⟩:=aD (wu.o.trans (sj.o.mono wu.o.size)) (K3.o.below sj.o);have RPA:=dx;have RJA:=u0e;have RJB:=u0f;have RPB:=u0d;have RJC:=u0g;have RJD:=u0h;have RA:=u02;have RB:=u03;obtain ⟨rM,rV,p8,pq,pu,ol⟩:=bQ K3.o rfl rfl rfl rfl rfl rfl;obtain ⟨u04,u05,u06,u07,u08,u09⟩:=dR K3.o;have y4:=HI.o.rst 4 rfl;dsimp only[Qii]at x10;refine aZ (t:=0) ?_;refine aA rfl fun K' hK=>?_;go_simp;refine hK.o _ _ ?_;clear hK;refine aV ?_;rw[← dM];have s0:∀ {q':QS} {x':Rat},FQ W q' x'→FQ (storeAll W (w.heap.size+1+1) 0 [.bool u6.b,.slice u6.a u6.n u6.c,.slice u6.e u6.m u6.d,.bool w9.b,.slice w9.a w9.n w9.c,.slice w9.e w9.m w9.d]) q' x':=fun h'=>bO _ 0 h' K3.o (by simp[bJ]) (by simp[aW]);exact⟨rfl,sw,fq,fQ,ed,d9,dn,u6,w9,(HI.o.finx ⟨HI.o.sx HA.o 0,HI.o.sx HA.o 1,HI.o.sx HA.o 2,x3,x4,HI.o.sx HA.o 5,HI.o.sx HA.o 6,HI.o.sx HA.o 7,x8,x9,x10,trivial⟩ rfl),(aj (l:=[.bool u6.b,.slice u6.a u6.n u6.c,.slice u6.e u6.m u6.d,.bool w9.b,.slice w9.a w9.n w9.c,.slice w9.e w9.m w9.d]) (i:=0) (by omega) mi.o),(dC K3.o),(s0 RA.o),(s0 RB.o)⟩
 rintro a' W1 ⟨sw,fq,fQ,ed,d9,dn,u6,w9,rfl,z0,z1,z2,z3⟩;obtain ⟨l5,K3,RA,RB⟩:=aM z0 z1 z2 z3;clear z0 z1 z2 z3;simp only[putL,List.setIfInBounds_toArray,List.set_cons_zero,List.set_cons_succ];go_wp2;obtain ⟨rM,rV,p8,pq,pu,ol⟩:=bQ K3.o rfl rfl rfl rfl rfl rfl;exact bodyPost_ret (v:=.agg #[.bool u6.b,.slice u6.a u6.n u6.c,.slice u6.e u6.m u6.d,.bool w9.b,.slice w9.a w9.n w9.c,.slice w9.e w9.m w9.d]) (by simp[results,results100,go_sem,rM,rV,p8,pq,pu,ol]) rfl ⟨_,_,rfl,RA.o,RB.o,l5.o⟩
theorem z6s (xa xb ya yb pa pb ma mb za zb:Rat)(q1a q1b:QS)(q2a q2b:QS)(w:World)  (h1:KIQ 100 xa xb ya pa pb)(h2:KIQ 100 xa xb yb ma mb)(h3:KII 145 pa pb ma mb za zb)(r1a:FQ w q1a xa)(r1b:FQ w q1b xb)(r2a:FQ w q2a ya)(r2b:FQ w q2b yb) :
 Calls Tryz.prog 150 #[(Qii q1a q1b),(Qii q2a q2b)] w (RII w za zb):=by
 dsimp only[Qii];obtain ⟨C1,C2,C3,R1a,R1b,R2a,R2b⟩:=dQ h1 h2 h3 r1a r1b r2a r2b;clear h1 h2 h3 r1a r1b r2a r2b;go_enter func150,ntmps150
 go_upto_region 1 with fail
 refine ak w [(#[.bool q1a.b,.slice q1a.a q1a.n q1a.c,.slice q1a.e q1a.m q1a.d,.bool q1b.b,.slice q1b.a q1b.n q1b.c,.slice q1b.e q1b.m q1b.d],58),(#[.bool q2a.b,.slice q2a.a q2a.n q2a.c,.slice q2a.e q2a.m q2a.d,.bool q2b.b,.slice q2b.a q2b.n q2b.c,.slice q2b.e q2b.m q2b.d],58),(#[.bool false,.slice none 0 0,.slice none 0 0,.bool false,.slice none 0 0,.slice none 0 0],58)] rfl ?_;rintro W0 ⟨k1,k2,k3,hb⟩;have wu:=hid (show Below w.heap.size w W0 from hb);obtain ⟨R1a,R1b,R2a,R2b⟩:=bR wu.o R1a R1b R2a R2b;obtain ⟨K1,K2,K3⟩:=au k1 k2 k3;clear k1 k2 k3 hb;go_wp2_with fail
 refine az (fun a0 a' V=>∃ (dz:QS) (dX:QS) (oM:QS) (oV:QS) (wm:QS) (wo:QS),a'=⟨putL [(5,Qii q1a q1b),(6,.pointer (some ⟨w.heap.size+1,0,none⟩)),(7,q2a.v),(8,Qii dz dX),(9,Qii q1a q1b),(10,.pointer (some ⟨w.heap.size+1,3,none⟩)),(11,q2b.v),(12,Qii oM oV),(13,Qii wm wo)] a0.tmps,a0.defers⟩∧Below w.heap.size w V∧SBk V (w.heap.size+1+1) #[.bool wm.b,.slice wm.a wm.n wm.c,.slice wm.e wm.m wm.d,.bool wo.b,.slice wo.a wo.n wo.c,.slice wo.e wo.m wo.d] 58∧FQ V wm za∧FQ V wo zb) ?_ ?_
 · refine aL 9 1 [5,6,7,8,9,10,11,12,13] [Rel.val (Qii q1a q1b),Rel.val (.pointer (some ⟨w.heap.size+1,0,none⟩)),Rel.val (q2a.v),Rel.qi pa pb,Rel.val (Qii q1a q1b),Rel.val (.pointer (some ⟨w.heap.size+1,3,none⟩)),Rel.val (q2b.v),Rel.qi ma mb,Rel.qi za zb] ?_ ?_
   · intro mf a W i HI hD Hr him
     obtain⟨y2,y3⟩:=HI.o.s2 2 3;obtain ⟨bg,bn,bq,af,u00,u01⟩:=bQ (K1.o.below HI.o.world) rfl rfl rfl rfl rfl rfl;obtain ⟨l6,lg,bu,bv,bM,bV⟩:=bQ (K2.o.below HI.o.world) rfl rfl rfl rfl rfl rfl;obtain⟨X1,X0,X2,X5,X4,X6⟩:=HI.o.g6 1 6 0 5 2 7 5 10 4 9 6 11
     match i,him,Hr with
     | 0,_,Hi|1,_,Hi|2,_,Hi|4,_,Hi|5,_,Hi|6,_,Hi =>
       try have x1:=X1.t Hi.o
       try have x5:=X5.t Hi.o
       refine aA rfl fun K' hK=>?_;go_simp;exact hK.o _ _ (HI.o.pw Hi.o)
     | 3,_,Hi =>
       have x0:=X0.q Hi.o;have x2:=X2.q Hi.o;refine aA rfl fun K' hK=>?_;go_simp;with_reducible refine(C1.o _ _ _ _ (R1a.o.below HI.o.world) (R1b.o.below HI.o.world) (R2a.o.below HI.o.world)).mono ?_
       rintro e W' ⟨dz,dX,rfl,rn1_3a,rn1_3b,hb⟩;exact hK.o _ _ ⟨HI.o.pc Hi.o hb ⟨dz,dX,rfl,rn1_3a,rn1_3b⟩,trivial⟩
     | 7,_,Hi =>
       have x4:=X4.q Hi.o;have x6:=X6.q Hi.o;refine aA rfl fun K' hK=>?_;go_simp;with_reducible refine(C2.o _ _ _ _ (R1a.o.below HI.o.world) (R1b.o.below HI.o.world) (R2b.o.below HI.o.world)).mono ?_
       rintro e W' ⟨oM,oV,rfl,rn1_7a,rn1_7b,hb⟩;exact hK.o _ _ ⟨HI.o.pc Hi.o hb ⟨oM,oV,rfl,rn1_7a,rn1_7b⟩,trivial⟩
     | 8,_,Hi =>
       obtain⟨dz,dX,x3,u0i,u0j⟩:=qAti HI.o 3 8 Hi.o (by kernel_rfl);dsimp only[Qii]at x3;obtain⟨oM,oV,x7,dY,cO⟩:=qAti HI.o 7 12 Hi.o (by kernel_rfl);dsimp only[Qii]at x7;refine aA rfl fun K' hK=>?_;go_simp;with_reducible refine(C3.o _ _ _ _ _ u0i.o u0j.o dY.o cO.o).mono ?_
       rintro e W' ⟨wm,wo,rfl,rn1_8a,rn1_8b,hb⟩;exact hK.o _ _ ⟨HI.o.pc Hi.o hb ⟨wm,wo,rfl,rn1_8a,rn1_8b⟩,trivial⟩
     | n+9,h,_=>exact absurd h (by omega)
   · intro mf a W HI hD HA
     obtain⟨dz,dX,x3,u0i,u0j⟩:=iO HI.o HA.o 3 8;obtain⟨oM,oV,x7,dY,cO⟩:=iO HI.o HA.o 7 12;obtain⟨wm,wo,x8,u0k,u0l⟩:=iO HI.o HA.o 8 13;have sj:=hid HI.o.world;obtain ⟨mi,K3⟩:=aD (wu.o.trans (sj.o.mono wu.o.size)) (K3.o.below sj.o);have RPA:=u0i;have RPB:=u0j;have RMA:=dY;have RMB:=cO;have RA:=u0k;have RB:=u0l;obtain ⟨rM,rV,p8,pq,pu,ol⟩:=bQ K3.o rfl rfl rfl rfl rfl rfl;obtain ⟨u04,u05,u06,u07,u08,u09⟩:=dR K3.o;have y4:=HI.o.rst 4 rfl;dsimp only[Qii]at x8;refine aZ (t:=0) ?_;refine aA rfl fun K' hK=>?_;go_simp;refine hK.o _ _ ?_;clear hK;refine aV ?_;rw[← dM];have s0:∀ {q':QS} {x':Rat},FQ W q' x'→FQ (storeAll W (w.heap.size+1+1) 0 [.bool wm.b,.slice wm.a wm.n wm.c,.slice wm.e wm.m wm.d,.bool wo.b,.slice wo.a wo.n wo.c,.slice wo.e wo.m wo.d]) q' x':=fun h'=>bO _ 0 h' K3.o (by simp[bJ]) (by simp[aW]);exact⟨rfl,dz,dX,oM,oV,wm,wo,(HI.o.finx ⟨HI.o.sx HA.o 0,HI.o.sx HA.o 1,HI.o.sx HA.o 2,x3,HI.o.sx HA.o 4,HI.o.sx HA.o 5,HI.o.sx HA.o 6,x7,x8,trivial⟩ rfl),(aj (l:=[.bool wm.b,.slice wm.a wm.n wm.c,.slice wm.e wm.m wm.d,.bool wo.b,.slice wo.a wo.n wo.c,.slice wo.e wo.m wo.d]) (i:=0) (by omega) mi.o),(dC K3.o),(s0 RA.o),(s0 RB.o)⟩
 rintro a' W1 ⟨dz,dX,oM,oV,wm,wo,rfl,z0,z1,z2,z3⟩;obtain ⟨l5,K3,RA,RB⟩:=aM z0 z1 z2 z3;clear z0 z1 z2 z3;simp only[putL,List.setIfInBounds_toArray,List.set_cons_zero,List.set_cons_succ];go_wp2;obtain ⟨rM,rV,p8,pq,pu,ol⟩:=bQ K3.o rfl rfl rfl rfl rfl rfl;exact bodyPost_ret (v:=.agg #[.bool wm.b,.slice wm.a wm.n wm.c,.slice wm.e wm.m wm.d,.bool wo.b,.slice wo.a wo.n wo.c,.slice wo.e wo.m wo.d]) (by simp[results,results150,go_sem,rM,rV,p8,pq,pu,ol]) rfl ⟨_,_,rfl,RA.o,RB.o,l5.o⟩
theorem z7h (xa xb ya yb pa pb za zb:Rat)(q1a q1b:QS)(q2a q2b:QS)(w:World)  (h1:KQ1 132 yb pa)(h2:KQ1 132 ya pb)(h3:KII 150 xa xb pa pb za zb)(r1a:FQ w q1a xa)(r1b:FQ w q1b xb)(r2a:FQ w q2a ya)(r2b:FQ w q2b yb) :
 Calls Tryz.prog 109 #[(Qii q1a q1b),(Qii q2a q2b)] w (RII w za zb):=by
 dsimp only[Qii];obtain ⟨C1,C2,C3,R1a,R1b,R2a,R2b⟩:=dQ h1 h2 h3 r1a r1b r2a r2b;clear h1 h2 h3 r1a r1b r2a r2b;go_enter func109,ntmps109
 go_upto_region 1 with fail
 refine ak w [(#[.bool q1a.b,.slice q1a.a q1a.n q1a.c,.slice q1a.e q1a.m q1a.d,.bool q1b.b,.slice q1b.a q1b.n q1b.c,.slice q1b.e q1b.m q1b.d],58),(#[.bool q2a.b,.slice q2a.a q2a.n q2a.c,.slice q2a.e q2a.m q2a.d,.bool q2b.b,.slice q2b.a q2b.n q2b.c,.slice q2b.e q2b.m q2b.d],58),(#[.bool false,.slice none 0 0,.slice none 0 0,.bool false,.slice none 0 0,.slice none 0 0],58)] rfl ?_;rintro W0 ⟨k1,k2,k3,hb⟩;have wu:=hid (show Below w.heap.size w W0 from hb);obtain ⟨R1a,R1b,R2a,R2b⟩:=bR wu.o R1a R1b R2a R2b;obtain ⟨K1,K2,K3⟩:=au k1 k2 k3;clear k1 k2 k3 hb;go_wp2_with fail
 refine az (fun a0 a' V=>∃ (sw:QS) (lv:QS) (oM:QS) (oV:QS) (wm:QS) (wo:QS),a'=⟨putL [(5,Qii q1a q1b),(6,.pointer (some ⟨w.heap.size+1,3,none⟩)),(7,q2b.v),(8,sw.v),(9,.pointer (some ⟨w.heap.size+1,0,none⟩)),(10,q2a.v),(11,lv.v),(12,Qii oM oV),(13,Qii wm wo)] a0.tmps,a0.defers⟩∧Below w.heap.size w V∧SBk V (w.heap.size+1+1) #[.bool wm.b,.slice wm.a wm.n wm.c,.slice wm.e wm.m wm.d,.bool wo.b,.slice wo.a wo.n wo.c,.slice wo.e wo.m wo.d] 58∧FQ V wm za∧FQ V wo zb) ?_ ?_
 · refine aL 9 1 [5,6,7,8,9,10,11,12,13] [Rel.val (Qii q1a q1b),Rel.val (.pointer (some ⟨w.heap.size+1,3,none⟩)),Rel.val (q2b.v),Rel.q pa,Rel.val (.pointer (some ⟨w.heap.size+1,0,none⟩)),Rel.val (q2a.v),Rel.q pb,Rel.qi pa pb,Rel.qi za zb] ?_ ?_
   · intro mf a W i HI hD Hr him
     obtain⟨y2,y3⟩:=HI.o.s2 2 3;obtain ⟨bg,bn,bq,af,u00,u01⟩:=bQ (K1.o.below HI.o.world) rfl rfl rfl rfl rfl rfl;have bv:=(K2.o.below HI.o.world).cell (i:=3) rfl;have bM:=(K2.o.below HI.o.world).cell (i:=4) rfl;have bV:=(K2.o.below HI.o.world).cell (i:=5) rfl;obtain ⟨l6,lg,bu⟩:=aC (K2.o.below HI.o.world) rfl rfl rfl;obtain⟨X1,X2,X4⟩:=HI.o.g3 1 6 2 7 4 9;obtain⟨X5,X0⟩:=HI.o.g2 5 10 0 5
     match i,him,Hr with
     | 0,_,Hi|1,_,Hi|2,_,Hi|4,_,Hi|5,_,Hi =>
       try have x1:=X1.t Hi.o
       try have x4:=X4.t Hi.o
       refine aA rfl fun K' hK=>?_;go_simp;exact hK.o _ _ (HI.o.pw Hi.o)
     | 3,_,Hi =>
       have x2:=X2.q Hi.o;refine aA rfl fun K' hK=>?_;go_simp;with_reducible refine(C1.o _ _ (R2b.o.below HI.o.world)).mono ?_
       rintro e W' ⟨sw,rfl,u0c,hb⟩;exact hK.o _ _ ⟨HI.o.pc Hi.o hb ⟨sw,rfl,u0c⟩,trivial⟩
     | 6,_,Hi =>
       have x5:=X5.q Hi.o;refine aA rfl fun K' hK=>?_;go_simp;with_reducible refine(C2.o _ _ (R2a.o.below HI.o.world)).mono ?_
       rintro e W' ⟨lv,rfl,u0q,hb⟩;exact hK.o _ _ ⟨HI.o.pc Hi.o hb ⟨lv,rfl,u0q⟩,trivial⟩
     | 7,_,Hi =>
       obtain⟨sw,x3,dx⟩:=qAt HI.o 3 8 Hi.o (by kernel_rfl);dsimp only[QS.v]at x3;obtain⟨lv,x6,u0m⟩:=qAt HI.o 6 11 Hi.o (by kernel_rfl);dsimp only[QS.v]at x6;refine aA rfl fun K' hK=>?_;go_simp;exact hK.o _ _ ⟨HI.o.pv Hi.o ⟨sw,lv,rfl,dx.o,u0m.o⟩,trivial⟩
     | 8,_,Hi =>
       have x0:=X0.q Hi.o;obtain⟨oM,oV,x7,dY,cO⟩:=qAti HI.o 7 12 Hi.o (by kernel_rfl);dsimp only[Qii]at x7;refine aA rfl fun K' hK=>?_;go_simp;with_reducible refine(C3.o _ _ _ _ _ (R1a.o.below HI.o.world) (R1b.o.below HI.o.world) dY.o cO.o).mono ?_
       rintro e W' ⟨wm,wo,rfl,rn1_8a,rn1_8b,hb⟩;exact hK.o _ _ ⟨HI.o.pc Hi.o hb ⟨wm,wo,rfl,rn1_8a,rn1_8b⟩,trivial⟩
     | n+9,h,_=>exact absurd h (by omega)
   · intro mf a W HI hD HA
     obtain⟨sw,x3,dx⟩:=qEnd HI.o HA.o 3 8;obtain⟨lv,x6,u0m⟩:=qEnd HI.o HA.o 6 11;obtain⟨oM,oV,x7,dY,cO⟩:=iO HI.o HA.o 7 12;obtain⟨wm,wo,x8,u0k,u0l⟩:=iO HI.o HA.o 8 13;have sj:=hid HI.o.world;obtain ⟨mi,K3⟩:=aD (wu.o.trans (sj.o.mono wu.o.size)) (K3.o.below sj.o);have RPA:=dx;have RPB:=u0m;have u0v:=dY;have u0w:=cO;have RA:=u0k;have RB:=u0l;obtain ⟨rM,rV,p8,pq,pu,ol⟩:=bQ K3.o rfl rfl rfl rfl rfl rfl;obtain ⟨u04,u05,u06,u07,u08,u09⟩:=dR K3.o;have y4:=HI.o.rst 4 rfl;dsimp only[Qii]at x8;refine aZ (t:=0) ?_;refine aA rfl fun K' hK=>?_;go_simp;refine hK.o _ _ ?_;clear hK;refine aV ?_;rw[← dM];have s0:∀ {q':QS} {x':Rat},FQ W q' x'→FQ (storeAll W (w.heap.size+1+1) 0 [.bool wm.b,.slice wm.a wm.n wm.c,.slice wm.e wm.m wm.d,.bool wo.b,.slice wo.a wo.n wo.c,.slice wo.e wo.m wo.d]) q' x':=fun h'=>bO _ 0 h' K3.o (by simp[bJ]) (by simp[aW]);exact⟨rfl,sw,lv,oM,oV,wm,wo,(HI.o.finx ⟨HI.o.sx HA.o 0,HI.o.sx HA.o 1,HI.o.sx HA.o 2,x3,HI.o.sx HA.o 4,HI.o.sx HA.o 5,x6,x7,x8,trivial⟩ rfl),(aj (l:=[.bool wm.b,.slice wm.a wm.n wm.c,.slice wm.e wm.m wm.d,.bool wo.b,.slice wo.a wo.n wo.c,.slice wo.e wo.m wo.d]) (i:=0) (by omega) mi.o),(dC K3.o),(s0 RA.o),(s0 RB.o)⟩
 rintro a' W1 ⟨sw,lv,oM,oV,wm,wo,rfl,z0,z1,z2,z3⟩;obtain ⟨l5,K3,RA,RB⟩:=aM z0 z1 z2 z3;clear z0 z1 z2 z3;simp only[putL,List.setIfInBounds_toArray,List.set_cons_zero,List.set_cons_succ];go_wp2;obtain ⟨rM,rV,p8,pq,pu,ol⟩:=bQ K3.o rfl rfl rfl rfl rfl rfl;exact bodyPost_ret (v:=.agg #[.bool wm.b,.slice wm.a wm.n wm.c,.slice wm.e wm.m wm.d,.bool wo.b,.slice wo.a wo.n wo.c,.slice wo.e wo.m wo.d]) (by simp[results,results109,go_sem,rM,rV,p8,pq,pu,ol]) rfl ⟨_,_,rfl,RA.o,RB.o,l5.o⟩
theorem gTo (xa xb:Rat)(s t:ByteArray)(q1a q1b:QS)(w:World)  (h1:KP1 81 xa (.string s))(h2:KP1 81 xb (.string t))(r1a:FQ w q1a xa)(r1b:FQ w q1b xb) :
 CR 32 #[(Qii q1a q1b)] w (.agg #[.string s,.string t]):=by
 dsimp only[Qii];obtain ⟨C1,C2,R1a,R1b⟩:=aM h1 h2 r1a r1b;clear h1 h2 r1a r1b;go_enter func32,ntmps32
 go_upto_region 1 with fail
 refine ak w [(#[.bool q1a.b,.slice q1a.a q1a.n q1a.c,.slice q1a.e q1a.m q1a.d,.bool q1b.b,.slice q1b.a q1b.n q1b.c,.slice q1b.e q1b.m q1b.d],58),(#[.string ⟨#[]⟩,.string ⟨#[]⟩],27)] rfl ?_;rintro W0 ⟨k1,k2,hb⟩;have wu:=hid (show Below w.heap.size w W0 from hb);obtain ⟨R1a,R1b⟩:=aO wu.o R1a R1b;obtain ⟨K1,K2⟩:=aD k1 k2;clear k1 k2 hb;go_wp2_with fail
 refine az (fun a0 a' V=>a'=⟨putL [(3,.pointer (some ⟨w.heap.size,0,none⟩)),(4,q1a.v),(5,.string s),(6,.pointer (some ⟨w.heap.size,3,none⟩)),(7,q1b.v),(8,.string t),(9,.agg #[.string s,.string t])] a0.tmps,a0.defers⟩∧Below w.heap.size w V∧SBk V (w.heap.size+1) #[.string s,.string t] 27) ?_ ?_
 · refine aL 7 1 [3,4,5,6,7,8,9] [Rel.val (.pointer (some ⟨w.heap.size,0,none⟩)),Rel.val (q1a.v),Rel.val (.string s),Rel.val (.pointer (some ⟨w.heap.size,3,none⟩)),Rel.val (q1b.v),Rel.val (.string t),Rel.val (.agg #[.string s,.string t])] ?_ ?_
   · intro mf a W i HI hD Hr him
     have y1:=HI.o.rst 1 rfl;obtain ⟨bg,bn,bq,af,u00,u01⟩:=bQ (K1.o.below HI.o.world) rfl rfl rfl rfl rfl rfl;obtain⟨X0,X1,X3,X4,X2,X5⟩:=HI.o.g6 0 3 1 4 3 6 4 7 2 5 5 8
     match i,him,Hr with
     | 0,_,Hi|1,_,Hi|3,_,Hi|4,_,Hi|6,_,Hi =>
       try have x0:=X0.t Hi.o
       try have x3:=X3.t Hi.o
       try have x2:=X2.t Hi.o
       try have x5:=X5.t Hi.o
       refine aA rfl fun K' hK=>?_;go_simp;exact hK.o _ _ (HI.o.pw Hi.o)
     | 2,_,Hi =>
       have x1:=X1.q Hi.o;refine aA rfl fun K' hK=>?_;go_simp;with_reducible refine(C1.o _ _ (R1a.o.below HI.o.world)).mono ?_
       rintro e W' ⟨rfl,hb⟩;exact hK.o _ _ ⟨HI.o.pc Hi.o hb rfl,trivial⟩
     | 5,_,Hi =>
       have x4:=X4.q Hi.o;refine aA rfl fun K' hK=>?_;go_simp;with_reducible refine(C2.o _ _ (R1b.o.below HI.o.world)).mono ?_
       rintro e W' ⟨rfl,hb⟩;exact hK.o _ _ ⟨HI.o.pc Hi.o hb rfl,trivial⟩
     | n+7,h,_=>exact absurd h (by omega)
   · intro mf a W HI hD HA
     have x6:a.tmps[9]? = some (.agg #[.string s,.string t]):=HI.o.sx HA.o 6;have sj:=hid HI.o.world;obtain ⟨mi,K2⟩:=aD (wu.o.trans (sj.o.mono wu.o.size)) (K2.o.below sj.o);obtain⟨l6,lg⟩:=z6x K2.o;obtain⟨u0n,u0o⟩:=frz2 K2.o;have y2:=HI.o.rst 2 rfl;refine aZ (t:=0) ?_;refine aA rfl fun K' hK=>?_;go_simp;refine hK.o _ _ ?_;clear hK;refine aV ?_;rw[← fG];exact⟨rfl,(HI.o.finx ⟨HI.o.sx HA.o 0,HI.o.sx HA.o 1,HI.o.sx HA.o 2,HI.o.sx HA.o 3,HI.o.sx HA.o 4,HI.o.sx HA.o 5,x6,trivial⟩ rfl),(aj (l:=[.string s,.string t]) (i:=0) (by omega) mi.o),(fF K2.o)⟩
 rintro a' W1 ⟨rfl,z0,z1⟩;have l5:=hid z0;have K2:=hid z1;clear z0 z1;simp only[putL,List.setIfInBounds_toArray,List.set_cons_zero,List.set_cons_succ];go_wp2;obtain ⟨l6,lg⟩:=ay K2.o rfl rfl;exact bodyPost_ret (v:=.agg #[.string s,.string t]) (by simp[results,results32,go_sem,l6,lg]) rfl ⟨rfl,l5.o⟩
