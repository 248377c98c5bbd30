/- texts -/
import Derived.Test.YtoaeaiiabelhkaaGreatDoorMz38q
open Go.Proofs.Tryz
set_option maxRecDepth 100000
set_option maxHeartbeats 20000000
open Go.Lib (hid)
namespace Go.Proofs.YtoaeaiiabelhkaaGreatDoor
open Go.RowKit Go.Gb
set_option linter.unusedSimpArgs false
set_option linter.unusedVariables false
abbrev RII (W:World) (x y:Rat):Ending→World→Prop:=fun e w'=>∃ qa qb:QS,e=.returned (.agg #[.bool qa.b,.slice qa.a qa.n qa.c,.slice qa.e qa.m qa.d,.bool qb.b,.slice qb.a qb.n qb.c,.slice qb.e qb.m qb.d])∧FQ w' qa x∧FQ w' qb y∧Below W.heap.size W w'
abbrev KI1 (f:Nat) (x0:Rat) (x y:Rat):Prop:=∀ (q0:QS) (W:World),FQ W q0 x0→Calls Tryz.prog f #[.agg #[.bool q0.b,.slice q0.a q0.n q0.c,.slice q0.e q0.m q0.d]] W (RII W x y)
abbrev KII (f:Nat) (xa xb ya yb:Rat) (x y:Rat):Prop:=∀ (qa qb qc qd:QS) (W:World),FQ W qa xa→FQ W qb xb→FQ W qc ya→FQ W qd yb→Calls Tryz.prog f #[.agg #[.bool qa.b,.slice qa.a qa.n qa.c,.slice qa.e qa.m qa.d,.bool qb.b,.slice qb.a qb.n qb.c,.slice qb.e qb.m qb.d],.agg #[.bool qc.b,.slice qc.a qc.n qc.c,.slice qc.e qc.m qc.d,.bool qd.b,.slice qd.a qd.n qd.c,.slice qd.e qd.m qd.d]] W (RII W x y)
abbrev KIQ (f:Nat) (xa xb xk:Rat) (x y:Rat):Prop:=∀ (qa qb qc:QS) (W:World),FQ W qa xa→FQ W qb xb→FQ W qc xk→Calls Tryz.prog f #[.agg #[.bool qa.b,.slice qa.a qa.n qa.c,.slice qa.e qa.m qa.d,.bool qb.b,.slice qb.a qb.n qb.c,.slice qb.e qb.m qb.d],.agg #[.bool qc.b,.slice qc.a qc.n qc.c,.slice qc.e qc.m qc.d]] W (RII W x y)
theorem z7n (xa:Rat)(q1:QS)(w:World)   (r1:FQ w q1 xa) :
 Calls Tryz.prog 97 #[(QS.v q1)] w (RII w xa xa):=by
 dsimp only[QS.v];have R1:=hid r1;clear r1;go_enter func97,ntmps97
 go_upto_region 1 with fail
 refine av w [(q1.l.toArray,49),(#[.bool false,.slice none 0 0,.slice none 0 0,.bool false,.slice none 0 0,.slice none 0 0],55)] rfl ?_;rintro W0 ⟨k1,k2,hb⟩;have wo:=hid (show Below w.heap.size w W0 from hb);obtain ⟨K1,K2,R1⟩:=ak k1 k2 (R1.o.below wo.o);clear k1 k2 hb;obtain ⟨dx,dz,dX⟩:=aA K1.o rfl rfl rfl;obtain ⟨mf,mi,dY,cO,bg,bn⟩:=bE K2.o rfl rfl rfl rfl rfl rfl;obtain ⟨u0i,u0j,u0m,u0n,u0o,u0p⟩:=dP K2.o;go_wp2;exact bodyPost_ret (v:=.agg #[.bool q1.b,.slice q1.a q1.n q1.c,.slice q1.e q1.m q1.d,.bool q1.b,.slice q1.a q1.n q1.c,.slice q1.e q1.m q1.d]) (by simp[results,results97,go_sem,mf,mi,dY,cO,bg,bn]) rfl ⟨_,_,rfl,(bO [.bool q1.b,.slice q1.a q1.n q1.c,.slice q1.e q1.m q1.d,.bool q1.b,.slice q1.a q1.n q1.c,.slice q1.e q1.m q1.d] 0 R1.o K2.o (by simp[bJ]) (by simp[aU])),(bO [.bool q1.b,.slice q1.a q1.n q1.c,.slice q1.e q1.m q1.d,.bool q1.b,.slice q1.a q1.n q1.c,.slice q1.e q1.m q1.d] 0 R1.o K2.o (by simp[bJ]) (by simp[aU])),(aj (l:=[.bool q1.b,.slice q1.a q1.n q1.c,.slice q1.e q1.m q1.d,.bool q1.b,.slice q1.a q1.n q1.c,.slice q1.e q1.m q1.d]) (i:=0) (by omega) wo.o)⟩
theorem z6x (xa xb ya yb za zb:Rat)(q1a q1b:QS)(q2a q2b:QS)(w:World)  (h1:KQ2 101 xa yb za)(h2:KQ2 101 xb ya zb)(r1a:FQ w q1a xa)(r1b:FQ w q1b xb)(r2a:FQ w q2a ya)(r2b:FQ w q2b yb) :
 Calls Tryz.prog 102 #[(Qii q1a q1b),(Qii q2a q2b)] w (RII w za zb):=by
 dsimp only[Qii];obtain ⟨C1,C2,R1a,R1b,R2a,R2b⟩:=di h1 h2 r1a r1b r2a r2b;clear h1 h2 r1a r1b r2a r2b;go_enter func102,ntmps102
 go_upto_region 1 with fail
 refine av w [(#[.bool q1a.b,.slice q1a.a q1a.n q1a.c,.slice q1a.e q1a.m q1a.d,.bool q1b.b,.slice q1b.a q1b.n q1b.c,.slice q1b.e q1b.m q1b.d],55),(#[.bool q2a.b,.slice q2a.a q2a.n q2a.c,.slice q2a.e q2a.m q2a.d,.bool q2b.b,.slice q2b.a q2b.n q2b.c,.slice q2b.e q2b.m q2b.d],55),(#[.bool false,.slice none 0 0,.slice none 0 0,.bool false,.slice none 0 0,.slice none 0 0],55)] rfl ?_;rintro W0 ⟨k1,k2,k3,hb⟩;have wo:=hid (show Below w.heap.size w W0 from hb);obtain ⟨R1a,R1b,R2a,R2b⟩:=bY wo.o R1a R1b R2a R2b;obtain ⟨K1,K2,K3⟩:=ak k1 k2 k3;clear k1 k2 k3 hb;go_wp2_with fail
 refine ay (fun a0 a' V=>∃ (wu:QS) (ww:QS) (u6:QS) (uu:QS),a'=⟨putL [(5,.pointer (some ⟨w.heap.size,0,none⟩)),(6,q1a.v),(7,.pointer (some ⟨w.heap.size+1,3,none⟩)),(8,q2b.v),(9,wu.v),(10,.pointer (some ⟨w.heap.size,3,none⟩)),(11,q1b.v),(12,.pointer (some ⟨w.heap.size+1,0,none⟩)),(13,q2a.v),(14,ww.v),(15,Qii u6 uu)] a0.tmps,a0.defers⟩∧Below w.heap.size w V∧SBk V (w.heap.size+1+1) #[.bool u6.b,.slice u6.a u6.n u6.c,.slice u6.e u6.m u6.d,.bool uu.b,.slice uu.a uu.n uu.c,.slice uu.e uu.m uu.d] 55∧FQ V u6 za∧FQ V uu zb) ?_ ?_
 · refine aH 11 1 [5,6,7,8,9,10,11,12,13,14,15] [Rel.val (.pointer (some ⟨w.heap.size,0,none⟩)),Rel.val (q1a.v),Rel.val (.pointer (some ⟨w.heap.size+1,3,none⟩)),Rel.val (q2b.v),Rel.q za,Rel.val (.pointer (some ⟨w.heap.size,3,none⟩)),Rel.val (q1b.v),Rel.val (.pointer (some ⟨w.heap.size+1,0,none⟩)),Rel.val (q2a.v),Rel.q zb,Rel.qi za zb] ?_ ?_
   · intro oM a W i HI hD Hr him
     obtain⟨y2,y3⟩:=HI.o.s2 2 3;obtain ⟨dx,dz,dX,bq,bu,bv⟩:=bE (K1.o.below HI.o.world) rfl rfl rfl rfl rfl rfl;have cO:=(K2.o.below HI.o.world).cell (i:=3) rfl;have bg:=(K2.o.below HI.o.world).cell (i:=4) rfl;have bn:=(K2.o.below HI.o.world).cell (i:=5) rfl;obtain ⟨mf,mi,dY⟩:=aA (K2.o.below HI.o.world) rfl rfl rfl;obtain⟨X0,X2,X1,X3,X5,X7⟩:=HI.o.g6 0 5 2 7 1 6 3 8 5 10 7 12;obtain⟨X6,X8⟩:=HI.o.g2 6 11 8 13
     match i,him,Hr with
     | 0,_,Hi|1,_,Hi|2,_,Hi|3,_,Hi|5,_,Hi|6,_,Hi|7,_,Hi|8,_,Hi =>
       try have x0:=X0.t Hi.o
       try have x2:=X2.t Hi.o
       try have x5:=X5.t Hi.o
       try have x7:=X7.t Hi.o
       refine stepH rfl fun K' hK=>?_;go_simp;exact hK.o _ _ (HI.o.pw Hi.o)
     | 4,_,Hi =>
       have x1:=X1.q Hi.o;have x3:=X3.q Hi.o;refine stepH rfl fun K' hK=>?_;go_simp;with_reducible refine(C1.o _ _ _ (R1a.o.below HI.o.world) (R2b.o.below HI.o.world)).mono ?_
       rintro e W' ⟨wu,rfl,u05,hb⟩;exact hK.o _ _ ⟨HI.o.pc Hi.o hb ⟨wu,rfl,u05⟩,trivial⟩
     | 9,_,Hi =>
       have x6:=X6.q Hi.o;have x8:=X8.q Hi.o;refine stepH rfl fun K' hK=>?_;go_simp;with_reducible refine(C2.o _ _ _ (R1b.o.below HI.o.world) (R2a.o.below HI.o.world)).mono ?_
       rintro e W' ⟨ww,rfl,u06,hb⟩;exact hK.o _ _ ⟨HI.o.pc Hi.o hb ⟨ww,rfl,u06⟩,trivial⟩
     | 10,_,Hi =>
       obtain⟨wu,x4,l6⟩:=qAt HI.o 4 9 Hi.o (by kernel_rfl);dsimp only[QS.v]at x4;obtain⟨ww,x9,lg⟩:=qAt HI.o 9 14 Hi.o (by kernel_rfl);dsimp only[QS.v]at x9;refine stepH rfl fun K' hK=>?_;go_simp;exact hK.o _ _ ⟨HI.o.pv Hi.o ⟨wu,ww,rfl,l6.o,lg.o⟩,trivial⟩
     | n+11,h,_=>exact absurd h (by omega)
   · intro oM a W HI hD HA
     obtain⟨wu,x4,l6⟩:=qEnd HI.o HA.o 4 9;obtain⟨ww,x9,lg⟩:=qEnd HI.o HA.o 9 14;obtain⟨u6,uu,x10,bM,bV⟩:=iO HI.o HA.o 10 15;have si:=hid HI.o.world;obtain ⟨oV,K3⟩:=aB (wo.o.trans (si.o.mono wo.o.size)) (K3.o.below si.o);have RA:=l6;have RB:=lg;have ll:=bM;have lv:=bV;obtain ⟨su,sw,rM,rV,p8,pq⟩:=bE K3.o rfl rfl rfl rfl rfl rfl;obtain ⟨af,u00,u01,u02,u03,u04⟩:=dP K3.o;have y4:=HI.o.rst 4 rfl;dsimp only[Qii]at x10;refine aZ (t:=0) ?_;refine stepH rfl fun K' hK=>?_;go_simp;refine hK.o _ _ ?_;clear hK;refine aV ?_;rw[← dL];have s0:∀ {q':QS} {x':Rat},FQ W q' x'→FQ (storeAll W (w.heap.size+1+1) 0 [.bool u6.b,.slice u6.a u6.n u6.c,.slice u6.e u6.m u6.d,.bool uu.b,.slice uu.a uu.n uu.c,.slice uu.e uu.m uu.d]) q' x':=fun h'=>bO _ 0 h' K3.o (by simp[bJ]) (by simp[aU]);exact⟨rfl,wu,ww,u6,uu,(HI.o.finx ⟨HI.o.sx HA.o 0,HI.o.sx HA.o 1,HI.o.sx HA.o 2,HI.o.sx HA.o 3,x4,HI.o.sx HA.o 5,HI.o.sx HA.o 6,HI.o.sx HA.o 7,HI.o.sx HA.o 8,x9,x10,trivial⟩ rfl),(aj (l:=[.bool u6.b,.slice u6.a u6.n u6.c,.slice u6.e u6.m u6.d,.bool uu.b,.slice uu.a uu.n uu.c,.slice uu.e uu.m uu.d]) (i:=0) (by omega) oV.o),(dC K3.o),(s0 ll.o),(s0 lv.o)⟩
 rintro a' W1 ⟨wu,ww,u6,uu,rfl,z0,z1,z2,z3⟩;obtain ⟨ny,K3,ll,lv⟩:=aN z0 z1 z2 z3;clear z0 z1 z2 z3;simp only[putL,List.setIfInBounds_toArray,List.set_cons_zero,List.set_cons_succ];go_wp2;obtain ⟨su,sw,rM,rV,p8,pq⟩:=bE K3.o rfl rfl rfl rfl rfl rfl;exact bodyPost_ret (v:=.agg #[.bool u6.b,.slice u6.a u6.n u6.c,.slice u6.e u6.m u6.d,.bool uu.b,.slice uu.a uu.n uu.c,.slice uu.e uu.m uu.d]) (by simp[results,results102,go_sem,su,sw,rM,rV,p8,pq]) rfl ⟨_,_,rfl,ll.o,lv.o,ny.o⟩
theorem z7o (xa xb ya yb za zb:Rat)(q1a q1b:QS)(q2a q2b:QS)(w:World)  (h1:KQ2 135 xa ya za)(h2:KQ2 136 xb yb zb)(r1a:FQ w q1a xa)(r1b:FQ w q1b xb)(r2a:FQ w q2a ya)(r2b:FQ w q2b yb) :
 Calls Tryz.prog 96 #[(Qii q1a q1b),(Qii q2a q2b)] w (RII w za zb):=by
 dsimp only[Qii];obtain ⟨C1,C2,R1a,R1b,R2a,R2b⟩:=di h1 h2 r1a r1b r2a r2b;clear h1 h2 r1a r1b r2a r2b;go_enter func96,ntmps96
 go_upto_region 1 with fail
 refine av w [(#[.bool q1a.b,.slice q1a.a q1a.n q1a.c,.slice q1a.e q1a.m q1a.d,.bool q1b.b,.slice q1b.a q1b.n q1b.c,.slice q1b.e q1b.m q1b.d],55),(#[.bool q2a.b,.slice q2a.a q2a.n q2a.c,.slice q2a.e q2a.m q2a.d,.bool q2b.b,.slice q2b.a q2b.n q2b.c,.slice q2b.e q2b.m q2b.d],55),(#[.bool false,.slice none 0 0,.slice none 0 0,.bool false,.slice none 0 0,.slice none 0 0],55)] rfl ?_;rintro W0 ⟨k1,k2,k3,hb⟩;have wo:=hid (show Below w.heap.size w W0 from hb);obtain ⟨R1a,R1b,R2a,R2b⟩:=bY wo.o R1a R1b R2a R2b;obtain ⟨K1,K2,K3⟩:=ak k1 k2 k3;clear k1 k2 k3 hb;go_wp2_with fail
 refine ay (fun a0 a' V=>∃ (wu:QS) (ww:QS) (u6:QS) (uu:QS),a'=⟨putL [(5,.pointer (some ⟨w.heap.size,0,none⟩)),(6,q1a.v),(7,.pointer (some ⟨w.heap.size+1,0,none⟩)),(8,q2a.v),(9,wu.v),(10,.pointer (some ⟨w.heap.size,3,none⟩)),(11,q1b.v),(12,.pointer (some ⟨w.heap.size+1,3,none⟩)),(13,q2b.v),(14,ww.v),(15,Qii u6 uu)] a0.tmps,a0.defers⟩∧Below w.heap.size w V∧SBk V (w.heap.size+1+1) #[.bool u6.b,.slice u6.a u6.n u6.c,.slice u6.e u6.m u6.d,.bool uu.b,.slice uu.a uu.n uu.c,.slice uu.e uu.m uu.d] 55∧FQ V u6 za∧FQ V uu zb) ?_ ?_
 · refine aH 11 1 [5,6,7,8,9,10,11,12,13,14,15] [Rel.val (.pointer (some ⟨w.heap.size,0,none⟩)),Rel.val (q1a.v),Rel.val (.pointer (some ⟨w.heap.size+1,0,none⟩)),Rel.val (q2a.v),Rel.q za,Rel.val (.pointer (some ⟨w.heap.size,3,none⟩)),Rel.val (q1b.v),Rel.val (.pointer (some ⟨w.heap.size+1,3,none⟩)),Rel.val (q2b.v),Rel.q zb,Rel.qi za zb] ?_ ?_
   · intro oM a W i HI hD Hr him
     obtain⟨y2,y3⟩:=HI.o.s2 2 3;obtain ⟨dx,dz,dX,bq,bu,bv⟩:=bE (K1.o.below HI.o.world) rfl rfl rfl rfl rfl rfl;obtain ⟨mf,mi,dY,cO,bg,bn⟩:=bE (K2.o.below HI.o.world) rfl rfl rfl rfl rfl rfl;obtain⟨X0,X2,X1,X3,X5,X7⟩:=HI.o.g6 0 5 2 7 1 6 3 8 5 10 7 12;obtain⟨X6,X8⟩:=HI.o.g2 6 11 8 13
     match i,him,Hr with
     | 0,_,Hi|1,_,Hi|2,_,Hi|3,_,Hi|5,_,Hi|6,_,Hi|7,_,Hi|8,_,Hi =>
       try have x0:=X0.t Hi.o
       try have x2:=X2.t Hi.o
       try have x5:=X5.t Hi.o
       try have x7:=X7.t Hi.o
       refine stepH rfl fun K' hK=>?_;go_simp;exact hK.o _ _ (HI.o.pw Hi.o)
     | 4,_,Hi =>
       have x1:=X1.q Hi.o;have x3:=X3.q Hi.o;refine stepH rfl fun K' hK=>?_;go_simp;with_reducible refine(C1.o _ _ _ (R1a.o.below HI.o.world) (R2a.o.below HI.o.world)).mono ?_
       rintro e W' ⟨wu,rfl,u05,hb⟩;exact hK.o _ _ ⟨HI.o.pc Hi.o hb ⟨wu,rfl,u05⟩,trivial⟩
     | 9,_,Hi =>
       have x6:=X6.q Hi.o;have x8:=X8.q Hi.o;refine stepH rfl fun K' hK=>?_;go_simp;with_reducible refine(C2.o _ _ _ (R1b.o.below HI.o.world) (R2b.o.below HI.o.world)).mono ?_
       rintro e W' ⟨ww,rfl,u06,hb⟩;exact hK.o _ _ ⟨HI.o.pc Hi.o hb ⟨ww,rfl,u06⟩,trivial⟩
     | 10,_,Hi =>
       obtain⟨wu,x4,l6⟩:=qAt HI.o 4 9 Hi.o (by kernel_rfl);dsimp only[QS.v]at x4;obtain⟨ww,x9,lg⟩:=qAt HI.o 9 14 Hi.o (by kernel_rfl);dsimp only[QS.v]at x9;refine stepH rfl fun K' hK=>?_;go_simp;exact hK.o _ _ ⟨HI.o.pv Hi.o ⟨wu,ww,rfl,l6.o,lg.o⟩,trivial⟩
     | n+11,h,_=>exact absurd h (by omega)
   · intro oM a W HI hD HA
     obtain⟨wu,x4,l6⟩:=qEnd HI.o HA.o 4 9;obtain⟨ww,x9,lg⟩:=qEnd HI.o HA.o 9 14;obtain⟨u6,uu,x10,bM,bV⟩:=iO HI.o HA.o 10 15;have si:=hid HI.o.world;obtain ⟨oV,K3⟩:=aB (wo.o.trans (si.o.mono wo.o.size)) (K3.o.below si.o);have RA:=l6;have RB:=lg;have ll:=bM;have lv:=bV;obtain ⟨su,sw,rM,rV,p8,pq⟩:=bE K3.o rfl rfl rfl rfl rfl rfl;obtain ⟨af,u00,u01,u02,u03,u04⟩:=dP K3.o;have y4:=HI.o.rst 4 rfl;dsimp only[Qii]at x10;refine aZ (t:=0) ?_;refine stepH rfl fun K' hK=>?_;go_simp;refine hK.o _ _ ?_;clear hK;refine aV ?_;rw[← dL];have s0:∀ {q':QS} {x':Rat},FQ W q' x'→FQ (storeAll W (w.heap.size+1+1) 0 [.bool u6.b,.slice u6.a u6.n u6.c,.slice u6.e u6.m u6.d,.bool uu.b,.slice uu.a uu.n uu.c,.slice uu.e uu.m uu.d]) q' x':=fun h'=>bO _ 0 h' K3.o (by simp[bJ]) (by simp[aU]);exact⟨rfl,wu,ww,u6,uu,(HI.o.finx ⟨HI.o.sx HA.o 0,HI.o.sx HA.o 1,HI.o.sx HA.o 2,HI.o.sx HA.o 3,x4,HI.o.sx HA.o 5,HI.o.sx HA.o 6,HI.o.sx HA.o 7,HI.o.sx HA.o 8,x9,x10,trivial⟩ rfl),(aj (l:=[.bool u6.b,.slice u6.a u6.n u6.c,.slice u6.e u6.m u6.d,.bool uu.b,.slice uu.a uu.n uu.c,.slice uu.e uu.m uu.d]) (i:=0) (by omega) oV.o),(dC K3.o),(s0 ll.o),(s0 lv.o)⟩
 rintro a' W1 ⟨wu,ww,u6,uu,rfl,z0,z1,z2,z3⟩;obtain ⟨ny,K3,ll,lv⟩:=aN z0 z1 z2 z3;clear z0 z1 z2 z3;simp only[putL,List.setIfInBounds_toArray,List.set_cons_zero,List.set_cons_succ];go_wp2;obtain ⟨su,sw,rM,rV,p8,pq⟩:=bE K3.o rfl rfl rfl rfl rfl rfl;exact bodyPost_ret (v:=.agg #[.bool u6.b,.slice u6.a u6.n u6.c,.slice u6.e u6.m u6.d,.bool uu.b,.slice uu.a uu.n uu.c,.slice uu.e uu.m uu.d]) (by simp[results,results96,go_sem,su,sw,rM,rV,p8,pq]) rfl ⟨_,_,rfl,ll.o,lv.o,ny.o⟩
theorem z6w (xa xb k pa pb za zb:Rat)(q1a q1b:QS)(q2:QS)(w:World)  (h1:KQ2 56 xa k pa)(h2:KI1 97 pa pa pa)(h3:KQ2 56 xb k pb)(h4:KI1 97 pb pb pb)(h5:KII 96 pa pa pb pb za zb)(r1a:FQ w q1a xa)(r1b:FQ w q1b xb)(r2:FQ w q2 k) :
 Calls Tryz.prog 60 #[(Qii q1a q1b),(QS.v q2)] w (RII w za zb):=by
 dsimp only[QS.v,Qii];obtain ⟨C1,C2,C3,C4,C5,R1a,R1b,R2⟩:=jc h1 h2 h3 h4 h5 r1a r1b r2;clear h1 h2 h3 h4 h5 r1a r1b r2;go_enter func60,ntmps60
 go_upto_region 1 with fail
 refine av w [(#[.bool q1a.b,.slice q1a.a q1a.n q1a.c,.slice q1a.e q1a.m q1a.d,.bool q1b.b,.slice q1b.a q1b.n q1b.c,.slice q1b.e q1b.m q1b.d],55),(q2.l.toArray,49),(#[.bool false,.slice none 0 0,.slice none 0 0,.bool false,.slice none 0 0,.slice none 0 0],55)] rfl ?_;rintro W0 ⟨k1,k2,k3,hb⟩;have wo:=hid (show Below w.heap.size w W0 from hb);obtain ⟨R1a,R1b,R2⟩:=bA wo.o R1a R1b R2;obtain ⟨K1,K2,K3⟩:=ak k1 k2 k3;clear k1 k2 k3 hb;go_wp2_with fail
 refine ay (fun a0 a' V=>∃ (sj:QS) (kz:QS) (kM:QS) (kV:QS) (gy:QS) (fq:QS) (u6:QS) (uu:QS),a'=⟨putL [(5,.pointer (some ⟨w.heap.size,0,none⟩)),(6,q1a.v),(7,q2.v),(8,sj.v),(9,Qii kz kM),(10,.pointer (some ⟨w.heap.size,3,none⟩)),(11,q1b.v),(12,q2.v),(13,kV.v),(14,Qii gy fq),(15,Qii u6 uu)] a0.tmps,a0.defers⟩∧Below w.heap.size w V∧SBk V (w.heap.size+1+1) #[.bool u6.b,.slice u6.a u6.n u6.c,.slice u6.e u6.m u6.d,.bool uu.b,.slice uu.a uu.n uu.c,.slice uu.e uu.m uu.d] 55∧FQ V u6 za∧FQ V uu zb) ?_ ?_
 · refine aH 11 1 [5,6,7,8,9,10,11,12,13,14,15] [Rel.val (.pointer (some ⟨w.heap.size,0,none⟩)),Rel.val (q1a.v),Rel.val (q2.v),Rel.q pa,Rel.qi pa pa,Rel.val (.pointer (some ⟨w.heap.size,3,none⟩)),Rel.val (q1b.v),Rel.val (q2.v),Rel.q pb,Rel.qi pb pb,Rel.qi za zb] ?_ ?_
   · intro oM a W i HI hD Hr him
     obtain⟨y2,y3⟩:=HI.o.s2 2 3;obtain ⟨dx,dz,dX,bq,bu,bv⟩:=bE (K1.o.below HI.o.world) rfl rfl rfl rfl rfl rfl;obtain⟨mf,mi,dY⟩:=cells3 (K2.o.below HI.o.world);obtain⟨X0,X1,X2,X5,X6,X7⟩:=HI.o.g6 0 5 1 6 2 7 5 10 6 11 7 12
     match i,him,Hr with
     | 0,_,Hi|1,_,Hi|2,_,Hi|5,_,Hi|6,_,Hi|7,_,Hi =>
       try have x0:=X0.t Hi.o
       try have x5:=X5.t Hi.o
       refine stepH rfl fun K' hK=>?_;go_simp;exact hK.o _ _ (HI.o.pw Hi.o)
     | 3,_,Hi =>
       have x1:=X1.q Hi.o;have x2:=X2.q Hi.o;refine stepH rfl fun K' hK=>?_;go_simp;with_reducible refine(C1.o _ _ _ (R1a.o.below HI.o.world) (R2.o.below HI.o.world)).mono ?_
       rintro e W' ⟨sj,rfl,u07,hb⟩;exact hK.o _ _ ⟨HI.o.pc Hi.o hb ⟨sj,rfl,u07⟩,trivial⟩
     | 4,_,Hi =>
       obtain⟨sj,x3,fQ⟩:=qAt HI.o 3 8 Hi.o (by kernel_rfl);refine stepH rfl fun K' hK=>?_;go_simp;with_reducible refine(C2.o _ _ fQ.o).mono ?_
       rintro e W' ⟨kz,kM,rfl,rn1_4a,rn1_4b,hb⟩;exact hK.o _ _ ⟨HI.o.pc Hi.o hb ⟨kz,kM,rfl,rn1_4a,rn1_4b⟩,trivial⟩
     | 8,_,Hi =>
       have x6:=X6.q Hi.o;have x7:=X7.q Hi.o;refine stepH rfl fun K' hK=>?_;go_simp;with_reducible refine(C3.o _ _ _ (R1b.o.below HI.o.world) (R2.o.below HI.o.world)).mono ?_
       rintro e W' ⟨kV,rfl,u0k,hb⟩;exact hK.o _ _ ⟨HI.o.pc Hi.o hb ⟨kV,rfl,u0k⟩,trivial⟩
     | 9,_,Hi =>
       obtain⟨kV,x8,u08⟩:=qAt HI.o 8 13 Hi.o (by kernel_rfl);refine stepH rfl fun K' hK=>?_;go_simp;with_reducible refine(C4.o _ _ u08.o).mono ?_
       rintro e W' ⟨gy,fq,rfl,rn1_9a,rn1_9b,hb⟩;exact hK.o _ _ ⟨HI.o.pc Hi.o hb ⟨gy,fq,rfl,rn1_9a,rn1_9b⟩,trivial⟩
     | 10,_,Hi =>
       obtain⟨kz,kM,x4,u09,u0a⟩:=qAti HI.o 4 9 Hi.o (by kernel_rfl);dsimp only[Qii]at x4;obtain⟨gy,fq,x9,u0b,u0c⟩:=qAti HI.o 9 14 Hi.o (by kernel_rfl);dsimp only[Qii]at x9;refine stepH rfl fun K' hK=>?_;go_simp;with_reducible refine(C5.o _ _ _ _ _ u09.o u0a.o u0b.o u0c.o).mono ?_
       rintro e W' ⟨u6,uu,rfl,rn1_10a,rn1_10b,hb⟩;exact hK.o _ _ ⟨HI.o.pc Hi.o hb ⟨u6,uu,rfl,rn1_10a,rn1_10b⟩,trivial⟩
     | n+11,h,_=>exact absurd h (by omega)
   · intro oM a W HI hD HA
     obtain⟨sj,x3,fQ⟩:=qEnd HI.o HA.o 3 8;obtain⟨kz,kM,x4,u09,u0a⟩:=iO HI.o HA.o 4 9;obtain⟨kV,x8,u08⟩:=qEnd HI.o HA.o 8 13;obtain⟨gy,fq,x9,u0b,u0c⟩:=iO HI.o HA.o 9 14;obtain⟨u6,uu,x10,bM,bV⟩:=iO HI.o HA.o 10 15;have si:=hid HI.o.world;obtain ⟨oV,K3⟩:=aB (wo.o.trans (si.o.mono wo.o.size)) (K3.o.below si.o);have RPA:=fQ;have RJA:=u09;have RJB:=u0a;have RPB:=u08;have RJC:=u0b;have RJD:=u0c;have RA:=bM;have RB:=bV;obtain ⟨su,sw,rM,rV,p8,pq⟩:=bE K3.o rfl rfl rfl rfl rfl rfl;obtain ⟨af,u00,u01,u02,u03,u04⟩:=dP K3.o;have y4:=HI.o.rst 4 rfl;dsimp only[Qii]at x10;refine aZ (t:=0) ?_;refine stepH rfl fun K' hK=>?_;go_simp;refine hK.o _ _ ?_;clear hK;refine aV ?_;rw[← dL];have s0:∀ {q':QS} {x':Rat},FQ W q' x'→FQ (storeAll W (w.heap.size+1+1) 0 [.bool u6.b,.slice u6.a u6.n u6.c,.slice u6.e u6.m u6.d,.bool uu.b,.slice uu.a uu.n uu.c,.slice uu.e uu.m uu.d]) q' x':=fun h'=>bO _ 0 h' K3.o (by simp[bJ]) (by simp[aU]);exact⟨rfl,sj,kz,kM,kV,gy,fq,u6,uu,(HI.o.finx ⟨HI.o.sx HA.o 0,HI.o.sx HA.o 1,HI.o.sx HA.o 2,x3,x4,HI.o.sx HA.o 5,HI.o.sx HA.o 6,HI.o.sx HA.o 7,x8,x9,x10,trivial⟩ rfl),(aj (l:=[.bool u6.b,.slice u6.a u6.n u6.c,.slice u6.e u6.m u6.d,.bool uu.b,.slice uu.a uu.n uu.c,.slice uu.e uu.m uu.d]) (i:=0) (by omega) oV.o),(dC K3.o),(s0 RA.o),(s0 RB.o)⟩
 rintro a' W1 ⟨sj,kz,kM,kV,gy,fq,u6,uu,rfl,z0,z1,z2,z3⟩;obtain ⟨ny,K3,RA,RB⟩:=aN z0 z1 z2 z3;clear z0 z1 z2 z3;simp only[putL,List.setIfInBounds_toArray,List.set_cons_zero,List.set_cons_succ];go_wp2;obtain ⟨su,sw,rM,rV,p8,pq⟩:=bE K3.o rfl rfl rfl rfl rfl rfl;exact bodyPost_ret (v:=.agg #[.bool u6.b,.slice u6.a u6.n u6.c,.slice u6.e u6.m u6.d,.bool uu.b,.slice uu.a uu.n uu.c,.slice uu.e uu.m uu.d]) (by simp[results,results60,go_sem,su,sw,rM,rV,p8,pq]) rfl ⟨_,_,rfl,RA.o,RB.o,ny.o⟩
theorem z6v (xa xb ya yb pa pb ma mb za zb:Rat)(q1a q1b:QS)(q2a q2b:QS)(w:World)  (h1:KIQ 60 xa xb ya pa pb)(h2:KIQ 60 xa xb yb ma mb)(h3:KII 96 pa pb ma mb za zb)(r1a:FQ w q1a xa)(r1b:FQ w q1b xb)(r2a:FQ w q2a ya)(r2b:FQ w q2b yb) :
 Calls Tryz.prog 94 #[(Qii q1a q1b),(Qii q2a q2b)] w (RII w za zb):=by
 dsimp only[Qii];obtain ⟨C1,C2,C3,R1a,R1b,R2a,R2b⟩:=eB h1 h2 h3 r1a r1b r2a r2b;clear h1 h2 h3 r1a r1b r2a r2b;go_enter func94,ntmps94
 go_upto_region 1 with fail
 refine av w [(#[.bool q1a.b,.slice q1a.a q1a.n q1a.c,.slice q1a.e q1a.m q1a.d,.bool q1b.b,.slice q1b.a q1b.n q1b.c,.slice q1b.e q1b.m q1b.d],55),(#[.bool q2a.b,.slice q2a.a q2a.n q2a.c,.slice q2a.e q2a.m q2a.d,.bool q2b.b,.slice q2b.a q2b.n q2b.c,.slice q2b.e q2b.m q2b.d],55),(#[.bool false,.slice none 0 0,.slice none 0 0,.bool false,.slice none 0 0,.slice none 0 0],55)] rfl ?_;rintro W0 ⟨k1,k2,k3,hb⟩;have wo:=hid (show Below w.heap.size w W0 from hb);obtain ⟨R1a,R1b,R2a,R2b⟩:=bY wo.o R1a R1b R2a R2b;obtain ⟨K1,K2,K3⟩:=ak k1 k2 k3;clear k1 k2 k3 hb;go_wp2_with fail
 refine ay (fun a0 a' V=>∃ (ed:QS) (d9:QS) (pu:QS) (ol:QS) (w9:QS) (wm:QS),a'=⟨putL [(5,Qii q1a q1b),(6,.pointer (some ⟨w.heap.size+1,0,none⟩)),(7,q2a.v),(8,Qii ed d9),(9,Qii q1a q1b),(10,.pointer (some ⟨w.heap.size+1,3,none⟩)),(11,q2b.v),(12,Qii pu ol),(13,Qii w9 wm)] a0.tmps,a0.defers⟩∧Below w.heap.size w V∧SBk V (w.heap.size+1+1) #[.bool w9.b,.slice w9.a w9.n w9.c,.slice w9.e w9.m w9.d,.bool wm.b,.slice wm.a wm.n wm.c,.slice wm.e wm.m wm.d] 55∧FQ V w9 za∧FQ V wm zb) ?_ ?_
 · refine aH 9 1 [5,6,7,8,9,10,11,12,13] [Rel.val (Qii q1a q1b),Rel.val (.pointer (some ⟨w.heap.size+1,0,none⟩)),Rel.val (q2a.v),Rel.qi pa pb,Rel.val (Qii q1a q1b),Rel.val (.pointer (some ⟨w.heap.size+1,3,none⟩)),Rel.val (q2b.v),Rel.qi ma mb,Rel.qi za zb] ?_ ?_
   · intro oM a W i HI hD Hr him
     obtain⟨y2,y3⟩:=HI.o.s2 2 3;obtain ⟨dx,dz,dX,bq,bu,bv⟩:=bE (K1.o.below HI.o.world) rfl rfl rfl rfl rfl rfl;obtain ⟨mf,mi,dY,cO,bg,bn⟩:=bE (K2.o.below HI.o.world) rfl rfl rfl rfl rfl rfl;obtain⟨X1,X0,X2,X5,X4,X6⟩:=HI.o.g6 1 6 0 5 2 7 5 10 4 9 6 11
     match i,him,Hr with
     | 0,_,Hi|1,_,Hi|2,_,Hi|4,_,Hi|5,_,Hi|6,_,Hi =>
       try have x1:=X1.t Hi.o
       try have x5:=X5.t Hi.o
       refine stepH rfl fun K' hK=>?_;go_simp;exact hK.o _ _ (HI.o.pw Hi.o)
     | 3,_,Hi =>
       have x0:=X0.q Hi.o;have x2:=X2.q Hi.o;refine stepH rfl fun K' hK=>?_;go_simp;with_reducible refine(C1.o _ _ _ _ (R1a.o.below HI.o.world) (R1b.o.below HI.o.world) (R2a.o.below HI.o.world)).mono ?_
       rintro e W' ⟨ed,d9,rfl,rn1_3a,rn1_3b,hb⟩;exact hK.o _ _ ⟨HI.o.pc Hi.o hb ⟨ed,d9,rfl,rn1_3a,rn1_3b⟩,trivial⟩
     | 7,_,Hi =>
       have x4:=X4.q Hi.o;have x6:=X6.q Hi.o;refine stepH rfl fun K' hK=>?_;go_simp;with_reducible refine(C2.o _ _ _ _ (R1a.o.below HI.o.world) (R1b.o.below HI.o.world) (R2b.o.below HI.o.world)).mono ?_
       rintro e W' ⟨pu,ol,rfl,rn1_7a,rn1_7b,hb⟩;exact hK.o _ _ ⟨HI.o.pc Hi.o hb ⟨pu,ol,rfl,rn1_7a,rn1_7b⟩,trivial⟩
     | 8,_,Hi =>
       obtain⟨ed,d9,x3,u0d,u0e⟩:=qAti HI.o 3 8 Hi.o (by kernel_rfl);dsimp only[Qii]at x3;obtain⟨pu,ol,x7,dh,dn⟩:=qAti HI.o 7 12 Hi.o (by kernel_rfl);dsimp only[Qii]at x7;refine stepH rfl fun K' hK=>?_;go_simp;with_reducible refine(C3.o _ _ _ _ _ u0d.o u0e.o dh.o dn.o).mono ?_
       rintro e W' ⟨w9,wm,rfl,rn1_8a,rn1_8b,hb⟩;exact hK.o _ _ ⟨HI.o.pc Hi.o hb ⟨w9,wm,rfl,rn1_8a,rn1_8b⟩,trivial⟩
     | n+9,h,_=>exact absurd h (by omega)
   · intro oM a W HI hD HA
     obtain⟨ed,d9,x3,u0d,u0e⟩:=iO HI.o HA.o 3 8;obtain⟨pu,ol,x7,dh,dn⟩:=iO HI.o HA.o 7 12;obtain⟨w9,wm,x8,u0f,u0g⟩:=iO HI.o HA.o 8 13;have si:=hid HI.o.world;obtain ⟨oV,K3⟩:=aB (wo.o.trans (si.o.mono wo.o.size)) (K3.o.below si.o);have RPA:=u0d;have RPB:=u0e;have RMA:=dh;have RMB:=dn;have RA:=u0f;have RB:=u0g;obtain ⟨su,sw,rM,rV,p8,pq⟩:=bE K3.o rfl rfl rfl rfl rfl rfl;obtain ⟨af,u00,u01,u02,u03,u04⟩:=dP K3.o;have y4:=HI.o.rst 4 rfl;dsimp only[Qii]at x8;refine aZ (t:=0) ?_;refine stepH rfl fun K' hK=>?_;go_simp;refine hK.o _ _ ?_;clear hK;refine aV ?_;rw[← dL];have s0:∀ {q':QS} {x':Rat},FQ W q' x'→FQ (storeAll W (w.heap.size+1+1) 0 [.bool w9.b,.slice w9.a w9.n w9.c,.slice w9.e w9.m w9.d,.bool wm.b,.slice wm.a wm.n wm.c,.slice wm.e wm.m wm.d]) q' x':=fun h'=>bO _ 0 h' K3.o (by simp[bJ]) (by simp[aU]);exact⟨rfl,ed,d9,pu,ol,w9,wm,(HI.o.finx ⟨HI.o.sx HA.o 0,HI.o.sx HA.o 1,HI.o.sx HA.o 2,x3,HI.o.sx HA.o 4,HI.o.sx HA.o 5,HI.o.sx HA.o 6,x7,x8,trivial⟩ rfl),(aj (l:=[.bool w9.b,.slice w9.a w9.n w9.c,.slice w9.e w9.m w9.d,.bool wm.b,.slice wm.a wm.n wm.c,.slice wm.e wm.m wm.d]) (i:=0) (by omega) oV.o),(dC K3.o),(s0 RA.o),(s0 RB.o)⟩
 rintro a' W1 ⟨ed,d9,pu,ol,w9,wm,rfl,z0,z1,z2,z3⟩;obtain ⟨ny,K3,RA,RB⟩:=aN z0 z1 z2 z3;clear z0 z1 z2 z3;simp only[putL,List.setIfInBounds_toArray,List.set_cons_zero,List.set_cons_succ];go_wp2;obtain ⟨su,sw,rM,rV,p8,pq⟩:=bE K3.o rfl rfl rfl rfl rfl rfl;exact bodyPost_ret (v:=.agg #[.bool w9.b,.slice w9.a w9.n w9.c,.slice w9.e w9.m w9.d,.bool wm.b,.slice wm.a wm.n wm.c,.slice wm.e wm.m wm.d]) (by simp[results,results94,go_sem,su,sw,rM,rV,p8,pq]) rfl ⟨_,_,rfl,RA.o,RB.o,ny.o⟩
theorem z7m (xa xb ya yb pa pb za zb:Rat)(q1a q1b:QS)(q2a q2b:QS)(w:World)  (h1:KQ1 95 yb pa)(h2:KQ1 95 ya pb)(h3:KII 94 xa xb pa pb za zb)(r1a:FQ w q1a xa)(r1b:FQ w q1b xb)(r2a:FQ w q2a ya)(r2b:FQ w q2b yb) :
 Calls Tryz.prog 59 #[(Qii q1a q1b),(Qii q2a q2b)] w (RII w za zb):=by
 dsimp only[Qii];obtain ⟨C1,C2,C3,R1a,R1b,R2a,R2b⟩:=eB h1 h2 h3 r1a r1b r2a r2b;clear h1 h2 h3 r1a r1b r2a r2b;go_enter func59,ntmps59
 go_upto_region 1 with fail
 refine av w [(#[.bool q1a.b,.slice q1a.a q1a.n q1a.c,.slice q1a.e q1a.m q1a.d,.bool q1b.b,.slice q1b.a q1b.n q1b.c,.slice q1b.e q1b.m q1b.d],55),(#[.bool q2a.b,.slice q2a.a q2a.n q2a.c,.slice q2a.e q2a.m q2a.d,.bool q2b.b,.slice q2b.a q2b.n q2b.c,.slice q2b.e q2b.m q2b.d],55),(#[.bool false,.slice none 0 0,.slice none 0 0,.bool false,.slice none 0 0,.slice none 0 0],55)] rfl ?_;rintro W0 ⟨k1,k2,k3,hb⟩;have wo:=hid (show Below w.heap.size w W0 from hb);obtain ⟨R1a,R1b,R2a,R2b⟩:=bY wo.o R1a R1b R2a R2b;obtain ⟨K1,K2,K3⟩:=ak k1 k2 k3;clear k1 k2 k3 hb;go_wp2_with fail
 refine ay (fun a0 a' V=>∃ (sj:QS) (l5:QS) (pu:QS) (ol:QS) (w9:QS) (wm:QS),a'=⟨putL [(5,Qii q1a q1b),(6,.pointer (some ⟨w.heap.size+1,3,none⟩)),(7,q2b.v),(8,sj.v),(9,.pointer (some ⟨w.heap.size+1,0,none⟩)),(10,q2a.v),(11,l5.v),(12,Qii pu ol),(13,Qii w9 wm)] a0.tmps,a0.defers⟩∧Below w.heap.size w V∧SBk V (w.heap.size+1+1) #[.bool w9.b,.slice w9.a w9.n w9.c,.slice w9.e w9.m w9.d,.bool wm.b,.slice wm.a wm.n wm.c,.slice wm.e wm.m wm.d] 55∧FQ V w9 za∧FQ V wm zb) ?_ ?_
 · refine aH 9 1 [5,6,7,8,9,10,11,12,13] [Rel.val (Qii q1a q1b),Rel.val (.pointer (some ⟨w.heap.size+1,3,none⟩)),Rel.val (q2b.v),Rel.q pa,Rel.val (.pointer (some ⟨w.heap.size+1,0,none⟩)),Rel.val (q2a.v),Rel.q pb,Rel.qi pa pb,Rel.qi za zb] ?_ ?_
   · intro oM a W i HI hD Hr him
     obtain⟨y2,y3⟩:=HI.o.s2 2 3;obtain ⟨dx,dz,dX,bq,bu,bv⟩:=bE (K1.o.below HI.o.world) rfl rfl rfl rfl rfl rfl;have cO:=(K2.o.below HI.o.world).cell (i:=3) rfl;have bg:=(K2.o.below HI.o.world).cell (i:=4) rfl;have bn:=(K2.o.below HI.o.world).cell (i:=5) rfl;obtain ⟨mf,mi,dY⟩:=aA (K2.o.below HI.o.world) rfl rfl rfl;obtain⟨X1,X2,X4⟩:=HI.o.g3 1 6 2 7 4 9;obtain⟨X5,X0⟩:=HI.o.g2 5 10 0 5
     match i,him,Hr with
     | 0,_,Hi|1,_,Hi|2,_,Hi|4,_,Hi|5,_,Hi =>
       try have x1:=X1.t Hi.o
       try have x4:=X4.t Hi.o
       refine stepH rfl fun K' hK=>?_;go_simp;exact hK.o _ _ (HI.o.pw Hi.o)
     | 3,_,Hi =>
       have x2:=X2.q Hi.o;refine stepH rfl fun K' hK=>?_;go_simp;with_reducible refine(C1.o _ _ (R2b.o.below HI.o.world)).mono ?_
       rintro e W' ⟨sj,rfl,u07,hb⟩;exact hK.o _ _ ⟨HI.o.pc Hi.o hb ⟨sj,rfl,u07⟩,trivial⟩
     | 6,_,Hi =>
       have x5:=X5.q Hi.o;refine stepH rfl fun K' hK=>?_;go_simp;with_reducible refine(C2.o _ _ (R2a.o.below HI.o.world)).mono ?_
       rintro e W' ⟨l5,rfl,u0l,hb⟩;exact hK.o _ _ ⟨HI.o.pc Hi.o hb ⟨l5,rfl,u0l⟩,trivial⟩
     | 7,_,Hi =>
       obtain⟨sj,x3,fQ⟩:=qAt HI.o 3 8 Hi.o (by kernel_rfl);dsimp only[QS.v]at x3;obtain⟨l5,x6,u0h⟩:=qAt HI.o 6 11 Hi.o (by kernel_rfl);dsimp only[QS.v]at x6;refine stepH rfl fun K' hK=>?_;go_simp;exact hK.o _ _ ⟨HI.o.pv Hi.o ⟨sj,l5,rfl,fQ.o,u0h.o⟩,trivial⟩
     | 8,_,Hi =>
       have x0:=X0.q Hi.o;obtain⟨pu,ol,x7,dh,dn⟩:=qAti HI.o 7 12 Hi.o (by kernel_rfl);dsimp only[Qii]at x7;refine stepH rfl fun K' hK=>?_;go_simp;with_reducible refine(C3.o _ _ _ _ _ (R1a.o.below HI.o.world) (R1b.o.below HI.o.world) dh.o dn.o).mono ?_
       rintro e W' ⟨w9,wm,rfl,rn1_8a,rn1_8b,hb⟩;exact hK.o _ _ ⟨HI.o.pc Hi.o hb ⟨w9,wm,rfl,rn1_8a,rn1_8b⟩,trivial⟩
     | n+9,h,_=>exact absurd h (by omega)
   · intro oM a W HI hD HA
     obtain⟨sj,x3,fQ⟩:=qEnd HI.o HA.o 3 8;obtain⟨l5,x6,u0h⟩:=qEnd HI.o HA.o 6 11;obtain⟨pu,ol,x7,dh,dn⟩:=iO HI.o HA.o 7 12;obtain⟨w9,wm,x8,u0f,u0g⟩:=iO HI.o HA.o 8 13;have si:=hid HI.o.world;obtain ⟨oV,K3⟩:=aB (wo.o.trans (si.o.mono wo.o.size)) (K3.o.below si.o);have RPA:=fQ;have RPB:=u0h;have u0q:=dh;have u0r:=dn;have RA:=u0f;have RB:=u0g;obtain ⟨su,sw,rM,rV,p8,pq⟩:=bE K3.o rfl rfl rfl rfl rfl rfl;obtain ⟨af,u00,u01,u02,u03,u04⟩:=dP K3.o;have y4:=HI.o.rst 4 rfl;dsimp only[Qii]at x8;refine aZ (t:=0) ?_;refine stepH rfl fun K' hK=>?_;go_simp;refine hK.o _ _ ?_;clear hK;refine aV ?_;rw[← dL];have s0:∀ {q':QS} {x':Rat},FQ W q' x'→FQ (storeAll W (w.heap.size+1+1) 0 [.bool w9.b,.slice w9.a w9.n w9.c,.slice w9.e w9.m w9.d,.bool wm.b,.slice wm.a wm.n wm.c,.slice wm.e wm.m wm.d]) q' x':=fun h'=>bO _ 0 h' K3.o (by simp[bJ]) (by simp[aU]);exact⟨rfl,sj,l5,pu,ol,w9,wm,(HI.o.finx ⟨HI.o.sx HA.o 0,HI.o.sx HA.o 1,HI.o.sx HA.o 2,x3,HI.o.sx HA.o 4,HI.o.sx HA.o 5,x6,x7,x8,trivial⟩ rfl),(aj (l:=[.bool w9.b,.slice w9.a w9.n w9.c,.slice w9.e w9.m w9.d,.bool wm.b,.slice wm.a wm.n wm.c,.slice wm.e wm.m wm.d]) (i:=0) (by omega) oV.o),(dC K3.o),(s0 RA.o),(s0 RB.o)⟩
 rintro a' W1 ⟨sj,l5,pu,ol,w9,wm,rfl,z0,z1,z2,z3⟩;obtain ⟨ny,K3,RA,RB⟩:=aN z0 z1 z2 z3;clear z0 z1 z2 z3;simp only[putL,List.setIfInBounds_toArray,List.set_cons_zero,List.set_cons_succ];go_wp2;obtain ⟨su,sw,rM,rV,p8,pq⟩:=bE K3.o rfl rfl rfl rfl rfl rfl;exact bodyPost_ret (v:=.agg #[.bool w9.b,.slice w9.a w9.n w9.c,.slice w9.e w9.m w9.d,.bool wm.b,.slice wm.a wm.n wm.c,.slice wm.e wm.m wm.d]) (by simp[results,results59,go_sem,su,sw,rM,rV,p8,pq]) rfl ⟨_,_,rfl,RA.o,RB.o,ny.o⟩
theorem gTo (xa xb:Rat)(s t:ByteArray)(q1a q1b:QS)(w:World)  (h1:KP1 67 xa (.string s))(h2:KP1 67 xb (.string t))(r1a:FQ w q1a xa)(r1b:FQ w q1b xb) :
 CR 28 #[(Qii q1a q1b)] w (.agg #[.string s,.string t]):=by
 dsimp only[Qii];obtain ⟨C1,C2,R1a,R1b⟩:=aN h1 h2 r1a r1b;clear h1 h2 r1a r1b;go_enter func28,ntmps28
 go_upto_region 1 with fail
 refine av w [(#[.bool q1a.b,.slice q1a.a q1a.n q1a.c,.slice q1a.e q1a.m q1a.d,.bool q1b.b,.slice q1b.a q1b.n q1b.c,.slice q1b.e q1b.m q1b.d],55),(#[.string ⟨#[]⟩,.string ⟨#[]⟩],25)] rfl ?_;rintro W0 ⟨k1,k2,hb⟩;have wo:=hid (show Below w.heap.size w W0 from hb);obtain ⟨R1a,R1b⟩:=aK wo.o R1a R1b;obtain ⟨K1,K2⟩:=aB k1 k2;clear k1 k2 hb;go_wp2_with fail
 refine ay (fun a0 a' V=>a'=⟨putL [(3,.pointer (some ⟨w.heap.size,0,none⟩)),(4,q1a.v),(5,.string s),(6,.pointer (some ⟨w.heap.size,3,none⟩)),(7,q1b.v),(8,.string t),(9,.agg #[.string s,.string t])] a0.tmps,a0.defers⟩∧Below w.heap.size w V∧SBk V (w.heap.size+1) #[.string s,.string t] 25) ?_ ?_
 · refine aH 7 1 [3,4,5,6,7,8,9] [Rel.val (.pointer (some ⟨w.heap.size,0,none⟩)),Rel.val (q1a.v),Rel.val (.string s),Rel.val (.pointer (some ⟨w.heap.size,3,none⟩)),Rel.val (q1b.v),Rel.val (.string t),Rel.val (.agg #[.string s,.string t])] ?_ ?_
   · intro oM a W i HI hD Hr him
     have y1:=HI.o.rst 1 rfl;obtain ⟨dx,dz,dX,bq,bu,bv⟩:=bE (K1.o.below HI.o.world) rfl rfl rfl rfl rfl rfl;obtain⟨X0,X1,X3,X4,X2,X5⟩:=HI.o.g6 0 3 1 4 3 6 4 7 2 5 5 8
     match i,him,Hr with
     | 0,_,Hi|1,_,Hi|3,_,Hi|4,_,Hi|6,_,Hi =>
       try have x0:=X0.t Hi.o
       try have x3:=X3.t Hi.o
       try have x2:=X2.t Hi.o
       try have x5:=X5.t Hi.o
       refine stepH rfl fun K' hK=>?_;go_simp;exact hK.o _ _ (HI.o.pw Hi.o)
     | 2,_,Hi =>
       have x1:=X1.q Hi.o;refine stepH rfl fun K' hK=>?_;go_simp;with_reducible refine(C1.o _ _ (R1a.o.below HI.o.world)).mono ?_
       rintro e W' ⟨rfl,hb⟩;exact hK.o _ _ ⟨HI.o.pc Hi.o hb rfl,trivial⟩
     | 5,_,Hi =>
       have x4:=X4.q Hi.o;refine stepH rfl fun K' hK=>?_;go_simp;with_reducible refine(C2.o _ _ (R1b.o.below HI.o.world)).mono ?_
       rintro e W' ⟨rfl,hb⟩;exact hK.o _ _ ⟨HI.o.pc Hi.o hb rfl,trivial⟩
     | n+7,h,_=>exact absurd h (by omega)
   · intro oM a W HI hD HA
     have x6:a.tmps[9]? = some (.agg #[.string s,.string t]):=HI.o.sx HA.o 6;have si:=hid HI.o.world;obtain ⟨oV,K2⟩:=aB (wo.o.trans (si.o.mono wo.o.size)) (K2.o.below si.o);obtain⟨mf,mi⟩:=z6A K2.o;obtain⟨u0i,u0j⟩:=frz2 K2.o;have y2:=HI.o.rst 2 rfl;refine aZ (t:=0) ?_;refine stepH rfl fun K' hK=>?_;go_simp;refine hK.o _ _ ?_;clear hK;refine aV ?_;rw[← fE];exact⟨rfl,(HI.o.finx ⟨HI.o.sx HA.o 0,HI.o.sx HA.o 1,HI.o.sx HA.o 2,HI.o.sx HA.o 3,HI.o.sx HA.o 4,HI.o.sx HA.o 5,x6,trivial⟩ rfl),(aj (l:=[.string s,.string t]) (i:=0) (by omega) oV.o),(fD K2.o)⟩
 rintro a' W1 ⟨rfl,z0,z1⟩;have ny:=hid z0;have K2:=hid z1;clear z0 z1;simp only[putL,List.setIfInBounds_toArray,List.set_cons_zero,List.set_cons_succ];go_wp2;obtain ⟨mf,mi⟩:=aC K2.o rfl rfl;exact bodyPost_ret (v:=.agg #[.string s,.string t]) (by simp[results,results28,go_sem,mf,mi]) rfl ⟨rfl,ny.o⟩
