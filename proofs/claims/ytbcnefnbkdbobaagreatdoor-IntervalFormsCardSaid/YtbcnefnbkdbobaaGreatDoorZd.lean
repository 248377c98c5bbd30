/- texts -/
import Derived.Test.YtbcnefnbkdbobaaGreatDoorMz26q
set_option maxRecDepth 100000
set_option maxHeartbeats 20000000
open Go.Lib (hid)
namespace Go.Proofs.YtbcnefnbkdbobaaGreatDoor
open Go.RowKit Go.Gb
theorem oP {f:FuncId}{args:Array Value}{w:World}{z:Int}{b:Bool}{L:Nat}(hb:decide (z<0)=b)(hL:(aa z.natAbs).length=L)(h:Calls Tryz.prog f args w fun e w'=>∃ u,e=.returned u∧Rz w' u z∧Below w.heap.size w w') :
 Calls Tryz.prog f args w fun e w'=>∃ p c,e=.returned (.agg #[.bool b,.slice p L c])∧Rd .u32 w' (.slice p L c) (aa z.natAbs)∧Below w.heap.size w w':=by
 refine h.mono ?_;rintro e w' ⟨u,rfl,hu,hbl⟩;obtain⟨p,c,rfl,hr⟩:=iW hu;rw[hb,hL];rw[hL]at hr;exact⟨p,c,rfl,hr,hbl⟩
theorem wV (za zb z:Int)(n:Nat)(hs:(ay za==ay zb)=true)(p1:Option Addr)(c1:Nat)(p2:Option Addr)(c2:Nat)(w:World)(h1:∀ p1 c1 p2 c2 W,RN W (.slice p1 (ah za) c1) za.natAbs→RN W (.slice p2 (ah zb) c2) zb.natAbs→CN 135 #[.slice p1 (ah za) c1,.slice p2 (ah zb) c2] W n)(h2:∀ s2 d2 W,RN W (.slice s2 (aj n) d2) n→CZ 62 #[.bool (ay za),.slice s2 (aj n) d2] W z)(r1:RN w (.slice p1 (ah za) c1) za.natAbs)(r2:RN w (.slice p2 (ah zb) c2) zb.natAbs) :
 CZ 108 #[.agg #[.bool (ay za),.slice p1 (ah za) c1],.agg #[.bool (ay zb),.slice p2 (ah zb) c2]] w z:=by
 obtain ⟨C1,C2,R1,R2⟩:=aP h1 h2 r1 r2;have s0:(ay za==ay zb)=true:=hs;clear hs h1 h2 r1 r2;go_enter Tryz.func108,Tryz.ntmps108
 go_upto_region 1 with fail
 refine aH w [(#[.bool (ay za),.slice p1 (ah za) c1],51),(#[.bool (ay zb),.slice p2 (ah zb) c2],51),(#[.bool false,.slice none 0 0],51)] rfl ?_;rintro W0 ⟨k1,k2,k3,hb⟩;have r9:=hid (show Below w.heap.size w W0 from hb);obtain ⟨R1,R2⟩:=bG r9.o R1 R2;obtain ⟨K1,K2,K3⟩:=av k1 k2 k3;clear k1 k2 k3 hb;have ol:=K1.o.cell (i:=0) rfl;have oV:=K2.o.cell (i:=0) rfl;go_wp2_with fail
 clear ol oV;refine aX (fun a0 a' V=>∃ wm wo u6 w9,a'=⟨putL [(10,.pointer (some ⟨w.heap.size,0,none⟩)),(11,.bool (ay za)),(12,.pointer (some ⟨w.heap.size,1,none⟩)),(13,.slice p1 (ah za) c1),(14,.pointer (some ⟨w.heap.size+1,1,none⟩)),(15,.slice p2 (ah zb) c2),(16,.slice wm (aj n) wo),(17,.agg #[.bool (ay z),.slice u6 (ah z) w9])] a0.tmps,a0.defers⟩∧Below w.heap.size w V∧SBk V (w.heap.size+1+1) #[.bool (ay z),.slice u6 (ah z) w9] 51∧RN V (.slice u6 (ah z) w9) z.natAbs) ?_ ?_
 · refine dE 8 1 [10,11,12,13,14,15,16,17] [Rel.val (.pointer (some ⟨w.heap.size,0,none⟩)),Rel.val (.bool (ay za)),Rel.val (.pointer (some ⟨w.heap.size,1,none⟩)),Rel.val (.slice p1 (ah za) c1),Rel.val (.pointer (some ⟨w.heap.size+1,1,none⟩)),Rel.val (.slice p2 (ah zb) c2),Rel.nat n,Rel.int z] ?_ ?_
   · intro l5 a W i HI hD Hr him
     obtain⟨y2,y3⟩:=HI.o.s2 2 3;obtain ⟨ol,mf⟩:=aV (K1.o.below HI.o.world) rfl rfl;have mi:=(K2.o.below HI.o.world).cell (i:=1) rfl;obtain⟨X0,X2,X4,X3,X5,X1⟩:=HI.o.g6 0 10 2 12 4 14 3 13 5 15 1 11
     match i,him,Hr with
     | 0,_,Hi|1,_,Hi|2,_,Hi|3,_,Hi|4,_,Hi|5,_,Hi =>
       try have x0:=X0.t Hi.o
       try have x2:=X2.t Hi.o
       try have x4:=X4.t Hi.o
       refine aQ rfl fun K' hK=>?_;go_simp;exact hK.o _ _ (HI.o.pw Hi.o)
     | 6,_,Hi =>
       have x3:=X3.q Hi.o;have x5:=X5.q Hi.o;refine aQ rfl fun K' hK=>?_;go_simp;with_reducible refine(C1.o _ _ _ _ _ (R1.o.below HI.o.world) (R2.o.below HI.o.world)).mono ?_
       rintro e W' ⟨wm,wo,rfl,wu,hb⟩;exact hK.o _ _ ⟨HI.o.pc Hi.o hb ⟨wm,wo,rfl,wu⟩,trivial⟩
     | 7,_,Hi =>
       have x1:=X1.q Hi.o;obtain⟨v',x6,wm,wo,e,wu⟩:=HI.o.at (i:=6) Hi.o (by kernel_rfl) (by decide);obtain rfl:=e;have x6:a.tmps[16]? = some (.slice wm (aj n) wo):=x6;have sw:=hid wu;clear wu;refine aQ rfl fun K' hK=>?_;go_simp;with_reducible refine(C2.o _ _ _ sw.o).mono ?_
       rintro e W' ⟨u6,w9,rfl,ww,hb⟩;exact hK.o _ _ ⟨HI.o.pc Hi.o hb ⟨u6,w9,rfl,ww⟩,trivial⟩
     | n+8,h,_=>exact absurd h (by omega)
   · intro l5 a W HI hD HA
     obtain⟨v',x6,wm,wo,e,wu⟩:=HI.o.slots 6 (by decide) (HA.o 6 (by decide));obtain rfl:=e;have sw:=hid wu;clear wu;obtain⟨v',x7,u6,w9,e,ww⟩:=HI.o.slots 7 (by decide) (HA.o 7 (by decide));obtain rfl:=e;have lg:=hid ww;clear ww;have x7:a.tmps[17]? = some (.agg #[.bool (ay z),.slice u6 (ah z) w9]):=x7;have rM:=hid HI.o.world;obtain ⟨lv,K3⟩:=aI (r9.o.trans (rM.o.mono r9.o.size)) (K3.o.below rM.o);have RA:=sw;have RZ:=lg;have y4:=HI.o.rst 4 rfl;obtain ⟨rV,pq⟩:=aV K3.o rfl rfl;obtain ⟨kM,kV⟩:=eT K3.o;refine fu (t:=0) ?_;refine aQ rfl fun K' hK=>?_;go_simp;refine hK.o _ _ ?_;clear hK;refine dA ?_;have s0:∀ {v':Value} {n':Nat},RN W v' n'→RN (storeAll W (w.heap.size+1+1) 0 [.bool (ay z),.slice u6 (ah z) w9]) v' n':=fun h'=>bS _ h' K3.o (by simp[dG]) (by simp[bY]);exact⟨rfl,wm,wo,u6,w9,(HI.o.finx ⟨HI.o.sx HA.o 0,HI.o.sx HA.o 1,HI.o.sx HA.o 2,HI.o.sx HA.o 3,HI.o.sx HA.o 4,HI.o.sx HA.o 5,x6,x7,trivial⟩ rfl),(bC (l:=[.bool (ay z),.slice u6 (ah z) w9]) (i:=0) (by omega) lv.o),(ik (l:=[.bool (ay z),.slice u6 (ah z) w9]) (i:=0) K3.o),(s0 RZ.o)⟩
 rintro a' W1 ⟨wm,wo,u6,w9,rfl,z0,z1,z2⟩;obtain ⟨oM,K3,RZ⟩:=av z0 z1 z2;clear z0 z1 z2;simp only[putL,List.setIfInBounds_toArray,List.set_cons_zero,List.set_cons_succ];go_wp2;obtain ⟨rV,pq⟩:=aV K3.o rfl rfl;exact bodyPost_ret (v:=.agg #[.bool (ay z),.slice u6 (ah z) w9]) (by simp[results,Tryz.results108,go_sem,rV,pq]) rfl ⟨_,_,rfl,RZ.o,oM.o⟩
theorem z13 (za zb z:Int)(n:Nat)(k:Int)(hk:0≤k)(hs:(ay za==ay zb)=false)(p1:Option Addr)(c1:Nat)(p2:Option Addr)(c2:Nat)(w:World)(h3:∀ p1 c1 p2 c2 W,RN W (.slice p1 (ah za) c1) za.natAbs→RN W (.slice p2 (ah zb) c2) zb.natAbs→CR 59 #[.slice p1 (ah za) c1,.slice p2 (ah zb) c2] W (.int .i64 k))(h4:∀ p1 c1 p2 c2 W,RN W (.slice p1 (ah za) c1) za.natAbs→RN W (.slice p2 (ah zb) c2) zb.natAbs→CN 136 #[.slice p1 (ah za) c1,.slice p2 (ah zb) c2] W n)(h2:∀ s2 d2 W,RN W (.slice s2 (aj n) d2) n→CZ 62 #[.bool (ay za),.slice s2 (aj n) d2] W z)(r1:RN w (.slice p1 (ah za) c1) za.natAbs)(r2:RN w (.slice p2 (ah zb) c2) zb.natAbs) :
 CZ 108 #[.agg #[.bool (ay za),.slice p1 (ah za) c1],.agg #[.bool (ay zb),.slice p2 (ah zb) c2]] w z:=by
 obtain ⟨C3,C4,C2,R1,R2⟩:=bA h3 h4 h2 r1 r2;have s0:(ay za==ay zb)=false:=hs;clear hs;have k0:decide (0≤k)=true:=decide_eq_true hk;have k1:0≤k:=hk;clear hk h3 h4 h2 r1 r2;go_enter Tryz.func108,Tryz.ntmps108
 go_upto_region 1 with fail
 refine aH w [(#[.bool (ay za),.slice p1 (ah za) c1],51),(#[.bool (ay zb),.slice p2 (ah zb) c2],51),(#[.bool false,.slice none 0 0],51)] rfl ?_;rintro W0 ⟨k1,k2,k3,hb⟩;have r9:=hid (show Below w.heap.size w W0 from hb);obtain ⟨R1,R2⟩:=bG r9.o R1 R2;obtain ⟨K1,K2,K3⟩:=av k1 k2 k3;clear k1 k2 k3 hb;have ol:=K1.o.cell (i:=0) rfl;have oV:=K2.o.cell (i:=0) rfl;have mf:=K1.o.cell (i:=1) rfl;have mi:=K2.o.cell (i:=1) rfl;go_wp2_with fail
 with_reducible refine(C3.o _ _ _ _ _ R1.o R2.o).mono ?_
 rintro e W1 ⟨rfl,hb⟩;clear ol oV mf mi;obtain ⟨K1,K2,K3,R1,R2⟩:=iM hb K1 K2 K3 R1 R2;have oM:=hbt r9 hb;clear hb;go_wp2_with fail
 refine aX (fun a0 a' V=>∃ wm wo u6 w9,a'=⟨putL [(24,.pointer (some ⟨w.heap.size,0,none⟩)),(25,.bool (ay za)),(26,.pointer (some ⟨w.heap.size,1,none⟩)),(27,.slice p1 (ah za) c1),(28,.pointer (some ⟨w.heap.size+1,1,none⟩)),(29,.slice p2 (ah zb) c2),(30,.slice wm (aj n) wo),(31,.agg #[.bool (ay z),.slice u6 (ah z) w9])] a0.tmps,a0.defers⟩∧Below w.heap.size w V∧SBk V (w.heap.size+1+1) #[.bool (ay z),.slice u6 (ah z) w9] 51∧RN V (.slice u6 (ah z) w9) z.natAbs) ?_ ?_
 · refine dE 8 1 [24,25,26,27,28,29,30,31] [Rel.val (.pointer (some ⟨w.heap.size,0,none⟩)),Rel.val (.bool (ay za)),Rel.val (.pointer (some ⟨w.heap.size,1,none⟩)),Rel.val (.slice p1 (ah za) c1),Rel.val (.pointer (some ⟨w.heap.size+1,1,none⟩)),Rel.val (.slice p2 (ah zb) c2),Rel.nat n,Rel.int z] ?_ ?_
   · intro l5 a W i HI hD Hr him
     obtain⟨y2,y3⟩:=HI.o.s2 2 3;obtain ⟨ol,mf⟩:=aV (K1.o.below HI.o.world) rfl rfl;have mi:=(K2.o.below HI.o.world).cell (i:=1) rfl;obtain⟨X0,X2,X4,X3,X5,X1⟩:=HI.o.g6 0 24 2 26 4 28 3 27 5 29 1 25
     match i,him,Hr with
     | 0,_,Hi|1,_,Hi|2,_,Hi|3,_,Hi|4,_,Hi|5,_,Hi =>
       try have x0:=X0.t Hi.o
       try have x2:=X2.t Hi.o
       try have x4:=X4.t Hi.o
       refine aQ rfl fun K' hK=>?_;go_simp;exact hK.o _ _ (HI.o.pw Hi.o)
     | 6,_,Hi =>
       have x3:=X3.q Hi.o;have x5:=X5.q Hi.o;refine aQ rfl fun K' hK=>?_;go_simp;with_reducible refine(C4.o _ _ _ _ _ (R1.o.below HI.o.world) (R2.o.below HI.o.world)).mono ?_
       rintro e W' ⟨wm,wo,rfl,wu,hb⟩;exact hK.o _ _ ⟨HI.o.pc Hi.o hb ⟨wm,wo,rfl,wu⟩,trivial⟩
     | 7,_,Hi =>
       have x1:=X1.q Hi.o;obtain⟨v',x6,wm,wo,e,wu⟩:=HI.o.at (i:=6) Hi.o (by kernel_rfl) (by decide);obtain rfl:=e;have x6:a.tmps[30]? = some (.slice wm (aj n) wo):=x6;have sw:=hid wu;clear wu;refine aQ rfl fun K' hK=>?_;go_simp;with_reducible refine(C2.o _ _ _ sw.o).mono ?_
       rintro e W' ⟨u6,w9,rfl,ww,hb⟩;exact hK.o _ _ ⟨HI.o.pc Hi.o hb ⟨u6,w9,rfl,ww⟩,trivial⟩
     | n+8,h,_=>exact absurd h (by omega)
   · intro l5 a W HI hD HA
     obtain⟨v',x6,wm,wo,e,wu⟩:=HI.o.slots 6 (by decide) (HA.o 6 (by decide));obtain rfl:=e;have sw:=hid wu;clear wu;obtain⟨v',x7,u6,w9,e,ww⟩:=HI.o.slots 7 (by decide) (HA.o 7 (by decide));obtain rfl:=e;have lg:=hid ww;clear ww;have x7:a.tmps[31]? = some (.agg #[.bool (ay z),.slice u6 (ah z) w9]):=x7;have rM:=hid HI.o.world;obtain ⟨lv,K3⟩:=aI (oM.o.trans (rM.o.mono oM.o.size)) (K3.o.below rM.o);have RA:=sw;have RZ:=lg;have y4:=HI.o.rst 4 rfl;obtain ⟨rV,pq⟩:=aV K3.o rfl rfl;obtain ⟨kM,kV⟩:=eT K3.o;refine fu (t:=0) ?_;refine aQ rfl fun K' hK=>?_;go_simp;refine hK.o _ _ ?_;clear hK;refine dA ?_;have s0:∀ {v':Value} {n':Nat},RN W v' n'→RN (storeAll W (w.heap.size+1+1) 0 [.bool (ay z),.slice u6 (ah z) w9]) v' n':=fun h'=>bS _ h' K3.o (by simp[dG]) (by simp[bY]);exact⟨rfl,wm,wo,u6,w9,(HI.o.finx ⟨HI.o.sx HA.o 0,HI.o.sx HA.o 1,HI.o.sx HA.o 2,HI.o.sx HA.o 3,HI.o.sx HA.o 4,HI.o.sx HA.o 5,x6,x7,trivial⟩ rfl),(bC (l:=[.bool (ay z),.slice u6 (ah z) w9]) (i:=0) (by omega) lv.o),(ik (l:=[.bool (ay z),.slice u6 (ah z) w9]) (i:=0) K3.o),(s0 RZ.o)⟩
 rintro a' W2 ⟨wm,wo,u6,w9,rfl,z0,z1,z2⟩;obtain ⟨kz,K3,RZ⟩:=av z0 z1 z2;clear z0 z1 z2;simp only[putL,List.setIfInBounds_toArray,List.set_cons_zero,List.set_cons_succ];go_wp2;obtain ⟨rV,pq⟩:=aV K3.o rfl rfl;exact bodyPost_ret (v:=.agg #[.bool (ay z),.slice u6 (ah z) w9]) (by simp[results,Tryz.results108,go_sem,rV,pq]) rfl ⟨_,_,rfl,RZ.o,kz.o⟩
theorem z11 (za zb z:Int)(n:Nat)(k:Int)(hk:k<0)(hs:(ay za==ay zb)=false)(p1:Option Addr)(c1:Nat)(p2:Option Addr)(c2:Nat)(w:World)(h3:∀ p1 c1 p2 c2 W,RN W (.slice p1 (ah za) c1) za.natAbs→RN W (.slice p2 (ah zb) c2) zb.natAbs→CR 59 #[.slice p1 (ah za) c1,.slice p2 (ah zb) c2] W (.int .i64 k))(h4:∀ p1 c1 p2 c2 W,RN W (.slice p1 (ah zb) c1) zb.natAbs→RN W (.slice p2 (ah za) c2) za.natAbs→CN 136 #[.slice p1 (ah zb) c1,.slice p2 (ah za) c2] W n)(h2:∀ s2 d2 W,RN W (.slice s2 (aj n) d2) n→CZ 62 #[.bool (ay zb),.slice s2 (aj n) d2] W z)(r1:RN w (.slice p1 (ah za) c1) za.natAbs)(r2:RN w (.slice p2 (ah zb) c2) zb.natAbs) :
 CZ 108 #[.agg #[.bool (ay za),.slice p1 (ah za) c1],.agg #[.bool (ay zb),.slice p2 (ah zb) c2]] w z:=by
 obtain ⟨C3,C4,C2,R1,R2⟩:=bA h3 h4 h2 r1 r2;have s0:(ay za==ay zb)=false:=hs;clear hs;have k0:decide (0≤k)=false:=decide_eq_false (by omega);have k1:¬ 0≤k:=by omega
 clear hk h3 h4 h2 r1 r2;go_enter Tryz.func108,Tryz.ntmps108
 go_upto_region 1 with fail
 refine aH w [(#[.bool (ay za),.slice p1 (ah za) c1],51),(#[.bool (ay zb),.slice p2 (ah zb) c2],51),(#[.bool false,.slice none 0 0],51)] rfl ?_;rintro W0 ⟨k1,k2,k3,hb⟩;have r9:=hid (show Below w.heap.size w W0 from hb);obtain ⟨R1,R2⟩:=bG r9.o R1 R2;obtain ⟨K1,K2,K3⟩:=av k1 k2 k3;clear k1 k2 k3 hb;have ol:=K1.o.cell (i:=0) rfl;have oV:=K2.o.cell (i:=0) rfl;have mf:=K1.o.cell (i:=1) rfl;have mi:=K2.o.cell (i:=1) rfl;go_wp2_with fail
 with_reducible refine(C3.o _ _ _ _ _ R1.o R2.o).mono ?_
 rintro e W1 ⟨rfl,hb⟩;clear ol oV mf mi;obtain ⟨K1,K2,K3,R1,R2⟩:=iM hb K1 K2 K3 R1 R2;have oM:=hbt r9 hb;clear hb;go_wp2_with fail
 refine aX (fun a0 a' V=>∃ wm wo u6 w9,a'=⟨putL [(32,.pointer (some ⟨w.heap.size+1,0,none⟩)),(33,.bool (ay zb)),(34,.pointer (some ⟨w.heap.size+1,1,none⟩)),(35,.slice p2 (ah zb) c2),(36,.pointer (some ⟨w.heap.size,1,none⟩)),(37,.slice p1 (ah za) c1),(38,.slice wm (aj n) wo),(39,.agg #[.bool (ay z),.slice u6 (ah z) w9])] a0.tmps,a0.defers⟩∧Below w.heap.size w V∧SBk V (w.heap.size+1+1) #[.bool (ay z),.slice u6 (ah z) w9] 51∧RN V (.slice u6 (ah z) w9) z.natAbs) ?_ ?_
 · refine dE 8 1 [32,33,34,35,36,37,38,39] [Rel.val (.pointer (some ⟨w.heap.size+1,0,none⟩)),Rel.val (.bool (ay zb)),Rel.val (.pointer (some ⟨w.heap.size+1,1,none⟩)),Rel.val (.slice p2 (ah zb) c2),Rel.val (.pointer (some ⟨w.heap.size,1,none⟩)),Rel.val (.slice p1 (ah za) c1),Rel.nat n,Rel.int z] ?_ ?_
   · intro l5 a W i HI hD Hr him
     obtain⟨y3,y2⟩:=HI.o.s2 3 2;obtain ⟨oV,mi⟩:=aV (K2.o.below HI.o.world) rfl rfl;have mf:=(K1.o.below HI.o.world).cell (i:=1) rfl;obtain⟨X0,X2,X4,X3,X5,X1⟩:=HI.o.g6 0 32 2 34 4 36 3 35 5 37 1 33
     match i,him,Hr with
     | 0,_,Hi|1,_,Hi|2,_,Hi|3,_,Hi|4,_,Hi|5,_,Hi =>
       try have x0:=X0.t Hi.o
       try have x2:=X2.t Hi.o
       try have x4:=X4.t Hi.o
       refine aQ rfl fun K' hK=>?_;go_simp;exact hK.o _ _ (HI.o.pw Hi.o)
     | 6,_,Hi =>
       have x3:=X3.q Hi.o;have x5:=X5.q Hi.o;refine aQ rfl fun K' hK=>?_;go_simp;with_reducible refine(C4.o _ _ _ _ _ (R2.o.below HI.o.world) (R1.o.below HI.o.world)).mono ?_
       rintro e W' ⟨wm,wo,rfl,wu,hb⟩;exact hK.o _ _ ⟨HI.o.pc Hi.o hb ⟨wm,wo,rfl,wu⟩,trivial⟩
     | 7,_,Hi =>
       have x1:=X1.q Hi.o;obtain⟨v',x6,wm,wo,e,wu⟩:=HI.o.at (i:=6) Hi.o (by kernel_rfl) (by decide);obtain rfl:=e;have x6:a.tmps[38]? = some (.slice wm (aj n) wo):=x6;have sw:=hid wu;clear wu;refine aQ rfl fun K' hK=>?_;go_simp;with_reducible refine(C2.o _ _ _ sw.o).mono ?_
       rintro e W' ⟨u6,w9,rfl,ww,hb⟩;exact hK.o _ _ ⟨HI.o.pc Hi.o hb ⟨u6,w9,rfl,ww⟩,trivial⟩
     | n+8,h,_=>exact absurd h (by omega)
   · intro l5 a W HI hD HA
     obtain⟨v',x6,wm,wo,e,wu⟩:=HI.o.slots 6 (by decide) (HA.o 6 (by decide));obtain rfl:=e;have sw:=hid wu;clear wu;obtain⟨v',x7,u6,w9,e,ww⟩:=HI.o.slots 7 (by decide) (HA.o 7 (by decide));obtain rfl:=e;have lg:=hid ww;clear ww;have x7:a.tmps[39]? = some (.agg #[.bool (ay z),.slice u6 (ah z) w9]):=x7;have rM:=hid HI.o.world;obtain ⟨lv,K3⟩:=aI (oM.o.trans (rM.o.mono oM.o.size)) (K3.o.below rM.o);have RA:=sw;have RZ:=lg;have y4:=HI.o.rst 4 rfl;obtain ⟨rV,pq⟩:=aV K3.o rfl rfl;obtain ⟨kM,kV⟩:=eT K3.o;refine fu (t:=0) ?_;refine aQ rfl fun K' hK=>?_;go_simp;refine hK.o _ _ ?_;clear hK;refine dA ?_;have s0:∀ {v':Value} {n':Nat},RN W v' n'→RN (storeAll W (w.heap.size+1+1) 0 [.bool (ay z),.slice u6 (ah z) w9]) v' n':=fun h'=>bS _ h' K3.o (by simp[dG]) (by simp[bY]);exact⟨rfl,wm,wo,u6,w9,(HI.o.finx ⟨HI.o.sx HA.o 0,HI.o.sx HA.o 1,HI.o.sx HA.o 2,HI.o.sx HA.o 3,HI.o.sx HA.o 4,HI.o.sx HA.o 5,x6,x7,trivial⟩ rfl),(bC (l:=[.bool (ay z),.slice u6 (ah z) w9]) (i:=0) (by omega) lv.o),(ik (l:=[.bool (ay z),.slice u6 (ah z) w9]) (i:=0) K3.o),(s0 RZ.o)⟩
 rintro a' W2 ⟨wm,wo,u6,w9,rfl,z0,z1,z2⟩;obtain ⟨kz,K3,RZ⟩:=av z0 z1 z2;clear z0 z1 z2;simp only[putL,List.setIfInBounds_toArray,List.set_cons_zero,List.set_cons_succ];go_wp2;obtain ⟨rV,pq⟩:=aV K3.o rfl rfl;exact bodyPost_ret (v:=.agg #[.bool (ay z),.slice u6 (ah z) w9]) (by simp[results,Tryz.results108,go_sem,rV,pq]) rfl ⟨_,_,rfl,RZ.o,kz.o⟩
