/- texts -/
import Derived.Test.YtkiklcbhglpooaaGreatDoorMz34q
set_option maxRecDepth 100000
set_option maxHeartbeats 20000000
open Go.Lib (hid)
namespace Go.Proofs.YtkiklcbhglpooaaGreatDoor
open Go.RowKit Go.Gb
theorem qP {f:FuncId}{args:Array Value}{w:World}{z:Int}{b:Bool}{L:Nat}(hb:decide (z<0)=b)(hL:(ae z.natAbs).length=L)(h:Calls Tryz.prog f args w fun e w'=>∃ u,e=.returned u∧Rz w' u z∧Below w.heap.size w w') :
 Calls Tryz.prog f args w fun e w'=>∃ p c,e=.returned (.agg #[.bool b,.slice p L c])∧Rd .u32 w' (.slice p L c) (ae z.natAbs)∧Below w.heap.size w w':=by
 refine h.mono ?_;rintro e w' ⟨u,rfl,hu,hbl⟩;obtain⟨p,c,rfl,hr⟩:=ja hu;rw[hb,hL];rw[hL]at hr;exact⟨p,c,rfl,hr,hbl⟩
theorem z07 (za zb z:Int)(n:Nat)(hs:(ah za==ah zb)=true)(p1:Option Addr)(c1:Nat)(p2:Option Addr)(c2:Nat)(w:World)(h1:∀ p1 c1 p2 c2 W,RN W (.slice p1 (aa za) c1) za.natAbs→RN W (.slice p2 (aa zb) c2) zb.natAbs→CN 127 #[.slice p1 (aa za) c1,.slice p2 (aa zb) c2] W n)(h2:∀ s2 d2 W,RN W (.slice s2 (ag n) d2) n→CZ 78 #[.bool (ah za),.slice s2 (ag n) d2] W z)(r1:RN w (.slice p1 (aa za) c1) za.natAbs)(r2:RN w (.slice p2 (aa zb) c2) zb.natAbs) :
 CZ 77 #[.agg #[.bool (ah za),.slice p1 (aa za) c1],.agg #[.bool (ah zb),.slice p2 (aa zb) c2]] w z:=by
 obtain ⟨C1,C2,R1,R2⟩:=aM h1 h2 r1 r2;have s0:(ah za==ah zb)=true:=hs;clear hs h1 h2 r1 r2;go_enter Tryz.func77,Tryz.ntmps77
 go_upto_region 1 with fail
 refine ak w [(#[.bool (ah za),.slice p1 (aa za) c1],48),(#[.bool (ah zb),.slice p2 (aa zb) c2],48),(#[.bool false,.slice none 0 0],48)] rfl ?_;rintro W0 ⟨k1,k2,k3,hb⟩;have si:=hid (show Below w.heap.size w W0 from hb);obtain ⟨R1,R2⟩:=aO si.o R1 R2;obtain ⟨K1,K2,K3⟩:=au k1 k2 k3;clear k1 k2 k3 hb;have ol:=K1.o.cell (i:=0) rfl;have ma:=K2.o.cell (i:=0) rfl;go_wp2_with fail
 clear ol ma;refine az (fun a0 a' V=>∃ wm wo u6 w9,a'=⟨putL [(10,.pointer (some ⟨w.heap.size,0,none⟩)),(11,.bool (ah za)),(12,.pointer (some ⟨w.heap.size,1,none⟩)),(13,.slice p1 (aa za) c1),(14,.pointer (some ⟨w.heap.size+1,1,none⟩)),(15,.slice p2 (aa zb) c2),(16,.slice wm (ag n) wo),(17,.agg #[.bool (ah z),.slice u6 (aa z) w9])] a0.tmps,a0.defers⟩∧Below w.heap.size w V∧SBk V (w.heap.size+1+1) #[.bool (ah z),.slice u6 (aa z) w9] 48∧RN V (.slice u6 (aa z) w9) z.natAbs) ?_ ?_
 · refine aL 8 1 [10,11,12,13,14,15,16,17] [Rel.val (.pointer (some ⟨w.heap.size,0,none⟩)),Rel.val (.bool (ah za)),Rel.val (.pointer (some ⟨w.heap.size,1,none⟩)),Rel.val (.slice p1 (aa za) c1),Rel.val (.pointer (some ⟨w.heap.size+1,1,none⟩)),Rel.val (.slice p2 (aa zb) c2),Rel.nat n,Rel.int z] ?_ ?_
   · intro mf a W i HI hD Hr him
     obtain⟨y2,y3⟩:=HI.o.s2 2 3;obtain ⟨ol,mi⟩:=ay (K1.o.below HI.o.world) rfl rfl;have l5:=(K2.o.below HI.o.world).cell (i:=1) rfl;obtain⟨X0,X2,X4,X3,X5,X1⟩:=HI.o.g6 0 10 2 12 4 14 3 13 5 15 1 11
     match i,him,Hr with
     | 0,_,Hi|1,_,Hi|2,_,Hi|3,_,Hi|4,_,Hi|5,_,Hi =>
       try have x0:=X0.t Hi.o
       try have x2:=X2.t Hi.o
       try have x4:=X4.t Hi.o
       refine aA rfl fun K' hK=>?_;go_simp;exact hK.o _ _ (HI.o.pw Hi.o)
     | 6,_,Hi =>
       have x3:=X3.q Hi.o;have x5:=X5.q Hi.o;refine aA rfl fun K' hK=>?_;go_simp;with_reducible refine(C1.o _ _ _ _ _ (R1.o.below HI.o.world) (R2.o.below HI.o.world)).mono ?_
       rintro e W' ⟨wm,wo,rfl,wu,hb⟩;exact hK.o _ _ ⟨HI.o.pc Hi.o hb ⟨wm,wo,rfl,wu⟩,trivial⟩
     | 7,_,Hi =>
       have x1:=X1.q Hi.o;obtain⟨v',x6,wm,wo,e,wu⟩:=HI.o.at (i:=6) Hi.o (by kernel_rfl) (by decide);obtain rfl:=e;have x6:a.tmps[16]? = some (.slice wm (ag n) wo):=x6;have rM:=hid wu;clear wu;refine aA rfl fun K' hK=>?_;go_simp;with_reducible refine(C2.o _ _ _ rM.o).mono ?_
       rintro e W' ⟨u6,w9,rfl,ww,hb⟩;exact hK.o _ _ ⟨HI.o.pc Hi.o hb ⟨u6,w9,rfl,ww⟩,trivial⟩
     | n+8,h,_=>exact absurd h (by omega)
   · intro mf a W HI hD HA
     obtain⟨v',x6,wm,wo,e,wu⟩:=HI.o.slots 6 (by decide) (HA.o 6 (by decide));obtain rfl:=e;have rM:=hid wu;clear wu;obtain⟨v',x7,u6,w9,e,ww⟩:=HI.o.slots 7 (by decide) (HA.o 7 (by decide));obtain rfl:=e;have lv:=hid ww;clear ww;have x7:a.tmps[17]? = some (.agg #[.bool (ah z),.slice u6 (aa z) w9]):=x7;have rV:=hid HI.o.world;obtain ⟨l6,K3⟩:=aD (si.o.trans (rV.o.mono si.o.size)) (K3.o.below rV.o);have RA:=rM;have RZ:=lv;have y4:=HI.o.rst 4 rfl;obtain ⟨p8,pq⟩:=ay K3.o rfl rfl;obtain ⟨kM,kV⟩:=aR K3.o;refine aZ (t:=0) ?_;refine aA rfl fun K' hK=>?_;go_simp;refine hK.o _ _ ?_;clear hK;refine aV ?_;have s0:∀ {v':Value} {n':Nat},RN W v' n'→RN (storeAll W (w.heap.size+1+1) 0 [.bool (ah z),.slice u6 (aa z) w9]) v' n':=fun h'=>bf _ h' K3.o (by simp[bJ]) (by simp[aW]);exact⟨rfl,wm,wo,u6,w9,(HI.o.finx ⟨HI.o.sx HA.o 0,HI.o.sx HA.o 1,HI.o.sx HA.o 2,HI.o.sx HA.o 3,HI.o.sx HA.o 4,HI.o.sx HA.o 5,x6,x7,trivial⟩ rfl),(aj (l:=[.bool (ah z),.slice u6 (aa z) w9]) (i:=0) (by omega) l6.o),(bX (l:=[.bool (ah z),.slice u6 (aa z) w9]) (i:=0) K3.o),(s0 RZ.o)⟩
 rintro a' W1 ⟨wm,wo,u6,w9,rfl,z0,z1,z2⟩;obtain ⟨pu,K3,RZ⟩:=au z0 z1 z2;clear z0 z1 z2;simp only[putL,List.setIfInBounds_toArray,List.set_cons_zero,List.set_cons_succ];go_wp2;obtain ⟨p8,pq⟩:=ay K3.o rfl rfl;exact bodyPost_ret (v:=.agg #[.bool (ah z),.slice u6 (aa z) w9]) (by simp[results,Tryz.results77,go_sem,p8,pq]) rfl ⟨_,_,rfl,RZ.o,pu.o⟩
theorem z4a (za zb z:Int)(n:Nat)(k:Int)(hk:0≤k)(hs:(ah za==ah zb)=false)(p1:Option Addr)(c1:Nat)(p2:Option Addr)(c2:Nat)(w:World)(h3:∀ p1 c1 p2 c2 W,RN W (.slice p1 (aa za) c1) za.natAbs→RN W (.slice p2 (aa zb) c2) zb.natAbs→CR 73 #[.slice p1 (aa za) c1,.slice p2 (aa zb) c2] W (.int .i64 k))(h4:∀ p1 c1 p2 c2 W,RN W (.slice p1 (aa za) c1) za.natAbs→RN W (.slice p2 (aa zb) c2) zb.natAbs→CN 128 #[.slice p1 (aa za) c1,.slice p2 (aa zb) c2] W n)(h2:∀ s2 d2 W,RN W (.slice s2 (ag n) d2) n→CZ 78 #[.bool (ah za),.slice s2 (ag n) d2] W z)(r1:RN w (.slice p1 (aa za) c1) za.natAbs)(r2:RN w (.slice p2 (aa zb) c2) zb.natAbs) :
 CZ 77 #[.agg #[.bool (ah za),.slice p1 (aa za) c1],.agg #[.bool (ah zb),.slice p2 (aa zb) c2]] w z:=by
 obtain ⟨C3,C4,C2,R1,R2⟩:=bD h3 h4 h2 r1 r2;have s0:(ah za==ah zb)=false:=hs;clear hs;have k0:decide (0≤k)=true:=decide_eq_true hk;have k1:0≤k:=hk;clear hk h3 h4 h2 r1 r2;go_enter Tryz.func77,Tryz.ntmps77
 go_upto_region 1 with fail
 refine ak w [(#[.bool (ah za),.slice p1 (aa za) c1],48),(#[.bool (ah zb),.slice p2 (aa zb) c2],48),(#[.bool false,.slice none 0 0],48)] rfl ?_;rintro W0 ⟨k1,k2,k3,hb⟩;have si:=hid (show Below w.heap.size w W0 from hb);obtain ⟨R1,R2⟩:=aO si.o R1 R2;obtain ⟨K1,K2,K3⟩:=au k1 k2 k3;clear k1 k2 k3 hb;have ol:=K1.o.cell (i:=0) rfl;have ma:=K2.o.cell (i:=0) rfl;have mi:=K1.o.cell (i:=1) rfl;have l5:=K2.o.cell (i:=1) rfl;go_wp2_with fail
 with_reducible refine(C3.o _ _ _ _ _ R1.o R2.o).mono ?_
 rintro e W1 ⟨rfl,hb⟩;clear ol ma mi l5;obtain ⟨K1,K2,K3,R1,R2⟩:=eQ hb K1 K2 K3 R1 R2;have pu:=hbt si hb;clear hb;go_wp2_with fail
 refine az (fun a0 a' V=>∃ wm wo u6 w9,a'=⟨putL [(24,.pointer (some ⟨w.heap.size,0,none⟩)),(25,.bool (ah za)),(26,.pointer (some ⟨w.heap.size,1,none⟩)),(27,.slice p1 (aa za) c1),(28,.pointer (some ⟨w.heap.size+1,1,none⟩)),(29,.slice p2 (aa zb) c2),(30,.slice wm (ag n) wo),(31,.agg #[.bool (ah z),.slice u6 (aa z) w9])] a0.tmps,a0.defers⟩∧Below w.heap.size w V∧SBk V (w.heap.size+1+1) #[.bool (ah z),.slice u6 (aa z) w9] 48∧RN V (.slice u6 (aa z) w9) z.natAbs) ?_ ?_
 · refine aL 8 1 [24,25,26,27,28,29,30,31] [Rel.val (.pointer (some ⟨w.heap.size,0,none⟩)),Rel.val (.bool (ah za)),Rel.val (.pointer (some ⟨w.heap.size,1,none⟩)),Rel.val (.slice p1 (aa za) c1),Rel.val (.pointer (some ⟨w.heap.size+1,1,none⟩)),Rel.val (.slice p2 (aa zb) c2),Rel.nat n,Rel.int z] ?_ ?_
   · intro mf a W i HI hD Hr him
     obtain⟨y2,y3⟩:=HI.o.s2 2 3;obtain ⟨ol,mi⟩:=ay (K1.o.below HI.o.world) rfl rfl;have l5:=(K2.o.below HI.o.world).cell (i:=1) rfl;obtain⟨X0,X2,X4,X3,X5,X1⟩:=HI.o.g6 0 24 2 26 4 28 3 27 5 29 1 25
     match i,him,Hr with
     | 0,_,Hi|1,_,Hi|2,_,Hi|3,_,Hi|4,_,Hi|5,_,Hi =>
       try have x0:=X0.t Hi.o
       try have x2:=X2.t Hi.o
       try have x4:=X4.t Hi.o
       refine aA rfl fun K' hK=>?_;go_simp;exact hK.o _ _ (HI.o.pw Hi.o)
     | 6,_,Hi =>
       have x3:=X3.q Hi.o;have x5:=X5.q Hi.o;refine aA rfl fun K' hK=>?_;go_simp;with_reducible refine(C4.o _ _ _ _ _ (R1.o.below HI.o.world) (R2.o.below HI.o.world)).mono ?_
       rintro e W' ⟨wm,wo,rfl,wu,hb⟩;exact hK.o _ _ ⟨HI.o.pc Hi.o hb ⟨wm,wo,rfl,wu⟩,trivial⟩
     | 7,_,Hi =>
       have x1:=X1.q Hi.o;obtain⟨v',x6,wm,wo,e,wu⟩:=HI.o.at (i:=6) Hi.o (by kernel_rfl) (by decide);obtain rfl:=e;have x6:a.tmps[30]? = some (.slice wm (ag n) wo):=x6;have rM:=hid wu;clear wu;refine aA rfl fun K' hK=>?_;go_simp;with_reducible refine(C2.o _ _ _ rM.o).mono ?_
       rintro e W' ⟨u6,w9,rfl,ww,hb⟩;exact hK.o _ _ ⟨HI.o.pc Hi.o hb ⟨u6,w9,rfl,ww⟩,trivial⟩
     | n+8,h,_=>exact absurd h (by omega)
   · intro mf a W HI hD HA
     obtain⟨v',x6,wm,wo,e,wu⟩:=HI.o.slots 6 (by decide) (HA.o 6 (by decide));obtain rfl:=e;have rM:=hid wu;clear wu;obtain⟨v',x7,u6,w9,e,ww⟩:=HI.o.slots 7 (by decide) (HA.o 7 (by decide));obtain rfl:=e;have lv:=hid ww;clear ww;have x7:a.tmps[31]? = some (.agg #[.bool (ah z),.slice u6 (aa z) w9]):=x7;have rV:=hid HI.o.world;obtain ⟨l6,K3⟩:=aD (pu.o.trans (rV.o.mono pu.o.size)) (K3.o.below rV.o);have RA:=rM;have RZ:=lv;have y4:=HI.o.rst 4 rfl;obtain ⟨p8,pq⟩:=ay K3.o rfl rfl;obtain ⟨kM,kV⟩:=aR K3.o;refine aZ (t:=0) ?_;refine aA rfl fun K' hK=>?_;go_simp;refine hK.o _ _ ?_;clear hK;refine aV ?_;have s0:∀ {v':Value} {n':Nat},RN W v' n'→RN (storeAll W (w.heap.size+1+1) 0 [.bool (ah z),.slice u6 (aa z) w9]) v' n':=fun h'=>bf _ h' K3.o (by simp[bJ]) (by simp[aW]);exact⟨rfl,wm,wo,u6,w9,(HI.o.finx ⟨HI.o.sx HA.o 0,HI.o.sx HA.o 1,HI.o.sx HA.o 2,HI.o.sx HA.o 3,HI.o.sx HA.o 4,HI.o.sx HA.o 5,x6,x7,trivial⟩ rfl),(aj (l:=[.bool (ah z),.slice u6 (aa z) w9]) (i:=0) (by omega) l6.o),(bX (l:=[.bool (ah z),.slice u6 (aa z) w9]) (i:=0) K3.o),(s0 RZ.o)⟩
 rintro a' W2 ⟨wm,wo,u6,w9,rfl,z0,z1,z2⟩;obtain ⟨gy,K3,RZ⟩:=au z0 z1 z2;clear z0 z1 z2;simp only[putL,List.setIfInBounds_toArray,List.set_cons_zero,List.set_cons_succ];go_wp2;obtain ⟨p8,pq⟩:=ay K3.o rfl rfl;exact bodyPost_ret (v:=.agg #[.bool (ah z),.slice u6 (aa z) w9]) (by simp[results,Tryz.results77,go_sem,p8,pq]) rfl ⟨_,_,rfl,RZ.o,gy.o⟩
theorem z3Z (za zb z:Int)(n:Nat)(k:Int)(hk:k<0)(hs:(ah za==ah zb)=false)(p1:Option Addr)(c1:Nat)(p2:Option Addr)(c2:Nat)(w:World)(h3:∀ p1 c1 p2 c2 W,RN W (.slice p1 (aa za) c1) za.natAbs→RN W (.slice p2 (aa zb) c2) zb.natAbs→CR 73 #[.slice p1 (aa za) c1,.slice p2 (aa zb) c2] W (.int .i64 k))(h4:∀ p1 c1 p2 c2 W,RN W (.slice p1 (aa zb) c1) zb.natAbs→RN W (.slice p2 (aa za) c2) za.natAbs→CN 128 #[.slice p1 (aa zb) c1,.slice p2 (aa za) c2] W n)(h2:∀ s2 d2 W,RN W (.slice s2 (ag n) d2) n→CZ 78 #[.bool (ah zb),.slice s2 (ag n) d2] W z)(r1:RN w (.slice p1 (aa za) c1) za.natAbs)(r2:RN w (.slice p2 (aa zb) c2) zb.natAbs) :
 CZ 77 #[.agg #[.bool (ah za),.slice p1 (aa za) c1],.agg #[.bool (ah zb),.slice p2 (aa zb) c2]] w z:=by
 obtain ⟨C3,C4,C2,R1,R2⟩:=bD h3 h4 h2 r1 r2;have s0:(ah za==ah zb)=false:=hs;clear hs;have k0:decide (0≤k)=false:=decide_eq_false (by omega);have k1:¬ 0≤k:=by omega
 clear hk h3 h4 h2 r1 r2;go_enter Tryz.func77,Tryz.ntmps77
 go_upto_region 1 with fail
 refine ak w [(#[.bool (ah za),.slice p1 (aa za) c1],48),(#[.bool (ah zb),.slice p2 (aa zb) c2],48),(#[.bool false,.slice none 0 0],48)] rfl ?_;rintro W0 ⟨k1,k2,k3,hb⟩;have si:=hid (show Below w.heap.size w W0 from hb);obtain ⟨R1,R2⟩:=aO si.o R1 R2;obtain ⟨K1,K2,K3⟩:=au k1 k2 k3;clear k1 k2 k3 hb;have ol:=K1.o.cell (i:=0) rfl;have ma:=K2.o.cell (i:=0) rfl;have mi:=K1.o.cell (i:=1) rfl;have l5:=K2.o.cell (i:=1) rfl;go_wp2_with fail
 with_reducible refine(C3.o _ _ _ _ _ R1.o R2.o).mono ?_
 rintro e W1 ⟨rfl,hb⟩;clear ol ma mi l5;obtain ⟨K1,K2,K3,R1,R2⟩:=eQ hb K1 K2 K3 R1 R2;have pu:=hbt si hb;clear hb;go_wp2_with fail
 refine az (fun a0 a' V=>∃ wm wo u6 w9,a'=⟨putL [(32,.pointer (some ⟨w.heap.size+1,0,none⟩)),(33,.bool (ah zb)),(34,.pointer (some ⟨w.heap.size+1,1,none⟩)),(35,.slice p2 (aa zb) c2),(36,.pointer (some ⟨w.heap.size,1,none⟩)),(37,.slice p1 (aa za) c1),(38,.slice wm (ag n) wo),(39,.agg #[.bool (ah z),.slice u6 (aa z) w9])] a0.tmps,a0.defers⟩∧Below w.heap.size w V∧SBk V (w.heap.size+1+1) #[.bool (ah z),.slice u6 (aa z) w9] 48∧RN V (.slice u6 (aa z) w9) z.natAbs) ?_ ?_
 · refine aL 8 1 [32,33,34,35,36,37,38,39] [Rel.val (.pointer (some ⟨w.heap.size+1,0,none⟩)),Rel.val (.bool (ah zb)),Rel.val (.pointer (some ⟨w.heap.size+1,1,none⟩)),Rel.val (.slice p2 (aa zb) c2),Rel.val (.pointer (some ⟨w.heap.size,1,none⟩)),Rel.val (.slice p1 (aa za) c1),Rel.nat n,Rel.int z] ?_ ?_
   · intro mf a W i HI hD Hr him
     obtain⟨y3,y2⟩:=HI.o.s2 3 2;obtain ⟨ma,l5⟩:=ay (K2.o.below HI.o.world) rfl rfl;have mi:=(K1.o.below HI.o.world).cell (i:=1) rfl;obtain⟨X0,X2,X4,X3,X5,X1⟩:=HI.o.g6 0 32 2 34 4 36 3 35 5 37 1 33
     match i,him,Hr with
     | 0,_,Hi|1,_,Hi|2,_,Hi|3,_,Hi|4,_,Hi|5,_,Hi =>
       try have x0:=X0.t Hi.o
       try have x2:=X2.t Hi.o
       try have x4:=X4.t Hi.o
       refine aA rfl fun K' hK=>?_;go_simp;exact hK.o _ _ (HI.o.pw Hi.o)
     | 6,_,Hi =>
       have x3:=X3.q Hi.o;have x5:=X5.q Hi.o;refine aA rfl fun K' hK=>?_;go_simp;with_reducible refine(C4.o _ _ _ _ _ (R2.o.below HI.o.world) (R1.o.below HI.o.world)).mono ?_
       rintro e W' ⟨wm,wo,rfl,wu,hb⟩;exact hK.o _ _ ⟨HI.o.pc Hi.o hb ⟨wm,wo,rfl,wu⟩,trivial⟩
     | 7,_,Hi =>
       have x1:=X1.q Hi.o;obtain⟨v',x6,wm,wo,e,wu⟩:=HI.o.at (i:=6) Hi.o (by kernel_rfl) (by decide);obtain rfl:=e;have x6:a.tmps[38]? = some (.slice wm (ag n) wo):=x6;have rM:=hid wu;clear wu;refine aA rfl fun K' hK=>?_;go_simp;with_reducible refine(C2.o _ _ _ rM.o).mono ?_
       rintro e W' ⟨u6,w9,rfl,ww,hb⟩;exact hK.o _ _ ⟨HI.o.pc Hi.o hb ⟨u6,w9,rfl,ww⟩,trivial⟩
     | n+8,h,_=>exact absurd h (by omega)
   · intro mf a W HI hD HA
     obtain⟨v',x6,wm,wo,e,wu⟩:=HI.o.slots 6 (by decide) (HA.o 6 (by decide));obtain rfl:=e;have rM:=hid wu;clear wu;obtain⟨v',x7,u6,w9,e,ww⟩:=HI.o.slots 7 (by decide) (HA.o 7 (by decide));obtain rfl:=e;have lv:=hid ww;clear ww;have x7:a.tmps[39]? = some (.agg #[.bool (ah z),.slice u6 (aa z) w9]):=x7;have rV:=hid HI.o.world;obtain ⟨l6,K3⟩:=aD (pu.o.trans (rV.o.mono pu.o.size)) (K3.o.below rV.o);have RA:=rM;have RZ:=lv;have y4:=HI.o.rst 4 rfl;obtain ⟨p8,pq⟩:=ay K3.o rfl rfl;obtain ⟨kM,kV⟩:=aR K3.o;refine aZ (t:=0) ?_;refine aA rfl fun K' hK=>?_;go_simp;refine hK.o _ _ ?_;clear hK;refine aV ?_;have s0:∀ {v':Value} {n':Nat},RN W v' n'→RN (storeAll W (w.heap.size+1+1) 0 [.bool (ah z),.slice u6 (aa z) w9]) v' n':=fun h'=>bf _ h' K3.o (by simp[bJ]) (by simp[aW]);exact⟨rfl,wm,wo,u6,w9,(HI.o.finx ⟨HI.o.sx HA.o 0,HI.o.sx HA.o 1,HI.o.sx HA.o 2,HI.o.sx HA.o 3,HI.o.sx HA.o 4,HI.o.sx HA.o 5,x6,x7,trivial⟩ rfl),(aj (l:=[.bool (ah z),.slice u6 (aa z) w9]) (i:=0) (by omega) l6.o),(bX (l:=[.bool (ah z),.slice u6 (aa z) w9]) (i:=0) K3.o),(s0 RZ.o)⟩
 rintro a' W2 ⟨wm,wo,u6,w9,rfl,z0,z1,z2⟩;obtain ⟨gy,K3,RZ⟩:=au z0 z1 z2;clear z0 z1 z2;simp only[putL,List.setIfInBounds_toArray,List.set_cons_zero,List.set_cons_succ];go_wp2;obtain ⟨p8,pq⟩:=ay K3.o rfl rfl;exact bodyPost_ret (v:=.agg #[.bool (ah z),.slice u6 (aa z) w9]) (by simp[results,Tryz.results77,go_sem,p8,pq]) rfl ⟨_,_,rfl,RZ.o,gy.o⟩
theorem z06 (za zb z:Int)(n:Nat)(p1:Option Addr)(c1:Nat)(p2:Option Addr)(c2:Nat)(w:World)(h1:∀ p1 c1 p2 c2 W,RN W (.slice p1 (aa za) c1) za.natAbs→RN W (.slice p2 (aa zb) c2) zb.natAbs→CN 79 #[.slice p1 (aa za) c1,.slice p2 (aa zb) c2] W n)(h2:∀ s2 d2 W,RN W (.slice s2 (ag n) d2) n→CZ 78 #[.bool (ah za != ah zb),.slice s2 (ag n) d2] W z)(r1:RN w (.slice p1 (aa za) c1) za.natAbs)(r2:RN w (.slice p2 (aa zb) c2) zb.natAbs) :
 CZ 80 #[.agg #[.bool (ah za),.slice p1 (aa za) c1],.agg #[.bool (ah zb),.slice p2 (aa zb) c2]] w z:=by
 obtain ⟨C1,C2,R1,R2⟩:=aM h1 h2 r1 r2;clear h1 h2 r1 r2;go_enter Tryz.func80,Tryz.ntmps80
 go_upto_region 1 with fail
 refine ak w [(#[.bool (ah za),.slice p1 (aa za) c1],48),(#[.bool (ah zb),.slice p2 (aa zb) c2],48),(#[.bool false,.slice none 0 0],48)] rfl ?_;rintro W0 ⟨k1,k2,k3,hb⟩;have si:=hid (show Below w.heap.size w W0 from hb);obtain ⟨R1,R2⟩:=aO si.o R1 R2;obtain ⟨K1,K2,K3⟩:=au k1 k2 k3;clear k1 k2 k3 hb;go_wp2_with fail
 refine az (fun a0 a' V=>∃ oM oV sj sw,a'=⟨putL [(5,.pointer (some ⟨w.heap.size,0,none⟩)),(6,.bool (ah za)),(7,.pointer (some ⟨w.heap.size+1,0,none⟩)),(8,.bool (ah zb)),(9,.bool (ah za != ah zb)),(10,.pointer (some ⟨w.heap.size,1,none⟩)),(11,.slice p1 (aa za) c1),(12,.pointer (some ⟨w.heap.size+1,1,none⟩)),(13,.slice p2 (aa zb) c2),(14,.slice oM (ag n) oV),(15,.agg #[.bool (ah z),.slice sj (aa z) sw])] a0.tmps,a0.defers⟩∧Below w.heap.size w V∧SBk V (w.heap.size+1+1) #[.bool (ah z),.slice sj (aa z) sw] 48∧RN V (.slice sj (aa z) sw) z.natAbs) ?_ ?_
 · refine aL 11 1 [5,6,7,8,9,10,11,12,13,14,15] [Rel.val (.pointer (some ⟨w.heap.size,0,none⟩)),Rel.val (.bool (ah za)),Rel.val (.pointer (some ⟨w.heap.size+1,0,none⟩)),Rel.val (.bool (ah zb)),Rel.val (.bool (ah za != ah zb)),Rel.val (.pointer (some ⟨w.heap.size,1,none⟩)),Rel.val (.slice p1 (aa za) c1),Rel.val (.pointer (some ⟨w.heap.size+1,1,none⟩)),Rel.val (.slice p2 (aa zb) c2),Rel.nat n,Rel.int z] ?_ ?_
   · intro mf a W i HI hD Hr him
     obtain⟨y2,y3⟩:=HI.o.s2 2 3;have ol:=(K1.o.below HI.o.world).cell (i:=0) rfl;have ma:=(K2.o.below HI.o.world).cell (i:=0) rfl;have mi:=(K1.o.below HI.o.world).cell (i:=1) rfl;have l5:=(K2.o.below HI.o.world).cell (i:=1) rfl;obtain⟨X0,X2,X1,X3,X5,X7⟩:=HI.o.g6 0 5 2 7 1 6 3 8 5 10 7 12;obtain⟨X6,X8,X4⟩:=HI.o.g3 6 11 8 13 4 9
     match i,him,Hr with
     | 0,_,Hi|1,_,Hi|2,_,Hi|3,_,Hi|4,_,Hi|5,_,Hi|6,_,Hi|7,_,Hi =>
       try have x0:=X0.t Hi.o
       try have x2:=X2.t Hi.o
       try have x1:=X1.t Hi.o
       try have x3:=X3.t Hi.o
       try have x5:=X5.t Hi.o
       refine aA rfl fun K' hK=>?_;go_simp;exact hK.o _ _ (HI.o.pw Hi.o)
     | 8,_,Hi =>
       have x7:=X7.q Hi.o;refine aA rfl fun K' hK=>?_;go_simp;exact hK.o _ _ (HI.o.pw Hi.o)
     | 9,_,Hi =>
       have x6:=X6.q Hi.o;have x8:=X8.q Hi.o;refine aA rfl fun K' hK=>?_;go_simp;with_reducible refine(C1.o _ _ _ _ _ (R1.o.below HI.o.world) (R2.o.below HI.o.world)).mono ?_
       rintro e W' ⟨oM,oV,rfl,lg,hb⟩;exact hK.o _ _ ⟨HI.o.pc Hi.o hb ⟨oM,oV,rfl,lg⟩,trivial⟩
     | 10,_,Hi =>
       have x4:=X4.q Hi.o;obtain⟨v',x9,oM,oV,e,lg⟩:=HI.o.at (i:=9) Hi.o (by kernel_rfl) (by decide);obtain rfl:=e;have x9:a.tmps[14]? = some (.slice oM (ag n) oV):=x9;have fq:=hid lg;clear lg;refine aA rfl fun K' hK=>?_;go_simp;with_reducible refine(C2.o _ _ _ fq.o).mono ?_
       rintro e W' ⟨sj,sw,rfl,kz,hb⟩;exact hK.o _ _ ⟨HI.o.pc Hi.o hb ⟨sj,sw,rfl,kz⟩,trivial⟩
     | n+11,h,_=>exact absurd h (by omega)
   · intro mf a W HI hD HA
     obtain⟨v',x9,oM,oV,e,lg⟩:=HI.o.slots 9 (by decide) (HA.o 9 (by decide));obtain rfl:=e;have fq:=hid lg;clear lg;obtain⟨v',x10,sj,sw,e,kz⟩:=HI.o.slots 10 (by decide) (HA.o 10 (by decide));obtain rfl:=e;have fQ:=hid kz;clear kz;have x10:a.tmps[15]? = some (.agg #[.bool (ah z),.slice sj (aa z) sw]):=x10;have rV:=hid HI.o.world;obtain ⟨l6,K3⟩:=aD (si.o.trans (rV.o.mono si.o.size)) (K3.o.below rV.o);have RA:=fq;have RZ:=fQ;have y4:=HI.o.rst 4 rfl;obtain ⟨p8,pq⟩:=ay K3.o rfl rfl;obtain ⟨kM,kV⟩:=aR K3.o;refine aZ (t:=0) ?_;refine aA rfl fun K' hK=>?_;go_simp;refine hK.o _ _ ?_;clear hK;refine aV ?_;have s0:∀ {v':Value} {n':Nat},RN W v' n'→RN (storeAll W (w.heap.size+1+1) 0 [.bool (ah z),.slice sj (aa z) sw]) v' n':=fun h'=>bf _ h' K3.o (by simp[bJ]) (by simp[aW]);exact⟨rfl,oM,oV,sj,sw,(HI.o.finx ⟨HI.o.sx HA.o 0,HI.o.sx HA.o 1,HI.o.sx HA.o 2,HI.o.sx HA.o 3,HI.o.sx HA.o 4,HI.o.sx HA.o 5,HI.o.sx HA.o 6,HI.o.sx HA.o 7,HI.o.sx HA.o 8,x9,x10,trivial⟩ rfl),(aj (l:=[.bool (ah z),.slice sj (aa z) sw]) (i:=0) (by omega) l6.o),(bX (l:=[.bool (ah z),.slice sj (aa z) sw]) (i:=0) K3.o),(s0 RZ.o)⟩
 rintro a' W1 ⟨oM,oV,sj,sw,rfl,z0,z1,z2⟩;obtain ⟨pu,K3,RZ⟩:=au z0 z1 z2;clear z0 z1 z2;simp only[putL,List.setIfInBounds_toArray,List.set_cons_zero,List.set_cons_succ];go_wp2;obtain ⟨p8,pq⟩:=ay K3.o rfl rfl;exact bodyPost_ret (v:=.agg #[.bool (ah z),.slice sj (aa z) sw]) (by simp[results,Tryz.results80,go_sem,p8,pq]) rfl ⟨_,_,rfl,RZ.o,pu.o⟩
