/- texts -/
import Derived.Test.YtcchkjpdchcjpaaGreatDoorMz31q
import Derived.Test.YtcchkjpdchcjpaaGreatDoorMz26q
set_option maxRecDepth 100000
set_option maxHeartbeats 20000000
open Go.Lib (hid)
namespace Go.Proofs.YtcchkjpdchcjpaaGreatDoor
open Go.RowKit Go.Gb
theorem qB {f:FuncId}{args:Array Value}{w:World}{z:Int}{b:Bool}{L:Nat}(hb:decide (z<0)=b)(hL:(aa z.natAbs).length=L)(h:Calls Tryz.prog f args w fun e w'=>∃ u,e=.returned u∧Rz w' u z∧Below w.heap.size w w') :
 Calls Tryz.prog f args w fun e w'=>∃ p c,e=.returned (.agg #[.bool b,.slice p L c])∧Rd .u32 w' (.slice p L c) (aa z.natAbs)∧Below w.heap.size w w':=by
 refine h.mono ?_;rintro e w' ⟨u,rfl,hu,hbl⟩;obtain⟨p,c,rfl,hr⟩:=jk hu;rw[hb,hL];rw[hL]at hr;exact⟨p,c,rfl,hr,hbl⟩
theorem yT (za zb z:Int)(n:Nat)(hs:(av za==av zb)=true)(p1:Option Addr)(c1:Nat)(p2:Option Addr)(c2:Nat)(w:World)(h1:∀ p1 c1 p2 c2 W,RN W (.slice p1 (ag za) c1) za.natAbs→RN W (.slice p2 (ag zb) c2) zb.natAbs→CN 131 #[.slice p1 (ag za) c1,.slice p2 (ag zb) c2] W n)(h2:∀ s2 d2 W,RN W (.slice s2 (ai n) d2) n→CZ 55 #[.bool (av za),.slice s2 (ai n) d2] W z)(r1:RN w (.slice p1 (ag za) c1) za.natAbs)(r2:RN w (.slice p2 (ag zb) c2) zb.natAbs) :
 CZ 107 #[.agg #[.bool (av za),.slice p1 (ag za) c1],.agg #[.bool (av zb),.slice p2 (ag zb) c2]] w z:=by
 obtain ⟨C1,C2,R1,R2⟩:=aY h1 h2 r1 r2;have s0:(av za==av zb)=true:=hs;clear hs h1 h2 r1 r2;go_enter Tryz.func107,Tryz.ntmps107
 go_upto_region 1 with fail
 refine aA w [(#[.bool (av za),.slice p1 (ag za) c1],47),(#[.bool (av zb),.slice p2 (ag zb) c2],47),(#[.bool false,.slice none 0 0],47)] rfl ?_;rintro W0 ⟨k1,k2,k3,hb⟩;have rM:=hid (show Below w.heap.size w W0 from hb);obtain ⟨R1,R2⟩:=ax rM.o R1 R2;obtain ⟨K1,K2,K3⟩:=ae k1 k2 k3;clear k1 k2 k3 hb;have mi:=K1.o.cell (i:=0) rfl;have lv:=K2.o.cell (i:=0) rfl;go_wp2_with fail
 clear mi lv;refine az (fun a0 a' V=>∃ wo wu u6 w9,a'=⟨putL [(10,.pointer (some ⟨w.heap.size,0,none⟩)),(11,.bool (av za)),(12,.pointer (some ⟨w.heap.size,1,none⟩)),(13,.slice p1 (ag za) c1),(14,.pointer (some ⟨w.heap.size+1,1,none⟩)),(15,.slice p2 (ag zb) c2),(16,.slice wo (ai n) wu),(17,.agg #[.bool (av z),.slice u6 (ag z) w9])] a0.tmps,a0.defers⟩∧Below w.heap.size w V∧SBk V (w.heap.size+1+1) #[.bool (av z),.slice u6 (ag z) w9] 47∧RN V (.slice u6 (ag z) w9) z.natAbs) ?_ ?_
 · refine df 8 1 [10,11,12,13,14,15,16,17] [Rel.val (.pointer (some ⟨w.heap.size,0,none⟩)),Rel.val (.bool (av za)),Rel.val (.pointer (some ⟨w.heap.size,1,none⟩)),Rel.val (.slice p1 (ag za) c1),Rel.val (.pointer (some ⟨w.heap.size+1,1,none⟩)),Rel.val (.slice p2 (ag zb) c2),Rel.nat n,Rel.int z] ?_ ?_
   · intro kw a W i HI hD Hr him
     obtain⟨y2,y3⟩:=HI.o.s2 2 3;obtain ⟨mi,kz⟩:=au (K1.o.below HI.o.world) rfl rfl;have kM:=(K2.o.below HI.o.world).cell (i:=1) rfl;obtain⟨X0,X2,X4,X3,X5,X1⟩:=HI.o.g6 0 10 2 12 4 14 3 13 5 15 1 11
     match i,him,Hr with
     | 0,_,Hi|1,_,Hi|2,_,Hi|3,_,Hi|4,_,Hi|5,_,Hi =>
       try have x0:=X0.t Hi.o
       try have x2:=X2.t Hi.o
       try have x4:=X4.t Hi.o
       refine aj rfl fun K' hK=>?_;go_simp;exact hK.o _ _ (HI.o.pw Hi.o)
     | 6,_,Hi =>
       have x3:=X3.q Hi.o;have x5:=X5.q Hi.o;refine aj rfl fun K' hK=>?_;go_simp;with_reducible refine(C1.o _ _ _ _ _ (R1.o.below HI.o.world) (R2.o.below HI.o.world)).mono ?_
       rintro e W' ⟨wo,wu,rfl,ww,hb⟩;exact hK.o _ _ ⟨HI.o.pc Hi.o hb ⟨wo,wu,rfl,ww⟩,trivial⟩
     | 7,_,Hi =>
       have x1:=X1.q Hi.o;obtain⟨v',x6,wo,wu,e,ww⟩:=HI.o.at (i:=6) Hi.o (by kernel_rfl) (by decide);obtain rfl:=e;have x6:a.tmps[16]? = some (.slice wo (ai n) wu):=x6;have ol:=hid ww;clear ww;refine aj rfl fun K' hK=>?_;go_simp;with_reducible refine(C2.o _ _ _ ol.o).mono ?_
       rintro e W' ⟨u6,w9,rfl,sw,hb⟩;exact hK.o _ _ ⟨HI.o.pc Hi.o hb ⟨u6,w9,rfl,sw⟩,trivial⟩
     | n+8,h,_=>exact absurd h (by omega)
   · intro kw a W HI hD HA
     obtain⟨v',x6,wo,wu,e,ww⟩:=HI.o.slots 6 (by decide) (HA.o 6 (by decide));obtain rfl:=e;have ol:=hid ww;clear ww;obtain⟨v',x7,u6,w9,e,sw⟩:=HI.o.slots 7 (by decide) (HA.o 7 (by decide));obtain rfl:=e;have gy:=hid sw;clear sw;have x7:a.tmps[17]? = some (.agg #[.bool (av z),.slice u6 (ag z) w9]):=x7;have oM:=hid HI.o.world;obtain ⟨kV,K3⟩:=aH (rM.o.trans (oM.o.mono rM.o.size)) (K3.o.below oM.o);have RA:=ol;have RZ:=gy;have y4:=HI.o.rst 4 rfl;obtain ⟨oV,nk⟩:=au K3.o rfl rfl;obtain ⟨fq,fQ⟩:=dU K3.o;refine bG (t:=0) ?_;refine aj rfl fun K' hK=>?_;go_simp;refine hK.o _ _ ?_;clear hK;refine aT ?_;have s0:∀ {v':Value} {n':Nat},RN W v' n'→RN (storeAll W (w.heap.size+1+1) 0 [.bool (av z),.slice u6 (ag z) w9]) v' n':=fun h'=>bD _ h' K3.o (by simp[cB]) (by simp[bH]);exact⟨rfl,wo,wu,u6,w9,(HI.o.finx ⟨HI.o.sx HA.o 0,HI.o.sx HA.o 1,HI.o.sx HA.o 2,HI.o.sx HA.o 3,HI.o.sx HA.o 4,HI.o.sx HA.o 5,x6,x7,trivial⟩ rfl),(aJ (l:=[.bool (av z),.slice u6 (ag z) w9]) (i:=0) (by omega) kV.o),(fw (l:=[.bool (av z),.slice u6 (ag z) w9]) (i:=0) K3.o),(s0 RZ.o)⟩
 rintro a' W1 ⟨wo,wu,u6,w9,rfl,z0,z1,z2⟩;obtain ⟨mf,K3,RZ⟩:=ae z0 z1 z2;clear z0 z1 z2;simp only[putL,List.setIfInBounds_toArray,List.set_cons_zero,List.set_cons_succ];go_wp2;obtain ⟨oV,nk⟩:=au K3.o rfl rfl;exact bodyPost_ret (v:=.agg #[.bool (av z),.slice u6 (ag z) w9]) (by simp[results,Tryz.results107,go_sem,oV,nk]) rfl ⟨_,_,rfl,RZ.o,mf.o⟩
theorem z2I (za zb z:Int)(n:Nat)(k:Int)(hk:0≤k)(hs:(av za==av zb)=false)(p1:Option Addr)(c1:Nat)(p2:Option Addr)(c2:Nat)(w:World)(h3:∀ p1 c1 p2 c2 W,RN W (.slice p1 (ag za) c1) za.natAbs→RN W (.slice p2 (ag zb) c2) zb.natAbs→CR 47 #[.slice p1 (ag za) c1,.slice p2 (ag zb) c2] W (.int .i64 k))(h4:∀ p1 c1 p2 c2 W,RN W (.slice p1 (ag za) c1) za.natAbs→RN W (.slice p2 (ag zb) c2) zb.natAbs→CN 132 #[.slice p1 (ag za) c1,.slice p2 (ag zb) c2] W n)(h2:∀ s2 d2 W,RN W (.slice s2 (ai n) d2) n→CZ 55 #[.bool (av za),.slice s2 (ai n) d2] W z)(r1:RN w (.slice p1 (ag za) c1) za.natAbs)(r2:RN w (.slice p2 (ag zb) c2) zb.natAbs) :
 CZ 107 #[.agg #[.bool (av za),.slice p1 (ag za) c1],.agg #[.bool (av zb),.slice p2 (ag zb) c2]] w z:=by
 obtain ⟨C3,C4,C2,R1,R2⟩:=bO h3 h4 h2 r1 r2;have s0:(av za==av zb)=false:=hs;clear hs;have k0:decide (0≤k)=true:=decide_eq_true hk;have k1:0≤k:=hk;clear hk h3 h4 h2 r1 r2;go_enter Tryz.func107,Tryz.ntmps107
 go_upto_region 1 with fail
 refine aA w [(#[.bool (av za),.slice p1 (ag za) c1],47),(#[.bool (av zb),.slice p2 (ag zb) c2],47),(#[.bool false,.slice none 0 0],47)] rfl ?_;rintro W0 ⟨k1,k2,k3,hb⟩;have rM:=hid (show Below w.heap.size w W0 from hb);obtain ⟨R1,R2⟩:=ax rM.o R1 R2;obtain ⟨K1,K2,K3⟩:=ae k1 k2 k3;clear k1 k2 k3 hb;have mi:=K1.o.cell (i:=0) rfl;have lv:=K2.o.cell (i:=0) rfl;have kz:=K1.o.cell (i:=1) rfl;have kM:=K2.o.cell (i:=1) rfl;go_wp2_with fail
 with_reducible refine(C3.o _ _ _ _ _ R1.o R2.o).mono ?_
 rintro e W1 ⟨rfl,hb⟩;clear mi lv kz kM;obtain ⟨K1,K2,K3,R1,R2⟩:=dQ hb K1 K2 K3 R1 R2;have mf:=hbt rM hb;clear hb;go_wp2_with fail
 refine az (fun a0 a' V=>∃ wo wu u6 w9,a'=⟨putL [(24,.pointer (some ⟨w.heap.size,0,none⟩)),(25,.bool (av za)),(26,.pointer (some ⟨w.heap.size,1,none⟩)),(27,.slice p1 (ag za) c1),(28,.pointer (some ⟨w.heap.size+1,1,none⟩)),(29,.slice p2 (ag zb) c2),(30,.slice wo (ai n) wu),(31,.agg #[.bool (av z),.slice u6 (ag z) w9])] a0.tmps,a0.defers⟩∧Below w.heap.size w V∧SBk V (w.heap.size+1+1) #[.bool (av z),.slice u6 (ag z) w9] 47∧RN V (.slice u6 (ag z) w9) z.natAbs) ?_ ?_
 · refine df 8 1 [24,25,26,27,28,29,30,31] [Rel.val (.pointer (some ⟨w.heap.size,0,none⟩)),Rel.val (.bool (av za)),Rel.val (.pointer (some ⟨w.heap.size,1,none⟩)),Rel.val (.slice p1 (ag za) c1),Rel.val (.pointer (some ⟨w.heap.size+1,1,none⟩)),Rel.val (.slice p2 (ag zb) c2),Rel.nat n,Rel.int z] ?_ ?_
   · intro kw a W i HI hD Hr him
     obtain⟨y2,y3⟩:=HI.o.s2 2 3;obtain ⟨mi,kz⟩:=au (K1.o.below HI.o.world) rfl rfl;have kM:=(K2.o.below HI.o.world).cell (i:=1) rfl;obtain⟨X0,X2,X4,X3,X5,X1⟩:=HI.o.g6 0 24 2 26 4 28 3 27 5 29 1 25
     match i,him,Hr with
     | 0,_,Hi|1,_,Hi|2,_,Hi|3,_,Hi|4,_,Hi|5,_,Hi =>
       try have x0:=X0.t Hi.o
       try have x2:=X2.t Hi.o
       try have x4:=X4.t Hi.o
       refine aj rfl fun K' hK=>?_;go_simp;exact hK.o _ _ (HI.o.pw Hi.o)
     | 6,_,Hi =>
       have x3:=X3.q Hi.o;have x5:=X5.q Hi.o;refine aj rfl fun K' hK=>?_;go_simp;with_reducible refine(C4.o _ _ _ _ _ (R1.o.below HI.o.world) (R2.o.below HI.o.world)).mono ?_
       rintro e W' ⟨wo,wu,rfl,ww,hb⟩;exact hK.o _ _ ⟨HI.o.pc Hi.o hb ⟨wo,wu,rfl,ww⟩,trivial⟩
     | 7,_,Hi =>
       have x1:=X1.q Hi.o;obtain⟨v',x6,wo,wu,e,ww⟩:=HI.o.at (i:=6) Hi.o (by kernel_rfl) (by decide);obtain rfl:=e;have x6:a.tmps[30]? = some (.slice wo (ai n) wu):=x6;have ol:=hid ww;clear ww;refine aj rfl fun K' hK=>?_;go_simp;with_reducible refine(C2.o _ _ _ ol.o).mono ?_
       rintro e W' ⟨u6,w9,rfl,sw,hb⟩;exact hK.o _ _ ⟨HI.o.pc Hi.o hb ⟨u6,w9,rfl,sw⟩,trivial⟩
     | n+8,h,_=>exact absurd h (by omega)
   · intro kw a W HI hD HA
     obtain⟨v',x6,wo,wu,e,ww⟩:=HI.o.slots 6 (by decide) (HA.o 6 (by decide));obtain rfl:=e;have ol:=hid ww;clear ww;obtain⟨v',x7,u6,w9,e,sw⟩:=HI.o.slots 7 (by decide) (HA.o 7 (by decide));obtain rfl:=e;have gy:=hid sw;clear sw;have x7:a.tmps[31]? = some (.agg #[.bool (av z),.slice u6 (ag z) w9]):=x7;have oM:=hid HI.o.world;obtain ⟨kV,K3⟩:=aH (mf.o.trans (oM.o.mono mf.o.size)) (K3.o.below oM.o);have RA:=ol;have RZ:=gy;have y4:=HI.o.rst 4 rfl;obtain ⟨oV,nk⟩:=au K3.o rfl rfl;obtain ⟨fq,fQ⟩:=dU K3.o;refine bG (t:=0) ?_;refine aj rfl fun K' hK=>?_;go_simp;refine hK.o _ _ ?_;clear hK;refine aT ?_;have s0:∀ {v':Value} {n':Nat},RN W v' n'→RN (storeAll W (w.heap.size+1+1) 0 [.bool (av z),.slice u6 (ag z) w9]) v' n':=fun h'=>bD _ h' K3.o (by simp[cB]) (by simp[bH]);exact⟨rfl,wo,wu,u6,w9,(HI.o.finx ⟨HI.o.sx HA.o 0,HI.o.sx HA.o 1,HI.o.sx HA.o 2,HI.o.sx HA.o 3,HI.o.sx HA.o 4,HI.o.sx HA.o 5,x6,x7,trivial⟩ rfl),(aJ (l:=[.bool (av z),.slice u6 (ag z) w9]) (i:=0) (by omega) kV.o),(fw (l:=[.bool (av z),.slice u6 (ag z) w9]) (i:=0) K3.o),(s0 RZ.o)⟩
 rintro a' W2 ⟨wo,wu,u6,w9,rfl,z0,z1,z2⟩;obtain ⟨ed,K3,RZ⟩:=ae z0 z1 z2;clear z0 z1 z2;simp only[putL,List.setIfInBounds_toArray,List.set_cons_zero,List.set_cons_succ];go_wp2;obtain ⟨oV,nk⟩:=au K3.o rfl rfl;exact bodyPost_ret (v:=.agg #[.bool (av z),.slice u6 (ag z) w9]) (by simp[results,Tryz.results107,go_sem,oV,nk]) rfl ⟨_,_,rfl,RZ.o,ed.o⟩
theorem z2H (za zb z:Int)(n:Nat)(k:Int)(hk:k<0)(hs:(av za==av zb)=false)(p1:Option Addr)(c1:Nat)(p2:Option Addr)(c2:Nat)(w:World)(h3:∀ p1 c1 p2 c2 W,RN W (.slice p1 (ag za) c1) za.natAbs→RN W (.slice p2 (ag zb) c2) zb.natAbs→CR 47 #[.slice p1 (ag za) c1,.slice p2 (ag zb) c2] W (.int .i64 k))(h4:∀ p1 c1 p2 c2 W,RN W (.slice p1 (ag zb) c1) zb.natAbs→RN W (.slice p2 (ag za) c2) za.natAbs→CN 132 #[.slice p1 (ag zb) c1,.slice p2 (ag za) c2] W n)(h2:∀ s2 d2 W,RN W (.slice s2 (ai n) d2) n→CZ 55 #[.bool (av zb),.slice s2 (ai n) d2] W z)(r1:RN w (.slice p1 (ag za) c1) za.natAbs)(r2:RN w (.slice p2 (ag zb) c2) zb.natAbs) :
 CZ 107 #[.agg #[.bool (av za),.slice p1 (ag za) c1],.agg #[.bool (av zb),.slice p2 (ag zb) c2]] w z:=by
 obtain ⟨C3,C4,C2,R1,R2⟩:=bO h3 h4 h2 r1 r2;have s0:(av za==av zb)=false:=hs;clear hs;have k0:decide (0≤k)=false:=decide_eq_false (by omega);have k1:¬ 0≤k:=by omega
 clear hk h3 h4 h2 r1 r2;go_enter Tryz.func107,Tryz.ntmps107
 go_upto_region 1 with fail
 refine aA w [(#[.bool (av za),.slice p1 (ag za) c1],47),(#[.bool (av zb),.slice p2 (ag zb) c2],47),(#[.bool false,.slice none 0 0],47)] rfl ?_;rintro W0 ⟨k1,k2,k3,hb⟩;have rM:=hid (show Below w.heap.size w W0 from hb);obtain ⟨R1,R2⟩:=ax rM.o R1 R2;obtain ⟨K1,K2,K3⟩:=ae k1 k2 k3;clear k1 k2 k3 hb;have mi:=K1.o.cell (i:=0) rfl;have lv:=K2.o.cell (i:=0) rfl;have kz:=K1.o.cell (i:=1) rfl;have kM:=K2.o.cell (i:=1) rfl;go_wp2_with fail
 with_reducible refine(C3.o _ _ _ _ _ R1.o R2.o).mono ?_
 rintro e W1 ⟨rfl,hb⟩;clear mi lv kz kM;obtain ⟨K1,K2,K3,R1,R2⟩:=dQ hb K1 K2 K3 R1 R2;have mf:=hbt rM hb;clear hb;go_wp2_with fail
 refine az (fun a0 a' V=>∃ wo wu u6 w9,a'=⟨putL [(32,.pointer (some ⟨w.heap.size+1,0,none⟩)),(33,.bool (av zb)),(34,.pointer (some ⟨w.heap.size+1,1,none⟩)),(35,.slice p2 (ag zb) c2),(36,.pointer (some ⟨w.heap.size,1,none⟩)),(37,.slice p1 (ag za) c1),(38,.slice wo (ai n) wu),(39,.agg #[.bool (av z),.slice u6 (ag z) w9])] a0.tmps,a0.defers⟩∧Below w.heap.size w V∧SBk V (w.heap.size+1+1) #[.bool (av z),.slice u6 (ag z) w9] 47∧RN V (.slice u6 (ag z) w9) z.natAbs) ?_ ?_
 · refine df 8 1 [32,33,34,35,36,37,38,39] [Rel.val (.pointer (some ⟨w.heap.size+1,0,none⟩)),Rel.val (.bool (av zb)),Rel.val (.pointer (some ⟨w.heap.size+1,1,none⟩)),Rel.val (.slice p2 (ag zb) c2),Rel.val (.pointer (some ⟨w.heap.size,1,none⟩)),Rel.val (.slice p1 (ag za) c1),Rel.nat n,Rel.int z] ?_ ?_
   · intro kw a W i HI hD Hr him
     obtain⟨y3,y2⟩:=HI.o.s2 3 2;obtain ⟨lv,kM⟩:=au (K2.o.below HI.o.world) rfl rfl;have kz:=(K1.o.below HI.o.world).cell (i:=1) rfl;obtain⟨X0,X2,X4,X3,X5,X1⟩:=HI.o.g6 0 32 2 34 4 36 3 35 5 37 1 33
     match i,him,Hr with
     | 0,_,Hi|1,_,Hi|2,_,Hi|3,_,Hi|4,_,Hi|5,_,Hi =>
       try have x0:=X0.t Hi.o
       try have x2:=X2.t Hi.o
       try have x4:=X4.t Hi.o
       refine aj rfl fun K' hK=>?_;go_simp;exact hK.o _ _ (HI.o.pw Hi.o)
     | 6,_,Hi =>
       have x3:=X3.q Hi.o;have x5:=X5.q Hi.o;refine aj rfl fun K' hK=>?_;go_simp;with_reducible refine(C4.o _ _ _ _ _ (R2.o.below HI.o.world) (R1.o.below HI.o.world)).mono ?_
       rintro e W' ⟨wo,wu,rfl,ww,hb⟩;exact hK.o _ _ ⟨HI.o.pc Hi.o hb ⟨wo,wu,rfl,ww⟩,trivial⟩
     | 7,_,Hi =>
       have x1:=X1.q Hi.o;obtain⟨v',x6,wo,wu,e,ww⟩:=HI.o.at (i:=6) Hi.o (by kernel_rfl) (by decide);obtain rfl:=e;have x6:a.tmps[38]? = some (.slice wo (ai n) wu):=x6;have ol:=hid ww;clear ww;refine aj rfl fun K' hK=>?_;go_simp;with_reducible refine(C2.o _ _ _ ol.o).mono ?_
       rintro e W' ⟨u6,w9,rfl,sw,hb⟩;exact hK.o _ _ ⟨HI.o.pc Hi.o hb ⟨u6,w9,rfl,sw⟩,trivial⟩
     | n+8,h,_=>exact absurd h (by omega)
   · intro kw a W HI hD HA
     obtain⟨v',x6,wo,wu,e,ww⟩:=HI.o.slots 6 (by decide) (HA.o 6 (by decide));obtain rfl:=e;have ol:=hid ww;clear ww;obtain⟨v',x7,u6,w9,e,sw⟩:=HI.o.slots 7 (by decide) (HA.o 7 (by decide));obtain rfl:=e;have gy:=hid sw;clear sw;have x7:a.tmps[39]? = some (.agg #[.bool (av z),.slice u6 (ag z) w9]):=x7;have oM:=hid HI.o.world;obtain ⟨kV,K3⟩:=aH (mf.o.trans (oM.o.mono mf.o.size)) (K3.o.below oM.o);have RA:=ol;have RZ:=gy;have y4:=HI.o.rst 4 rfl;obtain ⟨oV,nk⟩:=au K3.o rfl rfl;obtain ⟨fq,fQ⟩:=dU K3.o;refine bG (t:=0) ?_;refine aj rfl fun K' hK=>?_;go_simp;refine hK.o _ _ ?_;clear hK;refine aT ?_;have s0:∀ {v':Value} {n':Nat},RN W v' n'→RN (storeAll W (w.heap.size+1+1) 0 [.bool (av z),.slice u6 (ag z) w9]) v' n':=fun h'=>bD _ h' K3.o (by simp[cB]) (by simp[bH]);exact⟨rfl,wo,wu,u6,w9,(HI.o.finx ⟨HI.o.sx HA.o 0,HI.o.sx HA.o 1,HI.o.sx HA.o 2,HI.o.sx HA.o 3,HI.o.sx HA.o 4,HI.o.sx HA.o 5,x6,x7,trivial⟩ rfl),(aJ (l:=[.bool (av z),.slice u6 (ag z) w9]) (i:=0) (by omega) kV.o),(fw (l:=[.bool (av z),.slice u6 (ag z) w9]) (i:=0) K3.o),(s0 RZ.o)⟩
 rintro a' W2 ⟨wo,wu,u6,w9,rfl,z0,z1,z2⟩;obtain ⟨ed,K3,RZ⟩:=ae z0 z1 z2;clear z0 z1 z2;simp only[putL,List.setIfInBounds_toArray,List.set_cons_zero,List.set_cons_succ];go_wp2;obtain ⟨oV,nk⟩:=au K3.o rfl rfl;exact bodyPost_ret (v:=.agg #[.bool (av z),.slice u6 (ag z) w9]) (by simp[results,Tryz.results107,go_sem,oV,nk]) rfl ⟨_,_,rfl,RZ.o,ed.o⟩
theorem yS (za zb z:Int)(n:Nat)(p1:Option Addr)(c1:Nat)(p2:Option Addr)(c2:Nat)(w:World)(h1:∀ p1 c1 p2 c2 W,RN W (.slice p1 (ag za) c1) za.natAbs→RN W (.slice p2 (ag zb) c2) zb.natAbs→CN 53 #[.slice p1 (ag za) c1,.slice p2 (ag zb) c2] W n)(h2:∀ s2 d2 W,RN W (.slice s2 (ai n) d2) n→CZ 55 #[.bool (av za != av zb),.slice s2 (ai n) d2] W z)(r1:RN w (.slice p1 (ag za) c1) za.natAbs)(r2:RN w (.slice p2 (ag zb) c2) zb.natAbs) :
 CZ 52 #[.agg #[.bool (av za),.slice p1 (ag za) c1],.agg #[.bool (av zb),.slice p2 (ag zb) c2]] w z:=by
 obtain ⟨C1,C2,R1,R2⟩:=aY h1 h2 r1 r2;clear h1 h2 r1 r2;go_enter Tryz.func52,Tryz.ntmps52
 go_upto_region 1 with fail
 refine aA w [(#[.bool (av za),.slice p1 (ag za) c1],47),(#[.bool (av zb),.slice p2 (ag zb) c2],47),(#[.bool false,.slice none 0 0],47)] rfl ?_;rintro W0 ⟨k1,k2,k3,hb⟩;have rM:=hid (show Below w.heap.size w W0 from hb);obtain ⟨R1,R2⟩:=ax rM.o R1 R2;obtain ⟨K1,K2,K3⟩:=ae k1 k2 k3;clear k1 k2 k3 hb;go_wp2_with fail
 refine az (fun a0 a' V=>∃ l5 lg rV pq,a'=⟨putL [(5,.pointer (some ⟨w.heap.size,0,none⟩)),(6,.bool (av za)),(7,.pointer (some ⟨w.heap.size+1,0,none⟩)),(8,.bool (av zb)),(9,.bool (av za != av zb)),(10,.pointer (some ⟨w.heap.size,1,none⟩)),(11,.slice p1 (ag za) c1),(12,.pointer (some ⟨w.heap.size+1,1,none⟩)),(13,.slice p2 (ag zb) c2),(14,.slice l5 (ai n) lg),(15,.agg #[.bool (av z),.slice rV (ag z) pq])] a0.tmps,a0.defers⟩∧Below w.heap.size w V∧SBk V (w.heap.size+1+1) #[.bool (av z),.slice rV (ag z) pq] 47∧RN V (.slice rV (ag z) pq) z.natAbs) ?_ ?_
 · refine df 11 1 [5,6,7,8,9,10,11,12,13,14,15] [Rel.val (.pointer (some ⟨w.heap.size,0,none⟩)),Rel.val (.bool (av za)),Rel.val (.pointer (some ⟨w.heap.size+1,0,none⟩)),Rel.val (.bool (av zb)),Rel.val (.bool (av za != av zb)),Rel.val (.pointer (some ⟨w.heap.size,1,none⟩)),Rel.val (.slice p1 (ag za) c1),Rel.val (.pointer (some ⟨w.heap.size+1,1,none⟩)),Rel.val (.slice p2 (ag zb) c2),Rel.nat n,Rel.int z] ?_ ?_
   · intro kw a W i HI hD Hr him
     obtain⟨y2,y3⟩:=HI.o.s2 2 3;have mi:=(K1.o.below HI.o.world).cell (i:=0) rfl;have lv:=(K2.o.below HI.o.world).cell (i:=0) rfl;have kz:=(K1.o.below HI.o.world).cell (i:=1) rfl;have kM:=(K2.o.below HI.o.world).cell (i:=1) rfl;obtain⟨X0,X2,X1,X3,X5,X7⟩:=HI.o.g6 0 5 2 7 1 6 3 8 5 10 7 12;obtain⟨X6,X8,X4⟩:=HI.o.g3 6 11 8 13 4 9
     match i,him,Hr with
     | 0,_,Hi|1,_,Hi|2,_,Hi|3,_,Hi|4,_,Hi|5,_,Hi|6,_,Hi|7,_,Hi =>
       try have x0:=X0.t Hi.o
       try have x2:=X2.t Hi.o
       try have x1:=X1.t Hi.o
       try have x3:=X3.t Hi.o
       try have x5:=X5.t Hi.o
       refine aj rfl fun K' hK=>?_;go_simp;exact hK.o _ _ (HI.o.pw Hi.o)
     | 8,_,Hi =>
       have x7:=X7.q Hi.o;refine aj rfl fun K' hK=>?_;go_simp;exact hK.o _ _ (HI.o.pw Hi.o)
     | 9,_,Hi =>
       have x6:=X6.q Hi.o;have x8:=X8.q Hi.o;refine aj rfl fun K' hK=>?_;go_simp;with_reducible refine(C1.o _ _ _ _ _ (R1.o.below HI.o.world) (R2.o.below HI.o.world)).mono ?_
       rintro e W' ⟨l5,lg,rfl,ic,hb⟩;exact hK.o _ _ ⟨HI.o.pc Hi.o hb ⟨l5,lg,rfl,ic⟩,trivial⟩
     | 10,_,Hi =>
       have x4:=X4.q Hi.o;obtain⟨v',x9,l5,lg,e,ic⟩:=HI.o.at (i:=9) Hi.o (by kernel_rfl) (by decide);obtain rfl:=e;have x9:a.tmps[14]? = some (.slice l5 (ai n) lg):=x9;have ek:=hid ic;clear ic;refine aj rfl fun K' hK=>?_;go_simp;with_reducible refine(C2.o _ _ _ ek.o).mono ?_
       rintro e W' ⟨rV,pq,rfl,fo,hb⟩;exact hK.o _ _ ⟨HI.o.pc Hi.o hb ⟨rV,pq,rfl,fo⟩,trivial⟩
     | n+11,h,_=>exact absurd h (by omega)
   · intro kw a W HI hD HA
     obtain⟨v',x9,l5,lg,e,ic⟩:=HI.o.slots 9 (by decide) (HA.o 9 (by decide));obtain rfl:=e;have ek:=hid ic;clear ic;obtain⟨v',x10,rV,pq,e,fo⟩:=HI.o.slots 10 (by decide) (HA.o 10 (by decide));obtain rfl:=e;have eH:=hid fo;clear fo;have x10:a.tmps[15]? = some (.agg #[.bool (av z),.slice rV (ag z) pq]):=x10;have oM:=hid HI.o.world;obtain ⟨kV,K3⟩:=aH (rM.o.trans (oM.o.mono rM.o.size)) (K3.o.below oM.o);have RA:=ek;have RZ:=eH;have y4:=HI.o.rst 4 rfl;obtain ⟨oV,nk⟩:=au K3.o rfl rfl;obtain ⟨fq,fQ⟩:=dU K3.o;refine bG (t:=0) ?_;refine aj rfl fun K' hK=>?_;go_simp;refine hK.o _ _ ?_;clear hK;refine aT ?_;have s0:∀ {v':Value} {n':Nat},RN W v' n'→RN (storeAll W (w.heap.size+1+1) 0 [.bool (av z),.slice rV (ag z) pq]) v' n':=fun h'=>bD _ h' K3.o (by simp[cB]) (by simp[bH]);exact⟨rfl,l5,lg,rV,pq,(HI.o.finx ⟨HI.o.sx HA.o 0,HI.o.sx HA.o 1,HI.o.sx HA.o 2,HI.o.sx HA.o 3,HI.o.sx HA.o 4,HI.o.sx HA.o 5,HI.o.sx HA.o 6,HI.o.sx HA.o 7,HI.o.sx HA.o 8,x9,x10,trivial⟩ rfl),(aJ (l:=[.bool (av z),.slice rV (ag z) pq]) (i:=0) (by omega) kV.o),(fw (l:=[.bool (av z),.slice rV (ag z) pq]) (i:=0) K3.o),(s0 RZ.o)⟩
 rintro a' W1 ⟨l5,lg,rV,pq,rfl,z0,z1,z2⟩;obtain ⟨mf,K3,RZ⟩:=ae z0 z1 z2;clear z0 z1 z2;simp only[putL,List.setIfInBounds_toArray,List.set_cons_zero,List.set_cons_succ];go_wp2;obtain ⟨oV,nk⟩:=au K3.o rfl rfl;exact bodyPost_ret (v:=.agg #[.bool (av z),.slice rV (ag z) pq]) (by simp[results,Tryz.results52,go_sem,oV,nk]) rfl ⟨_,_,rfl,RZ.o,mf.o⟩
