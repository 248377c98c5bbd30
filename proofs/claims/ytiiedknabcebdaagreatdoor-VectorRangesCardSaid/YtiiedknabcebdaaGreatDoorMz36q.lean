/- texts -/
import Derived.Test.YtiiedknabcebdaaGreatDoorMz35q
open Go.Proofs.Tryz
set_option maxRecDepth 100000
set_option maxHeartbeats 20000000
open Go.Lib (hid)
namespace Go.Proofs.YtiiedknabcebdaaGreatDoor
open Go.RowKit Go.Gb
theorem pK {f:FuncId}{args:Array Value}{w:World}{z:Int}{b:Bool}{L:Nat}(hb:decide (z<0)=b)(hL:(ae z.natAbs).length=L)(h:Calls Tryz.prog f args w fun e w'=>∃ u,e=.returned u∧Rz w' u z∧Below w.heap.size w w') :
 Calls Tryz.prog f args w fun e w'=>∃ p c,e=.returned (.agg #[.bool b,.slice p L c])∧Rd .u32 w' (.slice p L c) (ae z.natAbs)∧Below w.heap.size w w':=by
 refine h.mono ?_;rintro e w' ⟨u,rfl,hu,hbl⟩;obtain⟨p,c,rfl,hr⟩:=iZ hu;rw[hb,hL];rw[hL]at hr;exact⟨p,c,rfl,hr,hbl⟩
theorem ym (za zb z:Int)(n:Nat)(hs:(ak za==ak zb)=true)(p1:Option Addr)(c1:Nat)(p2:Option Addr)(c2:Nat)(w:World)(h1:∀ p1 c1 p2 c2 W,RN W (.slice p1 (ag za) c1) za.natAbs→RN W (.slice p2 (ag zb) c2) zb.natAbs→CN 90 #[.slice p1 (ag za) c1,.slice p2 (ag zb) c2] W n)(h2:∀ s2 d2 W,RN W (.slice s2 (ah n) d2) n→CZ 69 #[.bool (ak za),.slice s2 (ah n) d2] W z)(r1:RN w (.slice p1 (ag za) c1) za.natAbs)(r2:RN w (.slice p2 (ag zb) c2) zb.natAbs) :
 CZ 72 #[.agg #[.bool (ak za),.slice p1 (ag za) c1],.agg #[.bool (ak zb),.slice p2 (ag zb) c2]] w z:=by
 obtain ⟨C1,C2,R1,R2⟩:=aQ h1 h2 r1 r2;have s0:(ak za==ak zb)=true:=hs;clear hs h1 h2 r1 r2;go_enter func72,ntmps72
 go_upto_region 1 with fail
 refine ay w [(#[.bool (ak za),.slice p1 (ag za) c1],55),(#[.bool (ak zb),.slice p2 (ag zb) c2],55),(#[.bool false,.slice none 0 0],55)] rfl ?_;rintro W0 ⟨k1,k2,k3,hb⟩;have wz:=hid (show Below w.heap.size w W0 from hb);obtain ⟨R1,R2⟩:=aR wz.o R1 R2;obtain ⟨K1,K2,K3⟩:=ax k1 k2 k3;clear k1 k2 k3 hb;have oV:=K1.o.cell (i:=0) rfl;have l5:=K2.o.cell (i:=0) rfl;go_wp2_with fail
 clear oV l5;refine aB (fun a0 a' V=>∃ wo wu u6 w9,a'=⟨aZ [(10,.pointer (some ⟨w.heap.size,0,none⟩)),(11,.bool (ak za)),(12,.pointer (some ⟨w.heap.size,1,none⟩)),(13,.slice p1 (ag za) c1),(14,.pointer (some ⟨w.heap.size+1,1,none⟩)),(15,.slice p2 (ag zb) c2),(16,.slice wo (ah n) wu),(17,.agg #[.bool (ak z),.slice u6 (ag z) w9])] a0.tmps,a0.defers⟩∧Below w.heap.size w V∧SBk V (w.heap.size+1+1) #[.bool (ak z),.slice u6 (ag z) w9] 55∧RN V (.slice u6 (ag z) w9) z.natAbs) ?_ ?_
 · refine aI 8 1 [10,11,12,13,14,15,16,17] [Rel.val (.pointer (some ⟨w.heap.size,0,none⟩)),Rel.val (.bool (ak za)),Rel.val (.pointer (some ⟨w.heap.size,1,none⟩)),Rel.val (.slice p1 (ag za) c1),Rel.val (.pointer (some ⟨w.heap.size+1,1,none⟩)),Rel.val (.slice p2 (ag zb) c2),Rel.nat n,Rel.int z] ?_ ?_
   · intro l6 a W i HI hD Hr him
     obtain⟨y2,y3⟩:=HI.o.s2 2 3;obtain ⟨oV,lg⟩:=aO (K1.o.below HI.o.world) rfl rfl;have lv:=(K2.o.below HI.o.world).cell (i:=1) rfl;obtain⟨X0,X2,X4,X3,X5,X1⟩:=HI.o.g6 0 10 2 12 4 14 3 13 5 15 1 11
     match i,him,Hr with
     | 0,_,Hi|1,_,Hi|2,_,Hi|3,_,Hi|4,_,Hi|5,_,Hi =>
       try have x0:=X0.t Hi.o
       try have x2:=X2.t Hi.o
       try have x4:=X4.t Hi.o
       refine av rfl fun K' hK=>?_;go_simp;exact hK.o _ _ (HI.o.pw Hi.o)
     | 6,_,Hi =>
       have x3:=X3.q Hi.o;have x5:=X5.q Hi.o;refine av rfl fun K' hK=>?_;go_simp;with_reducible refine(C1.o _ _ _ _ _ (R1.o.below HI.o.world) (R2.o.below HI.o.world)).mono ?_
       rintro e W' ⟨wo,wu,rfl,ww,hb⟩;exact hK.o _ _ ⟨HI.o.pc Hi.o hb ⟨wo,wu,rfl,ww⟩,trivial⟩
     | 7,_,Hi =>
       have x1:=X1.q Hi.o;obtain⟨v',x6,wo,wu,e,ww⟩:=HI.o.at (i:=6) Hi.o (by kernel_rfl) (by decide);obtain rfl:=e;have x6:a.tmps[16]? = some (.slice wo (ah n) wu):=x6;have p8:=hid ww;clear ww;refine av rfl fun K' hK=>?_;go_simp;with_reducible refine(C2.o _ _ _ p8.o).mono ?_
       rintro e W' ⟨u6,w9,rfl,wy,hb⟩;exact hK.o _ _ ⟨HI.o.pc Hi.o hb ⟨u6,w9,rfl,wy⟩,trivial⟩
     | n+8,h,_=>exact absurd h (by omega)
   · intro l6 a W HI hD HA
     obtain⟨v',x6,wo,wu,e,ww⟩:=HI.o.slots 6 (by decide) (HA.o 6 (by decide));obtain rfl:=e;have p8:=hid ww;clear ww;obtain⟨v',x7,u6,w9,e,wy⟩:=HI.o.slots 7 (by decide) (HA.o 7 (by decide));obtain rfl:=e;have kK:=hid wy;clear wy;have x7:a.tmps[17]? = some (.agg #[.bool (ak z),.slice u6 (ag z) w9]):=x7;have pq:=hid HI.o.world;obtain ⟨ky,K3⟩:=aF (wz.o.trans (pq.o.mono wz.o.size)) (K3.o.below pq.o);have RA:=p8;have RZ:=kK;have y4:=HI.o.rst 4 rfl;obtain ⟨ol,oM⟩:=aO K3.o rfl rfl;obtain ⟨kV,gy⟩:=bS K3.o;refine aP (t:=0) ?_;refine av rfl fun K' hK=>?_;go_simp;refine hK.o _ _ ?_;clear hK;refine aT ?_;have s0:∀ {v':Value} {n':Nat},RN W v' n'→RN (storeAll W (w.heap.size+1+1) 0 [.bool (ak z),.slice u6 (ag z) w9]) v' n':=fun h'=>bE _ h' K3.o (by simp[cu]) (by simp[bG]);exact⟨rfl,wo,wu,u6,w9,(HI.o.finx ⟨HI.o.sx HA.o 0,HI.o.sx HA.o 1,HI.o.sx HA.o 2,HI.o.sx HA.o 3,HI.o.sx HA.o 4,HI.o.sx HA.o 5,x6,x7,trivial⟩ rfl),(au (l:=[.bool (ak z),.slice u6 (ag z) w9]) (i:=0) (by omega) ky.o),(bF (l:=[.bool (ak z),.slice u6 (ag z) w9]) (i:=0) K3.o),(s0 RZ.o)⟩
 rintro a' W1 ⟨wo,wu,u6,w9,rfl,z0,z1,z2⟩;obtain ⟨sw,K3,RZ⟩:=ax z0 z1 z2;clear z0 z1 z2;simp only[aZ,List.setIfInBounds_toArray,List.set_cons_zero,List.set_cons_succ];go_wp2;obtain ⟨ol,oM⟩:=aO K3.o rfl rfl;exact bodyPost_ret (v:=.agg #[.bool (ak z),.slice u6 (ag z) w9]) (by simp[results,results72,go_sem,ol,oM]) rfl ⟨_,_,rfl,RZ.o,sw.o⟩
theorem z2h (za zb z:Int)(n:Nat)(k:Int)(hk:0≤k)(hs:(ak za==ak zb)=false)(p1:Option Addr)(c1:Nat)(p2:Option Addr)(c2:Nat)(w:World)(h3:∀ p1 c1 p2 c2 W,RN W (.slice p1 (ag za) c1) za.natAbs→RN W (.slice p2 (ag zb) c2) zb.natAbs→CR 66 #[.slice p1 (ag za) c1,.slice p2 (ag zb) c2] W (.int .i64 k))(h4:∀ p1 c1 p2 c2 W,RN W (.slice p1 (ag za) c1) za.natAbs→RN W (.slice p2 (ag zb) c2) zb.natAbs→CN 91 #[.slice p1 (ag za) c1,.slice p2 (ag zb) c2] W n)(h2:∀ s2 d2 W,RN W (.slice s2 (ah n) d2) n→CZ 69 #[.bool (ak za),.slice s2 (ah n) d2] W z)(r1:RN w (.slice p1 (ag za) c1) za.natAbs)(r2:RN w (.slice p2 (ag zb) c2) zb.natAbs) :
 CZ 72 #[.agg #[.bool (ak za),.slice p1 (ag za) c1],.agg #[.bool (ak zb),.slice p2 (ag zb) c2]] w z:=by
 obtain ⟨C3,C4,C2,R1,R2⟩:=bQ h3 h4 h2 r1 r2;have s0:(ak za==ak zb)=false:=hs;clear hs;have k0:decide (0≤k)=true:=decide_eq_true hk;have k1:0≤k:=hk;clear hk h3 h4 h2 r1 r2;go_enter func72,ntmps72
 go_upto_region 1 with fail
 refine ay w [(#[.bool (ak za),.slice p1 (ag za) c1],55),(#[.bool (ak zb),.slice p2 (ag zb) c2],55),(#[.bool false,.slice none 0 0],55)] rfl ?_;rintro W0 ⟨k1,k2,k3,hb⟩;have wz:=hid (show Below w.heap.size w W0 from hb);obtain ⟨R1,R2⟩:=aR wz.o R1 R2;obtain ⟨K1,K2,K3⟩:=ax k1 k2 k3;clear k1 k2 k3 hb;have oV:=K1.o.cell (i:=0) rfl;have l5:=K2.o.cell (i:=0) rfl;have lg:=K1.o.cell (i:=1) rfl;have lv:=K2.o.cell (i:=1) rfl;go_wp2_with fail
 with_reducible refine(C3.o _ _ _ _ _ R1.o R2.o).mono ?_
 rintro e W1 ⟨rfl,hb⟩;clear oV l5 lg lv;obtain ⟨K1,K2,K3,R1,R2⟩:=cK hb K1 K2 K3 R1 R2;have sw:=hbt wz hb;clear hb;go_wp2_with fail
 refine aB (fun a0 a' V=>∃ wo wu u6 w9,a'=⟨aZ [(24,.pointer (some ⟨w.heap.size,0,none⟩)),(25,.bool (ak za)),(26,.pointer (some ⟨w.heap.size,1,none⟩)),(27,.slice p1 (ag za) c1),(28,.pointer (some ⟨w.heap.size+1,1,none⟩)),(29,.slice p2 (ag zb) c2),(30,.slice wo (ah n) wu),(31,.agg #[.bool (ak z),.slice u6 (ag z) w9])] a0.tmps,a0.defers⟩∧Below w.heap.size w V∧SBk V (w.heap.size+1+1) #[.bool (ak z),.slice u6 (ag z) w9] 55∧RN V (.slice u6 (ag z) w9) z.natAbs) ?_ ?_
 · refine aI 8 1 [24,25,26,27,28,29,30,31] [Rel.val (.pointer (some ⟨w.heap.size,0,none⟩)),Rel.val (.bool (ak za)),Rel.val (.pointer (some ⟨w.heap.size,1,none⟩)),Rel.val (.slice p1 (ag za) c1),Rel.val (.pointer (some ⟨w.heap.size+1,1,none⟩)),Rel.val (.slice p2 (ag zb) c2),Rel.nat n,Rel.int z] ?_ ?_
   · intro l6 a W i HI hD Hr him
     obtain⟨y2,y3⟩:=HI.o.s2 2 3;obtain ⟨oV,lg⟩:=aO (K1.o.below HI.o.world) rfl rfl;have lv:=(K2.o.below HI.o.world).cell (i:=1) rfl;obtain⟨X0,X2,X4,X3,X5,X1⟩:=HI.o.g6 0 24 2 26 4 28 3 27 5 29 1 25
     match i,him,Hr with
     | 0,_,Hi|1,_,Hi|2,_,Hi|3,_,Hi|4,_,Hi|5,_,Hi =>
       try have x0:=X0.t Hi.o
       try have x2:=X2.t Hi.o
       try have x4:=X4.t Hi.o
       refine av rfl fun K' hK=>?_;go_simp;exact hK.o _ _ (HI.o.pw Hi.o)
     | 6,_,Hi =>
       have x3:=X3.q Hi.o;have x5:=X5.q Hi.o;refine av rfl fun K' hK=>?_;go_simp;with_reducible refine(C4.o _ _ _ _ _ (R1.o.below HI.o.world) (R2.o.below HI.o.world)).mono ?_
       rintro e W' ⟨wo,wu,rfl,ww,hb⟩;exact hK.o _ _ ⟨HI.o.pc Hi.o hb ⟨wo,wu,rfl,ww⟩,trivial⟩
     | 7,_,Hi =>
       have x1:=X1.q Hi.o;obtain⟨v',x6,wo,wu,e,ww⟩:=HI.o.at (i:=6) Hi.o (by kernel_rfl) (by decide);obtain rfl:=e;have x6:a.tmps[30]? = some (.slice wo (ah n) wu):=x6;have p8:=hid ww;clear ww;refine av rfl fun K' hK=>?_;go_simp;with_reducible refine(C2.o _ _ _ p8.o).mono ?_
       rintro e W' ⟨u6,w9,rfl,wy,hb⟩;exact hK.o _ _ ⟨HI.o.pc Hi.o hb ⟨u6,w9,rfl,wy⟩,trivial⟩
     | n+8,h,_=>exact absurd h (by omega)
   · intro l6 a W HI hD HA
     obtain⟨v',x6,wo,wu,e,ww⟩:=HI.o.slots 6 (by decide) (HA.o 6 (by decide));obtain rfl:=e;have p8:=hid ww;clear ww;obtain⟨v',x7,u6,w9,e,wy⟩:=HI.o.slots 7 (by decide) (HA.o 7 (by decide));obtain rfl:=e;have kK:=hid wy;clear wy;have x7:a.tmps[31]? = some (.agg #[.bool (ak z),.slice u6 (ag z) w9]):=x7;have pq:=hid HI.o.world;obtain ⟨ky,K3⟩:=aF (sw.o.trans (pq.o.mono sw.o.size)) (K3.o.below pq.o);have RA:=p8;have RZ:=kK;have y4:=HI.o.rst 4 rfl;obtain ⟨ol,oM⟩:=aO K3.o rfl rfl;obtain ⟨kV,gy⟩:=bS K3.o;refine aP (t:=0) ?_;refine av rfl fun K' hK=>?_;go_simp;refine hK.o _ _ ?_;clear hK;refine aT ?_;have s0:∀ {v':Value} {n':Nat},RN W v' n'→RN (storeAll W (w.heap.size+1+1) 0 [.bool (ak z),.slice u6 (ag z) w9]) v' n':=fun h'=>bE _ h' K3.o (by simp[cu]) (by simp[bG]);exact⟨rfl,wo,wu,u6,w9,(HI.o.finx ⟨HI.o.sx HA.o 0,HI.o.sx HA.o 1,HI.o.sx HA.o 2,HI.o.sx HA.o 3,HI.o.sx HA.o 4,HI.o.sx HA.o 5,x6,x7,trivial⟩ rfl),(au (l:=[.bool (ak z),.slice u6 (ag z) w9]) (i:=0) (by omega) ky.o),(bF (l:=[.bool (ak z),.slice u6 (ag z) w9]) (i:=0) K3.o),(s0 RZ.o)⟩
 rintro a' W2 ⟨wo,wu,u6,w9,rfl,z0,z1,z2⟩;obtain ⟨fq,K3,RZ⟩:=ax z0 z1 z2;clear z0 z1 z2;simp only[aZ,List.setIfInBounds_toArray,List.set_cons_zero,List.set_cons_succ];go_wp2;obtain ⟨ol,oM⟩:=aO K3.o rfl rfl;exact bodyPost_ret (v:=.agg #[.bool (ak z),.slice u6 (ag z) w9]) (by simp[results,results72,go_sem,ol,oM]) rfl ⟨_,_,rfl,RZ.o,fq.o⟩
theorem z2g (za zb z:Int)(n:Nat)(k:Int)(hk:k<0)(hs:(ak za==ak zb)=false)(p1:Option Addr)(c1:Nat)(p2:Option Addr)(c2:Nat)(w:World)(h3:∀ p1 c1 p2 c2 W,RN W (.slice p1 (ag za) c1) za.natAbs→RN W (.slice p2 (ag zb) c2) zb.natAbs→CR 66 #[.slice p1 (ag za) c1,.slice p2 (ag zb) c2] W (.int .i64 k))(h4:∀ p1 c1 p2 c2 W,RN W (.slice p1 (ag zb) c1) zb.natAbs→RN W (.slice p2 (ag za) c2) za.natAbs→CN 91 #[.slice p1 (ag zb) c1,.slice p2 (ag za) c2] W n)(h2:∀ s2 d2 W,RN W (.slice s2 (ah n) d2) n→CZ 69 #[.bool (ak zb),.slice s2 (ah n) d2] W z)(r1:RN w (.slice p1 (ag za) c1) za.natAbs)(r2:RN w (.slice p2 (ag zb) c2) zb.natAbs) :
 CZ 72 #[.agg #[.bool (ak za),.slice p1 (ag za) c1],.agg #[.bool (ak zb),.slice p2 (ag zb) c2]] w z:=by
 obtain ⟨C3,C4,C2,R1,R2⟩:=bQ h3 h4 h2 r1 r2;have s0:(ak za==ak zb)=false:=hs;clear hs;have k0:decide (0≤k)=false:=decide_eq_false (by omega);have k1:¬ 0≤k:=by omega
 clear hk h3 h4 h2 r1 r2;go_enter func72,ntmps72
 go_upto_region 1 with fail
 refine ay w [(#[.bool (ak za),.slice p1 (ag za) c1],55),(#[.bool (ak zb),.slice p2 (ag zb) c2],55),(#[.bool false,.slice none 0 0],55)] rfl ?_;rintro W0 ⟨k1,k2,k3,hb⟩;have wz:=hid (show Below w.heap.size w W0 from hb);obtain ⟨R1,R2⟩:=aR wz.o R1 R2;obtain ⟨K1,K2,K3⟩:=ax k1 k2 k3;clear k1 k2 k3 hb;have oV:=K1.o.cell (i:=0) rfl;have l5:=K2.o.cell (i:=0) rfl;have lg:=K1.o.cell (i:=1) rfl;have lv:=K2.o.cell (i:=1) rfl;go_wp2_with fail
 with_reducible refine(C3.o _ _ _ _ _ R1.o R2.o).mono ?_
 rintro e W1 ⟨rfl,hb⟩;clear oV l5 lg lv;obtain ⟨K1,K2,K3,R1,R2⟩:=cK hb K1 K2 K3 R1 R2;have sw:=hbt wz hb;clear hb;go_wp2_with fail
 refine aB (fun a0 a' V=>∃ wo wu u6 w9,a'=⟨aZ [(32,.pointer (some ⟨w.heap.size+1,0,none⟩)),(33,.bool (ak zb)),(34,.pointer (some ⟨w.heap.size+1,1,none⟩)),(35,.slice p2 (ag zb) c2),(36,.pointer (some ⟨w.heap.size,1,none⟩)),(37,.slice p1 (ag za) c1),(38,.slice wo (ah n) wu),(39,.agg #[.bool (ak z),.slice u6 (ag z) w9])] a0.tmps,a0.defers⟩∧Below w.heap.size w V∧SBk V (w.heap.size+1+1) #[.bool (ak z),.slice u6 (ag z) w9] 55∧RN V (.slice u6 (ag z) w9) z.natAbs) ?_ ?_
 · refine aI 8 1 [32,33,34,35,36,37,38,39] [Rel.val (.pointer (some ⟨w.heap.size+1,0,none⟩)),Rel.val (.bool (ak zb)),Rel.val (.pointer (some ⟨w.heap.size+1,1,none⟩)),Rel.val (.slice p2 (ag zb) c2),Rel.val (.pointer (some ⟨w.heap.size,1,none⟩)),Rel.val (.slice p1 (ag za) c1),Rel.nat n,Rel.int z] ?_ ?_
   · intro l6 a W i HI hD Hr him
     obtain⟨y3,y2⟩:=HI.o.s2 3 2;obtain ⟨l5,lv⟩:=aO (K2.o.below HI.o.world) rfl rfl;have lg:=(K1.o.below HI.o.world).cell (i:=1) rfl;obtain⟨X0,X2,X4,X3,X5,X1⟩:=HI.o.g6 0 32 2 34 4 36 3 35 5 37 1 33
     match i,him,Hr with
     | 0,_,Hi|1,_,Hi|2,_,Hi|3,_,Hi|4,_,Hi|5,_,Hi =>
       try have x0:=X0.t Hi.o
       try have x2:=X2.t Hi.o
       try have x4:=X4.t Hi.o
       refine av rfl fun K' hK=>?_;go_simp;exact hK.o _ _ (HI.o.pw Hi.o)
     | 6,_,Hi =>
       have x3:=X3.q Hi.o;have x5:=X5.q Hi.o;refine av rfl fun K' hK=>?_;go_simp;with_reducible refine(C4.o _ _ _ _ _ (R2.o.below HI.o.world) (R1.o.below HI.o.world)).mono ?_
       rintro e W' ⟨wo,wu,rfl,ww,hb⟩;exact hK.o _ _ ⟨HI.o.pc Hi.o hb ⟨wo,wu,rfl,ww⟩,trivial⟩
     | 7,_,Hi =>
       have x1:=X1.q Hi.o;obtain⟨v',x6,wo,wu,e,ww⟩:=HI.o.at (i:=6) Hi.o (by kernel_rfl) (by decide);obtain rfl:=e;have x6:a.tmps[38]? = some (.slice wo (ah n) wu):=x6;have p8:=hid ww;clear ww;refine av rfl fun K' hK=>?_;go_simp;with_reducible refine(C2.o _ _ _ p8.o).mono ?_
       rintro e W' ⟨u6,w9,rfl,wy,hb⟩;exact hK.o _ _ ⟨HI.o.pc Hi.o hb ⟨u6,w9,rfl,wy⟩,trivial⟩
     | n+8,h,_=>exact absurd h (by omega)
   · intro l6 a W HI hD HA
     obtain⟨v',x6,wo,wu,e,ww⟩:=HI.o.slots 6 (by decide) (HA.o 6 (by decide));obtain rfl:=e;have p8:=hid ww;clear ww;obtain⟨v',x7,u6,w9,e,wy⟩:=HI.o.slots 7 (by decide) (HA.o 7 (by decide));obtain rfl:=e;have kK:=hid wy;clear wy;have x7:a.tmps[39]? = some (.agg #[.bool (ak z),.slice u6 (ag z) w9]):=x7;have pq:=hid HI.o.world;obtain ⟨ky,K3⟩:=aF (sw.o.trans (pq.o.mono sw.o.size)) (K3.o.below pq.o);have RA:=p8;have RZ:=kK;have y4:=HI.o.rst 4 rfl;obtain ⟨ol,oM⟩:=aO K3.o rfl rfl;obtain ⟨kV,gy⟩:=bS K3.o;refine aP (t:=0) ?_;refine av rfl fun K' hK=>?_;go_simp;refine hK.o _ _ ?_;clear hK;refine aT ?_;have s0:∀ {v':Value} {n':Nat},RN W v' n'→RN (storeAll W (w.heap.size+1+1) 0 [.bool (ak z),.slice u6 (ag z) w9]) v' n':=fun h'=>bE _ h' K3.o (by simp[cu]) (by simp[bG]);exact⟨rfl,wo,wu,u6,w9,(HI.o.finx ⟨HI.o.sx HA.o 0,HI.o.sx HA.o 1,HI.o.sx HA.o 2,HI.o.sx HA.o 3,HI.o.sx HA.o 4,HI.o.sx HA.o 5,x6,x7,trivial⟩ rfl),(au (l:=[.bool (ak z),.slice u6 (ag z) w9]) (i:=0) (by omega) ky.o),(bF (l:=[.bool (ak z),.slice u6 (ag z) w9]) (i:=0) K3.o),(s0 RZ.o)⟩
 rintro a' W2 ⟨wo,wu,u6,w9,rfl,z0,z1,z2⟩;obtain ⟨fq,K3,RZ⟩:=ax z0 z1 z2;clear z0 z1 z2;simp only[aZ,List.setIfInBounds_toArray,List.set_cons_zero,List.set_cons_succ];go_wp2;obtain ⟨ol,oM⟩:=aO K3.o rfl rfl;exact bodyPost_ret (v:=.agg #[.bool (ak z),.slice u6 (ag z) w9]) (by simp[results,results72,go_sem,ol,oM]) rfl ⟨_,_,rfl,RZ.o,fq.o⟩
theorem yj (za zb z:Int)(n:Nat)(p1:Option Addr)(c1:Nat)(p2:Option Addr)(c2:Nat)(w:World)(h1:∀ p1 c1 p2 c2 W,RN W (.slice p1 (ag za) c1) za.natAbs→RN W (.slice p2 (ag zb) c2) zb.natAbs→CN 73 #[.slice p1 (ag za) c1,.slice p2 (ag zb) c2] W n)(h2:∀ s2 d2 W,RN W (.slice s2 (ah n) d2) n→CZ 69 #[.bool (ak za != ak zb),.slice s2 (ah n) d2] W z)(r1:RN w (.slice p1 (ag za) c1) za.natAbs)(r2:RN w (.slice p2 (ag zb) c2) zb.natAbs) :
 CZ 74 #[.agg #[.bool (ak za),.slice p1 (ag za) c1],.agg #[.bool (ak zb),.slice p2 (ag zb) c2]] w z:=by
 obtain ⟨C1,C2,R1,R2⟩:=aQ h1 h2 r1 r2;clear h1 h2 r1 r2;go_enter func74,ntmps74
 go_upto_region 1 with fail
 refine ay w [(#[.bool (ak za),.slice p1 (ag za) c1],55),(#[.bool (ak zb),.slice p2 (ag zb) c2],55),(#[.bool false,.slice none 0 0],55)] rfl ?_;rintro W0 ⟨k1,k2,k3,hb⟩;have wz:=hid (show Below w.heap.size w W0 from hb);obtain ⟨R1,R2⟩:=aR wz.o R1 R2;obtain ⟨K1,K2,K3⟩:=ax k1 k2 k3;clear k1 k2 k3 hb;go_wp2_with fail
 refine aB (fun a0 a' V=>∃ mf mi rM rV,a'=⟨aZ [(5,.pointer (some ⟨w.heap.size,0,none⟩)),(6,.bool (ak za)),(7,.pointer (some ⟨w.heap.size+1,0,none⟩)),(8,.bool (ak zb)),(9,.bool (ak za != ak zb)),(10,.pointer (some ⟨w.heap.size,1,none⟩)),(11,.slice p1 (ag za) c1),(12,.pointer (some ⟨w.heap.size+1,1,none⟩)),(13,.slice p2 (ag zb) c2),(14,.slice mf (ah n) mi),(15,.agg #[.bool (ak z),.slice rM (ag z) rV])] a0.tmps,a0.defers⟩∧Below w.heap.size w V∧SBk V (w.heap.size+1+1) #[.bool (ak z),.slice rM (ag z) rV] 55∧RN V (.slice rM (ag z) rV) z.natAbs) ?_ ?_
 · refine aI 11 1 [5,6,7,8,9,10,11,12,13,14,15] [Rel.val (.pointer (some ⟨w.heap.size,0,none⟩)),Rel.val (.bool (ak za)),Rel.val (.pointer (some ⟨w.heap.size+1,0,none⟩)),Rel.val (.bool (ak zb)),Rel.val (.bool (ak za != ak zb)),Rel.val (.pointer (some ⟨w.heap.size,1,none⟩)),Rel.val (.slice p1 (ag za) c1),Rel.val (.pointer (some ⟨w.heap.size+1,1,none⟩)),Rel.val (.slice p2 (ag zb) c2),Rel.nat n,Rel.int z] ?_ ?_
   · intro l6 a W i HI hD Hr him
     obtain⟨y2,y3⟩:=HI.o.s2 2 3;have oV:=(K1.o.below HI.o.world).cell (i:=0) rfl;have l5:=(K2.o.below HI.o.world).cell (i:=0) rfl;have lg:=(K1.o.below HI.o.world).cell (i:=1) rfl;have lv:=(K2.o.below HI.o.world).cell (i:=1) rfl;obtain⟨X0,X2,X1,X3,X5,X7⟩:=HI.o.g6 0 5 2 7 1 6 3 8 5 10 7 12;obtain⟨X6,X8,X4⟩:=HI.o.g3 6 11 8 13 4 9
     match i,him,Hr with
     | 0,_,Hi|1,_,Hi|2,_,Hi|3,_,Hi|4,_,Hi|5,_,Hi|6,_,Hi|7,_,Hi =>
       try have x0:=X0.t Hi.o
       try have x2:=X2.t Hi.o
       try have x1:=X1.t Hi.o
       try have x3:=X3.t Hi.o
       try have x5:=X5.t Hi.o
       refine av rfl fun K' hK=>?_;go_simp;exact hK.o _ _ (HI.o.pw Hi.o)
     | 8,_,Hi =>
       have x7:=X7.q Hi.o;refine av rfl fun K' hK=>?_;go_simp;exact hK.o _ _ (HI.o.pw Hi.o)
     | 9,_,Hi =>
       have x6:=X6.q Hi.o;have x8:=X8.q Hi.o;refine av rfl fun K' hK=>?_;go_simp;with_reducible refine(C1.o _ _ _ _ _ (R1.o.below HI.o.world) (R2.o.below HI.o.world)).mono ?_
       rintro e W' ⟨mf,mi,rfl,kz,hb⟩;exact hK.o _ _ ⟨HI.o.pc Hi.o hb ⟨mf,mi,rfl,kz⟩,trivial⟩
     | 10,_,Hi =>
       have x4:=X4.q Hi.o;obtain⟨v',x9,mf,mi,e,kz⟩:=HI.o.at (i:=9) Hi.o (by kernel_rfl) (by decide);obtain rfl:=e;have x9:a.tmps[14]? = some (.slice mf (ah n) mi):=x9;have fw:=hid kz;clear kz;refine av rfl fun K' hK=>?_;go_simp;with_reducible refine(C2.o _ _ _ fw.o).mono ?_
       rintro e W' ⟨rM,rV,rfl,kM,hb⟩;exact hK.o _ _ ⟨HI.o.pc Hi.o hb ⟨rM,rV,rfl,kM⟩,trivial⟩
     | n+11,h,_=>exact absurd h (by omega)
   · intro l6 a W HI hD HA
     obtain⟨v',x9,mf,mi,e,kz⟩:=HI.o.slots 9 (by decide) (HA.o 9 (by decide));obtain rfl:=e;have fw:=hid kz;clear kz;obtain⟨v',x10,rM,rV,e,kM⟩:=HI.o.slots 10 (by decide) (HA.o 10 (by decide));obtain rfl:=e;have fQ:=hid kM;clear kM;have x10:a.tmps[15]? = some (.agg #[.bool (ak z),.slice rM (ag z) rV]):=x10;have pq:=hid HI.o.world;obtain ⟨ky,K3⟩:=aF (wz.o.trans (pq.o.mono wz.o.size)) (K3.o.below pq.o);have RA:=fw;have RZ:=fQ;have y4:=HI.o.rst 4 rfl;obtain ⟨ol,oM⟩:=aO K3.o rfl rfl;obtain ⟨kV,gy⟩:=bS K3.o;refine aP (t:=0) ?_;refine av rfl fun K' hK=>?_;go_simp;refine hK.o _ _ ?_;clear hK;refine aT ?_;have s0:∀ {v':Value} {n':Nat},RN W v' n'→RN (storeAll W (w.heap.size+1+1) 0 [.bool (ak z),.slice rM (ag z) rV]) v' n':=fun h'=>bE _ h' K3.o (by simp[cu]) (by simp[bG]);exact⟨rfl,mf,mi,rM,rV,(HI.o.finx ⟨HI.o.sx HA.o 0,HI.o.sx HA.o 1,HI.o.sx HA.o 2,HI.o.sx HA.o 3,HI.o.sx HA.o 4,HI.o.sx HA.o 5,HI.o.sx HA.o 6,HI.o.sx HA.o 7,HI.o.sx HA.o 8,x9,x10,trivial⟩ rfl),(au (l:=[.bool (ak z),.slice rM (ag z) rV]) (i:=0) (by omega) ky.o),(bF (l:=[.bool (ak z),.slice rM (ag z) rV]) (i:=0) K3.o),(s0 RZ.o)⟩
 rintro a' W1 ⟨mf,mi,rM,rV,rfl,z0,z1,z2⟩;obtain ⟨sw,K3,RZ⟩:=ax z0 z1 z2;clear z0 z1 z2;simp only[aZ,List.setIfInBounds_toArray,List.set_cons_zero,List.set_cons_succ];go_wp2;obtain ⟨ol,oM⟩:=aO K3.o rfl rfl;exact bodyPost_ret (v:=.agg #[.bool (ak z),.slice rM (ag z) rV]) (by simp[results,results74,go_sem,ol,oM]) rfl ⟨_,_,rfl,RZ.o,sw.o⟩
theorem z2J (a b:Nat)(h:(ae a).length≤50000):(ae (a-b)).length≤1000000:=by have:=aN (Nat.sub_le a b);omega
theorem z2C {f:FuncId}{args:Array Value}{w:World}{z:Int}(h:Calls Tryz.prog f args w fun e w'=>∃ p c,e=.returned (.agg #[.bool (ak z),.slice p (ag z) c])∧RN w' (.slice p (ag z) c) z.natAbs∧Below w.heap.size w w') :
 Calls Tryz.prog f args w fun e w'=>∃ u,e=.returned u∧Rz w' u z∧Below w.heap.size w w' :=
 h.mono fun _ _ ⟨_,_,e,r,hb⟩=>⟨_,e,Rz.mk r,hb⟩
theorem zF {x y:Int}(h:(ak x==ak y)=true):x+y=(if ak x=true then -((x.natAbs+y.natAbs:Nat):Int) else ((x.natAbs+y.natAbs:Nat):Int)):=by
 unfold ak at *
 by_cases hx:x<0<;>by_cases hy:y<0<;>simp[hx,hy]at h ⊢ <;> omega
theorem oF {x y:Int}(h:(ak x==ak y)=false):(y.natAbs≤x.natAbs→x+y=(if ak x=true then -((x.natAbs-y.natAbs:Nat):Int) else ((x.natAbs-y.natAbs:Nat):Int)))∧(x.natAbs<y.natAbs→x+y=(if ak y=true then -((y.natAbs-x.natAbs:Nat):Int) else ((y.natAbs-x.natAbs:Nat):Int))):=by
 unfold ak at *
 by_cases hx:x<0<;>by_cases hy:y<0<;>simp[hx,hy]at h ⊢ <;> constructor<;>intro h2<;>omega
theorem z3G (u1 u2:Value)(x y:Int)(hx:(ae x.natAbs).length≤50000)(hy:(ae y.natAbs).length≤50000)(w:World)(h1:Rz w u1 x)(h2:Rz w u2 y) :
 Calls Tryz.prog 72 #[u1,u2] w fun e w'=>∃ u,e=.returned u∧Rz w' u (x+y)∧Below w.heap.size w w':=by
 obtain⟨p1,c1,rfl,r1⟩:=h1.sh;obtain⟨p2,c2,rfl,r2⟩:=h2.sh;have hsl:=iA hx hy;have hx':ah x.natAbs≤50000:=hx;have hy':ah y.natAbs≤50000:=hy;have hsl':ah (x.natAbs+y.natAbs)≤50001:=hsl;have hd1:ah (x.natAbs-y.natAbs)≤1000000:=z2J _ _ hx;have hd2:ah (y.natAbs-x.natAbs)≤1000000:=z2J _ _ hy;refine z2C ?_
 cases hs:(ak x==ak y) with
 | true=>exact ym x y (x+y) (x.natAbs+y.natAbs) hs p1 c1 p2 c2 w (fun p1 c1 p2 c2 W h1 h2=>z4V _ _ _ _ (by omega) (by omega) W h1 h2) (fun s d W h=>nR _ _ _ _ (zF hs) (by omega) W h) r1 r2
 | false =>
   rcases Nat.lt_or_ge x.natAbs y.natAbs with h|h
   · exact z2g x y (x+y) (y.natAbs-x.natAbs) (-1) (by decide) hs p1 c1 p2 c2 w (fun p1 c1 p2 c2 W h1 h2=>by have k:=cCmp (.slice p1 (ag x) c1) (.slice p2 (ag y) c2) x.natAbs y.natAbs (by omega) W h1 h2;rwa [fV h]at k) (fun p1 c1 p2 c2 W h1 h2=>z2L _ _ _ _ (by omega) (by omega) W h1 h2) (fun s d W h'=>nR _ _ _ _ ((oF hs).2 h) hd2 W h') r1 r2
   · exact z2h x y (x+y) (x.natAbs-y.natAbs) (cmpN x.natAbs y.natAbs) (by unfold cmpN;split<;>(try split)<;>omega) hs p1 c1 p2 c2 w (fun p1 c1 p2 c2 W h1 h2=>cCmp _ _ _ _ (by omega) W h1 h2) (fun p1 c1 p2 c2 W h1 h2=>z2L _ _ _ _ h (by omega) W h1 h2) (fun s d W h'=>nR _ _ _ _ ((oF hs).1 h) hd1 W h') r1 r2
theorem xC (x y:Int):x*y=(if (decide (x<0) != decide (y<0)) then -((x.natAbs*y.natAbs:Nat):Int) else ((x.natAbs*y.natAbs:Nat):Int)):=by
 rw[Int.natCast_mul];by_cases hx:x<0
 · by_cases hy:y<0
   · have e1:(x.natAbs:Int) = -x:=by omega
     have e2:(y.natAbs:Int) = -y:=by omega
     rw[e1,e2];simp[hx,hy,Int.neg_mul,Int.mul_neg]
   · have e1:(x.natAbs:Int) = -x:=by omega
     have e2:(y.natAbs:Int)=y:=by omega
     rw[e1,e2];simp[hx,hy,Int.neg_mul]
 · by_cases hy:y<0
   · have e1:(x.natAbs:Int)=x:=by omega
     have e2:(y.natAbs:Int) = -y:=by omega
     rw[e1,e2];simp[hx,hy,Int.mul_neg]
   · have e1:(x.natAbs:Int)=x:=by omega
     have e2:(y.natAbs:Int)=y:=by omega
     rw[e1,e2];simp[hx,hy]
theorem z3E (u1 u2:Value)(x y:Int)(hx:(ae x.natAbs).length≤50000)(hy:(ae y.natAbs).length≤50000)(w:World)(h1:Rz w u1 x)(h2:Rz w u2 y) :
 Calls Tryz.prog 74 #[u1,u2] w fun e w'=>∃ u,e=.returned u∧Rz w' u (x*y)∧Below w.heap.size w w':=by
 obtain⟨p1,c1,rfl,r1⟩:=h1.sh;obtain⟨p2,c2,rfl,r2⟩:=h2.sh;have hml:=iy x.natAbs y.natAbs;have hml':ah (x.natAbs*y.natAbs)≤ah x.natAbs+ah y.natAbs:=hml;have hx':ah x.natAbs≤50000:=hx;have hy':ah y.natAbs≤50000:=hy;exact z2C (yj x y (x*y) (x.natAbs*y.natAbs) p1 c1 p2 c2 w (fun p1 c1 p2 c2 W h1 h2=>nQ _ _ _ _ (by omega) (by omega) W h1 h2) (fun s d W h=>nR _ _ _ _ (xC x y) (by omega) W h) r1 r2)
theorem wh {w:World}{v:Value}{xs:List Nat}{g:Nat}{b:Bool}{q:Option Addr}{l c:Nat}{T:TypeId}{fz:Nat × Nat}(hg:w.heap[g]? = some (.cells #[.bool b,.slice q l c] T fz))(h:Rd .u32 w v xs)(i:Nat)(u:Value):Rd .u32 (w.setCell ⟨g,i,none⟩ u) v xs:=by
 rcases h with h|⟨b',o,c',h1,h2,h3,h4,h5⟩
 · exact Or.inl h
 · refine Or.inr ⟨b',o,c',h1,h2,h3,by simpa [World.setCell] using h4,fun j hj=>?_⟩
   have h6:=h5 j hj
   have hne:b'≠g:=by
    intro e;subst e;simp only[World.cell?,hg]at h6
    match hk:o+j with
    | 0=>rw[hk]at h6;simp at h6
    | 1=>rw[hk]at h6;simp at h6
    | n+2=>rw[hk]at h6;simp at h6
   exact(yG hne).trans h6
end Go.Proofs.YtiiedknabcebdaaGreatDoor
open Go.Lib (hid)
namespace Go.Proofs.YtiiedknabcebdaaGreatDoor
open Go.RowKit Go.Gb
theorem sj {W W':World}{g:Nat}{o:Obj}(h:W.heap[g]? = some o)(hb:Below W.heap.size W W'):W'.heap[g]? = some o:=by
 rw[hb.block g (Array.getElem?_eq_some_iff.1 h).1];exact h
theorem heap_set {W:World}{g i:Nat}{b b':Bool}{q:Option Addr}{l c:Nat}{T:TypeId}{fz:Nat × Nat}(h:W.heap[g]? = some (.cells #[.bool b,.slice q l c] T fz))(hi:i=0):(W.setCell ⟨g,i,none⟩ (.bool b')).heap[g]? = some (.cells #[.bool b',.slice q l c] T fz):=by
 subst hi;simp only[World.setCell,Array.getElem?_modify,h];simp
theorem yn (ba bb ob r:Bool)(p1:Option Addr)(l1 c1:Nat)(p2:Option Addr)(l2 c2:Nat)(m n L:Nat)(w:World)
 (hO:∀ W,Below w.heap.size w W→Calls Tryz.prog 115 #[.agg #[.bool bb,.slice p2 l2 c2]] W fun e w'=>∃ p c,e=.returned (.agg #[.bool ob,.slice p l2 c])∧Rd .u32 w' (.slice p l2 c) (ae m)∧Below W.heap.size W w')
 (hQ:∀ W p c,Below w.heap.size w W→Rd .u32 W (.slice p l2 c) (ae m)→Calls Tryz.prog 72 #[.agg #[.bool ba,.slice p1 l1 c1],.agg #[.bool ob,.slice p l2 c]] W fun e w'=>∃ p' c',e=.returned (.agg #[.bool r,.slice p' L c'])∧Rd .u32 w' (.slice p' L c') (ae n)∧Below W.heap.size W w') :
 Calls Tryz.prog 92 #[.agg #[.bool ba,.slice p1 l1 c1],.agg #[.bool bb,.slice p2 l2 c2]] w fun e w'=>∃ v,e=.returned (.agg #[.bool r,v])∧Rd .u32 w' v (ae n)∧Below w.heap.size w w':=by
 have HO:=hid hO;have HQ:=hid hQ;have HW:=hid (((((Below.refl w.heap.size w).alloc (Nat.le_refl _) (.cells #[.bool ba,.slice p1 l1 c1] 55)).alloc (by simp) (.cells #[.bool bb,.slice p2 l2 c2] 55)).alloc (by simp;omega) (.cells #[.bool false,.slice none 0 0] 55)))
 have AH:=hid (show(((w.alloc (.cells #[.bool ba,.slice p1 l1 c1] 55)).alloc (.cells #[.bool bb,.slice p2 l2 c2] 55)).alloc (.cells #[.bool false,.slice none 0 0] 55)).heap[w.heap.size+1+1]? = some (.cells #[.bool false,.slice none 0 0] 55 (0,0)) by
  rw[show w.heap.size+1+1=((w.alloc (.cells #[.bool ba,.slice p1 l1 c1] 55)).alloc (.cells #[.bool bb,.slice p2 l2 c2] 55)).heap.size by simp];exact heap_alloc_new _ _)
 have A00:=hid (show(((w.alloc (.cells #[.bool ba,.slice p1 l1 c1] 55)).alloc (.cells #[.bool bb,.slice p2 l2 c2] 55)).alloc (.cells #[.bool false,.slice none 0 0] 55)).cell? ⟨w.heap.size,0,none⟩=some (.bool ba) by rw[eX (by simp;omega),eX (by simp),oo rfl];rfl);have A01:=hid (show(((w.alloc (.cells #[.bool ba,.slice p1 l1 c1] 55)).alloc (.cells #[.bool bb,.slice p2 l2 c2] 55)).alloc (.cells #[.bool false,.slice none 0 0] 55)).cell? ⟨w.heap.size,1,none⟩=some (.slice p1 l1 c1) by rw[eX (by simp;omega),eX (by simp),oo rfl];rfl);have A10:=hid (show(((w.alloc (.cells #[.bool ba,.slice p1 l1 c1] 55)).alloc (.cells #[.bool bb,.slice p2 l2 c2] 55)).alloc (.cells #[.bool false,.slice none 0 0] 55)).cell? ⟨w.heap.size+1,0,none⟩=some (.bool bb) by rw[eX (by simp),oo (by simp)];rfl);have A11:=hid (show(((w.alloc (.cells #[.bool ba,.slice p1 l1 c1] 55)).alloc (.cells #[.bool bb,.slice p2 l2 c2] 55)).alloc (.cells #[.bool false,.slice none 0 0] 55)).cell? ⟨w.heap.size+1,1,none⟩=some (.slice p2 l2 c2) by rw[eX (by simp),oo (by simp)];rfl);have A20:=hid (show(((w.alloc (.cells #[.bool ba,.slice p1 l1 c1] 55)).alloc (.cells #[.bool bb,.slice p2 l2 c2] 55)).alloc (.cells #[.bool false,.slice none 0 0] 55)).cell? ⟨w.heap.size+1+1,0,none⟩=some (.bool false) by rw[oo (by simp)];rfl);have A21:=hid (show(((w.alloc (.cells #[.bool ba,.slice p1 l1 c1] 55)).alloc (.cells #[.bool bb,.slice p2 l2 c2] 55)).alloc (.cells #[.bool false,.slice none 0 0] 55)).cell? ⟨w.heap.size+1+1,1,none⟩=some (.slice none 0 0) by rw[oo (by simp)];rfl);have F0:=hid (show(((w.alloc (.cells #[.bool ba,.slice p1 l1 c1] 55)).alloc (.cells #[.bool bb,.slice p2 l2 c2] 55)).alloc (.cells #[.bool false,.slice none 0 0] 55)).frozen? ⟨w.heap.size+1+1,0,none⟩=false by rw[z2q (by simp)]);have F1:=hid (show(((w.alloc (.cells #[.bool ba,.slice p1 l1 c1] 55)).alloc (.cells #[.bool bb,.slice p2 l2 c2] 55)).alloc (.cells #[.bool false,.slice none 0 0] 55)).frozen? ⟨w.heap.size+1+1,1,none⟩=false by rw[z2q (by simp)]);clear hO hQ;go_enter func92,ntmps92
 go_wp2
 go_region_held3 (fun w'=>w'.cell? ⟨w.heap.size,0,none⟩=some (.bool ba)∧w'.cell? ⟨w.heap.size,1,none⟩=some (.slice p1 l1 c1)∧w'.cell? ⟨w.heap.size+1,0,none⟩=some (.bool bb)∧w'.cell? ⟨w.heap.size+1,1,none⟩=some (.slice p2 l2 c2)) (first|((try go_split_ands);refine⟨?_,?_,?_,?_⟩<;>(first|(with_reducible assumption)|((repeat (first|rw[mP]|rw[eX (by first|assumption|omega|(simp;done)|(simp;omega))]|rw[yG (by omega)]));first|(with_reducible assumption)|(simp;done))))|(go_keep;done))
  (first|(go_at_call 115;refine(HO.o _ ?bd).mono ?_;(case bd=>first|exact HW.o|exact HW.o.drew);rintro e w1 ⟨po,co,rfl,ro,hb1⟩;obtain⟨hc1,hf1⟩:=fB hb1;have hs1:=hb1.size;(try simp at hs1);have q10:w.heap.size<w1.heap.size:=(by omega);have q11:w.heap.size+1<w1.heap.size:=(by omega);have q12:w.heap.size+1+1<w1.heap.size:=(by omega);have s100:w1.cell? ⟨w.heap.size,0,none⟩=some (.bool ba):=(by rw[hc1 _ _ (by first|assumption|omega|(simp;done)|(simp;omega))];first|(with_reducible assumption)|exact A00.o);have s101:w1.cell? ⟨w.heap.size,1,none⟩=some (.slice p1 l1 c1):=(by rw[hc1 _ _ (by first|assumption|omega|(simp;done)|(simp;omega))];first|(with_reducible assumption)|exact A01.o);have s110:w1.cell? ⟨w.heap.size+1,0,none⟩=some (.bool bb):=(by rw[hc1 _ _ (by first|assumption|omega|(simp;done)|(simp;omega))];first|(with_reducible assumption)|exact A10.o);have s111:w1.cell? ⟨w.heap.size+1,1,none⟩=some (.slice p2 l2 c2):=(by rw[hc1 _ _ (by first|assumption|omega|(simp;done)|(simp;omega))];first|(with_reducible assumption)|exact A11.o);have s120:w1.cell? ⟨w.heap.size+1+1,0,none⟩=some (.bool false):=(by rw[hc1 _ _ (by first|assumption|omega|(simp;done)|(simp;omega))];first|(with_reducible assumption)|exact A20.o);have s121:w1.cell? ⟨w.heap.size+1+1,1,none⟩=some (.slice none 0 0):=(by rw[hc1 _ _ (by first|assumption|omega|(simp;done)|(simp;omega))];first|(with_reducible assumption)|exact A21.o);have f10:w1.frozen? ⟨w.heap.size+1+1,0,none⟩=false:=(by rw[hf1 _ _ (by first|assumption|omega|(simp;done)|(simp;omega))];first|(with_reducible assumption)|exact F0.o);have f11:w1.frozen? ⟨w.heap.size+1+1,1,none⟩=false:=(by rw[hf1 _ _ (by first|assumption|omega|(simp;done)|(simp;omega))];first|(with_reducible assumption)|exact F1.o);have sw:=hid (show Below w.heap.size w w1 from Below.trans HW.o (by first|exact hb1.mono (by first|omega|(simp;omega)|simp)|exact Below.trans (Below.drew (Below.refl _ _)) (hb1.mono (by first|omega|(simp;omega)|simp))));have RO:=hid ro;have hg1:=hid (show w1.heap[w.heap.size+1+1]? = some (.cells #[.bool false,.slice none 0 0] 55 (0,0)) from(by refine sj ?_ hb1;exact AH.o)))|(go_at_call 72;refine(HQ.o w1 po co sw.o RO.o).mono ?_;rintro e w2 ⟨pv,cv,rfl,rv,hb2⟩;obtain⟨hc2,hf2⟩:=fB hb2;have hs2:=hb2.size;(try simp at hs2);have q20:w.heap.size<w2.heap.size:=(by omega);have q21:w.heap.size+1<w2.heap.size:=(by omega);have q22:w.heap.size+1+1<w2.heap.size:=(by omega);have s200:w2.cell? ⟨w.heap.size,0,none⟩=some (.bool ba):=(by rw[hc2 _ _ (by first|assumption|omega|(simp;done)|(simp;omega))];first|(with_reducible assumption)|exact A00.o);have s201:w2.cell? ⟨w.heap.size,1,none⟩=some (.slice p1 l1 c1):=(by rw[hc2 _ _ (by first|assumption|omega|(simp;done)|(simp;omega))];first|(with_reducible assumption)|exact A01.o);have s210:w2.cell? ⟨w.heap.size+1,0,none⟩=some (.bool bb):=(by rw[hc2 _ _ (by first|assumption|omega|(simp;done)|(simp;omega))];first|(with_reducible assumption)|exact A10.o);have s211:w2.cell? ⟨w.heap.size+1,1,none⟩=some (.slice p2 l2 c2):=(by rw[hc2 _ _ (by first|assumption|omega|(simp;done)|(simp;omega))];first|(with_reducible assumption)|exact A11.o);have s220:w2.cell? ⟨w.heap.size+1+1,0,none⟩=some (.bool false):=(by rw[hc2 _ _ (by first|assumption|omega|(simp;done)|(simp;omega))];first|(with_reducible assumption)|exact A20.o);have s221:w2.cell? ⟨w.heap.size+1+1,1,none⟩=some (.slice none 0 0):=(by rw[hc2 _ _ (by first|assumption|omega|(simp;done)|(simp;omega))];first|(with_reducible assumption)|exact A21.o);have f20:w2.frozen? ⟨w.heap.size+1+1,0,none⟩=false:=(by rw[hf2 _ _ (by first|assumption|omega|(simp;done)|(simp;omega))];first|(with_reducible assumption)|exact F0.o);have f21:w2.frozen? ⟨w.heap.size+1+1,1,none⟩=false:=(by rw[hf2 _ _ (by first|assumption|omega|(simp;done)|(simp;omega))];first|(with_reducible assumption)|exact F1.o);have hg2:=hid (sj hg1.o hb2))|fail)
 all_goals
  go_wp2;have HB:Below w.heap.size w w2:=sw.o.trans (hb2.mono sw.o.size);refine bodyPost_ret (v:=.agg #[.bool r,.slice pv L cv]) (by simp[results,results92,go_sem,s220,s221]) rfl ⟨_,rfl,?_,?_⟩
  · exact wh (heap_set hg2.o rfl) (wh hg2.o rv 0 _) 1 _
  · exact(HB.setCell (p:=⟨w.heap.size+1+1,0,none⟩) (by show w.heap.size≤w.heap.size+1+1;omega) _).setCell (p:=⟨w.heap.size+1+1,1,none⟩) (by show w.heap.size≤w.heap.size+1+1;omega) _
theorem z3H (u1 u2:Value)(x y:Int)(hx:(ae x.natAbs).length≤50000)(hy:(ae y.natAbs).length≤50000)(w:World)(h1:Rz w u1 x)(h2:Rz w u2 y) :
 Calls Tryz.prog 92 #[u1,u2] w fun e w'=>∃ u,e=.returned u∧Rz w' u (x-y)∧Below w.heap.size w w':=by
 obtain⟨p1,c1,rfl,r1⟩:=iZ h1;obtain⟨p2,c2,rfl,r2⟩:=iZ h2;refine(yn (decide (x<0)) (decide (y<0)) (decide (-y<0)) (decide (x-y<0)) p1 _ c1 p2 _ c2 (-y).natAbs (x-y).natAbs (ae (x-y).natAbs).length w ?_ ?_).mono ?_
 · intro W hW
   have h:=yE _ y (by omega) W (Rz.below ⟨_,rfl,r2⟩ hW);exact pK rfl (by rw[Int.natAbs_neg]) h
 · intro W p c hW hr
   have h:=z3G (.agg #[.bool (decide (x<0)),.slice p1 (ae x.natAbs).length c1]) (.agg #[.bool (decide (-y<0)),.slice p (ae y.natAbs).length c]) x (-y) hx (by rw[Int.natAbs_neg];exact hy) W (Rz.below ⟨_,rfl,r1⟩ hW) ⟨_,rfl,hr⟩;rw[← Int.sub_eq_add_neg]at h;exact pK rfl rfl h
 · rintro e w' ⟨v,e1,e2,e3⟩
   exact⟨_,e1,⟨_,rfl,e2⟩,e3⟩
