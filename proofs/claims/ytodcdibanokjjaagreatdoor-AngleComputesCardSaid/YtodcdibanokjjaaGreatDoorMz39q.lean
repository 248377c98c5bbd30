/- texts -/
import Derived.Test.YtodcdibanokjjaaGreatDoorMz38q
open Go.Proofs.Tryz
set_option maxRecDepth 100000
set_option maxHeartbeats 20000000
open Go.Lib (hid)
namespace Go.Proofs.YtodcdibanokjjaaGreatDoor
open Go.RowKit Go.Gb
theorem p9 {f:FuncId}{args:Array Value}{w:World}{z:Int}{b:Bool}{L:Nat}(hb:decide (z<0)=b)(hL:(ae z.natAbs).length=L)(h:Calls Tryz.prog f args w fun e w'=>∃ u,e=.returned u∧Rz w' u z∧Below w.heap.size w w') :
 Calls Tryz.prog f args w fun e w'=>∃ p c,e=.returned (.agg #[.bool b,.slice p L c])∧Rd .u32 w' (.slice p L c) (ae z.natAbs)∧Below w.heap.size w w':=by
 refine h.mono ?_;rintro e w' ⟨u,rfl,hu,hbl⟩;obtain⟨p,c,rfl,hr⟩:=iy hu;rw[hb,hL];rw[hL]at hr;exact⟨p,c,rfl,hr,hbl⟩
theorem xV (za zb z:Int)(n:Nat)(hs:(ah za==ah zb)=true)(p1:Option Addr)(c1:Nat)(p2:Option Addr)(c2:Nat)(w:World)(h1:∀ p1 c1 p2 c2 W,RN W (.slice p1 (aa za) c1) za.natAbs→RN W (.slice p2 (aa zb) c2) zb.natAbs→CN 101 #[.slice p1 (aa za) c1,.slice p2 (aa zb) c2] W n)(h2:∀ s2 d2 W,RN W (.slice s2 (ag n) d2) n→CZ 69 #[.bool (ah za),.slice s2 (ag n) d2] W z)(r1:RN w (.slice p1 (aa za) c1) za.natAbs)(r2:RN w (.slice p2 (aa zb) c2) zb.natAbs) :
 CZ 68 #[.agg #[.bool (ah za),.slice p1 (aa za) c1],.agg #[.bool (ah zb),.slice p2 (aa zb) c2]] w z:=by
 obtain ⟨C1,C2,R1,R2⟩:=hz4 h1 h2 r1 r2;have s0:(ah za==ah zb)=true:=hs;clear hs h1 h2 r1 r2;go_enter func68,ntmps68
 go_upto_region 1 with fail
 refine ax w [(#[.bool (ah za),.slice p1 (aa za) c1],46),(#[.bool (ah zb),.slice p2 (aa zb) c2],46),(#[.bool false,.slice none 0 0],46)] rfl ?_;rintro W0 ⟨k1,k2,k3,hb⟩;have HB0:=hid (show Below w.heap.size w W0 from hb);obtain ⟨R1,R2,K1,K2,K3⟩:=hz5 (R1.out.below HB0.out) (R2.out.below HB0.out) k1 k2 k3;clear k1 k2 k3 hb;have dK10:=K1.out.cell (i:=0) rfl;have dK20:=K2.out.cell (i:=0) rfl;go_wp2_with fail
 clear dK10 dK20;refine aA (fun a0 a' V=>∃ u02 u03 u00 u01,a'=⟨putL [(10,.pointer (some ⟨w.heap.size,0,none⟩)),(11,.bool (ah za)),(12,.pointer (some ⟨w.heap.size,1,none⟩)),(13,.slice p1 (aa za) c1),(14,.pointer (some ⟨w.heap.size+1,1,none⟩)),(15,.slice p2 (aa zb) c2),(16,.slice u02 (ag n) u03),(17,.agg #[.bool (ah z),.slice u00 (aa z) u01])] a0.tmps,a0.defers⟩∧Below w.heap.size w V∧SBk V (w.heap.size+1+1) #[.bool (ah z),.slice u00 (aa z) u01] 46∧RN V (.slice u00 (aa z) u01) z.natAbs) ?_ ?_
 · refine az (by kernel_rfl) 8 1 (fun i=>[10,11,12,13,14,15,16,17].getD i 0) (RelR [Rel.val (.pointer (some ⟨w.heap.size,0,none⟩)),Rel.val (.bool (ah za)),Rel.val (.pointer (some ⟨w.heap.size,1,none⟩)),Rel.val (.slice p1 (aa za) c1),Rel.val (.pointer (some ⟨w.heap.size+1,1,none⟩)),Rel.val (.slice p2 (aa zb) c2),Rel.nat n,Rel.int z]) (fun W=>Below W0.heap.size W0 W) (fun _ _=>True) (by kernel_rfl) (by kernel_rfl) (by kernel_rfl) trivial (Below.refl _ _).drew ?_ ?_
   · intro listed a W i hI hD hrd him
     obtain ⟨HI,HD,Hr⟩:=hz3 hI hD hrd;clear hI hrd hD;have y2:a.tmps[2]? = some (.pointer (some ⟨w.heap.size,0,none⟩)):=HI.out.rest 2 (by decide);have y3:a.tmps[3]? = some (.pointer (some ⟨w.heap.size+1,0,none⟩)):=HI.out.rest 3 (by decide);obtain ⟨dK10,dK11⟩:=cz2 (K1.out.below HI.out.world) rfl rfl;have dK21:=(K2.out.below HI.out.world).cell (i:=1) rfl;have X0:RV _ listed a 0 10 (.pointer (some ⟨w.heap.size,0,none⟩)):=HI.out.rh;have X2:RV _ listed a 2 12 (.pointer (some ⟨w.heap.size,1,none⟩)):=HI.out.rh;have X4:RV _ listed a 4 14 (.pointer (some ⟨w.heap.size+1,1,none⟩)):=HI.out.rh;have X3:RV _ listed a 3 13 (.slice p1 (aa za) c1):=HI.out.rh;have X5:RV _ listed a 5 15 (.slice p2 (aa zb) c2):=HI.out.rh;have X1:RV _ listed a 1 11 (.bool (ah za)):=HI.out.rh
     match i,him,Hr with
     | 0,_,Hi =>
       refine ak rfl fun K' hK=>?_;go_simp;exact hK.out _ _ ⟨HI.out.pv Hi.out rfl,trivial⟩
     | 1,_,Hi =>
       have x0:=X0.g Hi.out (by kernel_rfl);refine ak rfl fun K' hK=>?_;go_simp;exact hK.out _ _ ⟨HI.out.pv Hi.out rfl,trivial⟩
     | 2,_,Hi =>
       refine ak rfl fun K' hK=>?_;go_simp;exact hK.out _ _ ⟨HI.out.pv Hi.out rfl,trivial⟩
     | 3,_,Hi =>
       have x2:=X2.g Hi.out (by kernel_rfl);refine ak rfl fun K' hK=>?_;go_simp;exact hK.out _ _ ⟨HI.out.pv Hi.out rfl,trivial⟩
     | 4,_,Hi =>
       refine ak rfl fun K' hK=>?_;go_simp;exact hK.out _ _ ⟨HI.out.pv Hi.out rfl,trivial⟩
     | 5,_,Hi =>
       have x4:=X4.g Hi.out (by kernel_rfl);refine ak rfl fun K' hK=>?_;go_simp;exact hK.out _ _ ⟨HI.out.pv Hi.out rfl,trivial⟩
     | 6,_,Hi =>
       have x3:=X3.g Hi.out (by kernel_rfl);have x5:=X5.g Hi.out (by kernel_rfl);refine ak rfl fun K' hK=>?_;go_simp;with_reducible refine(C1.out _ _ _ _ _ (R1.out.below HI.out.world) (R2.out.below HI.out.world)).mono ?_
       rintro e W' ⟨u02,u03,rfl,u04,hb⟩;exact hK.out _ _ ⟨HI.out.pc Hi.out hb ⟨u02,u03,rfl,u04⟩,trivial⟩
     | 7,_,Hi =>
       have x1:=X1.g Hi.out (by kernel_rfl);obtain⟨v',x6,u02,u03,e,u04⟩:=HI.out.at (i:=6) Hi.out (by kernel_rfl) (by decide);obtain rfl:=e;have x6:a.tmps[16]? = some (.slice u02 (ag n) u03):=x6;have u08:=hid u04;clear u04;refine ak rfl fun K' hK=>?_;go_simp;with_reducible refine(C2.out _ _ _ u08.out).mono ?_
       rintro e W' ⟨u00,u01,rfl,u05,hb⟩;exact hK.out _ _ ⟨HI.out.pc Hi.out hb ⟨u00,u01,rfl,u05⟩,trivial⟩
     | n+8,h,_=>exact absurd h (by omega)
   · intro listed a W hI hD hall
     obtain⟨v',x6,u02,u03,e,u04⟩:=hI.slots 6 (by decide) (hall 6 (by decide));obtain rfl:=e;have u08:=hid u04;clear u04;obtain⟨v',x7,u00,u01,e,u05⟩:=hI.slots 7 (by decide) (hall 7 (by decide));obtain rfl:=e;have u0c:=hid u05;clear u05;have x7:a.tmps[17]? = some (.agg #[.bool (ah z),.slice u00 (aa z) u01]):=x7;obtain ⟨HBW,HI,HA⟩:=hz3 hI.world hI hall;clear hI hall;obtain ⟨K3,HBX⟩:=hz2 (K3.out.below HBW.out) (HB0.out.trans (HBW.out.mono HB0.out.size));have RA:=u08;have RZ:=u0c;have y4:a.tmps[4]? = some (.pointer (some ⟨w.heap.size+1+1,0,none⟩)):=HI.out.rest 4 (by decide);obtain ⟨dK30,dK31⟩:=cz2 K3.out rfl rfl;obtain ⟨fK30,fK31⟩:=fz2 K3.out;refine aL (t:=0) ?_;refine ak rfl fun K' hK=>?_;go_simp;refine hK.out _ _ ?_;clear hK;refine aT ?_;have s0:∀ {v':Value} {n':Nat},RN W v' n'→RN (storeAll W (w.heap.size+1+1) 0 [.bool (ah z),.slice u00 (aa z) u01]) v' n':=fun h'=>aV _ h' K3.out (by simp[bF]) (by simp[aW]);exact⟨rfl,u02,u03,u00,u01,(HI.out.finx ⟨HI.out.sx HA.out 0,HI.out.sx HA.out 1,HI.out.sx HA.out 2,HI.out.sx HA.out 3,HI.out.sx HA.out 4,HI.out.sx HA.out 5,x6,x7,trivial⟩ rfl),(au (l:=[.bool (ah z),.slice u00 (aa z) u01]) (i:=0) (by omega) HBX.out),(bJ (l:=[.bool (ah z),.slice u00 (aa z) u01]) (i:=0) K3.out),(s0 RZ.out)⟩
 rintro a' W1 ⟨u02,u03,u00,u01,rfl,z0,z1,z2⟩;obtain ⟨HB1,K3,RZ⟩:=hz3 z0 z1 z2;clear z0 z1 z2;simp only[putL,List.setIfInBounds_toArray,List.set_cons_zero,List.set_cons_succ];go_wp2;obtain ⟨dK30,dK31⟩:=cz2 K3.out rfl rfl;exact bodyPost_ret (v:=.agg #[.bool (ah z),.slice u00 (aa z) u01]) (by simp[results,results68,go_sem,dK30,dK31]) rfl ⟨_,_,rfl,RZ.out,HB1.out⟩
theorem z2F (za zb z:Int)(n:Nat)(k:Int)(hk:0≤k)(hs:(ah za==ah zb)=false)(p1:Option Addr)(c1:Nat)(p2:Option Addr)(c2:Nat)(w:World)(h3:∀ p1 c1 p2 c2 W,RN W (.slice p1 (aa za) c1) za.natAbs→RN W (.slice p2 (aa zb) c2) zb.natAbs→CR 67 #[.slice p1 (aa za) c1,.slice p2 (aa zb) c2] W (.int .i64 k))(h4:∀ p1 c1 p2 c2 W,RN W (.slice p1 (aa za) c1) za.natAbs→RN W (.slice p2 (aa zb) c2) zb.natAbs→CN 102 #[.slice p1 (aa za) c1,.slice p2 (aa zb) c2] W n)(h2:∀ s2 d2 W,RN W (.slice s2 (ag n) d2) n→CZ 69 #[.bool (ah za),.slice s2 (ag n) d2] W z)(r1:RN w (.slice p1 (aa za) c1) za.natAbs)(r2:RN w (.slice p2 (aa zb) c2) zb.natAbs) :
 CZ 68 #[.agg #[.bool (ah za),.slice p1 (aa za) c1],.agg #[.bool (ah zb),.slice p2 (aa zb) c2]] w z:=by
 obtain ⟨C3,C4,C2,R1,R2⟩:=hz5 h3 h4 h2 r1 r2;have s0:(ah za==ah zb)=false:=hs;clear hs;have k0:decide (0≤k)=true:=decide_eq_true hk;have k1:0≤k:=hk;clear hk h3 h4 h2 r1 r2;go_enter func68,ntmps68
 go_upto_region 1 with fail
 refine ax w [(#[.bool (ah za),.slice p1 (aa za) c1],46),(#[.bool (ah zb),.slice p2 (aa zb) c2],46),(#[.bool false,.slice none 0 0],46)] rfl ?_;rintro W0 ⟨k1,k2,k3,hb⟩;have HB0:=hid (show Below w.heap.size w W0 from hb);obtain ⟨R1,R2,K1,K2,K3⟩:=hz5 (R1.out.below HB0.out) (R2.out.below HB0.out) k1 k2 k3;clear k1 k2 k3 hb;have dK10:=K1.out.cell (i:=0) rfl;have dK20:=K2.out.cell (i:=0) rfl;have dK11:=K1.out.cell (i:=1) rfl;have dK21:=K2.out.cell (i:=1) rfl;go_wp2_with fail
 with_reducible refine(C3.out _ _ _ _ _ R1.out R2.out).mono ?_
 rintro e W1 ⟨rfl,hb⟩;clear dK10 dK20 dK11 dK21;obtain ⟨K1,K2,K3,R1,R2⟩:=hz5 (K1.out.below hb) (K2.out.below hb) (K3.out.below hb) (R1.out.below hb) (R2.out.below hb);have HB1:=hbt HB0 hb;clear hb;go_wp2_with fail
 refine aA (fun a0 a' V=>∃ u02 u03 u00 u01,a'=⟨putL [(24,.pointer (some ⟨w.heap.size,0,none⟩)),(25,.bool (ah za)),(26,.pointer (some ⟨w.heap.size,1,none⟩)),(27,.slice p1 (aa za) c1),(28,.pointer (some ⟨w.heap.size+1,1,none⟩)),(29,.slice p2 (aa zb) c2),(30,.slice u02 (ag n) u03),(31,.agg #[.bool (ah z),.slice u00 (aa z) u01])] a0.tmps,a0.defers⟩∧Below w.heap.size w V∧SBk V (w.heap.size+1+1) #[.bool (ah z),.slice u00 (aa z) u01] 46∧RN V (.slice u00 (aa z) u01) z.natAbs) ?_ ?_
 · refine az (by kernel_rfl) 8 1 (fun i=>[24,25,26,27,28,29,30,31].getD i 0) (RelR [Rel.val (.pointer (some ⟨w.heap.size,0,none⟩)),Rel.val (.bool (ah za)),Rel.val (.pointer (some ⟨w.heap.size,1,none⟩)),Rel.val (.slice p1 (aa za) c1),Rel.val (.pointer (some ⟨w.heap.size+1,1,none⟩)),Rel.val (.slice p2 (aa zb) c2),Rel.nat n,Rel.int z]) (fun W=>Below W1.heap.size W1 W) (fun _ _=>True) (by kernel_rfl) (by kernel_rfl) (by kernel_rfl) trivial (Below.refl _ _).drew ?_ ?_
   · intro listed a W i hI hD hrd him
     obtain ⟨HI,HD,Hr⟩:=hz3 hI hD hrd;clear hI hrd hD;have y2:a.tmps[2]? = some (.pointer (some ⟨w.heap.size,0,none⟩)):=HI.out.rest 2 (by decide);have y3:a.tmps[3]? = some (.pointer (some ⟨w.heap.size+1,0,none⟩)):=HI.out.rest 3 (by decide);obtain ⟨dK10,dK11⟩:=cz2 (K1.out.below HI.out.world) rfl rfl;have dK21:=(K2.out.below HI.out.world).cell (i:=1) rfl;have X0:RV _ listed a 0 24 (.pointer (some ⟨w.heap.size,0,none⟩)):=HI.out.rh;have X2:RV _ listed a 2 26 (.pointer (some ⟨w.heap.size,1,none⟩)):=HI.out.rh;have X4:RV _ listed a 4 28 (.pointer (some ⟨w.heap.size+1,1,none⟩)):=HI.out.rh;have X3:RV _ listed a 3 27 (.slice p1 (aa za) c1):=HI.out.rh;have X5:RV _ listed a 5 29 (.slice p2 (aa zb) c2):=HI.out.rh;have X1:RV _ listed a 1 25 (.bool (ah za)):=HI.out.rh
     match i,him,Hr with
     | 0,_,Hi =>
       refine ak rfl fun K' hK=>?_;go_simp;exact hK.out _ _ ⟨HI.out.pv Hi.out rfl,trivial⟩
     | 1,_,Hi =>
       have x0:=X0.g Hi.out (by kernel_rfl);refine ak rfl fun K' hK=>?_;go_simp;exact hK.out _ _ ⟨HI.out.pv Hi.out rfl,trivial⟩
     | 2,_,Hi =>
       refine ak rfl fun K' hK=>?_;go_simp;exact hK.out _ _ ⟨HI.out.pv Hi.out rfl,trivial⟩
     | 3,_,Hi =>
       have x2:=X2.g Hi.out (by kernel_rfl);refine ak rfl fun K' hK=>?_;go_simp;exact hK.out _ _ ⟨HI.out.pv Hi.out rfl,trivial⟩
     | 4,_,Hi =>
       refine ak rfl fun K' hK=>?_;go_simp;exact hK.out _ _ ⟨HI.out.pv Hi.out rfl,trivial⟩
     | 5,_,Hi =>
       have x4:=X4.g Hi.out (by kernel_rfl);refine ak rfl fun K' hK=>?_;go_simp;exact hK.out _ _ ⟨HI.out.pv Hi.out rfl,trivial⟩
     | 6,_,Hi =>
       have x3:=X3.g Hi.out (by kernel_rfl);have x5:=X5.g Hi.out (by kernel_rfl);refine ak rfl fun K' hK=>?_;go_simp;with_reducible refine(C4.out _ _ _ _ _ (R1.out.below HI.out.world) (R2.out.below HI.out.world)).mono ?_
       rintro e W' ⟨u02,u03,rfl,u04,hb⟩;exact hK.out _ _ ⟨HI.out.pc Hi.out hb ⟨u02,u03,rfl,u04⟩,trivial⟩
     | 7,_,Hi =>
       have x1:=X1.g Hi.out (by kernel_rfl);obtain⟨v',x6,u02,u03,e,u04⟩:=HI.out.at (i:=6) Hi.out (by kernel_rfl) (by decide);obtain rfl:=e;have x6:a.tmps[30]? = some (.slice u02 (ag n) u03):=x6;have u08:=hid u04;clear u04;refine ak rfl fun K' hK=>?_;go_simp;with_reducible refine(C2.out _ _ _ u08.out).mono ?_
       rintro e W' ⟨u00,u01,rfl,u05,hb⟩;exact hK.out _ _ ⟨HI.out.pc Hi.out hb ⟨u00,u01,rfl,u05⟩,trivial⟩
     | n+8,h,_=>exact absurd h (by omega)
   · intro listed a W hI hD hall
     obtain⟨v',x6,u02,u03,e,u04⟩:=hI.slots 6 (by decide) (hall 6 (by decide));obtain rfl:=e;have u08:=hid u04;clear u04;obtain⟨v',x7,u00,u01,e,u05⟩:=hI.slots 7 (by decide) (hall 7 (by decide));obtain rfl:=e;have u0c:=hid u05;clear u05;have x7:a.tmps[31]? = some (.agg #[.bool (ah z),.slice u00 (aa z) u01]):=x7;obtain ⟨HBW,HI,HA⟩:=hz3 hI.world hI hall;clear hI hall;obtain ⟨K3,HBX⟩:=hz2 (K3.out.below HBW.out) (HB1.out.trans (HBW.out.mono HB1.out.size));have RA:=u08;have RZ:=u0c;have y4:a.tmps[4]? = some (.pointer (some ⟨w.heap.size+1+1,0,none⟩)):=HI.out.rest 4 (by decide);obtain ⟨dK30,dK31⟩:=cz2 K3.out rfl rfl;obtain ⟨fK30,fK31⟩:=fz2 K3.out;refine aL (t:=0) ?_;refine ak rfl fun K' hK=>?_;go_simp;refine hK.out _ _ ?_;clear hK;refine aT ?_;have s0:∀ {v':Value} {n':Nat},RN W v' n'→RN (storeAll W (w.heap.size+1+1) 0 [.bool (ah z),.slice u00 (aa z) u01]) v' n':=fun h'=>aV _ h' K3.out (by simp[bF]) (by simp[aW]);exact⟨rfl,u02,u03,u00,u01,(HI.out.finx ⟨HI.out.sx HA.out 0,HI.out.sx HA.out 1,HI.out.sx HA.out 2,HI.out.sx HA.out 3,HI.out.sx HA.out 4,HI.out.sx HA.out 5,x6,x7,trivial⟩ rfl),(au (l:=[.bool (ah z),.slice u00 (aa z) u01]) (i:=0) (by omega) HBX.out),(bJ (l:=[.bool (ah z),.slice u00 (aa z) u01]) (i:=0) K3.out),(s0 RZ.out)⟩
 rintro a' W2 ⟨u02,u03,u00,u01,rfl,z0,z1,z2⟩;obtain ⟨HB2,K3,RZ⟩:=hz3 z0 z1 z2;clear z0 z1 z2;simp only[putL,List.setIfInBounds_toArray,List.set_cons_zero,List.set_cons_succ];go_wp2;obtain ⟨dK30,dK31⟩:=cz2 K3.out rfl rfl;exact bodyPost_ret (v:=.agg #[.bool (ah z),.slice u00 (aa z) u01]) (by simp[results,results68,go_sem,dK30,dK31]) rfl ⟨_,_,rfl,RZ.out,HB2.out⟩
theorem z2E (za zb z:Int)(n:Nat)(k:Int)(hk:k<0)(hs:(ah za==ah zb)=false)(p1:Option Addr)(c1:Nat)(p2:Option Addr)(c2:Nat)(w:World)(h3:∀ p1 c1 p2 c2 W,RN W (.slice p1 (aa za) c1) za.natAbs→RN W (.slice p2 (aa zb) c2) zb.natAbs→CR 67 #[.slice p1 (aa za) c1,.slice p2 (aa zb) c2] W (.int .i64 k))(h4:∀ p1 c1 p2 c2 W,RN W (.slice p1 (aa zb) c1) zb.natAbs→RN W (.slice p2 (aa za) c2) za.natAbs→CN 102 #[.slice p1 (aa zb) c1,.slice p2 (aa za) c2] W n)(h2:∀ s2 d2 W,RN W (.slice s2 (ag n) d2) n→CZ 69 #[.bool (ah zb),.slice s2 (ag n) d2] W z)(r1:RN w (.slice p1 (aa za) c1) za.natAbs)(r2:RN w (.slice p2 (aa zb) c2) zb.natAbs) :
 CZ 68 #[.agg #[.bool (ah za),.slice p1 (aa za) c1],.agg #[.bool (ah zb),.slice p2 (aa zb) c2]] w z:=by
 obtain ⟨C3,C4,C2,R1,R2⟩:=hz5 h3 h4 h2 r1 r2;have s0:(ah za==ah zb)=false:=hs;clear hs;have k0:decide (0≤k)=false:=decide_eq_false (by omega);have k1:¬ 0≤k:=by omega
 clear hk h3 h4 h2 r1 r2;go_enter func68,ntmps68
 go_upto_region 1 with fail
 refine ax w [(#[.bool (ah za),.slice p1 (aa za) c1],46),(#[.bool (ah zb),.slice p2 (aa zb) c2],46),(#[.bool false,.slice none 0 0],46)] rfl ?_;rintro W0 ⟨k1,k2,k3,hb⟩;have HB0:=hid (show Below w.heap.size w W0 from hb);obtain ⟨R1,R2,K1,K2,K3⟩:=hz5 (R1.out.below HB0.out) (R2.out.below HB0.out) k1 k2 k3;clear k1 k2 k3 hb;have dK10:=K1.out.cell (i:=0) rfl;have dK20:=K2.out.cell (i:=0) rfl;have dK11:=K1.out.cell (i:=1) rfl;have dK21:=K2.out.cell (i:=1) rfl;go_wp2_with fail
 with_reducible refine(C3.out _ _ _ _ _ R1.out R2.out).mono ?_
 rintro e W1 ⟨rfl,hb⟩;clear dK10 dK20 dK11 dK21;obtain ⟨K1,K2,K3,R1,R2⟩:=hz5 (K1.out.below hb) (K2.out.below hb) (K3.out.below hb) (R1.out.below hb) (R2.out.below hb);have HB1:=hbt HB0 hb;clear hb;go_wp2_with fail
 refine aA (fun a0 a' V=>∃ u02 u03 u00 u01,a'=⟨putL [(32,.pointer (some ⟨w.heap.size+1,0,none⟩)),(33,.bool (ah zb)),(34,.pointer (some ⟨w.heap.size+1,1,none⟩)),(35,.slice p2 (aa zb) c2),(36,.pointer (some ⟨w.heap.size,1,none⟩)),(37,.slice p1 (aa za) c1),(38,.slice u02 (ag n) u03),(39,.agg #[.bool (ah z),.slice u00 (aa z) u01])] a0.tmps,a0.defers⟩∧Below w.heap.size w V∧SBk V (w.heap.size+1+1) #[.bool (ah z),.slice u00 (aa z) u01] 46∧RN V (.slice u00 (aa z) u01) z.natAbs) ?_ ?_
 · refine az (by kernel_rfl) 8 1 (fun i=>[32,33,34,35,36,37,38,39].getD i 0) (RelR [Rel.val (.pointer (some ⟨w.heap.size+1,0,none⟩)),Rel.val (.bool (ah zb)),Rel.val (.pointer (some ⟨w.heap.size+1,1,none⟩)),Rel.val (.slice p2 (aa zb) c2),Rel.val (.pointer (some ⟨w.heap.size,1,none⟩)),Rel.val (.slice p1 (aa za) c1),Rel.nat n,Rel.int z]) (fun W=>Below W1.heap.size W1 W) (fun _ _=>True) (by kernel_rfl) (by kernel_rfl) (by kernel_rfl) trivial (Below.refl _ _).drew ?_ ?_
   · intro listed a W i hI hD hrd him
     obtain ⟨HI,HD,Hr⟩:=hz3 hI hD hrd;clear hI hrd hD;have y3:a.tmps[3]? = some (.pointer (some ⟨w.heap.size+1,0,none⟩)):=HI.out.rest 3 (by decide);have y2:a.tmps[2]? = some (.pointer (some ⟨w.heap.size,0,none⟩)):=HI.out.rest 2 (by decide);obtain ⟨dK20,dK21⟩:=cz2 (K2.out.below HI.out.world) rfl rfl;have dK11:=(K1.out.below HI.out.world).cell (i:=1) rfl;have X0:RV _ listed a 0 32 (.pointer (some ⟨w.heap.size+1,0,none⟩)):=HI.out.rh;have X2:RV _ listed a 2 34 (.pointer (some ⟨w.heap.size+1,1,none⟩)):=HI.out.rh;have X4:RV _ listed a 4 36 (.pointer (some ⟨w.heap.size,1,none⟩)):=HI.out.rh;have X3:RV _ listed a 3 35 (.slice p2 (aa zb) c2):=HI.out.rh;have X5:RV _ listed a 5 37 (.slice p1 (aa za) c1):=HI.out.rh;have X1:RV _ listed a 1 33 (.bool (ah zb)):=HI.out.rh
     match i,him,Hr with
     | 0,_,Hi =>
       refine ak rfl fun K' hK=>?_;go_simp;exact hK.out _ _ ⟨HI.out.pv Hi.out rfl,trivial⟩
     | 1,_,Hi =>
       have x0:=X0.g Hi.out (by kernel_rfl);refine ak rfl fun K' hK=>?_;go_simp;exact hK.out _ _ ⟨HI.out.pv Hi.out rfl,trivial⟩
     | 2,_,Hi =>
       refine ak rfl fun K' hK=>?_;go_simp;exact hK.out _ _ ⟨HI.out.pv Hi.out rfl,trivial⟩
     | 3,_,Hi =>
       have x2:=X2.g Hi.out (by kernel_rfl);refine ak rfl fun K' hK=>?_;go_simp;exact hK.out _ _ ⟨HI.out.pv Hi.out rfl,trivial⟩
     | 4,_,Hi =>
       refine ak rfl fun K' hK=>?_;go_simp;exact hK.out _ _ ⟨HI.out.pv Hi.out rfl,trivial⟩
     | 5,_,Hi =>
       have x4:=X4.g Hi.out (by kernel_rfl);refine ak rfl fun K' hK=>?_;go_simp;exact hK.out _ _ ⟨HI.out.pv Hi.out rfl,trivial⟩
     | 6,_,Hi =>
       have x3:=X3.g Hi.out (by kernel_rfl);have x5:=X5.g Hi.out (by kernel_rfl);refine ak rfl fun K' hK=>?_;go_simp;with_reducible refine(C4.out _ _ _ _ _ (R2.out.below HI.out.world) (R1.out.below HI.out.world)).mono ?_
       rintro e W' ⟨u02,u03,rfl,u04,hb⟩;exact hK.out _ _ ⟨HI.out.pc Hi.out hb ⟨u02,u03,rfl,u04⟩,trivial⟩
     | 7,_,Hi =>
       have x1:=X1.g Hi.out (by kernel_rfl);obtain⟨v',x6,u02,u03,e,u04⟩:=HI.out.at (i:=6) Hi.out (by kernel_rfl) (by decide);obtain rfl:=e;have x6:a.tmps[38]? = some (.slice u02 (ag n) u03):=x6;have u08:=hid u04;clear u04;refine ak rfl fun K' hK=>?_;go_simp;with_reducible refine(C2.out _ _ _ u08.out).mono ?_
       rintro e W' ⟨u00,u01,rfl,u05,hb⟩;exact hK.out _ _ ⟨HI.out.pc Hi.out hb ⟨u00,u01,rfl,u05⟩,trivial⟩
     | n+8,h,_=>exact absurd h (by omega)
   · intro listed a W hI hD hall
     obtain⟨v',x6,u02,u03,e,u04⟩:=hI.slots 6 (by decide) (hall 6 (by decide));obtain rfl:=e;have u08:=hid u04;clear u04;obtain⟨v',x7,u00,u01,e,u05⟩:=hI.slots 7 (by decide) (hall 7 (by decide));obtain rfl:=e;have u0c:=hid u05;clear u05;have x7:a.tmps[39]? = some (.agg #[.bool (ah z),.slice u00 (aa z) u01]):=x7;obtain ⟨HBW,HI,HA⟩:=hz3 hI.world hI hall;clear hI hall;obtain ⟨K3,HBX⟩:=hz2 (K3.out.below HBW.out) (HB1.out.trans (HBW.out.mono HB1.out.size));have RA:=u08;have RZ:=u0c;have y4:a.tmps[4]? = some (.pointer (some ⟨w.heap.size+1+1,0,none⟩)):=HI.out.rest 4 (by decide);obtain ⟨dK30,dK31⟩:=cz2 K3.out rfl rfl;obtain ⟨fK30,fK31⟩:=fz2 K3.out;refine aL (t:=0) ?_;refine ak rfl fun K' hK=>?_;go_simp;refine hK.out _ _ ?_;clear hK;refine aT ?_;have s0:∀ {v':Value} {n':Nat},RN W v' n'→RN (storeAll W (w.heap.size+1+1) 0 [.bool (ah z),.slice u00 (aa z) u01]) v' n':=fun h'=>aV _ h' K3.out (by simp[bF]) (by simp[aW]);exact⟨rfl,u02,u03,u00,u01,(HI.out.finx ⟨HI.out.sx HA.out 0,HI.out.sx HA.out 1,HI.out.sx HA.out 2,HI.out.sx HA.out 3,HI.out.sx HA.out 4,HI.out.sx HA.out 5,x6,x7,trivial⟩ rfl),(au (l:=[.bool (ah z),.slice u00 (aa z) u01]) (i:=0) (by omega) HBX.out),(bJ (l:=[.bool (ah z),.slice u00 (aa z) u01]) (i:=0) K3.out),(s0 RZ.out)⟩
 rintro a' W2 ⟨u02,u03,u00,u01,rfl,z0,z1,z2⟩;obtain ⟨HB2,K3,RZ⟩:=hz3 z0 z1 z2;clear z0 z1 z2;simp only[putL,List.setIfInBounds_toArray,List.set_cons_zero,List.set_cons_succ];go_wp2;obtain ⟨dK30,dK31⟩:=cz2 K3.out rfl rfl;exact bodyPost_ret (v:=.agg #[.bool (ah z),.slice u00 (aa z) u01]) (by simp[results,results68,go_sem,dK30,dK31]) rfl ⟨_,_,rfl,RZ.out,HB2.out⟩
theorem xU (za zb z:Int)(n:Nat)(p1:Option Addr)(c1:Nat)(p2:Option Addr)(c2:Nat)(w:World)(h1:∀ p1 c1 p2 c2 W,RN W (.slice p1 (aa za) c1) za.natAbs→RN W (.slice p2 (aa zb) c2) zb.natAbs→CN 64 #[.slice p1 (aa za) c1,.slice p2 (aa zb) c2] W n)(h2:∀ s2 d2 W,RN W (.slice s2 (ag n) d2) n→CZ 69 #[.bool (ah za != ah zb),.slice s2 (ag n) d2] W z)(r1:RN w (.slice p1 (aa za) c1) za.natAbs)(r2:RN w (.slice p2 (aa zb) c2) zb.natAbs) :
 CZ 63 #[.agg #[.bool (ah za),.slice p1 (aa za) c1],.agg #[.bool (ah zb),.slice p2 (aa zb) c2]] w z:=by
 obtain ⟨C1,C2,R1,R2⟩:=hz4 h1 h2 r1 r2;clear h1 h2 r1 r2;go_enter func63,ntmps63
 go_upto_region 1 with fail
 refine ax w [(#[.bool (ah za),.slice p1 (aa za) c1],46),(#[.bool (ah zb),.slice p2 (aa zb) c2],46),(#[.bool false,.slice none 0 0],46)] rfl ?_;rintro W0 ⟨k1,k2,k3,hb⟩;have HB0:=hid (show Below w.heap.size w W0 from hb);obtain ⟨R1,R2,K1,K2,K3⟩:=hz5 (R1.out.below HB0.out) (R2.out.below HB0.out) k1 k2 k3;clear k1 k2 k3 hb;go_wp2_with fail
 refine aA (fun a0 a' V=>∃ u09 u0a u06 u07,a'=⟨putL [(5,.pointer (some ⟨w.heap.size,0,none⟩)),(6,.bool (ah za)),(7,.pointer (some ⟨w.heap.size+1,0,none⟩)),(8,.bool (ah zb)),(9,.bool (ah za != ah zb)),(10,.pointer (some ⟨w.heap.size,1,none⟩)),(11,.slice p1 (aa za) c1),(12,.pointer (some ⟨w.heap.size+1,1,none⟩)),(13,.slice p2 (aa zb) c2),(14,.slice u09 (ag n) u0a),(15,.agg #[.bool (ah z),.slice u06 (aa z) u07])] a0.tmps,a0.defers⟩∧Below w.heap.size w V∧SBk V (w.heap.size+1+1) #[.bool (ah z),.slice u06 (aa z) u07] 46∧RN V (.slice u06 (aa z) u07) z.natAbs) ?_ ?_
 · refine az (by kernel_rfl) 11 1 (fun i=>[5,6,7,8,9,10,11,12,13,14,15].getD i 0) (RelR [Rel.val (.pointer (some ⟨w.heap.size,0,none⟩)),Rel.val (.bool (ah za)),Rel.val (.pointer (some ⟨w.heap.size+1,0,none⟩)),Rel.val (.bool (ah zb)),Rel.val (.bool (ah za != ah zb)),Rel.val (.pointer (some ⟨w.heap.size,1,none⟩)),Rel.val (.slice p1 (aa za) c1),Rel.val (.pointer (some ⟨w.heap.size+1,1,none⟩)),Rel.val (.slice p2 (aa zb) c2),Rel.nat n,Rel.int z]) (fun W=>Below W0.heap.size W0 W) (fun _ _=>True) (by kernel_rfl) (by kernel_rfl) (by kernel_rfl) trivial (Below.refl _ _).drew ?_ ?_
   · intro listed a W i hI hD hrd him
     obtain ⟨HI,HD,Hr⟩:=hz3 hI hD hrd;clear hI hrd hD;have y2:a.tmps[2]? = some (.pointer (some ⟨w.heap.size,0,none⟩)):=HI.out.rest 2 (by decide);have y3:a.tmps[3]? = some (.pointer (some ⟨w.heap.size+1,0,none⟩)):=HI.out.rest 3 (by decide);have dK10:=(K1.out.below HI.out.world).cell (i:=0) rfl;have dK20:=(K2.out.below HI.out.world).cell (i:=0) rfl;have dK11:=(K1.out.below HI.out.world).cell (i:=1) rfl;have dK21:=(K2.out.below HI.out.world).cell (i:=1) rfl;have X0:RV _ listed a 0 5 (.pointer (some ⟨w.heap.size,0,none⟩)):=HI.out.rh;have X2:RV _ listed a 2 7 (.pointer (some ⟨w.heap.size+1,0,none⟩)):=HI.out.rh;have X1:RV _ listed a 1 6 (.bool (ah za)):=HI.out.rh;have X3:RV _ listed a 3 8 (.bool (ah zb)):=HI.out.rh;have X5:RV _ listed a 5 10 (.pointer (some ⟨w.heap.size,1,none⟩)):=HI.out.rh;have X7:RV _ listed a 7 12 (.pointer (some ⟨w.heap.size+1,1,none⟩)):=HI.out.rh;have X6:RV _ listed a 6 11 (.slice p1 (aa za) c1):=HI.out.rh;have X8:RV _ listed a 8 13 (.slice p2 (aa zb) c2):=HI.out.rh;have X4:RV _ listed a 4 9 (.bool (ah za != ah zb)):=HI.out.rh
     match i,him,Hr with
     | 0,_,Hi =>
       refine ak rfl fun K' hK=>?_;go_simp;exact hK.out _ _ ⟨HI.out.pv Hi.out rfl,trivial⟩
     | 1,_,Hi =>
       have x0:=X0.g Hi.out (by kernel_rfl);refine ak rfl fun K' hK=>?_;go_simp;exact hK.out _ _ ⟨HI.out.pv Hi.out rfl,trivial⟩
     | 2,_,Hi =>
       refine ak rfl fun K' hK=>?_;go_simp;exact hK.out _ _ ⟨HI.out.pv Hi.out rfl,trivial⟩
     | 3,_,Hi =>
       have x2:=X2.g Hi.out (by kernel_rfl);refine ak rfl fun K' hK=>?_;go_simp;exact hK.out _ _ ⟨HI.out.pv Hi.out rfl,trivial⟩
     | 4,_,Hi =>
       have x1:=X1.g Hi.out (by kernel_rfl);have x3:=X3.g Hi.out (by kernel_rfl);refine ak rfl fun K' hK=>?_;go_simp;exact hK.out _ _ ⟨HI.out.pv Hi.out rfl,trivial⟩
     | 5,_,Hi =>
       refine ak rfl fun K' hK=>?_;go_simp;exact hK.out _ _ ⟨HI.out.pv Hi.out rfl,trivial⟩
     | 6,_,Hi =>
       have x5:=X5.g Hi.out (by kernel_rfl);refine ak rfl fun K' hK=>?_;go_simp;exact hK.out _ _ ⟨HI.out.pv Hi.out rfl,trivial⟩
     | 7,_,Hi =>
       refine ak rfl fun K' hK=>?_;go_simp;exact hK.out _ _ ⟨HI.out.pv Hi.out rfl,trivial⟩
     | 8,_,Hi =>
       have x7:=X7.g Hi.out (by kernel_rfl);refine ak rfl fun K' hK=>?_;go_simp;exact hK.out _ _ ⟨HI.out.pv Hi.out rfl,trivial⟩
     | 9,_,Hi =>
       have x6:=X6.g Hi.out (by kernel_rfl);have x8:=X8.g Hi.out (by kernel_rfl);refine ak rfl fun K' hK=>?_;go_simp;with_reducible refine(C1.out _ _ _ _ _ (R1.out.below HI.out.world) (R2.out.below HI.out.world)).mono ?_
       rintro e W' ⟨u09,u0a,rfl,u0b,hb⟩;exact hK.out _ _ ⟨HI.out.pc Hi.out hb ⟨u09,u0a,rfl,u0b⟩,trivial⟩
     | 10,_,Hi =>
       have x4:=X4.g Hi.out (by kernel_rfl);obtain⟨v',x9,u09,u0a,e,u0b⟩:=HI.out.at (i:=9) Hi.out (by kernel_rfl) (by decide);obtain rfl:=e;have x9:a.tmps[14]? = some (.slice u09 (ag n) u0a):=x9;have u0e:=hid u0b;clear u0b;refine ak rfl fun K' hK=>?_;go_simp;with_reducible refine(C2.out _ _ _ u0e.out).mono ?_
       rintro e W' ⟨u06,u07,rfl,u0d,hb⟩;exact hK.out _ _ ⟨HI.out.pc Hi.out hb ⟨u06,u07,rfl,u0d⟩,trivial⟩
     | n+11,h,_=>exact absurd h (by omega)
   · intro listed a W hI hD hall
     obtain⟨v',x9,u09,u0a,e,u0b⟩:=hI.slots 9 (by decide) (hall 9 (by decide));obtain rfl:=e;have u0e:=hid u0b;clear u0b;obtain⟨v',x10,u06,u07,e,u0d⟩:=hI.slots 10 (by decide) (hall 10 (by decide));obtain rfl:=e;have u0f:=hid u0d;clear u0d;have x10:a.tmps[15]? = some (.agg #[.bool (ah z),.slice u06 (aa z) u07]):=x10;obtain ⟨HBW,HI,HA⟩:=hz3 hI.world hI hall;clear hI hall;obtain ⟨K3,HBX⟩:=hz2 (K3.out.below HBW.out) (HB0.out.trans (HBW.out.mono HB0.out.size));have RA:=u0e;have RZ:=u0f;have y4:a.tmps[4]? = some (.pointer (some ⟨w.heap.size+1+1,0,none⟩)):=HI.out.rest 4 (by decide);obtain ⟨dK30,dK31⟩:=cz2 K3.out rfl rfl;obtain ⟨fK30,fK31⟩:=fz2 K3.out;refine aL (t:=0) ?_;refine ak rfl fun K' hK=>?_;go_simp;refine hK.out _ _ ?_;clear hK;refine aT ?_;have s0:∀ {v':Value} {n':Nat},RN W v' n'→RN (storeAll W (w.heap.size+1+1) 0 [.bool (ah z),.slice u06 (aa z) u07]) v' n':=fun h'=>aV _ h' K3.out (by simp[bF]) (by simp[aW]);exact⟨rfl,u09,u0a,u06,u07,(HI.out.finx ⟨HI.out.sx HA.out 0,HI.out.sx HA.out 1,HI.out.sx HA.out 2,HI.out.sx HA.out 3,HI.out.sx HA.out 4,HI.out.sx HA.out 5,HI.out.sx HA.out 6,HI.out.sx HA.out 7,HI.out.sx HA.out 8,x9,x10,trivial⟩ rfl),(au (l:=[.bool (ah z),.slice u06 (aa z) u07]) (i:=0) (by omega) HBX.out),(bJ (l:=[.bool (ah z),.slice u06 (aa z) u07]) (i:=0) K3.out),(s0 RZ.out)⟩
 rintro a' W1 ⟨u09,u0a,u06,u07,rfl,z0,z1,z2⟩;obtain ⟨HB1,K3,RZ⟩:=hz3 z0 z1 z2;clear z0 z1 z2;simp only[putL,List.setIfInBounds_toArray,List.set_cons_zero,List.set_cons_succ];go_wp2;obtain ⟨dK30,dK31⟩:=cz2 K3.out rfl rfl;exact bodyPost_ret (v:=.agg #[.bool (ah z),.slice u06 (aa z) u07]) (by simp[results,results63,go_sem,dK30,dK31]) rfl ⟨_,_,rfl,RZ.out,HB1.out⟩
theorem z3h (a b:Nat)(h:(ae a).length≤50000):(ae (a-b)).length≤1000000:=by have:=aK (Nat.sub_le a b);omega
theorem z2Y {f:FuncId}{args:Array Value}{w:World}{z:Int}(h:Calls Tryz.prog f args w fun e w'=>∃ p c,e=.returned (.agg #[.bool (ah z),.slice p (aa z) c])∧RN w' (.slice p (aa z) c) z.natAbs∧Below w.heap.size w w') :
 Calls Tryz.prog f args w fun e w'=>∃ u,e=.returned u∧Rz w' u z∧Below w.heap.size w w' :=
 h.mono fun _ _ ⟨_,_,e,r,hb⟩=>⟨_,e,Rz.mk r,hb⟩
theorem zD {x y:Int}(h:(ah x==ah y)=true):x+y=(if ah x=true then -((x.natAbs+y.natAbs:Nat):Int) else ((x.natAbs+y.natAbs:Nat):Int)):=by
 unfold ah at *
 by_cases hx:x<0<;>by_cases hy:y<0<;>simp[hx,hy]at h ⊢ <;> omega
theorem oo {x y:Int}(h:(ah x==ah y)=false):(y.natAbs≤x.natAbs→x+y=(if ah x=true then -((x.natAbs-y.natAbs:Nat):Int) else ((x.natAbs-y.natAbs:Nat):Int)))∧(x.natAbs<y.natAbs→x+y=(if ah y=true then -((y.natAbs-x.natAbs:Nat):Int) else ((y.natAbs-x.natAbs:Nat):Int))):=by
 unfold ah at *
 by_cases hx:x<0<;>by_cases hy:y<0<;>simp[hx,hy]at h ⊢ <;> constructor<;>intro h2<;>omega
theorem z4p (u1 u2:Value)(x y:Int)(hx:(ae x.natAbs).length≤50000)(hy:(ae y.natAbs).length≤50000)(w:World)(h1:Rz w u1 x)(h2:Rz w u2 y) :
 Calls Tryz.prog 68 #[u1,u2] w fun e w'=>∃ u,e=.returned u∧Rz w' u (x+y)∧Below w.heap.size w w':=by
 obtain⟨p1,c1,rfl,r1⟩:=h1.sh;obtain⟨p2,c2,rfl,r2⟩:=h2.sh;have hsl:=gI hx hy;have hx':ag x.natAbs≤50000:=hx;have hy':ag y.natAbs≤50000:=hy;have hsl':ag (x.natAbs+y.natAbs)≤50001:=hsl;have hd1:ag (x.natAbs-y.natAbs)≤1000000:=z3h _ _ hx;have hd2:ag (y.natAbs-x.natAbs)≤1000000:=z3h _ _ hy;refine z2Y ?_
 cases hs:(ah x==ah y) with
 | true=>exact xV x y (x+y) (x.natAbs+y.natAbs) hs p1 c1 p2 c2 w (fun p1 c1 p2 c2 W h1 h2=>z5v _ _ _ _ (by omega) (by omega) W h1 h2) (fun s d W h=>ll _ _ _ _ (zD hs) (by omega) W h) r1 r2
 | false =>
   rcases Nat.lt_or_ge x.natAbs y.natAbs with h|h
   · exact z2E x y (x+y) (y.natAbs-x.natAbs) (-1) (by decide) hs p1 c1 p2 c2 w (fun p1 c1 p2 c2 W h1 h2=>by have k:=cCmp (.slice p1 (aa x) c1) (.slice p2 (aa y) c2) x.natAbs y.natAbs (by omega) W h1 h2;rwa [eY h]at k) (fun p1 c1 p2 c2 W h1 h2=>z3i _ _ _ _ (by omega) (by omega) W h1 h2) (fun s d W h'=>ll _ _ _ _ ((oo hs).2 h) hd2 W h') r1 r2
   · exact z2F x y (x+y) (x.natAbs-y.natAbs) (cmpN x.natAbs y.natAbs) (by unfold cmpN;split<;>(try split)<;>omega) hs p1 c1 p2 c2 w (fun p1 c1 p2 c2 W h1 h2=>cCmp _ _ _ _ (by omega) W h1 h2) (fun p1 c1 p2 c2 W h1 h2=>z3i _ _ _ _ h (by omega) W h1 h2) (fun s d W h'=>ll _ _ _ _ ((oo hs).1 h) hd1 W h') r1 r2
theorem wP (x y:Int):x*y=(if (decide (x<0) != decide (y<0)) then -((x.natAbs*y.natAbs:Nat):Int) else ((x.natAbs*y.natAbs:Nat):Int)):=by
 rw[Int.natCast_mul];by_cases hx:x<0
 · by_cases hy:y<0
   · have e1:(x.natAbs:Int) = -x:=by omega
     have e2:(y.natAbs:Int) = -y:=by omega
     rw[e1,e2];simp[hx,hy,Int.neg_mul,Int.mul_neg]
   · have e1:(x.natAbs:Int) = -x:=by omega
     have e2:(y.natAbs:Int)=y:=by omega
     rw[e1,e2];simp[hx,hy,Int.neg_mul]
 · by_cases hy:y<0
   · have e1:(x.natAbs:Int)=x:=by omega
     have e2:(y.natAbs:Int) = -y:=by omega
     rw[e1,e2];simp[hx,hy,Int.mul_neg]
   · have e1:(x.natAbs:Int)=x:=by omega
     have e2:(y.natAbs:Int)=y:=by omega
     rw[e1,e2];simp[hx,hy]
theorem z4n (u1 u2:Value)(x y:Int)(hx:(ae x.natAbs).length≤50000)(hy:(ae y.natAbs).length≤50000)(w:World)(h1:Rz w u1 x)(h2:Rz w u2 y) :
 Calls Tryz.prog 63 #[u1,u2] w fun e w'=>∃ u,e=.returned u∧Rz w' u (x*y)∧Below w.heap.size w w':=by
 obtain⟨p1,c1,rfl,r1⟩:=h1.sh;obtain⟨p2,c2,rfl,r2⟩:=h2.sh;have hml:=gH x.natAbs y.natAbs;have hml':ag (x.natAbs*y.natAbs)≤ag x.natAbs+ag y.natAbs:=hml;have hx':ag x.natAbs≤50000:=hx;have hy':ag y.natAbs≤50000:=hy;exact z2Y (xU x y (x*y) (x.natAbs*y.natAbs) p1 c1 p2 c2 w (fun p1 c1 p2 c2 W h1 h2=>nH _ _ _ _ (by omega) (by omega) W h1 h2) (fun s d W h=>ll _ _ _ _ (wP x y) (by omega) W h) r1 r2)
theorem vz {w:World}{v:Value}{xs:List Nat}{g:Nat}{b:Bool}{q:Option Addr}{l c:Nat}{T:TypeId}{fz:Nat × Nat}(hg:w.heap[g]? = some (.cells #[.bool b,.slice q l c] T fz))(h:Rd .u32 w v xs)(i:Nat)(u:Value):Rd .u32 (w.setCell ⟨g,i,none⟩ u) v xs:=by
 rcases h with h|⟨b',o,c',h1,h2,h3,h4,h5⟩
 · exact Or.inl h
 · refine Or.inr ⟨b',o,c',h1,h2,h3,by simpa [World.setCell] using h4,fun j hj=>?_⟩
   have h6:=h5 j hj
   have hne:b'≠g:=by
    intro e;subst e;simp only[World.cell?,hg]at h6
    match hk:o+j with
    | 0=>rw[hk]at h6;simp at h6
    | 1=>rw[hk]at h6;simp at h6
    | n+2=>rw[hk]at h6;simp at h6
   exact(yC hne).trans h6
end Go.Proofs.YtodcdibanokjjaaGreatDoor
open Go.Lib (hid)
namespace Go.Proofs.YtodcdibanokjjaaGreatDoor
open Go.RowKit Go.Gb
theorem rC {W W':World}{g:Nat}{o:Obj}(h:W.heap[g]? = some o)(hb:Below W.heap.size W W'):W'.heap[g]? = some o:=by
 rw[hb.block g (Array.getElem?_eq_some_iff.1 h).1];exact h
theorem heap_set {W:World}{g i:Nat}{b b':Bool}{q:Option Addr}{l c:Nat}{T:TypeId}{fz:Nat × Nat}(h:W.heap[g]? = some (.cells #[.bool b,.slice q l c] T fz))(hi:i=0):(W.setCell ⟨g,i,none⟩ (.bool b')).heap[g]? = some (.cells #[.bool b',.slice q l c] T fz):=by
 subst hi;simp only[World.setCell,Array.getElem?_modify,h];simp
theorem xW (ba bb ob r:Bool)(p1:Option Addr)(l1 c1:Nat)(p2:Option Addr)(l2 c2:Nat)(m n L:Nat)(w:World)
 (hO:∀ W,Below w.heap.size w W→Calls Tryz.prog 98 #[.agg #[.bool bb,.slice p2 l2 c2]] W fun e w'=>∃ p c,e=.returned (.agg #[.bool ob,.slice p l2 c])∧Rd .u32 w' (.slice p l2 c) (ae m)∧Below W.heap.size W w')
 (hQ:∀ W p c,Below w.heap.size w W→Rd .u32 W (.slice p l2 c) (ae m)→Calls Tryz.prog 68 #[.agg #[.bool ba,.slice p1 l1 c1],.agg #[.bool ob,.slice p l2 c]] W fun e w'=>∃ p' c',e=.returned (.agg #[.bool r,.slice p' L c'])∧Rd .u32 w' (.slice p' L c') (ae n)∧Below W.heap.size W w') :
 Calls Tryz.prog 127 #[.agg #[.bool ba,.slice p1 l1 c1],.agg #[.bool bb,.slice p2 l2 c2]] w fun e w'=>∃ v,e=.returned (.agg #[.bool r,v])∧Rd .u32 w' v (ae n)∧Below w.heap.size w w':=by
 obtain ⟨HO,HQ⟩:=hz2 hO hQ;have HW:=hid (((((Below.refl w.heap.size w).alloc (Nat.le_refl _) (.cells #[.bool ba,.slice p1 l1 c1] 46)).alloc (by simp) (.cells #[.bool bb,.slice p2 l2 c2] 46)).alloc (by simp;omega) (.cells #[.bool false,.slice none 0 0] 46)))
 have AH:=hid (show(((w.alloc (.cells #[.bool ba,.slice p1 l1 c1] 46)).alloc (.cells #[.bool bb,.slice p2 l2 c2] 46)).alloc (.cells #[.bool false,.slice none 0 0] 46)).heap[w.heap.size+1+1]? = some (.cells #[.bool false,.slice none 0 0] 46 (0,0)) by
  rw[show w.heap.size+1+1=((w.alloc (.cells #[.bool ba,.slice p1 l1 c1] 46)).alloc (.cells #[.bool bb,.slice p2 l2 c2] 46)).heap.size by simp];exact heap_alloc_new _ _)
 have A00:=hid (show(((w.alloc (.cells #[.bool ba,.slice p1 l1 c1] 46)).alloc (.cells #[.bool bb,.slice p2 l2 c2] 46)).alloc (.cells #[.bool false,.slice none 0 0] 46)).cell? ⟨w.heap.size,0,none⟩=some (.bool ba) by rw[dS (by simp;omega),dS (by simp),o7 rfl];rfl);have A01:=hid (show(((w.alloc (.cells #[.bool ba,.slice p1 l1 c1] 46)).alloc (.cells #[.bool bb,.slice p2 l2 c2] 46)).alloc (.cells #[.bool false,.slice none 0 0] 46)).cell? ⟨w.heap.size,1,none⟩=some (.slice p1 l1 c1) by rw[dS (by simp;omega),dS (by simp),o7 rfl];rfl);have A10:=hid (show(((w.alloc (.cells #[.bool ba,.slice p1 l1 c1] 46)).alloc (.cells #[.bool bb,.slice p2 l2 c2] 46)).alloc (.cells #[.bool false,.slice none 0 0] 46)).cell? ⟨w.heap.size+1,0,none⟩=some (.bool bb) by rw[dS (by simp),o7 (by simp)];rfl);have A11:=hid (show(((w.alloc (.cells #[.bool ba,.slice p1 l1 c1] 46)).alloc (.cells #[.bool bb,.slice p2 l2 c2] 46)).alloc (.cells #[.bool false,.slice none 0 0] 46)).cell? ⟨w.heap.size+1,1,none⟩=some (.slice p2 l2 c2) by rw[dS (by simp),o7 (by simp)];rfl);have A20:=hid (show(((w.alloc (.cells #[.bool ba,.slice p1 l1 c1] 46)).alloc (.cells #[.bool bb,.slice p2 l2 c2] 46)).alloc (.cells #[.bool false,.slice none 0 0] 46)).cell? ⟨w.heap.size+1+1,0,none⟩=some (.bool false) by rw[o7 (by simp)];rfl);have A21:=hid (show(((w.alloc (.cells #[.bool ba,.slice p1 l1 c1] 46)).alloc (.cells #[.bool bb,.slice p2 l2 c2] 46)).alloc (.cells #[.bool false,.slice none 0 0] 46)).cell? ⟨w.heap.size+1+1,1,none⟩=some (.slice none 0 0) by rw[o7 (by simp)];rfl);have F0:=hid (show(((w.alloc (.cells #[.bool ba,.slice p1 l1 c1] 46)).alloc (.cells #[.bool bb,.slice p2 l2 c2] 46)).alloc (.cells #[.bool false,.slice none 0 0] 46)).frozen? ⟨w.heap.size+1+1,0,none⟩=false by rw[z2O (by simp)]);have F1:=hid (show(((w.alloc (.cells #[.bool ba,.slice p1 l1 c1] 46)).alloc (.cells #[.bool bb,.slice p2 l2 c2] 46)).alloc (.cells #[.bool false,.slice none 0 0] 46)).frozen? ⟨w.heap.size+1+1,1,none⟩=false by rw[z2O (by simp)]);clear hO hQ;go_enter func127,ntmps127
 go_wp2
 go_region_held3 (fun w'=>w'.cell? ⟨w.heap.size,0,none⟩=some (.bool ba)∧w'.cell? ⟨w.heap.size,1,none⟩=some (.slice p1 l1 c1)∧w'.cell? ⟨w.heap.size+1,0,none⟩=some (.bool bb)∧w'.cell? ⟨w.heap.size+1,1,none⟩=some (.slice p2 l2 c2)) (first|((try go_split_ands);refine⟨?_,?_,?_,?_⟩<;>(first|(with_reducible assumption)|((repeat (first|rw[mG]|rw[dS (by first|assumption|omega|(simp;done)|(simp;omega))]|rw[yC (by omega)]));first|(with_reducible assumption)|(simp;done))))|(go_keep;done))
  (first|(go_at_call 98;refine(HO.out _ ?bd).mono ?_;(case bd=>first|exact HW.out|exact HW.out.drew);rintro e w1 ⟨po,co,rfl,ro,hb1⟩;obtain⟨hc1,hf1⟩:=eu hb1;have hs1:=hb1.size;(try simp at hs1);have q10:w.heap.size<w1.heap.size:=(by omega);have q11:w.heap.size+1<w1.heap.size:=(by omega);have q12:w.heap.size+1+1<w1.heap.size:=(by omega);have s100:w1.cell? ⟨w.heap.size,0,none⟩=some (.bool ba):=(by rw[hc1 _ _ (by first|assumption|omega|(simp;done)|(simp;omega))];first|(with_reducible assumption)|exact A00.out);have s101:w1.cell? ⟨w.heap.size,1,none⟩=some (.slice p1 l1 c1):=(by rw[hc1 _ _ (by first|assumption|omega|(simp;done)|(simp;omega))];first|(with_reducible assumption)|exact A01.out);have s110:w1.cell? ⟨w.heap.size+1,0,none⟩=some (.bool bb):=(by rw[hc1 _ _ (by first|assumption|omega|(simp;done)|(simp;omega))];first|(with_reducible assumption)|exact A10.out);have s111:w1.cell? ⟨w.heap.size+1,1,none⟩=some (.slice p2 l2 c2):=(by rw[hc1 _ _ (by first|assumption|omega|(simp;done)|(simp;omega))];first|(with_reducible assumption)|exact A11.out);have s120:w1.cell? ⟨w.heap.size+1+1,0,none⟩=some (.bool false):=(by rw[hc1 _ _ (by first|assumption|omega|(simp;done)|(simp;omega))];first|(with_reducible assumption)|exact A20.out);have s121:w1.cell? ⟨w.heap.size+1+1,1,none⟩=some (.slice none 0 0):=(by rw[hc1 _ _ (by first|assumption|omega|(simp;done)|(simp;omega))];first|(with_reducible assumption)|exact A21.out);have f10:w1.frozen? ⟨w.heap.size+1+1,0,none⟩=false:=(by rw[hf1 _ _ (by first|assumption|omega|(simp;done)|(simp;omega))];first|(with_reducible assumption)|exact F0.out);have f11:w1.frozen? ⟨w.heap.size+1+1,1,none⟩=false:=(by rw[hf1 _ _ (by first|assumption|omega|(simp;done)|(simp;omega))];first|(with_reducible assumption)|exact F1.out);have HB1:=hid (show Below w.heap.size w w1 from Below.trans HW.out (by first|exact hb1.mono (by first|omega|(simp;omega)|simp)|exact Below.trans (Below.drew (Below.refl _ _)) (hb1.mono (by first|omega|(simp;omega)|simp))));have RO:=hid ro;have hg1:=hid (show w1.heap[w.heap.size+1+1]? = some (.cells #[.bool false,.slice none 0 0] 46 (0,0)) from(by refine rC ?_ hb1;exact AH.out)))|(go_at_call 68;refine(HQ.out w1 po co HB1.out RO.out).mono ?_;rintro e w2 ⟨pv,cv,rfl,rv,hb2⟩;obtain⟨hc2,hf2⟩:=eu hb2;have hs2:=hb2.size;(try simp at hs2);have q20:w.heap.size<w2.heap.size:=(by omega);have q21:w.heap.size+1<w2.heap.size:=(by omega);have q22:w.heap.size+1+1<w2.heap.size:=(by omega);have s200:w2.cell? ⟨w.heap.size,0,none⟩=some (.bool ba):=(by rw[hc2 _ _ (by first|assumption|omega|(simp;done)|(simp;omega))];first|(with_reducible assumption)|exact A00.out);have s201:w2.cell? ⟨w.heap.size,1,none⟩=some (.slice p1 l1 c1):=(by rw[hc2 _ _ (by first|assumption|omega|(simp;done)|(simp;omega))];first|(with_reducible assumption)|exact A01.out);have s210:w2.cell? ⟨w.heap.size+1,0,none⟩=some (.bool bb):=(by rw[hc2 _ _ (by first|assumption|omega|(simp;done)|(simp;omega))];first|(with_reducible assumption)|exact A10.out);have s211:w2.cell? ⟨w.heap.size+1,1,none⟩=some (.slice p2 l2 c2):=(by rw[hc2 _ _ (by first|assumption|omega|(simp;done)|(simp;omega))];first|(with_reducible assumption)|exact A11.out);have s220:w2.cell? ⟨w.heap.size+1+1,0,none⟩=some (.bool false):=(by rw[hc2 _ _ (by first|assumption|omega|(simp;done)|(simp;omega))];first|(with_reducible assumption)|exact A20.out);have s221:w2.cell? ⟨w.heap.size+1+1,1,none⟩=some (.slice none 0 0):=(by rw[hc2 _ _ (by first|assumption|omega|(simp;done)|(simp;omega))];first|(with_reducible assumption)|exact A21.out);have f20:w2.frozen? ⟨w.heap.size+1+1,0,none⟩=false:=(by rw[hf2 _ _ (by first|assumption|omega|(simp;done)|(simp;omega))];first|(with_reducible assumption)|exact F0.out);have f21:w2.frozen? ⟨w.heap.size+1+1,1,none⟩=false:=(by rw[hf2 _ _ (by first|assumption|omega|(simp;done)|(simp;omega))];first|(with_reducible assumption)|exact F1.out);have hg2:=hid (rC hg1.out hb2))|fail)
 all_goals
  go_wp2;have HB:Below w.heap.size w w2:=HB1.out.trans (hb2.mono HB1.out.size);refine bodyPost_ret (v:=.agg #[.bool r,.slice pv L cv]) (by simp[results,results127,go_sem,s220,s221]) rfl ⟨_,rfl,?_,?_⟩
  · exact vz (heap_set hg2.out rfl) (vz hg2.out rv 0 _) 1 _
  · exact(HB.setCell (p:=⟨w.heap.size+1+1,0,none⟩) (by show w.heap.size≤w.heap.size+1+1;omega) _).setCell (p:=⟨w.heap.size+1+1,1,none⟩) (by show w.heap.size≤w.heap.size+1+1;omega) _
theorem z4q (u1 u2:Value)(x y:Int)(hx:(ae x.natAbs).length≤50000)(hy:(ae y.natAbs).length≤50000)(w:World)(h1:Rz w u1 x)(h2:Rz w u2 y) :
 Calls Tryz.prog 127 #[u1,u2] w fun e w'=>∃ u,e=.returned u∧Rz w' u (x-y)∧Below w.heap.size w w':=by
 obtain⟨p1,c1,rfl,r1⟩:=iy h1;obtain⟨p2,c2,rfl,r2⟩:=iy h2;refine(xW (decide (x<0)) (decide (y<0)) (decide (-y<0)) (decide (x-y<0)) p1 _ c1 p2 _ c2 (-y).natAbs (x-y).natAbs (ae (x-y).natAbs).length w ?_ ?_).mono ?_
 · intro W hW
   have h:=qC _ y (by omega) W (Rz.below ⟨_,rfl,r2⟩ hW);exact p9 rfl (by rw[Int.natAbs_neg]) h
 · intro W p c hW hr
   have h:=z4p (.agg #[.bool (decide (x<0)),.slice p1 (ae x.natAbs).length c1]) (.agg #[.bool (decide (-y<0)),.slice p (ae y.natAbs).length c]) x (-y) hx (by rw[Int.natAbs_neg];exact hy) W (Rz.below ⟨_,rfl,r1⟩ hW) ⟨_,rfl,hr⟩;rw[← Int.sub_eq_add_neg]at h;exact p9 rfl rfl h
 · rintro e w' ⟨v,e1,e2,e3⟩
   exact⟨_,e1,⟨_,rfl,e2⟩,e3⟩
end Go.Proofs.YtodcdibanokjjaaGreatDoor
