/- texts -/
import Derived.Test.YtlgkolkcokaefaaGreatDoorMz23q
set_option maxRecDepth 100000
set_option maxHeartbeats 20000000
open Go.Lib (hid)
namespace Go.Proofs.YtlgkolkcokaefaaGreatDoor
open Go.RowKit Go.Gb
theorem pO {f:FuncId}{args:Array Value}{w:World}{z:Int}{b:Bool}{L:Nat}(hb:decide (z<0)=b)(hL:(ae z.natAbs).length=L)(h:Calls Tryz.prog f args w fun e w'=>∃ u,e=.returned u∧Rz w' u z∧Below w.heap.size w w') :
 Calls Tryz.prog f args w fun e w'=>∃ p c,e=.returned (.agg #[.bool b,.slice p L c])∧Rd .u32 w' (.slice p L c) (ae z.natAbs)∧Below w.heap.size w w':=by
 refine h.mono ?_;rintro e w' ⟨u,rfl,hu,hbl⟩;obtain⟨p,c,rfl,hr⟩:=iM hu;rw[hb,hL];rw[hL]at hr;exact⟨p,c,rfl,hr,hbl⟩
theorem yh (za zb z:Int)(n:Nat)(hs:(ai za==ai zb)=true)(p1:Option Addr)(c1:Nat)(p2:Option Addr)(c2:Nat)(w:World)(h1:∀ p1 c1 p2 c2 W,RN W (.slice p1 (aa za) c1) za.natAbs→RN W (.slice p2 (aa zb) c2) zb.natAbs→CN 98 #[.slice p1 (aa za) c1,.slice p2 (aa zb) c2] W n)(h2:∀ s2 d2 W,RN W (.slice s2 (ag n) d2) n→CZ 87 #[.bool (ai za),.slice s2 (ag n) d2] W z)(r1:RN w (.slice p1 (aa za) c1) za.natAbs)(r2:RN w (.slice p2 (aa zb) c2) zb.natAbs) :
 CZ 86 #[.agg #[.bool (ai za),.slice p1 (aa za) c1],.agg #[.bool (ai zb),.slice p2 (aa zb) c2]] w z:=by
 obtain ⟨C1,C2,R1,R2⟩:=aH h1 h2 r1 r2;have s0:(ai za==ai zb)=true:=hs;clear hs h1 h2 r1 r2;go_enter Tryz.func86,Tryz.ntmps86
 go_upto_region 1 with fail
 refine au w [(#[.bool (ai za),.slice p1 (aa za) c1],51),(#[.bool (ai zb),.slice p2 (aa zb) c2],51),(#[.bool false,.slice none 0 0],51)] rfl ?_;rintro W0 ⟨k1,k2,k3,hb⟩;have HB0:=hid (show Below w.heap.size w W0 from hb);obtain ⟨R1,R2,K1,K2,K3⟩:=aO (R1.out.below HB0.out) (R2.out.below HB0.out) k1 k2 k3;clear k1 k2 k3 hb;have dK10:=K1.out.cell (i:=0) rfl;have dK20:=K2.out.cell (i:=0) rfl;go_wp2_with fail
 clear dK10 dK20;refine aC (fun a0 a' V=>∃ u02 u03 u00 u01,a'=⟨putL [(10,.pointer (some ⟨w.heap.size,0,none⟩)),(11,.bool (ai za)),(12,.pointer (some ⟨w.heap.size,1,none⟩)),(13,.slice p1 (aa za) c1),(14,.pointer (some ⟨w.heap.size+1,1,none⟩)),(15,.slice p2 (aa zb) c2),(16,.slice u02 (ag n) u03),(17,.agg #[.bool (ai z),.slice u00 (aa z) u01])] a0.tmps,a0.defers⟩∧Below w.heap.size w V∧SBk V (w.heap.size+1+1) #[.bool (ai z),.slice u00 (aa z) u01] 51∧RN V (.slice u00 (aa z) u01) z.natAbs) ?_ ?_
 · refine ay (by kernel_rfl) 8 1 (fun i=>[10,11,12,13,14,15,16,17].getD i 0) (RelR [Rel.val (.pointer (some ⟨w.heap.size,0,none⟩)),Rel.val (.bool (ai za)),Rel.val (.pointer (some ⟨w.heap.size,1,none⟩)),Rel.val (.slice p1 (aa za) c1),Rel.val (.pointer (some ⟨w.heap.size+1,1,none⟩)),Rel.val (.slice p2 (aa zb) c2),Rel.nat n,Rel.int z]) (fun W=>Below W0.heap.size W0 W) (fun _ _=>True) (by kernel_rfl) (by kernel_rfl) (by kernel_rfl) trivial (Below.refl _ _).drew ?_ ?_
   · intro ab a W i hI hD hrd him
     obtain ⟨HI,HD,Hr⟩:=ah hI hD hrd;clear hI hrd hD;have y2:a.tmps[2]? = some (.pointer (some ⟨w.heap.size,0,none⟩)):=HI.out.rest 2 (by decide);have y3:a.tmps[3]? = some (.pointer (some ⟨w.heap.size+1,0,none⟩)):=HI.out.rest 3 (by decide);obtain ⟨dK10,dK11⟩:=aI (K1.out.below HI.out.world) rfl rfl;have dK21:=(K2.out.below HI.out.world).cell (i:=1) rfl;have X0:RV _ ab a 0 10 (.pointer (some ⟨w.heap.size,0,none⟩)):=HI.out.rh;have X2:RV _ ab a 2 12 (.pointer (some ⟨w.heap.size,1,none⟩)):=HI.out.rh;have X4:RV _ ab a 4 14 (.pointer (some ⟨w.heap.size+1,1,none⟩)):=HI.out.rh;have X3:RV _ ab a 3 13 (.slice p1 (aa za) c1):=HI.out.rh;have X5:RV _ ab a 5 15 (.slice p2 (aa zb) c2):=HI.out.rh;have X1:RV _ ab a 1 11 (.bool (ai za)):=HI.out.rh
     match i,him,Hr with
     | 0,_,Hi =>
       refine ak rfl fun K' hK=>?_;go_simp;exact hK.out _ _ ⟨HI.out.pv Hi.out rfl,trivial⟩
     | 1,_,Hi =>
       have x0:=X0.g Hi.out (by kernel_rfl);refine ak rfl fun K' hK=>?_;go_simp;exact hK.out _ _ ⟨HI.out.pv Hi.out rfl,trivial⟩
     | 2,_,Hi =>
       refine ak rfl fun K' hK=>?_;go_simp;exact hK.out _ _ ⟨HI.out.pv Hi.out rfl,trivial⟩
     | 3,_,Hi =>
       have x2:=X2.g Hi.out (by kernel_rfl);refine ak rfl fun K' hK=>?_;go_simp;exact hK.out _ _ ⟨HI.out.pv Hi.out rfl,trivial⟩
     | 4,_,Hi =>
       refine ak rfl fun K' hK=>?_;go_simp;exact hK.out _ _ ⟨HI.out.pv Hi.out rfl,trivial⟩
     | 5,_,Hi =>
       have x4:=X4.g Hi.out (by kernel_rfl);refine ak rfl fun K' hK=>?_;go_simp;exact hK.out _ _ ⟨HI.out.pv Hi.out rfl,trivial⟩
     | 6,_,Hi =>
       have x3:=X3.g Hi.out (by kernel_rfl);have x5:=X5.g Hi.out (by kernel_rfl);refine ak rfl fun K' hK=>?_;go_simp;with_reducible refine(C1.out _ _ _ _ _ (R1.out.below HI.out.world) (R2.out.below HI.out.world)).mono ?_
       rintro e W' ⟨u02,u03,rfl,u04,hb⟩;exact hK.out _ _ ⟨HI.out.pc Hi.out hb ⟨u02,u03,rfl,u04⟩,trivial⟩
     | 7,_,Hi =>
       have x1:=X1.g Hi.out (by kernel_rfl);obtain⟨v',x6,u02,u03,e,u04⟩:=HI.out.at (i:=6) Hi.out (by kernel_rfl) (by decide);obtain rfl:=e;have x6:a.tmps[16]? = some (.slice u02 (ag n) u03):=x6;have u08:=hid u04;clear u04;refine ak rfl fun K' hK=>?_;go_simp;with_reducible refine(C2.out _ _ _ u08.out).mono ?_
       rintro e W' ⟨u00,u01,rfl,u05,hb⟩;exact hK.out _ _ ⟨HI.out.pc Hi.out hb ⟨u00,u01,rfl,u05⟩,trivial⟩
     | n+8,h,_=>exact absurd h (by omega)
   · intro ab a W hI hD hall
     obtain⟨v',x6,u02,u03,e,u04⟩:=hI.slots 6 (by decide) (hall 6 (by decide));obtain rfl:=e;have u08:=hid u04;clear u04;obtain⟨v',x7,u00,u01,e,u05⟩:=hI.slots 7 (by decide) (hall 7 (by decide));obtain rfl:=e;have u0c:=hid u05;clear u05;have x7:a.tmps[17]? = some (.agg #[.bool (ai z),.slice u00 (aa z) u01]):=x7;obtain ⟨HBW,HI,HA⟩:=ah hI.world hI hall;clear hI hall;obtain ⟨K3,HBX⟩:=aD (K3.out.below HBW.out) (HB0.out.trans (HBW.out.mono HB0.out.size));have RA:=u08;have RZ:=u0c;have y4:a.tmps[4]? = some (.pointer (some ⟨w.heap.size+1+1,0,none⟩)):=HI.out.rest 4 (by decide);obtain ⟨dK30,dK31⟩:=aI K3.out rfl rfl;obtain ⟨fK30,fK31⟩:=dU K3.out;refine aS (t:=0) ?_;refine ak rfl fun K' hK=>?_;go_simp;refine hK.out _ _ ?_;clear hK;refine aY ?_;have s0:∀ {v':Value} {n':Nat},RN W v' n'→RN (storeAll W (w.heap.size+1+1) 0 [.bool (ai z),.slice u00 (aa z) u01]) v' n':=fun h'=>aZ _ h' K3.out (by simp[bS]) (by simp[bA]);exact⟨rfl,u02,u03,u00,u01,(HI.out.finx ⟨HI.out.sx HA.out 0,HI.out.sx HA.out 1,HI.out.sx HA.out 2,HI.out.sx HA.out 3,HI.out.sx HA.out 4,HI.out.sx HA.out 5,x6,x7,trivial⟩ rfl),(av (l:=[.bool (ai z),.slice u00 (aa z) u01]) (i:=0) (by omega) HBX.out),(bz (l:=[.bool (ai z),.slice u00 (aa z) u01]) (i:=0) K3.out),(s0 RZ.out)⟩
 rintro a' W1 ⟨u02,u03,u00,u01,rfl,z0,z1,z2⟩;obtain ⟨HB1,K3,RZ⟩:=ah z0 z1 z2;clear z0 z1 z2;simp only[putL,List.setIfInBounds_toArray,List.set_cons_zero,List.set_cons_succ];go_wp2;obtain ⟨dK30,dK31⟩:=aI K3.out rfl rfl;exact bodyPost_ret (v:=.agg #[.bool (ai z),.slice u00 (aa z) u01]) (by simp[results,Tryz.results86,go_sem,dK30,dK31]) rfl ⟨_,_,rfl,RZ.out,HB1.out⟩
theorem z2F (za zb z:Int)(n:Nat)(k:Int)(hk:0≤k)(hs:(ai za==ai zb)=false)(p1:Option Addr)(c1:Nat)(p2:Option Addr)(c2:Nat)(w:World)(h3:∀ p1 c1 p2 c2 W,RN W (.slice p1 (aa za) c1) za.natAbs→RN W (.slice p2 (aa zb) c2) zb.natAbs→CR 49 #[.slice p1 (aa za) c1,.slice p2 (aa zb) c2] W (.int .i64 k))(h4:∀ p1 c1 p2 c2 W,RN W (.slice p1 (aa za) c1) za.natAbs→RN W (.slice p2 (aa zb) c2) zb.natAbs→CN 99 #[.slice p1 (aa za) c1,.slice p2 (aa zb) c2] W n)(h2:∀ s2 d2 W,RN W (.slice s2 (ag n) d2) n→CZ 87 #[.bool (ai za),.slice s2 (ag n) d2] W z)(r1:RN w (.slice p1 (aa za) c1) za.natAbs)(r2:RN w (.slice p2 (aa zb) c2) zb.natAbs) :
 CZ 86 #[.agg #[.bool (ai za),.slice p1 (aa za) c1],.agg #[.bool (ai zb),.slice p2 (aa zb) c2]] w z:=by
 obtain ⟨C3,C4,C2,R1,R2⟩:=aO h3 h4 h2 r1 r2;have s0:(ai za==ai zb)=false:=hs;clear hs;have k0:decide (0≤k)=true:=decide_eq_true hk;have k1:0≤k:=hk;clear hk h3 h4 h2 r1 r2;go_enter Tryz.func86,Tryz.ntmps86
 go_upto_region 1 with fail
 refine au w [(#[.bool (ai za),.slice p1 (aa za) c1],51),(#[.bool (ai zb),.slice p2 (aa zb) c2],51),(#[.bool false,.slice none 0 0],51)] rfl ?_;rintro W0 ⟨k1,k2,k3,hb⟩;have HB0:=hid (show Below w.heap.size w W0 from hb);obtain ⟨R1,R2,K1,K2,K3⟩:=aO (R1.out.below HB0.out) (R2.out.below HB0.out) k1 k2 k3;clear k1 k2 k3 hb;have dK10:=K1.out.cell (i:=0) rfl;have dK20:=K2.out.cell (i:=0) rfl;have dK11:=K1.out.cell (i:=1) rfl;have dK21:=K2.out.cell (i:=1) rfl;go_wp2_with fail
 with_reducible refine(C3.out _ _ _ _ _ R1.out R2.out).mono ?_
 rintro e W1 ⟨rfl,hb⟩;clear dK10 dK20 dK11 dK21;obtain ⟨K1,K2,K3,R1,R2⟩:=aO (K1.out.below hb) (K2.out.below hb) (K3.out.below hb) (R1.out.below hb) (R2.out.below hb);have HB1:=hbt HB0 hb;clear hb;go_wp2_with fail
 refine aC (fun a0 a' V=>∃ u02 u03 u00 u01,a'=⟨putL [(24,.pointer (some ⟨w.heap.size,0,none⟩)),(25,.bool (ai za)),(26,.pointer (some ⟨w.heap.size,1,none⟩)),(27,.slice p1 (aa za) c1),(28,.pointer (some ⟨w.heap.size+1,1,none⟩)),(29,.slice p2 (aa zb) c2),(30,.slice u02 (ag n) u03),(31,.agg #[.bool (ai z),.slice u00 (aa z) u01])] a0.tmps,a0.defers⟩∧Below w.heap.size w V∧SBk V (w.heap.size+1+1) #[.bool (ai z),.slice u00 (aa z) u01] 51∧RN V (.slice u00 (aa z) u01) z.natAbs) ?_ ?_
 · refine ay (by kernel_rfl) 8 1 (fun i=>[24,25,26,27,28,29,30,31].getD i 0) (RelR [Rel.val (.pointer (some ⟨w.heap.size,0,none⟩)),Rel.val (.bool (ai za)),Rel.val (.pointer (some ⟨w.heap.size,1,none⟩)),Rel.val (.slice p1 (aa za) c1),Rel.val (.pointer (some ⟨w.heap.size+1,1,none⟩)),Rel.val (.slice p2 (aa zb) c2),Rel.nat n,Rel.int z]) (fun W=>Below W1.heap.size W1 W) (fun _ _=>True) (by kernel_rfl) (by kernel_rfl) (by kernel_rfl) trivial (Below.refl _ _).drew ?_ ?_
   · intro ab a W i hI hD hrd him
     obtain ⟨HI,HD,Hr⟩:=ah hI hD hrd;clear hI hrd hD;have y2:a.tmps[2]? = some (.pointer (some ⟨w.heap.size,0,none⟩)):=HI.out.rest 2 (by decide);have y3:a.tmps[3]? = some (.pointer (some ⟨w.heap.size+1,0,none⟩)):=HI.out.rest 3 (by decide);obtain ⟨dK10,dK11⟩:=aI (K1.out.below HI.out.world) rfl rfl;have dK21:=(K2.out.below HI.out.world).cell (i:=1) rfl;have X0:RV _ ab a 0 24 (.pointer (some ⟨w.heap.size,0,none⟩)):=HI.out.rh;have X2:RV _ ab a 2 26 (.pointer (some ⟨w.heap.size,1,none⟩)):=HI.out.rh;have X4:RV _ ab a 4 28 (.pointer (some ⟨w.heap.size+1,1,none⟩)):=HI.out.rh;have X3:RV _ ab a 3 27 (.slice p1 (aa za) c1):=HI.out.rh;have X5:RV _ ab a 5 29 (.slice p2 (aa zb) c2):=HI.out.rh;have X1:RV _ ab a 1 25 (.bool (ai za)):=HI.out.rh
     match i,him,Hr with
     | 0,_,Hi =>
       refine ak rfl fun K' hK=>?_;go_simp;exact hK.out _ _ ⟨HI.out.pv Hi.out rfl,trivial⟩
     | 1,_,Hi =>
       have x0:=X0.g Hi.out (by kernel_rfl);refine ak rfl fun K' hK=>?_;go_simp;exact hK.out _ _ ⟨HI.out.pv Hi.out rfl,trivial⟩
     | 2,_,Hi =>
       refine ak rfl fun K' hK=>?_;go_simp;exact hK.out _ _ ⟨HI.out.pv Hi.out rfl,trivial⟩
     | 3,_,Hi =>
       have x2:=X2.g Hi.out (by kernel_rfl);refine ak rfl fun K' hK=>?_;go_simp;exact hK.out _ _ ⟨HI.out.pv Hi.out rfl,trivial⟩
     | 4,_,Hi =>
       refine ak rfl fun K' hK=>?_;go_simp;exact hK.out _ _ ⟨HI.out.pv Hi.out rfl,trivial⟩
     | 5,_,Hi =>
       have x4:=X4.g Hi.out (by kernel_rfl);refine ak rfl fun K' hK=>?_;go_simp;exact hK.out _ _ ⟨HI.out.pv Hi.out rfl,trivial⟩
     | 6,_,Hi =>
       have x3:=X3.g Hi.out (by kernel_rfl);have x5:=X5.g Hi.out (by kernel_rfl);refine ak rfl fun K' hK=>?_;go_simp;with_reducible refine(C4.out _ _ _ _ _ (R1.out.below HI.out.world) (R2.out.below HI.out.world)).mono ?_
       rintro e W' ⟨u02,u03,rfl,u04,hb⟩;exact hK.out _ _ ⟨HI.out.pc Hi.out hb ⟨u02,u03,rfl,u04⟩,trivial⟩
     | 7,_,Hi =>
       have x1:=X1.g Hi.out (by kernel_rfl);obtain⟨v',x6,u02,u03,e,u04⟩:=HI.out.at (i:=6) Hi.out (by kernel_rfl) (by decide);obtain rfl:=e;have x6:a.tmps[30]? = some (.slice u02 (ag n) u03):=x6;have u08:=hid u04;clear u04;refine ak rfl fun K' hK=>?_;go_simp;with_reducible refine(C2.out _ _ _ u08.out).mono ?_
       rintro e W' ⟨u00,u01,rfl,u05,hb⟩;exact hK.out _ _ ⟨HI.out.pc Hi.out hb ⟨u00,u01,rfl,u05⟩,trivial⟩
     | n+8,h,_=>exact absurd h (by omega)
   · intro ab a W hI hD hall
     obtain⟨v',x6,u02,u03,e,u04⟩:=hI.slots 6 (by decide) (hall 6 (by decide));obtain rfl:=e;have u08:=hid u04;clear u04;obtain⟨v',x7,u00,u01,e,u05⟩:=hI.slots 7 (by decide) (hall 7 (by decide));obtain rfl:=e;have u0c:=hid u05;clear u05;have x7:a.tmps[31]? = some (.agg #[.bool (ai z),.slice u00 (aa z) u01]):=x7;obtain ⟨HBW,HI,HA⟩:=ah hI.world hI hall;clear hI hall;obtain ⟨K3,HBX⟩:=aD (K3.out.below HBW.out) (HB1.out.trans (HBW.out.mono HB1.out.size));have RA:=u08;have RZ:=u0c;have y4:a.tmps[4]? = some (.pointer (some ⟨w.heap.size+1+1,0,none⟩)):=HI.out.rest 4 (by decide);obtain ⟨dK30,dK31⟩:=aI K3.out rfl rfl;obtain ⟨fK30,fK31⟩:=dU K3.out;refine aS (t:=0) ?_;refine ak rfl fun K' hK=>?_;go_simp;refine hK.out _ _ ?_;clear hK;refine aY ?_;have s0:∀ {v':Value} {n':Nat},RN W v' n'→RN (storeAll W (w.heap.size+1+1) 0 [.bool (ai z),.slice u00 (aa z) u01]) v' n':=fun h'=>aZ _ h' K3.out (by simp[bS]) (by simp[bA]);exact⟨rfl,u02,u03,u00,u01,(HI.out.finx ⟨HI.out.sx HA.out 0,HI.out.sx HA.out 1,HI.out.sx HA.out 2,HI.out.sx HA.out 3,HI.out.sx HA.out 4,HI.out.sx HA.out 5,x6,x7,trivial⟩ rfl),(av (l:=[.bool (ai z),.slice u00 (aa z) u01]) (i:=0) (by omega) HBX.out),(bz (l:=[.bool (ai z),.slice u00 (aa z) u01]) (i:=0) K3.out),(s0 RZ.out)⟩
 rintro a' W2 ⟨u02,u03,u00,u01,rfl,z0,z1,z2⟩;obtain ⟨HB2,K3,RZ⟩:=ah z0 z1 z2;clear z0 z1 z2;simp only[putL,List.setIfInBounds_toArray,List.set_cons_zero,List.set_cons_succ];go_wp2;obtain ⟨dK30,dK31⟩:=aI K3.out rfl rfl;exact bodyPost_ret (v:=.agg #[.bool (ai z),.slice u00 (aa z) u01]) (by simp[results,Tryz.results86,go_sem,dK30,dK31]) rfl ⟨_,_,rfl,RZ.out,HB2.out⟩
theorem z2E (za zb z:Int)(n:Nat)(k:Int)(hk:k<0)(hs:(ai za==ai zb)=false)(p1:Option Addr)(c1:Nat)(p2:Option Addr)(c2:Nat)(w:World)(h3:∀ p1 c1 p2 c2 W,RN W (.slice p1 (aa za) c1) za.natAbs→RN W (.slice p2 (aa zb) c2) zb.natAbs→CR 49 #[.slice p1 (aa za) c1,.slice p2 (aa zb) c2] W (.int .i64 k))(h4:∀ p1 c1 p2 c2 W,RN W (.slice p1 (aa zb) c1) zb.natAbs→RN W (.slice p2 (aa za) c2) za.natAbs→CN 99 #[.slice p1 (aa zb) c1,.slice p2 (aa za) c2] W n)(h2:∀ s2 d2 W,RN W (.slice s2 (ag n) d2) n→CZ 87 #[.bool (ai zb),.slice s2 (ag n) d2] W z)(r1:RN w (.slice p1 (aa za) c1) za.natAbs)(r2:RN w (.slice p2 (aa zb) c2) zb.natAbs) :
 CZ 86 #[.agg #[.bool (ai za),.slice p1 (aa za) c1],.agg #[.bool (ai zb),.slice p2 (aa zb) c2]] w z:=by
 obtain ⟨C3,C4,C2,R1,R2⟩:=aO h3 h4 h2 r1 r2;have s0:(ai za==ai zb)=false:=hs;clear hs;have k0:decide (0≤k)=false:=decide_eq_false (by omega);have k1:¬ 0≤k:=by omega
 clear hk h3 h4 h2 r1 r2;go_enter Tryz.func86,Tryz.ntmps86
 go_upto_region 1 with fail
 refine au w [(#[.bool (ai za),.slice p1 (aa za) c1],51),(#[.bool (ai zb),.slice p2 (aa zb) c2],51),(#[.bool false,.slice none 0 0],51)] rfl ?_;rintro W0 ⟨k1,k2,k3,hb⟩;have HB0:=hid (show Below w.heap.size w W0 from hb);obtain ⟨R1,R2,K1,K2,K3⟩:=aO (R1.out.below HB0.out) (R2.out.below HB0.out) k1 k2 k3;clear k1 k2 k3 hb;have dK10:=K1.out.cell (i:=0) rfl;have dK20:=K2.out.cell (i:=0) rfl;have dK11:=K1.out.cell (i:=1) rfl;have dK21:=K2.out.cell (i:=1) rfl;go_wp2_with fail
 with_reducible refine(C3.out _ _ _ _ _ R1.out R2.out).mono ?_
 rintro e W1 ⟨rfl,hb⟩;clear dK10 dK20 dK11 dK21;obtain ⟨K1,K2,K3,R1,R2⟩:=aO (K1.out.below hb) (K2.out.below hb) (K3.out.below hb) (R1.out.below hb) (R2.out.below hb);have HB1:=hbt HB0 hb;clear hb;go_wp2_with fail
 refine aC (fun a0 a' V=>∃ u02 u03 u00 u01,a'=⟨putL [(32,.pointer (some ⟨w.heap.size+1,0,none⟩)),(33,.bool (ai zb)),(34,.pointer (some ⟨w.heap.size+1,1,none⟩)),(35,.slice p2 (aa zb) c2),(36,.pointer (some ⟨w.heap.size,1,none⟩)),(37,.slice p1 (aa za) c1),(38,.slice u02 (ag n) u03),(39,.agg #[.bool (ai z),.slice u00 (aa z) u01])] a0.tmps,a0.defers⟩∧Below w.heap.size w V∧SBk V (w.heap.size+1+1) #[.bool (ai z),.slice u00 (aa z) u01] 51∧RN V (.slice u00 (aa z) u01) z.natAbs) ?_ ?_
 · refine ay (by kernel_rfl) 8 1 (fun i=>[32,33,34,35,36,37,38,39].getD i 0) (RelR [Rel.val (.pointer (some ⟨w.heap.size+1,0,none⟩)),Rel.val (.bool (ai zb)),Rel.val (.pointer (some ⟨w.heap.size+1,1,none⟩)),Rel.val (.slice p2 (aa zb) c2),Rel.val (.pointer (some ⟨w.heap.size,1,none⟩)),Rel.val (.slice p1 (aa za) c1),Rel.nat n,Rel.int z]) (fun W=>Below W1.heap.size W1 W) (fun _ _=>True) (by kernel_rfl) (by kernel_rfl) (by kernel_rfl) trivial (Below.refl _ _).drew ?_ ?_
   · intro ab a W i hI hD hrd him
     obtain ⟨HI,HD,Hr⟩:=ah hI hD hrd;clear hI hrd hD;have y3:a.tmps[3]? = some (.pointer (some ⟨w.heap.size+1,0,none⟩)):=HI.out.rest 3 (by decide);have y2:a.tmps[2]? = some (.pointer (some ⟨w.heap.size,0,none⟩)):=HI.out.rest 2 (by decide);obtain ⟨dK20,dK21⟩:=aI (K2.out.below HI.out.world) rfl rfl;have dK11:=(K1.out.below HI.out.world).cell (i:=1) rfl;have X0:RV _ ab a 0 32 (.pointer (some ⟨w.heap.size+1,0,none⟩)):=HI.out.rh;have X2:RV _ ab a 2 34 (.pointer (some ⟨w.heap.size+1,1,none⟩)):=HI.out.rh;have X4:RV _ ab a 4 36 (.pointer (some ⟨w.heap.size,1,none⟩)):=HI.out.rh;have X3:RV _ ab a 3 35 (.slice p2 (aa zb) c2):=HI.out.rh;have X5:RV _ ab a 5 37 (.slice p1 (aa za) c1):=HI.out.rh;have X1:RV _ ab a 1 33 (.bool (ai zb)):=HI.out.rh
     match i,him,Hr with
     | 0,_,Hi =>
       refine ak rfl fun K' hK=>?_;go_simp;exact hK.out _ _ ⟨HI.out.pv Hi.out rfl,trivial⟩
     | 1,_,Hi =>
       have x0:=X0.g Hi.out (by kernel_rfl);refine ak rfl fun K' hK=>?_;go_simp;exact hK.out _ _ ⟨HI.out.pv Hi.out rfl,trivial⟩
     | 2,_,Hi =>
       refine ak rfl fun K' hK=>?_;go_simp;exact hK.out _ _ ⟨HI.out.pv Hi.out rfl,trivial⟩
     | 3,_,Hi =>
       have x2:=X2.g Hi.out (by kernel_rfl);refine ak rfl fun K' hK=>?_;go_simp;exact hK.out _ _ ⟨HI.out.pv Hi.out rfl,trivial⟩
     | 4,_,Hi =>
       refine ak rfl fun K' hK=>?_;go_simp;exact hK.out _ _ ⟨HI.out.pv Hi.out rfl,trivial⟩
     | 5,_,Hi =>
       have x4:=X4.g Hi.out (by kernel_rfl);refine ak rfl fun K' hK=>?_;go_simp;exact hK.out _ _ ⟨HI.out.pv Hi.out rfl,trivial⟩
     | 6,_,Hi =>
       have x3:=X3.g Hi.out (by kernel_rfl);have x5:=X5.g Hi.out (by kernel_rfl);refine ak rfl fun K' hK=>?_;go_simp;with_reducible refine(C4.out _ _ _ _ _ (R2.out.below HI.out.world) (R1.out.below HI.out.world)).mono ?_
       rintro e W' ⟨u02,u03,rfl,u04,hb⟩;exact hK.out _ _ ⟨HI.out.pc Hi.out hb ⟨u02,u03,rfl,u04⟩,trivial⟩
     | 7,_,Hi =>
       have x1:=X1.g Hi.out (by kernel_rfl);obtain⟨v',x6,u02,u03,e,u04⟩:=HI.out.at (i:=6) Hi.out (by kernel_rfl) (by decide);obtain rfl:=e;have x6:a.tmps[38]? = some (.slice u02 (ag n) u03):=x6;have u08:=hid u04;clear u04;refine ak rfl fun K' hK=>?_;go_simp;with_reducible refine(C2.out _ _ _ u08.out).mono ?_
       rintro e W' ⟨u00,u01,rfl,u05,hb⟩;exact hK.out _ _ ⟨HI.out.pc Hi.out hb ⟨u00,u01,rfl,u05⟩,trivial⟩
     | n+8,h,_=>exact absurd h (by omega)
   · intro ab a W hI hD hall
     obtain⟨v',x6,u02,u03,e,u04⟩:=hI.slots 6 (by decide) (hall 6 (by decide));obtain rfl:=e;have u08:=hid u04;clear u04;obtain⟨v',x7,u00,u01,e,u05⟩:=hI.slots 7 (by decide) (hall 7 (by decide));obtain rfl:=e;have u0c:=hid u05;clear u05;have x7:a.tmps[39]? = some (.agg #[.bool (ai z),.slice u00 (aa z) u01]):=x7;obtain ⟨HBW,HI,HA⟩:=ah hI.world hI hall;clear hI hall;obtain ⟨K3,HBX⟩:=aD (K3.out.below HBW.out) (HB1.out.trans (HBW.out.mono HB1.out.size));have RA:=u08;have RZ:=u0c;have y4:a.tmps[4]? = some (.pointer (some ⟨w.heap.size+1+1,0,none⟩)):=HI.out.rest 4 (by decide);obtain ⟨dK30,dK31⟩:=aI K3.out rfl rfl;obtain ⟨fK30,fK31⟩:=dU K3.out;refine aS (t:=0) ?_;refine ak rfl fun K' hK=>?_;go_simp;refine hK.out _ _ ?_;clear hK;refine aY ?_;have s0:∀ {v':Value} {n':Nat},RN W v' n'→RN (storeAll W (w.heap.size+1+1) 0 [.bool (ai z),.slice u00 (aa z) u01]) v' n':=fun h'=>aZ _ h' K3.out (by simp[bS]) (by simp[bA]);exact⟨rfl,u02,u03,u00,u01,(HI.out.finx ⟨HI.out.sx HA.out 0,HI.out.sx HA.out 1,HI.out.sx HA.out 2,HI.out.sx HA.out 3,HI.out.sx HA.out 4,HI.out.sx HA.out 5,x6,x7,trivial⟩ rfl),(av (l:=[.bool (ai z),.slice u00 (aa z) u01]) (i:=0) (by omega) HBX.out),(bz (l:=[.bool (ai z),.slice u00 (aa z) u01]) (i:=0) K3.out),(s0 RZ.out)⟩
 rintro a' W2 ⟨u02,u03,u00,u01,rfl,z0,z1,z2⟩;obtain ⟨HB2,K3,RZ⟩:=ah z0 z1 z2;clear z0 z1 z2;simp only[putL,List.setIfInBounds_toArray,List.set_cons_zero,List.set_cons_succ];go_wp2;obtain ⟨dK30,dK31⟩:=aI K3.out rfl rfl;exact bodyPost_ret (v:=.agg #[.bool (ai z),.slice u00 (aa z) u01]) (by simp[results,Tryz.results86,go_sem,dK30,dK31]) rfl ⟨_,_,rfl,RZ.out,HB2.out⟩
theorem yg (za zb z:Int)(n:Nat)(p1:Option Addr)(c1:Nat)(p2:Option Addr)(c2:Nat)(w:World)(h1:∀ p1 c1 p2 c2 W,RN W (.slice p1 (aa za) c1) za.natAbs→RN W (.slice p2 (aa zb) c2) zb.natAbs→CN 83 #[.slice p1 (aa za) c1,.slice p2 (aa zb) c2] W n)(h2:∀ s2 d2 W,RN W (.slice s2 (ag n) d2) n→CZ 87 #[.bool (ai za != ai zb),.slice s2 (ag n) d2] W z)(r1:RN w (.slice p1 (aa za) c1) za.natAbs)(r2:RN w (.slice p2 (aa zb) c2) zb.natAbs) :
 CZ 82 #[.agg #[.bool (ai za),.slice p1 (aa za) c1],.agg #[.bool (ai zb),.slice p2 (aa zb) c2]] w z:=by
 obtain ⟨C1,C2,R1,R2⟩:=aH h1 h2 r1 r2;clear h1 h2 r1 r2;go_enter Tryz.func82,Tryz.ntmps82
 go_upto_region 1 with fail
 refine au w [(#[.bool (ai za),.slice p1 (aa za) c1],51),(#[.bool (ai zb),.slice p2 (aa zb) c2],51),(#[.bool false,.slice none 0 0],51)] rfl ?_;rintro W0 ⟨k1,k2,k3,hb⟩;have HB0:=hid (show Below w.heap.size w W0 from hb);obtain ⟨R1,R2,K1,K2,K3⟩:=aO (R1.out.below HB0.out) (R2.out.below HB0.out) k1 k2 k3;clear k1 k2 k3 hb;go_wp2_with fail
 refine aC (fun a0 a' V=>∃ u09 u0a u06 u07,a'=⟨putL [(5,.pointer (some ⟨w.heap.size,0,none⟩)),(6,.bool (ai za)),(7,.pointer (some ⟨w.heap.size+1,0,none⟩)),(8,.bool (ai zb)),(9,.bool (ai za != ai zb)),(10,.pointer (some ⟨w.heap.size,1,none⟩)),(11,.slice p1 (aa za) c1),(12,.pointer (some ⟨w.heap.size+1,1,none⟩)),(13,.slice p2 (aa zb) c2),(14,.slice u09 (ag n) u0a),(15,.agg #[.bool (ai z),.slice u06 (aa z) u07])] a0.tmps,a0.defers⟩∧Below w.heap.size w V∧SBk V (w.heap.size+1+1) #[.bool (ai z),.slice u06 (aa z) u07] 51∧RN V (.slice u06 (aa z) u07) z.natAbs) ?_ ?_
 · refine ay (by kernel_rfl) 11 1 (fun i=>[5,6,7,8,9,10,11,12,13,14,15].getD i 0) (RelR [Rel.val (.pointer (some ⟨w.heap.size,0,none⟩)),Rel.val (.bool (ai za)),Rel.val (.pointer (some ⟨w.heap.size+1,0,none⟩)),Rel.val (.bool (ai zb)),Rel.val (.bool (ai za != ai zb)),Rel.val (.pointer (some ⟨w.heap.size,1,none⟩)),Rel.val (.slice p1 (aa za) c1),Rel.val (.pointer (some ⟨w.heap.size+1,1,none⟩)),Rel.val (.slice p2 (aa zb) c2),Rel.nat n,Rel.int z]) (fun W=>Below W0.heap.size W0 W) (fun _ _=>True) (by kernel_rfl) (by kernel_rfl) (by kernel_rfl) trivial (Below.refl _ _).drew ?_ ?_
   · intro ab a W i hI hD hrd him
     obtain ⟨HI,HD,Hr⟩:=ah hI hD hrd;clear hI hrd hD;have y2:a.tmps[2]? = some (.pointer (some ⟨w.heap.size,0,none⟩)):=HI.out.rest 2 (by decide);have y3:a.tmps[3]? = some (.pointer (some ⟨w.heap.size+1,0,none⟩)):=HI.out.rest 3 (by decide);have dK10:=(K1.out.below HI.out.world).cell (i:=0) rfl;have dK20:=(K2.out.below HI.out.world).cell (i:=0) rfl;have dK11:=(K1.out.below HI.out.world).cell (i:=1) rfl;have dK21:=(K2.out.below HI.out.world).cell (i:=1) rfl;have X0:RV _ ab a 0 5 (.pointer (some ⟨w.heap.size,0,none⟩)):=HI.out.rh;have X2:RV _ ab a 2 7 (.pointer (some ⟨w.heap.size+1,0,none⟩)):=HI.out.rh;have X1:RV _ ab a 1 6 (.bool (ai za)):=HI.out.rh;have X3:RV _ ab a 3 8 (.bool (ai zb)):=HI.out.rh;have X5:RV _ ab a 5 10 (.pointer (some ⟨w.heap.size,1,none⟩)):=HI.out.rh;have X7:RV _ ab a 7 12 (.pointer (some ⟨w.heap.size+1,1,none⟩)):=HI.out.rh;have X6:RV _ ab a 6 11 (.slice p1 (aa za) c1):=HI.out.rh;have X8:RV _ ab a 8 13 (.slice p2 (aa zb) c2):=HI.out.rh;have X4:RV _ ab a 4 9 (.bool (ai za != ai zb)):=HI.out.rh
     match i,him,Hr with
     | 0,_,Hi =>
       refine ak rfl fun K' hK=>?_;go_simp;exact hK.out _ _ ⟨HI.out.pv Hi.out rfl,trivial⟩
     | 1,_,Hi =>
       have x0:=X0.g Hi.out (by kernel_rfl);refine ak rfl fun K' hK=>?_;go_simp;exact hK.out _ _ ⟨HI.out.pv Hi.out rfl,trivial⟩
     | 2,_,Hi =>
       refine ak rfl fun K' hK=>?_;go_simp;exact hK.out _ _ ⟨HI.out.pv Hi.out rfl,trivial⟩
     | 3,_,Hi =>
       have x2:=X2.g Hi.out (by kernel_rfl);refine ak rfl fun K' hK=>?_;go_simp;exact hK.out _ _ ⟨HI.out.pv Hi.out rfl,trivial⟩
     | 4,_,Hi =>
       have x1:=X1.g Hi.out (by kernel_rfl);have x3:=X3.g Hi.out (by kernel_rfl);refine ak rfl fun K' hK=>?_;go_simp;exact hK.out _ _ ⟨HI.out.pv Hi.out rfl,trivial⟩
     | 5,_,Hi =>
       refine ak rfl fun K' hK=>?_;go_simp;exact hK.out _ _ ⟨HI.out.pv Hi.out rfl,trivial⟩
     | 6,_,Hi =>
       have x5:=X5.g Hi.out (by kernel_rfl);refine ak rfl fun K' hK=>?_;go_simp;exact hK.out _ _ ⟨HI.out.pv Hi.out rfl,trivial⟩
     | 7,_,Hi =>
       refine ak rfl fun K' hK=>?_;go_simp;exact hK.out _ _ ⟨HI.out.pv Hi.out rfl,trivial⟩
     | 8,_,Hi =>
       have x7:=X7.g Hi.out (by kernel_rfl);refine ak rfl fun K' hK=>?_;go_simp;exact hK.out _ _ ⟨HI.out.pv Hi.out rfl,trivial⟩
     | 9,_,Hi =>
       have x6:=X6.g Hi.out (by kernel_rfl);have x8:=X8.g Hi.out (by kernel_rfl);refine ak rfl fun K' hK=>?_;go_simp;with_reducible refine(C1.out _ _ _ _ _ (R1.out.below HI.out.world) (R2.out.below HI.out.world)).mono ?_
       rintro e W' ⟨u09,u0a,rfl,u0b,hb⟩;exact hK.out _ _ ⟨HI.out.pc Hi.out hb ⟨u09,u0a,rfl,u0b⟩,trivial⟩
     | 10,_,Hi =>
       have x4:=X4.g Hi.out (by kernel_rfl);obtain⟨v',x9,u09,u0a,e,u0b⟩:=HI.out.at (i:=9) Hi.out (by kernel_rfl) (by decide);obtain rfl:=e;have x9:a.tmps[14]? = some (.slice u09 (ag n) u0a):=x9;have u0e:=hid u0b;clear u0b;refine ak rfl fun K' hK=>?_;go_simp;with_reducible refine(C2.out _ _ _ u0e.out).mono ?_
       rintro e W' ⟨u06,u07,rfl,u0d,hb⟩;exact hK.out _ _ ⟨HI.out.pc Hi.out hb ⟨u06,u07,rfl,u0d⟩,trivial⟩
     | n+11,h,_=>exact absurd h (by omega)
   · intro ab a W hI hD hall
     obtain⟨v',x9,u09,u0a,e,u0b⟩:=hI.slots 9 (by decide) (hall 9 (by decide));obtain rfl:=e;have u0e:=hid u0b;clear u0b;obtain⟨v',x10,u06,u07,e,u0d⟩:=hI.slots 10 (by decide) (hall 10 (by decide));obtain rfl:=e;have u0f:=hid u0d;clear u0d;have x10:a.tmps[15]? = some (.agg #[.bool (ai z),.slice u06 (aa z) u07]):=x10;obtain ⟨HBW,HI,HA⟩:=ah hI.world hI hall;clear hI hall;obtain ⟨K3,HBX⟩:=aD (K3.out.below HBW.out) (HB0.out.trans (HBW.out.mono HB0.out.size));have RA:=u0e;have RZ:=u0f;have y4:a.tmps[4]? = some (.pointer (some ⟨w.heap.size+1+1,0,none⟩)):=HI.out.rest 4 (by decide);obtain ⟨dK30,dK31⟩:=aI K3.out rfl rfl;obtain ⟨fK30,fK31⟩:=dU K3.out;refine aS (t:=0) ?_;refine ak rfl fun K' hK=>?_;go_simp;refine hK.out _ _ ?_;clear hK;refine aY ?_;have s0:∀ {v':Value} {n':Nat},RN W v' n'→RN (storeAll W (w.heap.size+1+1) 0 [.bool (ai z),.slice u06 (aa z) u07]) v' n':=fun h'=>aZ _ h' K3.out (by simp[bS]) (by simp[bA]);exact⟨rfl,u09,u0a,u06,u07,(HI.out.finx ⟨HI.out.sx HA.out 0,HI.out.sx HA.out 1,HI.out.sx HA.out 2,HI.out.sx HA.out 3,HI.out.sx HA.out 4,HI.out.sx HA.out 5,HI.out.sx HA.out 6,HI.out.sx HA.out 7,HI.out.sx HA.out 8,x9,x10,trivial⟩ rfl),(av (l:=[.bool (ai z),.slice u06 (aa z) u07]) (i:=0) (by omega) HBX.out),(bz (l:=[.bool (ai z),.slice u06 (aa z) u07]) (i:=0) K3.out),(s0 RZ.out)⟩
 rintro a' W1 ⟨u09,u0a,u06,u07,rfl,z0,z1,z2⟩;obtain ⟨HB1,K3,RZ⟩:=ah z0 z1 z2;clear z0 z1 z2;simp only[putL,List.setIfInBounds_toArray,List.set_cons_zero,List.set_cons_succ];go_wp2;obtain ⟨dK30,dK31⟩:=aI K3.out rfl rfl;exact bodyPost_ret (v:=.agg #[.bool (ai z),.slice u06 (aa z) u07]) (by simp[results,Tryz.results82,go_sem,dK30,dK31]) rfl ⟨_,_,rfl,RZ.out,HB1.out⟩
