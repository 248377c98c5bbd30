/- garboardref02: Plus, Times: walks over the contracts of what they call. -/
import Derived.Test.YthjmjlfnpnbonaaGreatDoorMz19q
import Derived.Deep.DeepCutAuto
set_option maxRecDepth 100000
set_option maxHeartbeats 20000000
open Go.Lib (hid)
namespace Go.Proofs.YthjmjlfnpnbonaaGreatDoor
open Go.RowKit Go.Gb
theorem ZPlus_same (za zb z:Int)(n:Nat)(hs:(zneg za==zneg zb)=true)(p1:Option Addr)(c1:Nat)(p2:Option Addr)(c2:Nat)(w:World)(h1:∀ p1 c1 p2 c2 W,RN W (.slice p1 (zlen za) c1) za.natAbs→RN W (.slice p2 (zlen zb) c2) zb.natAbs→CN 98 #[.slice p1 (zlen za) c1,.slice p2 (zlen zb) c2] W n)(h2:∀ s2 d2 W,RN W (.slice s2 (nlen n) d2) n→CZ 87 #[.bool (zneg za),.slice s2 (nlen n) d2] W z)(r1:RN w (.slice p1 (zlen za) c1) za.natAbs)(r2:RN w (.slice p2 (zlen zb) c2) zb.natAbs) :
 CZ 86 #[.agg #[.bool (zneg za),.slice p1 (zlen za) c1],.agg #[.bool (zneg zb),.slice p2 (zlen zb) c2]] w z:=by
 have C1:=hid h1
 have C2:=hid h2
 have R1:=hid r1
 have R2:=hid r2
 have s0:(zneg za==zneg zb)=true:=hs
 clear hs h1 h2 r1 r2
 go_enter Tryz.func86,Tryz.ntmps86
 go_upto_region 1 with fail
 refine wp_boxes w [(#[.bool (zneg za),.slice p1 (zlen za) c1],51),(#[.bool (zneg zb),.slice p2 (zlen zb) c2],51),(#[.bool false,.slice none 0 0],51)] rfl ?_
 rintro W0 ⟨k1,k2,k3,hb⟩
 have HB0:=hid (show Below w.heap.size w W0 from hb)
 have R1:=hid (R1.out.below HB0.out)
 have R2:=hid (R2.out.below HB0.out)
 have K1:=hid k1
 have K2:=hid k2
 have K3:=hid k3
 clear k1 k2 k3 hb
 have dK10:=K1.out.cell (i:=0) rfl
 have dK20:=K2.out.cell (i:=0) rfl
 go_wp2_with fail
 clear dK10 dK20
 refine wp_region_post (fun a0 a' V=>∃ pw1_6 cw1_6 pw1_7 cw1_7,a'=⟨putL [(10,.pointer (some ⟨w.heap.size,0,none⟩)),(11,.bool (zneg za)),(12,.pointer (some ⟨w.heap.size,1,none⟩)),(13,.slice p1 (zlen za) c1),(14,.pointer (some ⟨w.heap.size+1,1,none⟩)),(15,.slice p2 (zlen zb) c2),(16,.slice pw1_6 (nlen n) cw1_6),(17,.agg #[.bool (zneg z),.slice pw1_7 (zlen z) cw1_7])] a0.tmps,a0.defers⟩∧Below w.heap.size w V∧SBk V (w.heap.size+1+1) #[.bool (zneg z),.slice pw1_7 (zlen z) cw1_7] 51∧RN V (.slice pw1_7 (zlen z) cw1_7) z.natAbs) ?_ ?_
 · refine wp_region_tail_d (by kernel_rfl) 8 1 (fun i=>[10,11,12,13,14,15,16,17].getD i 0) (RelR [Rel.val (.pointer (some ⟨w.heap.size,0,none⟩)),Rel.val (.bool (zneg za)),Rel.val (.pointer (some ⟨w.heap.size,1,none⟩)),Rel.val (.slice p1 (zlen za) c1),Rel.val (.pointer (some ⟨w.heap.size+1,1,none⟩)),Rel.val (.slice p2 (zlen zb) c2),Rel.nat n,Rel.int z]) (fun W=>Below W0.heap.size W0 W) (fun _ _=>True) (by kernel_rfl) (by kernel_rfl) (by kernel_rfl) trivial (Below.refl _ _).drew ?_ ?_
   · intro listed a W i hI hD hrd him
     have HI:=hid hI
     have HD:=hid hD
     have Hr:=hid hrd
     clear hI hrd hD
     have y2:a.tmps[2]? = some (.pointer (some ⟨w.heap.size,0,none⟩)):=HI.out.rest 2 (by decide)
     have y3:a.tmps[3]? = some (.pointer (some ⟨w.heap.size+1,0,none⟩)):=HI.out.rest 3 (by decide)
     have dK10:=(K1.out.below HI.out.world).cell (i:=0) rfl
     have dK11:=(K1.out.below HI.out.world).cell (i:=1) rfl
     have dK21:=(K2.out.below HI.out.world).cell (i:=1) rfl
     have X0:RV _ listed a 0 10 (.pointer (some ⟨w.heap.size,0,none⟩)):=HI.out.rh
     have X2:RV _ listed a 2 12 (.pointer (some ⟨w.heap.size,1,none⟩)):=HI.out.rh
     have X4:RV _ listed a 4 14 (.pointer (some ⟨w.heap.size+1,1,none⟩)):=HI.out.rh
     have X3:RV _ listed a 3 13 (.slice p1 (zlen za) c1):=HI.out.rh
     have X5:RV _ listed a 5 15 (.slice p2 (zlen zb) c2):=HI.out.rh
     have X1:RV _ listed a 1 11 (.bool (zneg za)):=HI.out.rh
     match i,him,Hr with
     | 0,_,Hi =>
       refine stepH rfl fun K' hK=>?_
       go_simp
       exact hK.out _ _ ⟨HI.out.pv Hi.out rfl,trivial⟩
     | 1,_,Hi =>
       have x0:=X0.g Hi.out (by kernel_rfl)
       refine stepH rfl fun K' hK=>?_
       go_simp
       exact hK.out _ _ ⟨HI.out.pv Hi.out rfl,trivial⟩
     | 2,_,Hi =>
       refine stepH rfl fun K' hK=>?_
       go_simp
       exact hK.out _ _ ⟨HI.out.pv Hi.out rfl,trivial⟩
     | 3,_,Hi =>
       have x2:=X2.g Hi.out (by kernel_rfl)
       refine stepH rfl fun K' hK=>?_
       go_simp
       exact hK.out _ _ ⟨HI.out.pv Hi.out rfl,trivial⟩
     | 4,_,Hi =>
       refine stepH rfl fun K' hK=>?_
       go_simp
       exact hK.out _ _ ⟨HI.out.pv Hi.out rfl,trivial⟩
     | 5,_,Hi =>
       have x4:=X4.g Hi.out (by kernel_rfl)
       refine stepH rfl fun K' hK=>?_
       go_simp
       exact hK.out _ _ ⟨HI.out.pv Hi.out rfl,trivial⟩
     | 6,_,Hi =>
       have x3:=X3.g Hi.out (by kernel_rfl)
       have x5:=X5.g Hi.out (by kernel_rfl)
       refine stepH rfl fun K' hK=>?_
       go_simp
       with_reducible refine(C1.out _ _ _ _ _ (R1.out.below HI.out.world) (R2.out.below HI.out.world)).mono ?_
       rintro e W' ⟨pw1_6,cw1_6,rfl,rrw1_6,hb⟩
       exact hK.out _ _ ⟨HI.out.pc Hi.out hb ⟨pw1_6,cw1_6,rfl,rrw1_6⟩,trivial⟩
     | 7,_,Hi =>
       have x1:=X1.g Hi.out (by kernel_rfl)
       obtain⟨v',x6,pw1_6,cw1_6,e,rrw1_6⟩:=HI.out.at (i:=6) Hi.out (by kernel_rfl) (by decide)
       obtain rfl:=e
       have x6:a.tmps[16]? = some (.slice pw1_6 (nlen n) cw1_6):=x6
       have RRW1_6:=hid rrw1_6
       clear rrw1_6
       refine stepH rfl fun K' hK=>?_
       go_simp
       with_reducible refine(C2.out _ _ _ RRW1_6.out).mono ?_
       rintro e W' ⟨pw1_7,cw1_7,rfl,rrw1_7,hb⟩
       exact hK.out _ _ ⟨HI.out.pc Hi.out hb ⟨pw1_7,cw1_7,rfl,rrw1_7⟩,trivial⟩
     | n+8,h,_=>exact absurd h (by omega)
   · intro listed a W hI hD hall
     obtain⟨v',x6,pw1_6,cw1_6,e,rrw1_6⟩:=hI.slots 6 (by decide) (hall 6 (by decide))
     obtain rfl:=e
     have RRW1_6:=hid rrw1_6
     clear rrw1_6
     obtain⟨v',x7,pw1_7,cw1_7,e,rrw1_7⟩:=hI.slots 7 (by decide) (hall 7 (by decide))
     obtain rfl:=e
     have RRW1_7:=hid rrw1_7
     clear rrw1_7
     have x7:a.tmps[17]? = some (.agg #[.bool (zneg z),.slice pw1_7 (zlen z) cw1_7]):=x7
     have HBW:=hid hI.world
     have HI:=hid hI
     have HA:=hid hall
     clear hI hall
     have K3:=hid (K3.out.below HBW.out)
     have HBX:=hid (HB0.out.trans (HBW.out.mono HB0.out.size))
     have RA:=RRW1_6
     have RZ:=RRW1_7
     have y4:a.tmps[4]? = some (.pointer (some ⟨w.heap.size+1+1,0,none⟩)):=HI.out.rest 4 (by decide)
     have dK30:=K3.out.cell (i:=0) rfl
     have fK30:=K3.out.frozen (i:=0)
     have dK31:=K3.out.cell (i:=1) rfl
     have fK31:=K3.out.frozen (i:=1)
     refine tail_succ (t:=0) ?_
     refine stepH rfl fun K' hK=>?_
     go_simp
     refine hK.out _ _ ?_
     clear hK
     refine tail_nil ?_
     have s0:∀ {v':Value} {n':Nat},RN W v' n'→RN (storeAll W (w.heap.size+1+1) 0 [.bool (zneg z),.slice pw1_7 (zlen z) cw1_7]) v' n':=fun h'=>store_rn _ h' K3.out (by simp[noInt]) (by simp[plainV])
     exact⟨rfl,pw1_6,cw1_6,pw1_7,cw1_7,(HI.out.finx ⟨HI.out.sx HA.out 0,HI.out.sx HA.out 1,HI.out.sx HA.out 2,HI.out.sx HA.out 3,HI.out.sx HA.out 4,HI.out.sx HA.out 5,x6,x7,trivial⟩ rfl),(store_below (l:=[.bool (zneg z),.slice pw1_7 (zlen z) cw1_7]) (i:=0) (by omega) HBX.out),(store_blk (l:=[.bool (zneg z),.slice pw1_7 (zlen z) cw1_7]) (i:=0) K3.out),(s0 RZ.out)⟩
 rintro a' W1 ⟨pw1_6,cw1_6,pw1_7,cw1_7,rfl,z0,z1,z2⟩
 have HB1:=hid z0
 have K3:=hid z1
 have RZ:=hid z2
 clear z0 z1 z2
 simp only[putL,List.setIfInBounds_toArray,List.set_cons_zero,List.set_cons_succ]
 go_wp2
 have dK30:=K3.out.cell (i:=0) rfl
 have dK31:=K3.out.cell (i:=1) rfl
 exact bodyPost_ret (v:=.agg #[.bool (zneg z),.slice pw1_7 (zlen z) cw1_7]) (by simp[results,Tryz.results86,go_sem,dK30,dK31]) rfl ⟨_,_,rfl,RZ.out,HB1.out⟩
theorem ZPlus_ge (za zb z:Int)(n:Nat)(k:Int)(hk:0≤k)(hs:(zneg za==zneg zb)=false)(p1:Option Addr)(c1:Nat)(p2:Option Addr)(c2:Nat)(w:World)(h3:∀ p1 c1 p2 c2 W,RN W (.slice p1 (zlen za) c1) za.natAbs→RN W (.slice p2 (zlen zb) c2) zb.natAbs→CR 49 #[.slice p1 (zlen za) c1,.slice p2 (zlen zb) c2] W (.int .i64 k))(h4:∀ p1 c1 p2 c2 W,RN W (.slice p1 (zlen za) c1) za.natAbs→RN W (.slice p2 (zlen zb) c2) zb.natAbs→CN 99 #[.slice p1 (zlen za) c1,.slice p2 (zlen zb) c2] W n)(h2:∀ s2 d2 W,RN W (.slice s2 (nlen n) d2) n→CZ 87 #[.bool (zneg za),.slice s2 (nlen n) d2] W z)(r1:RN w (.slice p1 (zlen za) c1) za.natAbs)(r2:RN w (.slice p2 (zlen zb) c2) zb.natAbs) :
 CZ 86 #[.agg #[.bool (zneg za),.slice p1 (zlen za) c1],.agg #[.bool (zneg zb),.slice p2 (zlen zb) c2]] w z:=by
 have C3:=hid h3
 have C4:=hid h4
 have C2:=hid h2
 have R1:=hid r1
 have R2:=hid r2
 have s0:(zneg za==zneg zb)=false:=hs
 clear hs
 have k0:decide (0≤k)=true:=decide_eq_true hk
 have k1:0≤k:=hk
 clear hk h3 h4 h2 r1 r2
 go_enter Tryz.func86,Tryz.ntmps86
 go_upto_region 1 with fail
 refine wp_boxes w [(#[.bool (zneg za),.slice p1 (zlen za) c1],51),(#[.bool (zneg zb),.slice p2 (zlen zb) c2],51),(#[.bool false,.slice none 0 0],51)] rfl ?_
 rintro W0 ⟨k1,k2,k3,hb⟩
 have HB0:=hid (show Below w.heap.size w W0 from hb)
 have R1:=hid (R1.out.below HB0.out)
 have R2:=hid (R2.out.below HB0.out)
 have K1:=hid k1
 have K2:=hid k2
 have K3:=hid k3
 clear k1 k2 k3 hb
 have dK10:=K1.out.cell (i:=0) rfl
 have dK20:=K2.out.cell (i:=0) rfl
 have dK11:=K1.out.cell (i:=1) rfl
 have dK21:=K2.out.cell (i:=1) rfl
 go_wp2_with fail
 with_reducible refine(C3.out _ _ _ _ _ R1.out R2.out).mono ?_
 rintro e W1 ⟨rfl,hb⟩
 clear dK10 dK20 dK11 dK21
 have K1:=hid (K1.out.below hb)
 have K2:=hid (K2.out.below hb)
 have K3:=hid (K3.out.below hb)
 have R1:=hid (R1.out.below hb)
 have R2:=hid (R2.out.below hb)
 have HB1:=hbt HB0 hb
 clear hb
 go_wp2_with fail
 refine wp_region_post (fun a0 a' V=>∃ pw1_6 cw1_6 pw1_7 cw1_7,a'=⟨putL [(24,.pointer (some ⟨w.heap.size,0,none⟩)),(25,.bool (zneg za)),(26,.pointer (some ⟨w.heap.size,1,none⟩)),(27,.slice p1 (zlen za) c1),(28,.pointer (some ⟨w.heap.size+1,1,none⟩)),(29,.slice p2 (zlen zb) c2),(30,.slice pw1_6 (nlen n) cw1_6),(31,.agg #[.bool (zneg z),.slice pw1_7 (zlen z) cw1_7])] a0.tmps,a0.defers⟩∧Below w.heap.size w V∧SBk V (w.heap.size+1+1) #[.bool (zneg z),.slice pw1_7 (zlen z) cw1_7] 51∧RN V (.slice pw1_7 (zlen z) cw1_7) z.natAbs) ?_ ?_
 · refine wp_region_tail_d (by kernel_rfl) 8 1 (fun i=>[24,25,26,27,28,29,30,31].getD i 0) (RelR [Rel.val (.pointer (some ⟨w.heap.size,0,none⟩)),Rel.val (.bool (zneg za)),Rel.val (.pointer (some ⟨w.heap.size,1,none⟩)),Rel.val (.slice p1 (zlen za) c1),Rel.val (.pointer (some ⟨w.heap.size+1,1,none⟩)),Rel.val (.slice p2 (zlen zb) c2),Rel.nat n,Rel.int z]) (fun W=>Below W1.heap.size W1 W) (fun _ _=>True) (by kernel_rfl) (by kernel_rfl) (by kernel_rfl) trivial (Below.refl _ _).drew ?_ ?_
   · intro listed a W i hI hD hrd him
     have HI:=hid hI
     have HD:=hid hD
     have Hr:=hid hrd
     clear hI hrd hD
     have y2:a.tmps[2]? = some (.pointer (some ⟨w.heap.size,0,none⟩)):=HI.out.rest 2 (by decide)
     have y3:a.tmps[3]? = some (.pointer (some ⟨w.heap.size+1,0,none⟩)):=HI.out.rest 3 (by decide)
     have dK10:=(K1.out.below HI.out.world).cell (i:=0) rfl
     have dK11:=(K1.out.below HI.out.world).cell (i:=1) rfl
     have dK21:=(K2.out.below HI.out.world).cell (i:=1) rfl
     have X0:RV _ listed a 0 24 (.pointer (some ⟨w.heap.size,0,none⟩)):=HI.out.rh
     have X2:RV _ listed a 2 26 (.pointer (some ⟨w.heap.size,1,none⟩)):=HI.out.rh
     have X4:RV _ listed a 4 28 (.pointer (some ⟨w.heap.size+1,1,none⟩)):=HI.out.rh
     have X3:RV _ listed a 3 27 (.slice p1 (zlen za) c1):=HI.out.rh
     have X5:RV _ listed a 5 29 (.slice p2 (zlen zb) c2):=HI.out.rh
     have X1:RV _ listed a 1 25 (.bool (zneg za)):=HI.out.rh
     match i,him,Hr with
     | 0,_,Hi =>
       refine stepH rfl fun K' hK=>?_
       go_simp
       exact hK.out _ _ ⟨HI.out.pv Hi.out rfl,trivial⟩
     | 1,_,Hi =>
       have x0:=X0.g Hi.out (by kernel_rfl)
       refine stepH rfl fun K' hK=>?_
       go_simp
       exact hK.out _ _ ⟨HI.out.pv Hi.out rfl,trivial⟩
     | 2,_,Hi =>
       refine stepH rfl fun K' hK=>?_
       go_simp
       exact hK.out _ _ ⟨HI.out.pv Hi.out rfl,trivial⟩
     | 3,_,Hi =>
       have x2:=X2.g Hi.out (by kernel_rfl)
       refine stepH rfl fun K' hK=>?_
       go_simp
       exact hK.out _ _ ⟨HI.out.pv Hi.out rfl,trivial⟩
     | 4,_,Hi =>
       refine stepH rfl fun K' hK=>?_
       go_simp
       exact hK.out _ _ ⟨HI.out.pv Hi.out rfl,trivial⟩
     | 5,_,Hi =>
       have x4:=X4.g Hi.out (by kernel_rfl)
       refine stepH rfl fun K' hK=>?_
       go_simp
       exact hK.out _ _ ⟨HI.out.pv Hi.out rfl,trivial⟩
     | 6,_,Hi =>
       have x3:=X3.g Hi.out (by kernel_rfl)
       have x5:=X5.g Hi.out (by kernel_rfl)
       refine stepH rfl fun K' hK=>?_
       go_simp
       with_reducible refine(C4.out _ _ _ _ _ (R1.out.below HI.out.world) (R2.out.below HI.out.world)).mono ?_
       rintro e W' ⟨pw1_6,cw1_6,rfl,rrw1_6,hb⟩
       exact hK.out _ _ ⟨HI.out.pc Hi.out hb ⟨pw1_6,cw1_6,rfl,rrw1_6⟩,trivial⟩
     | 7,_,Hi =>
       have x1:=X1.g Hi.out (by kernel_rfl)
       obtain⟨v',x6,pw1_6,cw1_6,e,rrw1_6⟩:=HI.out.at (i:=6) Hi.out (by kernel_rfl) (by decide)
       obtain rfl:=e
       have x6:a.tmps[30]? = some (.slice pw1_6 (nlen n) cw1_6):=x6
       have RRW1_6:=hid rrw1_6
       clear rrw1_6
       refine stepH rfl fun K' hK=>?_
       go_simp
       with_reducible refine(C2.out _ _ _ RRW1_6.out).mono ?_
       rintro e W' ⟨pw1_7,cw1_7,rfl,rrw1_7,hb⟩
       exact hK.out _ _ ⟨HI.out.pc Hi.out hb ⟨pw1_7,cw1_7,rfl,rrw1_7⟩,trivial⟩
     | n+8,h,_=>exact absurd h (by omega)
   · intro listed a W hI hD hall
     obtain⟨v',x6,pw1_6,cw1_6,e,rrw1_6⟩:=hI.slots 6 (by decide) (hall 6 (by decide))
     obtain rfl:=e
     have RRW1_6:=hid rrw1_6
     clear rrw1_6
     obtain⟨v',x7,pw1_7,cw1_7,e,rrw1_7⟩:=hI.slots 7 (by decide) (hall 7 (by decide))
     obtain rfl:=e
     have RRW1_7:=hid rrw1_7
     clear rrw1_7
     have x7:a.tmps[31]? = some (.agg #[.bool (zneg z),.slice pw1_7 (zlen z) cw1_7]):=x7
     have HBW:=hid hI.world
     have HI:=hid hI
     have HA:=hid hall
     clear hI hall
     have K3:=hid (K3.out.below HBW.out)
     have HBX:=hid (HB1.out.trans (HBW.out.mono HB1.out.size))
     have RA:=RRW1_6
     have RZ:=RRW1_7
     have y4:a.tmps[4]? = some (.pointer (some ⟨w.heap.size+1+1,0,none⟩)):=HI.out.rest 4 (by decide)
     have dK30:=K3.out.cell (i:=0) rfl
     have fK30:=K3.out.frozen (i:=0)
     have dK31:=K3.out.cell (i:=1) rfl
     have fK31:=K3.out.frozen (i:=1)
     refine tail_succ (t:=0) ?_
     refine stepH rfl fun K' hK=>?_
     go_simp
     refine hK.out _ _ ?_
     clear hK
     refine tail_nil ?_
     have s0:∀ {v':Value} {n':Nat},RN W v' n'→RN (storeAll W (w.heap.size+1+1) 0 [.bool (zneg z),.slice pw1_7 (zlen z) cw1_7]) v' n':=fun h'=>store_rn _ h' K3.out (by simp[noInt]) (by simp[plainV])
     exact⟨rfl,pw1_6,cw1_6,pw1_7,cw1_7,(HI.out.finx ⟨HI.out.sx HA.out 0,HI.out.sx HA.out 1,HI.out.sx HA.out 2,HI.out.sx HA.out 3,HI.out.sx HA.out 4,HI.out.sx HA.out 5,x6,x7,trivial⟩ rfl),(store_below (l:=[.bool (zneg z),.slice pw1_7 (zlen z) cw1_7]) (i:=0) (by omega) HBX.out),(store_blk (l:=[.bool (zneg z),.slice pw1_7 (zlen z) cw1_7]) (i:=0) K3.out),(s0 RZ.out)⟩
 rintro a' W2 ⟨pw1_6,cw1_6,pw1_7,cw1_7,rfl,z0,z1,z2⟩
 have HB2:=hid z0
 have K3:=hid z1
 have RZ:=hid z2
 clear z0 z1 z2
 simp only[putL,List.setIfInBounds_toArray,List.set_cons_zero,List.set_cons_succ]
 go_wp2
 have dK30:=K3.out.cell (i:=0) rfl
 have dK31:=K3.out.cell (i:=1) rfl
 exact bodyPost_ret (v:=.agg #[.bool (zneg z),.slice pw1_7 (zlen z) cw1_7]) (by simp[results,Tryz.results86,go_sem,dK30,dK31]) rfl ⟨_,_,rfl,RZ.out,HB2.out⟩
theorem ZPlus_lt (za zb z:Int)(n:Nat)(k:Int)(hk:k<0)(hs:(zneg za==zneg zb)=false)(p1:Option Addr)(c1:Nat)(p2:Option Addr)(c2:Nat)(w:World)(h3:∀ p1 c1 p2 c2 W,RN W (.slice p1 (zlen za) c1) za.natAbs→RN W (.slice p2 (zlen zb) c2) zb.natAbs→CR 49 #[.slice p1 (zlen za) c1,.slice p2 (zlen zb) c2] W (.int .i64 k))(h4:∀ p1 c1 p2 c2 W,RN W (.slice p1 (zlen zb) c1) zb.natAbs→RN W (.slice p2 (zlen za) c2) za.natAbs→CN 99 #[.slice p1 (zlen zb) c1,.slice p2 (zlen za) c2] W n)(h2:∀ s2 d2 W,RN W (.slice s2 (nlen n) d2) n→CZ 87 #[.bool (zneg zb),.slice s2 (nlen n) d2] W z)(r1:RN w (.slice p1 (zlen za) c1) za.natAbs)(r2:RN w (.slice p2 (zlen zb) c2) zb.natAbs) :
 CZ 86 #[.agg #[.bool (zneg za),.slice p1 (zlen za) c1],.agg #[.bool (zneg zb),.slice p2 (zlen zb) c2]] w z:=by
 have C3:=hid h3
 have C4:=hid h4
 have C2:=hid h2
 have R1:=hid r1
 have R2:=hid r2
 have s0:(zneg za==zneg zb)=false:=hs
 clear hs
 have k0:decide (0≤k)=false:=decide_eq_false (by omega)
 have k1:¬ 0≤k:=by omega
 clear hk h3 h4 h2 r1 r2
 go_enter Tryz.func86,Tryz.ntmps86
 go_upto_region 1 with fail
 refine wp_boxes w [(#[.bool (zneg za),.slice p1 (zlen za) c1],51),(#[.bool (zneg zb),.slice p2 (zlen zb) c2],51),(#[.bool false,.slice none 0 0],51)] rfl ?_
 rintro W0 ⟨k1,k2,k3,hb⟩
 have HB0:=hid (show Below w.heap.size w W0 from hb)
 have R1:=hid (R1.out.below HB0.out)
 have R2:=hid (R2.out.below HB0.out)
 have K1:=hid k1
 have K2:=hid k2
 have K3:=hid k3
 clear k1 k2 k3 hb
 have dK10:=K1.out.cell (i:=0) rfl
 have dK20:=K2.out.cell (i:=0) rfl
 have dK11:=K1.out.cell (i:=1) rfl
 have dK21:=K2.out.cell (i:=1) rfl
 go_wp2_with fail
 with_reducible refine(C3.out _ _ _ _ _ R1.out R2.out).mono ?_
 rintro e W1 ⟨rfl,hb⟩
 clear dK10 dK20 dK11 dK21
 have K1:=hid (K1.out.below hb)
 have K2:=hid (K2.out.below hb)
 have K3:=hid (K3.out.below hb)
 have R1:=hid (R1.out.below hb)
 have R2:=hid (R2.out.below hb)
 have HB1:=hbt HB0 hb
 clear hb
 go_wp2_with fail
 refine wp_region_post (fun a0 a' V=>∃ pw1_6 cw1_6 pw1_7 cw1_7,a'=⟨putL [(32,.pointer (some ⟨w.heap.size+1,0,none⟩)),(33,.bool (zneg zb)),(34,.pointer (some ⟨w.heap.size+1,1,none⟩)),(35,.slice p2 (zlen zb) c2),(36,.pointer (some ⟨w.heap.size,1,none⟩)),(37,.slice p1 (zlen za) c1),(38,.slice pw1_6 (nlen n) cw1_6),(39,.agg #[.bool (zneg z),.slice pw1_7 (zlen z) cw1_7])] a0.tmps,a0.defers⟩∧Below w.heap.size w V∧SBk V (w.heap.size+1+1) #[.bool (zneg z),.slice pw1_7 (zlen z) cw1_7] 51∧RN V (.slice pw1_7 (zlen z) cw1_7) z.natAbs) ?_ ?_
 · refine wp_region_tail_d (by kernel_rfl) 8 1 (fun i=>[32,33,34,35,36,37,38,39].getD i 0) (RelR [Rel.val (.pointer (some ⟨w.heap.size+1,0,none⟩)),Rel.val (.bool (zneg zb)),Rel.val (.pointer (some ⟨w.heap.size+1,1,none⟩)),Rel.val (.slice p2 (zlen zb) c2),Rel.val (.pointer (some ⟨w.heap.size,1,none⟩)),Rel.val (.slice p1 (zlen za) c1),Rel.nat n,Rel.int z]) (fun W=>Below W1.heap.size W1 W) (fun _ _=>True) (by kernel_rfl) (by kernel_rfl) (by kernel_rfl) trivial (Below.refl _ _).drew ?_ ?_
   · intro listed a W i hI hD hrd him
     have HI:=hid hI
     have HD:=hid hD
     have Hr:=hid hrd
     clear hI hrd hD
     have y3:a.tmps[3]? = some (.pointer (some ⟨w.heap.size+1,0,none⟩)):=HI.out.rest 3 (by decide)
     have y2:a.tmps[2]? = some (.pointer (some ⟨w.heap.size,0,none⟩)):=HI.out.rest 2 (by decide)
     have dK20:=(K2.out.below HI.out.world).cell (i:=0) rfl
     have dK21:=(K2.out.below HI.out.world).cell (i:=1) rfl
     have dK11:=(K1.out.below HI.out.world).cell (i:=1) rfl
     have X0:RV _ listed a 0 32 (.pointer (some ⟨w.heap.size+1,0,none⟩)):=HI.out.rh
     have X2:RV _ listed a 2 34 (.pointer (some ⟨w.heap.size+1,1,none⟩)):=HI.out.rh
     have X4:RV _ listed a 4 36 (.pointer (some ⟨w.heap.size,1,none⟩)):=HI.out.rh
     have X3:RV _ listed a 3 35 (.slice p2 (zlen zb) c2):=HI.out.rh
     have X5:RV _ listed a 5 37 (.slice p1 (zlen za) c1):=HI.out.rh
     have X1:RV _ listed a 1 33 (.bool (zneg zb)):=HI.out.rh
     match i,him,Hr with
     | 0,_,Hi =>
       refine stepH rfl fun K' hK=>?_
       go_simp
       exact hK.out _ _ ⟨HI.out.pv Hi.out rfl,trivial⟩
     | 1,_,Hi =>
       have x0:=X0.g Hi.out (by kernel_rfl)
       refine stepH rfl fun K' hK=>?_
       go_simp
       exact hK.out _ _ ⟨HI.out.pv Hi.out rfl,trivial⟩
     | 2,_,Hi =>
       refine stepH rfl fun K' hK=>?_
       go_simp
       exact hK.out _ _ ⟨HI.out.pv Hi.out rfl,trivial⟩
     | 3,_,Hi =>
       have x2:=X2.g Hi.out (by kernel_rfl)
       refine stepH rfl fun K' hK=>?_
       go_simp
       exact hK.out _ _ ⟨HI.out.pv Hi.out rfl,trivial⟩
     | 4,_,Hi =>
       refine stepH rfl fun K' hK=>?_
       go_simp
       exact hK.out _ _ ⟨HI.out.pv Hi.out rfl,trivial⟩
     | 5,_,Hi =>
       have x4:=X4.g Hi.out (by kernel_rfl)
       refine stepH rfl fun K' hK=>?_
       go_simp
       exact hK.out _ _ ⟨HI.out.pv Hi.out rfl,trivial⟩
     | 6,_,Hi =>
       have x3:=X3.g Hi.out (by kernel_rfl)
       have x5:=X5.g Hi.out (by kernel_rfl)
       refine stepH rfl fun K' hK=>?_
       go_simp
       with_reducible refine(C4.out _ _ _ _ _ (R2.out.below HI.out.world) (R1.out.below HI.out.world)).mono ?_
       rintro e W' ⟨pw1_6,cw1_6,rfl,rrw1_6,hb⟩
       exact hK.out _ _ ⟨HI.out.pc Hi.out hb ⟨pw1_6,cw1_6,rfl,rrw1_6⟩,trivial⟩
     | 7,_,Hi =>
       have x1:=X1.g Hi.out (by kernel_rfl)
       obtain⟨v',x6,pw1_6,cw1_6,e,rrw1_6⟩:=HI.out.at (i:=6) Hi.out (by kernel_rfl) (by decide)
       obtain rfl:=e
       have x6:a.tmps[38]? = some (.slice pw1_6 (nlen n) cw1_6):=x6
       have RRW1_6:=hid rrw1_6
       clear rrw1_6
       refine stepH rfl fun K' hK=>?_
       go_simp
       with_reducible refine(C2.out _ _ _ RRW1_6.out).mono ?_
       rintro e W' ⟨pw1_7,cw1_7,rfl,rrw1_7,hb⟩
       exact hK.out _ _ ⟨HI.out.pc Hi.out hb ⟨pw1_7,cw1_7,rfl,rrw1_7⟩,trivial⟩
     | n+8,h,_=>exact absurd h (by omega)
   · intro listed a W hI hD hall
     obtain⟨v',x6,pw1_6,cw1_6,e,rrw1_6⟩:=hI.slots 6 (by decide) (hall 6 (by decide))
     obtain rfl:=e
     have RRW1_6:=hid rrw1_6
     clear rrw1_6
     obtain⟨v',x7,pw1_7,cw1_7,e,rrw1_7⟩:=hI.slots 7 (by decide) (hall 7 (by decide))
     obtain rfl:=e
     have RRW1_7:=hid rrw1_7
     clear rrw1_7
     have x7:a.tmps[39]? = some (.agg #[.bool (zneg z),.slice pw1_7 (zlen z) cw1_7]):=x7
     have HBW:=hid hI.world
     have HI:=hid hI
     have HA:=hid hall
     clear hI hall
     have K3:=hid (K3.out.below HBW.out)
     have HBX:=hid (HB1.out.trans (HBW.out.mono HB1.out.size))
     have RA:=RRW1_6
     have RZ:=RRW1_7
     have y4:a.tmps[4]? = some (.pointer (some ⟨w.heap.size+1+1,0,none⟩)):=HI.out.rest 4 (by decide)
     have dK30:=K3.out.cell (i:=0) rfl
     have fK30:=K3.out.frozen (i:=0)
     have dK31:=K3.out.cell (i:=1) rfl
     have fK31:=K3.out.frozen (i:=1)
     refine tail_succ (t:=0) ?_
     refine stepH rfl fun K' hK=>?_
     go_simp
     refine hK.out _ _ ?_
     clear hK
     refine tail_nil ?_
     have s0:∀ {v':Value} {n':Nat},RN W v' n'→RN (storeAll W (w.heap.size+1+1) 0 [.bool (zneg z),.slice pw1_7 (zlen z) cw1_7]) v' n':=fun h'=>store_rn _ h' K3.out (by simp[noInt]) (by simp[plainV])
     exact⟨rfl,pw1_6,cw1_6,pw1_7,cw1_7,(HI.out.finx ⟨HI.out.sx HA.out 0,HI.out.sx HA.out 1,HI.out.sx HA.out 2,HI.out.sx HA.out 3,HI.out.sx HA.out 4,HI.out.sx HA.out 5,x6,x7,trivial⟩ rfl),(store_below (l:=[.bool (zneg z),.slice pw1_7 (zlen z) cw1_7]) (i:=0) (by omega) HBX.out),(store_blk (l:=[.bool (zneg z),.slice pw1_7 (zlen z) cw1_7]) (i:=0) K3.out),(s0 RZ.out)⟩
 rintro a' W2 ⟨pw1_6,cw1_6,pw1_7,cw1_7,rfl,z0,z1,z2⟩
 have HB2:=hid z0
 have K3:=hid z1
 have RZ:=hid z2
 clear z0 z1 z2
 simp only[putL,List.setIfInBounds_toArray,List.set_cons_zero,List.set_cons_succ]
 go_wp2
 have dK30:=K3.out.cell (i:=0) rfl
 have dK31:=K3.out.cell (i:=1) rfl
 exact bodyPost_ret (v:=.agg #[.bool (zneg z),.slice pw1_7 (zlen z) cw1_7]) (by simp[results,Tryz.results86,go_sem,dK30,dK31]) rfl ⟨_,_,rfl,RZ.out,HB2.out⟩
theorem ZTimes_any (za zb z:Int)(n:Nat)(p1:Option Addr)(c1:Nat)(p2:Option Addr)(c2:Nat)(w:World)(h1:∀ p1 c1 p2 c2 W,RN W (.slice p1 (zlen za) c1) za.natAbs→RN W (.slice p2 (zlen zb) c2) zb.natAbs→CN 83 #[.slice p1 (zlen za) c1,.slice p2 (zlen zb) c2] W n)(h2:∀ s2 d2 W,RN W (.slice s2 (nlen n) d2) n→CZ 87 #[.bool (zneg za != zneg zb),.slice s2 (nlen n) d2] W z)(r1:RN w (.slice p1 (zlen za) c1) za.natAbs)(r2:RN w (.slice p2 (zlen zb) c2) zb.natAbs) :
 CZ 82 #[.agg #[.bool (zneg za),.slice p1 (zlen za) c1],.agg #[.bool (zneg zb),.slice p2 (zlen zb) c2]] w z:=by
 have C1:=hid h1
 have C2:=hid h2
 have R1:=hid r1
 have R2:=hid r2
 clear h1 h2 r1 r2
 go_enter Tryz.func82,Tryz.ntmps82
 go_upto_region 1 with fail
 refine wp_boxes w [(#[.bool (zneg za),.slice p1 (zlen za) c1],51),(#[.bool (zneg zb),.slice p2 (zlen zb) c2],51),(#[.bool false,.slice none 0 0],51)] rfl ?_
 rintro W0 ⟨k1,k2,k3,hb⟩
 have HB0:=hid (show Below w.heap.size w W0 from hb)
 have R1:=hid (R1.out.below HB0.out)
 have R2:=hid (R2.out.below HB0.out)
 have K1:=hid k1
 have K2:=hid k2
 have K3:=hid k3
 clear k1 k2 k3 hb
 go_wp2_with fail
 refine wp_region_post (fun a0 a' V=>∃ pw1_9 cw1_9 pw1_10 cw1_10,a'=⟨putL [(5,.pointer (some ⟨w.heap.size,0,none⟩)),(6,.bool (zneg za)),(7,.pointer (some ⟨w.heap.size+1,0,none⟩)),(8,.bool (zneg zb)),(9,.bool (zneg za != zneg zb)),(10,.pointer (some ⟨w.heap.size,1,none⟩)),(11,.slice p1 (zlen za) c1),(12,.pointer (some ⟨w.heap.size+1,1,none⟩)),(13,.slice p2 (zlen zb) c2),(14,.slice pw1_9 (nlen n) cw1_9),(15,.agg #[.bool (zneg z),.slice pw1_10 (zlen z) cw1_10])] a0.tmps,a0.defers⟩∧Below w.heap.size w V∧SBk V (w.heap.size+1+1) #[.bool (zneg z),.slice pw1_10 (zlen z) cw1_10] 51∧RN V (.slice pw1_10 (zlen z) cw1_10) z.natAbs) ?_ ?_
 · refine wp_region_tail_d (by kernel_rfl) 11 1 (fun i=>[5,6,7,8,9,10,11,12,13,14,15].getD i 0) (RelR [Rel.val (.pointer (some ⟨w.heap.size,0,none⟩)),Rel.val (.bool (zneg za)),Rel.val (.pointer (some ⟨w.heap.size+1,0,none⟩)),Rel.val (.bool (zneg zb)),Rel.val (.bool (zneg za != zneg zb)),Rel.val (.pointer (some ⟨w.heap.size,1,none⟩)),Rel.val (.slice p1 (zlen za) c1),Rel.val (.pointer (some ⟨w.heap.size+1,1,none⟩)),Rel.val (.slice p2 (zlen zb) c2),Rel.nat n,Rel.int z]) (fun W=>Below W0.heap.size W0 W) (fun _ _=>True) (by kernel_rfl) (by kernel_rfl) (by kernel_rfl) trivial (Below.refl _ _).drew ?_ ?_
   · intro listed a W i hI hD hrd him
     have HI:=hid hI
     have HD:=hid hD
     have Hr:=hid hrd
     clear hI hrd hD
     have y2:a.tmps[2]? = some (.pointer (some ⟨w.heap.size,0,none⟩)):=HI.out.rest 2 (by decide)
     have y3:a.tmps[3]? = some (.pointer (some ⟨w.heap.size+1,0,none⟩)):=HI.out.rest 3 (by decide)
     have dK10:=(K1.out.below HI.out.world).cell (i:=0) rfl
     have dK20:=(K2.out.below HI.out.world).cell (i:=0) rfl
     have dK11:=(K1.out.below HI.out.world).cell (i:=1) rfl
     have dK21:=(K2.out.below HI.out.world).cell (i:=1) rfl
     have X0:RV _ listed a 0 5 (.pointer (some ⟨w.heap.size,0,none⟩)):=HI.out.rh
     have X2:RV _ listed a 2 7 (.pointer (some ⟨w.heap.size+1,0,none⟩)):=HI.out.rh
     have X1:RV _ listed a 1 6 (.bool (zneg za)):=HI.out.rh
     have X3:RV _ listed a 3 8 (.bool (zneg zb)):=HI.out.rh
     have X5:RV _ listed a 5 10 (.pointer (some ⟨w.heap.size,1,none⟩)):=HI.out.rh
     have X7:RV _ listed a 7 12 (.pointer (some ⟨w.heap.size+1,1,none⟩)):=HI.out.rh
     have X6:RV _ listed a 6 11 (.slice p1 (zlen za) c1):=HI.out.rh
     have X8:RV _ listed a 8 13 (.slice p2 (zlen zb) c2):=HI.out.rh
     have X4:RV _ listed a 4 9 (.bool (zneg za != zneg zb)):=HI.out.rh
     match i,him,Hr with
     | 0,_,Hi =>
       refine stepH rfl fun K' hK=>?_
       go_simp
       exact hK.out _ _ ⟨HI.out.pv Hi.out rfl,trivial⟩
     | 1,_,Hi =>
       have x0:=X0.g Hi.out (by kernel_rfl)
       refine stepH rfl fun K' hK=>?_
       go_simp
       exact hK.out _ _ ⟨HI.out.pv Hi.out rfl,trivial⟩
     | 2,_,Hi =>
       refine stepH rfl fun K' hK=>?_
       go_simp
       exact hK.out _ _ ⟨HI.out.pv Hi.out rfl,trivial⟩
     | 3,_,Hi =>
       have x2:=X2.g Hi.out (by kernel_rfl)
       refine stepH rfl fun K' hK=>?_
       go_simp
       exact hK.out _ _ ⟨HI.out.pv Hi.out rfl,trivial⟩
     | 4,_,Hi =>
       have x1:=X1.g Hi.out (by kernel_rfl)
       have x3:=X3.g Hi.out (by kernel_rfl)
       refine stepH rfl fun K' hK=>?_
       go_simp
       exact hK.out _ _ ⟨HI.out.pv Hi.out rfl,trivial⟩
     | 5,_,Hi =>
       refine stepH rfl fun K' hK=>?_
       go_simp
       exact hK.out _ _ ⟨HI.out.pv Hi.out rfl,trivial⟩
     | 6,_,Hi =>
       have x5:=X5.g Hi.out (by kernel_rfl)
       refine stepH rfl fun K' hK=>?_
       go_simp
       exact hK.out _ _ ⟨HI.out.pv Hi.out rfl,trivial⟩
     | 7,_,Hi =>
       refine stepH rfl fun K' hK=>?_
       go_simp
       exact hK.out _ _ ⟨HI.out.pv Hi.out rfl,trivial⟩
     | 8,_,Hi =>
       have x7:=X7.g Hi.out (by kernel_rfl)
       refine stepH rfl fun K' hK=>?_
       go_simp
       exact hK.out _ _ ⟨HI.out.pv Hi.out rfl,trivial⟩
     | 9,_,Hi =>
       have x6:=X6.g Hi.out (by kernel_rfl)
       have x8:=X8.g Hi.out (by kernel_rfl)
       refine stepH rfl fun K' hK=>?_
       go_simp
       with_reducible refine(C1.out _ _ _ _ _ (R1.out.below HI.out.world) (R2.out.below HI.out.world)).mono ?_
       rintro e W' ⟨pw1_9,cw1_9,rfl,rrw1_9,hb⟩
       exact hK.out _ _ ⟨HI.out.pc Hi.out hb ⟨pw1_9,cw1_9,rfl,rrw1_9⟩,trivial⟩
     | 10,_,Hi =>
       have x4:=X4.g Hi.out (by kernel_rfl)
       obtain⟨v',x9,pw1_9,cw1_9,e,rrw1_9⟩:=HI.out.at (i:=9) Hi.out (by kernel_rfl) (by decide)
       obtain rfl:=e
       have x9:a.tmps[14]? = some (.slice pw1_9 (nlen n) cw1_9):=x9
       have RRW1_9:=hid rrw1_9
       clear rrw1_9
       refine stepH rfl fun K' hK=>?_
       go_simp
       with_reducible refine(C2.out _ _ _ RRW1_9.out).mono ?_
       rintro e W' ⟨pw1_10,cw1_10,rfl,rrw1_10,hb⟩
       exact hK.out _ _ ⟨HI.out.pc Hi.out hb ⟨pw1_10,cw1_10,rfl,rrw1_10⟩,trivial⟩
     | n+11,h,_=>exact absurd h (by omega)
   · intro listed a W hI hD hall
     obtain⟨v',x9,pw1_9,cw1_9,e,rrw1_9⟩:=hI.slots 9 (by decide) (hall 9 (by decide))
     obtain rfl:=e
     have RRW1_9:=hid rrw1_9
     clear rrw1_9
     obtain⟨v',x10,pw1_10,cw1_10,e,rrw1_10⟩:=hI.slots 10 (by decide) (hall 10 (by decide))
     obtain rfl:=e
     have RRW1_10:=hid rrw1_10
     clear rrw1_10
     have x10:a.tmps[15]? = some (.agg #[.bool (zneg z),.slice pw1_10 (zlen z) cw1_10]):=x10
     have HBW:=hid hI.world
     have HI:=hid hI
     have HA:=hid hall
     clear hI hall
     have K3:=hid (K3.out.below HBW.out)
     have HBX:=hid (HB0.out.trans (HBW.out.mono HB0.out.size))
     have RA:=RRW1_9
     have RZ:=RRW1_10
     have y4:a.tmps[4]? = some (.pointer (some ⟨w.heap.size+1+1,0,none⟩)):=HI.out.rest 4 (by decide)
     have dK30:=K3.out.cell (i:=0) rfl
     have fK30:=K3.out.frozen (i:=0)
     have dK31:=K3.out.cell (i:=1) rfl
     have fK31:=K3.out.frozen (i:=1)
     refine tail_succ (t:=0) ?_
     refine stepH rfl fun K' hK=>?_
     go_simp
     refine hK.out _ _ ?_
     clear hK
     refine tail_nil ?_
     have s0:∀ {v':Value} {n':Nat},RN W v' n'→RN (storeAll W (w.heap.size+1+1) 0 [.bool (zneg z),.slice pw1_10 (zlen z) cw1_10]) v' n':=fun h'=>store_rn _ h' K3.out (by simp[noInt]) (by simp[plainV])
     exact⟨rfl,pw1_9,cw1_9,pw1_10,cw1_10,(HI.out.finx ⟨HI.out.sx HA.out 0,HI.out.sx HA.out 1,HI.out.sx HA.out 2,HI.out.sx HA.out 3,HI.out.sx HA.out 4,HI.out.sx HA.out 5,HI.out.sx HA.out 6,HI.out.sx HA.out 7,HI.out.sx HA.out 8,x9,x10,trivial⟩ rfl),(store_below (l:=[.bool (zneg z),.slice pw1_10 (zlen z) cw1_10]) (i:=0) (by omega) HBX.out),(store_blk (l:=[.bool (zneg z),.slice pw1_10 (zlen z) cw1_10]) (i:=0) K3.out),(s0 RZ.out)⟩
 rintro a' W1 ⟨pw1_9,cw1_9,pw1_10,cw1_10,rfl,z0,z1,z2⟩
 have HB1:=hid z0
 have K3:=hid z1
 have RZ:=hid z2
 clear z0 z1 z2
 simp only[putL,List.setIfInBounds_toArray,List.set_cons_zero,List.set_cons_succ]
 go_wp2
 have dK30:=K3.out.cell (i:=0) rfl
 have dK31:=K3.out.cell (i:=1) rfl
 exact bodyPost_ret (v:=.agg #[.bool (zneg z),.slice pw1_10 (zlen z) cw1_10]) (by simp[results,Tryz.results82,go_sem,dK30,dK31]) rfl ⟨_,_,rfl,RZ.out,HB1.out⟩
end Go.Proofs.YthjmjlfnpnbonaaGreatDoor
