/- Texts of this proof, one behind the other. -/
import Derived.Test.YthjmjlfnpnbonaaGreatDoorMz25q
set_option maxRecDepth 100000
set_option maxHeartbeats 20000000
open Go.Lib (hid)
namespace Go.Proofs.YthjmjlfnpnbonaaGreatDoor
open Go.RowKit Go.Gb
theorem qInt_raw (k n:Int)(dn:Nat)  (w:World)(h1:∀ W,CZ 68 #[.int .i64 k] W n)(h2:∀ W,CN 48 #[.int .u32 1] W dn)  :
 CF 45 #[.int .i64 k] w n dn:=by
 have C1:=hid h1
 have C2:=hid h2
 clear h1 h2
 go_enter Tryz.func45,Tryz.ntmps45
 go_upto_region 1 with fail
 refine wp_boxes w [(#[.bool false,.slice none 0 0,.slice none 0 0],53)] rfl ?_
 rintro W0 ⟨k1,hb⟩
 have HB0:=hid (show Below w.heap.size w W0 from hb)
 have K1:=hid k1
 clear k1 hb
 go_wp2_with fail
 with_reducible refine(C1.out _).mono ?_
 rintro e W1 ⟨p_1,c_1,rfl,r1_0,hb⟩
 have K1:=hid (K1.out.below hb)
 have HB1:=hbt HB0 hb
 have RN1:=hid r1_0
 clear hb r1_0
 go_wp2_with fail
 with_reducible refine(C2.out _).mono ?_
 rintro e W2 ⟨p_2,c_2,rfl,r2_0,hb⟩
 have K1:=hid (K1.out.below hb)
 have RN1:=hid (RN1.out.below hb)
 have HB2:=hbt HB1 hb
 have RD1:=hid r2_0
 clear hb r2_0
 have dK10:=K1.out.cell (i:=0) rfl
 have dK11:=K1.out.cell (i:=1) rfl
 have dK12:=K1.out.cell (i:=2) rfl
 have fK10:=K1.out.frozen (i:=0)
 have fK11:=K1.out.frozen (i:=1)
 have fK12:=K1.out.frozen (i:=2)
 go_wp2
 exact bodyPost_ret (v:=.agg #[.bool (zneg n),.slice p_1 (zlen n) c_1,.slice p_2 (nlen dn) c_2]) (by simp[results,Tryz.results45,go_sem,dK10,dK11,dK12]) rfl ⟨_,_,_,_,rfl,(store_rn [.bool (zneg n),.slice p_1 (zlen n) c_1,.slice p_2 (nlen dn) c_2] RN1.out K1.out (by simp[noInt]) (by simp[plainV])),(store_rn [.bool (zneg n),.slice p_1 (zlen n) c_1,.slice p_2 (nlen dn) c_2] RD1.out K1.out (by simp[noInt]) (by simp[plainV])),(store_below (l:=[.bool (zneg n),.slice p_1 (zlen n) c_1,.slice p_2 (nlen dn) c_2]) (i:=0) (by omega) HB2.out)⟩
theorem qNeg_raw (n m:Int)(en:Nat)(p1:Option Addr)(c1:Nat)(s1:Option Addr)(d1:Nat)(w:World)(h1:∀ p1 c1 W,RN W (.slice p1 (zlen n) c1) n.natAbs→CZ 90 #[.agg #[.bool (zneg n),.slice p1 (zlen n) c1]] W m)(r1:RN w (.slice p1 (zlen n) c1) n.natAbs)(t1:RN w (.slice s1 (nlen en) d1) en) :
 CF 73 #[.agg #[.bool (zneg n),.slice p1 (zlen n) c1,.slice s1 (nlen en) d1]] w m en:=by
 have C1:=hid h1
 have R1:=hid r1
 have T1:=hid t1
 clear h1 r1 t1
 go_enter Tryz.func73,Tryz.ntmps73
 go_upto_region 1 with fail
 refine wp_boxes w [(#[.bool (zneg n),.slice p1 (zlen n) c1,.slice s1 (nlen en) d1],53),(#[.bool false,.slice none 0 0,.slice none 0 0],53)] rfl ?_
 rintro W0 ⟨k1,k2,hb⟩
 have HB0:=hid (show Below w.heap.size w W0 from hb)
 have R1:=hid (R1.out.below HB0.out)
 have T1:=hid (T1.out.below HB0.out)
 have K1:=hid k1
 have K2:=hid k2
 clear k1 k2 hb
 go_wp2_with fail
 refine wp_region_post (fun a0 a' V=>∃ pw1_2 cw1_2 paw1_5 caw1_5,a'=⟨putL [(3,.pointer (some ⟨w.heap.size,0,none⟩)),(4,.agg #[.bool (zneg n),.slice p1 (zlen n) c1]),(5,.agg #[.bool (zneg m),.slice pw1_2 (zlen m) cw1_2]),(6,.pointer (some ⟨w.heap.size,2,none⟩)),(7,.slice s1 (nlen en) d1),(8,.agg #[.bool (zneg m),.slice paw1_5 (zlen m) caw1_5,.slice s1 (nlen en) d1])] a0.tmps,a0.defers⟩∧Below w.heap.size w V∧SBk V (w.heap.size+1) #[.bool (zneg m),.slice paw1_5 (zlen m) caw1_5,.slice s1 (nlen en) d1] 53∧RN V (.slice s1 (nlen en) d1) en∧RN V (.slice paw1_5 (zlen m) caw1_5) m.natAbs) ?_ ?_
 · refine wp_region_tail_d (by kernel_rfl) 6 1 (fun i=>[3,4,5,6,7,8].getD i 0) (RelR [Rel.val (.pointer (some ⟨w.heap.size,0,none⟩)),Rel.val (.agg #[.bool (zneg n),.slice p1 (zlen n) c1]),Rel.int m,Rel.val (.pointer (some ⟨w.heap.size,2,none⟩)),Rel.val (.slice s1 (nlen en) d1),⟨fun v W=>∃ pa ca,v=.agg #[.bool (zneg m),.slice pa (zlen m) ca,.slice s1 (nlen en) d1]∧RN W (.slice pa (zlen m) ca) m.natAbs,fun _ _ _ ⟨pa,ca,e,h0⟩ hb=>⟨pa,ca,e,h0.below hb⟩⟩]) (fun W=>Below W0.heap.size W0 W) (fun _ _=>True) (by kernel_rfl) (by kernel_rfl) (by kernel_rfl) trivial (Below.refl _ _).drew ?_ ?_
   · intro listed a W i hI hD hrd him
     have HI:=hid hI
     have HD:=hid hD
     have Hr:=hid hrd
     clear hI hrd hD
     have y1:a.tmps[1]? = some (.pointer (some ⟨w.heap.size,0,none⟩)):=HI.out.rest 1 (by decide)
     have dK10:=(K1.out.below HI.out.world).cell (i:=0) rfl
     have dK11:=(K1.out.below HI.out.world).cell (i:=1) rfl
     have dK12:=(K1.out.below HI.out.world).cell (i:=2) rfl
     have X0:RV _ listed a 0 3 (.pointer (some ⟨w.heap.size,0,none⟩)):=HI.out.rh
     have X1:RV _ listed a 1 4 (.agg #[.bool (zneg n),.slice p1 (zlen n) c1]):=HI.out.rh
     have X3:RV _ listed a 3 6 (.pointer (some ⟨w.heap.size,2,none⟩)):=HI.out.rh
     have X4:RV _ listed a 4 7 (.slice s1 (nlen en) d1):=HI.out.rh
     match i,him,Hr with
     | 0,_,Hi =>
       refine stepH rfl fun K' hK=>?_
       go_simp
       exact hK.out _ _ ⟨HI.out.pv Hi.out rfl,trivial⟩
     | 1,_,Hi =>
       have x0:=X0.g Hi.out (by kernel_rfl)
       refine stepH rfl fun K' hK=>?_
       go_simp
       exact hK.out _ _ ⟨HI.out.pv Hi.out rfl,trivial⟩
     | 2,_,Hi =>
       have x1:=X1.g Hi.out (by kernel_rfl)
       refine stepH rfl fun K' hK=>?_
       go_simp
       with_reducible refine(C1.out _ _ _ (R1.out.below HI.out.world)).mono ?_
       rintro e W' ⟨pw1_2,cw1_2,rfl,rrw1_2,hb⟩
       exact hK.out _ _ ⟨HI.out.pc Hi.out hb ⟨pw1_2,cw1_2,rfl,rrw1_2⟩,trivial⟩
     | 3,_,Hi =>
       refine stepH rfl fun K' hK=>?_
       go_simp
       exact hK.out _ _ ⟨HI.out.pv Hi.out rfl,trivial⟩
     | 4,_,Hi =>
       have x3:=X3.g Hi.out (by kernel_rfl)
       refine stepH rfl fun K' hK=>?_
       go_simp
       exact hK.out _ _ ⟨HI.out.pv Hi.out rfl,trivial⟩
     | 5,_,Hi =>
       obtain⟨v',x2,pw1_2,cw1_2,e,rrw1_2⟩:=HI.out.at (i:=2) Hi.out (by kernel_rfl) (by decide)
       obtain rfl:=e
       have x2:a.tmps[5]? = some (.agg #[.bool (zneg m),.slice pw1_2 (zlen m) cw1_2]):=x2
       have RRW1_2:=hid rrw1_2
       clear rrw1_2
       have x4:=X4.g Hi.out (by kernel_rfl)
       refine stepH rfl fun K' hK=>?_
       go_simp
       exact hK.out _ _ ⟨HI.out.pv Hi.out ⟨pw1_2,cw1_2,rfl,RRW1_2.out⟩,trivial⟩
     | n+6,h,_=>exact absurd h (by omega)
   · intro listed a W hI hD hall
     obtain⟨v',x2,pw1_2,cw1_2,e,rrw1_2⟩:=hI.slots 2 (by decide) (hall 2 (by decide))
     obtain rfl:=e
     have RRW1_2:=hid rrw1_2
     clear rrw1_2
     obtain⟨v',x5,paw1_5,caw1_5,e,rrw1_5⟩:=hI.slots 5 (by decide) (hall 5 (by decide))
     obtain rfl:=e
     have RRW1_5:=hid rrw1_5
     clear rrw1_5
     have x5:a.tmps[8]? = some (.agg #[.bool (zneg m),.slice paw1_5 (zlen m) caw1_5,.slice s1 (nlen en) d1]):=x5
     have HBW:=hid hI.world
     have HI:=hid hI
     have HA:=hid hall
     clear hI hall
     have K2:=hid (K2.out.below HBW.out)
     have T1:=hid (T1.out.below HBW.out)
     have HBX:=hid (HB0.out.trans (HBW.out.mono HB0.out.size))
     have RM:=RRW1_2
     have RMb:=RRW1_5
     have y2:a.tmps[2]? = some (.pointer (some ⟨w.heap.size+1,0,none⟩)):=HI.out.rest 2 (by decide)
     have dK20:=K2.out.cell (i:=0) rfl
     have fK20:=K2.out.frozen (i:=0)
     have dK21:=K2.out.cell (i:=1) rfl
     have fK21:=K2.out.frozen (i:=1)
     have dK22:=K2.out.cell (i:=2) rfl
     have fK22:=K2.out.frozen (i:=2)
     refine tail_succ (t:=0) ?_
     refine stepH rfl fun K' hK=>?_
     go_simp
     refine hK.out _ _ ?_
     clear hK
     refine tail_nil ?_
     have s0:∀ {v':Value} {n':Nat},RN W v' n'→RN (storeAll W (w.heap.size+1) 0 [.bool (zneg m),.slice paw1_5 (zlen m) caw1_5,.slice s1 (nlen en) d1]) v' n':=fun h'=>store_rn _ h' K2.out (by simp[noInt]) (by simp[plainV])
     exact⟨rfl,pw1_2,cw1_2,paw1_5,caw1_5,(HI.out.finx ⟨HI.out.sx HA.out 0,HI.out.sx HA.out 1,x2,HI.out.sx HA.out 3,HI.out.sx HA.out 4,x5,trivial⟩ rfl),(store_below (l:=[.bool (zneg m),.slice paw1_5 (zlen m) caw1_5,.slice s1 (nlen en) d1]) (i:=0) (by omega) HBX.out),(store_blk (l:=[.bool (zneg m),.slice paw1_5 (zlen m) caw1_5,.slice s1 (nlen en) d1]) (i:=0) K2.out),(s0 T1.out),(s0 RMb.out)⟩
 rintro a' W1 ⟨pw1_2,cw1_2,paw1_5,caw1_5,rfl,z0,z1,z2,z3⟩
 have HB1:=hid z0
 have K2:=hid z1
 have T1:=hid z2
 have RMb:=hid z3
 clear z0 z1 z2 z3
 simp only[putL,List.setIfInBounds_toArray,List.set_cons_zero,List.set_cons_succ]
 go_wp2
 have dK20:=K2.out.cell (i:=0) rfl
 have dK21:=K2.out.cell (i:=1) rfl
 have dK22:=K2.out.cell (i:=2) rfl
 exact bodyPost_ret (v:=.agg #[.bool (zneg m),.slice paw1_5 (zlen m) caw1_5,.slice s1 (nlen en) d1]) (by simp[results,Tryz.results73,go_sem,dK20,dK21,dK22]) rfl ⟨_,_,_,_,rfl,RMb.out,T1.out,HB1.out⟩
theorem qMul_raw (n1 n2 z n:Int)(en1 en2 en dn:Nat)(p1:Option Addr)(c1:Nat)(s1:Option Addr)(d1:Nat)(p2:Option Addr)(c2:Nat)(s2:Option Addr)(d2:Nat)(w:World)(h1:∀ p1 c1 p2 c2 W,RN W (.slice p1 (zlen n1) c1) n1.natAbs→RN W (.slice p2 (zlen n2) c2) n2.natAbs→CZ 82 #[.agg #[.bool (zneg n1),.slice p1 (zlen n1) c1],.agg #[.bool (zneg n2),.slice p2 (zlen n2) c2]] W z)(h2:∀ s1 d1 s2 d2 W,RN W (.slice s1 (nlen en1) d1) en1→RN W (.slice s2 (nlen en2) d2) en2→CN 83 #[.slice s1 (nlen en1) d1,.slice s2 (nlen en2) d2] W en)(h3:∀ p1 c1 s2 d2 W,RN W (.slice p1 (zlen z) c1) z.natAbs→RN W (.slice s2 (nlen en) d2) en→CF 81 #[.agg #[.bool (zneg z),.slice p1 (zlen z) c1],.slice s2 (nlen en) d2] W n dn)(r1:RN w (.slice p1 (zlen n1) c1) n1.natAbs)(t1:RN w (.slice s1 (nlen en1) d1) en1)(r2:RN w (.slice p2 (zlen n2) c2) n2.natAbs)(t2:RN w (.slice s2 (nlen en2) d2) en2) :
 CF 61 #[.agg #[.bool (zneg n1),.slice p1 (zlen n1) c1,.slice s1 (nlen en1) d1],.agg #[.bool (zneg n2),.slice p2 (zlen n2) c2,.slice s2 (nlen en2) d2]] w n dn:=by
 have C1:=hid h1
 have C2:=hid h2
 have C3:=hid h3
 have R1:=hid r1
 have T1:=hid t1
 have R2:=hid r2
 have T2:=hid t2
 clear h1 h2 h3 r1 t1 r2 t2
 go_enter Tryz.func61,Tryz.ntmps61
 go_upto_region 1 with fail
 refine wp_boxes w [(#[.bool (zneg n1),.slice p1 (zlen n1) c1,.slice s1 (nlen en1) d1],53),(#[.bool (zneg n2),.slice p2 (zlen n2) c2,.slice s2 (nlen en2) d2],53),(#[.bool false,.slice none 0 0,.slice none 0 0],53)] rfl ?_
 rintro W0 ⟨k1,k2,k3,hb⟩
 have HB0:=hid (show Below w.heap.size w W0 from hb)
 have R1:=hid (R1.out.below HB0.out)
 have T1:=hid (T1.out.below HB0.out)
 have R2:=hid (R2.out.below HB0.out)
 have T2:=hid (T2.out.below HB0.out)
 have K1:=hid k1
 have K2:=hid k2
 have K3:=hid k3
 clear k1 k2 k3 hb
 go_wp2_with fail
 refine wp_region_post (fun a0 a' V=>∃ pw1_4 cw1_4 pw1_9 cw1_9 pw1_10 cw1_10 sw1_10 dw1_10,a'=⟨putL [(5,.pointer (some ⟨w.heap.size,0,none⟩)),(6,.agg #[.bool (zneg n1),.slice p1 (zlen n1) c1]),(7,.pointer (some ⟨w.heap.size+1,0,none⟩)),(8,.agg #[.bool (zneg n2),.slice p2 (zlen n2) c2]),(9,.agg #[.bool (zneg z),.slice pw1_4 (zlen z) cw1_4]),(10,.pointer (some ⟨w.heap.size,2,none⟩)),(11,.slice s1 (nlen en1) d1),(12,.pointer (some ⟨w.heap.size+1,2,none⟩)),(13,.slice s2 (nlen en2) d2),(14,.slice pw1_9 (nlen en) cw1_9),(15,.agg #[.bool (zneg (n)),.slice pw1_10 (zlen (n)) cw1_10,.slice sw1_10 (nlen (dn)) dw1_10])] a0.tmps,a0.defers⟩∧Below w.heap.size w V∧SBk V (w.heap.size+1+1) #[.bool (zneg (n)),.slice pw1_10 (zlen (n)) cw1_10,.slice sw1_10 (nlen (dn)) dw1_10] 53∧RN V (.slice pw1_10 (zlen (n)) cw1_10) (n).natAbs∧RN V (.slice sw1_10 (nlen (dn)) dw1_10) (dn)) ?_ ?_
 · refine wp_region_tail_d (by kernel_rfl) 11 1 (fun i=>[5,6,7,8,9,10,11,12,13,14,15].getD i 0) (RelR [Rel.val (.pointer (some ⟨w.heap.size,0,none⟩)),Rel.val (.agg #[.bool (zneg n1),.slice p1 (zlen n1) c1]),Rel.val (.pointer (some ⟨w.heap.size+1,0,none⟩)),Rel.val (.agg #[.bool (zneg n2),.slice p2 (zlen n2) c2]),Rel.int z,Rel.val (.pointer (some ⟨w.heap.size,2,none⟩)),Rel.val (.slice s1 (nlen en1) d1),Rel.val (.pointer (some ⟨w.heap.size+1,2,none⟩)),Rel.val (.slice s2 (nlen en2) d2),Rel.nat en,⟨fun v W=>∃ p c s d,v=.agg #[.bool (zneg (n)),.slice p (zlen (n)) c,.slice s (nlen (dn)) d]∧RN W (.slice p (zlen (n)) c) (n).natAbs∧RN W (.slice s (nlen (dn)) d) (dn),fun _ _ _ ⟨p,c,s,d,e,h0,h1⟩ hb=>⟨p,c,s,d,e,h0.below hb,h1.below hb⟩⟩]) (fun W=>Below W0.heap.size W0 W) (fun _ _=>True) (by kernel_rfl) (by kernel_rfl) (by kernel_rfl) trivial (Below.refl _ _).drew ?_ ?_
   · intro listed a W i hI hD hrd him
     have HI:=hid hI
     have HD:=hid hD
     have Hr:=hid hrd
     clear hI hrd hD
     have y2:a.tmps[2]? = some (.pointer (some ⟨w.heap.size,0,none⟩)):=HI.out.rest 2 (by decide)
     have y3:a.tmps[3]? = some (.pointer (some ⟨w.heap.size+1,0,none⟩)):=HI.out.rest 3 (by decide)
     have dK10:=(K1.out.below HI.out.world).cell (i:=0) rfl
     have dK11:=(K1.out.below HI.out.world).cell (i:=1) rfl
     have dK20:=(K2.out.below HI.out.world).cell (i:=0) rfl
     have dK21:=(K2.out.below HI.out.world).cell (i:=1) rfl
     have dK12:=(K1.out.below HI.out.world).cell (i:=2) rfl
     have dK22:=(K2.out.below HI.out.world).cell (i:=2) rfl
     have X0:RV _ listed a 0 5 (.pointer (some ⟨w.heap.size,0,none⟩)):=HI.out.rh
     have X2:RV _ listed a 2 7 (.pointer (some ⟨w.heap.size+1,0,none⟩)):=HI.out.rh
     have X1:RV _ listed a 1 6 (.agg #[.bool (zneg n1),.slice p1 (zlen n1) c1]):=HI.out.rh
     have X3:RV _ listed a 3 8 (.agg #[.bool (zneg n2),.slice p2 (zlen n2) c2]):=HI.out.rh
     have X5:RV _ listed a 5 10 (.pointer (some ⟨w.heap.size,2,none⟩)):=HI.out.rh
     have X7:RV _ listed a 7 12 (.pointer (some ⟨w.heap.size+1,2,none⟩)):=HI.out.rh
     have X6:RV _ listed a 6 11 (.slice s1 (nlen en1) d1):=HI.out.rh
     have X8:RV _ listed a 8 13 (.slice s2 (nlen en2) d2):=HI.out.rh
     match i,him,Hr with
     | 0,_,Hi =>
       refine stepH rfl fun K' hK=>?_
       go_simp
       exact hK.out _ _ ⟨HI.out.pv Hi.out rfl,trivial⟩
     | 1,_,Hi =>
       have x0:=X0.g Hi.out (by kernel_rfl)
       refine stepH rfl fun K' hK=>?_
       go_simp
       exact hK.out _ _ ⟨HI.out.pv Hi.out rfl,trivial⟩
     | 2,_,Hi =>
       refine stepH rfl fun K' hK=>?_
       go_simp
       exact hK.out _ _ ⟨HI.out.pv Hi.out rfl,trivial⟩
     | 3,_,Hi =>
       have x2:=X2.g Hi.out (by kernel_rfl)
       refine stepH rfl fun K' hK=>?_
       go_simp
       exact hK.out _ _ ⟨HI.out.pv Hi.out rfl,trivial⟩
     | 4,_,Hi =>
       have x1:=X1.g Hi.out (by kernel_rfl)
       have x3:=X3.g Hi.out (by kernel_rfl)
       refine stepH rfl fun K' hK=>?_
       go_simp
       with_reducible refine(C1.out _ _ _ _ _ (R1.out.below HI.out.world) (R2.out.below HI.out.world)).mono ?_
       rintro e W' ⟨pw1_4,cw1_4,rfl,rrw1_4,hb⟩
       exact hK.out _ _ ⟨HI.out.pc Hi.out hb ⟨pw1_4,cw1_4,rfl,rrw1_4⟩,trivial⟩
     | 5,_,Hi =>
       refine stepH rfl fun K' hK=>?_
       go_simp
       exact hK.out _ _ ⟨HI.out.pv Hi.out rfl,trivial⟩
     | 6,_,Hi =>
       have x5:=X5.g Hi.out (by kernel_rfl)
       refine stepH rfl fun K' hK=>?_
       go_simp
       exact hK.out _ _ ⟨HI.out.pv Hi.out rfl,trivial⟩
     | 7,_,Hi =>
       refine stepH rfl fun K' hK=>?_
       go_simp
       exact hK.out _ _ ⟨HI.out.pv Hi.out rfl,trivial⟩
     | 8,_,Hi =>
       have x7:=X7.g Hi.out (by kernel_rfl)
       refine stepH rfl fun K' hK=>?_
       go_simp
       exact hK.out _ _ ⟨HI.out.pv Hi.out rfl,trivial⟩
     | 9,_,Hi =>
       have x6:=X6.g Hi.out (by kernel_rfl)
       have x8:=X8.g Hi.out (by kernel_rfl)
       refine stepH rfl fun K' hK=>?_
       go_simp
       with_reducible refine(C2.out _ _ _ _ _ (T1.out.below HI.out.world) (T2.out.below HI.out.world)).mono ?_
       rintro e W' ⟨pw1_9,cw1_9,rfl,rrw1_9,hb⟩
       exact hK.out _ _ ⟨HI.out.pc Hi.out hb ⟨pw1_9,cw1_9,rfl,rrw1_9⟩,trivial⟩
     | 10,_,Hi =>
       obtain⟨v',x4,pw1_4,cw1_4,e,rrw1_4⟩:=HI.out.at (i:=4) Hi.out (by kernel_rfl) (by decide)
       obtain rfl:=e
       have x4:a.tmps[9]? = some (.agg #[.bool (zneg z),.slice pw1_4 (zlen z) cw1_4]):=x4
       have RRW1_4:=hid rrw1_4
       clear rrw1_4
       obtain⟨v',x9,pw1_9,cw1_9,e,rrw1_9⟩:=HI.out.at (i:=9) Hi.out (by kernel_rfl) (by decide)
       obtain rfl:=e
       have x9:a.tmps[14]? = some (.slice pw1_9 (nlen en) cw1_9):=x9
       have RRW1_9:=hid rrw1_9
       clear rrw1_9
       refine stepH rfl fun K' hK=>?_
       go_simp
       with_reducible refine(C3.out _ _ _ _ _ RRW1_4.out RRW1_9.out).mono ?_
       rintro e W' ⟨pw1_10,cw1_10,sw1_10,dw1_10,rfl,rrw1_10,rrw1_10_1,hb⟩
       exact hK.out _ _ ⟨HI.out.pc Hi.out hb ⟨pw1_10,cw1_10,sw1_10,dw1_10,rfl,rrw1_10,rrw1_10_1⟩,trivial⟩
     | n+11,h,_=>exact absurd h (by omega)
   · intro listed a W hI hD hall
     obtain⟨v',x4,pw1_4,cw1_4,e,rrw1_4⟩:=hI.slots 4 (by decide) (hall 4 (by decide))
     obtain rfl:=e
     have RRW1_4:=hid rrw1_4
     clear rrw1_4
     obtain⟨v',x9,pw1_9,cw1_9,e,rrw1_9⟩:=hI.slots 9 (by decide) (hall 9 (by decide))
     obtain rfl:=e
     have RRW1_9:=hid rrw1_9
     clear rrw1_9
     obtain⟨v',x10,pw1_10,cw1_10,sw1_10,dw1_10,e,rrw1_10,rrw1_10_1⟩:=hI.slots 10 (by decide) (hall 10 (by decide))
     obtain rfl:=e
     have RRW1_10:=hid rrw1_10
     clear rrw1_10
     have RRW1_10_1:=hid rrw1_10_1
     clear rrw1_10_1
     have x10:a.tmps[15]? = some (.agg #[.bool (zneg (n)),.slice pw1_10 (zlen (n)) cw1_10,.slice sw1_10 (nlen (dn)) dw1_10]):=x10
     have HBW:=hid hI.world
     have HI:=hid hI
     have HA:=hid hall
     clear hI hall
     have K3:=hid (K3.out.below HBW.out)
     have HBX:=hid (HB0.out.trans (HBW.out.mono HB0.out.size))
     have RZ:=RRW1_4
     have RE:=RRW1_9
     have RQ:=RRW1_10
     have TQ:=RRW1_10_1
     have y4:a.tmps[4]? = some (.pointer (some ⟨w.heap.size+1+1,0,none⟩)):=HI.out.rest 4 (by decide)
     have dK30:=K3.out.cell (i:=0) rfl
     have fK30:=K3.out.frozen (i:=0)
     have dK31:=K3.out.cell (i:=1) rfl
     have fK31:=K3.out.frozen (i:=1)
     have dK32:=K3.out.cell (i:=2) rfl
     have fK32:=K3.out.frozen (i:=2)
     refine tail_succ (t:=0) ?_
     refine stepH rfl fun K' hK=>?_
     go_simp
     refine hK.out _ _ ?_
     clear hK
     refine tail_nil ?_
     have s0:∀ {v':Value} {n':Nat},RN W v' n'→RN (storeAll W (w.heap.size+1+1) 0 [.bool (zneg (n)),.slice pw1_10 (zlen (n)) cw1_10,.slice sw1_10 (nlen (dn)) dw1_10]) v' n':=fun h'=>store_rn _ h' K3.out (by simp[noInt]) (by simp[plainV])
     exact⟨rfl,pw1_4,cw1_4,pw1_9,cw1_9,pw1_10,cw1_10,sw1_10,dw1_10,(HI.out.finx ⟨HI.out.sx HA.out 0,HI.out.sx HA.out 1,HI.out.sx HA.out 2,HI.out.sx HA.out 3,x4,HI.out.sx HA.out 5,HI.out.sx HA.out 6,HI.out.sx HA.out 7,HI.out.sx HA.out 8,x9,x10,trivial⟩ rfl),(store_below (l:=[.bool (zneg (n)),.slice pw1_10 (zlen (n)) cw1_10,.slice sw1_10 (nlen (dn)) dw1_10]) (i:=0) (by omega) HBX.out),(store_blk (l:=[.bool (zneg (n)),.slice pw1_10 (zlen (n)) cw1_10,.slice sw1_10 (nlen (dn)) dw1_10]) (i:=0) K3.out),(s0 RQ.out),(s0 TQ.out)⟩
 rintro a' W1 ⟨pw1_4,cw1_4,pw1_9,cw1_9,pw1_10,cw1_10,sw1_10,dw1_10,rfl,z0,z1,z2,z3⟩
 have HB1:=hid z0
 have K3:=hid z1
 have RQ:=hid z2
 have TQ:=hid z3
 clear z0 z1 z2 z3
 simp only[putL,List.setIfInBounds_toArray,List.set_cons_zero,List.set_cons_succ]
 go_wp2
 have dK30:=K3.out.cell (i:=0) rfl
 have dK31:=K3.out.cell (i:=1) rfl
 have dK32:=K3.out.cell (i:=2) rfl
 exact bodyPost_ret (v:=.agg #[.bool (zneg (n)),.slice pw1_10 (zlen (n)) cw1_10,.slice sw1_10 (nlen (dn)) dw1_10]) (by simp[results,Tryz.results61,go_sem,dK30,dK31,dK32]) rfl ⟨_,_,_,_,rfl,RQ.out,TQ.out,HB1.out⟩
end Go.Proofs.YthjmjlfnpnbonaaGreatDoor
set_option maxRecDepth 100000
set_option maxHeartbeats 20000000
open Go.Lib (hid)
namespace Go.Proofs.YthjmjlfnpnbonaaGreatDoor
open Go.RowKit Go.Gb
theorem qAdd_same (n1 n2 z n:Int)(en1 en2 dn:Nat)(p1:Option Addr)(c1:Nat)(s1:Option Addr)(d1:Nat)(p2:Option Addr)(c2:Nat)(s2:Option Addr)(d2:Nat)(w:World)(h0:∀ s1 d1 s2 d2 W,RN W (.slice s1 (nlen en1) d1) en1→RN W (.slice s2 (nlen en2) d2) en2→CR 49 #[.slice s1 (nlen en1) d1,.slice s2 (nlen en2) d2] W (.int .i64 0))(h1:∀ p1 c1 p2 c2 W,RN W (.slice p1 (zlen n1) c1) n1.natAbs→RN W (.slice p2 (zlen n2) c2) n2.natAbs→CZ 86 #[.agg #[.bool (zneg n1),.slice p1 (zlen n1) c1],.agg #[.bool (zneg n2),.slice p2 (zlen n2) c2]] W z)(h3:∀ p1 c1 s2 d2 W,RN W (.slice p1 (zlen z) c1) z.natAbs→RN W (.slice s2 (nlen en1) d2) en1→CF 81 #[.agg #[.bool (zneg z),.slice p1 (zlen z) c1],.slice s2 (nlen en1) d2] W n dn)(r1:RN w (.slice p1 (zlen n1) c1) n1.natAbs)(t1:RN w (.slice s1 (nlen en1) d1) en1)(r2:RN w (.slice p2 (zlen n2) c2) n2.natAbs)(t2:RN w (.slice s2 (nlen en2) d2) en2) :
 CF 67 #[.agg #[.bool (zneg n1),.slice p1 (zlen n1) c1,.slice s1 (nlen en1) d1],.agg #[.bool (zneg n2),.slice p2 (zlen n2) c2,.slice s2 (nlen en2) d2]] w n dn:=by
 have C0:=hid h0
 have C1:=hid h1
 have C3:=hid h3
 have R1:=hid r1
 have T1:=hid t1
 have R2:=hid r2
 have T2:=hid t2
 clear h0 h1 h3 r1 t1 r2 t2
 go_enter Tryz.func67,Tryz.ntmps67
 go_upto_region 1 with fail
 refine wp_boxes w [(#[.bool (zneg n1),.slice p1 (zlen n1) c1,.slice s1 (nlen en1) d1],53),(#[.bool (zneg n2),.slice p2 (zlen n2) c2,.slice s2 (nlen en2) d2],53),(#[.bool false,.slice none 0 0,.slice none 0 0],53)] rfl ?_
 rintro W0 ⟨k1,k2,k3,hb⟩
 have HB0:=hid (show Below w.heap.size w W0 from hb)
 have R1:=hid (R1.out.below HB0.out)
 have T1:=hid (T1.out.below HB0.out)
 have R2:=hid (R2.out.below HB0.out)
 have T2:=hid (T2.out.below HB0.out)
 have K1:=hid k1
 have K2:=hid k2
 have K3:=hid k3
 clear k1 k2 k3 hb
 have dK12:=K1.out.cell (i:=2) rfl
 have dK22:=K2.out.cell (i:=2) rfl
 go_wp2_with fail
 with_reducible refine(C0.out _ _ _ _ _ T1.out T2.out).mono ?_
 rintro e W1 ⟨rfl,hb⟩
 clear dK12 dK22
 have K1:=hid (K1.out.below hb)
 have K2:=hid (K2.out.below hb)
 have K3:=hid (K3.out.below hb)
 have R1:=hid (R1.out.below hb)
 have T1:=hid (T1.out.below hb)
 have R2:=hid (R2.out.below hb)
 have HB1:=hbt HB0 hb
 clear hb
 go_wp2_with fail
 refine wp_region_post (fun a0 a' V=>∃ pw1_4 cw1_4 pw1_7 cw1_7 sw1_7 dw1_7,a'=⟨putL [(13,.pointer (some ⟨w.heap.size,0,none⟩)),(14,.agg #[.bool (zneg n1),.slice p1 (zlen n1) c1]),(15,.pointer (some ⟨w.heap.size+1,0,none⟩)),(16,.agg #[.bool (zneg n2),.slice p2 (zlen n2) c2]),(17,.agg #[.bool (zneg z),.slice pw1_4 (zlen z) cw1_4]),(18,.pointer (some ⟨w.heap.size,2,none⟩)),(19,.slice s1 (nlen en1) d1),(20,.agg #[.bool (zneg (n)),.slice pw1_7 (zlen (n)) cw1_7,.slice sw1_7 (nlen (dn)) dw1_7])] a0.tmps,a0.defers⟩∧Below w.heap.size w V∧SBk V (w.heap.size+1+1) #[.bool (zneg (n)),.slice pw1_7 (zlen (n)) cw1_7,.slice sw1_7 (nlen (dn)) dw1_7] 53∧RN V (.slice pw1_7 (zlen (n)) cw1_7) (n).natAbs∧RN V (.slice sw1_7 (nlen (dn)) dw1_7) (dn)) ?_ ?_
 · refine wp_region_tail_d (by kernel_rfl) 8 1 (fun i=>[13,14,15,16,17,18,19,20].getD i 0) (RelR [Rel.val (.pointer (some ⟨w.heap.size,0,none⟩)),Rel.val (.agg #[.bool (zneg n1),.slice p1 (zlen n1) c1]),Rel.val (.pointer (some ⟨w.heap.size+1,0,none⟩)),Rel.val (.agg #[.bool (zneg n2),.slice p2 (zlen n2) c2]),Rel.int z,Rel.val (.pointer (some ⟨w.heap.size,2,none⟩)),Rel.val (.slice s1 (nlen en1) d1),⟨fun v W=>∃ p c s d,v=.agg #[.bool (zneg (n)),.slice p (zlen (n)) c,.slice s (nlen (dn)) d]∧RN W (.slice p (zlen (n)) c) (n).natAbs∧RN W (.slice s (nlen (dn)) d) (dn),fun _ _ _ ⟨p,c,s,d,e,h0,h1⟩ hb=>⟨p,c,s,d,e,h0.below hb,h1.below hb⟩⟩]) (fun W=>Below W1.heap.size W1 W) (fun _ _=>True) (by kernel_rfl) (by kernel_rfl) (by kernel_rfl) trivial (Below.refl _ _).drew ?_ ?_
   · intro listed a W i hI hD hrd him
     have HI:=hid hI
     have HD:=hid hD
     have Hr:=hid hrd
     clear hI hrd hD
     have y2:a.tmps[2]? = some (.pointer (some ⟨w.heap.size,0,none⟩)):=HI.out.rest 2 (by decide)
     have y3:a.tmps[3]? = some (.pointer (some ⟨w.heap.size+1,0,none⟩)):=HI.out.rest 3 (by decide)
     have dK10:=(K1.out.below HI.out.world).cell (i:=0) rfl
     have dK11:=(K1.out.below HI.out.world).cell (i:=1) rfl
     have dK20:=(K2.out.below HI.out.world).cell (i:=0) rfl
     have dK21:=(K2.out.below HI.out.world).cell (i:=1) rfl
     have dK12:=(K1.out.below HI.out.world).cell (i:=2) rfl
     have X0:RV _ listed a 0 13 (.pointer (some ⟨w.heap.size,0,none⟩)):=HI.out.rh
     have X2:RV _ listed a 2 15 (.pointer (some ⟨w.heap.size+1,0,none⟩)):=HI.out.rh
     have X1:RV _ listed a 1 14 (.agg #[.bool (zneg n1),.slice p1 (zlen n1) c1]):=HI.out.rh
     have X3:RV _ listed a 3 16 (.agg #[.bool (zneg n2),.slice p2 (zlen n2) c2]):=HI.out.rh
     have X5:RV _ listed a 5 18 (.pointer (some ⟨w.heap.size,2,none⟩)):=HI.out.rh
     have X6:RV _ listed a 6 19 (.slice s1 (nlen en1) d1):=HI.out.rh
     match i,him,Hr with
     | 0,_,Hi =>
       refine stepH rfl fun K' hK=>?_
       go_simp
       exact hK.out _ _ ⟨HI.out.pv Hi.out rfl,trivial⟩
     | 1,_,Hi =>
       have x0:=X0.g Hi.out (by kernel_rfl)
       refine stepH rfl fun K' hK=>?_
       go_simp
       exact hK.out _ _ ⟨HI.out.pv Hi.out rfl,trivial⟩
     | 2,_,Hi =>
       refine stepH rfl fun K' hK=>?_
       go_simp
       exact hK.out _ _ ⟨HI.out.pv Hi.out rfl,trivial⟩
     | 3,_,Hi =>
       have x2:=X2.g Hi.out (by kernel_rfl)
       refine stepH rfl fun K' hK=>?_
       go_simp
       exact hK.out _ _ ⟨HI.out.pv Hi.out rfl,trivial⟩
     | 4,_,Hi =>
       have x1:=X1.g Hi.out (by kernel_rfl)
       have x3:=X3.g Hi.out (by kernel_rfl)
       refine stepH rfl fun K' hK=>?_
       go_simp
       with_reducible refine(C1.out _ _ _ _ _ (R1.out.below HI.out.world) (R2.out.below HI.out.world)).mono ?_
       rintro e W' ⟨pw1_4,cw1_4,rfl,rrw1_4,hb⟩
       exact hK.out _ _ ⟨HI.out.pc Hi.out hb ⟨pw1_4,cw1_4,rfl,rrw1_4⟩,trivial⟩
     | 5,_,Hi =>
       refine stepH rfl fun K' hK=>?_
       go_simp
       exact hK.out _ _ ⟨HI.out.pv Hi.out rfl,trivial⟩
     | 6,_,Hi =>
       have x5:=X5.g Hi.out (by kernel_rfl)
       refine stepH rfl fun K' hK=>?_
       go_simp
       exact hK.out _ _ ⟨HI.out.pv Hi.out rfl,trivial⟩
     | 7,_,Hi =>
       obtain⟨v',x4,pw1_4,cw1_4,e,rrw1_4⟩:=HI.out.at (i:=4) Hi.out (by kernel_rfl) (by decide)
       obtain rfl:=e
       have x4:a.tmps[17]? = some (.agg #[.bool (zneg z),.slice pw1_4 (zlen z) cw1_4]):=x4
       have RRW1_4:=hid rrw1_4
       clear rrw1_4
       have x6:=X6.g Hi.out (by kernel_rfl)
       refine stepH rfl fun K' hK=>?_
       go_simp
       with_reducible refine(C3.out _ _ _ _ _ RRW1_4.out (T1.out.below HI.out.world)).mono ?_
       rintro e W' ⟨pw1_7,cw1_7,sw1_7,dw1_7,rfl,rrw1_7,rrw1_7_1,hb⟩
       exact hK.out _ _ ⟨HI.out.pc Hi.out hb ⟨pw1_7,cw1_7,sw1_7,dw1_7,rfl,rrw1_7,rrw1_7_1⟩,trivial⟩
     | n+8,h,_=>exact absurd h (by omega)
   · intro listed a W hI hD hall
     obtain⟨v',x4,pw1_4,cw1_4,e,rrw1_4⟩:=hI.slots 4 (by decide) (hall 4 (by decide))
     obtain rfl:=e
     have RRW1_4:=hid rrw1_4
     clear rrw1_4
     obtain⟨v',x7,pw1_7,cw1_7,sw1_7,dw1_7,e,rrw1_7,rrw1_7_1⟩:=hI.slots 7 (by decide) (hall 7 (by decide))
     obtain rfl:=e
     have RRW1_7:=hid rrw1_7
     clear rrw1_7
     have RRW1_7_1:=hid rrw1_7_1
     clear rrw1_7_1
     have x7:a.tmps[20]? = some (.agg #[.bool (zneg (n)),.slice pw1_7 (zlen (n)) cw1_7,.slice sw1_7 (nlen (dn)) dw1_7]):=x7
     have HBW:=hid hI.world
     have HI:=hid hI
     have HA:=hid hall
     clear hI hall
     have K3:=hid (K3.out.below HBW.out)
     have HBX:=hid (HB1.out.trans (HBW.out.mono HB1.out.size))
     have RZ:=RRW1_4
     have RQ:=RRW1_7
     have TQ:=RRW1_7_1
     have y4:a.tmps[4]? = some (.pointer (some ⟨w.heap.size+1+1,0,none⟩)):=HI.out.rest 4 (by decide)
     have dK30:=K3.out.cell (i:=0) rfl
     have fK30:=K3.out.frozen (i:=0)
     have dK31:=K3.out.cell (i:=1) rfl
     have fK31:=K3.out.frozen (i:=1)
     have dK32:=K3.out.cell (i:=2) rfl
     have fK32:=K3.out.frozen (i:=2)
     refine tail_succ (t:=0) ?_
     refine stepH rfl fun K' hK=>?_
     go_simp
     refine hK.out _ _ ?_
     clear hK
     refine tail_nil ?_
     have s0:∀ {v':Value} {n':Nat},RN W v' n'→RN (storeAll W (w.heap.size+1+1) 0 [.bool (zneg (n)),.slice pw1_7 (zlen (n)) cw1_7,.slice sw1_7 (nlen (dn)) dw1_7]) v' n':=fun h'=>store_rn _ h' K3.out (by simp[noInt]) (by simp[plainV])
     exact⟨rfl,pw1_4,cw1_4,pw1_7,cw1_7,sw1_7,dw1_7,(HI.out.finx ⟨HI.out.sx HA.out 0,HI.out.sx HA.out 1,HI.out.sx HA.out 2,HI.out.sx HA.out 3,x4,HI.out.sx HA.out 5,HI.out.sx HA.out 6,x7,trivial⟩ rfl),(store_below (l:=[.bool (zneg (n)),.slice pw1_7 (zlen (n)) cw1_7,.slice sw1_7 (nlen (dn)) dw1_7]) (i:=0) (by omega) HBX.out),(store_blk (l:=[.bool (zneg (n)),.slice pw1_7 (zlen (n)) cw1_7,.slice sw1_7 (nlen (dn)) dw1_7]) (i:=0) K3.out),(s0 RQ.out),(s0 TQ.out)⟩
 rintro a' W2 ⟨pw1_4,cw1_4,pw1_7,cw1_7,sw1_7,dw1_7,rfl,z0,z1,z2,z3⟩
 have HB2:=hid z0
 have K3:=hid z1
 have RQ:=hid z2
 have TQ:=hid z3
 clear z0 z1 z2 z3
 simp only[putL,List.setIfInBounds_toArray,List.set_cons_zero,List.set_cons_succ]
 go_wp2
 have dK30:=K3.out.cell (i:=0) rfl
 have dK31:=K3.out.cell (i:=1) rfl
 have dK32:=K3.out.cell (i:=2) rfl
 exact bodyPost_ret (v:=.agg #[.bool (zneg (n)),.slice pw1_7 (zlen (n)) cw1_7,.slice sw1_7 (nlen (dn)) dw1_7]) (by simp[results,Tryz.results67,go_sem,dK30,dK31,dK32]) rfl ⟨_,_,_,_,rfl,RQ.out,TQ.out,HB2.out⟩
end Go.Proofs.YthjmjlfnpnbonaaGreatDoor
