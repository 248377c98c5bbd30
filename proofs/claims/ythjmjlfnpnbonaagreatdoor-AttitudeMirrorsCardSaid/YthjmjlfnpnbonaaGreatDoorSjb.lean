/- garboardref03: Int, Neg, Inv, Sign, Mul, Add, Sub, Div, Cmp, To: walks over the contracts of what they call. -/
import Derived.Test.YthjmjlfnpnbonaaGreatDoorMz25q
set_option maxRecDepth 100000
set_option maxHeartbeats 20000000
open Go.Lib (hid)
namespace Go.Proofs.YthjmjlfnpnbonaaGreatDoor
open Go.RowKit Go.Gb
theorem qAdd_other (n1 n2 x y z n k:Int)(en1 en2 en dn ua ub:Nat)(hk:k≠0)(p1:Option Addr)(c1:Nat)(s1:Option Addr)(d1:Nat)(p2:Option Addr)(c2:Nat)(s2:Option Addr)(d2:Nat)(w:World)(h0:∀ s1 d1 s2 d2 W,RN W (.slice s1 (nlen en1) d1) en1→RN W (.slice s2 (nlen en2) d2) en2→CR 49 #[.slice s1 (nlen en1) d1,.slice s2 (nlen en2) d2] W (.int .i64 k))(h1:∀ p1 c1 s2 d2 W,RN W (.slice p1 (zlen n1) c1) n1.natAbs→RN W (.slice s2 (nlen en2) d2) en2→CN 83 #[.slice p1 (zlen n1) c1,.slice s2 (nlen en2) d2] W ua)(h2:∀ s2 d2 W,RN W (.slice s2 (nlen ua) d2) ua→CZ 87 #[.bool (zneg n1),.slice s2 (nlen ua) d2] W x)(h3:∀ p1 c1 s2 d2 W,RN W (.slice p1 (zlen n2) c1) n2.natAbs→RN W (.slice s2 (nlen en1) d2) en1→CN 83 #[.slice p1 (zlen n2) c1,.slice s2 (nlen en1) d2] W ub)(h4:∀ s2 d2 W,RN W (.slice s2 (nlen ub) d2) ub→CZ 87 #[.bool (zneg n2),.slice s2 (nlen ub) d2] W y)(h5:∀ p1 c1 p2 c2 W,RN W (.slice p1 (zlen x) c1) x.natAbs→RN W (.slice p2 (zlen y) c2) y.natAbs→CZ 86 #[.agg #[.bool (zneg x),.slice p1 (zlen x) c1],.agg #[.bool (zneg y),.slice p2 (zlen y) c2]] W z)(h6:∀ s1 d1 s2 d2 W,RN W (.slice s1 (nlen en1) d1) en1→RN W (.slice s2 (nlen en2) d2) en2→CN 83 #[.slice s1 (nlen en1) d1,.slice s2 (nlen en2) d2] W en)(h7:∀ p1 c1 s2 d2 W,RN W (.slice p1 (zlen z) c1) z.natAbs→RN W (.slice s2 (nlen en) d2) en→CF 81 #[.agg #[.bool (zneg z),.slice p1 (zlen z) c1],.slice s2 (nlen en) d2] W n dn)(r1:RN w (.slice p1 (zlen n1) c1) n1.natAbs)(t1:RN w (.slice s1 (nlen en1) d1) en1)(r2:RN w (.slice p2 (zlen n2) c2) n2.natAbs)(t2:RN w (.slice s2 (nlen en2) d2) en2) :
 CF 67 #[.agg #[.bool (zneg n1),.slice p1 (zlen n1) c1,.slice s1 (nlen en1) d1],.agg #[.bool (zneg n2),.slice p2 (zlen n2) c2,.slice s2 (nlen en2) d2]] w n dn:=by
 have C0:=hid h0
 have C1:=hid h1
 have C2:=hid h2
 have C3:=hid h3
 have C4:=hid h4
 have C5:=hid h5
 have C6:=hid h6
 have C7:=hid h7
 have R1:=hid r1
 have T1:=hid t1
 have R2:=hid r2
 have T2:=hid t2
 have k0:(k==0)=false:=by rw[beq_eq_false_iff_ne];exact hk
 have k1:¬ k=0:=hk
 clear hk h0 h1 h2 h3 h4 h5 h6 h7 r1 t1 r2 t2
 go_enter Tryz.func67,Tryz.ntmps67
 go_upto_region 1 with fail
 refine wp_boxes w [(#[.bool (zneg n1),.slice p1 (zlen n1) c1,.slice s1 (nlen en1) d1],53),(#[.bool (zneg n2),.slice p2 (zlen n2) c2,.slice s2 (nlen en2) d2],53),(#[.bool false,.slice none 0 0,.slice none 0 0],53)] rfl ?_
 rintro W0 ⟨k1,k2,k3,hb⟩
 have HB0:=hid (show Below w.heap.size w W0 from hb)
 have R1:=hid (R1.out.below HB0.out)
 have T1:=hid (T1.out.below HB0.out)
 have R2:=hid (R2.out.below HB0.out)
 have T2:=hid (T2.out.below HB0.out)
 have K1:=hid k1
 have K2:=hid k2
 have K3:=hid k3
 clear k1 k2 k3 hb
 have dK12:=K1.out.cell (i:=2) rfl
 have dK22:=K2.out.cell (i:=2) rfl
 go_wp2_with fail
 with_reducible refine(C0.out _ _ _ _ _ T1.out T2.out).mono ?_
 rintro e W1 ⟨rfl,hb⟩
 clear dK12 dK22
 have K1:=hid (K1.out.below hb)
 have K2:=hid (K2.out.below hb)
 have K3:=hid (K3.out.below hb)
 have R1:=hid (R1.out.below hb)
 have T1:=hid (T1.out.below hb)
 have R2:=hid (R2.out.below hb)
 have T2:=hid (T2.out.below hb)
 have HB1:=hbt HB0 hb
 clear hb
 go_wp2_with fail
 have L1:=K1.out.lt
 have L2:=K2.out.lt
 have L3:=K3.out.lt
 have L4:=HB1.out.size
 refine wp_region_post (fun a0 a' V=>∃ pw1_8 cw1_8 pw1_9 cw1_9 gw1_10,a'=⟨putL [(21,.pointer (some ⟨w.heap.size,0,none⟩)),(22,.pointer (some ⟨w.heap.size,0,none⟩)),(23,.bool (zneg n1)),(24,.pointer (some ⟨w.heap.size,0,none⟩)),(25,.pointer (some ⟨w.heap.size,1,none⟩)),(26,.slice p1 (zlen n1) c1),(27,.pointer (some ⟨w.heap.size+1,2,none⟩)),(28,.slice s2 (nlen en2) d2),(29,.slice pw1_8 (nlen ua) cw1_8),(30,.agg #[.bool (zneg x),.slice pw1_9 (zlen x) cw1_9]),(5,.pointer (some ⟨gw1_10,0,none⟩))] a0.tmps,a0.defers⟩∧Below w.heap.size w V∧SBk V (w.heap.size) #[.bool (zneg n1),.slice p1 (zlen n1) c1,.slice s1 (nlen en1) d1] 53∧SBk V (w.heap.size+1) #[.bool (zneg n2),.slice p2 (zlen n2) c2,.slice s2 (nlen en2) d2] 53∧SBk V (w.heap.size+1+1) #[.bool false,.slice none 0 0,.slice none 0 0] 53∧SBk V (gw1_10) #[.bool (zneg x),.slice pw1_9 (zlen x) cw1_9] 51∧RN V (.slice p1 (zlen n1) c1) n1.natAbs∧RN V (.slice s1 (nlen en1) d1) en1∧RN V (.slice p2 (zlen n2) c2) n2.natAbs∧RN V (.slice s2 (nlen en2) d2) en2∧RN V (.slice pw1_8 (nlen ua) cw1_8) ua∧RN V (.slice pw1_9 (zlen x) cw1_9) x.natAbs∧W1.heap.size≤gw1_10) ?_ ?_
 · refine wp_region_tail_d (by kernel_rfl) 11 1 (fun i=>[21,22,23,24,25,26,27,28,29,30,5].getD i 0) (RelR [Rel.val (.pointer (some ⟨w.heap.size,0,none⟩)),Rel.val (.pointer (some ⟨w.heap.size,0,none⟩)),Rel.val (.bool (zneg n1)),Rel.val (.pointer (some ⟨w.heap.size,0,none⟩)),Rel.val (.pointer (some ⟨w.heap.size,1,none⟩)),Rel.val (.slice p1 (zlen n1) c1),Rel.val (.pointer (some ⟨w.heap.size+1,2,none⟩)),Rel.val (.slice s2 (nlen en2) d2),Rel.nat ua,Rel.int x,Rel.ptr W1.heap.size (.cells #[.bool false,.slice none 0 0] 51)]) (fun W=>Below W1.heap.size W1 W) (fun _ _=>True) (by kernel_rfl) (by kernel_rfl) (by kernel_rfl) trivial (Below.refl _ _).drew ?_ ?_
   · intro listed a W i hI hD hrd him
     have HI:=hid hI
     have HD:=hid hD
     have Hr:=hid hrd
     clear hI hrd hD
     have y2:a.tmps[2]? = some (.pointer (some ⟨w.heap.size,0,none⟩)):=HI.out.rest 2 (by decide)
     have y3:a.tmps[3]? = some (.pointer (some ⟨w.heap.size+1,0,none⟩)):=HI.out.rest 3 (by decide)
     have dK10:=(K1.out.below HI.out.world).cell (i:=0) rfl
     have dK11:=(K1.out.below HI.out.world).cell (i:=1) rfl
     have dK22:=(K2.out.below HI.out.world).cell (i:=2) rfl
     have X0:RV _ listed a 0 21 (.pointer (some ⟨w.heap.size,0,none⟩)):=HI.out.rh
     have X1:RV _ listed a 1 22 (.pointer (some ⟨w.heap.size,0,none⟩)):=HI.out.rh
     have X3:RV _ listed a 3 24 (.pointer (some ⟨w.heap.size,0,none⟩)):=HI.out.rh
     have X4:RV _ listed a 4 25 (.pointer (some ⟨w.heap.size,1,none⟩)):=HI.out.rh
     have X6:RV _ listed a 6 27 (.pointer (some ⟨w.heap.size+1,2,none⟩)):=HI.out.rh
     have X5:RV _ listed a 5 26 (.slice p1 (zlen n1) c1):=HI.out.rh
     have X7:RV _ listed a 7 28 (.slice s2 (nlen en2) d2):=HI.out.rh
     have X2:RV _ listed a 2 23 (.bool (zneg n1)):=HI.out.rh
     match i,him,Hr with
     | 0,_,Hi =>
       refine stepH rfl fun K' hK=>?_
       go_simp
       exact hK.out _ _ ⟨HI.out.pv Hi.out rfl,trivial⟩
     | 1,_,Hi =>
       have x0:=X0.g Hi.out (by kernel_rfl)
       refine stepH rfl fun K' hK=>?_
       go_simp
       exact hK.out _ _ ⟨HI.out.pv Hi.out rfl,trivial⟩
     | 2,_,Hi =>
       have x1:=X1.g Hi.out (by kernel_rfl)
       refine stepH rfl fun K' hK=>?_
       go_simp
       exact hK.out _ _ ⟨HI.out.pv Hi.out rfl,trivial⟩
     | 3,_,Hi =>
       refine stepH rfl fun K' hK=>?_
       go_simp
       exact hK.out _ _ ⟨HI.out.pv Hi.out rfl,trivial⟩
     | 4,_,Hi =>
       have x3:=X3.g Hi.out (by kernel_rfl)
       refine stepH rfl fun K' hK=>?_
       go_simp
       exact hK.out _ _ ⟨HI.out.pv Hi.out rfl,trivial⟩
     | 5,_,Hi =>
       have x4:=X4.g Hi.out (by kernel_rfl)
       refine stepH rfl fun K' hK=>?_
       go_simp
       exact hK.out _ _ ⟨HI.out.pv Hi.out rfl,trivial⟩
     | 6,_,Hi =>
       refine stepH rfl fun K' hK=>?_
       go_simp
       exact hK.out _ _ ⟨HI.out.pv Hi.out rfl,trivial⟩
     | 7,_,Hi =>
       have x6:=X6.g Hi.out (by kernel_rfl)
       refine stepH rfl fun K' hK=>?_
       go_simp
       exact hK.out _ _ ⟨HI.out.pv Hi.out rfl,trivial⟩
     | 8,_,Hi =>
       have x5:=X5.g Hi.out (by kernel_rfl)
       have x7:=X7.g Hi.out (by kernel_rfl)
       refine stepH rfl fun K' hK=>?_
       go_simp
       with_reducible refine(C1.out _ _ _ _ _ (R1.out.below HI.out.world) (T2.out.below HI.out.world)).mono ?_
       rintro e W' ⟨pw1_8,cw1_8,rfl,rrw1_8,hb⟩
       exact hK.out _ _ ⟨HI.out.pc Hi.out hb ⟨pw1_8,cw1_8,rfl,rrw1_8⟩,trivial⟩
     | 9,_,Hi =>
       have x2:=X2.g Hi.out (by kernel_rfl)
       obtain⟨v',x8,pw1_8,cw1_8,e,rrw1_8⟩:=HI.out.at (i:=8) Hi.out (by kernel_rfl) (by decide)
       obtain rfl:=e
       have x8:a.tmps[29]? = some (.slice pw1_8 (nlen ua) cw1_8):=x8
       have RRW1_8:=hid rrw1_8
       clear rrw1_8
       refine stepH rfl fun K' hK=>?_
       go_simp
       with_reducible refine(C2.out _ _ _ RRW1_8.out).mono ?_
       rintro e W' ⟨pw1_9,cw1_9,rfl,rrw1_9,hb⟩
       exact hK.out _ _ ⟨HI.out.pc Hi.out hb ⟨pw1_9,cw1_9,rfl,rrw1_9⟩,trivial⟩
     | 10,_,Hi =>
       refine stepH rfl fun K' hK=>?_
       go_simp
       exact hK.out _ _ ⟨HI.out.pc Hi.out ((Below.refl W.heap.size W).alloc (Nat.le_refl _) (.cells #[.bool false,.slice none 0 0] 51)) ⟨W.heap.size,rfl,HI.out.world.size,SBk.new _ _ _⟩,trivial⟩
     | n+11,h,_=>exact absurd h (by omega)
   · intro listed a W hI hD hall
     obtain⟨v',x8,pw1_8,cw1_8,e,rrw1_8⟩:=hI.slots 8 (by decide) (hall 8 (by decide))
     obtain rfl:=e
     have RRW1_8:=hid rrw1_8
     clear rrw1_8
     obtain⟨v',x9,pw1_9,cw1_9,e,rrw1_9⟩:=hI.slots 9 (by decide) (hall 9 (by decide))
     obtain rfl:=e
     have RRW1_9:=hid rrw1_9
     clear rrw1_9
     have x9:a.tmps[30]? = some (.agg #[.bool (zneg x),.slice pw1_9 (zlen x) cw1_9]):=x9
     obtain⟨v',x10,gw1_10,e,rrw1_10,rrw1_10_1⟩:=hI.slots 10 (by decide) (hall 10 (by decide))
     obtain rfl:=e
     have RRW1_10:=hid rrw1_10
     clear rrw1_10
     have RRW1_10_1:=hid rrw1_10_1
     clear rrw1_10_1
     have x10:a.tmps[5]? = some (.pointer (some ⟨gw1_10,0,none⟩)):=x10
     have HBW:=hid hI.world
     have HI:=hid hI
     have HA:=hid hall
     clear hI hall
     have K1:=hid (K1.out.below HBW.out)
     have K2:=hid (K2.out.below HBW.out)
     have K3:=hid (K3.out.below HBW.out)
     have R1:=hid (R1.out.below HBW.out)
     have T1:=hid (T1.out.below HBW.out)
     have R2:=hid (R2.out.below HBW.out)
     have T2:=hid (T2.out.below HBW.out)
     have HBX:=hid (HB1.out.trans (HBW.out.mono HB1.out.size))
     have RA:=RRW1_8
     have RX:=RRW1_9
     have K4:Hid (SBk W gw1_10 #[.bool false,.slice none 0 0] 51):=RRW1_10_1
     have dK40:=K4.out.cell (i:=0) rfl
     have fK40:=K4.out.frozen (i:=0)
     have dK41:=K4.out.cell (i:=1) rfl
     have fK41:=K4.out.frozen (i:=1)
     refine tail_succ (t:=0) ?_
     refine stepH rfl fun K' hK=>?_
     go_simp
     refine hK.out _ _ ?_
     clear hK
     refine tail_nil ?_
     have s0:∀ {v':Value} {n':Nat},RN W v' n'→RN (storeAll W (gw1_10) 0 [.bool (zneg x),.slice pw1_9 (zlen x) cw1_9]) v' n':=fun h'=>store_rn _ h' K4.out (by simp[noInt]) (by simp[plainV])
     have o0:∀ {g':Nat} {cs':Array Value} {T':TypeId},g'≠gw1_10→SBk W g' cs' T'→SBk (storeAll W (gw1_10) 0 [.bool (zneg x),.slice pw1_9 (zlen x) cw1_9]) g' cs' T':=fun hg' h'=>store_off hg' _ 0 h'
     exact⟨rfl,pw1_8,cw1_8,pw1_9,cw1_9,gw1_10,(HI.out.finx ⟨HI.out.sx HA.out 0,HI.out.sx HA.out 1,HI.out.sx HA.out 2,HI.out.sx HA.out 3,HI.out.sx HA.out 4,HI.out.sx HA.out 5,HI.out.sx HA.out 6,HI.out.sx HA.out 7,x8,x9,x10,trivial⟩ rfl),(store_below (l:=[.bool (zneg x),.slice pw1_9 (zlen x) cw1_9]) (i:=0) (by have:=RRW1_10.out;omega) HBX.out),(o0 (by have:=RRW1_10.out;omega) K1.out),(o0 (by have:=RRW1_10.out;omega) K2.out),(o0 (by have:=RRW1_10.out;omega) K3.out),(store_blk (l:=[.bool (zneg x),.slice pw1_9 (zlen x) cw1_9]) (i:=0) K4.out),(s0 R1.out),(s0 T1.out),(s0 R2.out),(s0 T2.out),(s0 RA.out),(s0 RX.out),RRW1_10.out⟩
 rintro a' W2 ⟨pw1_8,cw1_8,pw1_9,cw1_9,gw1_10,rfl,z0,z1,z2,z3,z4,z5,z6,z7,z8,z9,z10,z11⟩
 have HB2:=hid z0
 have K1:=hid z1
 have K2:=hid z2
 have K3:=hid z3
 have K4:=hid z4
 have R1:=hid z5
 have T1:=hid z6
 have R2:=hid z7
 have T2:=hid z8
 have RA:=hid z9
 have RX:=hid z10
 have R10xW2:=z11
 clear z0 z1 z2 z3 z4 z5 z6 z7 z8 z9 z10 z11
 simp only[putL,List.setIfInBounds_toArray,List.set_cons_zero,List.set_cons_succ]
 go_wp2_with fail
 have L6:=K1.out.lt
 have L7:=K2.out.lt
 have L8:=K3.out.lt
 have L9:=K4.out.lt
 have L10:=HB2.out.size
 refine wp_region_post (fun a0 a' V=>∃ pw2_8 cw2_8 pw2_9 cw2_9 gw2_10,a'=⟨putL [(31,.pointer (some ⟨w.heap.size+1,0,none⟩)),(32,.pointer (some ⟨w.heap.size+1,0,none⟩)),(33,.bool (zneg n2)),(34,.pointer (some ⟨w.heap.size+1,0,none⟩)),(35,.pointer (some ⟨w.heap.size+1,1,none⟩)),(36,.slice p2 (zlen n2) c2),(37,.pointer (some ⟨w.heap.size,2,none⟩)),(38,.slice s1 (nlen en1) d1),(39,.slice pw2_8 (nlen ub) cw2_8),(40,.agg #[.bool (zneg y),.slice pw2_9 (zlen y) cw2_9]),(6,.pointer (some ⟨gw2_10,0,none⟩))] a0.tmps,a0.defers⟩∧Below w.heap.size w V∧SBk V (w.heap.size) #[.bool (zneg n1),.slice p1 (zlen n1) c1,.slice s1 (nlen en1) d1] 53∧SBk V (w.heap.size+1) #[.bool (zneg n2),.slice p2 (zlen n2) c2,.slice s2 (nlen en2) d2] 53∧SBk V (w.heap.size+1+1) #[.bool false,.slice none 0 0,.slice none 0 0] 53∧SBk V (gw1_10) #[.bool (zneg x),.slice pw1_9 (zlen x) cw1_9] 51∧SBk V (gw2_10) #[.bool (zneg y),.slice pw2_9 (zlen y) cw2_9] 51∧RN V (.slice s1 (nlen en1) d1) en1∧RN V (.slice s2 (nlen en2) d2) en2∧RN V (.slice pw1_9 (zlen x) cw1_9) x.natAbs∧RN V (.slice pw2_9 (zlen y) cw2_9) y.natAbs∧W2.heap.size≤gw2_10) ?_ ?_
 · refine wp_region_tail_d (by kernel_rfl) 11 1 (fun i=>[31,32,33,34,35,36,37,38,39,40,6].getD i 0) (RelR [Rel.val (.pointer (some ⟨w.heap.size+1,0,none⟩)),Rel.val (.pointer (some ⟨w.heap.size+1,0,none⟩)),Rel.val (.bool (zneg n2)),Rel.val (.pointer (some ⟨w.heap.size+1,0,none⟩)),Rel.val (.pointer (some ⟨w.heap.size+1,1,none⟩)),Rel.val (.slice p2 (zlen n2) c2),Rel.val (.pointer (some ⟨w.heap.size,2,none⟩)),Rel.val (.slice s1 (nlen en1) d1),Rel.nat ub,Rel.int y,Rel.ptr W2.heap.size (.cells #[.bool false,.slice none 0 0] 51)]) (fun W=>Below W2.heap.size W2 W) (fun _ _=>True) (by kernel_rfl) (by kernel_rfl) (by kernel_rfl) trivial (Below.refl _ _).drew ?_ ?_
   · intro listed a W i hI hD hrd him
     have HI:=hid hI
     have HD:=hid hD
     have Hr:=hid hrd
     clear hI hrd hD
     have y3:a.tmps[3]? = some (.pointer (some ⟨w.heap.size+1,0,none⟩)):=HI.out.rest 3 (by decide)
     have y2:a.tmps[2]? = some (.pointer (some ⟨w.heap.size,0,none⟩)):=HI.out.rest 2 (by decide)
     have dK20:=(K2.out.below HI.out.world).cell (i:=0) rfl
     have dK21:=(K2.out.below HI.out.world).cell (i:=1) rfl
     have dK12:=(K1.out.below HI.out.world).cell (i:=2) rfl
     have X0:RV _ listed a 0 31 (.pointer (some ⟨w.heap.size+1,0,none⟩)):=HI.out.rh
     have X1:RV _ listed a 1 32 (.pointer (some ⟨w.heap.size+1,0,none⟩)):=HI.out.rh
     have X3:RV _ listed a 3 34 (.pointer (some ⟨w.heap.size+1,0,none⟩)):=HI.out.rh
     have X4:RV _ listed a 4 35 (.pointer (some ⟨w.heap.size+1,1,none⟩)):=HI.out.rh
     have X6:RV _ listed a 6 37 (.pointer (some ⟨w.heap.size,2,none⟩)):=HI.out.rh
     have X5:RV _ listed a 5 36 (.slice p2 (zlen n2) c2):=HI.out.rh
     have X7:RV _ listed a 7 38 (.slice s1 (nlen en1) d1):=HI.out.rh
     have X2:RV _ listed a 2 33 (.bool (zneg n2)):=HI.out.rh
     match i,him,Hr with
     | 0,_,Hi =>
       refine stepH rfl fun K' hK=>?_
       go_simp
       exact hK.out _ _ ⟨HI.out.pv Hi.out rfl,trivial⟩
     | 1,_,Hi =>
       have x0:=X0.g Hi.out (by kernel_rfl)
       refine stepH rfl fun K' hK=>?_
       go_simp
       exact hK.out _ _ ⟨HI.out.pv Hi.out rfl,trivial⟩
     | 2,_,Hi =>
       have x1:=X1.g Hi.out (by kernel_rfl)
       refine stepH rfl fun K' hK=>?_
       go_simp
       exact hK.out _ _ ⟨HI.out.pv Hi.out rfl,trivial⟩
     | 3,_,Hi =>
       refine stepH rfl fun K' hK=>?_
       go_simp
       exact hK.out _ _ ⟨HI.out.pv Hi.out rfl,trivial⟩
     | 4,_,Hi =>
       have x3:=X3.g Hi.out (by kernel_rfl)
       refine stepH rfl fun K' hK=>?_
       go_simp
       exact hK.out _ _ ⟨HI.out.pv Hi.out rfl,trivial⟩
     | 5,_,Hi =>
       have x4:=X4.g Hi.out (by kernel_rfl)
       refine stepH rfl fun K' hK=>?_
       go_simp
       exact hK.out _ _ ⟨HI.out.pv Hi.out rfl,trivial⟩
     | 6,_,Hi =>
       refine stepH rfl fun K' hK=>?_
       go_simp
       exact hK.out _ _ ⟨HI.out.pv Hi.out rfl,trivial⟩
     | 7,_,Hi =>
       have x6:=X6.g Hi.out (by kernel_rfl)
       refine stepH rfl fun K' hK=>?_
       go_simp
       exact hK.out _ _ ⟨HI.out.pv Hi.out rfl,trivial⟩
     | 8,_,Hi =>
       have x5:=X5.g Hi.out (by kernel_rfl)
       have x7:=X7.g Hi.out (by kernel_rfl)
       refine stepH rfl fun K' hK=>?_
       go_simp
       with_reducible refine(C3.out _ _ _ _ _ (R2.out.below HI.out.world) (T1.out.below HI.out.world)).mono ?_
       rintro e W' ⟨pw2_8,cw2_8,rfl,rrw2_8,hb⟩
       exact hK.out _ _ ⟨HI.out.pc Hi.out hb ⟨pw2_8,cw2_8,rfl,rrw2_8⟩,trivial⟩
     | 9,_,Hi =>
       have x2:=X2.g Hi.out (by kernel_rfl)
       obtain⟨v',x8,pw2_8,cw2_8,e,rrw2_8⟩:=HI.out.at (i:=8) Hi.out (by kernel_rfl) (by decide)
       obtain rfl:=e
       have x8:a.tmps[39]? = some (.slice pw2_8 (nlen ub) cw2_8):=x8
       have RRW2_8:=hid rrw2_8
       clear rrw2_8
       refine stepH rfl fun K' hK=>?_
       go_simp
       with_reducible refine(C4.out _ _ _ RRW2_8.out).mono ?_
       rintro e W' ⟨pw2_9,cw2_9,rfl,rrw2_9,hb⟩
       exact hK.out _ _ ⟨HI.out.pc Hi.out hb ⟨pw2_9,cw2_9,rfl,rrw2_9⟩,trivial⟩
     | 10,_,Hi =>
       refine stepH rfl fun K' hK=>?_
       go_simp
       exact hK.out _ _ ⟨HI.out.pc Hi.out ((Below.refl W.heap.size W).alloc (Nat.le_refl _) (.cells #[.bool false,.slice none 0 0] 51)) ⟨W.heap.size,rfl,HI.out.world.size,SBk.new _ _ _⟩,trivial⟩
     | n+11,h,_=>exact absurd h (by omega)
   · intro listed a W hI hD hall
     obtain⟨v',x8,pw2_8,cw2_8,e,rrw2_8⟩:=hI.slots 8 (by decide) (hall 8 (by decide))
     obtain rfl:=e
     have RRW2_8:=hid rrw2_8
     clear rrw2_8
     obtain⟨v',x9,pw2_9,cw2_9,e,rrw2_9⟩:=hI.slots 9 (by decide) (hall 9 (by decide))
     obtain rfl:=e
     have RRW2_9:=hid rrw2_9
     clear rrw2_9
     have x9:a.tmps[40]? = some (.agg #[.bool (zneg y),.slice pw2_9 (zlen y) cw2_9]):=x9
     obtain⟨v',x10,gw2_10,e,rrw2_10,rrw2_10_1⟩:=hI.slots 10 (by decide) (hall 10 (by decide))
     obtain rfl:=e
     have RRW2_10:=hid rrw2_10
     clear rrw2_10
     have RRW2_10_1:=hid rrw2_10_1
     clear rrw2_10_1
     have x10:a.tmps[6]? = some (.pointer (some ⟨gw2_10,0,none⟩)):=x10
     have HBW:=hid hI.world
     have HI:=hid hI
     have HA:=hid hall
     clear hI hall
     have K1:=hid (K1.out.below HBW.out)
     have K2:=hid (K2.out.below HBW.out)
     have K3:=hid (K3.out.below HBW.out)
     have K4:=hid (K4.out.below HBW.out)
     have T1:=hid (T1.out.below HBW.out)
     have T2:=hid (T2.out.below HBW.out)
     have RX:=hid (RX.out.below HBW.out)
     have HBX:=hid (HB2.out.trans (HBW.out.mono HB2.out.size))
     have RB:=RRW2_8
     have RY:=RRW2_9
     have K5:Hid (SBk W gw2_10 #[.bool false,.slice none 0 0] 51):=RRW2_10_1
     have dK50:=K5.out.cell (i:=0) rfl
     have fK50:=K5.out.frozen (i:=0)
     have dK51:=K5.out.cell (i:=1) rfl
     have fK51:=K5.out.frozen (i:=1)
     refine tail_succ (t:=0) ?_
     refine stepH rfl fun K' hK=>?_
     go_simp
     refine hK.out _ _ ?_
     clear hK
     refine tail_nil ?_
     have s0:∀ {v':Value} {n':Nat},RN W v' n'→RN (storeAll W (gw2_10) 0 [.bool (zneg y),.slice pw2_9 (zlen y) cw2_9]) v' n':=fun h'=>store_rn _ h' K5.out (by simp[noInt]) (by simp[plainV])
     have o0:∀ {g':Nat} {cs':Array Value} {T':TypeId},g'≠gw2_10→SBk W g' cs' T'→SBk (storeAll W (gw2_10) 0 [.bool (zneg y),.slice pw2_9 (zlen y) cw2_9]) g' cs' T':=fun hg' h'=>store_off hg' _ 0 h'
     exact⟨rfl,pw2_8,cw2_8,pw2_9,cw2_9,gw2_10,(HI.out.finx ⟨HI.out.sx HA.out 0,HI.out.sx HA.out 1,HI.out.sx HA.out 2,HI.out.sx HA.out 3,HI.out.sx HA.out 4,HI.out.sx HA.out 5,HI.out.sx HA.out 6,HI.out.sx HA.out 7,x8,x9,x10,trivial⟩ rfl),(store_below (l:=[.bool (zneg y),.slice pw2_9 (zlen y) cw2_9]) (i:=0) (by have:=RRW2_10.out;omega) HBX.out),(o0 (by have:=RRW2_10.out;omega) K1.out),(o0 (by have:=RRW2_10.out;omega) K2.out),(o0 (by have:=RRW2_10.out;omega) K3.out),(o0 (by have:=RRW2_10.out;omega) K4.out),(store_blk (l:=[.bool (zneg y),.slice pw2_9 (zlen y) cw2_9]) (i:=0) K5.out),(s0 T1.out),(s0 T2.out),(s0 RX.out),(s0 RY.out),RRW2_10.out⟩
 rintro a' W3 ⟨pw2_8,cw2_8,pw2_9,cw2_9,gw2_10,rfl,z0,z1,z2,z3,z4,z5,z6,z7,z8,z9,z10⟩
 have HB3:=hid z0
 have K1:=hid z1
 have K2:=hid z2
 have K3:=hid z3
 have K4:=hid z4
 have K5:=hid z5
 have T1:=hid z6
 have T2:=hid z7
 have RX:=hid z8
 have RY:=hid z9
 have R10xW3:=z10
 clear z0 z1 z2 z3 z4 z5 z6 z7 z8 z9 z10
 simp only[putL,List.setIfInBounds_toArray,List.set_cons_zero,List.set_cons_succ]
 go_wp2_with fail
 refine wp_region_post (fun a0 a' V=>∃ pw3_2 cw3_2 pw3_7 cw3_7 pw3_8 cw3_8 sw3_8 dw3_8,a'=⟨putL [(41,.agg #[.bool (zneg x),.slice pw1_9 (zlen x) cw1_9]),(42,.agg #[.bool (zneg y),.slice pw2_9 (zlen y) cw2_9]),(43,.agg #[.bool (zneg z),.slice pw3_2 (zlen z) cw3_2]),(44,.pointer (some ⟨w.heap.size,2,none⟩)),(45,.slice s1 (nlen en1) d1),(46,.pointer (some ⟨w.heap.size+1,2,none⟩)),(47,.slice s2 (nlen en2) d2),(48,.slice pw3_7 (nlen en) cw3_7),(49,.agg #[.bool (zneg (n)),.slice pw3_8 (zlen (n)) cw3_8,.slice sw3_8 (nlen (dn)) dw3_8])] a0.tmps,a0.defers⟩∧Below w.heap.size w V∧SBk V (w.heap.size+1+1) #[.bool (zneg (n)),.slice pw3_8 (zlen (n)) cw3_8,.slice sw3_8 (nlen (dn)) dw3_8] 53∧RN V (.slice pw3_8 (zlen (n)) cw3_8) (n).natAbs∧RN V (.slice sw3_8 (nlen (dn)) dw3_8) (dn)) ?_ ?_
 · refine wp_region_tail_d (by kernel_rfl) 9 1 (fun i=>[41,42,43,44,45,46,47,48,49].getD i 0) (RelR [Rel.val (.agg #[.bool (zneg x),.slice pw1_9 (zlen x) cw1_9]),Rel.val (.agg #[.bool (zneg y),.slice pw2_9 (zlen y) cw2_9]),Rel.int z,Rel.val (.pointer (some ⟨w.heap.size,2,none⟩)),Rel.val (.slice s1 (nlen en1) d1),Rel.val (.pointer (some ⟨w.heap.size+1,2,none⟩)),Rel.val (.slice s2 (nlen en2) d2),Rel.nat en,⟨fun v W=>∃ p c s d,v=.agg #[.bool (zneg (n)),.slice p (zlen (n)) c,.slice s (nlen (dn)) d]∧RN W (.slice p (zlen (n)) c) (n).natAbs∧RN W (.slice s (nlen (dn)) d) (dn),fun _ _ _ ⟨p,c,s,d,e,h0,h1⟩ hb=>⟨p,c,s,d,e,h0.below hb,h1.below hb⟩⟩]) (fun W=>Below W3.heap.size W3 W) (fun _ _=>True) (by kernel_rfl) (by kernel_rfl) (by kernel_rfl) trivial (Below.refl _ _).drew ?_ ?_
   · intro listed a W i hI hD hrd him
     have HI:=hid hI
     have HD:=hid hD
     have Hr:=hid hrd
     clear hI hrd hD
     have y5:a.tmps[5]? = some (.pointer (some ⟨gw1_10,0,none⟩)):=HI.out.rest 5 (by decide)
     have y6:a.tmps[6]? = some (.pointer (some ⟨gw2_10,0,none⟩)):=HI.out.rest 6 (by decide)
     have y2:a.tmps[2]? = some (.pointer (some ⟨w.heap.size,0,none⟩)):=HI.out.rest 2 (by decide)
     have y3:a.tmps[3]? = some (.pointer (some ⟨w.heap.size+1,0,none⟩)):=HI.out.rest 3 (by decide)
     have dK40:=(K4.out.below HI.out.world).cell (i:=0) rfl
     have dK41:=(K4.out.below HI.out.world).cell (i:=1) rfl
     have dK50:=(K5.out.below HI.out.world).cell (i:=0) rfl
     have dK51:=(K5.out.below HI.out.world).cell (i:=1) rfl
     have dK12:=(K1.out.below HI.out.world).cell (i:=2) rfl
     have dK22:=(K2.out.below HI.out.world).cell (i:=2) rfl
     have X0:RV _ listed a 0 41 (.agg #[.bool (zneg x),.slice pw1_9 (zlen x) cw1_9]):=HI.out.rh
     have X1:RV _ listed a 1 42 (.agg #[.bool (zneg y),.slice pw2_9 (zlen y) cw2_9]):=HI.out.rh
     have X3:RV _ listed a 3 44 (.pointer (some ⟨w.heap.size,2,none⟩)):=HI.out.rh
     have X5:RV _ listed a 5 46 (.pointer (some ⟨w.heap.size+1,2,none⟩)):=HI.out.rh
     have X4:RV _ listed a 4 45 (.slice s1 (nlen en1) d1):=HI.out.rh
     have X6:RV _ listed a 6 47 (.slice s2 (nlen en2) d2):=HI.out.rh
     match i,him,Hr with
     | 0,_,Hi =>
       refine stepH rfl fun K' hK=>?_
       go_simp
       exact hK.out _ _ ⟨HI.out.pv Hi.out rfl,trivial⟩
     | 1,_,Hi =>
       refine stepH rfl fun K' hK=>?_
       go_simp
       exact hK.out _ _ ⟨HI.out.pv Hi.out rfl,trivial⟩
     | 2,_,Hi =>
       have x0:=X0.g Hi.out (by kernel_rfl)
       have x1:=X1.g Hi.out (by kernel_rfl)
       refine stepH rfl fun K' hK=>?_
       go_simp
       with_reducible refine(C5.out _ _ _ _ _ (RX.out.below HI.out.world) (RY.out.below HI.out.world)).mono ?_
       rintro e W' ⟨pw3_2,cw3_2,rfl,rrw3_2,hb⟩
       exact hK.out _ _ ⟨HI.out.pc Hi.out hb ⟨pw3_2,cw3_2,rfl,rrw3_2⟩,trivial⟩
     | 3,_,Hi =>
       refine stepH rfl fun K' hK=>?_
       go_simp
       exact hK.out _ _ ⟨HI.out.pv Hi.out rfl,trivial⟩
     | 4,_,Hi =>
       have x3:=X3.g Hi.out (by kernel_rfl)
       refine stepH rfl fun K' hK=>?_
       go_simp
       exact hK.out _ _ ⟨HI.out.pv Hi.out rfl,trivial⟩
     | 5,_,Hi =>
       refine stepH rfl fun K' hK=>?_
       go_simp
       exact hK.out _ _ ⟨HI.out.pv Hi.out rfl,trivial⟩
     | 6,_,Hi =>
       have x5:=X5.g Hi.out (by kernel_rfl)
       refine stepH rfl fun K' hK=>?_
       go_simp
       exact hK.out _ _ ⟨HI.out.pv Hi.out rfl,trivial⟩
     | 7,_,Hi =>
       have x4:=X4.g Hi.out (by kernel_rfl)
       have x6:=X6.g Hi.out (by kernel_rfl)
       refine stepH rfl fun K' hK=>?_
       go_simp
       with_reducible refine(C6.out _ _ _ _ _ (T1.out.below HI.out.world) (T2.out.below HI.out.world)).mono ?_
       rintro e W' ⟨pw3_7,cw3_7,rfl,rrw3_7,hb⟩
       exact hK.out _ _ ⟨HI.out.pc Hi.out hb ⟨pw3_7,cw3_7,rfl,rrw3_7⟩,trivial⟩
     | 8,_,Hi =>
       obtain⟨v',x2,pw3_2,cw3_2,e,rrw3_2⟩:=HI.out.at (i:=2) Hi.out (by kernel_rfl) (by decide)
       obtain rfl:=e
       have x2:a.tmps[43]? = some (.agg #[.bool (zneg z),.slice pw3_2 (zlen z) cw3_2]):=x2
       have RRW3_2:=hid rrw3_2
       clear rrw3_2
       obtain⟨v',x7,pw3_7,cw3_7,e,rrw3_7⟩:=HI.out.at (i:=7) Hi.out (by kernel_rfl) (by decide)
       obtain rfl:=e
       have x7:a.tmps[48]? = some (.slice pw3_7 (nlen en) cw3_7):=x7
       have RRW3_7:=hid rrw3_7
       clear rrw3_7
       refine stepH rfl fun K' hK=>?_
       go_simp
       with_reducible refine(C7.out _ _ _ _ _ RRW3_2.out RRW3_7.out).mono ?_
       rintro e W' ⟨pw3_8,cw3_8,sw3_8,dw3_8,rfl,rrw3_8,rrw3_8_1,hb⟩
       exact hK.out _ _ ⟨HI.out.pc Hi.out hb ⟨pw3_8,cw3_8,sw3_8,dw3_8,rfl,rrw3_8,rrw3_8_1⟩,trivial⟩
     | n+9,h,_=>exact absurd h (by omega)
   · intro listed a W hI hD hall
     obtain⟨v',x2,pw3_2,cw3_2,e,rrw3_2⟩:=hI.slots 2 (by decide) (hall 2 (by decide))
     obtain rfl:=e
     have RRW3_2:=hid rrw3_2
     clear rrw3_2
     obtain⟨v',x7,pw3_7,cw3_7,e,rrw3_7⟩:=hI.slots 7 (by decide) (hall 7 (by decide))
     obtain rfl:=e
     have RRW3_7:=hid rrw3_7
     clear rrw3_7
     obtain⟨v',x8,pw3_8,cw3_8,sw3_8,dw3_8,e,rrw3_8,rrw3_8_1⟩:=hI.slots 8 (by decide) (hall 8 (by decide))
     obtain rfl:=e
     have RRW3_8:=hid rrw3_8
     clear rrw3_8
     have RRW3_8_1:=hid rrw3_8_1
     clear rrw3_8_1
     have x8:a.tmps[49]? = some (.agg #[.bool (zneg (n)),.slice pw3_8 (zlen (n)) cw3_8,.slice sw3_8 (nlen (dn)) dw3_8]):=x8
     have HBW:=hid hI.world
     have HI:=hid hI
     have HA:=hid hall
     clear hI hall
     have K3:=hid (K3.out.below HBW.out)
     have HBX:=hid (HB3.out.trans (HBW.out.mono HB3.out.size))
     have RZ:=RRW3_2
     have RE:=RRW3_7
     have RQ:=RRW3_8
     have TQ:=RRW3_8_1
     have y4:a.tmps[4]? = some (.pointer (some ⟨w.heap.size+1+1,0,none⟩)):=HI.out.rest 4 (by decide)
     have dK30:=K3.out.cell (i:=0) rfl
     have fK30:=K3.out.frozen (i:=0)
     have dK31:=K3.out.cell (i:=1) rfl
     have fK31:=K3.out.frozen (i:=1)
     have dK32:=K3.out.cell (i:=2) rfl
     have fK32:=K3.out.frozen (i:=2)
     refine tail_succ (t:=0) ?_
     refine stepH rfl fun K' hK=>?_
     go_simp
     refine hK.out _ _ ?_
     clear hK
     refine tail_nil ?_
     have s0:∀ {v':Value} {n':Nat},RN W v' n'→RN (storeAll W (w.heap.size+1+1) 0 [.bool (zneg (n)),.slice pw3_8 (zlen (n)) cw3_8,.slice sw3_8 (nlen (dn)) dw3_8]) v' n':=fun h'=>store_rn _ h' K3.out (by simp[noInt]) (by simp[plainV])
     exact⟨rfl,pw3_2,cw3_2,pw3_7,cw3_7,pw3_8,cw3_8,sw3_8,dw3_8,(HI.out.finx ⟨HI.out.sx HA.out 0,HI.out.sx HA.out 1,x2,HI.out.sx HA.out 3,HI.out.sx HA.out 4,HI.out.sx HA.out 5,HI.out.sx HA.out 6,x7,x8,trivial⟩ rfl),(store_below (l:=[.bool (zneg (n)),.slice pw3_8 (zlen (n)) cw3_8,.slice sw3_8 (nlen (dn)) dw3_8]) (i:=0) (by omega) HBX.out),(store_blk (l:=[.bool (zneg (n)),.slice pw3_8 (zlen (n)) cw3_8,.slice sw3_8 (nlen (dn)) dw3_8]) (i:=0) K3.out),(s0 RQ.out),(s0 TQ.out)⟩
 rintro a' W4 ⟨pw3_2,cw3_2,pw3_7,cw3_7,pw3_8,cw3_8,sw3_8,dw3_8,rfl,z0,z1,z2,z3⟩
 have HB4:=hid z0
 have K3:=hid z1
 have RQ:=hid z2
 have TQ:=hid z3
 clear z0 z1 z2 z3
 simp only[putL,List.setIfInBounds_toArray,List.set_cons_zero,List.set_cons_succ]
 go_wp2
 have dK30:=K3.out.cell (i:=0) rfl
 have dK31:=K3.out.cell (i:=1) rfl
 have dK32:=K3.out.cell (i:=2) rfl
 exact bodyPost_ret (v:=.agg #[.bool (zneg (n)),.slice pw3_8 (zlen (n)) cw3_8,.slice sw3_8 (nlen (dn)) dw3_8]) (by simp[results,Tryz.results67,go_sem,dK30,dK31,dK32]) rfl ⟨_,_,_,_,rfl,RQ.out,TQ.out,HB4.out⟩
end Go.Proofs.YthjmjlfnpnbonaaGreatDoor
