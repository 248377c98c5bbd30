/- garboardref03: Valid, Parts, Make, Whole, Frac, Floor: walks over the contracts of what they call. -/
import Derived.Test.YtmigpoiajkihhaaGreatDoorMz39q
import Derived.Test.YtmigpoiajkihhaaGreatDoorMz1q
import Derived.Test.YtmigpoiajkihhaaGreatDoorMz42q
set_option maxRecDepth 100000
set_option maxHeartbeats 20000000
open Go.Lib (hid)
namespace Go.Proofs.YtmigpoiajkihhaaGreatDoor
open Go.RowKit Go.Gb
theorem rvalid_raw (x1:ByteArray)(n1:Int)(en1:Nat)(b:Bool)  (w:World)(h1:∀ W,Calls Tryz.prog 44 #[.string x1] W fun e w'=>∃ p c s d,e=.returned (.tuple #[.agg #[.bool (zneg n1),.slice p (zlen n1) c,.slice s (nlen en1) d],.bool b])∧RN w' (.slice p (zlen n1) c) n1.natAbs∧RN w' (.slice s (nlen en1) d) en1∧Below W.heap.size W w')  :
 CR 14 #[.string x1] w (.bool b):=by
 have C1:=hid h1
 clear h1
 go_enter Tryz.func14,Tryz.ntmps14
 have HB0:=hid (Below.refl w.heap.size w)
 go_wp2_with fail
 with_reducible refine(C1.out _).mono ?_
 rintro e W1 ⟨pa_1,ca_1,sa_1,da_1,rfl,r1_0,r1_1,hb⟩
 have HB1:=hid (HB0.out.trans (hb.mono HB0.out.size))
 have RA:=hid r1_0
 have TA:=hid r1_1
 clear hb r1_0 r1_1
 go_upto_region 2 with fail
 refine wp_boxes W1 [(#[.bool (zneg (n1)),.slice pa_1 (zlen (n1)) ca_1,.slice sa_1 (nlen (en1)) da_1],55)] rfl ?_
 have L1:=HB1.out.size
 rintro W2 ⟨k1,hb⟩
 have hb:Below W1.heap.size W1 W2:=hb
 have HB2:=hid (HB1.out.trans (hb.mono HB1.out.size))
 have K1:=hid k1
 clear k1 hb
 go_wp2
 exact bodyPost_ret (v:=.bool b) (by simp[results,Tryz.results14,go_sem]) rfl ⟨rfl,HB2.out⟩
theorem whole_raw (n m q r:Int)(en:Nat)(p1:Option Addr)(c1:Nat)(s1:Option Addr)(d1:Nat)(w:World)(h1:∀ s2 d2 W,RN W (.slice s2 (nlen en) d2) en→CZ 41 #[.bool false,.slice s2 (nlen en) d2] W m)(h2:∀ p1 c1 p2 c2 W,RN W (.slice p1 (zlen n) c1) n.natAbs→RN W (.slice p2 (zlen m) c2) m.natAbs→Calls Tryz.prog 106 #[.agg #[.bool (zneg n),.slice p1 (zlen n) c1],.agg #[.bool (zneg m),.slice p2 (zlen m) c2]] W fun e w'=>∃ p c p' c',e=.returned (.tuple #[.agg #[.bool (zneg q),.slice p (zlen q) c],.agg #[.bool (zneg r),.slice p' (zlen r) c']])∧RN w' (.slice p (zlen q) c) q.natAbs∧RN w' (.slice p' (zlen r) c') r.natAbs∧Below W.heap.size W w')(r1:RN w (.slice p1 (zlen n) c1) n.natAbs)(t1:RN w (.slice s1 (nlen en) d1) en) :
 CZ 57 #[.agg #[.bool (zneg n),.slice p1 (zlen n) c1,.slice s1 (nlen en) d1]] w q:=by
 have C1:=hid h1
 have C2:=hid h2
 have R1:=hid r1
 have T1:=hid t1
 clear h1 h2 r1 t1
 go_enter Tryz.func57,Tryz.ntmps57
 go_upto_region 1 with fail
 refine wp_boxes w [(#[.bool (zneg n),.slice p1 (zlen n) c1,.slice s1 (nlen en) d1],55),(#[.bool false,.slice none 0 0],50)] rfl ?_
 rintro W0 ⟨k1,k2,hb⟩
 have HB0:=hid (show Below w.heap.size w W0 from hb)
 have R1:=hid (R1.out.below HB0.out)
 have T1:=hid (T1.out.below HB0.out)
 have K1:=hid k1
 have K2:=hid k2
 clear k1 k2 hb
 go_wp2_with fail
 have L1:=K1.out.lt
 have L2:=K2.out.lt
 have L3:=HB0.out.size
 refine wp_region_post (fun a0 a' V=>∃ pw1_4 cw1_4 paw1_5 caw1_5 pbw1_5 cbw1_5 paw1_6 caw1_6 pbw1_6 cbw1_6 pw1_7 cw1_7 pw1_8 cw1_8 gw1_9 gw1_10,a'=⟨putL [(6,.pointer (some ⟨w.heap.size,0,none⟩)),(7,.agg #[.bool (zneg n),.slice p1 (zlen n) c1]),(8,.pointer (some ⟨w.heap.size,2,none⟩)),(9,.slice s1 (nlen en) d1),(10,.agg #[.bool (zneg m),.slice pw1_4 (zlen m) cw1_4]),(11,.tuple #[.agg #[.bool (zneg q),.slice paw1_5 (zlen q) caw1_5],.agg #[.bool (zneg r),.slice pbw1_5 (zlen r) cbw1_5]]),(5,.tuple #[.agg #[.bool (zneg q),.slice paw1_6 (zlen q) caw1_6],.agg #[.bool (zneg r),.slice pbw1_6 (zlen r) cbw1_6]]),(12,.agg #[.bool (zneg q),.slice pw1_7 (zlen q) cw1_7]),(13,.agg #[.bool (zneg r),.slice pw1_8 (zlen r) cw1_8]),(3,.pointer (some ⟨gw1_9,0,none⟩)),(4,.pointer (some ⟨gw1_10,0,none⟩))] a0.tmps,a0.defers⟩∧Below w.heap.size w V∧SBk V (w.heap.size+1) #[.bool false,.slice none 0 0] 50∧SBk V (gw1_9) #[.bool (zneg q),.slice pw1_7 (zlen q) cw1_7] 50∧RN V (.slice pw1_7 (zlen q) cw1_7) q.natAbs∧W0.heap.size≤gw1_9∧W0.heap.size≤gw1_10∧gw1_9≠gw1_10) ?_ ?_
 · refine wp_region_swap (by kernel_rfl) 11 1 8 (fun i=>[6,7,8,9,10,11,5,12,13,3,4].getD i 0) (RelR [Rel.val (.pointer (some ⟨w.heap.size,0,none⟩)),Rel.val (.agg #[.bool (zneg n),.slice p1 (zlen n) c1]),Rel.val (.pointer (some ⟨w.heap.size,2,none⟩)),Rel.val (.slice s1 (nlen en) d1),Rel.int m,Rel.int2 q r,Rel.int2 q r,Rel.int q,Rel.int r,Rel.ptr W0.heap.size (.cells #[.bool false,.slice none 0 0] 50),Rel.ptr W0.heap.size (.cells #[.bool false,.slice none 0 0] 50)]) (fun W=>Below W0.heap.size W0 W) (Dst 9 10 (fun i=>[6,7,8,9,10,11,5,12,13,3,4].getD i 0)) (by decide) (by decide) (by kernel_rfl) (by kernel_rfl) (by kernel_rfl) (by kernel_rfl) Dst.start (Below.refl _ _).drew ?_ ?_ ?_
   · intro listed a W i hI hD hrd him
     have HI:=hid hI
     have HD:=hid hD
     have Hr:=hid hrd
     clear hI hrd hD
     have y1:a.tmps[1]? = some (.pointer (some ⟨w.heap.size,0,none⟩)):=HI.out.rest 1 (by decide)
     have dK10:=(K1.out.below HI.out.world).cell (i:=0) rfl
     have dK11:=(K1.out.below HI.out.world).cell (i:=1) rfl
     have dK12:=(K1.out.below HI.out.world).cell (i:=2) rfl
     have X0:RV _ listed a 0 6 (.pointer (some ⟨w.heap.size,0,none⟩)):=HI.out.rh
     have X2:RV _ listed a 2 8 (.pointer (some ⟨w.heap.size,2,none⟩)):=HI.out.rh
     have X3:RV _ listed a 3 9 (.slice s1 (nlen en) d1):=HI.out.rh
     have X1:RV _ listed a 1 7 (.agg #[.bool (zneg n),.slice p1 (zlen n) c1]):=HI.out.rh
     match i,him,Hr with
     | 0,_,Hi =>
       refine stepH rfl fun K' hK=>?_
       go_simp
       exact hK.out _ _ ⟨HI.out.pv Hi.out rfl,HD.out.put (by decide) (by decide) rfl (by decide) (by decide)⟩
     | 1,_,Hi =>
       have x0:=X0.g Hi.out (by kernel_rfl)
       refine stepH rfl fun K' hK=>?_
       go_simp
       exact hK.out _ _ ⟨HI.out.pv Hi.out rfl,HD.out.put (by decide) (by decide) rfl (by decide) (by decide)⟩
     | 2,_,Hi =>
       refine stepH rfl fun K' hK=>?_
       go_simp
       exact hK.out _ _ ⟨HI.out.pv Hi.out rfl,HD.out.put (by decide) (by decide) rfl (by decide) (by decide)⟩
     | 3,_,Hi =>
       have x2:=X2.g Hi.out (by kernel_rfl)
       refine stepH rfl fun K' hK=>?_
       go_simp
       exact hK.out _ _ ⟨HI.out.pv Hi.out rfl,HD.out.put (by decide) (by decide) rfl (by decide) (by decide)⟩
     | 4,_,Hi =>
       have x3:=X3.g Hi.out (by kernel_rfl)
       refine stepH rfl fun K' hK=>?_
       go_simp
       with_reducible refine(C1.out _ _ _ (T1.out.below HI.out.world)).mono ?_
       rintro e W' ⟨pw1_4,cw1_4,rfl,rrw1_4,hb⟩
       exact hK.out _ _ ⟨HI.out.pc Hi.out hb ⟨pw1_4,cw1_4,rfl,rrw1_4⟩,HD.out.put (by decide) (by decide) rfl (by decide) (by decide)⟩
     | 5,_,Hi =>
       have x1:=X1.g Hi.out (by kernel_rfl)
       obtain⟨v',x4,pw1_4,cw1_4,e,rrw1_4⟩:=HI.out.at (i:=4) Hi.out (by kernel_rfl) (by decide)
       obtain rfl:=e
       have x4:a.tmps[10]? = some (.agg #[.bool (zneg m),.slice pw1_4 (zlen m) cw1_4]):=x4
       have RRW1_4:=hid rrw1_4
       clear rrw1_4
       refine stepH rfl fun K' hK=>?_
       go_simp
       with_reducible refine(C2.out _ _ _ _ _ (R1.out.below HI.out.world) RRW1_4.out).mono ?_
       rintro e W' ⟨paw1_5,caw1_5,pbw1_5,cbw1_5,rfl,rrw1_5,rrw1_5_1,hb⟩
       exact hK.out _ _ ⟨HI.out.pc Hi.out hb ⟨paw1_5,caw1_5,pbw1_5,cbw1_5,rfl,rrw1_5,rrw1_5_1⟩,HD.out.put (by decide) (by decide) rfl (by decide) (by decide)⟩
     | 6,_,Hi =>
       obtain⟨v',x5,paw1_5,caw1_5,pbw1_5,cbw1_5,e,rrw1_5,rrw1_5_1⟩:=HI.out.at (i:=5) Hi.out (by kernel_rfl) (by decide)
       obtain rfl:=e
       have x5:a.tmps[11]? = some (.tuple #[.agg #[.bool (zneg q),.slice paw1_5 (zlen q) caw1_5],.agg #[.bool (zneg r),.slice pbw1_5 (zlen r) cbw1_5]]):=x5
       have RRW1_5:=hid rrw1_5
       clear rrw1_5
       have RRW1_5_1:=hid rrw1_5_1
       clear rrw1_5_1
       refine stepH rfl fun K' hK=>?_
       go_simp
       exact hK.out _ _ ⟨HI.out.pv Hi.out ⟨paw1_5,caw1_5,pbw1_5,cbw1_5,rfl,RRW1_5.out,RRW1_5_1.out⟩,HD.out.put (by decide) (by decide) rfl (by decide) (by decide)⟩
     | 7,_,Hi =>
       obtain⟨v',x6,paw1_6,caw1_6,pbw1_6,cbw1_6,e,rrw1_6,rrw1_6_1⟩:=HI.out.at (i:=6) Hi.out (by kernel_rfl) (by decide)
       obtain rfl:=e
       have x6:a.tmps[5]? = some (.tuple #[.agg #[.bool (zneg q),.slice paw1_6 (zlen q) caw1_6],.agg #[.bool (zneg r),.slice pbw1_6 (zlen r) cbw1_6]]):=x6
       have RRW1_6:=hid rrw1_6
       clear rrw1_6
       have RRW1_6_1:=hid rrw1_6_1
       clear rrw1_6_1
       refine stepH rfl fun K' hK=>?_
       go_simp
       exact hK.out _ _ ⟨HI.out.pv Hi.out ⟨paw1_6,caw1_6,rfl,RRW1_6.out⟩,HD.out.put (by decide) (by decide) rfl (by decide) (by decide)⟩
     | 8,_,Hi =>
       obtain⟨v',x6,paw1_6,caw1_6,pbw1_6,cbw1_6,e,rrw1_6,rrw1_6_1⟩:=HI.out.at (i:=6) Hi.out (by kernel_rfl) (by decide)
       obtain rfl:=e
       have x6:a.tmps[5]? = some (.tuple #[.agg #[.bool (zneg q),.slice paw1_6 (zlen q) caw1_6],.agg #[.bool (zneg r),.slice pbw1_6 (zlen r) cbw1_6]]):=x6
       have RRW1_6:=hid rrw1_6
       clear rrw1_6
       have RRW1_6_1:=hid rrw1_6_1
       clear rrw1_6_1
       refine stepH rfl fun K' hK=>?_
       go_simp
       exact hK.out _ _ ⟨HI.out.pv Hi.out ⟨pbw1_6,cbw1_6,rfl,RRW1_6_1.out⟩,HD.out.put (by decide) (by decide) rfl (by decide) (by decide)⟩
     | 9,_,Hi =>
       refine stepH rfl fun K' hK=>?_
       go_simp
       exact hK.out _ _ ⟨HI.out.pc Hi.out ((Below.refl W.heap.size W).alloc (Nat.le_refl _) (.cells #[.bool false,.slice none 0 0] 50)) ⟨W.heap.size,rfl,HI.out.world.size,SBk.new _ _ _⟩,Dst.left (by decide) rfl (by decide) (by rw[HI.out.tsize];simp) (HI.out.fresh (i:=10) (by decide) (fun _ _ h=>h))⟩
     | 10,_,Hi =>
       refine stepH rfl fun K' hK=>?_
       go_simp
       exact hK.out _ _ ⟨HI.out.pc Hi.out ((Below.refl W.heap.size W).alloc (Nat.le_refl _) (.cells #[.bool false,.slice none 0 0] 50)) ⟨W.heap.size,rfl,HI.out.world.size,SBk.new _ _ _⟩,Dst.right (by decide) rfl (by decide) (by rw[HI.out.tsize];simp) (HI.out.fresh (i:=9) (by decide) (fun _ _ h=>h))⟩
     | n+11,h,_=>exact absurd h (by omega)
   · intro listed a W hI hD hall
     obtain⟨v',x4,pw1_4,cw1_4,e,rrw1_4⟩:=hI.slots 4 (by decide) (hall 4 (by decide))
     obtain rfl:=e
     have RRW1_4:=hid rrw1_4
     clear rrw1_4
     obtain⟨v',x5,paw1_5,caw1_5,pbw1_5,cbw1_5,e,rrw1_5,rrw1_5_1⟩:=hI.slots 5 (by decide) (hall 5 (by decide))
     obtain rfl:=e
     have RRW1_5:=hid rrw1_5
     clear rrw1_5
     have RRW1_5_1:=hid rrw1_5_1
     clear rrw1_5_1
     obtain⟨v',x6,paw1_6,caw1_6,pbw1_6,cbw1_6,e,rrw1_6,rrw1_6_1⟩:=hI.slots 6 (by decide) (hall 6 (by decide))
     obtain rfl:=e
     have RRW1_6:=hid rrw1_6
     clear rrw1_6
     have RRW1_6_1:=hid rrw1_6_1
     clear rrw1_6_1
     obtain⟨v',x7,pw1_7,cw1_7,e,rrw1_7⟩:=hI.slots 7 (by decide) (hall 7 (by decide))
     obtain rfl:=e
     have RRW1_7:=hid rrw1_7
     clear rrw1_7
     have x7:a.tmps[12]? = some (.agg #[.bool (zneg q),.slice pw1_7 (zlen q) cw1_7]):=x7
     obtain⟨v',x8,pw1_8,cw1_8,e,rrw1_8⟩:=hI.slots 8 (by decide) (hall 8 (by decide))
     obtain rfl:=e
     have RRW1_8:=hid rrw1_8
     clear rrw1_8
     have x8:a.tmps[13]? = some (.agg #[.bool (zneg r),.slice pw1_8 (zlen r) cw1_8]):=x8
     obtain⟨v',x9,gw1_9,e,rrw1_9,rrw1_9_1⟩:=hI.slots 9 (by decide) (hall 9 (by decide))
     obtain rfl:=e
     have RRW1_9:=hid rrw1_9
     clear rrw1_9
     have RRW1_9_1:=hid rrw1_9_1
     clear rrw1_9_1
     have x9:a.tmps[3]? = some (.pointer (some ⟨gw1_9,0,none⟩)):=x9
     obtain⟨v',x10,gw1_10,e,rrw1_10,rrw1_10_1⟩:=hI.slots 10 (by decide) (hall 10 (by decide))
     obtain rfl:=e
     have RRW1_10:=hid rrw1_10
     clear rrw1_10
     have RRW1_10_1:=hid rrw1_10_1
     clear rrw1_10_1
     have x10:a.tmps[4]? = some (.pointer (some ⟨gw1_10,0,none⟩)):=x10
     have hD:=hD (hall 9 (by decide)) (hall 10 (by decide))
     have hne:gw1_9≠gw1_10:=by
        intro e
        apply hD
        show a.tmps[3]? = a.tmps[4]?
        rw[x9,x10,e]
     have HNE:=hid hne
     clear hne hD
     have HBW:=hid hI.world
     have HI:=hid hI
     have HA:=hid hall
     clear hI hall
     have K2:=hid (K2.out.below HBW.out)
     have HBX:=hid (HB0.out.trans (HBW.out.mono HB0.out.size))
     have RM:=RRW1_4
     have RQ:=RRW1_7
     have RR:=RRW1_8
     have K3:Hid (SBk W gw1_9 #[.bool false,.slice none 0 0] 50):=RRW1_9_1
     have K4:Hid (SBk W gw1_10 #[.bool false,.slice none 0 0] 50):=RRW1_10_1
     have dK30:=K3.out.cell (i:=0) rfl
     have fK30:=K3.out.frozen (i:=0)
     have dK31:=K3.out.cell (i:=1) rfl
     have fK31:=K3.out.frozen (i:=1)
     have dK40:=K4.out.cell (i:=0) rfl
     have fK40:=K4.out.frozen (i:=0)
     have dK41:=K4.out.cell (i:=1) rfl
     have fK41:=K4.out.frozen (i:=1)
     have ddK40:((W.setCell ⟨gw1_9,0,none⟩ (.bool (zneg q))).setCell ⟨gw1_9,1,none⟩ (.slice pw1_7 (zlen q) cw1_7)).cell? ⟨gw1_10,0,none⟩=some (.bool false):=((store_off (by have:=RRW1_9.out;have:=RRW1_10.out;have:=HNE.out;omega) (l:=[.bool (zneg q),.slice pw1_7 (zlen q) cw1_7]) (i:=0) K4.out)).cell (i:=0) rfl
     have ddK41:((W.setCell ⟨gw1_9,0,none⟩ (.bool (zneg q))).setCell ⟨gw1_9,1,none⟩ (.slice pw1_7 (zlen q) cw1_7)).cell? ⟨gw1_10,1,none⟩=some (.slice none 0 0):=((store_off (by have:=RRW1_9.out;have:=RRW1_10.out;have:=HNE.out;omega) (l:=[.bool (zneg q),.slice pw1_7 (zlen q) cw1_7]) (i:=0) K4.out)).cell (i:=1) rfl
     refine tail_succ (t:=1) ?_
     refine stepH rfl fun K' hK=>?_
     go_simp
     refine hK.out _ _ ?_
     clear hK
     refine tail_succ (t:=0) ?_
     refine stepH rfl fun K' hK=>?_
     go_simp
     refine hK.out _ _ ?_
     clear hK
     refine tail_nil ?_
     have s0:∀ {v':Value} {n':Nat},RN W v' n'→RN (storeAll W (gw1_9) 0 [.bool (zneg q),.slice pw1_7 (zlen q) cw1_7]) v' n':=fun h'=>store_rn _ h' K3.out (by simp[noInt]) (by simp[plainV])
     have o0:∀ {g':Nat} {cs':Array Value} {T':TypeId},g'≠gw1_9→SBk W g' cs' T'→SBk (storeAll W (gw1_9) 0 [.bool (zneg q),.slice pw1_7 (zlen q) cw1_7]) g' cs' T':=fun hg' h'=>store_off hg' _ 0 h'
     have s1:∀ {v':Value} {n':Nat},RN (storeAll W (gw1_9) 0 [.bool (zneg q),.slice pw1_7 (zlen q) cw1_7]) v' n'→RN (storeAll (storeAll W (gw1_9) 0 [.bool (zneg q),.slice pw1_7 (zlen q) cw1_7]) (gw1_10) 0 [.bool (zneg r),.slice pw1_8 (zlen r) cw1_8]) v' n':=fun h'=>store_rn _ h' (o0 (by have:=RRW1_9.out;have:=RRW1_10.out;have:=HNE.out;omega) K4.out) (by simp[noInt]) (by simp[plainV])
     have o1:∀ {g':Nat} {cs':Array Value} {T':TypeId},g'≠gw1_10→SBk (storeAll W (gw1_9) 0 [.bool (zneg q),.slice pw1_7 (zlen q) cw1_7]) g' cs' T'→SBk (storeAll (storeAll W (gw1_9) 0 [.bool (zneg q),.slice pw1_7 (zlen q) cw1_7]) (gw1_10) 0 [.bool (zneg r),.slice pw1_8 (zlen r) cw1_8]) g' cs' T':=fun hg' h'=>store_off hg' _ 0 h'
     exact⟨rfl,pw1_4,cw1_4,paw1_5,caw1_5,pbw1_5,cbw1_5,paw1_6,caw1_6,pbw1_6,cbw1_6,pw1_7,cw1_7,pw1_8,cw1_8,gw1_9,gw1_10,(HI.out.finx ⟨HI.out.sx HA.out 0,HI.out.sx HA.out 1,HI.out.sx HA.out 2,HI.out.sx HA.out 3,x4,x5,x6,x7,x8,x9,x10,trivial⟩ rfl),(store_below (l:=[.bool (zneg r),.slice pw1_8 (zlen r) cw1_8]) (i:=0) (by have:=RRW1_9.out;have:=RRW1_10.out;have:=HNE.out;omega) (store_below (l:=[.bool (zneg q),.slice pw1_7 (zlen q) cw1_7]) (i:=0) (by have:=RRW1_9.out;have:=RRW1_10.out;have:=HNE.out;omega) HBX.out)),(o1 (by have:=RRW1_9.out;have:=RRW1_10.out;have:=HNE.out;omega) (o0 (by have:=RRW1_9.out;have:=RRW1_10.out;have:=HNE.out;omega) K2.out)),(store_off (by have:=RRW1_9.out;have:=RRW1_10.out;have:=HNE.out;omega) (l:=[.bool (zneg r),.slice pw1_8 (zlen r) cw1_8]) (i:=0) (store_blk (l:=[.bool (zneg q),.slice pw1_7 (zlen q) cw1_7]) (i:=0) K3.out)),(s1 (s0 RQ.out)),RRW1_9.out,RRW1_10.out,HNE.out⟩
   · intro listed a W hI hD hall
     obtain⟨v',x4,pw1_4,cw1_4,e,rrw1_4⟩:=hI.slots 4 (by decide) (hall 4 (by decide) (by decide))
     obtain rfl:=e
     have RRW1_4:=hid rrw1_4
     clear rrw1_4
     obtain⟨v',x5,paw1_5,caw1_5,pbw1_5,cbw1_5,e,rrw1_5,rrw1_5_1⟩:=hI.slots 5 (by decide) (hall 5 (by decide) (by decide))
     obtain rfl:=e
     have RRW1_5:=hid rrw1_5
     clear rrw1_5
     have RRW1_5_1:=hid rrw1_5_1
     clear rrw1_5_1
     obtain⟨v',x6,paw1_6,caw1_6,pbw1_6,cbw1_6,e,rrw1_6,rrw1_6_1⟩:=hI.slots 6 (by decide) (hall 6 (by decide) (by decide))
     obtain rfl:=e
     have RRW1_6:=hid rrw1_6
     clear rrw1_6
     have RRW1_6_1:=hid rrw1_6_1
     clear rrw1_6_1
     obtain⟨v',x7,pw1_7,cw1_7,e,rrw1_7⟩:=hI.slots 7 (by decide) (hall 7 (by decide) (by decide))
     obtain rfl:=e
     have RRW1_7:=hid rrw1_7
     clear rrw1_7
     have x7:a.tmps[12]? = some (.agg #[.bool (zneg q),.slice pw1_7 (zlen q) cw1_7]):=x7
     obtain⟨v',x9,gw1_9,e,rrw1_9,rrw1_9_1⟩:=hI.slots 9 (by decide) (hall 9 (by decide) (by decide))
     obtain rfl:=e
     have RRW1_9:=hid rrw1_9
     clear rrw1_9
     have RRW1_9_1:=hid rrw1_9_1
     clear rrw1_9_1
     have x9:a.tmps[3]? = some (.pointer (some ⟨gw1_9,0,none⟩)):=x9
     obtain⟨v',x10,gw1_10,e,rrw1_10,rrw1_10_1⟩:=hI.slots 10 (by decide) (hall 10 (by decide) (by decide))
     obtain rfl:=e
     have RRW1_10:=hid rrw1_10
     clear rrw1_10
     have RRW1_10_1:=hid rrw1_10_1
     clear rrw1_10_1
     have x10:a.tmps[4]? = some (.pointer (some ⟨gw1_10,0,none⟩)):=x10
     have hD:=hD (hall 9 (by decide) (by decide)) (hall 10 (by decide) (by decide))
     have hne:gw1_9≠gw1_10:=by
        intro e
        apply hD
        show a.tmps[3]? = a.tmps[4]?
        rw[x9,x10,e]
     have HNE:=hid hne
     clear hne hD
     have HBW:=hid hI.world
     have HI:=hid hI
     have HA:=hid hall
     clear hI hall
     have K2:=hid (K2.out.below HBW.out)
     have HBX:=hid (HB0.out.trans (HBW.out.mono HB0.out.size))
     have RM:=RRW1_4
     have RQ:=RRW1_7
     have RR:=RRW1_6_1
     have K3:Hid (SBk W gw1_9 #[.bool false,.slice none 0 0] 50):=RRW1_9_1
     have K4:Hid (SBk W gw1_10 #[.bool false,.slice none 0 0] 50):=RRW1_10_1
     have dK30:=K3.out.cell (i:=0) rfl
     have fK30:=K3.out.frozen (i:=0)
     have dK31:=K3.out.cell (i:=1) rfl
     have fK31:=K3.out.frozen (i:=1)
     have dK40:=K4.out.cell (i:=0) rfl
     have fK40:=K4.out.frozen (i:=0)
     have dK41:=K4.out.cell (i:=1) rfl
     have fK41:=K4.out.frozen (i:=1)
     have ddK40:((W.setCell ⟨gw1_9,0,none⟩ (.bool (zneg q))).setCell ⟨gw1_9,1,none⟩ (.slice pw1_7 (zlen q) cw1_7)).cell? ⟨gw1_10,0,none⟩=some (.bool false):=((store_off (by have:=RRW1_9.out;have:=RRW1_10.out;have:=HNE.out;omega) (l:=[.bool (zneg q),.slice pw1_7 (zlen q) cw1_7]) (i:=0) K4.out)).cell (i:=0) rfl
     have ddK41:((W.setCell ⟨gw1_9,0,none⟩ (.bool (zneg q))).setCell ⟨gw1_9,1,none⟩ (.slice pw1_7 (zlen q) cw1_7)).cell? ⟨gw1_10,1,none⟩=some (.slice none 0 0):=((store_off (by have:=RRW1_9.out;have:=RRW1_10.out;have:=HNE.out;omega) (l:=[.bool (zneg q),.slice pw1_7 (zlen q) cw1_7]) (i:=0) K4.out)).cell (i:=1) rfl
     have x6:a.tmps[5]? = some (.tuple #[.agg #[.bool (zneg q),.slice paw1_6 (zlen q) caw1_6],.agg #[.bool (zneg r),.slice pbw1_6 (zlen r) cbw1_6]]):=x6
     refine stepH rfl fun K' hK=>?_
     go_simp
     refine hK.out _ _ ?_
     clear hK
     refine stepH rfl fun K' hK=>?_
     go_simp
     refine hK.out (a.put (some 13) (.agg #[.bool (zneg r),.slice pbw1_6 (zlen r) cbw1_6])) _ ?_
     clear hK
     have z7:(a.put (some 13) (.agg #[.bool (zneg r),.slice pbw1_6 (zlen r) cbw1_6])).tmps[12]? = some (.agg #[.bool (zneg q),.slice pw1_7 (zlen q) cw1_7]):=(put_ne (by decide)).trans x7
     have z9:(a.put (some 13) (.agg #[.bool (zneg r),.slice pbw1_6 (zlen r) cbw1_6])).tmps[3]? = some (.pointer (some ⟨gw1_9,0,none⟩)):=(put_ne (by decide)).trans x9
     have z10:(a.put (some 13) (.agg #[.bool (zneg r),.slice pbw1_6 (zlen r) cbw1_6])).tmps[4]? = some (.pointer (some ⟨gw1_10,0,none⟩)):=(put_ne (by decide)).trans x10
     have z8:(a.put (some 13) (.agg #[.bool (zneg r),.slice pbw1_6 (zlen r) cbw1_6])).tmps[13]? = some (.agg #[.bool (zneg r),.slice pbw1_6 (zlen r) cbw1_6]):=put_same (by rw[HI.out.tsize];simp)
     have EA:=hid (HI.out.finp (sd:=13) (v:=.agg #[.bool (zneg r),.slice pbw1_6 (zlen r) cbw1_6]) [(6,.pointer (some ⟨w.heap.size,0,none⟩)),(7,.agg #[.bool (zneg n),.slice p1 (zlen n) c1]),(8,.pointer (some ⟨w.heap.size,2,none⟩)),(9,.slice s1 (nlen en) d1),(10,.agg #[.bool (zneg m),.slice pw1_4 (zlen m) cw1_4]),(11,.tuple #[.agg #[.bool (zneg q),.slice paw1_5 (zlen q) caw1_5],.agg #[.bool (zneg r),.slice pbw1_5 (zlen r) cbw1_5]]),(5,.tuple #[.agg #[.bool (zneg q),.slice paw1_6 (zlen q) caw1_6],.agg #[.bool (zneg r),.slice pbw1_6 (zlen r) cbw1_6]]),(12,.agg #[.bool (zneg q),.slice pw1_7 (zlen q) cw1_7]),(13,.agg #[.bool (zneg r),.slice pbw1_6 (zlen r) cbw1_6]),(3,.pointer (some ⟨gw1_9,0,none⟩)),(4,.pointer (some ⟨gw1_10,0,none⟩))] ⟨(put_ne (d:=13) (e:=6) (by decide)).trans (HI.out.sy HA.out 0),(put_ne (d:=13) (e:=7) (by decide)).trans (HI.out.sy HA.out 1),(put_ne (d:=13) (e:=8) (by decide)).trans (HI.out.sy HA.out 2),(put_ne (d:=13) (e:=9) (by decide)).trans (HI.out.sy HA.out 3),(put_ne (d:=13) (e:=10) (by decide)).trans x4,(put_ne (d:=13) (e:=11) (by decide)).trans x5,(put_ne (d:=13) (e:=5) (by decide)).trans x6,(put_ne (d:=13) (e:=12) (by decide)).trans x7,put_same (by rw[HI.out.tsize];simp),(put_ne (d:=13) (e:=3) (by decide)).trans x9,(put_ne (d:=13) (e:=4) (by decide)).trans x10,trivial⟩ rfl)
     clear x4 x5 x6 x7 x9 x10
     generalize a.put (some 13) (.agg #[.bool (zneg r),.slice pbw1_6 (zlen r) cbw1_6])=a2 at *
     refine tail_succ (t:=0) ?_
     refine stepH rfl fun K' hK=>?_
     go_simp
     refine hK.out _ _ ?_
     clear hK
     refine tail_nil ?_
     have s0:∀ {v':Value} {n':Nat},RN W v' n'→RN (storeAll W (gw1_9) 0 [.bool (zneg q),.slice pw1_7 (zlen q) cw1_7]) v' n':=fun h'=>store_rn _ h' K3.out (by simp[noInt]) (by simp[plainV])
     have o0:∀ {g':Nat} {cs':Array Value} {T':TypeId},g'≠gw1_9→SBk W g' cs' T'→SBk (storeAll W (gw1_9) 0 [.bool (zneg q),.slice pw1_7 (zlen q) cw1_7]) g' cs' T':=fun hg' h'=>store_off hg' _ 0 h'
     have s1:∀ {v':Value} {n':Nat},RN (storeAll W (gw1_9) 0 [.bool (zneg q),.slice pw1_7 (zlen q) cw1_7]) v' n'→RN (storeAll (storeAll W (gw1_9) 0 [.bool (zneg q),.slice pw1_7 (zlen q) cw1_7]) (gw1_10) 0 [.bool (zneg r),.slice pbw1_6 (zlen r) cbw1_6]) v' n':=fun h'=>store_rn _ h' (o0 (by have:=RRW1_9.out;have:=RRW1_10.out;have:=HNE.out;omega) K4.out) (by simp[noInt]) (by simp[plainV])
     have o1:∀ {g':Nat} {cs':Array Value} {T':TypeId},g'≠gw1_10→SBk (storeAll W (gw1_9) 0 [.bool (zneg q),.slice pw1_7 (zlen q) cw1_7]) g' cs' T'→SBk (storeAll (storeAll W (gw1_9) 0 [.bool (zneg q),.slice pw1_7 (zlen q) cw1_7]) (gw1_10) 0 [.bool (zneg r),.slice pbw1_6 (zlen r) cbw1_6]) g' cs' T':=fun hg' h'=>store_off hg' _ 0 h'
     exact⟨rfl,pw1_4,cw1_4,paw1_5,caw1_5,pbw1_5,cbw1_5,paw1_6,caw1_6,pbw1_6,cbw1_6,pw1_7,cw1_7,pbw1_6,cbw1_6,gw1_9,gw1_10,EA.out,(store_below (l:=[.bool (zneg r),.slice pbw1_6 (zlen r) cbw1_6]) (i:=0) (by have:=RRW1_9.out;have:=RRW1_10.out;have:=HNE.out;omega) (store_below (l:=[.bool (zneg q),.slice pw1_7 (zlen q) cw1_7]) (i:=0) (by have:=RRW1_9.out;have:=RRW1_10.out;have:=HNE.out;omega) HBX.out)),(o1 (by have:=RRW1_9.out;have:=RRW1_10.out;have:=HNE.out;omega) (o0 (by have:=RRW1_9.out;have:=RRW1_10.out;have:=HNE.out;omega) K2.out)),(store_off (by have:=RRW1_9.out;have:=RRW1_10.out;have:=HNE.out;omega) (l:=[.bool (zneg r),.slice pbw1_6 (zlen r) cbw1_6]) (i:=0) (store_blk (l:=[.bool (zneg q),.slice pw1_7 (zlen q) cw1_7]) (i:=0) K3.out)),(s1 (s0 RQ.out)),RRW1_9.out,RRW1_10.out,HNE.out⟩
 rintro a' W1 ⟨pw1_4,cw1_4,paw1_5,caw1_5,pbw1_5,cbw1_5,paw1_6,caw1_6,pbw1_6,cbw1_6,pw1_7,cw1_7,pw1_8,cw1_8,gw1_9,gw1_10,rfl,z0,z1,z2,z3,z4,z5,z6⟩
 have HB1:=hid z0
 have K2:=hid z1
 have K3:=hid z2
 have RQ:=hid z3
 have R9xW1:=z4
 have R10xW1:=z5
 have NEW1:=z6
 clear z0 z1 z2 z3 z4 z5 z6
 simp only[putL,List.setIfInBounds_toArray,List.set_cons_zero,List.set_cons_succ]
 have dK30:=K3.out.cell (i:=0) rfl
 have dK31:=K3.out.cell (i:=1) rfl
 have dK20:=K2.out.cell (i:=0) rfl
 have dK21:=K2.out.cell (i:=1) rfl
 have fK20:=K2.out.frozen (i:=0)
 have fK21:=K2.out.frozen (i:=1)
 go_wp2
 exact bodyPost_ret (v:=.agg #[.bool (zneg q),.slice pw1_7 (zlen q) cw1_7]) (by simp[results,Tryz.results57,go_sem,dK20,dK21]) rfl ⟨_,_,rfl,(store_rn [.bool (zneg q),.slice pw1_7 (zlen q) cw1_7] RQ.out K2.out (by simp[noInt]) (by simp[plainV])),(store_below (l:=[.bool (zneg q),.slice pw1_7 (zlen q) cw1_7]) (i:=0) (by omega) HB1.out)⟩
theorem frac_raw (k l n n3:Int)(dn dn3:Nat)(hl:IntKind.u32.wrap l=l)  (w:World)(h1:∀ W,CZ 112 #[.int .i64 k] W n)(h2:∀ W,CN 63 #[.int .u32 l] W dn)(h3:∀ p1 c1 s2 d2 W,RN W (.slice p1 (zlen n) c1) n.natAbs→RN W (.slice s2 (nlen dn) d2) dn→CF 40 #[.agg #[.bool (zneg n),.slice p1 (zlen n) c1],.slice s2 (nlen dn) d2] W n3 dn3)  :
 CF 64 #[.int .i64 k,.int .i64 l] w n3 dn3:=by
 have C1:=hid h1
 have C2:=hid h2
 have C3:=hid h3
 clear h1 h2 h3
 go_enter Tryz.func64,Tryz.ntmps64
 go_upto_region 1 with fail
 refine wp_boxes w [(#[.bool false,.slice none 0 0,.slice none 0 0],55)] rfl ?_
 rintro W0 ⟨k1,hb⟩
 have HB0:=hid (show Below w.heap.size w W0 from hb)
 have K1:=hid k1
 clear k1 hb
 go_wp2_with fail
 with_reducible refine(C1.out _).mono ?_
 rintro e W1 ⟨p_1,c_1,rfl,r1_0,hb⟩
 have K1:=hid (K1.out.below hb)
 have HB1:=hid (HB0.out.trans (hb.mono HB0.out.size))
 have RN1:=hid r1_0
 clear hb r1_0
 go_wp2_with fail
 with_reducible refine(C2.out _).mono ?_
 rintro e W2 ⟨p_2,c_2,rfl,r2_0,hb⟩
 have K1:=hid (K1.out.below hb)
 have RN1:=hid (RN1.out.below hb)
 have HB2:=hid (HB1.out.trans (hb.mono HB1.out.size))
 have RD1:=hid r2_0
 clear hb r2_0
 go_wp2_with fail
 with_reducible refine(C3.out _ _ _ _ _ RN1.out RD1.out).mono ?_
 rintro e W3 ⟨p_3,c_3,s_3,d_3,rfl,r3_0,r3_1,hb⟩
 have K1:=hid (K1.out.below hb)
 have HB3:=hid (HB2.out.trans (hb.mono HB2.out.size))
 have RQ:=hid r3_0
 have TQ:=hid r3_1
 clear hb r3_0 r3_1
 have dK10:=K1.out.cell (i:=0) rfl
 have dK11:=K1.out.cell (i:=1) rfl
 have dK12:=K1.out.cell (i:=2) rfl
 have fK10:=K1.out.frozen (i:=0)
 have fK11:=K1.out.frozen (i:=1)
 have fK12:=K1.out.frozen (i:=2)
 go_wp2
 exact bodyPost_ret (v:=.agg #[.bool (zneg (n3)),.slice p_3 (zlen (n3)) c_3,.slice s_3 (nlen (dn3)) d_3]) (by simp[results,Tryz.results64,go_sem,dK10,dK11,dK12]) rfl ⟨_,_,_,_,rfl,(store_rn [.bool (zneg (n3)),.slice p_3 (zlen (n3)) c_3,.slice s_3 (nlen (dn3)) d_3] RQ.out K1.out (by simp[noInt]) (by simp[plainV])),(store_rn [.bool (zneg (n3)),.slice p_3 (zlen (n3)) c_3,.slice s_3 (nlen (dn3)) d_3] TQ.out K1.out (by simp[noInt]) (by simp[plainV])),(store_below (l:=[.bool (zneg (n3)),.slice p_3 (zlen (n3)) c_3,.slice s_3 (nlen (dn3)) d_3]) (i:=0) (by omega) HB3.out)⟩
theorem floor_yes (x1 sn:ByteArray)(n1 q:Int)(en1:Nat)  (w:World)(h1:∀ W,Calls Tryz.prog 44 #[.string x1] W fun e w'=>∃ p c s d,e=.returned (.tuple #[.agg #[.bool (zneg n1),.slice p (zlen n1) c,.slice s (nlen en1) d],.bool true])∧RN w' (.slice p (zlen n1) c) n1.natAbs∧RN w' (.slice s (nlen en1) d) en1∧Below W.heap.size W w')(h2:∀ p1 c1 s1 d1 W,RN W (.slice p1 (zlen n1) c1) n1.natAbs→RN W (.slice s1 (nlen en1) d1) en1→CZ 57 #[.agg #[.bool (zneg n1),.slice p1 (zlen n1) c1,.slice s1 (nlen en1) d1]] W q)(h3:∀ p1 c1 W,RN W (.slice p1 (zlen q) c1) q.natAbs→CR 56 #[.agg #[.bool (zneg q),.slice p1 (zlen q) c1]] W (.string sn))  :
 CR 26 #[.string x1] w (.tuple #[.string sn,.int .i64 0]):=by
 have C1:=hid h1
 have C2:=hid h2
 have C3:=hid h3
 clear h1 h2 h3
 go_enter Tryz.func26,Tryz.ntmps26
 have HB0:=hid (Below.refl w.heap.size w)
 go_wp2_with fail
 with_reducible refine(C1.out _).mono ?_
 rintro e W1 ⟨pa_1,ca_1,sa_1,da_1,rfl,r1_0,r1_1,hb⟩
 have HB1:=hid (HB0.out.trans (hb.mono HB0.out.size))
 have RA:=hid r1_0
 have TA:=hid r1_1
 clear hb r1_0 r1_1
 go_upto_region 2 with fail
 refine wp_boxes W1 [(#[.bool (zneg (n1)),.slice pa_1 (zlen (n1)) ca_1,.slice sa_1 (nlen (en1)) da_1],55)] rfl ?_
 have L1:=HB1.out.size
 rintro W2 ⟨k1,hb⟩
 have hb:Below W1.heap.size W1 W2:=hb
 have RA:=hid (RA.out.below hb)
 have TA:=hid (TA.out.below hb)
 have HB2:=hid (HB1.out.trans (hb.mono HB1.out.size))
 have K1:=hid k1
 clear k1 hb
 have dK10:=K1.out.cell (i:=0) rfl
 have dK11:=K1.out.cell (i:=1) rfl
 have dK12:=K1.out.cell (i:=2) rfl
 go_wp2_with fail
 with_reducible refine(C2.out _ _ _ _ _ RA.out TA.out).mono ?_
 rintro e W3 ⟨p_2,c_2,rfl,r2_0,hb⟩
 clear dK10 dK11 dK12
 have HB3:=hid (HB2.out.trans (hb.mono HB2.out.size))
 have RQ:=hid r2_0
 clear hb r2_0
 go_wp2_with fail
 with_reducible refine(C3.out _ _ _ RQ.out).mono ?_
 rintro e W4 ⟨rfl,hb⟩
 have HB4:=hid (HB3.out.trans (hb.mono HB3.out.size))
 clear hb
 go_wp2
 exact bodyPost_ret (v:=.tuple #[.string sn,.int .i64 0]) (by simp[results,Tryz.results26,go_sem]) rfl ⟨rfl,HB4.out⟩
theorem floor_no (x1:ByteArray)(n1:Int)(en1:Nat)  (w:World)(h1:∀ W,Calls Tryz.prog 44 #[.string x1] W fun e w'=>∃ p c s d,e=.returned (.tuple #[.agg #[.bool (zneg n1),.slice p (zlen n1) c,.slice s (nlen en1) d],.bool false])∧RN w' (.slice p (zlen n1) c) n1.natAbs∧RN w' (.slice s (nlen en1) d) en1∧Below W.heap.size W w')  :
 CR 26 #[.string x1] w (.tuple #[.string ⟨#[]⟩,.int .i64 1]):=by
 have C1:=hid h1
 clear h1
 go_enter Tryz.func26,Tryz.ntmps26
 have HB0:=hid (Below.refl w.heap.size w)
 go_wp2_with fail
 with_reducible refine(C1.out _).mono ?_
 rintro e W1 ⟨pa_1,ca_1,sa_1,da_1,rfl,r1_0,r1_1,hb⟩
 have HB1:=hid (HB0.out.trans (hb.mono HB0.out.size))
 have RA:=hid r1_0
 have TA:=hid r1_1
 clear hb r1_0 r1_1
 go_upto_region 2 with fail
 refine wp_boxes W1 [(#[.bool (zneg (n1)),.slice pa_1 (zlen (n1)) ca_1,.slice sa_1 (nlen (en1)) da_1],55)] rfl ?_
 have L1:=HB1.out.size
 rintro W2 ⟨k1,hb⟩
 have hb:Below W1.heap.size W1 W2:=hb
 have HB2:=hid (HB1.out.trans (hb.mono HB1.out.size))
 have K1:=hid k1
 clear k1 hb
 go_wp2
 exact bodyPost_ret (v:=.tuple #[.string ⟨#[]⟩,.int .i64 1]) (by simp[results,Tryz.results26,go_sem]) rfl ⟨rfl,HB2.out⟩
end Go.Proofs.YtmigpoiajkihhaaGreatDoor
