/- garboardref03: Valid, Parts, Make, Whole, Frac, Floor: walks over the contracts of what they call. -/
import Derived.Test.YtmigpoiajkihhaaGreatDoorMz41q
set_option maxRecDepth 100000
set_option maxHeartbeats 20000000
open Go.Lib (hid)
namespace Go.Proofs.YtmigpoiajkihhaaGreatDoor
open Go.RowKit Go.Gb
theorem zbm (n m q r:Int)(en:Nat)(p1:Option Addr)(c1:Nat)(s1:Option Addr)(d1:Nat)(w:World)(h1:∀ s2 d2 W,RN W (.slice s2 (nlen en) d2) en→CZ 41 #[.bool false,.slice s2 (nlen en) d2] W m)(h2:∀ p1 c1 p2 c2 W,RN W (.slice p1 (zlen n) c1) n.natAbs→RN W (.slice p2 (zlen m) c2) m.natAbs→Calls Tryz.prog 106 #[.agg #[.bool (zneg n),.slice p1 (zlen n) c1],.agg #[.bool (zneg m),.slice p2 (zlen m) c2]] W fun e w'=>∃ p c p' c',e=.returned (.tuple #[.agg #[.bool (zneg q),.slice p (zlen q) c],.agg #[.bool (zneg r),.slice p' (zlen r) c']])∧RN w' (.slice p (zlen q) c) q.natAbs∧RN w' (.slice p' (zlen r) c') r.natAbs∧Below W.heap.size W w')(r1:RN w (.slice p1 (zlen n) c1) n.natAbs)(t1:RN w (.slice s1 (nlen en) d1) en) :
 CZ 57 #[.agg #[.bool (zneg n),.slice p1 (zlen n) c1,.slice s1 (nlen en) d1]] w q:=by
 have C1:=hid h1
 have C2:=hid h2
 have R1:=hid r1
 have T1:=hid t1
 clear h1 h2 r1 t1
 go_enter Tryz.func57,Tryz.ntmps57
 go_upto_region 1 with fail
 refine z0f w [(#[.bool (zneg n),.slice p1 (zlen n) c1,.slice s1 (nlen en) d1],55),(#[.bool false,.slice none 0 0],50)] rfl ?_
 rintro W0 ⟨k1,k2,hb⟩
 have HB0:=hid (show Below w.heap.size w W0 from hb)
 have R1:=hid (R1.out.below HB0.out)
 have T1:=hid (T1.out.below HB0.out)
 have K1:=hid k1
 have K2:=hid k2
 clear k1 k2 hb
 go_wp2_with fail
 have L1:=K1.out.lt
 have L2:=K2.out.lt
 have L3:=HB0.out.size
 refine z0d (fun a0 a' V=>∃ pw1_4 cw1_4 paw1_5 caw1_5 pbw1_5 cbw1_5 paw1_6 caw1_6 pbw1_6 cbw1_6 pw1_7 cw1_7 pw1_8 cw1_8 gw1_9 gw1_10,a'=⟨putL [(6,.pointer (some ⟨w.heap.size,0,none⟩)),(7,.agg #[.bool (zneg n),.slice p1 (zlen n) c1]),(8,.pointer (some ⟨w.heap.size,2,none⟩)),(9,.slice s1 (nlen en) d1),(10,.agg #[.bool (zneg m),.slice pw1_4 (zlen m) cw1_4]),(11,.tuple #[.agg #[.bool (zneg q),.slice paw1_5 (zlen q) caw1_5],.agg #[.bool (zneg r),.slice pbw1_5 (zlen r) cbw1_5]]),(5,.tuple #[.agg #[.bool (zneg q),.slice paw1_6 (zlen q) caw1_6],.agg #[.bool (zneg r),.slice pbw1_6 (zlen r) cbw1_6]]),(12,.agg #[.bool (zneg q),.slice pw1_7 (zlen q) cw1_7]),(13,.agg #[.bool (zneg r),.slice pw1_8 (zlen r) cw1_8]),(3,.pointer (some ⟨gw1_9,0,none⟩)),(4,.pointer (some ⟨gw1_10,0,none⟩))] a0.tmps,a0.defers⟩∧Below w.heap.size w V∧SBk V (w.heap.size+1) #[.bool false,.slice none 0 0] 50∧SBk V (gw1_9) #[.bool (zneg q),.slice pw1_7 (zlen q) cw1_7] 50∧RN V (.slice pw1_7 (zlen q) cw1_7) q.natAbs∧W0.heap.size≤gw1_9∧W0.heap.size≤gw1_10∧gw1_9≠gw1_10) ?_ ?_
 · refine z2G (by kernel_rfl) 11 1 8 (fun i=>[6,7,8,9,10,11,5,12,13,3,4].getD i 0) (RelR [Rel.val (.pointer (some ⟨w.heap.size,0,none⟩)),Rel.val (.agg #[.bool (zneg n),.slice p1 (zlen n) c1]),Rel.val (.pointer (some ⟨w.heap.size,2,none⟩)),Rel.val (.slice s1 (nlen en) d1),Rel.int m,Rel.int2 q r,Rel.int2 q r,Rel.int q,Rel.int r,Rel.ptr W0.heap.size (.cells #[.bool false,.slice none 0 0] 50),Rel.ptr W0.heap.size (.cells #[.bool false,.slice none 0 0] 50)]) (fun W=>Below W0.heap.size W0 W) (Dst 9 10 (fun i=>[6,7,8,9,10,11,5,12,13,3,4].getD i 0)) (by decide) (by decide) (by kernel_rfl) (by kernel_rfl) (by kernel_rfl) (by kernel_rfl) Dst.start (Below.refl _ _).drew ?_ ?_ ?_
   · intro listed a W i hI hD hrd him
     have HI:=hid hI
     have HD:=hid hD
     have Hr:=hid hrd
     clear hI hrd hD
     have y1:a.tmps[1]? = some (.pointer (some ⟨w.heap.size,0,none⟩)):=HI.out.rest 1 (by decide)
     have dK10:=(K1.out.below HI.out.world).cell (i:=0) rfl
     have dK11:=(K1.out.below HI.out.world).cell (i:=1) rfl
     have dK12:=(K1.out.below HI.out.world).cell (i:=2) rfl
     have X0:RV _ listed a 0 6 (.pointer (some ⟨w.heap.size,0,none⟩)):=HI.out.rh
     have X2:RV _ listed a 2 8 (.pointer (some ⟨w.heap.size,2,none⟩)):=HI.out.rh
     have X3:RV _ listed a 3 9 (.slice s1 (nlen en) d1):=HI.out.rh
     have X1:RV _ listed a 1 7 (.agg #[.bool (zneg n),.slice p1 (zlen n) c1]):=HI.out.rh
     match i,him,Hr with
     | 0,_,Hi =>
       refine z02 rfl fun K' hK=>?_
       go_simp
       exact hK.out _ _ ⟨HI.out.pv Hi.out rfl,HD.out.put (by decide) (by decide) rfl (by decide) (by decide)⟩
     | 1,_,Hi =>
       have x0:=X0.g Hi.out (by kernel_rfl)
       refine z02 rfl fun K' hK=>?_
       go_simp
       exact hK.out _ _ ⟨HI.out.pv Hi.out rfl,HD.out.put (by decide) (by decide) rfl (by decide) (by decide)⟩
     | 2,_,Hi =>
       refine z02 rfl fun K' hK=>?_
       go_simp
       exact hK.out _ _ ⟨HI.out.pv Hi.out rfl,HD.out.put (by decide) (by decide) rfl (by decide) (by decide)⟩
     | 3,_,Hi =>
       have x2:=X2.g Hi.out (by kernel_rfl)
       refine z02 rfl fun K' hK=>?_
       go_simp
       exact hK.out _ _ ⟨HI.out.pv Hi.out rfl,HD.out.put (by decide) (by decide) rfl (by decide) (by decide)⟩
     | 4,_,Hi =>
       have x3:=X3.g Hi.out (by kernel_rfl)
       refine z02 rfl fun K' hK=>?_
       go_simp
       with_reducible refine(C1.out _ _ _ (T1.out.below HI.out.world)).mono ?_
       rintro e W' ⟨pw1_4,cw1_4,rfl,rrw1_4,hb⟩
       exact hK.out _ _ ⟨HI.out.pc Hi.out hb ⟨pw1_4,cw1_4,rfl,rrw1_4⟩,HD.out.put (by decide) (by decide) rfl (by decide) (by decide)⟩
     | 5,_,Hi =>
       have x1:=X1.g Hi.out (by kernel_rfl)
       obtain⟨v',x4,pw1_4,cw1_4,e,rrw1_4⟩:=HI.out.at (i:=4) Hi.out (by kernel_rfl) (by decide)
       obtain rfl:=e
       have x4:a.tmps[10]? = some (.agg #[.bool (zneg m),.slice pw1_4 (zlen m) cw1_4]):=x4
       have RRW1_4:=hid rrw1_4
       clear rrw1_4
       refine z02 rfl fun K' hK=>?_
       go_simp
       with_reducible refine(C2.out _ _ _ _ _ (R1.out.below HI.out.world) RRW1_4.out).mono ?_
       rintro e W' ⟨paw1_5,caw1_5,pbw1_5,cbw1_5,rfl,rrw1_5,rrw1_5_1,hb⟩
       exact hK.out _ _ ⟨HI.out.pc Hi.out hb ⟨paw1_5,caw1_5,pbw1_5,cbw1_5,rfl,rrw1_5,rrw1_5_1⟩,HD.out.put (by decide) (by decide) rfl (by decide) (by decide)⟩
     | 6,_,Hi =>
       obtain⟨v',x5,paw1_5,caw1_5,pbw1_5,cbw1_5,e,rrw1_5,rrw1_5_1⟩:=HI.out.at (i:=5) Hi.out (by kernel_rfl) (by decide)
       obtain rfl:=e
       have x5:a.tmps[11]? = some (.tuple #[.agg #[.bool (zneg q),.slice paw1_5 (zlen q) caw1_5],.agg #[.bool (zneg r),.slice pbw1_5 (zlen r) cbw1_5]]):=x5
       have RRW1_5:=hid rrw1_5
       clear rrw1_5
       have RRW1_5_1:=hid rrw1_5_1
       clear rrw1_5_1
       refine z02 rfl fun K' hK=>?_
       go_simp
       exact hK.out _ _ ⟨HI.out.pv Hi.out ⟨paw1_5,caw1_5,pbw1_5,cbw1_5,rfl,RRW1_5.out,RRW1_5_1.out⟩,HD.out.put (by decide) (by decide) rfl (by decide) (by decide)⟩
     | 7,_,Hi =>
       obtain⟨v',x6,paw1_6,caw1_6,pbw1_6,cbw1_6,e,rrw1_6,rrw1_6_1⟩:=HI.out.at (i:=6) Hi.out (by kernel_rfl) (by decide)
       obtain rfl:=e
       have x6:a.tmps[5]? = some (.tuple #[.agg #[.bool (zneg q),.slice paw1_6 (zlen q) caw1_6],.agg #[.bool (zneg r),.slice pbw1_6 (zlen r) cbw1_6]]):=x6
       have RRW1_6:=hid rrw1_6
       clear rrw1_6
       have RRW1_6_1:=hid rrw1_6_1
       clear rrw1_6_1
       refine z02 rfl fun K' hK=>?_
       go_simp
       exact hK.out _ _ ⟨HI.out.pv Hi.out ⟨paw1_6,caw1_6,rfl,RRW1_6.out⟩,HD.out.put (by decide) (by decide) rfl (by decide) (by decide)⟩
     | 8,_,Hi =>
       obtain⟨v',x6,paw1_6,caw1_6,pbw1_6,cbw1_6,e,rrw1_6,rrw1_6_1⟩:=HI.out.at (i:=6) Hi.out (by kernel_rfl) (by decide)
       obtain rfl:=e
       have x6:a.tmps[5]? = some (.tuple #[.agg #[.bool (zneg q),.slice paw1_6 (zlen q) caw1_6],.agg #[.bool (zneg r),.slice pbw1_6 (zlen r) cbw1_6]]):=x6
       have RRW1_6:=hid rrw1_6
       clear rrw1_6
       have RRW1_6_1:=hid rrw1_6_1
       clear rrw1_6_1
       refine z02 rfl fun K' hK=>?_
       go_simp
       exact hK.out _ _ ⟨HI.out.pv Hi.out ⟨pbw1_6,cbw1_6,rfl,RRW1_6_1.out⟩,HD.out.put (by decide) (by decide) rfl (by decide) (by decide)⟩
     | 9,_,Hi =>
       refine z02 rfl fun K' hK=>?_
       go_simp
       exact hK.out _ _ ⟨HI.out.pc Hi.out ((Below.refl W.heap.size W).alloc (Nat.le_refl _) (.cells #[.bool false,.slice none 0 0] 50)) ⟨W.heap.size,rfl,HI.out.world.size,SBk.new _ _ _⟩,Dst.left (by decide) rfl (by decide) (by rw[HI.out.tsize];simp) (HI.out.fresh (i:=10) (by decide) (fun _ _ h=>h))⟩
     | 10,_,Hi =>
       refine z02 rfl fun K' hK=>?_
       go_simp
       exact hK.out _ _ ⟨HI.out.pc Hi.out ((Below.refl W.heap.size W).alloc (Nat.le_refl _) (.cells #[.bool false,.slice none 0 0] 50)) ⟨W.heap.size,rfl,HI.out.world.size,SBk.new _ _ _⟩,Dst.right (by decide) rfl (by decide) (by rw[HI.out.tsize];simp) (HI.out.fresh (i:=9) (by decide) (fun _ _ h=>h))⟩
     | n+11,h,_=>exact absurd h (by omega)
   · intro listed a W hI hD hall
     obtain⟨v',x4,pw1_4,cw1_4,e,rrw1_4⟩:=hI.slots 4 (by decide) (hall 4 (by decide))
     obtain rfl:=e
     have RRW1_4:=hid rrw1_4
     clear rrw1_4
     obtain⟨v',x5,paw1_5,caw1_5,pbw1_5,cbw1_5,e,rrw1_5,rrw1_5_1⟩:=hI.slots 5 (by decide) (hall 5 (by decide))
     obtain rfl:=e
     have RRW1_5:=hid rrw1_5
     clear rrw1_5
     have RRW1_5_1:=hid rrw1_5_1
     clear rrw1_5_1
     obtain⟨v',x6,paw1_6,caw1_6,pbw1_6,cbw1_6,e,rrw1_6,rrw1_6_1⟩:=hI.slots 6 (by decide) (hall 6 (by decide))
     obtain rfl:=e
     have RRW1_6:=hid rrw1_6
     clear rrw1_6
     have RRW1_6_1:=hid rrw1_6_1
     clear rrw1_6_1
     obtain⟨v',x7,pw1_7,cw1_7,e,rrw1_7⟩:=hI.slots 7 (by decide) (hall 7 (by decide))
     obtain rfl:=e
     have RRW1_7:=hid rrw1_7
     clear rrw1_7
     have x7:a.tmps[12]? = some (.agg #[.bool (zneg q),.slice pw1_7 (zlen q) cw1_7]):=x7
     obtain⟨v',x8,pw1_8,cw1_8,e,rrw1_8⟩:=hI.slots 8 (by decide) (hall 8 (by decide))
     obtain rfl:=e
     have RRW1_8:=hid rrw1_8
     clear rrw1_8
     have x8:a.tmps[13]? = some (.agg #[.bool (zneg r),.slice pw1_8 (zlen r) cw1_8]):=x8
     obtain⟨v',x9,gw1_9,e,rrw1_9,rrw1_9_1⟩:=hI.slots 9 (by decide) (hall 9 (by decide))
     obtain rfl:=e
     have RRW1_9:=hid rrw1_9
     clear rrw1_9
     have RRW1_9_1:=hid rrw1_9_1
     clear rrw1_9_1
     have x9:a.tmps[3]? = some (.pointer (some ⟨gw1_9,0,none⟩)):=x9
     obtain⟨v',x10,gw1_10,e,rrw1_10,rrw1_10_1⟩:=hI.slots 10 (by decide) (hall 10 (by decide))
     obtain rfl:=e
     have RRW1_10:=hid rrw1_10
     clear rrw1_10
     have RRW1_10_1:=hid rrw1_10_1
     clear rrw1_10_1
     have x10:a.tmps[4]? = some (.pointer (some ⟨gw1_10,0,none⟩)):=x10
     have hD:=hD (hall 9 (by decide)) (hall 10 (by decide))
     have hne:gw1_9≠gw1_10:=by
        intro e
        apply hD
        show a.tmps[3]? = a.tmps[4]?
        rw[x9,x10,e]
     have HNE:=hid hne
     clear hne hD
     have HBW:=hid hI.world
     have HI:=hid hI
     have HA:=hid hall
     clear hI hall
     have K2:=hid (K2.out.below HBW.out)
     have HBX:=hid (HB0.out.trans (HBW.out.mono HB0.out.size))
     have RM:=RRW1_4
     have RQ:=RRW1_7
     have RR:=RRW1_8
     have K3:Hid (SBk W gw1_9 #[.bool false,.slice none 0 0] 50):=RRW1_9_1
     have K4:Hid (SBk W gw1_10 #[.bool false,.slice none 0 0] 50):=RRW1_10_1
     have dK30:=K3.out.cell (i:=0) rfl
     have fK30:=K3.out.frozen (i:=0)
     have dK31:=K3.out.cell (i:=1) rfl
     have fK31:=K3.out.frozen (i:=1)
     have dK40:=K4.out.cell (i:=0) rfl
     have fK40:=K4.out.frozen (i:=0)
     have dK41:=K4.out.cell (i:=1) rfl
     have fK41:=K4.out.frozen (i:=1)
     have ddK40:((W.setCell ⟨gw1_9,0,none⟩ (.bool (zneg q))).setCell ⟨gw1_9,1,none⟩ (.slice pw1_7 (zlen q) cw1_7)).cell? ⟨gw1_10,0,none⟩=some (.bool false):=((z0c (by have:=RRW1_9.out;have:=RRW1_10.out;have:=HNE.out;omega) (l:=[.bool (zneg q),.slice pw1_7 (zlen q) cw1_7]) (i:=0) K4.out)).cell (i:=0) rfl
     have ddK41:((W.setCell ⟨gw1_9,0,none⟩ (.bool (zneg q))).setCell ⟨gw1_9,1,none⟩ (.slice pw1_7 (zlen q) cw1_7)).cell? ⟨gw1_10,1,none⟩=some (.slice none 0 0):=((z0c (by have:=RRW1_9.out;have:=RRW1_10.out;have:=HNE.out;omega) (l:=[.bool (zneg q),.slice pw1_7 (zlen q) cw1_7]) (i:=0) K4.out)).cell (i:=1) rfl
     refine z0n (t:=1) ?_
     refine z02 rfl fun K' hK=>?_
     go_simp
     refine hK.out _ _ ?_
     clear hK
     refine z0n (t:=0) ?_
     refine z02 rfl fun K' hK=>?_
     go_simp
     refine hK.out _ _ ?_
     clear hK
     refine z0A ?_
     have s0:∀ {v':Value} {n':Nat},RN W v' n'→RN (storeAll W (gw1_9) 0 [.bool (zneg q),.slice pw1_7 (zlen q) cw1_7]) v' n':=fun h'=>z0b _ h' K3.out (by simp[z0D]) (by simp[z0q])
     have o0:∀ {g':Nat} {cs':Array Value} {T':TypeId},g'≠gw1_9→SBk W g' cs' T'→SBk (storeAll W (gw1_9) 0 [.bool (zneg q),.slice pw1_7 (zlen q) cw1_7]) g' cs' T':=fun hg' h'=>z0c hg' _ 0 h'
     have s1:∀ {v':Value} {n':Nat},RN (storeAll W (gw1_9) 0 [.bool (zneg q),.slice pw1_7 (zlen q) cw1_7]) v' n'→RN (storeAll (storeAll W (gw1_9) 0 [.bool (zneg q),.slice pw1_7 (zlen q) cw1_7]) (gw1_10) 0 [.bool (zneg r),.slice pw1_8 (zlen r) cw1_8]) v' n':=fun h'=>z0b _ h' (o0 (by have:=RRW1_9.out;have:=RRW1_10.out;have:=HNE.out;omega) K4.out) (by simp[z0D]) (by simp[z0q])
     have o1:∀ {g':Nat} {cs':Array Value} {T':TypeId},g'≠gw1_10→SBk (storeAll W (gw1_9) 0 [.bool (zneg q),.slice pw1_7 (zlen q) cw1_7]) g' cs' T'→SBk (storeAll (storeAll W (gw1_9) 0 [.bool (zneg q),.slice pw1_7 (zlen q) cw1_7]) (gw1_10) 0 [.bool (zneg r),.slice pw1_8 (zlen r) cw1_8]) g' cs' T':=fun hg' h'=>z0c hg' _ 0 h'
     exact⟨rfl,pw1_4,cw1_4,paw1_5,caw1_5,pbw1_5,cbw1_5,paw1_6,caw1_6,pbw1_6,cbw1_6,pw1_7,cw1_7,pw1_8,cw1_8,gw1_9,gw1_10,(HI.out.finx ⟨HI.out.sx HA.out 0,HI.out.sx HA.out 1,HI.out.sx HA.out 2,HI.out.sx HA.out 3,x4,x5,x6,x7,x8,x9,x10,trivial⟩ rfl),(z06 (l:=[.bool (zneg r),.slice pw1_8 (zlen r) cw1_8]) (i:=0) (by have:=RRW1_9.out;have:=RRW1_10.out;have:=HNE.out;omega) (z06 (l:=[.bool (zneg q),.slice pw1_7 (zlen q) cw1_7]) (i:=0) (by have:=RRW1_9.out;have:=RRW1_10.out;have:=HNE.out;omega) HBX.out)),(o1 (by have:=RRW1_9.out;have:=RRW1_10.out;have:=HNE.out;omega) (o0 (by have:=RRW1_9.out;have:=RRW1_10.out;have:=HNE.out;omega) K2.out)),(z0c (by have:=RRW1_9.out;have:=RRW1_10.out;have:=HNE.out;omega) (l:=[.bool (zneg r),.slice pw1_8 (zlen r) cw1_8]) (i:=0) (z0s (l:=[.bool (zneg q),.slice pw1_7 (zlen q) cw1_7]) (i:=0) K3.out)),(s1 (s0 RQ.out)),RRW1_9.out,RRW1_10.out,HNE.out⟩
   · intro listed a W hI hD hall
     obtain⟨v',x4,pw1_4,cw1_4,e,rrw1_4⟩:=hI.slots 4 (by decide) (hall 4 (by decide) (by decide))
     obtain rfl:=e
     have RRW1_4:=hid rrw1_4
     clear rrw1_4
     obtain⟨v',x5,paw1_5,caw1_5,pbw1_5,cbw1_5,e,rrw1_5,rrw1_5_1⟩:=hI.slots 5 (by decide) (hall 5 (by decide) (by decide))
     obtain rfl:=e
     have RRW1_5:=hid rrw1_5
     clear rrw1_5
     have RRW1_5_1:=hid rrw1_5_1
     clear rrw1_5_1
     obtain⟨v',x6,paw1_6,caw1_6,pbw1_6,cbw1_6,e,rrw1_6,rrw1_6_1⟩:=hI.slots 6 (by decide) (hall 6 (by decide) (by decide))
     obtain rfl:=e
     have RRW1_6:=hid rrw1_6
     clear rrw1_6
     have RRW1_6_1:=hid rrw1_6_1
     clear rrw1_6_1
     obtain⟨v',x7,pw1_7,cw1_7,e,rrw1_7⟩:=hI.slots 7 (by decide) (hall 7 (by decide) (by decide))
     obtain rfl:=e
     have RRW1_7:=hid rrw1_7
     clear rrw1_7
     have x7:a.tmps[12]? = some (.agg #[.bool (zneg q),.slice pw1_7 (zlen q) cw1_7]):=x7
     obtain⟨v',x9,gw1_9,e,rrw1_9,rrw1_9_1⟩:=hI.slots 9 (by decide) (hall 9 (by decide) (by decide))
     obtain rfl:=e
     have RRW1_9:=hid rrw1_9
     clear rrw1_9
     have RRW1_9_1:=hid rrw1_9_1
     clear rrw1_9_1
     have x9:a.tmps[3]? = some (.pointer (some ⟨gw1_9,0,none⟩)):=x9
     obtain⟨v',x10,gw1_10,e,rrw1_10,rrw1_10_1⟩:=hI.slots 10 (by decide) (hall 10 (by decide) (by decide))
     obtain rfl:=e
     have RRW1_10:=hid rrw1_10
     clear rrw1_10
     have RRW1_10_1:=hid rrw1_10_1
     clear rrw1_10_1
     have x10:a.tmps[4]? = some (.pointer (some ⟨gw1_10,0,none⟩)):=x10
     have hD:=hD (hall 9 (by decide) (by decide)) (hall 10 (by decide) (by decide))
     have hne:gw1_9≠gw1_10:=by
        intro e
        apply hD
        show a.tmps[3]? = a.tmps[4]?
        rw[x9,x10,e]
     have HNE:=hid hne
     clear hne hD
     have HBW:=hid hI.world
     have HI:=hid hI
     have HA:=hid hall
     clear hI hall
     have K2:=hid (K2.out.below HBW.out)
     have HBX:=hid (HB0.out.trans (HBW.out.mono HB0.out.size))
     have RM:=RRW1_4
     have RQ:=RRW1_7
     have RR:=RRW1_6_1
     have K3:Hid (SBk W gw1_9 #[.bool false,.slice none 0 0] 50):=RRW1_9_1
     have K4:Hid (SBk W gw1_10 #[.bool false,.slice none 0 0] 50):=RRW1_10_1
     have dK30:=K3.out.cell (i:=0) rfl
     have fK30:=K3.out.frozen (i:=0)
     have dK31:=K3.out.cell (i:=1) rfl
     have fK31:=K3.out.frozen (i:=1)
     have dK40:=K4.out.cell (i:=0) rfl
     have fK40:=K4.out.frozen (i:=0)
     have dK41:=K4.out.cell (i:=1) rfl
     have fK41:=K4.out.frozen (i:=1)
     have ddK40:((W.setCell ⟨gw1_9,0,none⟩ (.bool (zneg q))).setCell ⟨gw1_9,1,none⟩ (.slice pw1_7 (zlen q) cw1_7)).cell? ⟨gw1_10,0,none⟩=some (.bool false):=((z0c (by have:=RRW1_9.out;have:=RRW1_10.out;have:=HNE.out;omega) (l:=[.bool (zneg q),.slice pw1_7 (zlen q) cw1_7]) (i:=0) K4.out)).cell (i:=0) rfl
     have ddK41:((W.setCell ⟨gw1_9,0,none⟩ (.bool (zneg q))).setCell ⟨gw1_9,1,none⟩ (.slice pw1_7 (zlen q) cw1_7)).cell? ⟨gw1_10,1,none⟩=some (.slice none 0 0):=((z0c (by have:=RRW1_9.out;have:=RRW1_10.out;have:=HNE.out;omega) (l:=[.bool (zneg q),.slice pw1_7 (zlen q) cw1_7]) (i:=0) K4.out)).cell (i:=1) rfl
     have x6:a.tmps[5]? = some (.tuple #[.agg #[.bool (zneg q),.slice paw1_6 (zlen q) caw1_6],.agg #[.bool (zneg r),.slice pbw1_6 (zlen r) cbw1_6]]):=x6
     refine z02 rfl fun K' hK=>?_
     go_simp
     refine hK.out _ _ ?_
     clear hK
     refine z02 rfl fun K' hK=>?_
     go_simp
     refine hK.out (a.put (some 13) (.agg #[.bool (zneg r),.slice pbw1_6 (zlen r) cbw1_6])) _ ?_
     clear hK
     have z7:(a.put (some 13) (.agg #[.bool (zneg r),.slice pbw1_6 (zlen r) cbw1_6])).tmps[12]? = some (.agg #[.bool (zneg q),.slice pw1_7 (zlen q) cw1_7]):=(z1p (by decide)).trans x7
     have z9:(a.put (some 13) (.agg #[.bool (zneg r),.slice pbw1_6 (zlen r) cbw1_6])).tmps[3]? = some (.pointer (some ⟨gw1_9,0,none⟩)):=(z1p (by decide)).trans x9
     have z10:(a.put (some 13) (.agg #[.bool (zneg r),.slice pbw1_6 (zlen r) cbw1_6])).tmps[4]? = some (.pointer (some ⟨gw1_10,0,none⟩)):=(z1p (by decide)).trans x10
     have z8:(a.put (some 13) (.agg #[.bool (zneg r),.slice pbw1_6 (zlen r) cbw1_6])).tmps[13]? = some (.agg #[.bool (zneg r),.slice pbw1_6 (zlen r) cbw1_6]):=z3B (by rw[HI.out.tsize];simp)
     have EA:=hid (HI.out.finp (sd:=13) (v:=.agg #[.bool (zneg r),.slice pbw1_6 (zlen r) cbw1_6]) [(6,.pointer (some ⟨w.heap.size,0,none⟩)),(7,.agg #[.bool (zneg n),.slice p1 (zlen n) c1]),(8,.pointer (some ⟨w.heap.size,2,none⟩)),(9,.slice s1 (nlen en) d1),(10,.agg #[.bool (zneg m),.slice pw1_4 (zlen m) cw1_4]),(11,.tuple #[.agg #[.bool (zneg q),.slice paw1_5 (zlen q) caw1_5],.agg #[.bool (zneg r),.slice pbw1_5 (zlen r) cbw1_5]]),(5,.tuple #[.agg #[.bool (zneg q),.slice paw1_6 (zlen q) caw1_6],.agg #[.bool (zneg r),.slice pbw1_6 (zlen r) cbw1_6]]),(12,.agg #[.bool (zneg q),.slice pw1_7 (zlen q) cw1_7]),(13,.agg #[.bool (zneg r),.slice pbw1_6 (zlen r) cbw1_6]),(3,.pointer (some ⟨gw1_9,0,none⟩)),(4,.pointer (some ⟨gw1_10,0,none⟩))] ⟨(z1p (d:=13) (e:=6) (by decide)).trans (HI.out.sy HA.out 0),(z1p (d:=13) (e:=7) (by decide)).trans (HI.out.sy HA.out 1),(z1p (d:=13) (e:=8) (by decide)).trans (HI.out.sy HA.out 2),(z1p (d:=13) (e:=9) (by decide)).trans (HI.out.sy HA.out 3),(z1p (d:=13) (e:=10) (by decide)).trans x4,(z1p (d:=13) (e:=11) (by decide)).trans x5,(z1p (d:=13) (e:=5) (by decide)).trans x6,(z1p (d:=13) (e:=12) (by decide)).trans x7,z3B (by rw[HI.out.tsize];simp),(z1p (d:=13) (e:=3) (by decide)).trans x9,(z1p (d:=13) (e:=4) (by decide)).trans x10,trivial⟩ rfl)
     clear x4 x5 x6 x7 x9 x10
     generalize a.put (some 13) (.agg #[.bool (zneg r),.slice pbw1_6 (zlen r) cbw1_6])=a2 at *
     refine z0n (t:=0) ?_
     refine z02 rfl fun K' hK=>?_
     go_simp
     refine hK.out _ _ ?_
     clear hK
     refine z0A ?_
     have s0:∀ {v':Value} {n':Nat},RN W v' n'→RN (storeAll W (gw1_9) 0 [.bool (zneg q),.slice pw1_7 (zlen q) cw1_7]) v' n':=fun h'=>z0b _ h' K3.out (by simp[z0D]) (by simp[z0q])
     have o0:∀ {g':Nat} {cs':Array Value} {T':TypeId},g'≠gw1_9→SBk W g' cs' T'→SBk (storeAll W (gw1_9) 0 [.bool (zneg q),.slice pw1_7 (zlen q) cw1_7]) g' cs' T':=fun hg' h'=>z0c hg' _ 0 h'
     have s1:∀ {v':Value} {n':Nat},RN (storeAll W (gw1_9) 0 [.bool (zneg q),.slice pw1_7 (zlen q) cw1_7]) v' n'→RN (storeAll (storeAll W (gw1_9) 0 [.bool (zneg q),.slice pw1_7 (zlen q) cw1_7]) (gw1_10) 0 [.bool (zneg r),.slice pbw1_6 (zlen r) cbw1_6]) v' n':=fun h'=>z0b _ h' (o0 (by have:=RRW1_9.out;have:=RRW1_10.out;have:=HNE.out;omega) K4.out) (by simp[z0D]) (by simp[z0q])
     have o1:∀ {g':Nat} {cs':Array Value} {T':TypeId},g'≠gw1_10→SBk (storeAll W (gw1_9) 0 [.bool (zneg q),.slice pw1_7 (zlen q) cw1_7]) g' cs' T'→SBk (storeAll (storeAll W (gw1_9) 0 [.bool (zneg q),.slice pw1_7 (zlen q) cw1_7]) (gw1_10) 0 [.bool (zneg r),.slice pbw1_6 (zlen r) cbw1_6]) g' cs' T':=fun hg' h'=>z0c hg' _ 0 h'
     exact⟨rfl,pw1_4,cw1_4,paw1_5,caw1_5,pbw1_5,cbw1_5,paw1_6,caw1_6,pbw1_6,cbw1_6,pw1_7,cw1_7,pbw1_6,cbw1_6,gw1_9,gw1_10,EA.out,(z06 (l:=[.bool (zneg r),.slice pbw1_6 (zlen r) cbw1_6]) (i:=0) (by have:=RRW1_9.out;have:=RRW1_10.out;have:=HNE.out;omega) (z06 (l:=[.bool (zneg q),.slice pw1_7 (zlen q) cw1_7]) (i:=0) (by have:=RRW1_9.out;have:=RRW1_10.out;have:=HNE.out;omega) HBX.out)),(o1 (by have:=RRW1_9.out;have:=RRW1_10.out;have:=HNE.out;omega) (o0 (by have:=RRW1_9.out;have:=RRW1_10.out;have:=HNE.out;omega) K2.out)),(z0c (by have:=RRW1_9.out;have:=RRW1_10.out;have:=HNE.out;omega) (l:=[.bool (zneg r),.slice pbw1_6 (zlen r) cbw1_6]) (i:=0) (z0s (l:=[.bool (zneg q),.slice pw1_7 (zlen q) cw1_7]) (i:=0) K3.out)),(s1 (s0 RQ.out)),RRW1_9.out,RRW1_10.out,HNE.out⟩
 rintro a' W1 ⟨pw1_4,cw1_4,paw1_5,caw1_5,pbw1_5,cbw1_5,paw1_6,caw1_6,pbw1_6,cbw1_6,pw1_7,cw1_7,pw1_8,cw1_8,gw1_9,gw1_10,rfl,z0,z1,z2,z3,z4,z5,z6⟩
 have HB1:=hid z0
 have K2:=hid z1
 have K3:=hid z2
 have RQ:=hid z3
 have R9xW1:=z4
 have R10xW1:=z5
 have NEW1:=z6
 clear z0 z1 z2 z3 z4 z5 z6
 simp only[putL,List.setIfInBounds_toArray,List.set_cons_zero,List.set_cons_succ]
 have dK30:=K3.out.cell (i:=0) rfl
 have dK31:=K3.out.cell (i:=1) rfl
 have dK20:=K2.out.cell (i:=0) rfl
 have dK21:=K2.out.cell (i:=1) rfl
 have fK20:=K2.out.frozen (i:=0)
 have fK21:=K2.out.frozen (i:=1)
 go_wp2
 exact bodyPost_ret (v:=.agg #[.bool (zneg q),.slice pw1_7 (zlen q) cw1_7]) (by simp[results,Tryz.results57,go_sem,dK20,dK21]) rfl ⟨_,_,rfl,(z0b [.bool (zneg q),.slice pw1_7 (zlen q) cw1_7] RQ.out K2.out (by simp[z0D]) (by simp[z0q])),(z06 (l:=[.bool (zneg q),.slice pw1_7 (zlen q) cw1_7]) (i:=0) (by omega) HB1.out)⟩
end Go.Proofs.YtmigpoiajkihhaaGreatDoor
