/- garboardref16: walks over the contracts of what is called. -/
import Derived.Test.YthjmjlfnpnbonaaGreatDoorMz25q
set_option maxRecDepth 100000
set_option maxHeartbeats 20000000
open Go.Lib (hid)
namespace Go.Proofs.YthjmjlfnpnbonaaGreatDoor
open Go.RowKit Go.Gb
theorem tN_raw (x:ByteArray)(q:Rat)(b:Bool)  (w:World)  (h1:∀ W,Calls Tryz.prog 26 #[.string x] W fun e w'=>∃ p c s d,e=.returned (.tuple #[.agg #[.bool (zneg q.num),.slice p (zlen q.num) c,.slice s (nlen q.den) d],.bool b])∧RN w' (.slice p (zlen q.num) c) q.num.natAbs∧RN w' (.slice s (nlen q.den) d) q.den∧Below W.heap.size W w')  :
 Calls Tryz.prog 35 #[.string x] w fun e w'=>∃ p c s d,e=.returned (.agg #[.bool (zneg q.num),.slice p (zlen q.num) c,.slice s (nlen q.den) d])∧RN w' (.slice p (zlen q.num) c) q.num.natAbs∧RN w' (.slice s (nlen q.den) d) q.den∧Below w.heap.size w w':=by
 have C1:=hid h1
 clear h1
 go_enter Tryz.func35,Tryz.ntmps35
 go_upto_region 1 with fail
 refine wp_boxes w [(#[.bool false,.slice none 0 0,.slice none 0 0],53)] rfl ?_
 rintro W0 ⟨k1,hb⟩
 have HB0:=hid (show Below w.heap.size w W0 from hb)
 have K1:=hid k1
 clear k1 hb
 go_wp2_with fail
 with_reducible refine(C1.out _).mono ?_
 rintro e W1 ⟨pa_1,ca_1,sa_1,da_1,rfl,r1_0,r1_1,hb⟩
 have K1:=hid (K1.out.below hb)
 have HB1:=hbt HB0 hb
 have RQ:=hid r1_0
 have TQ:=hid r1_1
 clear hb r1_0 r1_1
 go_upto_region 2 with fail
 refine wp_boxes W1 [(#[.bool (zneg (q.num)),.slice pa_1 (zlen (q.num)) ca_1,.slice sa_1 (nlen (q.den)) da_1],53)] rfl ?_
 have L1:=K1.out.lt
 have L2:=HB1.out.size
 rintro W2 ⟨k2,hb⟩
 have hb:Below W1.heap.size W1 W2:=hb
 have K1:=hid (K1.out.below hb)
 have RQ:=hid (RQ.out.below hb)
 have TQ:=hid (TQ.out.below hb)
 have HB2:=hbt HB1 hb
 have K2:=hid k2
 clear k2 hb
 have dK20:=K2.out.cell (i:=0) rfl
 have dK21:=K2.out.cell (i:=1) rfl
 have dK22:=K2.out.cell (i:=2) rfl
 have dK10:=K1.out.cell (i:=0) rfl
 have dK11:=K1.out.cell (i:=1) rfl
 have dK12:=K1.out.cell (i:=2) rfl
 have fK10:=K1.out.frozen (i:=0)
 have fK11:=K1.out.frozen (i:=1)
 have fK12:=K1.out.frozen (i:=2)
 go_wp2
 exact bodyPost_ret (v:=.agg #[.bool (zneg (q.num)),.slice pa_1 (zlen (q.num)) ca_1,.slice sa_1 (nlen (q.den)) da_1]) (by simp[results,Tryz.results35,go_sem,dK10,dK11,dK12]) rfl ⟨_,_,_,_,rfl,(store_rn [.bool (zneg (q.num)),.slice pa_1 (zlen (q.num)) ca_1,.slice sa_1 (nlen (q.den)) da_1] RQ.out K1.out (by simp[noInt]) (by simp[plainV])),(store_rn [.bool (zneg (q.num)),.slice pa_1 (zlen (q.num)) ca_1,.slice sa_1 (nlen (q.den)) da_1] TQ.out K1.out (by simp[noInt]) (by simp[plainV])),(store_below (l:=[.bool (zneg (q.num)),.slice pa_1 (zlen (q.num)) ca_1,.slice sa_1 (nlen (q.den)) da_1]) (i:=0) (by omega) HB2.out)⟩
theorem tNeg_raw (xa qz qa:Rat)(p1:Option Addr)(c1:Nat)(s1:Option Addr)(d1:Nat)(w:World)  (h1:∀ W,Calls Tryz.prog 35 #[.string ⟨#[48]⟩] W fun e w'=>∃ p c s d,e=.returned (.agg #[.bool (zneg qz.num),.slice p (zlen qz.num) c,.slice s (nlen qz.den) d])∧RN w' (.slice p (zlen qz.num) c) qz.num.natAbs∧RN w' (.slice s (nlen qz.den) d) qz.den∧Below W.heap.size W w')(h2:∀ p1 c1 s1 d1 p2 c2 s2 d2 W,RN W (.slice p1 (zlen qz.num) c1) qz.num.natAbs→RN W (.slice s1 (nlen qz.den) d1) qz.den→RN W (.slice p2 (zlen xa.num) c2) xa.num.natAbs→RN W (.slice s2 (nlen xa.den) d2) xa.den→Calls Tryz.prog 54 #[.agg #[.bool (zneg qz.num),.slice p1 (zlen qz.num) c1,.slice s1 (nlen qz.den) d1],.agg #[.bool (zneg xa.num),.slice p2 (zlen xa.num) c2,.slice s2 (nlen xa.den) d2]] W fun e w'=>∃ p c s d,e=.returned (.agg #[.bool (zneg qa.num),.slice p (zlen qa.num) c,.slice s (nlen qa.den) d])∧RN w' (.slice p (zlen qa.num) c) qa.num.natAbs∧RN w' (.slice s (nlen qa.den) d) qa.den∧Below W.heap.size W w')(r1:RN w (.slice p1 (zlen xa.num) c1) xa.num.natAbs)(t1:RN w (.slice s1 (nlen xa.den) d1) xa.den) :
 Calls Tryz.prog 28 #[.agg #[.bool (zneg xa.num),.slice p1 (zlen xa.num) c1,.slice s1 (nlen xa.den) d1]] w fun e w'=>∃ p c s d,e=.returned (.agg #[.bool (zneg qa.num),.slice p (zlen qa.num) c,.slice s (nlen qa.den) d])∧RN w' (.slice p (zlen qa.num) c) qa.num.natAbs∧RN w' (.slice s (nlen qa.den) d) qa.den∧Below w.heap.size w w':=by
 have C1:=hid h1
 have C2:=hid h2
 have R1:=hid r1
 have T1:=hid t1
 clear h1 h2 r1 t1
 go_enter Tryz.func28,Tryz.ntmps28
 go_upto_region 1 with fail
 refine wp_boxes w [(#[.bool (zneg xa.num),.slice p1 (zlen xa.num) c1,.slice s1 (nlen xa.den) d1],53),(#[.bool false,.slice none 0 0,.slice none 0 0],53)] rfl ?_
 rintro W0 ⟨k1,k2,hb⟩
 have HB0:=hid (show Below w.heap.size w W0 from hb)
 have R1:=hid (R1.out.below HB0.out)
 have T1:=hid (T1.out.below HB0.out)
 have K1:=hid k1
 have K2:=hid k2
 clear k1 k2 hb
 go_wp2_with fail
 refine wp_region_post (fun a0 a' V=>∃ pw1_0 cw1_0 sw1_0 dw1_0 pw1_2 cw1_2 sw1_2 dw1_2,a'=⟨putL [(3,.agg #[.bool (zneg (qz.num)),.slice pw1_0 (zlen (qz.num)) cw1_0,.slice sw1_0 (nlen (qz.den)) dw1_0]),(4,.agg #[.bool (zneg xa.num),.slice p1 (zlen xa.num) c1,.slice s1 (nlen xa.den) d1]),(5,.agg #[.bool (zneg (qa.num)),.slice pw1_2 (zlen (qa.num)) cw1_2,.slice sw1_2 (nlen (qa.den)) dw1_2])] a0.tmps,a0.defers⟩∧Below w.heap.size w V∧SBk V (w.heap.size+1) #[.bool (zneg (qa.num)),.slice pw1_2 (zlen (qa.num)) cw1_2,.slice sw1_2 (nlen (qa.den)) dw1_2] 53∧RN V (.slice pw1_2 (zlen (qa.num)) cw1_2) (qa.num).natAbs∧RN V (.slice sw1_2 (nlen (qa.den)) dw1_2) (qa.den)) ?_ ?_
 · refine wp_region_tail_d (by kernel_rfl) 3 1 (fun i=>[3,4,5].getD i 0) (RelR [⟨fun v W=>∃ p c s d,v=.agg #[.bool (zneg (qz.num)),.slice p (zlen (qz.num)) c,.slice s (nlen (qz.den)) d]∧RN W (.slice p (zlen (qz.num)) c) (qz.num).natAbs∧RN W (.slice s (nlen (qz.den)) d) (qz.den),fun _ _ _ ⟨p,c,s,d,e,h0,h1⟩ hb=>⟨p,c,s,d,e,h0.below hb,h1.below hb⟩⟩,Rel.val (.agg #[.bool (zneg xa.num),.slice p1 (zlen xa.num) c1,.slice s1 (nlen xa.den) d1]),⟨fun v W=>∃ p c s d,v=.agg #[.bool (zneg (qa.num)),.slice p (zlen (qa.num)) c,.slice s (nlen (qa.den)) d]∧RN W (.slice p (zlen (qa.num)) c) (qa.num).natAbs∧RN W (.slice s (nlen (qa.den)) d) (qa.den),fun _ _ _ ⟨p,c,s,d,e,h0,h1⟩ hb=>⟨p,c,s,d,e,h0.below hb,h1.below hb⟩⟩]) (fun W=>Below W0.heap.size W0 W) (fun _ _=>True) (by kernel_rfl) (by kernel_rfl) (by kernel_rfl) trivial (Below.refl _ _).drew ?_ ?_
   · intro listed a W i hI hD hrd him
     have HI:=hid hI
     have HD:=hid hD
     have Hr:=hid hrd
     clear hI hrd hD
     have y1:a.tmps[1]? = some (.pointer (some ⟨w.heap.size,0,none⟩)):=HI.out.rest 1 (by decide)
     have dK10:=(K1.out.below HI.out.world).cell (i:=0) rfl
     have dK11:=(K1.out.below HI.out.world).cell (i:=1) rfl
     have dK12:=(K1.out.below HI.out.world).cell (i:=2) rfl
     have X1:RV _ listed a 1 4 (.agg #[.bool (zneg xa.num),.slice p1 (zlen xa.num) c1,.slice s1 (nlen xa.den) d1]):=HI.out.rh
     match i,him,Hr with
     | 0,_,Hi =>
       refine stepH rfl fun K' hK=>?_
       go_simp
       with_reducible refine(C1.out _).mono ?_
       rintro e W' ⟨pw1_0,cw1_0,sw1_0,dw1_0,rfl,rrw1_0,rrw1_0_1,hb⟩
       exact hK.out _ _ ⟨HI.out.pc Hi.out hb ⟨pw1_0,cw1_0,sw1_0,dw1_0,rfl,rrw1_0,rrw1_0_1⟩,trivial⟩
     | 1,_,Hi =>
       refine stepH rfl fun K' hK=>?_
       go_simp
       exact hK.out _ _ ⟨HI.out.pv Hi.out rfl,trivial⟩
     | 2,_,Hi =>
       obtain⟨v',x0,pw1_0,cw1_0,sw1_0,dw1_0,e,rrw1_0,rrw1_0_1⟩:=HI.out.at (i:=0) Hi.out (by kernel_rfl) (by decide)
       obtain rfl:=e
       have x0:a.tmps[3]? = some (.agg #[.bool (zneg (qz.num)),.slice pw1_0 (zlen (qz.num)) cw1_0,.slice sw1_0 (nlen (qz.den)) dw1_0]):=x0
       have RRW1_0:=hid rrw1_0
       clear rrw1_0
       have RRW1_0_1:=hid rrw1_0_1
       clear rrw1_0_1
       have x1:=X1.g Hi.out (by kernel_rfl)
       refine stepH rfl fun K' hK=>?_
       go_simp
       with_reducible refine(C2.out _ _ _ _ _ _ _ _ _ RRW1_0.out RRW1_0_1.out (R1.out.below HI.out.world) (T1.out.below HI.out.world)).mono ?_
       rintro e W' ⟨pw1_2,cw1_2,sw1_2,dw1_2,rfl,rrw1_2,rrw1_2_1,hb⟩
       exact hK.out _ _ ⟨HI.out.pc Hi.out hb ⟨pw1_2,cw1_2,sw1_2,dw1_2,rfl,rrw1_2,rrw1_2_1⟩,trivial⟩
     | n+3,h,_=>exact absurd h (by omega)
   · intro listed a W hI hD hall
     obtain⟨v',x0,pw1_0,cw1_0,sw1_0,dw1_0,e,rrw1_0,rrw1_0_1⟩:=hI.slots 0 (by decide) (hall 0 (by decide))
     obtain rfl:=e
     have RRW1_0:=hid rrw1_0
     clear rrw1_0
     have RRW1_0_1:=hid rrw1_0_1
     clear rrw1_0_1
     obtain⟨v',x2,pw1_2,cw1_2,sw1_2,dw1_2,e,rrw1_2,rrw1_2_1⟩:=hI.slots 2 (by decide) (hall 2 (by decide))
     obtain rfl:=e
     have RRW1_2:=hid rrw1_2
     clear rrw1_2
     have RRW1_2_1:=hid rrw1_2_1
     clear rrw1_2_1
     have x2:a.tmps[5]? = some (.agg #[.bool (zneg (qa.num)),.slice pw1_2 (zlen (qa.num)) cw1_2,.slice sw1_2 (nlen (qa.den)) dw1_2]):=x2
     have HBW:=hid hI.world
     have HI:=hid hI
     have HA:=hid hall
     clear hI hall
     have K2:=hid (K2.out.below HBW.out)
     have HBX:=hid (HB0.out.trans (HBW.out.mono HB0.out.size))
     have RZ:=RRW1_0
     have TZ:=RRW1_0_1
     have RQ:=RRW1_2
     have TQ:=RRW1_2_1
     have y2:a.tmps[2]? = some (.pointer (some ⟨w.heap.size+1,0,none⟩)):=HI.out.rest 2 (by decide)
     have dK20:=K2.out.cell (i:=0) rfl
     have fK20:=K2.out.frozen (i:=0)
     have dK21:=K2.out.cell (i:=1) rfl
     have fK21:=K2.out.frozen (i:=1)
     have dK22:=K2.out.cell (i:=2) rfl
     have fK22:=K2.out.frozen (i:=2)
     refine tail_succ (t:=0) ?_
     refine stepH rfl fun K' hK=>?_
     go_simp
     refine hK.out _ _ ?_
     clear hK
     refine tail_nil ?_
     have s0:∀ {v':Value} {n':Nat},RN W v' n'→RN (storeAll W (w.heap.size+1) 0 [.bool (zneg (qa.num)),.slice pw1_2 (zlen (qa.num)) cw1_2,.slice sw1_2 (nlen (qa.den)) dw1_2]) v' n':=fun h'=>store_rn _ h' K2.out (by simp[noInt]) (by simp[plainV])
     exact⟨rfl,pw1_0,cw1_0,sw1_0,dw1_0,pw1_2,cw1_2,sw1_2,dw1_2,(HI.out.finx ⟨x0,HI.out.sx HA.out 1,x2,trivial⟩ rfl),(store_below (l:=[.bool (zneg (qa.num)),.slice pw1_2 (zlen (qa.num)) cw1_2,.slice sw1_2 (nlen (qa.den)) dw1_2]) (i:=0) (by omega) HBX.out),(store_blk (l:=[.bool (zneg (qa.num)),.slice pw1_2 (zlen (qa.num)) cw1_2,.slice sw1_2 (nlen (qa.den)) dw1_2]) (i:=0) K2.out),(s0 RQ.out),(s0 TQ.out)⟩
 rintro a' W1 ⟨pw1_0,cw1_0,sw1_0,dw1_0,pw1_2,cw1_2,sw1_2,dw1_2,rfl,z0,z1,z2,z3⟩
 have HB1:=hid z0
 have K2:=hid z1
 have RQ:=hid z2
 have TQ:=hid z3
 clear z0 z1 z2 z3
 simp only[putL,List.setIfInBounds_toArray,List.set_cons_zero,List.set_cons_succ]
 go_wp2
 have dK20:=K2.out.cell (i:=0) rfl
 have dK21:=K2.out.cell (i:=1) rfl
 have dK22:=K2.out.cell (i:=2) rfl
 exact bodyPost_ret (v:=.agg #[.bool (zneg (qa.num)),.slice pw1_2 (zlen (qa.num)) cw1_2,.slice sw1_2 (nlen (qa.den)) dw1_2]) (by simp[results,Tryz.results28,go_sem,dK20,dK21,dK22]) rfl ⟨_,_,_,_,rfl,RQ.out,TQ.out,HB1.out⟩
theorem tVec_0 (x y z:ByteArray)(qa qb qc:Rat)(be bd:Bool)  (w:World)  (h1:∀ W,Calls Tryz.prog 26 #[.string x] W fun e w'=>∃ p c s d,e=.returned (.tuple #[.agg #[.bool (zneg qa.num),.slice p (zlen qa.num) c,.slice s (nlen qa.den) d],.bool false])∧RN w' (.slice p (zlen qa.num) c) qa.num.natAbs∧RN w' (.slice s (nlen qa.den) d) qa.den∧Below W.heap.size W w')(h2:∀ W,Calls Tryz.prog 26 #[.string y] W fun e w'=>∃ p c s d,e=.returned (.tuple #[.agg #[.bool (zneg qb.num),.slice p (zlen qb.num) c,.slice s (nlen qb.den) d],.bool be])∧RN w' (.slice p (zlen qb.num) c) qb.num.natAbs∧RN w' (.slice s (nlen qb.den) d) qb.den∧Below W.heap.size W w')(h3:∀ W,Calls Tryz.prog 26 #[.string z] W fun e w'=>∃ p c s d,e=.returned (.tuple #[.agg #[.bool (zneg qc.num),.slice p (zlen qc.num) c,.slice s (nlen qc.den) d],.bool bd])∧RN w' (.slice p (zlen qc.num) c) qc.num.natAbs∧RN w' (.slice s (nlen qc.den) d) qc.den∧Below W.heap.size W w')  :
 Calls Tryz.prog 24 #[.agg #[.string x,.string y,.string z]] w fun e w'=>∃ pa ca sa da pb cb sb db pc cc sc dc,e=.returned (.tuple #[.agg #[.bool (zneg qa.num),.slice pa (zlen qa.num) ca,.slice sa (nlen qa.den) da,.bool (zneg qb.num),.slice pb (zlen qb.num) cb,.slice sb (nlen qb.den) db,.bool (zneg qc.num),.slice pc (zlen qc.num) cc,.slice sc (nlen qc.den) dc],.bool false])∧RN w' (.slice pa (zlen qa.num) ca) qa.num.natAbs∧RN w' (.slice sa (nlen qa.den) da) qa.den∧RN w' (.slice pb (zlen qb.num) cb) qb.num.natAbs∧RN w' (.slice sb (nlen qb.den) db) qb.den∧RN w' (.slice pc (zlen qc.num) cc) qc.num.natAbs∧RN w' (.slice sc (nlen qc.den) dc) qc.den∧Below w.heap.size w w':=by
 have C1:=hid h1
 have C2:=hid h2
 have C3:=hid h3
 clear h1 h2 h3
 go_enter Tryz.func24,Tryz.ntmps24
 go_upto_region 1 with fail
 refine wp_boxes w [(#[.string x,.string y,.string z],29),(#[.bool false,.slice none 0 0,.slice none 0 0,.bool false,.slice none 0 0,.slice none 0 0,.bool false,.slice none 0 0,.slice none 0 0],55)] rfl ?_
 rintro W0 ⟨k1,k2,hb⟩
 have HB0:=hid (show Below w.heap.size w W0 from hb)
 have K1:=hid k1
 have K2:=hid k2
 clear k1 k2 hb
 have dK10:=K1.out.cell (i:=0) rfl
 go_wp2_with fail
 with_reducible refine(C1.out _).mono ?_
 rintro e W1 ⟨pa_1,ca_1,sa_1,da_1,rfl,r1_0,r1_1,hb⟩
 clear dK10
 have K1:=hid (K1.out.below hb)
 have K2:=hid (K2.out.below hb)
 have HB1:=hbt HB0 hb
 have RA:=hid r1_0
 have TA:=hid r1_1
 clear hb r1_0 r1_1
 go_upto_region 2 with fail
 refine wp_boxes W1 [(#[.bool (zneg (qa.num)),.slice pa_1 (zlen (qa.num)) ca_1,.slice sa_1 (nlen (qa.den)) da_1],53)] rfl ?_
 have L1:=K1.out.lt
 have L2:=K2.out.lt
 have L3:=HB1.out.size
 rintro W2 ⟨k3,hb⟩
 have hb:Below W1.heap.size W1 W2:=hb
 have K1:=hid (K1.out.below hb)
 have K2:=hid (K2.out.below hb)
 have RA:=hid (RA.out.below hb)
 have TA:=hid (TA.out.below hb)
 have HB2:=hbt HB1 hb
 have K3:=hid k3
 clear k3 hb
 have dK11:=K1.out.cell (i:=1) rfl
 go_wp2_with fail
 with_reducible refine(C2.out _).mono ?_
 rintro e W3 ⟨pa_2,ca_2,sa_2,da_2,rfl,r2_0,r2_1,hb⟩
 clear dK11
 have K1:=hid (K1.out.below hb)
 have K2:=hid (K2.out.below hb)
 have K3:=hid (K3.out.below hb)
 have RA:=hid (RA.out.below hb)
 have TA:=hid (TA.out.below hb)
 have HB3:=hbt HB2 hb
 have RB:=hid r2_0
 have TB:=hid r2_1
 clear hb r2_0 r2_1
 go_upto_region 3 with fail
 refine wp_boxes W3 [(#[.bool (zneg (qb.num)),.slice pa_2 (zlen (qb.num)) ca_2,.slice sa_2 (nlen (qb.den)) da_2],53)] rfl ?_
 have L4:=K1.out.lt
 have L5:=K2.out.lt
 have L6:=K3.out.lt
 have L7:=HB3.out.size
 rintro W4 ⟨k4,hb⟩
 have hb:Below W3.heap.size W3 W4:=hb
 have K1:=hid (K1.out.below hb)
 have K2:=hid (K2.out.below hb)
 have K3:=hid (K3.out.below hb)
 have RA:=hid (RA.out.below hb)
 have TA:=hid (TA.out.below hb)
 have RB:=hid (RB.out.below hb)
 have TB:=hid (TB.out.below hb)
 have HB4:=hbt HB3 hb
 have K4:=hid k4
 clear k4 hb
 have dK12:=K1.out.cell (i:=2) rfl
 go_wp2_with fail
 with_reducible refine(C3.out _).mono ?_
 rintro e W5 ⟨pa_3,ca_3,sa_3,da_3,rfl,r3_0,r3_1,hb⟩
 clear dK12
 have K1:=hid (K1.out.below hb)
 have K2:=hid (K2.out.below hb)
 have K3:=hid (K3.out.below hb)
 have K4:=hid (K4.out.below hb)
 have RA:=hid (RA.out.below hb)
 have TA:=hid (TA.out.below hb)
 have RB:=hid (RB.out.below hb)
 have TB:=hid (TB.out.below hb)
 have HB5:=hbt HB4 hb
 have RC:=hid r3_0
 have TC:=hid r3_1
 clear hb r3_0 r3_1
 go_upto_region 4 with fail
 refine wp_boxes W5 [(#[.bool (zneg (qc.num)),.slice pa_3 (zlen (qc.num)) ca_3,.slice sa_3 (nlen (qc.den)) da_3],53)] rfl ?_
 have L8:=K1.out.lt
 have L9:=K2.out.lt
 have L10:=K3.out.lt
 have L11:=K4.out.lt
 have L12:=HB5.out.size
 rintro W6 ⟨k5,hb⟩
 have hb:Below W5.heap.size W5 W6:=hb
 have K2:=hid (K2.out.below hb)
 have K3:=hid (K3.out.below hb)
 have K4:=hid (K4.out.below hb)
 have RA:=hid (RA.out.below hb)
 have TA:=hid (TA.out.below hb)
 have RB:=hid (RB.out.below hb)
 have TB:=hid (TB.out.below hb)
 have RC:=hid (RC.out.below hb)
 have TC:=hid (TC.out.below hb)
 have HB6:=hbt HB5 hb
 have K5:=hid k5
 clear k5 hb
 have dK30:=K3.out.cell (i:=0) rfl
 have dK31:=K3.out.cell (i:=1) rfl
 have dK32:=K3.out.cell (i:=2) rfl
 have dK40:=K4.out.cell (i:=0) rfl
 have dK41:=K4.out.cell (i:=1) rfl
 have dK42:=K4.out.cell (i:=2) rfl
 have dK50:=K5.out.cell (i:=0) rfl
 have dK51:=K5.out.cell (i:=1) rfl
 have dK52:=K5.out.cell (i:=2) rfl
 have dK20:=K2.out.cell (i:=0) rfl
 have dK21:=K2.out.cell (i:=1) rfl
 have dK22:=K2.out.cell (i:=2) rfl
 have dK23:=K2.out.cell (i:=3) rfl
 have dK24:=K2.out.cell (i:=4) rfl
 have dK25:=K2.out.cell (i:=5) rfl
 have dK26:=K2.out.cell (i:=6) rfl
 have dK27:=K2.out.cell (i:=7) rfl
 have dK28:=K2.out.cell (i:=8) rfl
 have fK20:=K2.out.frozen (i:=0)
 have fK21:=K2.out.frozen (i:=1)
 have fK22:=K2.out.frozen (i:=2)
 have fK23:=K2.out.frozen (i:=3)
 have fK24:=K2.out.frozen (i:=4)
 have fK25:=K2.out.frozen (i:=5)
 have fK26:=K2.out.frozen (i:=6)
 have fK27:=K2.out.frozen (i:=7)
 have fK28:=K2.out.frozen (i:=8)
 go_wp2
 exact bodyPost_ret (v:=.tuple #[.agg #[.bool (zneg (qa.num)),.slice pa_1 (zlen (qa.num)) ca_1,.slice sa_1 (nlen (qa.den)) da_1,.bool (zneg (qb.num)),.slice pa_2 (zlen (qb.num)) ca_2,.slice sa_2 (nlen (qb.den)) da_2,.bool (zneg (qc.num)),.slice pa_3 (zlen (qc.num)) ca_3,.slice sa_3 (nlen (qc.den)) da_3],.bool false]) (by simp[results,Tryz.results24,go_sem,dK20,dK21,dK22,dK23,dK24,dK25,dK26,dK27,dK28]) rfl ⟨_,_,_,_,_,_,_,_,_,_,_,_,rfl,(store_rn [.bool (zneg (qa.num)),.slice pa_1 (zlen (qa.num)) ca_1,.slice sa_1 (nlen (qa.den)) da_1,.bool (zneg (qb.num)),.slice pa_2 (zlen (qb.num)) ca_2,.slice sa_2 (nlen (qb.den)) da_2,.bool (zneg (qc.num)),.slice pa_3 (zlen (qc.num)) ca_3,.slice sa_3 (nlen (qc.den)) da_3] RA.out K2.out (by simp[noInt]) (by simp[plainV])),(store_rn [.bool (zneg (qa.num)),.slice pa_1 (zlen (qa.num)) ca_1,.slice sa_1 (nlen (qa.den)) da_1,.bool (zneg (qb.num)),.slice pa_2 (zlen (qb.num)) ca_2,.slice sa_2 (nlen (qb.den)) da_2,.bool (zneg (qc.num)),.slice pa_3 (zlen (qc.num)) ca_3,.slice sa_3 (nlen (qc.den)) da_3] TA.out K2.out (by simp[noInt]) (by simp[plainV])),(store_rn [.bool (zneg (qa.num)),.slice pa_1 (zlen (qa.num)) ca_1,.slice sa_1 (nlen (qa.den)) da_1,.bool (zneg (qb.num)),.slice pa_2 (zlen (qb.num)) ca_2,.slice sa_2 (nlen (qb.den)) da_2,.bool (zneg (qc.num)),.slice pa_3 (zlen (qc.num)) ca_3,.slice sa_3 (nlen (qc.den)) da_3] RB.out K2.out (by simp[noInt]) (by simp[plainV])),(store_rn [.bool (zneg (qa.num)),.slice pa_1 (zlen (qa.num)) ca_1,.slice sa_1 (nlen (qa.den)) da_1,.bool (zneg (qb.num)),.slice pa_2 (zlen (qb.num)) ca_2,.slice sa_2 (nlen (qb.den)) da_2,.bool (zneg (qc.num)),.slice pa_3 (zlen (qc.num)) ca_3,.slice sa_3 (nlen (qc.den)) da_3] TB.out K2.out (by simp[noInt]) (by simp[plainV])),(store_rn [.bool (zneg (qa.num)),.slice pa_1 (zlen (qa.num)) ca_1,.slice sa_1 (nlen (qa.den)) da_1,.bool (zneg (qb.num)),.slice pa_2 (zlen (qb.num)) ca_2,.slice sa_2 (nlen (qb.den)) da_2,.bool (zneg (qc.num)),.slice pa_3 (zlen (qc.num)) ca_3,.slice sa_3 (nlen (qc.den)) da_3] RC.out K2.out (by simp[noInt]) (by simp[plainV])),(store_rn [.bool (zneg (qa.num)),.slice pa_1 (zlen (qa.num)) ca_1,.slice sa_1 (nlen (qa.den)) da_1,.bool (zneg (qb.num)),.slice pa_2 (zlen (qb.num)) ca_2,.slice sa_2 (nlen (qb.den)) da_2,.bool (zneg (qc.num)),.slice pa_3 (zlen (qc.num)) ca_3,.slice sa_3 (nlen (qc.den)) da_3] TC.out K2.out (by simp[noInt]) (by simp[plainV])),(store_below (l:=[.bool (zneg (qa.num)),.slice pa_1 (zlen (qa.num)) ca_1,.slice sa_1 (nlen (qa.den)) da_1,.bool (zneg (qb.num)),.slice pa_2 (zlen (qb.num)) ca_2,.slice sa_2 (nlen (qb.den)) da_2,.bool (zneg (qc.num)),.slice pa_3 (zlen (qc.num)) ca_3,.slice sa_3 (nlen (qc.den)) da_3]) (i:=0) (by omega) HB6.out)⟩
theorem tVec_2 (x y z:ByteArray)(qa qb qc:Rat)(bd:Bool)  (w:World)  (h1:∀ W,Calls Tryz.prog 26 #[.string x] W fun e w'=>∃ p c s d,e=.returned (.tuple #[.agg #[.bool (zneg qa.num),.slice p (zlen qa.num) c,.slice s (nlen qa.den) d],.bool true])∧RN w' (.slice p (zlen qa.num) c) qa.num.natAbs∧RN w' (.slice s (nlen qa.den) d) qa.den∧Below W.heap.size W w')(h2:∀ W,Calls Tryz.prog 26 #[.string y] W fun e w'=>∃ p c s d,e=.returned (.tuple #[.agg #[.bool (zneg qb.num),.slice p (zlen qb.num) c,.slice s (nlen qb.den) d],.bool true])∧RN w' (.slice p (zlen qb.num) c) qb.num.natAbs∧RN w' (.slice s (nlen qb.den) d) qb.den∧Below W.heap.size W w')(h3:∀ W,Calls Tryz.prog 26 #[.string z] W fun e w'=>∃ p c s d,e=.returned (.tuple #[.agg #[.bool (zneg qc.num),.slice p (zlen qc.num) c,.slice s (nlen qc.den) d],.bool bd])∧RN w' (.slice p (zlen qc.num) c) qc.num.natAbs∧RN w' (.slice s (nlen qc.den) d) qc.den∧Below W.heap.size W w')  :
 Calls Tryz.prog 24 #[.agg #[.string x,.string y,.string z]] w fun e w'=>∃ pa ca sa da pb cb sb db pc cc sc dc,e=.returned (.tuple #[.agg #[.bool (zneg qa.num),.slice pa (zlen qa.num) ca,.slice sa (nlen qa.den) da,.bool (zneg qb.num),.slice pb (zlen qb.num) cb,.slice sb (nlen qb.den) db,.bool (zneg qc.num),.slice pc (zlen qc.num) cc,.slice sc (nlen qc.den) dc],.bool bd])∧RN w' (.slice pa (zlen qa.num) ca) qa.num.natAbs∧RN w' (.slice sa (nlen qa.den) da) qa.den∧RN w' (.slice pb (zlen qb.num) cb) qb.num.natAbs∧RN w' (.slice sb (nlen qb.den) db) qb.den∧RN w' (.slice pc (zlen qc.num) cc) qc.num.natAbs∧RN w' (.slice sc (nlen qc.den) dc) qc.den∧Below w.heap.size w w':=by
 have C1:=hid h1
 have C2:=hid h2
 have C3:=hid h3
 clear h1 h2 h3
 go_enter Tryz.func24,Tryz.ntmps24
 go_upto_region 1 with fail
 refine wp_boxes w [(#[.string x,.string y,.string z],29),(#[.bool false,.slice none 0 0,.slice none 0 0,.bool false,.slice none 0 0,.slice none 0 0,.bool false,.slice none 0 0,.slice none 0 0],55)] rfl ?_
 rintro W0 ⟨k1,k2,hb⟩
 have HB0:=hid (show Below w.heap.size w W0 from hb)
 have K1:=hid k1
 have K2:=hid k2
 clear k1 k2 hb
 have dK10:=K1.out.cell (i:=0) rfl
 go_wp2_with fail
 with_reducible refine(C1.out _).mono ?_
 rintro e W1 ⟨pa_1,ca_1,sa_1,da_1,rfl,r1_0,r1_1,hb⟩
 clear dK10
 have K1:=hid (K1.out.below hb)
 have K2:=hid (K2.out.below hb)
 have HB1:=hbt HB0 hb
 have RA:=hid r1_0
 have TA:=hid r1_1
 clear hb r1_0 r1_1
 go_upto_region 2 with fail
 refine wp_boxes W1 [(#[.bool (zneg (qa.num)),.slice pa_1 (zlen (qa.num)) ca_1,.slice sa_1 (nlen (qa.den)) da_1],53)] rfl ?_
 have L1:=K1.out.lt
 have L2:=K2.out.lt
 have L3:=HB1.out.size
 rintro W2 ⟨k3,hb⟩
 have hb:Below W1.heap.size W1 W2:=hb
 have K1:=hid (K1.out.below hb)
 have K2:=hid (K2.out.below hb)
 have RA:=hid (RA.out.below hb)
 have TA:=hid (TA.out.below hb)
 have HB2:=hbt HB1 hb
 have K3:=hid k3
 clear k3 hb
 have dK11:=K1.out.cell (i:=1) rfl
 go_wp2_with fail
 with_reducible refine(C2.out _).mono ?_
 rintro e W3 ⟨pa_2,ca_2,sa_2,da_2,rfl,r2_0,r2_1,hb⟩
 clear dK11
 have K1:=hid (K1.out.below hb)
 have K2:=hid (K2.out.below hb)
 have K3:=hid (K3.out.below hb)
 have RA:=hid (RA.out.below hb)
 have TA:=hid (TA.out.below hb)
 have HB3:=hbt HB2 hb
 have RB:=hid r2_0
 have TB:=hid r2_1
 clear hb r2_0 r2_1
 go_upto_region 3 with fail
 refine wp_boxes W3 [(#[.bool (zneg (qb.num)),.slice pa_2 (zlen (qb.num)) ca_2,.slice sa_2 (nlen (qb.den)) da_2],53)] rfl ?_
 have L4:=K1.out.lt
 have L5:=K2.out.lt
 have L6:=K3.out.lt
 have L7:=HB3.out.size
 rintro W4 ⟨k4,hb⟩
 have hb:Below W3.heap.size W3 W4:=hb
 have K1:=hid (K1.out.below hb)
 have K2:=hid (K2.out.below hb)
 have K3:=hid (K3.out.below hb)
 have RA:=hid (RA.out.below hb)
 have TA:=hid (TA.out.below hb)
 have RB:=hid (RB.out.below hb)
 have TB:=hid (TB.out.below hb)
 have HB4:=hbt HB3 hb
 have K4:=hid k4
 clear k4 hb
 have dK12:=K1.out.cell (i:=2) rfl
 go_wp2_with fail
 with_reducible refine(C3.out _).mono ?_
 rintro e W5 ⟨pa_3,ca_3,sa_3,da_3,rfl,r3_0,r3_1,hb⟩
 clear dK12
 have K1:=hid (K1.out.below hb)
 have K2:=hid (K2.out.below hb)
 have K3:=hid (K3.out.below hb)
 have K4:=hid (K4.out.below hb)
 have RA:=hid (RA.out.below hb)
 have TA:=hid (TA.out.below hb)
 have RB:=hid (RB.out.below hb)
 have TB:=hid (TB.out.below hb)
 have HB5:=hbt HB4 hb
 have RC:=hid r3_0
 have TC:=hid r3_1
 clear hb r3_0 r3_1
 go_upto_region 4 with fail
 refine wp_boxes W5 [(#[.bool (zneg (qc.num)),.slice pa_3 (zlen (qc.num)) ca_3,.slice sa_3 (nlen (qc.den)) da_3],53)] rfl ?_
 have L8:=K1.out.lt
 have L9:=K2.out.lt
 have L10:=K3.out.lt
 have L11:=K4.out.lt
 have L12:=HB5.out.size
 rintro W6 ⟨k5,hb⟩
 have hb:Below W5.heap.size W5 W6:=hb
 have K2:=hid (K2.out.below hb)
 have K3:=hid (K3.out.below hb)
 have K4:=hid (K4.out.below hb)
 have RA:=hid (RA.out.below hb)
 have TA:=hid (TA.out.below hb)
 have RB:=hid (RB.out.below hb)
 have TB:=hid (TB.out.below hb)
 have RC:=hid (RC.out.below hb)
 have TC:=hid (TC.out.below hb)
 have HB6:=hbt HB5 hb
 have K5:=hid k5
 clear k5 hb
 have dK30:=K3.out.cell (i:=0) rfl
 have dK31:=K3.out.cell (i:=1) rfl
 have dK32:=K3.out.cell (i:=2) rfl
 have dK40:=K4.out.cell (i:=0) rfl
 have dK41:=K4.out.cell (i:=1) rfl
 have dK42:=K4.out.cell (i:=2) rfl
 have dK50:=K5.out.cell (i:=0) rfl
 have dK51:=K5.out.cell (i:=1) rfl
 have dK52:=K5.out.cell (i:=2) rfl
 have dK20:=K2.out.cell (i:=0) rfl
 have dK21:=K2.out.cell (i:=1) rfl
 have dK22:=K2.out.cell (i:=2) rfl
 have dK23:=K2.out.cell (i:=3) rfl
 have dK24:=K2.out.cell (i:=4) rfl
 have dK25:=K2.out.cell (i:=5) rfl
 have dK26:=K2.out.cell (i:=6) rfl
 have dK27:=K2.out.cell (i:=7) rfl
 have dK28:=K2.out.cell (i:=8) rfl
 have fK20:=K2.out.frozen (i:=0)
 have fK21:=K2.out.frozen (i:=1)
 have fK22:=K2.out.frozen (i:=2)
 have fK23:=K2.out.frozen (i:=3)
 have fK24:=K2.out.frozen (i:=4)
 have fK25:=K2.out.frozen (i:=5)
 have fK26:=K2.out.frozen (i:=6)
 have fK27:=K2.out.frozen (i:=7)
 have fK28:=K2.out.frozen (i:=8)
 go_wp2
 exact bodyPost_ret (v:=.tuple #[.agg #[.bool (zneg (qa.num)),.slice pa_1 (zlen (qa.num)) ca_1,.slice sa_1 (nlen (qa.den)) da_1,.bool (zneg (qb.num)),.slice pa_2 (zlen (qb.num)) ca_2,.slice sa_2 (nlen (qb.den)) da_2,.bool (zneg (qc.num)),.slice pa_3 (zlen (qc.num)) ca_3,.slice sa_3 (nlen (qc.den)) da_3],.bool bd]) (by simp[results,Tryz.results24,go_sem,dK20,dK21,dK22,dK23,dK24,dK25,dK26,dK27,dK28]) rfl ⟨_,_,_,_,_,_,_,_,_,_,_,_,rfl,(store_rn [.bool (zneg (qa.num)),.slice pa_1 (zlen (qa.num)) ca_1,.slice sa_1 (nlen (qa.den)) da_1,.bool (zneg (qb.num)),.slice pa_2 (zlen (qb.num)) ca_2,.slice sa_2 (nlen (qb.den)) da_2,.bool (zneg (qc.num)),.slice pa_3 (zlen (qc.num)) ca_3,.slice sa_3 (nlen (qc.den)) da_3] RA.out K2.out (by simp[noInt]) (by simp[plainV])),(store_rn [.bool (zneg (qa.num)),.slice pa_1 (zlen (qa.num)) ca_1,.slice sa_1 (nlen (qa.den)) da_1,.bool (zneg (qb.num)),.slice pa_2 (zlen (qb.num)) ca_2,.slice sa_2 (nlen (qb.den)) da_2,.bool (zneg (qc.num)),.slice pa_3 (zlen (qc.num)) ca_3,.slice sa_3 (nlen (qc.den)) da_3] TA.out K2.out (by simp[noInt]) (by simp[plainV])),(store_rn [.bool (zneg (qa.num)),.slice pa_1 (zlen (qa.num)) ca_1,.slice sa_1 (nlen (qa.den)) da_1,.bool (zneg (qb.num)),.slice pa_2 (zlen (qb.num)) ca_2,.slice sa_2 (nlen (qb.den)) da_2,.bool (zneg (qc.num)),.slice pa_3 (zlen (qc.num)) ca_3,.slice sa_3 (nlen (qc.den)) da_3] RB.out K2.out (by simp[noInt]) (by simp[plainV])),(store_rn [.bool (zneg (qa.num)),.slice pa_1 (zlen (qa.num)) ca_1,.slice sa_1 (nlen (qa.den)) da_1,.bool (zneg (qb.num)),.slice pa_2 (zlen (qb.num)) ca_2,.slice sa_2 (nlen (qb.den)) da_2,.bool (zneg (qc.num)),.slice pa_3 (zlen (qc.num)) ca_3,.slice sa_3 (nlen (qc.den)) da_3] TB.out K2.out (by simp[noInt]) (by simp[plainV])),(store_rn [.bool (zneg (qa.num)),.slice pa_1 (zlen (qa.num)) ca_1,.slice sa_1 (nlen (qa.den)) da_1,.bool (zneg (qb.num)),.slice pa_2 (zlen (qb.num)) ca_2,.slice sa_2 (nlen (qb.den)) da_2,.bool (zneg (qc.num)),.slice pa_3 (zlen (qc.num)) ca_3,.slice sa_3 (nlen (qc.den)) da_3] RC.out K2.out (by simp[noInt]) (by simp[plainV])),(store_rn [.bool (zneg (qa.num)),.slice pa_1 (zlen (qa.num)) ca_1,.slice sa_1 (nlen (qa.den)) da_1,.bool (zneg (qb.num)),.slice pa_2 (zlen (qb.num)) ca_2,.slice sa_2 (nlen (qb.den)) da_2,.bool (zneg (qc.num)),.slice pa_3 (zlen (qc.num)) ca_3,.slice sa_3 (nlen (qc.den)) da_3] TC.out K2.out (by simp[noInt]) (by simp[plainV])),(store_below (l:=[.bool (zneg (qa.num)),.slice pa_1 (zlen (qa.num)) ca_1,.slice sa_1 (nlen (qa.den)) da_1,.bool (zneg (qb.num)),.slice pa_2 (zlen (qb.num)) ca_2,.slice sa_2 (nlen (qb.den)) da_2,.bool (zneg (qc.num)),.slice pa_3 (zlen (qc.num)) ca_3,.slice sa_3 (nlen (qc.den)) da_3]) (i:=0) (by omega) HB6.out)⟩
theorem tDot_raw (xa xb xc ya yb yc qa qb qc qs qd:Rat)(p1a:Option Addr)(c1a:Nat)(s1a:Option Addr)(d1a:Nat)(p1b:Option Addr)(c1b:Nat)(s1b:Option Addr)(d1b:Nat)(p1c:Option Addr)(c1c:Nat)(s1c:Option Addr)(d1c:Nat)(p2a:Option Addr)(c2a:Nat)(s2a:Option Addr)(d2a:Nat)(p2b:Option Addr)(c2b:Nat)(s2b:Option Addr)(d2b:Nat)(p2c:Option Addr)(c2c:Nat)(s2c:Option Addr)(d2c:Nat)(w:World)  (h1:∀ p1 c1 s1 d1 p2 c2 s2 d2 W,RN W (.slice p1 (zlen xa.num) c1) xa.num.natAbs→RN W (.slice s1 (nlen xa.den) d1) xa.den→RN W (.slice p2 (zlen ya.num) c2) ya.num.natAbs→RN W (.slice s2 (nlen ya.den) d2) ya.den→Calls Tryz.prog 61 #[.agg #[.bool (zneg xa.num),.slice p1 (zlen xa.num) c1,.slice s1 (nlen xa.den) d1],.agg #[.bool (zneg ya.num),.slice p2 (zlen ya.num) c2,.slice s2 (nlen ya.den) d2]] W fun e w'=>∃ p c s d,e=.returned (.agg #[.bool (zneg qa.num),.slice p (zlen qa.num) c,.slice s (nlen qa.den) d])∧RN w' (.slice p (zlen qa.num) c) qa.num.natAbs∧RN w' (.slice s (nlen qa.den) d) qa.den∧Below W.heap.size W w')(h2:∀ p1 c1 s1 d1 p2 c2 s2 d2 W,RN W (.slice p1 (zlen xb.num) c1) xb.num.natAbs→RN W (.slice s1 (nlen xb.den) d1) xb.den→RN W (.slice p2 (zlen yb.num) c2) yb.num.natAbs→RN W (.slice s2 (nlen yb.den) d2) yb.den→Calls Tryz.prog 61 #[.agg #[.bool (zneg xb.num),.slice p1 (zlen xb.num) c1,.slice s1 (nlen xb.den) d1],.agg #[.bool (zneg yb.num),.slice p2 (zlen yb.num) c2,.slice s2 (nlen yb.den) d2]] W fun e w'=>∃ p c s d,e=.returned (.agg #[.bool (zneg qb.num),.slice p (zlen qb.num) c,.slice s (nlen qb.den) d])∧RN w' (.slice p (zlen qb.num) c) qb.num.natAbs∧RN w' (.slice s (nlen qb.den) d) qb.den∧Below W.heap.size W w')(h3:∀ p1 c1 s1 d1 p2 c2 s2 d2 W,RN W (.slice p1 (zlen qa.num) c1) qa.num.natAbs→RN W (.slice s1 (nlen qa.den) d1) qa.den→RN W (.slice p2 (zlen qb.num) c2) qb.num.natAbs→RN W (.slice s2 (nlen qb.den) d2) qb.den→Calls Tryz.prog 67 #[.agg #[.bool (zneg qa.num),.slice p1 (zlen qa.num) c1,.slice s1 (nlen qa.den) d1],.agg #[.bool (zneg qb.num),.slice p2 (zlen qb.num) c2,.slice s2 (nlen qb.den) d2]] W fun e w'=>∃ p c s d,e=.returned (.agg #[.bool (zneg qs.num),.slice p (zlen qs.num) c,.slice s (nlen qs.den) d])∧RN w' (.slice p (zlen qs.num) c) qs.num.natAbs∧RN w' (.slice s (nlen qs.den) d) qs.den∧Below W.heap.size W w')(h4:∀ p1 c1 s1 d1 p2 c2 s2 d2 W,RN W (.slice p1 (zlen xc.num) c1) xc.num.natAbs→RN W (.slice s1 (nlen xc.den) d1) xc.den→RN W (.slice p2 (zlen yc.num) c2) yc.num.natAbs→RN W (.slice s2 (nlen yc.den) d2) yc.den→Calls Tryz.prog 61 #[.agg #[.bool (zneg xc.num),.slice p1 (zlen xc.num) c1,.slice s1 (nlen xc.den) d1],.agg #[.bool (zneg yc.num),.slice p2 (zlen yc.num) c2,.slice s2 (nlen yc.den) d2]] W fun e w'=>∃ p c s d,e=.returned (.agg #[.bool (zneg qc.num),.slice p (zlen qc.num) c,.slice s (nlen qc.den) d])∧RN w' (.slice p (zlen qc.num) c) qc.num.natAbs∧RN w' (.slice s (nlen qc.den) d) qc.den∧Below W.heap.size W w')(h5:∀ p1 c1 s1 d1 p2 c2 s2 d2 W,RN W (.slice p1 (zlen qs.num) c1) qs.num.natAbs→RN W (.slice s1 (nlen qs.den) d1) qs.den→RN W (.slice p2 (zlen qc.num) c2) qc.num.natAbs→RN W (.slice s2 (nlen qc.den) d2) qc.den→Calls Tryz.prog 67 #[.agg #[.bool (zneg qs.num),.slice p1 (zlen qs.num) c1,.slice s1 (nlen qs.den) d1],.agg #[.bool (zneg qc.num),.slice p2 (zlen qc.num) c2,.slice s2 (nlen qc.den) d2]] W fun e w'=>∃ p c s d,e=.returned (.agg #[.bool (zneg qd.num),.slice p (zlen qd.num) c,.slice s (nlen qd.den) d])∧RN w' (.slice p (zlen qd.num) c) qd.num.natAbs∧RN w' (.slice s (nlen qd.den) d) qd.den∧Below W.heap.size W w')(r1a:RN w (.slice p1a (zlen xa.num) c1a) xa.num.natAbs)(t1a:RN w (.slice s1a (nlen xa.den) d1a) xa.den)(r1b:RN w (.slice p1b (zlen xb.num) c1b) xb.num.natAbs)(t1b:RN w (.slice s1b (nlen xb.den) d1b) xb.den)(r1c:RN w (.slice p1c (zlen xc.num) c1c) xc.num.natAbs)(t1c:RN w (.slice s1c (nlen xc.den) d1c) xc.den)(r2a:RN w (.slice p2a (zlen ya.num) c2a) ya.num.natAbs)(t2a:RN w (.slice s2a (nlen ya.den) d2a) ya.den)(r2b:RN w (.slice p2b (zlen yb.num) c2b) yb.num.natAbs)(t2b:RN w (.slice s2b (nlen yb.den) d2b) yb.den)(r2c:RN w (.slice p2c (zlen yc.num) c2c) yc.num.natAbs)(t2c:RN w (.slice s2c (nlen yc.den) d2c) yc.den) :
 Calls Tryz.prog 41 #[.agg #[.bool (zneg xa.num),.slice p1a (zlen xa.num) c1a,.slice s1a (nlen xa.den) d1a,.bool (zneg xb.num),.slice p1b (zlen xb.num) c1b,.slice s1b (nlen xb.den) d1b,.bool (zneg xc.num),.slice p1c (zlen xc.num) c1c,.slice s1c (nlen xc.den) d1c],.agg #[.bool (zneg ya.num),.slice p2a (zlen ya.num) c2a,.slice s2a (nlen ya.den) d2a,.bool (zneg yb.num),.slice p2b (zlen yb.num) c2b,.slice s2b (nlen yb.den) d2b,.bool (zneg yc.num),.slice p2c (zlen yc.num) c2c,.slice s2c (nlen yc.den) d2c]] w fun e w'=>∃ p c s d,e=.returned (.agg #[.bool (zneg qd.num),.slice p (zlen qd.num) c,.slice s (nlen qd.den) d])∧RN w' (.slice p (zlen qd.num) c) qd.num.natAbs∧RN w' (.slice s (nlen qd.den) d) qd.den∧Below w.heap.size w w':=by
 have C1:=hid h1
 have C2:=hid h2
 have C3:=hid h3
 have C4:=hid h4
 have C5:=hid h5
 have R1a:=hid r1a
 have T1a:=hid t1a
 have R1b:=hid r1b
 have T1b:=hid t1b
 have R1c:=hid r1c
 have T1c:=hid t1c
 have R2a:=hid r2a
 have T2a:=hid t2a
 have R2b:=hid r2b
 have T2b:=hid t2b
 have R2c:=hid r2c
 have T2c:=hid t2c
 clear h1 h2 h3 h4 h5 r1a t1a r1b t1b r1c t1c r2a t2a r2b t2b r2c t2c
 go_enter Tryz.func41,Tryz.ntmps41
 go_upto_region 1 with fail
 refine wp_boxes w [(#[.bool (zneg xa.num),.slice p1a (zlen xa.num) c1a,.slice s1a (nlen xa.den) d1a,.bool (zneg xb.num),.slice p1b (zlen xb.num) c1b,.slice s1b (nlen xb.den) d1b,.bool (zneg xc.num),.slice p1c (zlen xc.num) c1c,.slice s1c (nlen xc.den) d1c],55),(#[.bool (zneg ya.num),.slice p2a (zlen ya.num) c2a,.slice s2a (nlen ya.den) d2a,.bool (zneg yb.num),.slice p2b (zlen yb.num) c2b,.slice s2b (nlen yb.den) d2b,.bool (zneg yc.num),.slice p2c (zlen yc.num) c2c,.slice s2c (nlen yc.den) d2c],55),(#[.bool false,.slice none 0 0,.slice none 0 0],53)] rfl ?_
 rintro W0 ⟨k1,k2,k3,hb⟩
 have HB0:=hid (show Below w.heap.size w W0 from hb)
 have R1a:=hid (R1a.out.below HB0.out)
 have T1a:=hid (T1a.out.below HB0.out)
 have R1b:=hid (R1b.out.below HB0.out)
 have T1b:=hid (T1b.out.below HB0.out)
 have R1c:=hid (R1c.out.below HB0.out)
 have T1c:=hid (T1c.out.below HB0.out)
 have R2a:=hid (R2a.out.below HB0.out)
 have T2a:=hid (T2a.out.below HB0.out)
 have R2b:=hid (R2b.out.below HB0.out)
 have T2b:=hid (T2b.out.below HB0.out)
 have R2c:=hid (R2c.out.below HB0.out)
 have T2c:=hid (T2c.out.below HB0.out)
 have K1:=hid k1
 have K2:=hid k2
 have K3:=hid k3
 clear k1 k2 k3 hb
 go_wp2_with fail
 refine wp_region_post (fun a0 a' V=>∃ pw1_4 cw1_4 sw1_4 dw1_4 pw1_9 cw1_9 sw1_9 dw1_9 pw1_10 cw1_10 sw1_10 dw1_10 pw1_15 cw1_15 sw1_15 dw1_15 pw1_16 cw1_16 sw1_16 dw1_16,a'=⟨putL [(5,.pointer (some ⟨w.heap.size,0,none⟩)),(6,.agg #[.bool (zneg xa.num),.slice p1a (zlen xa.num) c1a,.slice s1a (nlen xa.den) d1a]),(7,.pointer (some ⟨w.heap.size+1,0,none⟩)),(8,.agg #[.bool (zneg ya.num),.slice p2a (zlen ya.num) c2a,.slice s2a (nlen ya.den) d2a]),(9,.agg #[.bool (zneg (qa.num)),.slice pw1_4 (zlen (qa.num)) cw1_4,.slice sw1_4 (nlen (qa.den)) dw1_4]),(10,.pointer (some ⟨w.heap.size,3,none⟩)),(11,.agg #[.bool (zneg xb.num),.slice p1b (zlen xb.num) c1b,.slice s1b (nlen xb.den) d1b]),(12,.pointer (some ⟨w.heap.size+1,3,none⟩)),(13,.agg #[.bool (zneg yb.num),.slice p2b (zlen yb.num) c2b,.slice s2b (nlen yb.den) d2b]),(14,.agg #[.bool (zneg (qb.num)),.slice pw1_9 (zlen (qb.num)) cw1_9,.slice sw1_9 (nlen (qb.den)) dw1_9]),(15,.agg #[.bool (zneg (qs.num)),.slice pw1_10 (zlen (qs.num)) cw1_10,.slice sw1_10 (nlen (qs.den)) dw1_10]),(16,.pointer (some ⟨w.heap.size,6,none⟩)),(17,.agg #[.bool (zneg xc.num),.slice p1c (zlen xc.num) c1c,.slice s1c (nlen xc.den) d1c]),(18,.pointer (some ⟨w.heap.size+1,6,none⟩)),(19,.agg #[.bool (zneg yc.num),.slice p2c (zlen yc.num) c2c,.slice s2c (nlen yc.den) d2c]),(20,.agg #[.bool (zneg (qc.num)),.slice pw1_15 (zlen (qc.num)) cw1_15,.slice sw1_15 (nlen (qc.den)) dw1_15]),(21,.agg #[.bool (zneg (qd.num)),.slice pw1_16 (zlen (qd.num)) cw1_16,.slice sw1_16 (nlen (qd.den)) dw1_16])] a0.tmps,a0.defers⟩∧Below w.heap.size w V∧SBk V (w.heap.size+1+1) #[.bool (zneg (qd.num)),.slice pw1_16 (zlen (qd.num)) cw1_16,.slice sw1_16 (nlen (qd.den)) dw1_16] 53∧RN V (.slice pw1_16 (zlen (qd.num)) cw1_16) (qd.num).natAbs∧RN V (.slice sw1_16 (nlen (qd.den)) dw1_16) (qd.den)) ?_ ?_
 · refine wp_region_tail_d (by kernel_rfl) 17 1 (fun i=>[5,6,7,8,9,10,11,12,13,14,15,16,17,18,19,20,21].getD i 0) (RelR [Rel.val (.pointer (some ⟨w.heap.size,0,none⟩)),Rel.val (.agg #[.bool (zneg xa.num),.slice p1a (zlen xa.num) c1a,.slice s1a (nlen xa.den) d1a]),Rel.val (.pointer (some ⟨w.heap.size+1,0,none⟩)),Rel.val (.agg #[.bool (zneg ya.num),.slice p2a (zlen ya.num) c2a,.slice s2a (nlen ya.den) d2a]),⟨fun v W=>∃ p c s d,v=.agg #[.bool (zneg (qa.num)),.slice p (zlen (qa.num)) c,.slice s (nlen (qa.den)) d]∧RN W (.slice p (zlen (qa.num)) c) (qa.num).natAbs∧RN W (.slice s (nlen (qa.den)) d) (qa.den),fun _ _ _ ⟨p,c,s,d,e,h0,h1⟩ hb=>⟨p,c,s,d,e,h0.below hb,h1.below hb⟩⟩,Rel.val (.pointer (some ⟨w.heap.size,3,none⟩)),Rel.val (.agg #[.bool (zneg xb.num),.slice p1b (zlen xb.num) c1b,.slice s1b (nlen xb.den) d1b]),Rel.val (.pointer (some ⟨w.heap.size+1,3,none⟩)),Rel.val (.agg #[.bool (zneg yb.num),.slice p2b (zlen yb.num) c2b,.slice s2b (nlen yb.den) d2b]),⟨fun v W=>∃ p c s d,v=.agg #[.bool (zneg (qb.num)),.slice p (zlen (qb.num)) c,.slice s (nlen (qb.den)) d]∧RN W (.slice p (zlen (qb.num)) c) (qb.num).natAbs∧RN W (.slice s (nlen (qb.den)) d) (qb.den),fun _ _ _ ⟨p,c,s,d,e,h0,h1⟩ hb=>⟨p,c,s,d,e,h0.below hb,h1.below hb⟩⟩,⟨fun v W=>∃ p c s d,v=.agg #[.bool (zneg (qs.num)),.slice p (zlen (qs.num)) c,.slice s (nlen (qs.den)) d]∧RN W (.slice p (zlen (qs.num)) c) (qs.num).natAbs∧RN W (.slice s (nlen (qs.den)) d) (qs.den),fun _ _ _ ⟨p,c,s,d,e,h0,h1⟩ hb=>⟨p,c,s,d,e,h0.below hb,h1.below hb⟩⟩,Rel.val (.pointer (some ⟨w.heap.size,6,none⟩)),Rel.val (.agg #[.bool (zneg xc.num),.slice p1c (zlen xc.num) c1c,.slice s1c (nlen xc.den) d1c]),Rel.val (.pointer (some ⟨w.heap.size+1,6,none⟩)),Rel.val (.agg #[.bool (zneg yc.num),.slice p2c (zlen yc.num) c2c,.slice s2c (nlen yc.den) d2c]),⟨fun v W=>∃ p c s d,v=.agg #[.bool (zneg (qc.num)),.slice p (zlen (qc.num)) c,.slice s (nlen (qc.den)) d]∧RN W (.slice p (zlen (qc.num)) c) (qc.num).natAbs∧RN W (.slice s (nlen (qc.den)) d) (qc.den),fun _ _ _ ⟨p,c,s,d,e,h0,h1⟩ hb=>⟨p,c,s,d,e,h0.below hb,h1.below hb⟩⟩,⟨fun v W=>∃ p c s d,v=.agg #[.bool (zneg (qd.num)),.slice p (zlen (qd.num)) c,.slice s (nlen (qd.den)) d]∧RN W (.slice p (zlen (qd.num)) c) (qd.num).natAbs∧RN W (.slice s (nlen (qd.den)) d) (qd.den),fun _ _ _ ⟨p,c,s,d,e,h0,h1⟩ hb=>⟨p,c,s,d,e,h0.below hb,h1.below hb⟩⟩]) (fun W=>Below W0.heap.size W0 W) (fun _ _=>True) (by kernel_rfl) (by kernel_rfl) (by kernel_rfl) trivial (Below.refl _ _).drew ?_ ?_
   · intro listed a W i hI hD hrd him
     have HI:=hid hI
     have HD:=hid hD
     have Hr:=hid hrd
     clear hI hrd hD
     have y2:a.tmps[2]? = some (.pointer (some ⟨w.heap.size,0,none⟩)):=HI.out.rest 2 (by decide)
     have y3:a.tmps[3]? = some (.pointer (some ⟨w.heap.size+1,0,none⟩)):=HI.out.rest 3 (by decide)
     have dK10:=(K1.out.below HI.out.world).cell (i:=0) rfl
     have dK11:=(K1.out.below HI.out.world).cell (i:=1) rfl
     have dK12:=(K1.out.below HI.out.world).cell (i:=2) rfl
     have dK20:=(K2.out.below HI.out.world).cell (i:=0) rfl
     have dK21:=(K2.out.below HI.out.world).cell (i:=1) rfl
     have dK22:=(K2.out.below HI.out.world).cell (i:=2) rfl
     have dK13:=(K1.out.below HI.out.world).cell (i:=3) rfl
     have dK14:=(K1.out.below HI.out.world).cell (i:=4) rfl
     have dK15:=(K1.out.below HI.out.world).cell (i:=5) rfl
     have dK23:=(K2.out.below HI.out.world).cell (i:=3) rfl
     have dK24:=(K2.out.below HI.out.world).cell (i:=4) rfl
     have dK25:=(K2.out.below HI.out.world).cell (i:=5) rfl
     have dK16:=(K1.out.below HI.out.world).cell (i:=6) rfl
     have dK17:=(K1.out.below HI.out.world).cell (i:=7) rfl
     have dK18:=(K1.out.below HI.out.world).cell (i:=8) rfl
     have dK26:=(K2.out.below HI.out.world).cell (i:=6) rfl
     have dK27:=(K2.out.below HI.out.world).cell (i:=7) rfl
     have dK28:=(K2.out.below HI.out.world).cell (i:=8) rfl
     have X0:RV _ listed a 0 5 (.pointer (some ⟨w.heap.size,0,none⟩)):=HI.out.rh
     have X2:RV _ listed a 2 7 (.pointer (some ⟨w.heap.size+1,0,none⟩)):=HI.out.rh
     have X1:RV _ listed a 1 6 (.agg #[.bool (zneg xa.num),.slice p1a (zlen xa.num) c1a,.slice s1a (nlen xa.den) d1a]):=HI.out.rh
     have X3:RV _ listed a 3 8 (.agg #[.bool (zneg ya.num),.slice p2a (zlen ya.num) c2a,.slice s2a (nlen ya.den) d2a]):=HI.out.rh
     have X5:RV _ listed a 5 10 (.pointer (some ⟨w.heap.size,3,none⟩)):=HI.out.rh
     have X7:RV _ listed a 7 12 (.pointer (some ⟨w.heap.size+1,3,none⟩)):=HI.out.rh
     have X6:RV _ listed a 6 11 (.agg #[.bool (zneg xb.num),.slice p1b (zlen xb.num) c1b,.slice s1b (nlen xb.den) d1b]):=HI.out.rh
     have X8:RV _ listed a 8 13 (.agg #[.bool (zneg yb.num),.slice p2b (zlen yb.num) c2b,.slice s2b (nlen yb.den) d2b]):=HI.out.rh
     have X11:RV _ listed a 11 16 (.pointer (some ⟨w.heap.size,6,none⟩)):=HI.out.rh
     have X13:RV _ listed a 13 18 (.pointer (some ⟨w.heap.size+1,6,none⟩)):=HI.out.rh
     have X12:RV _ listed a 12 17 (.agg #[.bool (zneg xc.num),.slice p1c (zlen xc.num) c1c,.slice s1c (nlen xc.den) d1c]):=HI.out.rh
     have X14:RV _ listed a 14 19 (.agg #[.bool (zneg yc.num),.slice p2c (zlen yc.num) c2c,.slice s2c (nlen yc.den) d2c]):=HI.out.rh
     match i,him,Hr with
     | 0,_,Hi =>
       refine stepH rfl fun K' hK=>?_
       go_simp
       exact hK.out _ _ ⟨HI.out.pv Hi.out rfl,trivial⟩
     | 1,_,Hi =>
       have x0:=X0.g Hi.out (by kernel_rfl)
       refine stepH rfl fun K' hK=>?_
       go_simp
       exact hK.out _ _ ⟨HI.out.pv Hi.out rfl,trivial⟩
     | 2,_,Hi =>
       refine stepH rfl fun K' hK=>?_
       go_simp
       exact hK.out _ _ ⟨HI.out.pv Hi.out rfl,trivial⟩
     | 3,_,Hi =>
       have x2:=X2.g Hi.out (by kernel_rfl)
       refine stepH rfl fun K' hK=>?_
       go_simp
       exact hK.out _ _ ⟨HI.out.pv Hi.out rfl,trivial⟩
     | 4,_,Hi =>
       have x1:=X1.g Hi.out (by kernel_rfl)
       have x3:=X3.g Hi.out (by kernel_rfl)
       refine stepH rfl fun K' hK=>?_
       go_simp
       with_reducible refine(C1.out _ _ _ _ _ _ _ _ _ (R1a.out.below HI.out.world) (T1a.out.below HI.out.world) (R2a.out.below HI.out.world) (T2a.out.below HI.out.world)).mono ?_
       rintro e W' ⟨pw1_4,cw1_4,sw1_4,dw1_4,rfl,rrw1_4,rrw1_4_1,hb⟩
       exact hK.out _ _ ⟨HI.out.pc Hi.out hb ⟨pw1_4,cw1_4,sw1_4,dw1_4,rfl,rrw1_4,rrw1_4_1⟩,trivial⟩
     | 5,_,Hi =>
       refine stepH rfl fun K' hK=>?_
       go_simp
       exact hK.out _ _ ⟨HI.out.pv Hi.out rfl,trivial⟩
     | 6,_,Hi =>
       have x5:=X5.g Hi.out (by kernel_rfl)
       refine stepH rfl fun K' hK=>?_
       go_simp
       exact hK.out _ _ ⟨HI.out.pv Hi.out rfl,trivial⟩
     | 7,_,Hi =>
       refine stepH rfl fun K' hK=>?_
       go_simp
       exact hK.out _ _ ⟨HI.out.pv Hi.out rfl,trivial⟩
     | 8,_,Hi =>
       have x7:=X7.g Hi.out (by kernel_rfl)
       refine stepH rfl fun K' hK=>?_
       go_simp
       exact hK.out _ _ ⟨HI.out.pv Hi.out rfl,trivial⟩
     | 9,_,Hi =>
       have x6:=X6.g Hi.out (by kernel_rfl)
       have x8:=X8.g Hi.out (by kernel_rfl)
       refine stepH rfl fun K' hK=>?_
       go_simp
       with_reducible refine(C2.out _ _ _ _ _ _ _ _ _ (R1b.out.below HI.out.world) (T1b.out.below HI.out.world) (R2b.out.below HI.out.world) (T2b.out.below HI.out.world)).mono ?_
       rintro e W' ⟨pw1_9,cw1_9,sw1_9,dw1_9,rfl,rrw1_9,rrw1_9_1,hb⟩
       exact hK.out _ _ ⟨HI.out.pc Hi.out hb ⟨pw1_9,cw1_9,sw1_9,dw1_9,rfl,rrw1_9,rrw1_9_1⟩,trivial⟩
     | 10,_,Hi =>
       obtain⟨v',x4,pw1_4,cw1_4,sw1_4,dw1_4,e,rrw1_4,rrw1_4_1⟩:=HI.out.at (i:=4) Hi.out (by kernel_rfl) (by decide)
       obtain rfl:=e
       have x4:a.tmps[9]? = some (.agg #[.bool (zneg (qa.num)),.slice pw1_4 (zlen (qa.num)) cw1_4,.slice sw1_4 (nlen (qa.den)) dw1_4]):=x4
       have RRW1_4:=hid rrw1_4
       clear rrw1_4
       have RRW1_4_1:=hid rrw1_4_1
       clear rrw1_4_1
       obtain⟨v',x9,pw1_9,cw1_9,sw1_9,dw1_9,e,rrw1_9,rrw1_9_1⟩:=HI.out.at (i:=9) Hi.out (by kernel_rfl) (by decide)
       obtain rfl:=e
       have x9:a.tmps[14]? = some (.agg #[.bool (zneg (qb.num)),.slice pw1_9 (zlen (qb.num)) cw1_9,.slice sw1_9 (nlen (qb.den)) dw1_9]):=x9
       have RRW1_9:=hid rrw1_9
       clear rrw1_9
       have RRW1_9_1:=hid rrw1_9_1
       clear rrw1_9_1
       refine stepH rfl fun K' hK=>?_
       go_simp
       with_reducible refine(C3.out _ _ _ _ _ _ _ _ _ RRW1_4.out RRW1_4_1.out RRW1_9.out RRW1_9_1.out).mono ?_
       rintro e W' ⟨pw1_10,cw1_10,sw1_10,dw1_10,rfl,rrw1_10,rrw1_10_1,hb⟩
       exact hK.out _ _ ⟨HI.out.pc Hi.out hb ⟨pw1_10,cw1_10,sw1_10,dw1_10,rfl,rrw1_10,rrw1_10_1⟩,trivial⟩
     | 11,_,Hi =>
       refine stepH rfl fun K' hK=>?_
       go_simp
       exact hK.out _ _ ⟨HI.out.pv Hi.out rfl,trivial⟩
     | 12,_,Hi =>
       have x11:=X11.g Hi.out (by kernel_rfl)
       refine stepH rfl fun K' hK=>?_
       go_simp
       exact hK.out _ _ ⟨HI.out.pv Hi.out rfl,trivial⟩
     | 13,_,Hi =>
       refine stepH rfl fun K' hK=>?_
       go_simp
       exact hK.out _ _ ⟨HI.out.pv Hi.out rfl,trivial⟩
     | 14,_,Hi =>
       have x13:=X13.g Hi.out (by kernel_rfl)
       refine stepH rfl fun K' hK=>?_
       go_simp
       exact hK.out _ _ ⟨HI.out.pv Hi.out rfl,trivial⟩
     | 15,_,Hi =>
       have x12:=X12.g Hi.out (by kernel_rfl)
       have x14:=X14.g Hi.out (by kernel_rfl)
       refine stepH rfl fun K' hK=>?_
       go_simp
       with_reducible refine(C4.out _ _ _ _ _ _ _ _ _ (R1c.out.below HI.out.world) (T1c.out.below HI.out.world) (R2c.out.below HI.out.world) (T2c.out.below HI.out.world)).mono ?_
       rintro e W' ⟨pw1_15,cw1_15,sw1_15,dw1_15,rfl,rrw1_15,rrw1_15_1,hb⟩
       exact hK.out _ _ ⟨HI.out.pc Hi.out hb ⟨pw1_15,cw1_15,sw1_15,dw1_15,rfl,rrw1_15,rrw1_15_1⟩,trivial⟩
     | 16,_,Hi =>
       obtain⟨v',x10,pw1_10,cw1_10,sw1_10,dw1_10,e,rrw1_10,rrw1_10_1⟩:=HI.out.at (i:=10) Hi.out (by kernel_rfl) (by decide)
       obtain rfl:=e
       have x10:a.tmps[15]? = some (.agg #[.bool (zneg (qs.num)),.slice pw1_10 (zlen (qs.num)) cw1_10,.slice sw1_10 (nlen (qs.den)) dw1_10]):=x10
       have RRW1_10:=hid rrw1_10
       clear rrw1_10
       have RRW1_10_1:=hid rrw1_10_1
       clear rrw1_10_1
       obtain⟨v',x15,pw1_15,cw1_15,sw1_15,dw1_15,e,rrw1_15,rrw1_15_1⟩:=HI.out.at (i:=15) Hi.out (by kernel_rfl) (by decide)
       obtain rfl:=e
       have x15:a.tmps[20]? = some (.agg #[.bool (zneg (qc.num)),.slice pw1_15 (zlen (qc.num)) cw1_15,.slice sw1_15 (nlen (qc.den)) dw1_15]):=x15
       have RRW1_15:=hid rrw1_15
       clear rrw1_15
       have RRW1_15_1:=hid rrw1_15_1
       clear rrw1_15_1
       refine stepH rfl fun K' hK=>?_
       go_simp
       with_reducible refine(C5.out _ _ _ _ _ _ _ _ _ RRW1_10.out RRW1_10_1.out RRW1_15.out RRW1_15_1.out).mono ?_
       rintro e W' ⟨pw1_16,cw1_16,sw1_16,dw1_16,rfl,rrw1_16,rrw1_16_1,hb⟩
       exact hK.out _ _ ⟨HI.out.pc Hi.out hb ⟨pw1_16,cw1_16,sw1_16,dw1_16,rfl,rrw1_16,rrw1_16_1⟩,trivial⟩
     | n+17,h,_=>exact absurd h (by omega)
   · intro listed a W hI hD hall
     obtain⟨v',x4,pw1_4,cw1_4,sw1_4,dw1_4,e,rrw1_4,rrw1_4_1⟩:=hI.slots 4 (by decide) (hall 4 (by decide))
     obtain rfl:=e
     have RRW1_4:=hid rrw1_4
     clear rrw1_4
     have RRW1_4_1:=hid rrw1_4_1
     clear rrw1_4_1
     obtain⟨v',x9,pw1_9,cw1_9,sw1_9,dw1_9,e,rrw1_9,rrw1_9_1⟩:=hI.slots 9 (by decide) (hall 9 (by decide))
     obtain rfl:=e
     have RRW1_9:=hid rrw1_9
     clear rrw1_9
     have RRW1_9_1:=hid rrw1_9_1
     clear rrw1_9_1
     obtain⟨v',x10,pw1_10,cw1_10,sw1_10,dw1_10,e,rrw1_10,rrw1_10_1⟩:=hI.slots 10 (by decide) (hall 10 (by decide))
     obtain rfl:=e
     have RRW1_10:=hid rrw1_10
     clear rrw1_10
     have RRW1_10_1:=hid rrw1_10_1
     clear rrw1_10_1
     obtain⟨v',x15,pw1_15,cw1_15,sw1_15,dw1_15,e,rrw1_15,rrw1_15_1⟩:=hI.slots 15 (by decide) (hall 15 (by decide))
     obtain rfl:=e
     have RRW1_15:=hid rrw1_15
     clear rrw1_15
     have RRW1_15_1:=hid rrw1_15_1
     clear rrw1_15_1
     obtain⟨v',x16,pw1_16,cw1_16,sw1_16,dw1_16,e,rrw1_16,rrw1_16_1⟩:=hI.slots 16 (by decide) (hall 16 (by decide))
     obtain rfl:=e
     have RRW1_16:=hid rrw1_16
     clear rrw1_16
     have RRW1_16_1:=hid rrw1_16_1
     clear rrw1_16_1
     have x16:a.tmps[21]? = some (.agg #[.bool (zneg (qd.num)),.slice pw1_16 (zlen (qd.num)) cw1_16,.slice sw1_16 (nlen (qd.den)) dw1_16]):=x16
     have HBW:=hid hI.world
     have HI:=hid hI
     have HA:=hid hall
     clear hI hall
     have K3:=hid (K3.out.below HBW.out)
     have HBX:=hid (HB0.out.trans (HBW.out.mono HB0.out.size))
     have RA:=RRW1_4
     have TA:=RRW1_4_1
     have RB:=RRW1_9
     have TB:=RRW1_9_1
     have RS:=RRW1_10
     have TS:=RRW1_10_1
     have RC:=RRW1_15
     have TC:=RRW1_15_1
     have RD:=RRW1_16
     have TD:=RRW1_16_1
     have y4:a.tmps[4]? = some (.pointer (some ⟨w.heap.size+1+1,0,none⟩)):=HI.out.rest 4 (by decide)
     have dK30:=K3.out.cell (i:=0) rfl
     have fK30:=K3.out.frozen (i:=0)
     have dK31:=K3.out.cell (i:=1) rfl
     have fK31:=K3.out.frozen (i:=1)
     have dK32:=K3.out.cell (i:=2) rfl
     have fK32:=K3.out.frozen (i:=2)
     refine tail_succ (t:=0) ?_
     refine stepH rfl fun K' hK=>?_
     go_simp
     refine hK.out _ _ ?_
     clear hK
     refine tail_nil ?_
     have s0:∀ {v':Value} {n':Nat},RN W v' n'→RN (storeAll W (w.heap.size+1+1) 0 [.bool (zneg (qd.num)),.slice pw1_16 (zlen (qd.num)) cw1_16,.slice sw1_16 (nlen (qd.den)) dw1_16]) v' n':=fun h'=>store_rn _ h' K3.out (by simp[noInt]) (by simp[plainV])
     exact⟨rfl,pw1_4,cw1_4,sw1_4,dw1_4,pw1_9,cw1_9,sw1_9,dw1_9,pw1_10,cw1_10,sw1_10,dw1_10,pw1_15,cw1_15,sw1_15,dw1_15,pw1_16,cw1_16,sw1_16,dw1_16,(HI.out.finx ⟨HI.out.sx HA.out 0,HI.out.sx HA.out 1,HI.out.sx HA.out 2,HI.out.sx HA.out 3,x4,HI.out.sx HA.out 5,HI.out.sx HA.out 6,HI.out.sx HA.out 7,HI.out.sx HA.out 8,x9,x10,HI.out.sx HA.out 11,HI.out.sx HA.out 12,HI.out.sx HA.out 13,HI.out.sx HA.out 14,x15,x16,trivial⟩ rfl),(store_below (l:=[.bool (zneg (qd.num)),.slice pw1_16 (zlen (qd.num)) cw1_16,.slice sw1_16 (nlen (qd.den)) dw1_16]) (i:=0) (by omega) HBX.out),(store_blk (l:=[.bool (zneg (qd.num)),.slice pw1_16 (zlen (qd.num)) cw1_16,.slice sw1_16 (nlen (qd.den)) dw1_16]) (i:=0) K3.out),(s0 RD.out),(s0 TD.out)⟩
 rintro a' W1 ⟨pw1_4,cw1_4,sw1_4,dw1_4,pw1_9,cw1_9,sw1_9,dw1_9,pw1_10,cw1_10,sw1_10,dw1_10,pw1_15,cw1_15,sw1_15,dw1_15,pw1_16,cw1_16,sw1_16,dw1_16,rfl,z0,z1,z2,z3⟩
 have HB1:=hid z0
 have K3:=hid z1
 have RD:=hid z2
 have TD:=hid z3
 clear z0 z1 z2 z3
 simp only[putL,List.setIfInBounds_toArray,List.set_cons_zero,List.set_cons_succ]
 go_wp2
 have dK30:=K3.out.cell (i:=0) rfl
 have dK31:=K3.out.cell (i:=1) rfl
 have dK32:=K3.out.cell (i:=2) rfl
 exact bodyPost_ret (v:=.agg #[.bool (zneg (qd.num)),.slice pw1_16 (zlen (qd.num)) cw1_16,.slice sw1_16 (nlen (qd.den)) dw1_16]) (by simp[results,Tryz.results41,go_sem,dK30,dK31,dK32]) rfl ⟨_,_,_,_,rfl,RD.out,TD.out,HB1.out⟩
end Go.Proofs.YthjmjlfnpnbonaaGreatDoor
