/- garboardref03: Int, Neg, Inv, Sign, Mul, Add, Sub, Div, Cmp, To: walks over the contracts of what they call. -/
import Derived.Test.YtmigpoiajkihhaaGreatDoorMz43q
set_option maxRecDepth 100000
set_option maxHeartbeats 20000000
open Go.Lib (hid)
namespace Go.Proofs.YtmigpoiajkihhaaGreatDoor
open Go.RowKit Go.Gb
theorem qSub_raw (n1 n2 m n:Int)(en1 en2 f dn:Nat)(p1:Option Addr)(c1:Nat)(s1:Option Addr)(d1:Nat)(p2:Option Addr)(c2:Nat)(s2:Option Addr)(d2:Nat)(w:World)(h1:∀ p1 c1 s1 d1 W,RN W (.slice p1 (zlen n2) c1) n2.natAbs→RN W (.slice s1 (nlen en2) d1) en2→CF 75 #[.agg #[.bool (zneg n2),.slice p1 (zlen n2) c1,.slice s1 (nlen en2) d1]] W m f)(h2:∀ p1 c1 s1 d1 p2 c2 s2 d2 W,RN W (.slice p1 (zlen n1) c1) n1.natAbs→RN W (.slice s1 (nlen en1) d1) en1→RN W (.slice p2 (zlen m) c2) m.natAbs→RN W (.slice s2 (nlen f) d2) f→CF 50 #[.agg #[.bool (zneg n1),.slice p1 (zlen n1) c1,.slice s1 (nlen en1) d1],.agg #[.bool (zneg m),.slice p2 (zlen m) c2,.slice s2 (nlen f) d2]] W n dn)(r1:RN w (.slice p1 (zlen n1) c1) n1.natAbs)(t1:RN w (.slice s1 (nlen en1) d1) en1)(r2:RN w (.slice p2 (zlen n2) c2) n2.natAbs)(t2:RN w (.slice s2 (nlen en2) d2) en2) :
 CF 51 #[.agg #[.bool (zneg n1),.slice p1 (zlen n1) c1,.slice s1 (nlen en1) d1],.agg #[.bool (zneg n2),.slice p2 (zlen n2) c2,.slice s2 (nlen en2) d2]] w n dn:=by
 have C1:=hid h1
 have C2:=hid h2
 have R1:=hid r1
 have T1:=hid t1
 have R2:=hid r2
 have T2:=hid t2
 clear h1 h2 r1 t1 r2 t2
 go_enter Tryz.func51,Tryz.ntmps51
 go_upto_region 1 with fail
 refine wp_boxes w [(#[.bool (zneg n1),.slice p1 (zlen n1) c1,.slice s1 (nlen en1) d1],55),(#[.bool (zneg n2),.slice p2 (zlen n2) c2,.slice s2 (nlen en2) d2],55),(#[.bool false,.slice none 0 0,.slice none 0 0],55)] rfl ?_
 rintro W0 ⟨k1,k2,k3,hb⟩
 have HB0:=hid (show Below w.heap.size w W0 from hb)
 have R1:=hid (R1.out.below HB0.out)
 have T1:=hid (T1.out.below HB0.out)
 have R2:=hid (R2.out.below HB0.out)
 have T2:=hid (T2.out.below HB0.out)
 have K1:=hid k1
 have K2:=hid k2
 have K3:=hid k3
 clear k1 k2 k3 hb
 go_wp2_with fail
 refine wp_region_post (fun a0 a' V=>∃ pw1_2 cw1_2 sw1_2 dw1_2 pw1_3 cw1_3 sw1_3 dw1_3,a'=⟨putL [(5,.agg #[.bool (zneg n1),.slice p1 (zlen n1) c1,.slice s1 (nlen en1) d1]),(6,.agg #[.bool (zneg n2),.slice p2 (zlen n2) c2,.slice s2 (nlen en2) d2]),(7,.agg #[.bool (zneg (m)),.slice pw1_2 (zlen (m)) cw1_2,.slice sw1_2 (nlen (f)) dw1_2]),(8,.agg #[.bool (zneg (n)),.slice pw1_3 (zlen (n)) cw1_3,.slice sw1_3 (nlen (dn)) dw1_3])] a0.tmps,a0.defers⟩∧Below w.heap.size w V∧SBk V (w.heap.size+1+1) #[.bool (zneg (n)),.slice pw1_3 (zlen (n)) cw1_3,.slice sw1_3 (nlen (dn)) dw1_3] 55∧RN V (.slice pw1_3 (zlen (n)) cw1_3) (n).natAbs∧RN V (.slice sw1_3 (nlen (dn)) dw1_3) (dn)) ?_ ?_
 · refine wp_region_tail_d (by kernel_rfl) 4 1 (fun i=>[5,6,7,8].getD i 0) (RelR [Rel.val (.agg #[.bool (zneg n1),.slice p1 (zlen n1) c1,.slice s1 (nlen en1) d1]),Rel.val (.agg #[.bool (zneg n2),.slice p2 (zlen n2) c2,.slice s2 (nlen en2) d2]),⟨fun v W=>∃ p c s d,v=.agg #[.bool (zneg (m)),.slice p (zlen (m)) c,.slice s (nlen (f)) d]∧RN W (.slice p (zlen (m)) c) (m).natAbs∧RN W (.slice s (nlen (f)) d) (f),fun _ _ _ ⟨p,c,s,d,e,h0,h1⟩ hb=>⟨p,c,s,d,e,h0.below hb,h1.below hb⟩⟩,⟨fun v W=>∃ p c s d,v=.agg #[.bool (zneg (n)),.slice p (zlen (n)) c,.slice s (nlen (dn)) d]∧RN W (.slice p (zlen (n)) c) (n).natAbs∧RN W (.slice s (nlen (dn)) d) (dn),fun _ _ _ ⟨p,c,s,d,e,h0,h1⟩ hb=>⟨p,c,s,d,e,h0.below hb,h1.below hb⟩⟩]) (fun W=>Below W0.heap.size W0 W) (fun _ _=>True) (by kernel_rfl) (by kernel_rfl) (by kernel_rfl) trivial (Below.refl _ _).drew ?_ ?_
   · intro listed a W i hI hD hrd him
     have HI:=hid hI
     have HD:=hid hD
     have Hr:=hid hrd
     clear hI hrd hD
     have y2:a.tmps[2]? = some (.pointer (some ⟨w.heap.size,0,none⟩)):=HI.out.rest 2 (by decide)
     have y3:a.tmps[3]? = some (.pointer (some ⟨w.heap.size+1,0,none⟩)):=HI.out.rest 3 (by decide)
     have dK10:=(K1.out.below HI.out.world).cell (i:=0) rfl
     have dK11:=(K1.out.below HI.out.world).cell (i:=1) rfl
     have dK12:=(K1.out.below HI.out.world).cell (i:=2) rfl
     have dK20:=(K2.out.below HI.out.world).cell (i:=0) rfl
     have dK21:=(K2.out.below HI.out.world).cell (i:=1) rfl
     have dK22:=(K2.out.below HI.out.world).cell (i:=2) rfl
     have X1:RV _ listed a 1 6 (.agg #[.bool (zneg n2),.slice p2 (zlen n2) c2,.slice s2 (nlen en2) d2]):=HI.out.rh
     have X0:RV _ listed a 0 5 (.agg #[.bool (zneg n1),.slice p1 (zlen n1) c1,.slice s1 (nlen en1) d1]):=HI.out.rh
     match i,him,Hr with
     | 0,_,Hi =>
       refine stepH rfl fun K' hK=>?_
       go_simp
       exact hK.out _ _ ⟨HI.out.pv Hi.out rfl,trivial⟩
     | 1,_,Hi =>
       refine stepH rfl fun K' hK=>?_
       go_simp
       exact hK.out _ _ ⟨HI.out.pv Hi.out rfl,trivial⟩
     | 2,_,Hi =>
       have x1:=X1.g Hi.out (by kernel_rfl)
       refine stepH rfl fun K' hK=>?_
       go_simp
       with_reducible refine(C1.out _ _ _ _ _ (R2.out.below HI.out.world) (T2.out.below HI.out.world)).mono ?_
       rintro e W' ⟨pw1_2,cw1_2,sw1_2,dw1_2,rfl,rrw1_2,rrw1_2_1,hb⟩
       exact hK.out _ _ ⟨HI.out.pc Hi.out hb ⟨pw1_2,cw1_2,sw1_2,dw1_2,rfl,rrw1_2,rrw1_2_1⟩,trivial⟩
     | 3,_,Hi =>
       have x0:=X0.g Hi.out (by kernel_rfl)
       obtain⟨v',x2,pw1_2,cw1_2,sw1_2,dw1_2,e,rrw1_2,rrw1_2_1⟩:=HI.out.at (i:=2) Hi.out (by kernel_rfl) (by decide)
       obtain rfl:=e
       have x2:a.tmps[7]? = some (.agg #[.bool (zneg (m)),.slice pw1_2 (zlen (m)) cw1_2,.slice sw1_2 (nlen (f)) dw1_2]):=x2
       have RRW1_2:=hid rrw1_2
       clear rrw1_2
       have RRW1_2_1:=hid rrw1_2_1
       clear rrw1_2_1
       refine stepH rfl fun K' hK=>?_
       go_simp
       with_reducible refine(C2.out _ _ _ _ _ _ _ _ _ (R1.out.below HI.out.world) (T1.out.below HI.out.world) RRW1_2.out RRW1_2_1.out).mono ?_
       rintro e W' ⟨pw1_3,cw1_3,sw1_3,dw1_3,rfl,rrw1_3,rrw1_3_1,hb⟩
       exact hK.out _ _ ⟨HI.out.pc Hi.out hb ⟨pw1_3,cw1_3,sw1_3,dw1_3,rfl,rrw1_3,rrw1_3_1⟩,trivial⟩
     | n+4,h,_=>exact absurd h (by omega)
   · intro listed a W hI hD hall
     obtain⟨v',x2,pw1_2,cw1_2,sw1_2,dw1_2,e,rrw1_2,rrw1_2_1⟩:=hI.slots 2 (by decide) (hall 2 (by decide))
     obtain rfl:=e
     have RRW1_2:=hid rrw1_2
     clear rrw1_2
     have RRW1_2_1:=hid rrw1_2_1
     clear rrw1_2_1
     obtain⟨v',x3,pw1_3,cw1_3,sw1_3,dw1_3,e,rrw1_3,rrw1_3_1⟩:=hI.slots 3 (by decide) (hall 3 (by decide))
     obtain rfl:=e
     have RRW1_3:=hid rrw1_3
     clear rrw1_3
     have RRW1_3_1:=hid rrw1_3_1
     clear rrw1_3_1
     have x3:a.tmps[8]? = some (.agg #[.bool (zneg (n)),.slice pw1_3 (zlen (n)) cw1_3,.slice sw1_3 (nlen (dn)) dw1_3]):=x3
     have HBW:=hid hI.world
     have HI:=hid hI
     have HA:=hid hall
     clear hI hall
     have K3:=hid (K3.out.below HBW.out)
     have HBX:=hid (HB0.out.trans (HBW.out.mono HB0.out.size))
     have RM:=RRW1_2
     have TM:=RRW1_2_1
     have RQ:=RRW1_3
     have TQ:=RRW1_3_1
     have y4:a.tmps[4]? = some (.pointer (some ⟨w.heap.size+1+1,0,none⟩)):=HI.out.rest 4 (by decide)
     have dK30:=K3.out.cell (i:=0) rfl
     have fK30:=K3.out.frozen (i:=0)
     have dK31:=K3.out.cell (i:=1) rfl
     have fK31:=K3.out.frozen (i:=1)
     have dK32:=K3.out.cell (i:=2) rfl
     have fK32:=K3.out.frozen (i:=2)
     refine tail_succ (t:=0) ?_
     refine stepH rfl fun K' hK=>?_
     go_simp
     refine hK.out _ _ ?_
     clear hK
     refine tail_nil ?_
     have s0:∀ {v':Value} {n':Nat},RN W v' n'→RN (storeAll W (w.heap.size+1+1) 0 [.bool (zneg (n)),.slice pw1_3 (zlen (n)) cw1_3,.slice sw1_3 (nlen (dn)) dw1_3]) v' n':=fun h'=>store_rn _ h' K3.out (by simp[noInt]) (by simp[plainV])
     exact⟨rfl,pw1_2,cw1_2,sw1_2,dw1_2,pw1_3,cw1_3,sw1_3,dw1_3,(HI.out.finx ⟨HI.out.sx HA.out 0,HI.out.sx HA.out 1,x2,x3,trivial⟩ rfl),(store_below (l:=[.bool (zneg (n)),.slice pw1_3 (zlen (n)) cw1_3,.slice sw1_3 (nlen (dn)) dw1_3]) (i:=0) (by omega) HBX.out),(store_blk (l:=[.bool (zneg (n)),.slice pw1_3 (zlen (n)) cw1_3,.slice sw1_3 (nlen (dn)) dw1_3]) (i:=0) K3.out),(s0 RQ.out),(s0 TQ.out)⟩
 rintro a' W1 ⟨pw1_2,cw1_2,sw1_2,dw1_2,pw1_3,cw1_3,sw1_3,dw1_3,rfl,z0,z1,z2,z3⟩
 have HB1:=hid z0
 have K3:=hid z1
 have RQ:=hid z2
 have TQ:=hid z3
 clear z0 z1 z2 z3
 simp only[putL,List.setIfInBounds_toArray,List.set_cons_zero,List.set_cons_succ]
 go_wp2
 have dK30:=K3.out.cell (i:=0) rfl
 have dK31:=K3.out.cell (i:=1) rfl
 have dK32:=K3.out.cell (i:=2) rfl
 exact bodyPost_ret (v:=.agg #[.bool (zneg (n)),.slice pw1_3 (zlen (n)) cw1_3,.slice sw1_3 (nlen (dn)) dw1_3]) (by simp[results,Tryz.results51,go_sem,dK30,dK31,dK32]) rfl ⟨_,_,_,_,rfl,RQ.out,TQ.out,HB1.out⟩
theorem qDiv_raw (n1 n2 m n:Int)(en1 en2 f dn:Nat)(p1:Option Addr)(c1:Nat)(s1:Option Addr)(d1:Nat)(p2:Option Addr)(c2:Nat)(s2:Option Addr)(d2:Nat)(w:World)(h1:∀ p1 c1 s1 d1 W,RN W (.slice p1 (zlen n2) c1) n2.natAbs→RN W (.slice s1 (nlen en2) d1) en2→CF 102 #[.agg #[.bool (zneg n2),.slice p1 (zlen n2) c1,.slice s1 (nlen en2) d1]] W m f)(h2:∀ p1 c1 s1 d1 p2 c2 s2 d2 W,RN W (.slice p1 (zlen n1) c1) n1.natAbs→RN W (.slice s1 (nlen en1) d1) en1→RN W (.slice p2 (zlen m) c2) m.natAbs→RN W (.slice s2 (nlen f) d2) f→CF 52 #[.agg #[.bool (zneg n1),.slice p1 (zlen n1) c1,.slice s1 (nlen en1) d1],.agg #[.bool (zneg m),.slice p2 (zlen m) c2,.slice s2 (nlen f) d2]] W n dn)(r1:RN w (.slice p1 (zlen n1) c1) n1.natAbs)(t1:RN w (.slice s1 (nlen en1) d1) en1)(r2:RN w (.slice p2 (zlen n2) c2) n2.natAbs)(t2:RN w (.slice s2 (nlen en2) d2) en2) :
 CF 54 #[.agg #[.bool (zneg n1),.slice p1 (zlen n1) c1,.slice s1 (nlen en1) d1],.agg #[.bool (zneg n2),.slice p2 (zlen n2) c2,.slice s2 (nlen en2) d2]] w n dn:=by
 have C1:=hid h1
 have C2:=hid h2
 have R1:=hid r1
 have T1:=hid t1
 have R2:=hid r2
 have T2:=hid t2
 clear h1 h2 r1 t1 r2 t2
 go_enter Tryz.func54,Tryz.ntmps54
 go_upto_region 1 with fail
 refine wp_boxes w [(#[.bool (zneg n1),.slice p1 (zlen n1) c1,.slice s1 (nlen en1) d1],55),(#[.bool (zneg n2),.slice p2 (zlen n2) c2,.slice s2 (nlen en2) d2],55),(#[.bool false,.slice none 0 0,.slice none 0 0],55)] rfl ?_
 rintro W0 ⟨k1,k2,k3,hb⟩
 have HB0:=hid (show Below w.heap.size w W0 from hb)
 have R1:=hid (R1.out.below HB0.out)
 have T1:=hid (T1.out.below HB0.out)
 have R2:=hid (R2.out.below HB0.out)
 have T2:=hid (T2.out.below HB0.out)
 have K1:=hid k1
 have K2:=hid k2
 have K3:=hid k3
 clear k1 k2 k3 hb
 go_wp2_with fail
 refine wp_region_post (fun a0 a' V=>∃ pw1_2 cw1_2 sw1_2 dw1_2 pw1_3 cw1_3 sw1_3 dw1_3,a'=⟨putL [(5,.agg #[.bool (zneg n1),.slice p1 (zlen n1) c1,.slice s1 (nlen en1) d1]),(6,.agg #[.bool (zneg n2),.slice p2 (zlen n2) c2,.slice s2 (nlen en2) d2]),(7,.agg #[.bool (zneg (m)),.slice pw1_2 (zlen (m)) cw1_2,.slice sw1_2 (nlen (f)) dw1_2]),(8,.agg #[.bool (zneg (n)),.slice pw1_3 (zlen (n)) cw1_3,.slice sw1_3 (nlen (dn)) dw1_3])] a0.tmps,a0.defers⟩∧Below w.heap.size w V∧SBk V (w.heap.size+1+1) #[.bool (zneg (n)),.slice pw1_3 (zlen (n)) cw1_3,.slice sw1_3 (nlen (dn)) dw1_3] 55∧RN V (.slice pw1_3 (zlen (n)) cw1_3) (n).natAbs∧RN V (.slice sw1_3 (nlen (dn)) dw1_3) (dn)) ?_ ?_
 · refine wp_region_tail_d (by kernel_rfl) 4 1 (fun i=>[5,6,7,8].getD i 0) (RelR [Rel.val (.agg #[.bool (zneg n1),.slice p1 (zlen n1) c1,.slice s1 (nlen en1) d1]),Rel.val (.agg #[.bool (zneg n2),.slice p2 (zlen n2) c2,.slice s2 (nlen en2) d2]),⟨fun v W=>∃ p c s d,v=.agg #[.bool (zneg (m)),.slice p (zlen (m)) c,.slice s (nlen (f)) d]∧RN W (.slice p (zlen (m)) c) (m).natAbs∧RN W (.slice s (nlen (f)) d) (f),fun _ _ _ ⟨p,c,s,d,e,h0,h1⟩ hb=>⟨p,c,s,d,e,h0.below hb,h1.below hb⟩⟩,⟨fun v W=>∃ p c s d,v=.agg #[.bool (zneg (n)),.slice p (zlen (n)) c,.slice s (nlen (dn)) d]∧RN W (.slice p (zlen (n)) c) (n).natAbs∧RN W (.slice s (nlen (dn)) d) (dn),fun _ _ _ ⟨p,c,s,d,e,h0,h1⟩ hb=>⟨p,c,s,d,e,h0.below hb,h1.below hb⟩⟩]) (fun W=>Below W0.heap.size W0 W) (fun _ _=>True) (by kernel_rfl) (by kernel_rfl) (by kernel_rfl) trivial (Below.refl _ _).drew ?_ ?_
   · intro listed a W i hI hD hrd him
     have HI:=hid hI
     have HD:=hid hD
     have Hr:=hid hrd
     clear hI hrd hD
     have y2:a.tmps[2]? = some (.pointer (some ⟨w.heap.size,0,none⟩)):=HI.out.rest 2 (by decide)
     have y3:a.tmps[3]? = some (.pointer (some ⟨w.heap.size+1,0,none⟩)):=HI.out.rest 3 (by decide)
     have dK10:=(K1.out.below HI.out.world).cell (i:=0) rfl
     have dK11:=(K1.out.below HI.out.world).cell (i:=1) rfl
     have dK12:=(K1.out.below HI.out.world).cell (i:=2) rfl
     have dK20:=(K2.out.below HI.out.world).cell (i:=0) rfl
     have dK21:=(K2.out.below HI.out.world).cell (i:=1) rfl
     have dK22:=(K2.out.below HI.out.world).cell (i:=2) rfl
     have X1:RV _ listed a 1 6 (.agg #[.bool (zneg n2),.slice p2 (zlen n2) c2,.slice s2 (nlen en2) d2]):=HI.out.rh
     have X0:RV _ listed a 0 5 (.agg #[.bool (zneg n1),.slice p1 (zlen n1) c1,.slice s1 (nlen en1) d1]):=HI.out.rh
     match i,him,Hr with
     | 0,_,Hi =>
       refine stepH rfl fun K' hK=>?_
       go_simp
       exact hK.out _ _ ⟨HI.out.pv Hi.out rfl,trivial⟩
     | 1,_,Hi =>
       refine stepH rfl fun K' hK=>?_
       go_simp
       exact hK.out _ _ ⟨HI.out.pv Hi.out rfl,trivial⟩
     | 2,_,Hi =>
       have x1:=X1.g Hi.out (by kernel_rfl)
       refine stepH rfl fun K' hK=>?_
       go_simp
       with_reducible refine(C1.out _ _ _ _ _ (R2.out.below HI.out.world) (T2.out.below HI.out.world)).mono ?_
       rintro e W' ⟨pw1_2,cw1_2,sw1_2,dw1_2,rfl,rrw1_2,rrw1_2_1,hb⟩
       exact hK.out _ _ ⟨HI.out.pc Hi.out hb ⟨pw1_2,cw1_2,sw1_2,dw1_2,rfl,rrw1_2,rrw1_2_1⟩,trivial⟩
     | 3,_,Hi =>
       have x0:=X0.g Hi.out (by kernel_rfl)
       obtain⟨v',x2,pw1_2,cw1_2,sw1_2,dw1_2,e,rrw1_2,rrw1_2_1⟩:=HI.out.at (i:=2) Hi.out (by kernel_rfl) (by decide)
       obtain rfl:=e
       have x2:a.tmps[7]? = some (.agg #[.bool (zneg (m)),.slice pw1_2 (zlen (m)) cw1_2,.slice sw1_2 (nlen (f)) dw1_2]):=x2
       have RRW1_2:=hid rrw1_2
       clear rrw1_2
       have RRW1_2_1:=hid rrw1_2_1
       clear rrw1_2_1
       refine stepH rfl fun K' hK=>?_
       go_simp
       with_reducible refine(C2.out _ _ _ _ _ _ _ _ _ (R1.out.below HI.out.world) (T1.out.below HI.out.world) RRW1_2.out RRW1_2_1.out).mono ?_
       rintro e W' ⟨pw1_3,cw1_3,sw1_3,dw1_3,rfl,rrw1_3,rrw1_3_1,hb⟩
       exact hK.out _ _ ⟨HI.out.pc Hi.out hb ⟨pw1_3,cw1_3,sw1_3,dw1_3,rfl,rrw1_3,rrw1_3_1⟩,trivial⟩
     | n+4,h,_=>exact absurd h (by omega)
   · intro listed a W hI hD hall
     obtain⟨v',x2,pw1_2,cw1_2,sw1_2,dw1_2,e,rrw1_2,rrw1_2_1⟩:=hI.slots 2 (by decide) (hall 2 (by decide))
     obtain rfl:=e
     have RRW1_2:=hid rrw1_2
     clear rrw1_2
     have RRW1_2_1:=hid rrw1_2_1
     clear rrw1_2_1
     obtain⟨v',x3,pw1_3,cw1_3,sw1_3,dw1_3,e,rrw1_3,rrw1_3_1⟩:=hI.slots 3 (by decide) (hall 3 (by decide))
     obtain rfl:=e
     have RRW1_3:=hid rrw1_3
     clear rrw1_3
     have RRW1_3_1:=hid rrw1_3_1
     clear rrw1_3_1
     have x3:a.tmps[8]? = some (.agg #[.bool (zneg (n)),.slice pw1_3 (zlen (n)) cw1_3,.slice sw1_3 (nlen (dn)) dw1_3]):=x3
     have HBW:=hid hI.world
     have HI:=hid hI
     have HA:=hid hall
     clear hI hall
     have K3:=hid (K3.out.below HBW.out)
     have HBX:=hid (HB0.out.trans (HBW.out.mono HB0.out.size))
     have RM:=RRW1_2
     have TM:=RRW1_2_1
     have RQ:=RRW1_3
     have TQ:=RRW1_3_1
     have y4:a.tmps[4]? = some (.pointer (some ⟨w.heap.size+1+1,0,none⟩)):=HI.out.rest 4 (by decide)
     have dK30:=K3.out.cell (i:=0) rfl
     have fK30:=K3.out.frozen (i:=0)
     have dK31:=K3.out.cell (i:=1) rfl
     have fK31:=K3.out.frozen (i:=1)
     have dK32:=K3.out.cell (i:=2) rfl
     have fK32:=K3.out.frozen (i:=2)
     refine tail_succ (t:=0) ?_
     refine stepH rfl fun K' hK=>?_
     go_simp
     refine hK.out _ _ ?_
     clear hK
     refine tail_nil ?_
     have s0:∀ {v':Value} {n':Nat},RN W v' n'→RN (storeAll W (w.heap.size+1+1) 0 [.bool (zneg (n)),.slice pw1_3 (zlen (n)) cw1_3,.slice sw1_3 (nlen (dn)) dw1_3]) v' n':=fun h'=>store_rn _ h' K3.out (by simp[noInt]) (by simp[plainV])
     exact⟨rfl,pw1_2,cw1_2,sw1_2,dw1_2,pw1_3,cw1_3,sw1_3,dw1_3,(HI.out.finx ⟨HI.out.sx HA.out 0,HI.out.sx HA.out 1,x2,x3,trivial⟩ rfl),(store_below (l:=[.bool (zneg (n)),.slice pw1_3 (zlen (n)) cw1_3,.slice sw1_3 (nlen (dn)) dw1_3]) (i:=0) (by omega) HBX.out),(store_blk (l:=[.bool (zneg (n)),.slice pw1_3 (zlen (n)) cw1_3,.slice sw1_3 (nlen (dn)) dw1_3]) (i:=0) K3.out),(s0 RQ.out),(s0 TQ.out)⟩
 rintro a' W1 ⟨pw1_2,cw1_2,sw1_2,dw1_2,pw1_3,cw1_3,sw1_3,dw1_3,rfl,z0,z1,z2,z3⟩
 have HB1:=hid z0
 have K3:=hid z1
 have RQ:=hid z2
 have TQ:=hid z3
 clear z0 z1 z2 z3
 simp only[putL,List.setIfInBounds_toArray,List.set_cons_zero,List.set_cons_succ]
 go_wp2
 have dK30:=K3.out.cell (i:=0) rfl
 have dK31:=K3.out.cell (i:=1) rfl
 have dK32:=K3.out.cell (i:=2) rfl
 exact bodyPost_ret (v:=.agg #[.bool (zneg (n)),.slice pw1_3 (zlen (n)) cw1_3,.slice sw1_3 (nlen (dn)) dw1_3]) (by simp[results,Tryz.results54,go_sem,dK30,dK31,dK32]) rfl ⟨_,_,_,_,rfl,RQ.out,TQ.out,HB1.out⟩
end Go.Proofs.YtmigpoiajkihhaaGreatDoor
