/- garboardref03: Int, Neg, Inv, Sign, Mul, Add, Sub, Div, Cmp, To: walks over the contracts of what they call. -/
import Derived.Test.YtmigpoiajkihhaaGreatDoorMz41q
set_option maxRecDepth 100000
set_option maxHeartbeats 20000000
open Go.Lib (hid)
namespace Go.Proofs.YtmigpoiajkihhaaGreatDoor
open Go.RowKit Go.Gb
theorem zu (n1 n2 z n:Int)(en1 en2 dn:Nat)(p1:Option Addr)(c1:Nat)(s1:Option Addr)(d1:Nat)(p2:Option Addr)(c2:Nat)(s2:Option Addr)(d2:Nat)(w:World)(h0:∀ s1 d1 s2 d2 W,RN W (.slice s1 (ae en1) d1) en1→RN W (.slice s2 (ae en2) d2) en2→CR 85 #[.slice s1 (ae en1) d1,.slice s2 (ae en2) d2] W (.int .i64 0))(h1:∀ p1 c1 p2 c2 W,RN W (.slice p1 (aa n1) c1) n1.natAbs→RN W (.slice p2 (aa n2) c2) n2.natAbs→CZ 100 #[.agg #[.bool (ag n1),.slice p1 (aa n1) c1],.agg #[.bool (ag n2),.slice p2 (aa n2) c2]] W z)(h3:∀ p1 c1 s2 d2 W,RN W (.slice p1 (aa z) c1) z.natAbs→RN W (.slice s2 (ae en1) d2) en1→CF 40 #[.agg #[.bool (ag z),.slice p1 (aa z) c1],.slice s2 (ae en1) d2] W n dn)(r1:RN w (.slice p1 (aa n1) c1) n1.natAbs)(t1:RN w (.slice s1 (ae en1) d1) en1)(r2:RN w (.slice p2 (aa n2) c2) n2.natAbs)(t2:RN w (.slice s2 (ae en2) d2) en2) :
 CF 50 #[.agg #[.bool (ag n1),.slice p1 (aa n1) c1,.slice s1 (ae en1) d1],.agg #[.bool (ag n2),.slice p2 (aa n2) c2,.slice s2 (ae en2) d2]] w n dn:=by
 have C0:=hid h0
 have C1:=hid h1
 have C3:=hid h3
 have R1:=hid r1
 have T1:=hid t1
 have R2:=hid r2
 have T2:=hid t2
 clear h0 h1 h3 r1 t1 r2 t2
 go_enter Tryz.func50,Tryz.ntmps50
 go_upto_region 1 with fail
 refine aK w [(#[.bool (ag n1),.slice p1 (aa n1) c1,.slice s1 (ae en1) d1],55),(#[.bool (ag n2),.slice p2 (aa n2) c2,.slice s2 (ae en2) d2],55),(#[.bool false,.slice none 0 0,.slice none 0 0],55)] rfl ?_
 rintro W0 ⟨k1,k2,k3,hb⟩
 have HB0:=hid (show Below w.heap.size w W0 from hb)
 have R1:=hid (R1.out.below HB0.out)
 have T1:=hid (T1.out.below HB0.out)
 have R2:=hid (R2.out.below HB0.out)
 have T2:=hid (T2.out.below HB0.out)
 have K1:=hid k1
 have K2:=hid k2
 have K3:=hid k3
 clear k1 k2 k3 hb
 have dK12:=K1.out.cell (i:=2) rfl
 have dK22:=K2.out.cell (i:=2) rfl
 go_wp2_with fail
 with_reducible refine(C0.out _ _ _ _ _ T1.out T2.out).mono ?_
 rintro e W1 ⟨rfl,hb⟩
 clear dK12 dK22
 have K1:=hid (K1.out.below hb)
 have K2:=hid (K2.out.below hb)
 have K3:=hid (K3.out.below hb)
 have R1:=hid (R1.out.below hb)
 have T1:=hid (T1.out.below hb)
 have R2:=hid (R2.out.below hb)
 have HB1:=hbt HB0 hb
 clear hb
 go_wp2_with fail
 refine aI (fun a0 a' V=>∃ u04 u05 u00 u01 u02 u03,a'=⟨putL [(13,.pointer (some ⟨w.heap.size,0,none⟩)),(14,.agg #[.bool (ag n1),.slice p1 (aa n1) c1]),(15,.pointer (some ⟨w.heap.size+1,0,none⟩)),(16,.agg #[.bool (ag n2),.slice p2 (aa n2) c2]),(17,.agg #[.bool (ag z),.slice u04 (aa z) u05]),(18,.pointer (some ⟨w.heap.size,2,none⟩)),(19,.slice s1 (ae en1) d1),(20,.agg #[.bool (ag n),.slice u00 (aa n) u01,.slice u02 (ae dn) u03])] a0.tmps,a0.defers⟩∧Below w.heap.size w V∧SBk V (w.heap.size+1+1) #[.bool (ag n),.slice u00 (aa n) u01,.slice u02 (ae dn) u03] 55∧RN V (.slice u00 (aa n) u01) (n).natAbs∧RN V (.slice u02 (ae dn) u03) (dn)) ?_ ?_
 · refine aF (by kernel_rfl) 8 1 (fun i=>[13,14,15,16,17,18,19,20].getD i 0) (RelR [Rel.val (.pointer (some ⟨w.heap.size,0,none⟩)),Rel.val (.agg #[.bool (ag n1),.slice p1 (aa n1) c1]),Rel.val (.pointer (some ⟨w.heap.size+1,0,none⟩)),Rel.val (.agg #[.bool (ag n2),.slice p2 (aa n2) c2]),Rel.int z,Rel.val (.pointer (some ⟨w.heap.size,2,none⟩)),Rel.val (.slice s1 (ae en1) d1),⟨fun v W=>∃ p c s d,v=.agg #[.bool (ag n),.slice p (aa n) c,.slice s (ae dn) d]∧RN W (.slice p (aa n) c) (n).natAbs∧RN W (.slice s (ae dn) d) (dn),fun _ _ _ ⟨p,c,s,d,e,h0,h1⟩ hb=>⟨p,c,s,d,e,h0.below hb,h1.below hb⟩⟩]) (fun W=>Below W1.heap.size W1 W) (fun _ _=>True) (by kernel_rfl) (by kernel_rfl) (by kernel_rfl) trivial (Below.refl _ _).drew ?_ ?_
   · intro listed a W i hI hD hrd him
     have HI:=hid hI
     have HD:=hid hD
     have Hr:=hid hrd
     clear hI hrd hD
     have y2:a.tmps[2]? = some (.pointer (some ⟨w.heap.size,0,none⟩)):=HI.out.rest 2 (by decide)
     have y3:a.tmps[3]? = some (.pointer (some ⟨w.heap.size+1,0,none⟩)):=HI.out.rest 3 (by decide)
     have dK10:=(K1.out.below HI.out.world).cell (i:=0) rfl
     have dK11:=(K1.out.below HI.out.world).cell (i:=1) rfl
     have dK20:=(K2.out.below HI.out.world).cell (i:=0) rfl
     have dK21:=(K2.out.below HI.out.world).cell (i:=1) rfl
     have dK12:=(K1.out.below HI.out.world).cell (i:=2) rfl
     have X0:RV _ listed a 0 13 (.pointer (some ⟨w.heap.size,0,none⟩)):=HI.out.rh
     have X2:RV _ listed a 2 15 (.pointer (some ⟨w.heap.size+1,0,none⟩)):=HI.out.rh
     have X1:RV _ listed a 1 14 (.agg #[.bool (ag n1),.slice p1 (aa n1) c1]):=HI.out.rh
     have X3:RV _ listed a 3 16 (.agg #[.bool (ag n2),.slice p2 (aa n2) c2]):=HI.out.rh
     have X5:RV _ listed a 5 18 (.pointer (some ⟨w.heap.size,2,none⟩)):=HI.out.rh
     have X6:RV _ listed a 6 19 (.slice s1 (ae en1) d1):=HI.out.rh
     match i,him,Hr with
     | 0,_,Hi =>
       refine au rfl fun K' hK=>?_
       go_simp
       exact hK.out _ _ ⟨HI.out.pv Hi.out rfl,trivial⟩
     | 1,_,Hi =>
       have x0:=X0.g Hi.out (by kernel_rfl)
       refine au rfl fun K' hK=>?_
       go_simp
       exact hK.out _ _ ⟨HI.out.pv Hi.out rfl,trivial⟩
     | 2,_,Hi =>
       refine au rfl fun K' hK=>?_
       go_simp
       exact hK.out _ _ ⟨HI.out.pv Hi.out rfl,trivial⟩
     | 3,_,Hi =>
       have x2:=X2.g Hi.out (by kernel_rfl)
       refine au rfl fun K' hK=>?_
       go_simp
       exact hK.out _ _ ⟨HI.out.pv Hi.out rfl,trivial⟩
     | 4,_,Hi =>
       have x1:=X1.g Hi.out (by kernel_rfl)
       have x3:=X3.g Hi.out (by kernel_rfl)
       refine au rfl fun K' hK=>?_
       go_simp
       with_reducible refine(C1.out _ _ _ _ _ (R1.out.below HI.out.world) (R2.out.below HI.out.world)).mono ?_
       rintro e W' ⟨u04,u05,rfl,u06,hb⟩
       exact hK.out _ _ ⟨HI.out.pc Hi.out hb ⟨u04,u05,rfl,u06⟩,trivial⟩
     | 5,_,Hi =>
       refine au rfl fun K' hK=>?_
       go_simp
       exact hK.out _ _ ⟨HI.out.pv Hi.out rfl,trivial⟩
     | 6,_,Hi =>
       have x5:=X5.g Hi.out (by kernel_rfl)
       refine au rfl fun K' hK=>?_
       go_simp
       exact hK.out _ _ ⟨HI.out.pv Hi.out rfl,trivial⟩
     | 7,_,Hi =>
       obtain⟨v',x4,u04,u05,e,u06⟩:=HI.out.at (i:=4) Hi.out (by kernel_rfl) (by decide)
       obtain rfl:=e
       have x4:a.tmps[17]? = some (.agg #[.bool (ag z),.slice u04 (aa z) u05]):=x4
       have u09:=hid u06
       clear u06
       have x6:=X6.g Hi.out (by kernel_rfl)
       refine au rfl fun K' hK=>?_
       go_simp
       with_reducible refine(C3.out _ _ _ _ _ u09.out (T1.out.below HI.out.world)).mono ?_
       rintro e W' ⟨u00,u01,u02,u03,rfl,u07,u08,hb⟩
       exact hK.out _ _ ⟨HI.out.pc Hi.out hb ⟨u00,u01,u02,u03,rfl,u07,u08⟩,trivial⟩
     | n+8,h,_=>exact absurd h (by omega)
   · intro listed a W hI hD hall
     obtain⟨v',x4,u04,u05,e,u06⟩:=hI.slots 4 (by decide) (hall 4 (by decide))
     obtain rfl:=e
     have u09:=hid u06
     clear u06
     obtain⟨v',x7,u00,u01,u02,u03,e,u07,u08⟩:=hI.slots 7 (by decide) (hall 7 (by decide))
     obtain rfl:=e
     have u0a:=hid u07
     clear u07
     have u0b:=hid u08
     clear u08
     have x7:a.tmps[20]? = some (.agg #[.bool (ag n),.slice u00 (aa n) u01,.slice u02 (ae dn) u03]):=x7
     have HBW:=hid hI.world
     have HI:=hid hI
     have HA:=hid hall
     clear hI hall
     have K3:=hid (K3.out.below HBW.out)
     have HBX:=hid (HB1.out.trans (HBW.out.mono HB1.out.size))
     have RZ:=u09
     have RQ:=u0a
     have TQ:=u0b
     have y4:a.tmps[4]? = some (.pointer (some ⟨w.heap.size+1+1,0,none⟩)):=HI.out.rest 4 (by decide)
     have dK30:=K3.out.cell (i:=0) rfl
     have fK30:=K3.out.frozen (i:=0)
     have dK31:=K3.out.cell (i:=1) rfl
     have fK31:=K3.out.frozen (i:=1)
     have dK32:=K3.out.cell (i:=2) rfl
     have fK32:=K3.out.frozen (i:=2)
     refine aS (t:=0) ?_
     refine au rfl fun K' hK=>?_
     go_simp
     refine hK.out _ _ ?_
     clear hK
     refine bD ?_
     have s0:∀ {v':Value} {n':Nat},RN W v' n'→RN (storeAll W (w.heap.size+1+1) 0 [.bool (ag n),.slice u00 (aa n) u01,.slice u02 (ae dn) u03]) v' n':=fun h'=>aG _ h' K3.out (by simp[bG]) (by simp[aV])
     exact⟨rfl,u04,u05,u00,u01,u02,u03,(HI.out.finx ⟨HI.out.sx HA.out 0,HI.out.sx HA.out 1,HI.out.sx HA.out 2,HI.out.sx HA.out 3,x4,HI.out.sx HA.out 5,HI.out.sx HA.out 6,x7,trivial⟩ rfl),(az (l:=[.bool (ag n),.slice u00 (aa n) u01,.slice u02 (ae dn) u03]) (i:=0) (by omega) HBX.out),(aX (l:=[.bool (ag n),.slice u00 (aa n) u01,.slice u02 (ae dn) u03]) (i:=0) K3.out),(s0 RQ.out),(s0 TQ.out)⟩
 rintro a' W2 ⟨u04,u05,u00,u01,u02,u03,rfl,z0,z1,z2,z3⟩
 have HB2:=hid z0
 have K3:=hid z1
 have RQ:=hid z2
 have TQ:=hid z3
 clear z0 z1 z2 z3
 simp only[putL,List.setIfInBounds_toArray,List.set_cons_zero,List.set_cons_succ]
 go_wp2
 have dK30:=K3.out.cell (i:=0) rfl
 have dK31:=K3.out.cell (i:=1) rfl
 have dK32:=K3.out.cell (i:=2) rfl
 exact bodyPost_ret (v:=.agg #[.bool (ag n),.slice u00 (aa n) u01,.slice u02 (ae dn) u03]) (by simp[results,Tryz.results50,go_sem,dK30,dK31,dK32]) rfl ⟨_,_,_,_,rfl,RQ.out,TQ.out,HB2.out⟩
end Go.Proofs.YtmigpoiajkihhaaGreatDoor
