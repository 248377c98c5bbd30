/- Texts of this proof, one behind the other. -/
import Derived.Test.YtmigpoiajkihhaaGreatDoorMz41q
set_option maxRecDepth 100000
set_option maxHeartbeats 20000000
open Go.Lib (hid)
namespace Go.Proofs.YtmigpoiajkihhaaGreatDoor
open Go.RowKit Go.Gb
theorem xK (n1 n2 x y z n k:Int)(en1 en2 en dn ua ub:Nat)(hk:k≠0)(p1:Option Addr)(c1:Nat)(s1:Option Addr)(d1:Nat)(p2:Option Addr)(c2:Nat)(s2:Option Addr)(d2:Nat)(w:World)(h0:∀ s1 d1 s2 d2 W,RN W (.slice s1 (ae en1) d1) en1→RN W (.slice s2 (ae en2) d2) en2→CR 85 #[.slice s1 (ae en1) d1,.slice s2 (ae en2) d2] W (.int .i64 k))(h1:∀ p1 c1 s2 d2 W,RN W (.slice p1 (aa n1) c1) n1.natAbs→RN W (.slice s2 (ae en2) d2) en2→CN 89 #[.slice p1 (aa n1) c1,.slice s2 (ae en2) d2] W ua)(h2:∀ s2 d2 W,RN W (.slice s2 (ae ua) d2) ua→CZ 41 #[.bool (ag n1),.slice s2 (ae ua) d2] W x)(h3:∀ p1 c1 s2 d2 W,RN W (.slice p1 (aa n2) c1) n2.natAbs→RN W (.slice s2 (ae en1) d2) en1→CN 89 #[.slice p1 (aa n2) c1,.slice s2 (ae en1) d2] W ub)(h4:∀ s2 d2 W,RN W (.slice s2 (ae ub) d2) ub→CZ 41 #[.bool (ag n2),.slice s2 (ae ub) d2] W y)(h5:∀ p1 c1 p2 c2 W,RN W (.slice p1 (aa x) c1) x.natAbs→RN W (.slice p2 (aa y) c2) y.natAbs→CZ 100 #[.agg #[.bool (ag x),.slice p1 (aa x) c1],.agg #[.bool (ag y),.slice p2 (aa y) c2]] W z)(h6:∀ s1 d1 s2 d2 W,RN W (.slice s1 (ae en1) d1) en1→RN W (.slice s2 (ae en2) d2) en2→CN 89 #[.slice s1 (ae en1) d1,.slice s2 (ae en2) d2] W en)(h7:∀ p1 c1 s2 d2 W,RN W (.slice p1 (aa z) c1) z.natAbs→RN W (.slice s2 (ae en) d2) en→CF 40 #[.agg #[.bool (ag z),.slice p1 (aa z) c1],.slice s2 (ae en) d2] W n dn)(r1:RN w (.slice p1 (aa n1) c1) n1.natAbs)(t1:RN w (.slice s1 (ae en1) d1) en1)(r2:RN w (.slice p2 (aa n2) c2) n2.natAbs)(t2:RN w (.slice s2 (ae en2) d2) en2) :
 CF 50 #[.agg #[.bool (ag n1),.slice p1 (aa n1) c1,.slice s1 (ae en1) d1],.agg #[.bool (ag n2),.slice p2 (aa n2) c2,.slice s2 (ae en2) d2]] w n dn:=by
 have C0:=hid h0
 have C1:=hid h1
 have C2:=hid h2
 have C3:=hid h3
 have C4:=hid h4
 have C5:=hid h5
 have C6:=hid h6
 have C7:=hid h7
 have R1:=hid r1
 have T1:=hid t1
 have R2:=hid r2
 have T2:=hid t2
 have k0:(k==0)=false:=by rw[beq_eq_false_iff_ne];exact hk
 have k1:¬ k=0:=hk
 clear hk h0 h1 h2 h3 h4 h5 h6 h7 r1 t1 r2 t2
 go_enter Tryz.func50,Tryz.ntmps50
 go_upto_region 1 with fail
 refine aK w [(#[.bool (ag n1),.slice p1 (aa n1) c1,.slice s1 (ae en1) d1],55),(#[.bool (ag n2),.slice p2 (aa n2) c2,.slice s2 (ae en2) d2],55),(#[.bool false,.slice none 0 0,.slice none 0 0],55)] rfl ?_
 rintro W0 ⟨k1,k2,k3,hb⟩
 have HB0:=hid (show Below w.heap.size w W0 from hb)
 have R1:=hid (R1.out.below HB0.out)
 have T1:=hid (T1.out.below HB0.out)
 have R2:=hid (R2.out.below HB0.out)
 have T2:=hid (T2.out.below HB0.out)
 have K1:=hid k1
 have K2:=hid k2
 have K3:=hid k3
 clear k1 k2 k3 hb
 have dK12:=K1.out.cell (i:=2) rfl
 have dK22:=K2.out.cell (i:=2) rfl
 go_wp2_with fail
 with_reducible refine(C0.out _ _ _ _ _ T1.out T2.out).mono ?_
 rintro e W1 ⟨rfl,hb⟩
 clear dK12 dK22
 have K1:=hid (K1.out.below hb)
 have K2:=hid (K2.out.below hb)
 have K3:=hid (K3.out.below hb)
 have R1:=hid (R1.out.below hb)
 have T1:=hid (T1.out.below hb)
 have R2:=hid (R2.out.below hb)
 have T2:=hid (T2.out.below hb)
 have HB1:=hbt HB0 hb
 clear hb
 go_wp2_with fail
 have L1:=K1.out.lt
 have L2:=K2.out.lt
 have L3:=K3.out.lt
 have L4:=HB1.out.size
 refine aI (fun a0 a' V=>∃ u0e u0f u00 u01 u04,a'=⟨putL [(21,.pointer (some ⟨w.heap.size,0,none⟩)),(22,.pointer (some ⟨w.heap.size,0,none⟩)),(23,.bool (ag n1)),(24,.pointer (some ⟨w.heap.size,0,none⟩)),(25,.pointer (some ⟨w.heap.size,1,none⟩)),(26,.slice p1 (aa n1) c1),(27,.pointer (some ⟨w.heap.size+1,2,none⟩)),(28,.slice s2 (ae en2) d2),(29,.slice u0e (ae ua) u0f),(30,.agg #[.bool (ag x),.slice u00 (aa x) u01]),(5,.pointer (some ⟨u04,0,none⟩))] a0.tmps,a0.defers⟩∧Below w.heap.size w V∧SBk V (w.heap.size) #[.bool (ag n1),.slice p1 (aa n1) c1,.slice s1 (ae en1) d1] 55∧SBk V (w.heap.size+1) #[.bool (ag n2),.slice p2 (aa n2) c2,.slice s2 (ae en2) d2] 55∧SBk V (w.heap.size+1+1) #[.bool false,.slice none 0 0,.slice none 0 0] 55∧SBk V (u04) #[.bool (ag x),.slice u00 (aa x) u01] 50∧RN V (.slice p1 (aa n1) c1) n1.natAbs∧RN V (.slice s1 (ae en1) d1) en1∧RN V (.slice p2 (aa n2) c2) n2.natAbs∧RN V (.slice s2 (ae en2) d2) en2∧RN V (.slice u0e (ae ua) u0f) ua∧RN V (.slice u00 (aa x) u01) x.natAbs∧W1.heap.size≤u04) ?_ ?_
 · refine aF (by kernel_rfl) 11 1 (fun i=>[21,22,23,24,25,26,27,28,29,30,5].getD i 0) (RelR [Rel.val (.pointer (some ⟨w.heap.size,0,none⟩)),Rel.val (.pointer (some ⟨w.heap.size,0,none⟩)),Rel.val (.bool (ag n1)),Rel.val (.pointer (some ⟨w.heap.size,0,none⟩)),Rel.val (.pointer (some ⟨w.heap.size,1,none⟩)),Rel.val (.slice p1 (aa n1) c1),Rel.val (.pointer (some ⟨w.heap.size+1,2,none⟩)),Rel.val (.slice s2 (ae en2) d2),Rel.nat ua,Rel.int x,Rel.ptr W1.heap.size (.cells #[.bool false,.slice none 0 0] 50)]) (fun W=>Below W1.heap.size W1 W) (fun _ _=>True) (by kernel_rfl) (by kernel_rfl) (by kernel_rfl) trivial (Below.refl _ _).drew ?_ ?_
   · intro listed a W i hI hD hrd him
     have HI:=hid hI
     have HD:=hid hD
     have Hr:=hid hrd
     clear hI hrd hD
     have y2:a.tmps[2]? = some (.pointer (some ⟨w.heap.size,0,none⟩)):=HI.out.rest 2 (by decide)
     have y3:a.tmps[3]? = some (.pointer (some ⟨w.heap.size+1,0,none⟩)):=HI.out.rest 3 (by decide)
     have dK10:=(K1.out.below HI.out.world).cell (i:=0) rfl
     have dK11:=(K1.out.below HI.out.world).cell (i:=1) rfl
     have dK22:=(K2.out.below HI.out.world).cell (i:=2) rfl
     have X0:RV _ listed a 0 21 (.pointer (some ⟨w.heap.size,0,none⟩)):=HI.out.rh
     have X1:RV _ listed a 1 22 (.pointer (some ⟨w.heap.size,0,none⟩)):=HI.out.rh
     have X3:RV _ listed a 3 24 (.pointer (some ⟨w.heap.size,0,none⟩)):=HI.out.rh
     have X4:RV _ listed a 4 25 (.pointer (some ⟨w.heap.size,1,none⟩)):=HI.out.rh
     have X6:RV _ listed a 6 27 (.pointer (some ⟨w.heap.size+1,2,none⟩)):=HI.out.rh
     have X5:RV _ listed a 5 26 (.slice p1 (aa n1) c1):=HI.out.rh
     have X7:RV _ listed a 7 28 (.slice s2 (ae en2) d2):=HI.out.rh
     have X2:RV _ listed a 2 23 (.bool (ag n1)):=HI.out.rh
     match i,him,Hr with
     | 0,_,Hi =>
       refine au rfl fun K' hK=>?_
       go_simp
       exact hK.out _ _ ⟨HI.out.pv Hi.out rfl,trivial⟩
     | 1,_,Hi =>
       have x0:=X0.g Hi.out (by kernel_rfl)
       refine au rfl fun K' hK=>?_
       go_simp
       exact hK.out _ _ ⟨HI.out.pv Hi.out rfl,trivial⟩
     | 2,_,Hi =>
       have x1:=X1.g Hi.out (by kernel_rfl)
       refine au rfl fun K' hK=>?_
       go_simp
       exact hK.out _ _ ⟨HI.out.pv Hi.out rfl,trivial⟩
     | 3,_,Hi =>
       refine au rfl fun K' hK=>?_
       go_simp
       exact hK.out _ _ ⟨HI.out.pv Hi.out rfl,trivial⟩
     | 4,_,Hi =>
       have x3:=X3.g Hi.out (by kernel_rfl)
       refine au rfl fun K' hK=>?_
       go_simp
       exact hK.out _ _ ⟨HI.out.pv Hi.out rfl,trivial⟩
     | 5,_,Hi =>
       have x4:=X4.g Hi.out (by kernel_rfl)
       refine au rfl fun K' hK=>?_
       go_simp
       exact hK.out _ _ ⟨HI.out.pv Hi.out rfl,trivial⟩
     | 6,_,Hi =>
       refine au rfl fun K' hK=>?_
       go_simp
       exact hK.out _ _ ⟨HI.out.pv Hi.out rfl,trivial⟩
     | 7,_,Hi =>
       have x6:=X6.g Hi.out (by kernel_rfl)
       refine au rfl fun K' hK=>?_
       go_simp
       exact hK.out _ _ ⟨HI.out.pv Hi.out rfl,trivial⟩
     | 8,_,Hi =>
       have x5:=X5.g Hi.out (by kernel_rfl)
       have x7:=X7.g Hi.out (by kernel_rfl)
       refine au rfl fun K' hK=>?_
       go_simp
       with_reducible refine(C1.out _ _ _ _ _ (R1.out.below HI.out.world) (T2.out.below HI.out.world)).mono ?_
       rintro e W' ⟨u0e,u0f,rfl,u0q,hb⟩
       exact hK.out _ _ ⟨HI.out.pc Hi.out hb ⟨u0e,u0f,rfl,u0q⟩,trivial⟩
     | 9,_,Hi =>
       have x2:=X2.g Hi.out (by kernel_rfl)
       obtain⟨v',x8,u0e,u0f,e,u0q⟩:=HI.out.at (i:=8) Hi.out (by kernel_rfl) (by decide)
       obtain rfl:=e
       have x8:a.tmps[29]? = some (.slice u0e (ae ua) u0f):=x8
       have u0E:=hid u0q
       clear u0q
       refine au rfl fun K' hK=>?_
       go_simp
       with_reducible refine(C2.out _ _ _ u0E.out).mono ?_
       rintro e W' ⟨u00,u01,rfl,u0y,hb⟩
       exact hK.out _ _ ⟨HI.out.pc Hi.out hb ⟨u00,u01,rfl,u0y⟩,trivial⟩
     | 10,_,Hi =>
       refine au rfl fun K' hK=>?_
       go_simp
       exact hK.out _ _ ⟨HI.out.pc Hi.out ((Below.refl W.heap.size W).alloc (Nat.le_refl _) (.cells #[.bool false,.slice none 0 0] 50)) ⟨W.heap.size,rfl,HI.out.world.size,SBk.new _ _ _⟩,trivial⟩
     | n+11,h,_=>exact absurd h (by omega)
   · intro listed a W hI hD hall
     obtain⟨v',x8,u0e,u0f,e,u0q⟩:=hI.slots 8 (by decide) (hall 8 (by decide))
     obtain rfl:=e
     have u0E:=hid u0q
     clear u0q
     obtain⟨v',x9,u00,u01,e,u0y⟩:=hI.slots 9 (by decide) (hall 9 (by decide))
     obtain rfl:=e
     have u0O:=hid u0y
     clear u0y
     have x9:a.tmps[30]? = some (.agg #[.bool (ag x),.slice u00 (aa x) u01]):=x9
     obtain⟨v',x10,u04,e,u0K,u0L⟩:=hI.slots 10 (by decide) (hall 10 (by decide))
     obtain rfl:=e
     have u0x:=hid u0K
     clear u0K
     have u0P:=hid u0L
     clear u0L
     have x10:a.tmps[5]? = some (.pointer (some ⟨u04,0,none⟩)):=x10
     have HBW:=hid hI.world
     have HI:=hid hI
     have HA:=hid hall
     clear hI hall
     have K1:=hid (K1.out.below HBW.out)
     have K2:=hid (K2.out.below HBW.out)
     have K3:=hid (K3.out.below HBW.out)
     have R1:=hid (R1.out.below HBW.out)
     have T1:=hid (T1.out.below HBW.out)
     have R2:=hid (R2.out.below HBW.out)
     have T2:=hid (T2.out.below HBW.out)
     have HBX:=hid (HB1.out.trans (HBW.out.mono HB1.out.size))
     have RA:=u0E
     have RX:=u0O
     have K4:Hid (SBk W u04 #[.bool false,.slice none 0 0] 50):=u0P
     have dK40:=K4.out.cell (i:=0) rfl
     have fK40:=K4.out.frozen (i:=0)
     have dK41:=K4.out.cell (i:=1) rfl
     have fK41:=K4.out.frozen (i:=1)
     refine aS (t:=0) ?_
     refine au rfl fun K' hK=>?_
     go_simp
     refine hK.out _ _ ?_
     clear hK
     refine bD ?_
     have s0:∀ {v':Value} {n':Nat},RN W v' n'→RN (storeAll W (u04) 0 [.bool (ag x),.slice u00 (aa x) u01]) v' n':=fun h'=>aG _ h' K4.out (by simp[bG]) (by simp[aV])
     have o0:∀ {g':Nat} {cs':Array Value} {T':TypeId},g'≠u04→SBk W g' cs' T'→SBk (storeAll W (u04) 0 [.bool (ag x),.slice u00 (aa x) u01]) g' cs' T':=fun hg' h'=>aH hg' _ 0 h'
     exact⟨rfl,u0e,u0f,u00,u01,u04,(HI.out.finx ⟨HI.out.sx HA.out 0,HI.out.sx HA.out 1,HI.out.sx HA.out 2,HI.out.sx HA.out 3,HI.out.sx HA.out 4,HI.out.sx HA.out 5,HI.out.sx HA.out 6,HI.out.sx HA.out 7,x8,x9,x10,trivial⟩ rfl),(az (l:=[.bool (ag x),.slice u00 (aa x) u01]) (i:=0) (by have:=u0x.out;omega) HBX.out),(o0 (by have:=u0x.out;omega) K1.out),(o0 (by have:=u0x.out;omega) K2.out),(o0 (by have:=u0x.out;omega) K3.out),(aX (l:=[.bool (ag x),.slice u00 (aa x) u01]) (i:=0) K4.out),(s0 R1.out),(s0 T1.out),(s0 R2.out),(s0 T2.out),(s0 RA.out),(s0 RX.out),u0x.out⟩
 rintro a' W2 ⟨u0e,u0f,u00,u01,u04,rfl,z0,z1,z2,z3,z4,z5,z6,z7,z8,z9,z10,z11⟩
 have HB2:=hid z0
 have K1:=hid z1
 have K2:=hid z2
 have K3:=hid z3
 have K4:=hid z4
 have R1:=hid z5
 have T1:=hid z6
 have R2:=hid z7
 have T2:=hid z8
 have RA:=hid z9
 have RX:=hid z10
 have R10xW2:=z11
 clear z0 z1 z2 z3 z4 z5 z6 z7 z8 z9 z10 z11
 simp only[putL,List.setIfInBounds_toArray,List.set_cons_zero,List.set_cons_succ]
 go_wp2_with fail
 have L6:=K1.out.lt
 have L7:=K2.out.lt
 have L8:=K3.out.lt
 have L9:=K4.out.lt
 have L10:=HB2.out.size
 refine aI (fun a0 a' V=>∃ u0g u0h u02 u03 u0d,a'=⟨putL [(31,.pointer (some ⟨w.heap.size+1,0,none⟩)),(32,.pointer (some ⟨w.heap.size+1,0,none⟩)),(33,.bool (ag n2)),(34,.pointer (some ⟨w.heap.size+1,0,none⟩)),(35,.pointer (some ⟨w.heap.size+1,1,none⟩)),(36,.slice p2 (aa n2) c2),(37,.pointer (some ⟨w.heap.size,2,none⟩)),(38,.slice s1 (ae en1) d1),(39,.slice u0g (ae ub) u0h),(40,.agg #[.bool (ag y),.slice u02 (aa y) u03]),(6,.pointer (some ⟨u0d,0,none⟩))] a0.tmps,a0.defers⟩∧Below w.heap.size w V∧SBk V (w.heap.size) #[.bool (ag n1),.slice p1 (aa n1) c1,.slice s1 (ae en1) d1] 55∧SBk V (w.heap.size+1) #[.bool (ag n2),.slice p2 (aa n2) c2,.slice s2 (ae en2) d2] 55∧SBk V (w.heap.size+1+1) #[.bool false,.slice none 0 0,.slice none 0 0] 55∧SBk V (u04) #[.bool (ag x),.slice u00 (aa x) u01] 50∧SBk V (u0d) #[.bool (ag y),.slice u02 (aa y) u03] 50∧RN V (.slice s1 (ae en1) d1) en1∧RN V (.slice s2 (ae en2) d2) en2∧RN V (.slice u00 (aa x) u01) x.natAbs∧RN V (.slice u02 (aa y) u03) y.natAbs∧W2.heap.size≤u0d) ?_ ?_
 · refine aF (by kernel_rfl) 11 1 (fun i=>[31,32,33,34,35,36,37,38,39,40,6].getD i 0) (RelR [Rel.val (.pointer (some ⟨w.heap.size+1,0,none⟩)),Rel.val (.pointer (some ⟨w.heap.size+1,0,none⟩)),Rel.val (.bool (ag n2)),Rel.val (.pointer (some ⟨w.heap.size+1,0,none⟩)),Rel.val (.pointer (some ⟨w.heap.size+1,1,none⟩)),Rel.val (.slice p2 (aa n2) c2),Rel.val (.pointer (some ⟨w.heap.size,2,none⟩)),Rel.val (.slice s1 (ae en1) d1),Rel.nat ub,Rel.int y,Rel.ptr W2.heap.size (.cells #[.bool false,.slice none 0 0] 50)]) (fun W=>Below W2.heap.size W2 W) (fun _ _=>True) (by kernel_rfl) (by kernel_rfl) (by kernel_rfl) trivial (Below.refl _ _).drew ?_ ?_
   · intro listed a W i hI hD hrd him
     have HI:=hid hI
     have HD:=hid hD
     have Hr:=hid hrd
     clear hI hrd hD
     have y3:a.tmps[3]? = some (.pointer (some ⟨w.heap.size+1,0,none⟩)):=HI.out.rest 3 (by decide)
     have y2:a.tmps[2]? = some (.pointer (some ⟨w.heap.size,0,none⟩)):=HI.out.rest 2 (by decide)
     have dK20:=(K2.out.below HI.out.world).cell (i:=0) rfl
     have dK21:=(K2.out.below HI.out.world).cell (i:=1) rfl
     have dK12:=(K1.out.below HI.out.world).cell (i:=2) rfl
     have X0:RV _ listed a 0 31 (.pointer (some ⟨w.heap.size+1,0,none⟩)):=HI.out.rh
     have X1:RV _ listed a 1 32 (.pointer (some ⟨w.heap.size+1,0,none⟩)):=HI.out.rh
     have X3:RV _ listed a 3 34 (.pointer (some ⟨w.heap.size+1,0,none⟩)):=HI.out.rh
     have X4:RV _ listed a 4 35 (.pointer (some ⟨w.heap.size+1,1,none⟩)):=HI.out.rh
     have X6:RV _ listed a 6 37 (.pointer (some ⟨w.heap.size,2,none⟩)):=HI.out.rh
     have X5:RV _ listed a 5 36 (.slice p2 (aa n2) c2):=HI.out.rh
     have X7:RV _ listed a 7 38 (.slice s1 (ae en1) d1):=HI.out.rh
     have X2:RV _ listed a 2 33 (.bool (ag n2)):=HI.out.rh
     match i,him,Hr with
     | 0,_,Hi =>
       refine au rfl fun K' hK=>?_
       go_simp
       exact hK.out _ _ ⟨HI.out.pv Hi.out rfl,trivial⟩
     | 1,_,Hi =>
       have x0:=X0.g Hi.out (by kernel_rfl)
       refine au rfl fun K' hK=>?_
       go_simp
       exact hK.out _ _ ⟨HI.out.pv Hi.out rfl,trivial⟩
     | 2,_,Hi =>
       have x1:=X1.g Hi.out (by kernel_rfl)
       refine au rfl fun K' hK=>?_
       go_simp
       exact hK.out _ _ ⟨HI.out.pv Hi.out rfl,trivial⟩
     | 3,_,Hi =>
       refine au rfl fun K' hK=>?_
       go_simp
       exact hK.out _ _ ⟨HI.out.pv Hi.out rfl,trivial⟩
     | 4,_,Hi =>
       have x3:=X3.g Hi.out (by kernel_rfl)
       refine au rfl fun K' hK=>?_
       go_simp
       exact hK.out _ _ ⟨HI.out.pv Hi.out rfl,trivial⟩
     | 5,_,Hi =>
       have x4:=X4.g Hi.out (by kernel_rfl)
       refine au rfl fun K' hK=>?_
       go_simp
       exact hK.out _ _ ⟨HI.out.pv Hi.out rfl,trivial⟩
     | 6,_,Hi =>
       refine au rfl fun K' hK=>?_
       go_simp
       exact hK.out _ _ ⟨HI.out.pv Hi.out rfl,trivial⟩
     | 7,_,Hi =>
       have x6:=X6.g Hi.out (by kernel_rfl)
       refine au rfl fun K' hK=>?_
       go_simp
       exact hK.out _ _ ⟨HI.out.pv Hi.out rfl,trivial⟩
     | 8,_,Hi =>
       have x5:=X5.g Hi.out (by kernel_rfl)
       have x7:=X7.g Hi.out (by kernel_rfl)
       refine au rfl fun K' hK=>?_
       go_simp
       with_reducible refine(C3.out _ _ _ _ _ (R2.out.below HI.out.world) (T1.out.below HI.out.world)).mono ?_
       rintro e W' ⟨u0g,u0h,rfl,u0r,hb⟩
       exact hK.out _ _ ⟨HI.out.pc Hi.out hb ⟨u0g,u0h,rfl,u0r⟩,trivial⟩
     | 9,_,Hi =>
       have x2:=X2.g Hi.out (by kernel_rfl)
       obtain⟨v',x8,u0g,u0h,e,u0r⟩:=HI.out.at (i:=8) Hi.out (by kernel_rfl) (by decide)
       obtain rfl:=e
       have x8:a.tmps[39]? = some (.slice u0g (ae ub) u0h):=x8
       have u0F:=hid u0r
       clear u0r
       refine au rfl fun K' hK=>?_
       go_simp
       with_reducible refine(C4.out _ _ _ u0F.out).mono ?_
       rintro e W' ⟨u02,u03,rfl,u0z,hb⟩
       exact hK.out _ _ ⟨HI.out.pc Hi.out hb ⟨u02,u03,rfl,u0z⟩,trivial⟩
     | 10,_,Hi =>
       refine au rfl fun K' hK=>?_
       go_simp
       exact hK.out _ _ ⟨HI.out.pc Hi.out ((Below.refl W.heap.size W).alloc (Nat.le_refl _) (.cells #[.bool false,.slice none 0 0] 50)) ⟨W.heap.size,rfl,HI.out.world.size,SBk.new _ _ _⟩,trivial⟩
     | n+11,h,_=>exact absurd h (by omega)
   · intro listed a W hI hD hall
     obtain⟨v',x8,u0g,u0h,e,u0r⟩:=hI.slots 8 (by decide) (hall 8 (by decide))
     obtain rfl:=e
     have u0F:=hid u0r
     clear u0r
     obtain⟨v',x9,u02,u03,e,u0z⟩:=hI.slots 9 (by decide) (hall 9 (by decide))
     obtain rfl:=e
     have u0Q:=hid u0z
     clear u0z
     have x9:a.tmps[40]? = some (.agg #[.bool (ag y),.slice u02 (aa y) u03]):=x9
     obtain⟨v',x10,u0d,e,u0M,u0N⟩:=hI.slots 10 (by decide) (hall 10 (by decide))
     obtain rfl:=e
     have u0w:=hid u0M
     clear u0M
     have u0R:=hid u0N
     clear u0N
     have x10:a.tmps[6]? = some (.pointer (some ⟨u0d,0,none⟩)):=x10
     have HBW:=hid hI.world
     have HI:=hid hI
     have HA:=hid hall
     clear hI hall
     have K1:=hid (K1.out.below HBW.out)
     have K2:=hid (K2.out.below HBW.out)
     have K3:=hid (K3.out.below HBW.out)
     have K4:=hid (K4.out.below HBW.out)
     have T1:=hid (T1.out.below HBW.out)
     have T2:=hid (T2.out.below HBW.out)
     have RX:=hid (RX.out.below HBW.out)
     have HBX:=hid (HB2.out.trans (HBW.out.mono HB2.out.size))
     have RB:=u0F
     have RY:=u0Q
     have K5:Hid (SBk W u0d #[.bool false,.slice none 0 0] 50):=u0R
     have dK50:=K5.out.cell (i:=0) rfl
     have fK50:=K5.out.frozen (i:=0)
     have dK51:=K5.out.cell (i:=1) rfl
     have fK51:=K5.out.frozen (i:=1)
     refine aS (t:=0) ?_
     refine au rfl fun K' hK=>?_
     go_simp
     refine hK.out _ _ ?_
     clear hK
     refine bD ?_
     have s0:∀ {v':Value} {n':Nat},RN W v' n'→RN (storeAll W (u0d) 0 [.bool (ag y),.slice u02 (aa y) u03]) v' n':=fun h'=>aG _ h' K5.out (by simp[bG]) (by simp[aV])
     have o0:∀ {g':Nat} {cs':Array Value} {T':TypeId},g'≠u0d→SBk W g' cs' T'→SBk (storeAll W (u0d) 0 [.bool (ag y),.slice u02 (aa y) u03]) g' cs' T':=fun hg' h'=>aH hg' _ 0 h'
     exact⟨rfl,u0g,u0h,u02,u03,u0d,(HI.out.finx ⟨HI.out.sx HA.out 0,HI.out.sx HA.out 1,HI.out.sx HA.out 2,HI.out.sx HA.out 3,HI.out.sx HA.out 4,HI.out.sx HA.out 5,HI.out.sx HA.out 6,HI.out.sx HA.out 7,x8,x9,x10,trivial⟩ rfl),(az (l:=[.bool (ag y),.slice u02 (aa y) u03]) (i:=0) (by have:=u0w.out;omega) HBX.out),(o0 (by have:=u0w.out;omega) K1.out),(o0 (by have:=u0w.out;omega) K2.out),(o0 (by have:=u0w.out;omega) K3.out),(o0 (by have:=u0w.out;omega) K4.out),(aX (l:=[.bool (ag y),.slice u02 (aa y) u03]) (i:=0) K5.out),(s0 T1.out),(s0 T2.out),(s0 RX.out),(s0 RY.out),u0w.out⟩
 rintro a' W3 ⟨u0g,u0h,u02,u03,u0d,rfl,z0,z1,z2,z3,z4,z5,z6,z7,z8,z9,z10⟩
 have HB3:=hid z0
 have K1:=hid z1
 have K2:=hid z2
 have K3:=hid z3
 have K4:=hid z4
 have K5:=hid z5
 have T1:=hid z6
 have T2:=hid z7
 have RX:=hid z8
 have RY:=hid z9
 have R10xW3:=z10
 clear z0 z1 z2 z3 z4 z5 z6 z7 z8 z9 z10
 simp only[putL,List.setIfInBounds_toArray,List.set_cons_zero,List.set_cons_succ]
 go_wp2_with fail
 refine aI (fun a0 a' V=>∃ u0i u0j u0k u0l u05 u06 u07 u08,a'=⟨putL [(41,.agg #[.bool (ag x),.slice u00 (aa x) u01]),(42,.agg #[.bool (ag y),.slice u02 (aa y) u03]),(43,.agg #[.bool (ag z),.slice u0i (aa z) u0j]),(44,.pointer (some ⟨w.heap.size,2,none⟩)),(45,.slice s1 (ae en1) d1),(46,.pointer (some ⟨w.heap.size+1,2,none⟩)),(47,.slice s2 (ae en2) d2),(48,.slice u0k (ae en) u0l),(49,.agg #[.bool (ag n),.slice u05 (aa n) u06,.slice u07 (ae dn) u08])] a0.tmps,a0.defers⟩∧Below w.heap.size w V∧SBk V (w.heap.size+1+1) #[.bool (ag n),.slice u05 (aa n) u06,.slice u07 (ae dn) u08] 55∧RN V (.slice u05 (aa n) u06) (n).natAbs∧RN V (.slice u07 (ae dn) u08) (dn)) ?_ ?_
 · refine aF (by kernel_rfl) 9 1 (fun i=>[41,42,43,44,45,46,47,48,49].getD i 0) (RelR [Rel.val (.agg #[.bool (ag x),.slice u00 (aa x) u01]),Rel.val (.agg #[.bool (ag y),.slice u02 (aa y) u03]),Rel.int z,Rel.val (.pointer (some ⟨w.heap.size,2,none⟩)),Rel.val (.slice s1 (ae en1) d1),Rel.val (.pointer (some ⟨w.heap.size+1,2,none⟩)),Rel.val (.slice s2 (ae en2) d2),Rel.nat en,⟨fun v W=>∃ p c s d,v=.agg #[.bool (ag n),.slice p (aa n) c,.slice s (ae dn) d]∧RN W (.slice p (aa n) c) (n).natAbs∧RN W (.slice s (ae dn) d) (dn),fun _ _ _ ⟨p,c,s,d,e,h0,h1⟩ hb=>⟨p,c,s,d,e,h0.below hb,h1.below hb⟩⟩]) (fun W=>Below W3.heap.size W3 W) (fun _ _=>True) (by kernel_rfl) (by kernel_rfl) (by kernel_rfl) trivial (Below.refl _ _).drew ?_ ?_
   · intro listed a W i hI hD hrd him
     have HI:=hid hI
     have HD:=hid hD
     have Hr:=hid hrd
     clear hI hrd hD
     have y5:a.tmps[5]? = some (.pointer (some ⟨u04,0,none⟩)):=HI.out.rest 5 (by decide)
     have y6:a.tmps[6]? = some (.pointer (some ⟨u0d,0,none⟩)):=HI.out.rest 6 (by decide)
     have y2:a.tmps[2]? = some (.pointer (some ⟨w.heap.size,0,none⟩)):=HI.out.rest 2 (by decide)
     have y3:a.tmps[3]? = some (.pointer (some ⟨w.heap.size+1,0,none⟩)):=HI.out.rest 3 (by decide)
     have dK40:=(K4.out.below HI.out.world).cell (i:=0) rfl
     have dK41:=(K4.out.below HI.out.world).cell (i:=1) rfl
     have dK50:=(K5.out.below HI.out.world).cell (i:=0) rfl
     have dK51:=(K5.out.below HI.out.world).cell (i:=1) rfl
     have dK12:=(K1.out.below HI.out.world).cell (i:=2) rfl
     have dK22:=(K2.out.below HI.out.world).cell (i:=2) rfl
     have X0:RV _ listed a 0 41 (.agg #[.bool (ag x),.slice u00 (aa x) u01]):=HI.out.rh
     have X1:RV _ listed a 1 42 (.agg #[.bool (ag y),.slice u02 (aa y) u03]):=HI.out.rh
     have X3:RV _ listed a 3 44 (.pointer (some ⟨w.heap.size,2,none⟩)):=HI.out.rh
     have X5:RV _ listed a 5 46 (.pointer (some ⟨w.heap.size+1,2,none⟩)):=HI.out.rh
     have X4:RV _ listed a 4 45 (.slice s1 (ae en1) d1):=HI.out.rh
     have X6:RV _ listed a 6 47 (.slice s2 (ae en2) d2):=HI.out.rh
     match i,him,Hr with
     | 0,_,Hi =>
       refine au rfl fun K' hK=>?_
       go_simp
       exact hK.out _ _ ⟨HI.out.pv Hi.out rfl,trivial⟩
     | 1,_,Hi =>
       refine au rfl fun K' hK=>?_
       go_simp
       exact hK.out _ _ ⟨HI.out.pv Hi.out rfl,trivial⟩
     | 2,_,Hi =>
       have x0:=X0.g Hi.out (by kernel_rfl)
       have x1:=X1.g Hi.out (by kernel_rfl)
       refine au rfl fun K' hK=>?_
       go_simp
       with_reducible refine(C5.out _ _ _ _ _ (RX.out.below HI.out.world) (RY.out.below HI.out.world)).mono ?_
       rintro e W' ⟨u0i,u0j,rfl,u0s,hb⟩
       exact hK.out _ _ ⟨HI.out.pc Hi.out hb ⟨u0i,u0j,rfl,u0s⟩,trivial⟩
     | 3,_,Hi =>
       refine au rfl fun K' hK=>?_
       go_simp
       exact hK.out _ _ ⟨HI.out.pv Hi.out rfl,trivial⟩
     | 4,_,Hi =>
       have x3:=X3.g Hi.out (by kernel_rfl)
       refine au rfl fun K' hK=>?_
       go_simp
       exact hK.out _ _ ⟨HI.out.pv Hi.out rfl,trivial⟩
     | 5,_,Hi =>
       refine au rfl fun K' hK=>?_
       go_simp
       exact hK.out _ _ ⟨HI.out.pv Hi.out rfl,trivial⟩
     | 6,_,Hi =>
       have x5:=X5.g Hi.out (by kernel_rfl)
       refine au rfl fun K' hK=>?_
       go_simp
       exact hK.out _ _ ⟨HI.out.pv Hi.out rfl,trivial⟩
     | 7,_,Hi =>
       have x4:=X4.g Hi.out (by kernel_rfl)
       have x6:=X6.g Hi.out (by kernel_rfl)
       refine au rfl fun K' hK=>?_
       go_simp
       with_reducible refine(C6.out _ _ _ _ _ (T1.out.below HI.out.world) (T2.out.below HI.out.world)).mono ?_
       rintro e W' ⟨u0k,u0l,rfl,u0t,hb⟩
       exact hK.out _ _ ⟨HI.out.pc Hi.out hb ⟨u0k,u0l,rfl,u0t⟩,trivial⟩
     | 8,_,Hi =>
       obtain⟨v',x2,u0i,u0j,e,u0s⟩:=HI.out.at (i:=2) Hi.out (by kernel_rfl) (by decide)
       obtain rfl:=e
       have x2:a.tmps[43]? = some (.agg #[.bool (ag z),.slice u0i (aa z) u0j]):=x2
       have u0G:=hid u0s
       clear u0s
       obtain⟨v',x7,u0k,u0l,e,u0t⟩:=HI.out.at (i:=7) Hi.out (by kernel_rfl) (by decide)
       obtain rfl:=e
       have x7:a.tmps[48]? = some (.slice u0k (ae en) u0l):=x7
       have u0H:=hid u0t
       clear u0t
       refine au rfl fun K' hK=>?_
       go_simp
       with_reducible refine(C7.out _ _ _ _ _ u0G.out u0H.out).mono ?_
       rintro e W' ⟨u05,u06,u07,u08,rfl,u0A,u0B,hb⟩
       exact hK.out _ _ ⟨HI.out.pc Hi.out hb ⟨u05,u06,u07,u08,rfl,u0A,u0B⟩,trivial⟩
     | n+9,h,_=>exact absurd h (by omega)
   · intro listed a W hI hD hall
     obtain⟨v',x2,u0i,u0j,e,u0s⟩:=hI.slots 2 (by decide) (hall 2 (by decide))
     obtain rfl:=e
     have u0G:=hid u0s
     clear u0s
     obtain⟨v',x7,u0k,u0l,e,u0t⟩:=hI.slots 7 (by decide) (hall 7 (by decide))
     obtain rfl:=e
     have u0H:=hid u0t
     clear u0t
     obtain⟨v',x8,u05,u06,u07,u08,e,u0A,u0B⟩:=hI.slots 8 (by decide) (hall 8 (by decide))
     obtain rfl:=e
     have u0S:=hid u0A
     clear u0A
     have u0T:=hid u0B
     clear u0B
     have x8:a.tmps[49]? = some (.agg #[.bool (ag n),.slice u05 (aa n) u06,.slice u07 (ae dn) u08]):=x8
     have HBW:=hid hI.world
     have HI:=hid hI
     have HA:=hid hall
     clear hI hall
     have K3:=hid (K3.out.below HBW.out)
     have HBX:=hid (HB3.out.trans (HBW.out.mono HB3.out.size))
     have RZ:=u0G
     have RE:=u0H
     have RQ:=u0S
     have TQ:=u0T
     have y4:a.tmps[4]? = some (.pointer (some ⟨w.heap.size+1+1,0,none⟩)):=HI.out.rest 4 (by decide)
     have dK30:=K3.out.cell (i:=0) rfl
     have fK30:=K3.out.frozen (i:=0)
     have dK31:=K3.out.cell (i:=1) rfl
     have fK31:=K3.out.frozen (i:=1)
     have dK32:=K3.out.cell (i:=2) rfl
     have fK32:=K3.out.frozen (i:=2)
     refine aS (t:=0) ?_
     refine au rfl fun K' hK=>?_
     go_simp
     refine hK.out _ _ ?_
     clear hK
     refine bD ?_
     have s0:∀ {v':Value} {n':Nat},RN W v' n'→RN (storeAll W (w.heap.size+1+1) 0 [.bool (ag n),.slice u05 (aa n) u06,.slice u07 (ae dn) u08]) v' n':=fun h'=>aG _ h' K3.out (by simp[bG]) (by simp[aV])
     exact⟨rfl,u0i,u0j,u0k,u0l,u05,u06,u07,u08,(HI.out.finx ⟨HI.out.sx HA.out 0,HI.out.sx HA.out 1,x2,HI.out.sx HA.out 3,HI.out.sx HA.out 4,HI.out.sx HA.out 5,HI.out.sx HA.out 6,x7,x8,trivial⟩ rfl),(az (l:=[.bool (ag n),.slice u05 (aa n) u06,.slice u07 (ae dn) u08]) (i:=0) (by omega) HBX.out),(aX (l:=[.bool (ag n),.slice u05 (aa n) u06,.slice u07 (ae dn) u08]) (i:=0) K3.out),(s0 RQ.out),(s0 TQ.out)⟩
 rintro a' W4 ⟨u0i,u0j,u0k,u0l,u05,u06,u07,u08,rfl,z0,z1,z2,z3⟩
 have HB4:=hid z0
 have K3:=hid z1
 have RQ:=hid z2
 have TQ:=hid z3
 clear z0 z1 z2 z3
 simp only[putL,List.setIfInBounds_toArray,List.set_cons_zero,List.set_cons_succ]
 go_wp2
 have dK30:=K3.out.cell (i:=0) rfl
 have dK31:=K3.out.cell (i:=1) rfl
 have dK32:=K3.out.cell (i:=2) rfl
 exact bodyPost_ret (v:=.agg #[.bool (ag n),.slice u05 (aa n) u06,.slice u07 (ae dn) u08]) (by simp[results,Tryz.results50,go_sem,dK30,dK31,dK32]) rfl ⟨_,_,_,_,rfl,RQ.out,TQ.out,HB4.out⟩
end Go.Proofs.YtmigpoiajkihhaaGreatDoor
set_option maxRecDepth 100000
set_option maxHeartbeats 20000000
open Go.Lib (hid)
namespace Go.Proofs.YtmigpoiajkihhaaGreatDoor
open Go.RowKit Go.Gb
theorem z16 (n1 n2 m n:Int)(en1 en2 f dn:Nat)(p1:Option Addr)(c1:Nat)(s1:Option Addr)(d1:Nat)(p2:Option Addr)(c2:Nat)(s2:Option Addr)(d2:Nat)(w:World)(h1:∀ p1 c1 s1 d1 W,RN W (.slice p1 (aa n2) c1) n2.natAbs→RN W (.slice s1 (ae en2) d1) en2→CF 75 #[.agg #[.bool (ag n2),.slice p1 (aa n2) c1,.slice s1 (ae en2) d1]] W m f)(h2:∀ p1 c1 s1 d1 p2 c2 s2 d2 W,RN W (.slice p1 (aa n1) c1) n1.natAbs→RN W (.slice s1 (ae en1) d1) en1→RN W (.slice p2 (aa m) c2) m.natAbs→RN W (.slice s2 (ae f) d2) f→CF 50 #[.agg #[.bool (ag n1),.slice p1 (aa n1) c1,.slice s1 (ae en1) d1],.agg #[.bool (ag m),.slice p2 (aa m) c2,.slice s2 (ae f) d2]] W n dn)(r1:RN w (.slice p1 (aa n1) c1) n1.natAbs)(t1:RN w (.slice s1 (ae en1) d1) en1)(r2:RN w (.slice p2 (aa n2) c2) n2.natAbs)(t2:RN w (.slice s2 (ae en2) d2) en2) :
 CF 51 #[.agg #[.bool (ag n1),.slice p1 (aa n1) c1,.slice s1 (ae en1) d1],.agg #[.bool (ag n2),.slice p2 (aa n2) c2,.slice s2 (ae en2) d2]] w n dn:=by
 have C1:=hid h1
 have C2:=hid h2
 have R1:=hid r1
 have T1:=hid t1
 have R2:=hid r2
 have T2:=hid t2
 clear h1 h2 r1 t1 r2 t2
 go_enter Tryz.func51,Tryz.ntmps51
 go_upto_region 1 with fail
 refine aK w [(#[.bool (ag n1),.slice p1 (aa n1) c1,.slice s1 (ae en1) d1],55),(#[.bool (ag n2),.slice p2 (aa n2) c2,.slice s2 (ae en2) d2],55),(#[.bool false,.slice none 0 0,.slice none 0 0],55)] rfl ?_
 rintro W0 ⟨k1,k2,k3,hb⟩
 have HB0:=hid (show Below w.heap.size w W0 from hb)
 have R1:=hid (R1.out.below HB0.out)
 have T1:=hid (T1.out.below HB0.out)
 have R2:=hid (R2.out.below HB0.out)
 have T2:=hid (T2.out.below HB0.out)
 have K1:=hid k1
 have K2:=hid k2
 have K3:=hid k3
 clear k1 k2 k3 hb
 go_wp2_with fail
 refine aI (fun a0 a' V=>∃ u0m u0n u0o u0p u09 u0a u0b u0c,a'=⟨putL [(5,.agg #[.bool (ag n1),.slice p1 (aa n1) c1,.slice s1 (ae en1) d1]),(6,.agg #[.bool (ag n2),.slice p2 (aa n2) c2,.slice s2 (ae en2) d2]),(7,.agg #[.bool (ag m),.slice u0m (aa m) u0n,.slice u0o (ae f) u0p]),(8,.agg #[.bool (ag n),.slice u09 (aa n) u0a,.slice u0b (ae dn) u0c])] a0.tmps,a0.defers⟩∧Below w.heap.size w V∧SBk V (w.heap.size+1+1) #[.bool (ag n),.slice u09 (aa n) u0a,.slice u0b (ae dn) u0c] 55∧RN V (.slice u09 (aa n) u0a) (n).natAbs∧RN V (.slice u0b (ae dn) u0c) (dn)) ?_ ?_
 · refine aF (by kernel_rfl) 4 1 (fun i=>[5,6,7,8].getD i 0) (RelR [Rel.val (.agg #[.bool (ag n1),.slice p1 (aa n1) c1,.slice s1 (ae en1) d1]),Rel.val (.agg #[.bool (ag n2),.slice p2 (aa n2) c2,.slice s2 (ae en2) d2]),⟨fun v W=>∃ p c s d,v=.agg #[.bool (ag m),.slice p (aa m) c,.slice s (ae f) d]∧RN W (.slice p (aa m) c) (m).natAbs∧RN W (.slice s (ae f) d) (f),fun _ _ _ ⟨p,c,s,d,e,h0,h1⟩ hb=>⟨p,c,s,d,e,h0.below hb,h1.below hb⟩⟩,⟨fun v W=>∃ p c s d,v=.agg #[.bool (ag n),.slice p (aa n) c,.slice s (ae dn) d]∧RN W (.slice p (aa n) c) (n).natAbs∧RN W (.slice s (ae dn) d) (dn),fun _ _ _ ⟨p,c,s,d,e,h0,h1⟩ hb=>⟨p,c,s,d,e,h0.below hb,h1.below hb⟩⟩]) (fun W=>Below W0.heap.size W0 W) (fun _ _=>True) (by kernel_rfl) (by kernel_rfl) (by kernel_rfl) trivial (Below.refl _ _).drew ?_ ?_
   · intro listed a W i hI hD hrd him
     have HI:=hid hI
     have HD:=hid hD
     have Hr:=hid hrd
     clear hI hrd hD
     have y2:a.tmps[2]? = some (.pointer (some ⟨w.heap.size,0,none⟩)):=HI.out.rest 2 (by decide)
     have y3:a.tmps[3]? = some (.pointer (some ⟨w.heap.size+1,0,none⟩)):=HI.out.rest 3 (by decide)
     have dK10:=(K1.out.below HI.out.world).cell (i:=0) rfl
     have dK11:=(K1.out.below HI.out.world).cell (i:=1) rfl
     have dK12:=(K1.out.below HI.out.world).cell (i:=2) rfl
     have dK20:=(K2.out.below HI.out.world).cell (i:=0) rfl
     have dK21:=(K2.out.below HI.out.world).cell (i:=1) rfl
     have dK22:=(K2.out.below HI.out.world).cell (i:=2) rfl
     have X1:RV _ listed a 1 6 (.agg #[.bool (ag n2),.slice p2 (aa n2) c2,.slice s2 (ae en2) d2]):=HI.out.rh
     have X0:RV _ listed a 0 5 (.agg #[.bool (ag n1),.slice p1 (aa n1) c1,.slice s1 (ae en1) d1]):=HI.out.rh
     match i,him,Hr with
     | 0,_,Hi =>
       refine au rfl fun K' hK=>?_
       go_simp
       exact hK.out _ _ ⟨HI.out.pv Hi.out rfl,trivial⟩
     | 1,_,Hi =>
       refine au rfl fun K' hK=>?_
       go_simp
       exact hK.out _ _ ⟨HI.out.pv Hi.out rfl,trivial⟩
     | 2,_,Hi =>
       have x1:=X1.g Hi.out (by kernel_rfl)
       refine au rfl fun K' hK=>?_
       go_simp
       with_reducible refine(C1.out _ _ _ _ _ (R2.out.below HI.out.world) (T2.out.below HI.out.world)).mono ?_
       rintro e W' ⟨u0m,u0n,u0o,u0p,rfl,u0u,u0v,hb⟩
       exact hK.out _ _ ⟨HI.out.pc Hi.out hb ⟨u0m,u0n,u0o,u0p,rfl,u0u,u0v⟩,trivial⟩
     | 3,_,Hi =>
       have x0:=X0.g Hi.out (by kernel_rfl)
       obtain⟨v',x2,u0m,u0n,u0o,u0p,e,u0u,u0v⟩:=HI.out.at (i:=2) Hi.out (by kernel_rfl) (by decide)
       obtain rfl:=e
       have x2:a.tmps[7]? = some (.agg #[.bool (ag m),.slice u0m (aa m) u0n,.slice u0o (ae f) u0p]):=x2
       have u0I:=hid u0u
       clear u0u
       have u0J:=hid u0v
       clear u0v
       refine au rfl fun K' hK=>?_
       go_simp
       with_reducible refine(C2.out _ _ _ _ _ _ _ _ _ (R1.out.below HI.out.world) (T1.out.below HI.out.world) u0I.out u0J.out).mono ?_
       rintro e W' ⟨u09,u0a,u0b,u0c,rfl,u0C,u0D,hb⟩
       exact hK.out _ _ ⟨HI.out.pc Hi.out hb ⟨u09,u0a,u0b,u0c,rfl,u0C,u0D⟩,trivial⟩
     | n+4,h,_=>exact absurd h (by omega)
   · intro listed a W hI hD hall
     obtain⟨v',x2,u0m,u0n,u0o,u0p,e,u0u,u0v⟩:=hI.slots 2 (by decide) (hall 2 (by decide))
     obtain rfl:=e
     have u0I:=hid u0u
     clear u0u
     have u0J:=hid u0v
     clear u0v
     obtain⟨v',x3,u09,u0a,u0b,u0c,e,u0C,u0D⟩:=hI.slots 3 (by decide) (hall 3 (by decide))
     obtain rfl:=e
     have u0U:=hid u0C
     clear u0C
     have u0V:=hid u0D
     clear u0D
     have x3:a.tmps[8]? = some (.agg #[.bool (ag n),.slice u09 (aa n) u0a,.slice u0b (ae dn) u0c]):=x3
     have HBW:=hid hI.world
     have HI:=hid hI
     have HA:=hid hall
     clear hI hall
     have K3:=hid (K3.out.below HBW.out)
     have HBX:=hid (HB0.out.trans (HBW.out.mono HB0.out.size))
     have RM:=u0I
     have TM:=u0J
     have RQ:=u0U
     have TQ:=u0V
     have y4:a.tmps[4]? = some (.pointer (some ⟨w.heap.size+1+1,0,none⟩)):=HI.out.rest 4 (by decide)
     have dK30:=K3.out.cell (i:=0) rfl
     have fK30:=K3.out.frozen (i:=0)
     have dK31:=K3.out.cell (i:=1) rfl
     have fK31:=K3.out.frozen (i:=1)
     have dK32:=K3.out.cell (i:=2) rfl
     have fK32:=K3.out.frozen (i:=2)
     refine aS (t:=0) ?_
     refine au rfl fun K' hK=>?_
     go_simp
     refine hK.out _ _ ?_
     clear hK
     refine bD ?_
     have s0:∀ {v':Value} {n':Nat},RN W v' n'→RN (storeAll W (w.heap.size+1+1) 0 [.bool (ag n),.slice u09 (aa n) u0a,.slice u0b (ae dn) u0c]) v' n':=fun h'=>aG _ h' K3.out (by simp[bG]) (by simp[aV])
     exact⟨rfl,u0m,u0n,u0o,u0p,u09,u0a,u0b,u0c,(HI.out.finx ⟨HI.out.sx HA.out 0,HI.out.sx HA.out 1,x2,x3,trivial⟩ rfl),(az (l:=[.bool (ag n),.slice u09 (aa n) u0a,.slice u0b (ae dn) u0c]) (i:=0) (by omega) HBX.out),(aX (l:=[.bool (ag n),.slice u09 (aa n) u0a,.slice u0b (ae dn) u0c]) (i:=0) K3.out),(s0 RQ.out),(s0 TQ.out)⟩
 rintro a' W1 ⟨u0m,u0n,u0o,u0p,u09,u0a,u0b,u0c,rfl,z0,z1,z2,z3⟩
 have HB1:=hid z0
 have K3:=hid z1
 have RQ:=hid z2
 have TQ:=hid z3
 clear z0 z1 z2 z3
 simp only[putL,List.setIfInBounds_toArray,List.set_cons_zero,List.set_cons_succ]
 go_wp2
 have dK30:=K3.out.cell (i:=0) rfl
 have dK31:=K3.out.cell (i:=1) rfl
 have dK32:=K3.out.cell (i:=2) rfl
 exact bodyPost_ret (v:=.agg #[.bool (ag n),.slice u09 (aa n) u0a,.slice u0b (ae dn) u0c]) (by simp[results,Tryz.results51,go_sem,dK30,dK31,dK32]) rfl ⟨_,_,_,_,rfl,RQ.out,TQ.out,HB1.out⟩
end Go.Proofs.YtmigpoiajkihhaaGreatDoor
