/- garboardref03: Valid, Parts, Make, Whole, Frac, Floor: walks over the contracts of what they call. -/
import Derived.Test.YtmigpoiajkihhaaGreatDoorMz41q
set_option maxRecDepth 100000
set_option maxHeartbeats 20000000
open Go.Lib (hid)
namespace Go.Proofs.YtmigpoiajkihhaaGreatDoor
open Go.RowKit Go.Gb
theorem yB (n m q r:Int)(en:Nat)(p1:Option Addr)(c1:Nat)(s1:Option Addr)(d1:Nat)(w:World)(h1:∀ s2 d2 W,RN W (.slice s2 (ae en) d2) en→CZ 41 #[.bool false,.slice s2 (ae en) d2] W m)(h2:∀ p1 c1 p2 c2 W,RN W (.slice p1 (aa n) c1) n.natAbs→RN W (.slice p2 (aa m) c2) m.natAbs→Calls Tryz.prog 106 #[.agg #[.bool (ag n),.slice p1 (aa n) c1],.agg #[.bool (ag m),.slice p2 (aa m) c2]] W fun e w'=>∃ p c p' c',e=.returned (.tuple #[.agg #[.bool (ag q),.slice p (aa q) c],.agg #[.bool (ag r),.slice p' (aa r) c']])∧RN w' (.slice p (aa q) c) q.natAbs∧RN w' (.slice p' (aa r) c') r.natAbs∧Below W.heap.size W w')(r1:RN w (.slice p1 (aa n) c1) n.natAbs)(t1:RN w (.slice s1 (ae en) d1) en) :
 CZ 57 #[.agg #[.bool (ag n),.slice p1 (aa n) c1,.slice s1 (ae en) d1]] w q:=by
 have C1:=hid h1
 have C2:=hid h2
 have R1:=hid r1
 have T1:=hid t1
 clear h1 h2 r1 t1
 go_enter Tryz.func57,Tryz.ntmps57
 go_upto_region 1 with fail
 refine aK w [(#[.bool (ag n),.slice p1 (aa n) c1,.slice s1 (ae en) d1],55),(#[.bool false,.slice none 0 0],50)] rfl ?_
 rintro W0 ⟨k1,k2,hb⟩
 have HB0:=hid (show Below w.heap.size w W0 from hb)
 have R1:=hid (R1.out.below HB0.out)
 have T1:=hid (T1.out.below HB0.out)
 have K1:=hid k1
 have K2:=hid k2
 clear k1 k2 hb
 go_wp2_with fail
 have L1:=K1.out.lt
 have L2:=K2.out.lt
 have L3:=HB0.out.size
 refine aI (fun a0 a' V=>∃ u0e u0f u0a u0b u0c u0d u08 u09 u03 u04 u00 u01 u0l u0m u02 u05,a'=⟨putL [(6,.pointer (some ⟨w.heap.size,0,none⟩)),(7,.agg #[.bool (ag n),.slice p1 (aa n) c1]),(8,.pointer (some ⟨w.heap.size,2,none⟩)),(9,.slice s1 (ae en) d1),(10,.agg #[.bool (ag m),.slice u0e (aa m) u0f]),(11,.tuple #[.agg #[.bool (ag q),.slice u0a (aa q) u0b],.agg #[.bool (ag r),.slice u0c (aa r) u0d]]),(5,.tuple #[.agg #[.bool (ag q),.slice u08 (aa q) u09],.agg #[.bool (ag r),.slice u03 (aa r) u04]]),(12,.agg #[.bool (ag q),.slice u00 (aa q) u01]),(13,.agg #[.bool (ag r),.slice u0l (aa r) u0m]),(3,.pointer (some ⟨u02,0,none⟩)),(4,.pointer (some ⟨u05,0,none⟩))] a0.tmps,a0.defers⟩∧Below w.heap.size w V∧SBk V (w.heap.size+1) #[.bool false,.slice none 0 0] 50∧SBk V (u02) #[.bool (ag q),.slice u00 (aa q) u01] 50∧RN V (.slice u00 (aa q) u01) q.natAbs∧W0.heap.size≤u02∧W0.heap.size≤u05∧u02≠u05) ?_ ?_
 · refine gX (by kernel_rfl) 11 1 8 (fun i=>[6,7,8,9,10,11,5,12,13,3,4].getD i 0) (RelR [Rel.val (.pointer (some ⟨w.heap.size,0,none⟩)),Rel.val (.agg #[.bool (ag n),.slice p1 (aa n) c1]),Rel.val (.pointer (some ⟨w.heap.size,2,none⟩)),Rel.val (.slice s1 (ae en) d1),Rel.int m,Rel.int2 q r,Rel.int2 q r,Rel.int q,Rel.int r,Rel.ptr W0.heap.size (.cells #[.bool false,.slice none 0 0] 50),Rel.ptr W0.heap.size (.cells #[.bool false,.slice none 0 0] 50)]) (fun W=>Below W0.heap.size W0 W) (Dst 9 10 (fun i=>[6,7,8,9,10,11,5,12,13,3,4].getD i 0)) (by decide) (by decide) (by kernel_rfl) (by kernel_rfl) (by kernel_rfl) (by kernel_rfl) Dst.start (Below.refl _ _).drew ?_ ?_ ?_
   · intro listed a W i hI hD hrd him
     have HI:=hid hI
     have HD:=hid hD
     have Hr:=hid hrd
     clear hI hrd hD
     have y1:a.tmps[1]? = some (.pointer (some ⟨w.heap.size,0,none⟩)):=HI.out.rest 1 (by decide)
     have dK10:=(K1.out.below HI.out.world).cell (i:=0) rfl
     have dK11:=(K1.out.below HI.out.world).cell (i:=1) rfl
     have dK12:=(K1.out.below HI.out.world).cell (i:=2) rfl
     have X0:RV _ listed a 0 6 (.pointer (some ⟨w.heap.size,0,none⟩)):=HI.out.rh
     have X2:RV _ listed a 2 8 (.pointer (some ⟨w.heap.size,2,none⟩)):=HI.out.rh
     have X3:RV _ listed a 3 9 (.slice s1 (ae en) d1):=HI.out.rh
     have X1:RV _ listed a 1 7 (.agg #[.bool (ag n),.slice p1 (aa n) c1]):=HI.out.rh
     match i,him,Hr with
     | 0,_,Hi =>
       refine au rfl fun K' hK=>?_
       go_simp
       exact hK.out _ _ ⟨HI.out.pv Hi.out rfl,HD.out.put (by decide) (by decide) rfl (by decide) (by decide)⟩
     | 1,_,Hi =>
       have x0:=X0.g Hi.out (by kernel_rfl)
       refine au rfl fun K' hK=>?_
       go_simp
       exact hK.out _ _ ⟨HI.out.pv Hi.out rfl,HD.out.put (by decide) (by decide) rfl (by decide) (by decide)⟩
     | 2,_,Hi =>
       refine au rfl fun K' hK=>?_
       go_simp
       exact hK.out _ _ ⟨HI.out.pv Hi.out rfl,HD.out.put (by decide) (by decide) rfl (by decide) (by decide)⟩
     | 3,_,Hi =>
       have x2:=X2.g Hi.out (by kernel_rfl)
       refine au rfl fun K' hK=>?_
       go_simp
       exact hK.out _ _ ⟨HI.out.pv Hi.out rfl,HD.out.put (by decide) (by decide) rfl (by decide) (by decide)⟩
     | 4,_,Hi =>
       have x3:=X3.g Hi.out (by kernel_rfl)
       refine au rfl fun K' hK=>?_
       go_simp
       with_reducible refine(C1.out _ _ _ (T1.out.below HI.out.world)).mono ?_
       rintro e W' ⟨u0e,u0f,rfl,u0i,hb⟩
       exact hK.out _ _ ⟨HI.out.pc Hi.out hb ⟨u0e,u0f,rfl,u0i⟩,HD.out.put (by decide) (by decide) rfl (by decide) (by decide)⟩
     | 5,_,Hi =>
       have x1:=X1.g Hi.out (by kernel_rfl)
       obtain⟨v',x4,u0e,u0f,e,u0i⟩:=HI.out.at (i:=4) Hi.out (by kernel_rfl) (by decide)
       obtain rfl:=e
       have x4:a.tmps[10]? = some (.agg #[.bool (ag m),.slice u0e (aa m) u0f]):=x4
       have u0n:=hid u0i
       clear u0i
       refine au rfl fun K' hK=>?_
       go_simp
       with_reducible refine(C2.out _ _ _ _ _ (R1.out.below HI.out.world) u0n.out).mono ?_
       rintro e W' ⟨u0a,u0b,u0c,u0d,rfl,u0j,u0k,hb⟩
       exact hK.out _ _ ⟨HI.out.pc Hi.out hb ⟨u0a,u0b,u0c,u0d,rfl,u0j,u0k⟩,HD.out.put (by decide) (by decide) rfl (by decide) (by decide)⟩
     | 6,_,Hi =>
       obtain⟨v',x5,u0a,u0b,u0c,u0d,e,u0j,u0k⟩:=HI.out.at (i:=5) Hi.out (by kernel_rfl) (by decide)
       obtain rfl:=e
       have x5:a.tmps[11]? = some (.tuple #[.agg #[.bool (ag q),.slice u0a (aa q) u0b],.agg #[.bool (ag r),.slice u0c (aa r) u0d]]):=x5
       have u0v:=hid u0j
       clear u0j
       have u0w:=hid u0k
       clear u0k
       refine au rfl fun K' hK=>?_
       go_simp
       exact hK.out _ _ ⟨HI.out.pv Hi.out ⟨u0a,u0b,u0c,u0d,rfl,u0v.out,u0w.out⟩,HD.out.put (by decide) (by decide) rfl (by decide) (by decide)⟩
     | 7,_,Hi =>
       obtain⟨v',x6,u08,u09,u03,u04,e,u0g,u0h⟩:=HI.out.at (i:=6) Hi.out (by kernel_rfl) (by decide)
       obtain rfl:=e
       have x6:a.tmps[5]? = some (.tuple #[.agg #[.bool (ag q),.slice u08 (aa q) u09],.agg #[.bool (ag r),.slice u03 (aa r) u04]]):=x6
       have u0u:=hid u0g
       clear u0g
       have u0o:=hid u0h
       clear u0h
       refine au rfl fun K' hK=>?_
       go_simp
       exact hK.out _ _ ⟨HI.out.pv Hi.out ⟨u08,u09,rfl,u0u.out⟩,HD.out.put (by decide) (by decide) rfl (by decide) (by decide)⟩
     | 8,_,Hi =>
       obtain⟨v',x6,u08,u09,u03,u04,e,u0g,u0h⟩:=HI.out.at (i:=6) Hi.out (by kernel_rfl) (by decide)
       obtain rfl:=e
       have x6:a.tmps[5]? = some (.tuple #[.agg #[.bool (ag q),.slice u08 (aa q) u09],.agg #[.bool (ag r),.slice u03 (aa r) u04]]):=x6
       have u0u:=hid u0g
       clear u0g
       have u0o:=hid u0h
       clear u0h
       refine au rfl fun K' hK=>?_
       go_simp
       exact hK.out _ _ ⟨HI.out.pv Hi.out ⟨u03,u04,rfl,u0o.out⟩,HD.out.put (by decide) (by decide) rfl (by decide) (by decide)⟩
     | 9,_,Hi =>
       refine au rfl fun K' hK=>?_
       go_simp
       exact hK.out _ _ ⟨HI.out.pc Hi.out ((Below.refl W.heap.size W).alloc (Nat.le_refl _) (.cells #[.bool false,.slice none 0 0] 50)) ⟨W.heap.size,rfl,HI.out.world.size,SBk.new _ _ _⟩,Dst.left (by decide) rfl (by decide) (by rw[HI.out.tsize];simp) (HI.out.fresh (i:=10) (by decide) (fun _ _ h=>h))⟩
     | 10,_,Hi =>
       refine au rfl fun K' hK=>?_
       go_simp
       exact hK.out _ _ ⟨HI.out.pc Hi.out ((Below.refl W.heap.size W).alloc (Nat.le_refl _) (.cells #[.bool false,.slice none 0 0] 50)) ⟨W.heap.size,rfl,HI.out.world.size,SBk.new _ _ _⟩,Dst.right (by decide) rfl (by decide) (by rw[HI.out.tsize];simp) (HI.out.fresh (i:=9) (by decide) (fun _ _ h=>h))⟩
     | n+11,h,_=>exact absurd h (by omega)
   · intro listed a W hI hD hall
     obtain⟨v',x4,u0e,u0f,e,u0i⟩:=hI.slots 4 (by decide) (hall 4 (by decide))
     obtain rfl:=e
     have u0n:=hid u0i
     clear u0i
     obtain⟨v',x5,u0a,u0b,u0c,u0d,e,u0j,u0k⟩:=hI.slots 5 (by decide) (hall 5 (by decide))
     obtain rfl:=e
     have u0v:=hid u0j
     clear u0j
     have u0w:=hid u0k
     clear u0k
     obtain⟨v',x6,u08,u09,u03,u04,e,u0g,u0h⟩:=hI.slots 6 (by decide) (hall 6 (by decide))
     obtain rfl:=e
     have u0u:=hid u0g
     clear u0g
     have u0o:=hid u0h
     clear u0h
     obtain⟨v',x7,u00,u01,e,u0p⟩:=hI.slots 7 (by decide) (hall 7 (by decide))
     obtain rfl:=e
     have u0x:=hid u0p
     clear u0p
     have x7:a.tmps[12]? = some (.agg #[.bool (ag q),.slice u00 (aa q) u01]):=x7
     obtain⟨v',x8,u0l,u0m,e,u0A⟩:=hI.slots 8 (by decide) (hall 8 (by decide))
     obtain rfl:=e
     have u0B:=hid u0A
     clear u0A
     have x8:a.tmps[13]? = some (.agg #[.bool (ag r),.slice u0l (aa r) u0m]):=x8
     obtain⟨v',x9,u02,e,u0q,u0r⟩:=hI.slots 9 (by decide) (hall 9 (by decide))
     obtain rfl:=e
     have u06:=hid u0q
     clear u0q
     have u0y:=hid u0r
     clear u0r
     have x9:a.tmps[3]? = some (.pointer (some ⟨u02,0,none⟩)):=x9
     obtain⟨v',x10,u05,e,u0s,u0t⟩:=hI.slots 10 (by decide) (hall 10 (by decide))
     obtain rfl:=e
     have u07:=hid u0s
     clear u0s
     have u0z:=hid u0t
     clear u0t
     have x10:a.tmps[4]? = some (.pointer (some ⟨u05,0,none⟩)):=x10
     have hD:=hD (hall 9 (by decide)) (hall 10 (by decide))
     have hne:u02≠u05:=by
        intro e
        apply hD
        show a.tmps[3]? = a.tmps[4]?
        rw[x9,x10,e]
     have HNE:=hid hne
     clear hne hD
     have HBW:=hid hI.world
     have HI:=hid hI
     have HA:=hid hall
     clear hI hall
     have K2:=hid (K2.out.below HBW.out)
     have HBX:=hid (HB0.out.trans (HBW.out.mono HB0.out.size))
     have RM:=u0n
     have RQ:=u0x
     have RR:=u0B
     have K3:Hid (SBk W u02 #[.bool false,.slice none 0 0] 50):=u0y
     have K4:Hid (SBk W u05 #[.bool false,.slice none 0 0] 50):=u0z
     have dK30:=K3.out.cell (i:=0) rfl
     have fK30:=K3.out.frozen (i:=0)
     have dK31:=K3.out.cell (i:=1) rfl
     have fK31:=K3.out.frozen (i:=1)
     have dK40:=K4.out.cell (i:=0) rfl
     have fK40:=K4.out.frozen (i:=0)
     have dK41:=K4.out.cell (i:=1) rfl
     have fK41:=K4.out.frozen (i:=1)
     have ddK40:((W.setCell ⟨u02,0,none⟩ (.bool (ag q))).setCell ⟨u02,1,none⟩ (.slice u00 (aa q) u01)).cell? ⟨u05,0,none⟩=some (.bool false):=((aH (by have:=u06.out;have:=u07.out;have:=HNE.out;omega) (l:=[.bool (ag q),.slice u00 (aa q) u01]) (i:=0) K4.out)).cell (i:=0) rfl
     have ddK41:((W.setCell ⟨u02,0,none⟩ (.bool (ag q))).setCell ⟨u02,1,none⟩ (.slice u00 (aa q) u01)).cell? ⟨u05,1,none⟩=some (.slice none 0 0):=((aH (by have:=u06.out;have:=u07.out;have:=HNE.out;omega) (l:=[.bool (ag q),.slice u00 (aa q) u01]) (i:=0) K4.out)).cell (i:=1) rfl
     refine aS (t:=1) ?_
     refine au rfl fun K' hK=>?_
     go_simp
     refine hK.out _ _ ?_
     clear hK
     refine aS (t:=0) ?_
     refine au rfl fun K' hK=>?_
     go_simp
     refine hK.out _ _ ?_
     clear hK
     refine bD ?_
     have s0:∀ {v':Value} {n':Nat},RN W v' n'→RN (storeAll W (u02) 0 [.bool (ag q),.slice u00 (aa q) u01]) v' n':=fun h'=>aG _ h' K3.out (by simp[bG]) (by simp[aV])
     have o0:∀ {g':Nat} {cs':Array Value} {T':TypeId},g'≠u02→SBk W g' cs' T'→SBk (storeAll W (u02) 0 [.bool (ag q),.slice u00 (aa q) u01]) g' cs' T':=fun hg' h'=>aH hg' _ 0 h'
     have s1:∀ {v':Value} {n':Nat},RN (storeAll W (u02) 0 [.bool (ag q),.slice u00 (aa q) u01]) v' n'→RN (storeAll (storeAll W (u02) 0 [.bool (ag q),.slice u00 (aa q) u01]) (u05) 0 [.bool (ag r),.slice u0l (aa r) u0m]) v' n':=fun h'=>aG _ h' (o0 (by have:=u06.out;have:=u07.out;have:=HNE.out;omega) K4.out) (by simp[bG]) (by simp[aV])
     have o1:∀ {g':Nat} {cs':Array Value} {T':TypeId},g'≠u05→SBk (storeAll W (u02) 0 [.bool (ag q),.slice u00 (aa q) u01]) g' cs' T'→SBk (storeAll (storeAll W (u02) 0 [.bool (ag q),.slice u00 (aa q) u01]) (u05) 0 [.bool (ag r),.slice u0l (aa r) u0m]) g' cs' T':=fun hg' h'=>aH hg' _ 0 h'
     exact⟨rfl,u0e,u0f,u0a,u0b,u0c,u0d,u08,u09,u03,u04,u00,u01,u0l,u0m,u02,u05,(HI.out.finx ⟨HI.out.sx HA.out 0,HI.out.sx HA.out 1,HI.out.sx HA.out 2,HI.out.sx HA.out 3,x4,x5,x6,x7,x8,x9,x10,trivial⟩ rfl),(az (l:=[.bool (ag r),.slice u0l (aa r) u0m]) (i:=0) (by have:=u06.out;have:=u07.out;have:=HNE.out;omega) (az (l:=[.bool (ag q),.slice u00 (aa q) u01]) (i:=0) (by have:=u06.out;have:=u07.out;have:=HNE.out;omega) HBX.out)),(o1 (by have:=u06.out;have:=u07.out;have:=HNE.out;omega) (o0 (by have:=u06.out;have:=u07.out;have:=HNE.out;omega) K2.out)),(aH (by have:=u06.out;have:=u07.out;have:=HNE.out;omega) (l:=[.bool (ag r),.slice u0l (aa r) u0m]) (i:=0) (aX (l:=[.bool (ag q),.slice u00 (aa q) u01]) (i:=0) K3.out)),(s1 (s0 RQ.out)),u06.out,u07.out,HNE.out⟩
   · intro listed a W hI hD hall
     obtain⟨v',x4,u0e,u0f,e,u0i⟩:=hI.slots 4 (by decide) (hall 4 (by decide) (by decide))
     obtain rfl:=e
     have u0n:=hid u0i
     clear u0i
     obtain⟨v',x5,u0a,u0b,u0c,u0d,e,u0j,u0k⟩:=hI.slots 5 (by decide) (hall 5 (by decide) (by decide))
     obtain rfl:=e
     have u0v:=hid u0j
     clear u0j
     have u0w:=hid u0k
     clear u0k
     obtain⟨v',x6,u08,u09,u03,u04,e,u0g,u0h⟩:=hI.slots 6 (by decide) (hall 6 (by decide) (by decide))
     obtain rfl:=e
     have u0u:=hid u0g
     clear u0g
     have u0o:=hid u0h
     clear u0h
     obtain⟨v',x7,u00,u01,e,u0p⟩:=hI.slots 7 (by decide) (hall 7 (by decide) (by decide))
     obtain rfl:=e
     have u0x:=hid u0p
     clear u0p
     have x7:a.tmps[12]? = some (.agg #[.bool (ag q),.slice u00 (aa q) u01]):=x7
     obtain⟨v',x9,u02,e,u0q,u0r⟩:=hI.slots 9 (by decide) (hall 9 (by decide) (by decide))
     obtain rfl:=e
     have u06:=hid u0q
     clear u0q
     have u0y:=hid u0r
     clear u0r
     have x9:a.tmps[3]? = some (.pointer (some ⟨u02,0,none⟩)):=x9
     obtain⟨v',x10,u05,e,u0s,u0t⟩:=hI.slots 10 (by decide) (hall 10 (by decide) (by decide))
     obtain rfl:=e
     have u07:=hid u0s
     clear u0s
     have u0z:=hid u0t
     clear u0t
     have x10:a.tmps[4]? = some (.pointer (some ⟨u05,0,none⟩)):=x10
     have hD:=hD (hall 9 (by decide) (by decide)) (hall 10 (by decide) (by decide))
     have hne:u02≠u05:=by
        intro e
        apply hD
        show a.tmps[3]? = a.tmps[4]?
        rw[x9,x10,e]
     have HNE:=hid hne
     clear hne hD
     have HBW:=hid hI.world
     have HI:=hid hI
     have HA:=hid hall
     clear hI hall
     have K2:=hid (K2.out.below HBW.out)
     have HBX:=hid (HB0.out.trans (HBW.out.mono HB0.out.size))
     have RM:=u0n
     have RQ:=u0x
     have RR:=u0o
     have K3:Hid (SBk W u02 #[.bool false,.slice none 0 0] 50):=u0y
     have K4:Hid (SBk W u05 #[.bool false,.slice none 0 0] 50):=u0z
     have dK30:=K3.out.cell (i:=0) rfl
     have fK30:=K3.out.frozen (i:=0)
     have dK31:=K3.out.cell (i:=1) rfl
     have fK31:=K3.out.frozen (i:=1)
     have dK40:=K4.out.cell (i:=0) rfl
     have fK40:=K4.out.frozen (i:=0)
     have dK41:=K4.out.cell (i:=1) rfl
     have fK41:=K4.out.frozen (i:=1)
     have ddK40:((W.setCell ⟨u02,0,none⟩ (.bool (ag q))).setCell ⟨u02,1,none⟩ (.slice u00 (aa q) u01)).cell? ⟨u05,0,none⟩=some (.bool false):=((aH (by have:=u06.out;have:=u07.out;have:=HNE.out;omega) (l:=[.bool (ag q),.slice u00 (aa q) u01]) (i:=0) K4.out)).cell (i:=0) rfl
     have ddK41:((W.setCell ⟨u02,0,none⟩ (.bool (ag q))).setCell ⟨u02,1,none⟩ (.slice u00 (aa q) u01)).cell? ⟨u05,1,none⟩=some (.slice none 0 0):=((aH (by have:=u06.out;have:=u07.out;have:=HNE.out;omega) (l:=[.bool (ag q),.slice u00 (aa q) u01]) (i:=0) K4.out)).cell (i:=1) rfl
     have x6:a.tmps[5]? = some (.tuple #[.agg #[.bool (ag q),.slice u08 (aa q) u09],.agg #[.bool (ag r),.slice u03 (aa r) u04]]):=x6
     refine au rfl fun K' hK=>?_
     go_simp
     refine hK.out _ _ ?_
     clear hK
     refine au rfl fun K' hK=>?_
     go_simp
     refine hK.out (a.put (some 13) (.agg #[.bool (ag r),.slice u03 (aa r) u04])) _ ?_
     clear hK
     have z7:(a.put (some 13) (.agg #[.bool (ag r),.slice u03 (aa r) u04])).tmps[12]? = some (.agg #[.bool (ag q),.slice u00 (aa q) u01]):=(dP (by decide)).trans x7
     have z9:(a.put (some 13) (.agg #[.bool (ag r),.slice u03 (aa r) u04])).tmps[3]? = some (.pointer (some ⟨u02,0,none⟩)):=(dP (by decide)).trans x9
     have z10:(a.put (some 13) (.agg #[.bool (ag r),.slice u03 (aa r) u04])).tmps[4]? = some (.pointer (some ⟨u05,0,none⟩)):=(dP (by decide)).trans x10
     have z8:(a.put (some 13) (.agg #[.bool (ag r),.slice u03 (aa r) u04])).tmps[13]? = some (.agg #[.bool (ag r),.slice u03 (aa r) u04]):=jm (by rw[HI.out.tsize];simp)
     have EA:=hid (HI.out.finp (sd:=13) (v:=.agg #[.bool (ag r),.slice u03 (aa r) u04]) [(6,.pointer (some ⟨w.heap.size,0,none⟩)),(7,.agg #[.bool (ag n),.slice p1 (aa n) c1]),(8,.pointer (some ⟨w.heap.size,2,none⟩)),(9,.slice s1 (ae en) d1),(10,.agg #[.bool (ag m),.slice u0e (aa m) u0f]),(11,.tuple #[.agg #[.bool (ag q),.slice u0a (aa q) u0b],.agg #[.bool (ag r),.slice u0c (aa r) u0d]]),(5,.tuple #[.agg #[.bool (ag q),.slice u08 (aa q) u09],.agg #[.bool (ag r),.slice u03 (aa r) u04]]),(12,.agg #[.bool (ag q),.slice u00 (aa q) u01]),(13,.agg #[.bool (ag r),.slice u03 (aa r) u04]),(3,.pointer (some ⟨u02,0,none⟩)),(4,.pointer (some ⟨u05,0,none⟩))] ⟨(dP (d:=13) (e:=6) (by decide)).trans (HI.out.sy HA.out 0),(dP (d:=13) (e:=7) (by decide)).trans (HI.out.sy HA.out 1),(dP (d:=13) (e:=8) (by decide)).trans (HI.out.sy HA.out 2),(dP (d:=13) (e:=9) (by decide)).trans (HI.out.sy HA.out 3),(dP (d:=13) (e:=10) (by decide)).trans x4,(dP (d:=13) (e:=11) (by decide)).trans x5,(dP (d:=13) (e:=5) (by decide)).trans x6,(dP (d:=13) (e:=12) (by decide)).trans x7,jm (by rw[HI.out.tsize];simp),(dP (d:=13) (e:=3) (by decide)).trans x9,(dP (d:=13) (e:=4) (by decide)).trans x10,trivial⟩ rfl)
     clear x4 x5 x6 x7 x9 x10
     generalize a.put (some 13) (.agg #[.bool (ag r),.slice u03 (aa r) u04])=a2 at *
     refine aS (t:=0) ?_
     refine au rfl fun K' hK=>?_
     go_simp
     refine hK.out _ _ ?_
     clear hK
     refine bD ?_
     have s0:∀ {v':Value} {n':Nat},RN W v' n'→RN (storeAll W (u02) 0 [.bool (ag q),.slice u00 (aa q) u01]) v' n':=fun h'=>aG _ h' K3.out (by simp[bG]) (by simp[aV])
     have o0:∀ {g':Nat} {cs':Array Value} {T':TypeId},g'≠u02→SBk W g' cs' T'→SBk (storeAll W (u02) 0 [.bool (ag q),.slice u00 (aa q) u01]) g' cs' T':=fun hg' h'=>aH hg' _ 0 h'
     have s1:∀ {v':Value} {n':Nat},RN (storeAll W (u02) 0 [.bool (ag q),.slice u00 (aa q) u01]) v' n'→RN (storeAll (storeAll W (u02) 0 [.bool (ag q),.slice u00 (aa q) u01]) (u05) 0 [.bool (ag r),.slice u03 (aa r) u04]) v' n':=fun h'=>aG _ h' (o0 (by have:=u06.out;have:=u07.out;have:=HNE.out;omega) K4.out) (by simp[bG]) (by simp[aV])
     have o1:∀ {g':Nat} {cs':Array Value} {T':TypeId},g'≠u05→SBk (storeAll W (u02) 0 [.bool (ag q),.slice u00 (aa q) u01]) g' cs' T'→SBk (storeAll (storeAll W (u02) 0 [.bool (ag q),.slice u00 (aa q) u01]) (u05) 0 [.bool (ag r),.slice u03 (aa r) u04]) g' cs' T':=fun hg' h'=>aH hg' _ 0 h'
     exact⟨rfl,u0e,u0f,u0a,u0b,u0c,u0d,u08,u09,u03,u04,u00,u01,u03,u04,u02,u05,EA.out,(az (l:=[.bool (ag r),.slice u03 (aa r) u04]) (i:=0) (by have:=u06.out;have:=u07.out;have:=HNE.out;omega) (az (l:=[.bool (ag q),.slice u00 (aa q) u01]) (i:=0) (by have:=u06.out;have:=u07.out;have:=HNE.out;omega) HBX.out)),(o1 (by have:=u06.out;have:=u07.out;have:=HNE.out;omega) (o0 (by have:=u06.out;have:=u07.out;have:=HNE.out;omega) K2.out)),(aH (by have:=u06.out;have:=u07.out;have:=HNE.out;omega) (l:=[.bool (ag r),.slice u03 (aa r) u04]) (i:=0) (aX (l:=[.bool (ag q),.slice u00 (aa q) u01]) (i:=0) K3.out)),(s1 (s0 RQ.out)),u06.out,u07.out,HNE.out⟩
 rintro a' W1 ⟨u0e,u0f,u0a,u0b,u0c,u0d,u08,u09,u03,u04,u00,u01,u0l,u0m,u02,u05,rfl,z0,z1,z2,z3,z4,z5,z6⟩
 have HB1:=hid z0
 have K2:=hid z1
 have K3:=hid z2
 have RQ:=hid z3
 have R9xW1:=z4
 have R10xW1:=z5
 have NEW1:=z6
 clear z0 z1 z2 z3 z4 z5 z6
 simp only[putL,List.setIfInBounds_toArray,List.set_cons_zero,List.set_cons_succ]
 have dK30:=K3.out.cell (i:=0) rfl
 have dK31:=K3.out.cell (i:=1) rfl
 have dK20:=K2.out.cell (i:=0) rfl
 have dK21:=K2.out.cell (i:=1) rfl
 have fK20:=K2.out.frozen (i:=0)
 have fK21:=K2.out.frozen (i:=1)
 go_wp2
 exact bodyPost_ret (v:=.agg #[.bool (ag q),.slice u00 (aa q) u01]) (by simp[results,Tryz.results57,go_sem,dK20,dK21]) rfl ⟨_,_,rfl,(aG [.bool (ag q),.slice u00 (aa q) u01] RQ.out K2.out (by simp[bG]) (by simp[aV])),(az (l:=[.bool (ag q),.slice u00 (aa q) u01]) (i:=0) (by omega) HB1.out)⟩
end Go.Proofs.YtmigpoiajkihhaaGreatDoor
