/- garboardref03: Both; Compare, Sum, Difference, Product, Quotient: walks over the contracts of what they call. -/
import Derived.Test.YtmigpoiajkihhaaGreatDoorMz41q
set_option maxRecDepth 100000
set_option maxHeartbeats 20000000
open Go.Lib (hid)
namespace Go.Proofs.YtmigpoiajkihhaaGreatDoor
open Go.RowKit Go.Gb
def bErr:Bool→Bool→Int
 | true,true=>0
 | _,_=>1
theorem qL (x1 x2:ByteArray)(n1 n2:Int)(en1 en2:Nat)(b1 b2:Bool)  (w:World)(h1:∀ W,Calls Tryz.prog 44 #[.string x1] W fun e w'=>∃ p c s d,e=.returned (.tuple #[.agg #[.bool (ag n1),.slice p (aa n1) c,.slice s (ae en1) d],.bool b1])∧RN w' (.slice p (aa n1) c) n1.natAbs∧RN w' (.slice s (ae en1) d) en1∧Below W.heap.size W w')(h2:∀ W,Calls Tryz.prog 44 #[.string x2] W fun e w'=>∃ p c s d,e=.returned (.tuple #[.agg #[.bool (ag n2),.slice p (aa n2) c,.slice s (ae en2) d],.bool b2])∧RN w' (.slice p (aa n2) c) n2.natAbs∧RN w' (.slice s (ae en2) d) en2∧Below W.heap.size W w')  :
 Calls Tryz.prog 47 #[.string x1,.string x2] w fun e w'=>∃ p c s d p' c' s' d',e=.returned (.tuple #[.agg #[.bool (ag n1),.slice p (aa n1) c,.slice s (ae en1) d],.agg #[.bool (ag n2),.slice p' (aa n2) c',.slice s' (ae en2) d'],.int .i64 (bErr b1 b2)])∧RN w' (.slice p (aa n1) c) n1.natAbs∧RN w' (.slice s (ae en1) d) en1∧RN w' (.slice p' (aa n2) c') n2.natAbs∧RN w' (.slice s' (ae en2) d') en2∧Below w.heap.size w w':=by
 have C1:=hid h1
 have C2:=hid h2
 clear h1 h2
 go_enter Tryz.func47,Tryz.ntmps47
 go_upto_region 1 with fail
 refine aK w [(#[.bool false,.slice none 0 0,.slice none 0 0],55),(#[.bool false,.slice none 0 0,.slice none 0 0],55)] rfl ?_
 rintro W0 ⟨k1,k2,hb⟩
 have HB0:=hid (show Below w.heap.size w W0 from hb)
 have K1:=hid k1
 have K2:=hid k2
 clear k1 k2 hb
 go_wp2_with fail
 with_reducible refine(C1.out _).mono ?_
 rintro e W1 ⟨u00,u01,u02,u03,rfl,u08,u09,hb⟩
 have K1:=hid (K1.out.below hb)
 have K2:=hid (K2.out.below hb)
 have HB1:=hbt HB0 hb
 have RA:=hid u08
 have TA:=hid u09
 clear hb u08 u09
 go_upto_region 2 with fail
 refine aK W1 [(#[.bool (ag n1),.slice u00 (aa n1) u01,.slice u02 (ae en1) u03],55)] rfl ?_
 have L1:=K1.out.lt
 have L2:=K2.out.lt
 have L3:=HB1.out.size
 rintro W2 ⟨k3,hb⟩
 have hb:Below W1.heap.size W1 W2:=hb
 have K1:=hid (K1.out.below hb)
 have K2:=hid (K2.out.below hb)
 have RA:=hid (RA.out.below hb)
 have TA:=hid (TA.out.below hb)
 have HB2:=hbt HB1 hb
 have K3:=hid k3
 clear k3 hb
 go_wp2_with fail
 with_reducible refine(C2.out _).mono ?_
 rintro e W3 ⟨u04,u05,u06,u07,rfl,u0a,u0b,hb⟩
 have K1:=hid (K1.out.below hb)
 have K2:=hid (K2.out.below hb)
 have K3:=hid (K3.out.below hb)
 have RA:=hid (RA.out.below hb)
 have TA:=hid (TA.out.below hb)
 have HB3:=hbt HB2 hb
 have RB:=hid u0a
 have TB:=hid u0b
 clear hb u0a u0b
 go_upto_region 3 with fail
 refine aK W3 [(#[.bool (ag n2),.slice u04 (aa n2) u05,.slice u06 (ae en2) u07],55)] rfl ?_
 have L4:=K1.out.lt
 have L5:=K2.out.lt
 have L6:=K3.out.lt
 have L7:=HB3.out.size
 rintro W4 ⟨k4,hb⟩
 have hb:Below W3.heap.size W3 W4:=hb
 have K1:=hid (K1.out.below hb)
 have K2:=hid (K2.out.below hb)
 have K3:=hid (K3.out.below hb)
 have RA:=hid (RA.out.below hb)
 have TA:=hid (TA.out.below hb)
 have RB:=hid (RB.out.below hb)
 have TB:=hid (TB.out.below hb)
 have HB4:=hbt HB3 hb
 have K4:=hid k4
 clear k4 hb
 obtain hc|⟨rfl,rfl⟩:(b1=false∨b2=false)∨(b1=true∧b2=true):=by cases b1<;>cases b2<;>simp
 · rcases b1 with _|_<;>rcases b2 with _|_<;>(try(simp at hc;done))
   all_goals
    clear hc
    go_wp2_with fail
    refine aI (fun a0 a' V=>a'=⟨putL [(27,.agg #[.bool (ag n1),.slice u00 (aa n1) u01,.slice u02 (ae en1) u03]),(28,.agg #[.bool (ag n2),.slice u04 (aa n2) u05,.slice u06 (ae en2) u07]),(6,.int .i64 1)] a0.tmps,a0.defers⟩∧Below w.heap.size w V∧SBk V (w.heap.size) #[.bool (ag n1),.slice u00 (aa n1) u01,.slice u02 (ae en1) u03] 55∧SBk V (w.heap.size+1) #[.bool (ag n2),.slice u04 (aa n2) u05,.slice u06 (ae en2) u07] 55∧RN V (.slice u00 (aa n1) u01) (n1).natAbs∧RN V (.slice u02 (ae en1) u03) (en1)∧RN V (.slice u04 (aa n2) u05) (n2).natAbs∧RN V (.slice u06 (ae en2) u07) (en2)) ?_ ?_
    · refine gX (by kernel_rfl) 2 2 1 (fun i=>[27,28].getD i 0) (RelR [Rel.val (.agg #[.bool (ag n1),.slice u00 (aa n1) u01,.slice u02 (ae en1) u03]),Rel.val (.agg #[.bool (ag n2),.slice u04 (aa n2) u05,.slice u06 (ae en2) u07])]) (fun W=>Below W4.heap.size W4 W) (fun _ _=>True) (by decide) (by decide) (by kernel_rfl) (by kernel_rfl) (by kernel_rfl) (by kernel_rfl) trivial (Below.refl _ _).drew ?_ ?_ ?_
      · intro listed a W i hI hD hrd him
        have HI:=hid hI
        have HD:=hid hD
        have Hr:=hid hrd
        clear hI hrd hD
        have y7:a.tmps[7]? = some (.pointer (some ⟨W1.heap.size,0,none⟩)):=HI.out.rest 7 (by decide)
        have y9:a.tmps[9]? = some (.pointer (some ⟨W3.heap.size,0,none⟩)):=HI.out.rest 9 (by decide)
        have dK30:=(K3.out.below HI.out.world).cell (i:=0) rfl
        have dK31:=(K3.out.below HI.out.world).cell (i:=1) rfl
        have dK32:=(K3.out.below HI.out.world).cell (i:=2) rfl
        have dK40:=(K4.out.below HI.out.world).cell (i:=0) rfl
        have dK41:=(K4.out.below HI.out.world).cell (i:=1) rfl
        have dK42:=(K4.out.below HI.out.world).cell (i:=2) rfl
        match i,him,Hr with
        | 0,_,Hi =>
          refine au rfl fun K' hK=>?_
          go_simp
          exact hK.out _ _ ⟨HI.out.pv Hi.out rfl,trivial⟩
        | 1,_,Hi =>
          refine au rfl fun K' hK=>?_
          go_simp
          exact hK.out _ _ ⟨HI.out.pv Hi.out rfl,trivial⟩
        | n+2,h,_=>exact absurd h (by omega)
      · intro listed a W hI hD hall
        have x0:a.tmps[27]? = some (.agg #[.bool (ag n1),.slice u00 (aa n1) u01,.slice u02 (ae en1) u03]):=hI.sx hall 0
        have x1:a.tmps[28]? = some (.agg #[.bool (ag n2),.slice u04 (aa n2) u05,.slice u06 (ae en2) u07]):=hI.sx hall 1
        have HBW:=hid hI.world
        have HI:=hid hI
        have HA:=hid hall
        clear hI hall
        have K1:=hid (K1.out.below HBW.out)
        have K2:=hid (K2.out.below HBW.out)
        have RA:=hid (RA.out.below HBW.out)
        have TA:=hid (TA.out.below HBW.out)
        have RB:=hid (RB.out.below HBW.out)
        have TB:=hid (TB.out.below HBW.out)
        have HBX:=hid (HB4.out.trans (HBW.out.mono HB4.out.size))
        have y4:a.tmps[4]? = some (.pointer (some ⟨w.heap.size,0,none⟩)):=HI.out.rest 4 (by decide)
        have y5:a.tmps[5]? = some (.pointer (some ⟨w.heap.size+1,0,none⟩)):=HI.out.rest 5 (by decide)
        have dK10:=K1.out.cell (i:=0) rfl
        have fK10:=K1.out.frozen (i:=0)
        have dK11:=K1.out.cell (i:=1) rfl
        have fK11:=K1.out.frozen (i:=1)
        have dK12:=K1.out.cell (i:=2) rfl
        have fK12:=K1.out.frozen (i:=2)
        have dK20:=K2.out.cell (i:=0) rfl
        have fK20:=K2.out.frozen (i:=0)
        have dK21:=K2.out.cell (i:=1) rfl
        have fK21:=K2.out.frozen (i:=1)
        have dK22:=K2.out.cell (i:=2) rfl
        have fK22:=K2.out.frozen (i:=2)
        have ddK20:(((W.setCell ⟨w.heap.size,0,none⟩ (.bool (ag n1))).setCell ⟨w.heap.size,1,none⟩ (.slice u00 (aa n1) u01)).setCell ⟨w.heap.size,2,none⟩ (.slice u02 (ae en1) u03)).cell? ⟨w.heap.size+1,0,none⟩=some (.bool false):=((aH (by omega) (l:=[.bool (ag n1),.slice u00 (aa n1) u01,.slice u02 (ae en1) u03]) (i:=0) K2.out)).cell (i:=0) rfl
        have ddK21:(((W.setCell ⟨w.heap.size,0,none⟩ (.bool (ag n1))).setCell ⟨w.heap.size,1,none⟩ (.slice u00 (aa n1) u01)).setCell ⟨w.heap.size,2,none⟩ (.slice u02 (ae en1) u03)).cell? ⟨w.heap.size+1,1,none⟩=some (.slice none 0 0):=((aH (by omega) (l:=[.bool (ag n1),.slice u00 (aa n1) u01,.slice u02 (ae en1) u03]) (i:=0) K2.out)).cell (i:=1) rfl
        have ddK22:(((W.setCell ⟨w.heap.size,0,none⟩ (.bool (ag n1))).setCell ⟨w.heap.size,1,none⟩ (.slice u00 (aa n1) u01)).setCell ⟨w.heap.size,2,none⟩ (.slice u02 (ae en1) u03)).cell? ⟨w.heap.size+1,2,none⟩=some (.slice none 0 0):=((aH (by omega) (l:=[.bool (ag n1),.slice u00 (aa n1) u01,.slice u02 (ae en1) u03]) (i:=0) K2.out)).cell (i:=2) rfl
        have EA:=hid (show a=⟨putL [(27,.agg #[.bool (ag n1),.slice u00 (aa n1) u01,.slice u02 (ae en1) u03]),(28,.agg #[.bool (ag n2),.slice u04 (aa n2) u05,.slice u06 (ae en2) u07])] _,_⟩from(HI.out.finx ⟨x0,x1,trivial⟩ rfl))
        refine aS (t:=2) ?_
        refine au rfl fun K' hK=>?_
        go_simp
        refine hK.out _ _ ?_
        clear hK
        refine aS (t:=1) ?_
        refine au rfl fun K' hK=>?_
        go_simp
        refine hK.out _ _ ?_
        clear hK
        refine aS (t:=0) ?_
        refine au rfl fun K' hK=>?_
        go_simp
        refine hK.out _ _ ?_
        clear hK
        refine bD ?_
        have s0:∀ {v':Value} {n':Nat},RN W v' n'→RN (storeAll W (w.heap.size) 0 [.bool (ag n1),.slice u00 (aa n1) u01,.slice u02 (ae en1) u03]) v' n':=fun h'=>aG _ h' K1.out (by simp[bG]) (by simp[aV])
        have o0:∀ {g':Nat} {cs':Array Value} {T':TypeId},g'≠w.heap.size→SBk W g' cs' T'→SBk (storeAll W (w.heap.size) 0 [.bool (ag n1),.slice u00 (aa n1) u01,.slice u02 (ae en1) u03]) g' cs' T':=fun hg' h'=>aH hg' _ 0 h'
        have s1:∀ {v':Value} {n':Nat},RN (storeAll W (w.heap.size) 0 [.bool (ag n1),.slice u00 (aa n1) u01,.slice u02 (ae en1) u03]) v' n'→RN (storeAll (storeAll W (w.heap.size) 0 [.bool (ag n1),.slice u00 (aa n1) u01,.slice u02 (ae en1) u03]) (w.heap.size+1) 0 [.bool (ag n2),.slice u04 (aa n2) u05,.slice u06 (ae en2) u07]) v' n':=fun h'=>aG _ h' (o0 (by omega) K2.out) (by simp[bG]) (by simp[aV])
        exact⟨rfl,(congrArg (fun z:Act=>z.put (some 6) (.int .i64 1)) EA.out),(az (l:=[.bool (ag n2),.slice u04 (aa n2) u05,.slice u06 (ae en2) u07]) (i:=0) (by omega) (az (l:=[.bool (ag n1),.slice u00 (aa n1) u01,.slice u02 (ae en1) u03]) (i:=0) (by omega) HBX.out)),(aH (by omega) (l:=[.bool (ag n2),.slice u04 (aa n2) u05,.slice u06 (ae en2) u07]) (i:=0) (aX (l:=[.bool (ag n1),.slice u00 (aa n1) u01,.slice u02 (ae en1) u03]) (i:=0) K1.out)),(aX (l:=[.bool (ag n2),.slice u04 (aa n2) u05,.slice u06 (ae en2) u07]) (i:=0) (aH (by omega) (l:=[.bool (ag n1),.slice u00 (aa n1) u01,.slice u02 (ae en1) u03]) (i:=0) K2.out)),(s1 (s0 RA.out)),(s1 (s0 TA.out)),(s1 (s0 RB.out)),(s1 (s0 TB.out))⟩
      · intro listed a W hI hD hall
        have x0:a.tmps[27]? = some (.agg #[.bool (ag n1),.slice u00 (aa n1) u01,.slice u02 (ae en1) u03]):=hI.sy hall 0
        have HBW:=hid hI.world
        have HI:=hid hI
        have HA:=hid hall
        clear hI hall
        have K1:=hid (K1.out.below HBW.out)
        have K2:=hid (K2.out.below HBW.out)
        have K4:=hid (K4.out.below HBW.out)
        have RA:=hid (RA.out.below HBW.out)
        have TA:=hid (TA.out.below HBW.out)
        have RB:=hid (RB.out.below HBW.out)
        have TB:=hid (TB.out.below HBW.out)
        have HBX:=hid (HB4.out.trans (HBW.out.mono HB4.out.size))
        have y4:a.tmps[4]? = some (.pointer (some ⟨w.heap.size,0,none⟩)):=HI.out.rest 4 (by decide)
        have y5:a.tmps[5]? = some (.pointer (some ⟨w.heap.size+1,0,none⟩)):=HI.out.rest 5 (by decide)
        have dK10:=K1.out.cell (i:=0) rfl
        have fK10:=K1.out.frozen (i:=0)
        have dK11:=K1.out.cell (i:=1) rfl
        have fK11:=K1.out.frozen (i:=1)
        have dK12:=K1.out.cell (i:=2) rfl
        have fK12:=K1.out.frozen (i:=2)
        have dK20:=K2.out.cell (i:=0) rfl
        have fK20:=K2.out.frozen (i:=0)
        have dK21:=K2.out.cell (i:=1) rfl
        have fK21:=K2.out.frozen (i:=1)
        have dK22:=K2.out.cell (i:=2) rfl
        have fK22:=K2.out.frozen (i:=2)
        have ddK20:(((W.setCell ⟨w.heap.size,0,none⟩ (.bool (ag n1))).setCell ⟨w.heap.size,1,none⟩ (.slice u00 (aa n1) u01)).setCell ⟨w.heap.size,2,none⟩ (.slice u02 (ae en1) u03)).cell? ⟨w.heap.size+1,0,none⟩=some (.bool false):=((aH (by omega) (l:=[.bool (ag n1),.slice u00 (aa n1) u01,.slice u02 (ae en1) u03]) (i:=0) K2.out)).cell (i:=0) rfl
        have ddK21:(((W.setCell ⟨w.heap.size,0,none⟩ (.bool (ag n1))).setCell ⟨w.heap.size,1,none⟩ (.slice u00 (aa n1) u01)).setCell ⟨w.heap.size,2,none⟩ (.slice u02 (ae en1) u03)).cell? ⟨w.heap.size+1,1,none⟩=some (.slice none 0 0):=((aH (by omega) (l:=[.bool (ag n1),.slice u00 (aa n1) u01,.slice u02 (ae en1) u03]) (i:=0) K2.out)).cell (i:=1) rfl
        have ddK22:(((W.setCell ⟨w.heap.size,0,none⟩ (.bool (ag n1))).setCell ⟨w.heap.size,1,none⟩ (.slice u00 (aa n1) u01)).setCell ⟨w.heap.size,2,none⟩ (.slice u02 (ae en1) u03)).cell? ⟨w.heap.size+1,2,none⟩=some (.slice none 0 0):=((aH (by omega) (l:=[.bool (ag n1),.slice u00 (aa n1) u01,.slice u02 (ae en1) u03]) (i:=0) K2.out)).cell (i:=2) rfl
        have y9:a.tmps[9]? = some (.pointer (some ⟨W3.heap.size,0,none⟩)):=HI.out.rest 9 (by decide)
        have qK40:(((W.setCell ⟨w.heap.size,0,none⟩ (.bool (ag n1))).setCell ⟨w.heap.size,1,none⟩ (.slice u00 (aa n1) u01)).setCell ⟨w.heap.size,2,none⟩ (.slice u02 (ae en1) u03)).cell? ⟨W3.heap.size,0,none⟩=some (.bool (ag n2)):=((aH (by omega) (l:=[.bool (ag n1),.slice u00 (aa n1) u01,.slice u02 (ae en1) u03]) (i:=0) K4.out)).cell (i:=0) rfl
        have qK41:(((W.setCell ⟨w.heap.size,0,none⟩ (.bool (ag n1))).setCell ⟨w.heap.size,1,none⟩ (.slice u00 (aa n1) u01)).setCell ⟨w.heap.size,2,none⟩ (.slice u02 (ae en1) u03)).cell? ⟨W3.heap.size,1,none⟩=some (.slice u04 (aa n2) u05):=((aH (by omega) (l:=[.bool (ag n1),.slice u00 (aa n1) u01,.slice u02 (ae en1) u03]) (i:=0) K4.out)).cell (i:=1) rfl
        have qK42:(((W.setCell ⟨w.heap.size,0,none⟩ (.bool (ag n1))).setCell ⟨w.heap.size,1,none⟩ (.slice u00 (aa n1) u01)).setCell ⟨w.heap.size,2,none⟩ (.slice u02 (ae en1) u03)).cell? ⟨W3.heap.size,2,none⟩=some (.slice u06 (ae en2) u07):=((aH (by omega) (l:=[.bool (ag n1),.slice u00 (aa n1) u01,.slice u02 (ae en1) u03]) (i:=0) K4.out)).cell (i:=2) rfl
        refine au rfl fun K' hK=>?_
        go_simp
        refine hK.out _ _ ?_
        clear hK
        refine au rfl fun K' hK=>?_
        go_simp
        refine hK.out (a.put (some 28) (.agg #[.bool (ag n2),.slice u04 (aa n2) u05,.slice u06 (ae en2) u07])) _ ?_
        clear hK
        have z0:(a.put (some 28) (.agg #[.bool (ag n2),.slice u04 (aa n2) u05,.slice u06 (ae en2) u07])).tmps[27]? = some (.agg #[.bool (ag n1),.slice u00 (aa n1) u01,.slice u02 (ae en1) u03]):=(dP (by decide)).trans x0
        have z1:(a.put (some 28) (.agg #[.bool (ag n2),.slice u04 (aa n2) u05,.slice u06 (ae en2) u07])).tmps[28]? = some (.agg #[.bool (ag n2),.slice u04 (aa n2) u05,.slice u06 (ae en2) u07]):=jm (by rw[HI.out.tsize];simp)
        have w4:(a.put (some 28) (.agg #[.bool (ag n2),.slice u04 (aa n2) u05,.slice u06 (ae en2) u07])).tmps[4]? = some (.pointer (some ⟨w.heap.size,0,none⟩)):=(dP (by decide)).trans y4
        have w5:(a.put (some 28) (.agg #[.bool (ag n2),.slice u04 (aa n2) u05,.slice u06 (ae en2) u07])).tmps[5]? = some (.pointer (some ⟨w.heap.size+1,0,none⟩)):=(dP (by decide)).trans y5
        have EA:=hid (HI.out.finp (sd:=28) (v:=.agg #[.bool (ag n2),.slice u04 (aa n2) u05,.slice u06 (ae en2) u07]) [(27,.agg #[.bool (ag n1),.slice u00 (aa n1) u01,.slice u02 (ae en1) u03]),(28,.agg #[.bool (ag n2),.slice u04 (aa n2) u05,.slice u06 (ae en2) u07])] ⟨(dP (d:=28) (e:=27) (by decide)).trans x0,jm (by rw[HI.out.tsize];simp),trivial⟩ rfl)
        clear x0
        generalize a.put (some 28) (.agg #[.bool (ag n2),.slice u04 (aa n2) u05,.slice u06 (ae en2) u07])=a2 at *
        refine aS (t:=1) ?_
        refine au rfl fun K' hK=>?_
        go_simp
        refine hK.out _ _ ?_
        clear hK
        refine aS (t:=0) ?_
        refine au rfl fun K' hK=>?_
        go_simp
        refine hK.out _ _ ?_
        clear hK
        refine bD ?_
        have s0:∀ {v':Value} {n':Nat},RN W v' n'→RN (storeAll W (w.heap.size) 0 [.bool (ag n1),.slice u00 (aa n1) u01,.slice u02 (ae en1) u03]) v' n':=fun h'=>aG _ h' K1.out (by simp[bG]) (by simp[aV])
        have o0:∀ {g':Nat} {cs':Array Value} {T':TypeId},g'≠w.heap.size→SBk W g' cs' T'→SBk (storeAll W (w.heap.size) 0 [.bool (ag n1),.slice u00 (aa n1) u01,.slice u02 (ae en1) u03]) g' cs' T':=fun hg' h'=>aH hg' _ 0 h'
        have s1:∀ {v':Value} {n':Nat},RN (storeAll W (w.heap.size) 0 [.bool (ag n1),.slice u00 (aa n1) u01,.slice u02 (ae en1) u03]) v' n'→RN (storeAll (storeAll W (w.heap.size) 0 [.bool (ag n1),.slice u00 (aa n1) u01,.slice u02 (ae en1) u03]) (w.heap.size+1) 0 [.bool (ag n2),.slice u04 (aa n2) u05,.slice u06 (ae en2) u07]) v' n':=fun h'=>aG _ h' (o0 (by omega) K2.out) (by simp[bG]) (by simp[aV])
        exact⟨rfl,(congrArg (fun z:Act=>z.put (some 6) (.int .i64 1)) EA.out),(az (l:=[.bool (ag n2),.slice u04 (aa n2) u05,.slice u06 (ae en2) u07]) (i:=0) (by omega) (az (l:=[.bool (ag n1),.slice u00 (aa n1) u01,.slice u02 (ae en1) u03]) (i:=0) (by omega) HBX.out)),(aH (by omega) (l:=[.bool (ag n2),.slice u04 (aa n2) u05,.slice u06 (ae en2) u07]) (i:=0) (aX (l:=[.bool (ag n1),.slice u00 (aa n1) u01,.slice u02 (ae en1) u03]) (i:=0) K1.out)),(aX (l:=[.bool (ag n2),.slice u04 (aa n2) u05,.slice u06 (ae en2) u07]) (i:=0) (aH (by omega) (l:=[.bool (ag n1),.slice u00 (aa n1) u01,.slice u02 (ae en1) u03]) (i:=0) K2.out)),(s1 (s0 RA.out)),(s1 (s0 TA.out)),(s1 (s0 RB.out)),(s1 (s0 TB.out))⟩
    rintro a' W5 ⟨rfl,z0,z1,z2,z3,z4,z5,z6⟩
    have HB5:=hid z0
    have K1:=hid z1
    have K2:=hid z2
    have RA:=hid z3
    have TA:=hid z4
    have RB:=hid z5
    have TB:=hid z6
    clear z0 z1 z2 z3 z4 z5 z6
    simp only[putL,List.setIfInBounds_toArray,List.set_cons_zero,List.set_cons_succ]
    go_wp2
    have dK10:=K1.out.cell (i:=0) rfl
    have dK11:=K1.out.cell (i:=1) rfl
    have dK12:=K1.out.cell (i:=2) rfl
    have dK20:=K2.out.cell (i:=0) rfl
    have dK21:=K2.out.cell (i:=1) rfl
    have dK22:=K2.out.cell (i:=2) rfl
    exact bodyPost_ret (v:=.tuple #[.agg #[.bool (ag n1),.slice u00 (aa n1) u01,.slice u02 (ae en1) u03],.agg #[.bool (ag n2),.slice u04 (aa n2) u05,.slice u06 (ae en2) u07],.int .i64 1]) (by simp[results,Tryz.results47,go_sem,dK10,dK11,dK12,dK20,dK21,dK22]) rfl ⟨_,_,_,_,_,_,_,_,rfl,RA.out,TA.out,RB.out,TB.out,HB5.out⟩
 · skip
   go_wp2_with fail
   refine aI (fun a0 a' V=>a'=⟨putL [(29,.agg #[.bool (ag n1),.slice u00 (aa n1) u01,.slice u02 (ae en1) u03]),(30,.agg #[.bool (ag n2),.slice u04 (aa n2) u05,.slice u06 (ae en2) u07]),(6,.int .i64 0)] a0.tmps,a0.defers⟩∧Below w.heap.size w V∧SBk V (w.heap.size) #[.bool (ag n1),.slice u00 (aa n1) u01,.slice u02 (ae en1) u03] 55∧SBk V (w.heap.size+1) #[.bool (ag n2),.slice u04 (aa n2) u05,.slice u06 (ae en2) u07] 55∧RN V (.slice u00 (aa n1) u01) (n1).natAbs∧RN V (.slice u02 (ae en1) u03) (en1)∧RN V (.slice u04 (aa n2) u05) (n2).natAbs∧RN V (.slice u06 (ae en2) u07) (en2)) ?_ ?_
   · refine gX (by kernel_rfl) 2 2 1 (fun i=>[29,30].getD i 0) (RelR [Rel.val (.agg #[.bool (ag n1),.slice u00 (aa n1) u01,.slice u02 (ae en1) u03]),Rel.val (.agg #[.bool (ag n2),.slice u04 (aa n2) u05,.slice u06 (ae en2) u07])]) (fun W=>Below W4.heap.size W4 W) (fun _ _=>True) (by decide) (by decide) (by kernel_rfl) (by kernel_rfl) (by kernel_rfl) (by kernel_rfl) trivial (Below.refl _ _).drew ?_ ?_ ?_
     · intro listed a W i hI hD hrd him
       have HI:=hid hI
       have HD:=hid hD
       have Hr:=hid hrd
       clear hI hrd hD
       have y7:a.tmps[7]? = some (.pointer (some ⟨W1.heap.size,0,none⟩)):=HI.out.rest 7 (by decide)
       have y9:a.tmps[9]? = some (.pointer (some ⟨W3.heap.size,0,none⟩)):=HI.out.rest 9 (by decide)
       have dK30:=(K3.out.below HI.out.world).cell (i:=0) rfl
       have dK31:=(K3.out.below HI.out.world).cell (i:=1) rfl
       have dK32:=(K3.out.below HI.out.world).cell (i:=2) rfl
       have dK40:=(K4.out.below HI.out.world).cell (i:=0) rfl
       have dK41:=(K4.out.below HI.out.world).cell (i:=1) rfl
       have dK42:=(K4.out.below HI.out.world).cell (i:=2) rfl
       match i,him,Hr with
       | 0,_,Hi =>
         refine au rfl fun K' hK=>?_
         go_simp
         exact hK.out _ _ ⟨HI.out.pv Hi.out rfl,trivial⟩
       | 1,_,Hi =>
         refine au rfl fun K' hK=>?_
         go_simp
         exact hK.out _ _ ⟨HI.out.pv Hi.out rfl,trivial⟩
       | n+2,h,_=>exact absurd h (by omega)
     · intro listed a W hI hD hall
       have x0:a.tmps[29]? = some (.agg #[.bool (ag n1),.slice u00 (aa n1) u01,.slice u02 (ae en1) u03]):=hI.sx hall 0
       have x1:a.tmps[30]? = some (.agg #[.bool (ag n2),.slice u04 (aa n2) u05,.slice u06 (ae en2) u07]):=hI.sx hall 1
       have HBW:=hid hI.world
       have HI:=hid hI
       have HA:=hid hall
       clear hI hall
       have K1:=hid (K1.out.below HBW.out)
       have K2:=hid (K2.out.below HBW.out)
       have RA:=hid (RA.out.below HBW.out)
       have TA:=hid (TA.out.below HBW.out)
       have RB:=hid (RB.out.below HBW.out)
       have TB:=hid (TB.out.below HBW.out)
       have HBX:=hid (HB4.out.trans (HBW.out.mono HB4.out.size))
       have y4:a.tmps[4]? = some (.pointer (some ⟨w.heap.size,0,none⟩)):=HI.out.rest 4 (by decide)
       have y5:a.tmps[5]? = some (.pointer (some ⟨w.heap.size+1,0,none⟩)):=HI.out.rest 5 (by decide)
       have dK10:=K1.out.cell (i:=0) rfl
       have fK10:=K1.out.frozen (i:=0)
       have dK11:=K1.out.cell (i:=1) rfl
       have fK11:=K1.out.frozen (i:=1)
       have dK12:=K1.out.cell (i:=2) rfl
       have fK12:=K1.out.frozen (i:=2)
       have dK20:=K2.out.cell (i:=0) rfl
       have fK20:=K2.out.frozen (i:=0)
       have dK21:=K2.out.cell (i:=1) rfl
       have fK21:=K2.out.frozen (i:=1)
       have dK22:=K2.out.cell (i:=2) rfl
       have fK22:=K2.out.frozen (i:=2)
       have ddK20:(((W.setCell ⟨w.heap.size,0,none⟩ (.bool (ag n1))).setCell ⟨w.heap.size,1,none⟩ (.slice u00 (aa n1) u01)).setCell ⟨w.heap.size,2,none⟩ (.slice u02 (ae en1) u03)).cell? ⟨w.heap.size+1,0,none⟩=some (.bool false):=((aH (by omega) (l:=[.bool (ag n1),.slice u00 (aa n1) u01,.slice u02 (ae en1) u03]) (i:=0) K2.out)).cell (i:=0) rfl
       have ddK21:(((W.setCell ⟨w.heap.size,0,none⟩ (.bool (ag n1))).setCell ⟨w.heap.size,1,none⟩ (.slice u00 (aa n1) u01)).setCell ⟨w.heap.size,2,none⟩ (.slice u02 (ae en1) u03)).cell? ⟨w.heap.size+1,1,none⟩=some (.slice none 0 0):=((aH (by omega) (l:=[.bool (ag n1),.slice u00 (aa n1) u01,.slice u02 (ae en1) u03]) (i:=0) K2.out)).cell (i:=1) rfl
       have ddK22:(((W.setCell ⟨w.heap.size,0,none⟩ (.bool (ag n1))).setCell ⟨w.heap.size,1,none⟩ (.slice u00 (aa n1) u01)).setCell ⟨w.heap.size,2,none⟩ (.slice u02 (ae en1) u03)).cell? ⟨w.heap.size+1,2,none⟩=some (.slice none 0 0):=((aH (by omega) (l:=[.bool (ag n1),.slice u00 (aa n1) u01,.slice u02 (ae en1) u03]) (i:=0) K2.out)).cell (i:=2) rfl
       have EA:=hid (show a=⟨putL [(29,.agg #[.bool (ag n1),.slice u00 (aa n1) u01,.slice u02 (ae en1) u03]),(30,.agg #[.bool (ag n2),.slice u04 (aa n2) u05,.slice u06 (ae en2) u07])] _,_⟩from(HI.out.finx ⟨x0,x1,trivial⟩ rfl))
       refine aS (t:=2) ?_
       refine au rfl fun K' hK=>?_
       go_simp
       refine hK.out _ _ ?_
       clear hK
       refine aS (t:=1) ?_
       refine au rfl fun K' hK=>?_
       go_simp
       refine hK.out _ _ ?_
       clear hK
       refine aS (t:=0) ?_
       refine au rfl fun K' hK=>?_
       go_simp
       refine hK.out _ _ ?_
       clear hK
       refine bD ?_
       have s0:∀ {v':Value} {n':Nat},RN W v' n'→RN (storeAll W (w.heap.size) 0 [.bool (ag n1),.slice u00 (aa n1) u01,.slice u02 (ae en1) u03]) v' n':=fun h'=>aG _ h' K1.out (by simp[bG]) (by simp[aV])
       have o0:∀ {g':Nat} {cs':Array Value} {T':TypeId},g'≠w.heap.size→SBk W g' cs' T'→SBk (storeAll W (w.heap.size) 0 [.bool (ag n1),.slice u00 (aa n1) u01,.slice u02 (ae en1) u03]) g' cs' T':=fun hg' h'=>aH hg' _ 0 h'
       have s1:∀ {v':Value} {n':Nat},RN (storeAll W (w.heap.size) 0 [.bool (ag n1),.slice u00 (aa n1) u01,.slice u02 (ae en1) u03]) v' n'→RN (storeAll (storeAll W (w.heap.size) 0 [.bool (ag n1),.slice u00 (aa n1) u01,.slice u02 (ae en1) u03]) (w.heap.size+1) 0 [.bool (ag n2),.slice u04 (aa n2) u05,.slice u06 (ae en2) u07]) v' n':=fun h'=>aG _ h' (o0 (by omega) K2.out) (by simp[bG]) (by simp[aV])
       exact⟨rfl,(congrArg (fun z:Act=>z.put (some 6) (.int .i64 0)) EA.out),(az (l:=[.bool (ag n2),.slice u04 (aa n2) u05,.slice u06 (ae en2) u07]) (i:=0) (by omega) (az (l:=[.bool (ag n1),.slice u00 (aa n1) u01,.slice u02 (ae en1) u03]) (i:=0) (by omega) HBX.out)),(aH (by omega) (l:=[.bool (ag n2),.slice u04 (aa n2) u05,.slice u06 (ae en2) u07]) (i:=0) (aX (l:=[.bool (ag n1),.slice u00 (aa n1) u01,.slice u02 (ae en1) u03]) (i:=0) K1.out)),(aX (l:=[.bool (ag n2),.slice u04 (aa n2) u05,.slice u06 (ae en2) u07]) (i:=0) (aH (by omega) (l:=[.bool (ag n1),.slice u00 (aa n1) u01,.slice u02 (ae en1) u03]) (i:=0) K2.out)),(s1 (s0 RA.out)),(s1 (s0 TA.out)),(s1 (s0 RB.out)),(s1 (s0 TB.out))⟩
     · intro listed a W hI hD hall
       have x0:a.tmps[29]? = some (.agg #[.bool (ag n1),.slice u00 (aa n1) u01,.slice u02 (ae en1) u03]):=hI.sy hall 0
       have HBW:=hid hI.world
       have HI:=hid hI
       have HA:=hid hall
       clear hI hall
       have K1:=hid (K1.out.below HBW.out)
       have K2:=hid (K2.out.below HBW.out)
       have K4:=hid (K4.out.below HBW.out)
       have RA:=hid (RA.out.below HBW.out)
       have TA:=hid (TA.out.below HBW.out)
       have RB:=hid (RB.out.below HBW.out)
       have TB:=hid (TB.out.below HBW.out)
       have HBX:=hid (HB4.out.trans (HBW.out.mono HB4.out.size))
       have y4:a.tmps[4]? = some (.pointer (some ⟨w.heap.size,0,none⟩)):=HI.out.rest 4 (by decide)
       have y5:a.tmps[5]? = some (.pointer (some ⟨w.heap.size+1,0,none⟩)):=HI.out.rest 5 (by decide)
       have dK10:=K1.out.cell (i:=0) rfl
       have fK10:=K1.out.frozen (i:=0)
       have dK11:=K1.out.cell (i:=1) rfl
       have fK11:=K1.out.frozen (i:=1)
       have dK12:=K1.out.cell (i:=2) rfl
       have fK12:=K1.out.frozen (i:=2)
       have dK20:=K2.out.cell (i:=0) rfl
       have fK20:=K2.out.frozen (i:=0)
       have dK21:=K2.out.cell (i:=1) rfl
       have fK21:=K2.out.frozen (i:=1)
       have dK22:=K2.out.cell (i:=2) rfl
       have fK22:=K2.out.frozen (i:=2)
       have ddK20:(((W.setCell ⟨w.heap.size,0,none⟩ (.bool (ag n1))).setCell ⟨w.heap.size,1,none⟩ (.slice u00 (aa n1) u01)).setCell ⟨w.heap.size,2,none⟩ (.slice u02 (ae en1) u03)).cell? ⟨w.heap.size+1,0,none⟩=some (.bool false):=((aH (by omega) (l:=[.bool (ag n1),.slice u00 (aa n1) u01,.slice u02 (ae en1) u03]) (i:=0) K2.out)).cell (i:=0) rfl
       have ddK21:(((W.setCell ⟨w.heap.size,0,none⟩ (.bool (ag n1))).setCell ⟨w.heap.size,1,none⟩ (.slice u00 (aa n1) u01)).setCell ⟨w.heap.size,2,none⟩ (.slice u02 (ae en1) u03)).cell? ⟨w.heap.size+1,1,none⟩=some (.slice none 0 0):=((aH (by omega) (l:=[.bool (ag n1),.slice u00 (aa n1) u01,.slice u02 (ae en1) u03]) (i:=0) K2.out)).cell (i:=1) rfl
       have ddK22:(((W.setCell ⟨w.heap.size,0,none⟩ (.bool (ag n1))).setCell ⟨w.heap.size,1,none⟩ (.slice u00 (aa n1) u01)).setCell ⟨w.heap.size,2,none⟩ (.slice u02 (ae en1) u03)).cell? ⟨w.heap.size+1,2,none⟩=some (.slice none 0 0):=((aH (by omega) (l:=[.bool (ag n1),.slice u00 (aa n1) u01,.slice u02 (ae en1) u03]) (i:=0) K2.out)).cell (i:=2) rfl
       have y9:a.tmps[9]? = some (.pointer (some ⟨W3.heap.size,0,none⟩)):=HI.out.rest 9 (by decide)
       have qK40:(((W.setCell ⟨w.heap.size,0,none⟩ (.bool (ag n1))).setCell ⟨w.heap.size,1,none⟩ (.slice u00 (aa n1) u01)).setCell ⟨w.heap.size,2,none⟩ (.slice u02 (ae en1) u03)).cell? ⟨W3.heap.size,0,none⟩=some (.bool (ag n2)):=((aH (by omega) (l:=[.bool (ag n1),.slice u00 (aa n1) u01,.slice u02 (ae en1) u03]) (i:=0) K4.out)).cell (i:=0) rfl
       have qK41:(((W.setCell ⟨w.heap.size,0,none⟩ (.bool (ag n1))).setCell ⟨w.heap.size,1,none⟩ (.slice u00 (aa n1) u01)).setCell ⟨w.heap.size,2,none⟩ (.slice u02 (ae en1) u03)).cell? ⟨W3.heap.size,1,none⟩=some (.slice u04 (aa n2) u05):=((aH (by omega) (l:=[.bool (ag n1),.slice u00 (aa n1) u01,.slice u02 (ae en1) u03]) (i:=0) K4.out)).cell (i:=1) rfl
       have qK42:(((W.setCell ⟨w.heap.size,0,none⟩ (.bool (ag n1))).setCell ⟨w.heap.size,1,none⟩ (.slice u00 (aa n1) u01)).setCell ⟨w.heap.size,2,none⟩ (.slice u02 (ae en1) u03)).cell? ⟨W3.heap.size,2,none⟩=some (.slice u06 (ae en2) u07):=((aH (by omega) (l:=[.bool (ag n1),.slice u00 (aa n1) u01,.slice u02 (ae en1) u03]) (i:=0) K4.out)).cell (i:=2) rfl
       refine au rfl fun K' hK=>?_
       go_simp
       refine hK.out _ _ ?_
       clear hK
       refine au rfl fun K' hK=>?_
       go_simp
       refine hK.out (a.put (some 30) (.agg #[.bool (ag n2),.slice u04 (aa n2) u05,.slice u06 (ae en2) u07])) _ ?_
       clear hK
       have z0:(a.put (some 30) (.agg #[.bool (ag n2),.slice u04 (aa n2) u05,.slice u06 (ae en2) u07])).tmps[29]? = some (.agg #[.bool (ag n1),.slice u00 (aa n1) u01,.slice u02 (ae en1) u03]):=(dP (by decide)).trans x0
       have z1:(a.put (some 30) (.agg #[.bool (ag n2),.slice u04 (aa n2) u05,.slice u06 (ae en2) u07])).tmps[30]? = some (.agg #[.bool (ag n2),.slice u04 (aa n2) u05,.slice u06 (ae en2) u07]):=jm (by rw[HI.out.tsize];simp)
       have w4:(a.put (some 30) (.agg #[.bool (ag n2),.slice u04 (aa n2) u05,.slice u06 (ae en2) u07])).tmps[4]? = some (.pointer (some ⟨w.heap.size,0,none⟩)):=(dP (by decide)).trans y4
       have w5:(a.put (some 30) (.agg #[.bool (ag n2),.slice u04 (aa n2) u05,.slice u06 (ae en2) u07])).tmps[5]? = some (.pointer (some ⟨w.heap.size+1,0,none⟩)):=(dP (by decide)).trans y5
       have EA:=hid (HI.out.finp (sd:=30) (v:=.agg #[.bool (ag n2),.slice u04 (aa n2) u05,.slice u06 (ae en2) u07]) [(29,.agg #[.bool (ag n1),.slice u00 (aa n1) u01,.slice u02 (ae en1) u03]),(30,.agg #[.bool (ag n2),.slice u04 (aa n2) u05,.slice u06 (ae en2) u07])] ⟨(dP (d:=30) (e:=29) (by decide)).trans x0,jm (by rw[HI.out.tsize];simp),trivial⟩ rfl)
       clear x0
       generalize a.put (some 30) (.agg #[.bool (ag n2),.slice u04 (aa n2) u05,.slice u06 (ae en2) u07])=a2 at *
       refine aS (t:=1) ?_
       refine au rfl fun K' hK=>?_
       go_simp
       refine hK.out _ _ ?_
       clear hK
       refine aS (t:=0) ?_
       refine au rfl fun K' hK=>?_
       go_simp
       refine hK.out _ _ ?_
       clear hK
       refine bD ?_
       have s0:∀ {v':Value} {n':Nat},RN W v' n'→RN (storeAll W (w.heap.size) 0 [.bool (ag n1),.slice u00 (aa n1) u01,.slice u02 (ae en1) u03]) v' n':=fun h'=>aG _ h' K1.out (by simp[bG]) (by simp[aV])
       have o0:∀ {g':Nat} {cs':Array Value} {T':TypeId},g'≠w.heap.size→SBk W g' cs' T'→SBk (storeAll W (w.heap.size) 0 [.bool (ag n1),.slice u00 (aa n1) u01,.slice u02 (ae en1) u03]) g' cs' T':=fun hg' h'=>aH hg' _ 0 h'
       have s1:∀ {v':Value} {n':Nat},RN (storeAll W (w.heap.size) 0 [.bool (ag n1),.slice u00 (aa n1) u01,.slice u02 (ae en1) u03]) v' n'→RN (storeAll (storeAll W (w.heap.size) 0 [.bool (ag n1),.slice u00 (aa n1) u01,.slice u02 (ae en1) u03]) (w.heap.size+1) 0 [.bool (ag n2),.slice u04 (aa n2) u05,.slice u06 (ae en2) u07]) v' n':=fun h'=>aG _ h' (o0 (by omega) K2.out) (by simp[bG]) (by simp[aV])
       exact⟨rfl,(congrArg (fun z:Act=>z.put (some 6) (.int .i64 0)) EA.out),(az (l:=[.bool (ag n2),.slice u04 (aa n2) u05,.slice u06 (ae en2) u07]) (i:=0) (by omega) (az (l:=[.bool (ag n1),.slice u00 (aa n1) u01,.slice u02 (ae en1) u03]) (i:=0) (by omega) HBX.out)),(aH (by omega) (l:=[.bool (ag n2),.slice u04 (aa n2) u05,.slice u06 (ae en2) u07]) (i:=0) (aX (l:=[.bool (ag n1),.slice u00 (aa n1) u01,.slice u02 (ae en1) u03]) (i:=0) K1.out)),(aX (l:=[.bool (ag n2),.slice u04 (aa n2) u05,.slice u06 (ae en2) u07]) (i:=0) (aH (by omega) (l:=[.bool (ag n1),.slice u00 (aa n1) u01,.slice u02 (ae en1) u03]) (i:=0) K2.out)),(s1 (s0 RA.out)),(s1 (s0 TA.out)),(s1 (s0 RB.out)),(s1 (s0 TB.out))⟩
   rintro a' W5 ⟨rfl,z0,z1,z2,z3,z4,z5,z6⟩
   have HB5:=hid z0
   have K1:=hid z1
   have K2:=hid z2
   have RA:=hid z3
   have TA:=hid z4
   have RB:=hid z5
   have TB:=hid z6
   clear z0 z1 z2 z3 z4 z5 z6
   simp only[putL,List.setIfInBounds_toArray,List.set_cons_zero,List.set_cons_succ]
   go_wp2
   have dK10:=K1.out.cell (i:=0) rfl
   have dK11:=K1.out.cell (i:=1) rfl
   have dK12:=K1.out.cell (i:=2) rfl
   have dK20:=K2.out.cell (i:=0) rfl
   have dK21:=K2.out.cell (i:=1) rfl
   have dK22:=K2.out.cell (i:=2) rfl
   exact bodyPost_ret (v:=.tuple #[.agg #[.bool (ag n1),.slice u00 (aa n1) u01,.slice u02 (ae en1) u03],.agg #[.bool (ag n2),.slice u04 (aa n2) u05,.slice u06 (ae en2) u07],.int .i64 0]) (by simp[results,Tryz.results47,go_sem,dK10,dK11,dK12,dK20,dK21,dK22]) rfl ⟨_,_,_,_,_,_,_,_,rfl,RA.out,TA.out,RB.out,TB.out,HB5.out⟩
theorem z1H (x1 x2:ByteArray)(n1 n2:Int)(en1 en2:Nat)  (w:World)(h1:∀ W,Calls Tryz.prog 44 #[.string x1] W fun e w'=>∃ p c s d,e=.returned (.tuple #[.agg #[.bool (ag n1),.slice p (aa n1) c,.slice s (ae en1) d],.bool true])∧RN w' (.slice p (aa n1) c) n1.natAbs∧RN w' (.slice s (ae en1) d) en1∧Below W.heap.size W w')(h2:∀ W,Calls Tryz.prog 44 #[.string x2] W fun e w'=>∃ p c s d,e=.returned (.tuple #[.agg #[.bool (ag n2),.slice p (aa n2) c,.slice s (ae en2) d],.bool true])∧RN w' (.slice p (aa n2) c) n2.natAbs∧RN w' (.slice s (ae en2) d) en2∧Below W.heap.size W w')  :
 Calls Tryz.prog 47 #[.string x1,.string x2] w fun e w'=>∃ p c s d p' c' s' d',e=.returned (.tuple #[.agg #[.bool (ag n1),.slice p (aa n1) c,.slice s (ae en1) d],.agg #[.bool (ag n2),.slice p' (aa n2) c',.slice s' (ae en2) d'],.int .i64 0])∧RN w' (.slice p (aa n1) c) n1.natAbs∧RN w' (.slice s (ae en1) d) en1∧RN w' (.slice p' (aa n2) c') n2.natAbs∧RN w' (.slice s' (ae en2) d') en2∧Below w.heap.size w w' :=
 qL x1 x2 n1 n2 en1 en2 true true w h1 h2
theorem z1J (x1 x2:ByteArray)(n1 n2:Int)(en1 en2:Nat)(bb:Bool)  (w:World)(h1:∀ W,Calls Tryz.prog 44 #[.string x1] W fun e w'=>∃ p c s d,e=.returned (.tuple #[.agg #[.bool (ag n1),.slice p (aa n1) c,.slice s (ae en1) d],.bool false])∧RN w' (.slice p (aa n1) c) n1.natAbs∧RN w' (.slice s (ae en1) d) en1∧Below W.heap.size W w')(h2:∀ W,Calls Tryz.prog 44 #[.string x2] W fun e w'=>∃ p c s d,e=.returned (.tuple #[.agg #[.bool (ag n2),.slice p (aa n2) c,.slice s (ae en2) d],.bool bb])∧RN w' (.slice p (aa n2) c) n2.natAbs∧RN w' (.slice s (ae en2) d) en2∧Below W.heap.size W w')  :
 Calls Tryz.prog 47 #[.string x1,.string x2] w fun e w'=>∃ p c s d p' c' s' d',e=.returned (.tuple #[.agg #[.bool (ag n1),.slice p (aa n1) c,.slice s (ae en1) d],.agg #[.bool (ag n2),.slice p' (aa n2) c',.slice s' (ae en2) d'],.int .i64 1])∧RN w' (.slice p (aa n1) c) n1.natAbs∧RN w' (.slice s (ae en1) d) en1∧RN w' (.slice p' (aa n2) c') n2.natAbs∧RN w' (.slice s' (ae en2) d') en2∧Below w.heap.size w w' :=
 qL x1 x2 n1 n2 en1 en2 false bb w h1 h2
theorem z1I (x1 x2:ByteArray)(n1 n2:Int)(en1 en2:Nat)  (w:World)(h1:∀ W,Calls Tryz.prog 44 #[.string x1] W fun e w'=>∃ p c s d,e=.returned (.tuple #[.agg #[.bool (ag n1),.slice p (aa n1) c,.slice s (ae en1) d],.bool true])∧RN w' (.slice p (aa n1) c) n1.natAbs∧RN w' (.slice s (ae en1) d) en1∧Below W.heap.size W w')(h2:∀ W,Calls Tryz.prog 44 #[.string x2] W fun e w'=>∃ p c s d,e=.returned (.tuple #[.agg #[.bool (ag n2),.slice p (aa n2) c,.slice s (ae en2) d],.bool false])∧RN w' (.slice p (aa n2) c) n2.natAbs∧RN w' (.slice s (ae en2) d) en2∧Below W.heap.size W w')  :
 Calls Tryz.prog 47 #[.string x1,.string x2] w fun e w'=>∃ p c s d p' c' s' d',e=.returned (.tuple #[.agg #[.bool (ag n1),.slice p (aa n1) c,.slice s (ae en1) d],.agg #[.bool (ag n2),.slice p' (aa n2) c',.slice s' (ae en2) d'],.int .i64 1])∧RN w' (.slice p (aa n1) c) n1.natAbs∧RN w' (.slice s (ae en1) d) en1∧RN w' (.slice p' (aa n2) c') n2.natAbs∧RN w' (.slice s' (ae en2) d') en2∧Below w.heap.size w w' :=
 qL x1 x2 n1 n2 en1 en2 true false w h1 h2
end Go.Proofs.YtmigpoiajkihhaaGreatDoor
