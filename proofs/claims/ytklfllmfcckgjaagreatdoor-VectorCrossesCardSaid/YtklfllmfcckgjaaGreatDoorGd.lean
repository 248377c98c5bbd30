/- vector.cross: a walk. -/
import Derived.Test.YtklfllmfcckgjaaGreatDoorMz40q
set_option maxRecDepth 100000
set_option maxHeartbeats 20000000
open Go.Lib (hid)
namespace Go.Proofs.YtklfllmfcckgjaaGreatDoor
open Go.RowKit Go.Gb
theorem vcross_raw (x y z u v t p0 q0 p1 q1 p2 q2 l m n:ByteArray)(w₀:World)(h1:CV w₀ 50 #[.string y,.string t] (.string p0))(h2:CV w₀ 50 #[.string z,.string v] (.string q0))(h3:CV w₀ 39 #[.string p0,.string q0] (.string l))(h4:CV w₀ 50 #[.string z,.string u] (.string p1))(h5:CV w₀ 50 #[.string x,.string t] (.string q1))(h6:CV w₀ 39 #[.string p1,.string q1] (.string m))(h7:CV w₀ 50 #[.string x,.string v] (.string p2))(h8:CV w₀ 50 #[.string y,.string u] (.string q2))(h9:CV w₀ 39 #[.string p2,.string q2] (.string n))  :
 CV w₀ 30 #[.agg #[.string x,.string y,.string z],.agg #[.string u,.string v,.string t]] (.agg #[.string l,.string m,.string n]):=by
 intro w hw
 have C1:=hid (h1.mono hw)
 have C2:=hid (h2.mono hw)
 have C3:=hid (h3.mono hw)
 have C4:=hid (h4.mono hw)
 have C5:=hid (h5.mono hw)
 have C6:=hid (h6.mono hw)
 have C7:=hid (h7.mono hw)
 have C8:=hid (h8.mono hw)
 have C9:=hid (h9.mono hw)
 clear h1 h2 h3 h4 h5 h6 h7 h8 h9 hw
 go_enter Tryz.func30,Tryz.ntmps30
 go_upto_region 1 with fail
 refine wp_boxes w [(#[.string x,.string y,.string z],59),(#[.string u,.string v,.string t],59),(#[.string ⟨#[]⟩,.string ⟨#[]⟩,.string ⟨#[]⟩],59)] rfl ?_
 rintro W0 ⟨k1,k2,k3,hb⟩
 have HB0:=hid (show Below w.heap.size w W0 from hb)
 have K1:=hid k1
 have K2:=hid k2
 have K3:=hid k3
 clear k1 k2 k3 hb
 go_upto_region 2 with fail
 refine wp_boxes W0 [(#[.string ⟨#[]⟩,.string ⟨#[]⟩,.string ⟨#[]⟩],59)] rfl ?_
 have L1:=K1.out.lt
 have L2:=K2.out.lt
 have L3:=K3.out.lt
 have L4:=HB0.out.size
 rintro W1 ⟨k4,hb⟩
 have hb:Below W0.heap.size W0 W1:=hb
 have K1:=hid (K1.out.below hb)
 have K2:=hid (K2.out.below hb)
 have K3:=hid (K3.out.below hb)
 have HB1:=hbt HB0 hb
 have K4:=hid k4
 clear k4 hb
 go_wp2
 refine wp_loop_rounds 4 ?_
 rw[rounds_succ]
 go_wp2_with fail
 refine wp_region_post (fun a0 a' V=>a'=⟨putL [(18,.int .i64 0),(19,.int .i64 1),(20,.pointer (some ⟨w.heap.size,1,none⟩)),(21,.string y),(22,.int .i64 2),(23,.pointer (some ⟨w.heap.size+1,2,none⟩)),(24,.string t),(25,.string p0),(26,.int .i64 2),(27,.pointer (some ⟨w.heap.size,2,none⟩)),(28,.string z),(29,.int .i64 1),(30,.pointer (some ⟨w.heap.size+1,1,none⟩)),(31,.string v),(32,.string q0),(33,.string l),(34,.pointer (some ⟨W0.heap.size,0,none⟩))] a0.tmps,a0.defers⟩∧Below w.heap.size w V∧SBk V (w.heap.size) #[.string x,.string y,.string z] 59∧SBk V (w.heap.size+1) #[.string u,.string v,.string t] 59∧SBk V (w.heap.size+1+1) #[.string ⟨#[]⟩,.string ⟨#[]⟩,.string ⟨#[]⟩] 59∧SBk V (W0.heap.size) #[.string l,.string ⟨#[]⟩,.string ⟨#[]⟩] 59) ?_ ?_
 · refine wp_region_tail_d (by kernel_rfl) 17 1 (fun i=>[18,19,20,21,22,23,24,25,26,27,28,29,30,31,32,33,34].getD i 0) (RelR [Rel.val (.int .i64 0),Rel.val (.int .i64 1),Rel.val (.pointer (some ⟨w.heap.size,1,none⟩)),Rel.val (.string y),Rel.val (.int .i64 2),Rel.val (.pointer (some ⟨w.heap.size+1,2,none⟩)),Rel.val (.string t),Rel.val (.string p0),Rel.val (.int .i64 2),Rel.val (.pointer (some ⟨w.heap.size,2,none⟩)),Rel.val (.string z),Rel.val (.int .i64 1),Rel.val (.pointer (some ⟨w.heap.size+1,1,none⟩)),Rel.val (.string v),Rel.val (.string q0),Rel.val (.string l),Rel.val (.pointer (some ⟨W0.heap.size,0,none⟩))]) (fun W=>Below W1.heap.size W1 W) (fun _ _=>True) (by kernel_rfl) (by kernel_rfl) (by kernel_rfl) trivial (Below.refl _ _).drew ?_ ?_
   · intro listed a W i hI hD hrd him
     have HI:=hid hI
     have HD:=hid hD
     have Hr:=hid hrd
     clear hI hrd hD
     have y6:a.tmps[6]? = some (.int .i64 0):=HI.out.rest 6 (by decide)
     have y7:a.tmps[7]? = some (.int .i64 1):=HI.out.rest 7 (by decide)
     have y2:a.tmps[2]? = some (.pointer (some ⟨w.heap.size,0,none⟩)):=HI.out.rest 2 (by decide)
     have y8:a.tmps[8]? = some (.int .i64 2):=HI.out.rest 8 (by decide)
     have y3:a.tmps[3]? = some (.pointer (some ⟨w.heap.size+1,0,none⟩)):=HI.out.rest 3 (by decide)
     have y5:a.tmps[5]? = some (.pointer (some ⟨W0.heap.size,0,none⟩)):=HI.out.rest 5 (by decide)
     have dK11:=(K1.out.below HI.out.world).cell (i:=1) rfl
     have dK22:=(K2.out.below HI.out.world).cell (i:=2) rfl
     have dK12:=(K1.out.below HI.out.world).cell (i:=2) rfl
     have dK21:=(K2.out.below HI.out.world).cell (i:=1) rfl
     have X1:RV _ listed a 1 19 (.int .i64 1):=HI.out.rh
     have X2:RV _ listed a 2 20 (.pointer (some ⟨w.heap.size,1,none⟩)):=HI.out.rh
     have X4:RV _ listed a 4 22 (.int .i64 2):=HI.out.rh
     have X5:RV _ listed a 5 23 (.pointer (some ⟨w.heap.size+1,2,none⟩)):=HI.out.rh
     have X3:RV _ listed a 3 21 (.string y):=HI.out.rh
     have X6:RV _ listed a 6 24 (.string t):=HI.out.rh
     have X8:RV _ listed a 8 26 (.int .i64 2):=HI.out.rh
     have X9:RV _ listed a 9 27 (.pointer (some ⟨w.heap.size,2,none⟩)):=HI.out.rh
     have X11:RV _ listed a 11 29 (.int .i64 1):=HI.out.rh
     have X12:RV _ listed a 12 30 (.pointer (some ⟨w.heap.size+1,1,none⟩)):=HI.out.rh
     have X10:RV _ listed a 10 28 (.string z):=HI.out.rh
     have X13:RV _ listed a 13 31 (.string v):=HI.out.rh
     have X7:RV _ listed a 7 25 (.string p0):=HI.out.rh
     have X14:RV _ listed a 14 32 (.string q0):=HI.out.rh
     have X0:RV _ listed a 0 18 (.int .i64 0):=HI.out.rh
     match i,him,Hr with
     | 0,_,Hi =>
       refine stepH rfl fun K' hK=>?_
       go_simp
       exact hK.out _ _ ⟨HI.out.pv Hi.out rfl,trivial⟩
     | 1,_,Hi =>
       refine stepH rfl fun K' hK=>?_
       go_simp
       exact hK.out _ _ ⟨HI.out.pv Hi.out rfl,trivial⟩
     | 2,_,Hi =>
       have x1:=X1.g Hi.out (by kernel_rfl)
       refine stepH rfl fun K' hK=>?_
       go_simp
       exact hK.out _ _ ⟨HI.out.pv Hi.out rfl,trivial⟩
     | 3,_,Hi =>
       have x2:=X2.g Hi.out (by kernel_rfl)
       refine stepH rfl fun K' hK=>?_
       go_simp
       exact hK.out _ _ ⟨HI.out.pv Hi.out rfl,trivial⟩
     | 4,_,Hi =>
       refine stepH rfl fun K' hK=>?_
       go_simp
       exact hK.out _ _ ⟨HI.out.pv Hi.out rfl,trivial⟩
     | 5,_,Hi =>
       have x4:=X4.g Hi.out (by kernel_rfl)
       refine stepH rfl fun K' hK=>?_
       go_simp
       exact hK.out _ _ ⟨HI.out.pv Hi.out rfl,trivial⟩
     | 6,_,Hi =>
       have x5:=X5.g Hi.out (by kernel_rfl)
       refine stepH rfl fun K' hK=>?_
       go_simp
       exact hK.out _ _ ⟨HI.out.pv Hi.out rfl,trivial⟩
     | 7,_,Hi =>
       have x3:=X3.g Hi.out (by kernel_rfl)
       have x6:=X6.g Hi.out (by kernel_rfl)
       refine stepH rfl fun K' hK=>?_
       go_simp
       with_reducible refine(C1.out _ (HB1.out.trans (HI.out.world.mono HB1.out.size))).mono ?_
       rintro e W' ⟨rfl,hb⟩
       exact hK.out _ _ ⟨HI.out.pc Hi.out hb rfl,trivial⟩
     | 8,_,Hi =>
       refine stepH rfl fun K' hK=>?_
       go_simp
       exact hK.out _ _ ⟨HI.out.pv Hi.out rfl,trivial⟩
     | 9,_,Hi =>
       have x8:=X8.g Hi.out (by kernel_rfl)
       refine stepH rfl fun K' hK=>?_
       go_simp
       exact hK.out _ _ ⟨HI.out.pv Hi.out rfl,trivial⟩
     | 10,_,Hi =>
       have x9:=X9.g Hi.out (by kernel_rfl)
       refine stepH rfl fun K' hK=>?_
       go_simp
       exact hK.out _ _ ⟨HI.out.pv Hi.out rfl,trivial⟩
     | 11,_,Hi =>
       refine stepH rfl fun K' hK=>?_
       go_simp
       exact hK.out _ _ ⟨HI.out.pv Hi.out rfl,trivial⟩
     | 12,_,Hi =>
       have x11:=X11.g Hi.out (by kernel_rfl)
       refine stepH rfl fun K' hK=>?_
       go_simp
       exact hK.out _ _ ⟨HI.out.pv Hi.out rfl,trivial⟩
     | 13,_,Hi =>
       have x12:=X12.g Hi.out (by kernel_rfl)
       refine stepH rfl fun K' hK=>?_
       go_simp
       exact hK.out _ _ ⟨HI.out.pv Hi.out rfl,trivial⟩
     | 14,_,Hi =>
       have x10:=X10.g Hi.out (by kernel_rfl)
       have x13:=X13.g Hi.out (by kernel_rfl)
       refine stepH rfl fun K' hK=>?_
       go_simp
       with_reducible refine(C2.out _ (HB1.out.trans (HI.out.world.mono HB1.out.size))).mono ?_
       rintro e W' ⟨rfl,hb⟩
       exact hK.out _ _ ⟨HI.out.pc Hi.out hb rfl,trivial⟩
     | 15,_,Hi =>
       have x7:=X7.g Hi.out (by kernel_rfl)
       have x14:=X14.g Hi.out (by kernel_rfl)
       refine stepH rfl fun K' hK=>?_
       go_simp
       with_reducible refine(C3.out _ (HB1.out.trans (HI.out.world.mono HB1.out.size))).mono ?_
       rintro e W' ⟨rfl,hb⟩
       exact hK.out _ _ ⟨HI.out.pc Hi.out hb rfl,trivial⟩
     | 16,_,Hi =>
       have x0:=X0.g Hi.out (by kernel_rfl)
       refine stepH rfl fun K' hK=>?_
       go_simp
       exact hK.out _ _ ⟨HI.out.pv Hi.out rfl,trivial⟩
     | n+17,h,_=>exact absurd h (by omega)
   · intro listed a W hI hD hall
     have x15:a.tmps[33]? = some (.string l):=hI.sx hall 15
     have x16:a.tmps[34]? = some (.pointer (some ⟨W0.heap.size,0,none⟩)):=hI.sx hall 16
     have HBW:=hid hI.world
     have HI:=hid hI
     have HA:=hid hall
     clear hI hall
     have K1:=hid (K1.out.below HBW.out)
     have K2:=hid (K2.out.below HBW.out)
     have K3:=hid (K3.out.below HBW.out)
     have K4:=hid (K4.out.below HBW.out)
     have HBX:=hid (HB1.out.trans (HBW.out.mono HB1.out.size))
     have dK40:=K4.out.cell (i:=0) rfl
     have fK40:=K4.out.frozen (i:=0)
     refine tail_succ (t:=0) ?_
     refine stepH rfl fun K' hK=>?_
     go_simp
     refine hK.out _ _ ?_
     clear hK
     refine tail_nil ?_
     have o0:∀ {g':Nat} {cs':Array Value} {T':TypeId},g'≠W0.heap.size→SBk W g' cs' T'→SBk (storeAll W (W0.heap.size) 0 [.string l]) g' cs' T':=fun hg' h'=>store_off hg' _ 0 h'
     exact⟨rfl,(HI.out.finx ⟨HI.out.sx HA.out 0,HI.out.sx HA.out 1,HI.out.sx HA.out 2,HI.out.sx HA.out 3,HI.out.sx HA.out 4,HI.out.sx HA.out 5,HI.out.sx HA.out 6,HI.out.sx HA.out 7,HI.out.sx HA.out 8,HI.out.sx HA.out 9,HI.out.sx HA.out 10,HI.out.sx HA.out 11,HI.out.sx HA.out 12,HI.out.sx HA.out 13,HI.out.sx HA.out 14,x15,x16,trivial⟩ rfl),(store_below (l:=[.string l]) (i:=0) (by omega) HBX.out),(o0 (by omega) K1.out),(o0 (by omega) K2.out),(o0 (by omega) K3.out),(store_blk (l:=[.string l]) (i:=0) K4.out)⟩
 rintro a' W2 ⟨rfl,z0,z1,z2,z3,z4⟩
 have HB2:=hid z0
 have K1:=hid z1
 have K2:=hid z2
 have K3:=hid z3
 have K4:=hid z4
 clear z0 z1 z2 z3 z4
 simp only[putL,List.setIfInBounds_toArray,List.set_cons_zero,List.set_cons_succ]
 go_wp2
 rw[rounds_succ]
 go_wp2_with fail
 refine wp_region_post (fun a0 a' V=>a'=⟨putL [(18,.int .i64 1),(19,.int .i64 2),(20,.pointer (some ⟨w.heap.size,2,none⟩)),(21,.string z),(22,.int .i64 0),(23,.pointer (some ⟨w.heap.size+1,0,none⟩)),(24,.string u),(25,.string p1),(26,.int .i64 0),(27,.pointer (some ⟨w.heap.size,0,none⟩)),(28,.string x),(29,.int .i64 2),(30,.pointer (some ⟨w.heap.size+1,2,none⟩)),(31,.string t),(32,.string q1),(33,.string m),(34,.pointer (some ⟨W0.heap.size,1,none⟩))] a0.tmps,a0.defers⟩∧Below w.heap.size w V∧SBk V (w.heap.size) #[.string x,.string y,.string z] 59∧SBk V (w.heap.size+1) #[.string u,.string v,.string t] 59∧SBk V (w.heap.size+1+1) #[.string ⟨#[]⟩,.string ⟨#[]⟩,.string ⟨#[]⟩] 59∧SBk V (W0.heap.size) #[.string l,.string m,.string ⟨#[]⟩] 59) ?_ ?_
 · refine wp_region_tail_d (by kernel_rfl) 17 1 (fun i=>[18,19,20,21,22,23,24,25,26,27,28,29,30,31,32,33,34].getD i 0) (RelR [Rel.val (.int .i64 1),Rel.val (.int .i64 2),Rel.val (.pointer (some ⟨w.heap.size,2,none⟩)),Rel.val (.string z),Rel.val (.int .i64 0),Rel.val (.pointer (some ⟨w.heap.size+1,0,none⟩)),Rel.val (.string u),Rel.val (.string p1),Rel.val (.int .i64 0),Rel.val (.pointer (some ⟨w.heap.size,0,none⟩)),Rel.val (.string x),Rel.val (.int .i64 2),Rel.val (.pointer (some ⟨w.heap.size+1,2,none⟩)),Rel.val (.string t),Rel.val (.string q1),Rel.val (.string m),Rel.val (.pointer (some ⟨W0.heap.size,1,none⟩))]) (fun W=>Below W2.heap.size W2 W) (fun _ _=>True) (by kernel_rfl) (by kernel_rfl) (by kernel_rfl) trivial (Below.refl _ _).drew ?_ ?_
   · intro listed a W i hI hD hrd him
     have HI:=hid hI
     have HD:=hid hD
     have Hr:=hid hrd
     clear hI hrd hD
     have y6:a.tmps[6]? = some (.int .i64 1):=HI.out.rest 6 (by decide)
     have y7:a.tmps[7]? = some (.int .i64 2):=HI.out.rest 7 (by decide)
     have y2:a.tmps[2]? = some (.pointer (some ⟨w.heap.size,0,none⟩)):=HI.out.rest 2 (by decide)
     have y8:a.tmps[8]? = some (.int .i64 0):=HI.out.rest 8 (by decide)
     have y3:a.tmps[3]? = some (.pointer (some ⟨w.heap.size+1,0,none⟩)):=HI.out.rest 3 (by decide)
     have y5:a.tmps[5]? = some (.pointer (some ⟨W0.heap.size,0,none⟩)):=HI.out.rest 5 (by decide)
     have dK12:=(K1.out.below HI.out.world).cell (i:=2) rfl
     have dK20:=(K2.out.below HI.out.world).cell (i:=0) rfl
     have dK10:=(K1.out.below HI.out.world).cell (i:=0) rfl
     have dK22:=(K2.out.below HI.out.world).cell (i:=2) rfl
     have X1:RV _ listed a 1 19 (.int .i64 2):=HI.out.rh
     have X2:RV _ listed a 2 20 (.pointer (some ⟨w.heap.size,2,none⟩)):=HI.out.rh
     have X4:RV _ listed a 4 22 (.int .i64 0):=HI.out.rh
     have X5:RV _ listed a 5 23 (.pointer (some ⟨w.heap.size+1,0,none⟩)):=HI.out.rh
     have X3:RV _ listed a 3 21 (.string z):=HI.out.rh
     have X6:RV _ listed a 6 24 (.string u):=HI.out.rh
     have X8:RV _ listed a 8 26 (.int .i64 0):=HI.out.rh
     have X9:RV _ listed a 9 27 (.pointer (some ⟨w.heap.size,0,none⟩)):=HI.out.rh
     have X11:RV _ listed a 11 29 (.int .i64 2):=HI.out.rh
     have X12:RV _ listed a 12 30 (.pointer (some ⟨w.heap.size+1,2,none⟩)):=HI.out.rh
     have X10:RV _ listed a 10 28 (.string x):=HI.out.rh
     have X13:RV _ listed a 13 31 (.string t):=HI.out.rh
     have X7:RV _ listed a 7 25 (.string p1):=HI.out.rh
     have X14:RV _ listed a 14 32 (.string q1):=HI.out.rh
     have X0:RV _ listed a 0 18 (.int .i64 1):=HI.out.rh
     match i,him,Hr with
     | 0,_,Hi =>
       refine stepH rfl fun K' hK=>?_
       go_simp
       exact hK.out _ _ ⟨HI.out.pv Hi.out rfl,trivial⟩
     | 1,_,Hi =>
       refine stepH rfl fun K' hK=>?_
       go_simp
       exact hK.out _ _ ⟨HI.out.pv Hi.out rfl,trivial⟩
     | 2,_,Hi =>
       have x1:=X1.g Hi.out (by kernel_rfl)
       refine stepH rfl fun K' hK=>?_
       go_simp
       exact hK.out _ _ ⟨HI.out.pv Hi.out rfl,trivial⟩
     | 3,_,Hi =>
       have x2:=X2.g Hi.out (by kernel_rfl)
       refine stepH rfl fun K' hK=>?_
       go_simp
       exact hK.out _ _ ⟨HI.out.pv Hi.out rfl,trivial⟩
     | 4,_,Hi =>
       refine stepH rfl fun K' hK=>?_
       go_simp
       exact hK.out _ _ ⟨HI.out.pv Hi.out rfl,trivial⟩
     | 5,_,Hi =>
       have x4:=X4.g Hi.out (by kernel_rfl)
       refine stepH rfl fun K' hK=>?_
       go_simp
       exact hK.out _ _ ⟨HI.out.pv Hi.out rfl,trivial⟩
     | 6,_,Hi =>
       have x5:=X5.g Hi.out (by kernel_rfl)
       refine stepH rfl fun K' hK=>?_
       go_simp
       exact hK.out _ _ ⟨HI.out.pv Hi.out rfl,trivial⟩
     | 7,_,Hi =>
       have x3:=X3.g Hi.out (by kernel_rfl)
       have x6:=X6.g Hi.out (by kernel_rfl)
       refine stepH rfl fun K' hK=>?_
       go_simp
       with_reducible refine(C4.out _ (HB2.out.trans (HI.out.world.mono HB2.out.size))).mono ?_
       rintro e W' ⟨rfl,hb⟩
       exact hK.out _ _ ⟨HI.out.pc Hi.out hb rfl,trivial⟩
     | 8,_,Hi =>
       refine stepH rfl fun K' hK=>?_
       go_simp
       exact hK.out _ _ ⟨HI.out.pv Hi.out rfl,trivial⟩
     | 9,_,Hi =>
       have x8:=X8.g Hi.out (by kernel_rfl)
       refine stepH rfl fun K' hK=>?_
       go_simp
       exact hK.out _ _ ⟨HI.out.pv Hi.out rfl,trivial⟩
     | 10,_,Hi =>
       have x9:=X9.g Hi.out (by kernel_rfl)
       refine stepH rfl fun K' hK=>?_
       go_simp
       exact hK.out _ _ ⟨HI.out.pv Hi.out rfl,trivial⟩
     | 11,_,Hi =>
       refine stepH rfl fun K' hK=>?_
       go_simp
       exact hK.out _ _ ⟨HI.out.pv Hi.out rfl,trivial⟩
     | 12,_,Hi =>
       have x11:=X11.g Hi.out (by kernel_rfl)
       refine stepH rfl fun K' hK=>?_
       go_simp
       exact hK.out _ _ ⟨HI.out.pv Hi.out rfl,trivial⟩
     | 13,_,Hi =>
       have x12:=X12.g Hi.out (by kernel_rfl)
       refine stepH rfl fun K' hK=>?_
       go_simp
       exact hK.out _ _ ⟨HI.out.pv Hi.out rfl,trivial⟩
     | 14,_,Hi =>
       have x10:=X10.g Hi.out (by kernel_rfl)
       have x13:=X13.g Hi.out (by kernel_rfl)
       refine stepH rfl fun K' hK=>?_
       go_simp
       with_reducible refine(C5.out _ (HB2.out.trans (HI.out.world.mono HB2.out.size))).mono ?_
       rintro e W' ⟨rfl,hb⟩
       exact hK.out _ _ ⟨HI.out.pc Hi.out hb rfl,trivial⟩
     | 15,_,Hi =>
       have x7:=X7.g Hi.out (by kernel_rfl)
       have x14:=X14.g Hi.out (by kernel_rfl)
       refine stepH rfl fun K' hK=>?_
       go_simp
       with_reducible refine(C6.out _ (HB2.out.trans (HI.out.world.mono HB2.out.size))).mono ?_
       rintro e W' ⟨rfl,hb⟩
       exact hK.out _ _ ⟨HI.out.pc Hi.out hb rfl,trivial⟩
     | 16,_,Hi =>
       have x0:=X0.g Hi.out (by kernel_rfl)
       refine stepH rfl fun K' hK=>?_
       go_simp
       exact hK.out _ _ ⟨HI.out.pv Hi.out rfl,trivial⟩
     | n+17,h,_=>exact absurd h (by omega)
   · intro listed a W hI hD hall
     have x15:a.tmps[33]? = some (.string m):=hI.sx hall 15
     have x16:a.tmps[34]? = some (.pointer (some ⟨W0.heap.size,1,none⟩)):=hI.sx hall 16
     have HBW:=hid hI.world
     have HI:=hid hI
     have HA:=hid hall
     clear hI hall
     have K1:=hid (K1.out.below HBW.out)
     have K2:=hid (K2.out.below HBW.out)
     have K3:=hid (K3.out.below HBW.out)
     have K4:=hid (K4.out.below HBW.out)
     have HBX:=hid (HB2.out.trans (HBW.out.mono HB2.out.size))
     have dK41:=K4.out.cell (i:=1) rfl
     have fK41:=K4.out.frozen (i:=1)
     refine tail_succ (t:=0) ?_
     refine stepH rfl fun K' hK=>?_
     go_simp
     refine hK.out _ _ ?_
     clear hK
     refine tail_nil ?_
     have o0:∀ {g':Nat} {cs':Array Value} {T':TypeId},g'≠W0.heap.size→SBk W g' cs' T'→SBk (storeAll W (W0.heap.size) 1 [.string m]) g' cs' T':=fun hg' h'=>store_off hg' _ 1 h'
     exact⟨rfl,(HI.out.finx ⟨HI.out.sx HA.out 0,HI.out.sx HA.out 1,HI.out.sx HA.out 2,HI.out.sx HA.out 3,HI.out.sx HA.out 4,HI.out.sx HA.out 5,HI.out.sx HA.out 6,HI.out.sx HA.out 7,HI.out.sx HA.out 8,HI.out.sx HA.out 9,HI.out.sx HA.out 10,HI.out.sx HA.out 11,HI.out.sx HA.out 12,HI.out.sx HA.out 13,HI.out.sx HA.out 14,x15,x16,trivial⟩ rfl),(store_below (l:=[.string m]) (i:=1) (by omega) HBX.out),(o0 (by omega) K1.out),(o0 (by omega) K2.out),(o0 (by omega) K3.out),(store_blk (l:=[.string m]) (i:=1) K4.out)⟩
 rintro a' W3 ⟨rfl,z0,z1,z2,z3,z4⟩
 have HB3:=hid z0
 have K1:=hid z1
 have K2:=hid z2
 have K3:=hid z3
 have K4:=hid z4
 clear z0 z1 z2 z3 z4
 simp only[putL,List.setIfInBounds_toArray,List.set_cons_zero,List.set_cons_succ]
 go_wp2
 rw[rounds_succ]
 go_wp2_with fail
 refine wp_region_post (fun a0 a' V=>a'=⟨putL [(18,.int .i64 2),(19,.int .i64 0),(20,.pointer (some ⟨w.heap.size,0,none⟩)),(21,.string x),(22,.int .i64 1),(23,.pointer (some ⟨w.heap.size+1,1,none⟩)),(24,.string v),(25,.string p2),(26,.int .i64 1),(27,.pointer (some ⟨w.heap.size,1,none⟩)),(28,.string y),(29,.int .i64 0),(30,.pointer (some ⟨w.heap.size+1,0,none⟩)),(31,.string u),(32,.string q2),(33,.string n),(34,.pointer (some ⟨W0.heap.size,2,none⟩))] a0.tmps,a0.defers⟩∧Below w.heap.size w V∧SBk V (w.heap.size+1+1) #[.string ⟨#[]⟩,.string ⟨#[]⟩,.string ⟨#[]⟩] 59∧SBk V (W0.heap.size) #[.string l,.string m,.string n] 59) ?_ ?_
 · refine wp_region_tail_d (by kernel_rfl) 17 1 (fun i=>[18,19,20,21,22,23,24,25,26,27,28,29,30,31,32,33,34].getD i 0) (RelR [Rel.val (.int .i64 2),Rel.val (.int .i64 0),Rel.val (.pointer (some ⟨w.heap.size,0,none⟩)),Rel.val (.string x),Rel.val (.int .i64 1),Rel.val (.pointer (some ⟨w.heap.size+1,1,none⟩)),Rel.val (.string v),Rel.val (.string p2),Rel.val (.int .i64 1),Rel.val (.pointer (some ⟨w.heap.size,1,none⟩)),Rel.val (.string y),Rel.val (.int .i64 0),Rel.val (.pointer (some ⟨w.heap.size+1,0,none⟩)),Rel.val (.string u),Rel.val (.string q2),Rel.val (.string n),Rel.val (.pointer (some ⟨W0.heap.size,2,none⟩))]) (fun W=>Below W3.heap.size W3 W) (fun _ _=>True) (by kernel_rfl) (by kernel_rfl) (by kernel_rfl) trivial (Below.refl _ _).drew ?_ ?_
   · intro listed a W i hI hD hrd him
     have HI:=hid hI
     have HD:=hid hD
     have Hr:=hid hrd
     clear hI hrd hD
     have y6:a.tmps[6]? = some (.int .i64 2):=HI.out.rest 6 (by decide)
     have y7:a.tmps[7]? = some (.int .i64 0):=HI.out.rest 7 (by decide)
     have y2:a.tmps[2]? = some (.pointer (some ⟨w.heap.size,0,none⟩)):=HI.out.rest 2 (by decide)
     have y8:a.tmps[8]? = some (.int .i64 1):=HI.out.rest 8 (by decide)
     have y3:a.tmps[3]? = some (.pointer (some ⟨w.heap.size+1,0,none⟩)):=HI.out.rest 3 (by decide)
     have y5:a.tmps[5]? = some (.pointer (some ⟨W0.heap.size,0,none⟩)):=HI.out.rest 5 (by decide)
     have dK10:=(K1.out.below HI.out.world).cell (i:=0) rfl
     have dK21:=(K2.out.below HI.out.world).cell (i:=1) rfl
     have dK11:=(K1.out.below HI.out.world).cell (i:=1) rfl
     have dK20:=(K2.out.below HI.out.world).cell (i:=0) rfl
     have X1:RV _ listed a 1 19 (.int .i64 0):=HI.out.rh
     have X2:RV _ listed a 2 20 (.pointer (some ⟨w.heap.size,0,none⟩)):=HI.out.rh
     have X4:RV _ listed a 4 22 (.int .i64 1):=HI.out.rh
     have X5:RV _ listed a 5 23 (.pointer (some ⟨w.heap.size+1,1,none⟩)):=HI.out.rh
     have X3:RV _ listed a 3 21 (.string x):=HI.out.rh
     have X6:RV _ listed a 6 24 (.string v):=HI.out.rh
     have X8:RV _ listed a 8 26 (.int .i64 1):=HI.out.rh
     have X9:RV _ listed a 9 27 (.pointer (some ⟨w.heap.size,1,none⟩)):=HI.out.rh
     have X11:RV _ listed a 11 29 (.int .i64 0):=HI.out.rh
     have X12:RV _ listed a 12 30 (.pointer (some ⟨w.heap.size+1,0,none⟩)):=HI.out.rh
     have X10:RV _ listed a 10 28 (.string y):=HI.out.rh
     have X13:RV _ listed a 13 31 (.string u):=HI.out.rh
     have X7:RV _ listed a 7 25 (.string p2):=HI.out.rh
     have X14:RV _ listed a 14 32 (.string q2):=HI.out.rh
     have X0:RV _ listed a 0 18 (.int .i64 2):=HI.out.rh
     match i,him,Hr with
     | 0,_,Hi =>
       refine stepH rfl fun K' hK=>?_
       go_simp
       exact hK.out _ _ ⟨HI.out.pv Hi.out rfl,trivial⟩
     | 1,_,Hi =>
       refine stepH rfl fun K' hK=>?_
       go_simp
       exact hK.out _ _ ⟨HI.out.pv Hi.out rfl,trivial⟩
     | 2,_,Hi =>
       have x1:=X1.g Hi.out (by kernel_rfl)
       refine stepH rfl fun K' hK=>?_
       go_simp
       exact hK.out _ _ ⟨HI.out.pv Hi.out rfl,trivial⟩
     | 3,_,Hi =>
       have x2:=X2.g Hi.out (by kernel_rfl)
       refine stepH rfl fun K' hK=>?_
       go_simp
       exact hK.out _ _ ⟨HI.out.pv Hi.out rfl,trivial⟩
     | 4,_,Hi =>
       refine stepH rfl fun K' hK=>?_
       go_simp
       exact hK.out _ _ ⟨HI.out.pv Hi.out rfl,trivial⟩
     | 5,_,Hi =>
       have x4:=X4.g Hi.out (by kernel_rfl)
       refine stepH rfl fun K' hK=>?_
       go_simp
       exact hK.out _ _ ⟨HI.out.pv Hi.out rfl,trivial⟩
     | 6,_,Hi =>
       have x5:=X5.g Hi.out (by kernel_rfl)
       refine stepH rfl fun K' hK=>?_
       go_simp
       exact hK.out _ _ ⟨HI.out.pv Hi.out rfl,trivial⟩
     | 7,_,Hi =>
       have x3:=X3.g Hi.out (by kernel_rfl)
       have x6:=X6.g Hi.out (by kernel_rfl)
       refine stepH rfl fun K' hK=>?_
       go_simp
       with_reducible refine(C7.out _ (HB3.out.trans (HI.out.world.mono HB3.out.size))).mono ?_
       rintro e W' ⟨rfl,hb⟩
       exact hK.out _ _ ⟨HI.out.pc Hi.out hb rfl,trivial⟩
     | 8,_,Hi =>
       refine stepH rfl fun K' hK=>?_
       go_simp
       exact hK.out _ _ ⟨HI.out.pv Hi.out rfl,trivial⟩
     | 9,_,Hi =>
       have x8:=X8.g Hi.out (by kernel_rfl)
       refine stepH rfl fun K' hK=>?_
       go_simp
       exact hK.out _ _ ⟨HI.out.pv Hi.out rfl,trivial⟩
     | 10,_,Hi =>
       have x9:=X9.g Hi.out (by kernel_rfl)
       refine stepH rfl fun K' hK=>?_
       go_simp
       exact hK.out _ _ ⟨HI.out.pv Hi.out rfl,trivial⟩
     | 11,_,Hi =>
       refine stepH rfl fun K' hK=>?_
       go_simp
       exact hK.out _ _ ⟨HI.out.pv Hi.out rfl,trivial⟩
     | 12,_,Hi =>
       have x11:=X11.g Hi.out (by kernel_rfl)
       refine stepH rfl fun K' hK=>?_
       go_simp
       exact hK.out _ _ ⟨HI.out.pv Hi.out rfl,trivial⟩
     | 13,_,Hi =>
       have x12:=X12.g Hi.out (by kernel_rfl)
       refine stepH rfl fun K' hK=>?_
       go_simp
       exact hK.out _ _ ⟨HI.out.pv Hi.out rfl,trivial⟩
     | 14,_,Hi =>
       have x10:=X10.g Hi.out (by kernel_rfl)
       have x13:=X13.g Hi.out (by kernel_rfl)
       refine stepH rfl fun K' hK=>?_
       go_simp
       with_reducible refine(C8.out _ (HB3.out.trans (HI.out.world.mono HB3.out.size))).mono ?_
       rintro e W' ⟨rfl,hb⟩
       exact hK.out _ _ ⟨HI.out.pc Hi.out hb rfl,trivial⟩
     | 15,_,Hi =>
       have x7:=X7.g Hi.out (by kernel_rfl)
       have x14:=X14.g Hi.out (by kernel_rfl)
       refine stepH rfl fun K' hK=>?_
       go_simp
       with_reducible refine(C9.out _ (HB3.out.trans (HI.out.world.mono HB3.out.size))).mono ?_
       rintro e W' ⟨rfl,hb⟩
       exact hK.out _ _ ⟨HI.out.pc Hi.out hb rfl,trivial⟩
     | 16,_,Hi =>
       have x0:=X0.g Hi.out (by kernel_rfl)
       refine stepH rfl fun K' hK=>?_
       go_simp
       exact hK.out _ _ ⟨HI.out.pv Hi.out rfl,trivial⟩
     | n+17,h,_=>exact absurd h (by omega)
   · intro listed a W hI hD hall
     have x15:a.tmps[33]? = some (.string n):=hI.sx hall 15
     have x16:a.tmps[34]? = some (.pointer (some ⟨W0.heap.size,2,none⟩)):=hI.sx hall 16
     have HBW:=hid hI.world
     have HI:=hid hI
     have HA:=hid hall
     clear hI hall
     have K3:=hid (K3.out.below HBW.out)
     have K4:=hid (K4.out.below HBW.out)
     have HBX:=hid (HB3.out.trans (HBW.out.mono HB3.out.size))
     have dK42:=K4.out.cell (i:=2) rfl
     have fK42:=K4.out.frozen (i:=2)
     refine tail_succ (t:=0) ?_
     refine stepH rfl fun K' hK=>?_
     go_simp
     refine hK.out _ _ ?_
     clear hK
     refine tail_nil ?_
     have o0:∀ {g':Nat} {cs':Array Value} {T':TypeId},g'≠W0.heap.size→SBk W g' cs' T'→SBk (storeAll W (W0.heap.size) 2 [.string n]) g' cs' T':=fun hg' h'=>store_off hg' _ 2 h'
     exact⟨rfl,(HI.out.finx ⟨HI.out.sx HA.out 0,HI.out.sx HA.out 1,HI.out.sx HA.out 2,HI.out.sx HA.out 3,HI.out.sx HA.out 4,HI.out.sx HA.out 5,HI.out.sx HA.out 6,HI.out.sx HA.out 7,HI.out.sx HA.out 8,HI.out.sx HA.out 9,HI.out.sx HA.out 10,HI.out.sx HA.out 11,HI.out.sx HA.out 12,HI.out.sx HA.out 13,HI.out.sx HA.out 14,x15,x16,trivial⟩ rfl),(store_below (l:=[.string n]) (i:=2) (by omega) HBX.out),(o0 (by omega) K3.out),(store_blk (l:=[.string n]) (i:=2) K4.out)⟩
 rintro a' W4 ⟨rfl,z0,z1,z2⟩
 have HB4:=hid z0
 have K3:=hid z1
 have K4:=hid z2
 clear z0 z1 z2
 simp only[putL,List.setIfInBounds_toArray,List.set_cons_zero,List.set_cons_succ]
 go_wp2
 rw[rounds_succ]
 have dK40:=K4.out.cell (i:=0) rfl
 have dK41:=K4.out.cell (i:=1) rfl
 have dK42:=K4.out.cell (i:=2) rfl
 have dK30:=K3.out.cell (i:=0) rfl
 have dK31:=K3.out.cell (i:=1) rfl
 have dK32:=K3.out.cell (i:=2) rfl
 have fK30:=K3.out.frozen (i:=0)
 have fK31:=K3.out.frozen (i:=1)
 have fK32:=K3.out.frozen (i:=2)
 go_wp2
 exact bodyPost_ret (v:=.agg #[.string l,.string m,.string n]) (by simp[results,Tryz.results30,go_sem,dK30,dK31,dK32]) rfl ⟨rfl,(store_below (l:=[.string l,.string m,.string n]) (i:=0) (by omega) HB4.out)⟩
end Go.Proofs.YtklfllmfcckgjaaGreatDoor
