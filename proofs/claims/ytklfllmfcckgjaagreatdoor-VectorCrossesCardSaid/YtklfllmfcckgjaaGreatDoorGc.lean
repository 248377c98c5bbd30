/- vector.combine: walks. -/
import Derived.Test.YtklfllmfcckgjaaGreatDoorMz40q
set_option maxRecDepth 100000
set_option maxHeartbeats 20000000
open Go.Lib (hid)
namespace Go.Proofs.YtklfllmfcckgjaaGreatDoor
open Go.RowKit Go.Gb
theorem vcombine_plus (x y z u v t l m n:ByteArray)(w₀:World)(h1:CV w₀ 38 #[.string x,.string u] (.string l))(h2:CV w₀ 38 #[.string y,.string v] (.string m))(h3:CV w₀ 38 #[.string z,.string t] (.string n))  :
 CV w₀ 37 #[.agg #[.string x,.string y,.string z],.agg #[.string u,.string v,.string t],.func (.func 38) #[] #[]] (.agg #[.string l,.string m,.string n]):=by
 intro w hw
 have C1:=hid (h1.mono hw)
 have C2:=hid (h2.mono hw)
 have C3:=hid (h3.mono hw)
 clear h1 h2 h3 hw
 go_enter Tryz.func37,Tryz.ntmps37
 go_upto_region 1 with fail
 refine wp_boxes w [(#[.string x,.string y,.string z],59),(#[.string u,.string v,.string t],59),(#[.string ⟨#[]⟩,.string ⟨#[]⟩,.string ⟨#[]⟩],59)] rfl ?_
 rintro W0 ⟨k1,k2,k3,hb⟩
 have HB0:=hid (show Below w.heap.size w W0 from hb)
 have K1:=hid k1
 have K2:=hid k2
 have K3:=hid k3
 clear k1 k2 k3 hb
 go_upto_region 2 with fail
 refine wp_boxes W0 [(#[.string ⟨#[]⟩,.string ⟨#[]⟩,.string ⟨#[]⟩],59)] rfl ?_
 have L1:=K1.out.lt
 have L2:=K2.out.lt
 have L3:=K3.out.lt
 have L4:=HB0.out.size
 rintro W1 ⟨k4,hb⟩
 have hb:Below W0.heap.size W0 W1:=hb
 have K1:=hid (K1.out.below hb)
 have K2:=hid (K2.out.below hb)
 have K3:=hid (K3.out.below hb)
 have HB1:=hbt HB0 hb
 have K4:=hid k4
 clear k4 hb
 go_wp2
 refine wp_loop_rounds 4 ?_
 rw[rounds_succ]
 go_wp2_with fail
 refine wp_region_post (fun a0 a' V=>a'=⟨putL [(12,.int .i64 0),(13,.func (.func 38) #[] #[]),(14,.int .i64 0),(15,.pointer (some ⟨w.heap.size,0,none⟩)),(16,.string x),(17,.int .i64 0),(18,.pointer (some ⟨w.heap.size+1,0,none⟩)),(19,.string u),(20,.string l),(21,.pointer (some ⟨W0.heap.size,0,none⟩))] a0.tmps,a0.defers⟩∧Below w.heap.size w V∧SBk V (w.heap.size) #[.string x,.string y,.string z] 59∧SBk V (w.heap.size+1) #[.string u,.string v,.string t] 59∧SBk V (w.heap.size+1+1) #[.string ⟨#[]⟩,.string ⟨#[]⟩,.string ⟨#[]⟩] 59∧SBk V (W0.heap.size) #[.string l,.string ⟨#[]⟩,.string ⟨#[]⟩] 59) ?_ ?_
 · refine wp_region_tail_d (by kernel_rfl) 10 1 (fun i=>[12,13,14,15,16,17,18,19,20,21].getD i 0) (RelR [Rel.val (.int .i64 0),Rel.val (.func (.func 38) #[] #[]),Rel.val (.int .i64 0),Rel.val (.pointer (some ⟨w.heap.size,0,none⟩)),Rel.val (.string x),Rel.val (.int .i64 0),Rel.val (.pointer (some ⟨w.heap.size+1,0,none⟩)),Rel.val (.string u),Rel.val (.string l),Rel.val (.pointer (some ⟨W0.heap.size,0,none⟩))]) (fun W=>Below W1.heap.size W1 W) (fun _ _=>True) (by kernel_rfl) (by kernel_rfl) (by kernel_rfl) trivial (Below.refl _ _).drew ?_ ?_
   · intro listed a W i hI hD hrd him
     have HI:=hid hI
     have HD:=hid hD
     have Hr:=hid hrd
     clear hI hrd hD
     have y8:a.tmps[8]? = some (.int .i64 0):=HI.out.rest 8 (by decide)
     have y2:a.tmps[2]? = some (.func (.func 38) #[] #[]):=HI.out.rest 2 (by decide)
     have y3:a.tmps[3]? = some (.pointer (some ⟨w.heap.size,0,none⟩)):=HI.out.rest 3 (by decide)
     have y4:a.tmps[4]? = some (.pointer (some ⟨w.heap.size+1,0,none⟩)):=HI.out.rest 4 (by decide)
     have y7:a.tmps[7]? = some (.pointer (some ⟨W0.heap.size,0,none⟩)):=HI.out.rest 7 (by decide)
     have dK10:=(K1.out.below HI.out.world).cell (i:=0) rfl
     have dK20:=(K2.out.below HI.out.world).cell (i:=0) rfl
     have X2:RV _ listed a 2 14 (.int .i64 0):=HI.out.rh
     have X3:RV _ listed a 3 15 (.pointer (some ⟨w.heap.size,0,none⟩)):=HI.out.rh
     have X5:RV _ listed a 5 17 (.int .i64 0):=HI.out.rh
     have X6:RV _ listed a 6 18 (.pointer (some ⟨w.heap.size+1,0,none⟩)):=HI.out.rh
     have X1:RV _ listed a 1 13 (.func (.func 38) #[] #[]):=HI.out.rh
     have X4:RV _ listed a 4 16 (.string x):=HI.out.rh
     have X7:RV _ listed a 7 19 (.string u):=HI.out.rh
     have X0:RV _ listed a 0 12 (.int .i64 0):=HI.out.rh
     match i,him,Hr with
     | 0,_,Hi =>
       refine stepH rfl fun K' hK=>?_
       go_simp
       exact hK.out _ _ ⟨HI.out.pv Hi.out rfl,trivial⟩
     | 1,_,Hi =>
       refine stepH rfl fun K' hK=>?_
       go_simp
       exact hK.out _ _ ⟨HI.out.pv Hi.out rfl,trivial⟩
     | 2,_,Hi =>
       refine stepH rfl fun K' hK=>?_
       go_simp
       exact hK.out _ _ ⟨HI.out.pv Hi.out rfl,trivial⟩
     | 3,_,Hi =>
       have x2:=X2.g Hi.out (by kernel_rfl)
       refine stepH rfl fun K' hK=>?_
       go_simp
       exact hK.out _ _ ⟨HI.out.pv Hi.out rfl,trivial⟩
     | 4,_,Hi =>
       have x3:=X3.g Hi.out (by kernel_rfl)
       refine stepH rfl fun K' hK=>?_
       go_simp
       exact hK.out _ _ ⟨HI.out.pv Hi.out rfl,trivial⟩
     | 5,_,Hi =>
       refine stepH rfl fun K' hK=>?_
       go_simp
       exact hK.out _ _ ⟨HI.out.pv Hi.out rfl,trivial⟩
     | 6,_,Hi =>
       have x5:=X5.g Hi.out (by kernel_rfl)
       refine stepH rfl fun K' hK=>?_
       go_simp
       exact hK.out _ _ ⟨HI.out.pv Hi.out rfl,trivial⟩
     | 7,_,Hi =>
       have x6:=X6.g Hi.out (by kernel_rfl)
       refine stepH rfl fun K' hK=>?_
       go_simp
       exact hK.out _ _ ⟨HI.out.pv Hi.out rfl,trivial⟩
     | 8,_,Hi =>
       have x1:=X1.g Hi.out (by kernel_rfl)
       have x4:=X4.g Hi.out (by kernel_rfl)
       have x7:=X7.g Hi.out (by kernel_rfl)
       refine stepH rfl fun K' hK=>?_
       go_simp
       with_reducible refine(C1.out _ (HB1.out.trans (HI.out.world.mono HB1.out.size))).mono ?_
       rintro e W' ⟨rfl,hb⟩
       exact hK.out _ _ ⟨HI.out.pc Hi.out hb rfl,trivial⟩
     | 9,_,Hi =>
       have x0:=X0.g Hi.out (by kernel_rfl)
       refine stepH rfl fun K' hK=>?_
       go_simp
       exact hK.out _ _ ⟨HI.out.pv Hi.out rfl,trivial⟩
     | n+10,h,_=>exact absurd h (by omega)
   · intro listed a W hI hD hall
     have x8:a.tmps[20]? = some (.string l):=hI.sx hall 8
     have x9:a.tmps[21]? = some (.pointer (some ⟨W0.heap.size,0,none⟩)):=hI.sx hall 9
     have HBW:=hid hI.world
     have HI:=hid hI
     have HA:=hid hall
     clear hI hall
     have K1:=hid (K1.out.below HBW.out)
     have K2:=hid (K2.out.below HBW.out)
     have K3:=hid (K3.out.below HBW.out)
     have K4:=hid (K4.out.below HBW.out)
     have HBX:=hid (HB1.out.trans (HBW.out.mono HB1.out.size))
     have dK40:=K4.out.cell (i:=0) rfl
     have fK40:=K4.out.frozen (i:=0)
     refine tail_succ (t:=0) ?_
     refine stepH rfl fun K' hK=>?_
     go_simp
     refine hK.out _ _ ?_
     clear hK
     refine tail_nil ?_
     have o0:∀ {g':Nat} {cs':Array Value} {T':TypeId},g'≠W0.heap.size→SBk W g' cs' T'→SBk (storeAll W (W0.heap.size) 0 [.string l]) g' cs' T':=fun hg' h'=>store_off hg' _ 0 h'
     exact⟨rfl,(HI.out.finx ⟨HI.out.sx HA.out 0,HI.out.sx HA.out 1,HI.out.sx HA.out 2,HI.out.sx HA.out 3,HI.out.sx HA.out 4,HI.out.sx HA.out 5,HI.out.sx HA.out 6,HI.out.sx HA.out 7,x8,x9,trivial⟩ rfl),(store_below (l:=[.string l]) (i:=0) (by omega) HBX.out),(o0 (by omega) K1.out),(o0 (by omega) K2.out),(o0 (by omega) K3.out),(store_blk (l:=[.string l]) (i:=0) K4.out)⟩
 rintro a' W2 ⟨rfl,z0,z1,z2,z3,z4⟩
 have HB2:=hid z0
 have K1:=hid z1
 have K2:=hid z2
 have K3:=hid z3
 have K4:=hid z4
 clear z0 z1 z2 z3 z4
 simp only[putL,List.setIfInBounds_toArray,List.set_cons_zero,List.set_cons_succ]
 go_wp2
 rw[rounds_succ]
 go_wp2_with fail
 refine wp_region_post (fun a0 a' V=>a'=⟨putL [(12,.int .i64 1),(13,.func (.func 38) #[] #[]),(14,.int .i64 1),(15,.pointer (some ⟨w.heap.size,1,none⟩)),(16,.string y),(17,.int .i64 1),(18,.pointer (some ⟨w.heap.size+1,1,none⟩)),(19,.string v),(20,.string m),(21,.pointer (some ⟨W0.heap.size,1,none⟩))] a0.tmps,a0.defers⟩∧Below w.heap.size w V∧SBk V (w.heap.size) #[.string x,.string y,.string z] 59∧SBk V (w.heap.size+1) #[.string u,.string v,.string t] 59∧SBk V (w.heap.size+1+1) #[.string ⟨#[]⟩,.string ⟨#[]⟩,.string ⟨#[]⟩] 59∧SBk V (W0.heap.size) #[.string l,.string m,.string ⟨#[]⟩] 59) ?_ ?_
 · refine wp_region_tail_d (by kernel_rfl) 10 1 (fun i=>[12,13,14,15,16,17,18,19,20,21].getD i 0) (RelR [Rel.val (.int .i64 1),Rel.val (.func (.func 38) #[] #[]),Rel.val (.int .i64 1),Rel.val (.pointer (some ⟨w.heap.size,1,none⟩)),Rel.val (.string y),Rel.val (.int .i64 1),Rel.val (.pointer (some ⟨w.heap.size+1,1,none⟩)),Rel.val (.string v),Rel.val (.string m),Rel.val (.pointer (some ⟨W0.heap.size,1,none⟩))]) (fun W=>Below W2.heap.size W2 W) (fun _ _=>True) (by kernel_rfl) (by kernel_rfl) (by kernel_rfl) trivial (Below.refl _ _).drew ?_ ?_
   · intro listed a W i hI hD hrd him
     have HI:=hid hI
     have HD:=hid hD
     have Hr:=hid hrd
     clear hI hrd hD
     have y8:a.tmps[8]? = some (.int .i64 1):=HI.out.rest 8 (by decide)
     have y2:a.tmps[2]? = some (.func (.func 38) #[] #[]):=HI.out.rest 2 (by decide)
     have y3:a.tmps[3]? = some (.pointer (some ⟨w.heap.size,0,none⟩)):=HI.out.rest 3 (by decide)
     have y4:a.tmps[4]? = some (.pointer (some ⟨w.heap.size+1,0,none⟩)):=HI.out.rest 4 (by decide)
     have y7:a.tmps[7]? = some (.pointer (some ⟨W0.heap.size,0,none⟩)):=HI.out.rest 7 (by decide)
     have dK11:=(K1.out.below HI.out.world).cell (i:=1) rfl
     have dK21:=(K2.out.below HI.out.world).cell (i:=1) rfl
     have X2:RV _ listed a 2 14 (.int .i64 1):=HI.out.rh
     have X3:RV _ listed a 3 15 (.pointer (some ⟨w.heap.size,1,none⟩)):=HI.out.rh
     have X5:RV _ listed a 5 17 (.int .i64 1):=HI.out.rh
     have X6:RV _ listed a 6 18 (.pointer (some ⟨w.heap.size+1,1,none⟩)):=HI.out.rh
     have X1:RV _ listed a 1 13 (.func (.func 38) #[] #[]):=HI.out.rh
     have X4:RV _ listed a 4 16 (.string y):=HI.out.rh
     have X7:RV _ listed a 7 19 (.string v):=HI.out.rh
     have X0:RV _ listed a 0 12 (.int .i64 1):=HI.out.rh
     match i,him,Hr with
     | 0,_,Hi =>
       refine stepH rfl fun K' hK=>?_
       go_simp
       exact hK.out _ _ ⟨HI.out.pv Hi.out rfl,trivial⟩
     | 1,_,Hi =>
       refine stepH rfl fun K' hK=>?_
       go_simp
       exact hK.out _ _ ⟨HI.out.pv Hi.out rfl,trivial⟩
     | 2,_,Hi =>
       refine stepH rfl fun K' hK=>?_
       go_simp
       exact hK.out _ _ ⟨HI.out.pv Hi.out rfl,trivial⟩
     | 3,_,Hi =>
       have x2:=X2.g Hi.out (by kernel_rfl)
       refine stepH rfl fun K' hK=>?_
       go_simp
       exact hK.out _ _ ⟨HI.out.pv Hi.out rfl,trivial⟩
     | 4,_,Hi =>
       have x3:=X3.g Hi.out (by kernel_rfl)
       refine stepH rfl fun K' hK=>?_
       go_simp
       exact hK.out _ _ ⟨HI.out.pv Hi.out rfl,trivial⟩
     | 5,_,Hi =>
       refine stepH rfl fun K' hK=>?_
       go_simp
       exact hK.out _ _ ⟨HI.out.pv Hi.out rfl,trivial⟩
     | 6,_,Hi =>
       have x5:=X5.g Hi.out (by kernel_rfl)
       refine stepH rfl fun K' hK=>?_
       go_simp
       exact hK.out _ _ ⟨HI.out.pv Hi.out rfl,trivial⟩
     | 7,_,Hi =>
       have x6:=X6.g Hi.out (by kernel_rfl)
       refine stepH rfl fun K' hK=>?_
       go_simp
       exact hK.out _ _ ⟨HI.out.pv Hi.out rfl,trivial⟩
     | 8,_,Hi =>
       have x1:=X1.g Hi.out (by kernel_rfl)
       have x4:=X4.g Hi.out (by kernel_rfl)
       have x7:=X7.g Hi.out (by kernel_rfl)
       refine stepH rfl fun K' hK=>?_
       go_simp
       with_reducible refine(C2.out _ (HB2.out.trans (HI.out.world.mono HB2.out.size))).mono ?_
       rintro e W' ⟨rfl,hb⟩
       exact hK.out _ _ ⟨HI.out.pc Hi.out hb rfl,trivial⟩
     | 9,_,Hi =>
       have x0:=X0.g Hi.out (by kernel_rfl)
       refine stepH rfl fun K' hK=>?_
       go_simp
       exact hK.out _ _ ⟨HI.out.pv Hi.out rfl,trivial⟩
     | n+10,h,_=>exact absurd h (by omega)
   · intro listed a W hI hD hall
     have x8:a.tmps[20]? = some (.string m):=hI.sx hall 8
     have x9:a.tmps[21]? = some (.pointer (some ⟨W0.heap.size,1,none⟩)):=hI.sx hall 9
     have HBW:=hid hI.world
     have HI:=hid hI
     have HA:=hid hall
     clear hI hall
     have K1:=hid (K1.out.below HBW.out)
     have K2:=hid (K2.out.below HBW.out)
     have K3:=hid (K3.out.below HBW.out)
     have K4:=hid (K4.out.below HBW.out)
     have HBX:=hid (HB2.out.trans (HBW.out.mono HB2.out.size))
     have dK41:=K4.out.cell (i:=1) rfl
     have fK41:=K4.out.frozen (i:=1)
     refine tail_succ (t:=0) ?_
     refine stepH rfl fun K' hK=>?_
     go_simp
     refine hK.out _ _ ?_
     clear hK
     refine tail_nil ?_
     have o0:∀ {g':Nat} {cs':Array Value} {T':TypeId},g'≠W0.heap.size→SBk W g' cs' T'→SBk (storeAll W (W0.heap.size) 1 [.string m]) g' cs' T':=fun hg' h'=>store_off hg' _ 1 h'
     exact⟨rfl,(HI.out.finx ⟨HI.out.sx HA.out 0,HI.out.sx HA.out 1,HI.out.sx HA.out 2,HI.out.sx HA.out 3,HI.out.sx HA.out 4,HI.out.sx HA.out 5,HI.out.sx HA.out 6,HI.out.sx HA.out 7,x8,x9,trivial⟩ rfl),(store_below (l:=[.string m]) (i:=1) (by omega) HBX.out),(o0 (by omega) K1.out),(o0 (by omega) K2.out),(o0 (by omega) K3.out),(store_blk (l:=[.string m]) (i:=1) K4.out)⟩
 rintro a' W3 ⟨rfl,z0,z1,z2,z3,z4⟩
 have HB3:=hid z0
 have K1:=hid z1
 have K2:=hid z2
 have K3:=hid z3
 have K4:=hid z4
 clear z0 z1 z2 z3 z4
 simp only[putL,List.setIfInBounds_toArray,List.set_cons_zero,List.set_cons_succ]
 go_wp2
 rw[rounds_succ]
 go_wp2_with fail
 refine wp_region_post (fun a0 a' V=>a'=⟨putL [(12,.int .i64 2),(13,.func (.func 38) #[] #[]),(14,.int .i64 2),(15,.pointer (some ⟨w.heap.size,2,none⟩)),(16,.string z),(17,.int .i64 2),(18,.pointer (some ⟨w.heap.size+1,2,none⟩)),(19,.string t),(20,.string n),(21,.pointer (some ⟨W0.heap.size,2,none⟩))] a0.tmps,a0.defers⟩∧Below w.heap.size w V∧SBk V (w.heap.size+1+1) #[.string ⟨#[]⟩,.string ⟨#[]⟩,.string ⟨#[]⟩] 59∧SBk V (W0.heap.size) #[.string l,.string m,.string n] 59) ?_ ?_
 · refine wp_region_tail_d (by kernel_rfl) 10 1 (fun i=>[12,13,14,15,16,17,18,19,20,21].getD i 0) (RelR [Rel.val (.int .i64 2),Rel.val (.func (.func 38) #[] #[]),Rel.val (.int .i64 2),Rel.val (.pointer (some ⟨w.heap.size,2,none⟩)),Rel.val (.string z),Rel.val (.int .i64 2),Rel.val (.pointer (some ⟨w.heap.size+1,2,none⟩)),Rel.val (.string t),Rel.val (.string n),Rel.val (.pointer (some ⟨W0.heap.size,2,none⟩))]) (fun W=>Below W3.heap.size W3 W) (fun _ _=>True) (by kernel_rfl) (by kernel_rfl) (by kernel_rfl) trivial (Below.refl _ _).drew ?_ ?_
   · intro listed a W i hI hD hrd him
     have HI:=hid hI
     have HD:=hid hD
     have Hr:=hid hrd
     clear hI hrd hD
     have y8:a.tmps[8]? = some (.int .i64 2):=HI.out.rest 8 (by decide)
     have y2:a.tmps[2]? = some (.func (.func 38) #[] #[]):=HI.out.rest 2 (by decide)
     have y3:a.tmps[3]? = some (.pointer (some ⟨w.heap.size,0,none⟩)):=HI.out.rest 3 (by decide)
     have y4:a.tmps[4]? = some (.pointer (some ⟨w.heap.size+1,0,none⟩)):=HI.out.rest 4 (by decide)
     have y7:a.tmps[7]? = some (.pointer (some ⟨W0.heap.size,0,none⟩)):=HI.out.rest 7 (by decide)
     have dK12:=(K1.out.below HI.out.world).cell (i:=2) rfl
     have dK22:=(K2.out.below HI.out.world).cell (i:=2) rfl
     have X2:RV _ listed a 2 14 (.int .i64 2):=HI.out.rh
     have X3:RV _ listed a 3 15 (.pointer (some ⟨w.heap.size,2,none⟩)):=HI.out.rh
     have X5:RV _ listed a 5 17 (.int .i64 2):=HI.out.rh
     have X6:RV _ listed a 6 18 (.pointer (some ⟨w.heap.size+1,2,none⟩)):=HI.out.rh
     have X1:RV _ listed a 1 13 (.func (.func 38) #[] #[]):=HI.out.rh
     have X4:RV _ listed a 4 16 (.string z):=HI.out.rh
     have X7:RV _ listed a 7 19 (.string t):=HI.out.rh
     have X0:RV _ listed a 0 12 (.int .i64 2):=HI.out.rh
     match i,him,Hr with
     | 0,_,Hi =>
       refine stepH rfl fun K' hK=>?_
       go_simp
       exact hK.out _ _ ⟨HI.out.pv Hi.out rfl,trivial⟩
     | 1,_,Hi =>
       refine stepH rfl fun K' hK=>?_
       go_simp
       exact hK.out _ _ ⟨HI.out.pv Hi.out rfl,trivial⟩
     | 2,_,Hi =>
       refine stepH rfl fun K' hK=>?_
       go_simp
       exact hK.out _ _ ⟨HI.out.pv Hi.out rfl,trivial⟩
     | 3,_,Hi =>
       have x2:=X2.g Hi.out (by kernel_rfl)
       refine stepH rfl fun K' hK=>?_
       go_simp
       exact hK.out _ _ ⟨HI.out.pv Hi.out rfl,trivial⟩
     | 4,_,Hi =>
       have x3:=X3.g Hi.out (by kernel_rfl)
       refine stepH rfl fun K' hK=>?_
       go_simp
       exact hK.out _ _ ⟨HI.out.pv Hi.out rfl,trivial⟩
     | 5,_,Hi =>
       refine stepH rfl fun K' hK=>?_
       go_simp
       exact hK.out _ _ ⟨HI.out.pv Hi.out rfl,trivial⟩
     | 6,_,Hi =>
       have x5:=X5.g Hi.out (by kernel_rfl)
       refine stepH rfl fun K' hK=>?_
       go_simp
       exact hK.out _ _ ⟨HI.out.pv Hi.out rfl,trivial⟩
     | 7,_,Hi =>
       have x6:=X6.g Hi.out (by kernel_rfl)
       refine stepH rfl fun K' hK=>?_
       go_simp
       exact hK.out _ _ ⟨HI.out.pv Hi.out rfl,trivial⟩
     | 8,_,Hi =>
       have x1:=X1.g Hi.out (by kernel_rfl)
       have x4:=X4.g Hi.out (by kernel_rfl)
       have x7:=X7.g Hi.out (by kernel_rfl)
       refine stepH rfl fun K' hK=>?_
       go_simp
       with_reducible refine(C3.out _ (HB3.out.trans (HI.out.world.mono HB3.out.size))).mono ?_
       rintro e W' ⟨rfl,hb⟩
       exact hK.out _ _ ⟨HI.out.pc Hi.out hb rfl,trivial⟩
     | 9,_,Hi =>
       have x0:=X0.g Hi.out (by kernel_rfl)
       refine stepH rfl fun K' hK=>?_
       go_simp
       exact hK.out _ _ ⟨HI.out.pv Hi.out rfl,trivial⟩
     | n+10,h,_=>exact absurd h (by omega)
   · intro listed a W hI hD hall
     have x8:a.tmps[20]? = some (.string n):=hI.sx hall 8
     have x9:a.tmps[21]? = some (.pointer (some ⟨W0.heap.size,2,none⟩)):=hI.sx hall 9
     have HBW:=hid hI.world
     have HI:=hid hI
     have HA:=hid hall
     clear hI hall
     have K3:=hid (K3.out.below HBW.out)
     have K4:=hid (K4.out.below HBW.out)
     have HBX:=hid (HB3.out.trans (HBW.out.mono HB3.out.size))
     have dK42:=K4.out.cell (i:=2) rfl
     have fK42:=K4.out.frozen (i:=2)
     refine tail_succ (t:=0) ?_
     refine stepH rfl fun K' hK=>?_
     go_simp
     refine hK.out _ _ ?_
     clear hK
     refine tail_nil ?_
     have o0:∀ {g':Nat} {cs':Array Value} {T':TypeId},g'≠W0.heap.size→SBk W g' cs' T'→SBk (storeAll W (W0.heap.size) 2 [.string n]) g' cs' T':=fun hg' h'=>store_off hg' _ 2 h'
     exact⟨rfl,(HI.out.finx ⟨HI.out.sx HA.out 0,HI.out.sx HA.out 1,HI.out.sx HA.out 2,HI.out.sx HA.out 3,HI.out.sx HA.out 4,HI.out.sx HA.out 5,HI.out.sx HA.out 6,HI.out.sx HA.out 7,x8,x9,trivial⟩ rfl),(store_below (l:=[.string n]) (i:=2) (by omega) HBX.out),(o0 (by omega) K3.out),(store_blk (l:=[.string n]) (i:=2) K4.out)⟩
 rintro a' W4 ⟨rfl,z0,z1,z2⟩
 have HB4:=hid z0
 have K3:=hid z1
 have K4:=hid z2
 clear z0 z1 z2
 simp only[putL,List.setIfInBounds_toArray,List.set_cons_zero,List.set_cons_succ]
 go_wp2
 rw[rounds_succ]
 have dK40:=K4.out.cell (i:=0) rfl
 have dK41:=K4.out.cell (i:=1) rfl
 have dK42:=K4.out.cell (i:=2) rfl
 have dK30:=K3.out.cell (i:=0) rfl
 have dK31:=K3.out.cell (i:=1) rfl
 have dK32:=K3.out.cell (i:=2) rfl
 have fK30:=K3.out.frozen (i:=0)
 have fK31:=K3.out.frozen (i:=1)
 have fK32:=K3.out.frozen (i:=2)
 go_wp2
 exact bodyPost_ret (v:=.agg #[.string l,.string m,.string n]) (by simp[results,Tryz.results37,go_sem,dK30,dK31,dK32]) rfl ⟨rfl,(store_below (l:=[.string l,.string m,.string n]) (i:=0) (by omega) HB4.out)⟩
theorem vcombine_minus (x y z u v t l m n:ByteArray)(w₀:World)(h1:CV w₀ 39 #[.string x,.string u] (.string l))(h2:CV w₀ 39 #[.string y,.string v] (.string m))(h3:CV w₀ 39 #[.string z,.string t] (.string n))  :
 CV w₀ 37 #[.agg #[.string x,.string y,.string z],.agg #[.string u,.string v,.string t],.func (.func 39) #[] #[]] (.agg #[.string l,.string m,.string n]):=by
 intro w hw
 have C1:=hid (h1.mono hw)
 have C2:=hid (h2.mono hw)
 have C3:=hid (h3.mono hw)
 clear h1 h2 h3 hw
 go_enter Tryz.func37,Tryz.ntmps37
 go_upto_region 1 with fail
 refine wp_boxes w [(#[.string x,.string y,.string z],59),(#[.string u,.string v,.string t],59),(#[.string ⟨#[]⟩,.string ⟨#[]⟩,.string ⟨#[]⟩],59)] rfl ?_
 rintro W0 ⟨k1,k2,k3,hb⟩
 have HB0:=hid (show Below w.heap.size w W0 from hb)
 have K1:=hid k1
 have K2:=hid k2
 have K3:=hid k3
 clear k1 k2 k3 hb
 go_upto_region 2 with fail
 refine wp_boxes W0 [(#[.string ⟨#[]⟩,.string ⟨#[]⟩,.string ⟨#[]⟩],59)] rfl ?_
 have L1:=K1.out.lt
 have L2:=K2.out.lt
 have L3:=K3.out.lt
 have L4:=HB0.out.size
 rintro W1 ⟨k4,hb⟩
 have hb:Below W0.heap.size W0 W1:=hb
 have K1:=hid (K1.out.below hb)
 have K2:=hid (K2.out.below hb)
 have K3:=hid (K3.out.below hb)
 have HB1:=hbt HB0 hb
 have K4:=hid k4
 clear k4 hb
 go_wp2
 refine wp_loop_rounds 4 ?_
 rw[rounds_succ]
 go_wp2_with fail
 refine wp_region_post (fun a0 a' V=>a'=⟨putL [(12,.int .i64 0),(13,.func (.func 39) #[] #[]),(14,.int .i64 0),(15,.pointer (some ⟨w.heap.size,0,none⟩)),(16,.string x),(17,.int .i64 0),(18,.pointer (some ⟨w.heap.size+1,0,none⟩)),(19,.string u),(20,.string l),(21,.pointer (some ⟨W0.heap.size,0,none⟩))] a0.tmps,a0.defers⟩∧Below w.heap.size w V∧SBk V (w.heap.size) #[.string x,.string y,.string z] 59∧SBk V (w.heap.size+1) #[.string u,.string v,.string t] 59∧SBk V (w.heap.size+1+1) #[.string ⟨#[]⟩,.string ⟨#[]⟩,.string ⟨#[]⟩] 59∧SBk V (W0.heap.size) #[.string l,.string ⟨#[]⟩,.string ⟨#[]⟩] 59) ?_ ?_
 · refine wp_region_tail_d (by kernel_rfl) 10 1 (fun i=>[12,13,14,15,16,17,18,19,20,21].getD i 0) (RelR [Rel.val (.int .i64 0),Rel.val (.func (.func 39) #[] #[]),Rel.val (.int .i64 0),Rel.val (.pointer (some ⟨w.heap.size,0,none⟩)),Rel.val (.string x),Rel.val (.int .i64 0),Rel.val (.pointer (some ⟨w.heap.size+1,0,none⟩)),Rel.val (.string u),Rel.val (.string l),Rel.val (.pointer (some ⟨W0.heap.size,0,none⟩))]) (fun W=>Below W1.heap.size W1 W) (fun _ _=>True) (by kernel_rfl) (by kernel_rfl) (by kernel_rfl) trivial (Below.refl _ _).drew ?_ ?_
   · intro listed a W i hI hD hrd him
     have HI:=hid hI
     have HD:=hid hD
     have Hr:=hid hrd
     clear hI hrd hD
     have y8:a.tmps[8]? = some (.int .i64 0):=HI.out.rest 8 (by decide)
     have y2:a.tmps[2]? = some (.func (.func 39) #[] #[]):=HI.out.rest 2 (by decide)
     have y3:a.tmps[3]? = some (.pointer (some ⟨w.heap.size,0,none⟩)):=HI.out.rest 3 (by decide)
     have y4:a.tmps[4]? = some (.pointer (some ⟨w.heap.size+1,0,none⟩)):=HI.out.rest 4 (by decide)
     have y7:a.tmps[7]? = some (.pointer (some ⟨W0.heap.size,0,none⟩)):=HI.out.rest 7 (by decide)
     have dK10:=(K1.out.below HI.out.world).cell (i:=0) rfl
     have dK20:=(K2.out.below HI.out.world).cell (i:=0) rfl
     have X2:RV _ listed a 2 14 (.int .i64 0):=HI.out.rh
     have X3:RV _ listed a 3 15 (.pointer (some ⟨w.heap.size,0,none⟩)):=HI.out.rh
     have X5:RV _ listed a 5 17 (.int .i64 0):=HI.out.rh
     have X6:RV _ listed a 6 18 (.pointer (some ⟨w.heap.size+1,0,none⟩)):=HI.out.rh
     have X1:RV _ listed a 1 13 (.func (.func 39) #[] #[]):=HI.out.rh
     have X4:RV _ listed a 4 16 (.string x):=HI.out.rh
     have X7:RV _ listed a 7 19 (.string u):=HI.out.rh
     have X0:RV _ listed a 0 12 (.int .i64 0):=HI.out.rh
     match i,him,Hr with
     | 0,_,Hi =>
       refine stepH rfl fun K' hK=>?_
       go_simp
       exact hK.out _ _ ⟨HI.out.pv Hi.out rfl,trivial⟩
     | 1,_,Hi =>
       refine stepH rfl fun K' hK=>?_
       go_simp
       exact hK.out _ _ ⟨HI.out.pv Hi.out rfl,trivial⟩
     | 2,_,Hi =>
       refine stepH rfl fun K' hK=>?_
       go_simp
       exact hK.out _ _ ⟨HI.out.pv Hi.out rfl,trivial⟩
     | 3,_,Hi =>
       have x2:=X2.g Hi.out (by kernel_rfl)
       refine stepH rfl fun K' hK=>?_
       go_simp
       exact hK.out _ _ ⟨HI.out.pv Hi.out rfl,trivial⟩
     | 4,_,Hi =>
       have x3:=X3.g Hi.out (by kernel_rfl)
       refine stepH rfl fun K' hK=>?_
       go_simp
       exact hK.out _ _ ⟨HI.out.pv Hi.out rfl,trivial⟩
     | 5,_,Hi =>
       refine stepH rfl fun K' hK=>?_
       go_simp
       exact hK.out _ _ ⟨HI.out.pv Hi.out rfl,trivial⟩
     | 6,_,Hi =>
       have x5:=X5.g Hi.out (by kernel_rfl)
       refine stepH rfl fun K' hK=>?_
       go_simp
       exact hK.out _ _ ⟨HI.out.pv Hi.out rfl,trivial⟩
     | 7,_,Hi =>
       have x6:=X6.g Hi.out (by kernel_rfl)
       refine stepH rfl fun K' hK=>?_
       go_simp
       exact hK.out _ _ ⟨HI.out.pv Hi.out rfl,trivial⟩
     | 8,_,Hi =>
       have x1:=X1.g Hi.out (by kernel_rfl)
       have x4:=X4.g Hi.out (by kernel_rfl)
       have x7:=X7.g Hi.out (by kernel_rfl)
       refine stepH rfl fun K' hK=>?_
       go_simp
       with_reducible refine(C1.out _ (HB1.out.trans (HI.out.world.mono HB1.out.size))).mono ?_
       rintro e W' ⟨rfl,hb⟩
       exact hK.out _ _ ⟨HI.out.pc Hi.out hb rfl,trivial⟩
     | 9,_,Hi =>
       have x0:=X0.g Hi.out (by kernel_rfl)
       refine stepH rfl fun K' hK=>?_
       go_simp
       exact hK.out _ _ ⟨HI.out.pv Hi.out rfl,trivial⟩
     | n+10,h,_=>exact absurd h (by omega)
   · intro listed a W hI hD hall
     have x8:a.tmps[20]? = some (.string l):=hI.sx hall 8
     have x9:a.tmps[21]? = some (.pointer (some ⟨W0.heap.size,0,none⟩)):=hI.sx hall 9
     have HBW:=hid hI.world
     have HI:=hid hI
     have HA:=hid hall
     clear hI hall
     have K1:=hid (K1.out.below HBW.out)
     have K2:=hid (K2.out.below HBW.out)
     have K3:=hid (K3.out.below HBW.out)
     have K4:=hid (K4.out.below HBW.out)
     have HBX:=hid (HB1.out.trans (HBW.out.mono HB1.out.size))
     have dK40:=K4.out.cell (i:=0) rfl
     have fK40:=K4.out.frozen (i:=0)
     refine tail_succ (t:=0) ?_
     refine stepH rfl fun K' hK=>?_
     go_simp
     refine hK.out _ _ ?_
     clear hK
     refine tail_nil ?_
     have o0:∀ {g':Nat} {cs':Array Value} {T':TypeId},g'≠W0.heap.size→SBk W g' cs' T'→SBk (storeAll W (W0.heap.size) 0 [.string l]) g' cs' T':=fun hg' h'=>store_off hg' _ 0 h'
     exact⟨rfl,(HI.out.finx ⟨HI.out.sx HA.out 0,HI.out.sx HA.out 1,HI.out.sx HA.out 2,HI.out.sx HA.out 3,HI.out.sx HA.out 4,HI.out.sx HA.out 5,HI.out.sx HA.out 6,HI.out.sx HA.out 7,x8,x9,trivial⟩ rfl),(store_below (l:=[.string l]) (i:=0) (by omega) HBX.out),(o0 (by omega) K1.out),(o0 (by omega) K2.out),(o0 (by omega) K3.out),(store_blk (l:=[.string l]) (i:=0) K4.out)⟩
 rintro a' W2 ⟨rfl,z0,z1,z2,z3,z4⟩
 have HB2:=hid z0
 have K1:=hid z1
 have K2:=hid z2
 have K3:=hid z3
 have K4:=hid z4
 clear z0 z1 z2 z3 z4
 simp only[putL,List.setIfInBounds_toArray,List.set_cons_zero,List.set_cons_succ]
 go_wp2
 rw[rounds_succ]
 go_wp2_with fail
 refine wp_region_post (fun a0 a' V=>a'=⟨putL [(12,.int .i64 1),(13,.func (.func 39) #[] #[]),(14,.int .i64 1),(15,.pointer (some ⟨w.heap.size,1,none⟩)),(16,.string y),(17,.int .i64 1),(18,.pointer (some ⟨w.heap.size+1,1,none⟩)),(19,.string v),(20,.string m),(21,.pointer (some ⟨W0.heap.size,1,none⟩))] a0.tmps,a0.defers⟩∧Below w.heap.size w V∧SBk V (w.heap.size) #[.string x,.string y,.string z] 59∧SBk V (w.heap.size+1) #[.string u,.string v,.string t] 59∧SBk V (w.heap.size+1+1) #[.string ⟨#[]⟩,.string ⟨#[]⟩,.string ⟨#[]⟩] 59∧SBk V (W0.heap.size) #[.string l,.string m,.string ⟨#[]⟩] 59) ?_ ?_
 · refine wp_region_tail_d (by kernel_rfl) 10 1 (fun i=>[12,13,14,15,16,17,18,19,20,21].getD i 0) (RelR [Rel.val (.int .i64 1),Rel.val (.func (.func 39) #[] #[]),Rel.val (.int .i64 1),Rel.val (.pointer (some ⟨w.heap.size,1,none⟩)),Rel.val (.string y),Rel.val (.int .i64 1),Rel.val (.pointer (some ⟨w.heap.size+1,1,none⟩)),Rel.val (.string v),Rel.val (.string m),Rel.val (.pointer (some ⟨W0.heap.size,1,none⟩))]) (fun W=>Below W2.heap.size W2 W) (fun _ _=>True) (by kernel_rfl) (by kernel_rfl) (by kernel_rfl) trivial (Below.refl _ _).drew ?_ ?_
   · intro listed a W i hI hD hrd him
     have HI:=hid hI
     have HD:=hid hD
     have Hr:=hid hrd
     clear hI hrd hD
     have y8:a.tmps[8]? = some (.int .i64 1):=HI.out.rest 8 (by decide)
     have y2:a.tmps[2]? = some (.func (.func 39) #[] #[]):=HI.out.rest 2 (by decide)
     have y3:a.tmps[3]? = some (.pointer (some ⟨w.heap.size,0,none⟩)):=HI.out.rest 3 (by decide)
     have y4:a.tmps[4]? = some (.pointer (some ⟨w.heap.size+1,0,none⟩)):=HI.out.rest 4 (by decide)
     have y7:a.tmps[7]? = some (.pointer (some ⟨W0.heap.size,0,none⟩)):=HI.out.rest 7 (by decide)
     have dK11:=(K1.out.below HI.out.world).cell (i:=1) rfl
     have dK21:=(K2.out.below HI.out.world).cell (i:=1) rfl
     have X2:RV _ listed a 2 14 (.int .i64 1):=HI.out.rh
     have X3:RV _ listed a 3 15 (.pointer (some ⟨w.heap.size,1,none⟩)):=HI.out.rh
     have X5:RV _ listed a 5 17 (.int .i64 1):=HI.out.rh
     have X6:RV _ listed a 6 18 (.pointer (some ⟨w.heap.size+1,1,none⟩)):=HI.out.rh
     have X1:RV _ listed a 1 13 (.func (.func 39) #[] #[]):=HI.out.rh
     have X4:RV _ listed a 4 16 (.string y):=HI.out.rh
     have X7:RV _ listed a 7 19 (.string v):=HI.out.rh
     have X0:RV _ listed a 0 12 (.int .i64 1):=HI.out.rh
     match i,him,Hr with
     | 0,_,Hi =>
       refine stepH rfl fun K' hK=>?_
       go_simp
       exact hK.out _ _ ⟨HI.out.pv Hi.out rfl,trivial⟩
     | 1,_,Hi =>
       refine stepH rfl fun K' hK=>?_
       go_simp
       exact hK.out _ _ ⟨HI.out.pv Hi.out rfl,trivial⟩
     | 2,_,Hi =>
       refine stepH rfl fun K' hK=>?_
       go_simp
       exact hK.out _ _ ⟨HI.out.pv Hi.out rfl,trivial⟩
     | 3,_,Hi =>
       have x2:=X2.g Hi.out (by kernel_rfl)
       refine stepH rfl fun K' hK=>?_
       go_simp
       exact hK.out _ _ ⟨HI.out.pv Hi.out rfl,trivial⟩
     | 4,_,Hi =>
       have x3:=X3.g Hi.out (by kernel_rfl)
       refine stepH rfl fun K' hK=>?_
       go_simp
       exact hK.out _ _ ⟨HI.out.pv Hi.out rfl,trivial⟩
     | 5,_,Hi =>
       refine stepH rfl fun K' hK=>?_
       go_simp
       exact hK.out _ _ ⟨HI.out.pv Hi.out rfl,trivial⟩
     | 6,_,Hi =>
       have x5:=X5.g Hi.out (by kernel_rfl)
       refine stepH rfl fun K' hK=>?_
       go_simp
       exact hK.out _ _ ⟨HI.out.pv Hi.out rfl,trivial⟩
     | 7,_,Hi =>
       have x6:=X6.g Hi.out (by kernel_rfl)
       refine stepH rfl fun K' hK=>?_
       go_simp
       exact hK.out _ _ ⟨HI.out.pv Hi.out rfl,trivial⟩
     | 8,_,Hi =>
       have x1:=X1.g Hi.out (by kernel_rfl)
       have x4:=X4.g Hi.out (by kernel_rfl)
       have x7:=X7.g Hi.out (by kernel_rfl)
       refine stepH rfl fun K' hK=>?_
       go_simp
       with_reducible refine(C2.out _ (HB2.out.trans (HI.out.world.mono HB2.out.size))).mono ?_
       rintro e W' ⟨rfl,hb⟩
       exact hK.out _ _ ⟨HI.out.pc Hi.out hb rfl,trivial⟩
     | 9,_,Hi =>
       have x0:=X0.g Hi.out (by kernel_rfl)
       refine stepH rfl fun K' hK=>?_
       go_simp
       exact hK.out _ _ ⟨HI.out.pv Hi.out rfl,trivial⟩
     | n+10,h,_=>exact absurd h (by omega)
   · intro listed a W hI hD hall
     have x8:a.tmps[20]? = some (.string m):=hI.sx hall 8
     have x9:a.tmps[21]? = some (.pointer (some ⟨W0.heap.size,1,none⟩)):=hI.sx hall 9
     have HBW:=hid hI.world
     have HI:=hid hI
     have HA:=hid hall
     clear hI hall
     have K1:=hid (K1.out.below HBW.out)
     have K2:=hid (K2.out.below HBW.out)
     have K3:=hid (K3.out.below HBW.out)
     have K4:=hid (K4.out.below HBW.out)
     have HBX:=hid (HB2.out.trans (HBW.out.mono HB2.out.size))
     have dK41:=K4.out.cell (i:=1) rfl
     have fK41:=K4.out.frozen (i:=1)
     refine tail_succ (t:=0) ?_
     refine stepH rfl fun K' hK=>?_
     go_simp
     refine hK.out _ _ ?_
     clear hK
     refine tail_nil ?_
     have o0:∀ {g':Nat} {cs':Array Value} {T':TypeId},g'≠W0.heap.size→SBk W g' cs' T'→SBk (storeAll W (W0.heap.size) 1 [.string m]) g' cs' T':=fun hg' h'=>store_off hg' _ 1 h'
     exact⟨rfl,(HI.out.finx ⟨HI.out.sx HA.out 0,HI.out.sx HA.out 1,HI.out.sx HA.out 2,HI.out.sx HA.out 3,HI.out.sx HA.out 4,HI.out.sx HA.out 5,HI.out.sx HA.out 6,HI.out.sx HA.out 7,x8,x9,trivial⟩ rfl),(store_below (l:=[.string m]) (i:=1) (by omega) HBX.out),(o0 (by omega) K1.out),(o0 (by omega) K2.out),(o0 (by omega) K3.out),(store_blk (l:=[.string m]) (i:=1) K4.out)⟩
 rintro a' W3 ⟨rfl,z0,z1,z2,z3,z4⟩
 have HB3:=hid z0
 have K1:=hid z1
 have K2:=hid z2
 have K3:=hid z3
 have K4:=hid z4
 clear z0 z1 z2 z3 z4
 simp only[putL,List.setIfInBounds_toArray,List.set_cons_zero,List.set_cons_succ]
 go_wp2
 rw[rounds_succ]
 go_wp2_with fail
 refine wp_region_post (fun a0 a' V=>a'=⟨putL [(12,.int .i64 2),(13,.func (.func 39) #[] #[]),(14,.int .i64 2),(15,.pointer (some ⟨w.heap.size,2,none⟩)),(16,.string z),(17,.int .i64 2),(18,.pointer (some ⟨w.heap.size+1,2,none⟩)),(19,.string t),(20,.string n),(21,.pointer (some ⟨W0.heap.size,2,none⟩))] a0.tmps,a0.defers⟩∧Below w.heap.size w V∧SBk V (w.heap.size+1+1) #[.string ⟨#[]⟩,.string ⟨#[]⟩,.string ⟨#[]⟩] 59∧SBk V (W0.heap.size) #[.string l,.string m,.string n] 59) ?_ ?_
 · refine wp_region_tail_d (by kernel_rfl) 10 1 (fun i=>[12,13,14,15,16,17,18,19,20,21].getD i 0) (RelR [Rel.val (.int .i64 2),Rel.val (.func (.func 39) #[] #[]),Rel.val (.int .i64 2),Rel.val (.pointer (some ⟨w.heap.size,2,none⟩)),Rel.val (.string z),Rel.val (.int .i64 2),Rel.val (.pointer (some ⟨w.heap.size+1,2,none⟩)),Rel.val (.string t),Rel.val (.string n),Rel.val (.pointer (some ⟨W0.heap.size,2,none⟩))]) (fun W=>Below W3.heap.size W3 W) (fun _ _=>True) (by kernel_rfl) (by kernel_rfl) (by kernel_rfl) trivial (Below.refl _ _).drew ?_ ?_
   · intro listed a W i hI hD hrd him
     have HI:=hid hI
     have HD:=hid hD
     have Hr:=hid hrd
     clear hI hrd hD
     have y8:a.tmps[8]? = some (.int .i64 2):=HI.out.rest 8 (by decide)
     have y2:a.tmps[2]? = some (.func (.func 39) #[] #[]):=HI.out.rest 2 (by decide)
     have y3:a.tmps[3]? = some (.pointer (some ⟨w.heap.size,0,none⟩)):=HI.out.rest 3 (by decide)
     have y4:a.tmps[4]? = some (.pointer (some ⟨w.heap.size+1,0,none⟩)):=HI.out.rest 4 (by decide)
     have y7:a.tmps[7]? = some (.pointer (some ⟨W0.heap.size,0,none⟩)):=HI.out.rest 7 (by decide)
     have dK12:=(K1.out.below HI.out.world).cell (i:=2) rfl
     have dK22:=(K2.out.below HI.out.world).cell (i:=2) rfl
     have X2:RV _ listed a 2 14 (.int .i64 2):=HI.out.rh
     have X3:RV _ listed a 3 15 (.pointer (some ⟨w.heap.size,2,none⟩)):=HI.out.rh
     have X5:RV _ listed a 5 17 (.int .i64 2):=HI.out.rh
     have X6:RV _ listed a 6 18 (.pointer (some ⟨w.heap.size+1,2,none⟩)):=HI.out.rh
     have X1:RV _ listed a 1 13 (.func (.func 39) #[] #[]):=HI.out.rh
     have X4:RV _ listed a 4 16 (.string z):=HI.out.rh
     have X7:RV _ listed a 7 19 (.string t):=HI.out.rh
     have X0:RV _ listed a 0 12 (.int .i64 2):=HI.out.rh
     match i,him,Hr with
     | 0,_,Hi =>
       refine stepH rfl fun K' hK=>?_
       go_simp
       exact hK.out _ _ ⟨HI.out.pv Hi.out rfl,trivial⟩
     | 1,_,Hi =>
       refine stepH rfl fun K' hK=>?_
       go_simp
       exact hK.out _ _ ⟨HI.out.pv Hi.out rfl,trivial⟩
     | 2,_,Hi =>
       refine stepH rfl fun K' hK=>?_
       go_simp
       exact hK.out _ _ ⟨HI.out.pv Hi.out rfl,trivial⟩
     | 3,_,Hi =>
       have x2:=X2.g Hi.out (by kernel_rfl)
       refine stepH rfl fun K' hK=>?_
       go_simp
       exact hK.out _ _ ⟨HI.out.pv Hi.out rfl,trivial⟩
     | 4,_,Hi =>
       have x3:=X3.g Hi.out (by kernel_rfl)
       refine stepH rfl fun K' hK=>?_
       go_simp
       exact hK.out _ _ ⟨HI.out.pv Hi.out rfl,trivial⟩
     | 5,_,Hi =>
       refine stepH rfl fun K' hK=>?_
       go_simp
       exact hK.out _ _ ⟨HI.out.pv Hi.out rfl,trivial⟩
     | 6,_,Hi =>
       have x5:=X5.g Hi.out (by kernel_rfl)
       refine stepH rfl fun K' hK=>?_
       go_simp
       exact hK.out _ _ ⟨HI.out.pv Hi.out rfl,trivial⟩
     | 7,_,Hi =>
       have x6:=X6.g Hi.out (by kernel_rfl)
       refine stepH rfl fun K' hK=>?_
       go_simp
       exact hK.out _ _ ⟨HI.out.pv Hi.out rfl,trivial⟩
     | 8,_,Hi =>
       have x1:=X1.g Hi.out (by kernel_rfl)
       have x4:=X4.g Hi.out (by kernel_rfl)
       have x7:=X7.g Hi.out (by kernel_rfl)
       refine stepH rfl fun K' hK=>?_
       go_simp
       with_reducible refine(C3.out _ (HB3.out.trans (HI.out.world.mono HB3.out.size))).mono ?_
       rintro e W' ⟨rfl,hb⟩
       exact hK.out _ _ ⟨HI.out.pc Hi.out hb rfl,trivial⟩
     | 9,_,Hi =>
       have x0:=X0.g Hi.out (by kernel_rfl)
       refine stepH rfl fun K' hK=>?_
       go_simp
       exact hK.out _ _ ⟨HI.out.pv Hi.out rfl,trivial⟩
     | n+10,h,_=>exact absurd h (by omega)
   · intro listed a W hI hD hall
     have x8:a.tmps[20]? = some (.string n):=hI.sx hall 8
     have x9:a.tmps[21]? = some (.pointer (some ⟨W0.heap.size,2,none⟩)):=hI.sx hall 9
     have HBW:=hid hI.world
     have HI:=hid hI
     have HA:=hid hall
     clear hI hall
     have K3:=hid (K3.out.below HBW.out)
     have K4:=hid (K4.out.below HBW.out)
     have HBX:=hid (HB3.out.trans (HBW.out.mono HB3.out.size))
     have dK42:=K4.out.cell (i:=2) rfl
     have fK42:=K4.out.frozen (i:=2)
     refine tail_succ (t:=0) ?_
     refine stepH rfl fun K' hK=>?_
     go_simp
     refine hK.out _ _ ?_
     clear hK
     refine tail_nil ?_
     have o0:∀ {g':Nat} {cs':Array Value} {T':TypeId},g'≠W0.heap.size→SBk W g' cs' T'→SBk (storeAll W (W0.heap.size) 2 [.string n]) g' cs' T':=fun hg' h'=>store_off hg' _ 2 h'
     exact⟨rfl,(HI.out.finx ⟨HI.out.sx HA.out 0,HI.out.sx HA.out 1,HI.out.sx HA.out 2,HI.out.sx HA.out 3,HI.out.sx HA.out 4,HI.out.sx HA.out 5,HI.out.sx HA.out 6,HI.out.sx HA.out 7,x8,x9,trivial⟩ rfl),(store_below (l:=[.string n]) (i:=2) (by omega) HBX.out),(o0 (by omega) K3.out),(store_blk (l:=[.string n]) (i:=2) K4.out)⟩
 rintro a' W4 ⟨rfl,z0,z1,z2⟩
 have HB4:=hid z0
 have K3:=hid z1
 have K4:=hid z2
 clear z0 z1 z2
 simp only[putL,List.setIfInBounds_toArray,List.set_cons_zero,List.set_cons_succ]
 go_wp2
 rw[rounds_succ]
 have dK40:=K4.out.cell (i:=0) rfl
 have dK41:=K4.out.cell (i:=1) rfl
 have dK42:=K4.out.cell (i:=2) rfl
 have dK30:=K3.out.cell (i:=0) rfl
 have dK31:=K3.out.cell (i:=1) rfl
 have dK32:=K3.out.cell (i:=2) rfl
 have fK30:=K3.out.frozen (i:=0)
 have fK31:=K3.out.frozen (i:=1)
 have fK32:=K3.out.frozen (i:=2)
 go_wp2
 exact bodyPost_ret (v:=.agg #[.string l,.string m,.string n]) (by simp[results,Tryz.results37,go_sem,dK30,dK31,dK32]) rfl ⟨rfl,(store_below (l:=[.string l,.string m,.string n]) (i:=0) (by omega) HB4.out)⟩
theorem vcombine_times (x y z u v t l m n:ByteArray)(w₀:World)(h1:CV w₀ 50 #[.string x,.string u] (.string l))(h2:CV w₀ 50 #[.string y,.string v] (.string m))(h3:CV w₀ 50 #[.string z,.string t] (.string n))  :
 CV w₀ 37 #[.agg #[.string x,.string y,.string z],.agg #[.string u,.string v,.string t],.func (.func 50) #[] #[]] (.agg #[.string l,.string m,.string n]):=by
 intro w hw
 have C1:=hid (h1.mono hw)
 have C2:=hid (h2.mono hw)
 have C3:=hid (h3.mono hw)
 clear h1 h2 h3 hw
 go_enter Tryz.func37,Tryz.ntmps37
 go_upto_region 1 with fail
 refine wp_boxes w [(#[.string x,.string y,.string z],59),(#[.string u,.string v,.string t],59),(#[.string ⟨#[]⟩,.string ⟨#[]⟩,.string ⟨#[]⟩],59)] rfl ?_
 rintro W0 ⟨k1,k2,k3,hb⟩
 have HB0:=hid (show Below w.heap.size w W0 from hb)
 have K1:=hid k1
 have K2:=hid k2
 have K3:=hid k3
 clear k1 k2 k3 hb
 go_upto_region 2 with fail
 refine wp_boxes W0 [(#[.string ⟨#[]⟩,.string ⟨#[]⟩,.string ⟨#[]⟩],59)] rfl ?_
 have L1:=K1.out.lt
 have L2:=K2.out.lt
 have L3:=K3.out.lt
 have L4:=HB0.out.size
 rintro W1 ⟨k4,hb⟩
 have hb:Below W0.heap.size W0 W1:=hb
 have K1:=hid (K1.out.below hb)
 have K2:=hid (K2.out.below hb)
 have K3:=hid (K3.out.below hb)
 have HB1:=hbt HB0 hb
 have K4:=hid k4
 clear k4 hb
 go_wp2
 refine wp_loop_rounds 4 ?_
 rw[rounds_succ]
 go_wp2_with fail
 refine wp_region_post (fun a0 a' V=>a'=⟨putL [(12,.int .i64 0),(13,.func (.func 50) #[] #[]),(14,.int .i64 0),(15,.pointer (some ⟨w.heap.size,0,none⟩)),(16,.string x),(17,.int .i64 0),(18,.pointer (some ⟨w.heap.size+1,0,none⟩)),(19,.string u),(20,.string l),(21,.pointer (some ⟨W0.heap.size,0,none⟩))] a0.tmps,a0.defers⟩∧Below w.heap.size w V∧SBk V (w.heap.size) #[.string x,.string y,.string z] 59∧SBk V (w.heap.size+1) #[.string u,.string v,.string t] 59∧SBk V (w.heap.size+1+1) #[.string ⟨#[]⟩,.string ⟨#[]⟩,.string ⟨#[]⟩] 59∧SBk V (W0.heap.size) #[.string l,.string ⟨#[]⟩,.string ⟨#[]⟩] 59) ?_ ?_
 · refine wp_region_tail_d (by kernel_rfl) 10 1 (fun i=>[12,13,14,15,16,17,18,19,20,21].getD i 0) (RelR [Rel.val (.int .i64 0),Rel.val (.func (.func 50) #[] #[]),Rel.val (.int .i64 0),Rel.val (.pointer (some ⟨w.heap.size,0,none⟩)),Rel.val (.string x),Rel.val (.int .i64 0),Rel.val (.pointer (some ⟨w.heap.size+1,0,none⟩)),Rel.val (.string u),Rel.val (.string l),Rel.val (.pointer (some ⟨W0.heap.size,0,none⟩))]) (fun W=>Below W1.heap.size W1 W) (fun _ _=>True) (by kernel_rfl) (by kernel_rfl) (by kernel_rfl) trivial (Below.refl _ _).drew ?_ ?_
   · intro listed a W i hI hD hrd him
     have HI:=hid hI
     have HD:=hid hD
     have Hr:=hid hrd
     clear hI hrd hD
     have y8:a.tmps[8]? = some (.int .i64 0):=HI.out.rest 8 (by decide)
     have y2:a.tmps[2]? = some (.func (.func 50) #[] #[]):=HI.out.rest 2 (by decide)
     have y3:a.tmps[3]? = some (.pointer (some ⟨w.heap.size,0,none⟩)):=HI.out.rest 3 (by decide)
     have y4:a.tmps[4]? = some (.pointer (some ⟨w.heap.size+1,0,none⟩)):=HI.out.rest 4 (by decide)
     have y7:a.tmps[7]? = some (.pointer (some ⟨W0.heap.size,0,none⟩)):=HI.out.rest 7 (by decide)
     have dK10:=(K1.out.below HI.out.world).cell (i:=0) rfl
     have dK20:=(K2.out.below HI.out.world).cell (i:=0) rfl
     have X2:RV _ listed a 2 14 (.int .i64 0):=HI.out.rh
     have X3:RV _ listed a 3 15 (.pointer (some ⟨w.heap.size,0,none⟩)):=HI.out.rh
     have X5:RV _ listed a 5 17 (.int .i64 0):=HI.out.rh
     have X6:RV _ listed a 6 18 (.pointer (some ⟨w.heap.size+1,0,none⟩)):=HI.out.rh
     have X1:RV _ listed a 1 13 (.func (.func 50) #[] #[]):=HI.out.rh
     have X4:RV _ listed a 4 16 (.string x):=HI.out.rh
     have X7:RV _ listed a 7 19 (.string u):=HI.out.rh
     have X0:RV _ listed a 0 12 (.int .i64 0):=HI.out.rh
     match i,him,Hr with
     | 0,_,Hi =>
       refine stepH rfl fun K' hK=>?_
       go_simp
       exact hK.out _ _ ⟨HI.out.pv Hi.out rfl,trivial⟩
     | 1,_,Hi =>
       refine stepH rfl fun K' hK=>?_
       go_simp
       exact hK.out _ _ ⟨HI.out.pv Hi.out rfl,trivial⟩
     | 2,_,Hi =>
       refine stepH rfl fun K' hK=>?_
       go_simp
       exact hK.out _ _ ⟨HI.out.pv Hi.out rfl,trivial⟩
     | 3,_,Hi =>
       have x2:=X2.g Hi.out (by kernel_rfl)
       refine stepH rfl fun K' hK=>?_
       go_simp
       exact hK.out _ _ ⟨HI.out.pv Hi.out rfl,trivial⟩
     | 4,_,Hi =>
       have x3:=X3.g Hi.out (by kernel_rfl)
       refine stepH rfl fun K' hK=>?_
       go_simp
       exact hK.out _ _ ⟨HI.out.pv Hi.out rfl,trivial⟩
     | 5,_,Hi =>
       refine stepH rfl fun K' hK=>?_
       go_simp
       exact hK.out _ _ ⟨HI.out.pv Hi.out rfl,trivial⟩
     | 6,_,Hi =>
       have x5:=X5.g Hi.out (by kernel_rfl)
       refine stepH rfl fun K' hK=>?_
       go_simp
       exact hK.out _ _ ⟨HI.out.pv Hi.out rfl,trivial⟩
     | 7,_,Hi =>
       have x6:=X6.g Hi.out (by kernel_rfl)
       refine stepH rfl fun K' hK=>?_
       go_simp
       exact hK.out _ _ ⟨HI.out.pv Hi.out rfl,trivial⟩
     | 8,_,Hi =>
       have x1:=X1.g Hi.out (by kernel_rfl)
       have x4:=X4.g Hi.out (by kernel_rfl)
       have x7:=X7.g Hi.out (by kernel_rfl)
       refine stepH rfl fun K' hK=>?_
       go_simp
       with_reducible refine(C1.out _ (HB1.out.trans (HI.out.world.mono HB1.out.size))).mono ?_
       rintro e W' ⟨rfl,hb⟩
       exact hK.out _ _ ⟨HI.out.pc Hi.out hb rfl,trivial⟩
     | 9,_,Hi =>
       have x0:=X0.g Hi.out (by kernel_rfl)
       refine stepH rfl fun K' hK=>?_
       go_simp
       exact hK.out _ _ ⟨HI.out.pv Hi.out rfl,trivial⟩
     | n+10,h,_=>exact absurd h (by omega)
   · intro listed a W hI hD hall
     have x8:a.tmps[20]? = some (.string l):=hI.sx hall 8
     have x9:a.tmps[21]? = some (.pointer (some ⟨W0.heap.size,0,none⟩)):=hI.sx hall 9
     have HBW:=hid hI.world
     have HI:=hid hI
     have HA:=hid hall
     clear hI hall
     have K1:=hid (K1.out.below HBW.out)
     have K2:=hid (K2.out.below HBW.out)
     have K3:=hid (K3.out.below HBW.out)
     have K4:=hid (K4.out.below HBW.out)
     have HBX:=hid (HB1.out.trans (HBW.out.mono HB1.out.size))
     have dK40:=K4.out.cell (i:=0) rfl
     have fK40:=K4.out.frozen (i:=0)
     refine tail_succ (t:=0) ?_
     refine stepH rfl fun K' hK=>?_
     go_simp
     refine hK.out _ _ ?_
     clear hK
     refine tail_nil ?_
     have o0:∀ {g':Nat} {cs':Array Value} {T':TypeId},g'≠W0.heap.size→SBk W g' cs' T'→SBk (storeAll W (W0.heap.size) 0 [.string l]) g' cs' T':=fun hg' h'=>store_off hg' _ 0 h'
     exact⟨rfl,(HI.out.finx ⟨HI.out.sx HA.out 0,HI.out.sx HA.out 1,HI.out.sx HA.out 2,HI.out.sx HA.out 3,HI.out.sx HA.out 4,HI.out.sx HA.out 5,HI.out.sx HA.out 6,HI.out.sx HA.out 7,x8,x9,trivial⟩ rfl),(store_below (l:=[.string l]) (i:=0) (by omega) HBX.out),(o0 (by omega) K1.out),(o0 (by omega) K2.out),(o0 (by omega) K3.out),(store_blk (l:=[.string l]) (i:=0) K4.out)⟩
 rintro a' W2 ⟨rfl,z0,z1,z2,z3,z4⟩
 have HB2:=hid z0
 have K1:=hid z1
 have K2:=hid z2
 have K3:=hid z3
 have K4:=hid z4
 clear z0 z1 z2 z3 z4
 simp only[putL,List.setIfInBounds_toArray,List.set_cons_zero,List.set_cons_succ]
 go_wp2
 rw[rounds_succ]
 go_wp2_with fail
 refine wp_region_post (fun a0 a' V=>a'=⟨putL [(12,.int .i64 1),(13,.func (.func 50) #[] #[]),(14,.int .i64 1),(15,.pointer (some ⟨w.heap.size,1,none⟩)),(16,.string y),(17,.int .i64 1),(18,.pointer (some ⟨w.heap.size+1,1,none⟩)),(19,.string v),(20,.string m),(21,.pointer (some ⟨W0.heap.size,1,none⟩))] a0.tmps,a0.defers⟩∧Below w.heap.size w V∧SBk V (w.heap.size) #[.string x,.string y,.string z] 59∧SBk V (w.heap.size+1) #[.string u,.string v,.string t] 59∧SBk V (w.heap.size+1+1) #[.string ⟨#[]⟩,.string ⟨#[]⟩,.string ⟨#[]⟩] 59∧SBk V (W0.heap.size) #[.string l,.string m,.string ⟨#[]⟩] 59) ?_ ?_
 · refine wp_region_tail_d (by kernel_rfl) 10 1 (fun i=>[12,13,14,15,16,17,18,19,20,21].getD i 0) (RelR [Rel.val (.int .i64 1),Rel.val (.func (.func 50) #[] #[]),Rel.val (.int .i64 1),Rel.val (.pointer (some ⟨w.heap.size,1,none⟩)),Rel.val (.string y),Rel.val (.int .i64 1),Rel.val (.pointer (some ⟨w.heap.size+1,1,none⟩)),Rel.val (.string v),Rel.val (.string m),Rel.val (.pointer (some ⟨W0.heap.size,1,none⟩))]) (fun W=>Below W2.heap.size W2 W) (fun _ _=>True) (by kernel_rfl) (by kernel_rfl) (by kernel_rfl) trivial (Below.refl _ _).drew ?_ ?_
   · intro listed a W i hI hD hrd him
     have HI:=hid hI
     have HD:=hid hD
     have Hr:=hid hrd
     clear hI hrd hD
     have y8:a.tmps[8]? = some (.int .i64 1):=HI.out.rest 8 (by decide)
     have y2:a.tmps[2]? = some (.func (.func 50) #[] #[]):=HI.out.rest 2 (by decide)
     have y3:a.tmps[3]? = some (.pointer (some ⟨w.heap.size,0,none⟩)):=HI.out.rest 3 (by decide)
     have y4:a.tmps[4]? = some (.pointer (some ⟨w.heap.size+1,0,none⟩)):=HI.out.rest 4 (by decide)
     have y7:a.tmps[7]? = some (.pointer (some ⟨W0.heap.size,0,none⟩)):=HI.out.rest 7 (by decide)
     have dK11:=(K1.out.below HI.out.world).cell (i:=1) rfl
     have dK21:=(K2.out.below HI.out.world).cell (i:=1) rfl
     have X2:RV _ listed a 2 14 (.int .i64 1):=HI.out.rh
     have X3:RV _ listed a 3 15 (.pointer (some ⟨w.heap.size,1,none⟩)):=HI.out.rh
     have X5:RV _ listed a 5 17 (.int .i64 1):=HI.out.rh
     have X6:RV _ listed a 6 18 (.pointer (some ⟨w.heap.size+1,1,none⟩)):=HI.out.rh
     have X1:RV _ listed a 1 13 (.func (.func 50) #[] #[]):=HI.out.rh
     have X4:RV _ listed a 4 16 (.string y):=HI.out.rh
     have X7:RV _ listed a 7 19 (.string v):=HI.out.rh
     have X0:RV _ listed a 0 12 (.int .i64 1):=HI.out.rh
     match i,him,Hr with
     | 0,_,Hi =>
       refine stepH rfl fun K' hK=>?_
       go_simp
       exact hK.out _ _ ⟨HI.out.pv Hi.out rfl,trivial⟩
     | 1,_,Hi =>
       refine stepH rfl fun K' hK=>?_
       go_simp
       exact hK.out _ _ ⟨HI.out.pv Hi.out rfl,trivial⟩
     | 2,_,Hi =>
       refine stepH rfl fun K' hK=>?_
       go_simp
       exact hK.out _ _ ⟨HI.out.pv Hi.out rfl,trivial⟩
     | 3,_,Hi =>
       have x2:=X2.g Hi.out (by kernel_rfl)
       refine stepH rfl fun K' hK=>?_
       go_simp
       exact hK.out _ _ ⟨HI.out.pv Hi.out rfl,trivial⟩
     | 4,_,Hi =>
       have x3:=X3.g Hi.out (by kernel_rfl)
       refine stepH rfl fun K' hK=>?_
       go_simp
       exact hK.out _ _ ⟨HI.out.pv Hi.out rfl,trivial⟩
     | 5,_,Hi =>
       refine stepH rfl fun K' hK=>?_
       go_simp
       exact hK.out _ _ ⟨HI.out.pv Hi.out rfl,trivial⟩
     | 6,_,Hi =>
       have x5:=X5.g Hi.out (by kernel_rfl)
       refine stepH rfl fun K' hK=>?_
       go_simp
       exact hK.out _ _ ⟨HI.out.pv Hi.out rfl,trivial⟩
     | 7,_,Hi =>
       have x6:=X6.g Hi.out (by kernel_rfl)
       refine stepH rfl fun K' hK=>?_
       go_simp
       exact hK.out _ _ ⟨HI.out.pv Hi.out rfl,trivial⟩
     | 8,_,Hi =>
       have x1:=X1.g Hi.out (by kernel_rfl)
       have x4:=X4.g Hi.out (by kernel_rfl)
       have x7:=X7.g Hi.out (by kernel_rfl)
       refine stepH rfl fun K' hK=>?_
       go_simp
       with_reducible refine(C2.out _ (HB2.out.trans (HI.out.world.mono HB2.out.size))).mono ?_
       rintro e W' ⟨rfl,hb⟩
       exact hK.out _ _ ⟨HI.out.pc Hi.out hb rfl,trivial⟩
     | 9,_,Hi =>
       have x0:=X0.g Hi.out (by kernel_rfl)
       refine stepH rfl fun K' hK=>?_
       go_simp
       exact hK.out _ _ ⟨HI.out.pv Hi.out rfl,trivial⟩
     | n+10,h,_=>exact absurd h (by omega)
   · intro listed a W hI hD hall
     have x8:a.tmps[20]? = some (.string m):=hI.sx hall 8
     have x9:a.tmps[21]? = some (.pointer (some ⟨W0.heap.size,1,none⟩)):=hI.sx hall 9
     have HBW:=hid hI.world
     have HI:=hid hI
     have HA:=hid hall
     clear hI hall
     have K1:=hid (K1.out.below HBW.out)
     have K2:=hid (K2.out.below HBW.out)
     have K3:=hid (K3.out.below HBW.out)
     have K4:=hid (K4.out.below HBW.out)
     have HBX:=hid (HB2.out.trans (HBW.out.mono HB2.out.size))
     have dK41:=K4.out.cell (i:=1) rfl
     have fK41:=K4.out.frozen (i:=1)
     refine tail_succ (t:=0) ?_
     refine stepH rfl fun K' hK=>?_
     go_simp
     refine hK.out _ _ ?_
     clear hK
     refine tail_nil ?_
     have o0:∀ {g':Nat} {cs':Array Value} {T':TypeId},g'≠W0.heap.size→SBk W g' cs' T'→SBk (storeAll W (W0.heap.size) 1 [.string m]) g' cs' T':=fun hg' h'=>store_off hg' _ 1 h'
     exact⟨rfl,(HI.out.finx ⟨HI.out.sx HA.out 0,HI.out.sx HA.out 1,HI.out.sx HA.out 2,HI.out.sx HA.out 3,HI.out.sx HA.out 4,HI.out.sx HA.out 5,HI.out.sx HA.out 6,HI.out.sx HA.out 7,x8,x9,trivial⟩ rfl),(store_below (l:=[.string m]) (i:=1) (by omega) HBX.out),(o0 (by omega) K1.out),(o0 (by omega) K2.out),(o0 (by omega) K3.out),(store_blk (l:=[.string m]) (i:=1) K4.out)⟩
 rintro a' W3 ⟨rfl,z0,z1,z2,z3,z4⟩
 have HB3:=hid z0
 have K1:=hid z1
 have K2:=hid z2
 have K3:=hid z3
 have K4:=hid z4
 clear z0 z1 z2 z3 z4
 simp only[putL,List.setIfInBounds_toArray,List.set_cons_zero,List.set_cons_succ]
 go_wp2
 rw[rounds_succ]
 go_wp2_with fail
 refine wp_region_post (fun a0 a' V=>a'=⟨putL [(12,.int .i64 2),(13,.func (.func 50) #[] #[]),(14,.int .i64 2),(15,.pointer (some ⟨w.heap.size,2,none⟩)),(16,.string z),(17,.int .i64 2),(18,.pointer (some ⟨w.heap.size+1,2,none⟩)),(19,.string t),(20,.string n),(21,.pointer (some ⟨W0.heap.size,2,none⟩))] a0.tmps,a0.defers⟩∧Below w.heap.size w V∧SBk V (w.heap.size+1+1) #[.string ⟨#[]⟩,.string ⟨#[]⟩,.string ⟨#[]⟩] 59∧SBk V (W0.heap.size) #[.string l,.string m,.string n] 59) ?_ ?_
 · refine wp_region_tail_d (by kernel_rfl) 10 1 (fun i=>[12,13,14,15,16,17,18,19,20,21].getD i 0) (RelR [Rel.val (.int .i64 2),Rel.val (.func (.func 50) #[] #[]),Rel.val (.int .i64 2),Rel.val (.pointer (some ⟨w.heap.size,2,none⟩)),Rel.val (.string z),Rel.val (.int .i64 2),Rel.val (.pointer (some ⟨w.heap.size+1,2,none⟩)),Rel.val (.string t),Rel.val (.string n),Rel.val (.pointer (some ⟨W0.heap.size,2,none⟩))]) (fun W=>Below W3.heap.size W3 W) (fun _ _=>True) (by kernel_rfl) (by kernel_rfl) (by kernel_rfl) trivial (Below.refl _ _).drew ?_ ?_
   · intro listed a W i hI hD hrd him
     have HI:=hid hI
     have HD:=hid hD
     have Hr:=hid hrd
     clear hI hrd hD
     have y8:a.tmps[8]? = some (.int .i64 2):=HI.out.rest 8 (by decide)
     have y2:a.tmps[2]? = some (.func (.func 50) #[] #[]):=HI.out.rest 2 (by decide)
     have y3:a.tmps[3]? = some (.pointer (some ⟨w.heap.size,0,none⟩)):=HI.out.rest 3 (by decide)
     have y4:a.tmps[4]? = some (.pointer (some ⟨w.heap.size+1,0,none⟩)):=HI.out.rest 4 (by decide)
     have y7:a.tmps[7]? = some (.pointer (some ⟨W0.heap.size,0,none⟩)):=HI.out.rest 7 (by decide)
     have dK12:=(K1.out.below HI.out.world).cell (i:=2) rfl
     have dK22:=(K2.out.below HI.out.world).cell (i:=2) rfl
     have X2:RV _ listed a 2 14 (.int .i64 2):=HI.out.rh
     have X3:RV _ listed a 3 15 (.pointer (some ⟨w.heap.size,2,none⟩)):=HI.out.rh
     have X5:RV _ listed a 5 17 (.int .i64 2):=HI.out.rh
     have X6:RV _ listed a 6 18 (.pointer (some ⟨w.heap.size+1,2,none⟩)):=HI.out.rh
     have X1:RV _ listed a 1 13 (.func (.func 50) #[] #[]):=HI.out.rh
     have X4:RV _ listed a 4 16 (.string z):=HI.out.rh
     have X7:RV _ listed a 7 19 (.string t):=HI.out.rh
     have X0:RV _ listed a 0 12 (.int .i64 2):=HI.out.rh
     match i,him,Hr with
     | 0,_,Hi =>
       refine stepH rfl fun K' hK=>?_
       go_simp
       exact hK.out _ _ ⟨HI.out.pv Hi.out rfl,trivial⟩
     | 1,_,Hi =>
       refine stepH rfl fun K' hK=>?_
       go_simp
       exact hK.out _ _ ⟨HI.out.pv Hi.out rfl,trivial⟩
     | 2,_,Hi =>
       refine stepH rfl fun K' hK=>?_
       go_simp
       exact hK.out _ _ ⟨HI.out.pv Hi.out rfl,trivial⟩
     | 3,_,Hi =>
       have x2:=X2.g Hi.out (by kernel_rfl)
       refine stepH rfl fun K' hK=>?_
       go_simp
       exact hK.out _ _ ⟨HI.out.pv Hi.out rfl,trivial⟩
     | 4,_,Hi =>
       have x3:=X3.g Hi.out (by kernel_rfl)
       refine stepH rfl fun K' hK=>?_
       go_simp
       exact hK.out _ _ ⟨HI.out.pv Hi.out rfl,trivial⟩
     | 5,_,Hi =>
       refine stepH rfl fun K' hK=>?_
       go_simp
       exact hK.out _ _ ⟨HI.out.pv Hi.out rfl,trivial⟩
     | 6,_,Hi =>
       have x5:=X5.g Hi.out (by kernel_rfl)
       refine stepH rfl fun K' hK=>?_
       go_simp
       exact hK.out _ _ ⟨HI.out.pv Hi.out rfl,trivial⟩
     | 7,_,Hi =>
       have x6:=X6.g Hi.out (by kernel_rfl)
       refine stepH rfl fun K' hK=>?_
       go_simp
       exact hK.out _ _ ⟨HI.out.pv Hi.out rfl,trivial⟩
     | 8,_,Hi =>
       have x1:=X1.g Hi.out (by kernel_rfl)
       have x4:=X4.g Hi.out (by kernel_rfl)
       have x7:=X7.g Hi.out (by kernel_rfl)
       refine stepH rfl fun K' hK=>?_
       go_simp
       with_reducible refine(C3.out _ (HB3.out.trans (HI.out.world.mono HB3.out.size))).mono ?_
       rintro e W' ⟨rfl,hb⟩
       exact hK.out _ _ ⟨HI.out.pc Hi.out hb rfl,trivial⟩
     | 9,_,Hi =>
       have x0:=X0.g Hi.out (by kernel_rfl)
       refine stepH rfl fun K' hK=>?_
       go_simp
       exact hK.out _ _ ⟨HI.out.pv Hi.out rfl,trivial⟩
     | n+10,h,_=>exact absurd h (by omega)
   · intro listed a W hI hD hall
     have x8:a.tmps[20]? = some (.string n):=hI.sx hall 8
     have x9:a.tmps[21]? = some (.pointer (some ⟨W0.heap.size,2,none⟩)):=hI.sx hall 9
     have HBW:=hid hI.world
     have HI:=hid hI
     have HA:=hid hall
     clear hI hall
     have K3:=hid (K3.out.below HBW.out)
     have K4:=hid (K4.out.below HBW.out)
     have HBX:=hid (HB3.out.trans (HBW.out.mono HB3.out.size))
     have dK42:=K4.out.cell (i:=2) rfl
     have fK42:=K4.out.frozen (i:=2)
     refine tail_succ (t:=0) ?_
     refine stepH rfl fun K' hK=>?_
     go_simp
     refine hK.out _ _ ?_
     clear hK
     refine tail_nil ?_
     have o0:∀ {g':Nat} {cs':Array Value} {T':TypeId},g'≠W0.heap.size→SBk W g' cs' T'→SBk (storeAll W (W0.heap.size) 2 [.string n]) g' cs' T':=fun hg' h'=>store_off hg' _ 2 h'
     exact⟨rfl,(HI.out.finx ⟨HI.out.sx HA.out 0,HI.out.sx HA.out 1,HI.out.sx HA.out 2,HI.out.sx HA.out 3,HI.out.sx HA.out 4,HI.out.sx HA.out 5,HI.out.sx HA.out 6,HI.out.sx HA.out 7,x8,x9,trivial⟩ rfl),(store_below (l:=[.string n]) (i:=2) (by omega) HBX.out),(o0 (by omega) K3.out),(store_blk (l:=[.string n]) (i:=2) K4.out)⟩
 rintro a' W4 ⟨rfl,z0,z1,z2⟩
 have HB4:=hid z0
 have K3:=hid z1
 have K4:=hid z2
 clear z0 z1 z2
 simp only[putL,List.setIfInBounds_toArray,List.set_cons_zero,List.set_cons_succ]
 go_wp2
 rw[rounds_succ]
 have dK40:=K4.out.cell (i:=0) rfl
 have dK41:=K4.out.cell (i:=1) rfl
 have dK42:=K4.out.cell (i:=2) rfl
 have dK30:=K3.out.cell (i:=0) rfl
 have dK31:=K3.out.cell (i:=1) rfl
 have dK32:=K3.out.cell (i:=2) rfl
 have fK30:=K3.out.frozen (i:=0)
 have fK31:=K3.out.frozen (i:=1)
 have fK32:=K3.out.frozen (i:=2)
 go_wp2
 exact bodyPost_ret (v:=.agg #[.string l,.string m,.string n]) (by simp[results,Tryz.results37,go_sem,dK30,dK31,dK32]) rfl ⟨rfl,(store_below (l:=[.string l,.string m,.string n]) (i:=0) (by omega) HB4.out)⟩
end Go.Proofs.YtklfllmfcckgjaaGreatDoor
