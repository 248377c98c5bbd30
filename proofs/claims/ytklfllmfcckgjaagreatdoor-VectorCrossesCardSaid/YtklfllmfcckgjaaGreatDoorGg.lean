/- vector.Through, Crossing: walks over the contracts of what they call. -/
import Derived.Test.YtklfllmfcckgjaaGreatDoorMz45q
set_option maxRecDepth 100000
set_option maxHeartbeats 20000000
open Go.Lib (hid)
namespace Go.Proofs.YtklfllmfcckgjaaGreatDoor
open Go.RowKit Go.Gb
theorem vthrough_zero (x y z u v t o1 o2 o3 l1 l2 l3 m1 m2 m3:ByteArray)(w₀:World)(h1:CV w₀ 37 #[.agg #[.string u,.string v,.string t],.agg #[.string x,.string y,.string z],.func (.func 39) #[] #[]] (.agg #[.string l1,.string l2,.string l3]))(h2:CV w₀ 37 #[.agg #[.string o1,.string o2,.string o3],.agg #[.string x,.string y,.string z],.func (.func 39) #[] #[]] (.agg #[.string m1,.string m2,.string m3]))(h3:CV w₀ 30 #[.agg #[.string l1,.string l2,.string l3],.agg #[.string m1,.string m2,.string m3]] (.agg #[.string ⟨#[48]⟩,.string ⟨#[48]⟩,.string ⟨#[48]⟩]))  :
 CV w₀ 20 #[.agg #[.string x,.string y,.string z],.agg #[.string u,.string v,.string t],.agg #[.string o1,.string o2,.string o3]] (.tuple #[.agg #[.string ⟨#[]⟩,.string ⟨#[]⟩,.string ⟨#[]⟩,.string ⟨#[]⟩],.int .i64 16]):=by
 intro w hw
 have C1:=hid (h1.mono hw)
 have C2:=hid (h2.mono hw)
 have C3:=hid (h3.mono hw)
 have hq:=eq_arr3 (show sameA ⟨#[48]⟩ ⟨#[48]⟩ ⟨#[48]⟩ ⟨#[48]⟩ ⟨#[48]⟩ ⟨#[48]⟩=true from by unfold sameA;simp)
 clear h1 h2 h3 hw
 go_enter Tryz.func20,Tryz.ntmps20
 go_upto_region 1 with fail
 refine wp_boxes w [(#[.string x,.string y,.string z],24),(#[.string u,.string v,.string t],24),(#[.string o1,.string o2,.string o3],24),(#[.string ⟨#[]⟩,.string ⟨#[]⟩,.string ⟨#[]⟩,.string ⟨#[]⟩],28)] rfl ?_
 rintro W0 ⟨k1,k2,k3,k4,hb⟩
 have HB0:=hid (show Below w.heap.size w W0 from hb)
 have K1:=hid k1
 have K2:=hid k2
 have K3:=hid k3
 have K4:=hid k4
 clear k1 k2 k3 k4 hb
 have dK10:=K1.out.cell (i:=0) rfl
 have dK11:=K1.out.cell (i:=1) rfl
 have dK12:=K1.out.cell (i:=2) rfl
 go_wp2_with fail
 with_reducible refine(vread x y z _ _ HB0.out).mono ?_
 rintro e W1 ⟨rfl,hb⟩
 clear dK10 dK11 dK12
 have K1:=hid (K1.out.below hb)
 have K2:=hid (K2.out.below hb)
 have K3:=hid (K3.out.below hb)
 have K4:=hid (K4.out.below hb)
 have HB1:=hbt HB0 hb
 clear hb
 go_upto_region 2 with fail
 refine wp_boxes W1 [(#[.string x,.string y,.string z],59)] rfl ?_
 have L1:=K1.out.lt
 have L2:=K2.out.lt
 have L3:=K3.out.lt
 have L4:=K4.out.lt
 have L5:=HB1.out.size
 rintro W2 ⟨k5,hb⟩
 have hb:Below W1.heap.size W1 W2:=hb
 have K1:=hid (K1.out.below hb)
 have K2:=hid (K2.out.below hb)
 have K3:=hid (K3.out.below hb)
 have K4:=hid (K4.out.below hb)
 have HB2:=hbt HB1 hb
 have K5:=hid k5
 clear k5 hb
 go_wp2_with fail
 have L6:=K1.out.lt
 have L7:=K2.out.lt
 have L8:=K3.out.lt
 have L9:=K4.out.lt
 have L10:=K5.out.lt
 have L11:=HB2.out.size
 refine wp_region_post (fun a0 a' V=>∃ gw1_9,a'=⟨putL [(14,.agg #[.string u,.string v,.string t]),(15,.agg #[.string u,.string v,.string t]),(16,.agg #[.string x,.string y,.string z]),(17,.agg #[.string l1,.string l2,.string l3]),(18,.agg #[.string o1,.string o2,.string o3]),(19,.agg #[.string o1,.string o2,.string o3]),(20,.agg #[.string x,.string y,.string z]),(21,.agg #[.string m1,.string m2,.string m3]),(22,.agg #[.string ⟨#[48]⟩,.string ⟨#[48]⟩,.string ⟨#[48]⟩]),(9,.pointer (some ⟨gw1_9,0,none⟩))] a0.tmps,a0.defers⟩∧Below w.heap.size w V∧SBk V (w.heap.size+1+1+1) #[.string ⟨#[]⟩,.string ⟨#[]⟩,.string ⟨#[]⟩,.string ⟨#[]⟩] 28∧SBk V (gw1_9) #[.string ⟨#[48]⟩,.string ⟨#[48]⟩,.string ⟨#[48]⟩] 59∧W2.heap.size≤gw1_9) ?_ ?_
 · refine wp_region_tail_d (by kernel_rfl) 10 1 (fun i=>[14,15,16,17,18,19,20,21,22,9].getD i 0) (RelR [Rel.val (.agg #[.string u,.string v,.string t]),Rel.val (.agg #[.string u,.string v,.string t]),Rel.val (.agg #[.string x,.string y,.string z]),Rel.val (.agg #[.string l1,.string l2,.string l3]),Rel.val (.agg #[.string o1,.string o2,.string o3]),Rel.val (.agg #[.string o1,.string o2,.string o3]),Rel.val (.agg #[.string x,.string y,.string z]),Rel.val (.agg #[.string m1,.string m2,.string m3]),Rel.val (.agg #[.string ⟨#[48]⟩,.string ⟨#[48]⟩,.string ⟨#[48]⟩]),Rel.ptr W2.heap.size (.cells #[.string ⟨#[]⟩,.string ⟨#[]⟩,.string ⟨#[]⟩] 59)]) (fun W=>Below W2.heap.size W2 W) (fun _ _=>True) (by kernel_rfl) (by kernel_rfl) (by kernel_rfl) trivial (Below.refl _ _).drew ?_ ?_
   · intro listed a W i hI hD hrd him
     have HI:=hid hI
     have HD:=hid hD
     have Hr:=hid hrd
     clear hI hrd hD
     have y4:a.tmps[4]? = some (.pointer (some ⟨w.heap.size+1,0,none⟩)):=HI.out.rest 4 (by decide)
     have y8:a.tmps[8]? = some (.pointer (some ⟨W1.heap.size,0,none⟩)):=HI.out.rest 8 (by decide)
     have y5:a.tmps[5]? = some (.pointer (some ⟨w.heap.size+1+1,0,none⟩)):=HI.out.rest 5 (by decide)
     have dK20:=(K2.out.below HI.out.world).cell (i:=0) rfl
     have dK21:=(K2.out.below HI.out.world).cell (i:=1) rfl
     have dK22:=(K2.out.below HI.out.world).cell (i:=2) rfl
     have dK50:=(K5.out.below HI.out.world).cell (i:=0) rfl
     have dK51:=(K5.out.below HI.out.world).cell (i:=1) rfl
     have dK52:=(K5.out.below HI.out.world).cell (i:=2) rfl
     have dK30:=(K3.out.below HI.out.world).cell (i:=0) rfl
     have dK31:=(K3.out.below HI.out.world).cell (i:=1) rfl
     have dK32:=(K3.out.below HI.out.world).cell (i:=2) rfl
     have X0:RV _ listed a 0 14 (.agg #[.string u,.string v,.string t]):=HI.out.rh
     have X1:RV _ listed a 1 15 (.agg #[.string u,.string v,.string t]):=HI.out.rh
     have X2:RV _ listed a 2 16 (.agg #[.string x,.string y,.string z]):=HI.out.rh
     have X4:RV _ listed a 4 18 (.agg #[.string o1,.string o2,.string o3]):=HI.out.rh
     have X5:RV _ listed a 5 19 (.agg #[.string o1,.string o2,.string o3]):=HI.out.rh
     have X6:RV _ listed a 6 20 (.agg #[.string x,.string y,.string z]):=HI.out.rh
     have X3:RV _ listed a 3 17 (.agg #[.string l1,.string l2,.string l3]):=HI.out.rh
     have X7:RV _ listed a 7 21 (.agg #[.string m1,.string m2,.string m3]):=HI.out.rh
     match i,him,Hr with
     | 0,_,Hi =>
       refine stepH rfl fun K' hK=>?_
       go_simp
       exact hK.out _ _ ⟨HI.out.pv Hi.out rfl,trivial⟩
     | 1,_,Hi =>
       have x0:=X0.g Hi.out (by kernel_rfl)
       refine stepH rfl fun K' hK=>?_
       go_simp
       with_reducible refine(vread u v t _ _ (HB2.out.trans (HI.out.world.mono HB2.out.size))).mono ?_
       rintro e W' ⟨rfl,hb⟩
       exact hK.out _ _ ⟨HI.out.pc Hi.out hb rfl,trivial⟩
     | 2,_,Hi =>
       refine stepH rfl fun K' hK=>?_
       go_simp
       exact hK.out _ _ ⟨HI.out.pv Hi.out rfl,trivial⟩
     | 3,_,Hi =>
       have x1:=X1.g Hi.out (by kernel_rfl)
       have x2:=X2.g Hi.out (by kernel_rfl)
       refine stepH rfl fun K' hK=>?_
       go_simp
       with_reducible refine(C1.out _ (HB2.out.trans (HI.out.world.mono HB2.out.size))).mono ?_
       rintro e W' ⟨rfl,hb⟩
       exact hK.out _ _ ⟨HI.out.pc Hi.out hb rfl,trivial⟩
     | 4,_,Hi =>
       refine stepH rfl fun K' hK=>?_
       go_simp
       exact hK.out _ _ ⟨HI.out.pv Hi.out rfl,trivial⟩
     | 5,_,Hi =>
       have x4:=X4.g Hi.out (by kernel_rfl)
       refine stepH rfl fun K' hK=>?_
       go_simp
       with_reducible refine(vread o1 o2 o3 _ _ (HB2.out.trans (HI.out.world.mono HB2.out.size))).mono ?_
       rintro e W' ⟨rfl,hb⟩
       exact hK.out _ _ ⟨HI.out.pc Hi.out hb rfl,trivial⟩
     | 6,_,Hi =>
       refine stepH rfl fun K' hK=>?_
       go_simp
       exact hK.out _ _ ⟨HI.out.pv Hi.out rfl,trivial⟩
     | 7,_,Hi =>
       have x5:=X5.g Hi.out (by kernel_rfl)
       have x6:=X6.g Hi.out (by kernel_rfl)
       refine stepH rfl fun K' hK=>?_
       go_simp
       with_reducible refine(C2.out _ (HB2.out.trans (HI.out.world.mono HB2.out.size))).mono ?_
       rintro e W' ⟨rfl,hb⟩
       exact hK.out _ _ ⟨HI.out.pc Hi.out hb rfl,trivial⟩
     | 8,_,Hi =>
       have x3:=X3.g Hi.out (by kernel_rfl)
       have x7:=X7.g Hi.out (by kernel_rfl)
       refine stepH rfl fun K' hK=>?_
       go_simp
       with_reducible refine(C3.out _ (HB2.out.trans (HI.out.world.mono HB2.out.size))).mono ?_
       rintro e W' ⟨rfl,hb⟩
       exact hK.out _ _ ⟨HI.out.pc Hi.out hb rfl,trivial⟩
     | 9,_,Hi =>
       refine stepH rfl fun K' hK=>?_
       go_simp
       exact hK.out _ _ ⟨HI.out.pc Hi.out ((Below.refl W.heap.size W).alloc (Nat.le_refl _) (.cells #[.string ⟨#[]⟩,.string ⟨#[]⟩,.string ⟨#[]⟩] 59)) ⟨W.heap.size,rfl,HI.out.world.size,SBk.new _ _ _⟩,trivial⟩
     | n+10,h,_=>exact absurd h (by omega)
   · intro listed a W hI hD hall
     have x8:a.tmps[22]? = some (.agg #[.string ⟨#[48]⟩,.string ⟨#[48]⟩,.string ⟨#[48]⟩]):=hI.sx hall 8
     obtain⟨v',x9,gw1_9,e,rrw1_9,rrw1_9_1⟩:=hI.slots 9 (by decide) (hall 9 (by decide))
     obtain rfl:=e
     have RRW1_9:=hid rrw1_9
     clear rrw1_9
     have RRW1_9_1:=hid rrw1_9_1
     clear rrw1_9_1
     have x9:a.tmps[9]? = some (.pointer (some ⟨gw1_9,0,none⟩)):=x9
     have HBW:=hid hI.world
     have HI:=hid hI
     have HA:=hid hall
     clear hI hall
     have K4:=hid (K4.out.below HBW.out)
     have HBX:=hid (HB2.out.trans (HBW.out.mono HB2.out.size))
     have K6:Hid (SBk W gw1_9 #[.string ⟨#[]⟩,.string ⟨#[]⟩,.string ⟨#[]⟩] 59):=RRW1_9_1
     have dK60:=K6.out.cell (i:=0) rfl
     have fK60:=K6.out.frozen (i:=0)
     have dK61:=K6.out.cell (i:=1) rfl
     have fK61:=K6.out.frozen (i:=1)
     have dK62:=K6.out.cell (i:=2) rfl
     have fK62:=K6.out.frozen (i:=2)
     refine tail_succ (t:=0) ?_
     refine stepH rfl fun K' hK=>?_
     go_simp
     refine hK.out _ _ ?_
     clear hK
     refine tail_nil ?_
     rw[← storeAll_3]
     have o0:∀ {g':Nat} {cs':Array Value} {T':TypeId},g'≠gw1_9→SBk W g' cs' T'→SBk (storeAll W (gw1_9) 0 [.string ⟨#[48]⟩,.string ⟨#[48]⟩,.string ⟨#[48]⟩]) g' cs' T':=fun hg' h'=>store_off hg' _ 0 h'
     exact⟨rfl,gw1_9,(HI.out.finx ⟨HI.out.sx HA.out 0,HI.out.sx HA.out 1,HI.out.sx HA.out 2,HI.out.sx HA.out 3,HI.out.sx HA.out 4,HI.out.sx HA.out 5,HI.out.sx HA.out 6,HI.out.sx HA.out 7,x8,x9,trivial⟩ rfl),(store_below (l:=[.string ⟨#[48]⟩,.string ⟨#[48]⟩,.string ⟨#[48]⟩]) (i:=0) (by have:=RRW1_9.out;omega) HBX.out),(o0 (by have:=RRW1_9.out;omega) K4.out),(store_blk_3 K6.out),RRW1_9.out⟩
 rintro a' W3 ⟨gw1_9,rfl,z0,z1,z2,z3⟩
 have HB3:=hid z0
 have K4:=hid z1
 have K6:=hid z2
 have R9xW3:=z3
 clear z0 z1 z2 z3
 simp only[putL,List.setIfInBounds_toArray,List.set_cons_zero,List.set_cons_succ]
 go_wp2_with fail
 refine wp_region_post (fun a0 a' V=>a'=⟨putL [(23,.agg #[.string ⟨#[48]⟩,.string ⟨#[48]⟩,.string ⟨#[48]⟩]),(24,.agg #[.string ⟨#[48]⟩,.string ⟨#[48]⟩,.string ⟨#[48]⟩]),(25,.bool true)] a0.tmps,a0.defers⟩∧Below w.heap.size w V∧SBk V (w.heap.size+1+1+1) #[.string ⟨#[]⟩,.string ⟨#[]⟩,.string ⟨#[]⟩,.string ⟨#[]⟩] 28) ?_ ?_
 · refine wp_region_tail_d (by kernel_rfl) 3 0 (fun i=>[23,24,25].getD i 0) (RelR [Rel.val (.agg #[.string ⟨#[48]⟩,.string ⟨#[48]⟩,.string ⟨#[48]⟩]),Rel.val (.agg #[.string ⟨#[48]⟩,.string ⟨#[48]⟩,.string ⟨#[48]⟩]),Rel.val (.bool true)]) (fun W=>Below W3.heap.size W3 W) (fun _ _=>True) (by kernel_rfl) (by kernel_rfl) (by kernel_rfl) trivial (Below.refl _ _).drew ?_ ?_
   · intro listed a W i hI hD hrd him
     have HI:=hid hI
     have HD:=hid hD
     have Hr:=hid hrd
     clear hI hrd hD
     have y9:a.tmps[9]? = some (.pointer (some ⟨gw1_9,0,none⟩)):=HI.out.rest 9 (by decide)
     have dK60:=(K6.out.below HI.out.world).cell (i:=0) rfl
     have dK61:=(K6.out.below HI.out.world).cell (i:=1) rfl
     have dK62:=(K6.out.below HI.out.world).cell (i:=2) rfl
     have X0:RV _ listed a 0 23 (.agg #[.string ⟨#[48]⟩,.string ⟨#[48]⟩,.string ⟨#[48]⟩]):=HI.out.rh
     have X1:RV _ listed a 1 24 (.agg #[.string ⟨#[48]⟩,.string ⟨#[48]⟩,.string ⟨#[48]⟩]):=HI.out.rh
     match i,him,Hr with
     | 0,_,Hi =>
       refine stepH rfl fun K' hK=>?_
       go_simp
       exact hK.out _ _ ⟨HI.out.pv Hi.out rfl,trivial⟩
     | 1,_,Hi =>
       refine stepH rfl fun K' hK=>?_
       go_simp
       with_reducible refine(vzero _ _ (HB3.out.trans (HI.out.world.mono HB3.out.size))).mono ?_
       rintro e W' ⟨rfl,hb⟩
       exact hK.out _ _ ⟨HI.out.pc Hi.out hb rfl,trivial⟩
     | 2,_,Hi =>
       have x0:=X0.g Hi.out (by kernel_rfl)
       have x1:=X1.g Hi.out (by kernel_rfl)
       refine stepH rfl fun K' hK=>?_
       go_simp
       exact hK.out _ _ ⟨HI.out.pv Hi.out rfl,trivial⟩
     | n+3,h,_=>exact absurd h (by omega)
   · intro listed a W hI hD hall
     have HBW:=hid hI.world
     have HI:=hid hI
     have HA:=hid hall
     clear hI hall
     have K4:=hid (K4.out.below HBW.out)
     have HBX:=hid (HB3.out.trans (HBW.out.mono HB3.out.size))
     refine tail_nil ?_
     exact⟨rfl,(HI.out.finx ⟨HI.out.sx HA.out 0,HI.out.sx HA.out 1,HI.out.sx HA.out 2,trivial⟩ rfl),HBX.out,K4.out⟩
 rintro a' W4 ⟨rfl,z0,z1⟩
 have HB4:=hid z0
 have K4:=hid z1
 clear z0 z1
 simp only[putL,List.setIfInBounds_toArray,List.set_cons_zero,List.set_cons_succ]
 have dK40:=K4.out.cell (i:=0) rfl
 have dK41:=K4.out.cell (i:=1) rfl
 have dK42:=K4.out.cell (i:=2) rfl
 have dK43:=K4.out.cell (i:=3) rfl
 have fK40:=K4.out.frozen (i:=0)
 have fK41:=K4.out.frozen (i:=1)
 have fK42:=K4.out.frozen (i:=2)
 have fK43:=K4.out.frozen (i:=3)
 go_wp2
 exact bodyPost_ret (v:=.tuple #[.agg #[.string ⟨#[]⟩,.string ⟨#[]⟩,.string ⟨#[]⟩,.string ⟨#[]⟩],.int .i64 16]) (by simp[results,Tryz.results20,go_sem,dK40,dK41,dK42,dK43]) rfl ⟨rfl,(store_below (l:=[.string ⟨#[]⟩,.string ⟨#[]⟩,.string ⟨#[]⟩,.string ⟨#[]⟩]) (i:=0) (by omega) HB4.out)⟩
theorem vthrough_raw (x y z u v t o1 o2 o3 l1 l2 l3 m1 m2 m3 n1 n2 n3 g1 g2 g3 s:ByteArray)(er:Int)(w₀:World)(h1:CV w₀ 37 #[.agg #[.string u,.string v,.string t],.agg #[.string x,.string y,.string z],.func (.func 39) #[] #[]] (.agg #[.string l1,.string l2,.string l3]))(h2:CV w₀ 37 #[.agg #[.string o1,.string o2,.string o3],.agg #[.string x,.string y,.string z],.func (.func 39) #[] #[]] (.agg #[.string m1,.string m2,.string m3]))(h3:CV w₀ 30 #[.agg #[.string l1,.string l2,.string l3],.agg #[.string m1,.string m2,.string m3]] (.agg #[.string n1,.string n2,.string n3]))(h4:CV w₀ 31 #[.agg #[.string n1,.string n2,.string n3]] (.tuple #[.agg #[.string g1,.string g2,.string g3],.int .i64 er]))(h5:CV w₀ 34 #[.agg #[.string n1,.string n2,.string n3],.agg #[.string x,.string y,.string z]] (.string s))(hz:sameA n1 n2 n3 ⟨#[48]⟩ ⟨#[48]⟩ ⟨#[48]⟩=false) :
 CV w₀ 20 #[.agg #[.string x,.string y,.string z],.agg #[.string u,.string v,.string t],.agg #[.string o1,.string o2,.string o3]] (.tuple #[.agg #[.string g1,.string g2,.string g3,.string s],.int .i64 er]):=by
 intro w hw
 have C1:=hid (h1.mono hw)
 have C2:=hid (h2.mono hw)
 have C3:=hid (h3.mono hw)
 have C4:=hid (h4.mono hw)
 have C5:=hid (h5.mono hw)
 have hq:=eq_arr3 hz
 clear hz h1 h2 h3 h4 h5 hw
 go_enter Tryz.func20,Tryz.ntmps20
 go_upto_region 1 with fail
 refine wp_boxes w [(#[.string x,.string y,.string z],24),(#[.string u,.string v,.string t],24),(#[.string o1,.string o2,.string o3],24),(#[.string ⟨#[]⟩,.string ⟨#[]⟩,.string ⟨#[]⟩,.string ⟨#[]⟩],28)] rfl ?_
 rintro W0 ⟨k1,k2,k3,k4,hb⟩
 have HB0:=hid (show Below w.heap.size w W0 from hb)
 have K1:=hid k1
 have K2:=hid k2
 have K3:=hid k3
 have K4:=hid k4
 clear k1 k2 k3 k4 hb
 have dK10:=K1.out.cell (i:=0) rfl
 have dK11:=K1.out.cell (i:=1) rfl
 have dK12:=K1.out.cell (i:=2) rfl
 go_wp2_with fail
 with_reducible refine(vread x y z _ _ HB0.out).mono ?_
 rintro e W1 ⟨rfl,hb⟩
 clear dK10 dK11 dK12
 have K1:=hid (K1.out.below hb)
 have K2:=hid (K2.out.below hb)
 have K3:=hid (K3.out.below hb)
 have K4:=hid (K4.out.below hb)
 have HB1:=hbt HB0 hb
 clear hb
 go_upto_region 2 with fail
 refine wp_boxes W1 [(#[.string x,.string y,.string z],59)] rfl ?_
 have L1:=K1.out.lt
 have L2:=K2.out.lt
 have L3:=K3.out.lt
 have L4:=K4.out.lt
 have L5:=HB1.out.size
 rintro W2 ⟨k5,hb⟩
 have hb:Below W1.heap.size W1 W2:=hb
 have K1:=hid (K1.out.below hb)
 have K2:=hid (K2.out.below hb)
 have K3:=hid (K3.out.below hb)
 have K4:=hid (K4.out.below hb)
 have HB2:=hbt HB1 hb
 have K5:=hid k5
 clear k5 hb
 go_wp2_with fail
 have L6:=K1.out.lt
 have L7:=K2.out.lt
 have L8:=K3.out.lt
 have L9:=K4.out.lt
 have L10:=K5.out.lt
 have L11:=HB2.out.size
 refine wp_region_post (fun a0 a' V=>∃ gw1_9,a'=⟨putL [(14,.agg #[.string u,.string v,.string t]),(15,.agg #[.string u,.string v,.string t]),(16,.agg #[.string x,.string y,.string z]),(17,.agg #[.string l1,.string l2,.string l3]),(18,.agg #[.string o1,.string o2,.string o3]),(19,.agg #[.string o1,.string o2,.string o3]),(20,.agg #[.string x,.string y,.string z]),(21,.agg #[.string m1,.string m2,.string m3]),(22,.agg #[.string n1,.string n2,.string n3]),(9,.pointer (some ⟨gw1_9,0,none⟩))] a0.tmps,a0.defers⟩∧Below w.heap.size w V∧SBk V (w.heap.size) #[.string x,.string y,.string z] 24∧SBk V (w.heap.size+1) #[.string u,.string v,.string t] 24∧SBk V (w.heap.size+1+1) #[.string o1,.string o2,.string o3] 24∧SBk V (w.heap.size+1+1+1) #[.string ⟨#[]⟩,.string ⟨#[]⟩,.string ⟨#[]⟩,.string ⟨#[]⟩] 28∧SBk V (W1.heap.size) #[.string x,.string y,.string z] 59∧SBk V (gw1_9) #[.string n1,.string n2,.string n3] 59∧W2.heap.size≤gw1_9) ?_ ?_
 · refine wp_region_tail_d (by kernel_rfl) 10 1 (fun i=>[14,15,16,17,18,19,20,21,22,9].getD i 0) (RelR [Rel.val (.agg #[.string u,.string v,.string t]),Rel.val (.agg #[.string u,.string v,.string t]),Rel.val (.agg #[.string x,.string y,.string z]),Rel.val (.agg #[.string l1,.string l2,.string l3]),Rel.val (.agg #[.string o1,.string o2,.string o3]),Rel.val (.agg #[.string o1,.string o2,.string o3]),Rel.val (.agg #[.string x,.string y,.string z]),Rel.val (.agg #[.string m1,.string m2,.string m3]),Rel.val (.agg #[.string n1,.string n2,.string n3]),Rel.ptr W2.heap.size (.cells #[.string ⟨#[]⟩,.string ⟨#[]⟩,.string ⟨#[]⟩] 59)]) (fun W=>Below W2.heap.size W2 W) (fun _ _=>True) (by kernel_rfl) (by kernel_rfl) (by kernel_rfl) trivial (Below.refl _ _).drew ?_ ?_
   · intro listed a W i hI hD hrd him
     have HI:=hid hI
     have HD:=hid hD
     have Hr:=hid hrd
     clear hI hrd hD
     have y4:a.tmps[4]? = some (.pointer (some ⟨w.heap.size+1,0,none⟩)):=HI.out.rest 4 (by decide)
     have y8:a.tmps[8]? = some (.pointer (some ⟨W1.heap.size,0,none⟩)):=HI.out.rest 8 (by decide)
     have y5:a.tmps[5]? = some (.pointer (some ⟨w.heap.size+1+1,0,none⟩)):=HI.out.rest 5 (by decide)
     have dK20:=(K2.out.below HI.out.world).cell (i:=0) rfl
     have dK21:=(K2.out.below HI.out.world).cell (i:=1) rfl
     have dK22:=(K2.out.below HI.out.world).cell (i:=2) rfl
     have dK50:=(K5.out.below HI.out.world).cell (i:=0) rfl
     have dK51:=(K5.out.below HI.out.world).cell (i:=1) rfl
     have dK52:=(K5.out.below HI.out.world).cell (i:=2) rfl
     have dK30:=(K3.out.below HI.out.world).cell (i:=0) rfl
     have dK31:=(K3.out.below HI.out.world).cell (i:=1) rfl
     have dK32:=(K3.out.below HI.out.world).cell (i:=2) rfl
     have X0:RV _ listed a 0 14 (.agg #[.string u,.string v,.string t]):=HI.out.rh
     have X1:RV _ listed a 1 15 (.agg #[.string u,.string v,.string t]):=HI.out.rh
     have X2:RV _ listed a 2 16 (.agg #[.string x,.string y,.string z]):=HI.out.rh
     have X4:RV _ listed a 4 18 (.agg #[.string o1,.string o2,.string o3]):=HI.out.rh
     have X5:RV _ listed a 5 19 (.agg #[.string o1,.string o2,.string o3]):=HI.out.rh
     have X6:RV _ listed a 6 20 (.agg #[.string x,.string y,.string z]):=HI.out.rh
     have X3:RV _ listed a 3 17 (.agg #[.string l1,.string l2,.string l3]):=HI.out.rh
     have X7:RV _ listed a 7 21 (.agg #[.string m1,.string m2,.string m3]):=HI.out.rh
     match i,him,Hr with
     | 0,_,Hi =>
       refine stepH rfl fun K' hK=>?_
       go_simp
       exact hK.out _ _ ⟨HI.out.pv Hi.out rfl,trivial⟩
     | 1,_,Hi =>
       have x0:=X0.g Hi.out (by kernel_rfl)
       refine stepH rfl fun K' hK=>?_
       go_simp
       with_reducible refine(vread u v t _ _ (HB2.out.trans (HI.out.world.mono HB2.out.size))).mono ?_
       rintro e W' ⟨rfl,hb⟩
       exact hK.out _ _ ⟨HI.out.pc Hi.out hb rfl,trivial⟩
     | 2,_,Hi =>
       refine stepH rfl fun K' hK=>?_
       go_simp
       exact hK.out _ _ ⟨HI.out.pv Hi.out rfl,trivial⟩
     | 3,_,Hi =>
       have x1:=X1.g Hi.out (by kernel_rfl)
       have x2:=X2.g Hi.out (by kernel_rfl)
       refine stepH rfl fun K' hK=>?_
       go_simp
       with_reducible refine(C1.out _ (HB2.out.trans (HI.out.world.mono HB2.out.size))).mono ?_
       rintro e W' ⟨rfl,hb⟩
       exact hK.out _ _ ⟨HI.out.pc Hi.out hb rfl,trivial⟩
     | 4,_,Hi =>
       refine stepH rfl fun K' hK=>?_
       go_simp
       exact hK.out _ _ ⟨HI.out.pv Hi.out rfl,trivial⟩
     | 5,_,Hi =>
       have x4:=X4.g Hi.out (by kernel_rfl)
       refine stepH rfl fun K' hK=>?_
       go_simp
       with_reducible refine(vread o1 o2 o3 _ _ (HB2.out.trans (HI.out.world.mono HB2.out.size))).mono ?_
       rintro e W' ⟨rfl,hb⟩
       exact hK.out _ _ ⟨HI.out.pc Hi.out hb rfl,trivial⟩
     | 6,_,Hi =>
       refine stepH rfl fun K' hK=>?_
       go_simp
       exact hK.out _ _ ⟨HI.out.pv Hi.out rfl,trivial⟩
     | 7,_,Hi =>
       have x5:=X5.g Hi.out (by kernel_rfl)
       have x6:=X6.g Hi.out (by kernel_rfl)
       refine stepH rfl fun K' hK=>?_
       go_simp
       with_reducible refine(C2.out _ (HB2.out.trans (HI.out.world.mono HB2.out.size))).mono ?_
       rintro e W' ⟨rfl,hb⟩
       exact hK.out _ _ ⟨HI.out.pc Hi.out hb rfl,trivial⟩
     | 8,_,Hi =>
       have x3:=X3.g Hi.out (by kernel_rfl)
       have x7:=X7.g Hi.out (by kernel_rfl)
       refine stepH rfl fun K' hK=>?_
       go_simp
       with_reducible refine(C3.out _ (HB2.out.trans (HI.out.world.mono HB2.out.size))).mono ?_
       rintro e W' ⟨rfl,hb⟩
       exact hK.out _ _ ⟨HI.out.pc Hi.out hb rfl,trivial⟩
     | 9,_,Hi =>
       refine stepH rfl fun K' hK=>?_
       go_simp
       exact hK.out _ _ ⟨HI.out.pc Hi.out ((Below.refl W.heap.size W).alloc (Nat.le_refl _) (.cells #[.string ⟨#[]⟩,.string ⟨#[]⟩,.string ⟨#[]⟩] 59)) ⟨W.heap.size,rfl,HI.out.world.size,SBk.new _ _ _⟩,trivial⟩
     | n+10,h,_=>exact absurd h (by omega)
   · intro listed a W hI hD hall
     have x8:a.tmps[22]? = some (.agg #[.string n1,.string n2,.string n3]):=hI.sx hall 8
     obtain⟨v',x9,gw1_9,e,rrw1_9,rrw1_9_1⟩:=hI.slots 9 (by decide) (hall 9 (by decide))
     obtain rfl:=e
     have RRW1_9:=hid rrw1_9
     clear rrw1_9
     have RRW1_9_1:=hid rrw1_9_1
     clear rrw1_9_1
     have x9:a.tmps[9]? = some (.pointer (some ⟨gw1_9,0,none⟩)):=x9
     have HBW:=hid hI.world
     have HI:=hid hI
     have HA:=hid hall
     clear hI hall
     have K1:=hid (K1.out.below HBW.out)
     have K2:=hid (K2.out.below HBW.out)
     have K3:=hid (K3.out.below HBW.out)
     have K4:=hid (K4.out.below HBW.out)
     have K5:=hid (K5.out.below HBW.out)
     have HBX:=hid (HB2.out.trans (HBW.out.mono HB2.out.size))
     have K6:Hid (SBk W gw1_9 #[.string ⟨#[]⟩,.string ⟨#[]⟩,.string ⟨#[]⟩] 59):=RRW1_9_1
     have dK60:=K6.out.cell (i:=0) rfl
     have fK60:=K6.out.frozen (i:=0)
     have dK61:=K6.out.cell (i:=1) rfl
     have fK61:=K6.out.frozen (i:=1)
     have dK62:=K6.out.cell (i:=2) rfl
     have fK62:=K6.out.frozen (i:=2)
     refine tail_succ (t:=0) ?_
     refine stepH rfl fun K' hK=>?_
     go_simp
     refine hK.out _ _ ?_
     clear hK
     refine tail_nil ?_
     rw[← storeAll_3]
     have o0:∀ {g':Nat} {cs':Array Value} {T':TypeId},g'≠gw1_9→SBk W g' cs' T'→SBk (storeAll W (gw1_9) 0 [.string n1,.string n2,.string n3]) g' cs' T':=fun hg' h'=>store_off hg' _ 0 h'
     exact⟨rfl,gw1_9,(HI.out.finx ⟨HI.out.sx HA.out 0,HI.out.sx HA.out 1,HI.out.sx HA.out 2,HI.out.sx HA.out 3,HI.out.sx HA.out 4,HI.out.sx HA.out 5,HI.out.sx HA.out 6,HI.out.sx HA.out 7,x8,x9,trivial⟩ rfl),(store_below (l:=[.string n1,.string n2,.string n3]) (i:=0) (by have:=RRW1_9.out;omega) HBX.out),(o0 (by have:=RRW1_9.out;omega) K1.out),(o0 (by have:=RRW1_9.out;omega) K2.out),(o0 (by have:=RRW1_9.out;omega) K3.out),(o0 (by have:=RRW1_9.out;omega) K4.out),(o0 (by have:=RRW1_9.out;omega) K5.out),(store_blk_3 K6.out),RRW1_9.out⟩
 rintro a' W3 ⟨gw1_9,rfl,z0,z1,z2,z3,z4,z5,z6,z7⟩
 have HB3:=hid z0
 have K1:=hid z1
 have K2:=hid z2
 have K3:=hid z3
 have K4:=hid z4
 have K5:=hid z5
 have K6:=hid z6
 have R9xW3:=z7
 clear z0 z1 z2 z3 z4 z5 z6 z7
 simp only[putL,List.setIfInBounds_toArray,List.set_cons_zero,List.set_cons_succ]
 go_wp2_with fail
 refine wp_region_post (fun a0 a' V=>a'=⟨putL [(23,.agg #[.string n1,.string n2,.string n3]),(24,.agg #[.string ⟨#[48]⟩,.string ⟨#[48]⟩,.string ⟨#[48]⟩]),(25,.bool false)] a0.tmps,a0.defers⟩∧Below w.heap.size w V∧SBk V (w.heap.size) #[.string x,.string y,.string z] 24∧SBk V (w.heap.size+1) #[.string u,.string v,.string t] 24∧SBk V (w.heap.size+1+1) #[.string o1,.string o2,.string o3] 24∧SBk V (w.heap.size+1+1+1) #[.string ⟨#[]⟩,.string ⟨#[]⟩,.string ⟨#[]⟩,.string ⟨#[]⟩] 28∧SBk V (W1.heap.size) #[.string x,.string y,.string z] 59∧SBk V (gw1_9) #[.string n1,.string n2,.string n3] 59) ?_ ?_
 · refine wp_region_tail_d (by kernel_rfl) 3 0 (fun i=>[23,24,25].getD i 0) (RelR [Rel.val (.agg #[.string n1,.string n2,.string n3]),Rel.val (.agg #[.string ⟨#[48]⟩,.string ⟨#[48]⟩,.string ⟨#[48]⟩]),Rel.val (.bool false)]) (fun W=>Below W3.heap.size W3 W) (fun _ _=>True) (by kernel_rfl) (by kernel_rfl) (by kernel_rfl) trivial (Below.refl _ _).drew ?_ ?_
   · intro listed a W i hI hD hrd him
     have HI:=hid hI
     have HD:=hid hD
     have Hr:=hid hrd
     clear hI hrd hD
     have y9:a.tmps[9]? = some (.pointer (some ⟨gw1_9,0,none⟩)):=HI.out.rest 9 (by decide)
     have dK60:=(K6.out.below HI.out.world).cell (i:=0) rfl
     have dK61:=(K6.out.below HI.out.world).cell (i:=1) rfl
     have dK62:=(K6.out.below HI.out.world).cell (i:=2) rfl
     have X0:RV _ listed a 0 23 (.agg #[.string n1,.string n2,.string n3]):=HI.out.rh
     have X1:RV _ listed a 1 24 (.agg #[.string ⟨#[48]⟩,.string ⟨#[48]⟩,.string ⟨#[48]⟩]):=HI.out.rh
     match i,him,Hr with
     | 0,_,Hi =>
       refine stepH rfl fun K' hK=>?_
       go_simp
       exact hK.out _ _ ⟨HI.out.pv Hi.out rfl,trivial⟩
     | 1,_,Hi =>
       refine stepH rfl fun K' hK=>?_
       go_simp
       with_reducible refine(vzero _ _ (HB3.out.trans (HI.out.world.mono HB3.out.size))).mono ?_
       rintro e W' ⟨rfl,hb⟩
       exact hK.out _ _ ⟨HI.out.pc Hi.out hb rfl,trivial⟩
     | 2,_,Hi =>
       have x0:=X0.g Hi.out (by kernel_rfl)
       have x1:=X1.g Hi.out (by kernel_rfl)
       refine stepH rfl fun K' hK=>?_
       go_simp
       exact hK.out _ _ ⟨HI.out.pv Hi.out rfl,trivial⟩
     | n+3,h,_=>exact absurd h (by omega)
   · intro listed a W hI hD hall
     have HBW:=hid hI.world
     have HI:=hid hI
     have HA:=hid hall
     clear hI hall
     have K1:=hid (K1.out.below HBW.out)
     have K2:=hid (K2.out.below HBW.out)
     have K3:=hid (K3.out.below HBW.out)
     have K4:=hid (K4.out.below HBW.out)
     have K5:=hid (K5.out.below HBW.out)
     have K6:=hid (K6.out.below HBW.out)
     have HBX:=hid (HB3.out.trans (HBW.out.mono HB3.out.size))
     refine tail_nil ?_
     exact⟨rfl,(HI.out.finx ⟨HI.out.sx HA.out 0,HI.out.sx HA.out 1,HI.out.sx HA.out 2,trivial⟩ rfl),HBX.out,K1.out,K2.out,K3.out,K4.out,K5.out,K6.out⟩
 rintro a' W4 ⟨rfl,z0,z1,z2,z3,z4,z5,z6⟩
 have HB4:=hid z0
 have K1:=hid z1
 have K2:=hid z2
 have K3:=hid z3
 have K4:=hid z4
 have K5:=hid z5
 have K6:=hid z6
 clear z0 z1 z2 z3 z4 z5 z6
 simp only[putL,List.setIfInBounds_toArray,List.set_cons_zero,List.set_cons_succ]
 have dK60:=K6.out.cell (i:=0) rfl
 have dK61:=K6.out.cell (i:=1) rfl
 have dK62:=K6.out.cell (i:=2) rfl
 go_wp2_with fail
 with_reducible refine(C4.out _ HB4.out).mono ?_
 rintro e W5 ⟨rfl,hb⟩
 clear dK60 dK61 dK62
 have K1:=hid (K1.out.below hb)
 have K2:=hid (K2.out.below hb)
 have K3:=hid (K3.out.below hb)
 have K4:=hid (K4.out.below hb)
 have K5:=hid (K5.out.below hb)
 have K6:=hid (K6.out.below hb)
 have HB5:=hbt HB4 hb
 clear hb
 go_upto_region 6 with fail
 refine wp_boxes W5 [(#[.string g1,.string g2,.string g3],24)] rfl ?_
 have L13:=K1.out.lt
 have L14:=K2.out.lt
 have L15:=K3.out.lt
 have L16:=K4.out.lt
 have L17:=K5.out.lt
 have L18:=K6.out.lt
 have L19:=HB5.out.size
 rintro W6 ⟨k7,hb⟩
 have hb:Below W5.heap.size W5 W6:=hb
 have K4:=hid (K4.out.below hb)
 have K5:=hid (K5.out.below hb)
 have K6:=hid (K6.out.below hb)
 have HB6:=hbt HB5 hb
 have K7:=hid k7
 clear k7 hb
 go_wp2_with fail
 refine wp_region_post (fun a0 a' V=>a'=⟨putL [(32,.agg #[.string g1,.string g2,.string g3]),(33,.agg #[.string n1,.string n2,.string n3]),(34,.agg #[.string x,.string y,.string z]),(35,.string s),(36,.agg #[.string g1,.string g2,.string g3,.string s]),(37,.int .i64 er),(7,.int .i64 er)] a0.tmps,a0.defers⟩∧Below w.heap.size w V∧SBk V (w.heap.size+1+1+1) #[.string g1,.string g2,.string g3,.string s] 28) ?_ ?_
 · refine wp_region_swap (by kernel_rfl) 6 1 5 (fun i=>[32,33,34,35,36,37].getD i 0) (RelR [Rel.val (.agg #[.string g1,.string g2,.string g3]),Rel.val (.agg #[.string n1,.string n2,.string n3]),Rel.val (.agg #[.string x,.string y,.string z]),Rel.val (.string s),Rel.val (.agg #[.string g1,.string g2,.string g3,.string s]),Rel.val (.int .i64 er)]) (fun W=>Below W6.heap.size W6 W) (fun _ _=>True) (by decide) (by decide) (by kernel_rfl) (by kernel_rfl) (by kernel_rfl) (by kernel_rfl) trivial (Below.refl _ _).drew ?_ ?_ ?_
   · intro listed a W i hI hD hrd him
     have HI:=hid hI
     have HD:=hid hD
     have Hr:=hid hrd
     clear hI hrd hD
     have y10:a.tmps[10]? = some (.pointer (some ⟨W5.heap.size,0,none⟩)):=HI.out.rest 10 (by decide)
     have y9:a.tmps[9]? = some (.pointer (some ⟨gw1_9,0,none⟩)):=HI.out.rest 9 (by decide)
     have y8:a.tmps[8]? = some (.pointer (some ⟨W1.heap.size,0,none⟩)):=HI.out.rest 8 (by decide)
     have y11:a.tmps[11]? = some (.int .i64 er):=HI.out.rest 11 (by decide)
     have dK70:=(K7.out.below HI.out.world).cell (i:=0) rfl
     have dK71:=(K7.out.below HI.out.world).cell (i:=1) rfl
     have dK72:=(K7.out.below HI.out.world).cell (i:=2) rfl
     have dK60:=(K6.out.below HI.out.world).cell (i:=0) rfl
     have dK61:=(K6.out.below HI.out.world).cell (i:=1) rfl
     have dK62:=(K6.out.below HI.out.world).cell (i:=2) rfl
     have dK50:=(K5.out.below HI.out.world).cell (i:=0) rfl
     have dK51:=(K5.out.below HI.out.world).cell (i:=1) rfl
     have dK52:=(K5.out.below HI.out.world).cell (i:=2) rfl
     have X1:RV _ listed a 1 33 (.agg #[.string n1,.string n2,.string n3]):=HI.out.rh
     have X2:RV _ listed a 2 34 (.agg #[.string x,.string y,.string z]):=HI.out.rh
     have X0:RV _ listed a 0 32 (.agg #[.string g1,.string g2,.string g3]):=HI.out.rh
     have X3:RV _ listed a 3 35 (.string s):=HI.out.rh
     match i,him,Hr with
     | 0,_,Hi =>
       refine stepH rfl fun K' hK=>?_
       go_simp
       exact hK.out _ _ ⟨HI.out.pv Hi.out rfl,trivial⟩
     | 1,_,Hi =>
       refine stepH rfl fun K' hK=>?_
       go_simp
       exact hK.out _ _ ⟨HI.out.pv Hi.out rfl,trivial⟩
     | 2,_,Hi =>
       refine stepH rfl fun K' hK=>?_
       go_simp
       exact hK.out _ _ ⟨HI.out.pv Hi.out rfl,trivial⟩
     | 3,_,Hi =>
       have x1:=X1.g Hi.out (by kernel_rfl)
       have x2:=X2.g Hi.out (by kernel_rfl)
       refine stepH rfl fun K' hK=>?_
       go_simp
       with_reducible refine(C5.out _ (HB6.out.trans (HI.out.world.mono HB6.out.size))).mono ?_
       rintro e W' ⟨rfl,hb⟩
       exact hK.out _ _ ⟨HI.out.pc Hi.out hb rfl,trivial⟩
     | 4,_,Hi =>
       have x0:=X0.g Hi.out (by kernel_rfl)
       have x3:=X3.g Hi.out (by kernel_rfl)
       refine stepH rfl fun K' hK=>?_
       go_simp
       exact hK.out _ _ ⟨HI.out.pv Hi.out rfl,trivial⟩
     | 5,_,Hi =>
       refine stepH rfl fun K' hK=>?_
       go_simp
       exact hK.out _ _ ⟨HI.out.pv Hi.out rfl,trivial⟩
     | n+6,h,_=>exact absurd h (by omega)
   · intro listed a W hI hD hall
     have x4:a.tmps[36]? = some (.agg #[.string g1,.string g2,.string g3,.string s]):=hI.sx hall 4
     have x5:a.tmps[37]? = some (.int .i64 er):=hI.sx hall 5
     have HBW:=hid hI.world
     have HI:=hid hI
     have HA:=hid hall
     clear hI hall
     have K4:=hid (K4.out.below HBW.out)
     have HBX:=hid (HB6.out.trans (HBW.out.mono HB6.out.size))
     have y6:a.tmps[6]? = some (.pointer (some ⟨w.heap.size+1+1+1,0,none⟩)):=HI.out.rest 6 (by decide)
     have dK40:=K4.out.cell (i:=0) rfl
     have fK40:=K4.out.frozen (i:=0)
     have dK41:=K4.out.cell (i:=1) rfl
     have fK41:=K4.out.frozen (i:=1)
     have dK42:=K4.out.cell (i:=2) rfl
     have fK42:=K4.out.frozen (i:=2)
     have dK43:=K4.out.cell (i:=3) rfl
     have fK43:=K4.out.frozen (i:=3)
     have EA:=hid (show a=⟨putL [(32,.agg #[.string g1,.string g2,.string g3]),(33,.agg #[.string n1,.string n2,.string n3]),(34,.agg #[.string x,.string y,.string z]),(35,.string s),(36,.agg #[.string g1,.string g2,.string g3,.string s]),(37,.int .i64 er)] _,_⟩from(HI.out.finx ⟨HI.out.sx HA.out 0,HI.out.sx HA.out 1,HI.out.sx HA.out 2,HI.out.sx HA.out 3,x4,x5,trivial⟩ rfl))
     refine tail_succ (t:=1) ?_
     refine stepH rfl fun K' hK=>?_
     go_simp
     refine hK.out _ _ ?_
     clear hK
     refine tail_succ (t:=0) ?_
     refine stepH rfl fun K' hK=>?_
     go_simp
     refine hK.out _ _ ?_
     clear hK
     refine tail_nil ?_
     rw[← storeAll_4]
     exact⟨rfl,(put_more EA.out rfl),(store_below (l:=[.string g1,.string g2,.string g3,.string s]) (i:=0) (by omega) HBX.out),(store_blk_4 K4.out)⟩
   · intro listed a W hI hD hall
     have x4:a.tmps[36]? = some (.agg #[.string g1,.string g2,.string g3,.string s]):=hI.sy hall 4
     have HBW:=hid hI.world
     have HI:=hid hI
     have HA:=hid hall
     clear hI hall
     have K4:=hid (K4.out.below HBW.out)
     have HBX:=hid (HB6.out.trans (HBW.out.mono HB6.out.size))
     have y6:a.tmps[6]? = some (.pointer (some ⟨w.heap.size+1+1+1,0,none⟩)):=HI.out.rest 6 (by decide)
     have dK40:=K4.out.cell (i:=0) rfl
     have fK40:=K4.out.frozen (i:=0)
     have dK41:=K4.out.cell (i:=1) rfl
     have fK41:=K4.out.frozen (i:=1)
     have dK42:=K4.out.cell (i:=2) rfl
     have fK42:=K4.out.frozen (i:=2)
     have dK43:=K4.out.cell (i:=3) rfl
     have fK43:=K4.out.frozen (i:=3)
     have y11:a.tmps[11]? = some (.int .i64 er):=HI.out.rest 11 (by decide)
     refine stepH rfl fun K' hK=>?_
     go_simp
     refine hK.out _ _ ?_
     clear hK
     refine stepH rfl fun K' hK=>?_
     go_simp
     refine hK.out (a.put (some 37) (.int .i64 er)) _ ?_
     clear hK
     have z4:(a.put (some 37) (.int .i64 er)).tmps[36]? = some (.agg #[.string g1,.string g2,.string g3,.string s]):=(put_ne (by decide)).trans x4
     have z5:(a.put (some 37) (.int .i64 er)).tmps[37]? = some (.int .i64 er):=put_same (by rw[HI.out.tsize];simp)
     have w6:(a.put (some 37) (.int .i64 er)).tmps[6]? = some (.pointer (some ⟨w.heap.size+1+1+1,0,none⟩)):=(put_ne (by decide)).trans y6
     have EA:=hid (HI.out.finp (sd:=37) (v:=.int .i64 er) [(32,.agg #[.string g1,.string g2,.string g3]),(33,.agg #[.string n1,.string n2,.string n3]),(34,.agg #[.string x,.string y,.string z]),(35,.string s),(36,.agg #[.string g1,.string g2,.string g3,.string s]),(37,.int .i64 er)] ⟨(put_ne (d:=37) (e:=32) (by decide)).trans (HI.out.sy HA.out 0),(put_ne (d:=37) (e:=33) (by decide)).trans (HI.out.sy HA.out 1),(put_ne (d:=37) (e:=34) (by decide)).trans (HI.out.sy HA.out 2),(put_ne (d:=37) (e:=35) (by decide)).trans (HI.out.sy HA.out 3),(put_ne (d:=37) (e:=36) (by decide)).trans x4,put_same (by rw[HI.out.tsize];simp),trivial⟩ rfl)
     clear x4
     generalize a.put (some 37) (.int .i64 er)=a2 at *
     refine tail_succ (t:=0) ?_
     refine stepH rfl fun K' hK=>?_
     go_simp
     refine hK.out _ _ ?_
     clear hK
     refine tail_nil ?_
     rw[← storeAll_4]
     exact⟨rfl,(put_more EA.out rfl),(store_below (l:=[.string g1,.string g2,.string g3,.string s]) (i:=0) (by omega) HBX.out),(store_blk_4 K4.out)⟩
 rintro a' W7 ⟨rfl,z0,z1⟩
 have HB7:=hid z0
 have K4:=hid z1
 clear z0 z1
 simp only[putL,List.setIfInBounds_toArray,List.set_cons_zero,List.set_cons_succ]
 go_wp2
 have dK40:=K4.out.cell (i:=0) rfl
 have dK41:=K4.out.cell (i:=1) rfl
 have dK42:=K4.out.cell (i:=2) rfl
 have dK43:=K4.out.cell (i:=3) rfl
 exact bodyPost_ret (v:=.tuple #[.agg #[.string g1,.string g2,.string g3,.string s],.int .i64 er]) (by simp[results,Tryz.results20,go_sem,dK40,dK41,dK42,dK43]) rfl ⟨rfl,HB7.out⟩
theorem vcrossing_no1 (n1 n2 n3 c x y z u v t f1 f2:ByteArray)(fr:Int)(w₀:World)(h1:CV w₀ 41 #[.agg #[.string n1,.string n2,.string n3,.string c],.agg #[.string x,.string y,.string z]] (.tuple #[.string f1,.int .i64 1]))(h2:CV w₀ 41 #[.agg #[.string n1,.string n2,.string n3,.string c],.agg #[.string u,.string v,.string t]] (.tuple #[.string f2,.int .i64 fr]))  :
 CV w₀ 23 #[.agg #[.string n1,.string n2,.string n3,.string c],.agg #[.string x,.string y,.string z],.agg #[.string u,.string v,.string t]] (.tuple #[.agg #[.string ⟨#[]⟩,.string ⟨#[]⟩,.string ⟨#[]⟩],.int .i64 1]):=by
 intro w hw
 have C1:=hid (h1.mono hw)
 have C2:=hid (h2.mono hw)
 clear h1 h2 hw
 go_enter Tryz.func23,Tryz.ntmps23
 go_upto_region 1 with fail
 refine wp_boxes w [(#[.string n1,.string n2,.string n3,.string c],28),(#[.string x,.string y,.string z],24),(#[.string u,.string v,.string t],24),(#[.string ⟨#[]⟩,.string ⟨#[]⟩,.string ⟨#[]⟩],24)] rfl ?_
 rintro W0 ⟨k1,k2,k3,k4,hb⟩
 have HB0:=hid (show Below w.heap.size w W0 from hb)
 have K1:=hid k1
 have K2:=hid k2
 have K3:=hid k3
 have K4:=hid k4
 clear k1 k2 k3 k4 hb
 have dK10:=K1.out.cell (i:=0) rfl
 have dK11:=K1.out.cell (i:=1) rfl
 have dK12:=K1.out.cell (i:=2) rfl
 have dK13:=K1.out.cell (i:=3) rfl
 have dK20:=K2.out.cell (i:=0) rfl
 have dK21:=K2.out.cell (i:=1) rfl
 have dK22:=K2.out.cell (i:=2) rfl
 go_wp2_with fail
 with_reducible refine(C1.out _ HB0.out).mono ?_
 rintro e W1 ⟨rfl,hb⟩
 clear dK10 dK11 dK12 dK13 dK20 dK21 dK22
 have K1:=hid (K1.out.below hb)
 have K3:=hid (K3.out.below hb)
 have K4:=hid (K4.out.below hb)
 have HB1:=hbt HB0 hb
 clear hb
 have dK10:=K1.out.cell (i:=0) rfl
 have dK11:=K1.out.cell (i:=1) rfl
 have dK12:=K1.out.cell (i:=2) rfl
 have dK13:=K1.out.cell (i:=3) rfl
 have dK30:=K3.out.cell (i:=0) rfl
 have dK31:=K3.out.cell (i:=1) rfl
 have dK32:=K3.out.cell (i:=2) rfl
 go_wp2_with fail
 with_reducible refine(C2.out _ HB1.out).mono ?_
 rintro e W2 ⟨rfl,hb⟩
 clear dK10 dK11 dK12 dK13 dK30 dK31 dK32
 have K4:=hid (K4.out.below hb)
 have HB2:=hbt HB1 hb
 clear hb
 have dK40:=K4.out.cell (i:=0) rfl
 have dK41:=K4.out.cell (i:=1) rfl
 have dK42:=K4.out.cell (i:=2) rfl
 have fK40:=K4.out.frozen (i:=0)
 have fK41:=K4.out.frozen (i:=1)
 have fK42:=K4.out.frozen (i:=2)
 go_wp2
 exact bodyPost_ret (v:=.tuple #[.agg #[.string ⟨#[]⟩,.string ⟨#[]⟩,.string ⟨#[]⟩],.int .i64 1]) (by simp[results,Tryz.results23,go_sem,dK40,dK41,dK42]) rfl ⟨rfl,(store_below (l:=[.string ⟨#[]⟩,.string ⟨#[]⟩,.string ⟨#[]⟩]) (i:=0) (by omega) HB2.out)⟩
theorem vcrossing_no2 (n1 n2 n3 c x y z u v t f1 f2:ByteArray)(w₀:World)(h1:CV w₀ 41 #[.agg #[.string n1,.string n2,.string n3,.string c],.agg #[.string x,.string y,.string z]] (.tuple #[.string f1,.int .i64 0]))(h2:CV w₀ 41 #[.agg #[.string n1,.string n2,.string n3,.string c],.agg #[.string u,.string v,.string t]] (.tuple #[.string f2,.int .i64 1]))  :
 CV w₀ 23 #[.agg #[.string n1,.string n2,.string n3,.string c],.agg #[.string x,.string y,.string z],.agg #[.string u,.string v,.string t]] (.tuple #[.agg #[.string ⟨#[]⟩,.string ⟨#[]⟩,.string ⟨#[]⟩],.int .i64 1]):=by
 intro w hw
 have C1:=hid (h1.mono hw)
 have C2:=hid (h2.mono hw)
 clear h1 h2 hw
 go_enter Tryz.func23,Tryz.ntmps23
 go_upto_region 1 with fail
 refine wp_boxes w [(#[.string n1,.string n2,.string n3,.string c],28),(#[.string x,.string y,.string z],24),(#[.string u,.string v,.string t],24),(#[.string ⟨#[]⟩,.string ⟨#[]⟩,.string ⟨#[]⟩],24)] rfl ?_
 rintro W0 ⟨k1,k2,k3,k4,hb⟩
 have HB0:=hid (show Below w.heap.size w W0 from hb)
 have K1:=hid k1
 have K2:=hid k2
 have K3:=hid k3
 have K4:=hid k4
 clear k1 k2 k3 k4 hb
 have dK10:=K1.out.cell (i:=0) rfl
 have dK11:=K1.out.cell (i:=1) rfl
 have dK12:=K1.out.cell (i:=2) rfl
 have dK13:=K1.out.cell (i:=3) rfl
 have dK20:=K2.out.cell (i:=0) rfl
 have dK21:=K2.out.cell (i:=1) rfl
 have dK22:=K2.out.cell (i:=2) rfl
 go_wp2_with fail
 with_reducible refine(C1.out _ HB0.out).mono ?_
 rintro e W1 ⟨rfl,hb⟩
 clear dK10 dK11 dK12 dK13 dK20 dK21 dK22
 have K1:=hid (K1.out.below hb)
 have K3:=hid (K3.out.below hb)
 have K4:=hid (K4.out.below hb)
 have HB1:=hbt HB0 hb
 clear hb
 have dK10:=K1.out.cell (i:=0) rfl
 have dK11:=K1.out.cell (i:=1) rfl
 have dK12:=K1.out.cell (i:=2) rfl
 have dK13:=K1.out.cell (i:=3) rfl
 have dK30:=K3.out.cell (i:=0) rfl
 have dK31:=K3.out.cell (i:=1) rfl
 have dK32:=K3.out.cell (i:=2) rfl
 go_wp2_with fail
 with_reducible refine(C2.out _ HB1.out).mono ?_
 rintro e W2 ⟨rfl,hb⟩
 clear dK10 dK11 dK12 dK13 dK30 dK31 dK32
 have K4:=hid (K4.out.below hb)
 have HB2:=hbt HB1 hb
 clear hb
 have dK40:=K4.out.cell (i:=0) rfl
 have dK41:=K4.out.cell (i:=1) rfl
 have dK42:=K4.out.cell (i:=2) rfl
 have fK40:=K4.out.frozen (i:=0)
 have fK41:=K4.out.frozen (i:=1)
 have fK42:=K4.out.frozen (i:=2)
 go_wp2
 exact bodyPost_ret (v:=.tuple #[.agg #[.string ⟨#[]⟩,.string ⟨#[]⟩,.string ⟨#[]⟩],.int .i64 1]) (by simp[results,Tryz.results23,go_sem,dK40,dK41,dK42]) rfl ⟨rfl,(store_below (l:=[.string ⟨#[]⟩,.string ⟨#[]⟩,.string ⟨#[]⟩]) (i:=0) (by omega) HB2.out)⟩
theorem vcrossing_same (n1 n2 n3 c x y z u v t f1 f2:ByteArray)(b1 b2:Bool)(w₀:World)(h1:CV w₀ 41 #[.agg #[.string n1,.string n2,.string n3,.string c],.agg #[.string x,.string y,.string z]] (.tuple #[.string f1,.int .i64 0]))(h2:CV w₀ 41 #[.agg #[.string n1,.string n2,.string n3,.string c],.agg #[.string u,.string v,.string t]] (.tuple #[.string f2,.int .i64 0]))(h3:CV w₀ 45 #[.string f1] (.bool b1))(h4:CV w₀ 45 #[.string f2] (.bool b2))(hbb:(b1==b2)=true) :
 CV w₀ 23 #[.agg #[.string n1,.string n2,.string n3,.string c],.agg #[.string x,.string y,.string z],.agg #[.string u,.string v,.string t]] (.tuple #[.agg #[.string ⟨#[]⟩,.string ⟨#[]⟩,.string ⟨#[]⟩],.int .i64 11]):=by
 intro w hw
 have C1:=hid (h1.mono hw)
 have C2:=hid (h2.mono hw)
 have C3:=hid (h3.mono hw)
 have C4:=hid (h4.mono hw)
 have kb:=hbb
 clear hbb h1 h2 h3 h4 hw
 go_enter Tryz.func23,Tryz.ntmps23
 go_upto_region 1 with fail
 refine wp_boxes w [(#[.string n1,.string n2,.string n3,.string c],28),(#[.string x,.string y,.string z],24),(#[.string u,.string v,.string t],24),(#[.string ⟨#[]⟩,.string ⟨#[]⟩,.string ⟨#[]⟩],24)] rfl ?_
 rintro W0 ⟨k1,k2,k3,k4,hb⟩
 have HB0:=hid (show Below w.heap.size w W0 from hb)
 have K1:=hid k1
 have K2:=hid k2
 have K3:=hid k3
 have K4:=hid k4
 clear k1 k2 k3 k4 hb
 have dK10:=K1.out.cell (i:=0) rfl
 have dK11:=K1.out.cell (i:=1) rfl
 have dK12:=K1.out.cell (i:=2) rfl
 have dK13:=K1.out.cell (i:=3) rfl
 have dK20:=K2.out.cell (i:=0) rfl
 have dK21:=K2.out.cell (i:=1) rfl
 have dK22:=K2.out.cell (i:=2) rfl
 go_wp2_with fail
 with_reducible refine(C1.out _ HB0.out).mono ?_
 rintro e W1 ⟨rfl,hb⟩
 clear dK10 dK11 dK12 dK13 dK20 dK21 dK22
 have K1:=hid (K1.out.below hb)
 have K3:=hid (K3.out.below hb)
 have K4:=hid (K4.out.below hb)
 have HB1:=hbt HB0 hb
 clear hb
 have dK10:=K1.out.cell (i:=0) rfl
 have dK11:=K1.out.cell (i:=1) rfl
 have dK12:=K1.out.cell (i:=2) rfl
 have dK13:=K1.out.cell (i:=3) rfl
 have dK30:=K3.out.cell (i:=0) rfl
 have dK31:=K3.out.cell (i:=1) rfl
 have dK32:=K3.out.cell (i:=2) rfl
 go_wp2_with fail
 with_reducible refine(C2.out _ HB1.out).mono ?_
 rintro e W2 ⟨rfl,hb⟩
 clear dK10 dK11 dK12 dK13 dK30 dK31 dK32
 have K4:=hid (K4.out.below hb)
 have HB2:=hbt HB1 hb
 clear hb
 go_wp2_with fail
 with_reducible refine(C3.out _ HB2.out).mono ?_
 rintro e W3 ⟨rfl,hb⟩
 have K4:=hid (K4.out.below hb)
 have HB3:=hbt HB2 hb
 clear hb
 go_wp2_with fail
 with_reducible refine(C4.out _ HB3.out).mono ?_
 rintro e W4 ⟨rfl,hb⟩
 have K4:=hid (K4.out.below hb)
 have HB4:=hbt HB3 hb
 clear hb
 have dK40:=K4.out.cell (i:=0) rfl
 have dK41:=K4.out.cell (i:=1) rfl
 have dK42:=K4.out.cell (i:=2) rfl
 have fK40:=K4.out.frozen (i:=0)
 have fK41:=K4.out.frozen (i:=1)
 have fK42:=K4.out.frozen (i:=2)
 go_wp2
 exact bodyPost_ret (v:=.tuple #[.agg #[.string ⟨#[]⟩,.string ⟨#[]⟩,.string ⟨#[]⟩],.int .i64 11]) (by simp[results,Tryz.results23,go_sem,dK40,dK41,dK42]) rfl ⟨rfl,(store_below (l:=[.string ⟨#[]⟩,.string ⟨#[]⟩,.string ⟨#[]⟩]) (i:=0) (by omega) HB4.out)⟩
theorem vcrossing_raw (n1 n2 n3 c x y z u v t f1 f2 fd pt d1 d2 d3 s1 s2 s3 k1 k2 k3 g1 g2 g3:ByteArray)(b1 b2:Bool)(er:Int)(w₀:World)(h1:CV w₀ 41 #[.agg #[.string n1,.string n2,.string n3,.string c],.agg #[.string x,.string y,.string z]] (.tuple #[.string f1,.int .i64 0]))(h2:CV w₀ 41 #[.agg #[.string n1,.string n2,.string n3,.string c],.agg #[.string u,.string v,.string t]] (.tuple #[.string f2,.int .i64 0]))(h3:CV w₀ 45 #[.string f1] (.bool b1))(h4:CV w₀ 45 #[.string f2] (.bool b2))(h5:CV w₀ 39 #[.string f1,.string f2] (.string fd))(h6:CV w₀ 46 #[.string f1,.string fd] (.string pt))(h7:CV w₀ 37 #[.agg #[.string u,.string v,.string t],.agg #[.string x,.string y,.string z],.func (.func 39) #[] #[]] (.agg #[.string d1,.string d2,.string d3]))(h8:CV w₀ 32 #[.agg #[.string d1,.string d2,.string d3],.string pt] (.agg #[.string s1,.string s2,.string s3]))(h9:CV w₀ 37 #[.agg #[.string x,.string y,.string z],.agg #[.string s1,.string s2,.string s3],.func (.func 38) #[] #[]] (.agg #[.string k1,.string k2,.string k3]))(hA:CV w₀ 31 #[.agg #[.string k1,.string k2,.string k3]] (.tuple #[.agg #[.string g1,.string g2,.string g3],.int .i64 er]))(hbb:(b1==b2)=false) :
 CV w₀ 23 #[.agg #[.string n1,.string n2,.string n3,.string c],.agg #[.string x,.string y,.string z],.agg #[.string u,.string v,.string t]] (.tuple #[.agg #[.string g1,.string g2,.string g3],.int .i64 er]):=by
 intro w hw
 have C1:=hid (h1.mono hw)
 have C2:=hid (h2.mono hw)
 have C3:=hid (h3.mono hw)
 have C4:=hid (h4.mono hw)
 have C5:=hid (h5.mono hw)
 have C6:=hid (h6.mono hw)
 have C7:=hid (h7.mono hw)
 have C8:=hid (h8.mono hw)
 have C9:=hid (h9.mono hw)
 have CA:=hid (hA.mono hw)
 have kb:=hbb
 clear hbb h1 h2 h3 h4 h5 h6 h7 h8 h9 hA hw
 go_enter Tryz.func23,Tryz.ntmps23
 go_upto_region 1 with fail
 refine wp_boxes w [(#[.string n1,.string n2,.string n3,.string c],28),(#[.string x,.string y,.string z],24),(#[.string u,.string v,.string t],24),(#[.string ⟨#[]⟩,.string ⟨#[]⟩,.string ⟨#[]⟩],24)] rfl ?_
 rintro W0 ⟨k1,k2,k3,k4,hb⟩
 have HB0:=hid (show Below w.heap.size w W0 from hb)
 have K1:=hid k1
 have K2:=hid k2
 have K3:=hid k3
 have K4:=hid k4
 clear k1 k2 k3 k4 hb
 have dK10:=K1.out.cell (i:=0) rfl
 have dK11:=K1.out.cell (i:=1) rfl
 have dK12:=K1.out.cell (i:=2) rfl
 have dK13:=K1.out.cell (i:=3) rfl
 have dK20:=K2.out.cell (i:=0) rfl
 have dK21:=K2.out.cell (i:=1) rfl
 have dK22:=K2.out.cell (i:=2) rfl
 go_wp2_with fail
 with_reducible refine(C1.out _ HB0.out).mono ?_
 rintro e W1 ⟨rfl,hb⟩
 clear dK10 dK11 dK12 dK13 dK20 dK21 dK22
 have K1:=hid (K1.out.below hb)
 have K2:=hid (K2.out.below hb)
 have K3:=hid (K3.out.below hb)
 have K4:=hid (K4.out.below hb)
 have HB1:=hbt HB0 hb
 clear hb
 have dK10:=K1.out.cell (i:=0) rfl
 have dK11:=K1.out.cell (i:=1) rfl
 have dK12:=K1.out.cell (i:=2) rfl
 have dK13:=K1.out.cell (i:=3) rfl
 have dK30:=K3.out.cell (i:=0) rfl
 have dK31:=K3.out.cell (i:=1) rfl
 have dK32:=K3.out.cell (i:=2) rfl
 go_wp2_with fail
 with_reducible refine(C2.out _ HB1.out).mono ?_
 rintro e W2 ⟨rfl,hb⟩
 clear dK10 dK11 dK12 dK13 dK30 dK31 dK32
 have K1:=hid (K1.out.below hb)
 have K2:=hid (K2.out.below hb)
 have K3:=hid (K3.out.below hb)
 have K4:=hid (K4.out.below hb)
 have HB2:=hbt HB1 hb
 clear hb
 go_wp2_with fail
 with_reducible refine(C3.out _ HB2.out).mono ?_
 rintro e W3 ⟨rfl,hb⟩
 have K1:=hid (K1.out.below hb)
 have K2:=hid (K2.out.below hb)
 have K3:=hid (K3.out.below hb)
 have K4:=hid (K4.out.below hb)
 have HB3:=hbt HB2 hb
 clear hb
 go_wp2_with fail
 with_reducible refine(C4.out _ HB3.out).mono ?_
 rintro e W4 ⟨rfl,hb⟩
 have K1:=hid (K1.out.below hb)
 have K2:=hid (K2.out.below hb)
 have K3:=hid (K3.out.below hb)
 have K4:=hid (K4.out.below hb)
 have HB4:=hbt HB3 hb
 clear hb
 have dK20:=K2.out.cell (i:=0) rfl
 have dK21:=K2.out.cell (i:=1) rfl
 have dK22:=K2.out.cell (i:=2) rfl
 go_wp2_with fail
 with_reducible refine(vread x y z _ _ HB4.out).mono ?_
 rintro e W5 ⟨rfl,hb⟩
 clear dK20 dK21 dK22
 have K1:=hid (K1.out.below hb)
 have K2:=hid (K2.out.below hb)
 have K3:=hid (K3.out.below hb)
 have K4:=hid (K4.out.below hb)
 have HB5:=hbt HB4 hb
 clear hb
 go_upto_region 8 with fail
 refine wp_boxes W5 [(#[.string x,.string y,.string z],59)] rfl ?_
 have L1:=K1.out.lt
 have L2:=K2.out.lt
 have L3:=K3.out.lt
 have L4:=K4.out.lt
 have L5:=HB5.out.size
 rintro W6 ⟨k5,hb⟩
 have hb:Below W5.heap.size W5 W6:=hb
 have K3:=hid (K3.out.below hb)
 have K4:=hid (K4.out.below hb)
 have HB6:=hbt HB5 hb
 have K5:=hid k5
 clear k5 hb
 go_wp2_with fail
 with_reducible refine(C5.out _ HB6.out).mono ?_
 rintro e W7 ⟨rfl,hb⟩
 have K3:=hid (K3.out.below hb)
 have K4:=hid (K4.out.below hb)
 have K5:=hid (K5.out.below hb)
 have HB7:=hbt HB6 hb
 clear hb
 go_wp2_with fail
 with_reducible refine(C6.out _ HB7.out).mono ?_
 rintro e W8 ⟨rfl,hb⟩
 have K3:=hid (K3.out.below hb)
 have K4:=hid (K4.out.below hb)
 have K5:=hid (K5.out.below hb)
 have HB8:=hbt HB7 hb
 clear hb
 go_wp2_with fail
 refine wp_region_post (fun a0 a' V=>a'=⟨putL [(46,.agg #[.string x,.string y,.string z]),(47,.agg #[.string u,.string v,.string t]),(48,.agg #[.string u,.string v,.string t]),(49,.agg #[.string x,.string y,.string z]),(50,.agg #[.string d1,.string d2,.string d3]),(51,.string pt),(52,.agg #[.string s1,.string s2,.string s3]),(53,.agg #[.string k1,.string k2,.string k3]),(54,.tuple #[.agg #[.string g1,.string g2,.string g3],.int .i64 er]),(55,.agg #[.string g1,.string g2,.string g3]),(56,.int .i64 er),(7,.int .i64 er)] a0.tmps,a0.defers⟩∧Below w.heap.size w V∧SBk V (w.heap.size+1+1+1) #[.string g1,.string g2,.string g3] 24) ?_ ?_
 · refine wp_region_tail_d (by kernel_rfl) 11 2 (fun i=>[46,47,48,49,50,51,52,53,54,55,56].getD i 0) (RelR [Rel.val (.agg #[.string x,.string y,.string z]),Rel.val (.agg #[.string u,.string v,.string t]),Rel.val (.agg #[.string u,.string v,.string t]),Rel.val (.agg #[.string x,.string y,.string z]),Rel.val (.agg #[.string d1,.string d2,.string d3]),Rel.val (.string pt),Rel.val (.agg #[.string s1,.string s2,.string s3]),Rel.val (.agg #[.string k1,.string k2,.string k3]),Rel.val (.tuple #[.agg #[.string g1,.string g2,.string g3],.int .i64 er]),Rel.val (.agg #[.string g1,.string g2,.string g3]),Rel.val (.int .i64 er)]) (fun W=>Below W8.heap.size W8 W) (fun _ _=>True) (by kernel_rfl) (by kernel_rfl) (by kernel_rfl) trivial (Below.refl _ _).drew ?_ ?_
   · intro listed a W i hI hD hrd him
     have HI:=hid hI
     have HD:=hid hD
     have Hr:=hid hrd
     clear hI hrd hD
     have y12:a.tmps[12]? = some (.pointer (some ⟨W5.heap.size,0,none⟩)):=HI.out.rest 12 (by decide)
     have y5:a.tmps[5]? = some (.pointer (some ⟨w.heap.size+1+1,0,none⟩)):=HI.out.rest 5 (by decide)
     have y13:a.tmps[13]? = some (.string pt):=HI.out.rest 13 (by decide)
     have dK50:=(K5.out.below HI.out.world).cell (i:=0) rfl
     have dK51:=(K5.out.below HI.out.world).cell (i:=1) rfl
     have dK52:=(K5.out.below HI.out.world).cell (i:=2) rfl
     have dK30:=(K3.out.below HI.out.world).cell (i:=0) rfl
     have dK31:=(K3.out.below HI.out.world).cell (i:=1) rfl
     have dK32:=(K3.out.below HI.out.world).cell (i:=2) rfl
     have X1:RV _ listed a 1 47 (.agg #[.string u,.string v,.string t]):=HI.out.rh
     have X2:RV _ listed a 2 48 (.agg #[.string u,.string v,.string t]):=HI.out.rh
     have X3:RV _ listed a 3 49 (.agg #[.string x,.string y,.string z]):=HI.out.rh
     have X4:RV _ listed a 4 50 (.agg #[.string d1,.string d2,.string d3]):=HI.out.rh
     have X5:RV _ listed a 5 51 (.string pt):=HI.out.rh
     have X0:RV _ listed a 0 46 (.agg #[.string x,.string y,.string z]):=HI.out.rh
     have X6:RV _ listed a 6 52 (.agg #[.string s1,.string s2,.string s3]):=HI.out.rh
     have X7:RV _ listed a 7 53 (.agg #[.string k1,.string k2,.string k3]):=HI.out.rh
     have X8:RV _ listed a 8 54 (.tuple #[.agg #[.string g1,.string g2,.string g3],.int .i64 er]):=HI.out.rh
     match i,him,Hr with
     | 0,_,Hi =>
       refine stepH rfl fun K' hK=>?_
       go_simp
       exact hK.out _ _ ⟨HI.out.pv Hi.out rfl,trivial⟩
     | 1,_,Hi =>
       refine stepH rfl fun K' hK=>?_
       go_simp
       exact hK.out _ _ ⟨HI.out.pv Hi.out rfl,trivial⟩
     | 2,_,Hi =>
       have x1:=X1.g Hi.out (by kernel_rfl)
       refine stepH rfl fun K' hK=>?_
       go_simp
       with_reducible refine(vread u v t _ _ (HB8.out.trans (HI.out.world.mono HB8.out.size))).mono ?_
       rintro e W' ⟨rfl,hb⟩
       exact hK.out _ _ ⟨HI.out.pc Hi.out hb rfl,trivial⟩
     | 3,_,Hi =>
       refine stepH rfl fun K' hK=>?_
       go_simp
       exact hK.out _ _ ⟨HI.out.pv Hi.out rfl,trivial⟩
     | 4,_,Hi =>
       have x2:=X2.g Hi.out (by kernel_rfl)
       have x3:=X3.g Hi.out (by kernel_rfl)
       refine stepH rfl fun K' hK=>?_
       go_simp
       with_reducible refine(C7.out _ (HB8.out.trans (HI.out.world.mono HB8.out.size))).mono ?_
       rintro e W' ⟨rfl,hb⟩
       exact hK.out _ _ ⟨HI.out.pc Hi.out hb rfl,trivial⟩
     | 5,_,Hi =>
       refine stepH rfl fun K' hK=>?_
       go_simp
       exact hK.out _ _ ⟨HI.out.pv Hi.out rfl,trivial⟩
     | 6,_,Hi =>
       have x4:=X4.g Hi.out (by kernel_rfl)
       have x5:=X5.g Hi.out (by kernel_rfl)
       refine stepH rfl fun K' hK=>?_
       go_simp
       with_reducible refine(C8.out _ (HB8.out.trans (HI.out.world.mono HB8.out.size))).mono ?_
       rintro e W' ⟨rfl,hb⟩
       exact hK.out _ _ ⟨HI.out.pc Hi.out hb rfl,trivial⟩
     | 7,_,Hi =>
       have x0:=X0.g Hi.out (by kernel_rfl)
       have x6:=X6.g Hi.out (by kernel_rfl)
       refine stepH rfl fun K' hK=>?_
       go_simp
       with_reducible refine(C9.out _ (HB8.out.trans (HI.out.world.mono HB8.out.size))).mono ?_
       rintro e W' ⟨rfl,hb⟩
       exact hK.out _ _ ⟨HI.out.pc Hi.out hb rfl,trivial⟩
     | 8,_,Hi =>
       have x7:=X7.g Hi.out (by kernel_rfl)
       refine stepH rfl fun K' hK=>?_
       go_simp
       with_reducible refine(CA.out _ (HB8.out.trans (HI.out.world.mono HB8.out.size))).mono ?_
       rintro e W' ⟨rfl,hb⟩
       exact hK.out _ _ ⟨HI.out.pc Hi.out hb rfl,trivial⟩
     | 9,_,Hi =>
       have x8:=X8.g Hi.out (by kernel_rfl)
       refine stepH rfl fun K' hK=>?_
       go_simp
       exact hK.out _ _ ⟨HI.out.pv Hi.out rfl,trivial⟩
     | 10,_,Hi =>
       have x8:=X8.g Hi.out (by kernel_rfl)
       refine stepH rfl fun K' hK=>?_
       go_simp
       exact hK.out _ _ ⟨HI.out.pv Hi.out rfl,trivial⟩
     | n+11,h,_=>exact absurd h (by omega)
   · intro listed a W hI hD hall
     have x9:a.tmps[55]? = some (.agg #[.string g1,.string g2,.string g3]):=hI.sx hall 9
     have x10:a.tmps[56]? = some (.int .i64 er):=hI.sx hall 10
     have HBW:=hid hI.world
     have HI:=hid hI
     have HA:=hid hall
     clear hI hall
     have K4:=hid (K4.out.below HBW.out)
     have HBX:=hid (HB8.out.trans (HBW.out.mono HB8.out.size))
     have y6:a.tmps[6]? = some (.pointer (some ⟨w.heap.size+1+1+1,0,none⟩)):=HI.out.rest 6 (by decide)
     have dK40:=K4.out.cell (i:=0) rfl
     have fK40:=K4.out.frozen (i:=0)
     have dK41:=K4.out.cell (i:=1) rfl
     have fK41:=K4.out.frozen (i:=1)
     have dK42:=K4.out.cell (i:=2) rfl
     have fK42:=K4.out.frozen (i:=2)
     have EA:=hid (show a=⟨putL [(46,.agg #[.string x,.string y,.string z]),(47,.agg #[.string u,.string v,.string t]),(48,.agg #[.string u,.string v,.string t]),(49,.agg #[.string x,.string y,.string z]),(50,.agg #[.string d1,.string d2,.string d3]),(51,.string pt),(52,.agg #[.string s1,.string s2,.string s3]),(53,.agg #[.string k1,.string k2,.string k3]),(54,.tuple #[.agg #[.string g1,.string g2,.string g3],.int .i64 er]),(55,.agg #[.string g1,.string g2,.string g3]),(56,.int .i64 er)] _,_⟩from(HI.out.finx ⟨HI.out.sx HA.out 0,HI.out.sx HA.out 1,HI.out.sx HA.out 2,HI.out.sx HA.out 3,HI.out.sx HA.out 4,HI.out.sx HA.out 5,HI.out.sx HA.out 6,HI.out.sx HA.out 7,HI.out.sx HA.out 8,x9,x10,trivial⟩ rfl))
     refine tail_succ (t:=1) ?_
     refine stepH rfl fun K' hK=>?_
     go_simp
     refine hK.out _ _ ?_
     clear hK
     refine tail_succ (t:=0) ?_
     refine stepH rfl fun K' hK=>?_
     go_simp
     refine hK.out _ _ ?_
     clear hK
     refine tail_nil ?_
     rw[← storeAll_3]
     exact⟨rfl,(put_more EA.out rfl),(store_below (l:=[.string g1,.string g2,.string g3]) (i:=0) (by omega) HBX.out),(store_blk_3 K4.out)⟩
 rintro a' W9 ⟨rfl,z0,z1⟩
 have HB9:=hid z0
 have K4:=hid z1
 clear z0 z1
 simp only[putL,List.setIfInBounds_toArray,List.set_cons_zero,List.set_cons_succ]
 go_wp2
 have dK40:=K4.out.cell (i:=0) rfl
 have dK41:=K4.out.cell (i:=1) rfl
 have dK42:=K4.out.cell (i:=2) rfl
 exact bodyPost_ret (v:=.tuple #[.agg #[.string g1,.string g2,.string g3],.int .i64 er]) (by simp[results,Tryz.results23,go_sem,dK40,dK41,dK42]) rfl ⟨rfl,HB9.out⟩
end Go.Proofs.YtklfllmfcckgjaaGreatDoor
