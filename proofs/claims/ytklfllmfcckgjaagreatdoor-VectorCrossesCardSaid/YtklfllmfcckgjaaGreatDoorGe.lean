/- vector: scaled, dot; Add, Sub, Scale, Dot, Cross, Det: walks over the contracts of what they call. -/
import Derived.Test.YtklfllmfcckgjaaGreatDoorMz40q
set_option maxRecDepth 100000
set_option maxHeartbeats 20000000
open Go.Lib (hid)
namespace Go.Proofs.YtklfllmfcckgjaaGreatDoor
open Go.RowKit Go.Gb
theorem vscaled_raw (x y z s l m n:ByteArray)(w₀:World)(h1:CV w₀ 37 #[.agg #[.string x,.string y,.string z],.agg #[.string s,.string s,.string s],.func (.func 50) #[] #[]] (.agg #[.string l,.string m,.string n]))  :
 CV w₀ 32 #[.agg #[.string x,.string y,.string z],.string s] (.agg #[.string l,.string m,.string n]):=by
 intro w hw
 have C1:=hid (h1.mono hw)
 clear h1 hw
 go_enter Tryz.func32,Tryz.ntmps32
 go_upto_region 1 with fail
 refine wp_boxes w [(#[.string x,.string y,.string z],59),(#[.string ⟨#[]⟩,.string ⟨#[]⟩,.string ⟨#[]⟩],59)] rfl ?_
 rintro W0 ⟨k1,k2,hb⟩
 have HB0:=hid (show Below w.heap.size w W0 from hb)
 have K1:=hid k1
 have K2:=hid k2
 clear k1 k2 hb
 have dK10:=K1.out.cell (i:=0) rfl
 have dK11:=K1.out.cell (i:=1) rfl
 have dK12:=K1.out.cell (i:=2) rfl
 go_wp2_with fail
 with_reducible refine(C1.out _ HB0.out).mono ?_
 rintro e W1 ⟨rfl,hb⟩
 clear dK10 dK11 dK12
 have K2:=hid (K2.out.below hb)
 have HB1:=hbt HB0 hb
 clear hb
 have dK20:=K2.out.cell (i:=0) rfl
 have dK21:=K2.out.cell (i:=1) rfl
 have dK22:=K2.out.cell (i:=2) rfl
 have fK20:=K2.out.frozen (i:=0)
 have fK21:=K2.out.frozen (i:=1)
 have fK22:=K2.out.frozen (i:=2)
 go_wp2
 exact bodyPost_ret (v:=.agg #[.string l,.string m,.string n]) (by simp[results,Tryz.results32,go_sem,dK20,dK21,dK22]) rfl ⟨rfl,(store_below (l:=[.string l,.string m,.string n]) (i:=0) (by omega) HB1.out)⟩
theorem vdot_raw (x y z u v t l m n s r:ByteArray)(w₀:World)(h1:CV w₀ 37 #[.agg #[.string x,.string y,.string z],.agg #[.string u,.string v,.string t],.func (.func 50) #[] #[]] (.agg #[.string l,.string m,.string n]))(h2:CV w₀ 38 #[.string l,.string m] (.string s))(h3:CV w₀ 38 #[.string s,.string n] (.string r))  :
 CV w₀ 34 #[.agg #[.string x,.string y,.string z],.agg #[.string u,.string v,.string t]] (.string r):=by
 intro w hw
 have C1:=hid (h1.mono hw)
 have C2:=hid (h2.mono hw)
 have C3:=hid (h3.mono hw)
 clear h1 h2 h3 hw
 go_enter Tryz.func34,Tryz.ntmps34
 go_upto_region 1 with fail
 refine wp_boxes w [(#[.string x,.string y,.string z],59),(#[.string u,.string v,.string t],59)] rfl ?_
 rintro W0 ⟨k1,k2,hb⟩
 have HB0:=hid (show Below w.heap.size w W0 from hb)
 have K1:=hid k1
 have K2:=hid k2
 clear k1 k2 hb
 have dK10:=K1.out.cell (i:=0) rfl
 have dK11:=K1.out.cell (i:=1) rfl
 have dK12:=K1.out.cell (i:=2) rfl
 have dK20:=K2.out.cell (i:=0) rfl
 have dK21:=K2.out.cell (i:=1) rfl
 have dK22:=K2.out.cell (i:=2) rfl
 go_wp2_with fail
 with_reducible refine(C1.out _ HB0.out).mono ?_
 rintro e W1 ⟨rfl,hb⟩
 clear dK10 dK11 dK12 dK20 dK21 dK22
 have K1:=hid (K1.out.below hb)
 have K2:=hid (K2.out.below hb)
 have HB1:=hbt HB0 hb
 clear hb
 go_upto_region 2 with fail
 refine wp_boxes W1 [(#[.string l,.string m,.string n],59)] rfl ?_
 have L1:=K1.out.lt
 have L2:=K2.out.lt
 have L3:=HB1.out.size
 rintro W2 ⟨k3,hb⟩
 have hb:Below W1.heap.size W1 W2:=hb
 have HB2:=hbt HB1 hb
 have K3:=hid k3
 clear k3 hb
 go_wp2_with fail
 refine wp_region_post (fun a0 a' V=>a'=⟨putL [(9,.pointer (some ⟨W1.heap.size,0,none⟩)),(10,.string l),(11,.pointer (some ⟨W1.heap.size,1,none⟩)),(12,.string m),(13,.string s),(14,.pointer (some ⟨W1.heap.size,2,none⟩)),(15,.string n),(16,.string r),(4,.string r)] a0.tmps,a0.defers⟩∧Below w.heap.size w V) ?_ ?_
 · refine wp_region_tail_d (by kernel_rfl) 9 0 (fun i=>[9,10,11,12,13,14,15,16,4].getD i 0) (RelR [Rel.val (.pointer (some ⟨W1.heap.size,0,none⟩)),Rel.val (.string l),Rel.val (.pointer (some ⟨W1.heap.size,1,none⟩)),Rel.val (.string m),Rel.val (.string s),Rel.val (.pointer (some ⟨W1.heap.size,2,none⟩)),Rel.val (.string n),Rel.val (.string r),Rel.val (.string r)]) (fun W=>Below W2.heap.size W2 W) (fun _ _=>True) (by kernel_rfl) (by kernel_rfl) (by kernel_rfl) trivial (Below.refl _ _).drew ?_ ?_
   · intro listed a W i hI hD hrd him
     have HI:=hid hI
     have HD:=hid hD
     have Hr:=hid hrd
     clear hI hrd hD
     have y5:a.tmps[5]? = some (.pointer (some ⟨W1.heap.size,0,none⟩)):=HI.out.rest 5 (by decide)
     have dK30:=(K3.out.below HI.out.world).cell (i:=0) rfl
     have dK31:=(K3.out.below HI.out.world).cell (i:=1) rfl
     have dK32:=(K3.out.below HI.out.world).cell (i:=2) rfl
     have X0:RV _ listed a 0 9 (.pointer (some ⟨W1.heap.size,0,none⟩)):=HI.out.rh
     have X2:RV _ listed a 2 11 (.pointer (some ⟨W1.heap.size,1,none⟩)):=HI.out.rh
     have X1:RV _ listed a 1 10 (.string l):=HI.out.rh
     have X3:RV _ listed a 3 12 (.string m):=HI.out.rh
     have X5:RV _ listed a 5 14 (.pointer (some ⟨W1.heap.size,2,none⟩)):=HI.out.rh
     have X4:RV _ listed a 4 13 (.string s):=HI.out.rh
     have X6:RV _ listed a 6 15 (.string n):=HI.out.rh
     have X7:RV _ listed a 7 16 (.string r):=HI.out.rh
     match i,him,Hr with
     | 0,_,Hi =>
       refine stepH rfl fun K' hK=>?_
       go_simp
       exact hK.out _ _ ⟨HI.out.pv Hi.out rfl,trivial⟩
     | 1,_,Hi =>
       have x0:=X0.g Hi.out (by kernel_rfl)
       refine stepH rfl fun K' hK=>?_
       go_simp
       exact hK.out _ _ ⟨HI.out.pv Hi.out rfl,trivial⟩
     | 2,_,Hi =>
       refine stepH rfl fun K' hK=>?_
       go_simp
       exact hK.out _ _ ⟨HI.out.pv Hi.out rfl,trivial⟩
     | 3,_,Hi =>
       have x2:=X2.g Hi.out (by kernel_rfl)
       refine stepH rfl fun K' hK=>?_
       go_simp
       exact hK.out _ _ ⟨HI.out.pv Hi.out rfl,trivial⟩
     | 4,_,Hi =>
       have x1:=X1.g Hi.out (by kernel_rfl)
       have x3:=X3.g Hi.out (by kernel_rfl)
       refine stepH rfl fun K' hK=>?_
       go_simp
       with_reducible refine(C2.out _ (HB2.out.trans (HI.out.world.mono HB2.out.size))).mono ?_
       rintro e W' ⟨rfl,hb⟩
       exact hK.out _ _ ⟨HI.out.pc Hi.out hb rfl,trivial⟩
     | 5,_,Hi =>
       refine stepH rfl fun K' hK=>?_
       go_simp
       exact hK.out _ _ ⟨HI.out.pv Hi.out rfl,trivial⟩
     | 6,_,Hi =>
       have x5:=X5.g Hi.out (by kernel_rfl)
       refine stepH rfl fun K' hK=>?_
       go_simp
       exact hK.out _ _ ⟨HI.out.pv Hi.out rfl,trivial⟩
     | 7,_,Hi =>
       have x4:=X4.g Hi.out (by kernel_rfl)
       have x6:=X6.g Hi.out (by kernel_rfl)
       refine stepH rfl fun K' hK=>?_
       go_simp
       with_reducible refine(C3.out _ (HB2.out.trans (HI.out.world.mono HB2.out.size))).mono ?_
       rintro e W' ⟨rfl,hb⟩
       exact hK.out _ _ ⟨HI.out.pc Hi.out hb rfl,trivial⟩
     | 8,_,Hi =>
       have x7:=X7.g Hi.out (by kernel_rfl)
       refine stepH rfl fun K' hK=>?_
       go_simp
       exact hK.out _ _ ⟨HI.out.pv Hi.out rfl,trivial⟩
     | n+9,h,_=>exact absurd h (by omega)
   · intro listed a W hI hD hall
     have HBW:=hid hI.world
     have HI:=hid hI
     have HA:=hid hall
     clear hI hall
     have HBX:=hid (HB2.out.trans (HBW.out.mono HB2.out.size))
     refine tail_nil ?_
     exact⟨rfl,(HI.out.finx ⟨HI.out.sx HA.out 0,HI.out.sx HA.out 1,HI.out.sx HA.out 2,HI.out.sx HA.out 3,HI.out.sx HA.out 4,HI.out.sx HA.out 5,HI.out.sx HA.out 6,HI.out.sx HA.out 7,HI.out.sx HA.out 8,trivial⟩ rfl),HBX.out⟩
 rintro a' W3 ⟨rfl,z0⟩
 have HB3:=hid z0
 clear z0
 simp only[putL,List.setIfInBounds_toArray,List.set_cons_zero,List.set_cons_succ]
 go_wp2
 exact bodyPost_ret (v:=.string r) (by simp[results,Tryz.results34,go_sem]) rfl ⟨rfl,HB3.out⟩
theorem vAdd_raw (x y z u v t l m n g1 g2 g3:ByteArray)(er:Int)(w₀:World)(h1:CV w₀ 37 #[.agg #[.string x,.string y,.string z],.agg #[.string u,.string v,.string t],.func (.func 38) #[] #[]] (.agg #[.string l,.string m,.string n]))(h2:CV w₀ 31 #[.agg #[.string l,.string m,.string n]] (.tuple #[.agg #[.string g1,.string g2,.string g3],.int .i64 er]))  :
 CV w₀ 16 #[.agg #[.string x,.string y,.string z],.agg #[.string u,.string v,.string t]] (.tuple #[.agg #[.string g1,.string g2,.string g3],.int .i64 er]):=by
 intro w hw
 have C1:=hid (h1.mono hw)
 have C2:=hid (h2.mono hw)
 clear h1 h2 hw
 go_enter Tryz.func16,Tryz.ntmps16
 go_upto_region 1 with fail
 refine wp_boxes w [(#[.string x,.string y,.string z],24),(#[.string u,.string v,.string t],24),(#[.string ⟨#[]⟩,.string ⟨#[]⟩,.string ⟨#[]⟩],24)] rfl ?_
 rintro W0 ⟨k1,k2,k3,hb⟩
 have HB0:=hid (show Below w.heap.size w W0 from hb)
 have K1:=hid k1
 have K2:=hid k2
 have K3:=hid k3
 clear k1 k2 k3 hb
 go_wp2_with fail
 refine wp_region_post (fun a0 a' V=>a'=⟨putL [(6,.agg #[.string x,.string y,.string z]),(7,.agg #[.string x,.string y,.string z]),(8,.agg #[.string u,.string v,.string t]),(9,.agg #[.string u,.string v,.string t]),(10,.agg #[.string l,.string m,.string n]),(11,.tuple #[.agg #[.string g1,.string g2,.string g3],.int .i64 er]),(12,.agg #[.string g1,.string g2,.string g3]),(13,.int .i64 er),(5,.int .i64 er)] a0.tmps,a0.defers⟩∧Below w.heap.size w V∧SBk V (w.heap.size+1+1) #[.string g1,.string g2,.string g3] 24) ?_ ?_
 · refine wp_region_tail_d (by kernel_rfl) 8 2 (fun i=>[6,7,8,9,10,11,12,13].getD i 0) (RelR [Rel.val (.agg #[.string x,.string y,.string z]),Rel.val (.agg #[.string x,.string y,.string z]),Rel.val (.agg #[.string u,.string v,.string t]),Rel.val (.agg #[.string u,.string v,.string t]),Rel.val (.agg #[.string l,.string m,.string n]),Rel.val (.tuple #[.agg #[.string g1,.string g2,.string g3],.int .i64 er]),Rel.val (.agg #[.string g1,.string g2,.string g3]),Rel.val (.int .i64 er)]) (fun W=>Below W0.heap.size W0 W) (fun _ _=>True) (by kernel_rfl) (by kernel_rfl) (by kernel_rfl) trivial (Below.refl _ _).drew ?_ ?_
   · intro listed a W i hI hD hrd him
     have HI:=hid hI
     have HD:=hid hD
     have Hr:=hid hrd
     clear hI hrd hD
     have y2:a.tmps[2]? = some (.pointer (some ⟨w.heap.size,0,none⟩)):=HI.out.rest 2 (by decide)
     have y3:a.tmps[3]? = some (.pointer (some ⟨w.heap.size+1,0,none⟩)):=HI.out.rest 3 (by decide)
     have dK10:=(K1.out.below HI.out.world).cell (i:=0) rfl
     have dK11:=(K1.out.below HI.out.world).cell (i:=1) rfl
     have dK12:=(K1.out.below HI.out.world).cell (i:=2) rfl
     have dK20:=(K2.out.below HI.out.world).cell (i:=0) rfl
     have dK21:=(K2.out.below HI.out.world).cell (i:=1) rfl
     have dK22:=(K2.out.below HI.out.world).cell (i:=2) rfl
     have X0:RV _ listed a 0 6 (.agg #[.string x,.string y,.string z]):=HI.out.rh
     have X2:RV _ listed a 2 8 (.agg #[.string u,.string v,.string t]):=HI.out.rh
     have X1:RV _ listed a 1 7 (.agg #[.string x,.string y,.string z]):=HI.out.rh
     have X3:RV _ listed a 3 9 (.agg #[.string u,.string v,.string t]):=HI.out.rh
     have X4:RV _ listed a 4 10 (.agg #[.string l,.string m,.string n]):=HI.out.rh
     have X5:RV _ listed a 5 11 (.tuple #[.agg #[.string g1,.string g2,.string g3],.int .i64 er]):=HI.out.rh
     match i,him,Hr with
     | 0,_,Hi =>
       refine stepH rfl fun K' hK=>?_
       go_simp
       exact hK.out _ _ ⟨HI.out.pv Hi.out rfl,trivial⟩
     | 1,_,Hi =>
       have x0:=X0.g Hi.out (by kernel_rfl)
       refine stepH rfl fun K' hK=>?_
       go_simp
       with_reducible refine(vread x y z _ _ (HB0.out.trans (HI.out.world.mono HB0.out.size))).mono ?_
       rintro e W' ⟨rfl,hb⟩
       exact hK.out _ _ ⟨HI.out.pc Hi.out hb rfl,trivial⟩
     | 2,_,Hi =>
       refine stepH rfl fun K' hK=>?_
       go_simp
       exact hK.out _ _ ⟨HI.out.pv Hi.out rfl,trivial⟩
     | 3,_,Hi =>
       have x2:=X2.g Hi.out (by kernel_rfl)
       refine stepH rfl fun K' hK=>?_
       go_simp
       with_reducible refine(vread u v t _ _ (HB0.out.trans (HI.out.world.mono HB0.out.size))).mono ?_
       rintro e W' ⟨rfl,hb⟩
       exact hK.out _ _ ⟨HI.out.pc Hi.out hb rfl,trivial⟩
     | 4,_,Hi =>
       have x1:=X1.g Hi.out (by kernel_rfl)
       have x3:=X3.g Hi.out (by kernel_rfl)
       refine stepH rfl fun K' hK=>?_
       go_simp
       with_reducible refine(C1.out _ (HB0.out.trans (HI.out.world.mono HB0.out.size))).mono ?_
       rintro e W' ⟨rfl,hb⟩
       exact hK.out _ _ ⟨HI.out.pc Hi.out hb rfl,trivial⟩
     | 5,_,Hi =>
       have x4:=X4.g Hi.out (by kernel_rfl)
       refine stepH rfl fun K' hK=>?_
       go_simp
       with_reducible refine(C2.out _ (HB0.out.trans (HI.out.world.mono HB0.out.size))).mono ?_
       rintro e W' ⟨rfl,hb⟩
       exact hK.out _ _ ⟨HI.out.pc Hi.out hb rfl,trivial⟩
     | 6,_,Hi =>
       have x5:=X5.g Hi.out (by kernel_rfl)
       refine stepH rfl fun K' hK=>?_
       go_simp
       exact hK.out _ _ ⟨HI.out.pv Hi.out rfl,trivial⟩
     | 7,_,Hi =>
       have x5:=X5.g Hi.out (by kernel_rfl)
       refine stepH rfl fun K' hK=>?_
       go_simp
       exact hK.out _ _ ⟨HI.out.pv Hi.out rfl,trivial⟩
     | n+8,h,_=>exact absurd h (by omega)
   · intro listed a W hI hD hall
     have x6:a.tmps[12]? = some (.agg #[.string g1,.string g2,.string g3]):=hI.sx hall 6
     have x7:a.tmps[13]? = some (.int .i64 er):=hI.sx hall 7
     have HBW:=hid hI.world
     have HI:=hid hI
     have HA:=hid hall
     clear hI hall
     have K3:=hid (K3.out.below HBW.out)
     have HBX:=hid (HB0.out.trans (HBW.out.mono HB0.out.size))
     have y4:a.tmps[4]? = some (.pointer (some ⟨w.heap.size+1+1,0,none⟩)):=HI.out.rest 4 (by decide)
     have dK30:=K3.out.cell (i:=0) rfl
     have fK30:=K3.out.frozen (i:=0)
     have dK31:=K3.out.cell (i:=1) rfl
     have fK31:=K3.out.frozen (i:=1)
     have dK32:=K3.out.cell (i:=2) rfl
     have fK32:=K3.out.frozen (i:=2)
     have EA:=hid (show a=⟨putL [(6,.agg #[.string x,.string y,.string z]),(7,.agg #[.string x,.string y,.string z]),(8,.agg #[.string u,.string v,.string t]),(9,.agg #[.string u,.string v,.string t]),(10,.agg #[.string l,.string m,.string n]),(11,.tuple #[.agg #[.string g1,.string g2,.string g3],.int .i64 er]),(12,.agg #[.string g1,.string g2,.string g3]),(13,.int .i64 er)] _,_⟩from(HI.out.finx ⟨HI.out.sx HA.out 0,HI.out.sx HA.out 1,HI.out.sx HA.out 2,HI.out.sx HA.out 3,HI.out.sx HA.out 4,HI.out.sx HA.out 5,x6,x7,trivial⟩ rfl))
     refine tail_succ (t:=1) ?_
     refine stepH rfl fun K' hK=>?_
     go_simp
     refine hK.out _ _ ?_
     clear hK
     refine tail_succ (t:=0) ?_
     refine stepH rfl fun K' hK=>?_
     go_simp
     refine hK.out _ _ ?_
     clear hK
     refine tail_nil ?_
     rw[← storeAll_3]
     exact⟨rfl,(put_more EA.out rfl),(store_below (l:=[.string g1,.string g2,.string g3]) (i:=0) (by omega) HBX.out),(store_blk_3 K3.out)⟩
 rintro a' W1 ⟨rfl,z0,z1⟩
 have HB1:=hid z0
 have K3:=hid z1
 clear z0 z1
 simp only[putL,List.setIfInBounds_toArray,List.set_cons_zero,List.set_cons_succ]
 go_wp2
 have dK30:=K3.out.cell (i:=0) rfl
 have dK31:=K3.out.cell (i:=1) rfl
 have dK32:=K3.out.cell (i:=2) rfl
 exact bodyPost_ret (v:=.tuple #[.agg #[.string g1,.string g2,.string g3],.int .i64 er]) (by simp[results,Tryz.results16,go_sem,dK30,dK31,dK32]) rfl ⟨rfl,HB1.out⟩
theorem vSub_raw (x y z u v t l m n g1 g2 g3:ByteArray)(er:Int)(w₀:World)(h1:CV w₀ 37 #[.agg #[.string x,.string y,.string z],.agg #[.string u,.string v,.string t],.func (.func 39) #[] #[]] (.agg #[.string l,.string m,.string n]))(h2:CV w₀ 31 #[.agg #[.string l,.string m,.string n]] (.tuple #[.agg #[.string g1,.string g2,.string g3],.int .i64 er]))  :
 CV w₀ 17 #[.agg #[.string x,.string y,.string z],.agg #[.string u,.string v,.string t]] (.tuple #[.agg #[.string g1,.string g2,.string g3],.int .i64 er]):=by
 intro w hw
 have C1:=hid (h1.mono hw)
 have C2:=hid (h2.mono hw)
 clear h1 h2 hw
 go_enter Tryz.func17,Tryz.ntmps17
 go_upto_region 1 with fail
 refine wp_boxes w [(#[.string x,.string y,.string z],24),(#[.string u,.string v,.string t],24),(#[.string ⟨#[]⟩,.string ⟨#[]⟩,.string ⟨#[]⟩],24)] rfl ?_
 rintro W0 ⟨k1,k2,k3,hb⟩
 have HB0:=hid (show Below w.heap.size w W0 from hb)
 have K1:=hid k1
 have K2:=hid k2
 have K3:=hid k3
 clear k1 k2 k3 hb
 go_wp2_with fail
 refine wp_region_post (fun a0 a' V=>a'=⟨putL [(6,.agg #[.string x,.string y,.string z]),(7,.agg #[.string x,.string y,.string z]),(8,.agg #[.string u,.string v,.string t]),(9,.agg #[.string u,.string v,.string t]),(10,.agg #[.string l,.string m,.string n]),(11,.tuple #[.agg #[.string g1,.string g2,.string g3],.int .i64 er]),(12,.agg #[.string g1,.string g2,.string g3]),(13,.int .i64 er),(5,.int .i64 er)] a0.tmps,a0.defers⟩∧Below w.heap.size w V∧SBk V (w.heap.size+1+1) #[.string g1,.string g2,.string g3] 24) ?_ ?_
 · refine wp_region_tail_d (by kernel_rfl) 8 2 (fun i=>[6,7,8,9,10,11,12,13].getD i 0) (RelR [Rel.val (.agg #[.string x,.string y,.string z]),Rel.val (.agg #[.string x,.string y,.string z]),Rel.val (.agg #[.string u,.string v,.string t]),Rel.val (.agg #[.string u,.string v,.string t]),Rel.val (.agg #[.string l,.string m,.string n]),Rel.val (.tuple #[.agg #[.string g1,.string g2,.string g3],.int .i64 er]),Rel.val (.agg #[.string g1,.string g2,.string g3]),Rel.val (.int .i64 er)]) (fun W=>Below W0.heap.size W0 W) (fun _ _=>True) (by kernel_rfl) (by kernel_rfl) (by kernel_rfl) trivial (Below.refl _ _).drew ?_ ?_
   · intro listed a W i hI hD hrd him
     have HI:=hid hI
     have HD:=hid hD
     have Hr:=hid hrd
     clear hI hrd hD
     have y2:a.tmps[2]? = some (.pointer (some ⟨w.heap.size,0,none⟩)):=HI.out.rest 2 (by decide)
     have y3:a.tmps[3]? = some (.pointer (some ⟨w.heap.size+1,0,none⟩)):=HI.out.rest 3 (by decide)
     have dK10:=(K1.out.below HI.out.world).cell (i:=0) rfl
     have dK11:=(K1.out.below HI.out.world).cell (i:=1) rfl
     have dK12:=(K1.out.below HI.out.world).cell (i:=2) rfl
     have dK20:=(K2.out.below HI.out.world).cell (i:=0) rfl
     have dK21:=(K2.out.below HI.out.world).cell (i:=1) rfl
     have dK22:=(K2.out.below HI.out.world).cell (i:=2) rfl
     have X0:RV _ listed a 0 6 (.agg #[.string x,.string y,.string z]):=HI.out.rh
     have X2:RV _ listed a 2 8 (.agg #[.string u,.string v,.string t]):=HI.out.rh
     have X1:RV _ listed a 1 7 (.agg #[.string x,.string y,.string z]):=HI.out.rh
     have X3:RV _ listed a 3 9 (.agg #[.string u,.string v,.string t]):=HI.out.rh
     have X4:RV _ listed a 4 10 (.agg #[.string l,.string m,.string n]):=HI.out.rh
     have X5:RV _ listed a 5 11 (.tuple #[.agg #[.string g1,.string g2,.string g3],.int .i64 er]):=HI.out.rh
     match i,him,Hr with
     | 0,_,Hi =>
       refine stepH rfl fun K' hK=>?_
       go_simp
       exact hK.out _ _ ⟨HI.out.pv Hi.out rfl,trivial⟩
     | 1,_,Hi =>
       have x0:=X0.g Hi.out (by kernel_rfl)
       refine stepH rfl fun K' hK=>?_
       go_simp
       with_reducible refine(vread x y z _ _ (HB0.out.trans (HI.out.world.mono HB0.out.size))).mono ?_
       rintro e W' ⟨rfl,hb⟩
       exact hK.out _ _ ⟨HI.out.pc Hi.out hb rfl,trivial⟩
     | 2,_,Hi =>
       refine stepH rfl fun K' hK=>?_
       go_simp
       exact hK.out _ _ ⟨HI.out.pv Hi.out rfl,trivial⟩
     | 3,_,Hi =>
       have x2:=X2.g Hi.out (by kernel_rfl)
       refine stepH rfl fun K' hK=>?_
       go_simp
       with_reducible refine(vread u v t _ _ (HB0.out.trans (HI.out.world.mono HB0.out.size))).mono ?_
       rintro e W' ⟨rfl,hb⟩
       exact hK.out _ _ ⟨HI.out.pc Hi.out hb rfl,trivial⟩
     | 4,_,Hi =>
       have x1:=X1.g Hi.out (by kernel_rfl)
       have x3:=X3.g Hi.out (by kernel_rfl)
       refine stepH rfl fun K' hK=>?_
       go_simp
       with_reducible refine(C1.out _ (HB0.out.trans (HI.out.world.mono HB0.out.size))).mono ?_
       rintro e W' ⟨rfl,hb⟩
       exact hK.out _ _ ⟨HI.out.pc Hi.out hb rfl,trivial⟩
     | 5,_,Hi =>
       have x4:=X4.g Hi.out (by kernel_rfl)
       refine stepH rfl fun K' hK=>?_
       go_simp
       with_reducible refine(C2.out _ (HB0.out.trans (HI.out.world.mono HB0.out.size))).mono ?_
       rintro e W' ⟨rfl,hb⟩
       exact hK.out _ _ ⟨HI.out.pc Hi.out hb rfl,trivial⟩
     | 6,_,Hi =>
       have x5:=X5.g Hi.out (by kernel_rfl)
       refine stepH rfl fun K' hK=>?_
       go_simp
       exact hK.out _ _ ⟨HI.out.pv Hi.out rfl,trivial⟩
     | 7,_,Hi =>
       have x5:=X5.g Hi.out (by kernel_rfl)
       refine stepH rfl fun K' hK=>?_
       go_simp
       exact hK.out _ _ ⟨HI.out.pv Hi.out rfl,trivial⟩
     | n+8,h,_=>exact absurd h (by omega)
   · intro listed a W hI hD hall
     have x6:a.tmps[12]? = some (.agg #[.string g1,.string g2,.string g3]):=hI.sx hall 6
     have x7:a.tmps[13]? = some (.int .i64 er):=hI.sx hall 7
     have HBW:=hid hI.world
     have HI:=hid hI
     have HA:=hid hall
     clear hI hall
     have K3:=hid (K3.out.below HBW.out)
     have HBX:=hid (HB0.out.trans (HBW.out.mono HB0.out.size))
     have y4:a.tmps[4]? = some (.pointer (some ⟨w.heap.size+1+1,0,none⟩)):=HI.out.rest 4 (by decide)
     have dK30:=K3.out.cell (i:=0) rfl
     have fK30:=K3.out.frozen (i:=0)
     have dK31:=K3.out.cell (i:=1) rfl
     have fK31:=K3.out.frozen (i:=1)
     have dK32:=K3.out.cell (i:=2) rfl
     have fK32:=K3.out.frozen (i:=2)
     have EA:=hid (show a=⟨putL [(6,.agg #[.string x,.string y,.string z]),(7,.agg #[.string x,.string y,.string z]),(8,.agg #[.string u,.string v,.string t]),(9,.agg #[.string u,.string v,.string t]),(10,.agg #[.string l,.string m,.string n]),(11,.tuple #[.agg #[.string g1,.string g2,.string g3],.int .i64 er]),(12,.agg #[.string g1,.string g2,.string g3]),(13,.int .i64 er)] _,_⟩from(HI.out.finx ⟨HI.out.sx HA.out 0,HI.out.sx HA.out 1,HI.out.sx HA.out 2,HI.out.sx HA.out 3,HI.out.sx HA.out 4,HI.out.sx HA.out 5,x6,x7,trivial⟩ rfl))
     refine tail_succ (t:=1) ?_
     refine stepH rfl fun K' hK=>?_
     go_simp
     refine hK.out _ _ ?_
     clear hK
     refine tail_succ (t:=0) ?_
     refine stepH rfl fun K' hK=>?_
     go_simp
     refine hK.out _ _ ?_
     clear hK
     refine tail_nil ?_
     rw[← storeAll_3]
     exact⟨rfl,(put_more EA.out rfl),(store_below (l:=[.string g1,.string g2,.string g3]) (i:=0) (by omega) HBX.out),(store_blk_3 K3.out)⟩
 rintro a' W1 ⟨rfl,z0,z1⟩
 have HB1:=hid z0
 have K3:=hid z1
 clear z0 z1
 simp only[putL,List.setIfInBounds_toArray,List.set_cons_zero,List.set_cons_succ]
 go_wp2
 have dK30:=K3.out.cell (i:=0) rfl
 have dK31:=K3.out.cell (i:=1) rfl
 have dK32:=K3.out.cell (i:=2) rfl
 exact bodyPost_ret (v:=.tuple #[.agg #[.string g1,.string g2,.string g3],.int .i64 er]) (by simp[results,Tryz.results17,go_sem,dK30,dK31,dK32]) rfl ⟨rfl,HB1.out⟩
theorem vScale_raw (x y z s l m n g1 g2 g3:ByteArray)(er:Int)(w₀:World)(h1:CV w₀ 32 #[.agg #[.string x,.string y,.string z],.string s] (.agg #[.string l,.string m,.string n]))(h2:CV w₀ 31 #[.agg #[.string l,.string m,.string n]] (.tuple #[.agg #[.string g1,.string g2,.string g3],.int .i64 er]))  :
 CV w₀ 11 #[.agg #[.string x,.string y,.string z],.string s] (.tuple #[.agg #[.string g1,.string g2,.string g3],.int .i64 er]):=by
 intro w hw
 have C1:=hid (h1.mono hw)
 have C2:=hid (h2.mono hw)
 clear h1 h2 hw
 go_enter Tryz.func11,Tryz.ntmps11
 go_upto_region 1 with fail
 refine wp_boxes w [(#[.string x,.string y,.string z],24),(#[.string ⟨#[]⟩,.string ⟨#[]⟩,.string ⟨#[]⟩],24)] rfl ?_
 rintro W0 ⟨k1,k2,hb⟩
 have HB0:=hid (show Below w.heap.size w W0 from hb)
 have K1:=hid k1
 have K2:=hid k2
 clear k1 k2 hb
 have dK10:=K1.out.cell (i:=0) rfl
 have dK11:=K1.out.cell (i:=1) rfl
 have dK12:=K1.out.cell (i:=2) rfl
 go_wp2_with fail
 with_reducible refine(vread x y z _ _ HB0.out).mono ?_
 rintro e W1 ⟨rfl,hb⟩
 clear dK10 dK11 dK12
 have K2:=hid (K2.out.below hb)
 have HB1:=hbt HB0 hb
 clear hb
 go_wp2_with fail
 with_reducible refine(C1.out _ HB1.out).mono ?_
 rintro e W2 ⟨rfl,hb⟩
 have K2:=hid (K2.out.below hb)
 have HB2:=hbt HB1 hb
 clear hb
 go_wp2_with fail
 with_reducible refine(C2.out _ HB2.out).mono ?_
 rintro e W3 ⟨rfl,hb⟩
 have K2:=hid (K2.out.below hb)
 have HB3:=hbt HB2 hb
 clear hb
 have dK20:=K2.out.cell (i:=0) rfl
 have dK21:=K2.out.cell (i:=1) rfl
 have dK22:=K2.out.cell (i:=2) rfl
 have fK20:=K2.out.frozen (i:=0)
 have fK21:=K2.out.frozen (i:=1)
 have fK22:=K2.out.frozen (i:=2)
 go_wp2
 exact bodyPost_ret (v:=.tuple #[.agg #[.string g1,.string g2,.string g3],.int .i64 er]) (by simp[results,Tryz.results11,go_sem,dK20,dK21,dK22]) rfl ⟨rfl,(store_below (l:=[.string g1,.string g2,.string g3]) (i:=0) (by omega) HB3.out)⟩
theorem vCross_raw (x y z u v t l m n g1 g2 g3:ByteArray)(er:Int)(w₀:World)(h1:CV w₀ 30 #[.agg #[.string x,.string y,.string z],.agg #[.string u,.string v,.string t]] (.agg #[.string l,.string m,.string n]))(h2:CV w₀ 31 #[.agg #[.string l,.string m,.string n]] (.tuple #[.agg #[.string g1,.string g2,.string g3],.int .i64 er]))  :
 CV w₀ 10 #[.agg #[.string x,.string y,.string z],.agg #[.string u,.string v,.string t]] (.tuple #[.agg #[.string g1,.string g2,.string g3],.int .i64 er]):=by
 intro w hw
 have C1:=hid (h1.mono hw)
 have C2:=hid (h2.mono hw)
 clear h1 h2 hw
 go_enter Tryz.func10,Tryz.ntmps10
 go_upto_region 1 with fail
 refine wp_boxes w [(#[.string x,.string y,.string z],24),(#[.string u,.string v,.string t],24),(#[.string ⟨#[]⟩,.string ⟨#[]⟩,.string ⟨#[]⟩],24)] rfl ?_
 rintro W0 ⟨k1,k2,k3,hb⟩
 have HB0:=hid (show Below w.heap.size w W0 from hb)
 have K1:=hid k1
 have K2:=hid k2
 have K3:=hid k3
 clear k1 k2 k3 hb
 go_wp2_with fail
 refine wp_region_post (fun a0 a' V=>a'=⟨putL [(6,.agg #[.string x,.string y,.string z]),(7,.agg #[.string x,.string y,.string z]),(8,.agg #[.string u,.string v,.string t]),(9,.agg #[.string u,.string v,.string t]),(10,.agg #[.string l,.string m,.string n]),(11,.tuple #[.agg #[.string g1,.string g2,.string g3],.int .i64 er]),(12,.agg #[.string g1,.string g2,.string g3]),(13,.int .i64 er),(5,.int .i64 er)] a0.tmps,a0.defers⟩∧Below w.heap.size w V∧SBk V (w.heap.size+1+1) #[.string g1,.string g2,.string g3] 24) ?_ ?_
 · refine wp_region_tail_d (by kernel_rfl) 8 2 (fun i=>[6,7,8,9,10,11,12,13].getD i 0) (RelR [Rel.val (.agg #[.string x,.string y,.string z]),Rel.val (.agg #[.string x,.string y,.string z]),Rel.val (.agg #[.string u,.string v,.string t]),Rel.val (.agg #[.string u,.string v,.string t]),Rel.val (.agg #[.string l,.string m,.string n]),Rel.val (.tuple #[.agg #[.string g1,.string g2,.string g3],.int .i64 er]),Rel.val (.agg #[.string g1,.string g2,.string g3]),Rel.val (.int .i64 er)]) (fun W=>Below W0.heap.size W0 W) (fun _ _=>True) (by kernel_rfl) (by kernel_rfl) (by kernel_rfl) trivial (Below.refl _ _).drew ?_ ?_
   · intro listed a W i hI hD hrd him
     have HI:=hid hI
     have HD:=hid hD
     have Hr:=hid hrd
     clear hI hrd hD
     have y2:a.tmps[2]? = some (.pointer (some ⟨w.heap.size,0,none⟩)):=HI.out.rest 2 (by decide)
     have y3:a.tmps[3]? = some (.pointer (some ⟨w.heap.size+1,0,none⟩)):=HI.out.rest 3 (by decide)
     have dK10:=(K1.out.below HI.out.world).cell (i:=0) rfl
     have dK11:=(K1.out.below HI.out.world).cell (i:=1) rfl
     have dK12:=(K1.out.below HI.out.world).cell (i:=2) rfl
     have dK20:=(K2.out.below HI.out.world).cell (i:=0) rfl
     have dK21:=(K2.out.below HI.out.world).cell (i:=1) rfl
     have dK22:=(K2.out.below HI.out.world).cell (i:=2) rfl
     have X0:RV _ listed a 0 6 (.agg #[.string x,.string y,.string z]):=HI.out.rh
     have X2:RV _ listed a 2 8 (.agg #[.string u,.string v,.string t]):=HI.out.rh
     have X1:RV _ listed a 1 7 (.agg #[.string x,.string y,.string z]):=HI.out.rh
     have X3:RV _ listed a 3 9 (.agg #[.string u,.string v,.string t]):=HI.out.rh
     have X4:RV _ listed a 4 10 (.agg #[.string l,.string m,.string n]):=HI.out.rh
     have X5:RV _ listed a 5 11 (.tuple #[.agg #[.string g1,.string g2,.string g3],.int .i64 er]):=HI.out.rh
     match i,him,Hr with
     | 0,_,Hi =>
       refine stepH rfl fun K' hK=>?_
       go_simp
       exact hK.out _ _ ⟨HI.out.pv Hi.out rfl,trivial⟩
     | 1,_,Hi =>
       have x0:=X0.g Hi.out (by kernel_rfl)
       refine stepH rfl fun K' hK=>?_
       go_simp
       with_reducible refine(vread x y z _ _ (HB0.out.trans (HI.out.world.mono HB0.out.size))).mono ?_
       rintro e W' ⟨rfl,hb⟩
       exact hK.out _ _ ⟨HI.out.pc Hi.out hb rfl,trivial⟩
     | 2,_,Hi =>
       refine stepH rfl fun K' hK=>?_
       go_simp
       exact hK.out _ _ ⟨HI.out.pv Hi.out rfl,trivial⟩
     | 3,_,Hi =>
       have x2:=X2.g Hi.out (by kernel_rfl)
       refine stepH rfl fun K' hK=>?_
       go_simp
       with_reducible refine(vread u v t _ _ (HB0.out.trans (HI.out.world.mono HB0.out.size))).mono ?_
       rintro e W' ⟨rfl,hb⟩
       exact hK.out _ _ ⟨HI.out.pc Hi.out hb rfl,trivial⟩
     | 4,_,Hi =>
       have x1:=X1.g Hi.out (by kernel_rfl)
       have x3:=X3.g Hi.out (by kernel_rfl)
       refine stepH rfl fun K' hK=>?_
       go_simp
       with_reducible refine(C1.out _ (HB0.out.trans (HI.out.world.mono HB0.out.size))).mono ?_
       rintro e W' ⟨rfl,hb⟩
       exact hK.out _ _ ⟨HI.out.pc Hi.out hb rfl,trivial⟩
     | 5,_,Hi =>
       have x4:=X4.g Hi.out (by kernel_rfl)
       refine stepH rfl fun K' hK=>?_
       go_simp
       with_reducible refine(C2.out _ (HB0.out.trans (HI.out.world.mono HB0.out.size))).mono ?_
       rintro e W' ⟨rfl,hb⟩
       exact hK.out _ _ ⟨HI.out.pc Hi.out hb rfl,trivial⟩
     | 6,_,Hi =>
       have x5:=X5.g Hi.out (by kernel_rfl)
       refine stepH rfl fun K' hK=>?_
       go_simp
       exact hK.out _ _ ⟨HI.out.pv Hi.out rfl,trivial⟩
     | 7,_,Hi =>
       have x5:=X5.g Hi.out (by kernel_rfl)
       refine stepH rfl fun K' hK=>?_
       go_simp
       exact hK.out _ _ ⟨HI.out.pv Hi.out rfl,trivial⟩
     | n+8,h,_=>exact absurd h (by omega)
   · intro listed a W hI hD hall
     have x6:a.tmps[12]? = some (.agg #[.string g1,.string g2,.string g3]):=hI.sx hall 6
     have x7:a.tmps[13]? = some (.int .i64 er):=hI.sx hall 7
     have HBW:=hid hI.world
     have HI:=hid hI
     have HA:=hid hall
     clear hI hall
     have K3:=hid (K3.out.below HBW.out)
     have HBX:=hid (HB0.out.trans (HBW.out.mono HB0.out.size))
     have y4:a.tmps[4]? = some (.pointer (some ⟨w.heap.size+1+1,0,none⟩)):=HI.out.rest 4 (by decide)
     have dK30:=K3.out.cell (i:=0) rfl
     have fK30:=K3.out.frozen (i:=0)
     have dK31:=K3.out.cell (i:=1) rfl
     have fK31:=K3.out.frozen (i:=1)
     have dK32:=K3.out.cell (i:=2) rfl
     have fK32:=K3.out.frozen (i:=2)
     have EA:=hid (show a=⟨putL [(6,.agg #[.string x,.string y,.string z]),(7,.agg #[.string x,.string y,.string z]),(8,.agg #[.string u,.string v,.string t]),(9,.agg #[.string u,.string v,.string t]),(10,.agg #[.string l,.string m,.string n]),(11,.tuple #[.agg #[.string g1,.string g2,.string g3],.int .i64 er]),(12,.agg #[.string g1,.string g2,.string g3]),(13,.int .i64 er)] _,_⟩from(HI.out.finx ⟨HI.out.sx HA.out 0,HI.out.sx HA.out 1,HI.out.sx HA.out 2,HI.out.sx HA.out 3,HI.out.sx HA.out 4,HI.out.sx HA.out 5,x6,x7,trivial⟩ rfl))
     refine tail_succ (t:=1) ?_
     refine stepH rfl fun K' hK=>?_
     go_simp
     refine hK.out _ _ ?_
     clear hK
     refine tail_succ (t:=0) ?_
     refine stepH rfl fun K' hK=>?_
     go_simp
     refine hK.out _ _ ?_
     clear hK
     refine tail_nil ?_
     rw[← storeAll_3]
     exact⟨rfl,(put_more EA.out rfl),(store_below (l:=[.string g1,.string g2,.string g3]) (i:=0) (by omega) HBX.out),(store_blk_3 K3.out)⟩
 rintro a' W1 ⟨rfl,z0,z1⟩
 have HB1:=hid z0
 have K3:=hid z1
 clear z0 z1
 simp only[putL,List.setIfInBounds_toArray,List.set_cons_zero,List.set_cons_succ]
 go_wp2
 have dK30:=K3.out.cell (i:=0) rfl
 have dK31:=K3.out.cell (i:=1) rfl
 have dK32:=K3.out.cell (i:=2) rfl
 exact bodyPost_ret (v:=.tuple #[.agg #[.string g1,.string g2,.string g3],.int .i64 er]) (by simp[results,Tryz.results10,go_sem,dK30,dK31,dK32]) rfl ⟨rfl,HB1.out⟩
theorem vDot_raw (x y z u v t s r:ByteArray)(er:Int)(w₀:World)(h1:CV w₀ 34 #[.agg #[.string x,.string y,.string z],.agg #[.string u,.string v,.string t]] (.string s))(h2:CV w₀ 33 #[.string s] (.tuple #[.string r,.int .i64 er]))  :
 CV w₀ 12 #[.agg #[.string x,.string y,.string z],.agg #[.string u,.string v,.string t]] (.tuple #[.string r,.int .i64 er]):=by
 intro w hw
 have C1:=hid (h1.mono hw)
 have C2:=hid (h2.mono hw)
 clear h1 h2 hw
 go_enter Tryz.func12,Tryz.ntmps12
 go_upto_region 1 with fail
 refine wp_boxes w [(#[.string x,.string y,.string z],24),(#[.string u,.string v,.string t],24)] rfl ?_
 rintro W0 ⟨k1,k2,hb⟩
 have HB0:=hid (show Below w.heap.size w W0 from hb)
 have K1:=hid k1
 have K2:=hid k2
 clear k1 k2 hb
 go_wp2_with fail
 refine wp_region_post (fun a0 a' V=>a'=⟨putL [(6,.agg #[.string x,.string y,.string z]),(7,.agg #[.string x,.string y,.string z]),(8,.agg #[.string u,.string v,.string t]),(9,.agg #[.string u,.string v,.string t]),(10,.string s),(11,.tuple #[.string r,.int .i64 er]),(12,.string r),(13,.int .i64 er),(4,.string r),(5,.int .i64 er)] a0.tmps,a0.defers⟩∧Below w.heap.size w V) ?_ ?_
 · refine wp_region_tail_d (by kernel_rfl) 10 0 (fun i=>[6,7,8,9,10,11,12,13,4,5].getD i 0) (RelR [Rel.val (.agg #[.string x,.string y,.string z]),Rel.val (.agg #[.string x,.string y,.string z]),Rel.val (.agg #[.string u,.string v,.string t]),Rel.val (.agg #[.string u,.string v,.string t]),Rel.val (.string s),Rel.val (.tuple #[.string r,.int .i64 er]),Rel.val (.string r),Rel.val (.int .i64 er),Rel.val (.string r),Rel.val (.int .i64 er)]) (fun W=>Below W0.heap.size W0 W) (fun _ _=>True) (by kernel_rfl) (by kernel_rfl) (by kernel_rfl) trivial (Below.refl _ _).drew ?_ ?_
   · intro listed a W i hI hD hrd him
     have HI:=hid hI
     have HD:=hid hD
     have Hr:=hid hrd
     clear hI hrd hD
     have y2:a.tmps[2]? = some (.pointer (some ⟨w.heap.size,0,none⟩)):=HI.out.rest 2 (by decide)
     have y3:a.tmps[3]? = some (.pointer (some ⟨w.heap.size+1,0,none⟩)):=HI.out.rest 3 (by decide)
     have dK10:=(K1.out.below HI.out.world).cell (i:=0) rfl
     have dK11:=(K1.out.below HI.out.world).cell (i:=1) rfl
     have dK12:=(K1.out.below HI.out.world).cell (i:=2) rfl
     have dK20:=(K2.out.below HI.out.world).cell (i:=0) rfl
     have dK21:=(K2.out.below HI.out.world).cell (i:=1) rfl
     have dK22:=(K2.out.below HI.out.world).cell (i:=2) rfl
     have X0:RV _ listed a 0 6 (.agg #[.string x,.string y,.string z]):=HI.out.rh
     have X2:RV _ listed a 2 8 (.agg #[.string u,.string v,.string t]):=HI.out.rh
     have X1:RV _ listed a 1 7 (.agg #[.string x,.string y,.string z]):=HI.out.rh
     have X3:RV _ listed a 3 9 (.agg #[.string u,.string v,.string t]):=HI.out.rh
     have X4:RV _ listed a 4 10 (.string s):=HI.out.rh
     have X5:RV _ listed a 5 11 (.tuple #[.string r,.int .i64 er]):=HI.out.rh
     have X6:RV _ listed a 6 12 (.string r):=HI.out.rh
     have X7:RV _ listed a 7 13 (.int .i64 er):=HI.out.rh
     match i,him,Hr with
     | 0,_,Hi =>
       refine stepH rfl fun K' hK=>?_
       go_simp
       exact hK.out _ _ ⟨HI.out.pv Hi.out rfl,trivial⟩
     | 1,_,Hi =>
       have x0:=X0.g Hi.out (by kernel_rfl)
       refine stepH rfl fun K' hK=>?_
       go_simp
       with_reducible refine(vread x y z _ _ (HB0.out.trans (HI.out.world.mono HB0.out.size))).mono ?_
       rintro e W' ⟨rfl,hb⟩
       exact hK.out _ _ ⟨HI.out.pc Hi.out hb rfl,trivial⟩
     | 2,_,Hi =>
       refine stepH rfl fun K' hK=>?_
       go_simp
       exact hK.out _ _ ⟨HI.out.pv Hi.out rfl,trivial⟩
     | 3,_,Hi =>
       have x2:=X2.g Hi.out (by kernel_rfl)
       refine stepH rfl fun K' hK=>?_
       go_simp
       with_reducible refine(vread u v t _ _ (HB0.out.trans (HI.out.world.mono HB0.out.size))).mono ?_
       rintro e W' ⟨rfl,hb⟩
       exact hK.out _ _ ⟨HI.out.pc Hi.out hb rfl,trivial⟩
     | 4,_,Hi =>
       have x1:=X1.g Hi.out (by kernel_rfl)
       have x3:=X3.g Hi.out (by kernel_rfl)
       refine stepH rfl fun K' hK=>?_
       go_simp
       with_reducible refine(C1.out _ (HB0.out.trans (HI.out.world.mono HB0.out.size))).mono ?_
       rintro e W' ⟨rfl,hb⟩
       exact hK.out _ _ ⟨HI.out.pc Hi.out hb rfl,trivial⟩
     | 5,_,Hi =>
       have x4:=X4.g Hi.out (by kernel_rfl)
       refine stepH rfl fun K' hK=>?_
       go_simp
       with_reducible refine(C2.out _ (HB0.out.trans (HI.out.world.mono HB0.out.size))).mono ?_
       rintro e W' ⟨rfl,hb⟩
       exact hK.out _ _ ⟨HI.out.pc Hi.out hb rfl,trivial⟩
     | 6,_,Hi =>
       have x5:=X5.g Hi.out (by kernel_rfl)
       refine stepH rfl fun K' hK=>?_
       go_simp
       exact hK.out _ _ ⟨HI.out.pv Hi.out rfl,trivial⟩
     | 7,_,Hi =>
       have x5:=X5.g Hi.out (by kernel_rfl)
       refine stepH rfl fun K' hK=>?_
       go_simp
       exact hK.out _ _ ⟨HI.out.pv Hi.out rfl,trivial⟩
     | 8,_,Hi =>
       have x6:=X6.g Hi.out (by kernel_rfl)
       refine stepH rfl fun K' hK=>?_
       go_simp
       exact hK.out _ _ ⟨HI.out.pv Hi.out rfl,trivial⟩
     | 9,_,Hi =>
       have x7:=X7.g Hi.out (by kernel_rfl)
       refine stepH rfl fun K' hK=>?_
       go_simp
       exact hK.out _ _ ⟨HI.out.pv Hi.out rfl,trivial⟩
     | n+10,h,_=>exact absurd h (by omega)
   · intro listed a W hI hD hall
     have HBW:=hid hI.world
     have HI:=hid hI
     have HA:=hid hall
     clear hI hall
     have HBX:=hid (HB0.out.trans (HBW.out.mono HB0.out.size))
     refine tail_nil ?_
     exact⟨rfl,(HI.out.finx ⟨HI.out.sx HA.out 0,HI.out.sx HA.out 1,HI.out.sx HA.out 2,HI.out.sx HA.out 3,HI.out.sx HA.out 4,HI.out.sx HA.out 5,HI.out.sx HA.out 6,HI.out.sx HA.out 7,HI.out.sx HA.out 8,HI.out.sx HA.out 9,trivial⟩ rfl),HBX.out⟩
 rintro a' W1 ⟨rfl,z0⟩
 have HB1:=hid z0
 clear z0
 simp only[putL,List.setIfInBounds_toArray,List.set_cons_zero,List.set_cons_succ]
 go_wp2
 exact bodyPost_ret (v:=.tuple #[.string r,.int .i64 er]) (by simp[results,Tryz.results12,go_sem]) rfl ⟨rfl,HB1.out⟩
theorem vDet_raw (x y z u v t o1 o2 o3 l m n s r:ByteArray)(er:Int)(w₀:World)(h1:CV w₀ 30 #[.agg #[.string u,.string v,.string t],.agg #[.string o1,.string o2,.string o3]] (.agg #[.string l,.string m,.string n]))(h2:CV w₀ 34 #[.agg #[.string x,.string y,.string z],.agg #[.string l,.string m,.string n]] (.string s))(h3:CV w₀ 33 #[.string s] (.tuple #[.string r,.int .i64 er]))  :
 CV w₀ 19 #[.agg #[.string x,.string y,.string z],.agg #[.string u,.string v,.string t],.agg #[.string o1,.string o2,.string o3]] (.tuple #[.string r,.int .i64 er]):=by
 intro w hw
 have C1:=hid (h1.mono hw)
 have C2:=hid (h2.mono hw)
 have C3:=hid (h3.mono hw)
 clear h1 h2 h3 hw
 go_enter Tryz.func19,Tryz.ntmps19
 go_upto_region 1 with fail
 refine wp_boxes w [(#[.string x,.string y,.string z],24),(#[.string u,.string v,.string t],24),(#[.string o1,.string o2,.string o3],24)] rfl ?_
 rintro W0 ⟨k1,k2,k3,hb⟩
 have HB0:=hid (show Below w.heap.size w W0 from hb)
 have K1:=hid k1
 have K2:=hid k2
 have K3:=hid k3
 clear k1 k2 k3 hb
 go_wp2_with fail
 refine wp_region_post (fun a0 a' V=>a'=⟨putL [(8,.agg #[.string x,.string y,.string z]),(9,.agg #[.string x,.string y,.string z]),(10,.agg #[.string u,.string v,.string t]),(11,.agg #[.string u,.string v,.string t]),(12,.agg #[.string o1,.string o2,.string o3]),(13,.agg #[.string o1,.string o2,.string o3]),(14,.agg #[.string l,.string m,.string n]),(15,.string s),(16,.tuple #[.string r,.int .i64 er]),(17,.string r),(18,.int .i64 er),(6,.string r),(7,.int .i64 er)] a0.tmps,a0.defers⟩∧Below w.heap.size w V) ?_ ?_
 · refine wp_region_tail_d (by kernel_rfl) 13 0 (fun i=>[8,9,10,11,12,13,14,15,16,17,18,6,7].getD i 0) (RelR [Rel.val (.agg #[.string x,.string y,.string z]),Rel.val (.agg #[.string x,.string y,.string z]),Rel.val (.agg #[.string u,.string v,.string t]),Rel.val (.agg #[.string u,.string v,.string t]),Rel.val (.agg #[.string o1,.string o2,.string o3]),Rel.val (.agg #[.string o1,.string o2,.string o3]),Rel.val (.agg #[.string l,.string m,.string n]),Rel.val (.string s),Rel.val (.tuple #[.string r,.int .i64 er]),Rel.val (.string r),Rel.val (.int .i64 er),Rel.val (.string r),Rel.val (.int .i64 er)]) (fun W=>Below W0.heap.size W0 W) (fun _ _=>True) (by kernel_rfl) (by kernel_rfl) (by kernel_rfl) trivial (Below.refl _ _).drew ?_ ?_
   · intro listed a W i hI hD hrd him
     have HI:=hid hI
     have HD:=hid hD
     have Hr:=hid hrd
     clear hI hrd hD
     have y3:a.tmps[3]? = some (.pointer (some ⟨w.heap.size,0,none⟩)):=HI.out.rest 3 (by decide)
     have y4:a.tmps[4]? = some (.pointer (some ⟨w.heap.size+1,0,none⟩)):=HI.out.rest 4 (by decide)
     have y5:a.tmps[5]? = some (.pointer (some ⟨w.heap.size+1+1,0,none⟩)):=HI.out.rest 5 (by decide)
     have dK10:=(K1.out.below HI.out.world).cell (i:=0) rfl
     have dK11:=(K1.out.below HI.out.world).cell (i:=1) rfl
     have dK12:=(K1.out.below HI.out.world).cell (i:=2) rfl
     have dK20:=(K2.out.below HI.out.world).cell (i:=0) rfl
     have dK21:=(K2.out.below HI.out.world).cell (i:=1) rfl
     have dK22:=(K2.out.below HI.out.world).cell (i:=2) rfl
     have dK30:=(K3.out.below HI.out.world).cell (i:=0) rfl
     have dK31:=(K3.out.below HI.out.world).cell (i:=1) rfl
     have dK32:=(K3.out.below HI.out.world).cell (i:=2) rfl
     have X0:RV _ listed a 0 8 (.agg #[.string x,.string y,.string z]):=HI.out.rh
     have X2:RV _ listed a 2 10 (.agg #[.string u,.string v,.string t]):=HI.out.rh
     have X4:RV _ listed a 4 12 (.agg #[.string o1,.string o2,.string o3]):=HI.out.rh
     have X3:RV _ listed a 3 11 (.agg #[.string u,.string v,.string t]):=HI.out.rh
     have X5:RV _ listed a 5 13 (.agg #[.string o1,.string o2,.string o3]):=HI.out.rh
     have X1:RV _ listed a 1 9 (.agg #[.string x,.string y,.string z]):=HI.out.rh
     have X6:RV _ listed a 6 14 (.agg #[.string l,.string m,.string n]):=HI.out.rh
     have X7:RV _ listed a 7 15 (.string s):=HI.out.rh
     have X8:RV _ listed a 8 16 (.tuple #[.string r,.int .i64 er]):=HI.out.rh
     have X9:RV _ listed a 9 17 (.string r):=HI.out.rh
     have X10:RV _ listed a 10 18 (.int .i64 er):=HI.out.rh
     match i,him,Hr with
     | 0,_,Hi =>
       refine stepH rfl fun K' hK=>?_
       go_simp
       exact hK.out _ _ ⟨HI.out.pv Hi.out rfl,trivial⟩
     | 1,_,Hi =>
       have x0:=X0.g Hi.out (by kernel_rfl)
       refine stepH rfl fun K' hK=>?_
       go_simp
       with_reducible refine(vread x y z _ _ (HB0.out.trans (HI.out.world.mono HB0.out.size))).mono ?_
       rintro e W' ⟨rfl,hb⟩
       exact hK.out _ _ ⟨HI.out.pc Hi.out hb rfl,trivial⟩
     | 2,_,Hi =>
       refine stepH rfl fun K' hK=>?_
       go_simp
       exact hK.out _ _ ⟨HI.out.pv Hi.out rfl,trivial⟩
     | 3,_,Hi =>
       have x2:=X2.g Hi.out (by kernel_rfl)
       refine stepH rfl fun K' hK=>?_
       go_simp
       with_reducible refine(vread u v t _ _ (HB0.out.trans (HI.out.world.mono HB0.out.size))).mono ?_
       rintro e W' ⟨rfl,hb⟩
       exact hK.out _ _ ⟨HI.out.pc Hi.out hb rfl,trivial⟩
     | 4,_,Hi =>
       refine stepH rfl fun K' hK=>?_
       go_simp
       exact hK.out _ _ ⟨HI.out.pv Hi.out rfl,trivial⟩
     | 5,_,Hi =>
       have x4:=X4.g Hi.out (by kernel_rfl)
       refine stepH rfl fun K' hK=>?_
       go_simp
       with_reducible refine(vread o1 o2 o3 _ _ (HB0.out.trans (HI.out.world.mono HB0.out.size))).mono ?_
       rintro e W' ⟨rfl,hb⟩
       exact hK.out _ _ ⟨HI.out.pc Hi.out hb rfl,trivial⟩
     | 6,_,Hi =>
       have x3:=X3.g Hi.out (by kernel_rfl)
       have x5:=X5.g Hi.out (by kernel_rfl)
       refine stepH rfl fun K' hK=>?_
       go_simp
       with_reducible refine(C1.out _ (HB0.out.trans (HI.out.world.mono HB0.out.size))).mono ?_
       rintro e W' ⟨rfl,hb⟩
       exact hK.out _ _ ⟨HI.out.pc Hi.out hb rfl,trivial⟩
     | 7,_,Hi =>
       have x1:=X1.g Hi.out (by kernel_rfl)
       have x6:=X6.g Hi.out (by kernel_rfl)
       refine stepH rfl fun K' hK=>?_
       go_simp
       with_reducible refine(C2.out _ (HB0.out.trans (HI.out.world.mono HB0.out.size))).mono ?_
       rintro e W' ⟨rfl,hb⟩
       exact hK.out _ _ ⟨HI.out.pc Hi.out hb rfl,trivial⟩
     | 8,_,Hi =>
       have x7:=X7.g Hi.out (by kernel_rfl)
       refine stepH rfl fun K' hK=>?_
       go_simp
       with_reducible refine(C3.out _ (HB0.out.trans (HI.out.world.mono HB0.out.size))).mono ?_
       rintro e W' ⟨rfl,hb⟩
       exact hK.out _ _ ⟨HI.out.pc Hi.out hb rfl,trivial⟩
     | 9,_,Hi =>
       have x8:=X8.g Hi.out (by kernel_rfl)
       refine stepH rfl fun K' hK=>?_
       go_simp
       exact hK.out _ _ ⟨HI.out.pv Hi.out rfl,trivial⟩
     | 10,_,Hi =>
       have x8:=X8.g Hi.out (by kernel_rfl)
       refine stepH rfl fun K' hK=>?_
       go_simp
       exact hK.out _ _ ⟨HI.out.pv Hi.out rfl,trivial⟩
     | 11,_,Hi =>
       have x9:=X9.g Hi.out (by kernel_rfl)
       refine stepH rfl fun K' hK=>?_
       go_simp
       exact hK.out _ _ ⟨HI.out.pv Hi.out rfl,trivial⟩
     | 12,_,Hi =>
       have x10:=X10.g Hi.out (by kernel_rfl)
       refine stepH rfl fun K' hK=>?_
       go_simp
       exact hK.out _ _ ⟨HI.out.pv Hi.out rfl,trivial⟩
     | n+13,h,_=>exact absurd h (by omega)
   · intro listed a W hI hD hall
     have HBW:=hid hI.world
     have HI:=hid hI
     have HA:=hid hall
     clear hI hall
     have HBX:=hid (HB0.out.trans (HBW.out.mono HB0.out.size))
     refine tail_nil ?_
     exact⟨rfl,(HI.out.finx ⟨HI.out.sx HA.out 0,HI.out.sx HA.out 1,HI.out.sx HA.out 2,HI.out.sx HA.out 3,HI.out.sx HA.out 4,HI.out.sx HA.out 5,HI.out.sx HA.out 6,HI.out.sx HA.out 7,HI.out.sx HA.out 8,HI.out.sx HA.out 9,HI.out.sx HA.out 10,HI.out.sx HA.out 11,HI.out.sx HA.out 12,trivial⟩ rfl),HBX.out⟩
 rintro a' W1 ⟨rfl,z0⟩
 have HB1:=hid z0
 clear z0
 simp only[putL,List.setIfInBounds_toArray,List.set_cons_zero,List.set_cons_succ]
 go_wp2
 exact bodyPost_ret (v:=.tuple #[.string r,.int .i64 er]) (by simp[results,Tryz.results19,go_sem]) rfl ⟨rfl,HB1.out⟩
end Go.Proofs.YtklfllmfcckgjaaGreatDoor
