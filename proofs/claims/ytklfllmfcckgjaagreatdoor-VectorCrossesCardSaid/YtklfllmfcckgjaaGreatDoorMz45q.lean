/- Texts of this proof, one behind the other. -/
import Derived.Test.YtklfllmfcckgjaaGreatDoorMz40q
namespace Go.Proofs.YtklfllmfcckgjaaGreatDoor
open Go.RowKit Go.Gb
set_option maxRecDepth 100000 in
theorem eq_arr3_gen (d:Nat)(a b c x y z:ByteArray)(W:World):(Op.equalIn (d+1+1) 59 (.agg #[.string a,.string b,.string c]) (.agg #[.string x,.string y,.string z])).run Tryz.prog W=.ok (a.toList==x.toList&&(b.toList==y.toList&&c.toList==z.toList)) W:=by
 have hs:∀ a b:ByteArray,∀ W,(Op.equalIn (d+1) 22 (.string a) (.string b)).run Tryz.prog W=.ok (a.toList==b.toList) W:=fun a b W=>run_equalIn_string W d 22 a b Tryz.underlying22
 have p0:∀ (a b c:ByteArray) W,(part 22 #[.string a,.string b,.string c] 0).run Tryz.prog W=.ok (.string a) W:=fun _ _ _ _=>by kernel_rfl
 have p1:∀ (a b c:ByteArray) W,(part 22 #[.string a,.string b,.string c] 1).run Tryz.prog W=.ok (.string b) W:=fun _ _ _ _=>by kernel_rfl
 have p2:∀ (a b c:ByteArray) W,(part 22 #[.string a,.string b,.string c] 2).run Tryz.prog W=.ok (.string c) W:=fun _ _ _ _=>by kernel_rfl
 have hc:∀ W,(sizeOf 22).run Tryz.prog W=.ok 1 W:=fun _=>by kernel_rfl
 generalize d+1=k at *
 have hu:=Tryz.underlying59
 simp only[Op.equalIn,Sem.run_bind,run_underlying hu,Result.andThen_ok,hc]
 rw[show([:3]:Std.Legacy.Range)=[0:3]from rfl]
 simp only[Std.Legacy.Range.forIn_eq_forIn_range',Std.Legacy.Range.size,List.range',List.forIn_cons,List.forIn_nil,Sem.run_bind,Nat.mul_one,Nat.zero_add,p0,hs,Result.andThen_ok]
 cases a.toList==x.toList<;>cases h2:b.toList==y.toList<;>cases h3:c.toList==z.toList<;>simp[Sem.run_pure,Sem.run_bind,h2,h3,p1,p2,hs]
def sameA (a b c x y z:ByteArray):Bool:=a.toList==x.toList&&(b.toList==y.toList&&c.toList==z.toList)
theorem eq_arr3 {a b c x y z:ByteArray}{r:Bool}(h:sameA a b c x y z=r)(W:World):(Op.equalIn 10000 59 (.agg #[.string a,.string b,.string c]) (.agg #[.string x,.string y,.string z])).run Tryz.prog W=.ok r W:=by
 subst h
 exact eq_arr3_gen 9998 a b c x y z W
end Go.Proofs.YtklfllmfcckgjaaGreatDoor
set_option maxRecDepth 100000
set_option maxHeartbeats 20000000
open Go.Lib (hid)
namespace Go.Proofs.YtklfllmfcckgjaaGreatDoor
open Go.RowKit Go.Gb
theorem vvalid_yes (x y z:ByteArray)(w₀:World)(h1:CV w₀ 15 #[.string x] (.bool true))(h2:CV w₀ 15 #[.string y] (.bool true))(h3:CV w₀ 15 #[.string z] (.bool true))  :
 CV w₀ 9 #[.agg #[.string x,.string y,.string z]] (.bool true):=by
 intro w hw
 have C1:=hid (h1.mono hw)
 have C2:=hid (h2.mono hw)
 have C3:=hid (h3.mono hw)
 have i0:=cix0 x y z
 have i1:=cix1 x y z
 have i2:=cix2 x y z
 clear h1 h2 h3 hw
 go_enter Tryz.func9,Tryz.ntmps9
 go_upto_region 1 with fail
 refine wp_boxes w [(#[.string x,.string y,.string z],24)] rfl ?_
 rintro W0 ⟨k1,hb⟩
 have HB0:=hid (show Below w.heap.size w W0 from hb)
 have K1:=hid k1
 clear k1 hb
 have dK10:=K1.out.cell (i:=0) rfl
 have dK11:=K1.out.cell (i:=1) rfl
 have dK12:=K1.out.cell (i:=2) rfl
 go_wp2_with fail
 with_reducible refine(vread x y z _ _ HB0.out).mono ?_
 rintro e W1 ⟨rfl,hb⟩
 clear dK10 dK11 dK12
 have HB1:=hbt HB0 hb
 clear hb
 go_wp2
 refine wp_loop_rounds 4 ?_
 rw[rounds_succ]
 go_wp2_with fail
 with_reducible refine(C1.out _ HB1.out).mono ?_
 rintro e W2 ⟨rfl,hb⟩
 have HB2:=hbt HB1 hb
 clear hb
 go_wp2
 rw[rounds_succ]
 go_wp2_with fail
 with_reducible refine(C2.out _ HB2.out).mono ?_
 rintro e W3 ⟨rfl,hb⟩
 have HB3:=hbt HB2 hb
 clear hb
 go_wp2
 rw[rounds_succ]
 go_wp2_with fail
 with_reducible refine(C3.out _ HB3.out).mono ?_
 rintro e W4 ⟨rfl,hb⟩
 have HB4:=hbt HB3 hb
 clear hb
 go_wp2
 rw[rounds_succ]
 go_wp2
 exact bodyPost_ret (v:=.bool true) (by simp[results,Tryz.results9,go_sem]) rfl ⟨rfl,HB4.out⟩
theorem vheight_zero (c u v t:ByteArray)(w₀:World)   :
 CV w₀ 41 #[.agg #[.string ⟨#[48]⟩,.string ⟨#[48]⟩,.string ⟨#[48]⟩,.string c],.agg #[.string u,.string v,.string t]] (.tuple #[.string ⟨#[]⟩,.int .i64 1]):=by
 intro w hw
 have hq:=eq_arr3 (show sameA ⟨#[48]⟩ ⟨#[48]⟩ ⟨#[48]⟩ ⟨#[48]⟩ ⟨#[48]⟩ ⟨#[48]⟩=true from by unfold sameA;simp)
 clear hw
 go_enter Tryz.func41,Tryz.ntmps41
 go_upto_region 1 with fail
 refine wp_boxes w [(#[.string ⟨#[48]⟩,.string ⟨#[48]⟩,.string ⟨#[48]⟩,.string c],28),(#[.string u,.string v,.string t],24)] rfl ?_
 rintro W0 ⟨k1,k2,hb⟩
 have HB0:=hid (show Below w.heap.size w W0 from hb)
 have K1:=hid k1
 have K2:=hid k2
 clear k1 k2 hb
 have dK10:=K1.out.cell (i:=0) rfl
 have dK11:=K1.out.cell (i:=1) rfl
 have dK12:=K1.out.cell (i:=2) rfl
 go_wp2_with fail
 with_reducible refine(vread ⟨#[48]⟩ ⟨#[48]⟩ ⟨#[48]⟩ _ _ HB0.out).mono ?_
 rintro e W1 ⟨rfl,hb⟩
 clear dK10 dK11 dK12
 have K1:=hid (K1.out.below hb)
 have K2:=hid (K2.out.below hb)
 have HB1:=hbt HB0 hb
 clear hb
 go_upto_region 2 with fail
 refine wp_boxes W1 [(#[.string ⟨#[48]⟩,.string ⟨#[48]⟩,.string ⟨#[48]⟩],59)] rfl ?_
 have L1:=K1.out.lt
 have L2:=K2.out.lt
 have L3:=HB1.out.size
 rintro W2 ⟨k3,hb⟩
 have hb:Below W1.heap.size W1 W2:=hb
 have HB2:=hbt HB1 hb
 have K3:=hid k3
 clear k3 hb
 go_wp2_with fail
 refine wp_region_post (fun a0 a' V=>a'=⟨putL [(10,.agg #[.string ⟨#[48]⟩,.string ⟨#[48]⟩,.string ⟨#[48]⟩]),(11,.agg #[.string ⟨#[48]⟩,.string ⟨#[48]⟩,.string ⟨#[48]⟩]),(12,.bool true)] a0.tmps,a0.defers⟩∧Below w.heap.size w V) ?_ ?_
 · refine wp_region_tail_d (by kernel_rfl) 3 0 (fun i=>[10,11,12].getD i 0) (RelR [Rel.val (.agg #[.string ⟨#[48]⟩,.string ⟨#[48]⟩,.string ⟨#[48]⟩]),Rel.val (.agg #[.string ⟨#[48]⟩,.string ⟨#[48]⟩,.string ⟨#[48]⟩]),Rel.val (.bool true)]) (fun W=>Below W2.heap.size W2 W) (fun _ _=>True) (by kernel_rfl) (by kernel_rfl) (by kernel_rfl) trivial (Below.refl _ _).drew ?_ ?_
   · intro listed a W i hI hD hrd him
     have HI:=hid hI
     have HD:=hid hD
     have Hr:=hid hrd
     clear hI hrd hD
     have y6:a.tmps[6]? = some (.pointer (some ⟨W1.heap.size,0,none⟩)):=HI.out.rest 6 (by decide)
     have dK30:=(K3.out.below HI.out.world).cell (i:=0) rfl
     have dK31:=(K3.out.below HI.out.world).cell (i:=1) rfl
     have dK32:=(K3.out.below HI.out.world).cell (i:=2) rfl
     have X0:RV _ listed a 0 10 (.agg #[.string ⟨#[48]⟩,.string ⟨#[48]⟩,.string ⟨#[48]⟩]):=HI.out.rh
     have X1:RV _ listed a 1 11 (.agg #[.string ⟨#[48]⟩,.string ⟨#[48]⟩,.string ⟨#[48]⟩]):=HI.out.rh
     match i,him,Hr with
     | 0,_,Hi =>
       refine stepH rfl fun K' hK=>?_
       go_simp
       exact hK.out _ _ ⟨HI.out.pv Hi.out rfl,trivial⟩
     | 1,_,Hi =>
       refine stepH rfl fun K' hK=>?_
       go_simp
       with_reducible refine(vzero _ _ (HB2.out.trans (HI.out.world.mono HB2.out.size))).mono ?_
       rintro e W' ⟨rfl,hb⟩
       exact hK.out _ _ ⟨HI.out.pc Hi.out hb rfl,trivial⟩
     | 2,_,Hi =>
       have x0:=X0.g Hi.out (by kernel_rfl)
       have x1:=X1.g Hi.out (by kernel_rfl)
       refine stepH rfl fun K' hK=>?_
       go_simp
       exact hK.out _ _ ⟨HI.out.pv Hi.out rfl,trivial⟩
     | n+3,h,_=>exact absurd h (by omega)
   · intro listed a W hI hD hall
     have HBW:=hid hI.world
     have HI:=hid hI
     have HA:=hid hall
     clear hI hall
     have HBX:=hid (HB2.out.trans (HBW.out.mono HB2.out.size))
     refine tail_nil ?_
     exact⟨rfl,(HI.out.finx ⟨HI.out.sx HA.out 0,HI.out.sx HA.out 1,HI.out.sx HA.out 2,trivial⟩ rfl),HBX.out⟩
 rintro a' W3 ⟨rfl,z0⟩
 have HB3:=hid z0
 clear z0
 simp only[putL,List.setIfInBounds_toArray,List.set_cons_zero,List.set_cons_succ]
 go_wp2
 exact bodyPost_ret (v:=.tuple #[.string ⟨#[]⟩,.int .i64 1]) (by simp[results,Tryz.results41,go_sem]) rfl ⟨rfl,HB3.out⟩
theorem vheight_raw (x y z c u v t s r g:ByteArray)(er:Int)(w₀:World)(h1:CV w₀ 34 #[.agg #[.string x,.string y,.string z],.agg #[.string u,.string v,.string t]] (.string s))(h2:CV w₀ 39 #[.string s,.string c] (.string r))(h3:CV w₀ 33 #[.string r] (.tuple #[.string g,.int .i64 er]))(hz:sameA x y z ⟨#[48]⟩ ⟨#[48]⟩ ⟨#[48]⟩=false) :
 CV w₀ 41 #[.agg #[.string x,.string y,.string z,.string c],.agg #[.string u,.string v,.string t]] (.tuple #[.string g,.int .i64 er]):=by
 intro w hw
 have C1:=hid (h1.mono hw)
 have C2:=hid (h2.mono hw)
 have C3:=hid (h3.mono hw)
 have hq:=eq_arr3 hz
 clear hz h1 h2 h3 hw
 go_enter Tryz.func41,Tryz.ntmps41
 go_upto_region 1 with fail
 refine wp_boxes w [(#[.string x,.string y,.string z,.string c],28),(#[.string u,.string v,.string t],24)] rfl ?_
 rintro W0 ⟨k1,k2,hb⟩
 have HB0:=hid (show Below w.heap.size w W0 from hb)
 have K1:=hid k1
 have K2:=hid k2
 clear k1 k2 hb
 have dK10:=K1.out.cell (i:=0) rfl
 have dK11:=K1.out.cell (i:=1) rfl
 have dK12:=K1.out.cell (i:=2) rfl
 go_wp2_with fail
 with_reducible refine(vread x y z _ _ HB0.out).mono ?_
 rintro e W1 ⟨rfl,hb⟩
 clear dK10 dK11 dK12
 have K1:=hid (K1.out.below hb)
 have K2:=hid (K2.out.below hb)
 have HB1:=hbt HB0 hb
 clear hb
 go_upto_region 2 with fail
 refine wp_boxes W1 [(#[.string x,.string y,.string z],59)] rfl ?_
 have L1:=K1.out.lt
 have L2:=K2.out.lt
 have L3:=HB1.out.size
 rintro W2 ⟨k3,hb⟩
 have hb:Below W1.heap.size W1 W2:=hb
 have K1:=hid (K1.out.below hb)
 have K2:=hid (K2.out.below hb)
 have HB2:=hbt HB1 hb
 have K3:=hid k3
 clear k3 hb
 go_wp2_with fail
 refine wp_region_post (fun a0 a' V=>a'=⟨putL [(10,.agg #[.string x,.string y,.string z]),(11,.agg #[.string ⟨#[48]⟩,.string ⟨#[48]⟩,.string ⟨#[48]⟩]),(12,.bool false)] a0.tmps,a0.defers⟩∧Below w.heap.size w V∧SBk V (w.heap.size) #[.string x,.string y,.string z,.string c] 28∧SBk V (w.heap.size+1) #[.string u,.string v,.string t] 24∧SBk V (W1.heap.size) #[.string x,.string y,.string z] 59) ?_ ?_
 · refine wp_region_tail_d (by kernel_rfl) 3 0 (fun i=>[10,11,12].getD i 0) (RelR [Rel.val (.agg #[.string x,.string y,.string z]),Rel.val (.agg #[.string ⟨#[48]⟩,.string ⟨#[48]⟩,.string ⟨#[48]⟩]),Rel.val (.bool false)]) (fun W=>Below W2.heap.size W2 W) (fun _ _=>True) (by kernel_rfl) (by kernel_rfl) (by kernel_rfl) trivial (Below.refl _ _).drew ?_ ?_
   · intro listed a W i hI hD hrd him
     have HI:=hid hI
     have HD:=hid hD
     have Hr:=hid hrd
     clear hI hrd hD
     have y6:a.tmps[6]? = some (.pointer (some ⟨W1.heap.size,0,none⟩)):=HI.out.rest 6 (by decide)
     have dK30:=(K3.out.below HI.out.world).cell (i:=0) rfl
     have dK31:=(K3.out.below HI.out.world).cell (i:=1) rfl
     have dK32:=(K3.out.below HI.out.world).cell (i:=2) rfl
     have X0:RV _ listed a 0 10 (.agg #[.string x,.string y,.string z]):=HI.out.rh
     have X1:RV _ listed a 1 11 (.agg #[.string ⟨#[48]⟩,.string ⟨#[48]⟩,.string ⟨#[48]⟩]):=HI.out.rh
     match i,him,Hr with
     | 0,_,Hi =>
       refine stepH rfl fun K' hK=>?_
       go_simp
       exact hK.out _ _ ⟨HI.out.pv Hi.out rfl,trivial⟩
     | 1,_,Hi =>
       refine stepH rfl fun K' hK=>?_
       go_simp
       with_reducible refine(vzero _ _ (HB2.out.trans (HI.out.world.mono HB2.out.size))).mono ?_
       rintro e W' ⟨rfl,hb⟩
       exact hK.out _ _ ⟨HI.out.pc Hi.out hb rfl,trivial⟩
     | 2,_,Hi =>
       have x0:=X0.g Hi.out (by kernel_rfl)
       have x1:=X1.g Hi.out (by kernel_rfl)
       refine stepH rfl fun K' hK=>?_
       go_simp
       exact hK.out _ _ ⟨HI.out.pv Hi.out rfl,trivial⟩
     | n+3,h,_=>exact absurd h (by omega)
   · intro listed a W hI hD hall
     have HBW:=hid hI.world
     have HI:=hid hI
     have HA:=hid hall
     clear hI hall
     have K1:=hid (K1.out.below HBW.out)
     have K2:=hid (K2.out.below HBW.out)
     have K3:=hid (K3.out.below HBW.out)
     have HBX:=hid (HB2.out.trans (HBW.out.mono HB2.out.size))
     refine tail_nil ?_
     exact⟨rfl,(HI.out.finx ⟨HI.out.sx HA.out 0,HI.out.sx HA.out 1,HI.out.sx HA.out 2,trivial⟩ rfl),HBX.out,K1.out,K2.out,K3.out⟩
 rintro a' W3 ⟨rfl,z0,z1,z2,z3⟩
 have HB3:=hid z0
 have K1:=hid z1
 have K2:=hid z2
 have K3:=hid z3
 clear z0 z1 z2 z3
 simp only[putL,List.setIfInBounds_toArray,List.set_cons_zero,List.set_cons_succ]
 go_wp2_with fail
 refine wp_region_post (fun a0 a' V=>a'=⟨putL [(13,.agg #[.string x,.string y,.string z]),(14,.agg #[.string u,.string v,.string t]),(15,.agg #[.string u,.string v,.string t]),(16,.string s),(17,.pointer (some ⟨w.heap.size,3,none⟩)),(18,.string c),(19,.string r),(20,.tuple #[.string g,.int .i64 er]),(21,.string g),(22,.int .i64 er),(4,.string g),(5,.int .i64 er)] a0.tmps,a0.defers⟩∧Below w.heap.size w V) ?_ ?_
 · refine wp_region_tail_d (by kernel_rfl) 12 0 (fun i=>[13,14,15,16,17,18,19,20,21,22,4,5].getD i 0) (RelR [Rel.val (.agg #[.string x,.string y,.string z]),Rel.val (.agg #[.string u,.string v,.string t]),Rel.val (.agg #[.string u,.string v,.string t]),Rel.val (.string s),Rel.val (.pointer (some ⟨w.heap.size,3,none⟩)),Rel.val (.string c),Rel.val (.string r),Rel.val (.tuple #[.string g,.int .i64 er]),Rel.val (.string g),Rel.val (.int .i64 er),Rel.val (.string g),Rel.val (.int .i64 er)]) (fun W=>Below W3.heap.size W3 W) (fun _ _=>True) (by kernel_rfl) (by kernel_rfl) (by kernel_rfl) trivial (Below.refl _ _).drew ?_ ?_
   · intro listed a W i hI hD hrd him
     have HI:=hid hI
     have HD:=hid hD
     have Hr:=hid hrd
     clear hI hrd hD
     have y6:a.tmps[6]? = some (.pointer (some ⟨W1.heap.size,0,none⟩)):=HI.out.rest 6 (by decide)
     have y3:a.tmps[3]? = some (.pointer (some ⟨w.heap.size+1,0,none⟩)):=HI.out.rest 3 (by decide)
     have y2:a.tmps[2]? = some (.pointer (some ⟨w.heap.size,0,none⟩)):=HI.out.rest 2 (by decide)
     have dK30:=(K3.out.below HI.out.world).cell (i:=0) rfl
     have dK31:=(K3.out.below HI.out.world).cell (i:=1) rfl
     have dK32:=(K3.out.below HI.out.world).cell (i:=2) rfl
     have dK20:=(K2.out.below HI.out.world).cell (i:=0) rfl
     have dK21:=(K2.out.below HI.out.world).cell (i:=1) rfl
     have dK22:=(K2.out.below HI.out.world).cell (i:=2) rfl
     have dK13:=(K1.out.below HI.out.world).cell (i:=3) rfl
     have X1:RV _ listed a 1 14 (.agg #[.string u,.string v,.string t]):=HI.out.rh
     have X0:RV _ listed a 0 13 (.agg #[.string x,.string y,.string z]):=HI.out.rh
     have X2:RV _ listed a 2 15 (.agg #[.string u,.string v,.string t]):=HI.out.rh
     have X4:RV _ listed a 4 17 (.pointer (some ⟨w.heap.size,3,none⟩)):=HI.out.rh
     have X3:RV _ listed a 3 16 (.string s):=HI.out.rh
     have X5:RV _ listed a 5 18 (.string c):=HI.out.rh
     have X6:RV _ listed a 6 19 (.string r):=HI.out.rh
     have X7:RV _ listed a 7 20 (.tuple #[.string g,.int .i64 er]):=HI.out.rh
     have X8:RV _ listed a 8 21 (.string g):=HI.out.rh
     have X9:RV _ listed a 9 22 (.int .i64 er):=HI.out.rh
     match i,him,Hr with
     | 0,_,Hi =>
       refine stepH rfl fun K' hK=>?_
       go_simp
       exact hK.out _ _ ⟨HI.out.pv Hi.out rfl,trivial⟩
     | 1,_,Hi =>
       refine stepH rfl fun K' hK=>?_
       go_simp
       exact hK.out _ _ ⟨HI.out.pv Hi.out rfl,trivial⟩
     | 2,_,Hi =>
       have x1:=X1.g Hi.out (by kernel_rfl)
       refine stepH rfl fun K' hK=>?_
       go_simp
       with_reducible refine(vread u v t _ _ (HB3.out.trans (HI.out.world.mono HB3.out.size))).mono ?_
       rintro e W' ⟨rfl,hb⟩
       exact hK.out _ _ ⟨HI.out.pc Hi.out hb rfl,trivial⟩
     | 3,_,Hi =>
       have x0:=X0.g Hi.out (by kernel_rfl)
       have x2:=X2.g Hi.out (by kernel_rfl)
       refine stepH rfl fun K' hK=>?_
       go_simp
       with_reducible refine(C1.out _ (HB3.out.trans (HI.out.world.mono HB3.out.size))).mono ?_
       rintro e W' ⟨rfl,hb⟩
       exact hK.out _ _ ⟨HI.out.pc Hi.out hb rfl,trivial⟩
     | 4,_,Hi =>
       refine stepH rfl fun K' hK=>?_
       go_simp
       exact hK.out _ _ ⟨HI.out.pv Hi.out rfl,trivial⟩
     | 5,_,Hi =>
       have x4:=X4.g Hi.out (by kernel_rfl)
       refine stepH rfl fun K' hK=>?_
       go_simp
       exact hK.out _ _ ⟨HI.out.pv Hi.out rfl,trivial⟩
     | 6,_,Hi =>
       have x3:=X3.g Hi.out (by kernel_rfl)
       have x5:=X5.g Hi.out (by kernel_rfl)
       refine stepH rfl fun K' hK=>?_
       go_simp
       with_reducible refine(C2.out _ (HB3.out.trans (HI.out.world.mono HB3.out.size))).mono ?_
       rintro e W' ⟨rfl,hb⟩
       exact hK.out _ _ ⟨HI.out.pc Hi.out hb rfl,trivial⟩
     | 7,_,Hi =>
       have x6:=X6.g Hi.out (by kernel_rfl)
       refine stepH rfl fun K' hK=>?_
       go_simp
       with_reducible refine(C3.out _ (HB3.out.trans (HI.out.world.mono HB3.out.size))).mono ?_
       rintro e W' ⟨rfl,hb⟩
       exact hK.out _ _ ⟨HI.out.pc Hi.out hb rfl,trivial⟩
     | 8,_,Hi =>
       have x7:=X7.g Hi.out (by kernel_rfl)
       refine stepH rfl fun K' hK=>?_
       go_simp
       exact hK.out _ _ ⟨HI.out.pv Hi.out rfl,trivial⟩
     | 9,_,Hi =>
       have x7:=X7.g Hi.out (by kernel_rfl)
       refine stepH rfl fun K' hK=>?_
       go_simp
       exact hK.out _ _ ⟨HI.out.pv Hi.out rfl,trivial⟩
     | 10,_,Hi =>
       have x8:=X8.g Hi.out (by kernel_rfl)
       refine stepH rfl fun K' hK=>?_
       go_simp
       exact hK.out _ _ ⟨HI.out.pv Hi.out rfl,trivial⟩
     | 11,_,Hi =>
       have x9:=X9.g Hi.out (by kernel_rfl)
       refine stepH rfl fun K' hK=>?_
       go_simp
       exact hK.out _ _ ⟨HI.out.pv Hi.out rfl,trivial⟩
     | n+12,h,_=>exact absurd h (by omega)
   · intro listed a W hI hD hall
     have HBW:=hid hI.world
     have HI:=hid hI
     have HA:=hid hall
     clear hI hall
     have HBX:=hid (HB3.out.trans (HBW.out.mono HB3.out.size))
     refine tail_nil ?_
     exact⟨rfl,(HI.out.finx ⟨HI.out.sx HA.out 0,HI.out.sx HA.out 1,HI.out.sx HA.out 2,HI.out.sx HA.out 3,HI.out.sx HA.out 4,HI.out.sx HA.out 5,HI.out.sx HA.out 6,HI.out.sx HA.out 7,HI.out.sx HA.out 8,HI.out.sx HA.out 9,HI.out.sx HA.out 10,HI.out.sx HA.out 11,trivial⟩ rfl),HBX.out⟩
 rintro a' W4 ⟨rfl,z0⟩
 have HB4:=hid z0
 clear z0
 simp only[putL,List.setIfInBounds_toArray,List.set_cons_zero,List.set_cons_succ]
 go_wp2
 exact bodyPost_ret (v:=.tuple #[.string g,.int .i64 er]) (by simp[results,Tryz.results41,go_sem]) rfl ⟨rfl,HB4.out⟩
theorem vside_raw (x y z c u v t g:ByteArray)(er k:Int)(w₀:World)(h1:CV w₀ 41 #[.agg #[.string x,.string y,.string z,.string c],.agg #[.string u,.string v,.string t]] (.tuple #[.string g,.int .i64 er]))(h2:CV w₀ 42 #[.string g,.string ⟨#[48]⟩] (.int .i64 k))  :
 CV w₀ 21 #[.agg #[.string x,.string y,.string z,.string c],.agg #[.string u,.string v,.string t]] (.tuple #[.int .i64 k,.int .i64 er]):=by
 intro w hw
 have C1:=hid (h1.mono hw)
 have C2:=hid (h2.mono hw)
 clear h1 h2 hw
 go_enter Tryz.func21,Tryz.ntmps21
 go_upto_region 1 with fail
 refine wp_boxes w [(#[.string x,.string y,.string z,.string c],28),(#[.string u,.string v,.string t],24)] rfl ?_
 rintro W0 ⟨k1,k2,hb⟩
 have HB0:=hid (show Below w.heap.size w W0 from hb)
 have K1:=hid k1
 have K2:=hid k2
 clear k1 k2 hb
 have dK10:=K1.out.cell (i:=0) rfl
 have dK11:=K1.out.cell (i:=1) rfl
 have dK12:=K1.out.cell (i:=2) rfl
 have dK13:=K1.out.cell (i:=3) rfl
 have dK20:=K2.out.cell (i:=0) rfl
 have dK21:=K2.out.cell (i:=1) rfl
 have dK22:=K2.out.cell (i:=2) rfl
 go_wp2_with fail
 with_reducible refine(C1.out _ HB0.out).mono ?_
 rintro e W1 ⟨rfl,hb⟩
 clear dK10 dK11 dK12 dK13 dK20 dK21 dK22
 have HB1:=hbt HB0 hb
 clear hb
 go_wp2_with fail
 with_reducible refine(C2.out _ HB1.out).mono ?_
 rintro e W2 ⟨rfl,hb⟩
 have HB2:=hbt HB1 hb
 clear hb
 go_wp2
 exact bodyPost_ret (v:=.tuple #[.int .i64 k,.int .i64 er]) (by simp[results,Tryz.results21,go_sem]) rfl ⟨rfl,HB2.out⟩
theorem vabove_raw (x:ByteArray)(k:Int)(b:Bool)(w₀:World)(h1:CV w₀ 42 #[.string x,.string ⟨#[48]⟩] (.int .i64 k))(hb0:decide (0<k)=b) :
 CV w₀ 45 #[.string x] (.bool b):=by
 intro w hw
 have C1:=hid (h1.mono hw)
 clear h1 hw
 go_enter Tryz.func45,Tryz.ntmps45
 have HB0:=hid (Below.refl w.heap.size w)
 go_wp2_with fail
 with_reducible refine(C1.out _ HB0.out).mono ?_
 rintro e W1 ⟨rfl,hb⟩
 have HB1:=hbt HB0 hb
 clear hb
 go_wp2
 exact bodyPost_ret (v:=.bool b) (by simp[results,Tryz.results45,go_sem]) rfl ⟨rfl,HB1.out⟩
end Go.Proofs.YtklfllmfcckgjaaGreatDoor
