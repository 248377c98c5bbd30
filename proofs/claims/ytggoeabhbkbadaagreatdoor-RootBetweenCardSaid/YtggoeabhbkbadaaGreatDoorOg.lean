/- root: near, Exact, Sqrt, terms, Sign, Compare: walks over the contracts of what they call. -/
import Derived.Test.YtggoeabhbkbadaaGreatDoorMz3q
set_option maxRecDepth 100000
set_option maxHeartbeats 20000000
open Go.Lib (hid)
namespace Go.Proofs.YtggoeabhbkbadaaGreatDoor
open Go.RowKit Go.Gb
theorem onear_exact (x pt pp sq fl rk z:ByteArray)(n:Int)(w₀:World)(h1:CV w₀ 32 #[.int .i64 n] (.string pt))(h2:CV w₀ 40 #[.string pt,.string pt] (.string pp))(h3:CV w₀ 40 #[.string x,.string pp] (.string sq))(h4:CV w₀ 75 #[.string sq] (.string fl))(h5:CV w₀ 39 #[.string fl] (.string rk))(h6:CV w₀ 40 #[.string rk,.string rk] (.string sq))(h7:CV w₀ 38 #[.string rk,.string pt] (.string z))  :
 CV w₀ 47 #[.string x,.int .i64 n] (.string z):=by
 intro w hw
 have C1:=hid (h1.mono hw)
 have C2:=hid (h2.mono hw)
 have C3:=hid (h3.mono hw)
 have C4:=hid (h4.mono hw)
 have C5:=hid (h5.mono hw)
 have C6:=hid (h6.mono hw)
 have C7:=hid (h7.mono hw)
 clear h1 h2 h3 h4 h5 h6 h7 hw
 go_enter Tryz.func47,Tryz.ntmps47
 have HB0:=hid (Below.refl w.heap.size w)
 go_wp2_with fail
 with_reducible refine(C1.out _ HB0.out).mono ?_
 rintro e W1 ⟨rfl,hb⟩
 have HB1:=hbt HB0 hb
 clear hb
 go_wp2_with fail
 with_reducible refine(C2.out _ HB1.out).mono ?_
 rintro e W2 ⟨rfl,hb⟩
 have HB2:=hbt HB1 hb
 clear hb
 go_wp2_with fail
 with_reducible refine(C3.out _ HB2.out).mono ?_
 rintro e W3 ⟨rfl,hb⟩
 have HB3:=hbt HB2 hb
 clear hb
 go_wp2_with fail
 with_reducible refine(C4.out _ HB3.out).mono ?_
 rintro e W4 ⟨rfl,hb⟩
 have HB4:=hbt HB3 hb
 clear hb
 go_wp2_with fail
 with_reducible refine(C5.out _ HB4.out).mono ?_
 rintro e W5 ⟨rfl,hb⟩
 have HB5:=hbt HB4 hb
 clear hb
 go_wp2_with fail
 with_reducible refine(C6.out _ HB5.out).mono ?_
 rintro e W6 ⟨rfl,hb⟩
 have HB6:=hbt HB5 hb
 clear hb
 go_wp2_with fail
 with_reducible refine(C7.out _ HB6.out).mono ?_
 rintro e W7 ⟨rfl,hb⟩
 have HB7:=hbt HB6 hb
 clear hb
 go_wp2
 exact bodyPost_ret (v:=.string z) (by simp[results,Tryz.results47,go_sem]) rfl ⟨rfl,HB7.out⟩
theorem onear_half (x pt pp sq fl rk kk kh z:ByteArray)(n:Int)(w₀:World)(h1:CV w₀ 32 #[.int .i64 n] (.string pt))(h2:CV w₀ 40 #[.string pt,.string pt] (.string pp))(h3:CV w₀ 40 #[.string x,.string pp] (.string sq))(h4:CV w₀ 75 #[.string sq] (.string fl))(h5:CV w₀ 39 #[.string fl] (.string rk))(h6:CV w₀ 40 #[.string rk,.string rk] (.string kk))(h7:CV w₀ 48 #[.string rk,.string ⟨#[49,47,50]⟩] (.string kh))(h8:CV w₀ 38 #[.string kh,.string pt] (.string z))(f1:(kk.toList==sq.toList)=false) :
 CV w₀ 47 #[.string x,.int .i64 n] (.string z):=by
 intro w hw
 have C1:=hid (h1.mono hw)
 have C2:=hid (h2.mono hw)
 have C3:=hid (h3.mono hw)
 have C4:=hid (h4.mono hw)
 have C5:=hid (h5.mono hw)
 have C6:=hid (h6.mono hw)
 have C7:=hid (h7.mono hw)
 have C8:=hid (h8.mono hw)
 have g1:=f1
 clear f1 h1 h2 h3 h4 h5 h6 h7 h8 hw
 go_enter Tryz.func47,Tryz.ntmps47
 have HB0:=hid (Below.refl w.heap.size w)
 go_wp2_with fail
 with_reducible refine(C1.out _ HB0.out).mono ?_
 rintro e W1 ⟨rfl,hb⟩
 have HB1:=hbt HB0 hb
 clear hb
 go_wp2_with fail
 with_reducible refine(C2.out _ HB1.out).mono ?_
 rintro e W2 ⟨rfl,hb⟩
 have HB2:=hbt HB1 hb
 clear hb
 go_wp2_with fail
 with_reducible refine(C3.out _ HB2.out).mono ?_
 rintro e W3 ⟨rfl,hb⟩
 have HB3:=hbt HB2 hb
 clear hb
 go_wp2_with fail
 with_reducible refine(C4.out _ HB3.out).mono ?_
 rintro e W4 ⟨rfl,hb⟩
 have HB4:=hbt HB3 hb
 clear hb
 go_wp2_with fail
 with_reducible refine(C5.out _ HB4.out).mono ?_
 rintro e W5 ⟨rfl,hb⟩
 have HB5:=hbt HB4 hb
 clear hb
 go_wp2_with fail
 with_reducible refine(C6.out _ HB5.out).mono ?_
 rintro e W6 ⟨rfl,hb⟩
 have HB6:=hbt HB5 hb
 clear hb
 go_wp2_with fail
 with_reducible refine(C7.out _ HB6.out).mono ?_
 rintro e W7 ⟨rfl,hb⟩
 have HB7:=hbt HB6 hb
 clear hb
 go_wp2_with fail
 with_reducible refine(C8.out _ HB7.out).mono ?_
 rintro e W8 ⟨rfl,hb⟩
 have HB8:=hbt HB7 hb
 clear hb
 go_wp2
 exact bodyPost_ret (v:=.string z) (by simp[results,Tryz.results47,go_sem]) rfl ⟨rfl,HB8.out⟩
theorem oexact_neg (x nm dn:ByteArray)(w₀:World)(h1:CV w₀ 36 #[.string x] (.tuple #[.string nm,.string dn,.int .i64 0]))(h2:CV w₀ 37 #[.string x] (.int .i64 (-1)))  :
 CV w₀ 17 #[.string x] (.tuple #[.string ⟨#[]⟩,.bool false,.int .i64 2]):=by
 intro w hw
 have C1:=hid (h1.mono hw)
 have C2:=hid (h2.mono hw)
 clear h1 h2 hw
 go_enter Tryz.func17,Tryz.ntmps17
 have HB0:=hid (Below.refl w.heap.size w)
 go_wp2_with fail
 with_reducible refine(C1.out _ HB0.out).mono ?_
 rintro e W1 ⟨rfl,hb⟩
 have HB1:=hbt HB0 hb
 clear hb
 go_wp2_with fail
 with_reducible refine(C2.out _ HB1.out).mono ?_
 rintro e W2 ⟨rfl,hb⟩
 have HB2:=hbt HB1 hb
 clear hb
 go_wp2
 exact bodyPost_ret (v:=.tuple #[.string ⟨#[]⟩,.bool false,.int .i64 2]) (by simp[results,Tryz.results17,go_sem]) rfl ⟨rfl,HB2.out⟩
theorem oexact_yes (x nm dn rn rd fo:ByteArray)(s:Int)(w₀:World)(h1:CV w₀ 36 #[.string x] (.tuple #[.string nm,.string dn,.int .i64 0]))(h2:CV w₀ 37 #[.string x] (.int .i64 s))(h3:CV w₀ 39 #[.string nm] (.string rn))(h4:CV w₀ 39 #[.string dn] (.string rd))(h5:CV w₀ 38 #[.string rn,.string rd] (.string fo))(h6:CV w₀ 40 #[.string fo,.string fo] (.string x))(f1:decide (s<0)=false) :
 CV w₀ 17 #[.string x] (.tuple #[.string fo,.bool true,.int .i64 0]):=by
 intro w hw
 have C1:=hid (h1.mono hw)
 have C2:=hid (h2.mono hw)
 have C3:=hid (h3.mono hw)
 have C4:=hid (h4.mono hw)
 have C5:=hid (h5.mono hw)
 have C6:=hid (h6.mono hw)
 have g1:=f1
 clear f1 h1 h2 h3 h4 h5 h6 hw
 go_enter Tryz.func17,Tryz.ntmps17
 have HB0:=hid (Below.refl w.heap.size w)
 go_wp2_with fail
 with_reducible refine(C1.out _ HB0.out).mono ?_
 rintro e W1 ⟨rfl,hb⟩
 have HB1:=hbt HB0 hb
 clear hb
 go_wp2_with fail
 with_reducible refine(C2.out _ HB1.out).mono ?_
 rintro e W2 ⟨rfl,hb⟩
 have HB2:=hbt HB1 hb
 clear hb
 go_wp2_with fail
 with_reducible refine(C3.out _ HB2.out).mono ?_
 rintro e W3 ⟨rfl,hb⟩
 have HB3:=hbt HB2 hb
 clear hb
 go_wp2_with fail
 with_reducible refine(C4.out _ HB3.out).mono ?_
 rintro e W4 ⟨rfl,hb⟩
 have HB4:=hbt HB3 hb
 clear hb
 go_wp2_with fail
 with_reducible refine(C5.out _ HB4.out).mono ?_
 rintro e W5 ⟨rfl,hb⟩
 have HB5:=hbt HB4 hb
 clear hb
 go_wp2_with fail
 with_reducible refine(C6.out _ HB5.out).mono ?_
 rintro e W6 ⟨rfl,hb⟩
 have HB6:=hbt HB5 hb
 clear hb
 go_wp2
 exact bodyPost_ret (v:=.tuple #[.string fo,.bool true,.int .i64 0]) (by simp[results,Tryz.results17,go_sem]) rfl ⟨rfl,HB6.out⟩
theorem oexact_not (x nm dn rn rd fo ff:ByteArray)(s:Int)(w₀:World)(h1:CV w₀ 36 #[.string x] (.tuple #[.string nm,.string dn,.int .i64 0]))(h2:CV w₀ 37 #[.string x] (.int .i64 s))(h3:CV w₀ 39 #[.string nm] (.string rn))(h4:CV w₀ 39 #[.string dn] (.string rd))(h5:CV w₀ 38 #[.string rn,.string rd] (.string fo))(h6:CV w₀ 40 #[.string fo,.string fo] (.string ff))(f1:decide (s<0)=false)(f2:(ff.toList==x.toList)=false) :
 CV w₀ 17 #[.string x] (.tuple #[.string ⟨#[]⟩,.bool false,.int .i64 0]):=by
 intro w hw
 have C1:=hid (h1.mono hw)
 have C2:=hid (h2.mono hw)
 have C3:=hid (h3.mono hw)
 have C4:=hid (h4.mono hw)
 have C5:=hid (h5.mono hw)
 have C6:=hid (h6.mono hw)
 have g1:=f1
 have g2:=f2
 clear f1 f2 h1 h2 h3 h4 h5 h6 hw
 go_enter Tryz.func17,Tryz.ntmps17
 have HB0:=hid (Below.refl w.heap.size w)
 go_wp2_with fail
 with_reducible refine(C1.out _ HB0.out).mono ?_
 rintro e W1 ⟨rfl,hb⟩
 have HB1:=hbt HB0 hb
 clear hb
 go_wp2_with fail
 with_reducible refine(C2.out _ HB1.out).mono ?_
 rintro e W2 ⟨rfl,hb⟩
 have HB2:=hbt HB1 hb
 clear hb
 go_wp2_with fail
 with_reducible refine(C3.out _ HB2.out).mono ?_
 rintro e W3 ⟨rfl,hb⟩
 have HB3:=hbt HB2 hb
 clear hb
 go_wp2_with fail
 with_reducible refine(C4.out _ HB3.out).mono ?_
 rintro e W4 ⟨rfl,hb⟩
 have HB4:=hbt HB3 hb
 clear hb
 go_wp2_with fail
 with_reducible refine(C5.out _ HB4.out).mono ?_
 rintro e W5 ⟨rfl,hb⟩
 have HB5:=hbt HB4 hb
 clear hb
 go_wp2_with fail
 with_reducible refine(C6.out _ HB5.out).mono ?_
 rintro e W6 ⟨rfl,hb⟩
 have HB6:=hbt HB5 hb
 clear hb
 go_wp2
 exact bodyPost_ret (v:=.tuple #[.string ⟨#[]⟩,.bool false,.int .i64 0]) (by simp[results,Tryz.results17,go_sem]) rfl ⟨rfl,HB6.out⟩
theorem osqrt_no (x:ByteArray)(n:Int)(w₀:World)(h1:CV w₀ 28 #[.string x] (.tuple #[.agg #[.string ⟨#[]⟩,.string ⟨#[]⟩],.int .i64 1]))  :
 CV w₀ 9 #[.string x,.int .i64 n] (.tuple #[.agg #[.string ⟨#[]⟩,.string ⟨#[]⟩],.int .i64 1]):=by
 intro w hw
 have C1:=hid (h1.mono hw)
 clear h1 hw
 go_enter Tryz.func9,Tryz.ntmps9
 go_upto_region 1 with fail
 refine wp_boxes w [(#[.string ⟨#[]⟩,.string ⟨#[]⟩],27)] rfl ?_
 rintro W0 ⟨k1,hb⟩
 have HB0:=hid (show Below w.heap.size w W0 from hb)
 have K1:=hid k1
 clear k1 hb
 go_wp2_with fail
 with_reducible refine(C1.out _ HB0.out).mono ?_
 rintro e W1 ⟨rfl,hb⟩
 have K1:=hid (K1.out.below hb)
 have HB1:=hbt HB0 hb
 clear hb
 go_upto_region 2 with fail
 refine wp_boxes W1 [(#[.string ⟨#[]⟩,.string ⟨#[]⟩],27)] rfl ?_
 have L1:=K1.out.lt
 have L2:=HB1.out.size
 rintro W2 ⟨k2,hb⟩
 have hb:Below W1.heap.size W1 W2:=hb
 have K1:=hid (K1.out.below hb)
 have HB2:=hbt HB1 hb
 have K2:=hid k2
 clear k2 hb
 have dK10:=K1.out.cell (i:=0) rfl
 have dK11:=K1.out.cell (i:=1) rfl
 have fK10:=K1.out.frozen (i:=0)
 have fK11:=K1.out.frozen (i:=1)
 go_wp2
 exact bodyPost_ret (v:=.tuple #[.agg #[.string ⟨#[]⟩,.string ⟨#[]⟩],.int .i64 1]) (by simp[results,Tryz.results9,go_sem,dK10,dK11]) rfl ⟨rfl,(store_below (l:=[.string ⟨#[]⟩,.string ⟨#[]⟩]) (i:=0) (by omega) HB2.out)⟩
theorem osqrt_raw (x l u:ByteArray)(n er:Int)(w₀:World)(h1:CV w₀ 28 #[.string x] (.tuple #[.agg #[.string x,.string x],.int .i64 0]))(h2:CV w₀ 24 #[.agg #[.string x,.string x],.int .i64 n] (.tuple #[.agg #[.string l,.string u],.int .i64 er]))  :
 CV w₀ 9 #[.string x,.int .i64 n] (.tuple #[.agg #[.string l,.string u],.int .i64 er]):=by
 intro w hw
 have C1:=hid (h1.mono hw)
 have C2:=hid (h2.mono hw)
 clear h1 h2 hw
 go_enter Tryz.func9,Tryz.ntmps9
 go_upto_region 1 with fail
 refine wp_boxes w [(#[.string ⟨#[]⟩,.string ⟨#[]⟩],27)] rfl ?_
 rintro W0 ⟨k1,hb⟩
 have HB0:=hid (show Below w.heap.size w W0 from hb)
 have K1:=hid k1
 clear k1 hb
 go_wp2_with fail
 with_reducible refine(C1.out _ HB0.out).mono ?_
 rintro e W1 ⟨rfl,hb⟩
 have K1:=hid (K1.out.below hb)
 have HB1:=hbt HB0 hb
 clear hb
 go_upto_region 2 with fail
 refine wp_boxes W1 [(#[.string x,.string x],27)] rfl ?_
 have L1:=K1.out.lt
 have L2:=HB1.out.size
 rintro W2 ⟨k2,hb⟩
 have hb:Below W1.heap.size W1 W2:=hb
 have K1:=hid (K1.out.below hb)
 have HB2:=hbt HB1 hb
 have K2:=hid k2
 clear k2 hb
 have dK20:=K2.out.cell (i:=0) rfl
 have dK21:=K2.out.cell (i:=1) rfl
 go_wp2_with fail
 with_reducible refine(C2.out _ HB2.out).mono ?_
 rintro e W3 ⟨rfl,hb⟩
 clear dK20 dK21
 have K1:=hid (K1.out.below hb)
 have HB3:=hbt HB2 hb
 clear hb
 have dK10:=K1.out.cell (i:=0) rfl
 have dK11:=K1.out.cell (i:=1) rfl
 have fK10:=K1.out.frozen (i:=0)
 have fK11:=K1.out.frozen (i:=1)
 go_wp2
 exact bodyPost_ret (v:=.tuple #[.agg #[.string l,.string u],.int .i64 er]) (by simp[results,Tryz.results9,go_sem,dK10,dK11]) rfl ⟨rfl,(store_below (l:=[.string l,.string u]) (i:=0) (by omega) HB3.out)⟩
theorem oterm_sign (x y:ByteArray)(s t u:Int)(w₀:World)(h1:CV w₀ 37 #[.string x] (.int .i64 s))(h2:CV w₀ 37 #[.string y] (.int .i64 t))(f1:IntKind.i64.wrap (s*t)=u) :
 CV w₀ 76 #[.agg #[.string x,.string y]] (.int .i64 u):=by
 intro w hw
 have C1:=hid (h1.mono hw)
 have C2:=hid (h2.mono hw)
 have g1:=f1
 clear f1 h1 h2 hw
 go_enter Tryz.func76,Tryz.ntmps76
 go_upto_region 1 with fail
 refine wp_boxes w [(#[.string x,.string y],74)] rfl ?_
 rintro W0 ⟨k1,hb⟩
 have HB0:=hid (show Below w.heap.size w W0 from hb)
 have K1:=hid k1
 clear k1 hb
 go_wp2_with fail
 refine wp_region_post (fun a0 a' V=>a'=⟨putL [(3,.pointer (some ⟨w.heap.size,0,none⟩)),(4,.string x),(5,.int .i64 s),(6,.pointer (some ⟨w.heap.size,1,none⟩)),(7,.string y),(8,.int .i64 t),(9,.int .i64 u),(2,.int .i64 u)] a0.tmps,a0.defers⟩∧Below w.heap.size w V) ?_ ?_
 · refine wp_region_tail_d (by kernel_rfl) 8 0 (fun i=>[3,4,5,6,7,8,9,2].getD i 0) (RelR [Rel.val (.pointer (some ⟨w.heap.size,0,none⟩)),Rel.val (.string x),Rel.val (.int .i64 s),Rel.val (.pointer (some ⟨w.heap.size,1,none⟩)),Rel.val (.string y),Rel.val (.int .i64 t),Rel.val (.int .i64 u),Rel.val (.int .i64 u)]) (fun W=>Below W0.heap.size W0 W) (fun _ _=>True) (by kernel_rfl) (by kernel_rfl) (by kernel_rfl) trivial (Below.refl _ _).drew ?_ ?_
   · intro listed a W i hI hD hrd him
     have HI:=hid hI
     have HD:=hid hD
     have Hr:=hid hrd
     clear hI hrd hD
     have y1:a.tmps[1]? = some (.pointer (some ⟨w.heap.size,0,none⟩)):=HI.out.rest 1 (by decide)
     have dK10:=(K1.out.below HI.out.world).cell (i:=0) rfl
     have dK11:=(K1.out.below HI.out.world).cell (i:=1) rfl
     have X0:RV _ listed a 0 3 (.pointer (some ⟨w.heap.size,0,none⟩)):=HI.out.rh
     have X1:RV _ listed a 1 4 (.string x):=HI.out.rh
     have X3:RV _ listed a 3 6 (.pointer (some ⟨w.heap.size,1,none⟩)):=HI.out.rh
     have X4:RV _ listed a 4 7 (.string y):=HI.out.rh
     have X2:RV _ listed a 2 5 (.int .i64 s):=HI.out.rh
     have X5:RV _ listed a 5 8 (.int .i64 t):=HI.out.rh
     have X6:RV _ listed a 6 9 (.int .i64 u):=HI.out.rh
     match i,him,Hr with
     | 0,_,Hi =>
       refine stepH rfl fun K' hK=>?_
       go_simp
       exact hK.out _ _ ⟨HI.out.pv Hi.out rfl,trivial⟩
     | 1,_,Hi =>
       have x0:=X0.g Hi.out (by kernel_rfl)
       refine stepH rfl fun K' hK=>?_
       go_simp
       exact hK.out _ _ ⟨HI.out.pv Hi.out rfl,trivial⟩
     | 2,_,Hi =>
       have x1:=X1.g Hi.out (by kernel_rfl)
       refine stepH rfl fun K' hK=>?_
       go_simp
       with_reducible refine(C1.out _ (HB0.out.trans (HI.out.world.mono HB0.out.size))).mono ?_
       rintro e W' ⟨rfl,hb⟩
       exact hK.out _ _ ⟨HI.out.pc Hi.out hb rfl,trivial⟩
     | 3,_,Hi =>
       refine stepH rfl fun K' hK=>?_
       go_simp
       exact hK.out _ _ ⟨HI.out.pv Hi.out rfl,trivial⟩
     | 4,_,Hi =>
       have x3:=X3.g Hi.out (by kernel_rfl)
       refine stepH rfl fun K' hK=>?_
       go_simp
       exact hK.out _ _ ⟨HI.out.pv Hi.out rfl,trivial⟩
     | 5,_,Hi =>
       have x4:=X4.g Hi.out (by kernel_rfl)
       refine stepH rfl fun K' hK=>?_
       go_simp
       with_reducible refine(C2.out _ (HB0.out.trans (HI.out.world.mono HB0.out.size))).mono ?_
       rintro e W' ⟨rfl,hb⟩
       exact hK.out _ _ ⟨HI.out.pc Hi.out hb rfl,trivial⟩
     | 6,_,Hi =>
       have x2:=X2.g Hi.out (by kernel_rfl)
       have x5:=X5.g Hi.out (by kernel_rfl)
       refine stepH rfl fun K' hK=>?_
       go_simp
       exact hK.out _ _ ⟨HI.out.pv Hi.out rfl,trivial⟩
     | 7,_,Hi =>
       have x6:=X6.g Hi.out (by kernel_rfl)
       refine stepH rfl fun K' hK=>?_
       go_simp
       exact hK.out _ _ ⟨HI.out.pv Hi.out rfl,trivial⟩
     | n+8,h,_=>exact absurd h (by omega)
   · intro listed a W hI hD hall
     have HBW:=hid hI.world
     have HI:=hid hI
     have HA:=hid hall
     clear hI hall
     have HBX:=hid (HB0.out.trans (HBW.out.mono HB0.out.size))
     refine tail_nil ?_
     exact⟨rfl,(HI.out.finx ⟨HI.out.sx HA.out 0,HI.out.sx HA.out 1,HI.out.sx HA.out 2,HI.out.sx HA.out 3,HI.out.sx HA.out 4,HI.out.sx HA.out 5,HI.out.sx HA.out 6,HI.out.sx HA.out 7,trivial⟩ rfl),HBX.out⟩
 rintro a' W1 ⟨rfl,z0⟩
 have HB1:=hid z0
 clear z0
 simp only[putL,List.setIfInBounds_toArray,List.set_cons_zero,List.set_cons_succ]
 go_wp2
 exact bodyPost_ret (v:=.int .i64 u) (by simp[results,Tryz.results76,go_sem]) rfl ⟨rfl,HB1.out⟩
theorem oterm_square (x y p q:ByteArray)(w₀:World)(h1:CV w₀ 40 #[.string x,.string x] (.string p))(h2:CV w₀ 40 #[.string p,.string y] (.string q))  :
 CV w₀ 77 #[.agg #[.string x,.string y]] (.string q):=by
 intro w hw
 have C1:=hid (h1.mono hw)
 have C2:=hid (h2.mono hw)
 clear h1 h2 hw
 go_enter Tryz.func77,Tryz.ntmps77
 go_upto_region 1 with fail
 refine wp_boxes w [(#[.string x,.string y],74)] rfl ?_
 rintro W0 ⟨k1,hb⟩
 have HB0:=hid (show Below w.heap.size w W0 from hb)
 have K1:=hid k1
 clear k1 hb
 go_wp2_with fail
 refine wp_region_post (fun a0 a' V=>a'=⟨putL [(3,.pointer (some ⟨w.heap.size,0,none⟩)),(4,.string x),(5,.pointer (some ⟨w.heap.size,0,none⟩)),(6,.string x),(7,.string p),(8,.pointer (some ⟨w.heap.size,1,none⟩)),(9,.string y),(10,.string q),(2,.string q)] a0.tmps,a0.defers⟩∧Below w.heap.size w V) ?_ ?_
 · refine wp_region_tail_d (by kernel_rfl) 9 0 (fun i=>[3,4,5,6,7,8,9,10,2].getD i 0) (RelR [Rel.val (.pointer (some ⟨w.heap.size,0,none⟩)),Rel.val (.string x),Rel.val (.pointer (some ⟨w.heap.size,0,none⟩)),Rel.val (.string x),Rel.val (.string p),Rel.val (.pointer (some ⟨w.heap.size,1,none⟩)),Rel.val (.string y),Rel.val (.string q),Rel.val (.string q)]) (fun W=>Below W0.heap.size W0 W) (fun _ _=>True) (by kernel_rfl) (by kernel_rfl) (by kernel_rfl) trivial (Below.refl _ _).drew ?_ ?_
   · intro listed a W i hI hD hrd him
     have HI:=hid hI
     have HD:=hid hD
     have Hr:=hid hrd
     clear hI hrd hD
     have y1:a.tmps[1]? = some (.pointer (some ⟨w.heap.size,0,none⟩)):=HI.out.rest 1 (by decide)
     have dK10:=(K1.out.below HI.out.world).cell (i:=0) rfl
     have dK11:=(K1.out.below HI.out.world).cell (i:=1) rfl
     have X0:RV _ listed a 0 3 (.pointer (some ⟨w.heap.size,0,none⟩)):=HI.out.rh
     have X2:RV _ listed a 2 5 (.pointer (some ⟨w.heap.size,0,none⟩)):=HI.out.rh
     have X1:RV _ listed a 1 4 (.string x):=HI.out.rh
     have X3:RV _ listed a 3 6 (.string x):=HI.out.rh
     have X5:RV _ listed a 5 8 (.pointer (some ⟨w.heap.size,1,none⟩)):=HI.out.rh
     have X4:RV _ listed a 4 7 (.string p):=HI.out.rh
     have X6:RV _ listed a 6 9 (.string y):=HI.out.rh
     have X7:RV _ listed a 7 10 (.string q):=HI.out.rh
     match i,him,Hr with
     | 0,_,Hi =>
       refine stepH rfl fun K' hK=>?_
       go_simp
       exact hK.out _ _ ⟨HI.out.pv Hi.out rfl,trivial⟩
     | 1,_,Hi =>
       have x0:=X0.g Hi.out (by kernel_rfl)
       refine stepH rfl fun K' hK=>?_
       go_simp
       exact hK.out _ _ ⟨HI.out.pv Hi.out rfl,trivial⟩
     | 2,_,Hi =>
       refine stepH rfl fun K' hK=>?_
       go_simp
       exact hK.out _ _ ⟨HI.out.pv Hi.out rfl,trivial⟩
     | 3,_,Hi =>
       have x2:=X2.g Hi.out (by kernel_rfl)
       refine stepH rfl fun K' hK=>?_
       go_simp
       exact hK.out _ _ ⟨HI.out.pv Hi.out rfl,trivial⟩
     | 4,_,Hi =>
       have x1:=X1.g Hi.out (by kernel_rfl)
       have x3:=X3.g Hi.out (by kernel_rfl)
       refine stepH rfl fun K' hK=>?_
       go_simp
       with_reducible refine(C1.out _ (HB0.out.trans (HI.out.world.mono HB0.out.size))).mono ?_
       rintro e W' ⟨rfl,hb⟩
       exact hK.out _ _ ⟨HI.out.pc Hi.out hb rfl,trivial⟩
     | 5,_,Hi =>
       refine stepH rfl fun K' hK=>?_
       go_simp
       exact hK.out _ _ ⟨HI.out.pv Hi.out rfl,trivial⟩
     | 6,_,Hi =>
       have x5:=X5.g Hi.out (by kernel_rfl)
       refine stepH rfl fun K' hK=>?_
       go_simp
       exact hK.out _ _ ⟨HI.out.pv Hi.out rfl,trivial⟩
     | 7,_,Hi =>
       have x4:=X4.g Hi.out (by kernel_rfl)
       have x6:=X6.g Hi.out (by kernel_rfl)
       refine stepH rfl fun K' hK=>?_
       go_simp
       with_reducible refine(C2.out _ (HB0.out.trans (HI.out.world.mono HB0.out.size))).mono ?_
       rintro e W' ⟨rfl,hb⟩
       exact hK.out _ _ ⟨HI.out.pc Hi.out hb rfl,trivial⟩
     | 8,_,Hi =>
       have x7:=X7.g Hi.out (by kernel_rfl)
       refine stepH rfl fun K' hK=>?_
       go_simp
       exact hK.out _ _ ⟨HI.out.pv Hi.out rfl,trivial⟩
     | n+9,h,_=>exact absurd h (by omega)
   · intro listed a W hI hD hall
     have HBW:=hid hI.world
     have HI:=hid hI
     have HA:=hid hall
     clear hI hall
     have HBX:=hid (HB0.out.trans (HBW.out.mono HB0.out.size))
     refine tail_nil ?_
     exact⟨rfl,(HI.out.finx ⟨HI.out.sx HA.out 0,HI.out.sx HA.out 1,HI.out.sx HA.out 2,HI.out.sx HA.out 3,HI.out.sx HA.out 4,HI.out.sx HA.out 5,HI.out.sx HA.out 6,HI.out.sx HA.out 7,HI.out.sx HA.out 8,trivial⟩ rfl),HBX.out⟩
 rintro a' W1 ⟨rfl,z0⟩
 have HB1:=hid z0
 clear z0
 simp only[putL,List.setIfInBounds_toArray,List.set_cons_zero,List.set_cons_succ]
 go_wp2
 exact bodyPost_ret (v:=.string q) (by simp[results,Tryz.results77,go_sem]) rfl ⟨rfl,HB1.out⟩
theorem oSign_raw (a b c:ByteArray)(s er:Int)(w₀:World)(h1:CV w₀ 43 #[.agg #[.string a,.string ⟨#[49]⟩],.agg #[.string b,.string c]] (.tuple #[.int .i64 s,.int .i64 er]))  :
 CV w₀ 19 #[.string a,.string b,.string c] (.tuple #[.int .i64 s,.int .i64 er]):=by
 intro w hw
 have C1:=hid (h1.mono hw)
 clear h1 hw
 go_enter Tryz.func19,Tryz.ntmps19
 have HB0:=hid (Below.refl w.heap.size w)
 go_wp2_with fail
 with_reducible refine(C1.out _ HB0.out).mono ?_
 rintro e W1 ⟨rfl,hb⟩
 have HB1:=hbt HB0 hb
 clear hb
 go_wp2
 exact bodyPost_ret (v:=.tuple #[.int .i64 s,.int .i64 er]) (by simp[results,Tryz.results19,go_sem]) rfl ⟨rfl,HB1.out⟩
theorem oCompare_raw (a b c d m:ByteArray)(s er:Int)(w₀:World)(h1:CV w₀ 13 #[.string ⟨#[48]⟩,.string c] (.tuple #[.string m,.int .i64 0]))(h2:CV w₀ 43 #[.agg #[.string a,.string b],.agg #[.string m,.string d]] (.tuple #[.int .i64 s,.int .i64 er]))  :
 CV w₀ 23 #[.string a,.string b,.string c,.string d] (.tuple #[.int .i64 s,.int .i64 er]):=by
 intro w hw
 have C1:=hid (h1.mono hw)
 have C2:=hid (h2.mono hw)
 clear h1 h2 hw
 go_enter Tryz.func23,Tryz.ntmps23
 have HB0:=hid (Below.refl w.heap.size w)
 go_wp2_with fail
 with_reducible refine(C1.out _ HB0.out).mono ?_
 rintro e W1 ⟨rfl,hb⟩
 have HB1:=hbt HB0 hb
 clear hb
 go_wp2_with fail
 with_reducible refine(C2.out _ HB1.out).mono ?_
 rintro e W2 ⟨rfl,hb⟩
 have HB2:=hbt HB1 hb
 clear hb
 go_wp2
 exact bodyPost_ret (v:=.tuple #[.int .i64 s,.int .i64 er]) (by simp[results,Tryz.results23,go_sem]) rfl ⟨rfl,HB2.out⟩
end Go.Proofs.YtggoeabhbkbadaaGreatDoor
