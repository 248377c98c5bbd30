/- The example of chapter 16; garboardlaw16.awake; short texts. -/
import Derived.Test.YthjmjlfnpnbonaaGreatDoorMz42q
set_option maxRecDepth 100000
set_option maxHeartbeats 20000000
open Go.Lib (hid)
namespace Go.Proofs.YthjmjlfnpnbonaaGreatDoor
open Go.RowKit Go.Gb
theorem h40h:SmQ 40 (1 / 2:Rat):=hsh.mono (by decide)
theorem h400:SmQ 40 (0:Rat):=hs0.mono (by decide)
theorem h7:SmQ 1 (7:Rat):=⟨by unfold Sm;decide,by unfold Sm;decide⟩
theorem h5:SmQ 1 (5:Rat):=⟨by unfold Sm;decide,by unfold Sm;decide⟩
theorem hin:InA (1 / 2:Rat) (0:Rat):=by decide +kernel
theorem ax_of (w:World)(hla:La w):CV w 11 #[.agg #[.string ⟨#[49,47,50]⟩,.string ⟨#[48]⟩]] (.tuple #[.agg #[.string ⟨#[49]⟩,.string ⟨#[48]⟩,.string ⟨#[48]⟩,.string ⟨#[48]⟩,.string ⟨#[51,47,53]⟩,.string ⟨#[52,47,53]⟩,.string ⟨#[48]⟩,.string ⟨#[45,52,47,53]⟩,.string ⟨#[51,47,53]⟩],.int .i64 0]):=by
 have h:=hOf_n h40h h400 w hla (c0_fine h40h h400 hin w hla)
 rw[show Sq (cosQ (0:Rat))=⟨#[49]⟩from by decide +kernel,show Sq (0-sinQ (1 / 2:Rat)*sinQ (0:Rat))=⟨#[48]⟩from by decide +kernel,show Sq (cosQ (1 / 2:Rat)*sinQ (0:Rat))=⟨#[48]⟩from by decide +kernel,show Sq (cosQ (1 / 2:Rat))=⟨#[51,47,53]⟩from by decide +kernel,show Sq (sinQ (1 / 2:Rat))=⟨#[52,47,53]⟩from by decide +kernel,show Sq (0-sinQ (0:Rat))=⟨#[48]⟩from by decide +kernel,show Sq (0-sinQ (1 / 2:Rat)*cosQ (0:Rat))=⟨#[45,52,47,53]⟩from by decide +kernel,show Sq (cosQ (1 / 2:Rat)*cosQ (0:Rat))=⟨#[51,47,53]⟩from by decide +kernel,hqh,hq0]at h
 exact h
theorem ax_turn (w:World)(hla:La w):CV w 20 #[.agg #[.string ⟨#[49,47,50]⟩,.string ⟨#[48]⟩],.agg #[.string ⟨#[55]⟩,.string ⟨#[53]⟩,.string ⟨#[48]⟩]] (.tuple #[.agg #[.string ⟨#[55]⟩,.string ⟨#[51]⟩,.string ⟨#[45,52]⟩],.int .i64 0]):=by
 have f:∀ {a:Rat},SmQ 2 a→FitQ a:=fun h=>h.fit (by decide)
 have h:=hTurn_n h40h h400 h7 h5 hs0 (by decide) (f ⟨by unfold Sm;decide +kernel,by unfold Sm;decide +kernel⟩) (f ⟨by unfold Sm;decide +kernel,by unfold Sm;decide +kernel⟩) (f ⟨by unfold Sm;decide +kernel,by unfold Sm;decide +kernel⟩) w hla (ch3_fine h40h h400 (h7.fit (by decide)) (h5.fit (by decide)) (hs0.fit (by decide)) hin w hla)
 rw[show Sq (dotR (cosQ (0:Rat)) (0-sinQ (1 / 2:Rat)*sinQ (0:Rat)) (cosQ (1 / 2:Rat)*sinQ (0:Rat)) 7 5 0)=⟨#[55]⟩from by decide +kernel,show Sq (dotR 0 (cosQ (1 / 2:Rat)) (sinQ (1 / 2:Rat)) 7 5 0)=⟨#[51]⟩from by decide +kernel,show Sq (dotR (0-sinQ (0:Rat)) (0-sinQ (1 / 2:Rat)*cosQ (0:Rat)) (cosQ (1 / 2:Rat)*cosQ (0:Rat)) 7 5 0)=⟨#[45,52]⟩from by decide +kernel,hqh,hq0,show Sq (7:Rat)=⟨#[55]⟩from by decide +kernel,show Sq (5:Rat)=⟨#[53]⟩from by decide +kernel]at h
 exact h
theorem att_awake  (w₀:World)  (hla:La w₀) :
 CV w₀ 8 #[] (.bool true):=by
 intro w hw
 have HT:=hid (hla.on hw)
 clear hla hw
 go_enter Tryz.func8,Tryz.ntmps8
 have HB0:=hid (Below.refl w.heap.size w)
 go_upto_region 2 with fail
 refine wp_boxes w [(#[.string ⟨#[49,47,50]⟩,.string ⟨#[48]⟩],24)] rfl ?_
 rintro W0 ⟨k1,hb⟩
 have HB0:=hid (show Below w.heap.size w W0 from hb)
 have K1:=hid k1
 clear k1 hb
 have dK10:=K1.out.cell (i:=0) rfl
 have dK11:=K1.out.cell (i:=1) rfl
 go_wp2_with fail
 with_reducible refine((ax_of _ (HT.out.on HB0.out)).at).mono ?_
 rintro e W1 ⟨rfl,hb⟩
 clear dK10 dK11
 have K1:=hid (K1.out.below hb)
 have HB1:=hbt HB0 hb
 clear hb
 go_upto_region 3 with fail
 refine wp_boxes W1 [(#[.string ⟨#[49]⟩,.string ⟨#[48]⟩,.string ⟨#[48]⟩,.string ⟨#[48]⟩,.string ⟨#[51,47,53]⟩,.string ⟨#[52,47,53]⟩,.string ⟨#[48]⟩,.string ⟨#[45,52,47,53]⟩,.string ⟨#[51,47,53]⟩],31)] rfl ?_
 have L1:=K1.out.lt
 have L2:=HB1.out.size
 rintro W2 ⟨k2,hb⟩
 have hb:Below W1.heap.size W1 W2:=hb
 have K1:=hid (K1.out.below hb)
 have HB2:=hbt HB1 hb
 have K2:=hid k2
 clear k2 hb
 have dK10:=K1.out.cell (i:=0) rfl
 have dK11:=K1.out.cell (i:=1) rfl
 go_wp2_with fail
 with_reducible refine((ax_turn _ (HT.out.on HB2.out)).at).mono ?_
 rintro e W3 ⟨rfl,hb⟩
 clear dK10 dK11
 have K1:=hid (K1.out.below hb)
 have K2:=hid (K2.out.below hb)
 have HB3:=hbt HB2 hb
 clear hb
 go_upto_region 4 with fail
 refine wp_boxes W3 [(#[.string ⟨#[55]⟩,.string ⟨#[51]⟩,.string ⟨#[45,52]⟩],29)] rfl ?_
 have L3:=K1.out.lt
 have L4:=K2.out.lt
 have L5:=HB3.out.size
 rintro W4 ⟨k3,hb⟩
 have hb:Below W3.heap.size W3 W4:=hb
 have K2:=hid (K2.out.below hb)
 have HB4:=hbt HB3 hb
 have K3:=hid k3
 clear k3 hb
 have dK26:=K2.out.cell (i:=6) rfl
 have dK27:=K2.out.cell (i:=7) rfl
 have dK28:=K2.out.cell (i:=8) rfl
 have dK23:=K2.out.cell (i:=3) rfl
 have dK24:=K2.out.cell (i:=4) rfl
 have dK25:=K2.out.cell (i:=5) rfl
 have dK30:=K3.out.cell (i:=0) rfl
 have dK31:=K3.out.cell (i:=1) rfl
 have dK32:=K3.out.cell (i:=2) rfl
 go_wp2
 exact bodyPost_ret (v:=.bool true) (by simp[results,Tryz.results8,go_sem]) rfl ⟨rfl,HB4.out⟩
theorem hshort (x:ByteArray)(b:Bool)(w₀:World)  (hb0:decide ((x.size:Int)≤40)=b) :
 CV w₀ 10 #[.string x] (.bool b):=by
 intro w hw
 have g0:=hb0
 clear hb0 hw
 go_enter Tryz.func10,Tryz.ntmps10
 have HB0:=hid (Below.refl w.heap.size w)
 go_wp2
 exact bodyPost_ret (v:=.bool b) (by simp[results,Tryz.results10,go_sem]) rfl ⟨rfl,HB0.out⟩
theorem hshA_0 (p q:ByteArray)(w₀:World)(h1:CV w₀ 10 #[.string p] (.bool false))  :
 CV w₀ 9 #[.agg #[.string p,.string q]] (.bool false):=by
 intro w hw
 have C1:=hid (h1.mono hw)
 clear h1 hw
 go_enter Tryz.func9,Tryz.ntmps9
 go_upto_region 1 with fail
 refine wp_boxes w [(#[.string p,.string q],24)] rfl ?_
 rintro W0 ⟨k1,hb⟩
 have HB0:=hid (show Below w.heap.size w W0 from hb)
 have K1:=hid k1
 clear k1 hb
 have dK10:=K1.out.cell (i:=0) rfl
 go_wp2_with fail
 with_reducible refine(C1.out _ HB0.out).mono ?_
 rintro e W1 ⟨rfl,hb⟩
 clear dK10
 have HB1:=hbt HB0 hb
 clear hb
 go_wp2
 exact bodyPost_ret (v:=.bool false) (by simp[results,Tryz.results9,go_sem]) rfl ⟨rfl,HB1.out⟩
theorem hshA_1 (p q:ByteArray)(w₀:World)(h1:CV w₀ 10 #[.string p] (.bool true))(h2:CV w₀ 10 #[.string q] (.bool false))  :
 CV w₀ 9 #[.agg #[.string p,.string q]] (.bool false):=by
 intro w hw
 have C1:=hid (h1.mono hw)
 have C2:=hid (h2.mono hw)
 clear h1 h2 hw
 go_enter Tryz.func9,Tryz.ntmps9
 go_upto_region 1 with fail
 refine wp_boxes w [(#[.string p,.string q],24)] rfl ?_
 rintro W0 ⟨k1,hb⟩
 have HB0:=hid (show Below w.heap.size w W0 from hb)
 have K1:=hid k1
 clear k1 hb
 have dK10:=K1.out.cell (i:=0) rfl
 go_wp2_with fail
 with_reducible refine(C1.out _ HB0.out).mono ?_
 rintro e W1 ⟨rfl,hb⟩
 clear dK10
 have K1:=hid (K1.out.below hb)
 have HB1:=hbt HB0 hb
 clear hb
 have dK11:=K1.out.cell (i:=1) rfl
 go_wp2_with fail
 with_reducible refine(C2.out _ HB1.out).mono ?_
 rintro e W2 ⟨rfl,hb⟩
 clear dK11
 have HB2:=hbt HB1 hb
 clear hb
 go_wp2
 exact bodyPost_ret (v:=.bool false) (by simp[results,Tryz.results9,go_sem]) rfl ⟨rfl,HB2.out⟩
theorem hshA_2 (p q:ByteArray)(w₀:World)(h1:CV w₀ 10 #[.string p] (.bool true))(h2:CV w₀ 10 #[.string q] (.bool true))  :
 CV w₀ 9 #[.agg #[.string p,.string q]] (.bool true):=by
 intro w hw
 have C1:=hid (h1.mono hw)
 have C2:=hid (h2.mono hw)
 clear h1 h2 hw
 go_enter Tryz.func9,Tryz.ntmps9
 go_upto_region 1 with fail
 refine wp_boxes w [(#[.string p,.string q],24)] rfl ?_
 rintro W0 ⟨k1,hb⟩
 have HB0:=hid (show Below w.heap.size w W0 from hb)
 have K1:=hid k1
 clear k1 hb
 have dK10:=K1.out.cell (i:=0) rfl
 go_wp2_with fail
 with_reducible refine(C1.out _ HB0.out).mono ?_
 rintro e W1 ⟨rfl,hb⟩
 clear dK10
 have K1:=hid (K1.out.below hb)
 have HB1:=hbt HB0 hb
 clear hb
 have dK11:=K1.out.cell (i:=1) rfl
 go_wp2_with fail
 with_reducible refine(C2.out _ HB1.out).mono ?_
 rintro e W2 ⟨rfl,hb⟩
 clear dK11
 have HB2:=hbt HB1 hb
 clear hb
 go_wp2
 exact bodyPost_ret (v:=.bool true) (by simp[results,Tryz.results9,go_sem]) rfl ⟨rfl,HB2.out⟩
theorem hshA (p q:ByteArray)(b:Bool)(w₀:World)(hb:decide (p.size≤40∧q.size≤40)=b):CV w₀ 9 #[.agg #[.string p,.string q]] (.bool b):=by
 have hs:∀ {x:ByteArray} {c:Bool},decide ((x.size:Int)≤40)=c→CV w₀ 10 #[.string x] (.bool c):=fun h=>hshort _ _ _ h
 by_cases gp:p.size≤40
 · have c0:=hs (x:=p) (decide_eq_true (show(p.size:Int)≤40 by omega))
   by_cases gq:q.size≤40
   · have c1:=hs (x:=q) (decide_eq_true (show(q.size:Int)≤40 by omega))
     obtain rfl:b=true:=by rw[← hb];exact decide_eq_true (by omega)
     exact hshA_2 p q w₀ c0 c1
   · obtain rfl:b=false:=by rw[← hb];exact decide_eq_false (by omega)
     exact hshA_1 p q w₀ c0 (hs (decide_eq_false (show ¬ (q.size:Int)≤40 by omega)))
 · obtain rfl:b=false:=by rw[← hb];exact decide_eq_false (by omega)
   exact hshA_0 p q w₀  (hs (decide_eq_false (show ¬ (p.size:Int)≤40 by omega)))
theorem hshV_0 (x y z:ByteArray)(w₀:World)(h1:CV w₀ 10 #[.string x] (.bool false))  :
 CV w₀ 19 #[.agg #[.string x,.string y,.string z]] (.bool false):=by
 intro w hw
 have C1:=hid (h1.mono hw)
 clear h1 hw
 go_enter Tryz.func19,Tryz.ntmps19
 go_upto_region 1 with fail
 refine wp_boxes w [(#[.string x,.string y,.string z],29)] rfl ?_
 rintro W0 ⟨k1,hb⟩
 have HB0:=hid (show Below w.heap.size w W0 from hb)
 have K1:=hid k1
 clear k1 hb
 have dK10:=K1.out.cell (i:=0) rfl
 go_wp2_with fail
 with_reducible refine(C1.out _ HB0.out).mono ?_
 rintro e W1 ⟨rfl,hb⟩
 clear dK10
 have HB1:=hbt HB0 hb
 clear hb
 go_wp2
 exact bodyPost_ret (v:=.bool false) (by simp[results,Tryz.results19,go_sem]) rfl ⟨rfl,HB1.out⟩
theorem hshV_1 (x y z:ByteArray)(w₀:World)(h1:CV w₀ 10 #[.string x] (.bool true))(h2:CV w₀ 10 #[.string y] (.bool false))  :
 CV w₀ 19 #[.agg #[.string x,.string y,.string z]] (.bool false):=by
 intro w hw
 have C1:=hid (h1.mono hw)
 have C2:=hid (h2.mono hw)
 clear h1 h2 hw
 go_enter Tryz.func19,Tryz.ntmps19
 go_upto_region 1 with fail
 refine wp_boxes w [(#[.string x,.string y,.string z],29)] rfl ?_
 rintro W0 ⟨k1,hb⟩
 have HB0:=hid (show Below w.heap.size w W0 from hb)
 have K1:=hid k1
 clear k1 hb
 have dK10:=K1.out.cell (i:=0) rfl
 go_wp2_with fail
 with_reducible refine(C1.out _ HB0.out).mono ?_
 rintro e W1 ⟨rfl,hb⟩
 clear dK10
 have K1:=hid (K1.out.below hb)
 have HB1:=hbt HB0 hb
 clear hb
 have dK11:=K1.out.cell (i:=1) rfl
 go_wp2_with fail
 with_reducible refine(C2.out _ HB1.out).mono ?_
 rintro e W2 ⟨rfl,hb⟩
 clear dK11
 have HB2:=hbt HB1 hb
 clear hb
 go_wp2
 exact bodyPost_ret (v:=.bool false) (by simp[results,Tryz.results19,go_sem]) rfl ⟨rfl,HB2.out⟩
theorem hshV_2 (x y z:ByteArray)(w₀:World)(h1:CV w₀ 10 #[.string x] (.bool true))(h2:CV w₀ 10 #[.string y] (.bool true))(h3:CV w₀ 10 #[.string z] (.bool false))  :
 CV w₀ 19 #[.agg #[.string x,.string y,.string z]] (.bool false):=by
 intro w hw
 have C1:=hid (h1.mono hw)
 have C2:=hid (h2.mono hw)
 have C3:=hid (h3.mono hw)
 clear h1 h2 h3 hw
 go_enter Tryz.func19,Tryz.ntmps19
 go_upto_region 1 with fail
 refine wp_boxes w [(#[.string x,.string y,.string z],29)] rfl ?_
 rintro W0 ⟨k1,hb⟩
 have HB0:=hid (show Below w.heap.size w W0 from hb)
 have K1:=hid k1
 clear k1 hb
 have dK10:=K1.out.cell (i:=0) rfl
 go_wp2_with fail
 with_reducible refine(C1.out _ HB0.out).mono ?_
 rintro e W1 ⟨rfl,hb⟩
 clear dK10
 have K1:=hid (K1.out.below hb)
 have HB1:=hbt HB0 hb
 clear hb
 have dK11:=K1.out.cell (i:=1) rfl
 go_wp2_with fail
 with_reducible refine(C2.out _ HB1.out).mono ?_
 rintro e W2 ⟨rfl,hb⟩
 clear dK11
 have K1:=hid (K1.out.below hb)
 have HB2:=hbt HB1 hb
 clear hb
 have dK12:=K1.out.cell (i:=2) rfl
 go_wp2_with fail
 with_reducible refine(C3.out _ HB2.out).mono ?_
 rintro e W3 ⟨rfl,hb⟩
 clear dK12
 have HB3:=hbt HB2 hb
 clear hb
 go_wp2
 exact bodyPost_ret (v:=.bool false) (by simp[results,Tryz.results19,go_sem]) rfl ⟨rfl,HB3.out⟩
theorem hshV_3 (x y z:ByteArray)(w₀:World)(h1:CV w₀ 10 #[.string x] (.bool true))(h2:CV w₀ 10 #[.string y] (.bool true))(h3:CV w₀ 10 #[.string z] (.bool true))  :
 CV w₀ 19 #[.agg #[.string x,.string y,.string z]] (.bool true):=by
 intro w hw
 have C1:=hid (h1.mono hw)
 have C2:=hid (h2.mono hw)
 have C3:=hid (h3.mono hw)
 clear h1 h2 h3 hw
 go_enter Tryz.func19,Tryz.ntmps19
 go_upto_region 1 with fail
 refine wp_boxes w [(#[.string x,.string y,.string z],29)] rfl ?_
 rintro W0 ⟨k1,hb⟩
 have HB0:=hid (show Below w.heap.size w W0 from hb)
 have K1:=hid k1
 clear k1 hb
 have dK10:=K1.out.cell (i:=0) rfl
 go_wp2_with fail
 with_reducible refine(C1.out _ HB0.out).mono ?_
 rintro e W1 ⟨rfl,hb⟩
 clear dK10
 have K1:=hid (K1.out.below hb)
 have HB1:=hbt HB0 hb
 clear hb
 have dK11:=K1.out.cell (i:=1) rfl
 go_wp2_with fail
 with_reducible refine(C2.out _ HB1.out).mono ?_
 rintro e W2 ⟨rfl,hb⟩
 clear dK11
 have K1:=hid (K1.out.below hb)
 have HB2:=hbt HB1 hb
 clear hb
 have dK12:=K1.out.cell (i:=2) rfl
 go_wp2_with fail
 with_reducible refine(C3.out _ HB2.out).mono ?_
 rintro e W3 ⟨rfl,hb⟩
 clear dK12
 have HB3:=hbt HB2 hb
 clear hb
 go_wp2
 exact bodyPost_ret (v:=.bool true) (by simp[results,Tryz.results19,go_sem]) rfl ⟨rfl,HB3.out⟩
theorem hshV (x y z:ByteArray)(b:Bool)(w₀:World)(hb:decide (x.size≤40∧y.size≤40∧z.size≤40)=b):CV w₀ 19 #[.agg #[.string x,.string y,.string z]] (.bool b):=by
 have hs:∀ {x:ByteArray} {c:Bool},decide ((x.size:Int)≤40)=c→CV w₀ 10 #[.string x] (.bool c):=fun h=>hshort _ _ _ h
 by_cases gx:x.size≤40
 · have c0:=hs (x:=x) (decide_eq_true (show(x.size:Int)≤40 by omega))
   by_cases gy:y.size≤40
   · have c1:=hs (x:=y) (decide_eq_true (show(y.size:Int)≤40 by omega))
     by_cases gz:z.size≤40
     · have c2:=hs (x:=z) (decide_eq_true (show(z.size:Int)≤40 by omega))
       obtain rfl:b=true:=by rw[← hb];exact decide_eq_true (by omega)
       exact hshV_3 x y z w₀ c0 c1 c2
     · obtain rfl:b=false:=by rw[← hb];exact decide_eq_false (by omega)
       exact hshV_2 x y z w₀ c0 c1 (hs (decide_eq_false (show ¬ (z.size:Int)≤40 by omega)))
   · obtain rfl:b=false:=by rw[← hb];exact decide_eq_false (by omega)
     exact hshV_1 x y z w₀ c0 (hs (decide_eq_false (show ¬ (y.size:Int)≤40 by omega)))
 · obtain rfl:b=false:=by rw[← hb];exact decide_eq_false (by omega)
   exact hshV_0 x y z w₀  (hs (decide_eq_false (show ¬ (x.size:Int)≤40 by omega)))
end Go.Proofs.YthjmjlfnpnbonaaGreatDoor
