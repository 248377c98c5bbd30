/- garboardlaw16.AttitudeReturns returns true: walks. -/
import Derived.Test.YthjmjlfnpnbonaaGreatDoorHh
set_option maxRecDepth 100000
set_option maxHeartbeats 20000000
open Go.Lib (hid)
namespace Go.Proofs.YthjmjlfnpnbonaaGreatDoor
open Go.RowKit Go.Gb
theorem hre_long1 (p q x y z:ByteArray)(w₀:World)  (hla:La w₀)(fa:decide (p.size≤40∧q.size≤40)=false) :
 CV w₀ 6 #[.agg #[.string p,.string q],.agg #[.string x,.string y,.string z]] (.bool true):=by
 intro w hw
 have HT:=hid (hla.on hw)
 have FA:=hid fa
 clear hla fa hw
 go_enter Tryz.func6,Tryz.ntmps6
 go_upto_region 1 with fail
 refine wp_boxes w [(#[.string p,.string q],24),(#[.string x,.string y,.string z],29)] rfl ?_
 rintro W0 ⟨k1,k2,hb⟩
 have HB0:=hid (show Below w.heap.size w W0 from hb)
 have K1:=hid k1
 have K2:=hid k2
 clear k1 k2 hb
 go_wp2_with fail
 with_reducible refine((att_awake _ (HT.out.on HB0.out)).at).mono ?_
 rintro e W1 ⟨rfl,hb⟩
 have K1:=hid (K1.out.below hb)
 have HB1:=hbt HB0 hb
 clear hb
 have dK10:=K1.out.cell (i:=0) rfl
 have dK11:=K1.out.cell (i:=1) rfl
 go_wp2_with fail
 with_reducible refine((hshA p q false _ FA.out).at).mono ?_
 rintro e W2 ⟨rfl,hb⟩
 clear dK10 dK11
 have HB2:=hbt HB1 hb
 clear hb
 go_wp2
 exact bodyPost_ret (v:=.bool true) (by simp[results,Tryz.results6,go_sem]) rfl ⟨rfl,HB2.out⟩
theorem hre_long2 (p q x y z:ByteArray)(w₀:World)  (hla:La w₀)(fa:decide (p.size≤40∧q.size≤40)=true)(fv:decide (x.size≤40∧y.size≤40∧z.size≤40)=false) :
 CV w₀ 6 #[.agg #[.string p,.string q],.agg #[.string x,.string y,.string z]] (.bool true):=by
 intro w hw
 have HT:=hid (hla.on hw)
 have FA:=hid fa
 have FV:=hid fv
 clear hla fa fv hw
 go_enter Tryz.func6,Tryz.ntmps6
 go_upto_region 1 with fail
 refine wp_boxes w [(#[.string p,.string q],24),(#[.string x,.string y,.string z],29)] rfl ?_
 rintro W0 ⟨k1,k2,hb⟩
 have HB0:=hid (show Below w.heap.size w W0 from hb)
 have K1:=hid k1
 have K2:=hid k2
 clear k1 k2 hb
 go_wp2_with fail
 with_reducible refine((att_awake _ (HT.out.on HB0.out)).at).mono ?_
 rintro e W1 ⟨rfl,hb⟩
 have K1:=hid (K1.out.below hb)
 have K2:=hid (K2.out.below hb)
 have HB1:=hbt HB0 hb
 clear hb
 have dK10:=K1.out.cell (i:=0) rfl
 have dK11:=K1.out.cell (i:=1) rfl
 go_wp2_with fail
 with_reducible refine((hshA p q true _ FA.out).at).mono ?_
 rintro e W2 ⟨rfl,hb⟩
 clear dK10 dK11
 have K2:=hid (K2.out.below hb)
 have HB2:=hbt HB1 hb
 clear hb
 have dK20:=K2.out.cell (i:=0) rfl
 have dK21:=K2.out.cell (i:=1) rfl
 have dK22:=K2.out.cell (i:=2) rfl
 go_wp2_with fail
 with_reducible refine((hshV x y z false _ FV.out).at).mono ?_
 rintro e W3 ⟨rfl,hb⟩
 clear dK20 dK21 dK22
 have HB3:=hbt HB2 hb
 clear hb
 go_wp2
 exact bodyPost_ret (v:=.bool true) (by simp[results,Tryz.results6,go_sem]) rfl ⟨rfl,HB3.out⟩
theorem hre_e1 (p q x y z:ByteArray)(w₀:World)(h1:CV w₀ 20 #[.agg #[.string p,.string q],.agg #[.string x,.string y,.string z]] (.tuple #[.agg #[.string ⟨#[]⟩,.string ⟨#[]⟩,.string ⟨#[]⟩],.int .i64 1]))(h2:CV w₀ 22 #[.agg #[.string p,.string q],.agg #[.string x,.string y,.string z]] (.tuple #[.agg #[.string ⟨#[]⟩,.string ⟨#[]⟩,.string ⟨#[]⟩],.int .i64 1]))(hla:La w₀)(fa:decide (p.size≤40∧q.size≤40)=true)(fv:decide (x.size≤40∧y.size≤40∧z.size≤40)=true) :
 CV w₀ 6 #[.agg #[.string p,.string q],.agg #[.string x,.string y,.string z]] (.bool true):=by
 intro w hw
 have C1:=hid (h1.mono hw)
 have C2:=hid (h2.mono hw)
 have HT:=hid (hla.on hw)
 have FA:=hid fa
 have FV:=hid fv
 clear hla fa fv h1 h2 hw
 go_enter Tryz.func6,Tryz.ntmps6
 go_upto_region 1 with fail
 refine wp_boxes w [(#[.string p,.string q],24),(#[.string x,.string y,.string z],29)] rfl ?_
 rintro W0 ⟨k1,k2,hb⟩
 have HB0:=hid (show Below w.heap.size w W0 from hb)
 have K1:=hid k1
 have K2:=hid k2
 clear k1 k2 hb
 go_wp2_with fail
 with_reducible refine((att_awake _ (HT.out.on HB0.out)).at).mono ?_
 rintro e W1 ⟨rfl,hb⟩
 have K1:=hid (K1.out.below hb)
 have K2:=hid (K2.out.below hb)
 have HB1:=hbt HB0 hb
 clear hb
 have dK10:=K1.out.cell (i:=0) rfl
 have dK11:=K1.out.cell (i:=1) rfl
 go_wp2_with fail
 with_reducible refine((hshA p q true _ FA.out).at).mono ?_
 rintro e W2 ⟨rfl,hb⟩
 clear dK10 dK11
 have K1:=hid (K1.out.below hb)
 have K2:=hid (K2.out.below hb)
 have HB2:=hbt HB1 hb
 clear hb
 have dK20:=K2.out.cell (i:=0) rfl
 have dK21:=K2.out.cell (i:=1) rfl
 have dK22:=K2.out.cell (i:=2) rfl
 go_wp2_with fail
 with_reducible refine((hshV x y z true _ FV.out).at).mono ?_
 rintro e W3 ⟨rfl,hb⟩
 clear dK20 dK21 dK22
 have K1:=hid (K1.out.below hb)
 have K2:=hid (K2.out.below hb)
 have HB3:=hbt HB2 hb
 clear hb
 have dK10:=K1.out.cell (i:=0) rfl
 have dK11:=K1.out.cell (i:=1) rfl
 have dK20:=K2.out.cell (i:=0) rfl
 have dK21:=K2.out.cell (i:=1) rfl
 have dK22:=K2.out.cell (i:=2) rfl
 go_wp2_with fail
 with_reducible refine(C1.out _ HB3.out).mono ?_
 rintro e W4 ⟨rfl,hb⟩
 clear dK10 dK11 dK20 dK21 dK22
 have K1:=hid (K1.out.below hb)
 have K2:=hid (K2.out.below hb)
 have HB4:=hbt HB3 hb
 clear hb
 go_upto_region 6 with fail
 refine wp_boxes W4 [(#[.string ⟨#[]⟩,.string ⟨#[]⟩,.string ⟨#[]⟩],29)] rfl ?_
 have L1:=K1.out.lt
 have L2:=K2.out.lt
 have L3:=HB4.out.size
 rintro W5 ⟨k3,hb⟩
 have hb:Below W4.heap.size W4 W5:=hb
 have K1:=hid (K1.out.below hb)
 have K2:=hid (K2.out.below hb)
 have HB5:=hbt HB4 hb
 have K3:=hid k3
 clear k3 hb
 have dK10:=K1.out.cell (i:=0) rfl
 have dK11:=K1.out.cell (i:=1) rfl
 have dK20:=K2.out.cell (i:=0) rfl
 have dK21:=K2.out.cell (i:=1) rfl
 have dK22:=K2.out.cell (i:=2) rfl
 go_wp2_with fail
 with_reducible refine(C2.out _ HB5.out).mono ?_
 rintro e W6 ⟨rfl,hb⟩
 clear dK10 dK11 dK20 dK21 dK22
 have K1:=hid (K1.out.below hb)
 have K2:=hid (K2.out.below hb)
 have K3:=hid (K3.out.below hb)
 have HB6:=hbt HB5 hb
 clear hb
 go_upto_region 7 with fail
 refine wp_boxes W6 [(#[.string ⟨#[]⟩,.string ⟨#[]⟩,.string ⟨#[]⟩],29)] rfl ?_
 have L4:=K1.out.lt
 have L5:=K2.out.lt
 have L6:=K3.out.lt
 have L7:=HB6.out.size
 rintro W7 ⟨k4,hb⟩
 have hb:Below W6.heap.size W6 W7:=hb
 have K3:=hid (K3.out.below hb)
 have HB7:=hbt HB6 hb
 have K4:=hid k4
 clear k4 hb
 have dK30:=K3.out.cell (i:=0) rfl
 have dK31:=K3.out.cell (i:=1) rfl
 have dK32:=K3.out.cell (i:=2) rfl
 have dK40:=K4.out.cell (i:=0) rfl
 have dK41:=K4.out.cell (i:=1) rfl
 have dK42:=K4.out.cell (i:=2) rfl
 go_wp2
 exact bodyPost_ret (v:=.bool true) (by simp[results,Tryz.results6,go_sem]) rfl ⟨rfl,HB7.out⟩
theorem hre_e2 (p q x y z:ByteArray)(w₀:World)(h1:CV w₀ 20 #[.agg #[.string p,.string q],.agg #[.string x,.string y,.string z]] (.tuple #[.agg #[.string ⟨#[]⟩,.string ⟨#[]⟩,.string ⟨#[]⟩],.int .i64 2]))(h2:CV w₀ 22 #[.agg #[.string p,.string q],.agg #[.string x,.string y,.string z]] (.tuple #[.agg #[.string ⟨#[]⟩,.string ⟨#[]⟩,.string ⟨#[]⟩],.int .i64 2]))(hla:La w₀)(fa:decide (p.size≤40∧q.size≤40)=true)(fv:decide (x.size≤40∧y.size≤40∧z.size≤40)=true) :
 CV w₀ 6 #[.agg #[.string p,.string q],.agg #[.string x,.string y,.string z]] (.bool true):=by
 intro w hw
 have C1:=hid (h1.mono hw)
 have C2:=hid (h2.mono hw)
 have HT:=hid (hla.on hw)
 have FA:=hid fa
 have FV:=hid fv
 clear hla fa fv h1 h2 hw
 go_enter Tryz.func6,Tryz.ntmps6
 go_upto_region 1 with fail
 refine wp_boxes w [(#[.string p,.string q],24),(#[.string x,.string y,.string z],29)] rfl ?_
 rintro W0 ⟨k1,k2,hb⟩
 have HB0:=hid (show Below w.heap.size w W0 from hb)
 have K1:=hid k1
 have K2:=hid k2
 clear k1 k2 hb
 go_wp2_with fail
 with_reducible refine((att_awake _ (HT.out.on HB0.out)).at).mono ?_
 rintro e W1 ⟨rfl,hb⟩
 have K1:=hid (K1.out.below hb)
 have K2:=hid (K2.out.below hb)
 have HB1:=hbt HB0 hb
 clear hb
 have dK10:=K1.out.cell (i:=0) rfl
 have dK11:=K1.out.cell (i:=1) rfl
 go_wp2_with fail
 with_reducible refine((hshA p q true _ FA.out).at).mono ?_
 rintro e W2 ⟨rfl,hb⟩
 clear dK10 dK11
 have K1:=hid (K1.out.below hb)
 have K2:=hid (K2.out.below hb)
 have HB2:=hbt HB1 hb
 clear hb
 have dK20:=K2.out.cell (i:=0) rfl
 have dK21:=K2.out.cell (i:=1) rfl
 have dK22:=K2.out.cell (i:=2) rfl
 go_wp2_with fail
 with_reducible refine((hshV x y z true _ FV.out).at).mono ?_
 rintro e W3 ⟨rfl,hb⟩
 clear dK20 dK21 dK22
 have K1:=hid (K1.out.below hb)
 have K2:=hid (K2.out.below hb)
 have HB3:=hbt HB2 hb
 clear hb
 have dK10:=K1.out.cell (i:=0) rfl
 have dK11:=K1.out.cell (i:=1) rfl
 have dK20:=K2.out.cell (i:=0) rfl
 have dK21:=K2.out.cell (i:=1) rfl
 have dK22:=K2.out.cell (i:=2) rfl
 go_wp2_with fail
 with_reducible refine(C1.out _ HB3.out).mono ?_
 rintro e W4 ⟨rfl,hb⟩
 clear dK10 dK11 dK20 dK21 dK22
 have K1:=hid (K1.out.below hb)
 have K2:=hid (K2.out.below hb)
 have HB4:=hbt HB3 hb
 clear hb
 go_upto_region 6 with fail
 refine wp_boxes W4 [(#[.string ⟨#[]⟩,.string ⟨#[]⟩,.string ⟨#[]⟩],29)] rfl ?_
 have L1:=K1.out.lt
 have L2:=K2.out.lt
 have L3:=HB4.out.size
 rintro W5 ⟨k3,hb⟩
 have hb:Below W4.heap.size W4 W5:=hb
 have K1:=hid (K1.out.below hb)
 have K2:=hid (K2.out.below hb)
 have HB5:=hbt HB4 hb
 have K3:=hid k3
 clear k3 hb
 have dK10:=K1.out.cell (i:=0) rfl
 have dK11:=K1.out.cell (i:=1) rfl
 have dK20:=K2.out.cell (i:=0) rfl
 have dK21:=K2.out.cell (i:=1) rfl
 have dK22:=K2.out.cell (i:=2) rfl
 go_wp2_with fail
 with_reducible refine(C2.out _ HB5.out).mono ?_
 rintro e W6 ⟨rfl,hb⟩
 clear dK10 dK11 dK20 dK21 dK22
 have K1:=hid (K1.out.below hb)
 have K2:=hid (K2.out.below hb)
 have K3:=hid (K3.out.below hb)
 have HB6:=hbt HB5 hb
 clear hb
 go_upto_region 7 with fail
 refine wp_boxes W6 [(#[.string ⟨#[]⟩,.string ⟨#[]⟩,.string ⟨#[]⟩],29)] rfl ?_
 have L4:=K1.out.lt
 have L5:=K2.out.lt
 have L6:=K3.out.lt
 have L7:=HB6.out.size
 rintro W7 ⟨k4,hb⟩
 have hb:Below W6.heap.size W6 W7:=hb
 have K3:=hid (K3.out.below hb)
 have HB7:=hbt HB6 hb
 have K4:=hid k4
 clear k4 hb
 have dK30:=K3.out.cell (i:=0) rfl
 have dK31:=K3.out.cell (i:=1) rfl
 have dK32:=K3.out.cell (i:=2) rfl
 have dK40:=K4.out.cell (i:=0) rfl
 have dK41:=K4.out.cell (i:=1) rfl
 have dK42:=K4.out.cell (i:=2) rfl
 go_wp2
 exact bodyPost_ret (v:=.bool true) (by simp[results,Tryz.results6,go_sem]) rfl ⟨rfl,HB7.out⟩
theorem hre_yes (p q x y z va vb vc wa wb wc ln:ByteArray)(ma mb mc:Rat)(w₀:World)(h1:CV w₀ 20 #[.agg #[.string p,.string q],.agg #[.string x,.string y,.string z]] (.tuple #[.agg #[.string va,.string vb,.string vc],.int .i64 0]))(h2:CV w₀ 22 #[.agg #[.string p,.string q],.agg #[.string x,.string y,.string z]] (.tuple #[.agg #[.string wa,.string wb,.string wc],.int .i64 0]))(h3:CV w₀ 22 #[.agg #[.string p,.string q],.agg #[.string va,.string vb,.string vc]] (.tuple #[.agg #[.string x,.string y,.string z],.int .i64 0]))(h4:CV w₀ 20 #[.agg #[.string p,.string q],.agg #[.string wa,.string wb,.string wc]] (.tuple #[.agg #[.string x,.string y,.string z],.int .i64 0]))(h5:CV w₀ 25 #[.agg #[.string va,.string vb,.string vc],.agg #[.string va,.string vb,.string vc]] (.string ln))(h6:CV w₀ 25 #[.agg #[.string x,.string y,.string z],.agg #[.string x,.string y,.string z]] (.string ln))(hla:La w₀)(fa:decide (p.size≤40∧q.size≤40)=true)(fv:decide (x.size≤40∧y.size≤40∧z.size≤40)=true)(v0:∀ W,Calls Tryz.prog 24 #[.agg #[.string va,.string vb,.string vc]] W fun e w'=>∃ pa ca sa da pb cb sb db pc cc sc dc,e=.returned (.tuple #[.agg #[.bool (zneg ma.num),.slice pa (zlen ma.num) ca,.slice sa (nlen ma.den) da,.bool (zneg mb.num),.slice pb (zlen mb.num) cb,.slice sb (nlen mb.den) db,.bool (zneg mc.num),.slice pc (zlen mc.num) cc,.slice sc (nlen mc.den) dc],.bool true])∧RN w' (.slice pa (zlen ma.num) ca) ma.num.natAbs∧RN w' (.slice sa (nlen ma.den) da) ma.den∧RN w' (.slice pb (zlen mb.num) cb) mb.num.natAbs∧RN w' (.slice sb (nlen mb.den) db) mb.den∧RN w' (.slice pc (zlen mc.num) cc) mc.num.natAbs∧RN w' (.slice sc (nlen mc.den) dc) mc.den∧Below W.heap.size W w') :
 CV w₀ 6 #[.agg #[.string p,.string q],.agg #[.string x,.string y,.string z]] (.bool true):=by
 intro w hw
 have C1:=hid (h1.mono hw)
 have C2:=hid (h2.mono hw)
 have C3:=hid (h3.mono hw)
 have C4:=hid (h4.mono hw)
 have C5:=hid (h5.mono hw)
 have C6:=hid (h6.mono hw)
 have HT:=hid (hla.on hw)
 have FA:=hid fa
 have FV:=hid fv
 clear hla fa fv
 have V0:=hid v0
 clear v0 h1 h2 h3 h4 h5 h6 hw
 go_enter Tryz.func6,Tryz.ntmps6
 go_upto_region 1 with fail
 refine wp_boxes w [(#[.string p,.string q],24),(#[.string x,.string y,.string z],29)] rfl ?_
 rintro W0 ⟨k1,k2,hb⟩
 have HB0:=hid (show Below w.heap.size w W0 from hb)
 have K1:=hid k1
 have K2:=hid k2
 clear k1 k2 hb
 go_wp2_with fail
 with_reducible refine((att_awake _ (HT.out.on HB0.out)).at).mono ?_
 rintro e W1 ⟨rfl,hb⟩
 have K1:=hid (K1.out.below hb)
 have K2:=hid (K2.out.below hb)
 have HB1:=hbt HB0 hb
 clear hb
 have dK10:=K1.out.cell (i:=0) rfl
 have dK11:=K1.out.cell (i:=1) rfl
 go_wp2_with fail
 with_reducible refine((hshA p q true _ FA.out).at).mono ?_
 rintro e W2 ⟨rfl,hb⟩
 clear dK10 dK11
 have K1:=hid (K1.out.below hb)
 have K2:=hid (K2.out.below hb)
 have HB2:=hbt HB1 hb
 clear hb
 have dK20:=K2.out.cell (i:=0) rfl
 have dK21:=K2.out.cell (i:=1) rfl
 have dK22:=K2.out.cell (i:=2) rfl
 go_wp2_with fail
 with_reducible refine((hshV x y z true _ FV.out).at).mono ?_
 rintro e W3 ⟨rfl,hb⟩
 clear dK20 dK21 dK22
 have K1:=hid (K1.out.below hb)
 have K2:=hid (K2.out.below hb)
 have HB3:=hbt HB2 hb
 clear hb
 have dK10:=K1.out.cell (i:=0) rfl
 have dK11:=K1.out.cell (i:=1) rfl
 have dK20:=K2.out.cell (i:=0) rfl
 have dK21:=K2.out.cell (i:=1) rfl
 have dK22:=K2.out.cell (i:=2) rfl
 go_wp2_with fail
 with_reducible refine(C1.out _ HB3.out).mono ?_
 rintro e W4 ⟨rfl,hb⟩
 clear dK10 dK11 dK20 dK21 dK22
 have K1:=hid (K1.out.below hb)
 have K2:=hid (K2.out.below hb)
 have HB4:=hbt HB3 hb
 clear hb
 go_upto_region 6 with fail
 refine wp_boxes W4 [(#[.string va,.string vb,.string vc],29)] rfl ?_
 have L1:=K1.out.lt
 have L2:=K2.out.lt
 have L3:=HB4.out.size
 rintro W5 ⟨k3,hb⟩
 have hb:Below W4.heap.size W4 W5:=hb
 have K1:=hid (K1.out.below hb)
 have K2:=hid (K2.out.below hb)
 have HB5:=hbt HB4 hb
 have K3:=hid k3
 clear k3 hb
 have dK10:=K1.out.cell (i:=0) rfl
 have dK11:=K1.out.cell (i:=1) rfl
 have dK20:=K2.out.cell (i:=0) rfl
 have dK21:=K2.out.cell (i:=1) rfl
 have dK22:=K2.out.cell (i:=2) rfl
 go_wp2_with fail
 with_reducible refine(C2.out _ HB5.out).mono ?_
 rintro e W6 ⟨rfl,hb⟩
 clear dK10 dK11 dK20 dK21 dK22
 have K1:=hid (K1.out.below hb)
 have K2:=hid (K2.out.below hb)
 have K3:=hid (K3.out.below hb)
 have HB6:=hbt HB5 hb
 clear hb
 go_upto_region 7 with fail
 refine wp_boxes W6 [(#[.string wa,.string wb,.string wc],29)] rfl ?_
 have L4:=K1.out.lt
 have L5:=K2.out.lt
 have L6:=K3.out.lt
 have L7:=HB6.out.size
 rintro W7 ⟨k4,hb⟩
 have hb:Below W6.heap.size W6 W7:=hb
 have K1:=hid (K1.out.below hb)
 have K2:=hid (K2.out.below hb)
 have K3:=hid (K3.out.below hb)
 have HB7:=hbt HB6 hb
 have K4:=hid k4
 clear k4 hb
 have dK10:=K1.out.cell (i:=0) rfl
 have dK11:=K1.out.cell (i:=1) rfl
 have dK30:=K3.out.cell (i:=0) rfl
 have dK31:=K3.out.cell (i:=1) rfl
 have dK32:=K3.out.cell (i:=2) rfl
 go_wp2_with fail
 with_reducible refine(C3.out _ HB7.out).mono ?_
 rintro e W8 ⟨rfl,hb⟩
 clear dK10 dK11 dK30 dK31 dK32
 have K1:=hid (K1.out.below hb)
 have K2:=hid (K2.out.below hb)
 have K3:=hid (K3.out.below hb)
 have K4:=hid (K4.out.below hb)
 have HB8:=hbt HB7 hb
 clear hb
 go_upto_region 10 with fail
 refine wp_boxes W8 [(#[.string x,.string y,.string z],29)] rfl ?_
 have L8:=K1.out.lt
 have L9:=K2.out.lt
 have L10:=K3.out.lt
 have L11:=K4.out.lt
 have L12:=HB8.out.size
 rintro W9 ⟨k5,hb⟩
 have hb:Below W8.heap.size W8 W9:=hb
 have K1:=hid (K1.out.below hb)
 have K2:=hid (K2.out.below hb)
 have K3:=hid (K3.out.below hb)
 have K4:=hid (K4.out.below hb)
 have HB9:=hbt HB8 hb
 have K5:=hid k5
 clear k5 hb
 have dK10:=K1.out.cell (i:=0) rfl
 have dK11:=K1.out.cell (i:=1) rfl
 have dK40:=K4.out.cell (i:=0) rfl
 have dK41:=K4.out.cell (i:=1) rfl
 have dK42:=K4.out.cell (i:=2) rfl
 go_wp2_with fail
 with_reducible refine(C4.out _ HB9.out).mono ?_
 rintro e W10 ⟨rfl,hb⟩
 clear dK10 dK11 dK40 dK41 dK42
 have K1:=hid (K1.out.below hb)
 have K2:=hid (K2.out.below hb)
 have K3:=hid (K3.out.below hb)
 have K4:=hid (K4.out.below hb)
 have K5:=hid (K5.out.below hb)
 have HB10:=hbt HB9 hb
 clear hb
 go_upto_region 11 with fail
 refine wp_boxes W10 [(#[.string x,.string y,.string z],29)] rfl ?_
 have L13:=K1.out.lt
 have L14:=K2.out.lt
 have L15:=K3.out.lt
 have L16:=K4.out.lt
 have L17:=K5.out.lt
 have L18:=HB10.out.size
 rintro W11 ⟨k6,hb⟩
 have hb:Below W10.heap.size W10 W11:=hb
 have K1:=hid (K1.out.below hb)
 have K2:=hid (K2.out.below hb)
 have K3:=hid (K3.out.below hb)
 have K4:=hid (K4.out.below hb)
 have K5:=hid (K5.out.below hb)
 have HB11:=hbt HB10 hb
 have K6:=hid k6
 clear k6 hb
 have dK30:=K3.out.cell (i:=0) rfl
 have dK31:=K3.out.cell (i:=1) rfl
 have dK32:=K3.out.cell (i:=2) rfl
 go_wp2_with fail
 with_reducible refine(V0.out _).mono ?_
 rintro e W12 ⟨paa_8,caa_8,saa_8,daa_8,pba_8,cba_8,sba_8,dba_8,pca_8,cca_8,sca_8,dca_8,rfl,r8_0,r8_1,r8_2,r8_3,r8_4,r8_5,hb⟩
 clear dK30 dK31 dK32
 have K1:=hid (K1.out.below hb)
 have K2:=hid (K2.out.below hb)
 have K3:=hid (K3.out.below hb)
 have K4:=hid (K4.out.below hb)
 have K5:=hid (K5.out.below hb)
 have K6:=hid (K6.out.below hb)
 have HB12:=hbt HB11 hb
 have RVa:=hid r8_0
 have TVa:=hid r8_1
 have RVb:=hid r8_2
 have TVb:=hid r8_3
 have RVc:=hid r8_4
 have TVc:=hid r8_5
 clear hb r8_0 r8_1 r8_2 r8_3 r8_4 r8_5
 go_upto_region 12 with fail
 refine wp_boxes W12 [(#[.bool (zneg (ma.num)),.slice paa_8 (zlen (ma.num)) caa_8,.slice saa_8 (nlen (ma.den)) daa_8,.bool (zneg (mb.num)),.slice pba_8 (zlen (mb.num)) cba_8,.slice sba_8 (nlen (mb.den)) dba_8,.bool (zneg (mc.num)),.slice pca_8 (zlen (mc.num)) cca_8,.slice sca_8 (nlen (mc.den)) dca_8],55)] rfl ?_
 have L19:=K1.out.lt
 have L20:=K2.out.lt
 have L21:=K3.out.lt
 have L22:=K4.out.lt
 have L23:=K5.out.lt
 have L24:=K6.out.lt
 have L25:=HB12.out.size
 rintro W13 ⟨k7,hb⟩
 have hb:Below W12.heap.size W12 W13:=hb
 have K2:=hid (K2.out.below hb)
 have K3:=hid (K3.out.below hb)
 have K5:=hid (K5.out.below hb)
 have K6:=hid (K6.out.below hb)
 have HB13:=hbt HB12 hb
 have K7:=hid k7
 clear k7 hb
 go_wp2_with fail
 refine wp_region_post (fun a0 a' V=>a'=⟨putL [(75,.agg #[.string x,.string y,.string z]),(76,.agg #[.string x,.string y,.string z]),(77,.bool true),(78,.bool true),(79,.agg #[.string x,.string y,.string z]),(80,.agg #[.string x,.string y,.string z]),(81,.bool true),(82,.bool true),(83,.bool true),(84,.int .i64 0),(85,.bool true),(86,.bool true),(87,.bool true),(88,.int .i64 0),(89,.bool true),(90,.bool true),(91,.bool true),(92,.agg #[.string va,.string vb,.string vc]),(93,.agg #[.string va,.string vb,.string vc]),(94,.string ln),(95,.agg #[.string x,.string y,.string z]),(96,.agg #[.string x,.string y,.string z]),(97,.string ln),(98,.bool true),(99,.bool true),(4,.bool true)] a0.tmps,a0.defers⟩∧Below w.heap.size w V) ?_ ?_
 · refine wp_region_tail_d (by kernel_rfl) 26 0 (fun i=>[75,76,77,78,79,80,81,82,83,84,85,86,87,88,89,90,91,92,93,94,95,96,97,98,99,4].getD i 0) (RelR [Rel.val (.agg #[.string x,.string y,.string z]),Rel.val (.agg #[.string x,.string y,.string z]),Rel.val (.bool true),Rel.val (.bool true),Rel.val (.agg #[.string x,.string y,.string z]),Rel.val (.agg #[.string x,.string y,.string z]),Rel.val (.bool true),Rel.val (.bool true),Rel.val (.bool true),Rel.val (.int .i64 0),Rel.val (.bool true),Rel.val (.bool true),Rel.val (.bool true),Rel.val (.int .i64 0),Rel.val (.bool true),Rel.val (.bool true),Rel.val (.bool true),Rel.val (.agg #[.string va,.string vb,.string vc]),Rel.val (.agg #[.string va,.string vb,.string vc]),Rel.val (.string ln),Rel.val (.agg #[.string x,.string y,.string z]),Rel.val (.agg #[.string x,.string y,.string z]),Rel.val (.string ln),Rel.val (.bool true),Rel.val (.bool true),Rel.val (.bool true)]) (fun W=>Below W13.heap.size W13 W) (fun _ _=>True) (by kernel_rfl) (by kernel_rfl) (by kernel_rfl) trivial (Below.refl _ _).drew ?_ ?_
   · intro listed a W i hI hD hrd him
     have HI:=hid hI
     have HD:=hid hD
     have Hr:=hid hrd
     clear hI hrd hD
     have y9:a.tmps[9]? = some (.pointer (some ⟨W8.heap.size,0,none⟩)):=HI.out.rest 9 (by decide)
     have y3:a.tmps[3]? = some (.pointer (some ⟨w.heap.size+1,0,none⟩)):=HI.out.rest 3 (by decide)
     have y11:a.tmps[11]? = some (.pointer (some ⟨W10.heap.size,0,none⟩)):=HI.out.rest 11 (by decide)
     have y10:a.tmps[10]? = some (.int .i64 0):=HI.out.rest 10 (by decide)
     have y12:a.tmps[12]? = some (.int .i64 0):=HI.out.rest 12 (by decide)
     have y5:a.tmps[5]? = some (.pointer (some ⟨W4.heap.size,0,none⟩)):=HI.out.rest 5 (by decide)
     have dK50:=(K5.out.below HI.out.world).cell (i:=0) rfl
     have dK51:=(K5.out.below HI.out.world).cell (i:=1) rfl
     have dK52:=(K5.out.below HI.out.world).cell (i:=2) rfl
     have dK20:=(K2.out.below HI.out.world).cell (i:=0) rfl
     have dK21:=(K2.out.below HI.out.world).cell (i:=1) rfl
     have dK22:=(K2.out.below HI.out.world).cell (i:=2) rfl
     have dK60:=(K6.out.below HI.out.world).cell (i:=0) rfl
     have dK61:=(K6.out.below HI.out.world).cell (i:=1) rfl
     have dK62:=(K6.out.below HI.out.world).cell (i:=2) rfl
     have dK30:=(K3.out.below HI.out.world).cell (i:=0) rfl
     have dK31:=(K3.out.below HI.out.world).cell (i:=1) rfl
     have dK32:=(K3.out.below HI.out.world).cell (i:=2) rfl
     have X0:RV _ listed a 0 75 (.agg #[.string x,.string y,.string z]):=HI.out.rh
     have X1:RV _ listed a 1 76 (.agg #[.string x,.string y,.string z]):=HI.out.rh
     have X2:RV _ listed a 2 77 (.bool true):=HI.out.rh
     have X3:RV _ listed a 3 78 (.bool true):=HI.out.rh
     have X4:RV _ listed a 4 79 (.agg #[.string x,.string y,.string z]):=HI.out.rh
     have X5:RV _ listed a 5 80 (.agg #[.string x,.string y,.string z]):=HI.out.rh
     have X6:RV _ listed a 6 81 (.bool true):=HI.out.rh
     have X7:RV _ listed a 7 82 (.bool true):=HI.out.rh
     have X8:RV _ listed a 8 83 (.bool true):=HI.out.rh
     have X9:RV _ listed a 9 84 (.int .i64 0):=HI.out.rh
     have X10:RV _ listed a 10 85 (.bool true):=HI.out.rh
     have X11:RV _ listed a 11 86 (.bool true):=HI.out.rh
     have X12:RV _ listed a 12 87 (.bool true):=HI.out.rh
     have X13:RV _ listed a 13 88 (.int .i64 0):=HI.out.rh
     have X14:RV _ listed a 14 89 (.bool true):=HI.out.rh
     have X15:RV _ listed a 15 90 (.bool true):=HI.out.rh
     have X16:RV _ listed a 16 91 (.bool true):=HI.out.rh
     have X17:RV _ listed a 17 92 (.agg #[.string va,.string vb,.string vc]):=HI.out.rh
     have X18:RV _ listed a 18 93 (.agg #[.string va,.string vb,.string vc]):=HI.out.rh
     have X20:RV _ listed a 20 95 (.agg #[.string x,.string y,.string z]):=HI.out.rh
     have X21:RV _ listed a 21 96 (.agg #[.string x,.string y,.string z]):=HI.out.rh
     have X19:RV _ listed a 19 94 (.string ln):=HI.out.rh
     have X22:RV _ listed a 22 97 (.string ln):=HI.out.rh
     have X23:RV _ listed a 23 98 (.bool true):=HI.out.rh
     have X24:RV _ listed a 24 99 (.bool true):=HI.out.rh
     match i,him,Hr with
     | 0,_,Hi =>
       refine stepH rfl fun K' hK=>?_
       go_simp
       exact hK.out _ _ ⟨HI.out.pv Hi.out rfl,trivial⟩
     | 1,_,Hi =>
       refine stepH rfl fun K' hK=>?_
       go_simp
       exact hK.out _ _ ⟨HI.out.pv Hi.out rfl,trivial⟩
     | 2,_,Hi =>
       have x0:=X0.g Hi.out (by kernel_rfl)
       have x1:=X1.g Hi.out (by kernel_rfl)
       refine stepH rfl fun K' hK=>?_
       go_simp
       exact hK.out _ _ ⟨HI.out.pv Hi.out rfl,trivial⟩
     | 3,_,Hi =>
       have x2:=X2.g Hi.out (by kernel_rfl)
       refine stepH rfl fun K' hK=>?_
       go_simp
       exact hK.out _ _ ⟨HI.out.pv Hi.out rfl,trivial⟩
     | 4,_,Hi =>
       have x3:=X3.g Hi.out (by kernel_rfl)
       refine stepH rfl fun K' hK=>?_
       go_simp
       exact hK.out _ _ ⟨HI.out.pv Hi.out rfl,trivial⟩
     | 5,_,Hi =>
       have x3:=X3.g Hi.out (by kernel_rfl)
       refine stepH rfl fun K' hK=>?_
       go_simp
       exact hK.out _ _ ⟨HI.out.pv Hi.out rfl,trivial⟩
     | 6,_,Hi =>
       have x4:=X4.g Hi.out (by kernel_rfl)
       have x5:=X5.g Hi.out (by kernel_rfl)
       have x3:=X3.g Hi.out (by kernel_rfl)
       refine stepH rfl fun K' hK=>?_
       go_simp
       exact hK.out _ _ ⟨HI.out.pv Hi.out rfl,trivial⟩
     | 7,_,Hi =>
       have x3:=X3.g Hi.out (by kernel_rfl)
       have x6:=X6.g Hi.out (by kernel_rfl)
       refine stepH rfl fun K' hK=>?_
       go_simp
       exact hK.out _ _ ⟨HI.out.pv Hi.out rfl,trivial⟩
     | 8,_,Hi =>
       have x7:=X7.g Hi.out (by kernel_rfl)
       refine stepH rfl fun K' hK=>?_
       go_simp
       exact hK.out _ _ ⟨HI.out.pv Hi.out rfl,trivial⟩
     | 9,_,Hi =>
       have x8:=X8.g Hi.out (by kernel_rfl)
       refine stepH rfl fun K' hK=>?_
       go_simp
       exact hK.out _ _ ⟨HI.out.pv Hi.out rfl,trivial⟩
     | 10,_,Hi =>
       have x9:=X9.g Hi.out (by kernel_rfl)
       have x8:=X8.g Hi.out (by kernel_rfl)
       refine stepH rfl fun K' hK=>?_
       go_simp
       exact hK.out _ _ ⟨HI.out.pv Hi.out rfl,trivial⟩
     | 11,_,Hi =>
       have x8:=X8.g Hi.out (by kernel_rfl)
       have x10:=X10.g Hi.out (by kernel_rfl)
       refine stepH rfl fun K' hK=>?_
       go_simp
       exact hK.out _ _ ⟨HI.out.pv Hi.out rfl,trivial⟩
     | 12,_,Hi =>
       have x11:=X11.g Hi.out (by kernel_rfl)
       refine stepH rfl fun K' hK=>?_
       go_simp
       exact hK.out _ _ ⟨HI.out.pv Hi.out rfl,trivial⟩
     | 13,_,Hi =>
       have x12:=X12.g Hi.out (by kernel_rfl)
       refine stepH rfl fun K' hK=>?_
       go_simp
       exact hK.out _ _ ⟨HI.out.pv Hi.out rfl,trivial⟩
     | 14,_,Hi =>
       have x13:=X13.g Hi.out (by kernel_rfl)
       have x12:=X12.g Hi.out (by kernel_rfl)
       refine stepH rfl fun K' hK=>?_
       go_simp
       exact hK.out _ _ ⟨HI.out.pv Hi.out rfl,trivial⟩
     | 15,_,Hi =>
       have x12:=X12.g Hi.out (by kernel_rfl)
       have x14:=X14.g Hi.out (by kernel_rfl)
       refine stepH rfl fun K' hK=>?_
       go_simp
       exact hK.out _ _ ⟨HI.out.pv Hi.out rfl,trivial⟩
     | 16,_,Hi =>
       have x15:=X15.g Hi.out (by kernel_rfl)
       refine stepH rfl fun K' hK=>?_
       go_simp
       exact hK.out _ _ ⟨HI.out.pv Hi.out rfl,trivial⟩
     | 17,_,Hi =>
       have x16:=X16.g Hi.out (by kernel_rfl)
       refine stepH rfl fun K' hK=>?_
       go_simp
       exact hK.out _ _ ⟨HI.out.pv Hi.out rfl,trivial⟩
     | 18,_,Hi =>
       have x16:=X16.g Hi.out (by kernel_rfl)
       refine stepH rfl fun K' hK=>?_
       go_simp
       exact hK.out _ _ ⟨HI.out.pv Hi.out rfl,trivial⟩
     | 19,_,Hi =>
       have x17:=X17.g Hi.out (by kernel_rfl)
       have x18:=X18.g Hi.out (by kernel_rfl)
       have x16:=X16.g Hi.out (by kernel_rfl)
       refine stepH rfl fun K' hK=>?_
       go_simp
       with_reducible refine(C5.out _ (HB13.out.trans (HI.out.world.mono HB13.out.size))).mono ?_
       rintro e W' ⟨rfl,hb⟩
       exact hK.out _ _ ⟨HI.out.pc Hi.out hb rfl,trivial⟩
     | 20,_,Hi =>
       have x16:=X16.g Hi.out (by kernel_rfl)
       refine stepH rfl fun K' hK=>?_
       go_simp
       exact hK.out _ _ ⟨HI.out.pv Hi.out rfl,trivial⟩
     | 21,_,Hi =>
       have x16:=X16.g Hi.out (by kernel_rfl)
       refine stepH rfl fun K' hK=>?_
       go_simp
       exact hK.out _ _ ⟨HI.out.pv Hi.out rfl,trivial⟩
     | 22,_,Hi =>
       have x20:=X20.g Hi.out (by kernel_rfl)
       have x21:=X21.g Hi.out (by kernel_rfl)
       have x16:=X16.g Hi.out (by kernel_rfl)
       refine stepH rfl fun K' hK=>?_
       go_simp
       with_reducible refine(C6.out _ (HB13.out.trans (HI.out.world.mono HB13.out.size))).mono ?_
       rintro e W' ⟨rfl,hb⟩
       exact hK.out _ _ ⟨HI.out.pc Hi.out hb rfl,trivial⟩
     | 23,_,Hi =>
       have x19:=X19.g Hi.out (by kernel_rfl)
       have x22:=X22.g Hi.out (by kernel_rfl)
       have x16:=X16.g Hi.out (by kernel_rfl)
       refine stepH rfl fun K' hK=>?_
       go_simp
       exact hK.out _ _ ⟨HI.out.pv Hi.out rfl,trivial⟩
     | 24,_,Hi =>
       have x16:=X16.g Hi.out (by kernel_rfl)
       have x23:=X23.g Hi.out (by kernel_rfl)
       refine stepH rfl fun K' hK=>?_
       go_simp
       exact hK.out _ _ ⟨HI.out.pv Hi.out rfl,trivial⟩
     | 25,_,Hi =>
       have x24:=X24.g Hi.out (by kernel_rfl)
       refine stepH rfl fun K' hK=>?_
       go_simp
       exact hK.out _ _ ⟨HI.out.pv Hi.out rfl,trivial⟩
     | n+26,h,_=>exact absurd h (by omega)
   · intro listed a W hI hD hall
     have HBW:=hid hI.world
     have HI:=hid hI
     have HA:=hid hall
     clear hI hall
     have HBX:=hid (HB13.out.trans (HBW.out.mono HB13.out.size))
     refine tail_nil ?_
     exact⟨rfl,(HI.out.finx ⟨HI.out.sx HA.out 0,HI.out.sx HA.out 1,HI.out.sx HA.out 2,HI.out.sx HA.out 3,HI.out.sx HA.out 4,HI.out.sx HA.out 5,HI.out.sx HA.out 6,HI.out.sx HA.out 7,HI.out.sx HA.out 8,HI.out.sx HA.out 9,HI.out.sx HA.out 10,HI.out.sx HA.out 11,HI.out.sx HA.out 12,HI.out.sx HA.out 13,HI.out.sx HA.out 14,HI.out.sx HA.out 15,HI.out.sx HA.out 16,HI.out.sx HA.out 17,HI.out.sx HA.out 18,HI.out.sx HA.out 19,HI.out.sx HA.out 20,HI.out.sx HA.out 21,HI.out.sx HA.out 22,HI.out.sx HA.out 23,HI.out.sx HA.out 24,HI.out.sx HA.out 25,trivial⟩ rfl),HBX.out⟩
 rintro a' W14 ⟨rfl,z0⟩
 have HB14:=hid z0
 clear z0
 simp only[putL,List.setIfInBounds_toArray,List.set_cons_zero,List.set_cons_succ]
 go_wp2
 exact bodyPost_ret (v:=.bool true) (by simp[results,Tryz.results6,go_sem]) rfl ⟨rfl,HB14.out⟩
end Go.Proofs.YthjmjlfnpnbonaaGreatDoor
