/- garboardlaw16.AttitudeMirrors returns true: walks. -/
import Derived.Test.YthjmjlfnpnbonaaGreatDoorHh
set_option maxRecDepth 100000
set_option maxHeartbeats 20000000
open Go.Lib (hid)
namespace Go.Proofs.YthjmjlfnpnbonaaGreatDoor
open Go.RowKit Go.Gb
theorem hmi_long1 (p q x y z:ByteArray)(w₀:World)  (hla:La w₀)(fa:decide (p.size≤40∧q.size≤40)=false) :
 CV w₀ 7 #[.agg #[.string p,.string q],.agg #[.string x,.string y,.string z]] (.bool true):=by
 intro w hw
 have HT:=hid (hla.on hw)
 have FA:=hid fa
 clear hla fa hw
 go_enter Tryz.func7,Tryz.ntmps7
 go_upto_region 1 with fail
 refine wp_boxes w [(#[.string p,.string q],24),(#[.string x,.string y,.string z],29)] rfl ?_
 rintro W0 ⟨k1,k2,hb⟩
 have HB0:=hid (show Below w.heap.size w W0 from hb)
 have K1:=hid k1
 have K2:=hid k2
 clear k1 k2 hb
 go_wp2_with fail
 with_reducible refine((att_awake _ (HT.out.on HB0.out)).at).mono ?_
 rintro e W1 ⟨rfl,hb⟩
 have K1:=hid (K1.out.below hb)
 have HB1:=hbt HB0 hb
 clear hb
 have dK10:=K1.out.cell (i:=0) rfl
 have dK11:=K1.out.cell (i:=1) rfl
 go_wp2_with fail
 with_reducible refine((hshA p q false _ FA.out).at).mono ?_
 rintro e W2 ⟨rfl,hb⟩
 clear dK10 dK11
 have HB2:=hbt HB1 hb
 clear hb
 go_wp2
 exact bodyPost_ret (v:=.bool true) (by simp[results,Tryz.results7,go_sem]) rfl ⟨rfl,HB2.out⟩
theorem hmi_long2 (p q x y z:ByteArray)(w₀:World)  (hla:La w₀)(fa:decide (p.size≤40∧q.size≤40)=true)(fv:decide (x.size≤40∧y.size≤40∧z.size≤40)=false) :
 CV w₀ 7 #[.agg #[.string p,.string q],.agg #[.string x,.string y,.string z]] (.bool true):=by
 intro w hw
 have HT:=hid (hla.on hw)
 have FA:=hid fa
 have FV:=hid fv
 clear hla fa fv hw
 go_enter Tryz.func7,Tryz.ntmps7
 go_upto_region 1 with fail
 refine wp_boxes w [(#[.string p,.string q],24),(#[.string x,.string y,.string z],29)] rfl ?_
 rintro W0 ⟨k1,k2,hb⟩
 have HB0:=hid (show Below w.heap.size w W0 from hb)
 have K1:=hid k1
 have K2:=hid k2
 clear k1 k2 hb
 go_wp2_with fail
 with_reducible refine((att_awake _ (HT.out.on HB0.out)).at).mono ?_
 rintro e W1 ⟨rfl,hb⟩
 have K1:=hid (K1.out.below hb)
 have K2:=hid (K2.out.below hb)
 have HB1:=hbt HB0 hb
 clear hb
 have dK10:=K1.out.cell (i:=0) rfl
 have dK11:=K1.out.cell (i:=1) rfl
 go_wp2_with fail
 with_reducible refine((hshA p q true _ FA.out).at).mono ?_
 rintro e W2 ⟨rfl,hb⟩
 clear dK10 dK11
 have K2:=hid (K2.out.below hb)
 have HB2:=hbt HB1 hb
 clear hb
 have dK20:=K2.out.cell (i:=0) rfl
 have dK21:=K2.out.cell (i:=1) rfl
 have dK22:=K2.out.cell (i:=2) rfl
 go_wp2_with fail
 with_reducible refine((hshV x y z false _ FV.out).at).mono ?_
 rintro e W3 ⟨rfl,hb⟩
 clear dK20 dK21 dK22
 have HB3:=hbt HB2 hb
 clear hb
 go_wp2
 exact bodyPost_ret (v:=.bool true) (by simp[results,Tryz.results7,go_sem]) rfl ⟨rfl,HB3.out⟩
theorem hmi_e1 (p q x y z na nb:ByteArray)(er:Int)(w₀:World)(h1:CV w₀ 20 #[.agg #[.string p,.string q],.agg #[.string x,.string y,.string z]] (.tuple #[.agg #[.string ⟨#[]⟩,.string ⟨#[]⟩,.string ⟨#[]⟩],.int .i64 1]))(h2:CV w₀ 15 #[.agg #[.string p,.string q]] (.tuple #[.agg #[.string na,.string nb],.int .i64 er]))(hla:La w₀)(fa:decide (p.size≤40∧q.size≤40)=true)(fv:decide (x.size≤40∧y.size≤40∧z.size≤40)=true) :
 CV w₀ 7 #[.agg #[.string p,.string q],.agg #[.string x,.string y,.string z]] (.bool true):=by
 intro w hw
 have C1:=hid (h1.mono hw)
 have C2:=hid (h2.mono hw)
 have HT:=hid (hla.on hw)
 have FA:=hid fa
 have FV:=hid fv
 clear hla fa fv h1 h2 hw
 go_enter Tryz.func7,Tryz.ntmps7
 go_upto_region 1 with fail
 refine wp_boxes w [(#[.string p,.string q],24),(#[.string x,.string y,.string z],29)] rfl ?_
 rintro W0 ⟨k1,k2,hb⟩
 have HB0:=hid (show Below w.heap.size w W0 from hb)
 have K1:=hid k1
 have K2:=hid k2
 clear k1 k2 hb
 go_wp2_with fail
 with_reducible refine((att_awake _ (HT.out.on HB0.out)).at).mono ?_
 rintro e W1 ⟨rfl,hb⟩
 have K1:=hid (K1.out.below hb)
 have K2:=hid (K2.out.below hb)
 have HB1:=hbt HB0 hb
 clear hb
 have dK10:=K1.out.cell (i:=0) rfl
 have dK11:=K1.out.cell (i:=1) rfl
 go_wp2_with fail
 with_reducible refine((hshA p q true _ FA.out).at).mono ?_
 rintro e W2 ⟨rfl,hb⟩
 clear dK10 dK11
 have K1:=hid (K1.out.below hb)
 have K2:=hid (K2.out.below hb)
 have HB2:=hbt HB1 hb
 clear hb
 have dK20:=K2.out.cell (i:=0) rfl
 have dK21:=K2.out.cell (i:=1) rfl
 have dK22:=K2.out.cell (i:=2) rfl
 go_wp2_with fail
 with_reducible refine((hshV x y z true _ FV.out).at).mono ?_
 rintro e W3 ⟨rfl,hb⟩
 clear dK20 dK21 dK22
 have K1:=hid (K1.out.below hb)
 have K2:=hid (K2.out.below hb)
 have HB3:=hbt HB2 hb
 clear hb
 have dK10:=K1.out.cell (i:=0) rfl
 have dK11:=K1.out.cell (i:=1) rfl
 have dK20:=K2.out.cell (i:=0) rfl
 have dK21:=K2.out.cell (i:=1) rfl
 have dK22:=K2.out.cell (i:=2) rfl
 go_wp2_with fail
 with_reducible refine(C1.out _ HB3.out).mono ?_
 rintro e W4 ⟨rfl,hb⟩
 clear dK10 dK11 dK20 dK21 dK22
 have K1:=hid (K1.out.below hb)
 have K2:=hid (K2.out.below hb)
 have HB4:=hbt HB3 hb
 clear hb
 go_upto_region 6 with fail
 refine wp_boxes W4 [(#[.string ⟨#[]⟩,.string ⟨#[]⟩,.string ⟨#[]⟩],29)] rfl ?_
 have L1:=K1.out.lt
 have L2:=K2.out.lt
 have L3:=HB4.out.size
 rintro W5 ⟨k3,hb⟩
 have hb:Below W4.heap.size W4 W5:=hb
 have K1:=hid (K1.out.below hb)
 have K2:=hid (K2.out.below hb)
 have HB5:=hbt HB4 hb
 have K3:=hid k3
 clear k3 hb
 have dK10:=K1.out.cell (i:=0) rfl
 have dK11:=K1.out.cell (i:=1) rfl
 go_wp2_with fail
 with_reducible refine(C2.out _ HB5.out).mono ?_
 rintro e W6 ⟨rfl,hb⟩
 clear dK10 dK11
 have K1:=hid (K1.out.below hb)
 have K2:=hid (K2.out.below hb)
 have K3:=hid (K3.out.below hb)
 have HB6:=hbt HB5 hb
 clear hb
 go_upto_region 7 with fail
 refine wp_boxes W6 [(#[.string na,.string nb],24)] rfl ?_
 have L4:=K1.out.lt
 have L5:=K2.out.lt
 have L6:=K3.out.lt
 have L7:=HB6.out.size
 rintro W7 ⟨k4,hb⟩
 have hb:Below W6.heap.size W6 W7:=hb
 have HB7:=hbt HB6 hb
 have K4:=hid k4
 clear k4 hb
 go_wp2
 exact bodyPost_ret (v:=.bool true) (by simp[results,Tryz.results7,go_sem]) rfl ⟨rfl,HB7.out⟩
theorem hmi_e2 (p q x y z na nb:ByteArray)(er:Int)(w₀:World)(h1:CV w₀ 20 #[.agg #[.string p,.string q],.agg #[.string x,.string y,.string z]] (.tuple #[.agg #[.string ⟨#[]⟩,.string ⟨#[]⟩,.string ⟨#[]⟩],.int .i64 2]))(h2:CV w₀ 15 #[.agg #[.string p,.string q]] (.tuple #[.agg #[.string na,.string nb],.int .i64 er]))(hla:La w₀)(fa:decide (p.size≤40∧q.size≤40)=true)(fv:decide (x.size≤40∧y.size≤40∧z.size≤40)=true) :
 CV w₀ 7 #[.agg #[.string p,.string q],.agg #[.string x,.string y,.string z]] (.bool true):=by
 intro w hw
 have C1:=hid (h1.mono hw)
 have C2:=hid (h2.mono hw)
 have HT:=hid (hla.on hw)
 have FA:=hid fa
 have FV:=hid fv
 clear hla fa fv h1 h2 hw
 go_enter Tryz.func7,Tryz.ntmps7
 go_upto_region 1 with fail
 refine wp_boxes w [(#[.string p,.string q],24),(#[.string x,.string y,.string z],29)] rfl ?_
 rintro W0 ⟨k1,k2,hb⟩
 have HB0:=hid (show Below w.heap.size w W0 from hb)
 have K1:=hid k1
 have K2:=hid k2
 clear k1 k2 hb
 go_wp2_with fail
 with_reducible refine((att_awake _ (HT.out.on HB0.out)).at).mono ?_
 rintro e W1 ⟨rfl,hb⟩
 have K1:=hid (K1.out.below hb)
 have K2:=hid (K2.out.below hb)
 have HB1:=hbt HB0 hb
 clear hb
 have dK10:=K1.out.cell (i:=0) rfl
 have dK11:=K1.out.cell (i:=1) rfl
 go_wp2_with fail
 with_reducible refine((hshA p q true _ FA.out).at).mono ?_
 rintro e W2 ⟨rfl,hb⟩
 clear dK10 dK11
 have K1:=hid (K1.out.below hb)
 have K2:=hid (K2.out.below hb)
 have HB2:=hbt HB1 hb
 clear hb
 have dK20:=K2.out.cell (i:=0) rfl
 have dK21:=K2.out.cell (i:=1) rfl
 have dK22:=K2.out.cell (i:=2) rfl
 go_wp2_with fail
 with_reducible refine((hshV x y z true _ FV.out).at).mono ?_
 rintro e W3 ⟨rfl,hb⟩
 clear dK20 dK21 dK22
 have K1:=hid (K1.out.below hb)
 have K2:=hid (K2.out.below hb)
 have HB3:=hbt HB2 hb
 clear hb
 have dK10:=K1.out.cell (i:=0) rfl
 have dK11:=K1.out.cell (i:=1) rfl
 have dK20:=K2.out.cell (i:=0) rfl
 have dK21:=K2.out.cell (i:=1) rfl
 have dK22:=K2.out.cell (i:=2) rfl
 go_wp2_with fail
 with_reducible refine(C1.out _ HB3.out).mono ?_
 rintro e W4 ⟨rfl,hb⟩
 clear dK10 dK11 dK20 dK21 dK22
 have K1:=hid (K1.out.below hb)
 have K2:=hid (K2.out.below hb)
 have HB4:=hbt HB3 hb
 clear hb
 go_upto_region 6 with fail
 refine wp_boxes W4 [(#[.string ⟨#[]⟩,.string ⟨#[]⟩,.string ⟨#[]⟩],29)] rfl ?_
 have L1:=K1.out.lt
 have L2:=K2.out.lt
 have L3:=HB4.out.size
 rintro W5 ⟨k3,hb⟩
 have hb:Below W4.heap.size W4 W5:=hb
 have K1:=hid (K1.out.below hb)
 have K2:=hid (K2.out.below hb)
 have HB5:=hbt HB4 hb
 have K3:=hid k3
 clear k3 hb
 have dK10:=K1.out.cell (i:=0) rfl
 have dK11:=K1.out.cell (i:=1) rfl
 go_wp2_with fail
 with_reducible refine(C2.out _ HB5.out).mono ?_
 rintro e W6 ⟨rfl,hb⟩
 clear dK10 dK11
 have K1:=hid (K1.out.below hb)
 have K2:=hid (K2.out.below hb)
 have K3:=hid (K3.out.below hb)
 have HB6:=hbt HB5 hb
 clear hb
 go_upto_region 7 with fail
 refine wp_boxes W6 [(#[.string na,.string nb],24)] rfl ?_
 have L4:=K1.out.lt
 have L5:=K2.out.lt
 have L6:=K3.out.lt
 have L7:=HB6.out.size
 rintro W7 ⟨k4,hb⟩
 have hb:Below W6.heap.size W6 W7:=hb
 have HB7:=hbt HB6 hb
 have K4:=hid k4
 clear k4 hb
 go_wp2
 exact bodyPost_ret (v:=.bool true) (by simp[results,Tryz.results7,go_sem]) rfl ⟨rfl,HB7.out⟩
theorem hmi_yes (p q x y z va vb vc na ny ns:ByteArray)(ma mb mc md:Rat)(w₀:World)(h1:CV w₀ 20 #[.agg #[.string p,.string q],.agg #[.string x,.string y,.string z]] (.tuple #[.agg #[.string va,.string vb,.string vc],.int .i64 0]))(h2:CV w₀ 15 #[.agg #[.string p,.string q]] (.tuple #[.agg #[.string na,.string q],.int .i64 0]))(h3:CV w₀ 20 #[.agg #[.string na,.string q],.agg #[.string x,.string ny,.string z]] (.tuple #[.agg #[.string va,.string ns,.string vc],.int .i64 0]))(hla:La w₀)(fa:decide (p.size≤40∧q.size≤40)=true)(fv:decide (x.size≤40∧y.size≤40∧z.size≤40)=true)(f1:∀ W,Calls Tryz.prog 26 #[.string y] W fun e w'=>∃ p c s d,e=.returned (.tuple #[.agg #[.bool (zneg ma.num),.slice p (zlen ma.num) c,.slice s (nlen ma.den) d],.bool true])∧RN w' (.slice p (zlen ma.num) c) ma.num.natAbs∧RN w' (.slice s (nlen ma.den) d) ma.den∧Below W.heap.size W w')(g1:∀ p1 c1 s1 d1 W,RN W (.slice p1 (zlen ma.num) c1) ma.num.natAbs→RN W (.slice s1 (nlen ma.den) d1) ma.den→Calls Tryz.prog 28 #[.agg #[.bool (zneg ma.num),.slice p1 (zlen ma.num) c1,.slice s1 (nlen ma.den) d1]] W fun e w'=>∃ p c s d,e=.returned (.agg #[.bool (zneg mb.num),.slice p (zlen mb.num) c,.slice s (nlen mb.den) d])∧RN w' (.slice p (zlen mb.num) c) mb.num.natAbs∧RN w' (.slice s (nlen mb.den) d) mb.den∧Below W.heap.size W w')(t1:∀ p1 c1 s1 d1 W,RN W (.slice p1 (zlen mb.num) c1) mb.num.natAbs→RN W (.slice s1 (nlen mb.den) d1) mb.den→CR 27 #[.agg #[.bool (zneg mb.num),.slice p1 (zlen mb.num) c1,.slice s1 (nlen mb.den) d1]] W (.string ny))(f2:∀ W,Calls Tryz.prog 26 #[.string vb] W fun e w'=>∃ p c s d,e=.returned (.tuple #[.agg #[.bool (zneg mc.num),.slice p (zlen mc.num) c,.slice s (nlen mc.den) d],.bool true])∧RN w' (.slice p (zlen mc.num) c) mc.num.natAbs∧RN w' (.slice s (nlen mc.den) d) mc.den∧Below W.heap.size W w')(g2:∀ p1 c1 s1 d1 W,RN W (.slice p1 (zlen mc.num) c1) mc.num.natAbs→RN W (.slice s1 (nlen mc.den) d1) mc.den→Calls Tryz.prog 28 #[.agg #[.bool (zneg mc.num),.slice p1 (zlen mc.num) c1,.slice s1 (nlen mc.den) d1]] W fun e w'=>∃ p c s d,e=.returned (.agg #[.bool (zneg md.num),.slice p (zlen md.num) c,.slice s (nlen md.den) d])∧RN w' (.slice p (zlen md.num) c) md.num.natAbs∧RN w' (.slice s (nlen md.den) d) md.den∧Below W.heap.size W w')(t2:∀ p1 c1 s1 d1 W,RN W (.slice p1 (zlen md.num) c1) md.num.natAbs→RN W (.slice s1 (nlen md.den) d1) md.den→CR 27 #[.agg #[.bool (zneg md.num),.slice p1 (zlen md.num) c1,.slice s1 (nlen md.den) d1]] W (.string ns)) :
 CV w₀ 7 #[.agg #[.string p,.string q],.agg #[.string x,.string y,.string z]] (.bool true):=by
 intro w hw
 have C1:=hid (h1.mono hw)
 have C2:=hid (h2.mono hw)
 have C3:=hid (h3.mono hw)
 have HT:=hid (hla.on hw)
 have FA:=hid fa
 have FV:=hid fv
 clear hla fa fv
 have F1:=hid f1
 have G1:=hid g1
 have T1:=hid t1
 have F2:=hid f2
 have G2:=hid g2
 have T2:=hid t2
 clear f1 g1 t1 f2 g2 t2 h1 h2 h3 hw
 go_enter Tryz.func7,Tryz.ntmps7
 go_upto_region 1 with fail
 refine wp_boxes w [(#[.string p,.string q],24),(#[.string x,.string y,.string z],29)] rfl ?_
 rintro W0 ⟨k1,k2,hb⟩
 have HB0:=hid (show Below w.heap.size w W0 from hb)
 have K1:=hid k1
 have K2:=hid k2
 clear k1 k2 hb
 go_wp2_with fail
 with_reducible refine((att_awake _ (HT.out.on HB0.out)).at).mono ?_
 rintro e W1 ⟨rfl,hb⟩
 have K1:=hid (K1.out.below hb)
 have K2:=hid (K2.out.below hb)
 have HB1:=hbt HB0 hb
 clear hb
 have dK10:=K1.out.cell (i:=0) rfl
 have dK11:=K1.out.cell (i:=1) rfl
 go_wp2_with fail
 with_reducible refine((hshA p q true _ FA.out).at).mono ?_
 rintro e W2 ⟨rfl,hb⟩
 clear dK10 dK11
 have K1:=hid (K1.out.below hb)
 have K2:=hid (K2.out.below hb)
 have HB2:=hbt HB1 hb
 clear hb
 have dK20:=K2.out.cell (i:=0) rfl
 have dK21:=K2.out.cell (i:=1) rfl
 have dK22:=K2.out.cell (i:=2) rfl
 go_wp2_with fail
 with_reducible refine((hshV x y z true _ FV.out).at).mono ?_
 rintro e W3 ⟨rfl,hb⟩
 clear dK20 dK21 dK22
 have K1:=hid (K1.out.below hb)
 have K2:=hid (K2.out.below hb)
 have HB3:=hbt HB2 hb
 clear hb
 have dK10:=K1.out.cell (i:=0) rfl
 have dK11:=K1.out.cell (i:=1) rfl
 have dK20:=K2.out.cell (i:=0) rfl
 have dK21:=K2.out.cell (i:=1) rfl
 have dK22:=K2.out.cell (i:=2) rfl
 go_wp2_with fail
 with_reducible refine(C1.out _ HB3.out).mono ?_
 rintro e W4 ⟨rfl,hb⟩
 clear dK10 dK11 dK20 dK21 dK22
 have K1:=hid (K1.out.below hb)
 have K2:=hid (K2.out.below hb)
 have HB4:=hbt HB3 hb
 clear hb
 go_upto_region 6 with fail
 refine wp_boxes W4 [(#[.string va,.string vb,.string vc],29)] rfl ?_
 have L1:=K1.out.lt
 have L2:=K2.out.lt
 have L3:=HB4.out.size
 rintro W5 ⟨k3,hb⟩
 have hb:Below W4.heap.size W4 W5:=hb
 have K1:=hid (K1.out.below hb)
 have K2:=hid (K2.out.below hb)
 have HB5:=hbt HB4 hb
 have K3:=hid k3
 clear k3 hb
 have dK10:=K1.out.cell (i:=0) rfl
 have dK11:=K1.out.cell (i:=1) rfl
 go_wp2_with fail
 with_reducible refine(C2.out _ HB5.out).mono ?_
 rintro e W6 ⟨rfl,hb⟩
 clear dK10 dK11
 have K1:=hid (K1.out.below hb)
 have K2:=hid (K2.out.below hb)
 have K3:=hid (K3.out.below hb)
 have HB6:=hbt HB5 hb
 clear hb
 go_upto_region 7 with fail
 refine wp_boxes W6 [(#[.string na,.string q],24)] rfl ?_
 have L4:=K1.out.lt
 have L5:=K2.out.lt
 have L6:=K3.out.lt
 have L7:=HB6.out.size
 rintro W7 ⟨k4,hb⟩
 have hb:Below W6.heap.size W6 W7:=hb
 have K1:=hid (K1.out.below hb)
 have K2:=hid (K2.out.below hb)
 have K3:=hid (K3.out.below hb)
 have HB7:=hbt HB6 hb
 have K4:=hid k4
 clear k4 hb
 have dK21:=K2.out.cell (i:=1) rfl
 go_wp2_with fail
 with_reducible refine(F1.out _).mono ?_
 rintro e W8 ⟨pa_6,ca_6,sa_6,da_6,rfl,r6_0,r6_1,hb⟩
 clear dK21
 have K1:=hid (K1.out.below hb)
 have K2:=hid (K2.out.below hb)
 have K3:=hid (K3.out.below hb)
 have K4:=hid (K4.out.below hb)
 have HB8:=hbt HB7 hb
 have RA:=hid r6_0
 have TA:=hid r6_1
 clear hb r6_0 r6_1
 go_upto_region 10 with fail
 refine wp_boxes W8 [(#[.bool (zneg (ma.num)),.slice pa_6 (zlen (ma.num)) ca_6,.slice sa_6 (nlen (ma.den)) da_6],53)] rfl ?_
 have L8:=K1.out.lt
 have L9:=K2.out.lt
 have L10:=K3.out.lt
 have L11:=K4.out.lt
 have L12:=HB8.out.size
 rintro W9 ⟨k5,hb⟩
 have hb:Below W8.heap.size W8 W9:=hb
 have K1:=hid (K1.out.below hb)
 have K2:=hid (K2.out.below hb)
 have K3:=hid (K3.out.below hb)
 have K4:=hid (K4.out.below hb)
 have RA:=hid (RA.out.below hb)
 have TA:=hid (TA.out.below hb)
 have HB9:=hbt HB8 hb
 have K5:=hid k5
 clear k5 hb
 have dK50:=K5.out.cell (i:=0) rfl
 have dK51:=K5.out.cell (i:=1) rfl
 have dK52:=K5.out.cell (i:=2) rfl
 go_wp2_with fail
 with_reducible refine(G1.out _ _ _ _ _ RA.out TA.out).mono ?_
 rintro e W10 ⟨p_7,c_7,s_7,d_7,rfl,r7_0,r7_1,hb⟩
 clear dK50 dK51 dK52
 have K1:=hid (K1.out.below hb)
 have K2:=hid (K2.out.below hb)
 have K3:=hid (K3.out.below hb)
 have K4:=hid (K4.out.below hb)
 have K5:=hid (K5.out.below hb)
 have HB10:=hbt HB9 hb
 have RB:=hid r7_0
 have TB:=hid r7_1
 clear hb r7_0 r7_1
 go_wp2_with fail
 with_reducible refine(T1.out _ _ _ _ _ RB.out TB.out).mono ?_
 rintro e W11 ⟨rfl,hb⟩
 have K1:=hid (K1.out.below hb)
 have K2:=hid (K2.out.below hb)
 have K3:=hid (K3.out.below hb)
 have K4:=hid (K4.out.below hb)
 have K5:=hid (K5.out.below hb)
 have HB11:=hbt HB10 hb
 clear hb
 have dK21:=K2.out.cell (i:=1) rfl
 have fK21:=K2.out.frozen (i:=1)
 go_upto_region 11 with fail
 clear dK21 fK21
 refine wp_world (fun V=>Below w.heap.size w V∧SBk V (w.heap.size) #[.string p,.string q] 24∧SBk V (w.heap.size+1) #[.string x,.string ny,.string z] 29∧SBk V (W4.heap.size) #[.string va,.string vb,.string vc] 29∧SBk V (W6.heap.size) #[.string na,.string q] 24∧SBk V (W8.heap.size) #[.bool (zneg (ma.num)),.slice pa_6 (zlen (ma.num)) ca_6,.slice sa_6 (nlen (ma.den)) da_6] 53) (by
  have s0:∀ {v':Value} {n':Nat},RN W11 v' n'→RN (storeAll W11 (w.heap.size+1) 1 [.string ny]) v' n':=fun h'=>store_rd _ 1 h' K2.out (by simp[noInt]) (by simp[plainV])
  have o0:∀ {g':Nat} {cs':Array Value} {T':TypeId},g'≠w.heap.size+1→SBk W11 g' cs' T'→SBk (storeAll W11 (w.heap.size+1) 1 [.string ny]) g' cs' T':=fun hg' h'=>store_off hg' _ 1 h'
  exact⟨(store_below (l:=[.string ny]) (i:=1) (by omega) HB11.out),(o0 (by omega) K1.out),(store_blk (l:=[.string ny]) (i:=1) K2.out),(o0 (by omega) K3.out),(o0 (by omega) K4.out),(o0 (by omega) K5.out)⟩) ?_
 rintro W12 ⟨hb,z0,z1,z2,z3,z4⟩
 have HB12:=hid hb
 have K1:=hid z0
 have K2:=hid z1
 have K3:=hid z2
 have K4:=hid z3
 have K5:=hid z4
 clear hb z0 z1 z2 z3 z4
 have dK40:=K4.out.cell (i:=0) rfl
 have dK41:=K4.out.cell (i:=1) rfl
 have dK20:=K2.out.cell (i:=0) rfl
 have dK21:=K2.out.cell (i:=1) rfl
 have dK22:=K2.out.cell (i:=2) rfl
 go_wp2_with fail
 with_reducible refine(C3.out _ HB12.out).mono ?_
 rintro e W13 ⟨rfl,hb⟩
 clear dK40 dK41 dK20 dK21 dK22
 have K1:=hid (K1.out.below hb)
 have K2:=hid (K2.out.below hb)
 have K3:=hid (K3.out.below hb)
 have K4:=hid (K4.out.below hb)
 have K5:=hid (K5.out.below hb)
 have HB13:=hbt HB12 hb
 clear hb
 go_upto_region 12 with fail
 refine wp_boxes W13 [(#[.string va,.string ns,.string vc],29)] rfl ?_
 have L13:=K1.out.lt
 have L14:=K2.out.lt
 have L15:=K3.out.lt
 have L16:=K4.out.lt
 have L17:=K5.out.lt
 have L18:=HB13.out.size
 rintro W14 ⟨k6,hb⟩
 have hb:Below W13.heap.size W13 W14:=hb
 have K1:=hid (K1.out.below hb)
 have K2:=hid (K2.out.below hb)
 have K3:=hid (K3.out.below hb)
 have K4:=hid (K4.out.below hb)
 have K5:=hid (K5.out.below hb)
 have HB14:=hbt HB13 hb
 have K6:=hid k6
 clear k6 hb
 have dK31:=K3.out.cell (i:=1) rfl
 go_wp2_with fail
 with_reducible refine(F2.out _).mono ?_
 rintro e W15 ⟨pa_10,ca_10,sa_10,da_10,rfl,r10_0,r10_1,hb⟩
 clear dK31
 have K1:=hid (K1.out.below hb)
 have K2:=hid (K2.out.below hb)
 have K3:=hid (K3.out.below hb)
 have K4:=hid (K4.out.below hb)
 have K5:=hid (K5.out.below hb)
 have K6:=hid (K6.out.below hb)
 have HB15:=hbt HB14 hb
 have RC:=hid r10_0
 have TC:=hid r10_1
 clear hb r10_0 r10_1
 go_upto_region 13 with fail
 refine wp_boxes W15 [(#[.bool (zneg (mc.num)),.slice pa_10 (zlen (mc.num)) ca_10,.slice sa_10 (nlen (mc.den)) da_10],53)] rfl ?_
 have L19:=K1.out.lt
 have L20:=K2.out.lt
 have L21:=K3.out.lt
 have L22:=K4.out.lt
 have L23:=K5.out.lt
 have L24:=K6.out.lt
 have L25:=HB15.out.size
 rintro W16 ⟨k7,hb⟩
 have hb:Below W15.heap.size W15 W16:=hb
 have K3:=hid (K3.out.below hb)
 have K6:=hid (K6.out.below hb)
 have RC:=hid (RC.out.below hb)
 have TC:=hid (TC.out.below hb)
 have HB16:=hbt HB15 hb
 have K7:=hid k7
 clear k7 hb
 go_wp2_with fail
 refine wp_region_post (fun a0 a' V=>∃ pw1_13 cw1_13 sw1_13 dw1_13,a'=⟨putL [(64,.bool true),(65,.bool true),(66,.bool true),(67,.bool true),(68,.bool true),(69,.int .i64 0),(70,.bool true),(71,.bool true),(72,.bool true),(73,.agg #[.string va,.string ns,.string vc]),(74,.pointer (some ⟨W4.heap.size,0,none⟩)),(75,.string va),(76,.agg #[.bool (zneg (mc.num)),.slice pa_10 (zlen (mc.num)) ca_10,.slice sa_10 (nlen (mc.den)) da_10]),(77,.agg #[.bool (zneg (md.num)),.slice pw1_13 (zlen (md.num)) cw1_13,.slice sw1_13 (nlen (md.den)) dw1_13]),(78,.string ns),(79,.pointer (some ⟨W4.heap.size,2,none⟩)),(80,.string vc),(81,.agg #[.string va,.string ns,.string vc]),(82,.bool true),(83,.bool true),(4,.bool true)] a0.tmps,a0.defers⟩∧Below w.heap.size w V) ?_ ?_
 · refine wp_region_tail_d (by kernel_rfl) 21 0 (fun i=>[64,65,66,67,68,69,70,71,72,73,74,75,76,77,78,79,80,81,82,83,4].getD i 0) (RelR [Rel.val (.bool true),Rel.val (.bool true),Rel.val (.bool true),Rel.val (.bool true),Rel.val (.bool true),Rel.val (.int .i64 0),Rel.val (.bool true),Rel.val (.bool true),Rel.val (.bool true),Rel.val (.agg #[.string va,.string ns,.string vc]),Rel.val (.pointer (some ⟨W4.heap.size,0,none⟩)),Rel.val (.string va),Rel.val (.agg #[.bool (zneg (mc.num)),.slice pa_10 (zlen (mc.num)) ca_10,.slice sa_10 (nlen (mc.den)) da_10]),⟨fun v W=>∃ p c s d,v=.agg #[.bool (zneg (md.num)),.slice p (zlen (md.num)) c,.slice s (nlen (md.den)) d]∧RN W (.slice p (zlen (md.num)) c) (md.num).natAbs∧RN W (.slice s (nlen (md.den)) d) (md.den),fun _ _ _ ⟨p,c,s,d,e,h0,h1⟩ hb=>⟨p,c,s,d,e,h0.below hb,h1.below hb⟩⟩,Rel.val (.string ns),Rel.val (.pointer (some ⟨W4.heap.size,2,none⟩)),Rel.val (.string vc),Rel.val (.agg #[.string va,.string ns,.string vc]),Rel.val (.bool true),Rel.val (.bool true),Rel.val (.bool true)]) (fun W=>Below W16.heap.size W16 W) (fun _ _=>True) (by kernel_rfl) (by kernel_rfl) (by kernel_rfl) trivial (Below.refl _ _).drew ?_ ?_
   · intro listed a W i hI hD hrd him
     have HI:=hid hI
     have HD:=hid hD
     have Hr:=hid hrd
     clear hI hrd hD
     have y10:a.tmps[10]? = some (.bool true):=HI.out.rest 10 (by decide)
     have y14:a.tmps[14]? = some (.bool true):=HI.out.rest 14 (by decide)
     have y12:a.tmps[12]? = some (.int .i64 0):=HI.out.rest 12 (by decide)
     have y11:a.tmps[11]? = some (.pointer (some ⟨W13.heap.size,0,none⟩)):=HI.out.rest 11 (by decide)
     have y5:a.tmps[5]? = some (.pointer (some ⟨W4.heap.size,0,none⟩)):=HI.out.rest 5 (by decide)
     have y13:a.tmps[13]? = some (.pointer (some ⟨W15.heap.size,0,none⟩)):=HI.out.rest 13 (by decide)
     have dK60:=(K6.out.below HI.out.world).cell (i:=0) rfl
     have dK61:=(K6.out.below HI.out.world).cell (i:=1) rfl
     have dK62:=(K6.out.below HI.out.world).cell (i:=2) rfl
     have dK30:=(K3.out.below HI.out.world).cell (i:=0) rfl
     have dK70:=(K7.out.below HI.out.world).cell (i:=0) rfl
     have dK71:=(K7.out.below HI.out.world).cell (i:=1) rfl
     have dK72:=(K7.out.below HI.out.world).cell (i:=2) rfl
     have dK32:=(K3.out.below HI.out.world).cell (i:=2) rfl
     have X0:RV _ listed a 0 64 (.bool true):=HI.out.rh
     have X1:RV _ listed a 1 65 (.bool true):=HI.out.rh
     have X2:RV _ listed a 2 66 (.bool true):=HI.out.rh
     have X3:RV _ listed a 3 67 (.bool true):=HI.out.rh
     have X4:RV _ listed a 4 68 (.bool true):=HI.out.rh
     have X5:RV _ listed a 5 69 (.int .i64 0):=HI.out.rh
     have X6:RV _ listed a 6 70 (.bool true):=HI.out.rh
     have X7:RV _ listed a 7 71 (.bool true):=HI.out.rh
     have X8:RV _ listed a 8 72 (.bool true):=HI.out.rh
     have X10:RV _ listed a 10 74 (.pointer (some ⟨W4.heap.size,0,none⟩)):=HI.out.rh
     have X12:RV _ listed a 12 76 (.agg #[.bool (zneg (mc.num)),.slice pa_10 (zlen (mc.num)) ca_10,.slice sa_10 (nlen (mc.den)) da_10]):=HI.out.rh
     have X15:RV _ listed a 15 79 (.pointer (some ⟨W4.heap.size,2,none⟩)):=HI.out.rh
     have X11:RV _ listed a 11 75 (.string va):=HI.out.rh
     have X14:RV _ listed a 14 78 (.string ns):=HI.out.rh
     have X16:RV _ listed a 16 80 (.string vc):=HI.out.rh
     have X9:RV _ listed a 9 73 (.agg #[.string va,.string ns,.string vc]):=HI.out.rh
     have X17:RV _ listed a 17 81 (.agg #[.string va,.string ns,.string vc]):=HI.out.rh
     have X18:RV _ listed a 18 82 (.bool true):=HI.out.rh
     have X19:RV _ listed a 19 83 (.bool true):=HI.out.rh
     match i,him,Hr with
     | 0,_,Hi =>
       refine stepH rfl fun K' hK=>?_
       go_simp
       exact hK.out _ _ ⟨HI.out.pv Hi.out rfl,trivial⟩
     | 1,_,Hi =>
       have x0:=X0.g Hi.out (by kernel_rfl)
       refine stepH rfl fun K' hK=>?_
       go_simp
       exact hK.out _ _ ⟨HI.out.pv Hi.out rfl,trivial⟩
     | 2,_,Hi =>
       have x1:=X1.g Hi.out (by kernel_rfl)
       refine stepH rfl fun K' hK=>?_
       go_simp
       exact hK.out _ _ ⟨HI.out.pv Hi.out rfl,trivial⟩
     | 3,_,Hi =>
       have x1:=X1.g Hi.out (by kernel_rfl)
       have x2:=X2.g Hi.out (by kernel_rfl)
       refine stepH rfl fun K' hK=>?_
       go_simp
       exact hK.out _ _ ⟨HI.out.pv Hi.out rfl,trivial⟩
     | 4,_,Hi =>
       have x3:=X3.g Hi.out (by kernel_rfl)
       refine stepH rfl fun K' hK=>?_
       go_simp
       exact hK.out _ _ ⟨HI.out.pv Hi.out rfl,trivial⟩
     | 5,_,Hi =>
       have x4:=X4.g Hi.out (by kernel_rfl)
       refine stepH rfl fun K' hK=>?_
       go_simp
       exact hK.out _ _ ⟨HI.out.pv Hi.out rfl,trivial⟩
     | 6,_,Hi =>
       have x5:=X5.g Hi.out (by kernel_rfl)
       have x4:=X4.g Hi.out (by kernel_rfl)
       refine stepH rfl fun K' hK=>?_
       go_simp
       exact hK.out _ _ ⟨HI.out.pv Hi.out rfl,trivial⟩
     | 7,_,Hi =>
       have x4:=X4.g Hi.out (by kernel_rfl)
       have x6:=X6.g Hi.out (by kernel_rfl)
       refine stepH rfl fun K' hK=>?_
       go_simp
       exact hK.out _ _ ⟨HI.out.pv Hi.out rfl,trivial⟩
     | 8,_,Hi =>
       have x7:=X7.g Hi.out (by kernel_rfl)
       refine stepH rfl fun K' hK=>?_
       go_simp
       exact hK.out _ _ ⟨HI.out.pv Hi.out rfl,trivial⟩
     | 9,_,Hi =>
       have x8:=X8.g Hi.out (by kernel_rfl)
       refine stepH rfl fun K' hK=>?_
       go_simp
       exact hK.out _ _ ⟨HI.out.pv Hi.out rfl,trivial⟩
     | 10,_,Hi =>
       have x8:=X8.g Hi.out (by kernel_rfl)
       refine stepH rfl fun K' hK=>?_
       go_simp
       exact hK.out _ _ ⟨HI.out.pv Hi.out rfl,trivial⟩
     | 11,_,Hi =>
       have x10:=X10.g Hi.out (by kernel_rfl)
       have x8:=X8.g Hi.out (by kernel_rfl)
       refine stepH rfl fun K' hK=>?_
       go_simp
       exact hK.out _ _ ⟨HI.out.pv Hi.out rfl,trivial⟩
     | 12,_,Hi =>
       have x8:=X8.g Hi.out (by kernel_rfl)
       refine stepH rfl fun K' hK=>?_
       go_simp
       exact hK.out _ _ ⟨HI.out.pv Hi.out rfl,trivial⟩
     | 13,_,Hi =>
       have x12:=X12.g Hi.out (by kernel_rfl)
       have x8:=X8.g Hi.out (by kernel_rfl)
       refine stepH rfl fun K' hK=>?_
       go_simp
       with_reducible refine(G2.out _ _ _ _ _ (RC.out.below HI.out.world) (TC.out.below HI.out.world)).mono ?_
       rintro e W' ⟨pw1_13,cw1_13,sw1_13,dw1_13,rfl,rrw1_13,rrw1_13_1,hb⟩
       exact hK.out _ _ ⟨HI.out.pc Hi.out hb ⟨pw1_13,cw1_13,sw1_13,dw1_13,rfl,rrw1_13,rrw1_13_1⟩,trivial⟩
     | 14,_,Hi =>
       obtain⟨v',x13,pw1_13,cw1_13,sw1_13,dw1_13,e,rrw1_13,rrw1_13_1⟩:=HI.out.at (i:=13) Hi.out (by kernel_rfl) (by decide)
       obtain rfl:=e
       have x13:a.tmps[77]? = some (.agg #[.bool (zneg (md.num)),.slice pw1_13 (zlen (md.num)) cw1_13,.slice sw1_13 (nlen (md.den)) dw1_13]):=x13
       have RRW1_13:=hid rrw1_13
       clear rrw1_13
       have RRW1_13_1:=hid rrw1_13_1
       clear rrw1_13_1
       have x8:=X8.g Hi.out (by kernel_rfl)
       refine stepH rfl fun K' hK=>?_
       go_simp
       with_reducible refine(T2.out _ _ _ _ _ RRW1_13.out RRW1_13_1.out).mono ?_
       rintro e W' ⟨rfl,hb⟩
       exact hK.out _ _ ⟨HI.out.pc Hi.out hb rfl,trivial⟩
     | 15,_,Hi =>
       have x8:=X8.g Hi.out (by kernel_rfl)
       refine stepH rfl fun K' hK=>?_
       go_simp
       exact hK.out _ _ ⟨HI.out.pv Hi.out rfl,trivial⟩
     | 16,_,Hi =>
       have x15:=X15.g Hi.out (by kernel_rfl)
       have x8:=X8.g Hi.out (by kernel_rfl)
       refine stepH rfl fun K' hK=>?_
       go_simp
       exact hK.out _ _ ⟨HI.out.pv Hi.out rfl,trivial⟩
     | 17,_,Hi =>
       have x11:=X11.g Hi.out (by kernel_rfl)
       have x14:=X14.g Hi.out (by kernel_rfl)
       have x16:=X16.g Hi.out (by kernel_rfl)
       have x8:=X8.g Hi.out (by kernel_rfl)
       refine stepH rfl fun K' hK=>?_
       go_simp
       exact hK.out _ _ ⟨HI.out.pv Hi.out rfl,trivial⟩
     | 18,_,Hi =>
       have x9:=X9.g Hi.out (by kernel_rfl)
       have x17:=X17.g Hi.out (by kernel_rfl)
       have x8:=X8.g Hi.out (by kernel_rfl)
       refine stepH rfl fun K' hK=>?_
       go_simp
       exact hK.out _ _ ⟨HI.out.pv Hi.out rfl,trivial⟩
     | 19,_,Hi =>
       have x8:=X8.g Hi.out (by kernel_rfl)
       have x18:=X18.g Hi.out (by kernel_rfl)
       refine stepH rfl fun K' hK=>?_
       go_simp
       exact hK.out _ _ ⟨HI.out.pv Hi.out rfl,trivial⟩
     | 20,_,Hi =>
       have x19:=X19.g Hi.out (by kernel_rfl)
       refine stepH rfl fun K' hK=>?_
       go_simp
       exact hK.out _ _ ⟨HI.out.pv Hi.out rfl,trivial⟩
     | n+21,h,_=>exact absurd h (by omega)
   · intro listed a W hI hD hall
     obtain⟨v',x13,pw1_13,cw1_13,sw1_13,dw1_13,e,rrw1_13,rrw1_13_1⟩:=hI.slots 13 (by decide) (hall 13 (by decide))
     obtain rfl:=e
     have RRW1_13:=hid rrw1_13
     clear rrw1_13
     have RRW1_13_1:=hid rrw1_13_1
     clear rrw1_13_1
     have HBW:=hid hI.world
     have HI:=hid hI
     have HA:=hid hall
     clear hI hall
     have HBX:=hid (HB16.out.trans (HBW.out.mono HB16.out.size))
     have RD:=RRW1_13
     have TD:=RRW1_13_1
     refine tail_nil ?_
     exact⟨rfl,pw1_13,cw1_13,sw1_13,dw1_13,(HI.out.finx ⟨HI.out.sx HA.out 0,HI.out.sx HA.out 1,HI.out.sx HA.out 2,HI.out.sx HA.out 3,HI.out.sx HA.out 4,HI.out.sx HA.out 5,HI.out.sx HA.out 6,HI.out.sx HA.out 7,HI.out.sx HA.out 8,HI.out.sx HA.out 9,HI.out.sx HA.out 10,HI.out.sx HA.out 11,HI.out.sx HA.out 12,x13,HI.out.sx HA.out 14,HI.out.sx HA.out 15,HI.out.sx HA.out 16,HI.out.sx HA.out 17,HI.out.sx HA.out 18,HI.out.sx HA.out 19,HI.out.sx HA.out 20,trivial⟩ rfl),HBX.out⟩
 rintro a' W17 ⟨pw1_13,cw1_13,sw1_13,dw1_13,rfl,z0⟩
 have HB17:=hid z0
 clear z0
 simp only[putL,List.setIfInBounds_toArray,List.set_cons_zero,List.set_cons_succ]
 go_wp2
 exact bodyPost_ret (v:=.bool true) (by simp[results,Tryz.results7,go_sem]) rfl ⟨rfl,HB17.out⟩
end Go.Proofs.YthjmjlfnpnbonaaGreatDoor
