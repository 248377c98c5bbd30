/- garboardlaw11.VectorLinear returns true: walks. -/
import Derived.Test.YtklfllmfcckgjaaGreatDoorGm
set_option maxRecDepth 100000
set_option maxHeartbeats 20000000
open Go.Lib (hid)
namespace Go.Proofs.YtklfllmfcckgjaaGreatDoor
open Go.RowKit Go.Gb
theorem vlin_long (x1 x2 x3 y1 y2 y3 z1 z2 z3 v:ByteArray)(b0:Bool)(w₀:World)  (hla:La w₀)(fw:decide (x1.size≤20∧x2.size≤20∧x3.size≤20∧y1.size≤20∧y2.size≤20∧y3.size≤20∧z1.size≤20∧z2.size≤20∧z3.size≤20)=b0)(fx:(decide (v.size≤20)&&b0)=false) :
 CV w₀ 4 #[.agg #[.string x1,.string x2,.string x3],.agg #[.string y1,.string y2,.string y3],.agg #[.string z1,.string z2,.string z3],.string v] (.bool true):=by
 intro w hw
 have HT:=hid (hla.on hw)
 have FW:=hid fw
 have FX:=hid fx
 clear hla fw fx hw
 go_enter Tryz.func4,Tryz.ntmps4
 go_upto_region 1 with fail
 refine wp_boxes w [(#[.string x1,.string x2,.string x3],24),(#[.string y1,.string y2,.string y3],24),(#[.string z1,.string z2,.string z3],24)] rfl ?_
 rintro W0 ⟨k1,k2,k3,hb⟩
 have HB0:=hid (show Below w.heap.size w W0 from hb)
 have K1:=hid k1
 have K2:=hid k2
 have K3:=hid k3
 clear k1 k2 k3 hb
 go_wp2_with fail
 with_reducible refine((vec_awake _ (HT.out.on HB0.out)).at).mono ?_
 rintro e W1 ⟨rfl,hb⟩
 have K1:=hid (K1.out.below hb)
 have K2:=hid (K2.out.below hb)
 have K3:=hid (K3.out.below hb)
 have HB1:=hbt HB0 hb
 clear hb
 have dK10:=K1.out.cell (i:=0) rfl
 have dK11:=K1.out.cell (i:=1) rfl
 have dK12:=K1.out.cell (i:=2) rfl
 have dK20:=K2.out.cell (i:=0) rfl
 have dK21:=K2.out.cell (i:=1) rfl
 have dK22:=K2.out.cell (i:=2) rfl
 have dK30:=K3.out.cell (i:=0) rfl
 have dK31:=K3.out.cell (i:=1) rfl
 have dK32:=K3.out.cell (i:=2) rfl
 go_wp2_with fail
 have hb:=below_new W1 (.cells #[.string x1,.string x2,.string x3,.string y1,.string y2,.string y3,.string z1,.string z2,.string z3] 24)
 have k4:=SBk.new W1 #[.string x1,.string x2,.string x3,.string y1,.string y2,.string y3,.string z1,.string z2,.string z3] 24
 generalize W1.alloc (.cells #[.string x1,.string x2,.string x3,.string y1,.string y2,.string y3,.string z1,.string z2,.string z3] 24)=W2 at *
 have HB2:=hbt HB1 hb
 have K4:=hid k4
 clear k4 hb
 with_reducible refine((few_num v _ b0 false _ (few_list3 _ x1 x2 x3 y1 y2 y3 z1 z2 z3 b0 FW.out _ K4.out) FX.out).at).mono ?_
 rintro e W3 ⟨rfl,hb⟩
 clear dK10 dK11 dK12 dK20 dK21 dK22 dK30 dK31 dK32
 have HB3:=hbt HB2 hb
 clear hb
 go_wp2_with fail
 with_reducible refine((vec_awake _ (HT.out.on HB3.out)).at).mono ?_
 rintro e W4 ⟨rfl,hb⟩
 have HB4:=hbt HB3 hb
 clear hb
 go_wp2
 exact bodyPost_ret (v:=.bool true) (by simp[results,Tryz.results4,go_sem]) rfl ⟨rfl,HB4.out⟩
theorem vlin_no1 (x1 x2 x3 y1 y2 y3 z1 z2 z3 v:ByteArray)(b0:Bool)(w₀:World)(h1:CV w₀ 9 #[.agg #[.string x1,.string x2,.string x3]] (.bool false))(hla:La w₀)(fw:decide (x1.size≤20∧x2.size≤20∧x3.size≤20∧y1.size≤20∧y2.size≤20∧y3.size≤20∧z1.size≤20∧z2.size≤20∧z3.size≤20)=b0)(fx:(decide (v.size≤20)&&b0)=true) :
 CV w₀ 4 #[.agg #[.string x1,.string x2,.string x3],.agg #[.string y1,.string y2,.string y3],.agg #[.string z1,.string z2,.string z3],.string v] (.bool true):=by
 intro w hw
 have C1:=hid (h1.mono hw)
 have HT:=hid (hla.on hw)
 have FW:=hid fw
 have FX:=hid fx
 clear hla fw fx h1 hw
 go_enter Tryz.func4,Tryz.ntmps4
 go_upto_region 1 with fail
 refine wp_boxes w [(#[.string x1,.string x2,.string x3],24),(#[.string y1,.string y2,.string y3],24),(#[.string z1,.string z2,.string z3],24)] rfl ?_
 rintro W0 ⟨k1,k2,k3,hb⟩
 have HB0:=hid (show Below w.heap.size w W0 from hb)
 have K1:=hid k1
 have K2:=hid k2
 have K3:=hid k3
 clear k1 k2 k3 hb
 go_wp2_with fail
 with_reducible refine((vec_awake _ (HT.out.on HB0.out)).at).mono ?_
 rintro e W1 ⟨rfl,hb⟩
 have K1:=hid (K1.out.below hb)
 have K2:=hid (K2.out.below hb)
 have K3:=hid (K3.out.below hb)
 have HB1:=hbt HB0 hb
 clear hb
 have dK10:=K1.out.cell (i:=0) rfl
 have dK11:=K1.out.cell (i:=1) rfl
 have dK12:=K1.out.cell (i:=2) rfl
 have dK20:=K2.out.cell (i:=0) rfl
 have dK21:=K2.out.cell (i:=1) rfl
 have dK22:=K2.out.cell (i:=2) rfl
 have dK30:=K3.out.cell (i:=0) rfl
 have dK31:=K3.out.cell (i:=1) rfl
 have dK32:=K3.out.cell (i:=2) rfl
 go_wp2_with fail
 have hb:=below_new W1 (.cells #[.string x1,.string x2,.string x3,.string y1,.string y2,.string y3,.string z1,.string z2,.string z3] 24)
 have k4:=SBk.new W1 #[.string x1,.string x2,.string x3,.string y1,.string y2,.string y3,.string z1,.string z2,.string z3] 24
 generalize W1.alloc (.cells #[.string x1,.string x2,.string x3,.string y1,.string y2,.string y3,.string z1,.string z2,.string z3] 24)=W2 at *
 have K1:=hid (K1.out.below hb)
 have HB2:=hbt HB1 hb
 have K4:=hid k4
 clear k4 hb
 with_reducible refine((few_num v _ b0 true _ (few_list3 _ x1 x2 x3 y1 y2 y3 z1 z2 z3 b0 FW.out _ K4.out) FX.out).at).mono ?_
 rintro e W3 ⟨rfl,hb⟩
 clear dK10 dK11 dK12 dK20 dK21 dK22 dK30 dK31 dK32
 have K1:=hid (K1.out.below hb)
 have HB3:=hbt HB2 hb
 clear hb
 have dK10:=K1.out.cell (i:=0) rfl
 have dK11:=K1.out.cell (i:=1) rfl
 have dK12:=K1.out.cell (i:=2) rfl
 go_wp2_with fail
 with_reducible refine(C1.out _ HB3.out).mono ?_
 rintro e W4 ⟨rfl,hb⟩
 clear dK10 dK11 dK12
 have HB4:=hbt HB3 hb
 clear hb
 go_wp2_with fail
 with_reducible refine((vec_awake _ (HT.out.on HB4.out)).at).mono ?_
 rintro e W5 ⟨rfl,hb⟩
 have HB5:=hbt HB4 hb
 clear hb
 go_wp2
 exact bodyPost_ret (v:=.bool true) (by simp[results,Tryz.results4,go_sem]) rfl ⟨rfl,HB5.out⟩
theorem vlin_no2 (x1 x2 x3 y1 y2 y3 z1 z2 z3 v:ByteArray)(b0:Bool)(w₀:World)(h1:CV w₀ 9 #[.agg #[.string x1,.string x2,.string x3]] (.bool true))(h2:CV w₀ 9 #[.agg #[.string y1,.string y2,.string y3]] (.bool false))(hla:La w₀)(fw:decide (x1.size≤20∧x2.size≤20∧x3.size≤20∧y1.size≤20∧y2.size≤20∧y3.size≤20∧z1.size≤20∧z2.size≤20∧z3.size≤20)=b0)(fx:(decide (v.size≤20)&&b0)=true) :
 CV w₀ 4 #[.agg #[.string x1,.string x2,.string x3],.agg #[.string y1,.string y2,.string y3],.agg #[.string z1,.string z2,.string z3],.string v] (.bool true):=by
 intro w hw
 have C1:=hid (h1.mono hw)
 have C2:=hid (h2.mono hw)
 have HT:=hid (hla.on hw)
 have FW:=hid fw
 have FX:=hid fx
 clear hla fw fx h1 h2 hw
 go_enter Tryz.func4,Tryz.ntmps4
 go_upto_region 1 with fail
 refine wp_boxes w [(#[.string x1,.string x2,.string x3],24),(#[.string y1,.string y2,.string y3],24),(#[.string z1,.string z2,.string z3],24)] rfl ?_
 rintro W0 ⟨k1,k2,k3,hb⟩
 have HB0:=hid (show Below w.heap.size w W0 from hb)
 have K1:=hid k1
 have K2:=hid k2
 have K3:=hid k3
 clear k1 k2 k3 hb
 go_wp2_with fail
 with_reducible refine((vec_awake _ (HT.out.on HB0.out)).at).mono ?_
 rintro e W1 ⟨rfl,hb⟩
 have K1:=hid (K1.out.below hb)
 have K2:=hid (K2.out.below hb)
 have K3:=hid (K3.out.below hb)
 have HB1:=hbt HB0 hb
 clear hb
 have dK10:=K1.out.cell (i:=0) rfl
 have dK11:=K1.out.cell (i:=1) rfl
 have dK12:=K1.out.cell (i:=2) rfl
 have dK20:=K2.out.cell (i:=0) rfl
 have dK21:=K2.out.cell (i:=1) rfl
 have dK22:=K2.out.cell (i:=2) rfl
 have dK30:=K3.out.cell (i:=0) rfl
 have dK31:=K3.out.cell (i:=1) rfl
 have dK32:=K3.out.cell (i:=2) rfl
 go_wp2_with fail
 have hb:=below_new W1 (.cells #[.string x1,.string x2,.string x3,.string y1,.string y2,.string y3,.string z1,.string z2,.string z3] 24)
 have k4:=SBk.new W1 #[.string x1,.string x2,.string x3,.string y1,.string y2,.string y3,.string z1,.string z2,.string z3] 24
 generalize W1.alloc (.cells #[.string x1,.string x2,.string x3,.string y1,.string y2,.string y3,.string z1,.string z2,.string z3] 24)=W2 at *
 have K1:=hid (K1.out.below hb)
 have K2:=hid (K2.out.below hb)
 have HB2:=hbt HB1 hb
 have K4:=hid k4
 clear k4 hb
 with_reducible refine((few_num v _ b0 true _ (few_list3 _ x1 x2 x3 y1 y2 y3 z1 z2 z3 b0 FW.out _ K4.out) FX.out).at).mono ?_
 rintro e W3 ⟨rfl,hb⟩
 clear dK10 dK11 dK12 dK20 dK21 dK22 dK30 dK31 dK32
 have K1:=hid (K1.out.below hb)
 have K2:=hid (K2.out.below hb)
 have HB3:=hbt HB2 hb
 clear hb
 have dK10:=K1.out.cell (i:=0) rfl
 have dK11:=K1.out.cell (i:=1) rfl
 have dK12:=K1.out.cell (i:=2) rfl
 go_wp2_with fail
 with_reducible refine(C1.out _ HB3.out).mono ?_
 rintro e W4 ⟨rfl,hb⟩
 clear dK10 dK11 dK12
 have K2:=hid (K2.out.below hb)
 have HB4:=hbt HB3 hb
 clear hb
 have dK20:=K2.out.cell (i:=0) rfl
 have dK21:=K2.out.cell (i:=1) rfl
 have dK22:=K2.out.cell (i:=2) rfl
 go_wp2_with fail
 with_reducible refine(C2.out _ HB4.out).mono ?_
 rintro e W5 ⟨rfl,hb⟩
 clear dK20 dK21 dK22
 have HB5:=hbt HB4 hb
 clear hb
 go_wp2_with fail
 with_reducible refine((vec_awake _ (HT.out.on HB5.out)).at).mono ?_
 rintro e W6 ⟨rfl,hb⟩
 have HB6:=hbt HB5 hb
 clear hb
 go_wp2
 exact bodyPost_ret (v:=.bool true) (by simp[results,Tryz.results4,go_sem]) rfl ⟨rfl,HB6.out⟩
theorem vlin_no3 (x1 x2 x3 y1 y2 y3 z1 z2 z3 v:ByteArray)(b0:Bool)(w₀:World)(h1:CV w₀ 9 #[.agg #[.string x1,.string x2,.string x3]] (.bool true))(h2:CV w₀ 9 #[.agg #[.string y1,.string y2,.string y3]] (.bool true))(h3:CV w₀ 9 #[.agg #[.string z1,.string z2,.string z3]] (.bool false))(hla:La w₀)(fw:decide (x1.size≤20∧x2.size≤20∧x3.size≤20∧y1.size≤20∧y2.size≤20∧y3.size≤20∧z1.size≤20∧z2.size≤20∧z3.size≤20)=b0)(fx:(decide (v.size≤20)&&b0)=true) :
 CV w₀ 4 #[.agg #[.string x1,.string x2,.string x3],.agg #[.string y1,.string y2,.string y3],.agg #[.string z1,.string z2,.string z3],.string v] (.bool true):=by
 intro w hw
 have C1:=hid (h1.mono hw)
 have C2:=hid (h2.mono hw)
 have C3:=hid (h3.mono hw)
 have HT:=hid (hla.on hw)
 have FW:=hid fw
 have FX:=hid fx
 clear hla fw fx h1 h2 h3 hw
 go_enter Tryz.func4,Tryz.ntmps4
 go_upto_region 1 with fail
 refine wp_boxes w [(#[.string x1,.string x2,.string x3],24),(#[.string y1,.string y2,.string y3],24),(#[.string z1,.string z2,.string z3],24)] rfl ?_
 rintro W0 ⟨k1,k2,k3,hb⟩
 have HB0:=hid (show Below w.heap.size w W0 from hb)
 have K1:=hid k1
 have K2:=hid k2
 have K3:=hid k3
 clear k1 k2 k3 hb
 go_wp2_with fail
 with_reducible refine((vec_awake _ (HT.out.on HB0.out)).at).mono ?_
 rintro e W1 ⟨rfl,hb⟩
 have K1:=hid (K1.out.below hb)
 have K2:=hid (K2.out.below hb)
 have K3:=hid (K3.out.below hb)
 have HB1:=hbt HB0 hb
 clear hb
 have dK10:=K1.out.cell (i:=0) rfl
 have dK11:=K1.out.cell (i:=1) rfl
 have dK12:=K1.out.cell (i:=2) rfl
 have dK20:=K2.out.cell (i:=0) rfl
 have dK21:=K2.out.cell (i:=1) rfl
 have dK22:=K2.out.cell (i:=2) rfl
 have dK30:=K3.out.cell (i:=0) rfl
 have dK31:=K3.out.cell (i:=1) rfl
 have dK32:=K3.out.cell (i:=2) rfl
 go_wp2_with fail
 have hb:=below_new W1 (.cells #[.string x1,.string x2,.string x3,.string y1,.string y2,.string y3,.string z1,.string z2,.string z3] 24)
 have k4:=SBk.new W1 #[.string x1,.string x2,.string x3,.string y1,.string y2,.string y3,.string z1,.string z2,.string z3] 24
 generalize W1.alloc (.cells #[.string x1,.string x2,.string x3,.string y1,.string y2,.string y3,.string z1,.string z2,.string z3] 24)=W2 at *
 have K1:=hid (K1.out.below hb)
 have K2:=hid (K2.out.below hb)
 have K3:=hid (K3.out.below hb)
 have HB2:=hbt HB1 hb
 have K4:=hid k4
 clear k4 hb
 with_reducible refine((few_num v _ b0 true _ (few_list3 _ x1 x2 x3 y1 y2 y3 z1 z2 z3 b0 FW.out _ K4.out) FX.out).at).mono ?_
 rintro e W3 ⟨rfl,hb⟩
 clear dK10 dK11 dK12 dK20 dK21 dK22 dK30 dK31 dK32
 have K1:=hid (K1.out.below hb)
 have K2:=hid (K2.out.below hb)
 have K3:=hid (K3.out.below hb)
 have HB3:=hbt HB2 hb
 clear hb
 have dK10:=K1.out.cell (i:=0) rfl
 have dK11:=K1.out.cell (i:=1) rfl
 have dK12:=K1.out.cell (i:=2) rfl
 go_wp2_with fail
 with_reducible refine(C1.out _ HB3.out).mono ?_
 rintro e W4 ⟨rfl,hb⟩
 clear dK10 dK11 dK12
 have K2:=hid (K2.out.below hb)
 have K3:=hid (K3.out.below hb)
 have HB4:=hbt HB3 hb
 clear hb
 have dK20:=K2.out.cell (i:=0) rfl
 have dK21:=K2.out.cell (i:=1) rfl
 have dK22:=K2.out.cell (i:=2) rfl
 go_wp2_with fail
 with_reducible refine(C2.out _ HB4.out).mono ?_
 rintro e W5 ⟨rfl,hb⟩
 clear dK20 dK21 dK22
 have K3:=hid (K3.out.below hb)
 have HB5:=hbt HB4 hb
 clear hb
 have dK30:=K3.out.cell (i:=0) rfl
 have dK31:=K3.out.cell (i:=1) rfl
 have dK32:=K3.out.cell (i:=2) rfl
 go_wp2_with fail
 with_reducible refine(C3.out _ HB5.out).mono ?_
 rintro e W6 ⟨rfl,hb⟩
 clear dK30 dK31 dK32
 have HB6:=hbt HB5 hb
 clear hb
 go_wp2_with fail
 with_reducible refine((vec_awake _ (HT.out.on HB6.out)).at).mono ?_
 rintro e W7 ⟨rfl,hb⟩
 have HB7:=hbt HB6 hb
 clear hb
 go_wp2
 exact bodyPost_ret (v:=.bool true) (by simp[results,Tryz.results4,go_sem]) rfl ⟨rfl,HB7.out⟩
theorem vlin_no4 (x1 x2 x3 y1 y2 y3 z1 z2 z3 v:ByteArray)(b0:Bool)(w₀:World)(h1:CV w₀ 9 #[.agg #[.string x1,.string x2,.string x3]] (.bool true))(h2:CV w₀ 9 #[.agg #[.string y1,.string y2,.string y3]] (.bool true))(h3:CV w₀ 9 #[.agg #[.string z1,.string z2,.string z3]] (.bool true))(h4:CV w₀ 15 #[.string v] (.bool false))(hla:La w₀)(fw:decide (x1.size≤20∧x2.size≤20∧x3.size≤20∧y1.size≤20∧y2.size≤20∧y3.size≤20∧z1.size≤20∧z2.size≤20∧z3.size≤20)=b0)(fx:(decide (v.size≤20)&&b0)=true) :
 CV w₀ 4 #[.agg #[.string x1,.string x2,.string x3],.agg #[.string y1,.string y2,.string y3],.agg #[.string z1,.string z2,.string z3],.string v] (.bool true):=by
 intro w hw
 have C1:=hid (h1.mono hw)
 have C2:=hid (h2.mono hw)
 have C3:=hid (h3.mono hw)
 have C4:=hid (h4.mono hw)
 have HT:=hid (hla.on hw)
 have FW:=hid fw
 have FX:=hid fx
 clear hla fw fx h1 h2 h3 h4 hw
 go_enter Tryz.func4,Tryz.ntmps4
 go_upto_region 1 with fail
 refine wp_boxes w [(#[.string x1,.string x2,.string x3],24),(#[.string y1,.string y2,.string y3],24),(#[.string z1,.string z2,.string z3],24)] rfl ?_
 rintro W0 ⟨k1,k2,k3,hb⟩
 have HB0:=hid (show Below w.heap.size w W0 from hb)
 have K1:=hid k1
 have K2:=hid k2
 have K3:=hid k3
 clear k1 k2 k3 hb
 go_wp2_with fail
 with_reducible refine((vec_awake _ (HT.out.on HB0.out)).at).mono ?_
 rintro e W1 ⟨rfl,hb⟩
 have K1:=hid (K1.out.below hb)
 have K2:=hid (K2.out.below hb)
 have K3:=hid (K3.out.below hb)
 have HB1:=hbt HB0 hb
 clear hb
 have dK10:=K1.out.cell (i:=0) rfl
 have dK11:=K1.out.cell (i:=1) rfl
 have dK12:=K1.out.cell (i:=2) rfl
 have dK20:=K2.out.cell (i:=0) rfl
 have dK21:=K2.out.cell (i:=1) rfl
 have dK22:=K2.out.cell (i:=2) rfl
 have dK30:=K3.out.cell (i:=0) rfl
 have dK31:=K3.out.cell (i:=1) rfl
 have dK32:=K3.out.cell (i:=2) rfl
 go_wp2_with fail
 have hb:=below_new W1 (.cells #[.string x1,.string x2,.string x3,.string y1,.string y2,.string y3,.string z1,.string z2,.string z3] 24)
 have k4:=SBk.new W1 #[.string x1,.string x2,.string x3,.string y1,.string y2,.string y3,.string z1,.string z2,.string z3] 24
 generalize W1.alloc (.cells #[.string x1,.string x2,.string x3,.string y1,.string y2,.string y3,.string z1,.string z2,.string z3] 24)=W2 at *
 have K1:=hid (K1.out.below hb)
 have K2:=hid (K2.out.below hb)
 have K3:=hid (K3.out.below hb)
 have HB2:=hbt HB1 hb
 have K4:=hid k4
 clear k4 hb
 with_reducible refine((few_num v _ b0 true _ (few_list3 _ x1 x2 x3 y1 y2 y3 z1 z2 z3 b0 FW.out _ K4.out) FX.out).at).mono ?_
 rintro e W3 ⟨rfl,hb⟩
 clear dK10 dK11 dK12 dK20 dK21 dK22 dK30 dK31 dK32
 have K1:=hid (K1.out.below hb)
 have K2:=hid (K2.out.below hb)
 have K3:=hid (K3.out.below hb)
 have HB3:=hbt HB2 hb
 clear hb
 have dK10:=K1.out.cell (i:=0) rfl
 have dK11:=K1.out.cell (i:=1) rfl
 have dK12:=K1.out.cell (i:=2) rfl
 go_wp2_with fail
 with_reducible refine(C1.out _ HB3.out).mono ?_
 rintro e W4 ⟨rfl,hb⟩
 clear dK10 dK11 dK12
 have K2:=hid (K2.out.below hb)
 have K3:=hid (K3.out.below hb)
 have HB4:=hbt HB3 hb
 clear hb
 have dK20:=K2.out.cell (i:=0) rfl
 have dK21:=K2.out.cell (i:=1) rfl
 have dK22:=K2.out.cell (i:=2) rfl
 go_wp2_with fail
 with_reducible refine(C2.out _ HB4.out).mono ?_
 rintro e W5 ⟨rfl,hb⟩
 clear dK20 dK21 dK22
 have K3:=hid (K3.out.below hb)
 have HB5:=hbt HB4 hb
 clear hb
 have dK30:=K3.out.cell (i:=0) rfl
 have dK31:=K3.out.cell (i:=1) rfl
 have dK32:=K3.out.cell (i:=2) rfl
 go_wp2_with fail
 with_reducible refine(C3.out _ HB5.out).mono ?_
 rintro e W6 ⟨rfl,hb⟩
 clear dK30 dK31 dK32
 have HB6:=hbt HB5 hb
 clear hb
 go_wp2_with fail
 with_reducible refine(C4.out _ HB6.out).mono ?_
 rintro e W7 ⟨rfl,hb⟩
 have HB7:=hbt HB6 hb
 clear hb
 go_wp2_with fail
 with_reducible refine((vec_awake _ (HT.out.on HB7.out)).at).mono ?_
 rintro e W8 ⟨rfl,hb⟩
 have HB8:=hbt HB7 hb
 clear hb
 go_wp2
 exact bodyPost_ret (v:=.bool true) (by simp[results,Tryz.results4,go_sem]) rfl ⟨rfl,HB8.out⟩
theorem vlin_yes (a1 a2 a3 b1 b2 b3 c1 c2 c3 v:Rat)(b0:Bool)(pa1:SmQ 20 a1)(pa2:SmQ 20 a2)(pa3:SmQ 20 a3)(pb1:SmQ 20 b1)(pb2:SmQ 20 b2)(pb3:SmQ 20 b3)(pc1:SmQ 20 c1)(pc2:SmQ 20 c2)(pc3:SmQ 20 c3)(pv:SmQ 20 v)(w₀:World)  (hla:La w₀)(fw:decide ((Sq a1).size≤20∧(Sq a2).size≤20∧(Sq a3).size≤20∧(Sq b1).size≤20∧(Sq b2).size≤20∧(Sq b3).size≤20∧(Sq c1).size≤20∧(Sq c2).size≤20∧(Sq c3).size≤20)=b0)(fx:(decide ((Sq v).size≤20)&&b0)=true) :
 CV w₀ 4 #[.agg #[.string (Sq a1),.string (Sq a2),.string (Sq a3)],.agg #[.string (Sq b1),.string (Sq b2),.string (Sq b3)],.agg #[.string (Sq c1),.string (Sq c2),.string (Sq c3)],.string (Sq v)] (.bool true):=by
 intro w hw
 have HT:=hid (hla.on hw)
 have FW:=hid fw
 have FX:=hid fx
 obtain⟨s1,hs1⟩:∃ z,a1+b1=z:=⟨_,rfl⟩
 have ps1:SmQ 41 s1:=hs1▸(pa1.add pb1)
 obtain⟨s2,hs2⟩:∃ z,a2+b2=z:=⟨_,rfl⟩
 have ps2:SmQ 41 s2:=hs2▸(pa2.add pb2)
 obtain⟨s3,hs3⟩:∃ z,a3+b3=z:=⟨_,rfl⟩
 have ps3:SmQ 41 s3:=hs3▸(pa3.add pb3)
 have ET1:=hid (show b1+a1=s1 from by rw[← hs1,Rat.add_comm])
 have ET2:=hid (show b2+a2=s2 from by rw[← hs2,Rat.add_comm])
 have ET3:=hid (show b3+a3=s3 from by rw[← hs3,Rat.add_comm])
 have ED1:=hid (show s1-b1=a1 from by rw[← hs1];grind)
 have ED2:=hid (show s2-b2=a2 from by rw[← hs2];grind)
 have ED3:=hid (show s3-b3=a3 from by rw[← hs3];grind)
 obtain⟨u1,hu1⟩:∃ z,a1*v=z:=⟨_,rfl⟩
 have pu1:SmQ 40 u1:=hu1▸(pa1.mul pv)
 obtain⟨u2,hu2⟩:∃ z,a2*v=z:=⟨_,rfl⟩
 have pu2:SmQ 40 u2:=hu2▸(pa2.mul pv)
 obtain⟨u3,hu3⟩:∃ z,a3*v=z:=⟨_,rfl⟩
 have pu3:SmQ 40 u3:=hu3▸(pa3.mul pv)
 obtain⟨tn,htn⟩:∃ z,a1*c1+a2*c2+a3*c3=z:=⟨_,rfl⟩
 have ptn:SmQ 122 tn:=htn▸(((pa1.mul pc1).add (pa2.mul pc2)).add (pa3.mul pc3))
 obtain⟨tq,htq⟩:∃ z,b1*c1+b2*c2+b3*c3=z:=⟨_,rfl⟩
 have ptq:SmQ 122 tq:=htq▸(((pb1.mul pc1).add (pb2.mul pc2)).add (pb3.mul pc3))
 obtain⟨tm,htm⟩:∃ z,s1*c1+s2*c2+s3*c3=z:=⟨_,rfl⟩
 have EP:=hid (show tn+tq=tm from by rw[← htn,← htq,← htm,← hs1,← hs2,← hs3];grind)
 obtain⟨tv,htv⟩:∃ z,u1*c1+u2*c2+u3*c3=z:=⟨_,rfl⟩
 have EW:=hid (show tn*v=tv from by rw[← htn,← htv,← hu1,← hu2,← hu3];grind)
 obtain⟨m1,hm1⟩:∃ z,b2*c3-b3*c2=z:=⟨_,rfl⟩
 have pm1:SmQ 81 m1:=hm1▸((pb2.mul pc3).sub (pb3.mul pc2))
 obtain⟨m2,hm2⟩:∃ z,b3*c1-b1*c3=z:=⟨_,rfl⟩
 have pm2:SmQ 81 m2:=hm2▸((pb3.mul pc1).sub (pb1.mul pc3))
 obtain⟨m3,hm3⟩:∃ z,b1*c2-b2*c1=z:=⟨_,rfl⟩
 have pm3:SmQ 81 m3:=hm3▸((pb1.mul pc2).sub (pb2.mul pc1))
 obtain⟨f1,hf1⟩:∃ z,c2*a3-c3*a2=z:=⟨_,rfl⟩
 have pf1:SmQ 81 f1:=hf1▸((pc2.mul pa3).sub (pc3.mul pa2))
 obtain⟨f2,hf2⟩:∃ z,c3*a1-c1*a3=z:=⟨_,rfl⟩
 have pf2:SmQ 81 f2:=hf2▸((pc3.mul pa1).sub (pc1.mul pa3))
 obtain⟨f3,hf3⟩:∃ z,c1*a2-c2*a1=z:=⟨_,rfl⟩
 have pf3:SmQ 81 f3:=hf3▸((pc1.mul pa2).sub (pc2.mul pa1))
 obtain⟨g1,hg1⟩:∃ z,a2*c3-a3*c2=z:=⟨_,rfl⟩
 have pg1:SmQ 81 g1:=hg1▸((pa2.mul pc3).sub (pa3.mul pc2))
 obtain⟨g2,hg2⟩:∃ z,a3*c1-a1*c3=z:=⟨_,rfl⟩
 have pg2:SmQ 81 g2:=hg2▸((pa3.mul pc1).sub (pa1.mul pc3))
 obtain⟨g3,hg3⟩:∃ z,a1*c2-a2*c1=z:=⟨_,rfl⟩
 have pg3:SmQ 81 g3:=hg3▸((pa1.mul pc2).sub (pa2.mul pc1))
 obtain⟨ty,hty⟩:∃ z,a1*m1+a2*m2+a3*m3=z:=⟨_,rfl⟩
 have pty:SmQ 305 ty:=hty▸(((pa1.mul pm1).add (pa2.mul pm2)).add (pa3.mul pm3))
 have EZ:=hid (show b1*f1+b2*f2+b3*f3=ty from by rw[← hty,← hm1,← hm2,← hm3,← hf1,← hf2,← hf3];grind)
 obtain⟨tb,htb⟩:∃ z,b1*g1+b2*g2+b3*g3=z:=⟨_,rfl⟩
 have ptb:SmQ 305 tb:=htb▸(((pb1.mul pg1).add (pb2.mul pg2)).add (pb3.mul pg3))
 have E0:=hid (show ty+tb=0 from by rw[← hty,← htb,← hm1,← hm2,← hm3,← hg1,← hg2,← hg3];grind)
 obtain⟨tw,htw⟩:∃ z,ty*v=z:=⟨_,rfl⟩
 have ES:=hid (show u1*m1+u2*m2+u3*m3=tw from by rw[← htw,← hty,← hu1,← hu2,← hu3];grind)
 have Pa1':=hid pa1
 have Pa2':=hid pa2
 have Pa3':=hid pa3
 have Pb1':=hid pb1
 have Pb2':=hid pb2
 have Pb3':=hid pb3
 have Pc1':=hid pc1
 have Pc2':=hid pc2
 have Pc3':=hid pc3
 have Pv':=hid pv
 have Hs1':=hid hs1
 have Ps1':=hid ps1
 have Hs2':=hid hs2
 have Ps2':=hid ps2
 have Hs3':=hid hs3
 have Ps3':=hid ps3
 have Hu1':=hid hu1
 have Pu1':=hid pu1
 have Hu2':=hid hu2
 have Pu2':=hid pu2
 have Hu3':=hid hu3
 have Pu3':=hid pu3
 have Htn':=hid htn
 have Ptn':=hid ptn
 have Htq':=hid htq
 have Ptq':=hid ptq
 have Htm':=hid htm
 have Htv':=hid htv
 have Hm1':=hid hm1
 have Pm1':=hid pm1
 have Hm2':=hid hm2
 have Pm2':=hid pm2
 have Hm3':=hid hm3
 have Pm3':=hid pm3
 have Hf1':=hid hf1
 have Pf1':=hid pf1
 have Hf2':=hid hf2
 have Pf2':=hid pf2
 have Hf3':=hid hf3
 have Pf3':=hid pf3
 have Hg1':=hid hg1
 have Pg1':=hid pg1
 have Hg2':=hid hg2
 have Pg2':=hid pg2
 have Hg3':=hid hg3
 have Pg3':=hid pg3
 have Hty':=hid hty
 have Pty':=hid pty
 have Htb':=hid htb
 have Ptb':=hid ptb
 have Htw':=hid htw
 clear htw ptb htb pty hty pg3 hg3 pg2 hg2 pg1 hg1 pf3 hf3 pf2 hf2 pf1 hf1 pm3 hm3 pm2 hm2 pm1 hm1 htv htm ptq htq ptn htn pu3 hu3 pu2 hu2 pu1 hu1 ps3 hs3 ps2 hs2 ps1 hs1 fx fw pv pc3 pc2 pc1 pb3 pb2 pb1 pa3 pa2 pa1 hla hw
 go_enter Tryz.func4,Tryz.ntmps4
 go_upto_region 1 with fail
 refine wp_boxes w [(#[.string (Sq a1),.string (Sq a2),.string (Sq a3)],24),(#[.string (Sq b1),.string (Sq b2),.string (Sq b3)],24),(#[.string (Sq c1),.string (Sq c2),.string (Sq c3)],24)] rfl ?_
 rintro W0 ⟨k1,k2,k3,hb⟩
 have HB0:=hid (show Below w.heap.size w W0 from hb)
 have K1:=hid k1
 have K2:=hid k2
 have K3:=hid k3
 clear k1 k2 k3 hb
 go_wp2_with fail
 with_reducible refine((vec_awake _ (HT.out.on HB0.out)).at).mono ?_
 rintro e W1 ⟨rfl,hb⟩
 have K1:=hid (K1.out.below hb)
 have K2:=hid (K2.out.below hb)
 have K3:=hid (K3.out.below hb)
 have HB1:=hbt HB0 hb
 clear hb
 have dK10:=K1.out.cell (i:=0) rfl
 have dK11:=K1.out.cell (i:=1) rfl
 have dK12:=K1.out.cell (i:=2) rfl
 have dK20:=K2.out.cell (i:=0) rfl
 have dK21:=K2.out.cell (i:=1) rfl
 have dK22:=K2.out.cell (i:=2) rfl
 have dK30:=K3.out.cell (i:=0) rfl
 have dK31:=K3.out.cell (i:=1) rfl
 have dK32:=K3.out.cell (i:=2) rfl
 go_wp2_with fail
 have hb:=below_new W1 (.cells #[.string (Sq a1),.string (Sq a2),.string (Sq a3),.string (Sq b1),.string (Sq b2),.string (Sq b3),.string (Sq c1),.string (Sq c2),.string (Sq c3)] 24)
 have k4:=SBk.new W1 #[.string (Sq a1),.string (Sq a2),.string (Sq a3),.string (Sq b1),.string (Sq b2),.string (Sq b3),.string (Sq c1),.string (Sq c2),.string (Sq c3)] 24
 generalize W1.alloc (.cells #[.string (Sq a1),.string (Sq a2),.string (Sq a3),.string (Sq b1),.string (Sq b2),.string (Sq b3),.string (Sq c1),.string (Sq c2),.string (Sq c3)] 24)=W2 at *
 have K1:=hid (K1.out.below hb)
 have K2:=hid (K2.out.below hb)
 have K3:=hid (K3.out.below hb)
 have HB2:=hbt HB1 hb
 have K4:=hid k4
 clear k4 hb
 with_reducible refine((few_num (Sq v) _ b0 true _ (few_list3 _ (Sq a1) (Sq a2) (Sq a3) (Sq b1) (Sq b2) (Sq b3) (Sq c1) (Sq c2) (Sq c3) b0 FW.out _ K4.out) FX.out).at).mono ?_
 rintro e W3 ⟨rfl,hb⟩
 clear dK10 dK11 dK12 dK20 dK21 dK22 dK30 dK31 dK32
 have K1:=hid (K1.out.below hb)
 have K2:=hid (K2.out.below hb)
 have K3:=hid (K3.out.below hb)
 have K4:=hid (K4.out.below hb)
 have HB3:=hbt HB2 hb
 clear hb
 have dK10:=K1.out.cell (i:=0) rfl
 have dK11:=K1.out.cell (i:=1) rfl
 have dK12:=K1.out.cell (i:=2) rfl
 go_wp2_with fail
 with_reducible refine((vnValid (Pa1'.out.fit (by decide)) (Pa2'.out.fit (by decide)) (Pa3'.out.fit (by decide)) _ (HT.out.on HB3.out)).at).mono ?_
 rintro e W4 ⟨rfl,hb⟩
 clear dK10 dK11 dK12
 have K1:=hid (K1.out.below hb)
 have K2:=hid (K2.out.below hb)
 have K3:=hid (K3.out.below hb)
 have K4:=hid (K4.out.below hb)
 have HB4:=hbt HB3 hb
 clear hb
 have dK20:=K2.out.cell (i:=0) rfl
 have dK21:=K2.out.cell (i:=1) rfl
 have dK22:=K2.out.cell (i:=2) rfl
 go_wp2_with fail
 with_reducible refine((vnValid (Pb1'.out.fit (by decide)) (Pb2'.out.fit (by decide)) (Pb3'.out.fit (by decide)) _ (HT.out.on HB4.out)).at).mono ?_
 rintro e W5 ⟨rfl,hb⟩
 clear dK20 dK21 dK22
 have K1:=hid (K1.out.below hb)
 have K2:=hid (K2.out.below hb)
 have K3:=hid (K3.out.below hb)
 have K4:=hid (K4.out.below hb)
 have HB5:=hbt HB4 hb
 clear hb
 have dK30:=K3.out.cell (i:=0) rfl
 have dK31:=K3.out.cell (i:=1) rfl
 have dK32:=K3.out.cell (i:=2) rfl
 go_wp2_with fail
 with_reducible refine((vnValid (Pc1'.out.fit (by decide)) (Pc2'.out.fit (by decide)) (Pc3'.out.fit (by decide)) _ (HT.out.on HB5.out)).at).mono ?_
 rintro e W6 ⟨rfl,hb⟩
 clear dK30 dK31 dK32
 have K1:=hid (K1.out.below hb)
 have K2:=hid (K2.out.below hb)
 have K3:=hid (K3.out.below hb)
 have K4:=hid (K4.out.below hb)
 have HB6:=hbt HB5 hb
 clear hb
 go_wp2_with fail
 with_reducible refine(qvalid_yes v (Pv'.out.fit (by decide)) _ (HT.out.on HB6.out)).mono ?_
 rintro e W7 ⟨rfl,hb⟩
 have K1:=hid (K1.out.below hb)
 have K2:=hid (K2.out.below hb)
 have K3:=hid (K3.out.below hb)
 have K4:=hid (K4.out.below hb)
 have HB7:=hbt HB6 hb
 clear hb
 have dK10:=K1.out.cell (i:=0) rfl
 have dK11:=K1.out.cell (i:=1) rfl
 have dK12:=K1.out.cell (i:=2) rfl
 have dK20:=K2.out.cell (i:=0) rfl
 have dK21:=K2.out.cell (i:=1) rfl
 have dK22:=K2.out.cell (i:=2) rfl
 go_wp2_with fail
 with_reducible refine((vnAdd Hs1'.out Hs2'.out Hs3'.out Pa1'.out Pa2'.out Pa3'.out Pb1'.out Pb2'.out Pb3'.out (by decide) (by decide) _ (HT.out.on HB7.out)).at).mono ?_
 rintro e W8 ⟨rfl,hb⟩
 clear dK10 dK11 dK12 dK20 dK21 dK22
 have K1:=hid (K1.out.below hb)
 have K2:=hid (K2.out.below hb)
 have K3:=hid (K3.out.below hb)
 have K4:=hid (K4.out.below hb)
 have HB8:=hbt HB7 hb
 clear hb
 go_upto_region 4 with fail
 refine wp_boxes W8 [(#[.string (Sq s1),.string (Sq s2),.string (Sq s3)],24)] rfl ?_
 have L1:=K1.out.lt
 have L2:=K2.out.lt
 have L3:=K3.out.lt
 have L4:=K4.out.lt
 have L5:=HB8.out.size
 rintro W9 ⟨k5,hb⟩
 have hb:Below W8.heap.size W8 W9:=hb
 have K1:=hid (K1.out.below hb)
 have K2:=hid (K2.out.below hb)
 have K3:=hid (K3.out.below hb)
 have K4:=hid (K4.out.below hb)
 have HB9:=hbt HB8 hb
 have K5:=hid k5
 clear k5 hb
 have dK20:=K2.out.cell (i:=0) rfl
 have dK21:=K2.out.cell (i:=1) rfl
 have dK22:=K2.out.cell (i:=2) rfl
 have dK10:=K1.out.cell (i:=0) rfl
 have dK11:=K1.out.cell (i:=1) rfl
 have dK12:=K1.out.cell (i:=2) rfl
 go_wp2_with fail
 with_reducible refine((vnAdd ET1.out ET2.out ET3.out Pb1'.out Pb2'.out Pb3'.out Pa1'.out Pa2'.out Pa3'.out (by decide) (by decide) _ (HT.out.on HB9.out)).at).mono ?_
 rintro e W10 ⟨rfl,hb⟩
 clear dK20 dK21 dK22 dK10 dK11 dK12
 have K1:=hid (K1.out.below hb)
 have K2:=hid (K2.out.below hb)
 have K3:=hid (K3.out.below hb)
 have K4:=hid (K4.out.below hb)
 have K5:=hid (K5.out.below hb)
 have HB10:=hbt HB9 hb
 clear hb
 go_upto_region 5 with fail
 refine wp_boxes W10 [(#[.string (Sq s1),.string (Sq s2),.string (Sq s3)],24)] rfl ?_
 have L6:=K1.out.lt
 have L7:=K2.out.lt
 have L8:=K3.out.lt
 have L9:=K4.out.lt
 have L10:=K5.out.lt
 have L11:=HB10.out.size
 rintro W11 ⟨k6,hb⟩
 have hb:Below W10.heap.size W10 W11:=hb
 have K1:=hid (K1.out.below hb)
 have K2:=hid (K2.out.below hb)
 have K3:=hid (K3.out.below hb)
 have K4:=hid (K4.out.below hb)
 have K5:=hid (K5.out.below hb)
 have HB11:=hbt HB10 hb
 have K6:=hid k6
 clear k6 hb
 have dK50:=K5.out.cell (i:=0) rfl
 have dK51:=K5.out.cell (i:=1) rfl
 have dK52:=K5.out.cell (i:=2) rfl
 have dK20:=K2.out.cell (i:=0) rfl
 have dK21:=K2.out.cell (i:=1) rfl
 have dK22:=K2.out.cell (i:=2) rfl
 go_wp2_with fail
 with_reducible refine((vnSub ED1.out ED2.out ED3.out Ps1'.out Ps2'.out Ps3'.out Pb1'.out Pb2'.out Pb3'.out (by decide) (by decide) _ (HT.out.on HB11.out)).at).mono ?_
 rintro e W12 ⟨rfl,hb⟩
 clear dK50 dK51 dK52 dK20 dK21 dK22
 have K1:=hid (K1.out.below hb)
 have K2:=hid (K2.out.below hb)
 have K3:=hid (K3.out.below hb)
 have K4:=hid (K4.out.below hb)
 have K5:=hid (K5.out.below hb)
 have K6:=hid (K6.out.below hb)
 have HB12:=hbt HB11 hb
 clear hb
 go_upto_region 6 with fail
 refine wp_boxes W12 [(#[.string (Sq a1),.string (Sq a2),.string (Sq a3)],24)] rfl ?_
 have L12:=K1.out.lt
 have L13:=K2.out.lt
 have L14:=K3.out.lt
 have L15:=K4.out.lt
 have L16:=K5.out.lt
 have L17:=K6.out.lt
 have L18:=HB12.out.size
 rintro W13 ⟨k7,hb⟩
 have hb:Below W12.heap.size W12 W13:=hb
 have K1:=hid (K1.out.below hb)
 have K2:=hid (K2.out.below hb)
 have K3:=hid (K3.out.below hb)
 have K4:=hid (K4.out.below hb)
 have K5:=hid (K5.out.below hb)
 have K6:=hid (K6.out.below hb)
 have HB13:=hbt HB12 hb
 have K7:=hid k7
 clear k7 hb
 have dK10:=K1.out.cell (i:=0) rfl
 have dK11:=K1.out.cell (i:=1) rfl
 have dK12:=K1.out.cell (i:=2) rfl
 go_wp2_with fail
 with_reducible refine((vnScale Hu1'.out Hu2'.out Hu3'.out Pa1'.out Pa2'.out Pa3'.out Pv'.out (by decide) (by decide) _ (HT.out.on HB13.out)).at).mono ?_
 rintro e W14 ⟨rfl,hb⟩
 clear dK10 dK11 dK12
 have K1:=hid (K1.out.below hb)
 have K2:=hid (K2.out.below hb)
 have K3:=hid (K3.out.below hb)
 have K4:=hid (K4.out.below hb)
 have K5:=hid (K5.out.below hb)
 have K6:=hid (K6.out.below hb)
 have K7:=hid (K7.out.below hb)
 have HB14:=hbt HB13 hb
 clear hb
 go_upto_region 7 with fail
 refine wp_boxes W14 [(#[.string (Sq u1),.string (Sq u2),.string (Sq u3)],24)] rfl ?_
 have L19:=K1.out.lt
 have L20:=K2.out.lt
 have L21:=K3.out.lt
 have L22:=K4.out.lt
 have L23:=K5.out.lt
 have L24:=K6.out.lt
 have L25:=K7.out.lt
 have L26:=HB14.out.size
 rintro W15 ⟨k8,hb⟩
 have hb:Below W14.heap.size W14 W15:=hb
 have K1:=hid (K1.out.below hb)
 have K2:=hid (K2.out.below hb)
 have K3:=hid (K3.out.below hb)
 have K5:=hid (K5.out.below hb)
 have K6:=hid (K6.out.below hb)
 have K7:=hid (K7.out.below hb)
 have HB15:=hbt HB14 hb
 have K8:=hid k8
 clear k8 hb
 have dK50:=K5.out.cell (i:=0) rfl
 have dK51:=K5.out.cell (i:=1) rfl
 have dK52:=K5.out.cell (i:=2) rfl
 have dK30:=K3.out.cell (i:=0) rfl
 have dK31:=K3.out.cell (i:=1) rfl
 have dK32:=K3.out.cell (i:=2) rfl
 go_wp2_with fail
 with_reducible refine((vnDot Htm'.out Ps1'.out Ps2'.out Ps3'.out Pc1'.out Pc2'.out Pc3'.out (by decide) (((Ps1'.out.mul Pc1'.out).add (Ps2'.out.mul Pc2'.out)).fit (by decide)) _ (HT.out.on HB15.out)).at).mono ?_
 rintro e W16 ⟨rfl,hb⟩
 clear dK50 dK51 dK52 dK30 dK31 dK32
 have K1:=hid (K1.out.below hb)
 have K2:=hid (K2.out.below hb)
 have K3:=hid (K3.out.below hb)
 have K5:=hid (K5.out.below hb)
 have K6:=hid (K6.out.below hb)
 have K7:=hid (K7.out.below hb)
 have K8:=hid (K8.out.below hb)
 have HB16:=hbt HB15 hb
 clear hb
 have dK10:=K1.out.cell (i:=0) rfl
 have dK11:=K1.out.cell (i:=1) rfl
 have dK12:=K1.out.cell (i:=2) rfl
 have dK30:=K3.out.cell (i:=0) rfl
 have dK31:=K3.out.cell (i:=1) rfl
 have dK32:=K3.out.cell (i:=2) rfl
 go_wp2_with fail
 with_reducible refine((vnDot Htn'.out Pa1'.out Pa2'.out Pa3'.out Pc1'.out Pc2'.out Pc3'.out (by decide) (((Pa1'.out.mul Pc1'.out).add (Pa2'.out.mul Pc2'.out)).fit (by decide)) _ (HT.out.on HB16.out)).at).mono ?_
 rintro e W17 ⟨rfl,hb⟩
 clear dK10 dK11 dK12 dK30 dK31 dK32
 have K1:=hid (K1.out.below hb)
 have K2:=hid (K2.out.below hb)
 have K3:=hid (K3.out.below hb)
 have K5:=hid (K5.out.below hb)
 have K6:=hid (K6.out.below hb)
 have K7:=hid (K7.out.below hb)
 have K8:=hid (K8.out.below hb)
 have HB17:=hbt HB16 hb
 clear hb
 have dK20:=K2.out.cell (i:=0) rfl
 have dK21:=K2.out.cell (i:=1) rfl
 have dK22:=K2.out.cell (i:=2) rfl
 have dK30:=K3.out.cell (i:=0) rfl
 have dK31:=K3.out.cell (i:=1) rfl
 have dK32:=K3.out.cell (i:=2) rfl
 go_wp2_with fail
 with_reducible refine((vnDot Htq'.out Pb1'.out Pb2'.out Pb3'.out Pc1'.out Pc2'.out Pc3'.out (by decide) (((Pb1'.out.mul Pc1'.out).add (Pb2'.out.mul Pc2'.out)).fit (by decide)) _ (HT.out.on HB17.out)).at).mono ?_
 rintro e W18 ⟨rfl,hb⟩
 clear dK20 dK21 dK22 dK30 dK31 dK32
 have K1:=hid (K1.out.below hb)
 have K2:=hid (K2.out.below hb)
 have K3:=hid (K3.out.below hb)
 have K5:=hid (K5.out.below hb)
 have K6:=hid (K6.out.below hb)
 have K7:=hid (K7.out.below hb)
 have K8:=hid (K8.out.below hb)
 have HB18:=hbt HB17 hb
 clear hb
 go_wp2_with fail
 with_reducible refine(qAdd tn tq tm EP.out (Ptn'.out.fit (by decide)) (Ptq'.out.fit (by decide)) _ (HT.out.on HB18.out)).mono ?_
 rintro e W19 ⟨rfl,hb⟩
 have K1:=hid (K1.out.below hb)
 have K2:=hid (K2.out.below hb)
 have K3:=hid (K3.out.below hb)
 have K5:=hid (K5.out.below hb)
 have K6:=hid (K6.out.below hb)
 have K7:=hid (K7.out.below hb)
 have K8:=hid (K8.out.below hb)
 have HB19:=hbt HB18 hb
 clear hb
 have dK80:=K8.out.cell (i:=0) rfl
 have dK81:=K8.out.cell (i:=1) rfl
 have dK82:=K8.out.cell (i:=2) rfl
 have dK30:=K3.out.cell (i:=0) rfl
 have dK31:=K3.out.cell (i:=1) rfl
 have dK32:=K3.out.cell (i:=2) rfl
 go_wp2_with fail
 with_reducible refine((vnDot Htv'.out Pu1'.out Pu2'.out Pu3'.out Pc1'.out Pc2'.out Pc3'.out (by decide) (((Pu1'.out.mul Pc1'.out).add (Pu2'.out.mul Pc2'.out)).fit (by decide)) _ (HT.out.on HB19.out)).at).mono ?_
 rintro e W20 ⟨rfl,hb⟩
 clear dK80 dK81 dK82 dK30 dK31 dK32
 have K1:=hid (K1.out.below hb)
 have K2:=hid (K2.out.below hb)
 have K3:=hid (K3.out.below hb)
 have K5:=hid (K5.out.below hb)
 have K6:=hid (K6.out.below hb)
 have K7:=hid (K7.out.below hb)
 have K8:=hid (K8.out.below hb)
 have HB20:=hbt HB19 hb
 clear hb
 go_wp2_with fail
 with_reducible refine(qMul tn v tv EW.out (Ptn'.out.fit (by decide)) (Pv'.out.fit (by decide)) _ (HT.out.on HB20.out)).mono ?_
 rintro e W21 ⟨rfl,hb⟩
 have K1:=hid (K1.out.below hb)
 have K2:=hid (K2.out.below hb)
 have K3:=hid (K3.out.below hb)
 have K5:=hid (K5.out.below hb)
 have K6:=hid (K6.out.below hb)
 have K7:=hid (K7.out.below hb)
 have K8:=hid (K8.out.below hb)
 have HB21:=hbt HB20 hb
 clear hb
 have dK10:=K1.out.cell (i:=0) rfl
 have dK11:=K1.out.cell (i:=1) rfl
 have dK12:=K1.out.cell (i:=2) rfl
 have dK20:=K2.out.cell (i:=0) rfl
 have dK21:=K2.out.cell (i:=1) rfl
 have dK22:=K2.out.cell (i:=2) rfl
 have dK30:=K3.out.cell (i:=0) rfl
 have dK31:=K3.out.cell (i:=1) rfl
 have dK32:=K3.out.cell (i:=2) rfl
 go_wp2_with fail
 with_reducible refine((vnDet Hm1'.out Hm2'.out Hm3'.out Hty'.out Pb1'.out Pb2'.out Pb3'.out Pc1'.out Pc2'.out Pc3'.out Pa1'.out Pa2'.out Pa3'.out Pm1'.out Pm2'.out Pm3'.out (by decide) (by decide) (((Pa1'.out.mul Pm1'.out).add (Pa2'.out.mul Pm2'.out)).fit (by decide)) _ (HT.out.on HB21.out)).at).mono ?_
 rintro e W22 ⟨rfl,hb⟩
 clear dK10 dK11 dK12 dK20 dK21 dK22 dK30 dK31 dK32
 have K1:=hid (K1.out.below hb)
 have K2:=hid (K2.out.below hb)
 have K3:=hid (K3.out.below hb)
 have K5:=hid (K5.out.below hb)
 have K6:=hid (K6.out.below hb)
 have K7:=hid (K7.out.below hb)
 have K8:=hid (K8.out.below hb)
 have HB22:=hbt HB21 hb
 clear hb
 have dK20:=K2.out.cell (i:=0) rfl
 have dK21:=K2.out.cell (i:=1) rfl
 have dK22:=K2.out.cell (i:=2) rfl
 have dK30:=K3.out.cell (i:=0) rfl
 have dK31:=K3.out.cell (i:=1) rfl
 have dK32:=K3.out.cell (i:=2) rfl
 have dK10:=K1.out.cell (i:=0) rfl
 have dK11:=K1.out.cell (i:=1) rfl
 have dK12:=K1.out.cell (i:=2) rfl
 go_wp2_with fail
 with_reducible refine((vnDet Hf1'.out Hf2'.out Hf3'.out EZ.out Pc1'.out Pc2'.out Pc3'.out Pa1'.out Pa2'.out Pa3'.out Pb1'.out Pb2'.out Pb3'.out Pf1'.out Pf2'.out Pf3'.out (by decide) (by decide) (((Pb1'.out.mul Pf1'.out).add (Pb2'.out.mul Pf2'.out)).fit (by decide)) _ (HT.out.on HB22.out)).at).mono ?_
 rintro e W23 ⟨rfl,hb⟩
 clear dK20 dK21 dK22 dK30 dK31 dK32 dK10 dK11 dK12
 have K1:=hid (K1.out.below hb)
 have K2:=hid (K2.out.below hb)
 have K3:=hid (K3.out.below hb)
 have K5:=hid (K5.out.below hb)
 have K6:=hid (K6.out.below hb)
 have K7:=hid (K7.out.below hb)
 have K8:=hid (K8.out.below hb)
 have HB23:=hbt HB22 hb
 clear hb
 have dK20:=K2.out.cell (i:=0) rfl
 have dK21:=K2.out.cell (i:=1) rfl
 have dK22:=K2.out.cell (i:=2) rfl
 have dK10:=K1.out.cell (i:=0) rfl
 have dK11:=K1.out.cell (i:=1) rfl
 have dK12:=K1.out.cell (i:=2) rfl
 have dK30:=K3.out.cell (i:=0) rfl
 have dK31:=K3.out.cell (i:=1) rfl
 have dK32:=K3.out.cell (i:=2) rfl
 go_wp2_with fail
 with_reducible refine((vnDet Hg1'.out Hg2'.out Hg3'.out Htb'.out Pa1'.out Pa2'.out Pa3'.out Pc1'.out Pc2'.out Pc3'.out Pb1'.out Pb2'.out Pb3'.out Pg1'.out Pg2'.out Pg3'.out (by decide) (by decide) (((Pb1'.out.mul Pg1'.out).add (Pb2'.out.mul Pg2'.out)).fit (by decide)) _ (HT.out.on HB23.out)).at).mono ?_
 rintro e W24 ⟨rfl,hb⟩
 clear dK20 dK21 dK22 dK10 dK11 dK12 dK30 dK31 dK32
 have K1:=hid (K1.out.below hb)
 have K2:=hid (K2.out.below hb)
 have K3:=hid (K3.out.below hb)
 have K5:=hid (K5.out.below hb)
 have K6:=hid (K6.out.below hb)
 have K7:=hid (K7.out.below hb)
 have K8:=hid (K8.out.below hb)
 have HB24:=hbt HB23 hb
 clear hb
 go_wp2_with fail
 with_reducible refine(qAdd0 ty tb E0.out (Pty'.out.fit (by decide)) (Ptb'.out.fit (by decide)) _ (HT.out.on HB24.out)).mono ?_
 rintro e W25 ⟨rfl,hb⟩
 have K1:=hid (K1.out.below hb)
 have K2:=hid (K2.out.below hb)
 have K3:=hid (K3.out.below hb)
 have K5:=hid (K5.out.below hb)
 have K6:=hid (K6.out.below hb)
 have K7:=hid (K7.out.below hb)
 have K8:=hid (K8.out.below hb)
 have HB25:=hbt HB24 hb
 clear hb
 have dK80:=K8.out.cell (i:=0) rfl
 have dK81:=K8.out.cell (i:=1) rfl
 have dK82:=K8.out.cell (i:=2) rfl
 have dK20:=K2.out.cell (i:=0) rfl
 have dK21:=K2.out.cell (i:=1) rfl
 have dK22:=K2.out.cell (i:=2) rfl
 have dK30:=K3.out.cell (i:=0) rfl
 have dK31:=K3.out.cell (i:=1) rfl
 have dK32:=K3.out.cell (i:=2) rfl
 go_wp2_with fail
 with_reducible refine((vnDet Hm1'.out Hm2'.out Hm3'.out ES.out Pb1'.out Pb2'.out Pb3'.out Pc1'.out Pc2'.out Pc3'.out Pu1'.out Pu2'.out Pu3'.out Pm1'.out Pm2'.out Pm3'.out (by decide) (by decide) (((Pu1'.out.mul Pm1'.out).add (Pu2'.out.mul Pm2'.out)).fit (by decide)) _ (HT.out.on HB25.out)).at).mono ?_
 rintro e W26 ⟨rfl,hb⟩
 clear dK80 dK81 dK82 dK20 dK21 dK22 dK30 dK31 dK32
 have K1:=hid (K1.out.below hb)
 have K5:=hid (K5.out.below hb)
 have K6:=hid (K6.out.below hb)
 have K7:=hid (K7.out.below hb)
 have HB26:=hbt HB25 hb
 clear hb
 go_wp2_with fail
 with_reducible refine(qMul ty v tw Htw'.out (Pty'.out.fit (by decide)) (Pv'.out.fit (by decide)) _ (HT.out.on HB26.out)).mono ?_
 rintro e W27 ⟨rfl,hb⟩
 have K1:=hid (K1.out.below hb)
 have K5:=hid (K5.out.below hb)
 have K6:=hid (K6.out.below hb)
 have K7:=hid (K7.out.below hb)
 have HB27:=hbt HB26 hb
 clear hb
 go_upto_region 19 with fail
 simp only[List.append]
 have dK50:=K5.out.cell (i:=0) rfl
 have dK51:=K5.out.cell (i:=1) rfl
 have dK52:=K5.out.cell (i:=2) rfl
 have dK60:=K6.out.cell (i:=0) rfl
 have dK61:=K6.out.cell (i:=1) rfl
 have dK62:=K6.out.cell (i:=2) rfl
 have dK70:=K7.out.cell (i:=0) rfl
 have dK71:=K7.out.cell (i:=1) rfl
 have dK72:=K7.out.cell (i:=2) rfl
 have dK10:=K1.out.cell (i:=0) rfl
 have dK11:=K1.out.cell (i:=1) rfl
 have dK12:=K1.out.cell (i:=2) rfl
 go_wp2
 exact bodyPost_ret (v:=.bool true) (by simp[results,Tryz.results4,go_sem]) rfl ⟨rfl,HB27.out⟩
theorem vlin_any (x1 x2 x3 y1 y2 y3 z1 z2 z3 v:ByteArray)(w:World)(hl:La w) :
 CR 4 #[.agg #[.string x1,.string x2,.string x3],.agg #[.string y1,.string y2,.string y3],.agg #[.string z1,.string z2,.string z3],.string v] w (.bool true):=by
 cases hf:(decide (v.size≤20)&&decide (x1.size≤20∧x2.size≤20∧x3.size≤20∧y1.size≤20∧y2.size≤20∧y3.size≤20∧z1.size≤20∧z2.size≤20∧z3.size≤20)) with
 | false=>exact(vlin_long x1 x2 x3 y1 y2 y3 z1 z2 z3 v _ w hl rfl hf).at
 | true =>
   have hf2:=hf
   rw[Bool.and_eq_true]at hf2
   have hv:=of_decide_eq_true hf2.1
   have hs:=of_decide_eq_true hf2.2
   obtain⟨o1,t1⟩:=tx_form x1 (k:=20) (by decide) (by decide) hs.1
   obtain⟨o2,t2⟩:=tx_form x2 (k:=20) (by decide) (by decide) hs.2.1
   obtain⟨o3,t3⟩:=tx_form x3 (k:=20) (by decide) (by decide) hs.2.2.1
   obtain⟨o4,t4⟩:=tx_form y1 (k:=20) (by decide) (by decide) hs.2.2.2.1
   obtain⟨o5,t5⟩:=tx_form y2 (k:=20) (by decide) (by decide) hs.2.2.2.2.1
   obtain⟨o6,t6⟩:=tx_form y3 (k:=20) (by decide) (by decide) hs.2.2.2.2.2.1
   obtain⟨o7,t7⟩:=tx_form z1 (k:=20) (by decide) (by decide) hs.2.2.2.2.2.2.1
   obtain⟨o8,t8⟩:=tx_form z2 (k:=20) (by decide) (by decide) hs.2.2.2.2.2.2.2.1
   obtain⟨o9,t9⟩:=tx_form z3 (k:=20) (by decide) (by decide) hs.2.2.2.2.2.2.2.2
   obtain⟨ov,tv⟩:=tx_form v (k:=20) (by decide) (by decide) hv
   have v1:=vtValid t1 t2 t3 (by decide) w hl
   have v2:=vtValid t4 t5 t6 (by decide) w hl
   have v3:=vtValid t7 t8 t9 (by decide) w hl
   have v4:=txvalid tv (by decide) w hl
   cases g1:(o1.isSome&&(o2.isSome&&o3.isSome)) with
   | false=>rw[g1]at v1;exact(vlin_no1 x1 x2 x3 y1 y2 y3 z1 z2 z3 v _ w v1 hl rfl hf).at
   | true =>
   rw[g1]at v1
   cases g2:(o4.isSome&&(o5.isSome&&o6.isSome)) with
   | false=>rw[g2]at v2;exact(vlin_no2 x1 x2 x3 y1 y2 y3 z1 z2 z3 v _ w v1 v2 hl rfl hf).at
   | true =>
   rw[g2]at v2
   cases g3:(o7.isSome&&(o8.isSome&&o9.isSome)) with
   | false=>rw[g3]at v3;exact(vlin_no3 x1 x2 x3 y1 y2 y3 z1 z2 z3 v _ w v1 v2 v3 hl rfl hf).at
   | true =>
   rw[g3]at v3
   cases g4:ov.isSome with
   | false=>rw[g4]at v4;exact(vlin_no4 x1 x2 x3 y1 y2 y3 z1 z2 z3 v _ w v1 v2 v3 v4 hl rfl hf).at
   | true =>
   obtain⟨⟨a1,rfl,p1⟩,⟨a2,rfl,p2⟩,⟨a3,rfl,p3⟩⟩:=tx_three t1 t2 t3 g1
   obtain⟨⟨b1,rfl,q1⟩,⟨b2,rfl,q2⟩,⟨b3,rfl,q3⟩⟩:=tx_three t4 t5 t6 g2
   obtain⟨⟨c1,rfl,r1⟩,⟨c2,rfl,r2⟩,⟨c3,rfl,r3⟩⟩:=tx_three t7 t8 t9 g3
   obtain⟨⟨x,rfl,px⟩,_⟩:=tx_three tv tv tv (by rw[g4];rfl)
   exact(vlin_yes a1 a2 a3 b1 b2 b3 c1 c2 c3 x _ p1 p2 p3 q1 q2 q3 r1 r2 r3 px w hl rfl hf).at
end Go.Proofs.YtklfllmfcckgjaaGreatDoor
