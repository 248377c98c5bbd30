/- garboardlaw11.VectorThrough returns true: walks. -/
import Derived.Test.YtklfllmfcckgjaaGreatDoorGm
set_option maxRecDepth 100000
set_option maxHeartbeats 20000000
open Go.Lib (hid)
namespace Go.Proofs.YtklfllmfcckgjaaGreatDoor
open Go.RowKit Go.Gb
theorem vthr_long (x1 x2 x3 y1 y2 y3 z1 z2 z3 v1 v2 v3:ByteArray)(w₀:World)  (hla:La w₀)(fw:decide (x1.size≤20∧x2.size≤20∧x3.size≤20∧y1.size≤20∧y2.size≤20∧y3.size≤20∧z1.size≤20∧z2.size≤20∧z3.size≤20∧v1.size≤20∧v2.size≤20∧v3.size≤20)=false) :
 CV w₀ 5 #[.agg #[.string x1,.string x2,.string x3],.agg #[.string y1,.string y2,.string y3],.agg #[.string z1,.string z2,.string z3],.agg #[.string v1,.string v2,.string v3]] (.bool true):=by
 intro w hw
 have HT:=hid (hla.on hw)
 have FW:=hid fw
 clear hla fw hw
 go_enter Tryz.func5,Tryz.ntmps5
 go_upto_region 1 with fail
 refine wp_boxes w [(#[.string x1,.string x2,.string x3],24),(#[.string y1,.string y2,.string y3],24),(#[.string z1,.string z2,.string z3],24),(#[.string v1,.string v2,.string v3],24)] rfl ?_
 rintro W0 ⟨k1,k2,k3,k4,hb⟩
 have HB0:=hid (show Below w.heap.size w W0 from hb)
 have K1:=hid k1
 have K2:=hid k2
 have K3:=hid k3
 have K4:=hid k4
 clear k1 k2 k3 k4 hb
 go_wp2_with fail
 with_reducible refine((vec_awake _ (HT.out.on HB0.out)).at).mono ?_
 rintro e W1 ⟨rfl,hb⟩
 have K1:=hid (K1.out.below hb)
 have K2:=hid (K2.out.below hb)
 have K3:=hid (K3.out.below hb)
 have K4:=hid (K4.out.below hb)
 have HB1:=hbt HB0 hb
 clear hb
 have dK10:=K1.out.cell (i:=0) rfl
 have dK11:=K1.out.cell (i:=1) rfl
 have dK12:=K1.out.cell (i:=2) rfl
 have dK20:=K2.out.cell (i:=0) rfl
 have dK21:=K2.out.cell (i:=1) rfl
 have dK22:=K2.out.cell (i:=2) rfl
 have dK30:=K3.out.cell (i:=0) rfl
 have dK31:=K3.out.cell (i:=1) rfl
 have dK32:=K3.out.cell (i:=2) rfl
 have dK40:=K4.out.cell (i:=0) rfl
 have dK41:=K4.out.cell (i:=1) rfl
 have dK42:=K4.out.cell (i:=2) rfl
 go_wp2_with fail
 have hb:=below_new W1 (.cells #[.string x1,.string x2,.string x3,.string y1,.string y2,.string y3,.string z1,.string z2,.string z3,.string v1,.string v2,.string v3] 24)
 have k5:=SBk.new W1 #[.string x1,.string x2,.string x3,.string y1,.string y2,.string y3,.string z1,.string z2,.string z3,.string v1,.string v2,.string v3] 24
 generalize W1.alloc (.cells #[.string x1,.string x2,.string x3,.string y1,.string y2,.string y3,.string z1,.string z2,.string z3,.string v1,.string v2,.string v3] 24)=W2 at *
 have HB2:=hbt HB1 hb
 have K5:=hid k5
 clear k5 hb
 with_reducible refine((few_plain _ _ _ (few_list4 _ x1 x2 x3 y1 y2 y3 z1 z2 z3 v1 v2 v3 false FW.out _ K5.out)).at).mono ?_
 rintro e W3 ⟨rfl,hb⟩
 clear dK10 dK11 dK12 dK20 dK21 dK22 dK30 dK31 dK32 dK40 dK41 dK42
 have HB3:=hbt HB2 hb
 clear hb
 go_wp2_with fail
 with_reducible refine((vec_awake _ (HT.out.on HB3.out)).at).mono ?_
 rintro e W4 ⟨rfl,hb⟩
 have HB4:=hbt HB3 hb
 clear hb
 go_wp2
 exact bodyPost_ret (v:=.bool true) (by simp[results,Tryz.results5,go_sem]) rfl ⟨rfl,HB4.out⟩
theorem vthr_no (x1 x2 x3 y1 y2 y3 z1 z2 z3 v1 v2 v3:ByteArray)(w₀:World)(h1:CV w₀ 9 #[.agg #[.string v1,.string v2,.string v3]] (.bool false))(hla:La w₀)(fw:decide (x1.size≤20∧x2.size≤20∧x3.size≤20∧y1.size≤20∧y2.size≤20∧y3.size≤20∧z1.size≤20∧z2.size≤20∧z3.size≤20∧v1.size≤20∧v2.size≤20∧v3.size≤20)=true) :
 CV w₀ 5 #[.agg #[.string x1,.string x2,.string x3],.agg #[.string y1,.string y2,.string y3],.agg #[.string z1,.string z2,.string z3],.agg #[.string v1,.string v2,.string v3]] (.bool true):=by
 intro w hw
 have C1:=hid (h1.mono hw)
 have HT:=hid (hla.on hw)
 have FW:=hid fw
 clear hla fw h1 hw
 go_enter Tryz.func5,Tryz.ntmps5
 go_upto_region 1 with fail
 refine wp_boxes w [(#[.string x1,.string x2,.string x3],24),(#[.string y1,.string y2,.string y3],24),(#[.string z1,.string z2,.string z3],24),(#[.string v1,.string v2,.string v3],24)] rfl ?_
 rintro W0 ⟨k1,k2,k3,k4,hb⟩
 have HB0:=hid (show Below w.heap.size w W0 from hb)
 have K1:=hid k1
 have K2:=hid k2
 have K3:=hid k3
 have K4:=hid k4
 clear k1 k2 k3 k4 hb
 go_wp2_with fail
 with_reducible refine((vec_awake _ (HT.out.on HB0.out)).at).mono ?_
 rintro e W1 ⟨rfl,hb⟩
 have K1:=hid (K1.out.below hb)
 have K2:=hid (K2.out.below hb)
 have K3:=hid (K3.out.below hb)
 have K4:=hid (K4.out.below hb)
 have HB1:=hbt HB0 hb
 clear hb
 have dK10:=K1.out.cell (i:=0) rfl
 have dK11:=K1.out.cell (i:=1) rfl
 have dK12:=K1.out.cell (i:=2) rfl
 have dK20:=K2.out.cell (i:=0) rfl
 have dK21:=K2.out.cell (i:=1) rfl
 have dK22:=K2.out.cell (i:=2) rfl
 have dK30:=K3.out.cell (i:=0) rfl
 have dK31:=K3.out.cell (i:=1) rfl
 have dK32:=K3.out.cell (i:=2) rfl
 have dK40:=K4.out.cell (i:=0) rfl
 have dK41:=K4.out.cell (i:=1) rfl
 have dK42:=K4.out.cell (i:=2) rfl
 go_wp2_with fail
 have hb:=below_new W1 (.cells #[.string x1,.string x2,.string x3,.string y1,.string y2,.string y3,.string z1,.string z2,.string z3,.string v1,.string v2,.string v3] 24)
 have k5:=SBk.new W1 #[.string x1,.string x2,.string x3,.string y1,.string y2,.string y3,.string z1,.string z2,.string z3,.string v1,.string v2,.string v3] 24
 generalize W1.alloc (.cells #[.string x1,.string x2,.string x3,.string y1,.string y2,.string y3,.string z1,.string z2,.string z3,.string v1,.string v2,.string v3] 24)=W2 at *
 have K4:=hid (K4.out.below hb)
 have HB2:=hbt HB1 hb
 have K5:=hid k5
 clear k5 hb
 with_reducible refine((few_plain _ _ _ (few_list4 _ x1 x2 x3 y1 y2 y3 z1 z2 z3 v1 v2 v3 true FW.out _ K5.out)).at).mono ?_
 rintro e W3 ⟨rfl,hb⟩
 clear dK10 dK11 dK12 dK20 dK21 dK22 dK30 dK31 dK32 dK40 dK41 dK42
 have K4:=hid (K4.out.below hb)
 have HB3:=hbt HB2 hb
 clear hb
 have dK40:=K4.out.cell (i:=0) rfl
 have dK41:=K4.out.cell (i:=1) rfl
 have dK42:=K4.out.cell (i:=2) rfl
 go_wp2_with fail
 with_reducible refine(C1.out _ HB3.out).mono ?_
 rintro e W4 ⟨rfl,hb⟩
 clear dK40 dK41 dK42
 have HB4:=hbt HB3 hb
 clear hb
 go_wp2_with fail
 with_reducible refine((vec_awake _ (HT.out.on HB4.out)).at).mono ?_
 rintro e W5 ⟨rfl,hb⟩
 have HB5:=hbt HB4 hb
 clear hb
 go_wp2
 exact bodyPost_ret (v:=.bool true) (by simp[results,Tryz.results5,go_sem]) rfl ⟨rfl,HB5.out⟩
theorem vthr_e1 (x1 x2 x3 y1 y2 y3 z1 z2 z3 v1 v2 v3:ByteArray)(w₀:World)(h1:CV w₀ 9 #[.agg #[.string v1,.string v2,.string v3]] (.bool true))(h2:CV w₀ 20 #[.agg #[.string x1,.string x2,.string x3],.agg #[.string y1,.string y2,.string y3],.agg #[.string z1,.string z2,.string z3]] (.tuple #[.agg #[.string ⟨#[]⟩,.string ⟨#[]⟩,.string ⟨#[]⟩,.string ⟨#[]⟩],.int .i64 1]))(hla:La w₀)(fw:decide (x1.size≤20∧x2.size≤20∧x3.size≤20∧y1.size≤20∧y2.size≤20∧y3.size≤20∧z1.size≤20∧z2.size≤20∧z3.size≤20∧v1.size≤20∧v2.size≤20∧v3.size≤20)=true) :
 CV w₀ 5 #[.agg #[.string x1,.string x2,.string x3],.agg #[.string y1,.string y2,.string y3],.agg #[.string z1,.string z2,.string z3],.agg #[.string v1,.string v2,.string v3]] (.bool true):=by
 intro w hw
 have C1:=hid (h1.mono hw)
 have C2:=hid (h2.mono hw)
 have HT:=hid (hla.on hw)
 have FW:=hid fw
 clear hla fw h1 h2 hw
 go_enter Tryz.func5,Tryz.ntmps5
 go_upto_region 1 with fail
 refine wp_boxes w [(#[.string x1,.string x2,.string x3],24),(#[.string y1,.string y2,.string y3],24),(#[.string z1,.string z2,.string z3],24),(#[.string v1,.string v2,.string v3],24)] rfl ?_
 rintro W0 ⟨k1,k2,k3,k4,hb⟩
 have HB0:=hid (show Below w.heap.size w W0 from hb)
 have K1:=hid k1
 have K2:=hid k2
 have K3:=hid k3
 have K4:=hid k4
 clear k1 k2 k3 k4 hb
 go_wp2_with fail
 with_reducible refine((vec_awake _ (HT.out.on HB0.out)).at).mono ?_
 rintro e W1 ⟨rfl,hb⟩
 have K1:=hid (K1.out.below hb)
 have K2:=hid (K2.out.below hb)
 have K3:=hid (K3.out.below hb)
 have K4:=hid (K4.out.below hb)
 have HB1:=hbt HB0 hb
 clear hb
 have dK10:=K1.out.cell (i:=0) rfl
 have dK11:=K1.out.cell (i:=1) rfl
 have dK12:=K1.out.cell (i:=2) rfl
 have dK20:=K2.out.cell (i:=0) rfl
 have dK21:=K2.out.cell (i:=1) rfl
 have dK22:=K2.out.cell (i:=2) rfl
 have dK30:=K3.out.cell (i:=0) rfl
 have dK31:=K3.out.cell (i:=1) rfl
 have dK32:=K3.out.cell (i:=2) rfl
 have dK40:=K4.out.cell (i:=0) rfl
 have dK41:=K4.out.cell (i:=1) rfl
 have dK42:=K4.out.cell (i:=2) rfl
 go_wp2_with fail
 have hb:=below_new W1 (.cells #[.string x1,.string x2,.string x3,.string y1,.string y2,.string y3,.string z1,.string z2,.string z3,.string v1,.string v2,.string v3] 24)
 have k5:=SBk.new W1 #[.string x1,.string x2,.string x3,.string y1,.string y2,.string y3,.string z1,.string z2,.string z3,.string v1,.string v2,.string v3] 24
 generalize W1.alloc (.cells #[.string x1,.string x2,.string x3,.string y1,.string y2,.string y3,.string z1,.string z2,.string z3,.string v1,.string v2,.string v3] 24)=W2 at *
 have K1:=hid (K1.out.below hb)
 have K2:=hid (K2.out.below hb)
 have K3:=hid (K3.out.below hb)
 have K4:=hid (K4.out.below hb)
 have HB2:=hbt HB1 hb
 have K5:=hid k5
 clear k5 hb
 with_reducible refine((few_plain _ _ _ (few_list4 _ x1 x2 x3 y1 y2 y3 z1 z2 z3 v1 v2 v3 true FW.out _ K5.out)).at).mono ?_
 rintro e W3 ⟨rfl,hb⟩
 clear dK10 dK11 dK12 dK20 dK21 dK22 dK30 dK31 dK32 dK40 dK41 dK42
 have K1:=hid (K1.out.below hb)
 have K2:=hid (K2.out.below hb)
 have K3:=hid (K3.out.below hb)
 have K4:=hid (K4.out.below hb)
 have K5:=hid (K5.out.below hb)
 have HB3:=hbt HB2 hb
 clear hb
 have dK40:=K4.out.cell (i:=0) rfl
 have dK41:=K4.out.cell (i:=1) rfl
 have dK42:=K4.out.cell (i:=2) rfl
 go_wp2_with fail
 with_reducible refine(C1.out _ HB3.out).mono ?_
 rintro e W4 ⟨rfl,hb⟩
 clear dK40 dK41 dK42
 have K1:=hid (K1.out.below hb)
 have K2:=hid (K2.out.below hb)
 have K3:=hid (K3.out.below hb)
 have K4:=hid (K4.out.below hb)
 have K5:=hid (K5.out.below hb)
 have HB4:=hbt HB3 hb
 clear hb
 have dK10:=K1.out.cell (i:=0) rfl
 have dK11:=K1.out.cell (i:=1) rfl
 have dK12:=K1.out.cell (i:=2) rfl
 have dK20:=K2.out.cell (i:=0) rfl
 have dK21:=K2.out.cell (i:=1) rfl
 have dK22:=K2.out.cell (i:=2) rfl
 have dK30:=K3.out.cell (i:=0) rfl
 have dK31:=K3.out.cell (i:=1) rfl
 have dK32:=K3.out.cell (i:=2) rfl
 go_wp2_with fail
 with_reducible refine(C2.out _ HB4.out).mono ?_
 rintro e W5 ⟨rfl,hb⟩
 clear dK10 dK11 dK12 dK20 dK21 dK22 dK30 dK31 dK32
 have K1:=hid (K1.out.below hb)
 have K2:=hid (K2.out.below hb)
 have K3:=hid (K3.out.below hb)
 have K4:=hid (K4.out.below hb)
 have K5:=hid (K5.out.below hb)
 have HB5:=hbt HB4 hb
 clear hb
 go_upto_region 4 with fail
 refine wp_boxes W5 [(#[.string ⟨#[]⟩,.string ⟨#[]⟩,.string ⟨#[]⟩,.string ⟨#[]⟩],28)] rfl ?_
 have L1:=K1.out.lt
 have L2:=K2.out.lt
 have L3:=K3.out.lt
 have L4:=K4.out.lt
 have L5:=K5.out.lt
 have L6:=HB5.out.size
 rintro W6 ⟨k6,hb⟩
 have hb:Below W5.heap.size W5 W6:=hb
 have HB6:=hbt HB5 hb
 have K6:=hid k6
 clear k6 hb
 have dK60:=K6.out.cell (i:=0) rfl
 have dK61:=K6.out.cell (i:=1) rfl
 have dK62:=K6.out.cell (i:=2) rfl
 have dK63:=K6.out.cell (i:=3) rfl
 go_wp2
 exact bodyPost_ret (v:=.bool true) (by simp[results,Tryz.results5,go_sem]) rfl ⟨rfl,HB6.out⟩
theorem vthr_e16 (x1 x2 x3 y1 y2 y3 z1 z2 z3 v1 v2 v3:ByteArray)(w₀:World)(h1:CV w₀ 9 #[.agg #[.string v1,.string v2,.string v3]] (.bool true))(h2:CV w₀ 20 #[.agg #[.string x1,.string x2,.string x3],.agg #[.string y1,.string y2,.string y3],.agg #[.string z1,.string z2,.string z3]] (.tuple #[.agg #[.string ⟨#[]⟩,.string ⟨#[]⟩,.string ⟨#[]⟩,.string ⟨#[]⟩],.int .i64 16]))(hla:La w₀)(fw:decide (x1.size≤20∧x2.size≤20∧x3.size≤20∧y1.size≤20∧y2.size≤20∧y3.size≤20∧z1.size≤20∧z2.size≤20∧z3.size≤20∧v1.size≤20∧v2.size≤20∧v3.size≤20)=true) :
 CV w₀ 5 #[.agg #[.string x1,.string x2,.string x3],.agg #[.string y1,.string y2,.string y3],.agg #[.string z1,.string z2,.string z3],.agg #[.string v1,.string v2,.string v3]] (.bool true):=by
 intro w hw
 have C1:=hid (h1.mono hw)
 have C2:=hid (h2.mono hw)
 have HT:=hid (hla.on hw)
 have FW:=hid fw
 clear hla fw h1 h2 hw
 go_enter Tryz.func5,Tryz.ntmps5
 go_upto_region 1 with fail
 refine wp_boxes w [(#[.string x1,.string x2,.string x3],24),(#[.string y1,.string y2,.string y3],24),(#[.string z1,.string z2,.string z3],24),(#[.string v1,.string v2,.string v3],24)] rfl ?_
 rintro W0 ⟨k1,k2,k3,k4,hb⟩
 have HB0:=hid (show Below w.heap.size w W0 from hb)
 have K1:=hid k1
 have K2:=hid k2
 have K3:=hid k3
 have K4:=hid k4
 clear k1 k2 k3 k4 hb
 go_wp2_with fail
 with_reducible refine((vec_awake _ (HT.out.on HB0.out)).at).mono ?_
 rintro e W1 ⟨rfl,hb⟩
 have K1:=hid (K1.out.below hb)
 have K2:=hid (K2.out.below hb)
 have K3:=hid (K3.out.below hb)
 have K4:=hid (K4.out.below hb)
 have HB1:=hbt HB0 hb
 clear hb
 have dK10:=K1.out.cell (i:=0) rfl
 have dK11:=K1.out.cell (i:=1) rfl
 have dK12:=K1.out.cell (i:=2) rfl
 have dK20:=K2.out.cell (i:=0) rfl
 have dK21:=K2.out.cell (i:=1) rfl
 have dK22:=K2.out.cell (i:=2) rfl
 have dK30:=K3.out.cell (i:=0) rfl
 have dK31:=K3.out.cell (i:=1) rfl
 have dK32:=K3.out.cell (i:=2) rfl
 have dK40:=K4.out.cell (i:=0) rfl
 have dK41:=K4.out.cell (i:=1) rfl
 have dK42:=K4.out.cell (i:=2) rfl
 go_wp2_with fail
 have hb:=below_new W1 (.cells #[.string x1,.string x2,.string x3,.string y1,.string y2,.string y3,.string z1,.string z2,.string z3,.string v1,.string v2,.string v3] 24)
 have k5:=SBk.new W1 #[.string x1,.string x2,.string x3,.string y1,.string y2,.string y3,.string z1,.string z2,.string z3,.string v1,.string v2,.string v3] 24
 generalize W1.alloc (.cells #[.string x1,.string x2,.string x3,.string y1,.string y2,.string y3,.string z1,.string z2,.string z3,.string v1,.string v2,.string v3] 24)=W2 at *
 have K1:=hid (K1.out.below hb)
 have K2:=hid (K2.out.below hb)
 have K3:=hid (K3.out.below hb)
 have K4:=hid (K4.out.below hb)
 have HB2:=hbt HB1 hb
 have K5:=hid k5
 clear k5 hb
 with_reducible refine((few_plain _ _ _ (few_list4 _ x1 x2 x3 y1 y2 y3 z1 z2 z3 v1 v2 v3 true FW.out _ K5.out)).at).mono ?_
 rintro e W3 ⟨rfl,hb⟩
 clear dK10 dK11 dK12 dK20 dK21 dK22 dK30 dK31 dK32 dK40 dK41 dK42
 have K1:=hid (K1.out.below hb)
 have K2:=hid (K2.out.below hb)
 have K3:=hid (K3.out.below hb)
 have K4:=hid (K4.out.below hb)
 have K5:=hid (K5.out.below hb)
 have HB3:=hbt HB2 hb
 clear hb
 have dK40:=K4.out.cell (i:=0) rfl
 have dK41:=K4.out.cell (i:=1) rfl
 have dK42:=K4.out.cell (i:=2) rfl
 go_wp2_with fail
 with_reducible refine(C1.out _ HB3.out).mono ?_
 rintro e W4 ⟨rfl,hb⟩
 clear dK40 dK41 dK42
 have K1:=hid (K1.out.below hb)
 have K2:=hid (K2.out.below hb)
 have K3:=hid (K3.out.below hb)
 have K4:=hid (K4.out.below hb)
 have K5:=hid (K5.out.below hb)
 have HB4:=hbt HB3 hb
 clear hb
 have dK10:=K1.out.cell (i:=0) rfl
 have dK11:=K1.out.cell (i:=1) rfl
 have dK12:=K1.out.cell (i:=2) rfl
 have dK20:=K2.out.cell (i:=0) rfl
 have dK21:=K2.out.cell (i:=1) rfl
 have dK22:=K2.out.cell (i:=2) rfl
 have dK30:=K3.out.cell (i:=0) rfl
 have dK31:=K3.out.cell (i:=1) rfl
 have dK32:=K3.out.cell (i:=2) rfl
 go_wp2_with fail
 with_reducible refine(C2.out _ HB4.out).mono ?_
 rintro e W5 ⟨rfl,hb⟩
 clear dK10 dK11 dK12 dK20 dK21 dK22 dK30 dK31 dK32
 have K1:=hid (K1.out.below hb)
 have K2:=hid (K2.out.below hb)
 have K3:=hid (K3.out.below hb)
 have K4:=hid (K4.out.below hb)
 have K5:=hid (K5.out.below hb)
 have HB5:=hbt HB4 hb
 clear hb
 go_upto_region 4 with fail
 refine wp_boxes W5 [(#[.string ⟨#[]⟩,.string ⟨#[]⟩,.string ⟨#[]⟩,.string ⟨#[]⟩],28)] rfl ?_
 have L1:=K1.out.lt
 have L2:=K2.out.lt
 have L3:=K3.out.lt
 have L4:=K4.out.lt
 have L5:=K5.out.lt
 have L6:=HB5.out.size
 rintro W6 ⟨k6,hb⟩
 have hb:Below W5.heap.size W5 W6:=hb
 have HB6:=hbt HB5 hb
 have K6:=hid k6
 clear k6 hb
 have dK60:=K6.out.cell (i:=0) rfl
 have dK61:=K6.out.cell (i:=1) rfl
 have dK62:=K6.out.cell (i:=2) rfl
 have dK63:=K6.out.cell (i:=3) rfl
 go_wp2
 exact bodyPost_ret (v:=.bool true) (by simp[results,Tryz.results5,go_sem]) rfl ⟨rfl,HB6.out⟩
theorem qCompare0 (x:Rat)(k:Int)(h:cmpQ x 0=k)(hx:FitQ x)(w:World)(hla:La w):CR 22 #[.string (Sq x),.string ⟨#[48]⟩] w (.tuple #[.int .i64 k,.int .i64 0]):=by
 have h:=qCompare x 0 k h hx fitq0 w hla
 rwa [gq_0]at h
theorem cmpQ_neg0 (x:Rat):cmpQ (-x) 0 = -cmpQ x 0:=by
 rcases cmpQ_cases x 0 with⟨h,e⟩|⟨h,e⟩|⟨h,e⟩
 · rw[e,cmpQ_gt (show(0:Rat) < -x by grind)];rfl
 · subst h;rfl
 · rw[e,cmpQ_lt (show -x<(0:Rat) by grind)]
theorem vthr_yesm (a1 a2 a3 b1 b2 b3 c1 c2 c3 r1 r2 r3:Rat)(pa1:SmQ 20 a1)(pa2:SmQ 20 a2)(pa3:SmQ 20 a3)(pb1:SmQ 20 b1)(pb2:SmQ 20 b2)(pb3:SmQ 20 b3)(pc1:SmQ 20 c1)(pc2:SmQ 20 c2)(pc3:SmQ 20 c3)(pr1:SmQ 20 r1)(pr2:SmQ 20 r2)(pr3:SmQ 20 r3)(w₀:World)  (hla:La w₀)(fw:decide ((Sq a1).size≤20∧(Sq a2).size≤20∧(Sq a3).size≤20∧(Sq b1).size≤20∧(Sq b2).size≤20∧(Sq b3).size≤20∧(Sq c1).size≤20∧(Sq c2).size≤20∧(Sq c3).size≤20∧(Sq r1).size≤20∧(Sq r2).size≤20∧(Sq r3).size≤20)=true)(hzz:¬ (((b2-a2)*(c3-a3)-(b3-a3)*(c2-a2))=0∧((b3-a3)*(c1-a1)-(b1-a1)*(c3-a3))=0∧((b1-a1)*(c2-a2)-(b2-a2)*(c1-a1))=0))(hkk:cmpQ ((r1-a1)*((b2-a2)*(c3-a3)-(b3-a3)*(c2-a2))+(r2-a2)*((b3-a3)*(c1-a1)-(b1-a1)*(c3-a3))+(r3-a3)*((b1-a1)*(c2-a2)-(b2-a2)*(c1-a1))) 0 = -1) :
 CV w₀ 5 #[.agg #[.string (Sq a1),.string (Sq a2),.string (Sq a3)],.agg #[.string (Sq b1),.string (Sq b2),.string (Sq b3)],.agg #[.string (Sq c1),.string (Sq c2),.string (Sq c3)],.agg #[.string (Sq r1),.string (Sq r2),.string (Sq r3)]] (.bool true):=by
 intro w hw
 have HT:=hid (hla.on hw)
 have FW:=hid fw
 obtain⟨l1,hl1⟩:∃ z,b1-a1=z:=⟨_,rfl⟩
 have pl1:SmQ 41 l1:=hl1▸(pb1.sub pa1)
 obtain⟨l2,hl2⟩:∃ z,b2-a2=z:=⟨_,rfl⟩
 have pl2:SmQ 41 l2:=hl2▸(pb2.sub pa2)
 obtain⟨l3,hl3⟩:∃ z,b3-a3=z:=⟨_,rfl⟩
 have pl3:SmQ 41 l3:=hl3▸(pb3.sub pa3)
 obtain⟨m1,hm1⟩:∃ z,c1-a1=z:=⟨_,rfl⟩
 have pm1:SmQ 41 m1:=hm1▸(pc1.sub pa1)
 obtain⟨m2,hm2⟩:∃ z,c2-a2=z:=⟨_,rfl⟩
 have pm2:SmQ 41 m2:=hm2▸(pc2.sub pa2)
 obtain⟨m3,hm3⟩:∃ z,c3-a3=z:=⟨_,rfl⟩
 have pm3:SmQ 41 m3:=hm3▸(pc3.sub pa3)
 obtain⟨u1,hu1⟩:∃ z,r1-a1=z:=⟨_,rfl⟩
 have pu1:SmQ 41 u1:=hu1▸(pr1.sub pa1)
 obtain⟨u2,hu2⟩:∃ z,r2-a2=z:=⟨_,rfl⟩
 have pu2:SmQ 41 u2:=hu2▸(pr2.sub pa2)
 obtain⟨u3,hu3⟩:∃ z,r3-a3=z:=⟨_,rfl⟩
 have pu3:SmQ 41 u3:=hu3▸(pr3.sub pa3)
 obtain⟨n1,hn1⟩:∃ z,l2*m3-l3*m2=z:=⟨_,rfl⟩
 have pn1:SmQ 165 n1:=hn1▸((pl2.mul pm3).sub (pl3.mul pm2))
 obtain⟨n2,hn2⟩:∃ z,l3*m1-l1*m3=z:=⟨_,rfl⟩
 have pn2:SmQ 165 n2:=hn2▸((pl3.mul pm1).sub (pl1.mul pm3))
 obtain⟨n3,hn3⟩:∃ z,l1*m2-l2*m1=z:=⟨_,rfl⟩
 have pn3:SmQ 165 n3:=hn3▸((pl1.mul pm2).sub (pl2.mul pm1))
 have hz:¬ (n1=0∧n2=0∧n3=0):=by rw[← hn1,← hn2,← hn3,← hl1,← hl2,← hl3,← hm1,← hm2,← hm3];exact hzz
 obtain⟨st,hst⟩:∃ z,n1*a1+n2*a2+n3*a3=z:=⟨_,rfl⟩
 have pst:SmQ 557 st:=hst▸(((pn1.mul pa1).add (pn2.mul pa2)).add (pn3.mul pa3))
 have EB:=hid (show n1*b1+n2*b2+n3*b3=st from by rw[← hst,← hn1,← hn2,← hn3,← hl1,← hl2,← hl3,← hm1,← hm2,← hm3];grind)
 have EC:=hid (show n1*c1+n2*c2+n3*c3=st from by rw[← hst,← hn1,← hn2,← hn3,← hl1,← hl2,← hl3,← hm1,← hm2,← hm3];grind)
 obtain⟨dd,hdd⟩:∃ z,u1*n1+u2*n2+u3*n3=z:=⟨_,rfl⟩
 have pdd:SmQ 620 dd:=hdd▸(((pu1.mul pn1).add (pu2.mul pn2)).add (pu3.mul pn3))
 obtain⟨sd,hsd⟩:∃ z,n1*r1+n2*r2+n3*r3=z:=⟨_,rfl⟩
 have psd:SmQ 557 sd:=hsd▸(((pn1.mul pr1).add (pn2.mul pr2)).add (pn3.mul pr3))
 have EG:=hid (show sd-st=dd from by rw[← hsd,← hst,← hdd,← hu1,← hu2,← hu3];grind)
 have EK:=hid (show cmpQ dd 0 = -1 from by rw[← hdd,← hu1,← hu2,← hu3,← hn1,← hn2,← hn3,← hl1,← hl2,← hl3,← hm1,← hm2,← hm3];exact hkk)
 have EN1:=hid (show(c2-b2)*(a3-b3)-(c3-b3)*(a2-b2)=n1 from by rw[← hn1,← hl2,← hl3,← hm2,← hm3];grind)
 have EN2:=hid (show(c3-b3)*(a1-b1)-(c1-b1)*(a3-b3)=n2 from by rw[← hn2,← hl3,← hl1,← hm3,← hm1];grind)
 have EN3:=hid (show(c1-b1)*(a2-b2)-(c2-b2)*(a1-b1)=n3 from by rw[← hn3,← hl1,← hl2,← hm1,← hm2];grind)
 obtain⟨o1,ho1⟩:∃ z,(a2-b2)*(c3-b3)-(a3-b3)*(c2-b2)=z:=⟨_,rfl⟩
 have po1:SmQ 165 o1:=ho1▸(((pa2.sub pb2).mul (pc3.sub pb3)).sub ((pa3.sub pb3).mul (pc2.sub pb2)))
 obtain⟨o2,ho2⟩:∃ z,(a3-b3)*(c1-b1)-(a1-b1)*(c3-b3)=z:=⟨_,rfl⟩
 have po2:SmQ 165 o2:=ho2▸(((pa3.sub pb3).mul (pc1.sub pb1)).sub ((pa1.sub pb1).mul (pc3.sub pb3)))
 obtain⟨o3,ho3⟩:∃ z,(a1-b1)*(c2-b2)-(a2-b2)*(c1-b1)=z:=⟨_,rfl⟩
 have po3:SmQ 165 o3:=ho3▸(((pa1.sub pb1).mul (pc2.sub pb2)).sub ((pa2.sub pb2).mul (pc1.sub pb1)))
 have ho1n:o1 = -n1:=by rw[← ho1,← hn1,← hl2,← hl3,← hm2,← hm3];grind
 have ho2n:o2 = -n2:=by rw[← ho2,← hn2,← hl3,← hl1,← hm3,← hm1];grind
 have ho3n:o3 = -n3:=by rw[← ho3,← hn3,← hl1,← hl2,← hm1,← hm2];grind
 have hzo:¬ (o1=0∧o2=0∧o3=0):=by
  rintro⟨g1,g2,g3⟩
  exact hz ⟨by grind,by grind,by grind⟩
 obtain⟨sr,hsr⟩:∃ z,o1*b1+o2*b2+o3*b3=z:=⟨_,rfl⟩
 have psr:SmQ 557 sr:=hsr▸(((po1.mul pb1).add (po2.mul pb2)).add (po3.mul pb3))
 obtain⟨sq,hsq⟩:∃ z,o1*r1+o2*r2+o3*r3=z:=⟨_,rfl⟩
 have psq:SmQ 557 sq:=hsq▸(((po1.mul pr1).add (po2.mul pr2)).add (po3.mul pr3))
 obtain⟨dr,hdr⟩:∃ z,sq-sr=z:=⟨_,rfl⟩
 have hdr2:dr = -dd:=by
  have eb:=EB.out
  have eg:=EG.out
  rw[← hdr,← hsq,← hsr,ho1n,ho2n,ho3n]
  grind
 have pdr:SmQ 620 dr:=hdr2▸pdd.neg
 have EL:=hid (show cmpQ dr 0=1 from by
  have h1:=EK.out
  have h2:cmpQ (-dd) 0 = -cmpQ dd 0:=cmpQ_neg0 dd
  rw[hdr2,h2,h1];rfl)
 have Pa1':=hid pa1
 have Pa2':=hid pa2
 have Pa3':=hid pa3
 have Pb1':=hid pb1
 have Pb2':=hid pb2
 have Pb3':=hid pb3
 have Pc1':=hid pc1
 have Pc2':=hid pc2
 have Pc3':=hid pc3
 have Pr1':=hid pr1
 have Pr2':=hid pr2
 have Pr3':=hid pr3
 have Hl1':=hid hl1
 have Pl1':=hid pl1
 have Hl2':=hid hl2
 have Pl2':=hid pl2
 have Hl3':=hid hl3
 have Pl3':=hid pl3
 have Hm1':=hid hm1
 have Pm1':=hid pm1
 have Hm2':=hid hm2
 have Pm2':=hid pm2
 have Hm3':=hid hm3
 have Pm3':=hid pm3
 have Hu1':=hid hu1
 have Pu1':=hid pu1
 have Hu2':=hid hu2
 have Pu2':=hid pu2
 have Hu3':=hid hu3
 have Pu3':=hid pu3
 have Hn1':=hid hn1
 have Pn1':=hid pn1
 have Hn2':=hid hn2
 have Pn2':=hid pn2
 have Hn3':=hid hn3
 have Pn3':=hid pn3
 have Hz':=hid hz
 have Hst':=hid hst
 have Pst':=hid pst
 have Hdd':=hid hdd
 have Pdd':=hid pdd
 have Hsd':=hid hsd
 have Psd':=hid psd
 have Ho1':=hid ho1
 have Po1':=hid po1
 have Ho2':=hid ho2
 have Po2':=hid po2
 have Ho3':=hid ho3
 have Po3':=hid po3
 have Ho1n':=hid ho1n
 have Ho2n':=hid ho2n
 have Ho3n':=hid ho3n
 have Hzo':=hid hzo
 have Hsr':=hid hsr
 have Psr':=hid psr
 have Hsq':=hid hsq
 have Psq':=hid psq
 have Hdr':=hid hdr
 have Hdr2':=hid hdr2
 have Pdr':=hid pdr
 clear pdr hdr2 hdr psq hsq psr hsr hzo ho3n ho2n ho1n po3 ho3 po2 ho2 po1 ho1 hkk psd hsd pdd hdd pst hst hzz hz pn3 hn3 pn2 hn2 pn1 hn1 pu3 hu3 pu2 hu2 pu1 hu1 pm3 hm3 pm2 hm2 pm1 hm1 pl3 hl3 pl2 hl2 pl1 hl1 fw pr3 pr2 pr1 pc3 pc2 pc1 pb3 pb2 pb1 pa3 pa2 pa1 hla hw
 go_enter Tryz.func5,Tryz.ntmps5
 go_upto_region 1 with fail
 refine wp_boxes w [(#[.string (Sq a1),.string (Sq a2),.string (Sq a3)],24),(#[.string (Sq b1),.string (Sq b2),.string (Sq b3)],24),(#[.string (Sq c1),.string (Sq c2),.string (Sq c3)],24),(#[.string (Sq r1),.string (Sq r2),.string (Sq r3)],24)] rfl ?_
 rintro W0 ⟨k1,k2,k3,k4,hb⟩
 have HB0:=hid (show Below w.heap.size w W0 from hb)
 have K1:=hid k1
 have K2:=hid k2
 have K3:=hid k3
 have K4:=hid k4
 clear k1 k2 k3 k4 hb
 go_wp2_with fail
 with_reducible refine((vec_awake _ (HT.out.on HB0.out)).at).mono ?_
 rintro e W1 ⟨rfl,hb⟩
 have K1:=hid (K1.out.below hb)
 have K2:=hid (K2.out.below hb)
 have K3:=hid (K3.out.below hb)
 have K4:=hid (K4.out.below hb)
 have HB1:=hbt HB0 hb
 clear hb
 have dK10:=K1.out.cell (i:=0) rfl
 have dK11:=K1.out.cell (i:=1) rfl
 have dK12:=K1.out.cell (i:=2) rfl
 have dK20:=K2.out.cell (i:=0) rfl
 have dK21:=K2.out.cell (i:=1) rfl
 have dK22:=K2.out.cell (i:=2) rfl
 have dK30:=K3.out.cell (i:=0) rfl
 have dK31:=K3.out.cell (i:=1) rfl
 have dK32:=K3.out.cell (i:=2) rfl
 have dK40:=K4.out.cell (i:=0) rfl
 have dK41:=K4.out.cell (i:=1) rfl
 have dK42:=K4.out.cell (i:=2) rfl
 go_wp2_with fail
 have hb:=below_new W1 (.cells #[.string (Sq a1),.string (Sq a2),.string (Sq a3),.string (Sq b1),.string (Sq b2),.string (Sq b3),.string (Sq c1),.string (Sq c2),.string (Sq c3),.string (Sq r1),.string (Sq r2),.string (Sq r3)] 24)
 have k5:=SBk.new W1 #[.string (Sq a1),.string (Sq a2),.string (Sq a3),.string (Sq b1),.string (Sq b2),.string (Sq b3),.string (Sq c1),.string (Sq c2),.string (Sq c3),.string (Sq r1),.string (Sq r2),.string (Sq r3)] 24
 generalize W1.alloc (.cells #[.string (Sq a1),.string (Sq a2),.string (Sq a3),.string (Sq b1),.string (Sq b2),.string (Sq b3),.string (Sq c1),.string (Sq c2),.string (Sq c3),.string (Sq r1),.string (Sq r2),.string (Sq r3)] 24)=W2 at *
 have K1:=hid (K1.out.below hb)
 have K2:=hid (K2.out.below hb)
 have K3:=hid (K3.out.below hb)
 have K4:=hid (K4.out.below hb)
 have HB2:=hbt HB1 hb
 have K5:=hid k5
 clear k5 hb
 with_reducible refine((few_plain _ _ _ (few_list4 _ (Sq a1) (Sq a2) (Sq a3) (Sq b1) (Sq b2) (Sq b3) (Sq c1) (Sq c2) (Sq c3) (Sq r1) (Sq r2) (Sq r3) true FW.out _ K5.out)).at).mono ?_
 rintro e W3 ⟨rfl,hb⟩
 clear dK10 dK11 dK12 dK20 dK21 dK22 dK30 dK31 dK32 dK40 dK41 dK42
 have K1:=hid (K1.out.below hb)
 have K2:=hid (K2.out.below hb)
 have K3:=hid (K3.out.below hb)
 have K4:=hid (K4.out.below hb)
 have K5:=hid (K5.out.below hb)
 have HB3:=hbt HB2 hb
 clear hb
 have dK40:=K4.out.cell (i:=0) rfl
 have dK41:=K4.out.cell (i:=1) rfl
 have dK42:=K4.out.cell (i:=2) rfl
 go_wp2_with fail
 with_reducible refine((vnValid (Pr1'.out.fit (by decide)) (Pr2'.out.fit (by decide)) (Pr3'.out.fit (by decide)) _ (HT.out.on HB3.out)).at).mono ?_
 rintro e W4 ⟨rfl,hb⟩
 clear dK40 dK41 dK42
 have K1:=hid (K1.out.below hb)
 have K2:=hid (K2.out.below hb)
 have K3:=hid (K3.out.below hb)
 have K4:=hid (K4.out.below hb)
 have K5:=hid (K5.out.below hb)
 have HB4:=hbt HB3 hb
 clear hb
 have dK10:=K1.out.cell (i:=0) rfl
 have dK11:=K1.out.cell (i:=1) rfl
 have dK12:=K1.out.cell (i:=2) rfl
 have dK20:=K2.out.cell (i:=0) rfl
 have dK21:=K2.out.cell (i:=1) rfl
 have dK22:=K2.out.cell (i:=2) rfl
 have dK30:=K3.out.cell (i:=0) rfl
 have dK31:=K3.out.cell (i:=1) rfl
 have dK32:=K3.out.cell (i:=2) rfl
 go_wp2_with fail
 with_reducible refine((nThrough Hl1'.out Hm1'.out Hl2'.out Hm2'.out Hl3'.out Hm3'.out Hn1'.out Hn2'.out Hn3'.out Hz'.out Hst'.out Pa1'.out Pa2'.out Pa3'.out Pb1'.out Pb2'.out Pb3'.out Pc1'.out Pc2'.out Pc3'.out _ (HT.out.on HB4.out)).at).mono ?_
 rintro e W5 ⟨rfl,hb⟩
 clear dK10 dK11 dK12 dK20 dK21 dK22 dK30 dK31 dK32
 have K1:=hid (K1.out.below hb)
 have K2:=hid (K2.out.below hb)
 have K3:=hid (K3.out.below hb)
 have K4:=hid (K4.out.below hb)
 have K5:=hid (K5.out.below hb)
 have HB5:=hbt HB4 hb
 clear hb
 go_upto_region 4 with fail
 refine wp_boxes W5 [(#[.string (Sq n1),.string (Sq n2),.string (Sq n3),.string (Sq st)],28)] rfl ?_
 have L1:=K1.out.lt
 have L2:=K2.out.lt
 have L3:=K3.out.lt
 have L4:=K4.out.lt
 have L5:=K5.out.lt
 have L6:=HB5.out.size
 rintro W6 ⟨k6,hb⟩
 have hb:Below W5.heap.size W5 W6:=hb
 have K1:=hid (K1.out.below hb)
 have K2:=hid (K2.out.below hb)
 have K3:=hid (K3.out.below hb)
 have K4:=hid (K4.out.below hb)
 have K5:=hid (K5.out.below hb)
 have HB6:=hbt HB5 hb
 have K6:=hid k6
 clear k6 hb
 have dK10:=K1.out.cell (i:=0) rfl
 have dK11:=K1.out.cell (i:=1) rfl
 have dK12:=K1.out.cell (i:=2) rfl
 have dK20:=K2.out.cell (i:=0) rfl
 have dK21:=K2.out.cell (i:=1) rfl
 have dK22:=K2.out.cell (i:=2) rfl
 have dK30:=K3.out.cell (i:=0) rfl
 have dK31:=K3.out.cell (i:=1) rfl
 have dK32:=K3.out.cell (i:=2) rfl
 go_wp2
 have hb:=below_new W6 (.cells #[.string (Sq a1),.string (Sq a2),.string (Sq a3),.string (Sq b1),.string (Sq b2),.string (Sq b3),.string (Sq c1),.string (Sq c2),.string (Sq c3)] 24)
 have k7:=SBk.new W6 #[.string (Sq a1),.string (Sq a2),.string (Sq a3),.string (Sq b1),.string (Sq b2),.string (Sq b3),.string (Sq c1),.string (Sq c2),.string (Sq c3)] 24
 generalize W6.alloc (.cells #[.string (Sq a1),.string (Sq a2),.string (Sq a3),.string (Sq b1),.string (Sq b2),.string (Sq b3),.string (Sq c1),.string (Sq c2),.string (Sq c3)] 24)=W7 at *
 have K1:=hid (K1.out.below hb)
 have K2:=hid (K2.out.below hb)
 have K3:=hid (K3.out.below hb)
 have K4:=hid (K4.out.below hb)
 have K5:=hid (K5.out.below hb)
 have K6:=hid (K6.out.below hb)
 have HB7:=hbt HB6 hb
 have K7:=hid k7
 clear k7 hb dK10 dK11 dK12 dK20 dK21 dK22 dK30 dK31 dK32
 refine wp_loop_rounds 4 ?_
 rw[rounds_succ]
 have dK70:=K7.out.cell (i:=0) rfl
 have dK71:=K7.out.cell (i:=1) rfl
 have dK72:=K7.out.cell (i:=2) rfl
 go_upto_region 9 with fail
 refine wp_boxes W7 [(#[.string (Sq a1),.string (Sq a2),.string (Sq a3)],24)] rfl ?_
 have L7:=K1.out.lt
 have L8:=K2.out.lt
 have L9:=K3.out.lt
 have L10:=K4.out.lt
 have L11:=K5.out.lt
 have L12:=K6.out.lt
 have L13:=K7.out.lt
 have L14:=HB7.out.size
 rintro W8 ⟨k8,hb⟩
 have hb:Below W7.heap.size W7 W8:=hb
 have K1:=hid (K1.out.below hb)
 have K2:=hid (K2.out.below hb)
 have K3:=hid (K3.out.below hb)
 have K4:=hid (K4.out.below hb)
 have K5:=hid (K5.out.below hb)
 have K6:=hid (K6.out.below hb)
 have K7:=hid (K7.out.below hb)
 have HB8:=hbt HB7 hb
 have K8:=hid k8
 clear k8 hb dK70 dK71 dK72
 have dK60:=K6.out.cell (i:=0) rfl
 have dK61:=K6.out.cell (i:=1) rfl
 have dK62:=K6.out.cell (i:=2) rfl
 have dK63:=K6.out.cell (i:=3) rfl
 have dK80:=K8.out.cell (i:=0) rfl
 have dK81:=K8.out.cell (i:=1) rfl
 have dK82:=K8.out.cell (i:=2) rfl
 go_wp2_with fail
 with_reducible refine((nSide Hz'.out Hst'.out (show st-st=0 from by grind) (show cmpQ (0:Rat) 0=0 from cmpQ_eq 0) Pn1'.out Pn2'.out Pn3'.out Pa1'.out Pa2'.out Pa3'.out (by decide) (((Pn1'.out.mul Pa1'.out).add (Pn2'.out.mul Pa2'.out)).fit (by decide)) (Pst'.out.fit (by decide)) (Pst'.out.fit (by decide)) fitq0 _ (HT.out.on HB8.out)).at).mono ?_
 rintro e W9 ⟨rfl,hb⟩
 clear dK60 dK61 dK62 dK63 dK80 dK81 dK82
 have K1:=hid (K1.out.below hb)
 have K2:=hid (K2.out.below hb)
 have K3:=hid (K3.out.below hb)
 have K4:=hid (K4.out.below hb)
 have K5:=hid (K5.out.below hb)
 have K6:=hid (K6.out.below hb)
 have K7:=hid (K7.out.below hb)
 have K8:=hid (K8.out.below hb)
 have HB9:=hbt HB8 hb
 clear hb
 go_wp2
 rw[rounds_succ]
 have dK73:=K7.out.cell (i:=3) rfl
 have dK74:=K7.out.cell (i:=4) rfl
 have dK75:=K7.out.cell (i:=5) rfl
 go_upto_region 9 with fail
 refine wp_boxes W9 [(#[.string (Sq b1),.string (Sq b2),.string (Sq b3)],24)] rfl ?_
 have L15:=K1.out.lt
 have L16:=K2.out.lt
 have L17:=K3.out.lt
 have L18:=K4.out.lt
 have L19:=K5.out.lt
 have L20:=K6.out.lt
 have L21:=K7.out.lt
 have L22:=K8.out.lt
 have L23:=HB9.out.size
 rintro W10 ⟨k9,hb⟩
 have hb:Below W9.heap.size W9 W10:=hb
 have K1:=hid (K1.out.below hb)
 have K2:=hid (K2.out.below hb)
 have K3:=hid (K3.out.below hb)
 have K4:=hid (K4.out.below hb)
 have K5:=hid (K5.out.below hb)
 have K6:=hid (K6.out.below hb)
 have K7:=hid (K7.out.below hb)
 have K8:=hid (K8.out.below hb)
 have HB10:=hbt HB9 hb
 have K9:=hid k9
 clear k9 hb dK73 dK74 dK75
 have dK60:=K6.out.cell (i:=0) rfl
 have dK61:=K6.out.cell (i:=1) rfl
 have dK62:=K6.out.cell (i:=2) rfl
 have dK63:=K6.out.cell (i:=3) rfl
 have dK90:=K9.out.cell (i:=0) rfl
 have dK91:=K9.out.cell (i:=1) rfl
 have dK92:=K9.out.cell (i:=2) rfl
 go_wp2_with fail
 with_reducible refine((nSide Hz'.out EB.out (show st-st=0 from by grind) (show cmpQ (0:Rat) 0=0 from cmpQ_eq 0) Pn1'.out Pn2'.out Pn3'.out Pb1'.out Pb2'.out Pb3'.out (by decide) (((Pn1'.out.mul Pb1'.out).add (Pn2'.out.mul Pb2'.out)).fit (by decide)) (Pst'.out.fit (by decide)) (Pst'.out.fit (by decide)) fitq0 _ (HT.out.on HB10.out)).at).mono ?_
 rintro e W11 ⟨rfl,hb⟩
 clear dK60 dK61 dK62 dK63 dK90 dK91 dK92
 have K1:=hid (K1.out.below hb)
 have K2:=hid (K2.out.below hb)
 have K3:=hid (K3.out.below hb)
 have K4:=hid (K4.out.below hb)
 have K5:=hid (K5.out.below hb)
 have K6:=hid (K6.out.below hb)
 have K7:=hid (K7.out.below hb)
 have K8:=hid (K8.out.below hb)
 have K9:=hid (K9.out.below hb)
 have HB11:=hbt HB10 hb
 clear hb
 go_wp2
 rw[rounds_succ]
 have dK76:=K7.out.cell (i:=6) rfl
 have dK77:=K7.out.cell (i:=7) rfl
 have dK78:=K7.out.cell (i:=8) rfl
 go_upto_region 9 with fail
 refine wp_boxes W11 [(#[.string (Sq c1),.string (Sq c2),.string (Sq c3)],24)] rfl ?_
 have L24:=K1.out.lt
 have L25:=K2.out.lt
 have L26:=K3.out.lt
 have L27:=K4.out.lt
 have L28:=K5.out.lt
 have L29:=K6.out.lt
 have L30:=K7.out.lt
 have L31:=K8.out.lt
 have L32:=K9.out.lt
 have L33:=HB11.out.size
 rintro W12 ⟨k10,hb⟩
 have hb:Below W11.heap.size W11 W12:=hb
 have K1:=hid (K1.out.below hb)
 have K2:=hid (K2.out.below hb)
 have K3:=hid (K3.out.below hb)
 have K4:=hid (K4.out.below hb)
 have K5:=hid (K5.out.below hb)
 have K6:=hid (K6.out.below hb)
 have K7:=hid (K7.out.below hb)
 have K8:=hid (K8.out.below hb)
 have K9:=hid (K9.out.below hb)
 have HB12:=hbt HB11 hb
 have K10:=hid k10
 clear k10 hb dK76 dK77 dK78
 have dK60:=K6.out.cell (i:=0) rfl
 have dK61:=K6.out.cell (i:=1) rfl
 have dK62:=K6.out.cell (i:=2) rfl
 have dK63:=K6.out.cell (i:=3) rfl
 have dK100:=K10.out.cell (i:=0) rfl
 have dK101:=K10.out.cell (i:=1) rfl
 have dK102:=K10.out.cell (i:=2) rfl
 go_wp2_with fail
 with_reducible refine((nSide Hz'.out EC.out (show st-st=0 from by grind) (show cmpQ (0:Rat) 0=0 from cmpQ_eq 0) Pn1'.out Pn2'.out Pn3'.out Pc1'.out Pc2'.out Pc3'.out (by decide) (((Pn1'.out.mul Pc1'.out).add (Pn2'.out.mul Pc2'.out)).fit (by decide)) (Pst'.out.fit (by decide)) (Pst'.out.fit (by decide)) fitq0 _ (HT.out.on HB12.out)).at).mono ?_
 rintro e W13 ⟨rfl,hb⟩
 clear dK60 dK61 dK62 dK63 dK100 dK101 dK102
 have K1:=hid (K1.out.below hb)
 have K2:=hid (K2.out.below hb)
 have K3:=hid (K3.out.below hb)
 have K4:=hid (K4.out.below hb)
 have K5:=hid (K5.out.below hb)
 have K6:=hid (K6.out.below hb)
 have K7:=hid (K7.out.below hb)
 have K8:=hid (K8.out.below hb)
 have K9:=hid (K9.out.below hb)
 have K10:=hid (K10.out.below hb)
 have HB13:=hbt HB12 hb
 clear hb
 go_wp2
 rw[rounds_succ]
 have dK20:=K2.out.cell (i:=0) rfl
 have dK21:=K2.out.cell (i:=1) rfl
 have dK22:=K2.out.cell (i:=2) rfl
 have dK10:=K1.out.cell (i:=0) rfl
 have dK11:=K1.out.cell (i:=1) rfl
 have dK12:=K1.out.cell (i:=2) rfl
 go_wp2_with fail
 with_reducible refine((vnSub Hl1'.out Hl2'.out Hl3'.out Pb1'.out Pb2'.out Pb3'.out Pa1'.out Pa2'.out Pa3'.out (by decide) (by decide) _ (HT.out.on HB13.out)).at).mono ?_
 rintro e W14 ⟨rfl,hb⟩
 clear dK20 dK21 dK22 dK10 dK11 dK12
 have K1:=hid (K1.out.below hb)
 have K2:=hid (K2.out.below hb)
 have K3:=hid (K3.out.below hb)
 have K4:=hid (K4.out.below hb)
 have K5:=hid (K5.out.below hb)
 have K6:=hid (K6.out.below hb)
 have K7:=hid (K7.out.below hb)
 have K8:=hid (K8.out.below hb)
 have K9:=hid (K9.out.below hb)
 have K10:=hid (K10.out.below hb)
 have HB14:=hbt HB13 hb
 clear hb
 go_upto_region 14 with fail
 refine wp_boxes W14 [(#[.string (Sq l1),.string (Sq l2),.string (Sq l3)],24)] rfl ?_
 have L34:=K1.out.lt
 have L35:=K2.out.lt
 have L36:=K3.out.lt
 have L37:=K4.out.lt
 have L38:=K5.out.lt
 have L39:=K6.out.lt
 have L40:=K7.out.lt
 have L41:=K8.out.lt
 have L42:=K9.out.lt
 have L43:=K10.out.lt
 have L44:=HB14.out.size
 rintro W15 ⟨k11,hb⟩
 have hb:Below W14.heap.size W14 W15:=hb
 have K1:=hid (K1.out.below hb)
 have K2:=hid (K2.out.below hb)
 have K3:=hid (K3.out.below hb)
 have K4:=hid (K4.out.below hb)
 have K5:=hid (K5.out.below hb)
 have K6:=hid (K6.out.below hb)
 have K7:=hid (K7.out.below hb)
 have K8:=hid (K8.out.below hb)
 have K9:=hid (K9.out.below hb)
 have K10:=hid (K10.out.below hb)
 have HB15:=hbt HB14 hb
 have K11:=hid k11
 clear k11 hb
 have dK30:=K3.out.cell (i:=0) rfl
 have dK31:=K3.out.cell (i:=1) rfl
 have dK32:=K3.out.cell (i:=2) rfl
 have dK10:=K1.out.cell (i:=0) rfl
 have dK11:=K1.out.cell (i:=1) rfl
 have dK12:=K1.out.cell (i:=2) rfl
 go_wp2_with fail
 with_reducible refine((vnSub Hm1'.out Hm2'.out Hm3'.out Pc1'.out Pc2'.out Pc3'.out Pa1'.out Pa2'.out Pa3'.out (by decide) (by decide) _ (HT.out.on HB15.out)).at).mono ?_
 rintro e W16 ⟨rfl,hb⟩
 clear dK30 dK31 dK32 dK10 dK11 dK12
 have K1:=hid (K1.out.below hb)
 have K2:=hid (K2.out.below hb)
 have K3:=hid (K3.out.below hb)
 have K4:=hid (K4.out.below hb)
 have K5:=hid (K5.out.below hb)
 have K6:=hid (K6.out.below hb)
 have K7:=hid (K7.out.below hb)
 have K8:=hid (K8.out.below hb)
 have K9:=hid (K9.out.below hb)
 have K10:=hid (K10.out.below hb)
 have K11:=hid (K11.out.below hb)
 have HB16:=hbt HB15 hb
 clear hb
 go_upto_region 15 with fail
 refine wp_boxes W16 [(#[.string (Sq m1),.string (Sq m2),.string (Sq m3)],24)] rfl ?_
 have L45:=K1.out.lt
 have L46:=K2.out.lt
 have L47:=K3.out.lt
 have L48:=K4.out.lt
 have L49:=K5.out.lt
 have L50:=K6.out.lt
 have L51:=K7.out.lt
 have L52:=K8.out.lt
 have L53:=K9.out.lt
 have L54:=K10.out.lt
 have L55:=K11.out.lt
 have L56:=HB16.out.size
 rintro W17 ⟨k12,hb⟩
 have hb:Below W16.heap.size W16 W17:=hb
 have K1:=hid (K1.out.below hb)
 have K2:=hid (K2.out.below hb)
 have K3:=hid (K3.out.below hb)
 have K4:=hid (K4.out.below hb)
 have K5:=hid (K5.out.below hb)
 have K6:=hid (K6.out.below hb)
 have K7:=hid (K7.out.below hb)
 have K8:=hid (K8.out.below hb)
 have K9:=hid (K9.out.below hb)
 have K10:=hid (K10.out.below hb)
 have K11:=hid (K11.out.below hb)
 have HB17:=hbt HB16 hb
 have K12:=hid k12
 clear k12 hb
 have dK40:=K4.out.cell (i:=0) rfl
 have dK41:=K4.out.cell (i:=1) rfl
 have dK42:=K4.out.cell (i:=2) rfl
 have dK10:=K1.out.cell (i:=0) rfl
 have dK11:=K1.out.cell (i:=1) rfl
 have dK12:=K1.out.cell (i:=2) rfl
 go_wp2_with fail
 with_reducible refine((vnSub Hu1'.out Hu2'.out Hu3'.out Pr1'.out Pr2'.out Pr3'.out Pa1'.out Pa2'.out Pa3'.out (by decide) (by decide) _ (HT.out.on HB17.out)).at).mono ?_
 rintro e W18 ⟨rfl,hb⟩
 clear dK40 dK41 dK42 dK10 dK11 dK12
 have K1:=hid (K1.out.below hb)
 have K2:=hid (K2.out.below hb)
 have K3:=hid (K3.out.below hb)
 have K4:=hid (K4.out.below hb)
 have K5:=hid (K5.out.below hb)
 have K6:=hid (K6.out.below hb)
 have K7:=hid (K7.out.below hb)
 have K8:=hid (K8.out.below hb)
 have K9:=hid (K9.out.below hb)
 have K10:=hid (K10.out.below hb)
 have K11:=hid (K11.out.below hb)
 have K12:=hid (K12.out.below hb)
 have HB18:=hbt HB17 hb
 clear hb
 go_upto_region 16 with fail
 refine wp_boxes W18 [(#[.string (Sq u1),.string (Sq u2),.string (Sq u3)],24)] rfl ?_
 have L57:=K1.out.lt
 have L58:=K2.out.lt
 have L59:=K3.out.lt
 have L60:=K4.out.lt
 have L61:=K5.out.lt
 have L62:=K6.out.lt
 have L63:=K7.out.lt
 have L64:=K8.out.lt
 have L65:=K9.out.lt
 have L66:=K10.out.lt
 have L67:=K11.out.lt
 have L68:=K12.out.lt
 have L69:=HB18.out.size
 rintro W19 ⟨k13,hb⟩
 have hb:Below W18.heap.size W18 W19:=hb
 have K1:=hid (K1.out.below hb)
 have K2:=hid (K2.out.below hb)
 have K3:=hid (K3.out.below hb)
 have K4:=hid (K4.out.below hb)
 have K5:=hid (K5.out.below hb)
 have K6:=hid (K6.out.below hb)
 have K7:=hid (K7.out.below hb)
 have K8:=hid (K8.out.below hb)
 have K9:=hid (K9.out.below hb)
 have K10:=hid (K10.out.below hb)
 have K11:=hid (K11.out.below hb)
 have K12:=hid (K12.out.below hb)
 have HB19:=hbt HB18 hb
 have K13:=hid k13
 clear k13 hb
 have dK130:=K13.out.cell (i:=0) rfl
 have dK131:=K13.out.cell (i:=1) rfl
 have dK132:=K13.out.cell (i:=2) rfl
 have dK110:=K11.out.cell (i:=0) rfl
 have dK111:=K11.out.cell (i:=1) rfl
 have dK112:=K11.out.cell (i:=2) rfl
 have dK120:=K12.out.cell (i:=0) rfl
 have dK121:=K12.out.cell (i:=1) rfl
 have dK122:=K12.out.cell (i:=2) rfl
 go_wp2_with fail
 with_reducible refine((vnDet Hn1'.out Hn2'.out Hn3'.out Hdd'.out Pl1'.out Pl2'.out Pl3'.out Pm1'.out Pm2'.out Pm3'.out Pu1'.out Pu2'.out Pu3'.out Pn1'.out Pn2'.out Pn3'.out (by decide) (by decide) (((Pu1'.out.mul Pn1'.out).add (Pu2'.out.mul Pn2'.out)).fit (by decide)) _ (HT.out.on HB19.out)).at).mono ?_
 rintro e W20 ⟨rfl,hb⟩
 clear dK130 dK131 dK132 dK110 dK111 dK112 dK120 dK121 dK122
 have K1:=hid (K1.out.below hb)
 have K2:=hid (K2.out.below hb)
 have K3:=hid (K3.out.below hb)
 have K4:=hid (K4.out.below hb)
 have K5:=hid (K5.out.below hb)
 have K6:=hid (K6.out.below hb)
 have K7:=hid (K7.out.below hb)
 have K8:=hid (K8.out.below hb)
 have K9:=hid (K9.out.below hb)
 have K10:=hid (K10.out.below hb)
 have K11:=hid (K11.out.below hb)
 have K12:=hid (K12.out.below hb)
 have K13:=hid (K13.out.below hb)
 have HB20:=hbt HB19 hb
 clear hb
 have dK60:=K6.out.cell (i:=0) rfl
 have dK61:=K6.out.cell (i:=1) rfl
 have dK62:=K6.out.cell (i:=2) rfl
 have dK63:=K6.out.cell (i:=3) rfl
 have dK40:=K4.out.cell (i:=0) rfl
 have dK41:=K4.out.cell (i:=1) rfl
 have dK42:=K4.out.cell (i:=2) rfl
 go_wp2_with fail
 with_reducible refine((nSide Hz'.out Hsd'.out EG.out EK.out Pn1'.out Pn2'.out Pn3'.out Pr1'.out Pr2'.out Pr3'.out (by decide) (((Pn1'.out.mul Pr1'.out).add (Pn2'.out.mul Pr2'.out)).fit (by decide)) (Psd'.out.fit (by decide)) (Pst'.out.fit (by decide)) (Pdd'.out.fit (by decide)) _ (HT.out.on HB20.out)).at).mono ?_
 rintro e W21 ⟨rfl,hb⟩
 clear dK60 dK61 dK62 dK63 dK40 dK41 dK42
 have K1:=hid (K1.out.below hb)
 have K2:=hid (K2.out.below hb)
 have K3:=hid (K3.out.below hb)
 have K4:=hid (K4.out.below hb)
 have K5:=hid (K5.out.below hb)
 have K6:=hid (K6.out.below hb)
 have K7:=hid (K7.out.below hb)
 have K8:=hid (K8.out.below hb)
 have K9:=hid (K9.out.below hb)
 have K10:=hid (K10.out.below hb)
 have K11:=hid (K11.out.below hb)
 have K12:=hid (K12.out.below hb)
 have K13:=hid (K13.out.below hb)
 have HB21:=hbt HB20 hb
 clear hb
 go_wp2_with fail
 with_reducible refine(qCompare0 dd (-1) EK.out (Pdd'.out.fit (by decide)) _ (HT.out.on HB21.out)).mono ?_
 rintro e W22 ⟨rfl,hb⟩
 have K1:=hid (K1.out.below hb)
 have K2:=hid (K2.out.below hb)
 have K3:=hid (K3.out.below hb)
 have K4:=hid (K4.out.below hb)
 have K5:=hid (K5.out.below hb)
 have K6:=hid (K6.out.below hb)
 have K7:=hid (K7.out.below hb)
 have K8:=hid (K8.out.below hb)
 have K9:=hid (K9.out.below hb)
 have K10:=hid (K10.out.below hb)
 have K11:=hid (K11.out.below hb)
 have K12:=hid (K12.out.below hb)
 have K13:=hid (K13.out.below hb)
 have HB22:=hbt HB21 hb
 clear hb
 have dK20:=K2.out.cell (i:=0) rfl
 have dK21:=K2.out.cell (i:=1) rfl
 have dK22:=K2.out.cell (i:=2) rfl
 have dK30:=K3.out.cell (i:=0) rfl
 have dK31:=K3.out.cell (i:=1) rfl
 have dK32:=K3.out.cell (i:=2) rfl
 have dK10:=K1.out.cell (i:=0) rfl
 have dK11:=K1.out.cell (i:=1) rfl
 have dK12:=K1.out.cell (i:=2) rfl
 go_wp2_with fail
 with_reducible refine((nThrough rfl rfl rfl rfl rfl rfl EN1.out EN2.out EN3.out Hz'.out EB.out Pb1'.out Pb2'.out Pb3'.out Pc1'.out Pc2'.out Pc3'.out Pa1'.out Pa2'.out Pa3'.out _ (HT.out.on HB22.out)).at).mono ?_
 rintro e W23 ⟨rfl,hb⟩
 clear dK20 dK21 dK22 dK30 dK31 dK32 dK10 dK11 dK12
 have K1:=hid (K1.out.below hb)
 have K2:=hid (K2.out.below hb)
 have K3:=hid (K3.out.below hb)
 have K4:=hid (K4.out.below hb)
 have K5:=hid (K5.out.below hb)
 have K6:=hid (K6.out.below hb)
 have K7:=hid (K7.out.below hb)
 have K8:=hid (K8.out.below hb)
 have K9:=hid (K9.out.below hb)
 have K10:=hid (K10.out.below hb)
 have K11:=hid (K11.out.below hb)
 have K12:=hid (K12.out.below hb)
 have K13:=hid (K13.out.below hb)
 have HB23:=hbt HB22 hb
 clear hb
 go_upto_region 20 with fail
 refine wp_boxes W23 [(#[.string (Sq n1),.string (Sq n2),.string (Sq n3),.string (Sq st)],28)] rfl ?_
 have L70:=K1.out.lt
 have L71:=K2.out.lt
 have L72:=K3.out.lt
 have L73:=K4.out.lt
 have L74:=K5.out.lt
 have L75:=K6.out.lt
 have L76:=K7.out.lt
 have L77:=K8.out.lt
 have L78:=K9.out.lt
 have L79:=K10.out.lt
 have L80:=K11.out.lt
 have L81:=K12.out.lt
 have L82:=K13.out.lt
 have L83:=HB23.out.size
 rintro W24 ⟨k14,hb⟩
 have hb:Below W23.heap.size W23 W24:=hb
 have K1:=hid (K1.out.below hb)
 have K2:=hid (K2.out.below hb)
 have K3:=hid (K3.out.below hb)
 have K4:=hid (K4.out.below hb)
 have K5:=hid (K5.out.below hb)
 have K6:=hid (K6.out.below hb)
 have K7:=hid (K7.out.below hb)
 have K8:=hid (K8.out.below hb)
 have K9:=hid (K9.out.below hb)
 have K10:=hid (K10.out.below hb)
 have K11:=hid (K11.out.below hb)
 have K12:=hid (K12.out.below hb)
 have K13:=hid (K13.out.below hb)
 have HB24:=hbt HB23 hb
 have K14:=hid k14
 clear k14 hb
 have dK20:=K2.out.cell (i:=0) rfl
 have dK21:=K2.out.cell (i:=1) rfl
 have dK22:=K2.out.cell (i:=2) rfl
 have dK10:=K1.out.cell (i:=0) rfl
 have dK11:=K1.out.cell (i:=1) rfl
 have dK12:=K1.out.cell (i:=2) rfl
 have dK30:=K3.out.cell (i:=0) rfl
 have dK31:=K3.out.cell (i:=1) rfl
 have dK32:=K3.out.cell (i:=2) rfl
 go_wp2_with fail
 with_reducible refine((nThrough rfl rfl rfl rfl rfl rfl Ho1'.out Ho2'.out Ho3'.out Hzo'.out Hsr'.out Pb1'.out Pb2'.out Pb3'.out Pa1'.out Pa2'.out Pa3'.out Pc1'.out Pc2'.out Pc3'.out _ (HT.out.on HB24.out)).at).mono ?_
 rintro e W25 ⟨rfl,hb⟩
 clear dK20 dK21 dK22 dK10 dK11 dK12 dK30 dK31 dK32
 have K1:=hid (K1.out.below hb)
 have K2:=hid (K2.out.below hb)
 have K3:=hid (K3.out.below hb)
 have K4:=hid (K4.out.below hb)
 have K5:=hid (K5.out.below hb)
 have K6:=hid (K6.out.below hb)
 have K7:=hid (K7.out.below hb)
 have K8:=hid (K8.out.below hb)
 have K9:=hid (K9.out.below hb)
 have K10:=hid (K10.out.below hb)
 have K11:=hid (K11.out.below hb)
 have K12:=hid (K12.out.below hb)
 have K13:=hid (K13.out.below hb)
 have K14:=hid (K14.out.below hb)
 have HB25:=hbt HB24 hb
 clear hb
 go_upto_region 21 with fail
 refine wp_boxes W25 [(#[.string (Sq o1),.string (Sq o2),.string (Sq o3),.string (Sq sr)],28)] rfl ?_
 have L84:=K1.out.lt
 have L85:=K2.out.lt
 have L86:=K3.out.lt
 have L87:=K4.out.lt
 have L88:=K5.out.lt
 have L89:=K6.out.lt
 have L90:=K7.out.lt
 have L91:=K8.out.lt
 have L92:=K9.out.lt
 have L93:=K10.out.lt
 have L94:=K11.out.lt
 have L95:=K12.out.lt
 have L96:=K13.out.lt
 have L97:=K14.out.lt
 have L98:=HB25.out.size
 rintro W26 ⟨k15,hb⟩
 have hb:Below W25.heap.size W25 W26:=hb
 have K4:=hid (K4.out.below hb)
 have K6:=hid (K6.out.below hb)
 have K14:=hid (K14.out.below hb)
 have HB26:=hbt HB25 hb
 have K15:=hid k15
 clear k15 hb
 have dK150:=K15.out.cell (i:=0) rfl
 have dK151:=K15.out.cell (i:=1) rfl
 have dK152:=K15.out.cell (i:=2) rfl
 have dK153:=K15.out.cell (i:=3) rfl
 have dK40:=K4.out.cell (i:=0) rfl
 have dK41:=K4.out.cell (i:=1) rfl
 have dK42:=K4.out.cell (i:=2) rfl
 go_wp2_with fail
 with_reducible refine((nSide Hzo'.out Hsq'.out Hdr'.out EL.out Po1'.out Po2'.out Po3'.out Pr1'.out Pr2'.out Pr3'.out (by decide) (((Po1'.out.mul Pr1'.out).add (Po2'.out.mul Pr2'.out)).fit (by decide)) (Psq'.out.fit (by decide)) (Psr'.out.fit (by decide)) (Pdr'.out.fit (by decide)) _ (HT.out.on HB26.out)).at).mono ?_
 rintro e W27 ⟨rfl,hb⟩
 clear dK150 dK151 dK152 dK153 dK40 dK41 dK42
 have K6:=hid (K6.out.below hb)
 have K14:=hid (K14.out.below hb)
 have HB27:=hbt HB26 hb
 clear hb
 have dK140:=K14.out.cell (i:=0) rfl
 have dK141:=K14.out.cell (i:=1) rfl
 have dK142:=K14.out.cell (i:=2) rfl
 have dK143:=K14.out.cell (i:=3) rfl
 have dK60:=K6.out.cell (i:=0) rfl
 have dK61:=K6.out.cell (i:=1) rfl
 have dK62:=K6.out.cell (i:=2) rfl
 have dK63:=K6.out.cell (i:=3) rfl
 go_wp2
 exact bodyPost_ret (v:=.bool true) (by simp[results,Tryz.results5,go_sem]) rfl ⟨rfl,HB27.out⟩
theorem vthr_yes0 (a1 a2 a3 b1 b2 b3 c1 c2 c3 r1 r2 r3:Rat)(pa1:SmQ 20 a1)(pa2:SmQ 20 a2)(pa3:SmQ 20 a3)(pb1:SmQ 20 b1)(pb2:SmQ 20 b2)(pb3:SmQ 20 b3)(pc1:SmQ 20 c1)(pc2:SmQ 20 c2)(pc3:SmQ 20 c3)(pr1:SmQ 20 r1)(pr2:SmQ 20 r2)(pr3:SmQ 20 r3)(w₀:World)  (hla:La w₀)(fw:decide ((Sq a1).size≤20∧(Sq a2).size≤20∧(Sq a3).size≤20∧(Sq b1).size≤20∧(Sq b2).size≤20∧(Sq b3).size≤20∧(Sq c1).size≤20∧(Sq c2).size≤20∧(Sq c3).size≤20∧(Sq r1).size≤20∧(Sq r2).size≤20∧(Sq r3).size≤20)=true)(hzz:¬ (((b2-a2)*(c3-a3)-(b3-a3)*(c2-a2))=0∧((b3-a3)*(c1-a1)-(b1-a1)*(c3-a3))=0∧((b1-a1)*(c2-a2)-(b2-a2)*(c1-a1))=0))(hkk:cmpQ ((r1-a1)*((b2-a2)*(c3-a3)-(b3-a3)*(c2-a2))+(r2-a2)*((b3-a3)*(c1-a1)-(b1-a1)*(c3-a3))+(r3-a3)*((b1-a1)*(c2-a2)-(b2-a2)*(c1-a1))) 0=0) :
 CV w₀ 5 #[.agg #[.string (Sq a1),.string (Sq a2),.string (Sq a3)],.agg #[.string (Sq b1),.string (Sq b2),.string (Sq b3)],.agg #[.string (Sq c1),.string (Sq c2),.string (Sq c3)],.agg #[.string (Sq r1),.string (Sq r2),.string (Sq r3)]] (.bool true):=by
 intro w hw
 have HT:=hid (hla.on hw)
 have FW:=hid fw
 obtain⟨l1,hl1⟩:∃ z,b1-a1=z:=⟨_,rfl⟩
 have pl1:SmQ 41 l1:=hl1▸(pb1.sub pa1)
 obtain⟨l2,hl2⟩:∃ z,b2-a2=z:=⟨_,rfl⟩
 have pl2:SmQ 41 l2:=hl2▸(pb2.sub pa2)
 obtain⟨l3,hl3⟩:∃ z,b3-a3=z:=⟨_,rfl⟩
 have pl3:SmQ 41 l3:=hl3▸(pb3.sub pa3)
 obtain⟨m1,hm1⟩:∃ z,c1-a1=z:=⟨_,rfl⟩
 have pm1:SmQ 41 m1:=hm1▸(pc1.sub pa1)
 obtain⟨m2,hm2⟩:∃ z,c2-a2=z:=⟨_,rfl⟩
 have pm2:SmQ 41 m2:=hm2▸(pc2.sub pa2)
 obtain⟨m3,hm3⟩:∃ z,c3-a3=z:=⟨_,rfl⟩
 have pm3:SmQ 41 m3:=hm3▸(pc3.sub pa3)
 obtain⟨u1,hu1⟩:∃ z,r1-a1=z:=⟨_,rfl⟩
 have pu1:SmQ 41 u1:=hu1▸(pr1.sub pa1)
 obtain⟨u2,hu2⟩:∃ z,r2-a2=z:=⟨_,rfl⟩
 have pu2:SmQ 41 u2:=hu2▸(pr2.sub pa2)
 obtain⟨u3,hu3⟩:∃ z,r3-a3=z:=⟨_,rfl⟩
 have pu3:SmQ 41 u3:=hu3▸(pr3.sub pa3)
 obtain⟨n1,hn1⟩:∃ z,l2*m3-l3*m2=z:=⟨_,rfl⟩
 have pn1:SmQ 165 n1:=hn1▸((pl2.mul pm3).sub (pl3.mul pm2))
 obtain⟨n2,hn2⟩:∃ z,l3*m1-l1*m3=z:=⟨_,rfl⟩
 have pn2:SmQ 165 n2:=hn2▸((pl3.mul pm1).sub (pl1.mul pm3))
 obtain⟨n3,hn3⟩:∃ z,l1*m2-l2*m1=z:=⟨_,rfl⟩
 have pn3:SmQ 165 n3:=hn3▸((pl1.mul pm2).sub (pl2.mul pm1))
 have hz:¬ (n1=0∧n2=0∧n3=0):=by rw[← hn1,← hn2,← hn3,← hl1,← hl2,← hl3,← hm1,← hm2,← hm3];exact hzz
 obtain⟨st,hst⟩:∃ z,n1*a1+n2*a2+n3*a3=z:=⟨_,rfl⟩
 have pst:SmQ 557 st:=hst▸(((pn1.mul pa1).add (pn2.mul pa2)).add (pn3.mul pa3))
 have EB:=hid (show n1*b1+n2*b2+n3*b3=st from by rw[← hst,← hn1,← hn2,← hn3,← hl1,← hl2,← hl3,← hm1,← hm2,← hm3];grind)
 have EC:=hid (show n1*c1+n2*c2+n3*c3=st from by rw[← hst,← hn1,← hn2,← hn3,← hl1,← hl2,← hl3,← hm1,← hm2,← hm3];grind)
 obtain⟨dd,hdd⟩:∃ z,u1*n1+u2*n2+u3*n3=z:=⟨_,rfl⟩
 have pdd:SmQ 620 dd:=hdd▸(((pu1.mul pn1).add (pu2.mul pn2)).add (pu3.mul pn3))
 obtain⟨sd,hsd⟩:∃ z,n1*r1+n2*r2+n3*r3=z:=⟨_,rfl⟩
 have psd:SmQ 557 sd:=hsd▸(((pn1.mul pr1).add (pn2.mul pr2)).add (pn3.mul pr3))
 have EG:=hid (show sd-st=dd from by rw[← hsd,← hst,← hdd,← hu1,← hu2,← hu3];grind)
 have EK:=hid (show cmpQ dd 0=0 from by rw[← hdd,← hu1,← hu2,← hu3,← hn1,← hn2,← hn3,← hl1,← hl2,← hl3,← hm1,← hm2,← hm3];exact hkk)
 have EN1:=hid (show(c2-b2)*(a3-b3)-(c3-b3)*(a2-b2)=n1 from by rw[← hn1,← hl2,← hl3,← hm2,← hm3];grind)
 have EN2:=hid (show(c3-b3)*(a1-b1)-(c1-b1)*(a3-b3)=n2 from by rw[← hn2,← hl3,← hl1,← hm3,← hm1];grind)
 have EN3:=hid (show(c1-b1)*(a2-b2)-(c2-b2)*(a1-b1)=n3 from by rw[← hn3,← hl1,← hl2,← hm1,← hm2];grind)
 obtain⟨o1,ho1⟩:∃ z,(a2-b2)*(c3-b3)-(a3-b3)*(c2-b2)=z:=⟨_,rfl⟩
 have po1:SmQ 165 o1:=ho1▸(((pa2.sub pb2).mul (pc3.sub pb3)).sub ((pa3.sub pb3).mul (pc2.sub pb2)))
 obtain⟨o2,ho2⟩:∃ z,(a3-b3)*(c1-b1)-(a1-b1)*(c3-b3)=z:=⟨_,rfl⟩
 have po2:SmQ 165 o2:=ho2▸(((pa3.sub pb3).mul (pc1.sub pb1)).sub ((pa1.sub pb1).mul (pc3.sub pb3)))
 obtain⟨o3,ho3⟩:∃ z,(a1-b1)*(c2-b2)-(a2-b2)*(c1-b1)=z:=⟨_,rfl⟩
 have po3:SmQ 165 o3:=ho3▸(((pa1.sub pb1).mul (pc2.sub pb2)).sub ((pa2.sub pb2).mul (pc1.sub pb1)))
 have ho1n:o1 = -n1:=by rw[← ho1,← hn1,← hl2,← hl3,← hm2,← hm3];grind
 have ho2n:o2 = -n2:=by rw[← ho2,← hn2,← hl3,← hl1,← hm3,← hm1];grind
 have ho3n:o3 = -n3:=by rw[← ho3,← hn3,← hl1,← hl2,← hm1,← hm2];grind
 have hzo:¬ (o1=0∧o2=0∧o3=0):=by
  rintro⟨g1,g2,g3⟩
  exact hz ⟨by grind,by grind,by grind⟩
 obtain⟨sr,hsr⟩:∃ z,o1*b1+o2*b2+o3*b3=z:=⟨_,rfl⟩
 have psr:SmQ 557 sr:=hsr▸(((po1.mul pb1).add (po2.mul pb2)).add (po3.mul pb3))
 obtain⟨sq,hsq⟩:∃ z,o1*r1+o2*r2+o3*r3=z:=⟨_,rfl⟩
 have psq:SmQ 557 sq:=hsq▸(((po1.mul pr1).add (po2.mul pr2)).add (po3.mul pr3))
 obtain⟨dr,hdr⟩:∃ z,sq-sr=z:=⟨_,rfl⟩
 have hdr2:dr = -dd:=by
  have eb:=EB.out
  have eg:=EG.out
  rw[← hdr,← hsq,← hsr,ho1n,ho2n,ho3n]
  grind
 have pdr:SmQ 620 dr:=hdr2▸pdd.neg
 have EL:=hid (show cmpQ dr 0=0 from by
  have h1:=EK.out
  have h2:cmpQ (-dd) 0 = -cmpQ dd 0:=cmpQ_neg0 dd
  rw[hdr2,h2,h1];rfl)
 have Pa1':=hid pa1
 have Pa2':=hid pa2
 have Pa3':=hid pa3
 have Pb1':=hid pb1
 have Pb2':=hid pb2
 have Pb3':=hid pb3
 have Pc1':=hid pc1
 have Pc2':=hid pc2
 have Pc3':=hid pc3
 have Pr1':=hid pr1
 have Pr2':=hid pr2
 have Pr3':=hid pr3
 have Hl1':=hid hl1
 have Pl1':=hid pl1
 have Hl2':=hid hl2
 have Pl2':=hid pl2
 have Hl3':=hid hl3
 have Pl3':=hid pl3
 have Hm1':=hid hm1
 have Pm1':=hid pm1
 have Hm2':=hid hm2
 have Pm2':=hid pm2
 have Hm3':=hid hm3
 have Pm3':=hid pm3
 have Hu1':=hid hu1
 have Pu1':=hid pu1
 have Hu2':=hid hu2
 have Pu2':=hid pu2
 have Hu3':=hid hu3
 have Pu3':=hid pu3
 have Hn1':=hid hn1
 have Pn1':=hid pn1
 have Hn2':=hid hn2
 have Pn2':=hid pn2
 have Hn3':=hid hn3
 have Pn3':=hid pn3
 have Hz':=hid hz
 have Hst':=hid hst
 have Pst':=hid pst
 have Hdd':=hid hdd
 have Pdd':=hid pdd
 have Hsd':=hid hsd
 have Psd':=hid psd
 have Ho1':=hid ho1
 have Po1':=hid po1
 have Ho2':=hid ho2
 have Po2':=hid po2
 have Ho3':=hid ho3
 have Po3':=hid po3
 have Ho1n':=hid ho1n
 have Ho2n':=hid ho2n
 have Ho3n':=hid ho3n
 have Hzo':=hid hzo
 have Hsr':=hid hsr
 have Psr':=hid psr
 have Hsq':=hid hsq
 have Psq':=hid psq
 have Hdr':=hid hdr
 have Hdr2':=hid hdr2
 have Pdr':=hid pdr
 clear pdr hdr2 hdr psq hsq psr hsr hzo ho3n ho2n ho1n po3 ho3 po2 ho2 po1 ho1 hkk psd hsd pdd hdd pst hst hzz hz pn3 hn3 pn2 hn2 pn1 hn1 pu3 hu3 pu2 hu2 pu1 hu1 pm3 hm3 pm2 hm2 pm1 hm1 pl3 hl3 pl2 hl2 pl1 hl1 fw pr3 pr2 pr1 pc3 pc2 pc1 pb3 pb2 pb1 pa3 pa2 pa1 hla hw
 go_enter Tryz.func5,Tryz.ntmps5
 go_upto_region 1 with fail
 refine wp_boxes w [(#[.string (Sq a1),.string (Sq a2),.string (Sq a3)],24),(#[.string (Sq b1),.string (Sq b2),.string (Sq b3)],24),(#[.string (Sq c1),.string (Sq c2),.string (Sq c3)],24),(#[.string (Sq r1),.string (Sq r2),.string (Sq r3)],24)] rfl ?_
 rintro W0 ⟨k1,k2,k3,k4,hb⟩
 have HB0:=hid (show Below w.heap.size w W0 from hb)
 have K1:=hid k1
 have K2:=hid k2
 have K3:=hid k3
 have K4:=hid k4
 clear k1 k2 k3 k4 hb
 go_wp2_with fail
 with_reducible refine((vec_awake _ (HT.out.on HB0.out)).at).mono ?_
 rintro e W1 ⟨rfl,hb⟩
 have K1:=hid (K1.out.below hb)
 have K2:=hid (K2.out.below hb)
 have K3:=hid (K3.out.below hb)
 have K4:=hid (K4.out.below hb)
 have HB1:=hbt HB0 hb
 clear hb
 have dK10:=K1.out.cell (i:=0) rfl
 have dK11:=K1.out.cell (i:=1) rfl
 have dK12:=K1.out.cell (i:=2) rfl
 have dK20:=K2.out.cell (i:=0) rfl
 have dK21:=K2.out.cell (i:=1) rfl
 have dK22:=K2.out.cell (i:=2) rfl
 have dK30:=K3.out.cell (i:=0) rfl
 have dK31:=K3.out.cell (i:=1) rfl
 have dK32:=K3.out.cell (i:=2) rfl
 have dK40:=K4.out.cell (i:=0) rfl
 have dK41:=K4.out.cell (i:=1) rfl
 have dK42:=K4.out.cell (i:=2) rfl
 go_wp2_with fail
 have hb:=below_new W1 (.cells #[.string (Sq a1),.string (Sq a2),.string (Sq a3),.string (Sq b1),.string (Sq b2),.string (Sq b3),.string (Sq c1),.string (Sq c2),.string (Sq c3),.string (Sq r1),.string (Sq r2),.string (Sq r3)] 24)
 have k5:=SBk.new W1 #[.string (Sq a1),.string (Sq a2),.string (Sq a3),.string (Sq b1),.string (Sq b2),.string (Sq b3),.string (Sq c1),.string (Sq c2),.string (Sq c3),.string (Sq r1),.string (Sq r2),.string (Sq r3)] 24
 generalize W1.alloc (.cells #[.string (Sq a1),.string (Sq a2),.string (Sq a3),.string (Sq b1),.string (Sq b2),.string (Sq b3),.string (Sq c1),.string (Sq c2),.string (Sq c3),.string (Sq r1),.string (Sq r2),.string (Sq r3)] 24)=W2 at *
 have K1:=hid (K1.out.below hb)
 have K2:=hid (K2.out.below hb)
 have K3:=hid (K3.out.below hb)
 have K4:=hid (K4.out.below hb)
 have HB2:=hbt HB1 hb
 have K5:=hid k5
 clear k5 hb
 with_reducible refine((few_plain _ _ _ (few_list4 _ (Sq a1) (Sq a2) (Sq a3) (Sq b1) (Sq b2) (Sq b3) (Sq c1) (Sq c2) (Sq c3) (Sq r1) (Sq r2) (Sq r3) true FW.out _ K5.out)).at).mono ?_
 rintro e W3 ⟨rfl,hb⟩
 clear dK10 dK11 dK12 dK20 dK21 dK22 dK30 dK31 dK32 dK40 dK41 dK42
 have K1:=hid (K1.out.below hb)
 have K2:=hid (K2.out.below hb)
 have K3:=hid (K3.out.below hb)
 have K4:=hid (K4.out.below hb)
 have K5:=hid (K5.out.below hb)
 have HB3:=hbt HB2 hb
 clear hb
 have dK40:=K4.out.cell (i:=0) rfl
 have dK41:=K4.out.cell (i:=1) rfl
 have dK42:=K4.out.cell (i:=2) rfl
 go_wp2_with fail
 with_reducible refine((vnValid (Pr1'.out.fit (by decide)) (Pr2'.out.fit (by decide)) (Pr3'.out.fit (by decide)) _ (HT.out.on HB3.out)).at).mono ?_
 rintro e W4 ⟨rfl,hb⟩
 clear dK40 dK41 dK42
 have K1:=hid (K1.out.below hb)
 have K2:=hid (K2.out.below hb)
 have K3:=hid (K3.out.below hb)
 have K4:=hid (K4.out.below hb)
 have K5:=hid (K5.out.below hb)
 have HB4:=hbt HB3 hb
 clear hb
 have dK10:=K1.out.cell (i:=0) rfl
 have dK11:=K1.out.cell (i:=1) rfl
 have dK12:=K1.out.cell (i:=2) rfl
 have dK20:=K2.out.cell (i:=0) rfl
 have dK21:=K2.out.cell (i:=1) rfl
 have dK22:=K2.out.cell (i:=2) rfl
 have dK30:=K3.out.cell (i:=0) rfl
 have dK31:=K3.out.cell (i:=1) rfl
 have dK32:=K3.out.cell (i:=2) rfl
 go_wp2_with fail
 with_reducible refine((nThrough Hl1'.out Hm1'.out Hl2'.out Hm2'.out Hl3'.out Hm3'.out Hn1'.out Hn2'.out Hn3'.out Hz'.out Hst'.out Pa1'.out Pa2'.out Pa3'.out Pb1'.out Pb2'.out Pb3'.out Pc1'.out Pc2'.out Pc3'.out _ (HT.out.on HB4.out)).at).mono ?_
 rintro e W5 ⟨rfl,hb⟩
 clear dK10 dK11 dK12 dK20 dK21 dK22 dK30 dK31 dK32
 have K1:=hid (K1.out.below hb)
 have K2:=hid (K2.out.below hb)
 have K3:=hid (K3.out.below hb)
 have K4:=hid (K4.out.below hb)
 have K5:=hid (K5.out.below hb)
 have HB5:=hbt HB4 hb
 clear hb
 go_upto_region 4 with fail
 refine wp_boxes W5 [(#[.string (Sq n1),.string (Sq n2),.string (Sq n3),.string (Sq st)],28)] rfl ?_
 have L1:=K1.out.lt
 have L2:=K2.out.lt
 have L3:=K3.out.lt
 have L4:=K4.out.lt
 have L5:=K5.out.lt
 have L6:=HB5.out.size
 rintro W6 ⟨k6,hb⟩
 have hb:Below W5.heap.size W5 W6:=hb
 have K1:=hid (K1.out.below hb)
 have K2:=hid (K2.out.below hb)
 have K3:=hid (K3.out.below hb)
 have K4:=hid (K4.out.below hb)
 have K5:=hid (K5.out.below hb)
 have HB6:=hbt HB5 hb
 have K6:=hid k6
 clear k6 hb
 have dK10:=K1.out.cell (i:=0) rfl
 have dK11:=K1.out.cell (i:=1) rfl
 have dK12:=K1.out.cell (i:=2) rfl
 have dK20:=K2.out.cell (i:=0) rfl
 have dK21:=K2.out.cell (i:=1) rfl
 have dK22:=K2.out.cell (i:=2) rfl
 have dK30:=K3.out.cell (i:=0) rfl
 have dK31:=K3.out.cell (i:=1) rfl
 have dK32:=K3.out.cell (i:=2) rfl
 go_wp2
 have hb:=below_new W6 (.cells #[.string (Sq a1),.string (Sq a2),.string (Sq a3),.string (Sq b1),.string (Sq b2),.string (Sq b3),.string (Sq c1),.string (Sq c2),.string (Sq c3)] 24)
 have k7:=SBk.new W6 #[.string (Sq a1),.string (Sq a2),.string (Sq a3),.string (Sq b1),.string (Sq b2),.string (Sq b3),.string (Sq c1),.string (Sq c2),.string (Sq c3)] 24
 generalize W6.alloc (.cells #[.string (Sq a1),.string (Sq a2),.string (Sq a3),.string (Sq b1),.string (Sq b2),.string (Sq b3),.string (Sq c1),.string (Sq c2),.string (Sq c3)] 24)=W7 at *
 have K1:=hid (K1.out.below hb)
 have K2:=hid (K2.out.below hb)
 have K3:=hid (K3.out.below hb)
 have K4:=hid (K4.out.below hb)
 have K5:=hid (K5.out.below hb)
 have K6:=hid (K6.out.below hb)
 have HB7:=hbt HB6 hb
 have K7:=hid k7
 clear k7 hb dK10 dK11 dK12 dK20 dK21 dK22 dK30 dK31 dK32
 refine wp_loop_rounds 4 ?_
 rw[rounds_succ]
 have dK70:=K7.out.cell (i:=0) rfl
 have dK71:=K7.out.cell (i:=1) rfl
 have dK72:=K7.out.cell (i:=2) rfl
 go_upto_region 9 with fail
 refine wp_boxes W7 [(#[.string (Sq a1),.string (Sq a2),.string (Sq a3)],24)] rfl ?_
 have L7:=K1.out.lt
 have L8:=K2.out.lt
 have L9:=K3.out.lt
 have L10:=K4.out.lt
 have L11:=K5.out.lt
 have L12:=K6.out.lt
 have L13:=K7.out.lt
 have L14:=HB7.out.size
 rintro W8 ⟨k8,hb⟩
 have hb:Below W7.heap.size W7 W8:=hb
 have K1:=hid (K1.out.below hb)
 have K2:=hid (K2.out.below hb)
 have K3:=hid (K3.out.below hb)
 have K4:=hid (K4.out.below hb)
 have K5:=hid (K5.out.below hb)
 have K6:=hid (K6.out.below hb)
 have K7:=hid (K7.out.below hb)
 have HB8:=hbt HB7 hb
 have K8:=hid k8
 clear k8 hb dK70 dK71 dK72
 have dK60:=K6.out.cell (i:=0) rfl
 have dK61:=K6.out.cell (i:=1) rfl
 have dK62:=K6.out.cell (i:=2) rfl
 have dK63:=K6.out.cell (i:=3) rfl
 have dK80:=K8.out.cell (i:=0) rfl
 have dK81:=K8.out.cell (i:=1) rfl
 have dK82:=K8.out.cell (i:=2) rfl
 go_wp2_with fail
 with_reducible refine((nSide Hz'.out Hst'.out (show st-st=0 from by grind) (show cmpQ (0:Rat) 0=0 from cmpQ_eq 0) Pn1'.out Pn2'.out Pn3'.out Pa1'.out Pa2'.out Pa3'.out (by decide) (((Pn1'.out.mul Pa1'.out).add (Pn2'.out.mul Pa2'.out)).fit (by decide)) (Pst'.out.fit (by decide)) (Pst'.out.fit (by decide)) fitq0 _ (HT.out.on HB8.out)).at).mono ?_
 rintro e W9 ⟨rfl,hb⟩
 clear dK60 dK61 dK62 dK63 dK80 dK81 dK82
 have K1:=hid (K1.out.below hb)
 have K2:=hid (K2.out.below hb)
 have K3:=hid (K3.out.below hb)
 have K4:=hid (K4.out.below hb)
 have K5:=hid (K5.out.below hb)
 have K6:=hid (K6.out.below hb)
 have K7:=hid (K7.out.below hb)
 have K8:=hid (K8.out.below hb)
 have HB9:=hbt HB8 hb
 clear hb
 go_wp2
 rw[rounds_succ]
 have dK73:=K7.out.cell (i:=3) rfl
 have dK74:=K7.out.cell (i:=4) rfl
 have dK75:=K7.out.cell (i:=5) rfl
 go_upto_region 9 with fail
 refine wp_boxes W9 [(#[.string (Sq b1),.string (Sq b2),.string (Sq b3)],24)] rfl ?_
 have L15:=K1.out.lt
 have L16:=K2.out.lt
 have L17:=K3.out.lt
 have L18:=K4.out.lt
 have L19:=K5.out.lt
 have L20:=K6.out.lt
 have L21:=K7.out.lt
 have L22:=K8.out.lt
 have L23:=HB9.out.size
 rintro W10 ⟨k9,hb⟩
 have hb:Below W9.heap.size W9 W10:=hb
 have K1:=hid (K1.out.below hb)
 have K2:=hid (K2.out.below hb)
 have K3:=hid (K3.out.below hb)
 have K4:=hid (K4.out.below hb)
 have K5:=hid (K5.out.below hb)
 have K6:=hid (K6.out.below hb)
 have K7:=hid (K7.out.below hb)
 have K8:=hid (K8.out.below hb)
 have HB10:=hbt HB9 hb
 have K9:=hid k9
 clear k9 hb dK73 dK74 dK75
 have dK60:=K6.out.cell (i:=0) rfl
 have dK61:=K6.out.cell (i:=1) rfl
 have dK62:=K6.out.cell (i:=2) rfl
 have dK63:=K6.out.cell (i:=3) rfl
 have dK90:=K9.out.cell (i:=0) rfl
 have dK91:=K9.out.cell (i:=1) rfl
 have dK92:=K9.out.cell (i:=2) rfl
 go_wp2_with fail
 with_reducible refine((nSide Hz'.out EB.out (show st-st=0 from by grind) (show cmpQ (0:Rat) 0=0 from cmpQ_eq 0) Pn1'.out Pn2'.out Pn3'.out Pb1'.out Pb2'.out Pb3'.out (by decide) (((Pn1'.out.mul Pb1'.out).add (Pn2'.out.mul Pb2'.out)).fit (by decide)) (Pst'.out.fit (by decide)) (Pst'.out.fit (by decide)) fitq0 _ (HT.out.on HB10.out)).at).mono ?_
 rintro e W11 ⟨rfl,hb⟩
 clear dK60 dK61 dK62 dK63 dK90 dK91 dK92
 have K1:=hid (K1.out.below hb)
 have K2:=hid (K2.out.below hb)
 have K3:=hid (K3.out.below hb)
 have K4:=hid (K4.out.below hb)
 have K5:=hid (K5.out.below hb)
 have K6:=hid (K6.out.below hb)
 have K7:=hid (K7.out.below hb)
 have K8:=hid (K8.out.below hb)
 have K9:=hid (K9.out.below hb)
 have HB11:=hbt HB10 hb
 clear hb
 go_wp2
 rw[rounds_succ]
 have dK76:=K7.out.cell (i:=6) rfl
 have dK77:=K7.out.cell (i:=7) rfl
 have dK78:=K7.out.cell (i:=8) rfl
 go_upto_region 9 with fail
 refine wp_boxes W11 [(#[.string (Sq c1),.string (Sq c2),.string (Sq c3)],24)] rfl ?_
 have L24:=K1.out.lt
 have L25:=K2.out.lt
 have L26:=K3.out.lt
 have L27:=K4.out.lt
 have L28:=K5.out.lt
 have L29:=K6.out.lt
 have L30:=K7.out.lt
 have L31:=K8.out.lt
 have L32:=K9.out.lt
 have L33:=HB11.out.size
 rintro W12 ⟨k10,hb⟩
 have hb:Below W11.heap.size W11 W12:=hb
 have K1:=hid (K1.out.below hb)
 have K2:=hid (K2.out.below hb)
 have K3:=hid (K3.out.below hb)
 have K4:=hid (K4.out.below hb)
 have K5:=hid (K5.out.below hb)
 have K6:=hid (K6.out.below hb)
 have K7:=hid (K7.out.below hb)
 have K8:=hid (K8.out.below hb)
 have K9:=hid (K9.out.below hb)
 have HB12:=hbt HB11 hb
 have K10:=hid k10
 clear k10 hb dK76 dK77 dK78
 have dK60:=K6.out.cell (i:=0) rfl
 have dK61:=K6.out.cell (i:=1) rfl
 have dK62:=K6.out.cell (i:=2) rfl
 have dK63:=K6.out.cell (i:=3) rfl
 have dK100:=K10.out.cell (i:=0) rfl
 have dK101:=K10.out.cell (i:=1) rfl
 have dK102:=K10.out.cell (i:=2) rfl
 go_wp2_with fail
 with_reducible refine((nSide Hz'.out EC.out (show st-st=0 from by grind) (show cmpQ (0:Rat) 0=0 from cmpQ_eq 0) Pn1'.out Pn2'.out Pn3'.out Pc1'.out Pc2'.out Pc3'.out (by decide) (((Pn1'.out.mul Pc1'.out).add (Pn2'.out.mul Pc2'.out)).fit (by decide)) (Pst'.out.fit (by decide)) (Pst'.out.fit (by decide)) fitq0 _ (HT.out.on HB12.out)).at).mono ?_
 rintro e W13 ⟨rfl,hb⟩
 clear dK60 dK61 dK62 dK63 dK100 dK101 dK102
 have K1:=hid (K1.out.below hb)
 have K2:=hid (K2.out.below hb)
 have K3:=hid (K3.out.below hb)
 have K4:=hid (K4.out.below hb)
 have K5:=hid (K5.out.below hb)
 have K6:=hid (K6.out.below hb)
 have K7:=hid (K7.out.below hb)
 have K8:=hid (K8.out.below hb)
 have K9:=hid (K9.out.below hb)
 have K10:=hid (K10.out.below hb)
 have HB13:=hbt HB12 hb
 clear hb
 go_wp2
 rw[rounds_succ]
 have dK20:=K2.out.cell (i:=0) rfl
 have dK21:=K2.out.cell (i:=1) rfl
 have dK22:=K2.out.cell (i:=2) rfl
 have dK10:=K1.out.cell (i:=0) rfl
 have dK11:=K1.out.cell (i:=1) rfl
 have dK12:=K1.out.cell (i:=2) rfl
 go_wp2_with fail
 with_reducible refine((vnSub Hl1'.out Hl2'.out Hl3'.out Pb1'.out Pb2'.out Pb3'.out Pa1'.out Pa2'.out Pa3'.out (by decide) (by decide) _ (HT.out.on HB13.out)).at).mono ?_
 rintro e W14 ⟨rfl,hb⟩
 clear dK20 dK21 dK22 dK10 dK11 dK12
 have K1:=hid (K1.out.below hb)
 have K2:=hid (K2.out.below hb)
 have K3:=hid (K3.out.below hb)
 have K4:=hid (K4.out.below hb)
 have K5:=hid (K5.out.below hb)
 have K6:=hid (K6.out.below hb)
 have K7:=hid (K7.out.below hb)
 have K8:=hid (K8.out.below hb)
 have K9:=hid (K9.out.below hb)
 have K10:=hid (K10.out.below hb)
 have HB14:=hbt HB13 hb
 clear hb
 go_upto_region 14 with fail
 refine wp_boxes W14 [(#[.string (Sq l1),.string (Sq l2),.string (Sq l3)],24)] rfl ?_
 have L34:=K1.out.lt
 have L35:=K2.out.lt
 have L36:=K3.out.lt
 have L37:=K4.out.lt
 have L38:=K5.out.lt
 have L39:=K6.out.lt
 have L40:=K7.out.lt
 have L41:=K8.out.lt
 have L42:=K9.out.lt
 have L43:=K10.out.lt
 have L44:=HB14.out.size
 rintro W15 ⟨k11,hb⟩
 have hb:Below W14.heap.size W14 W15:=hb
 have K1:=hid (K1.out.below hb)
 have K2:=hid (K2.out.below hb)
 have K3:=hid (K3.out.below hb)
 have K4:=hid (K4.out.below hb)
 have K5:=hid (K5.out.below hb)
 have K6:=hid (K6.out.below hb)
 have K7:=hid (K7.out.below hb)
 have K8:=hid (K8.out.below hb)
 have K9:=hid (K9.out.below hb)
 have K10:=hid (K10.out.below hb)
 have HB15:=hbt HB14 hb
 have K11:=hid k11
 clear k11 hb
 have dK30:=K3.out.cell (i:=0) rfl
 have dK31:=K3.out.cell (i:=1) rfl
 have dK32:=K3.out.cell (i:=2) rfl
 have dK10:=K1.out.cell (i:=0) rfl
 have dK11:=K1.out.cell (i:=1) rfl
 have dK12:=K1.out.cell (i:=2) rfl
 go_wp2_with fail
 with_reducible refine((vnSub Hm1'.out Hm2'.out Hm3'.out Pc1'.out Pc2'.out Pc3'.out Pa1'.out Pa2'.out Pa3'.out (by decide) (by decide) _ (HT.out.on HB15.out)).at).mono ?_
 rintro e W16 ⟨rfl,hb⟩
 clear dK30 dK31 dK32 dK10 dK11 dK12
 have K1:=hid (K1.out.below hb)
 have K2:=hid (K2.out.below hb)
 have K3:=hid (K3.out.below hb)
 have K4:=hid (K4.out.below hb)
 have K5:=hid (K5.out.below hb)
 have K6:=hid (K6.out.below hb)
 have K7:=hid (K7.out.below hb)
 have K8:=hid (K8.out.below hb)
 have K9:=hid (K9.out.below hb)
 have K10:=hid (K10.out.below hb)
 have K11:=hid (K11.out.below hb)
 have HB16:=hbt HB15 hb
 clear hb
 go_upto_region 15 with fail
 refine wp_boxes W16 [(#[.string (Sq m1),.string (Sq m2),.string (Sq m3)],24)] rfl ?_
 have L45:=K1.out.lt
 have L46:=K2.out.lt
 have L47:=K3.out.lt
 have L48:=K4.out.lt
 have L49:=K5.out.lt
 have L50:=K6.out.lt
 have L51:=K7.out.lt
 have L52:=K8.out.lt
 have L53:=K9.out.lt
 have L54:=K10.out.lt
 have L55:=K11.out.lt
 have L56:=HB16.out.size
 rintro W17 ⟨k12,hb⟩
 have hb:Below W16.heap.size W16 W17:=hb
 have K1:=hid (K1.out.below hb)
 have K2:=hid (K2.out.below hb)
 have K3:=hid (K3.out.below hb)
 have K4:=hid (K4.out.below hb)
 have K5:=hid (K5.out.below hb)
 have K6:=hid (K6.out.below hb)
 have K7:=hid (K7.out.below hb)
 have K8:=hid (K8.out.below hb)
 have K9:=hid (K9.out.below hb)
 have K10:=hid (K10.out.below hb)
 have K11:=hid (K11.out.below hb)
 have HB17:=hbt HB16 hb
 have K12:=hid k12
 clear k12 hb
 have dK40:=K4.out.cell (i:=0) rfl
 have dK41:=K4.out.cell (i:=1) rfl
 have dK42:=K4.out.cell (i:=2) rfl
 have dK10:=K1.out.cell (i:=0) rfl
 have dK11:=K1.out.cell (i:=1) rfl
 have dK12:=K1.out.cell (i:=2) rfl
 go_wp2_with fail
 with_reducible refine((vnSub Hu1'.out Hu2'.out Hu3'.out Pr1'.out Pr2'.out Pr3'.out Pa1'.out Pa2'.out Pa3'.out (by decide) (by decide) _ (HT.out.on HB17.out)).at).mono ?_
 rintro e W18 ⟨rfl,hb⟩
 clear dK40 dK41 dK42 dK10 dK11 dK12
 have K1:=hid (K1.out.below hb)
 have K2:=hid (K2.out.below hb)
 have K3:=hid (K3.out.below hb)
 have K4:=hid (K4.out.below hb)
 have K5:=hid (K5.out.below hb)
 have K6:=hid (K6.out.below hb)
 have K7:=hid (K7.out.below hb)
 have K8:=hid (K8.out.below hb)
 have K9:=hid (K9.out.below hb)
 have K10:=hid (K10.out.below hb)
 have K11:=hid (K11.out.below hb)
 have K12:=hid (K12.out.below hb)
 have HB18:=hbt HB17 hb
 clear hb
 go_upto_region 16 with fail
 refine wp_boxes W18 [(#[.string (Sq u1),.string (Sq u2),.string (Sq u3)],24)] rfl ?_
 have L57:=K1.out.lt
 have L58:=K2.out.lt
 have L59:=K3.out.lt
 have L60:=K4.out.lt
 have L61:=K5.out.lt
 have L62:=K6.out.lt
 have L63:=K7.out.lt
 have L64:=K8.out.lt
 have L65:=K9.out.lt
 have L66:=K10.out.lt
 have L67:=K11.out.lt
 have L68:=K12.out.lt
 have L69:=HB18.out.size
 rintro W19 ⟨k13,hb⟩
 have hb:Below W18.heap.size W18 W19:=hb
 have K1:=hid (K1.out.below hb)
 have K2:=hid (K2.out.below hb)
 have K3:=hid (K3.out.below hb)
 have K4:=hid (K4.out.below hb)
 have K5:=hid (K5.out.below hb)
 have K6:=hid (K6.out.below hb)
 have K7:=hid (K7.out.below hb)
 have K8:=hid (K8.out.below hb)
 have K9:=hid (K9.out.below hb)
 have K10:=hid (K10.out.below hb)
 have K11:=hid (K11.out.below hb)
 have K12:=hid (K12.out.below hb)
 have HB19:=hbt HB18 hb
 have K13:=hid k13
 clear k13 hb
 have dK130:=K13.out.cell (i:=0) rfl
 have dK131:=K13.out.cell (i:=1) rfl
 have dK132:=K13.out.cell (i:=2) rfl
 have dK110:=K11.out.cell (i:=0) rfl
 have dK111:=K11.out.cell (i:=1) rfl
 have dK112:=K11.out.cell (i:=2) rfl
 have dK120:=K12.out.cell (i:=0) rfl
 have dK121:=K12.out.cell (i:=1) rfl
 have dK122:=K12.out.cell (i:=2) rfl
 go_wp2_with fail
 with_reducible refine((vnDet Hn1'.out Hn2'.out Hn3'.out Hdd'.out Pl1'.out Pl2'.out Pl3'.out Pm1'.out Pm2'.out Pm3'.out Pu1'.out Pu2'.out Pu3'.out Pn1'.out Pn2'.out Pn3'.out (by decide) (by decide) (((Pu1'.out.mul Pn1'.out).add (Pu2'.out.mul Pn2'.out)).fit (by decide)) _ (HT.out.on HB19.out)).at).mono ?_
 rintro e W20 ⟨rfl,hb⟩
 clear dK130 dK131 dK132 dK110 dK111 dK112 dK120 dK121 dK122
 have K1:=hid (K1.out.below hb)
 have K2:=hid (K2.out.below hb)
 have K3:=hid (K3.out.below hb)
 have K4:=hid (K4.out.below hb)
 have K5:=hid (K5.out.below hb)
 have K6:=hid (K6.out.below hb)
 have K7:=hid (K7.out.below hb)
 have K8:=hid (K8.out.below hb)
 have K9:=hid (K9.out.below hb)
 have K10:=hid (K10.out.below hb)
 have K11:=hid (K11.out.below hb)
 have K12:=hid (K12.out.below hb)
 have K13:=hid (K13.out.below hb)
 have HB20:=hbt HB19 hb
 clear hb
 have dK60:=K6.out.cell (i:=0) rfl
 have dK61:=K6.out.cell (i:=1) rfl
 have dK62:=K6.out.cell (i:=2) rfl
 have dK63:=K6.out.cell (i:=3) rfl
 have dK40:=K4.out.cell (i:=0) rfl
 have dK41:=K4.out.cell (i:=1) rfl
 have dK42:=K4.out.cell (i:=2) rfl
 go_wp2_with fail
 with_reducible refine((nSide Hz'.out Hsd'.out EG.out EK.out Pn1'.out Pn2'.out Pn3'.out Pr1'.out Pr2'.out Pr3'.out (by decide) (((Pn1'.out.mul Pr1'.out).add (Pn2'.out.mul Pr2'.out)).fit (by decide)) (Psd'.out.fit (by decide)) (Pst'.out.fit (by decide)) (Pdd'.out.fit (by decide)) _ (HT.out.on HB20.out)).at).mono ?_
 rintro e W21 ⟨rfl,hb⟩
 clear dK60 dK61 dK62 dK63 dK40 dK41 dK42
 have K1:=hid (K1.out.below hb)
 have K2:=hid (K2.out.below hb)
 have K3:=hid (K3.out.below hb)
 have K4:=hid (K4.out.below hb)
 have K5:=hid (K5.out.below hb)
 have K6:=hid (K6.out.below hb)
 have K7:=hid (K7.out.below hb)
 have K8:=hid (K8.out.below hb)
 have K9:=hid (K9.out.below hb)
 have K10:=hid (K10.out.below hb)
 have K11:=hid (K11.out.below hb)
 have K12:=hid (K12.out.below hb)
 have K13:=hid (K13.out.below hb)
 have HB21:=hbt HB20 hb
 clear hb
 go_wp2_with fail
 with_reducible refine(qCompare0 dd 0 EK.out (Pdd'.out.fit (by decide)) _ (HT.out.on HB21.out)).mono ?_
 rintro e W22 ⟨rfl,hb⟩
 have K1:=hid (K1.out.below hb)
 have K2:=hid (K2.out.below hb)
 have K3:=hid (K3.out.below hb)
 have K4:=hid (K4.out.below hb)
 have K5:=hid (K5.out.below hb)
 have K6:=hid (K6.out.below hb)
 have K7:=hid (K7.out.below hb)
 have K8:=hid (K8.out.below hb)
 have K9:=hid (K9.out.below hb)
 have K10:=hid (K10.out.below hb)
 have K11:=hid (K11.out.below hb)
 have K12:=hid (K12.out.below hb)
 have K13:=hid (K13.out.below hb)
 have HB22:=hbt HB21 hb
 clear hb
 have dK20:=K2.out.cell (i:=0) rfl
 have dK21:=K2.out.cell (i:=1) rfl
 have dK22:=K2.out.cell (i:=2) rfl
 have dK30:=K3.out.cell (i:=0) rfl
 have dK31:=K3.out.cell (i:=1) rfl
 have dK32:=K3.out.cell (i:=2) rfl
 have dK10:=K1.out.cell (i:=0) rfl
 have dK11:=K1.out.cell (i:=1) rfl
 have dK12:=K1.out.cell (i:=2) rfl
 go_wp2_with fail
 with_reducible refine((nThrough rfl rfl rfl rfl rfl rfl EN1.out EN2.out EN3.out Hz'.out EB.out Pb1'.out Pb2'.out Pb3'.out Pc1'.out Pc2'.out Pc3'.out Pa1'.out Pa2'.out Pa3'.out _ (HT.out.on HB22.out)).at).mono ?_
 rintro e W23 ⟨rfl,hb⟩
 clear dK20 dK21 dK22 dK30 dK31 dK32 dK10 dK11 dK12
 have K1:=hid (K1.out.below hb)
 have K2:=hid (K2.out.below hb)
 have K3:=hid (K3.out.below hb)
 have K4:=hid (K4.out.below hb)
 have K5:=hid (K5.out.below hb)
 have K6:=hid (K6.out.below hb)
 have K7:=hid (K7.out.below hb)
 have K8:=hid (K8.out.below hb)
 have K9:=hid (K9.out.below hb)
 have K10:=hid (K10.out.below hb)
 have K11:=hid (K11.out.below hb)
 have K12:=hid (K12.out.below hb)
 have K13:=hid (K13.out.below hb)
 have HB23:=hbt HB22 hb
 clear hb
 go_upto_region 20 with fail
 refine wp_boxes W23 [(#[.string (Sq n1),.string (Sq n2),.string (Sq n3),.string (Sq st)],28)] rfl ?_
 have L70:=K1.out.lt
 have L71:=K2.out.lt
 have L72:=K3.out.lt
 have L73:=K4.out.lt
 have L74:=K5.out.lt
 have L75:=K6.out.lt
 have L76:=K7.out.lt
 have L77:=K8.out.lt
 have L78:=K9.out.lt
 have L79:=K10.out.lt
 have L80:=K11.out.lt
 have L81:=K12.out.lt
 have L82:=K13.out.lt
 have L83:=HB23.out.size
 rintro W24 ⟨k14,hb⟩
 have hb:Below W23.heap.size W23 W24:=hb
 have K1:=hid (K1.out.below hb)
 have K2:=hid (K2.out.below hb)
 have K3:=hid (K3.out.below hb)
 have K4:=hid (K4.out.below hb)
 have K5:=hid (K5.out.below hb)
 have K6:=hid (K6.out.below hb)
 have K7:=hid (K7.out.below hb)
 have K8:=hid (K8.out.below hb)
 have K9:=hid (K9.out.below hb)
 have K10:=hid (K10.out.below hb)
 have K11:=hid (K11.out.below hb)
 have K12:=hid (K12.out.below hb)
 have K13:=hid (K13.out.below hb)
 have HB24:=hbt HB23 hb
 have K14:=hid k14
 clear k14 hb
 have dK20:=K2.out.cell (i:=0) rfl
 have dK21:=K2.out.cell (i:=1) rfl
 have dK22:=K2.out.cell (i:=2) rfl
 have dK10:=K1.out.cell (i:=0) rfl
 have dK11:=K1.out.cell (i:=1) rfl
 have dK12:=K1.out.cell (i:=2) rfl
 have dK30:=K3.out.cell (i:=0) rfl
 have dK31:=K3.out.cell (i:=1) rfl
 have dK32:=K3.out.cell (i:=2) rfl
 go_wp2_with fail
 with_reducible refine((nThrough rfl rfl rfl rfl rfl rfl Ho1'.out Ho2'.out Ho3'.out Hzo'.out Hsr'.out Pb1'.out Pb2'.out Pb3'.out Pa1'.out Pa2'.out Pa3'.out Pc1'.out Pc2'.out Pc3'.out _ (HT.out.on HB24.out)).at).mono ?_
 rintro e W25 ⟨rfl,hb⟩
 clear dK20 dK21 dK22 dK10 dK11 dK12 dK30 dK31 dK32
 have K1:=hid (K1.out.below hb)
 have K2:=hid (K2.out.below hb)
 have K3:=hid (K3.out.below hb)
 have K4:=hid (K4.out.below hb)
 have K5:=hid (K5.out.below hb)
 have K6:=hid (K6.out.below hb)
 have K7:=hid (K7.out.below hb)
 have K8:=hid (K8.out.below hb)
 have K9:=hid (K9.out.below hb)
 have K10:=hid (K10.out.below hb)
 have K11:=hid (K11.out.below hb)
 have K12:=hid (K12.out.below hb)
 have K13:=hid (K13.out.below hb)
 have K14:=hid (K14.out.below hb)
 have HB25:=hbt HB24 hb
 clear hb
 go_upto_region 21 with fail
 refine wp_boxes W25 [(#[.string (Sq o1),.string (Sq o2),.string (Sq o3),.string (Sq sr)],28)] rfl ?_
 have L84:=K1.out.lt
 have L85:=K2.out.lt
 have L86:=K3.out.lt
 have L87:=K4.out.lt
 have L88:=K5.out.lt
 have L89:=K6.out.lt
 have L90:=K7.out.lt
 have L91:=K8.out.lt
 have L92:=K9.out.lt
 have L93:=K10.out.lt
 have L94:=K11.out.lt
 have L95:=K12.out.lt
 have L96:=K13.out.lt
 have L97:=K14.out.lt
 have L98:=HB25.out.size
 rintro W26 ⟨k15,hb⟩
 have hb:Below W25.heap.size W25 W26:=hb
 have K4:=hid (K4.out.below hb)
 have K6:=hid (K6.out.below hb)
 have K14:=hid (K14.out.below hb)
 have HB26:=hbt HB25 hb
 have K15:=hid k15
 clear k15 hb
 have dK150:=K15.out.cell (i:=0) rfl
 have dK151:=K15.out.cell (i:=1) rfl
 have dK152:=K15.out.cell (i:=2) rfl
 have dK153:=K15.out.cell (i:=3) rfl
 have dK40:=K4.out.cell (i:=0) rfl
 have dK41:=K4.out.cell (i:=1) rfl
 have dK42:=K4.out.cell (i:=2) rfl
 go_wp2_with fail
 with_reducible refine((nSide Hzo'.out Hsq'.out Hdr'.out EL.out Po1'.out Po2'.out Po3'.out Pr1'.out Pr2'.out Pr3'.out (by decide) (((Po1'.out.mul Pr1'.out).add (Po2'.out.mul Pr2'.out)).fit (by decide)) (Psq'.out.fit (by decide)) (Psr'.out.fit (by decide)) (Pdr'.out.fit (by decide)) _ (HT.out.on HB26.out)).at).mono ?_
 rintro e W27 ⟨rfl,hb⟩
 clear dK150 dK151 dK152 dK153 dK40 dK41 dK42
 have K6:=hid (K6.out.below hb)
 have K14:=hid (K14.out.below hb)
 have HB27:=hbt HB26 hb
 clear hb
 have dK140:=K14.out.cell (i:=0) rfl
 have dK141:=K14.out.cell (i:=1) rfl
 have dK142:=K14.out.cell (i:=2) rfl
 have dK143:=K14.out.cell (i:=3) rfl
 have dK60:=K6.out.cell (i:=0) rfl
 have dK61:=K6.out.cell (i:=1) rfl
 have dK62:=K6.out.cell (i:=2) rfl
 have dK63:=K6.out.cell (i:=3) rfl
 go_wp2
 exact bodyPost_ret (v:=.bool true) (by simp[results,Tryz.results5,go_sem]) rfl ⟨rfl,HB27.out⟩
theorem vthr_yes1 (a1 a2 a3 b1 b2 b3 c1 c2 c3 r1 r2 r3:Rat)(pa1:SmQ 20 a1)(pa2:SmQ 20 a2)(pa3:SmQ 20 a3)(pb1:SmQ 20 b1)(pb2:SmQ 20 b2)(pb3:SmQ 20 b3)(pc1:SmQ 20 c1)(pc2:SmQ 20 c2)(pc3:SmQ 20 c3)(pr1:SmQ 20 r1)(pr2:SmQ 20 r2)(pr3:SmQ 20 r3)(w₀:World)  (hla:La w₀)(fw:decide ((Sq a1).size≤20∧(Sq a2).size≤20∧(Sq a3).size≤20∧(Sq b1).size≤20∧(Sq b2).size≤20∧(Sq b3).size≤20∧(Sq c1).size≤20∧(Sq c2).size≤20∧(Sq c3).size≤20∧(Sq r1).size≤20∧(Sq r2).size≤20∧(Sq r3).size≤20)=true)(hzz:¬ (((b2-a2)*(c3-a3)-(b3-a3)*(c2-a2))=0∧((b3-a3)*(c1-a1)-(b1-a1)*(c3-a3))=0∧((b1-a1)*(c2-a2)-(b2-a2)*(c1-a1))=0))(hkk:cmpQ ((r1-a1)*((b2-a2)*(c3-a3)-(b3-a3)*(c2-a2))+(r2-a2)*((b3-a3)*(c1-a1)-(b1-a1)*(c3-a3))+(r3-a3)*((b1-a1)*(c2-a2)-(b2-a2)*(c1-a1))) 0=1) :
 CV w₀ 5 #[.agg #[.string (Sq a1),.string (Sq a2),.string (Sq a3)],.agg #[.string (Sq b1),.string (Sq b2),.string (Sq b3)],.agg #[.string (Sq c1),.string (Sq c2),.string (Sq c3)],.agg #[.string (Sq r1),.string (Sq r2),.string (Sq r3)]] (.bool true):=by
 intro w hw
 have HT:=hid (hla.on hw)
 have FW:=hid fw
 obtain⟨l1,hl1⟩:∃ z,b1-a1=z:=⟨_,rfl⟩
 have pl1:SmQ 41 l1:=hl1▸(pb1.sub pa1)
 obtain⟨l2,hl2⟩:∃ z,b2-a2=z:=⟨_,rfl⟩
 have pl2:SmQ 41 l2:=hl2▸(pb2.sub pa2)
 obtain⟨l3,hl3⟩:∃ z,b3-a3=z:=⟨_,rfl⟩
 have pl3:SmQ 41 l3:=hl3▸(pb3.sub pa3)
 obtain⟨m1,hm1⟩:∃ z,c1-a1=z:=⟨_,rfl⟩
 have pm1:SmQ 41 m1:=hm1▸(pc1.sub pa1)
 obtain⟨m2,hm2⟩:∃ z,c2-a2=z:=⟨_,rfl⟩
 have pm2:SmQ 41 m2:=hm2▸(pc2.sub pa2)
 obtain⟨m3,hm3⟩:∃ z,c3-a3=z:=⟨_,rfl⟩
 have pm3:SmQ 41 m3:=hm3▸(pc3.sub pa3)
 obtain⟨u1,hu1⟩:∃ z,r1-a1=z:=⟨_,rfl⟩
 have pu1:SmQ 41 u1:=hu1▸(pr1.sub pa1)
 obtain⟨u2,hu2⟩:∃ z,r2-a2=z:=⟨_,rfl⟩
 have pu2:SmQ 41 u2:=hu2▸(pr2.sub pa2)
 obtain⟨u3,hu3⟩:∃ z,r3-a3=z:=⟨_,rfl⟩
 have pu3:SmQ 41 u3:=hu3▸(pr3.sub pa3)
 obtain⟨n1,hn1⟩:∃ z,l2*m3-l3*m2=z:=⟨_,rfl⟩
 have pn1:SmQ 165 n1:=hn1▸((pl2.mul pm3).sub (pl3.mul pm2))
 obtain⟨n2,hn2⟩:∃ z,l3*m1-l1*m3=z:=⟨_,rfl⟩
 have pn2:SmQ 165 n2:=hn2▸((pl3.mul pm1).sub (pl1.mul pm3))
 obtain⟨n3,hn3⟩:∃ z,l1*m2-l2*m1=z:=⟨_,rfl⟩
 have pn3:SmQ 165 n3:=hn3▸((pl1.mul pm2).sub (pl2.mul pm1))
 have hz:¬ (n1=0∧n2=0∧n3=0):=by rw[← hn1,← hn2,← hn3,← hl1,← hl2,← hl3,← hm1,← hm2,← hm3];exact hzz
 obtain⟨st,hst⟩:∃ z,n1*a1+n2*a2+n3*a3=z:=⟨_,rfl⟩
 have pst:SmQ 557 st:=hst▸(((pn1.mul pa1).add (pn2.mul pa2)).add (pn3.mul pa3))
 have EB:=hid (show n1*b1+n2*b2+n3*b3=st from by rw[← hst,← hn1,← hn2,← hn3,← hl1,← hl2,← hl3,← hm1,← hm2,← hm3];grind)
 have EC:=hid (show n1*c1+n2*c2+n3*c3=st from by rw[← hst,← hn1,← hn2,← hn3,← hl1,← hl2,← hl3,← hm1,← hm2,← hm3];grind)
 obtain⟨dd,hdd⟩:∃ z,u1*n1+u2*n2+u3*n3=z:=⟨_,rfl⟩
 have pdd:SmQ 620 dd:=hdd▸(((pu1.mul pn1).add (pu2.mul pn2)).add (pu3.mul pn3))
 obtain⟨sd,hsd⟩:∃ z,n1*r1+n2*r2+n3*r3=z:=⟨_,rfl⟩
 have psd:SmQ 557 sd:=hsd▸(((pn1.mul pr1).add (pn2.mul pr2)).add (pn3.mul pr3))
 have EG:=hid (show sd-st=dd from by rw[← hsd,← hst,← hdd,← hu1,← hu2,← hu3];grind)
 have EK:=hid (show cmpQ dd 0=1 from by rw[← hdd,← hu1,← hu2,← hu3,← hn1,← hn2,← hn3,← hl1,← hl2,← hl3,← hm1,← hm2,← hm3];exact hkk)
 have EN1:=hid (show(c2-b2)*(a3-b3)-(c3-b3)*(a2-b2)=n1 from by rw[← hn1,← hl2,← hl3,← hm2,← hm3];grind)
 have EN2:=hid (show(c3-b3)*(a1-b1)-(c1-b1)*(a3-b3)=n2 from by rw[← hn2,← hl3,← hl1,← hm3,← hm1];grind)
 have EN3:=hid (show(c1-b1)*(a2-b2)-(c2-b2)*(a1-b1)=n3 from by rw[← hn3,← hl1,← hl2,← hm1,← hm2];grind)
 obtain⟨o1,ho1⟩:∃ z,(a2-b2)*(c3-b3)-(a3-b3)*(c2-b2)=z:=⟨_,rfl⟩
 have po1:SmQ 165 o1:=ho1▸(((pa2.sub pb2).mul (pc3.sub pb3)).sub ((pa3.sub pb3).mul (pc2.sub pb2)))
 obtain⟨o2,ho2⟩:∃ z,(a3-b3)*(c1-b1)-(a1-b1)*(c3-b3)=z:=⟨_,rfl⟩
 have po2:SmQ 165 o2:=ho2▸(((pa3.sub pb3).mul (pc1.sub pb1)).sub ((pa1.sub pb1).mul (pc3.sub pb3)))
 obtain⟨o3,ho3⟩:∃ z,(a1-b1)*(c2-b2)-(a2-b2)*(c1-b1)=z:=⟨_,rfl⟩
 have po3:SmQ 165 o3:=ho3▸(((pa1.sub pb1).mul (pc2.sub pb2)).sub ((pa2.sub pb2).mul (pc1.sub pb1)))
 have ho1n:o1 = -n1:=by rw[← ho1,← hn1,← hl2,← hl3,← hm2,← hm3];grind
 have ho2n:o2 = -n2:=by rw[← ho2,← hn2,← hl3,← hl1,← hm3,← hm1];grind
 have ho3n:o3 = -n3:=by rw[← ho3,← hn3,← hl1,← hl2,← hm1,← hm2];grind
 have hzo:¬ (o1=0∧o2=0∧o3=0):=by
  rintro⟨g1,g2,g3⟩
  exact hz ⟨by grind,by grind,by grind⟩
 obtain⟨sr,hsr⟩:∃ z,o1*b1+o2*b2+o3*b3=z:=⟨_,rfl⟩
 have psr:SmQ 557 sr:=hsr▸(((po1.mul pb1).add (po2.mul pb2)).add (po3.mul pb3))
 obtain⟨sq,hsq⟩:∃ z,o1*r1+o2*r2+o3*r3=z:=⟨_,rfl⟩
 have psq:SmQ 557 sq:=hsq▸(((po1.mul pr1).add (po2.mul pr2)).add (po3.mul pr3))
 obtain⟨dr,hdr⟩:∃ z,sq-sr=z:=⟨_,rfl⟩
 have hdr2:dr = -dd:=by
  have eb:=EB.out
  have eg:=EG.out
  rw[← hdr,← hsq,← hsr,ho1n,ho2n,ho3n]
  grind
 have pdr:SmQ 620 dr:=hdr2▸pdd.neg
 have EL:=hid (show cmpQ dr 0 = -1 from by
  have h1:=EK.out
  have h2:cmpQ (-dd) 0 = -cmpQ dd 0:=cmpQ_neg0 dd
  rw[hdr2,h2,h1])
 have Pa1':=hid pa1
 have Pa2':=hid pa2
 have Pa3':=hid pa3
 have Pb1':=hid pb1
 have Pb2':=hid pb2
 have Pb3':=hid pb3
 have Pc1':=hid pc1
 have Pc2':=hid pc2
 have Pc3':=hid pc3
 have Pr1':=hid pr1
 have Pr2':=hid pr2
 have Pr3':=hid pr3
 have Hl1':=hid hl1
 have Pl1':=hid pl1
 have Hl2':=hid hl2
 have Pl2':=hid pl2
 have Hl3':=hid hl3
 have Pl3':=hid pl3
 have Hm1':=hid hm1
 have Pm1':=hid pm1
 have Hm2':=hid hm2
 have Pm2':=hid pm2
 have Hm3':=hid hm3
 have Pm3':=hid pm3
 have Hu1':=hid hu1
 have Pu1':=hid pu1
 have Hu2':=hid hu2
 have Pu2':=hid pu2
 have Hu3':=hid hu3
 have Pu3':=hid pu3
 have Hn1':=hid hn1
 have Pn1':=hid pn1
 have Hn2':=hid hn2
 have Pn2':=hid pn2
 have Hn3':=hid hn3
 have Pn3':=hid pn3
 have Hz':=hid hz
 have Hst':=hid hst
 have Pst':=hid pst
 have Hdd':=hid hdd
 have Pdd':=hid pdd
 have Hsd':=hid hsd
 have Psd':=hid psd
 have Ho1':=hid ho1
 have Po1':=hid po1
 have Ho2':=hid ho2
 have Po2':=hid po2
 have Ho3':=hid ho3
 have Po3':=hid po3
 have Ho1n':=hid ho1n
 have Ho2n':=hid ho2n
 have Ho3n':=hid ho3n
 have Hzo':=hid hzo
 have Hsr':=hid hsr
 have Psr':=hid psr
 have Hsq':=hid hsq
 have Psq':=hid psq
 have Hdr':=hid hdr
 have Hdr2':=hid hdr2
 have Pdr':=hid pdr
 clear pdr hdr2 hdr psq hsq psr hsr hzo ho3n ho2n ho1n po3 ho3 po2 ho2 po1 ho1 hkk psd hsd pdd hdd pst hst hzz hz pn3 hn3 pn2 hn2 pn1 hn1 pu3 hu3 pu2 hu2 pu1 hu1 pm3 hm3 pm2 hm2 pm1 hm1 pl3 hl3 pl2 hl2 pl1 hl1 fw pr3 pr2 pr1 pc3 pc2 pc1 pb3 pb2 pb1 pa3 pa2 pa1 hla hw
 go_enter Tryz.func5,Tryz.ntmps5
 go_upto_region 1 with fail
 refine wp_boxes w [(#[.string (Sq a1),.string (Sq a2),.string (Sq a3)],24),(#[.string (Sq b1),.string (Sq b2),.string (Sq b3)],24),(#[.string (Sq c1),.string (Sq c2),.string (Sq c3)],24),(#[.string (Sq r1),.string (Sq r2),.string (Sq r3)],24)] rfl ?_
 rintro W0 ⟨k1,k2,k3,k4,hb⟩
 have HB0:=hid (show Below w.heap.size w W0 from hb)
 have K1:=hid k1
 have K2:=hid k2
 have K3:=hid k3
 have K4:=hid k4
 clear k1 k2 k3 k4 hb
 go_wp2_with fail
 with_reducible refine((vec_awake _ (HT.out.on HB0.out)).at).mono ?_
 rintro e W1 ⟨rfl,hb⟩
 have K1:=hid (K1.out.below hb)
 have K2:=hid (K2.out.below hb)
 have K3:=hid (K3.out.below hb)
 have K4:=hid (K4.out.below hb)
 have HB1:=hbt HB0 hb
 clear hb
 have dK10:=K1.out.cell (i:=0) rfl
 have dK11:=K1.out.cell (i:=1) rfl
 have dK12:=K1.out.cell (i:=2) rfl
 have dK20:=K2.out.cell (i:=0) rfl
 have dK21:=K2.out.cell (i:=1) rfl
 have dK22:=K2.out.cell (i:=2) rfl
 have dK30:=K3.out.cell (i:=0) rfl
 have dK31:=K3.out.cell (i:=1) rfl
 have dK32:=K3.out.cell (i:=2) rfl
 have dK40:=K4.out.cell (i:=0) rfl
 have dK41:=K4.out.cell (i:=1) rfl
 have dK42:=K4.out.cell (i:=2) rfl
 go_wp2_with fail
 have hb:=below_new W1 (.cells #[.string (Sq a1),.string (Sq a2),.string (Sq a3),.string (Sq b1),.string (Sq b2),.string (Sq b3),.string (Sq c1),.string (Sq c2),.string (Sq c3),.string (Sq r1),.string (Sq r2),.string (Sq r3)] 24)
 have k5:=SBk.new W1 #[.string (Sq a1),.string (Sq a2),.string (Sq a3),.string (Sq b1),.string (Sq b2),.string (Sq b3),.string (Sq c1),.string (Sq c2),.string (Sq c3),.string (Sq r1),.string (Sq r2),.string (Sq r3)] 24
 generalize W1.alloc (.cells #[.string (Sq a1),.string (Sq a2),.string (Sq a3),.string (Sq b1),.string (Sq b2),.string (Sq b3),.string (Sq c1),.string (Sq c2),.string (Sq c3),.string (Sq r1),.string (Sq r2),.string (Sq r3)] 24)=W2 at *
 have K1:=hid (K1.out.below hb)
 have K2:=hid (K2.out.below hb)
 have K3:=hid (K3.out.below hb)
 have K4:=hid (K4.out.below hb)
 have HB2:=hbt HB1 hb
 have K5:=hid k5
 clear k5 hb
 with_reducible refine((few_plain _ _ _ (few_list4 _ (Sq a1) (Sq a2) (Sq a3) (Sq b1) (Sq b2) (Sq b3) (Sq c1) (Sq c2) (Sq c3) (Sq r1) (Sq r2) (Sq r3) true FW.out _ K5.out)).at).mono ?_
 rintro e W3 ⟨rfl,hb⟩
 clear dK10 dK11 dK12 dK20 dK21 dK22 dK30 dK31 dK32 dK40 dK41 dK42
 have K1:=hid (K1.out.below hb)
 have K2:=hid (K2.out.below hb)
 have K3:=hid (K3.out.below hb)
 have K4:=hid (K4.out.below hb)
 have K5:=hid (K5.out.below hb)
 have HB3:=hbt HB2 hb
 clear hb
 have dK40:=K4.out.cell (i:=0) rfl
 have dK41:=K4.out.cell (i:=1) rfl
 have dK42:=K4.out.cell (i:=2) rfl
 go_wp2_with fail
 with_reducible refine((vnValid (Pr1'.out.fit (by decide)) (Pr2'.out.fit (by decide)) (Pr3'.out.fit (by decide)) _ (HT.out.on HB3.out)).at).mono ?_
 rintro e W4 ⟨rfl,hb⟩
 clear dK40 dK41 dK42
 have K1:=hid (K1.out.below hb)
 have K2:=hid (K2.out.below hb)
 have K3:=hid (K3.out.below hb)
 have K4:=hid (K4.out.below hb)
 have K5:=hid (K5.out.below hb)
 have HB4:=hbt HB3 hb
 clear hb
 have dK10:=K1.out.cell (i:=0) rfl
 have dK11:=K1.out.cell (i:=1) rfl
 have dK12:=K1.out.cell (i:=2) rfl
 have dK20:=K2.out.cell (i:=0) rfl
 have dK21:=K2.out.cell (i:=1) rfl
 have dK22:=K2.out.cell (i:=2) rfl
 have dK30:=K3.out.cell (i:=0) rfl
 have dK31:=K3.out.cell (i:=1) rfl
 have dK32:=K3.out.cell (i:=2) rfl
 go_wp2_with fail
 with_reducible refine((nThrough Hl1'.out Hm1'.out Hl2'.out Hm2'.out Hl3'.out Hm3'.out Hn1'.out Hn2'.out Hn3'.out Hz'.out Hst'.out Pa1'.out Pa2'.out Pa3'.out Pb1'.out Pb2'.out Pb3'.out Pc1'.out Pc2'.out Pc3'.out _ (HT.out.on HB4.out)).at).mono ?_
 rintro e W5 ⟨rfl,hb⟩
 clear dK10 dK11 dK12 dK20 dK21 dK22 dK30 dK31 dK32
 have K1:=hid (K1.out.below hb)
 have K2:=hid (K2.out.below hb)
 have K3:=hid (K3.out.below hb)
 have K4:=hid (K4.out.below hb)
 have K5:=hid (K5.out.below hb)
 have HB5:=hbt HB4 hb
 clear hb
 go_upto_region 4 with fail
 refine wp_boxes W5 [(#[.string (Sq n1),.string (Sq n2),.string (Sq n3),.string (Sq st)],28)] rfl ?_
 have L1:=K1.out.lt
 have L2:=K2.out.lt
 have L3:=K3.out.lt
 have L4:=K4.out.lt
 have L5:=K5.out.lt
 have L6:=HB5.out.size
 rintro W6 ⟨k6,hb⟩
 have hb:Below W5.heap.size W5 W6:=hb
 have K1:=hid (K1.out.below hb)
 have K2:=hid (K2.out.below hb)
 have K3:=hid (K3.out.below hb)
 have K4:=hid (K4.out.below hb)
 have K5:=hid (K5.out.below hb)
 have HB6:=hbt HB5 hb
 have K6:=hid k6
 clear k6 hb
 have dK10:=K1.out.cell (i:=0) rfl
 have dK11:=K1.out.cell (i:=1) rfl
 have dK12:=K1.out.cell (i:=2) rfl
 have dK20:=K2.out.cell (i:=0) rfl
 have dK21:=K2.out.cell (i:=1) rfl
 have dK22:=K2.out.cell (i:=2) rfl
 have dK30:=K3.out.cell (i:=0) rfl
 have dK31:=K3.out.cell (i:=1) rfl
 have dK32:=K3.out.cell (i:=2) rfl
 go_wp2
 have hb:=below_new W6 (.cells #[.string (Sq a1),.string (Sq a2),.string (Sq a3),.string (Sq b1),.string (Sq b2),.string (Sq b3),.string (Sq c1),.string (Sq c2),.string (Sq c3)] 24)
 have k7:=SBk.new W6 #[.string (Sq a1),.string (Sq a2),.string (Sq a3),.string (Sq b1),.string (Sq b2),.string (Sq b3),.string (Sq c1),.string (Sq c2),.string (Sq c3)] 24
 generalize W6.alloc (.cells #[.string (Sq a1),.string (Sq a2),.string (Sq a3),.string (Sq b1),.string (Sq b2),.string (Sq b3),.string (Sq c1),.string (Sq c2),.string (Sq c3)] 24)=W7 at *
 have K1:=hid (K1.out.below hb)
 have K2:=hid (K2.out.below hb)
 have K3:=hid (K3.out.below hb)
 have K4:=hid (K4.out.below hb)
 have K5:=hid (K5.out.below hb)
 have K6:=hid (K6.out.below hb)
 have HB7:=hbt HB6 hb
 have K7:=hid k7
 clear k7 hb dK10 dK11 dK12 dK20 dK21 dK22 dK30 dK31 dK32
 refine wp_loop_rounds 4 ?_
 rw[rounds_succ]
 have dK70:=K7.out.cell (i:=0) rfl
 have dK71:=K7.out.cell (i:=1) rfl
 have dK72:=K7.out.cell (i:=2) rfl
 go_upto_region 9 with fail
 refine wp_boxes W7 [(#[.string (Sq a1),.string (Sq a2),.string (Sq a3)],24)] rfl ?_
 have L7:=K1.out.lt
 have L8:=K2.out.lt
 have L9:=K3.out.lt
 have L10:=K4.out.lt
 have L11:=K5.out.lt
 have L12:=K6.out.lt
 have L13:=K7.out.lt
 have L14:=HB7.out.size
 rintro W8 ⟨k8,hb⟩
 have hb:Below W7.heap.size W7 W8:=hb
 have K1:=hid (K1.out.below hb)
 have K2:=hid (K2.out.below hb)
 have K3:=hid (K3.out.below hb)
 have K4:=hid (K4.out.below hb)
 have K5:=hid (K5.out.below hb)
 have K6:=hid (K6.out.below hb)
 have K7:=hid (K7.out.below hb)
 have HB8:=hbt HB7 hb
 have K8:=hid k8
 clear k8 hb dK70 dK71 dK72
 have dK60:=K6.out.cell (i:=0) rfl
 have dK61:=K6.out.cell (i:=1) rfl
 have dK62:=K6.out.cell (i:=2) rfl
 have dK63:=K6.out.cell (i:=3) rfl
 have dK80:=K8.out.cell (i:=0) rfl
 have dK81:=K8.out.cell (i:=1) rfl
 have dK82:=K8.out.cell (i:=2) rfl
 go_wp2_with fail
 with_reducible refine((nSide Hz'.out Hst'.out (show st-st=0 from by grind) (show cmpQ (0:Rat) 0=0 from cmpQ_eq 0) Pn1'.out Pn2'.out Pn3'.out Pa1'.out Pa2'.out Pa3'.out (by decide) (((Pn1'.out.mul Pa1'.out).add (Pn2'.out.mul Pa2'.out)).fit (by decide)) (Pst'.out.fit (by decide)) (Pst'.out.fit (by decide)) fitq0 _ (HT.out.on HB8.out)).at).mono ?_
 rintro e W9 ⟨rfl,hb⟩
 clear dK60 dK61 dK62 dK63 dK80 dK81 dK82
 have K1:=hid (K1.out.below hb)
 have K2:=hid (K2.out.below hb)
 have K3:=hid (K3.out.below hb)
 have K4:=hid (K4.out.below hb)
 have K5:=hid (K5.out.below hb)
 have K6:=hid (K6.out.below hb)
 have K7:=hid (K7.out.below hb)
 have K8:=hid (K8.out.below hb)
 have HB9:=hbt HB8 hb
 clear hb
 go_wp2
 rw[rounds_succ]
 have dK73:=K7.out.cell (i:=3) rfl
 have dK74:=K7.out.cell (i:=4) rfl
 have dK75:=K7.out.cell (i:=5) rfl
 go_upto_region 9 with fail
 refine wp_boxes W9 [(#[.string (Sq b1),.string (Sq b2),.string (Sq b3)],24)] rfl ?_
 have L15:=K1.out.lt
 have L16:=K2.out.lt
 have L17:=K3.out.lt
 have L18:=K4.out.lt
 have L19:=K5.out.lt
 have L20:=K6.out.lt
 have L21:=K7.out.lt
 have L22:=K8.out.lt
 have L23:=HB9.out.size
 rintro W10 ⟨k9,hb⟩
 have hb:Below W9.heap.size W9 W10:=hb
 have K1:=hid (K1.out.below hb)
 have K2:=hid (K2.out.below hb)
 have K3:=hid (K3.out.below hb)
 have K4:=hid (K4.out.below hb)
 have K5:=hid (K5.out.below hb)
 have K6:=hid (K6.out.below hb)
 have K7:=hid (K7.out.below hb)
 have K8:=hid (K8.out.below hb)
 have HB10:=hbt HB9 hb
 have K9:=hid k9
 clear k9 hb dK73 dK74 dK75
 have dK60:=K6.out.cell (i:=0) rfl
 have dK61:=K6.out.cell (i:=1) rfl
 have dK62:=K6.out.cell (i:=2) rfl
 have dK63:=K6.out.cell (i:=3) rfl
 have dK90:=K9.out.cell (i:=0) rfl
 have dK91:=K9.out.cell (i:=1) rfl
 have dK92:=K9.out.cell (i:=2) rfl
 go_wp2_with fail
 with_reducible refine((nSide Hz'.out EB.out (show st-st=0 from by grind) (show cmpQ (0:Rat) 0=0 from cmpQ_eq 0) Pn1'.out Pn2'.out Pn3'.out Pb1'.out Pb2'.out Pb3'.out (by decide) (((Pn1'.out.mul Pb1'.out).add (Pn2'.out.mul Pb2'.out)).fit (by decide)) (Pst'.out.fit (by decide)) (Pst'.out.fit (by decide)) fitq0 _ (HT.out.on HB10.out)).at).mono ?_
 rintro e W11 ⟨rfl,hb⟩
 clear dK60 dK61 dK62 dK63 dK90 dK91 dK92
 have K1:=hid (K1.out.below hb)
 have K2:=hid (K2.out.below hb)
 have K3:=hid (K3.out.below hb)
 have K4:=hid (K4.out.below hb)
 have K5:=hid (K5.out.below hb)
 have K6:=hid (K6.out.below hb)
 have K7:=hid (K7.out.below hb)
 have K8:=hid (K8.out.below hb)
 have K9:=hid (K9.out.below hb)
 have HB11:=hbt HB10 hb
 clear hb
 go_wp2
 rw[rounds_succ]
 have dK76:=K7.out.cell (i:=6) rfl
 have dK77:=K7.out.cell (i:=7) rfl
 have dK78:=K7.out.cell (i:=8) rfl
 go_upto_region 9 with fail
 refine wp_boxes W11 [(#[.string (Sq c1),.string (Sq c2),.string (Sq c3)],24)] rfl ?_
 have L24:=K1.out.lt
 have L25:=K2.out.lt
 have L26:=K3.out.lt
 have L27:=K4.out.lt
 have L28:=K5.out.lt
 have L29:=K6.out.lt
 have L30:=K7.out.lt
 have L31:=K8.out.lt
 have L32:=K9.out.lt
 have L33:=HB11.out.size
 rintro W12 ⟨k10,hb⟩
 have hb:Below W11.heap.size W11 W12:=hb
 have K1:=hid (K1.out.below hb)
 have K2:=hid (K2.out.below hb)
 have K3:=hid (K3.out.below hb)
 have K4:=hid (K4.out.below hb)
 have K5:=hid (K5.out.below hb)
 have K6:=hid (K6.out.below hb)
 have K7:=hid (K7.out.below hb)
 have K8:=hid (K8.out.below hb)
 have K9:=hid (K9.out.below hb)
 have HB12:=hbt HB11 hb
 have K10:=hid k10
 clear k10 hb dK76 dK77 dK78
 have dK60:=K6.out.cell (i:=0) rfl
 have dK61:=K6.out.cell (i:=1) rfl
 have dK62:=K6.out.cell (i:=2) rfl
 have dK63:=K6.out.cell (i:=3) rfl
 have dK100:=K10.out.cell (i:=0) rfl
 have dK101:=K10.out.cell (i:=1) rfl
 have dK102:=K10.out.cell (i:=2) rfl
 go_wp2_with fail
 with_reducible refine((nSide Hz'.out EC.out (show st-st=0 from by grind) (show cmpQ (0:Rat) 0=0 from cmpQ_eq 0) Pn1'.out Pn2'.out Pn3'.out Pc1'.out Pc2'.out Pc3'.out (by decide) (((Pn1'.out.mul Pc1'.out).add (Pn2'.out.mul Pc2'.out)).fit (by decide)) (Pst'.out.fit (by decide)) (Pst'.out.fit (by decide)) fitq0 _ (HT.out.on HB12.out)).at).mono ?_
 rintro e W13 ⟨rfl,hb⟩
 clear dK60 dK61 dK62 dK63 dK100 dK101 dK102
 have K1:=hid (K1.out.below hb)
 have K2:=hid (K2.out.below hb)
 have K3:=hid (K3.out.below hb)
 have K4:=hid (K4.out.below hb)
 have K5:=hid (K5.out.below hb)
 have K6:=hid (K6.out.below hb)
 have K7:=hid (K7.out.below hb)
 have K8:=hid (K8.out.below hb)
 have K9:=hid (K9.out.below hb)
 have K10:=hid (K10.out.below hb)
 have HB13:=hbt HB12 hb
 clear hb
 go_wp2
 rw[rounds_succ]
 have dK20:=K2.out.cell (i:=0) rfl
 have dK21:=K2.out.cell (i:=1) rfl
 have dK22:=K2.out.cell (i:=2) rfl
 have dK10:=K1.out.cell (i:=0) rfl
 have dK11:=K1.out.cell (i:=1) rfl
 have dK12:=K1.out.cell (i:=2) rfl
 go_wp2_with fail
 with_reducible refine((vnSub Hl1'.out Hl2'.out Hl3'.out Pb1'.out Pb2'.out Pb3'.out Pa1'.out Pa2'.out Pa3'.out (by decide) (by decide) _ (HT.out.on HB13.out)).at).mono ?_
 rintro e W14 ⟨rfl,hb⟩
 clear dK20 dK21 dK22 dK10 dK11 dK12
 have K1:=hid (K1.out.below hb)
 have K2:=hid (K2.out.below hb)
 have K3:=hid (K3.out.below hb)
 have K4:=hid (K4.out.below hb)
 have K5:=hid (K5.out.below hb)
 have K6:=hid (K6.out.below hb)
 have K7:=hid (K7.out.below hb)
 have K8:=hid (K8.out.below hb)
 have K9:=hid (K9.out.below hb)
 have K10:=hid (K10.out.below hb)
 have HB14:=hbt HB13 hb
 clear hb
 go_upto_region 14 with fail
 refine wp_boxes W14 [(#[.string (Sq l1),.string (Sq l2),.string (Sq l3)],24)] rfl ?_
 have L34:=K1.out.lt
 have L35:=K2.out.lt
 have L36:=K3.out.lt
 have L37:=K4.out.lt
 have L38:=K5.out.lt
 have L39:=K6.out.lt
 have L40:=K7.out.lt
 have L41:=K8.out.lt
 have L42:=K9.out.lt
 have L43:=K10.out.lt
 have L44:=HB14.out.size
 rintro W15 ⟨k11,hb⟩
 have hb:Below W14.heap.size W14 W15:=hb
 have K1:=hid (K1.out.below hb)
 have K2:=hid (K2.out.below hb)
 have K3:=hid (K3.out.below hb)
 have K4:=hid (K4.out.below hb)
 have K5:=hid (K5.out.below hb)
 have K6:=hid (K6.out.below hb)
 have K7:=hid (K7.out.below hb)
 have K8:=hid (K8.out.below hb)
 have K9:=hid (K9.out.below hb)
 have K10:=hid (K10.out.below hb)
 have HB15:=hbt HB14 hb
 have K11:=hid k11
 clear k11 hb
 have dK30:=K3.out.cell (i:=0) rfl
 have dK31:=K3.out.cell (i:=1) rfl
 have dK32:=K3.out.cell (i:=2) rfl
 have dK10:=K1.out.cell (i:=0) rfl
 have dK11:=K1.out.cell (i:=1) rfl
 have dK12:=K1.out.cell (i:=2) rfl
 go_wp2_with fail
 with_reducible refine((vnSub Hm1'.out Hm2'.out Hm3'.out Pc1'.out Pc2'.out Pc3'.out Pa1'.out Pa2'.out Pa3'.out (by decide) (by decide) _ (HT.out.on HB15.out)).at).mono ?_
 rintro e W16 ⟨rfl,hb⟩
 clear dK30 dK31 dK32 dK10 dK11 dK12
 have K1:=hid (K1.out.below hb)
 have K2:=hid (K2.out.below hb)
 have K3:=hid (K3.out.below hb)
 have K4:=hid (K4.out.below hb)
 have K5:=hid (K5.out.below hb)
 have K6:=hid (K6.out.below hb)
 have K7:=hid (K7.out.below hb)
 have K8:=hid (K8.out.below hb)
 have K9:=hid (K9.out.below hb)
 have K10:=hid (K10.out.below hb)
 have K11:=hid (K11.out.below hb)
 have HB16:=hbt HB15 hb
 clear hb
 go_upto_region 15 with fail
 refine wp_boxes W16 [(#[.string (Sq m1),.string (Sq m2),.string (Sq m3)],24)] rfl ?_
 have L45:=K1.out.lt
 have L46:=K2.out.lt
 have L47:=K3.out.lt
 have L48:=K4.out.lt
 have L49:=K5.out.lt
 have L50:=K6.out.lt
 have L51:=K7.out.lt
 have L52:=K8.out.lt
 have L53:=K9.out.lt
 have L54:=K10.out.lt
 have L55:=K11.out.lt
 have L56:=HB16.out.size
 rintro W17 ⟨k12,hb⟩
 have hb:Below W16.heap.size W16 W17:=hb
 have K1:=hid (K1.out.below hb)
 have K2:=hid (K2.out.below hb)
 have K3:=hid (K3.out.below hb)
 have K4:=hid (K4.out.below hb)
 have K5:=hid (K5.out.below hb)
 have K6:=hid (K6.out.below hb)
 have K7:=hid (K7.out.below hb)
 have K8:=hid (K8.out.below hb)
 have K9:=hid (K9.out.below hb)
 have K10:=hid (K10.out.below hb)
 have K11:=hid (K11.out.below hb)
 have HB17:=hbt HB16 hb
 have K12:=hid k12
 clear k12 hb
 have dK40:=K4.out.cell (i:=0) rfl
 have dK41:=K4.out.cell (i:=1) rfl
 have dK42:=K4.out.cell (i:=2) rfl
 have dK10:=K1.out.cell (i:=0) rfl
 have dK11:=K1.out.cell (i:=1) rfl
 have dK12:=K1.out.cell (i:=2) rfl
 go_wp2_with fail
 with_reducible refine((vnSub Hu1'.out Hu2'.out Hu3'.out Pr1'.out Pr2'.out Pr3'.out Pa1'.out Pa2'.out Pa3'.out (by decide) (by decide) _ (HT.out.on HB17.out)).at).mono ?_
 rintro e W18 ⟨rfl,hb⟩
 clear dK40 dK41 dK42 dK10 dK11 dK12
 have K1:=hid (K1.out.below hb)
 have K2:=hid (K2.out.below hb)
 have K3:=hid (K3.out.below hb)
 have K4:=hid (K4.out.below hb)
 have K5:=hid (K5.out.below hb)
 have K6:=hid (K6.out.below hb)
 have K7:=hid (K7.out.below hb)
 have K8:=hid (K8.out.below hb)
 have K9:=hid (K9.out.below hb)
 have K10:=hid (K10.out.below hb)
 have K11:=hid (K11.out.below hb)
 have K12:=hid (K12.out.below hb)
 have HB18:=hbt HB17 hb
 clear hb
 go_upto_region 16 with fail
 refine wp_boxes W18 [(#[.string (Sq u1),.string (Sq u2),.string (Sq u3)],24)] rfl ?_
 have L57:=K1.out.lt
 have L58:=K2.out.lt
 have L59:=K3.out.lt
 have L60:=K4.out.lt
 have L61:=K5.out.lt
 have L62:=K6.out.lt
 have L63:=K7.out.lt
 have L64:=K8.out.lt
 have L65:=K9.out.lt
 have L66:=K10.out.lt
 have L67:=K11.out.lt
 have L68:=K12.out.lt
 have L69:=HB18.out.size
 rintro W19 ⟨k13,hb⟩
 have hb:Below W18.heap.size W18 W19:=hb
 have K1:=hid (K1.out.below hb)
 have K2:=hid (K2.out.below hb)
 have K3:=hid (K3.out.below hb)
 have K4:=hid (K4.out.below hb)
 have K5:=hid (K5.out.below hb)
 have K6:=hid (K6.out.below hb)
 have K7:=hid (K7.out.below hb)
 have K8:=hid (K8.out.below hb)
 have K9:=hid (K9.out.below hb)
 have K10:=hid (K10.out.below hb)
 have K11:=hid (K11.out.below hb)
 have K12:=hid (K12.out.below hb)
 have HB19:=hbt HB18 hb
 have K13:=hid k13
 clear k13 hb
 have dK130:=K13.out.cell (i:=0) rfl
 have dK131:=K13.out.cell (i:=1) rfl
 have dK132:=K13.out.cell (i:=2) rfl
 have dK110:=K11.out.cell (i:=0) rfl
 have dK111:=K11.out.cell (i:=1) rfl
 have dK112:=K11.out.cell (i:=2) rfl
 have dK120:=K12.out.cell (i:=0) rfl
 have dK121:=K12.out.cell (i:=1) rfl
 have dK122:=K12.out.cell (i:=2) rfl
 go_wp2_with fail
 with_reducible refine((vnDet Hn1'.out Hn2'.out Hn3'.out Hdd'.out Pl1'.out Pl2'.out Pl3'.out Pm1'.out Pm2'.out Pm3'.out Pu1'.out Pu2'.out Pu3'.out Pn1'.out Pn2'.out Pn3'.out (by decide) (by decide) (((Pu1'.out.mul Pn1'.out).add (Pu2'.out.mul Pn2'.out)).fit (by decide)) _ (HT.out.on HB19.out)).at).mono ?_
 rintro e W20 ⟨rfl,hb⟩
 clear dK130 dK131 dK132 dK110 dK111 dK112 dK120 dK121 dK122
 have K1:=hid (K1.out.below hb)
 have K2:=hid (K2.out.below hb)
 have K3:=hid (K3.out.below hb)
 have K4:=hid (K4.out.below hb)
 have K5:=hid (K5.out.below hb)
 have K6:=hid (K6.out.below hb)
 have K7:=hid (K7.out.below hb)
 have K8:=hid (K8.out.below hb)
 have K9:=hid (K9.out.below hb)
 have K10:=hid (K10.out.below hb)
 have K11:=hid (K11.out.below hb)
 have K12:=hid (K12.out.below hb)
 have K13:=hid (K13.out.below hb)
 have HB20:=hbt HB19 hb
 clear hb
 have dK60:=K6.out.cell (i:=0) rfl
 have dK61:=K6.out.cell (i:=1) rfl
 have dK62:=K6.out.cell (i:=2) rfl
 have dK63:=K6.out.cell (i:=3) rfl
 have dK40:=K4.out.cell (i:=0) rfl
 have dK41:=K4.out.cell (i:=1) rfl
 have dK42:=K4.out.cell (i:=2) rfl
 go_wp2_with fail
 with_reducible refine((nSide Hz'.out Hsd'.out EG.out EK.out Pn1'.out Pn2'.out Pn3'.out Pr1'.out Pr2'.out Pr3'.out (by decide) (((Pn1'.out.mul Pr1'.out).add (Pn2'.out.mul Pr2'.out)).fit (by decide)) (Psd'.out.fit (by decide)) (Pst'.out.fit (by decide)) (Pdd'.out.fit (by decide)) _ (HT.out.on HB20.out)).at).mono ?_
 rintro e W21 ⟨rfl,hb⟩
 clear dK60 dK61 dK62 dK63 dK40 dK41 dK42
 have K1:=hid (K1.out.below hb)
 have K2:=hid (K2.out.below hb)
 have K3:=hid (K3.out.below hb)
 have K4:=hid (K4.out.below hb)
 have K5:=hid (K5.out.below hb)
 have K6:=hid (K6.out.below hb)
 have K7:=hid (K7.out.below hb)
 have K8:=hid (K8.out.below hb)
 have K9:=hid (K9.out.below hb)
 have K10:=hid (K10.out.below hb)
 have K11:=hid (K11.out.below hb)
 have K12:=hid (K12.out.below hb)
 have K13:=hid (K13.out.below hb)
 have HB21:=hbt HB20 hb
 clear hb
 go_wp2_with fail
 with_reducible refine(qCompare0 dd 1 EK.out (Pdd'.out.fit (by decide)) _ (HT.out.on HB21.out)).mono ?_
 rintro e W22 ⟨rfl,hb⟩
 have K1:=hid (K1.out.below hb)
 have K2:=hid (K2.out.below hb)
 have K3:=hid (K3.out.below hb)
 have K4:=hid (K4.out.below hb)
 have K5:=hid (K5.out.below hb)
 have K6:=hid (K6.out.below hb)
 have K7:=hid (K7.out.below hb)
 have K8:=hid (K8.out.below hb)
 have K9:=hid (K9.out.below hb)
 have K10:=hid (K10.out.below hb)
 have K11:=hid (K11.out.below hb)
 have K12:=hid (K12.out.below hb)
 have K13:=hid (K13.out.below hb)
 have HB22:=hbt HB21 hb
 clear hb
 have dK20:=K2.out.cell (i:=0) rfl
 have dK21:=K2.out.cell (i:=1) rfl
 have dK22:=K2.out.cell (i:=2) rfl
 have dK30:=K3.out.cell (i:=0) rfl
 have dK31:=K3.out.cell (i:=1) rfl
 have dK32:=K3.out.cell (i:=2) rfl
 have dK10:=K1.out.cell (i:=0) rfl
 have dK11:=K1.out.cell (i:=1) rfl
 have dK12:=K1.out.cell (i:=2) rfl
 go_wp2_with fail
 with_reducible refine((nThrough rfl rfl rfl rfl rfl rfl EN1.out EN2.out EN3.out Hz'.out EB.out Pb1'.out Pb2'.out Pb3'.out Pc1'.out Pc2'.out Pc3'.out Pa1'.out Pa2'.out Pa3'.out _ (HT.out.on HB22.out)).at).mono ?_
 rintro e W23 ⟨rfl,hb⟩
 clear dK20 dK21 dK22 dK30 dK31 dK32 dK10 dK11 dK12
 have K1:=hid (K1.out.below hb)
 have K2:=hid (K2.out.below hb)
 have K3:=hid (K3.out.below hb)
 have K4:=hid (K4.out.below hb)
 have K5:=hid (K5.out.below hb)
 have K6:=hid (K6.out.below hb)
 have K7:=hid (K7.out.below hb)
 have K8:=hid (K8.out.below hb)
 have K9:=hid (K9.out.below hb)
 have K10:=hid (K10.out.below hb)
 have K11:=hid (K11.out.below hb)
 have K12:=hid (K12.out.below hb)
 have K13:=hid (K13.out.below hb)
 have HB23:=hbt HB22 hb
 clear hb
 go_upto_region 20 with fail
 refine wp_boxes W23 [(#[.string (Sq n1),.string (Sq n2),.string (Sq n3),.string (Sq st)],28)] rfl ?_
 have L70:=K1.out.lt
 have L71:=K2.out.lt
 have L72:=K3.out.lt
 have L73:=K4.out.lt
 have L74:=K5.out.lt
 have L75:=K6.out.lt
 have L76:=K7.out.lt
 have L77:=K8.out.lt
 have L78:=K9.out.lt
 have L79:=K10.out.lt
 have L80:=K11.out.lt
 have L81:=K12.out.lt
 have L82:=K13.out.lt
 have L83:=HB23.out.size
 rintro W24 ⟨k14,hb⟩
 have hb:Below W23.heap.size W23 W24:=hb
 have K1:=hid (K1.out.below hb)
 have K2:=hid (K2.out.below hb)
 have K3:=hid (K3.out.below hb)
 have K4:=hid (K4.out.below hb)
 have K5:=hid (K5.out.below hb)
 have K6:=hid (K6.out.below hb)
 have K7:=hid (K7.out.below hb)
 have K8:=hid (K8.out.below hb)
 have K9:=hid (K9.out.below hb)
 have K10:=hid (K10.out.below hb)
 have K11:=hid (K11.out.below hb)
 have K12:=hid (K12.out.below hb)
 have K13:=hid (K13.out.below hb)
 have HB24:=hbt HB23 hb
 have K14:=hid k14
 clear k14 hb
 have dK20:=K2.out.cell (i:=0) rfl
 have dK21:=K2.out.cell (i:=1) rfl
 have dK22:=K2.out.cell (i:=2) rfl
 have dK10:=K1.out.cell (i:=0) rfl
 have dK11:=K1.out.cell (i:=1) rfl
 have dK12:=K1.out.cell (i:=2) rfl
 have dK30:=K3.out.cell (i:=0) rfl
 have dK31:=K3.out.cell (i:=1) rfl
 have dK32:=K3.out.cell (i:=2) rfl
 go_wp2_with fail
 with_reducible refine((nThrough rfl rfl rfl rfl rfl rfl Ho1'.out Ho2'.out Ho3'.out Hzo'.out Hsr'.out Pb1'.out Pb2'.out Pb3'.out Pa1'.out Pa2'.out Pa3'.out Pc1'.out Pc2'.out Pc3'.out _ (HT.out.on HB24.out)).at).mono ?_
 rintro e W25 ⟨rfl,hb⟩
 clear dK20 dK21 dK22 dK10 dK11 dK12 dK30 dK31 dK32
 have K1:=hid (K1.out.below hb)
 have K2:=hid (K2.out.below hb)
 have K3:=hid (K3.out.below hb)
 have K4:=hid (K4.out.below hb)
 have K5:=hid (K5.out.below hb)
 have K6:=hid (K6.out.below hb)
 have K7:=hid (K7.out.below hb)
 have K8:=hid (K8.out.below hb)
 have K9:=hid (K9.out.below hb)
 have K10:=hid (K10.out.below hb)
 have K11:=hid (K11.out.below hb)
 have K12:=hid (K12.out.below hb)
 have K13:=hid (K13.out.below hb)
 have K14:=hid (K14.out.below hb)
 have HB25:=hbt HB24 hb
 clear hb
 go_upto_region 21 with fail
 refine wp_boxes W25 [(#[.string (Sq o1),.string (Sq o2),.string (Sq o3),.string (Sq sr)],28)] rfl ?_
 have L84:=K1.out.lt
 have L85:=K2.out.lt
 have L86:=K3.out.lt
 have L87:=K4.out.lt
 have L88:=K5.out.lt
 have L89:=K6.out.lt
 have L90:=K7.out.lt
 have L91:=K8.out.lt
 have L92:=K9.out.lt
 have L93:=K10.out.lt
 have L94:=K11.out.lt
 have L95:=K12.out.lt
 have L96:=K13.out.lt
 have L97:=K14.out.lt
 have L98:=HB25.out.size
 rintro W26 ⟨k15,hb⟩
 have hb:Below W25.heap.size W25 W26:=hb
 have K4:=hid (K4.out.below hb)
 have K6:=hid (K6.out.below hb)
 have K14:=hid (K14.out.below hb)
 have HB26:=hbt HB25 hb
 have K15:=hid k15
 clear k15 hb
 have dK150:=K15.out.cell (i:=0) rfl
 have dK151:=K15.out.cell (i:=1) rfl
 have dK152:=K15.out.cell (i:=2) rfl
 have dK153:=K15.out.cell (i:=3) rfl
 have dK40:=K4.out.cell (i:=0) rfl
 have dK41:=K4.out.cell (i:=1) rfl
 have dK42:=K4.out.cell (i:=2) rfl
 go_wp2_with fail
 with_reducible refine((nSide Hzo'.out Hsq'.out Hdr'.out EL.out Po1'.out Po2'.out Po3'.out Pr1'.out Pr2'.out Pr3'.out (by decide) (((Po1'.out.mul Pr1'.out).add (Po2'.out.mul Pr2'.out)).fit (by decide)) (Psq'.out.fit (by decide)) (Psr'.out.fit (by decide)) (Pdr'.out.fit (by decide)) _ (HT.out.on HB26.out)).at).mono ?_
 rintro e W27 ⟨rfl,hb⟩
 clear dK150 dK151 dK152 dK153 dK40 dK41 dK42
 have K6:=hid (K6.out.below hb)
 have K14:=hid (K14.out.below hb)
 have HB27:=hbt HB26 hb
 clear hb
 have dK140:=K14.out.cell (i:=0) rfl
 have dK141:=K14.out.cell (i:=1) rfl
 have dK142:=K14.out.cell (i:=2) rfl
 have dK143:=K14.out.cell (i:=3) rfl
 have dK60:=K6.out.cell (i:=0) rfl
 have dK61:=K6.out.cell (i:=1) rfl
 have dK62:=K6.out.cell (i:=2) rfl
 have dK63:=K6.out.cell (i:=3) rfl
 go_wp2
 exact bodyPost_ret (v:=.bool true) (by simp[results,Tryz.results5,go_sem]) rfl ⟨rfl,HB27.out⟩
theorem vthr_any (x1 x2 x3 y1 y2 y3 z1 z2 z3 v1 v2 v3:ByteArray)(w:World)(hl:La w) :
 CR 5 #[.agg #[.string x1,.string x2,.string x3],.agg #[.string y1,.string y2,.string y3],.agg #[.string z1,.string z2,.string z3],.agg #[.string v1,.string v2,.string v3]] w (.bool true):=by
 cases hf:decide (x1.size≤20∧x2.size≤20∧x3.size≤20∧y1.size≤20∧y2.size≤20∧y3.size≤20∧z1.size≤20∧z2.size≤20∧z3.size≤20∧v1.size≤20∧v2.size≤20∧v3.size≤20) with
 | false=>exact(vthr_long x1 x2 x3 y1 y2 y3 z1 z2 z3 v1 v2 v3 w hl hf).at
 | true =>
   have hs:=of_decide_eq_true hf
   obtain⟨o1,t1⟩:=tx_form x1 (k:=20) (by decide) (by decide) hs.1
   obtain⟨o2,t2⟩:=tx_form x2 (k:=20) (by decide) (by decide) hs.2.1
   obtain⟨o3,t3⟩:=tx_form x3 (k:=20) (by decide) (by decide) hs.2.2.1
   obtain⟨o4,t4⟩:=tx_form y1 (k:=20) (by decide) (by decide) hs.2.2.2.1
   obtain⟨o5,t5⟩:=tx_form y2 (k:=20) (by decide) (by decide) hs.2.2.2.2.1
   obtain⟨o6,t6⟩:=tx_form y3 (k:=20) (by decide) (by decide) hs.2.2.2.2.2.1
   obtain⟨o7,t7⟩:=tx_form z1 (k:=20) (by decide) (by decide) hs.2.2.2.2.2.2.1
   obtain⟨o8,t8⟩:=tx_form z2 (k:=20) (by decide) (by decide) hs.2.2.2.2.2.2.2.1
   obtain⟨o9,t9⟩:=tx_form z3 (k:=20) (by decide) (by decide) hs.2.2.2.2.2.2.2.2.1
   obtain⟨o10,t10⟩:=tx_form v1 (k:=20) (by decide) (by decide) hs.2.2.2.2.2.2.2.2.2.1
   obtain⟨o11,t11⟩:=tx_form v2 (k:=20) (by decide) (by decide) hs.2.2.2.2.2.2.2.2.2.2.1
   obtain⟨o12,t12⟩:=tx_form v3 (k:=20) (by decide) (by decide) hs.2.2.2.2.2.2.2.2.2.2.2
   have v4:=vtValid t10 t11 t12 (by decide) w hl
   cases g4:(o10.isSome&&(o11.isSome&&o12.isSome)) with
   | false=>rw[g4]at v4;exact(vthr_no x1 x2 x3 y1 y2 y3 z1 z2 z3 v1 v2 v3 w v4 hl hf).at
   | true =>
   rw[g4]at v4
   rcases tThrough t1 t2 t3 t4 t5 t6 t7 t8 t9 w hl with⟨A1,A2,A3,B1,B2,B3,C1,C2,C3,rfl,rfl,rfl,rfl,rfl,rfl,rfl,rfl,rfl⟩|h
   · obtain⟨⟨a1,rfl,p1⟩,⟨a2,rfl,p2⟩,⟨a3,rfl,p3⟩⟩:=tx_three t1 t2 t3 rfl
     obtain⟨⟨b1,rfl,q1⟩,⟨b2,rfl,q2⟩,⟨b3,rfl,q3⟩⟩:=tx_three t4 t5 t6 rfl
     obtain⟨⟨c1,rfl,r1⟩,⟨c2,rfl,r2⟩,⟨c3,rfl,r3⟩⟩:=tx_three t7 t8 t9 rfl
     obtain⟨⟨d1,rfl,s1⟩,⟨d2,rfl,s2⟩,⟨d3,rfl,s3⟩⟩:=tx_three t10 t11 t12 g4
     by_cases hz:((b2-a2)*(c3-a3)-(b3-a3)*(c2-a2))=0∧((b3-a3)*(c1-a1)-(b1-a1)*(c3-a3))=0∧((b1-a1)*(c2-a2)-(b2-a2)*(c1-a1))=0
     · exact(vthr_e16 _ _ _ _ _ _ _ _ _ _ _ _ w v4 (nThrough_zero rfl rfl rfl rfl rfl rfl rfl rfl rfl hz p1 p2 p3 q1 q2 q3 r1 r2 r3 w hl) hl hf).at
     · rcases cmpQ_cases ((d1-a1)*((b2-a2)*(c3-a3)-(b3-a3)*(c2-a2))+(d2-a2)*((b3-a3)*(c1-a1)-(b1-a1)*(c3-a3))+(d3-a3)*((b1-a1)*(c2-a2)-(b2-a2)*(c1-a1))) 0 with⟨_,e⟩|⟨_,e⟩|⟨_,e⟩
       · exact(vthr_yesm a1 a2 a3 b1 b2 b3 c1 c2 c3 d1 d2 d3 p1 p2 p3 q1 q2 q3 r1 r2 r3 s1 s2 s3 w hl hf hz e).at
       · exact(vthr_yes0 a1 a2 a3 b1 b2 b3 c1 c2 c3 d1 d2 d3 p1 p2 p3 q1 q2 q3 r1 r2 r3 s1 s2 s3 w hl hf hz e).at
       · exact(vthr_yes1 a1 a2 a3 b1 b2 b3 c1 c2 c3 d1 d2 d3 p1 p2 p3 q1 q2 q3 r1 r2 r3 s1 s2 s3 w hl hf hz e).at
   · exact(vthr_e1 x1 x2 x3 y1 y2 y3 z1 z2 z3 v1 v2 v3 w v4 h hl hf).at
end Go.Proofs.YtklfllmfcckgjaaGreatDoor
