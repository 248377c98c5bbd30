/- garboardlaw05.RootBetween returns true: walks. -/
import Derived.Test.YtggoeabhbkbadaaGreatDoorMz46q
import Derived.Test.YtggoeabhbkbadaaGreatDoorMz49q
set_option maxRecDepth 100000
set_option maxHeartbeats 20000000
open Go.Lib (hid)
namespace Go.Proofs.YtggoeabhbkbadaaGreatDoor
open Go.RowKit Go.Gb
theorem rbt_long (x:ByteArray)(n:Int)(w₀:World)  (hla:Lb w₀)(fl:decide (40<x.size)=true)  :
 CV w₀ 3 #[.string x,.int .u16 n] (.bool true):=by
 intro w hw
 have HT:=hid (lb_on hla hw)
 have FL:=hid fl
 clear hla fl hw
 go_enter Tryz.func3,Tryz.ntmps3
 have HB0:=hid (Below.refl w.heap.size w)
 go_wp2_with fail
 with_reducible refine((root_awake _ (lb_on HT.out HB0.out)).at).mono ?_
 rintro e W1 ⟨rfl,hb⟩
 have HB1:=hbt HB0 hb
 clear hb
 go_wp2_with fail
 have hb:=below_new W1 (.cells #[.string x] 22)
 have k1:=SBk.new W1 #[.string x] 22
 generalize W1.alloc (.cells #[.string x] 22)=W2 at *
 have HB2:=hbt HB1 hb
 have K1:=hid k1
 clear k1 hb
 with_reducible refine((lgx1 _ x true _ FL.out K1.out)).mono ?_
 rintro e W3 ⟨rfl,hb⟩
 have HB3:=hbt HB2 hb
 clear hb
 go_wp2_with fail
 with_reducible refine((root_awake _ (lb_on HT.out HB3.out)).at).mono ?_
 rintro e W4 ⟨rfl,hb⟩
 have HB4:=hbt HB3 hb
 clear hb
 go_wp2
 exact bodyPost_ret (v:=.bool true) (by simp[results,Tryz.results3,go_sem]) rfl ⟨rfl,HB4.out⟩
theorem rbt_e1 (x:ByteArray)(n:Int)(k m:Nat)(w₀:World)(h1:CV w₀ 9 #[.string x,.int .i64 (k:Int)] (.tuple #[.agg #[.string ⟨#[]⟩,.string ⟨#[]⟩],.int .i64 1]))(hla:Lb w₀)(fl:decide (40<x.size)=false)(e1:IntKind.i64.wrap n=n)(e2:n.tmod 1000=(m:Int))(e3:IntKind.i64.wrap (m:Int)=(m:Int))(e4:(1:Int)+(m:Int)=(k:Int))(e5:IntKind.i64.wrap (k:Int)=(k:Int)) :
 CV w₀ 3 #[.string x,.int .u16 n] (.bool true):=by
 intro w hw
 have C1:=hid (h1.mono hw)
 have HT:=hid (lb_on hla hw)
 have FL:=hid fl
 clear hla fl
 have j1:=e1
 have j2:=e2
 have j3:=e3
 have j4:=e4
 have j5:=e5
 clear e1 e2 e3 e4 e5 h1 hw
 go_enter Tryz.func3,Tryz.ntmps3
 have HB0:=hid (Below.refl w.heap.size w)
 go_wp2_with fail
 with_reducible refine((root_awake _ (lb_on HT.out HB0.out)).at).mono ?_
 rintro e W1 ⟨rfl,hb⟩
 have HB1:=hbt HB0 hb
 clear hb
 go_wp2_with fail
 have hb:=below_new W1 (.cells #[.string x] 22)
 have k1:=SBk.new W1 #[.string x] 22
 generalize W1.alloc (.cells #[.string x] 22)=W2 at *
 have HB2:=hbt HB1 hb
 have K1:=hid k1
 clear k1 hb
 with_reducible refine((lgx1 _ x false _ FL.out K1.out)).mono ?_
 rintro e W3 ⟨rfl,hb⟩
 have K1:=hid (K1.out.below hb)
 have HB3:=hbt HB2 hb
 clear hb
 go_wp2_with fail
 with_reducible refine(C1.out _ HB3.out).mono ?_
 rintro e W4 ⟨rfl,hb⟩
 have K1:=hid (K1.out.below hb)
 have HB4:=hbt HB3 hb
 clear hb
 go_upto_region 5 with fail
 refine wp_boxes W4 [(#[.string ⟨#[]⟩,.string ⟨#[]⟩],27)] rfl ?_
 have L1:=K1.out.lt
 have L2:=HB4.out.size
 rintro W5 ⟨k2,hb⟩
 have hb:Below W4.heap.size W4 W5:=hb
 have HB5:=hbt HB4 hb
 have K2:=hid k2
 clear k2 hb
 have dK20:=K2.out.cell (i:=0) rfl
 have dK21:=K2.out.cell (i:=1) rfl
 go_wp2
 exact bodyPost_ret (v:=.bool true) (by simp[results,Tryz.results3,go_sem]) rfl ⟨rfl,HB5.out⟩
theorem rbt_e2 (x:ByteArray)(n:Int)(k m:Nat)(w₀:World)(h1:CV w₀ 9 #[.string x,.int .i64 (k:Int)] (.tuple #[.agg #[.string ⟨#[]⟩,.string ⟨#[]⟩],.int .i64 2]))(hla:Lb w₀)(fl:decide (40<x.size)=false)(e1:IntKind.i64.wrap n=n)(e2:n.tmod 1000=(m:Int))(e3:IntKind.i64.wrap (m:Int)=(m:Int))(e4:(1:Int)+(m:Int)=(k:Int))(e5:IntKind.i64.wrap (k:Int)=(k:Int)) :
 CV w₀ 3 #[.string x,.int .u16 n] (.bool true):=by
 intro w hw
 have C1:=hid (h1.mono hw)
 have HT:=hid (lb_on hla hw)
 have FL:=hid fl
 clear hla fl
 have j1:=e1
 have j2:=e2
 have j3:=e3
 have j4:=e4
 have j5:=e5
 clear e1 e2 e3 e4 e5 h1 hw
 go_enter Tryz.func3,Tryz.ntmps3
 have HB0:=hid (Below.refl w.heap.size w)
 go_wp2_with fail
 with_reducible refine((root_awake _ (lb_on HT.out HB0.out)).at).mono ?_
 rintro e W1 ⟨rfl,hb⟩
 have HB1:=hbt HB0 hb
 clear hb
 go_wp2_with fail
 have hb:=below_new W1 (.cells #[.string x] 22)
 have k1:=SBk.new W1 #[.string x] 22
 generalize W1.alloc (.cells #[.string x] 22)=W2 at *
 have HB2:=hbt HB1 hb
 have K1:=hid k1
 clear k1 hb
 with_reducible refine((lgx1 _ x false _ FL.out K1.out)).mono ?_
 rintro e W3 ⟨rfl,hb⟩
 have K1:=hid (K1.out.below hb)
 have HB3:=hbt HB2 hb
 clear hb
 go_wp2_with fail
 with_reducible refine(C1.out _ HB3.out).mono ?_
 rintro e W4 ⟨rfl,hb⟩
 have K1:=hid (K1.out.below hb)
 have HB4:=hbt HB3 hb
 clear hb
 go_upto_region 5 with fail
 refine wp_boxes W4 [(#[.string ⟨#[]⟩,.string ⟨#[]⟩],27)] rfl ?_
 have L1:=K1.out.lt
 have L2:=HB4.out.size
 rintro W5 ⟨k2,hb⟩
 have hb:Below W4.heap.size W4 W5:=hb
 have HB5:=hbt HB4 hb
 have K2:=hid k2
 clear k2 hb
 have dK20:=K2.out.cell (i:=0) rfl
 have dK21:=K2.out.cell (i:=1) rfl
 go_wp2
 exact bodyPost_ret (v:=.bool true) (by simp[results,Tryz.results3,go_sem]) rfl ⟨rfl,HB5.out⟩
theorem rbt_eq (x l u lo hi dd kt:ByteArray)(n:Int)(k m:Nat)(w₀:World)(h1:CV w₀ 9 #[.string x,.int .i64 (k:Int)] (.tuple #[.agg #[.string l,.string u],.int .i64 0]))(h2:CV w₀ 10 #[.string l,.string l] (.tuple #[.string lo,.int .i64 0]))(h3:CV w₀ 10 #[.string u,.string u] (.tuple #[.string hi,.int .i64 0]))(h6:CV w₀ 12 #[.agg #[.string l,.string u],.int .i64 (k:Int)] (.tuple #[.agg #[.string l,.string u],.int .i64 0]))(h7:CV w₀ 13 #[.string u,.string l] (.tuple #[.string dd,.int .i64 0]))(h8:CV w₀ 14 #[.int .i64 (k:Int)] (.string kt))(hA:CV w₀ 15 #[.agg #[.string l,.string u]] (.bool true))(h4:CV w₀ 11 #[.string lo,.string x] (.tuple #[.int .i64 0,.int .i64 0]))(h5:CV w₀ 11 #[.string hi,.string x] (.tuple #[.int .i64 0,.int .i64 0]))(h9:CV w₀ 10 #[.string dd,.string kt] (.tuple #[.string ⟨#[48]⟩,.int .i64 0]))(hla:Lb w₀)(fl:decide (40<x.size)=false)(e1:IntKind.i64.wrap n=n)(e2:n.tmod 1000=(m:Int))(e3:IntKind.i64.wrap (m:Int)=(m:Int))(e4:(1:Int)+(m:Int)=(k:Int))(e5:IntKind.i64.wrap (k:Int)=(k:Int)) :
 CV w₀ 3 #[.string x,.int .u16 n] (.bool true):=by
 intro w hw
 have C1:=hid (h1.mono hw)
 have C2:=hid (h2.mono hw)
 have C3:=hid (h3.mono hw)
 have C6:=hid (h6.mono hw)
 have C7:=hid (h7.mono hw)
 have C8:=hid (h8.mono hw)
 have CA:=hid (hA.mono hw)
 have C4:=hid (h4.mono hw)
 have C5:=hid (h5.mono hw)
 have C9:=hid (h9.mono hw)
 have HT:=hid (lb_on hla hw)
 have FL:=hid fl
 clear hla fl
 have j1:=e1
 have j2:=e2
 have j3:=e3
 have j4:=e4
 have j5:=e5
 clear e1 e2 e3 e4 e5 h1 h2 h3 h6 h7 h8 hA h4 h5 h9 hw
 go_enter Tryz.func3,Tryz.ntmps3
 have HB0:=hid (Below.refl w.heap.size w)
 go_wp2_with fail
 with_reducible refine((root_awake _ (lb_on HT.out HB0.out)).at).mono ?_
 rintro e W1 ⟨rfl,hb⟩
 have HB1:=hbt HB0 hb
 clear hb
 go_wp2_with fail
 have hb:=below_new W1 (.cells #[.string x] 22)
 have k1:=SBk.new W1 #[.string x] 22
 generalize W1.alloc (.cells #[.string x] 22)=W2 at *
 have HB2:=hbt HB1 hb
 have K1:=hid k1
 clear k1 hb
 with_reducible refine((lgx1 _ x false _ FL.out K1.out)).mono ?_
 rintro e W3 ⟨rfl,hb⟩
 have K1:=hid (K1.out.below hb)
 have HB3:=hbt HB2 hb
 clear hb
 go_wp2_with fail
 with_reducible refine(C1.out _ HB3.out).mono ?_
 rintro e W4 ⟨rfl,hb⟩
 have K1:=hid (K1.out.below hb)
 have HB4:=hbt HB3 hb
 clear hb
 go_upto_region 5 with fail
 refine wp_boxes W4 [(#[.string l,.string u],27)] rfl ?_
 have L1:=K1.out.lt
 have L2:=HB4.out.size
 rintro W5 ⟨k2,hb⟩
 have hb:Below W4.heap.size W4 W5:=hb
 have K1:=hid (K1.out.below hb)
 have HB5:=hbt HB4 hb
 have K2:=hid k2
 clear k2 hb
 have dK20:=K2.out.cell (i:=0) rfl
 go_wp2_with fail
 with_reducible refine(C2.out _ HB5.out).mono ?_
 rintro e W6 ⟨rfl,hb⟩
 clear dK20
 have K1:=hid (K1.out.below hb)
 have K2:=hid (K2.out.below hb)
 have HB6:=hbt HB5 hb
 clear hb
 have dK21:=K2.out.cell (i:=1) rfl
 go_wp2_with fail
 with_reducible refine(C3.out _ HB6.out).mono ?_
 rintro e W7 ⟨rfl,hb⟩
 clear dK21
 have K1:=hid (K1.out.below hb)
 have K2:=hid (K2.out.below hb)
 have HB7:=hbt HB6 hb
 clear hb
 go_wp2_with fail
 with_reducible refine(C4.out _ HB7.out).mono ?_
 rintro e W8 ⟨rfl,hb⟩
 have K1:=hid (K1.out.below hb)
 have K2:=hid (K2.out.below hb)
 have HB8:=hbt HB7 hb
 clear hb
 go_wp2_with fail
 with_reducible refine(C5.out _ HB8.out).mono ?_
 rintro e W9 ⟨rfl,hb⟩
 have K1:=hid (K1.out.below hb)
 have K2:=hid (K2.out.below hb)
 have HB9:=hbt HB8 hb
 clear hb
 have dK20:=K2.out.cell (i:=0) rfl
 have dK21:=K2.out.cell (i:=1) rfl
 go_wp2_with fail
 with_reducible refine(C6.out _ HB9.out).mono ?_
 rintro e W10 ⟨rfl,hb⟩
 clear dK20 dK21
 have K1:=hid (K1.out.below hb)
 have K2:=hid (K2.out.below hb)
 have HB10:=hbt HB9 hb
 clear hb
 go_upto_region 12 with fail
 refine wp_boxes W10 [(#[.string l,.string u],27)] rfl ?_
 have L3:=K1.out.lt
 have L4:=K2.out.lt
 have L5:=HB10.out.size
 rintro W11 ⟨k3,hb⟩
 have hb:Below W10.heap.size W10 W11:=hb
 have K2:=hid (K2.out.below hb)
 have HB11:=hbt HB10 hb
 have K3:=hid k3
 clear k3 hb
 have dK21:=K2.out.cell (i:=1) rfl
 have dK20:=K2.out.cell (i:=0) rfl
 go_wp2_with fail
 with_reducible refine(C7.out _ HB11.out).mono ?_
 rintro e W12 ⟨rfl,hb⟩
 clear dK21 dK20
 have K2:=hid (K2.out.below hb)
 have K3:=hid (K3.out.below hb)
 have HB12:=hbt HB11 hb
 clear hb
 go_wp2_with fail
 with_reducible refine(C8.out _ HB12.out).mono ?_
 rintro e W13 ⟨rfl,hb⟩
 have K2:=hid (K2.out.below hb)
 have K3:=hid (K3.out.below hb)
 have HB13:=hbt HB12 hb
 clear hb
 go_wp2_with fail
 with_reducible refine(C9.out _ HB13.out).mono ?_
 rintro e W14 ⟨rfl,hb⟩
 have K2:=hid (K2.out.below hb)
 have K3:=hid (K3.out.below hb)
 have HB14:=hbt HB13 hb
 clear hb
 have dK20:=K2.out.cell (i:=0) rfl
 have dK21:=K2.out.cell (i:=1) rfl
 go_wp2_with fail
 with_reducible refine(CA.out _ HB14.out).mono ?_
 rintro e W15 ⟨rfl,hb⟩
 clear dK20 dK21
 have K2:=hid (K2.out.below hb)
 have K3:=hid (K3.out.below hb)
 have HB15:=hbt HB14 hb
 clear hb
 have dK30:=K3.out.cell (i:=0) rfl
 have dK31:=K3.out.cell (i:=1) rfl
 have dK20:=K2.out.cell (i:=0) rfl
 have dK21:=K2.out.cell (i:=1) rfl
 go_wp2
 exact bodyPost_ret (v:=.bool true) (by simp[results,Tryz.results3,go_sem]) rfl ⟨rfl,HB15.out⟩
theorem rbt_ne (x l u lo hi dd kt:ByteArray)(n:Int)(k m:Nat)(w₀:World)(h1:CV w₀ 9 #[.string x,.int .i64 (k:Int)] (.tuple #[.agg #[.string l,.string u],.int .i64 0]))(h2:CV w₀ 10 #[.string l,.string l] (.tuple #[.string lo,.int .i64 0]))(h3:CV w₀ 10 #[.string u,.string u] (.tuple #[.string hi,.int .i64 0]))(h6:CV w₀ 12 #[.agg #[.string l,.string u],.int .i64 (k:Int)] (.tuple #[.agg #[.string l,.string u],.int .i64 0]))(h7:CV w₀ 13 #[.string u,.string l] (.tuple #[.string dd,.int .i64 0]))(h8:CV w₀ 14 #[.int .i64 (k:Int)] (.string kt))(hA:CV w₀ 15 #[.agg #[.string l,.string u]] (.bool true))(h4:CV w₀ 11 #[.string lo,.string x] (.tuple #[.int .i64 (-1),.int .i64 0]))(h5:CV w₀ 11 #[.string hi,.string x] (.tuple #[.int .i64 1,.int .i64 0]))(h9:CV w₀ 10 #[.string dd,.string kt] (.tuple #[.string ⟨#[49]⟩,.int .i64 0]))(hla:Lb w₀)(fl:decide (40<x.size)=false)(e1:IntKind.i64.wrap n=n)(e2:n.tmod 1000=(m:Int))(e3:IntKind.i64.wrap (m:Int)=(m:Int))(e4:(1:Int)+(m:Int)=(k:Int))(e5:IntKind.i64.wrap (k:Int)=(k:Int)) :
 CV w₀ 3 #[.string x,.int .u16 n] (.bool true):=by
 intro w hw
 have C1:=hid (h1.mono hw)
 have C2:=hid (h2.mono hw)
 have C3:=hid (h3.mono hw)
 have C6:=hid (h6.mono hw)
 have C7:=hid (h7.mono hw)
 have C8:=hid (h8.mono hw)
 have CA:=hid (hA.mono hw)
 have C4:=hid (h4.mono hw)
 have C5:=hid (h5.mono hw)
 have C9:=hid (h9.mono hw)
 have HT:=hid (lb_on hla hw)
 have FL:=hid fl
 clear hla fl
 have j1:=e1
 have j2:=e2
 have j3:=e3
 have j4:=e4
 have j5:=e5
 clear e1 e2 e3 e4 e5 h1 h2 h3 h6 h7 h8 hA h4 h5 h9 hw
 go_enter Tryz.func3,Tryz.ntmps3
 have HB0:=hid (Below.refl w.heap.size w)
 go_wp2_with fail
 with_reducible refine((root_awake _ (lb_on HT.out HB0.out)).at).mono ?_
 rintro e W1 ⟨rfl,hb⟩
 have HB1:=hbt HB0 hb
 clear hb
 go_wp2_with fail
 have hb:=below_new W1 (.cells #[.string x] 22)
 have k1:=SBk.new W1 #[.string x] 22
 generalize W1.alloc (.cells #[.string x] 22)=W2 at *
 have HB2:=hbt HB1 hb
 have K1:=hid k1
 clear k1 hb
 with_reducible refine((lgx1 _ x false _ FL.out K1.out)).mono ?_
 rintro e W3 ⟨rfl,hb⟩
 have K1:=hid (K1.out.below hb)
 have HB3:=hbt HB2 hb
 clear hb
 go_wp2_with fail
 with_reducible refine(C1.out _ HB3.out).mono ?_
 rintro e W4 ⟨rfl,hb⟩
 have K1:=hid (K1.out.below hb)
 have HB4:=hbt HB3 hb
 clear hb
 go_upto_region 5 with fail
 refine wp_boxes W4 [(#[.string l,.string u],27)] rfl ?_
 have L1:=K1.out.lt
 have L2:=HB4.out.size
 rintro W5 ⟨k2,hb⟩
 have hb:Below W4.heap.size W4 W5:=hb
 have K1:=hid (K1.out.below hb)
 have HB5:=hbt HB4 hb
 have K2:=hid k2
 clear k2 hb
 have dK20:=K2.out.cell (i:=0) rfl
 go_wp2_with fail
 with_reducible refine(C2.out _ HB5.out).mono ?_
 rintro e W6 ⟨rfl,hb⟩
 clear dK20
 have K1:=hid (K1.out.below hb)
 have K2:=hid (K2.out.below hb)
 have HB6:=hbt HB5 hb
 clear hb
 have dK21:=K2.out.cell (i:=1) rfl
 go_wp2_with fail
 with_reducible refine(C3.out _ HB6.out).mono ?_
 rintro e W7 ⟨rfl,hb⟩
 clear dK21
 have K1:=hid (K1.out.below hb)
 have K2:=hid (K2.out.below hb)
 have HB7:=hbt HB6 hb
 clear hb
 go_wp2_with fail
 with_reducible refine(C4.out _ HB7.out).mono ?_
 rintro e W8 ⟨rfl,hb⟩
 have K1:=hid (K1.out.below hb)
 have K2:=hid (K2.out.below hb)
 have HB8:=hbt HB7 hb
 clear hb
 go_wp2_with fail
 with_reducible refine(C5.out _ HB8.out).mono ?_
 rintro e W9 ⟨rfl,hb⟩
 have K1:=hid (K1.out.below hb)
 have K2:=hid (K2.out.below hb)
 have HB9:=hbt HB8 hb
 clear hb
 have dK20:=K2.out.cell (i:=0) rfl
 have dK21:=K2.out.cell (i:=1) rfl
 go_wp2_with fail
 with_reducible refine(C6.out _ HB9.out).mono ?_
 rintro e W10 ⟨rfl,hb⟩
 clear dK20 dK21
 have K1:=hid (K1.out.below hb)
 have K2:=hid (K2.out.below hb)
 have HB10:=hbt HB9 hb
 clear hb
 go_upto_region 12 with fail
 refine wp_boxes W10 [(#[.string l,.string u],27)] rfl ?_
 have L3:=K1.out.lt
 have L4:=K2.out.lt
 have L5:=HB10.out.size
 rintro W11 ⟨k3,hb⟩
 have hb:Below W10.heap.size W10 W11:=hb
 have K2:=hid (K2.out.below hb)
 have HB11:=hbt HB10 hb
 have K3:=hid k3
 clear k3 hb
 have dK21:=K2.out.cell (i:=1) rfl
 have dK20:=K2.out.cell (i:=0) rfl
 go_wp2_with fail
 with_reducible refine(C7.out _ HB11.out).mono ?_
 rintro e W12 ⟨rfl,hb⟩
 clear dK21 dK20
 have K2:=hid (K2.out.below hb)
 have K3:=hid (K3.out.below hb)
 have HB12:=hbt HB11 hb
 clear hb
 go_wp2_with fail
 with_reducible refine(C8.out _ HB12.out).mono ?_
 rintro e W13 ⟨rfl,hb⟩
 have K2:=hid (K2.out.below hb)
 have K3:=hid (K3.out.below hb)
 have HB13:=hbt HB12 hb
 clear hb
 go_wp2_with fail
 with_reducible refine(C9.out _ HB13.out).mono ?_
 rintro e W14 ⟨rfl,hb⟩
 have K2:=hid (K2.out.below hb)
 have K3:=hid (K3.out.below hb)
 have HB14:=hbt HB13 hb
 clear hb
 have dK20:=K2.out.cell (i:=0) rfl
 have dK21:=K2.out.cell (i:=1) rfl
 go_wp2_with fail
 with_reducible refine(CA.out _ HB14.out).mono ?_
 rintro e W15 ⟨rfl,hb⟩
 clear dK20 dK21
 have K2:=hid (K2.out.below hb)
 have K3:=hid (K3.out.below hb)
 have HB15:=hbt HB14 hb
 clear hb
 have dK30:=K3.out.cell (i:=0) rfl
 have dK31:=K3.out.cell (i:=1) rfl
 have dK20:=K2.out.cell (i:=0) rfl
 have dK21:=K2.out.cell (i:=1) rfl
 go_wp2
 exact bodyPost_ret (v:=.bool true) (by simp[results,Tryz.results3,go_sem]) rfl ⟨rfl,HB15.out⟩
theorem kfacts {n:Int}(M:Nat)(hM:1≤M)(hM2:M≤100000)(n0:0≤n)(n1:n≤65535):∃ k m:Nat,1≤k∧k≤M∧IntKind.i64.wrap n=n∧n.tmod (M:Int)=(m:Int)∧IntKind.i64.wrap (m:Int)=(m:Int)∧(1:Int)+(m:Int)=(k:Int)∧IntKind.i64.wrap (k:Int)=(k:Int):=by
 obtain⟨a,rfl⟩:∃ a:Nat,n=(a:Int):=⟨n.toNat,by omega⟩
 have hlt:=Nat.mod_lt a hM
 refine⟨1+a%M,a%M,by omega,by omega,?_,?_,?_,by omega,?_⟩
 · simp[IntKind.wrap,IntKind.bits,IntKind.signed];omega
 · rw[Int.tmod_eq_emod_of_nonneg (by omega)];exact(Int.natCast_emod a M).symm
 · simp[IntKind.wrap,IntKind.bits,IntKind.signed];omega
 · simp[IntKind.wrap,IntKind.bits,IntKind.signed];omega
theorem cmp_eq0 {x y:Rat}(h:x=y):cmpQ x y=0:=cmpQ_zero.2 h
theorem e_ex {x:Rat}{n:Nat}(hx:0≤x)(hn:1≤n)(h:eX x n=true):eH x n=eK x n∧(eK x n:Rat) / (n:Rat)*((eK x n:Rat) / (n:Rat))=x:=by
 have h1:=(eH_spec (n:=n) hx).2.2 h
 refine⟨h1.1,?_⟩
 have hp:=nat_ne0 hn
 have h2:=h1.2
 grind
theorem e_ne {x:Rat}{n:Nat}(hx:0≤x)(hn:1≤n)(h:eX x n=false):((eH x n:Nat):Rat)=(eK x n:Rat)+1∧(eK x n:Rat) / (n:Rat)*((eK x n:Rat) / (n:Rat))<x∧x<(eH x n:Rat) / (n:Rat)*((eH x n:Rat) / (n:Rat)):=by
 have h1:=(eH_spec (n:=n) hx).2.1 h
 have hp:=rnat_pos hn
 have hpp:=Rat.mul_pos hp hp
 have hs:∀ a:Rat,(a / (n:Rat))*(a / (n:Rat))*((n:Rat)*(n:Rat))=a*a:=by intro a;grind
 refine⟨h1.1,?_,?_⟩
 · have h2:=h1.2.1
   rw[← hs]at h2
   exact(Rat.mul_lt_mul_right hpp).1 h2
 · have h2:=h1.2.2
   rw[← hs (eH x n:Rat)]at h2
   exact(Rat.mul_lt_mul_right hpp).1 h2
theorem sm_eH {x:Rat}{n k:Nat}(h0:0≤x)(hx:SmQ k x)(hn:Sm 10 n)(hk:1≤k):Sm (k+22) (eH x n):=by
 have h:=sm_eK h0 hx hn hk
 unfold eH
 split
 · exact h.mono (by omega)
 · exact h.add ((show Sm 1 1 by unfold Sm;decide).mono (by omega))
theorem sm_k {k:Nat}(h:k≤100000):Sm 10 k:=by
 have h2:(100000:Nat)<10^10:=by decide
 exact Nat.lt_of_le_of_lt h h2
theorem rd_same {a n:Nat}(hn:1≤n):rdQ ((a:Rat) / (n:Rat)) (n:Int)=(a:Rat) / (n:Rat)∧0-rdQ (0-(a:Rat) / (n:Rat)) (n:Int)=(a:Rat) / (n:Rat):=by
 have e:(((n:Nat):Int):Rat)=((n:Nat):Rat):=rfl
 have ea:(((a:Nat):Int):Rat)=((a:Nat):Rat):=rfl
 have hp:=nat_ne0 hn
 constructor
 · rw[rdQ_eq,e,div_mul_n hn,← ea,Rat.floor_intCast]
 · rw[rdQ_eq,e,show(0-(a:Rat) / (n:Rat))*(n:Rat)=(((-(a:Int)):Int):Rat) from by rw[Rat.intCast_neg,ea];grind,Rat.floor_intCast,Rat.intCast_neg,ea]
   grind
theorem rbetween_any (x:ByteArray)(n:Int)(n0:0≤n)(n1:n≤65535)(w:World)(hl:Lb w) :
 CR 3 #[.string x,.int .u16 n] w (.bool true):=by
 by_cases h40:40<x.size
 · exact(rbt_long x n w hl (decide_eq_true h40)).at
 · have hf:decide (40<x.size)=false:=decide_eq_false h40
   obtain⟨k,m,k1,k2,e1,e2,e3,e4,e5⟩:=kfacts 1000 (by decide) (by decide) n0 n1
   rcases form40 x (by omega) with hv|⟨q,rfl,hq⟩
   · exact(rbt_e1 x n k m w (oSqrt_no x _ hv (by omega) w hl.1) hl hf e1 e2 e3 e4 e5).at
   · by_cases hn:q<0
     · exact(rbt_e2 _ n k m w (oSqrt_neg hn hq (by decide) w hl.1) hl hf e1 e2 e3 e4 e5).at
     · have q0:0≤q:=by grind
       have sk:Sm 10 k:=sm_k (by omega)
       have s1:=smq_nat (sm_eK q0 hq sk (by decide)) (by decide)
       have s2:=smq_nat (sm_eH q0 hq sk (by decide)) (by decide)
       have s3:=smq_nat sk (by decide)
       have k0:=nat_ne0 k1
       have d1:=s1.div s3 k0
       have d2:=s2.div s3 k0
       have h1:=oSqrt_n (n:=k) q0 hq (by decide) (by decide) k1 (by omega) w hl.1
       have h2:=qMulC (x:=(eK q k:Rat) / (k:Rat)) (y:=(eK q k:Rat) / (k:Rat)) rfl (d1.fit (by decide)) (d1.fit (by decide)) w hl.1
       have h3:=qMulC (x:=(eH q k:Rat) / (k:Rat)) (y:=(eH q k:Rat) / (k:Rat)) rfl (d2.fit (by decide)) (d2.fit (by decide)) w hl.1
       have hle:(eK q k:Rat) / (k:Rat)≤(eH q k:Rat) / (k:Rat):=by
        refine div_le_div (rnat_pos k1) ?_
        unfold eH
        split
        · exact Rat.le_refl
        · rw[Rat.natCast_add]
          have:((1:Nat):Rat)=1:=rfl
          grind
       have h6:CV w 12 #[.agg #[.string (Sq ((eK q k:Rat) / (k:Rat))),.string (Sq ((eH q k:Rat) / (k:Rat)))],.int .i64 (k:Int)] (.tuple #[.agg #[.string (Sq ((eK q k:Rat) / (k:Rat))),.string (Sq ((eH q k:Rat) / (k:Rat)))],.int .i64 0]):=fun W hW=>by
        have h:=xRound (k:=100) ((eK q k:Rat) / (k:Rat)) ((eH q k:Rat) / (k:Rat)) (k:Int) (by decide) hle (d1.mono (by decide)) (d2.mono (by decide)) (by omega) (by omega) W (hl.1.on hW)
        rw[(rd_same k1).1,(rd_same k1).2]at h
        exact h
       have h7:=qSubC (x:=(eH q k:Rat) / (k:Rat)) (y:=(eK q k:Rat) / (k:Rat)) rfl (d2.fit (by decide)) (d1.fit (by decide)) w hl.1
       have h8:=onumber k k1 (by omega) w
       rw[sn_sq]at h8
       have h9:=qMulC (x:=(eH q k:Rat) / (k:Rat)-(eK q k:Rat) / (k:Rat)) (y:=(k:Rat)) rfl ((d2.sub d1).fit (by decide)) (s3.fit (by decide)) w hl.1
       have hA:CV w 15 #[.agg #[.string (Sq ((eK q k:Rat) / (k:Rat))),.string (Sq ((eH q k:Rat) / (k:Rat)))]] (.bool true):=fun W hW=>xValid_yes _ _ hle (d1.fit (by decide)) (d2.fit (by decide)) W (hl.1.on hW)
       cases he:eX q k with
       | true =>
         have hx:=e_ex q0 k1 he
         have h4:=qCmpC (cmp_eq0 hx.2) ((d1.mul d1).fit (by decide)) (hq.fit (by decide)) w hl.1
         have h5:=qCmpC (x:=(eH q k:Rat) / (k:Rat)*((eH q k:Rat) / (k:Rat))) (y:=q) (cmp_eq0 (by rw[hx.1];exact hx.2)) ((d2.mul d2).fit (by decide)) (hq.fit (by decide)) w hl.1
         rw[show((eH q k:Rat) / (k:Rat)-(eK q k:Rat) / (k:Rat))*(k:Rat)=0 from by rw[hx.1];grind,sq_nil]at h9
         exact(rbt_eq _ _ _ _ _ _ _ n k m w h1 h2 h3 h6 h7 h8 hA h4 h5 h9 hl hf e1 e2 e3 e4 e5).at
       | false =>
         have hx:=e_ne q0 k1 he
         have h4:=qCmpC (cmpQ_lt hx.2.1) ((d1.mul d1).fit (by decide)) (hq.fit (by decide)) w hl.1
         have h5:=qCmpC (cmpQ_gt hx.2.2) ((d2.mul d2).fit (by decide)) (hq.fit (by decide)) w hl.1
         rw[show((eH q k:Rat) / (k:Rat)-(eK q k:Rat) / (k:Rat))*(k:Rat)=1 from by rw[hx.1];grind,sq_one]at h9
         exact(rbt_ne _ _ _ _ _ _ _ n k m w h1 h2 h3 h6 h7 h8 hA h4 h5 h9 hl hf e1 e2 e3 e4 e5).at
end Go.Proofs.YtggoeabhbkbadaaGreatDoor
