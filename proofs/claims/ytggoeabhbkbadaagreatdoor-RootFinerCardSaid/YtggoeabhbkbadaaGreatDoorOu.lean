/- garboardlaw05.RootFiner returns true: walks. -/
import Derived.Test.YtggoeabhbkbadaaGreatDoorOt
set_option maxRecDepth 100000
set_option maxHeartbeats 20000000
open Go.Lib (hid)
namespace Go.Proofs.YtggoeabhbkbadaaGreatDoor
open Go.RowKit Go.Gb
theorem rfn_long (x y:ByteArray)(n k:Int)(w₀:World)  (hla:Lb w₀)(fl:decide (40<x.size∨40<y.size)=true)  :
 CV w₀ 5 #[.string x,.string y,.int .u8 n,.int .u8 k] (.bool true):=by
 intro w hw
 have HT:=hid (lb_on hla hw)
 have FL:=hid fl
 clear hla fl hw
 go_enter Tryz.func5,Tryz.ntmps5
 have HB0:=hid (Below.refl w.heap.size w)
 go_wp2_with fail
 with_reducible refine((root_awake _ (lb_on HT.out HB0.out)).at).mono ?_
 rintro e W1 ⟨rfl,hb⟩
 have HB1:=hbt HB0 hb
 clear hb
 go_wp2_with fail
 have hb:=below_new W1 (.cells #[.string x,.string y] 22)
 have k1:=SBk.new W1 #[.string x,.string y] 22
 generalize W1.alloc (.cells #[.string x,.string y] 22)=W2 at *
 have HB2:=hbt HB1 hb
 have K1:=hid k1
 clear k1 hb
 with_reducible refine((lgx2 _ x y true _ FL.out K1.out)).mono ?_
 rintro e W3 ⟨rfl,hb⟩
 have HB3:=hbt HB2 hb
 clear hb
 go_wp2_with fail
 with_reducible refine((root_awake _ (lb_on HT.out HB3.out)).at).mono ?_
 rintro e W4 ⟨rfl,hb⟩
 have HB4:=hbt HB3 hb
 clear hb
 go_wp2
 exact bodyPost_ret (v:=.bool true) (by simp[results,Tryz.results5,go_sem]) rfl ⟨rfl,HB4.out⟩
theorem rfn_e1 (x y:ByteArray)(n k:Int)(na kb d m dm:Nat)(w₀:World)(h1:CV w₀ 9 #[.string x,.int .i64 (d:Int)] (.tuple #[.agg #[.string ⟨#[]⟩,.string ⟨#[]⟩],.int .i64 1]))(h2:CV w₀ 9 #[.string x,.int .i64 (dm:Int)] (.tuple #[.agg #[.string ⟨#[]⟩,.string ⟨#[]⟩],.int .i64 1]))(hla:Lb w₀)(fl:decide (40<x.size∨40<y.size)=false)(e1:IntKind.i64.wrap n=n)(e2:n.tmod 50=(na:Int))(e3:IntKind.i64.wrap (na:Int)=(na:Int))(e4:(1:Int)+(na:Int)=(d:Int))(e5:IntKind.i64.wrap (d:Int)=(d:Int))(v1:IntKind.i64.wrap k=k)(v2:k.tmod 20=(kb:Int))(v3:IntKind.i64.wrap (kb:Int)=(kb:Int))(v4:(1:Int)+(kb:Int)=(m:Int))(v5:IntKind.i64.wrap (m:Int)=(m:Int))(c1:(d:Int)*(m:Int)=(dm:Int))(c2:IntKind.i64.wrap (dm:Int)=(dm:Int)) :
 CV w₀ 5 #[.string x,.string y,.int .u8 n,.int .u8 k] (.bool true):=by
 intro w hw
 have C1:=hid (h1.mono hw)
 have C2:=hid (h2.mono hw)
 have HT:=hid (lb_on hla hw)
 have FL:=hid fl
 clear hla fl
 have j1:=e1
 have j2:=e2
 have j3:=e3
 have j4:=e4
 have j5:=e5
 clear e1 e2 e3 e4 e5
 have i1:=v1
 have i2:=v2
 have i3:=v3
 have i4:=v4
 have i5:=v5
 clear v1 v2 v3 v4 v5
 have o1:=c1
 have o2:=c2
 clear c1 c2 h1 h2 hw
 go_enter Tryz.func5,Tryz.ntmps5
 have HB0:=hid (Below.refl w.heap.size w)
 go_wp2_with fail
 with_reducible refine((root_awake _ (lb_on HT.out HB0.out)).at).mono ?_
 rintro e W1 ⟨rfl,hb⟩
 have HB1:=hbt HB0 hb
 clear hb
 go_wp2_with fail
 have hb:=below_new W1 (.cells #[.string x,.string y] 22)
 have k1:=SBk.new W1 #[.string x,.string y] 22
 generalize W1.alloc (.cells #[.string x,.string y] 22)=W2 at *
 have HB2:=hbt HB1 hb
 have K1:=hid k1
 clear k1 hb
 with_reducible refine((lgx2 _ x y false _ FL.out K1.out)).mono ?_
 rintro e W3 ⟨rfl,hb⟩
 have K1:=hid (K1.out.below hb)
 have HB3:=hbt HB2 hb
 clear hb
 go_wp2_with fail
 with_reducible refine(C1.out _ HB3.out).mono ?_
 rintro e W4 ⟨rfl,hb⟩
 have K1:=hid (K1.out.below hb)
 have HB4:=hbt HB3 hb
 clear hb
 go_upto_region 5 with fail
 refine wp_boxes W4 [(#[.string ⟨#[]⟩,.string ⟨#[]⟩],27)] rfl ?_
 have L1:=K1.out.lt
 have L2:=HB4.out.size
 rintro W5 ⟨k2,hb⟩
 have hb:Below W4.heap.size W4 W5:=hb
 have K1:=hid (K1.out.below hb)
 have HB5:=hbt HB4 hb
 have K2:=hid k2
 clear k2 hb
 go_wp2_with fail
 with_reducible refine(C2.out _ HB5.out).mono ?_
 rintro e W6 ⟨rfl,hb⟩
 have K1:=hid (K1.out.below hb)
 have K2:=hid (K2.out.below hb)
 have HB6:=hbt HB5 hb
 clear hb
 go_upto_region 6 with fail
 refine wp_boxes W6 [(#[.string ⟨#[]⟩,.string ⟨#[]⟩],27)] rfl ?_
 have L3:=K1.out.lt
 have L4:=K2.out.lt
 have L5:=HB6.out.size
 rintro W7 ⟨k3,hb⟩
 have hb:Below W6.heap.size W6 W7:=hb
 have HB7:=hbt HB6 hb
 have K3:=hid k3
 clear k3 hb
 go_wp2
 exact bodyPost_ret (v:=.bool true) (by simp[results,Tryz.results5,go_sem]) rfl ⟨rfl,HB7.out⟩
theorem rfn_e2 (x y:ByteArray)(n k:Int)(na kb d m dm:Nat)(w₀:World)(h1:CV w₀ 9 #[.string x,.int .i64 (d:Int)] (.tuple #[.agg #[.string ⟨#[]⟩,.string ⟨#[]⟩],.int .i64 2]))(h2:CV w₀ 9 #[.string x,.int .i64 (dm:Int)] (.tuple #[.agg #[.string ⟨#[]⟩,.string ⟨#[]⟩],.int .i64 2]))(hla:Lb w₀)(fl:decide (40<x.size∨40<y.size)=false)(e1:IntKind.i64.wrap n=n)(e2:n.tmod 50=(na:Int))(e3:IntKind.i64.wrap (na:Int)=(na:Int))(e4:(1:Int)+(na:Int)=(d:Int))(e5:IntKind.i64.wrap (d:Int)=(d:Int))(v1:IntKind.i64.wrap k=k)(v2:k.tmod 20=(kb:Int))(v3:IntKind.i64.wrap (kb:Int)=(kb:Int))(v4:(1:Int)+(kb:Int)=(m:Int))(v5:IntKind.i64.wrap (m:Int)=(m:Int))(c1:(d:Int)*(m:Int)=(dm:Int))(c2:IntKind.i64.wrap (dm:Int)=(dm:Int)) :
 CV w₀ 5 #[.string x,.string y,.int .u8 n,.int .u8 k] (.bool true):=by
 intro w hw
 have C1:=hid (h1.mono hw)
 have C2:=hid (h2.mono hw)
 have HT:=hid (lb_on hla hw)
 have FL:=hid fl
 clear hla fl
 have j1:=e1
 have j2:=e2
 have j3:=e3
 have j4:=e4
 have j5:=e5
 clear e1 e2 e3 e4 e5
 have i1:=v1
 have i2:=v2
 have i3:=v3
 have i4:=v4
 have i5:=v5
 clear v1 v2 v3 v4 v5
 have o1:=c1
 have o2:=c2
 clear c1 c2 h1 h2 hw
 go_enter Tryz.func5,Tryz.ntmps5
 have HB0:=hid (Below.refl w.heap.size w)
 go_wp2_with fail
 with_reducible refine((root_awake _ (lb_on HT.out HB0.out)).at).mono ?_
 rintro e W1 ⟨rfl,hb⟩
 have HB1:=hbt HB0 hb
 clear hb
 go_wp2_with fail
 have hb:=below_new W1 (.cells #[.string x,.string y] 22)
 have k1:=SBk.new W1 #[.string x,.string y] 22
 generalize W1.alloc (.cells #[.string x,.string y] 22)=W2 at *
 have HB2:=hbt HB1 hb
 have K1:=hid k1
 clear k1 hb
 with_reducible refine((lgx2 _ x y false _ FL.out K1.out)).mono ?_
 rintro e W3 ⟨rfl,hb⟩
 have K1:=hid (K1.out.below hb)
 have HB3:=hbt HB2 hb
 clear hb
 go_wp2_with fail
 with_reducible refine(C1.out _ HB3.out).mono ?_
 rintro e W4 ⟨rfl,hb⟩
 have K1:=hid (K1.out.below hb)
 have HB4:=hbt HB3 hb
 clear hb
 go_upto_region 5 with fail
 refine wp_boxes W4 [(#[.string ⟨#[]⟩,.string ⟨#[]⟩],27)] rfl ?_
 have L1:=K1.out.lt
 have L2:=HB4.out.size
 rintro W5 ⟨k2,hb⟩
 have hb:Below W4.heap.size W4 W5:=hb
 have K1:=hid (K1.out.below hb)
 have HB5:=hbt HB4 hb
 have K2:=hid k2
 clear k2 hb
 go_wp2_with fail
 with_reducible refine(C2.out _ HB5.out).mono ?_
 rintro e W6 ⟨rfl,hb⟩
 have K1:=hid (K1.out.below hb)
 have K2:=hid (K2.out.below hb)
 have HB6:=hbt HB5 hb
 clear hb
 go_upto_region 6 with fail
 refine wp_boxes W6 [(#[.string ⟨#[]⟩,.string ⟨#[]⟩],27)] rfl ?_
 have L3:=K1.out.lt
 have L4:=K2.out.lt
 have L5:=HB6.out.size
 rintro W7 ⟨k3,hb⟩
 have hb:Below W6.heap.size W6 W7:=hb
 have HB7:=hbt HB6 hb
 have K3:=hid k3
 clear k3 hb
 go_wp2
 exact bodyPost_ret (v:=.bool true) (by simp[results,Tryz.results5,go_sem]) rfl ⟨rfl,HB7.out⟩
theorem rfn_y1 (x y l u p q:ByteArray)(c:Int)(n k:Int)(na kb d m dm:Nat)(w₀:World)(h1:CV w₀ 9 #[.string x,.int .i64 (d:Int)] (.tuple #[.agg #[.string l,.string u],.int .i64 0]))(h2:CV w₀ 9 #[.string x,.int .i64 (dm:Int)] (.tuple #[.agg #[.string p,.string q],.int .i64 0]))(h3:CV w₀ 18 #[.agg #[.string l,.string u],.agg #[.string p,.string q]] (.tuple #[.agg #[.string p,.string q],.bool true]))(h4:CV w₀ 9 #[.string y,.int .i64 (d:Int)] (.tuple #[.agg #[.string ⟨#[]⟩,.string ⟨#[]⟩],.int .i64 1]))(h5:CV w₀ 11 #[.string x,.string y] (.tuple #[.int .i64 c,.int .i64 1]))(hla:Lb w₀)(fl:decide (40<x.size∨40<y.size)=false)(e1:IntKind.i64.wrap n=n)(e2:n.tmod 50=(na:Int))(e3:IntKind.i64.wrap (na:Int)=(na:Int))(e4:(1:Int)+(na:Int)=(d:Int))(e5:IntKind.i64.wrap (d:Int)=(d:Int))(v1:IntKind.i64.wrap k=k)(v2:k.tmod 20=(kb:Int))(v3:IntKind.i64.wrap (kb:Int)=(kb:Int))(v4:(1:Int)+(kb:Int)=(m:Int))(v5:IntKind.i64.wrap (m:Int)=(m:Int))(c1:(d:Int)*(m:Int)=(dm:Int))(c2:IntKind.i64.wrap (dm:Int)=(dm:Int)) :
 CV w₀ 5 #[.string x,.string y,.int .u8 n,.int .u8 k] (.bool true):=by
 intro w hw
 have C1:=hid (h1.mono hw)
 have C2:=hid (h2.mono hw)
 have C3:=hid (h3.mono hw)
 have C4:=hid (h4.mono hw)
 have C5:=hid (h5.mono hw)
 have HT:=hid (lb_on hla hw)
 have FL:=hid fl
 clear hla fl
 have j1:=e1
 have j2:=e2
 have j3:=e3
 have j4:=e4
 have j5:=e5
 clear e1 e2 e3 e4 e5
 have i1:=v1
 have i2:=v2
 have i3:=v3
 have i4:=v4
 have i5:=v5
 clear v1 v2 v3 v4 v5
 have o1:=c1
 have o2:=c2
 clear c1 c2 h1 h2 h3 h4 h5 hw
 go_enter Tryz.func5,Tryz.ntmps5
 have HB0:=hid (Below.refl w.heap.size w)
 go_wp2_with fail
 with_reducible refine((root_awake _ (lb_on HT.out HB0.out)).at).mono ?_
 rintro e W1 ⟨rfl,hb⟩
 have HB1:=hbt HB0 hb
 clear hb
 go_wp2_with fail
 have hb:=below_new W1 (.cells #[.string x,.string y] 22)
 have k1:=SBk.new W1 #[.string x,.string y] 22
 generalize W1.alloc (.cells #[.string x,.string y] 22)=W2 at *
 have HB2:=hbt HB1 hb
 have K1:=hid k1
 clear k1 hb
 with_reducible refine((lgx2 _ x y false _ FL.out K1.out)).mono ?_
 rintro e W3 ⟨rfl,hb⟩
 have K1:=hid (K1.out.below hb)
 have HB3:=hbt HB2 hb
 clear hb
 go_wp2_with fail
 with_reducible refine(C1.out _ HB3.out).mono ?_
 rintro e W4 ⟨rfl,hb⟩
 have K1:=hid (K1.out.below hb)
 have HB4:=hbt HB3 hb
 clear hb
 go_upto_region 5 with fail
 refine wp_boxes W4 [(#[.string l,.string u],27)] rfl ?_
 have L1:=K1.out.lt
 have L2:=HB4.out.size
 rintro W5 ⟨k2,hb⟩
 have hb:Below W4.heap.size W4 W5:=hb
 have K1:=hid (K1.out.below hb)
 have HB5:=hbt HB4 hb
 have K2:=hid k2
 clear k2 hb
 go_wp2_with fail
 with_reducible refine(C2.out _ HB5.out).mono ?_
 rintro e W6 ⟨rfl,hb⟩
 have K1:=hid (K1.out.below hb)
 have K2:=hid (K2.out.below hb)
 have HB6:=hbt HB5 hb
 clear hb
 go_upto_region 6 with fail
 refine wp_boxes W6 [(#[.string p,.string q],27)] rfl ?_
 have L3:=K1.out.lt
 have L4:=K2.out.lt
 have L5:=HB6.out.size
 rintro W7 ⟨k3,hb⟩
 have hb:Below W6.heap.size W6 W7:=hb
 have K1:=hid (K1.out.below hb)
 have K2:=hid (K2.out.below hb)
 have HB7:=hbt HB6 hb
 have K3:=hid k3
 clear k3 hb
 have dK20:=K2.out.cell (i:=0) rfl
 have dK21:=K2.out.cell (i:=1) rfl
 have dK30:=K3.out.cell (i:=0) rfl
 have dK31:=K3.out.cell (i:=1) rfl
 go_wp2_with fail
 with_reducible refine(C3.out _ HB7.out).mono ?_
 rintro e W8 ⟨rfl,hb⟩
 clear dK20 dK21 dK30 dK31
 have K1:=hid (K1.out.below hb)
 have K2:=hid (K2.out.below hb)
 have K3:=hid (K3.out.below hb)
 have HB8:=hbt HB7 hb
 clear hb
 go_upto_region 9 with fail
 refine wp_boxes W8 [(#[.string p,.string q],27)] rfl ?_
 have L6:=K1.out.lt
 have L7:=K2.out.lt
 have L8:=K3.out.lt
 have L9:=HB8.out.size
 rintro W9 ⟨k4,hb⟩
 have hb:Below W8.heap.size W8 W9:=hb
 have K1:=hid (K1.out.below hb)
 have K2:=hid (K2.out.below hb)
 have K3:=hid (K3.out.below hb)
 have HB9:=hbt HB8 hb
 have K4:=hid k4
 clear k4 hb
 have dK40:=K4.out.cell (i:=0) rfl
 have dK41:=K4.out.cell (i:=1) rfl
 have dK30:=K3.out.cell (i:=0) rfl
 have dK31:=K3.out.cell (i:=1) rfl
 go_wp2_with fail
 with_reducible refine(C4.out _ HB9.out).mono ?_
 rintro e W10 ⟨rfl,hb⟩
 clear dK40 dK41 dK30 dK31
 have K1:=hid (K1.out.below hb)
 have K2:=hid (K2.out.below hb)
 have K3:=hid (K3.out.below hb)
 have K4:=hid (K4.out.below hb)
 have HB10:=hbt HB9 hb
 clear hb
 go_upto_region 12 with fail
 refine wp_boxes W10 [(#[.string ⟨#[]⟩,.string ⟨#[]⟩],27)] rfl ?_
 have L10:=K1.out.lt
 have L11:=K2.out.lt
 have L12:=K3.out.lt
 have L13:=K4.out.lt
 have L14:=HB10.out.size
 rintro W11 ⟨k5,hb⟩
 have hb:Below W10.heap.size W10 W11:=hb
 have HB11:=hbt HB10 hb
 have K5:=hid k5
 clear k5 hb
 go_wp2_with fail
 with_reducible refine(C5.out _ HB11.out).mono ?_
 rintro e W12 ⟨rfl,hb⟩
 have HB12:=hbt HB11 hb
 clear hb
 go_wp2
 exact bodyPost_ret (v:=.bool true) (by simp[results,Tryz.results5,go_sem]) rfl ⟨rfl,HB12.out⟩
theorem rfn_y2 (x y l u p q:ByteArray)(c:Int)(n k:Int)(na kb d m dm:Nat)(w₀:World)(h1:CV w₀ 9 #[.string x,.int .i64 (d:Int)] (.tuple #[.agg #[.string l,.string u],.int .i64 0]))(h2:CV w₀ 9 #[.string x,.int .i64 (dm:Int)] (.tuple #[.agg #[.string p,.string q],.int .i64 0]))(h3:CV w₀ 18 #[.agg #[.string l,.string u],.agg #[.string p,.string q]] (.tuple #[.agg #[.string p,.string q],.bool true]))(h4:CV w₀ 9 #[.string y,.int .i64 (d:Int)] (.tuple #[.agg #[.string ⟨#[]⟩,.string ⟨#[]⟩],.int .i64 2]))(h5:CV w₀ 11 #[.string x,.string y] (.tuple #[.int .i64 c,.int .i64 0]))(hla:Lb w₀)(fl:decide (40<x.size∨40<y.size)=false)(e1:IntKind.i64.wrap n=n)(e2:n.tmod 50=(na:Int))(e3:IntKind.i64.wrap (na:Int)=(na:Int))(e4:(1:Int)+(na:Int)=(d:Int))(e5:IntKind.i64.wrap (d:Int)=(d:Int))(v1:IntKind.i64.wrap k=k)(v2:k.tmod 20=(kb:Int))(v3:IntKind.i64.wrap (kb:Int)=(kb:Int))(v4:(1:Int)+(kb:Int)=(m:Int))(v5:IntKind.i64.wrap (m:Int)=(m:Int))(c1:(d:Int)*(m:Int)=(dm:Int))(c2:IntKind.i64.wrap (dm:Int)=(dm:Int)) :
 CV w₀ 5 #[.string x,.string y,.int .u8 n,.int .u8 k] (.bool true):=by
 intro w hw
 have C1:=hid (h1.mono hw)
 have C2:=hid (h2.mono hw)
 have C3:=hid (h3.mono hw)
 have C4:=hid (h4.mono hw)
 have C5:=hid (h5.mono hw)
 have HT:=hid (lb_on hla hw)
 have FL:=hid fl
 clear hla fl
 have j1:=e1
 have j2:=e2
 have j3:=e3
 have j4:=e4
 have j5:=e5
 clear e1 e2 e3 e4 e5
 have i1:=v1
 have i2:=v2
 have i3:=v3
 have i4:=v4
 have i5:=v5
 clear v1 v2 v3 v4 v5
 have o1:=c1
 have o2:=c2
 clear c1 c2 h1 h2 h3 h4 h5 hw
 go_enter Tryz.func5,Tryz.ntmps5
 have HB0:=hid (Below.refl w.heap.size w)
 go_wp2_with fail
 with_reducible refine((root_awake _ (lb_on HT.out HB0.out)).at).mono ?_
 rintro e W1 ⟨rfl,hb⟩
 have HB1:=hbt HB0 hb
 clear hb
 go_wp2_with fail
 have hb:=below_new W1 (.cells #[.string x,.string y] 22)
 have k1:=SBk.new W1 #[.string x,.string y] 22
 generalize W1.alloc (.cells #[.string x,.string y] 22)=W2 at *
 have HB2:=hbt HB1 hb
 have K1:=hid k1
 clear k1 hb
 with_reducible refine((lgx2 _ x y false _ FL.out K1.out)).mono ?_
 rintro e W3 ⟨rfl,hb⟩
 have K1:=hid (K1.out.below hb)
 have HB3:=hbt HB2 hb
 clear hb
 go_wp2_with fail
 with_reducible refine(C1.out _ HB3.out).mono ?_
 rintro e W4 ⟨rfl,hb⟩
 have K1:=hid (K1.out.below hb)
 have HB4:=hbt HB3 hb
 clear hb
 go_upto_region 5 with fail
 refine wp_boxes W4 [(#[.string l,.string u],27)] rfl ?_
 have L1:=K1.out.lt
 have L2:=HB4.out.size
 rintro W5 ⟨k2,hb⟩
 have hb:Below W4.heap.size W4 W5:=hb
 have K1:=hid (K1.out.below hb)
 have HB5:=hbt HB4 hb
 have K2:=hid k2
 clear k2 hb
 go_wp2_with fail
 with_reducible refine(C2.out _ HB5.out).mono ?_
 rintro e W6 ⟨rfl,hb⟩
 have K1:=hid (K1.out.below hb)
 have K2:=hid (K2.out.below hb)
 have HB6:=hbt HB5 hb
 clear hb
 go_upto_region 6 with fail
 refine wp_boxes W6 [(#[.string p,.string q],27)] rfl ?_
 have L3:=K1.out.lt
 have L4:=K2.out.lt
 have L5:=HB6.out.size
 rintro W7 ⟨k3,hb⟩
 have hb:Below W6.heap.size W6 W7:=hb
 have K1:=hid (K1.out.below hb)
 have K2:=hid (K2.out.below hb)
 have HB7:=hbt HB6 hb
 have K3:=hid k3
 clear k3 hb
 have dK20:=K2.out.cell (i:=0) rfl
 have dK21:=K2.out.cell (i:=1) rfl
 have dK30:=K3.out.cell (i:=0) rfl
 have dK31:=K3.out.cell (i:=1) rfl
 go_wp2_with fail
 with_reducible refine(C3.out _ HB7.out).mono ?_
 rintro e W8 ⟨rfl,hb⟩
 clear dK20 dK21 dK30 dK31
 have K1:=hid (K1.out.below hb)
 have K2:=hid (K2.out.below hb)
 have K3:=hid (K3.out.below hb)
 have HB8:=hbt HB7 hb
 clear hb
 go_upto_region 9 with fail
 refine wp_boxes W8 [(#[.string p,.string q],27)] rfl ?_
 have L6:=K1.out.lt
 have L7:=K2.out.lt
 have L8:=K3.out.lt
 have L9:=HB8.out.size
 rintro W9 ⟨k4,hb⟩
 have hb:Below W8.heap.size W8 W9:=hb
 have K1:=hid (K1.out.below hb)
 have K2:=hid (K2.out.below hb)
 have K3:=hid (K3.out.below hb)
 have HB9:=hbt HB8 hb
 have K4:=hid k4
 clear k4 hb
 have dK40:=K4.out.cell (i:=0) rfl
 have dK41:=K4.out.cell (i:=1) rfl
 have dK30:=K3.out.cell (i:=0) rfl
 have dK31:=K3.out.cell (i:=1) rfl
 go_wp2_with fail
 with_reducible refine(C4.out _ HB9.out).mono ?_
 rintro e W10 ⟨rfl,hb⟩
 clear dK40 dK41 dK30 dK31
 have K1:=hid (K1.out.below hb)
 have K2:=hid (K2.out.below hb)
 have K3:=hid (K3.out.below hb)
 have K4:=hid (K4.out.below hb)
 have HB10:=hbt HB9 hb
 clear hb
 go_upto_region 12 with fail
 refine wp_boxes W10 [(#[.string ⟨#[]⟩,.string ⟨#[]⟩],27)] rfl ?_
 have L10:=K1.out.lt
 have L11:=K2.out.lt
 have L12:=K3.out.lt
 have L13:=K4.out.lt
 have L14:=HB10.out.size
 rintro W11 ⟨k5,hb⟩
 have hb:Below W10.heap.size W10 W11:=hb
 have HB11:=hbt HB10 hb
 have K5:=hid k5
 clear k5 hb
 go_wp2_with fail
 with_reducible refine(C5.out _ HB11.out).mono ?_
 rintro e W12 ⟨rfl,hb⟩
 have HB12:=hbt HB11 hb
 clear hb
 go_wp2
 exact bodyPost_ret (v:=.bool true) (by simp[results,Tryz.results5,go_sem]) rfl ⟨rfl,HB12.out⟩
theorem rfn_gt (x y l u p q r t:ByteArray)(n k:Int)(na kb d m dm:Nat)(w₀:World)(h1:CV w₀ 9 #[.string x,.int .i64 (d:Int)] (.tuple #[.agg #[.string l,.string u],.int .i64 0]))(h2:CV w₀ 9 #[.string x,.int .i64 (dm:Int)] (.tuple #[.agg #[.string p,.string q],.int .i64 0]))(h3:CV w₀ 18 #[.agg #[.string l,.string u],.agg #[.string p,.string q]] (.tuple #[.agg #[.string p,.string q],.bool true]))(h4:CV w₀ 9 #[.string y,.int .i64 (d:Int)] (.tuple #[.agg #[.string r,.string t],.int .i64 0]))(h5:CV w₀ 11 #[.string x,.string y] (.tuple #[.int .i64 1,.int .i64 0]))(hla:Lb w₀)(fl:decide (40<x.size∨40<y.size)=false)(e1:IntKind.i64.wrap n=n)(e2:n.tmod 50=(na:Int))(e3:IntKind.i64.wrap (na:Int)=(na:Int))(e4:(1:Int)+(na:Int)=(d:Int))(e5:IntKind.i64.wrap (d:Int)=(d:Int))(v1:IntKind.i64.wrap k=k)(v2:k.tmod 20=(kb:Int))(v3:IntKind.i64.wrap (kb:Int)=(kb:Int))(v4:(1:Int)+(kb:Int)=(m:Int))(v5:IntKind.i64.wrap (m:Int)=(m:Int))(c1:(d:Int)*(m:Int)=(dm:Int))(c2:IntKind.i64.wrap (dm:Int)=(dm:Int)) :
 CV w₀ 5 #[.string x,.string y,.int .u8 n,.int .u8 k] (.bool true):=by
 intro w hw
 have C1:=hid (h1.mono hw)
 have C2:=hid (h2.mono hw)
 have C3:=hid (h3.mono hw)
 have C4:=hid (h4.mono hw)
 have C5:=hid (h5.mono hw)
 have HT:=hid (lb_on hla hw)
 have FL:=hid fl
 clear hla fl
 have j1:=e1
 have j2:=e2
 have j3:=e3
 have j4:=e4
 have j5:=e5
 clear e1 e2 e3 e4 e5
 have i1:=v1
 have i2:=v2
 have i3:=v3
 have i4:=v4
 have i5:=v5
 clear v1 v2 v3 v4 v5
 have o1:=c1
 have o2:=c2
 clear c1 c2 h1 h2 h3 h4 h5 hw
 go_enter Tryz.func5,Tryz.ntmps5
 have HB0:=hid (Below.refl w.heap.size w)
 go_wp2_with fail
 with_reducible refine((root_awake _ (lb_on HT.out HB0.out)).at).mono ?_
 rintro e W1 ⟨rfl,hb⟩
 have HB1:=hbt HB0 hb
 clear hb
 go_wp2_with fail
 have hb:=below_new W1 (.cells #[.string x,.string y] 22)
 have k1:=SBk.new W1 #[.string x,.string y] 22
 generalize W1.alloc (.cells #[.string x,.string y] 22)=W2 at *
 have HB2:=hbt HB1 hb
 have K1:=hid k1
 clear k1 hb
 with_reducible refine((lgx2 _ x y false _ FL.out K1.out)).mono ?_
 rintro e W3 ⟨rfl,hb⟩
 have K1:=hid (K1.out.below hb)
 have HB3:=hbt HB2 hb
 clear hb
 go_wp2_with fail
 with_reducible refine(C1.out _ HB3.out).mono ?_
 rintro e W4 ⟨rfl,hb⟩
 have K1:=hid (K1.out.below hb)
 have HB4:=hbt HB3 hb
 clear hb
 go_upto_region 5 with fail
 refine wp_boxes W4 [(#[.string l,.string u],27)] rfl ?_
 have L1:=K1.out.lt
 have L2:=HB4.out.size
 rintro W5 ⟨k2,hb⟩
 have hb:Below W4.heap.size W4 W5:=hb
 have K1:=hid (K1.out.below hb)
 have HB5:=hbt HB4 hb
 have K2:=hid k2
 clear k2 hb
 go_wp2_with fail
 with_reducible refine(C2.out _ HB5.out).mono ?_
 rintro e W6 ⟨rfl,hb⟩
 have K1:=hid (K1.out.below hb)
 have K2:=hid (K2.out.below hb)
 have HB6:=hbt HB5 hb
 clear hb
 go_upto_region 6 with fail
 refine wp_boxes W6 [(#[.string p,.string q],27)] rfl ?_
 have L3:=K1.out.lt
 have L4:=K2.out.lt
 have L5:=HB6.out.size
 rintro W7 ⟨k3,hb⟩
 have hb:Below W6.heap.size W6 W7:=hb
 have K1:=hid (K1.out.below hb)
 have K2:=hid (K2.out.below hb)
 have HB7:=hbt HB6 hb
 have K3:=hid k3
 clear k3 hb
 have dK20:=K2.out.cell (i:=0) rfl
 have dK21:=K2.out.cell (i:=1) rfl
 have dK30:=K3.out.cell (i:=0) rfl
 have dK31:=K3.out.cell (i:=1) rfl
 go_wp2_with fail
 with_reducible refine(C3.out _ HB7.out).mono ?_
 rintro e W8 ⟨rfl,hb⟩
 clear dK20 dK21 dK30 dK31
 have K1:=hid (K1.out.below hb)
 have K2:=hid (K2.out.below hb)
 have K3:=hid (K3.out.below hb)
 have HB8:=hbt HB7 hb
 clear hb
 go_upto_region 9 with fail
 refine wp_boxes W8 [(#[.string p,.string q],27)] rfl ?_
 have L6:=K1.out.lt
 have L7:=K2.out.lt
 have L8:=K3.out.lt
 have L9:=HB8.out.size
 rintro W9 ⟨k4,hb⟩
 have hb:Below W8.heap.size W8 W9:=hb
 have K1:=hid (K1.out.below hb)
 have K2:=hid (K2.out.below hb)
 have K3:=hid (K3.out.below hb)
 have HB9:=hbt HB8 hb
 have K4:=hid k4
 clear k4 hb
 have dK40:=K4.out.cell (i:=0) rfl
 have dK41:=K4.out.cell (i:=1) rfl
 have dK30:=K3.out.cell (i:=0) rfl
 have dK31:=K3.out.cell (i:=1) rfl
 go_wp2_with fail
 with_reducible refine(C4.out _ HB9.out).mono ?_
 rintro e W10 ⟨rfl,hb⟩
 clear dK40 dK41 dK30 dK31
 have K1:=hid (K1.out.below hb)
 have K2:=hid (K2.out.below hb)
 have K3:=hid (K3.out.below hb)
 have K4:=hid (K4.out.below hb)
 have HB10:=hbt HB9 hb
 clear hb
 go_upto_region 12 with fail
 refine wp_boxes W10 [(#[.string r,.string t],27)] rfl ?_
 have L10:=K1.out.lt
 have L11:=K2.out.lt
 have L12:=K3.out.lt
 have L13:=K4.out.lt
 have L14:=HB10.out.size
 rintro W11 ⟨k5,hb⟩
 have hb:Below W10.heap.size W10 W11:=hb
 have HB11:=hbt HB10 hb
 have K5:=hid k5
 clear k5 hb
 go_wp2_with fail
 with_reducible refine(C5.out _ HB11.out).mono ?_
 rintro e W12 ⟨rfl,hb⟩
 have HB12:=hbt HB11 hb
 clear hb
 go_wp2
 exact bodyPost_ret (v:=.bool true) (by simp[results,Tryz.results5,go_sem]) rfl ⟨rfl,HB12.out⟩
theorem rfn_le (x y l u p q r t:ByteArray)(c a b:Int)(n k:Int)(na kb d m dm:Nat)(w₀:World)(h1:CV w₀ 9 #[.string x,.int .i64 (d:Int)] (.tuple #[.agg #[.string l,.string u],.int .i64 0]))(h2:CV w₀ 9 #[.string x,.int .i64 (dm:Int)] (.tuple #[.agg #[.string p,.string q],.int .i64 0]))(h3:CV w₀ 18 #[.agg #[.string l,.string u],.agg #[.string p,.string q]] (.tuple #[.agg #[.string p,.string q],.bool true]))(h4:CV w₀ 9 #[.string y,.int .i64 (d:Int)] (.tuple #[.agg #[.string r,.string t],.int .i64 0]))(h5:CV w₀ 11 #[.string x,.string y] (.tuple #[.int .i64 c,.int .i64 0]))(h6:CV w₀ 11 #[.string l,.string r] (.tuple #[.int .i64 a,.int .i64 0]))(h7:CV w₀ 11 #[.string u,.string t] (.tuple #[.int .i64 b,.int .i64 0]))(hla:Lb w₀)(fl:decide (40<x.size∨40<y.size)=false)(e1:IntKind.i64.wrap n=n)(e2:n.tmod 50=(na:Int))(e3:IntKind.i64.wrap (na:Int)=(na:Int))(e4:(1:Int)+(na:Int)=(d:Int))(e5:IntKind.i64.wrap (d:Int)=(d:Int))(v1:IntKind.i64.wrap k=k)(v2:k.tmod 20=(kb:Int))(v3:IntKind.i64.wrap (kb:Int)=(kb:Int))(v4:(1:Int)+(kb:Int)=(m:Int))(v5:IntKind.i64.wrap (m:Int)=(m:Int))(c1:(d:Int)*(m:Int)=(dm:Int))(c2:IntKind.i64.wrap (dm:Int)=(dm:Int))(f1:decide (0<c)=false)(f2:decide (a≤0)=true)(f3:decide (b≤0)=true) :
 CV w₀ 5 #[.string x,.string y,.int .u8 n,.int .u8 k] (.bool true):=by
 intro w hw
 have C1:=hid (h1.mono hw)
 have C2:=hid (h2.mono hw)
 have C3:=hid (h3.mono hw)
 have C4:=hid (h4.mono hw)
 have C5:=hid (h5.mono hw)
 have C6:=hid (h6.mono hw)
 have C7:=hid (h7.mono hw)
 have HT:=hid (lb_on hla hw)
 have FL:=hid fl
 clear hla fl
 have j1:=e1
 have j2:=e2
 have j3:=e3
 have j4:=e4
 have j5:=e5
 clear e1 e2 e3 e4 e5
 have i1:=v1
 have i2:=v2
 have i3:=v3
 have i4:=v4
 have i5:=v5
 clear v1 v2 v3 v4 v5
 have o1:=c1
 have o2:=c2
 clear c1 c2
 have g1:=f1
 have g2:=f2
 have g3:=f3
 clear f1 f2 f3 h1 h2 h3 h4 h5 h6 h7 hw
 go_enter Tryz.func5,Tryz.ntmps5
 have HB0:=hid (Below.refl w.heap.size w)
 go_wp2_with fail
 with_reducible refine((root_awake _ (lb_on HT.out HB0.out)).at).mono ?_
 rintro e W1 ⟨rfl,hb⟩
 have HB1:=hbt HB0 hb
 clear hb
 go_wp2_with fail
 have hb:=below_new W1 (.cells #[.string x,.string y] 22)
 have k1:=SBk.new W1 #[.string x,.string y] 22
 generalize W1.alloc (.cells #[.string x,.string y] 22)=W2 at *
 have HB2:=hbt HB1 hb
 have K1:=hid k1
 clear k1 hb
 with_reducible refine((lgx2 _ x y false _ FL.out K1.out)).mono ?_
 rintro e W3 ⟨rfl,hb⟩
 have K1:=hid (K1.out.below hb)
 have HB3:=hbt HB2 hb
 clear hb
 go_wp2_with fail
 with_reducible refine(C1.out _ HB3.out).mono ?_
 rintro e W4 ⟨rfl,hb⟩
 have K1:=hid (K1.out.below hb)
 have HB4:=hbt HB3 hb
 clear hb
 go_upto_region 5 with fail
 refine wp_boxes W4 [(#[.string l,.string u],27)] rfl ?_
 have L1:=K1.out.lt
 have L2:=HB4.out.size
 rintro W5 ⟨k2,hb⟩
 have hb:Below W4.heap.size W4 W5:=hb
 have K1:=hid (K1.out.below hb)
 have HB5:=hbt HB4 hb
 have K2:=hid k2
 clear k2 hb
 go_wp2_with fail
 with_reducible refine(C2.out _ HB5.out).mono ?_
 rintro e W6 ⟨rfl,hb⟩
 have K1:=hid (K1.out.below hb)
 have K2:=hid (K2.out.below hb)
 have HB6:=hbt HB5 hb
 clear hb
 go_upto_region 6 with fail
 refine wp_boxes W6 [(#[.string p,.string q],27)] rfl ?_
 have L3:=K1.out.lt
 have L4:=K2.out.lt
 have L5:=HB6.out.size
 rintro W7 ⟨k3,hb⟩
 have hb:Below W6.heap.size W6 W7:=hb
 have K1:=hid (K1.out.below hb)
 have K2:=hid (K2.out.below hb)
 have HB7:=hbt HB6 hb
 have K3:=hid k3
 clear k3 hb
 have dK20:=K2.out.cell (i:=0) rfl
 have dK21:=K2.out.cell (i:=1) rfl
 have dK30:=K3.out.cell (i:=0) rfl
 have dK31:=K3.out.cell (i:=1) rfl
 go_wp2_with fail
 with_reducible refine(C3.out _ HB7.out).mono ?_
 rintro e W8 ⟨rfl,hb⟩
 clear dK20 dK21 dK30 dK31
 have K1:=hid (K1.out.below hb)
 have K2:=hid (K2.out.below hb)
 have K3:=hid (K3.out.below hb)
 have HB8:=hbt HB7 hb
 clear hb
 go_upto_region 9 with fail
 refine wp_boxes W8 [(#[.string p,.string q],27)] rfl ?_
 have L6:=K1.out.lt
 have L7:=K2.out.lt
 have L8:=K3.out.lt
 have L9:=HB8.out.size
 rintro W9 ⟨k4,hb⟩
 have hb:Below W8.heap.size W8 W9:=hb
 have K1:=hid (K1.out.below hb)
 have K2:=hid (K2.out.below hb)
 have K3:=hid (K3.out.below hb)
 have HB9:=hbt HB8 hb
 have K4:=hid k4
 clear k4 hb
 have dK40:=K4.out.cell (i:=0) rfl
 have dK41:=K4.out.cell (i:=1) rfl
 have dK30:=K3.out.cell (i:=0) rfl
 have dK31:=K3.out.cell (i:=1) rfl
 go_wp2_with fail
 with_reducible refine(C4.out _ HB9.out).mono ?_
 rintro e W10 ⟨rfl,hb⟩
 clear dK40 dK41 dK30 dK31
 have K1:=hid (K1.out.below hb)
 have K2:=hid (K2.out.below hb)
 have K3:=hid (K3.out.below hb)
 have K4:=hid (K4.out.below hb)
 have HB10:=hbt HB9 hb
 clear hb
 go_upto_region 12 with fail
 refine wp_boxes W10 [(#[.string r,.string t],27)] rfl ?_
 have L10:=K1.out.lt
 have L11:=K2.out.lt
 have L12:=K3.out.lt
 have L13:=K4.out.lt
 have L14:=HB10.out.size
 rintro W11 ⟨k5,hb⟩
 have hb:Below W10.heap.size W10 W11:=hb
 have K2:=hid (K2.out.below hb)
 have HB11:=hbt HB10 hb
 have K5:=hid k5
 clear k5 hb
 go_wp2_with fail
 with_reducible refine(C5.out _ HB11.out).mono ?_
 rintro e W12 ⟨rfl,hb⟩
 have K2:=hid (K2.out.below hb)
 have K5:=hid (K5.out.below hb)
 have HB12:=hbt HB11 hb
 clear hb
 have dK20:=K2.out.cell (i:=0) rfl
 have dK50:=K5.out.cell (i:=0) rfl
 go_wp2_with fail
 with_reducible refine(C6.out _ HB12.out).mono ?_
 rintro e W13 ⟨rfl,hb⟩
 clear dK20 dK50
 have K2:=hid (K2.out.below hb)
 have K5:=hid (K5.out.below hb)
 have HB13:=hbt HB12 hb
 clear hb
 have dK21:=K2.out.cell (i:=1) rfl
 have dK51:=K5.out.cell (i:=1) rfl
 go_wp2_with fail
 with_reducible refine(C7.out _ HB13.out).mono ?_
 rintro e W14 ⟨rfl,hb⟩
 clear dK21 dK51
 have HB14:=hbt HB13 hb
 clear hb
 go_wp2
 exact bodyPost_ret (v:=.bool true) (by simp[results,Tryz.results5,go_sem]) rfl ⟨rfl,HB14.out⟩
theorem cle {x y:Rat}(h:x≤y):decide (cmpQ x y≤0)=true:=by
 rcases cmpQ_cases x y with⟨h1,e⟩|⟨h1,e⟩|⟨h1,e⟩
 · rw[e];rfl
 · rw[e];rfl
 · grind
theorem cle2 {x y:Rat}(h:x≤y):decide (0<cmpQ x y)=false:=by
 rcases cmpQ_cases x y with⟨h1,e⟩|⟨h1,e⟩|⟨h1,e⟩
 · rw[e];rfl
 · rw[e];rfl
 · grind
theorem eKH {x:Rat}{k:Nat}(k1:1≤k):(eK x k:Rat) / (k:Rat)≤(eH x k:Rat) / (k:Rat):=by
 refine div_le_div (rnat_pos k1) ?_
 unfold eH
 split
 · exact Rat.le_refl
 · rw[Rat.natCast_add]
   have:((1:Nat):Rat)=1:=rfl
   grind
theorem rfiner_any (x y:ByteArray)(n k:Int)(n0:0≤n)(n1:n≤255)(k0:0≤k)(k1:k≤255)(w:World)(hl:Lb w) :
 CR 5 #[.string x,.string y,.int .u8 n,.int .u8 k] w (.bool true):=by
 by_cases h40:40<x.size∨40<y.size
 · exact(rfn_long x y n k w hl (decide_eq_true h40)).at
 · have hf:decide (40<x.size∨40<y.size)=false:=decide_eq_false h40
   obtain⟨d,na,d1,d2,e1,e2,e3,e4,e5⟩:=kfacts 50 (by decide) (by decide) n0 (by omega)
   obtain⟨m,kb,m1,m2,v1,v2,v3,v4,v5⟩:=kfacts 20 (by decide) (by decide) k0 (by omega)
   obtain⟨dm,hdm⟩:∃ dm,d*m=dm:=⟨_,rfl⟩
   have hd0:1≤dm:=hdm▸Nat.mul_pos d1 m1
   have hd3:dm≤1000:=hdm▸Nat.mul_le_mul d2 m2
   have c1:(d:Int)*(m:Int)=(dm:Int):=by rw[← hdm,Int.natCast_mul]
   have c2:IntKind.i64.wrap (dm:Int)=(dm:Int):=by simp[IntKind.wrap,IntKind.bits,IntKind.signed];omega
   rcases form40 x (by omega) with hv|⟨q,rfl,hq⟩
   · exact(rfn_e1 x y n k na kb d m dm w (oSqrt_no x _ hv (by omega) w hl.1) (oSqrt_no x _ hv (by omega) w hl.1) hl hf e1 e2 e3 e4 e5 v1 v2 v3 v4 v5 c1 c2).at
   · by_cases hn:q<0
     · exact(rfn_e2 _ y n k na kb d m dm w (oSqrt_neg hn hq (by decide) w hl.1) (oSqrt_neg hn hq (by decide) w hl.1) hl hf e1 e2 e3 e4 e5 v1 v2 v3 v4 v5 c1 c2).at
     · have q0:0≤q:=by grind
       have sk:Sm 10 d:=sm_k (by omega)
       have skm:Sm 10 dm:=sm_k (by omega)
       have s1:=(smq_nat (sm_eK q0 hq sk (by decide)) (by decide)).div (smq_nat sk (by decide)) (nat_ne0 d1)
       have s2:=(smq_nat (sm_eH q0 hq sk (by decide)) (by decide)).div (smq_nat sk (by decide)) (nat_ne0 d1)
       have t1:=(smq_nat (sm_eK q0 hq skm (by decide)) (by decide)).div (smq_nat skm (by decide)) (nat_ne0 hd0)
       have t2:=(smq_nat (sm_eH q0 hq skm (by decide)) (by decide)).div (smq_nat skm (by decide)) (nat_ne0 hd0)
       have h1:=oSqrt_n (n:=d) q0 hq (by decide) (by decide) d1 (by omega) w hl.1
       have h2:=oSqrt_n (n:=dm) q0 hq (by decide) (by decide) hd0 (by omega) w hl.1
       have hfi:=finer (x:=q) (d:=d) (m:=m) q0 d1 m1
       rw[hdm]at hfi
       have h3:CV w 18 #[.agg #[.string (Sq ((eK q d:Rat) / (d:Rat))),.string (Sq ((eH q d:Rat) / (d:Rat)))],.agg #[.string (Sq ((eK q dm:Rat) / (dm:Rat))),.string (Sq ((eH q dm:Rat) / (dm:Rat)))]] (.tuple #[.agg #[.string (Sq ((eK q dm:Rat) / (dm:Rat))),.string (Sq ((eH q dm:Rat) / (dm:Rat)))],.bool true]):=fun W hW =>
        xMeet _ _ _ _ _ _ (max_r hfi.1) (min_r hfi.2) (eKH d1) (eKH hd0) (eKH hd0) (s1.fit (by decide)) (s2.fit (by decide)) (t1.fit (by decide)) (t2.fit (by decide)) W (hl.1.on hW)
       rcases form40 y (by omega) with hvy|⟨r,rfl,hr⟩
       · have h5:CV w 11 #[.string (Sq q),.string y] (.tuple #[.int .i64 0,.int .i64 1]):=fun W hW=>qCompare_no _ _ (by rw[hvy,Bool.and_false]) (by omega) (by omega) W (hl.1.on hW)
         exact(rfn_y1 _ y _ _ _ _ _ n k na kb d m dm w h1 h2 h3 (oSqrt_no y _ hvy (by omega) w hl.1) h5 hl hf e1 e2 e3 e4 e5 v1 v2 v3 v4 v5 c1 c2).at
       · have h5:=qCmpC (x:=q) (y:=r) rfl (hq.fit (by decide)) (hr.fit (by decide)) w hl.1
         by_cases hrn:r<0
         · exact(rfn_y2 _ _ _ _ _ _ _ n k na kb d m dm w h1 h2 h3 (oSqrt_neg hrn hr (by decide) w hl.1) h5 hl hf e1 e2 e3 e4 e5 v1 v2 v3 v4 v5 c1 c2).at
         · have r0:0≤r:=by grind
           have h4:=oSqrt_n (n:=d) r0 hr (by decide) (by decide) d1 (by omega) w hl.1
           by_cases hqr:q≤r
           · have u1:=(smq_nat (sm_eK r0 hr sk (by decide)) (by decide)).div (smq_nat sk (by decide)) (nat_ne0 d1)
             have u2:=(smq_nat (sm_eH r0 hr sk (by decide)) (by decide)).div (smq_nat sk (by decide)) (nat_ne0 d1)
             have hg:=greater (x:=q) (y:=r) (d:=d) q0 hqr d1
             have h6:=qCmpC (x:=(eK q d:Rat) / (d:Rat)) (y:=(eK r d:Rat) / (d:Rat)) rfl (s1.fit (by decide)) (u1.fit (by decide)) w hl.1
             have h7:=qCmpC (x:=(eH q d:Rat) / (d:Rat)) (y:=(eH r d:Rat) / (d:Rat)) rfl (s2.fit (by decide)) (u2.fit (by decide)) w hl.1
             exact(rfn_le _ _ _ _ _ _ _ _ _ _ _ n k na kb d m dm w h1 h2 h3 h4 h5 h6 h7 hl hf e1 e2 e3 e4 e5 v1 v2 v3 v4 v5 c1 c2 (cle2 hqr) (cle hg.1) (cle hg.2)).at
           · have hgt:r<q:=by grind
             rw[cmpQ_gt hgt]at h5
             exact(rfn_gt _ _ _ _ _ _ _ _ n k na kb d m dm w h1 h2 h3 h4 h5 hl hf e1 e2 e3 e4 e5 v1 v2 v3 v4 v5 c1 c2).at
end Go.Proofs.YtggoeabhbkbadaaGreatDoor
