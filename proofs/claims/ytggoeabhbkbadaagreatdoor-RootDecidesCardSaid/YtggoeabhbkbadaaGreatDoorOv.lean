/- garboardlaw05.RootDecides returns true: walks. -/
import Derived.Test.YtggoeabhbkbadaaGreatDoorOu
set_option maxRecDepth 100000
set_option maxHeartbeats 20000000
open Go.Lib (hid)
namespace Go.Proofs.YtggoeabhbkbadaaGreatDoor
open Go.RowKit Go.Gb
theorem rdc_long (a b c:ByteArray)(n:Int)(w₀:World)  (hla:Lb w₀)(fl:decide (40<a.size∨40<b.size∨40<c.size)=true)  :
 CV w₀ 6 #[.string a,.string b,.string c,.int .u16 n] (.bool true):=by
 intro w hw
 have HT:=hid (lb_on hla hw)
 have FL:=hid fl
 clear hla fl hw
 go_enter Tryz.func6,Tryz.ntmps6
 have HB0:=hid (Below.refl w.heap.size w)
 go_wp2_with fail
 with_reducible refine((root_awake _ (lb_on HT.out HB0.out)).at).mono ?_
 rintro e W1 ⟨rfl,hb⟩
 have HB1:=hbt HB0 hb
 clear hb
 go_wp2_with fail
 have hb:=below_new W1 (.cells #[.string a,.string b,.string c] 22)
 have k1:=SBk.new W1 #[.string a,.string b,.string c] 22
 generalize W1.alloc (.cells #[.string a,.string b,.string c] 22)=W2 at *
 have HB2:=hbt HB1 hb
 have K1:=hid k1
 clear k1 hb
 with_reducible refine((lgx3 _ a b c true _ FL.out K1.out)).mono ?_
 rintro e W3 ⟨rfl,hb⟩
 have HB3:=hbt HB2 hb
 clear hb
 go_wp2_with fail
 with_reducible refine((root_awake _ (lb_on HT.out HB3.out)).at).mono ?_
 rintro e W4 ⟨rfl,hb⟩
 have HB4:=hbt HB3 hb
 clear hb
 go_wp2
 exact bodyPost_ret (v:=.bool true) (by simp[results,Tryz.results6,go_sem]) rfl ⟨rfl,HB4.out⟩
theorem rdc_e1 (a b c:ByteArray)(n:Int)(w₀:World)(h1:CV w₀ 19 #[.string a,.string b,.string c] (.tuple #[.int .i64 0,.int .i64 1]))(hla:Lb w₀)(fl:decide (40<a.size∨40<b.size∨40<c.size)=false)  :
 CV w₀ 6 #[.string a,.string b,.string c,.int .u16 n] (.bool true):=by
 intro w hw
 have C1:=hid (h1.mono hw)
 have HT:=hid (lb_on hla hw)
 have FL:=hid fl
 clear hla fl h1 hw
 go_enter Tryz.func6,Tryz.ntmps6
 have HB0:=hid (Below.refl w.heap.size w)
 go_wp2_with fail
 with_reducible refine((root_awake _ (lb_on HT.out HB0.out)).at).mono ?_
 rintro e W1 ⟨rfl,hb⟩
 have HB1:=hbt HB0 hb
 clear hb
 go_wp2_with fail
 have hb:=below_new W1 (.cells #[.string a,.string b,.string c] 22)
 have k1:=SBk.new W1 #[.string a,.string b,.string c] 22
 generalize W1.alloc (.cells #[.string a,.string b,.string c] 22)=W2 at *
 have HB2:=hbt HB1 hb
 have K1:=hid k1
 clear k1 hb
 with_reducible refine((lgx3 _ a b c false _ FL.out K1.out)).mono ?_
 rintro e W3 ⟨rfl,hb⟩
 have HB3:=hbt HB2 hb
 clear hb
 go_wp2_with fail
 with_reducible refine(C1.out _ HB3.out).mono ?_
 rintro e W4 ⟨rfl,hb⟩
 have HB4:=hbt HB3 hb
 clear hb
 go_wp2
 exact bodyPost_ret (v:=.bool true) (by simp[results,Tryz.results6,go_sem]) rfl ⟨rfl,HB4.out⟩
theorem rdc_e2 (a b c:ByteArray)(n:Int)(w₀:World)(h1:CV w₀ 19 #[.string a,.string b,.string c] (.tuple #[.int .i64 0,.int .i64 2]))(hla:Lb w₀)(fl:decide (40<a.size∨40<b.size∨40<c.size)=false)  :
 CV w₀ 6 #[.string a,.string b,.string c,.int .u16 n] (.bool true):=by
 intro w hw
 have C1:=hid (h1.mono hw)
 have HT:=hid (lb_on hla hw)
 have FL:=hid fl
 clear hla fl h1 hw
 go_enter Tryz.func6,Tryz.ntmps6
 have HB0:=hid (Below.refl w.heap.size w)
 go_wp2_with fail
 with_reducible refine((root_awake _ (lb_on HT.out HB0.out)).at).mono ?_
 rintro e W1 ⟨rfl,hb⟩
 have HB1:=hbt HB0 hb
 clear hb
 go_wp2_with fail
 have hb:=below_new W1 (.cells #[.string a,.string b,.string c] 22)
 have k1:=SBk.new W1 #[.string a,.string b,.string c] 22
 generalize W1.alloc (.cells #[.string a,.string b,.string c] 22)=W2 at *
 have HB2:=hbt HB1 hb
 have K1:=hid k1
 clear k1 hb
 with_reducible refine((lgx3 _ a b c false _ FL.out K1.out)).mono ?_
 rintro e W3 ⟨rfl,hb⟩
 have HB3:=hbt HB2 hb
 clear hb
 go_wp2_with fail
 with_reducible refine(C1.out _ HB3.out).mono ?_
 rintro e W4 ⟨rfl,hb⟩
 have HB4:=hbt HB3 hb
 clear hb
 go_wp2
 exact bodyPost_ret (v:=.bool true) (by simp[results,Tryz.results6,go_sem]) rfl ⟨rfl,HB4.out⟩
theorem rdc_sure (a b c aa bb l u p q y z:ByteArray)(n s t:Int)(k m:Nat)(w₀:World)(h1:CV w₀ 19 #[.string a,.string b,.string c] (.tuple #[.int .i64 s,.int .i64 0]))(h2:CV w₀ 10 #[.string a,.string ⟨#[45,49]⟩] (.tuple #[.string aa,.int .i64 0]))(h3:CV w₀ 10 #[.string b,.string ⟨#[45,49]⟩] (.tuple #[.string bb,.int .i64 0]))(h4:CV w₀ 19 #[.string aa,.string bb,.string c] (.tuple #[.int .i64 t,.int .i64 0]))(h5:CV w₀ 9 #[.string c,.int .i64 (k:Int)] (.tuple #[.agg #[.string l,.string u],.int .i64 0]))(h6:CV w₀ 20 #[.agg #[.string b,.string b],.agg #[.string l,.string u]] (.tuple #[.agg #[.string p,.string q],.int .i64 0]))(h7:CV w₀ 21 #[.agg #[.string a,.string a],.agg #[.string p,.string q]] (.tuple #[.agg #[.string y,.string z],.int .i64 0]))(h8:CV w₀ 22 #[.agg #[.string y,.string z]] (.tuple #[.int .i64 s,.bool true,.int .i64 0]))(hla:Lb w₀)(fl:decide (40<a.size∨40<b.size∨40<c.size)=false)(e1:IntKind.i64.wrap n=n)(e2:n.tmod 500=(m:Int))(e3:IntKind.i64.wrap (m:Int)=(m:Int))(e4:(1:Int)+(m:Int)=(k:Int))(e5:IntKind.i64.wrap (k:Int)=(k:Int))(f1:IntKind.i64.wrap (-s)=t) :
 CV w₀ 6 #[.string a,.string b,.string c,.int .u16 n] (.bool true):=by
 intro w hw
 have C1:=hid (h1.mono hw)
 have C2:=hid (h2.mono hw)
 have C3:=hid (h3.mono hw)
 have C4:=hid (h4.mono hw)
 have C5:=hid (h5.mono hw)
 have C6:=hid (h6.mono hw)
 have C7:=hid (h7.mono hw)
 have C8:=hid (h8.mono hw)
 have HT:=hid (lb_on hla hw)
 have FL:=hid fl
 clear hla fl
 have j1:=e1
 have j2:=e2
 have j3:=e3
 have j4:=e4
 have j5:=e5
 clear e1 e2 e3 e4 e5
 have g1:=f1
 clear f1 h1 h2 h3 h4 h5 h6 h7 h8 hw
 go_enter Tryz.func6,Tryz.ntmps6
 have HB0:=hid (Below.refl w.heap.size w)
 go_wp2_with fail
 with_reducible refine((root_awake _ (lb_on HT.out HB0.out)).at).mono ?_
 rintro e W1 ⟨rfl,hb⟩
 have HB1:=hbt HB0 hb
 clear hb
 go_wp2_with fail
 have hb:=below_new W1 (.cells #[.string a,.string b,.string c] 22)
 have k1:=SBk.new W1 #[.string a,.string b,.string c] 22
 generalize W1.alloc (.cells #[.string a,.string b,.string c] 22)=W2 at *
 have HB2:=hbt HB1 hb
 have K1:=hid k1
 clear k1 hb
 with_reducible refine((lgx3 _ a b c false _ FL.out K1.out)).mono ?_
 rintro e W3 ⟨rfl,hb⟩
 have K1:=hid (K1.out.below hb)
 have HB3:=hbt HB2 hb
 clear hb
 go_wp2_with fail
 with_reducible refine(C1.out _ HB3.out).mono ?_
 rintro e W4 ⟨rfl,hb⟩
 have K1:=hid (K1.out.below hb)
 have HB4:=hbt HB3 hb
 clear hb
 go_wp2_with fail
 with_reducible refine(C2.out _ HB4.out).mono ?_
 rintro e W5 ⟨rfl,hb⟩
 have K1:=hid (K1.out.below hb)
 have HB5:=hbt HB4 hb
 clear hb
 go_wp2_with fail
 with_reducible refine(C3.out _ HB5.out).mono ?_
 rintro e W6 ⟨rfl,hb⟩
 have K1:=hid (K1.out.below hb)
 have HB6:=hbt HB5 hb
 clear hb
 go_wp2_with fail
 with_reducible refine(C4.out _ HB6.out).mono ?_
 rintro e W7 ⟨rfl,hb⟩
 have K1:=hid (K1.out.below hb)
 have HB7:=hbt HB6 hb
 clear hb
 go_wp2_with fail
 with_reducible refine(C5.out _ HB7.out).mono ?_
 rintro e W8 ⟨rfl,hb⟩
 have K1:=hid (K1.out.below hb)
 have HB8:=hbt HB7 hb
 clear hb
 go_upto_region 10 with fail
 refine wp_boxes W8 [(#[.string l,.string u],27)] rfl ?_
 have L1:=K1.out.lt
 have L2:=HB8.out.size
 rintro W9 ⟨k2,hb⟩
 have hb:Below W8.heap.size W8 W9:=hb
 have K1:=hid (K1.out.below hb)
 have HB9:=hbt HB8 hb
 have K2:=hid k2
 clear k2 hb
 have dK20:=K2.out.cell (i:=0) rfl
 have dK21:=K2.out.cell (i:=1) rfl
 go_wp2_with fail
 with_reducible refine(C6.out _ HB9.out).mono ?_
 rintro e W10 ⟨rfl,hb⟩
 clear dK20 dK21
 have K1:=hid (K1.out.below hb)
 have K2:=hid (K2.out.below hb)
 have HB10:=hbt HB9 hb
 clear hb
 go_upto_region 11 with fail
 refine wp_boxes W10 [(#[.string p,.string q],27)] rfl ?_
 have L3:=K1.out.lt
 have L4:=K2.out.lt
 have L5:=HB10.out.size
 rintro W11 ⟨k3,hb⟩
 have hb:Below W10.heap.size W10 W11:=hb
 have K1:=hid (K1.out.below hb)
 have K2:=hid (K2.out.below hb)
 have HB11:=hbt HB10 hb
 have K3:=hid k3
 clear k3 hb
 have dK30:=K3.out.cell (i:=0) rfl
 have dK31:=K3.out.cell (i:=1) rfl
 go_wp2_with fail
 with_reducible refine(C7.out _ HB11.out).mono ?_
 rintro e W12 ⟨rfl,hb⟩
 clear dK30 dK31
 have K1:=hid (K1.out.below hb)
 have K2:=hid (K2.out.below hb)
 have K3:=hid (K3.out.below hb)
 have HB12:=hbt HB11 hb
 clear hb
 go_upto_region 12 with fail
 refine wp_boxes W12 [(#[.string y,.string z],27)] rfl ?_
 have L6:=K1.out.lt
 have L7:=K2.out.lt
 have L8:=K3.out.lt
 have L9:=HB12.out.size
 rintro W13 ⟨k4,hb⟩
 have hb:Below W12.heap.size W12 W13:=hb
 have HB13:=hbt HB12 hb
 have K4:=hid k4
 clear k4 hb
 have dK40:=K4.out.cell (i:=0) rfl
 have dK41:=K4.out.cell (i:=1) rfl
 go_wp2_with fail
 with_reducible refine(C8.out _ HB13.out).mono ?_
 rintro e W14 ⟨rfl,hb⟩
 clear dK40 dK41
 have HB14:=hbt HB13 hb
 clear hb
 go_wp2
 exact bodyPost_ret (v:=.bool true) (by simp[results,Tryz.results6,go_sem]) rfl ⟨rfl,HB14.out⟩
theorem rdc_not (a b c aa bb l u p q y z:ByteArray)(n s t:Int)(k m:Nat)(w₀:World)(h1:CV w₀ 19 #[.string a,.string b,.string c] (.tuple #[.int .i64 s,.int .i64 0]))(h2:CV w₀ 10 #[.string a,.string ⟨#[45,49]⟩] (.tuple #[.string aa,.int .i64 0]))(h3:CV w₀ 10 #[.string b,.string ⟨#[45,49]⟩] (.tuple #[.string bb,.int .i64 0]))(h4:CV w₀ 19 #[.string aa,.string bb,.string c] (.tuple #[.int .i64 t,.int .i64 0]))(h5:CV w₀ 9 #[.string c,.int .i64 (k:Int)] (.tuple #[.agg #[.string l,.string u],.int .i64 0]))(h6:CV w₀ 20 #[.agg #[.string b,.string b],.agg #[.string l,.string u]] (.tuple #[.agg #[.string p,.string q],.int .i64 0]))(h7:CV w₀ 21 #[.agg #[.string a,.string a],.agg #[.string p,.string q]] (.tuple #[.agg #[.string y,.string z],.int .i64 0]))(h8:CV w₀ 22 #[.agg #[.string y,.string z]] (.tuple #[.int .i64 0,.bool false,.int .i64 0]))(hla:Lb w₀)(fl:decide (40<a.size∨40<b.size∨40<c.size)=false)(e1:IntKind.i64.wrap n=n)(e2:n.tmod 500=(m:Int))(e3:IntKind.i64.wrap (m:Int)=(m:Int))(e4:(1:Int)+(m:Int)=(k:Int))(e5:IntKind.i64.wrap (k:Int)=(k:Int))(f1:IntKind.i64.wrap (-s)=t) :
 CV w₀ 6 #[.string a,.string b,.string c,.int .u16 n] (.bool true):=by
 intro w hw
 have C1:=hid (h1.mono hw)
 have C2:=hid (h2.mono hw)
 have C3:=hid (h3.mono hw)
 have C4:=hid (h4.mono hw)
 have C5:=hid (h5.mono hw)
 have C6:=hid (h6.mono hw)
 have C7:=hid (h7.mono hw)
 have C8:=hid (h8.mono hw)
 have HT:=hid (lb_on hla hw)
 have FL:=hid fl
 clear hla fl
 have j1:=e1
 have j2:=e2
 have j3:=e3
 have j4:=e4
 have j5:=e5
 clear e1 e2 e3 e4 e5
 have g1:=f1
 clear f1 h1 h2 h3 h4 h5 h6 h7 h8 hw
 go_enter Tryz.func6,Tryz.ntmps6
 have HB0:=hid (Below.refl w.heap.size w)
 go_wp2_with fail
 with_reducible refine((root_awake _ (lb_on HT.out HB0.out)).at).mono ?_
 rintro e W1 ⟨rfl,hb⟩
 have HB1:=hbt HB0 hb
 clear hb
 go_wp2_with fail
 have hb:=below_new W1 (.cells #[.string a,.string b,.string c] 22)
 have k1:=SBk.new W1 #[.string a,.string b,.string c] 22
 generalize W1.alloc (.cells #[.string a,.string b,.string c] 22)=W2 at *
 have HB2:=hbt HB1 hb
 have K1:=hid k1
 clear k1 hb
 with_reducible refine((lgx3 _ a b c false _ FL.out K1.out)).mono ?_
 rintro e W3 ⟨rfl,hb⟩
 have K1:=hid (K1.out.below hb)
 have HB3:=hbt HB2 hb
 clear hb
 go_wp2_with fail
 with_reducible refine(C1.out _ HB3.out).mono ?_
 rintro e W4 ⟨rfl,hb⟩
 have K1:=hid (K1.out.below hb)
 have HB4:=hbt HB3 hb
 clear hb
 go_wp2_with fail
 with_reducible refine(C2.out _ HB4.out).mono ?_
 rintro e W5 ⟨rfl,hb⟩
 have K1:=hid (K1.out.below hb)
 have HB5:=hbt HB4 hb
 clear hb
 go_wp2_with fail
 with_reducible refine(C3.out _ HB5.out).mono ?_
 rintro e W6 ⟨rfl,hb⟩
 have K1:=hid (K1.out.below hb)
 have HB6:=hbt HB5 hb
 clear hb
 go_wp2_with fail
 with_reducible refine(C4.out _ HB6.out).mono ?_
 rintro e W7 ⟨rfl,hb⟩
 have K1:=hid (K1.out.below hb)
 have HB7:=hbt HB6 hb
 clear hb
 go_wp2_with fail
 with_reducible refine(C5.out _ HB7.out).mono ?_
 rintro e W8 ⟨rfl,hb⟩
 have K1:=hid (K1.out.below hb)
 have HB8:=hbt HB7 hb
 clear hb
 go_upto_region 10 with fail
 refine wp_boxes W8 [(#[.string l,.string u],27)] rfl ?_
 have L1:=K1.out.lt
 have L2:=HB8.out.size
 rintro W9 ⟨k2,hb⟩
 have hb:Below W8.heap.size W8 W9:=hb
 have K1:=hid (K1.out.below hb)
 have HB9:=hbt HB8 hb
 have K2:=hid k2
 clear k2 hb
 have dK20:=K2.out.cell (i:=0) rfl
 have dK21:=K2.out.cell (i:=1) rfl
 go_wp2_with fail
 with_reducible refine(C6.out _ HB9.out).mono ?_
 rintro e W10 ⟨rfl,hb⟩
 clear dK20 dK21
 have K1:=hid (K1.out.below hb)
 have K2:=hid (K2.out.below hb)
 have HB10:=hbt HB9 hb
 clear hb
 go_upto_region 11 with fail
 refine wp_boxes W10 [(#[.string p,.string q],27)] rfl ?_
 have L3:=K1.out.lt
 have L4:=K2.out.lt
 have L5:=HB10.out.size
 rintro W11 ⟨k3,hb⟩
 have hb:Below W10.heap.size W10 W11:=hb
 have K1:=hid (K1.out.below hb)
 have K2:=hid (K2.out.below hb)
 have HB11:=hbt HB10 hb
 have K3:=hid k3
 clear k3 hb
 have dK30:=K3.out.cell (i:=0) rfl
 have dK31:=K3.out.cell (i:=1) rfl
 go_wp2_with fail
 with_reducible refine(C7.out _ HB11.out).mono ?_
 rintro e W12 ⟨rfl,hb⟩
 clear dK30 dK31
 have K1:=hid (K1.out.below hb)
 have K2:=hid (K2.out.below hb)
 have K3:=hid (K3.out.below hb)
 have HB12:=hbt HB11 hb
 clear hb
 go_upto_region 12 with fail
 refine wp_boxes W12 [(#[.string y,.string z],27)] rfl ?_
 have L6:=K1.out.lt
 have L7:=K2.out.lt
 have L8:=K3.out.lt
 have L9:=HB12.out.size
 rintro W13 ⟨k4,hb⟩
 have hb:Below W12.heap.size W12 W13:=hb
 have HB13:=hbt HB12 hb
 have K4:=hid k4
 clear k4 hb
 have dK40:=K4.out.cell (i:=0) rfl
 have dK41:=K4.out.cell (i:=1) rfl
 go_wp2_with fail
 with_reducible refine(C8.out _ HB13.out).mono ?_
 rintro e W14 ⟨rfl,hb⟩
 clear dK40 dK41
 have HB14:=hbt HB13 hb
 clear hb
 go_wp2
 exact bodyPost_ret (v:=.bool true) (by simp[results,Tryz.results6,go_sem]) rfl ⟨rfl,HB14.out⟩
theorem rootSign_vals (a b c:Rat):rootSign a b c = -1∨rootSign a b c=0∨rootSign a b c=1:=by
 unfold rootSign
 rcases sg3 b c with h|h|h<;>rcases cmpQ_cases a 0 with⟨_,e⟩|⟨_,e⟩|⟨_,e⟩<;>rcases cmpQ_cases (a*a) (b*b*c) with⟨_,f⟩|⟨_,f⟩|⟨_,f⟩<;>rw[h,e,f]<;>decide
theorem rootSign_wrap (a b c:Rat):IntKind.i64.wrap (-rootSign a b c) = -rootSign a b c:=by
 rcases rootSign_vals a b c with h|h|h<;>rw[h]<;>decide
theorem cmp_mid {x y z:Rat}{m:Int}(h1:x≤y)(h2:y≤z)(e1:cmpQ x 0=m)(e2:cmpQ z 0=m):cmpQ y 0=m:=by
 rcases cmpQ_cases x 0 with⟨a,e⟩|⟨a,e⟩|⟨a,e⟩<;>rcases cmpQ_cases z 0 with⟨b,f⟩|⟨b,f⟩|⟨b,f⟩<;>rcases cmpQ_cases y 0 with⟨c,g⟩|⟨c,g⟩|⟨c,g⟩<;>first|(rw[g,← e1,e];done)|(exfalso;grind)|(exfalso;rw[e]at e1;rw[f]at e2;omega)
theorem smn1:SmQ 1 (-1:Rat):=⟨by unfold Sm;decide,by unfold Sm;decide⟩
theorem sq_n1:Sq (-1:Rat)=⟨#[45,49]⟩:=by decide +kernel
theorem qMulN {x y:Rat}(h:x*(-1)=y)(hx:FitQ x)(w:World)(hla:La w):CV w 10 #[.string (Sq x),.string ⟨#[45,49]⟩] (.tuple #[.string (Sq y),.int .i64 0]):=by
 have k:=qMulC h hx (smn1.fit (by decide)) w hla
 rwa [sq_n1]at k
theorem rdecides_any (x y z:ByteArray)(n:Int)(n0:0≤n)(n1:n≤65535)(w:World)(hl:Lb w) :
 CR 6 #[.string x,.string y,.string z,.int .u16 n] w (.bool true):=by
 by_cases h40:40<x.size∨40<y.size∨40<z.size
 · exact(rdc_long x y z n w hl (decide_eq_true h40)).at
 · have hf:decide (40<x.size∨40<y.size∨40<z.size)=false:=decide_eq_false h40
   obtain⟨k,m,k1,k2,e1,e2,e3,e4,e5⟩:=kfacts 500 (by decide) (by decide) n0 n1
   rcases form40 x (by omega) with hv|⟨a,rfl,ha⟩
   · exact(rdc_e1 x y z n w (oSign_no0 x y z hv (by omega) w hl.1) hl hf).at
   rcases form40 y (by omega) with hv|⟨b,rfl,hb⟩
   · exact(rdc_e1 _ y z n w (oSign_no1 ha (by decide) y z hv (by omega) w hl.1) hl hf).at
   rcases form40 z (by omega) with hv|⟨c,rfl,hc⟩
   · exact(rdc_e1 _ _ z n w (oSign_no2 ha hb (by decide) z hv (by omega) w hl.1) hl hf).at
   by_cases hn:c<0
   · exact(rdc_e2 _ _ _ n w (oSign_neg ha hb hc (by decide) (by decide) hn w hl.1) hl hf).at
   have c0:0≤c:=by grind
   have sk:Sm 10 k:=sm_k (by omega)
   have d1:=(smq_nat (sm_eK c0 hc sk (by decide)) (by decide)).div (smq_nat sk (by decide)) (nat_ne0 k1)
   have d2:=(smq_nat (sm_eH c0 hc sk (by decide)) (by decide)).div (smq_nat sk (by decide)) (nat_ne0 k1)
   have h1:=oSign_n ha hb hc (by decide) (by decide) c0 w hl.1 hl.2
   have h2:=qMulN (x:=a) (y := -a) (by grind) (ha.fit (by decide)) w hl.1
   have h3:=qMulN (x:=b) (y := -b) (by grind) (hb.fit (by decide)) w hl.1
   have h4:=oSign_n ha.neg hb.neg hc (by decide) (by decide) c0 w hl.1 hl.2
   rw[rootSign_neg]at h4
   have h5:=oSqrt_n (n:=k) c0 hc (by decide) (by decide) k1 (by omega) w hl.1
   have hsq:=ends_sq (x:=c) (n:=k) c0 k1
   have hle:=eKH (x:=c) k1
   have hlo:0≤(eK c k:Rat) / (k:Rat):=rquot_nonneg k1
   generalize (eK c k:Rat) / (k:Rat)=lo at *
   generalize (eH c k:Rat) / (k:Rat)=hi at *
   have m1:=hb.mul d1
   have m2:=hb.mul d2
   have h6:CV w 20 #[.agg #[.string (Sq b),.string (Sq b)],.agg #[.string (Sq lo),.string (Sq hi)]] (.tuple #[.agg #[.string (Sq (exOf (row4 (b*lo) (b*hi) (b*lo) (b*hi)) 3).1),.string (Sq (exOf (row4 (b*lo) (b*hi) (b*lo) (b*hi)) 3).2)],.int .i64 0]):=fun W hW =>
    xMul b b lo hi _ _ _ _ rfl rfl rfl rfl Rat.le_refl hle (hb.fit (by decide)) (hb.fit (by decide)) (d1.fit (by decide)) (d2.fit (by decide)) (m1.fit (by decide)) (m2.fit (by decide)) (m1.fit (by decide)) (m2.fit (by decide)) W (hl.1.on hW)
   have hin:=row4_in (b*lo) (b*hi) (b*lo) (b*hi)
   have hone:=row4_one (b*lo) (b*hi) (b*lo) (b*hi)
   have hord:=exOf_order (row4 (b*lo) (b*hi) (b*lo) (b*hi)) 3
   generalize (exOf (row4 (b*lo) (b*hi) (b*lo) (b*hi)) 3).1=p at *
   generalize (exOf (row4 (b*lo) (b*hi) (b*lo) (b*hi)) 3).2=q at *
   have sp:SmQ 113 p:=by
    rcases hone.1 with h|h|h|h<;>rw[h]<;>first|exact m1.mono (by decide)|exact m2.mono (by decide)
   have sq:SmQ 113 q:=by
    rcases hone.2 with h|h|h|h<;>rw[h]<;>first|exact m1.mono (by decide)|exact m2.mono (by decide)
   have h7:CV w 21 #[.agg #[.string (Sq a),.string (Sq a)],.agg #[.string (Sq p),.string (Sq q)]] (.tuple #[.agg #[.string (Sq (a+p)),.string (Sq (a+q))],.int .i64 0]):=fun W hW =>
    xAdd a a p q _ _ rfl rfl Rat.le_refl hord (ha.fit (by decide)) (ha.fit (by decide)) (sp.fit (by decide)) (sq.fit (by decide)) W (hl.1.on hW)
   have f1:=rootSign_wrap a b c
   have o1:=ha.add sp
   have o2:=ha.add sq
   have hpq:a+p≤a+q:=by grind
   by_cases hs:cmpQ (a+p) 0=cmpQ (a+q) 0
   · have h8:=xSign_sure hpq hs rfl (o1.fit (by decide)) (o2.fit (by decide)) w hl.1
     have p1:cmpQ (a+b*lo) 0=cmpQ (a+q) 0:=cmp_mid (by grind) (by grind) hs rfl
     have p2:cmpQ (a+b*hi) 0=cmpQ (a+q) 0:=cmp_mid (by grind) (by grind) hs rfl
     have hr:=rootSign_sure hlo hle hsq.1 hsq.2 p1 p2
     rw[← hr]at h8
     exact(rdc_sure _ _ _ _ _ _ _ _ _ _ _ n _ _ k m w h1 h2 h3 h4 h5 h6 h7 h8 hl hf e1 e2 e3 e4 e5 f1).at
   · have h8:=xSign_not hpq hs (o1.fit (by decide)) (o2.fit (by decide)) w hl.1
     exact(rdc_not _ _ _ _ _ _ _ _ _ _ _ n _ _ k m w h1 h2 h3 h4 h5 h6 h7 h8 hl hf e1 e2 e3 e4 e5 f1).at
end Go.Proofs.YtggoeabhbkbadaaGreatDoor
