/- garboardlaw06.AngleTightens: walks over what it calls. -/
import Derived.Test.YtcihodmmaclihaaGreatDoorMz4q
set_option maxRecDepth 100000
set_option maxHeartbeats 20000000
open Go.Lib (hid)
namespace Go.Proofs.YtcihodmmaclihaaGreatDoor
open Go.RowKit Go.Gb
theorem ati_long (x:ByteArray)(n:Int)(w₀:World)(h0:CV w₀ 6 #[] (.bool true))(flx:(9:Int)<(x.size:Int))  :
 CV w₀ 3 #[.string x,.int .u8 n] (.bool true):=by
 intro w hw
 have C0:=hid (h0.mono hw)
 clear h0 hw
 go_enter Tryz.func3,Tryz.ntmps3
 have HB0:=hid (Below.refl w.heap.size w)
 go_wp2_with fail
 with_reducible refine(C0.out _ HB0.out).mono ?_
 rintro e W1 ⟨rfl,hb⟩
 have HB1:=hbt HB0 hb
 clear hb
 go_wp2_with fail
 with_reducible refine(C0.out _ HB1.out).mono ?_
 rintro e W2 ⟨rfl,hb⟩
 have HB2:=hbt HB1 hb
 clear hb
 go_wp2
 exact bodyPost_ret (v:=.bool true) (by simp[results,Tryz.results3,go_sem]) rfl ⟨rfl,HB2.out⟩
theorem ati_bad (x:ByteArray)(n:Int)(w₀:World)(h0:CV w₀ 6 #[] (.bool true))(h1:CV w₀ 7 #[.string x] (.bool false))(flx:¬ (9:Int)<(x.size:Int))  :
 CV w₀ 3 #[.string x,.int .u8 n] (.bool true):=by
 intro w hw
 have C0:=hid (h0.mono hw)
 have C1:=hid (h1.mono hw)
 clear h0 h1 hw
 go_enter Tryz.func3,Tryz.ntmps3
 have HB0:=hid (Below.refl w.heap.size w)
 go_wp2_with fail
 with_reducible refine(C0.out _ HB0.out).mono ?_
 rintro e W1 ⟨rfl,hb⟩
 have HB1:=hbt HB0 hb
 clear hb
 go_wp2_with fail
 with_reducible refine(C1.out _ HB1.out).mono ?_
 rintro e W2 ⟨rfl,hb⟩
 have HB2:=hbt HB1 hb
 clear hb
 go_wp2_with fail
 with_reducible refine(C0.out _ HB2.out).mono ?_
 rintro e W3 ⟨rfl,hb⟩
 have HB3:=hbt HB2 hb
 clear hb
 go_wp2
 exact bodyPost_ret (v:=.bool true) (by simp[results,Tryz.results3,go_sem]) rfl ⟨rfl,HB3.out⟩
theorem ati_yes (x a1 a2 b1 b2 c1 c2 d1 d2:ByteArray)(n:Int)(k m j:Nat)(w₀:World)(h0:CV w₀ 6 #[] (.bool true))(h1:CV w₀ 7 #[.string x] (.bool true))(h2:CV w₀ 8 #[.int .i64 (k:Int)] (.tuple #[.agg #[.string a1,.string a2],.int .i64 0]))(h3:CV w₀ 8 #[.int .i64 (j:Int)] (.tuple #[.agg #[.string b1,.string b2],.int .i64 0]))(h4:CV w₀ 9 #[.string x,.int .i64 (k:Int)] (.tuple #[.agg #[.string c1,.string c2],.int .i64 0]))(h5:CV w₀ 9 #[.string x,.int .i64 (j:Int)] (.tuple #[.agg #[.string d1,.string d2],.int .i64 0]))(h6:CV w₀ 10 #[.agg #[.string a1,.string a2],.agg #[.string b1,.string b2]] (.tuple #[.agg #[.string b1,.string b2],.bool true]))(h7:CV w₀ 10 #[.agg #[.string c1,.string c2],.agg #[.string d1,.string d2]] (.tuple #[.agg #[.string d1,.string d2],.bool true]))(flx:¬ (9:Int)<(x.size:Int))(e1:IntKind.i64.wrap n=n)(e2:n.tmod 4=(m:Int))(e4:(1:Int)+(m:Int)=(k:Int))(e5:IntKind.i64.wrap (k:Int)=(k:Int))(e6:(k:Int)+1=(j:Int))(e7:IntKind.i64.wrap (j:Int)=(j:Int))  :
 CV w₀ 3 #[.string x,.int .u8 n] (.bool true):=by
 intro w hw
 have C0:=hid (h0.mono hw)
 have C1:=hid (h1.mono hw)
 have C2:=hid (h2.mono hw)
 have C3:=hid (h3.mono hw)
 have C4:=hid (h4.mono hw)
 have C5:=hid (h5.mono hw)
 have C6:=hid (h6.mono hw)
 have C7:=hid (h7.mono hw)
 clear h0 h1 h2 h3 h4 h5 h6 h7 hw
 go_enter Tryz.func3,Tryz.ntmps3
 have HB0:=hid (Below.refl w.heap.size w)
 go_wp2_with fail
 with_reducible refine(C0.out _ HB0.out).mono ?_
 rintro e W1 ⟨rfl,hb⟩
 have HB1:=hbt HB0 hb
 clear hb
 go_wp2_with fail
 with_reducible refine(C1.out _ HB1.out).mono ?_
 rintro e W2 ⟨rfl,hb⟩
 have HB2:=hbt HB1 hb
 clear hb
 go_wp2_with fail
 with_reducible refine(C2.out _ HB2.out).mono ?_
 rintro e W3 ⟨rfl,hb⟩
 have HB3:=hbt HB2 hb
 clear hb
 go_upto_region 5 with fail
 refine wp_boxes W3 [(#[.string a1,.string a2],26)] rfl ?_
 have L1:=HB3.out.size
 rintro W4 ⟨k1,hb⟩
 have hb:Below W3.heap.size W3 W4:=hb
 have HB4:=hbt HB3 hb
 have K1:=hid k1
 clear k1 hb
 go_wp2_with fail
 with_reducible refine(C3.out _ HB4.out).mono ?_
 rintro e W5 ⟨rfl,hb⟩
 have K1:=hid (K1.out.below hb)
 have HB5:=hbt HB4 hb
 clear hb
 go_upto_region 6 with fail
 refine wp_boxes W5 [(#[.string b1,.string b2],26)] rfl ?_
 have L2:=K1.out.lt
 have L3:=HB5.out.size
 rintro W6 ⟨k2,hb⟩
 have hb:Below W5.heap.size W5 W6:=hb
 have K1:=hid (K1.out.below hb)
 have HB6:=hbt HB5 hb
 have K2:=hid k2
 clear k2 hb
 go_wp2_with fail
 with_reducible refine(C4.out _ HB6.out).mono ?_
 rintro e W7 ⟨rfl,hb⟩
 have K1:=hid (K1.out.below hb)
 have K2:=hid (K2.out.below hb)
 have HB7:=hbt HB6 hb
 clear hb
 go_upto_region 7 with fail
 refine wp_boxes W7 [(#[.string c1,.string c2],26)] rfl ?_
 have L4:=K1.out.lt
 have L5:=K2.out.lt
 have L6:=HB7.out.size
 rintro W8 ⟨k3,hb⟩
 have hb:Below W7.heap.size W7 W8:=hb
 have K1:=hid (K1.out.below hb)
 have K2:=hid (K2.out.below hb)
 have HB8:=hbt HB7 hb
 have K3:=hid k3
 clear k3 hb
 go_wp2_with fail
 with_reducible refine(C5.out _ HB8.out).mono ?_
 rintro e W9 ⟨rfl,hb⟩
 have K1:=hid (K1.out.below hb)
 have K2:=hid (K2.out.below hb)
 have K3:=hid (K3.out.below hb)
 have HB9:=hbt HB8 hb
 clear hb
 go_upto_region 8 with fail
 refine wp_boxes W9 [(#[.string d1,.string d2],26)] rfl ?_
 have L7:=K1.out.lt
 have L8:=K2.out.lt
 have L9:=K3.out.lt
 have L10:=HB9.out.size
 rintro W10 ⟨k4,hb⟩
 have hb:Below W9.heap.size W9 W10:=hb
 have K1:=hid (K1.out.below hb)
 have K2:=hid (K2.out.below hb)
 have K3:=hid (K3.out.below hb)
 have HB10:=hbt HB9 hb
 have K4:=hid k4
 clear k4 hb
 have dK10:=K1.out.cell (i:=0) rfl
 have dK11:=K1.out.cell (i:=1) rfl
 have dK20:=K2.out.cell (i:=0) rfl
 have dK21:=K2.out.cell (i:=1) rfl
 go_wp2_with fail
 with_reducible refine(C6.out _ HB10.out).mono ?_
 rintro e W11 ⟨rfl,hb⟩
 clear dK10 dK11 dK20 dK21
 have K1:=hid (K1.out.below hb)
 have K2:=hid (K2.out.below hb)
 have K3:=hid (K3.out.below hb)
 have K4:=hid (K4.out.below hb)
 have HB11:=hbt HB10 hb
 clear hb
 go_upto_region 9 with fail
 refine wp_boxes W11 [(#[.string b1,.string b2],26)] rfl ?_
 have L11:=K1.out.lt
 have L12:=K2.out.lt
 have L13:=K3.out.lt
 have L14:=K4.out.lt
 have L15:=HB11.out.size
 rintro W12 ⟨k5,hb⟩
 have hb:Below W11.heap.size W11 W12:=hb
 have K1:=hid (K1.out.below hb)
 have K2:=hid (K2.out.below hb)
 have K3:=hid (K3.out.below hb)
 have K4:=hid (K4.out.below hb)
 have HB12:=hbt HB11 hb
 have K5:=hid k5
 clear k5 hb
 have dK30:=K3.out.cell (i:=0) rfl
 have dK31:=K3.out.cell (i:=1) rfl
 have dK40:=K4.out.cell (i:=0) rfl
 have dK41:=K4.out.cell (i:=1) rfl
 go_wp2_with fail
 with_reducible refine(C7.out _ HB12.out).mono ?_
 rintro e W13 ⟨rfl,hb⟩
 clear dK30 dK31 dK40 dK41
 have K1:=hid (K1.out.below hb)
 have K2:=hid (K2.out.below hb)
 have K3:=hid (K3.out.below hb)
 have K4:=hid (K4.out.below hb)
 have K5:=hid (K5.out.below hb)
 have HB13:=hbt HB12 hb
 clear hb
 go_upto_region 10 with fail
 refine wp_boxes W13 [(#[.string d1,.string d2],26)] rfl ?_
 have L16:=K1.out.lt
 have L17:=K2.out.lt
 have L18:=K3.out.lt
 have L19:=K4.out.lt
 have L20:=K5.out.lt
 have L21:=HB13.out.size
 rintro W14 ⟨k6,hb⟩
 have hb:Below W13.heap.size W13 W14:=hb
 have K2:=hid (K2.out.below hb)
 have K4:=hid (K4.out.below hb)
 have K5:=hid (K5.out.below hb)
 have HB14:=hbt HB13 hb
 have K6:=hid k6
 clear k6 hb
 have dK50:=K5.out.cell (i:=0) rfl
 have dK51:=K5.out.cell (i:=1) rfl
 have dK20:=K2.out.cell (i:=0) rfl
 have dK21:=K2.out.cell (i:=1) rfl
 have dK60:=K6.out.cell (i:=0) rfl
 have dK61:=K6.out.cell (i:=1) rfl
 have dK40:=K4.out.cell (i:=0) rfl
 have dK41:=K4.out.cell (i:=1) rfl
 go_wp2
 exact bodyPost_ret (v:=.bool true) (by simp[results,Tryz.results3,go_sem]) rfl ⟨rfl,HB14.out⟩
end Go.Proofs.YtcihodmmaclihaaGreatDoor
