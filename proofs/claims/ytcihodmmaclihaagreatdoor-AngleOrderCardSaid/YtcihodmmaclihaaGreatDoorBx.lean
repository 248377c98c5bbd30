/- garboardlaw06.AngleOrder: walks over what it calls. -/
import Derived.Test.YtcihodmmaclihaaGreatDoorMz4q
set_option maxRecDepth 100000
set_option maxHeartbeats 20000000
open Go.Lib (hid)
namespace Go.Proofs.YtcihodmmaclihaaGreatDoor
open Go.RowKit Go.Gb
theorem aor_long1 (s t:ByteArray)(n:Int)(w₀:World)(h0:CV w₀ 6 #[] (.bool true))(fls:(9:Int)<(s.size:Int))  :
 CV w₀ 4 #[.string s,.string t,.int .u8 n] (.bool true):=by
 intro w hw
 have C0:=hid (h0.mono hw)
 clear h0 hw
 go_enter Tryz.func4,Tryz.ntmps4
 have HB0:=hid (Below.refl w.heap.size w)
 go_wp2_with fail
 with_reducible refine(C0.out _ HB0.out).mono ?_
 rintro e W1 ⟨rfl,hb⟩
 have HB1:=hbt HB0 hb
 clear hb
 go_wp2_with fail
 with_reducible refine(C0.out _ HB1.out).mono ?_
 rintro e W2 ⟨rfl,hb⟩
 have HB2:=hbt HB1 hb
 clear hb
 go_wp2
 exact bodyPost_ret (v:=.bool true) (by simp[results,Tryz.results4,go_sem]) rfl ⟨rfl,HB2.out⟩
theorem aor_long2 (s t:ByteArray)(n:Int)(w₀:World)(h0:CV w₀ 6 #[] (.bool true))(fls:¬ (9:Int)<(s.size:Int))(flt:(9:Int)<(t.size:Int))  :
 CV w₀ 4 #[.string s,.string t,.int .u8 n] (.bool true):=by
 intro w hw
 have C0:=hid (h0.mono hw)
 clear h0 hw
 go_enter Tryz.func4,Tryz.ntmps4
 have HB0:=hid (Below.refl w.heap.size w)
 go_wp2_with fail
 with_reducible refine(C0.out _ HB0.out).mono ?_
 rintro e W1 ⟨rfl,hb⟩
 have HB1:=hbt HB0 hb
 clear hb
 go_wp2_with fail
 with_reducible refine(C0.out _ HB1.out).mono ?_
 rintro e W2 ⟨rfl,hb⟩
 have HB2:=hbt HB1 hb
 clear hb
 go_wp2
 exact bodyPost_ret (v:=.bool true) (by simp[results,Tryz.results4,go_sem]) rfl ⟨rfl,HB2.out⟩
theorem aor_bad1 (s t:ByteArray)(n:Int)(w₀:World)(h0:CV w₀ 6 #[] (.bool true))(h1:CV w₀ 7 #[.string s] (.bool false))(fls:¬ (9:Int)<(s.size:Int))(flt:¬ (9:Int)<(t.size:Int))  :
 CV w₀ 4 #[.string s,.string t,.int .u8 n] (.bool true):=by
 intro w hw
 have C0:=hid (h0.mono hw)
 have C1:=hid (h1.mono hw)
 clear h0 h1 hw
 go_enter Tryz.func4,Tryz.ntmps4
 have HB0:=hid (Below.refl w.heap.size w)
 go_wp2_with fail
 with_reducible refine(C0.out _ HB0.out).mono ?_
 rintro e W1 ⟨rfl,hb⟩
 have HB1:=hbt HB0 hb
 clear hb
 go_wp2_with fail
 with_reducible refine(C1.out _ HB1.out).mono ?_
 rintro e W2 ⟨rfl,hb⟩
 have HB2:=hbt HB1 hb
 clear hb
 go_wp2_with fail
 with_reducible refine(C0.out _ HB2.out).mono ?_
 rintro e W3 ⟨rfl,hb⟩
 have HB3:=hbt HB2 hb
 clear hb
 go_wp2
 exact bodyPost_ret (v:=.bool true) (by simp[results,Tryz.results4,go_sem]) rfl ⟨rfl,HB3.out⟩
theorem aor_bad2 (s t:ByteArray)(n:Int)(w₀:World)(h0:CV w₀ 6 #[] (.bool true))(h1:CV w₀ 7 #[.string s] (.bool true))(h2:CV w₀ 7 #[.string t] (.bool false))(fls:¬ (9:Int)<(s.size:Int))(flt:¬ (9:Int)<(t.size:Int))  :
 CV w₀ 4 #[.string s,.string t,.int .u8 n] (.bool true):=by
 intro w hw
 have C0:=hid (h0.mono hw)
 have C1:=hid (h1.mono hw)
 have C2:=hid (h2.mono hw)
 clear h0 h1 h2 hw
 go_enter Tryz.func4,Tryz.ntmps4
 have HB0:=hid (Below.refl w.heap.size w)
 go_wp2_with fail
 with_reducible refine(C0.out _ HB0.out).mono ?_
 rintro e W1 ⟨rfl,hb⟩
 have HB1:=hbt HB0 hb
 clear hb
 go_wp2_with fail
 with_reducible refine(C1.out _ HB1.out).mono ?_
 rintro e W2 ⟨rfl,hb⟩
 have HB2:=hbt HB1 hb
 clear hb
 go_wp2_with fail
 with_reducible refine(C2.out _ HB2.out).mono ?_
 rintro e W3 ⟨rfl,hb⟩
 have HB3:=hbt HB2 hb
 clear hb
 go_wp2_with fail
 with_reducible refine(C0.out _ HB3.out).mono ?_
 rintro e W4 ⟨rfl,hb⟩
 have HB4:=hbt HB3 hb
 clear hb
 go_wp2
 exact bodyPost_ret (v:=.bool true) (by simp[results,Tryz.results4,go_sem]) rfl ⟨rfl,HB4.out⟩
theorem aor_no (s t a1 a2 b1 b2 d1 d2 z1 z2 o1 o2 v1 v2:ByteArray)(n c:Int)(k m:Nat)(w₀:World)(h0:CV w₀ 6 #[] (.bool true))(h1:CV w₀ 7 #[.string s] (.bool true))(h2:CV w₀ 7 #[.string t] (.bool true))(h3:CV w₀ 11 #[.string s,.int .i64 (k:Int)] (.tuple #[.agg #[.string a1,.string a2],.int .i64 0]))(h4:CV w₀ 11 #[.string t,.int .i64 (k:Int)] (.tuple #[.agg #[.string b1,.string b2],.int .i64 0]))(h5:CV w₀ 12 #[.string s,.string t] (.tuple #[.int .i64 c,.int .i64 0]))(h6:CV w₀ 13 #[.agg #[.string a1,.string a2],.agg #[.string b1,.string b2]] (.tuple #[.agg #[.string d1,.string d2],.int .i64 0]))(h7:CV w₀ 14 #[.agg #[.string d1,.string d2]] (.tuple #[.int .i64 0,.bool false,.int .i64 0]))(h8:CV w₀ 11 #[.string ⟨#[48]⟩,.int .i64 (k:Int)] (.tuple #[.agg #[.string z1,.string z2],.int .i64 0]))(h9:CV w₀ 11 #[.string ⟨#[49]⟩,.int .i64 (k:Int)] (.tuple #[.agg #[.string o1,.string o2],.int .i64 0]))(hA:CV w₀ 11 #[.string ⟨#[45,49]⟩,.int .i64 (k:Int)] (.tuple #[.agg #[.string v1,.string v2],.int .i64 0]))(hB:CV w₀ 15 #[.agg #[.string z1,.string z2],.string ⟨#[48]⟩] (.bool true))(hC:CV w₀ 15 #[.agg #[.string o1,.string o2],.string ⟨#[57,48]⟩] (.bool true))(hE:CV w₀ 15 #[.agg #[.string v1,.string v2],.string ⟨#[45,57,48]⟩] (.bool true))(fls:¬ (9:Int)<(s.size:Int))(flt:¬ (9:Int)<(t.size:Int))(e1:IntKind.i64.wrap n=n)(e2:n.tmod 4=(m:Int))(e4:(1:Int)+(m:Int)=(k:Int))(e5:IntKind.i64.wrap (k:Int)=(k:Int))  :
 CV w₀ 4 #[.string s,.string t,.int .u8 n] (.bool true):=by
 intro w hw
 have C0:=hid (h0.mono hw)
 have C1:=hid (h1.mono hw)
 have C2:=hid (h2.mono hw)
 have C3:=hid (h3.mono hw)
 have C4:=hid (h4.mono hw)
 have C5:=hid (h5.mono hw)
 have C6:=hid (h6.mono hw)
 have C7:=hid (h7.mono hw)
 have C8:=hid (h8.mono hw)
 have C9:=hid (h9.mono hw)
 have CA:=hid (hA.mono hw)
 have CB:=hid (hB.mono hw)
 have CC:=hid (hC.mono hw)
 have CE:=hid (hE.mono hw)
 clear h0 h1 h2 h3 h4 h5 h6 h7 h8 h9 hA hB hC hE hw
 go_enter Tryz.func4,Tryz.ntmps4
 have HB0:=hid (Below.refl w.heap.size w)
 go_wp2_with fail
 with_reducible refine(C0.out _ HB0.out).mono ?_
 rintro e W1 ⟨rfl,hb⟩
 have HB1:=hbt HB0 hb
 clear hb
 go_wp2_with fail
 with_reducible refine(C1.out _ HB1.out).mono ?_
 rintro e W2 ⟨rfl,hb⟩
 have HB2:=hbt HB1 hb
 clear hb
 go_wp2_with fail
 with_reducible refine(C2.out _ HB2.out).mono ?_
 rintro e W3 ⟨rfl,hb⟩
 have HB3:=hbt HB2 hb
 clear hb
 go_wp2_with fail
 with_reducible refine(C3.out _ HB3.out).mono ?_
 rintro e W4 ⟨rfl,hb⟩
 have HB4:=hbt HB3 hb
 clear hb
 go_upto_region 5 with fail
 refine wp_boxes W4 [(#[.string a1,.string a2],26)] rfl ?_
 have L1:=HB4.out.size
 rintro W5 ⟨k1,hb⟩
 have hb:Below W4.heap.size W4 W5:=hb
 have HB5:=hbt HB4 hb
 have K1:=hid k1
 clear k1 hb
 go_wp2_with fail
 with_reducible refine(C4.out _ HB5.out).mono ?_
 rintro e W6 ⟨rfl,hb⟩
 have K1:=hid (K1.out.below hb)
 have HB6:=hbt HB5 hb
 clear hb
 go_upto_region 6 with fail
 refine wp_boxes W6 [(#[.string b1,.string b2],26)] rfl ?_
 have L2:=K1.out.lt
 have L3:=HB6.out.size
 rintro W7 ⟨k2,hb⟩
 have hb:Below W6.heap.size W6 W7:=hb
 have K1:=hid (K1.out.below hb)
 have HB7:=hbt HB6 hb
 have K2:=hid k2
 clear k2 hb
 go_wp2_with fail
 with_reducible refine(C5.out _ HB7.out).mono ?_
 rintro e W8 ⟨rfl,hb⟩
 have K1:=hid (K1.out.below hb)
 have K2:=hid (K2.out.below hb)
 have HB8:=hbt HB7 hb
 clear hb
 have dK10:=K1.out.cell (i:=0) rfl
 have dK11:=K1.out.cell (i:=1) rfl
 have dK20:=K2.out.cell (i:=0) rfl
 have dK21:=K2.out.cell (i:=1) rfl
 go_wp2_with fail
 with_reducible refine(C6.out _ HB8.out).mono ?_
 rintro e W9 ⟨rfl,hb⟩
 clear dK10 dK11 dK20 dK21
 have K1:=hid (K1.out.below hb)
 have K2:=hid (K2.out.below hb)
 have HB9:=hbt HB8 hb
 clear hb
 go_upto_region 8 with fail
 refine wp_boxes W9 [(#[.string d1,.string d2],26)] rfl ?_
 have L4:=K1.out.lt
 have L5:=K2.out.lt
 have L6:=HB9.out.size
 rintro W10 ⟨k3,hb⟩
 have hb:Below W9.heap.size W9 W10:=hb
 have K1:=hid (K1.out.below hb)
 have K2:=hid (K2.out.below hb)
 have HB10:=hbt HB9 hb
 have K3:=hid k3
 clear k3 hb
 have dK30:=K3.out.cell (i:=0) rfl
 have dK31:=K3.out.cell (i:=1) rfl
 go_wp2_with fail
 with_reducible refine(C7.out _ HB10.out).mono ?_
 rintro e W11 ⟨rfl,hb⟩
 clear dK30 dK31
 have K1:=hid (K1.out.below hb)
 have K2:=hid (K2.out.below hb)
 have K3:=hid (K3.out.below hb)
 have HB11:=hbt HB10 hb
 clear hb
 go_wp2_with fail
 with_reducible refine(C8.out _ HB11.out).mono ?_
 rintro e W12 ⟨rfl,hb⟩
 have K1:=hid (K1.out.below hb)
 have K2:=hid (K2.out.below hb)
 have K3:=hid (K3.out.below hb)
 have HB12:=hbt HB11 hb
 clear hb
 go_upto_region 10 with fail
 refine wp_boxes W12 [(#[.string z1,.string z2],26)] rfl ?_
 have L7:=K1.out.lt
 have L8:=K2.out.lt
 have L9:=K3.out.lt
 have L10:=HB12.out.size
 rintro W13 ⟨k4,hb⟩
 have hb:Below W12.heap.size W12 W13:=hb
 have K1:=hid (K1.out.below hb)
 have K2:=hid (K2.out.below hb)
 have K3:=hid (K3.out.below hb)
 have HB13:=hbt HB12 hb
 have K4:=hid k4
 clear k4 hb
 go_wp2_with fail
 with_reducible refine(C9.out _ HB13.out).mono ?_
 rintro e W14 ⟨rfl,hb⟩
 have K1:=hid (K1.out.below hb)
 have K2:=hid (K2.out.below hb)
 have K3:=hid (K3.out.below hb)
 have K4:=hid (K4.out.below hb)
 have HB14:=hbt HB13 hb
 clear hb
 go_upto_region 11 with fail
 refine wp_boxes W14 [(#[.string o1,.string o2],26)] rfl ?_
 have L11:=K1.out.lt
 have L12:=K2.out.lt
 have L13:=K3.out.lt
 have L14:=K4.out.lt
 have L15:=HB14.out.size
 rintro W15 ⟨k5,hb⟩
 have hb:Below W14.heap.size W14 W15:=hb
 have K1:=hid (K1.out.below hb)
 have K2:=hid (K2.out.below hb)
 have K3:=hid (K3.out.below hb)
 have K4:=hid (K4.out.below hb)
 have HB15:=hbt HB14 hb
 have K5:=hid k5
 clear k5 hb
 go_wp2_with fail
 with_reducible refine(CA.out _ HB15.out).mono ?_
 rintro e W16 ⟨rfl,hb⟩
 have K1:=hid (K1.out.below hb)
 have K2:=hid (K2.out.below hb)
 have K3:=hid (K3.out.below hb)
 have K4:=hid (K4.out.below hb)
 have K5:=hid (K5.out.below hb)
 have HB16:=hbt HB15 hb
 clear hb
 go_upto_region 12 with fail
 refine wp_boxes W16 [(#[.string v1,.string v2],26)] rfl ?_
 have L16:=K1.out.lt
 have L17:=K2.out.lt
 have L18:=K3.out.lt
 have L19:=K4.out.lt
 have L20:=K5.out.lt
 have L21:=HB16.out.size
 rintro W17 ⟨k6,hb⟩
 have hb:Below W16.heap.size W16 W17:=hb
 have K4:=hid (K4.out.below hb)
 have K5:=hid (K5.out.below hb)
 have HB17:=hbt HB16 hb
 have K6:=hid k6
 clear k6 hb
 have dK40:=K4.out.cell (i:=0) rfl
 have dK41:=K4.out.cell (i:=1) rfl
 go_wp2_with fail
 with_reducible refine(CB.out _ HB17.out).mono ?_
 rintro e W18 ⟨rfl,hb⟩
 clear dK40 dK41
 have K5:=hid (K5.out.below hb)
 have K6:=hid (K6.out.below hb)
 have HB18:=hbt HB17 hb
 clear hb
 have dK50:=K5.out.cell (i:=0) rfl
 have dK51:=K5.out.cell (i:=1) rfl
 go_wp2_with fail
 with_reducible refine(CC.out _ HB18.out).mono ?_
 rintro e W19 ⟨rfl,hb⟩
 clear dK50 dK51
 have K6:=hid (K6.out.below hb)
 have HB19:=hbt HB18 hb
 clear hb
 have dK60:=K6.out.cell (i:=0) rfl
 have dK61:=K6.out.cell (i:=1) rfl
 go_wp2_with fail
 with_reducible refine(CE.out _ HB19.out).mono ?_
 rintro e W20 ⟨rfl,hb⟩
 clear dK60 dK61
 have HB20:=hbt HB19 hb
 clear hb
 go_wp2
 exact bodyPost_ret (v:=.bool true) (by simp[results,Tryz.results4,go_sem]) rfl ⟨rfl,HB20.out⟩
theorem aor_zero (s t a1 a2 b1 b2 d1 d2 z1 z2 o1 o2 v1 v2:ByteArray)(n c:Int)(k m:Nat)(w₀:World)(h0:CV w₀ 6 #[] (.bool true))(h1:CV w₀ 7 #[.string s] (.bool true))(h2:CV w₀ 7 #[.string t] (.bool true))(h3:CV w₀ 11 #[.string s,.int .i64 (k:Int)] (.tuple #[.agg #[.string a1,.string a2],.int .i64 0]))(h4:CV w₀ 11 #[.string t,.int .i64 (k:Int)] (.tuple #[.agg #[.string b1,.string b2],.int .i64 0]))(h5:CV w₀ 12 #[.string s,.string t] (.tuple #[.int .i64 c,.int .i64 0]))(h6:CV w₀ 13 #[.agg #[.string a1,.string a2],.agg #[.string b1,.string b2]] (.tuple #[.agg #[.string d1,.string d2],.int .i64 0]))(h7:CV w₀ 14 #[.agg #[.string d1,.string d2]] (.tuple #[.int .i64 0,.bool true,.int .i64 0]))(h8:CV w₀ 11 #[.string ⟨#[48]⟩,.int .i64 (k:Int)] (.tuple #[.agg #[.string z1,.string z2],.int .i64 0]))(h9:CV w₀ 11 #[.string ⟨#[49]⟩,.int .i64 (k:Int)] (.tuple #[.agg #[.string o1,.string o2],.int .i64 0]))(hA:CV w₀ 11 #[.string ⟨#[45,49]⟩,.int .i64 (k:Int)] (.tuple #[.agg #[.string v1,.string v2],.int .i64 0]))(hB:CV w₀ 15 #[.agg #[.string z1,.string z2],.string ⟨#[48]⟩] (.bool true))(hC:CV w₀ 15 #[.agg #[.string o1,.string o2],.string ⟨#[57,48]⟩] (.bool true))(hE:CV w₀ 15 #[.agg #[.string v1,.string v2],.string ⟨#[45,57,48]⟩] (.bool true))(fls:¬ (9:Int)<(s.size:Int))(flt:¬ (9:Int)<(t.size:Int))(e1:IntKind.i64.wrap n=n)(e2:n.tmod 4=(m:Int))(e4:(1:Int)+(m:Int)=(k:Int))(e5:IntKind.i64.wrap (k:Int)=(k:Int))  :
 CV w₀ 4 #[.string s,.string t,.int .u8 n] (.bool true):=by
 intro w hw
 have C0:=hid (h0.mono hw)
 have C1:=hid (h1.mono hw)
 have C2:=hid (h2.mono hw)
 have C3:=hid (h3.mono hw)
 have C4:=hid (h4.mono hw)
 have C5:=hid (h5.mono hw)
 have C6:=hid (h6.mono hw)
 have C7:=hid (h7.mono hw)
 have C8:=hid (h8.mono hw)
 have C9:=hid (h9.mono hw)
 have CA:=hid (hA.mono hw)
 have CB:=hid (hB.mono hw)
 have CC:=hid (hC.mono hw)
 have CE:=hid (hE.mono hw)
 clear h0 h1 h2 h3 h4 h5 h6 h7 h8 h9 hA hB hC hE hw
 go_enter Tryz.func4,Tryz.ntmps4
 have HB0:=hid (Below.refl w.heap.size w)
 go_wp2_with fail
 with_reducible refine(C0.out _ HB0.out).mono ?_
 rintro e W1 ⟨rfl,hb⟩
 have HB1:=hbt HB0 hb
 clear hb
 go_wp2_with fail
 with_reducible refine(C1.out _ HB1.out).mono ?_
 rintro e W2 ⟨rfl,hb⟩
 have HB2:=hbt HB1 hb
 clear hb
 go_wp2_with fail
 with_reducible refine(C2.out _ HB2.out).mono ?_
 rintro e W3 ⟨rfl,hb⟩
 have HB3:=hbt HB2 hb
 clear hb
 go_wp2_with fail
 with_reducible refine(C3.out _ HB3.out).mono ?_
 rintro e W4 ⟨rfl,hb⟩
 have HB4:=hbt HB3 hb
 clear hb
 go_upto_region 5 with fail
 refine wp_boxes W4 [(#[.string a1,.string a2],26)] rfl ?_
 have L1:=HB4.out.size
 rintro W5 ⟨k1,hb⟩
 have hb:Below W4.heap.size W4 W5:=hb
 have HB5:=hbt HB4 hb
 have K1:=hid k1
 clear k1 hb
 go_wp2_with fail
 with_reducible refine(C4.out _ HB5.out).mono ?_
 rintro e W6 ⟨rfl,hb⟩
 have K1:=hid (K1.out.below hb)
 have HB6:=hbt HB5 hb
 clear hb
 go_upto_region 6 with fail
 refine wp_boxes W6 [(#[.string b1,.string b2],26)] rfl ?_
 have L2:=K1.out.lt
 have L3:=HB6.out.size
 rintro W7 ⟨k2,hb⟩
 have hb:Below W6.heap.size W6 W7:=hb
 have K1:=hid (K1.out.below hb)
 have HB7:=hbt HB6 hb
 have K2:=hid k2
 clear k2 hb
 go_wp2_with fail
 with_reducible refine(C5.out _ HB7.out).mono ?_
 rintro e W8 ⟨rfl,hb⟩
 have K1:=hid (K1.out.below hb)
 have K2:=hid (K2.out.below hb)
 have HB8:=hbt HB7 hb
 clear hb
 have dK10:=K1.out.cell (i:=0) rfl
 have dK11:=K1.out.cell (i:=1) rfl
 have dK20:=K2.out.cell (i:=0) rfl
 have dK21:=K2.out.cell (i:=1) rfl
 go_wp2_with fail
 with_reducible refine(C6.out _ HB8.out).mono ?_
 rintro e W9 ⟨rfl,hb⟩
 clear dK10 dK11 dK20 dK21
 have K1:=hid (K1.out.below hb)
 have K2:=hid (K2.out.below hb)
 have HB9:=hbt HB8 hb
 clear hb
 go_upto_region 8 with fail
 refine wp_boxes W9 [(#[.string d1,.string d2],26)] rfl ?_
 have L4:=K1.out.lt
 have L5:=K2.out.lt
 have L6:=HB9.out.size
 rintro W10 ⟨k3,hb⟩
 have hb:Below W9.heap.size W9 W10:=hb
 have K1:=hid (K1.out.below hb)
 have K2:=hid (K2.out.below hb)
 have HB10:=hbt HB9 hb
 have K3:=hid k3
 clear k3 hb
 have dK30:=K3.out.cell (i:=0) rfl
 have dK31:=K3.out.cell (i:=1) rfl
 go_wp2_with fail
 with_reducible refine(C7.out _ HB10.out).mono ?_
 rintro e W11 ⟨rfl,hb⟩
 clear dK30 dK31
 have K1:=hid (K1.out.below hb)
 have K2:=hid (K2.out.below hb)
 have K3:=hid (K3.out.below hb)
 have HB11:=hbt HB10 hb
 clear hb
 go_wp2_with fail
 with_reducible refine(C8.out _ HB11.out).mono ?_
 rintro e W12 ⟨rfl,hb⟩
 have K1:=hid (K1.out.below hb)
 have K2:=hid (K2.out.below hb)
 have K3:=hid (K3.out.below hb)
 have HB12:=hbt HB11 hb
 clear hb
 go_upto_region 10 with fail
 refine wp_boxes W12 [(#[.string z1,.string z2],26)] rfl ?_
 have L7:=K1.out.lt
 have L8:=K2.out.lt
 have L9:=K3.out.lt
 have L10:=HB12.out.size
 rintro W13 ⟨k4,hb⟩
 have hb:Below W12.heap.size W12 W13:=hb
 have K1:=hid (K1.out.below hb)
 have K2:=hid (K2.out.below hb)
 have K3:=hid (K3.out.below hb)
 have HB13:=hbt HB12 hb
 have K4:=hid k4
 clear k4 hb
 go_wp2_with fail
 with_reducible refine(C9.out _ HB13.out).mono ?_
 rintro e W14 ⟨rfl,hb⟩
 have K1:=hid (K1.out.below hb)
 have K2:=hid (K2.out.below hb)
 have K3:=hid (K3.out.below hb)
 have K4:=hid (K4.out.below hb)
 have HB14:=hbt HB13 hb
 clear hb
 go_upto_region 11 with fail
 refine wp_boxes W14 [(#[.string o1,.string o2],26)] rfl ?_
 have L11:=K1.out.lt
 have L12:=K2.out.lt
 have L13:=K3.out.lt
 have L14:=K4.out.lt
 have L15:=HB14.out.size
 rintro W15 ⟨k5,hb⟩
 have hb:Below W14.heap.size W14 W15:=hb
 have K1:=hid (K1.out.below hb)
 have K2:=hid (K2.out.below hb)
 have K3:=hid (K3.out.below hb)
 have K4:=hid (K4.out.below hb)
 have HB15:=hbt HB14 hb
 have K5:=hid k5
 clear k5 hb
 go_wp2_with fail
 with_reducible refine(CA.out _ HB15.out).mono ?_
 rintro e W16 ⟨rfl,hb⟩
 have K1:=hid (K1.out.below hb)
 have K2:=hid (K2.out.below hb)
 have K3:=hid (K3.out.below hb)
 have K4:=hid (K4.out.below hb)
 have K5:=hid (K5.out.below hb)
 have HB16:=hbt HB15 hb
 clear hb
 go_upto_region 12 with fail
 refine wp_boxes W16 [(#[.string v1,.string v2],26)] rfl ?_
 have L16:=K1.out.lt
 have L17:=K2.out.lt
 have L18:=K3.out.lt
 have L19:=K4.out.lt
 have L20:=K5.out.lt
 have L21:=HB16.out.size
 rintro W17 ⟨k6,hb⟩
 have hb:Below W16.heap.size W16 W17:=hb
 have K4:=hid (K4.out.below hb)
 have K5:=hid (K5.out.below hb)
 have HB17:=hbt HB16 hb
 have K6:=hid k6
 clear k6 hb
 have dK40:=K4.out.cell (i:=0) rfl
 have dK41:=K4.out.cell (i:=1) rfl
 go_wp2_with fail
 with_reducible refine(CB.out _ HB17.out).mono ?_
 rintro e W18 ⟨rfl,hb⟩
 clear dK40 dK41
 have K5:=hid (K5.out.below hb)
 have K6:=hid (K6.out.below hb)
 have HB18:=hbt HB17 hb
 clear hb
 have dK50:=K5.out.cell (i:=0) rfl
 have dK51:=K5.out.cell (i:=1) rfl
 go_wp2_with fail
 with_reducible refine(CC.out _ HB18.out).mono ?_
 rintro e W19 ⟨rfl,hb⟩
 clear dK50 dK51
 have K6:=hid (K6.out.below hb)
 have HB19:=hbt HB18 hb
 clear hb
 have dK60:=K6.out.cell (i:=0) rfl
 have dK61:=K6.out.cell (i:=1) rfl
 go_wp2_with fail
 with_reducible refine(CE.out _ HB19.out).mono ?_
 rintro e W20 ⟨rfl,hb⟩
 clear dK60 dK61
 have HB20:=hbt HB19 hb
 clear hb
 go_wp2
 exact bodyPost_ret (v:=.bool true) (by simp[results,Tryz.results4,go_sem]) rfl ⟨rfl,HB20.out⟩
theorem aor_less (s t a1 a2 b1 b2 d1 d2 z1 z2 o1 o2 v1 v2:ByteArray)(n:Int)(k m:Nat)(w₀:World)(h0:CV w₀ 6 #[] (.bool true))(h1:CV w₀ 7 #[.string s] (.bool true))(h2:CV w₀ 7 #[.string t] (.bool true))(h3:CV w₀ 11 #[.string s,.int .i64 (k:Int)] (.tuple #[.agg #[.string a1,.string a2],.int .i64 0]))(h4:CV w₀ 11 #[.string t,.int .i64 (k:Int)] (.tuple #[.agg #[.string b1,.string b2],.int .i64 0]))(h5:CV w₀ 12 #[.string s,.string t] (.tuple #[.int .i64 (-1),.int .i64 0]))(h6:CV w₀ 13 #[.agg #[.string a1,.string a2],.agg #[.string b1,.string b2]] (.tuple #[.agg #[.string d1,.string d2],.int .i64 0]))(h7:CV w₀ 14 #[.agg #[.string d1,.string d2]] (.tuple #[.int .i64 (-1),.bool true,.int .i64 0]))(h8:CV w₀ 11 #[.string ⟨#[48]⟩,.int .i64 (k:Int)] (.tuple #[.agg #[.string z1,.string z2],.int .i64 0]))(h9:CV w₀ 11 #[.string ⟨#[49]⟩,.int .i64 (k:Int)] (.tuple #[.agg #[.string o1,.string o2],.int .i64 0]))(hA:CV w₀ 11 #[.string ⟨#[45,49]⟩,.int .i64 (k:Int)] (.tuple #[.agg #[.string v1,.string v2],.int .i64 0]))(hB:CV w₀ 15 #[.agg #[.string z1,.string z2],.string ⟨#[48]⟩] (.bool true))(hC:CV w₀ 15 #[.agg #[.string o1,.string o2],.string ⟨#[57,48]⟩] (.bool true))(hE:CV w₀ 15 #[.agg #[.string v1,.string v2],.string ⟨#[45,57,48]⟩] (.bool true))(fls:¬ (9:Int)<(s.size:Int))(flt:¬ (9:Int)<(t.size:Int))(e1:IntKind.i64.wrap n=n)(e2:n.tmod 4=(m:Int))(e4:(1:Int)+(m:Int)=(k:Int))(e5:IntKind.i64.wrap (k:Int)=(k:Int))  :
 CV w₀ 4 #[.string s,.string t,.int .u8 n] (.bool true):=by
 intro w hw
 have C0:=hid (h0.mono hw)
 have C1:=hid (h1.mono hw)
 have C2:=hid (h2.mono hw)
 have C3:=hid (h3.mono hw)
 have C4:=hid (h4.mono hw)
 have C5:=hid (h5.mono hw)
 have C6:=hid (h6.mono hw)
 have C7:=hid (h7.mono hw)
 have C8:=hid (h8.mono hw)
 have C9:=hid (h9.mono hw)
 have CA:=hid (hA.mono hw)
 have CB:=hid (hB.mono hw)
 have CC:=hid (hC.mono hw)
 have CE:=hid (hE.mono hw)
 clear h0 h1 h2 h3 h4 h5 h6 h7 h8 h9 hA hB hC hE hw
 go_enter Tryz.func4,Tryz.ntmps4
 have HB0:=hid (Below.refl w.heap.size w)
 go_wp2_with fail
 with_reducible refine(C0.out _ HB0.out).mono ?_
 rintro e W1 ⟨rfl,hb⟩
 have HB1:=hbt HB0 hb
 clear hb
 go_wp2_with fail
 with_reducible refine(C1.out _ HB1.out).mono ?_
 rintro e W2 ⟨rfl,hb⟩
 have HB2:=hbt HB1 hb
 clear hb
 go_wp2_with fail
 with_reducible refine(C2.out _ HB2.out).mono ?_
 rintro e W3 ⟨rfl,hb⟩
 have HB3:=hbt HB2 hb
 clear hb
 go_wp2_with fail
 with_reducible refine(C3.out _ HB3.out).mono ?_
 rintro e W4 ⟨rfl,hb⟩
 have HB4:=hbt HB3 hb
 clear hb
 go_upto_region 5 with fail
 refine wp_boxes W4 [(#[.string a1,.string a2],26)] rfl ?_
 have L1:=HB4.out.size
 rintro W5 ⟨k1,hb⟩
 have hb:Below W4.heap.size W4 W5:=hb
 have HB5:=hbt HB4 hb
 have K1:=hid k1
 clear k1 hb
 go_wp2_with fail
 with_reducible refine(C4.out _ HB5.out).mono ?_
 rintro e W6 ⟨rfl,hb⟩
 have K1:=hid (K1.out.below hb)
 have HB6:=hbt HB5 hb
 clear hb
 go_upto_region 6 with fail
 refine wp_boxes W6 [(#[.string b1,.string b2],26)] rfl ?_
 have L2:=K1.out.lt
 have L3:=HB6.out.size
 rintro W7 ⟨k2,hb⟩
 have hb:Below W6.heap.size W6 W7:=hb
 have K1:=hid (K1.out.below hb)
 have HB7:=hbt HB6 hb
 have K2:=hid k2
 clear k2 hb
 go_wp2_with fail
 with_reducible refine(C5.out _ HB7.out).mono ?_
 rintro e W8 ⟨rfl,hb⟩
 have K1:=hid (K1.out.below hb)
 have K2:=hid (K2.out.below hb)
 have HB8:=hbt HB7 hb
 clear hb
 have dK10:=K1.out.cell (i:=0) rfl
 have dK11:=K1.out.cell (i:=1) rfl
 have dK20:=K2.out.cell (i:=0) rfl
 have dK21:=K2.out.cell (i:=1) rfl
 go_wp2_with fail
 with_reducible refine(C6.out _ HB8.out).mono ?_
 rintro e W9 ⟨rfl,hb⟩
 clear dK10 dK11 dK20 dK21
 have K1:=hid (K1.out.below hb)
 have K2:=hid (K2.out.below hb)
 have HB9:=hbt HB8 hb
 clear hb
 go_upto_region 8 with fail
 refine wp_boxes W9 [(#[.string d1,.string d2],26)] rfl ?_
 have L4:=K1.out.lt
 have L5:=K2.out.lt
 have L6:=HB9.out.size
 rintro W10 ⟨k3,hb⟩
 have hb:Below W9.heap.size W9 W10:=hb
 have K1:=hid (K1.out.below hb)
 have K2:=hid (K2.out.below hb)
 have HB10:=hbt HB9 hb
 have K3:=hid k3
 clear k3 hb
 have dK30:=K3.out.cell (i:=0) rfl
 have dK31:=K3.out.cell (i:=1) rfl
 go_wp2_with fail
 with_reducible refine(C7.out _ HB10.out).mono ?_
 rintro e W11 ⟨rfl,hb⟩
 clear dK30 dK31
 have K1:=hid (K1.out.below hb)
 have K2:=hid (K2.out.below hb)
 have K3:=hid (K3.out.below hb)
 have HB11:=hbt HB10 hb
 clear hb
 go_wp2_with fail
 with_reducible refine(C8.out _ HB11.out).mono ?_
 rintro e W12 ⟨rfl,hb⟩
 have K1:=hid (K1.out.below hb)
 have K2:=hid (K2.out.below hb)
 have K3:=hid (K3.out.below hb)
 have HB12:=hbt HB11 hb
 clear hb
 go_upto_region 10 with fail
 refine wp_boxes W12 [(#[.string z1,.string z2],26)] rfl ?_
 have L7:=K1.out.lt
 have L8:=K2.out.lt
 have L9:=K3.out.lt
 have L10:=HB12.out.size
 rintro W13 ⟨k4,hb⟩
 have hb:Below W12.heap.size W12 W13:=hb
 have K1:=hid (K1.out.below hb)
 have K2:=hid (K2.out.below hb)
 have K3:=hid (K3.out.below hb)
 have HB13:=hbt HB12 hb
 have K4:=hid k4
 clear k4 hb
 go_wp2_with fail
 with_reducible refine(C9.out _ HB13.out).mono ?_
 rintro e W14 ⟨rfl,hb⟩
 have K1:=hid (K1.out.below hb)
 have K2:=hid (K2.out.below hb)
 have K3:=hid (K3.out.below hb)
 have K4:=hid (K4.out.below hb)
 have HB14:=hbt HB13 hb
 clear hb
 go_upto_region 11 with fail
 refine wp_boxes W14 [(#[.string o1,.string o2],26)] rfl ?_
 have L11:=K1.out.lt
 have L12:=K2.out.lt
 have L13:=K3.out.lt
 have L14:=K4.out.lt
 have L15:=HB14.out.size
 rintro W15 ⟨k5,hb⟩
 have hb:Below W14.heap.size W14 W15:=hb
 have K1:=hid (K1.out.below hb)
 have K2:=hid (K2.out.below hb)
 have K3:=hid (K3.out.below hb)
 have K4:=hid (K4.out.below hb)
 have HB15:=hbt HB14 hb
 have K5:=hid k5
 clear k5 hb
 go_wp2_with fail
 with_reducible refine(CA.out _ HB15.out).mono ?_
 rintro e W16 ⟨rfl,hb⟩
 have K1:=hid (K1.out.below hb)
 have K2:=hid (K2.out.below hb)
 have K3:=hid (K3.out.below hb)
 have K4:=hid (K4.out.below hb)
 have K5:=hid (K5.out.below hb)
 have HB16:=hbt HB15 hb
 clear hb
 go_upto_region 12 with fail
 refine wp_boxes W16 [(#[.string v1,.string v2],26)] rfl ?_
 have L16:=K1.out.lt
 have L17:=K2.out.lt
 have L18:=K3.out.lt
 have L19:=K4.out.lt
 have L20:=K5.out.lt
 have L21:=HB16.out.size
 rintro W17 ⟨k6,hb⟩
 have hb:Below W16.heap.size W16 W17:=hb
 have K4:=hid (K4.out.below hb)
 have K5:=hid (K5.out.below hb)
 have HB17:=hbt HB16 hb
 have K6:=hid k6
 clear k6 hb
 have dK40:=K4.out.cell (i:=0) rfl
 have dK41:=K4.out.cell (i:=1) rfl
 go_wp2_with fail
 with_reducible refine(CB.out _ HB17.out).mono ?_
 rintro e W18 ⟨rfl,hb⟩
 clear dK40 dK41
 have K5:=hid (K5.out.below hb)
 have K6:=hid (K6.out.below hb)
 have HB18:=hbt HB17 hb
 clear hb
 have dK50:=K5.out.cell (i:=0) rfl
 have dK51:=K5.out.cell (i:=1) rfl
 go_wp2_with fail
 with_reducible refine(CC.out _ HB18.out).mono ?_
 rintro e W19 ⟨rfl,hb⟩
 clear dK50 dK51
 have K6:=hid (K6.out.below hb)
 have HB19:=hbt HB18 hb
 clear hb
 have dK60:=K6.out.cell (i:=0) rfl
 have dK61:=K6.out.cell (i:=1) rfl
 go_wp2_with fail
 with_reducible refine(CE.out _ HB19.out).mono ?_
 rintro e W20 ⟨rfl,hb⟩
 clear dK60 dK61
 have HB20:=hbt HB19 hb
 clear hb
 go_wp2
 exact bodyPost_ret (v:=.bool true) (by simp[results,Tryz.results4,go_sem]) rfl ⟨rfl,HB20.out⟩
theorem aor_more (s t a1 a2 b1 b2 d1 d2 z1 z2 o1 o2 v1 v2:ByteArray)(n:Int)(k m:Nat)(w₀:World)(h0:CV w₀ 6 #[] (.bool true))(h1:CV w₀ 7 #[.string s] (.bool true))(h2:CV w₀ 7 #[.string t] (.bool true))(h3:CV w₀ 11 #[.string s,.int .i64 (k:Int)] (.tuple #[.agg #[.string a1,.string a2],.int .i64 0]))(h4:CV w₀ 11 #[.string t,.int .i64 (k:Int)] (.tuple #[.agg #[.string b1,.string b2],.int .i64 0]))(h5:CV w₀ 12 #[.string s,.string t] (.tuple #[.int .i64 1,.int .i64 0]))(h6:CV w₀ 13 #[.agg #[.string a1,.string a2],.agg #[.string b1,.string b2]] (.tuple #[.agg #[.string d1,.string d2],.int .i64 0]))(h7:CV w₀ 14 #[.agg #[.string d1,.string d2]] (.tuple #[.int .i64 1,.bool true,.int .i64 0]))(h8:CV w₀ 11 #[.string ⟨#[48]⟩,.int .i64 (k:Int)] (.tuple #[.agg #[.string z1,.string z2],.int .i64 0]))(h9:CV w₀ 11 #[.string ⟨#[49]⟩,.int .i64 (k:Int)] (.tuple #[.agg #[.string o1,.string o2],.int .i64 0]))(hA:CV w₀ 11 #[.string ⟨#[45,49]⟩,.int .i64 (k:Int)] (.tuple #[.agg #[.string v1,.string v2],.int .i64 0]))(hB:CV w₀ 15 #[.agg #[.string z1,.string z2],.string ⟨#[48]⟩] (.bool true))(hC:CV w₀ 15 #[.agg #[.string o1,.string o2],.string ⟨#[57,48]⟩] (.bool true))(hE:CV w₀ 15 #[.agg #[.string v1,.string v2],.string ⟨#[45,57,48]⟩] (.bool true))(fls:¬ (9:Int)<(s.size:Int))(flt:¬ (9:Int)<(t.size:Int))(e1:IntKind.i64.wrap n=n)(e2:n.tmod 4=(m:Int))(e4:(1:Int)+(m:Int)=(k:Int))(e5:IntKind.i64.wrap (k:Int)=(k:Int))  :
 CV w₀ 4 #[.string s,.string t,.int .u8 n] (.bool true):=by
 intro w hw
 have C0:=hid (h0.mono hw)
 have C1:=hid (h1.mono hw)
 have C2:=hid (h2.mono hw)
 have C3:=hid (h3.mono hw)
 have C4:=hid (h4.mono hw)
 have C5:=hid (h5.mono hw)
 have C6:=hid (h6.mono hw)
 have C7:=hid (h7.mono hw)
 have C8:=hid (h8.mono hw)
 have C9:=hid (h9.mono hw)
 have CA:=hid (hA.mono hw)
 have CB:=hid (hB.mono hw)
 have CC:=hid (hC.mono hw)
 have CE:=hid (hE.mono hw)
 clear h0 h1 h2 h3 h4 h5 h6 h7 h8 h9 hA hB hC hE hw
 go_enter Tryz.func4,Tryz.ntmps4
 have HB0:=hid (Below.refl w.heap.size w)
 go_wp2_with fail
 with_reducible refine(C0.out _ HB0.out).mono ?_
 rintro e W1 ⟨rfl,hb⟩
 have HB1:=hbt HB0 hb
 clear hb
 go_wp2_with fail
 with_reducible refine(C1.out _ HB1.out).mono ?_
 rintro e W2 ⟨rfl,hb⟩
 have HB2:=hbt HB1 hb
 clear hb
 go_wp2_with fail
 with_reducible refine(C2.out _ HB2.out).mono ?_
 rintro e W3 ⟨rfl,hb⟩
 have HB3:=hbt HB2 hb
 clear hb
 go_wp2_with fail
 with_reducible refine(C3.out _ HB3.out).mono ?_
 rintro e W4 ⟨rfl,hb⟩
 have HB4:=hbt HB3 hb
 clear hb
 go_upto_region 5 with fail
 refine wp_boxes W4 [(#[.string a1,.string a2],26)] rfl ?_
 have L1:=HB4.out.size
 rintro W5 ⟨k1,hb⟩
 have hb:Below W4.heap.size W4 W5:=hb
 have HB5:=hbt HB4 hb
 have K1:=hid k1
 clear k1 hb
 go_wp2_with fail
 with_reducible refine(C4.out _ HB5.out).mono ?_
 rintro e W6 ⟨rfl,hb⟩
 have K1:=hid (K1.out.below hb)
 have HB6:=hbt HB5 hb
 clear hb
 go_upto_region 6 with fail
 refine wp_boxes W6 [(#[.string b1,.string b2],26)] rfl ?_
 have L2:=K1.out.lt
 have L3:=HB6.out.size
 rintro W7 ⟨k2,hb⟩
 have hb:Below W6.heap.size W6 W7:=hb
 have K1:=hid (K1.out.below hb)
 have HB7:=hbt HB6 hb
 have K2:=hid k2
 clear k2 hb
 go_wp2_with fail
 with_reducible refine(C5.out _ HB7.out).mono ?_
 rintro e W8 ⟨rfl,hb⟩
 have K1:=hid (K1.out.below hb)
 have K2:=hid (K2.out.below hb)
 have HB8:=hbt HB7 hb
 clear hb
 have dK10:=K1.out.cell (i:=0) rfl
 have dK11:=K1.out.cell (i:=1) rfl
 have dK20:=K2.out.cell (i:=0) rfl
 have dK21:=K2.out.cell (i:=1) rfl
 go_wp2_with fail
 with_reducible refine(C6.out _ HB8.out).mono ?_
 rintro e W9 ⟨rfl,hb⟩
 clear dK10 dK11 dK20 dK21
 have K1:=hid (K1.out.below hb)
 have K2:=hid (K2.out.below hb)
 have HB9:=hbt HB8 hb
 clear hb
 go_upto_region 8 with fail
 refine wp_boxes W9 [(#[.string d1,.string d2],26)] rfl ?_
 have L4:=K1.out.lt
 have L5:=K2.out.lt
 have L6:=HB9.out.size
 rintro W10 ⟨k3,hb⟩
 have hb:Below W9.heap.size W9 W10:=hb
 have K1:=hid (K1.out.below hb)
 have K2:=hid (K2.out.below hb)
 have HB10:=hbt HB9 hb
 have K3:=hid k3
 clear k3 hb
 have dK30:=K3.out.cell (i:=0) rfl
 have dK31:=K3.out.cell (i:=1) rfl
 go_wp2_with fail
 with_reducible refine(C7.out _ HB10.out).mono ?_
 rintro e W11 ⟨rfl,hb⟩
 clear dK30 dK31
 have K1:=hid (K1.out.below hb)
 have K2:=hid (K2.out.below hb)
 have K3:=hid (K3.out.below hb)
 have HB11:=hbt HB10 hb
 clear hb
 go_wp2_with fail
 with_reducible refine(C8.out _ HB11.out).mono ?_
 rintro e W12 ⟨rfl,hb⟩
 have K1:=hid (K1.out.below hb)
 have K2:=hid (K2.out.below hb)
 have K3:=hid (K3.out.below hb)
 have HB12:=hbt HB11 hb
 clear hb
 go_upto_region 10 with fail
 refine wp_boxes W12 [(#[.string z1,.string z2],26)] rfl ?_
 have L7:=K1.out.lt
 have L8:=K2.out.lt
 have L9:=K3.out.lt
 have L10:=HB12.out.size
 rintro W13 ⟨k4,hb⟩
 have hb:Below W12.heap.size W12 W13:=hb
 have K1:=hid (K1.out.below hb)
 have K2:=hid (K2.out.below hb)
 have K3:=hid (K3.out.below hb)
 have HB13:=hbt HB12 hb
 have K4:=hid k4
 clear k4 hb
 go_wp2_with fail
 with_reducible refine(C9.out _ HB13.out).mono ?_
 rintro e W14 ⟨rfl,hb⟩
 have K1:=hid (K1.out.below hb)
 have K2:=hid (K2.out.below hb)
 have K3:=hid (K3.out.below hb)
 have K4:=hid (K4.out.below hb)
 have HB14:=hbt HB13 hb
 clear hb
 go_upto_region 11 with fail
 refine wp_boxes W14 [(#[.string o1,.string o2],26)] rfl ?_
 have L11:=K1.out.lt
 have L12:=K2.out.lt
 have L13:=K3.out.lt
 have L14:=K4.out.lt
 have L15:=HB14.out.size
 rintro W15 ⟨k5,hb⟩
 have hb:Below W14.heap.size W14 W15:=hb
 have K1:=hid (K1.out.below hb)
 have K2:=hid (K2.out.below hb)
 have K3:=hid (K3.out.below hb)
 have K4:=hid (K4.out.below hb)
 have HB15:=hbt HB14 hb
 have K5:=hid k5
 clear k5 hb
 go_wp2_with fail
 with_reducible refine(CA.out _ HB15.out).mono ?_
 rintro e W16 ⟨rfl,hb⟩
 have K1:=hid (K1.out.below hb)
 have K2:=hid (K2.out.below hb)
 have K3:=hid (K3.out.below hb)
 have K4:=hid (K4.out.below hb)
 have K5:=hid (K5.out.below hb)
 have HB16:=hbt HB15 hb
 clear hb
 go_upto_region 12 with fail
 refine wp_boxes W16 [(#[.string v1,.string v2],26)] rfl ?_
 have L16:=K1.out.lt
 have L17:=K2.out.lt
 have L18:=K3.out.lt
 have L19:=K4.out.lt
 have L20:=K5.out.lt
 have L21:=HB16.out.size
 rintro W17 ⟨k6,hb⟩
 have hb:Below W16.heap.size W16 W17:=hb
 have K4:=hid (K4.out.below hb)
 have K5:=hid (K5.out.below hb)
 have HB17:=hbt HB16 hb
 have K6:=hid k6
 clear k6 hb
 have dK40:=K4.out.cell (i:=0) rfl
 have dK41:=K4.out.cell (i:=1) rfl
 go_wp2_with fail
 with_reducible refine(CB.out _ HB17.out).mono ?_
 rintro e W18 ⟨rfl,hb⟩
 clear dK40 dK41
 have K5:=hid (K5.out.below hb)
 have K6:=hid (K6.out.below hb)
 have HB18:=hbt HB17 hb
 clear hb
 have dK50:=K5.out.cell (i:=0) rfl
 have dK51:=K5.out.cell (i:=1) rfl
 go_wp2_with fail
 with_reducible refine(CC.out _ HB18.out).mono ?_
 rintro e W19 ⟨rfl,hb⟩
 clear dK50 dK51
 have K6:=hid (K6.out.below hb)
 have HB19:=hbt HB18 hb
 clear hb
 have dK60:=K6.out.cell (i:=0) rfl
 have dK61:=K6.out.cell (i:=1) rfl
 go_wp2_with fail
 with_reducible refine(CE.out _ HB19.out).mono ?_
 rintro e W20 ⟨rfl,hb⟩
 clear dK60 dK61
 have HB20:=hbt HB19 hb
 clear hb
 go_wp2
 exact bodyPost_ret (v:=.bool true) (by simp[results,Tryz.results4,go_sem]) rfl ⟨rfl,HB20.out⟩
end Go.Proofs.YtcihodmmaclihaaGreatDoor
