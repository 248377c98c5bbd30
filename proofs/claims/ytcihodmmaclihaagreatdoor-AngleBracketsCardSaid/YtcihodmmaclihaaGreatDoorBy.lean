/- garboardlaw06.AngleBrackets: walks over what it calls. -/
import Derived.Test.YtcihodmmaclihaaGreatDoorMz4q
set_option maxRecDepth 100000
set_option maxHeartbeats 20000000
open Go.Lib (hid)
namespace Go.Proofs.YtcihodmmaclihaaGreatDoor
open Go.RowKit Go.Gb
theorem abr_long (d:ByteArray)(n l:Int)(w₀:World)(h0:CV w₀ 6 #[] (.bool true))(fld:(9:Int)<(d.size:Int))  :
 CV w₀ 5 #[.string d,.int .u8 n,.int .u8 l] (.bool true):=by
 intro w hw
 have C0:=hid (h0.mono hw)
 clear h0 hw
 go_enter Tryz.func5,Tryz.ntmps5
 have HB0:=hid (Below.refl w.heap.size w)
 go_wp2_with fail
 with_reducible refine(C0.out _ HB0.out).mono ?_
 rintro e W1 ⟨rfl,hb⟩
 have HB1:=hbt HB0 hb
 clear hb
 go_wp2_with fail
 with_reducible refine(C0.out _ HB1.out).mono ?_
 rintro e W2 ⟨rfl,hb⟩
 have HB2:=hbt HB1 hb
 clear hb
 go_wp2
 exact bodyPost_ret (v:=.bool true) (by simp[results,Tryz.results5,go_sem]) rfl ⟨rfl,HB2.out⟩
theorem abr_e1 (d:ByteArray)(n l:Int)(k m h j:Nat)(w₀:World)(h0:CV w₀ 6 #[] (.bool true))(h1:CV w₀ 16 #[.string d,.int .i64 (k:Int),.int .i64 (h:Int)] (.tuple #[.agg #[.string ⟨#[]⟩,.string ⟨#[]⟩],.int .i64 1]))(h2:CV w₀ 16 #[.string d,.int .i64 (k:Int),.int .i64 (j:Int)] (.tuple #[.agg #[.string ⟨#[]⟩,.string ⟨#[]⟩],.int .i64 1]))(fld:¬ (9:Int)<(d.size:Int))(e1:IntKind.i64.wrap n=n)(e2:n.tmod 3=(m:Int))(e4:(1:Int)+(m:Int)=(k:Int))(e5:IntKind.i64.wrap (k:Int)=(k:Int))(i1:IntKind.i64.wrap l=l)(i2:l.tmod 5=(h:Int))(i4:(h:Int)+1=(j:Int))(i5:IntKind.i64.wrap (j:Int)=(j:Int))  :
 CV w₀ 5 #[.string d,.int .u8 n,.int .u8 l] (.bool true):=by
 intro w hw
 have C0:=hid (h0.mono hw)
 have C1:=hid (h1.mono hw)
 have C2:=hid (h2.mono hw)
 clear h0 h1 h2 hw
 go_enter Tryz.func5,Tryz.ntmps5
 have HB0:=hid (Below.refl w.heap.size w)
 go_wp2_with fail
 with_reducible refine(C0.out _ HB0.out).mono ?_
 rintro e W1 ⟨rfl,hb⟩
 have HB1:=hbt HB0 hb
 clear hb
 go_wp2_with fail
 with_reducible refine(C1.out _ HB1.out).mono ?_
 rintro e W2 ⟨rfl,hb⟩
 have HB2:=hbt HB1 hb
 clear hb
 go_upto_region 5 with fail
 refine wp_boxes W2 [(#[.string ⟨#[]⟩,.string ⟨#[]⟩],26)] rfl ?_
 have L1:=HB2.out.size
 rintro W3 ⟨k1,hb⟩
 have hb:Below W2.heap.size W2 W3:=hb
 have HB3:=hbt HB2 hb
 have K1:=hid k1
 clear k1 hb
 go_wp2_with fail
 with_reducible refine(C2.out _ HB3.out).mono ?_
 rintro e W4 ⟨rfl,hb⟩
 have K1:=hid (K1.out.below hb)
 have HB4:=hbt HB3 hb
 clear hb
 go_upto_region 6 with fail
 refine wp_boxes W4 [(#[.string ⟨#[]⟩,.string ⟨#[]⟩],26)] rfl ?_
 have L2:=K1.out.lt
 have L3:=HB4.out.size
 rintro W5 ⟨k2,hb⟩
 have hb:Below W4.heap.size W4 W5:=hb
 have K1:=hid (K1.out.below hb)
 have HB5:=hbt HB4 hb
 have K2:=hid k2
 clear k2 hb
 have dK10:=K1.out.cell (i:=0) rfl
 have dK11:=K1.out.cell (i:=1) rfl
 go_wp2
 exact bodyPost_ret (v:=.bool true) (by simp[results,Tryz.results5,go_sem]) rfl ⟨rfl,HB5.out⟩
theorem abr_e2 (d:ByteArray)(n l:Int)(k m h j:Nat)(w₀:World)(h0:CV w₀ 6 #[] (.bool true))(h1:CV w₀ 16 #[.string d,.int .i64 (k:Int),.int .i64 (h:Int)] (.tuple #[.agg #[.string ⟨#[]⟩,.string ⟨#[]⟩],.int .i64 2]))(h2:CV w₀ 16 #[.string d,.int .i64 (k:Int),.int .i64 (j:Int)] (.tuple #[.agg #[.string ⟨#[]⟩,.string ⟨#[]⟩],.int .i64 2]))(fld:¬ (9:Int)<(d.size:Int))(e1:IntKind.i64.wrap n=n)(e2:n.tmod 3=(m:Int))(e4:(1:Int)+(m:Int)=(k:Int))(e5:IntKind.i64.wrap (k:Int)=(k:Int))(i1:IntKind.i64.wrap l=l)(i2:l.tmod 5=(h:Int))(i4:(h:Int)+1=(j:Int))(i5:IntKind.i64.wrap (j:Int)=(j:Int))  :
 CV w₀ 5 #[.string d,.int .u8 n,.int .u8 l] (.bool true):=by
 intro w hw
 have C0:=hid (h0.mono hw)
 have C1:=hid (h1.mono hw)
 have C2:=hid (h2.mono hw)
 clear h0 h1 h2 hw
 go_enter Tryz.func5,Tryz.ntmps5
 have HB0:=hid (Below.refl w.heap.size w)
 go_wp2_with fail
 with_reducible refine(C0.out _ HB0.out).mono ?_
 rintro e W1 ⟨rfl,hb⟩
 have HB1:=hbt HB0 hb
 clear hb
 go_wp2_with fail
 with_reducible refine(C1.out _ HB1.out).mono ?_
 rintro e W2 ⟨rfl,hb⟩
 have HB2:=hbt HB1 hb
 clear hb
 go_upto_region 5 with fail
 refine wp_boxes W2 [(#[.string ⟨#[]⟩,.string ⟨#[]⟩],26)] rfl ?_
 have L1:=HB2.out.size
 rintro W3 ⟨k1,hb⟩
 have hb:Below W2.heap.size W2 W3:=hb
 have HB3:=hbt HB2 hb
 have K1:=hid k1
 clear k1 hb
 go_wp2_with fail
 with_reducible refine(C2.out _ HB3.out).mono ?_
 rintro e W4 ⟨rfl,hb⟩
 have K1:=hid (K1.out.below hb)
 have HB4:=hbt HB3 hb
 clear hb
 go_upto_region 6 with fail
 refine wp_boxes W4 [(#[.string ⟨#[]⟩,.string ⟨#[]⟩],26)] rfl ?_
 have L2:=K1.out.lt
 have L3:=HB4.out.size
 rintro W5 ⟨k2,hb⟩
 have hb:Below W4.heap.size W4 W5:=hb
 have K1:=hid (K1.out.below hb)
 have HB5:=hbt HB4 hb
 have K2:=hid k2
 clear k2 hb
 have dK10:=K1.out.cell (i:=0) rfl
 have dK11:=K1.out.cell (i:=1) rfl
 go_wp2
 exact bodyPost_ret (v:=.bool true) (by simp[results,Tryz.results5,go_sem]) rfl ⟨rfl,HB5.out⟩
theorem abr_bb (d  b1 b2 u1 u2 v1 v2:ByteArray)(n l c f:Int)(k m h j:Nat)(w₀:World)(h0:CV w₀ 6 #[] (.bool true))(h1:CV w₀ 16 #[.string d,.int .i64 (k:Int),.int .i64 (h:Int)] (.tuple #[.agg #[.string ⟨#[45,49]⟩,.string ⟨#[49]⟩],.int .i64 0]))(h2:CV w₀ 16 #[.string d,.int .i64 (k:Int),.int .i64 (j:Int)] (.tuple #[.agg #[.string b1,.string b2],.int .i64 0]))(h3:CV w₀ 10 #[.agg #[.string ⟨#[45,49]⟩,.string ⟨#[49]⟩],.agg #[.string b1,.string b2]] (.tuple #[.agg #[.string b1,.string b2],.bool true]))(h4:CV w₀ 11 #[.string ⟨#[45,49]⟩,.int .i64 (k:Int)] (.tuple #[.agg #[.string u1,.string u2],.int .i64 0]))(h5:CV w₀ 11 #[.string ⟨#[49]⟩,.int .i64 (k:Int)] (.tuple #[.agg #[.string v1,.string v2],.int .i64 0]))(h6:CV w₀ 17 #[.agg #[.string ⟨#[45,49]⟩,.string ⟨#[49]⟩]] (.bool true))(h7:CV w₀ 12 #[.string u2,.string d] (.tuple #[.int .i64 c,.int .i64 0]))(h8:CV w₀ 12 #[.string v1,.string d] (.tuple #[.int .i64 f,.int .i64 0]))(fld:¬ (9:Int)<(d.size:Int))(e1:IntKind.i64.wrap n=n)(e2:n.tmod 3=(m:Int))(e4:(1:Int)+(m:Int)=(k:Int))(e5:IntKind.i64.wrap (k:Int)=(k:Int))(i1:IntKind.i64.wrap l=l)(i2:l.tmod 5=(h:Int))(i4:(h:Int)+1=(j:Int))(i5:IntKind.i64.wrap (j:Int)=(j:Int))  :
 CV w₀ 5 #[.string d,.int .u8 n,.int .u8 l] (.bool true):=by
 intro w hw
 have C0:=hid (h0.mono hw)
 have C1:=hid (h1.mono hw)
 have C2:=hid (h2.mono hw)
 have C3:=hid (h3.mono hw)
 have C4:=hid (h4.mono hw)
 have C5:=hid (h5.mono hw)
 have C6:=hid (h6.mono hw)
 have C7:=hid (h7.mono hw)
 have C8:=hid (h8.mono hw)
 clear h0 h1 h2 h3 h4 h5 h6 h7 h8 hw
 go_enter Tryz.func5,Tryz.ntmps5
 have HB0:=hid (Below.refl w.heap.size w)
 go_wp2_with fail
 with_reducible refine(C0.out _ HB0.out).mono ?_
 rintro e W1 ⟨rfl,hb⟩
 have HB1:=hbt HB0 hb
 clear hb
 go_wp2_with fail
 with_reducible refine(C1.out _ HB1.out).mono ?_
 rintro e W2 ⟨rfl,hb⟩
 have HB2:=hbt HB1 hb
 clear hb
 go_upto_region 5 with fail
 refine wp_boxes W2 [(#[.string ⟨#[45,49]⟩,.string ⟨#[49]⟩],26)] rfl ?_
 have L1:=HB2.out.size
 rintro W3 ⟨k1,hb⟩
 have hb:Below W2.heap.size W2 W3:=hb
 have HB3:=hbt HB2 hb
 have K1:=hid k1
 clear k1 hb
 go_wp2_with fail
 with_reducible refine(C2.out _ HB3.out).mono ?_
 rintro e W4 ⟨rfl,hb⟩
 have K1:=hid (K1.out.below hb)
 have HB4:=hbt HB3 hb
 clear hb
 go_upto_region 6 with fail
 refine wp_boxes W4 [(#[.string b1,.string b2],26)] rfl ?_
 have L2:=K1.out.lt
 have L3:=HB4.out.size
 rintro W5 ⟨k2,hb⟩
 have hb:Below W4.heap.size W4 W5:=hb
 have K1:=hid (K1.out.below hb)
 have HB5:=hbt HB4 hb
 have K2:=hid k2
 clear k2 hb
 have dK10:=K1.out.cell (i:=0) rfl
 have dK11:=K1.out.cell (i:=1) rfl
 have dK20:=K2.out.cell (i:=0) rfl
 have dK21:=K2.out.cell (i:=1) rfl
 go_wp2_with fail
 with_reducible refine(C3.out _ HB5.out).mono ?_
 rintro e W6 ⟨rfl,hb⟩
 clear dK10 dK11 dK20 dK21
 have K1:=hid (K1.out.below hb)
 have K2:=hid (K2.out.below hb)
 have HB6:=hbt HB5 hb
 clear hb
 go_upto_region 9 with fail
 refine wp_boxes W6 [(#[.string b1,.string b2],26)] rfl ?_
 have L4:=K1.out.lt
 have L5:=K2.out.lt
 have L6:=HB6.out.size
 rintro W7 ⟨k3,hb⟩
 have hb:Below W6.heap.size W6 W7:=hb
 have K1:=hid (K1.out.below hb)
 have K2:=hid (K2.out.below hb)
 have HB7:=hbt HB6 hb
 have K3:=hid k3
 clear k3 hb
 have dK10:=K1.out.cell (i:=0) rfl
 go_wp2_with fail
 with_reducible refine(C4.out _ HB7.out).mono ?_
 rintro e W8 ⟨rfl,hb⟩
 clear dK10
 have K1:=hid (K1.out.below hb)
 have K2:=hid (K2.out.below hb)
 have K3:=hid (K3.out.below hb)
 have HB8:=hbt HB7 hb
 clear hb
 go_upto_region 10 with fail
 refine wp_boxes W8 [(#[.string u1,.string u2],26)] rfl ?_
 have L7:=K1.out.lt
 have L8:=K2.out.lt
 have L9:=K3.out.lt
 have L10:=HB8.out.size
 rintro W9 ⟨k4,hb⟩
 have hb:Below W8.heap.size W8 W9:=hb
 have K1:=hid (K1.out.below hb)
 have K2:=hid (K2.out.below hb)
 have K3:=hid (K3.out.below hb)
 have HB9:=hbt HB8 hb
 have K4:=hid k4
 clear k4 hb
 have dK11:=K1.out.cell (i:=1) rfl
 go_wp2_with fail
 with_reducible refine(C5.out _ HB9.out).mono ?_
 rintro e W10 ⟨rfl,hb⟩
 clear dK11
 have K1:=hid (K1.out.below hb)
 have K2:=hid (K2.out.below hb)
 have K3:=hid (K3.out.below hb)
 have K4:=hid (K4.out.below hb)
 have HB10:=hbt HB9 hb
 clear hb
 go_upto_region 11 with fail
 refine wp_boxes W10 [(#[.string v1,.string v2],26)] rfl ?_
 have L11:=K1.out.lt
 have L12:=K2.out.lt
 have L13:=K3.out.lt
 have L14:=K4.out.lt
 have L15:=HB10.out.size
 rintro W11 ⟨k5,hb⟩
 have hb:Below W10.heap.size W10 W11:=hb
 have K1:=hid (K1.out.below hb)
 have K2:=hid (K2.out.below hb)
 have K3:=hid (K3.out.below hb)
 have K4:=hid (K4.out.below hb)
 have HB11:=hbt HB10 hb
 have K5:=hid k5
 clear k5 hb
 have dK30:=K3.out.cell (i:=0) rfl
 have dK31:=K3.out.cell (i:=1) rfl
 have dK20:=K2.out.cell (i:=0) rfl
 have dK21:=K2.out.cell (i:=1) rfl
 have dK10:=K1.out.cell (i:=0) rfl
 have dK11:=K1.out.cell (i:=1) rfl
 go_wp2_with fail
 with_reducible refine(C6.out _ HB11.out).mono ?_
 rintro e W12 ⟨rfl,hb⟩
 clear dK30 dK31 dK20 dK21 dK10 dK11
 have K1:=hid (K1.out.below hb)
 have K4:=hid (K4.out.below hb)
 have K5:=hid (K5.out.below hb)
 have HB12:=hbt HB11 hb
 clear hb
 have dK41:=K4.out.cell (i:=1) rfl
 go_wp2_with fail
 with_reducible refine(C7.out _ HB12.out).mono ?_
 rintro e W13 ⟨rfl,hb⟩
 clear dK41
 have K1:=hid (K1.out.below hb)
 have K5:=hid (K5.out.below hb)
 have HB13:=hbt HB12 hb
 clear hb
 have dK50:=K5.out.cell (i:=0) rfl
 go_wp2_with fail
 with_reducible refine(C8.out _ HB13.out).mono ?_
 rintro e W14 ⟨rfl,hb⟩
 clear dK50
 have K1:=hid (K1.out.below hb)
 have HB14:=hbt HB13 hb
 clear hb
 have dK10:=K1.out.cell (i:=0) rfl
 have dK11:=K1.out.cell (i:=1) rfl
 go_wp2
 all_goals exact bodyPost_ret (v:=.bool true) (by simp[results,Tryz.results5,go_sem]) rfl ⟨rfl,HB14.out⟩
theorem abr_bs (d hi b1 b2 u1 u2 v1 v2:ByteArray)(n l c f:Int)(k m h j:Nat)(w₀:World)(h0:CV w₀ 6 #[] (.bool true))(h1:CV w₀ 16 #[.string d,.int .i64 (k:Int),.int .i64 (h:Int)] (.tuple #[.agg #[.string ⟨#[45,49]⟩,.string hi],.int .i64 0]))(h2:CV w₀ 16 #[.string d,.int .i64 (k:Int),.int .i64 (j:Int)] (.tuple #[.agg #[.string b1,.string b2],.int .i64 0]))(h3:CV w₀ 10 #[.agg #[.string ⟨#[45,49]⟩,.string hi],.agg #[.string b1,.string b2]] (.tuple #[.agg #[.string b1,.string b2],.bool true]))(h4:CV w₀ 11 #[.string ⟨#[45,49]⟩,.int .i64 (k:Int)] (.tuple #[.agg #[.string u1,.string u2],.int .i64 0]))(h5:CV w₀ 11 #[.string hi,.int .i64 (k:Int)] (.tuple #[.agg #[.string v1,.string v2],.int .i64 0]))(h6:CV w₀ 17 #[.agg #[.string ⟨#[45,49]⟩,.string hi]] (.bool true))(h7:CV w₀ 12 #[.string u2,.string d] (.tuple #[.int .i64 c,.int .i64 0]))(h8:CV w₀ 12 #[.string v1,.string d] (.tuple #[.int .i64 f,.int .i64 0]))(fld:¬ (9:Int)<(d.size:Int))(e1:IntKind.i64.wrap n=n)(e2:n.tmod 3=(m:Int))(e4:(1:Int)+(m:Int)=(k:Int))(e5:IntKind.i64.wrap (k:Int)=(k:Int))(i1:IntKind.i64.wrap l=l)(i2:l.tmod 5=(h:Int))(i4:(h:Int)+1=(j:Int))(i5:IntKind.i64.wrap (j:Int)=(j:Int))(p3:decide (0<f)=true)  :
 CV w₀ 5 #[.string d,.int .u8 n,.int .u8 l] (.bool true):=by
 intro w hw
 have C0:=hid (h0.mono hw)
 have C1:=hid (h1.mono hw)
 have C2:=hid (h2.mono hw)
 have C3:=hid (h3.mono hw)
 have C4:=hid (h4.mono hw)
 have C5:=hid (h5.mono hw)
 have C6:=hid (h6.mono hw)
 have C7:=hid (h7.mono hw)
 have C8:=hid (h8.mono hw)
 clear h0 h1 h2 h3 h4 h5 h6 h7 h8 hw
 go_enter Tryz.func5,Tryz.ntmps5
 have HB0:=hid (Below.refl w.heap.size w)
 go_wp2_with fail
 with_reducible refine(C0.out _ HB0.out).mono ?_
 rintro e W1 ⟨rfl,hb⟩
 have HB1:=hbt HB0 hb
 clear hb
 go_wp2_with fail
 with_reducible refine(C1.out _ HB1.out).mono ?_
 rintro e W2 ⟨rfl,hb⟩
 have HB2:=hbt HB1 hb
 clear hb
 go_upto_region 5 with fail
 refine wp_boxes W2 [(#[.string ⟨#[45,49]⟩,.string hi],26)] rfl ?_
 have L1:=HB2.out.size
 rintro W3 ⟨k1,hb⟩
 have hb:Below W2.heap.size W2 W3:=hb
 have HB3:=hbt HB2 hb
 have K1:=hid k1
 clear k1 hb
 go_wp2_with fail
 with_reducible refine(C2.out _ HB3.out).mono ?_
 rintro e W4 ⟨rfl,hb⟩
 have K1:=hid (K1.out.below hb)
 have HB4:=hbt HB3 hb
 clear hb
 go_upto_region 6 with fail
 refine wp_boxes W4 [(#[.string b1,.string b2],26)] rfl ?_
 have L2:=K1.out.lt
 have L3:=HB4.out.size
 rintro W5 ⟨k2,hb⟩
 have hb:Below W4.heap.size W4 W5:=hb
 have K1:=hid (K1.out.below hb)
 have HB5:=hbt HB4 hb
 have K2:=hid k2
 clear k2 hb
 have dK10:=K1.out.cell (i:=0) rfl
 have dK11:=K1.out.cell (i:=1) rfl
 have dK20:=K2.out.cell (i:=0) rfl
 have dK21:=K2.out.cell (i:=1) rfl
 go_wp2_with fail
 with_reducible refine(C3.out _ HB5.out).mono ?_
 rintro e W6 ⟨rfl,hb⟩
 clear dK10 dK11 dK20 dK21
 have K1:=hid (K1.out.below hb)
 have K2:=hid (K2.out.below hb)
 have HB6:=hbt HB5 hb
 clear hb
 go_upto_region 9 with fail
 refine wp_boxes W6 [(#[.string b1,.string b2],26)] rfl ?_
 have L4:=K1.out.lt
 have L5:=K2.out.lt
 have L6:=HB6.out.size
 rintro W7 ⟨k3,hb⟩
 have hb:Below W6.heap.size W6 W7:=hb
 have K1:=hid (K1.out.below hb)
 have K2:=hid (K2.out.below hb)
 have HB7:=hbt HB6 hb
 have K3:=hid k3
 clear k3 hb
 have dK10:=K1.out.cell (i:=0) rfl
 go_wp2_with fail
 with_reducible refine(C4.out _ HB7.out).mono ?_
 rintro e W8 ⟨rfl,hb⟩
 clear dK10
 have K1:=hid (K1.out.below hb)
 have K2:=hid (K2.out.below hb)
 have K3:=hid (K3.out.below hb)
 have HB8:=hbt HB7 hb
 clear hb
 go_upto_region 10 with fail
 refine wp_boxes W8 [(#[.string u1,.string u2],26)] rfl ?_
 have L7:=K1.out.lt
 have L8:=K2.out.lt
 have L9:=K3.out.lt
 have L10:=HB8.out.size
 rintro W9 ⟨k4,hb⟩
 have hb:Below W8.heap.size W8 W9:=hb
 have K1:=hid (K1.out.below hb)
 have K2:=hid (K2.out.below hb)
 have K3:=hid (K3.out.below hb)
 have HB9:=hbt HB8 hb
 have K4:=hid k4
 clear k4 hb
 have dK11:=K1.out.cell (i:=1) rfl
 go_wp2_with fail
 with_reducible refine(C5.out _ HB9.out).mono ?_
 rintro e W10 ⟨rfl,hb⟩
 clear dK11
 have K1:=hid (K1.out.below hb)
 have K2:=hid (K2.out.below hb)
 have K3:=hid (K3.out.below hb)
 have K4:=hid (K4.out.below hb)
 have HB10:=hbt HB9 hb
 clear hb
 go_upto_region 11 with fail
 refine wp_boxes W10 [(#[.string v1,.string v2],26)] rfl ?_
 have L11:=K1.out.lt
 have L12:=K2.out.lt
 have L13:=K3.out.lt
 have L14:=K4.out.lt
 have L15:=HB10.out.size
 rintro W11 ⟨k5,hb⟩
 have hb:Below W10.heap.size W10 W11:=hb
 have K1:=hid (K1.out.below hb)
 have K2:=hid (K2.out.below hb)
 have K3:=hid (K3.out.below hb)
 have K4:=hid (K4.out.below hb)
 have HB11:=hbt HB10 hb
 have K5:=hid k5
 clear k5 hb
 have dK30:=K3.out.cell (i:=0) rfl
 have dK31:=K3.out.cell (i:=1) rfl
 have dK20:=K2.out.cell (i:=0) rfl
 have dK21:=K2.out.cell (i:=1) rfl
 have dK10:=K1.out.cell (i:=0) rfl
 have dK11:=K1.out.cell (i:=1) rfl
 go_wp2_with fail
 with_reducible refine(C6.out _ HB11.out).mono ?_
 rintro e W12 ⟨rfl,hb⟩
 clear dK30 dK31 dK20 dK21 dK10 dK11
 have K1:=hid (K1.out.below hb)
 have K4:=hid (K4.out.below hb)
 have K5:=hid (K5.out.below hb)
 have HB12:=hbt HB11 hb
 clear hb
 have dK41:=K4.out.cell (i:=1) rfl
 go_wp2_with fail
 with_reducible refine(C7.out _ HB12.out).mono ?_
 rintro e W13 ⟨rfl,hb⟩
 clear dK41
 have K1:=hid (K1.out.below hb)
 have K5:=hid (K5.out.below hb)
 have HB13:=hbt HB12 hb
 clear hb
 have dK50:=K5.out.cell (i:=0) rfl
 go_wp2_with fail
 with_reducible refine(C8.out _ HB13.out).mono ?_
 rintro e W14 ⟨rfl,hb⟩
 clear dK50
 have K1:=hid (K1.out.below hb)
 have HB14:=hbt HB13 hb
 clear hb
 have dK10:=K1.out.cell (i:=0) rfl
 have dK11:=K1.out.cell (i:=1) rfl
 go_wp2
 all_goals exact bodyPost_ret (v:=.bool true) (by simp[results,Tryz.results5,go_sem]) rfl ⟨rfl,HB14.out⟩
theorem abr_sb (d lo b1 b2 u1 u2 v1 v2:ByteArray)(n l c f:Int)(k m h j:Nat)(w₀:World)(h0:CV w₀ 6 #[] (.bool true))(h1:CV w₀ 16 #[.string d,.int .i64 (k:Int),.int .i64 (h:Int)] (.tuple #[.agg #[.string lo,.string ⟨#[49]⟩],.int .i64 0]))(h2:CV w₀ 16 #[.string d,.int .i64 (k:Int),.int .i64 (j:Int)] (.tuple #[.agg #[.string b1,.string b2],.int .i64 0]))(h3:CV w₀ 10 #[.agg #[.string lo,.string ⟨#[49]⟩],.agg #[.string b1,.string b2]] (.tuple #[.agg #[.string b1,.string b2],.bool true]))(h4:CV w₀ 11 #[.string lo,.int .i64 (k:Int)] (.tuple #[.agg #[.string u1,.string u2],.int .i64 0]))(h5:CV w₀ 11 #[.string ⟨#[49]⟩,.int .i64 (k:Int)] (.tuple #[.agg #[.string v1,.string v2],.int .i64 0]))(h6:CV w₀ 17 #[.agg #[.string lo,.string ⟨#[49]⟩]] (.bool true))(h7:CV w₀ 12 #[.string u2,.string d] (.tuple #[.int .i64 c,.int .i64 0]))(h8:CV w₀ 12 #[.string v1,.string d] (.tuple #[.int .i64 f,.int .i64 0]))(fld:¬ (9:Int)<(d.size:Int))(e1:IntKind.i64.wrap n=n)(e2:n.tmod 3=(m:Int))(e4:(1:Int)+(m:Int)=(k:Int))(e5:IntKind.i64.wrap (k:Int)=(k:Int))(i1:IntKind.i64.wrap l=l)(i2:l.tmod 5=(h:Int))(i4:(h:Int)+1=(j:Int))(i5:IntKind.i64.wrap (j:Int)=(j:Int))(q3:decide (c≤0)=true)  :
 CV w₀ 5 #[.string d,.int .u8 n,.int .u8 l] (.bool true):=by
 intro w hw
 have C0:=hid (h0.mono hw)
 have C1:=hid (h1.mono hw)
 have C2:=hid (h2.mono hw)
 have C3:=hid (h3.mono hw)
 have C4:=hid (h4.mono hw)
 have C5:=hid (h5.mono hw)
 have C6:=hid (h6.mono hw)
 have C7:=hid (h7.mono hw)
 have C8:=hid (h8.mono hw)
 clear h0 h1 h2 h3 h4 h5 h6 h7 h8 hw
 go_enter Tryz.func5,Tryz.ntmps5
 have HB0:=hid (Below.refl w.heap.size w)
 go_wp2_with fail
 with_reducible refine(C0.out _ HB0.out).mono ?_
 rintro e W1 ⟨rfl,hb⟩
 have HB1:=hbt HB0 hb
 clear hb
 go_wp2_with fail
 with_reducible refine(C1.out _ HB1.out).mono ?_
 rintro e W2 ⟨rfl,hb⟩
 have HB2:=hbt HB1 hb
 clear hb
 go_upto_region 5 with fail
 refine wp_boxes W2 [(#[.string lo,.string ⟨#[49]⟩],26)] rfl ?_
 have L1:=HB2.out.size
 rintro W3 ⟨k1,hb⟩
 have hb:Below W2.heap.size W2 W3:=hb
 have HB3:=hbt HB2 hb
 have K1:=hid k1
 clear k1 hb
 go_wp2_with fail
 with_reducible refine(C2.out _ HB3.out).mono ?_
 rintro e W4 ⟨rfl,hb⟩
 have K1:=hid (K1.out.below hb)
 have HB4:=hbt HB3 hb
 clear hb
 go_upto_region 6 with fail
 refine wp_boxes W4 [(#[.string b1,.string b2],26)] rfl ?_
 have L2:=K1.out.lt
 have L3:=HB4.out.size
 rintro W5 ⟨k2,hb⟩
 have hb:Below W4.heap.size W4 W5:=hb
 have K1:=hid (K1.out.below hb)
 have HB5:=hbt HB4 hb
 have K2:=hid k2
 clear k2 hb
 have dK10:=K1.out.cell (i:=0) rfl
 have dK11:=K1.out.cell (i:=1) rfl
 have dK20:=K2.out.cell (i:=0) rfl
 have dK21:=K2.out.cell (i:=1) rfl
 go_wp2_with fail
 with_reducible refine(C3.out _ HB5.out).mono ?_
 rintro e W6 ⟨rfl,hb⟩
 clear dK10 dK11 dK20 dK21
 have K1:=hid (K1.out.below hb)
 have K2:=hid (K2.out.below hb)
 have HB6:=hbt HB5 hb
 clear hb
 go_upto_region 9 with fail
 refine wp_boxes W6 [(#[.string b1,.string b2],26)] rfl ?_
 have L4:=K1.out.lt
 have L5:=K2.out.lt
 have L6:=HB6.out.size
 rintro W7 ⟨k3,hb⟩
 have hb:Below W6.heap.size W6 W7:=hb
 have K1:=hid (K1.out.below hb)
 have K2:=hid (K2.out.below hb)
 have HB7:=hbt HB6 hb
 have K3:=hid k3
 clear k3 hb
 have dK10:=K1.out.cell (i:=0) rfl
 go_wp2_with fail
 with_reducible refine(C4.out _ HB7.out).mono ?_
 rintro e W8 ⟨rfl,hb⟩
 clear dK10
 have K1:=hid (K1.out.below hb)
 have K2:=hid (K2.out.below hb)
 have K3:=hid (K3.out.below hb)
 have HB8:=hbt HB7 hb
 clear hb
 go_upto_region 10 with fail
 refine wp_boxes W8 [(#[.string u1,.string u2],26)] rfl ?_
 have L7:=K1.out.lt
 have L8:=K2.out.lt
 have L9:=K3.out.lt
 have L10:=HB8.out.size
 rintro W9 ⟨k4,hb⟩
 have hb:Below W8.heap.size W8 W9:=hb
 have K1:=hid (K1.out.below hb)
 have K2:=hid (K2.out.below hb)
 have K3:=hid (K3.out.below hb)
 have HB9:=hbt HB8 hb
 have K4:=hid k4
 clear k4 hb
 have dK11:=K1.out.cell (i:=1) rfl
 go_wp2_with fail
 with_reducible refine(C5.out _ HB9.out).mono ?_
 rintro e W10 ⟨rfl,hb⟩
 clear dK11
 have K1:=hid (K1.out.below hb)
 have K2:=hid (K2.out.below hb)
 have K3:=hid (K3.out.below hb)
 have K4:=hid (K4.out.below hb)
 have HB10:=hbt HB9 hb
 clear hb
 go_upto_region 11 with fail
 refine wp_boxes W10 [(#[.string v1,.string v2],26)] rfl ?_
 have L11:=K1.out.lt
 have L12:=K2.out.lt
 have L13:=K3.out.lt
 have L14:=K4.out.lt
 have L15:=HB10.out.size
 rintro W11 ⟨k5,hb⟩
 have hb:Below W10.heap.size W10 W11:=hb
 have K1:=hid (K1.out.below hb)
 have K2:=hid (K2.out.below hb)
 have K3:=hid (K3.out.below hb)
 have K4:=hid (K4.out.below hb)
 have HB11:=hbt HB10 hb
 have K5:=hid k5
 clear k5 hb
 have dK30:=K3.out.cell (i:=0) rfl
 have dK31:=K3.out.cell (i:=1) rfl
 have dK20:=K2.out.cell (i:=0) rfl
 have dK21:=K2.out.cell (i:=1) rfl
 have dK10:=K1.out.cell (i:=0) rfl
 have dK11:=K1.out.cell (i:=1) rfl
 go_wp2_with fail
 with_reducible refine(C6.out _ HB11.out).mono ?_
 rintro e W12 ⟨rfl,hb⟩
 clear dK30 dK31 dK20 dK21 dK10 dK11
 have K1:=hid (K1.out.below hb)
 have K4:=hid (K4.out.below hb)
 have K5:=hid (K5.out.below hb)
 have HB12:=hbt HB11 hb
 clear hb
 have dK41:=K4.out.cell (i:=1) rfl
 go_wp2_with fail
 with_reducible refine(C7.out _ HB12.out).mono ?_
 rintro e W13 ⟨rfl,hb⟩
 clear dK41
 have K1:=hid (K1.out.below hb)
 have K5:=hid (K5.out.below hb)
 have HB13:=hbt HB12 hb
 clear hb
 have dK50:=K5.out.cell (i:=0) rfl
 go_wp2_with fail
 with_reducible refine(C8.out _ HB13.out).mono ?_
 rintro e W14 ⟨rfl,hb⟩
 clear dK50
 have K1:=hid (K1.out.below hb)
 have HB14:=hbt HB13 hb
 clear hb
 have dK10:=K1.out.cell (i:=0) rfl
 have dK11:=K1.out.cell (i:=1) rfl
 go_wp2
 all_goals exact bodyPost_ret (v:=.bool true) (by simp[results,Tryz.results5,go_sem]) rfl ⟨rfl,HB14.out⟩
theorem abr_ss (d lo hi b1 b2 u1 u2 v1 v2:ByteArray)(n l c f:Int)(k m h j:Nat)(w₀:World)(h0:CV w₀ 6 #[] (.bool true))(h1:CV w₀ 16 #[.string d,.int .i64 (k:Int),.int .i64 (h:Int)] (.tuple #[.agg #[.string lo,.string hi],.int .i64 0]))(h2:CV w₀ 16 #[.string d,.int .i64 (k:Int),.int .i64 (j:Int)] (.tuple #[.agg #[.string b1,.string b2],.int .i64 0]))(h3:CV w₀ 10 #[.agg #[.string lo,.string hi],.agg #[.string b1,.string b2]] (.tuple #[.agg #[.string b1,.string b2],.bool true]))(h4:CV w₀ 11 #[.string lo,.int .i64 (k:Int)] (.tuple #[.agg #[.string u1,.string u2],.int .i64 0]))(h5:CV w₀ 11 #[.string hi,.int .i64 (k:Int)] (.tuple #[.agg #[.string v1,.string v2],.int .i64 0]))(h6:CV w₀ 17 #[.agg #[.string lo,.string hi]] (.bool true))(h7:CV w₀ 12 #[.string u2,.string d] (.tuple #[.int .i64 c,.int .i64 0]))(h8:CV w₀ 12 #[.string v1,.string d] (.tuple #[.int .i64 f,.int .i64 0]))(fld:¬ (9:Int)<(d.size:Int))(e1:IntKind.i64.wrap n=n)(e2:n.tmod 3=(m:Int))(e4:(1:Int)+(m:Int)=(k:Int))(e5:IntKind.i64.wrap (k:Int)=(k:Int))(i1:IntKind.i64.wrap l=l)(i2:l.tmod 5=(h:Int))(i4:(h:Int)+1=(j:Int))(i5:IntKind.i64.wrap (j:Int)=(j:Int))(q3:decide (c≤0)=true)(p3:decide (0<f)=true)  :
 CV w₀ 5 #[.string d,.int .u8 n,.int .u8 l] (.bool true):=by
 intro w hw
 have C0:=hid (h0.mono hw)
 have C1:=hid (h1.mono hw)
 have C2:=hid (h2.mono hw)
 have C3:=hid (h3.mono hw)
 have C4:=hid (h4.mono hw)
 have C5:=hid (h5.mono hw)
 have C6:=hid (h6.mono hw)
 have C7:=hid (h7.mono hw)
 have C8:=hid (h8.mono hw)
 clear h0 h1 h2 h3 h4 h5 h6 h7 h8 hw
 go_enter Tryz.func5,Tryz.ntmps5
 have HB0:=hid (Below.refl w.heap.size w)
 go_wp2_with fail
 with_reducible refine(C0.out _ HB0.out).mono ?_
 rintro e W1 ⟨rfl,hb⟩
 have HB1:=hbt HB0 hb
 clear hb
 go_wp2_with fail
 with_reducible refine(C1.out _ HB1.out).mono ?_
 rintro e W2 ⟨rfl,hb⟩
 have HB2:=hbt HB1 hb
 clear hb
 go_upto_region 5 with fail
 refine wp_boxes W2 [(#[.string lo,.string hi],26)] rfl ?_
 have L1:=HB2.out.size
 rintro W3 ⟨k1,hb⟩
 have hb:Below W2.heap.size W2 W3:=hb
 have HB3:=hbt HB2 hb
 have K1:=hid k1
 clear k1 hb
 go_wp2_with fail
 with_reducible refine(C2.out _ HB3.out).mono ?_
 rintro e W4 ⟨rfl,hb⟩
 have K1:=hid (K1.out.below hb)
 have HB4:=hbt HB3 hb
 clear hb
 go_upto_region 6 with fail
 refine wp_boxes W4 [(#[.string b1,.string b2],26)] rfl ?_
 have L2:=K1.out.lt
 have L3:=HB4.out.size
 rintro W5 ⟨k2,hb⟩
 have hb:Below W4.heap.size W4 W5:=hb
 have K1:=hid (K1.out.below hb)
 have HB5:=hbt HB4 hb
 have K2:=hid k2
 clear k2 hb
 have dK10:=K1.out.cell (i:=0) rfl
 have dK11:=K1.out.cell (i:=1) rfl
 have dK20:=K2.out.cell (i:=0) rfl
 have dK21:=K2.out.cell (i:=1) rfl
 go_wp2_with fail
 with_reducible refine(C3.out _ HB5.out).mono ?_
 rintro e W6 ⟨rfl,hb⟩
 clear dK10 dK11 dK20 dK21
 have K1:=hid (K1.out.below hb)
 have K2:=hid (K2.out.below hb)
 have HB6:=hbt HB5 hb
 clear hb
 go_upto_region 9 with fail
 refine wp_boxes W6 [(#[.string b1,.string b2],26)] rfl ?_
 have L4:=K1.out.lt
 have L5:=K2.out.lt
 have L6:=HB6.out.size
 rintro W7 ⟨k3,hb⟩
 have hb:Below W6.heap.size W6 W7:=hb
 have K1:=hid (K1.out.below hb)
 have K2:=hid (K2.out.below hb)
 have HB7:=hbt HB6 hb
 have K3:=hid k3
 clear k3 hb
 have dK10:=K1.out.cell (i:=0) rfl
 go_wp2_with fail
 with_reducible refine(C4.out _ HB7.out).mono ?_
 rintro e W8 ⟨rfl,hb⟩
 clear dK10
 have K1:=hid (K1.out.below hb)
 have K2:=hid (K2.out.below hb)
 have K3:=hid (K3.out.below hb)
 have HB8:=hbt HB7 hb
 clear hb
 go_upto_region 10 with fail
 refine wp_boxes W8 [(#[.string u1,.string u2],26)] rfl ?_
 have L7:=K1.out.lt
 have L8:=K2.out.lt
 have L9:=K3.out.lt
 have L10:=HB8.out.size
 rintro W9 ⟨k4,hb⟩
 have hb:Below W8.heap.size W8 W9:=hb
 have K1:=hid (K1.out.below hb)
 have K2:=hid (K2.out.below hb)
 have K3:=hid (K3.out.below hb)
 have HB9:=hbt HB8 hb
 have K4:=hid k4
 clear k4 hb
 have dK11:=K1.out.cell (i:=1) rfl
 go_wp2_with fail
 with_reducible refine(C5.out _ HB9.out).mono ?_
 rintro e W10 ⟨rfl,hb⟩
 clear dK11
 have K1:=hid (K1.out.below hb)
 have K2:=hid (K2.out.below hb)
 have K3:=hid (K3.out.below hb)
 have K4:=hid (K4.out.below hb)
 have HB10:=hbt HB9 hb
 clear hb
 go_upto_region 11 with fail
 refine wp_boxes W10 [(#[.string v1,.string v2],26)] rfl ?_
 have L11:=K1.out.lt
 have L12:=K2.out.lt
 have L13:=K3.out.lt
 have L14:=K4.out.lt
 have L15:=HB10.out.size
 rintro W11 ⟨k5,hb⟩
 have hb:Below W10.heap.size W10 W11:=hb
 have K1:=hid (K1.out.below hb)
 have K2:=hid (K2.out.below hb)
 have K3:=hid (K3.out.below hb)
 have K4:=hid (K4.out.below hb)
 have HB11:=hbt HB10 hb
 have K5:=hid k5
 clear k5 hb
 have dK30:=K3.out.cell (i:=0) rfl
 have dK31:=K3.out.cell (i:=1) rfl
 have dK20:=K2.out.cell (i:=0) rfl
 have dK21:=K2.out.cell (i:=1) rfl
 have dK10:=K1.out.cell (i:=0) rfl
 have dK11:=K1.out.cell (i:=1) rfl
 go_wp2_with fail
 with_reducible refine(C6.out _ HB11.out).mono ?_
 rintro e W12 ⟨rfl,hb⟩
 clear dK30 dK31 dK20 dK21 dK10 dK11
 have K1:=hid (K1.out.below hb)
 have K4:=hid (K4.out.below hb)
 have K5:=hid (K5.out.below hb)
 have HB12:=hbt HB11 hb
 clear hb
 have dK41:=K4.out.cell (i:=1) rfl
 go_wp2_with fail
 with_reducible refine(C7.out _ HB12.out).mono ?_
 rintro e W13 ⟨rfl,hb⟩
 clear dK41
 have K1:=hid (K1.out.below hb)
 have K5:=hid (K5.out.below hb)
 have HB13:=hbt HB12 hb
 clear hb
 have dK50:=K5.out.cell (i:=0) rfl
 go_wp2_with fail
 with_reducible refine(C8.out _ HB13.out).mono ?_
 rintro e W14 ⟨rfl,hb⟩
 clear dK50
 have K1:=hid (K1.out.below hb)
 have HB14:=hbt HB13 hb
 clear hb
 have dK10:=K1.out.cell (i:=0) rfl
 have dK11:=K1.out.cell (i:=1) rfl
 go_wp2
 all_goals exact bodyPost_ret (v:=.bool true) (by simp[results,Tryz.results5,go_sem]) rfl ⟨rfl,HB14.out⟩
end Go.Proofs.YtcihodmmaclihaaGreatDoor
