/- root.signOfSum: walks over the contracts of what it calls, and the table. -/
import Derived.Test.YtggoeabhbkbadaaGreatDoorMz3q
set_option maxRecDepth 100000
set_option maxHeartbeats 20000000
open Go.Lib (hid)
namespace Go.Proofs.YtggoeabhbkbadaaGreatDoor
open Go.RowKit Go.Gb
def Stb (w:World) (g:Nat) (cs:Array Value) (_:TypeId):Prop:=g<w.heap.size∧∀ i v,cs[i]? = some v→w.cell? ⟨g,i,none⟩=some v
theorem Stb.cell {w:World}{g i:Nat}{cs:Array Value}{T:TypeId}{v:Value}(h:Stb w g cs T)(hi:cs[i]? = some v):w.cell? ⟨g,i,none⟩=some v:=h.2 i v hi
theorem Stb.below {w w':World}{g:Nat}{cs:Array Value}{T:TypeId}(h:Stb w g cs T)(hb:Below w.heap.size w w'):Stb w' g cs T :=
 ⟨Nat.lt_of_lt_of_le h.1 hb.size,fun i v hi=>(hb.cell (p:=⟨g,i,none⟩) h.1).trans (h.2 i v hi)⟩
theorem osos_no0 (xa xb yc yd:ByteArray)(w₀:World)(h1:CV w₀ 16 #[.string xa] (.bool false))  :
 CV w₀ 43 #[.agg #[.string xa,.string xb],.agg #[.string yc,.string yd]] (.tuple #[.int .i64 0,.int .i64 1]):=by
 intro w hw
 have C1:=hid (h1.mono hw)
 clear h1 hw
 go_enter Tryz.func43,Tryz.ntmps43
 go_upto_region 1 with fail
 refine wp_boxes w [(#[.string xa,.string xb],74),(#[.string yc,.string yd],74)] rfl ?_
 rintro W0 ⟨k1,k2,hb⟩
 have HB0:=hid (show Below w.heap.size w W0 from hb)
 have K1:=hid k1
 have K2:=hid k2
 clear k1 k2 hb
 have dK10:=K1.out.cell (i:=0) rfl
 have dK11:=K1.out.cell (i:=1) rfl
 have dK20:=K2.out.cell (i:=0) rfl
 have dK21:=K2.out.cell (i:=1) rfl
 go_wp2
 have hb:=below_new W0 (.cells #[.string xa,.string xb,.string yc,.string yd] 22)
 have k3:=SBk.new W0 #[.string xa,.string xb,.string yc,.string yd] 22
 generalize W0.alloc (.cells #[.string xa,.string xb,.string yc,.string yd] 22)=W1 at *
 have HB1:=hbt HB0 hb
 have K3:=hid k3
 clear k3 hb dK10 dK11 dK20 dK21
 refine wp_loop_rounds 5 ?_
 rw[rounds_succ]
 have dK30:=K3.out.cell (i:=0) rfl
 go_wp2_with fail
 with_reducible refine(C1.out _ HB1.out).mono ?_
 rintro e W2 ⟨rfl,hb⟩
 clear dK30
 have HB2:=hbt HB1 hb
 clear hb
 go_wp2
 exact bodyPost_ret (v:=.tuple #[.int .i64 0,.int .i64 1]) (by simp[results,Tryz.results43,go_sem]) rfl ⟨rfl,HB2.out⟩
theorem osos_no1 (xa xb yc yd:ByteArray)(w₀:World)(h1:CV w₀ 16 #[.string xa] (.bool true))(h2:CV w₀ 16 #[.string xb] (.bool false))  :
 CV w₀ 43 #[.agg #[.string xa,.string xb],.agg #[.string yc,.string yd]] (.tuple #[.int .i64 0,.int .i64 1]):=by
 intro w hw
 have C1:=hid (h1.mono hw)
 have C2:=hid (h2.mono hw)
 clear h1 h2 hw
 go_enter Tryz.func43,Tryz.ntmps43
 go_upto_region 1 with fail
 refine wp_boxes w [(#[.string xa,.string xb],74),(#[.string yc,.string yd],74)] rfl ?_
 rintro W0 ⟨k1,k2,hb⟩
 have HB0:=hid (show Below w.heap.size w W0 from hb)
 have K1:=hid k1
 have K2:=hid k2
 clear k1 k2 hb
 have dK10:=K1.out.cell (i:=0) rfl
 have dK11:=K1.out.cell (i:=1) rfl
 have dK20:=K2.out.cell (i:=0) rfl
 have dK21:=K2.out.cell (i:=1) rfl
 go_wp2
 have hb:=below_new W0 (.cells #[.string xa,.string xb,.string yc,.string yd] 22)
 have k3:=SBk.new W0 #[.string xa,.string xb,.string yc,.string yd] 22
 generalize W0.alloc (.cells #[.string xa,.string xb,.string yc,.string yd] 22)=W1 at *
 have HB1:=hbt HB0 hb
 have K3:=hid k3
 clear k3 hb dK10 dK11 dK20 dK21
 refine wp_loop_rounds 5 ?_
 rw[rounds_succ]
 have dK30:=K3.out.cell (i:=0) rfl
 go_wp2_with fail
 with_reducible refine(C1.out _ HB1.out).mono ?_
 rintro e W2 ⟨rfl,hb⟩
 clear dK30
 have K3:=hid (K3.out.below hb)
 have HB2:=hbt HB1 hb
 clear hb
 go_wp2
 rw[rounds_succ]
 have dK31:=K3.out.cell (i:=1) rfl
 go_wp2_with fail
 with_reducible refine(C2.out _ HB2.out).mono ?_
 rintro e W3 ⟨rfl,hb⟩
 clear dK31
 have HB3:=hbt HB2 hb
 clear hb
 go_wp2
 exact bodyPost_ret (v:=.tuple #[.int .i64 0,.int .i64 1]) (by simp[results,Tryz.results43,go_sem]) rfl ⟨rfl,HB3.out⟩
theorem osos_no2 (xa xb yc yd:ByteArray)(w₀:World)(h1:CV w₀ 16 #[.string xa] (.bool true))(h2:CV w₀ 16 #[.string xb] (.bool true))(h3:CV w₀ 16 #[.string yc] (.bool false))  :
 CV w₀ 43 #[.agg #[.string xa,.string xb],.agg #[.string yc,.string yd]] (.tuple #[.int .i64 0,.int .i64 1]):=by
 intro w hw
 have C1:=hid (h1.mono hw)
 have C2:=hid (h2.mono hw)
 have C3:=hid (h3.mono hw)
 clear h1 h2 h3 hw
 go_enter Tryz.func43,Tryz.ntmps43
 go_upto_region 1 with fail
 refine wp_boxes w [(#[.string xa,.string xb],74),(#[.string yc,.string yd],74)] rfl ?_
 rintro W0 ⟨k1,k2,hb⟩
 have HB0:=hid (show Below w.heap.size w W0 from hb)
 have K1:=hid k1
 have K2:=hid k2
 clear k1 k2 hb
 have dK10:=K1.out.cell (i:=0) rfl
 have dK11:=K1.out.cell (i:=1) rfl
 have dK20:=K2.out.cell (i:=0) rfl
 have dK21:=K2.out.cell (i:=1) rfl
 go_wp2
 have hb:=below_new W0 (.cells #[.string xa,.string xb,.string yc,.string yd] 22)
 have k3:=SBk.new W0 #[.string xa,.string xb,.string yc,.string yd] 22
 generalize W0.alloc (.cells #[.string xa,.string xb,.string yc,.string yd] 22)=W1 at *
 have HB1:=hbt HB0 hb
 have K3:=hid k3
 clear k3 hb dK10 dK11 dK20 dK21
 refine wp_loop_rounds 5 ?_
 rw[rounds_succ]
 have dK30:=K3.out.cell (i:=0) rfl
 go_wp2_with fail
 with_reducible refine(C1.out _ HB1.out).mono ?_
 rintro e W2 ⟨rfl,hb⟩
 clear dK30
 have K3:=hid (K3.out.below hb)
 have HB2:=hbt HB1 hb
 clear hb
 go_wp2
 rw[rounds_succ]
 have dK31:=K3.out.cell (i:=1) rfl
 go_wp2_with fail
 with_reducible refine(C2.out _ HB2.out).mono ?_
 rintro e W3 ⟨rfl,hb⟩
 clear dK31
 have K3:=hid (K3.out.below hb)
 have HB3:=hbt HB2 hb
 clear hb
 go_wp2
 rw[rounds_succ]
 have dK32:=K3.out.cell (i:=2) rfl
 go_wp2_with fail
 with_reducible refine(C3.out _ HB3.out).mono ?_
 rintro e W4 ⟨rfl,hb⟩
 clear dK32
 have HB4:=hbt HB3 hb
 clear hb
 go_wp2
 exact bodyPost_ret (v:=.tuple #[.int .i64 0,.int .i64 1]) (by simp[results,Tryz.results43,go_sem]) rfl ⟨rfl,HB4.out⟩
theorem osos_no3 (xa xb yc yd:ByteArray)(w₀:World)(h1:CV w₀ 16 #[.string xa] (.bool true))(h2:CV w₀ 16 #[.string xb] (.bool true))(h3:CV w₀ 16 #[.string yc] (.bool true))(h4:CV w₀ 16 #[.string yd] (.bool false))  :
 CV w₀ 43 #[.agg #[.string xa,.string xb],.agg #[.string yc,.string yd]] (.tuple #[.int .i64 0,.int .i64 1]):=by
 intro w hw
 have C1:=hid (h1.mono hw)
 have C2:=hid (h2.mono hw)
 have C3:=hid (h3.mono hw)
 have C4:=hid (h4.mono hw)
 clear h1 h2 h3 h4 hw
 go_enter Tryz.func43,Tryz.ntmps43
 go_upto_region 1 with fail
 refine wp_boxes w [(#[.string xa,.string xb],74),(#[.string yc,.string yd],74)] rfl ?_
 rintro W0 ⟨k1,k2,hb⟩
 have HB0:=hid (show Below w.heap.size w W0 from hb)
 have K1:=hid k1
 have K2:=hid k2
 clear k1 k2 hb
 have dK10:=K1.out.cell (i:=0) rfl
 have dK11:=K1.out.cell (i:=1) rfl
 have dK20:=K2.out.cell (i:=0) rfl
 have dK21:=K2.out.cell (i:=1) rfl
 go_wp2
 have hb:=below_new W0 (.cells #[.string xa,.string xb,.string yc,.string yd] 22)
 have k3:=SBk.new W0 #[.string xa,.string xb,.string yc,.string yd] 22
 generalize W0.alloc (.cells #[.string xa,.string xb,.string yc,.string yd] 22)=W1 at *
 have HB1:=hbt HB0 hb
 have K3:=hid k3
 clear k3 hb dK10 dK11 dK20 dK21
 refine wp_loop_rounds 5 ?_
 rw[rounds_succ]
 have dK30:=K3.out.cell (i:=0) rfl
 go_wp2_with fail
 with_reducible refine(C1.out _ HB1.out).mono ?_
 rintro e W2 ⟨rfl,hb⟩
 clear dK30
 have K3:=hid (K3.out.below hb)
 have HB2:=hbt HB1 hb
 clear hb
 go_wp2
 rw[rounds_succ]
 have dK31:=K3.out.cell (i:=1) rfl
 go_wp2_with fail
 with_reducible refine(C2.out _ HB2.out).mono ?_
 rintro e W3 ⟨rfl,hb⟩
 clear dK31
 have K3:=hid (K3.out.below hb)
 have HB3:=hbt HB2 hb
 clear hb
 go_wp2
 rw[rounds_succ]
 have dK32:=K3.out.cell (i:=2) rfl
 go_wp2_with fail
 with_reducible refine(C3.out _ HB3.out).mono ?_
 rintro e W4 ⟨rfl,hb⟩
 clear dK32
 have K3:=hid (K3.out.below hb)
 have HB4:=hbt HB3 hb
 clear hb
 go_wp2
 rw[rounds_succ]
 have dK33:=K3.out.cell (i:=3) rfl
 go_wp2_with fail
 with_reducible refine(C4.out _ HB4.out).mono ?_
 rintro e W5 ⟨rfl,hb⟩
 clear dK33
 have HB5:=hbt HB4 hb
 clear hb
 go_wp2
 exact bodyPost_ret (v:=.tuple #[.int .i64 0,.int .i64 1]) (by simp[results,Tryz.results43,go_sem]) rfl ⟨rfl,HB5.out⟩
theorem osos_neg1 (xa xb yc yd:ByteArray)(w₀:World)(h1:CV w₀ 16 #[.string xa] (.bool true))(h2:CV w₀ 16 #[.string xb] (.bool true))(h3:CV w₀ 16 #[.string yc] (.bool true))(h4:CV w₀ 16 #[.string yd] (.bool true))(h5:CV w₀ 37 #[.string xb] (.int .i64 (-1)))  :
 CV w₀ 43 #[.agg #[.string xa,.string xb],.agg #[.string yc,.string yd]] (.tuple #[.int .i64 0,.int .i64 2]):=by
 intro w hw
 have C1:=hid (h1.mono hw)
 have C2:=hid (h2.mono hw)
 have C3:=hid (h3.mono hw)
 have C4:=hid (h4.mono hw)
 have C5:=hid (h5.mono hw)
 clear h1 h2 h3 h4 h5 hw
 go_enter Tryz.func43,Tryz.ntmps43
 go_upto_region 1 with fail
 refine wp_boxes w [(#[.string xa,.string xb],74),(#[.string yc,.string yd],74)] rfl ?_
 rintro W0 ⟨k1,k2,hb⟩
 have HB0:=hid (show Below w.heap.size w W0 from hb)
 have K1:=hid k1
 have K2:=hid k2
 clear k1 k2 hb
 have dK10:=K1.out.cell (i:=0) rfl
 have dK11:=K1.out.cell (i:=1) rfl
 have dK20:=K2.out.cell (i:=0) rfl
 have dK21:=K2.out.cell (i:=1) rfl
 go_wp2
 have hb:=below_new W0 (.cells #[.string xa,.string xb,.string yc,.string yd] 22)
 have k3:=SBk.new W0 #[.string xa,.string xb,.string yc,.string yd] 22
 generalize W0.alloc (.cells #[.string xa,.string xb,.string yc,.string yd] 22)=W1 at *
 have K1:=hid (K1.out.below hb)
 have HB1:=hbt HB0 hb
 have K3:=hid k3
 clear k3 hb dK10 dK11 dK20 dK21
 refine wp_loop_rounds 5 ?_
 rw[rounds_succ]
 have dK30:=K3.out.cell (i:=0) rfl
 go_wp2_with fail
 with_reducible refine(C1.out _ HB1.out).mono ?_
 rintro e W2 ⟨rfl,hb⟩
 clear dK30
 have K1:=hid (K1.out.below hb)
 have K3:=hid (K3.out.below hb)
 have HB2:=hbt HB1 hb
 clear hb
 go_wp2
 rw[rounds_succ]
 have dK31:=K3.out.cell (i:=1) rfl
 go_wp2_with fail
 with_reducible refine(C2.out _ HB2.out).mono ?_
 rintro e W3 ⟨rfl,hb⟩
 clear dK31
 have K1:=hid (K1.out.below hb)
 have K3:=hid (K3.out.below hb)
 have HB3:=hbt HB2 hb
 clear hb
 go_wp2
 rw[rounds_succ]
 have dK32:=K3.out.cell (i:=2) rfl
 go_wp2_with fail
 with_reducible refine(C3.out _ HB3.out).mono ?_
 rintro e W4 ⟨rfl,hb⟩
 clear dK32
 have K1:=hid (K1.out.below hb)
 have K3:=hid (K3.out.below hb)
 have HB4:=hbt HB3 hb
 clear hb
 go_wp2
 rw[rounds_succ]
 have dK33:=K3.out.cell (i:=3) rfl
 go_wp2_with fail
 with_reducible refine(C4.out _ HB4.out).mono ?_
 rintro e W5 ⟨rfl,hb⟩
 clear dK33
 have K1:=hid (K1.out.below hb)
 have HB5:=hbt HB4 hb
 clear hb
 go_wp2
 rw[rounds_succ]
 have dK11:=K1.out.cell (i:=1) rfl
 go_wp2_with fail
 with_reducible refine(C5.out _ HB5.out).mono ?_
 rintro e W6 ⟨rfl,hb⟩
 clear dK11
 have HB6:=hbt HB5 hb
 clear hb
 go_wp2
 exact bodyPost_ret (v:=.tuple #[.int .i64 0,.int .i64 2]) (by simp[results,Tryz.results43,go_sem]) rfl ⟨rfl,HB6.out⟩
theorem osos_neg2 (xa xb yc yd:ByteArray)(s:Int)(w₀:World)(h1:CV w₀ 16 #[.string xa] (.bool true))(h2:CV w₀ 16 #[.string xb] (.bool true))(h3:CV w₀ 16 #[.string yc] (.bool true))(h4:CV w₀ 16 #[.string yd] (.bool true))(h5:CV w₀ 37 #[.string xb] (.int .i64 s))(h6:CV w₀ 37 #[.string yd] (.int .i64 (-1)))(f1:decide (s<0)=false) :
 CV w₀ 43 #[.agg #[.string xa,.string xb],.agg #[.string yc,.string yd]] (.tuple #[.int .i64 0,.int .i64 2]):=by
 intro w hw
 have C1:=hid (h1.mono hw)
 have C2:=hid (h2.mono hw)
 have C3:=hid (h3.mono hw)
 have C4:=hid (h4.mono hw)
 have C5:=hid (h5.mono hw)
 have C6:=hid (h6.mono hw)
 have g1:=f1
 clear f1 h1 h2 h3 h4 h5 h6 hw
 go_enter Tryz.func43,Tryz.ntmps43
 go_upto_region 1 with fail
 refine wp_boxes w [(#[.string xa,.string xb],74),(#[.string yc,.string yd],74)] rfl ?_
 rintro W0 ⟨k1,k2,hb⟩
 have HB0:=hid (show Below w.heap.size w W0 from hb)
 have K1:=hid k1
 have K2:=hid k2
 clear k1 k2 hb
 have dK10:=K1.out.cell (i:=0) rfl
 have dK11:=K1.out.cell (i:=1) rfl
 have dK20:=K2.out.cell (i:=0) rfl
 have dK21:=K2.out.cell (i:=1) rfl
 go_wp2
 have hb:=below_new W0 (.cells #[.string xa,.string xb,.string yc,.string yd] 22)
 have k3:=SBk.new W0 #[.string xa,.string xb,.string yc,.string yd] 22
 generalize W0.alloc (.cells #[.string xa,.string xb,.string yc,.string yd] 22)=W1 at *
 have K1:=hid (K1.out.below hb)
 have K2:=hid (K2.out.below hb)
 have HB1:=hbt HB0 hb
 have K3:=hid k3
 clear k3 hb dK10 dK11 dK20 dK21
 refine wp_loop_rounds 5 ?_
 rw[rounds_succ]
 have dK30:=K3.out.cell (i:=0) rfl
 go_wp2_with fail
 with_reducible refine(C1.out _ HB1.out).mono ?_
 rintro e W2 ⟨rfl,hb⟩
 clear dK30
 have K1:=hid (K1.out.below hb)
 have K2:=hid (K2.out.below hb)
 have K3:=hid (K3.out.below hb)
 have HB2:=hbt HB1 hb
 clear hb
 go_wp2
 rw[rounds_succ]
 have dK31:=K3.out.cell (i:=1) rfl
 go_wp2_with fail
 with_reducible refine(C2.out _ HB2.out).mono ?_
 rintro e W3 ⟨rfl,hb⟩
 clear dK31
 have K1:=hid (K1.out.below hb)
 have K2:=hid (K2.out.below hb)
 have K3:=hid (K3.out.below hb)
 have HB3:=hbt HB2 hb
 clear hb
 go_wp2
 rw[rounds_succ]
 have dK32:=K3.out.cell (i:=2) rfl
 go_wp2_with fail
 with_reducible refine(C3.out _ HB3.out).mono ?_
 rintro e W4 ⟨rfl,hb⟩
 clear dK32
 have K1:=hid (K1.out.below hb)
 have K2:=hid (K2.out.below hb)
 have K3:=hid (K3.out.below hb)
 have HB4:=hbt HB3 hb
 clear hb
 go_wp2
 rw[rounds_succ]
 have dK33:=K3.out.cell (i:=3) rfl
 go_wp2_with fail
 with_reducible refine(C4.out _ HB4.out).mono ?_
 rintro e W5 ⟨rfl,hb⟩
 clear dK33
 have K1:=hid (K1.out.below hb)
 have K2:=hid (K2.out.below hb)
 have HB5:=hbt HB4 hb
 clear hb
 go_wp2
 rw[rounds_succ]
 have dK11:=K1.out.cell (i:=1) rfl
 go_wp2_with fail
 with_reducible refine(C5.out _ HB5.out).mono ?_
 rintro e W6 ⟨rfl,hb⟩
 clear dK11
 have K2:=hid (K2.out.below hb)
 have HB6:=hbt HB5 hb
 clear hb
 have dK21:=K2.out.cell (i:=1) rfl
 go_wp2_with fail
 with_reducible refine(C6.out _ HB6.out).mono ?_
 rintro e W7 ⟨rfl,hb⟩
 clear dK21
 have HB7:=hbt HB6 hb
 clear hb
 go_wp2
 exact bodyPost_ret (v:=.tuple #[.int .i64 0,.int .i64 2]) (by simp[results,Tryz.results43,go_sem]) rfl ⟨rfl,HB7.out⟩
theorem osos_mm (xa xb yc yd:ByteArray)(sb sd:Int)(w₀:World)(h1:CV w₀ 16 #[.string xa] (.bool true))(h2:CV w₀ 16 #[.string xb] (.bool true))(h3:CV w₀ 16 #[.string yc] (.bool true))(h4:CV w₀ 16 #[.string yd] (.bool true))(h5:CV w₀ 37 #[.string xb] (.int .i64 sb))(h6:CV w₀ 37 #[.string yd] (.int .i64 sd))(h7:CV w₀ 76 #[.agg #[.string xa,.string xb]] (.int .i64 (-1)))(h8:CV w₀ 76 #[.agg #[.string yc,.string yd]] (.int .i64 (-1)))(f1:decide (sb<0)=false)(f2:decide (sd<0)=false)(kKT:Stb w₀ 0 #[.int .i64 (-1),.int .i64 (-1),.int .i64 2,.int .i64 (-1),.int .i64 0,.int .i64 1,.int .i64 2,.int .i64 1,.int .i64 1] 101) :
 CV w₀ 43 #[.agg #[.string xa,.string xb],.agg #[.string yc,.string yd]] (.tuple #[.int .i64 (-1),.int .i64 0]):=by
 intro w hw
 have C1:=hid (h1.mono hw)
 have C2:=hid (h2.mono hw)
 have C3:=hid (h3.mono hw)
 have C4:=hid (h4.mono hw)
 have C5:=hid (h5.mono hw)
 have C6:=hid (h6.mono hw)
 have C7:=hid (h7.mono hw)
 have C8:=hid (h8.mono hw)
 have g1:=f1
 have g2:=f2
 clear f1 f2
 have KT:=hid (kKT.below hw)
 clear h1 h2 h3 h4 h5 h6 h7 h8 kKT hw
 go_enter Tryz.func43,Tryz.ntmps43
 go_upto_region 1 with fail
 refine wp_boxes w [(#[.string xa,.string xb],74),(#[.string yc,.string yd],74)] rfl ?_
 rintro W0 ⟨k1,k2,hb⟩
 have HB0:=hid (show Below w.heap.size w W0 from hb)
 have KT:=hid (KT.out.below HB0.out)
 have K1:=hid k1
 have K2:=hid k2
 clear k1 k2 hb
 have dK10:=K1.out.cell (i:=0) rfl
 have dK11:=K1.out.cell (i:=1) rfl
 have dK20:=K2.out.cell (i:=0) rfl
 have dK21:=K2.out.cell (i:=1) rfl
 go_wp2
 have hb:=below_new W0 (.cells #[.string xa,.string xb,.string yc,.string yd] 22)
 have k3:=SBk.new W0 #[.string xa,.string xb,.string yc,.string yd] 22
 generalize W0.alloc (.cells #[.string xa,.string xb,.string yc,.string yd] 22)=W1 at *
 have KT:=hid (KT.out.below hb)
 have K1:=hid (K1.out.below hb)
 have K2:=hid (K2.out.below hb)
 have HB1:=hbt HB0 hb
 have K3:=hid k3
 clear k3 hb dK10 dK11 dK20 dK21
 refine wp_loop_rounds 5 ?_
 rw[rounds_succ]
 have dK30:=K3.out.cell (i:=0) rfl
 go_wp2_with fail
 with_reducible refine(C1.out _ HB1.out).mono ?_
 rintro e W2 ⟨rfl,hb⟩
 clear dK30
 have KT:=hid (KT.out.below hb)
 have K1:=hid (K1.out.below hb)
 have K2:=hid (K2.out.below hb)
 have K3:=hid (K3.out.below hb)
 have HB2:=hbt HB1 hb
 clear hb
 go_wp2
 rw[rounds_succ]
 have dK31:=K3.out.cell (i:=1) rfl
 go_wp2_with fail
 with_reducible refine(C2.out _ HB2.out).mono ?_
 rintro e W3 ⟨rfl,hb⟩
 clear dK31
 have KT:=hid (KT.out.below hb)
 have K1:=hid (K1.out.below hb)
 have K2:=hid (K2.out.below hb)
 have K3:=hid (K3.out.below hb)
 have HB3:=hbt HB2 hb
 clear hb
 go_wp2
 rw[rounds_succ]
 have dK32:=K3.out.cell (i:=2) rfl
 go_wp2_with fail
 with_reducible refine(C3.out _ HB3.out).mono ?_
 rintro e W4 ⟨rfl,hb⟩
 clear dK32
 have KT:=hid (KT.out.below hb)
 have K1:=hid (K1.out.below hb)
 have K2:=hid (K2.out.below hb)
 have K3:=hid (K3.out.below hb)
 have HB4:=hbt HB3 hb
 clear hb
 go_wp2
 rw[rounds_succ]
 have dK33:=K3.out.cell (i:=3) rfl
 go_wp2_with fail
 with_reducible refine(C4.out _ HB4.out).mono ?_
 rintro e W5 ⟨rfl,hb⟩
 clear dK33
 have KT:=hid (KT.out.below hb)
 have K1:=hid (K1.out.below hb)
 have K2:=hid (K2.out.below hb)
 have HB5:=hbt HB4 hb
 clear hb
 go_wp2
 rw[rounds_succ]
 have dK11:=K1.out.cell (i:=1) rfl
 go_wp2_with fail
 with_reducible refine(C5.out _ HB5.out).mono ?_
 rintro e W6 ⟨rfl,hb⟩
 clear dK11
 have KT:=hid (KT.out.below hb)
 have K1:=hid (K1.out.below hb)
 have K2:=hid (K2.out.below hb)
 have HB6:=hbt HB5 hb
 clear hb
 have dK21:=K2.out.cell (i:=1) rfl
 go_wp2_with fail
 with_reducible refine(C6.out _ HB6.out).mono ?_
 rintro e W7 ⟨rfl,hb⟩
 clear dK21
 have KT:=hid (KT.out.below hb)
 have K1:=hid (K1.out.below hb)
 have K2:=hid (K2.out.below hb)
 have HB7:=hbt HB6 hb
 clear hb
 go_wp2_with fail
 refine wp_region_post (fun a0 a' V=>a'=⟨putL [(37,.agg #[.string xa,.string xb]),(38,.int .i64 (-1)),(39,.int .i64 0),(40,.agg #[.string yc,.string yd]),(41,.int .i64 (-1)),(42,.int .i64 0),(43,.pointer (some ⟨0,0,none⟩)),(44,.pointer (some ⟨0,0,none⟩)),(45,.int .i64 (-1)),(8,.int .i64 (-1))] a0.tmps,a0.defers⟩∧Below w.heap.size w V) ?_ ?_
 · refine wp_region_tail_d (by kernel_rfl) 10 0 (fun i=>[37,38,39,40,41,42,43,44,45,8].getD i 0) (RelR [Rel.val (.agg #[.string xa,.string xb]),Rel.val (.int .i64 (-1)),Rel.val (.int .i64 0),Rel.val (.agg #[.string yc,.string yd]),Rel.val (.int .i64 (-1)),Rel.val (.int .i64 0),Rel.val (.pointer (some ⟨0,0,none⟩)),Rel.val (.pointer (some ⟨0,0,none⟩)),Rel.val (.int .i64 (-1)),Rel.val (.int .i64 (-1))]) (fun W=>Below W7.heap.size W7 W) (fun _ _=>True) (by kernel_rfl) (by kernel_rfl) (by kernel_rfl) trivial (Below.refl _ _).drew ?_ ?_
   · intro listed a W i hI hD hrd him
     have HI:=hid hI
     have HD:=hid hD
     have Hr:=hid hrd
     clear hI hrd hD
     have y2:a.tmps[2]? = some (.pointer (some ⟨w.heap.size,0,none⟩)):=HI.out.rest 2 (by decide)
     have y3:a.tmps[3]? = some (.pointer (some ⟨w.heap.size+1,0,none⟩)):=HI.out.rest 3 (by decide)
     have dK10:=(K1.out.below HI.out.world).cell (i:=0) rfl
     have dK11:=(K1.out.below HI.out.world).cell (i:=1) rfl
     have dK20:=(K2.out.below HI.out.world).cell (i:=0) rfl
     have dK21:=(K2.out.below HI.out.world).cell (i:=1) rfl
     have dKT0:=(KT.out.below HI.out.world).cell (i:=0) rfl
     have X0:RV _ listed a 0 37 (.agg #[.string xa,.string xb]):=HI.out.rh
     have X1:RV _ listed a 1 38 (.int .i64 (-1)):=HI.out.rh
     have X3:RV _ listed a 3 40 (.agg #[.string yc,.string yd]):=HI.out.rh
     have X4:RV _ listed a 4 41 (.int .i64 (-1)):=HI.out.rh
     have X2:RV _ listed a 2 39 (.int .i64 0):=HI.out.rh
     have X6:RV _ listed a 6 43 (.pointer (some ⟨0,0,none⟩)):=HI.out.rh
     have X5:RV _ listed a 5 42 (.int .i64 0):=HI.out.rh
     have X7:RV _ listed a 7 44 (.pointer (some ⟨0,0,none⟩)):=HI.out.rh
     have X8:RV _ listed a 8 45 (.int .i64 (-1)):=HI.out.rh
     match i,him,Hr with
     | 0,_,Hi =>
       refine stepH rfl fun K' hK=>?_
       go_simp
       exact hK.out _ _ ⟨HI.out.pv Hi.out rfl,trivial⟩
     | 1,_,Hi =>
       have x0:=X0.g Hi.out (by kernel_rfl)
       refine stepH rfl fun K' hK=>?_
       go_simp
       with_reducible refine(C7.out _ (HB7.out.trans (HI.out.world.mono HB7.out.size))).mono ?_
       rintro e W' ⟨rfl,hb⟩
       exact hK.out _ _ ⟨HI.out.pc Hi.out hb rfl,trivial⟩
     | 2,_,Hi =>
       have x1:=X1.g Hi.out (by kernel_rfl)
       refine stepH rfl fun K' hK=>?_
       go_simp
       exact hK.out _ _ ⟨HI.out.pv Hi.out rfl,trivial⟩
     | 3,_,Hi =>
       refine stepH rfl fun K' hK=>?_
       go_simp
       exact hK.out _ _ ⟨HI.out.pv Hi.out rfl,trivial⟩
     | 4,_,Hi =>
       have x3:=X3.g Hi.out (by kernel_rfl)
       refine stepH rfl fun K' hK=>?_
       go_simp
       with_reducible refine(C8.out _ (HB7.out.trans (HI.out.world.mono HB7.out.size))).mono ?_
       rintro e W' ⟨rfl,hb⟩
       exact hK.out _ _ ⟨HI.out.pc Hi.out hb rfl,trivial⟩
     | 5,_,Hi =>
       have x4:=X4.g Hi.out (by kernel_rfl)
       refine stepH rfl fun K' hK=>?_
       go_simp
       exact hK.out _ _ ⟨HI.out.pv Hi.out rfl,trivial⟩
     | 6,_,Hi =>
       have x2:=X2.g Hi.out (by kernel_rfl)
       refine stepH rfl fun K' hK=>?_
       go_simp
       exact hK.out _ _ ⟨HI.out.pv Hi.out rfl,trivial⟩
     | 7,_,Hi =>
       have x6:=X6.g Hi.out (by kernel_rfl)
       have x5:=X5.g Hi.out (by kernel_rfl)
       refine stepH rfl fun K' hK=>?_
       go_simp
       exact hK.out _ _ ⟨HI.out.pv Hi.out rfl,trivial⟩
     | 8,_,Hi =>
       have x7:=X7.g Hi.out (by kernel_rfl)
       refine stepH rfl fun K' hK=>?_
       go_simp
       exact hK.out _ _ ⟨HI.out.pv Hi.out rfl,trivial⟩
     | 9,_,Hi =>
       have x8:=X8.g Hi.out (by kernel_rfl)
       refine stepH rfl fun K' hK=>?_
       go_simp
       exact hK.out _ _ ⟨HI.out.pv Hi.out rfl,trivial⟩
     | n+10,h,_=>exact absurd h (by omega)
   · intro listed a W hI hD hall
     have HBW:=hid hI.world
     have HI:=hid hI
     have HA:=hid hall
     clear hI hall
     have HBX:=hid (HB7.out.trans (HBW.out.mono HB7.out.size))
     refine tail_nil ?_
     exact⟨rfl,(HI.out.finx ⟨HI.out.sx HA.out 0,HI.out.sx HA.out 1,HI.out.sx HA.out 2,HI.out.sx HA.out 3,HI.out.sx HA.out 4,HI.out.sx HA.out 5,HI.out.sx HA.out 6,HI.out.sx HA.out 7,HI.out.sx HA.out 8,HI.out.sx HA.out 9,trivial⟩ rfl),HBX.out⟩
 rintro a' W8 ⟨rfl,z0⟩
 have HB8:=hid z0
 clear z0
 simp only[putL,List.setIfInBounds_toArray,List.set_cons_zero,List.set_cons_succ]
 go_wp2
 exact bodyPost_ret (v:=.tuple #[.int .i64 (-1),.int .i64 0]) (by simp[results,Tryz.results43,go_sem]) rfl ⟨rfl,HB8.out⟩
theorem osos_mz (xa xb yc yd:ByteArray)(sb sd:Int)(w₀:World)(h1:CV w₀ 16 #[.string xa] (.bool true))(h2:CV w₀ 16 #[.string xb] (.bool true))(h3:CV w₀ 16 #[.string yc] (.bool true))(h4:CV w₀ 16 #[.string yd] (.bool true))(h5:CV w₀ 37 #[.string xb] (.int .i64 sb))(h6:CV w₀ 37 #[.string yd] (.int .i64 sd))(h7:CV w₀ 76 #[.agg #[.string xa,.string xb]] (.int .i64 (-1)))(h8:CV w₀ 76 #[.agg #[.string yc,.string yd]] (.int .i64 0))(f1:decide (sb<0)=false)(f2:decide (sd<0)=false)(kKT:Stb w₀ 0 #[.int .i64 (-1),.int .i64 (-1),.int .i64 2,.int .i64 (-1),.int .i64 0,.int .i64 1,.int .i64 2,.int .i64 1,.int .i64 1] 101) :
 CV w₀ 43 #[.agg #[.string xa,.string xb],.agg #[.string yc,.string yd]] (.tuple #[.int .i64 (-1),.int .i64 0]):=by
 intro w hw
 have C1:=hid (h1.mono hw)
 have C2:=hid (h2.mono hw)
 have C3:=hid (h3.mono hw)
 have C4:=hid (h4.mono hw)
 have C5:=hid (h5.mono hw)
 have C6:=hid (h6.mono hw)
 have C7:=hid (h7.mono hw)
 have C8:=hid (h8.mono hw)
 have g1:=f1
 have g2:=f2
 clear f1 f2
 have KT:=hid (kKT.below hw)
 clear h1 h2 h3 h4 h5 h6 h7 h8 kKT hw
 go_enter Tryz.func43,Tryz.ntmps43
 go_upto_region 1 with fail
 refine wp_boxes w [(#[.string xa,.string xb],74),(#[.string yc,.string yd],74)] rfl ?_
 rintro W0 ⟨k1,k2,hb⟩
 have HB0:=hid (show Below w.heap.size w W0 from hb)
 have KT:=hid (KT.out.below HB0.out)
 have K1:=hid k1
 have K2:=hid k2
 clear k1 k2 hb
 have dK10:=K1.out.cell (i:=0) rfl
 have dK11:=K1.out.cell (i:=1) rfl
 have dK20:=K2.out.cell (i:=0) rfl
 have dK21:=K2.out.cell (i:=1) rfl
 go_wp2
 have hb:=below_new W0 (.cells #[.string xa,.string xb,.string yc,.string yd] 22)
 have k3:=SBk.new W0 #[.string xa,.string xb,.string yc,.string yd] 22
 generalize W0.alloc (.cells #[.string xa,.string xb,.string yc,.string yd] 22)=W1 at *
 have KT:=hid (KT.out.below hb)
 have K1:=hid (K1.out.below hb)
 have K2:=hid (K2.out.below hb)
 have HB1:=hbt HB0 hb
 have K3:=hid k3
 clear k3 hb dK10 dK11 dK20 dK21
 refine wp_loop_rounds 5 ?_
 rw[rounds_succ]
 have dK30:=K3.out.cell (i:=0) rfl
 go_wp2_with fail
 with_reducible refine(C1.out _ HB1.out).mono ?_
 rintro e W2 ⟨rfl,hb⟩
 clear dK30
 have KT:=hid (KT.out.below hb)
 have K1:=hid (K1.out.below hb)
 have K2:=hid (K2.out.below hb)
 have K3:=hid (K3.out.below hb)
 have HB2:=hbt HB1 hb
 clear hb
 go_wp2
 rw[rounds_succ]
 have dK31:=K3.out.cell (i:=1) rfl
 go_wp2_with fail
 with_reducible refine(C2.out _ HB2.out).mono ?_
 rintro e W3 ⟨rfl,hb⟩
 clear dK31
 have KT:=hid (KT.out.below hb)
 have K1:=hid (K1.out.below hb)
 have K2:=hid (K2.out.below hb)
 have K3:=hid (K3.out.below hb)
 have HB3:=hbt HB2 hb
 clear hb
 go_wp2
 rw[rounds_succ]
 have dK32:=K3.out.cell (i:=2) rfl
 go_wp2_with fail
 with_reducible refine(C3.out _ HB3.out).mono ?_
 rintro e W4 ⟨rfl,hb⟩
 clear dK32
 have KT:=hid (KT.out.below hb)
 have K1:=hid (K1.out.below hb)
 have K2:=hid (K2.out.below hb)
 have K3:=hid (K3.out.below hb)
 have HB4:=hbt HB3 hb
 clear hb
 go_wp2
 rw[rounds_succ]
 have dK33:=K3.out.cell (i:=3) rfl
 go_wp2_with fail
 with_reducible refine(C4.out _ HB4.out).mono ?_
 rintro e W5 ⟨rfl,hb⟩
 clear dK33
 have KT:=hid (KT.out.below hb)
 have K1:=hid (K1.out.below hb)
 have K2:=hid (K2.out.below hb)
 have HB5:=hbt HB4 hb
 clear hb
 go_wp2
 rw[rounds_succ]
 have dK11:=K1.out.cell (i:=1) rfl
 go_wp2_with fail
 with_reducible refine(C5.out _ HB5.out).mono ?_
 rintro e W6 ⟨rfl,hb⟩
 clear dK11
 have KT:=hid (KT.out.below hb)
 have K1:=hid (K1.out.below hb)
 have K2:=hid (K2.out.below hb)
 have HB6:=hbt HB5 hb
 clear hb
 have dK21:=K2.out.cell (i:=1) rfl
 go_wp2_with fail
 with_reducible refine(C6.out _ HB6.out).mono ?_
 rintro e W7 ⟨rfl,hb⟩
 clear dK21
 have KT:=hid (KT.out.below hb)
 have K1:=hid (K1.out.below hb)
 have K2:=hid (K2.out.below hb)
 have HB7:=hbt HB6 hb
 clear hb
 go_wp2_with fail
 refine wp_region_post (fun a0 a' V=>a'=⟨putL [(37,.agg #[.string xa,.string xb]),(38,.int .i64 (-1)),(39,.int .i64 0),(40,.agg #[.string yc,.string yd]),(41,.int .i64 0),(42,.int .i64 1),(43,.pointer (some ⟨0,0,none⟩)),(44,.pointer (some ⟨0,1,none⟩)),(45,.int .i64 (-1)),(8,.int .i64 (-1))] a0.tmps,a0.defers⟩∧Below w.heap.size w V) ?_ ?_
 · refine wp_region_tail_d (by kernel_rfl) 10 0 (fun i=>[37,38,39,40,41,42,43,44,45,8].getD i 0) (RelR [Rel.val (.agg #[.string xa,.string xb]),Rel.val (.int .i64 (-1)),Rel.val (.int .i64 0),Rel.val (.agg #[.string yc,.string yd]),Rel.val (.int .i64 0),Rel.val (.int .i64 1),Rel.val (.pointer (some ⟨0,0,none⟩)),Rel.val (.pointer (some ⟨0,1,none⟩)),Rel.val (.int .i64 (-1)),Rel.val (.int .i64 (-1))]) (fun W=>Below W7.heap.size W7 W) (fun _ _=>True) (by kernel_rfl) (by kernel_rfl) (by kernel_rfl) trivial (Below.refl _ _).drew ?_ ?_
   · intro listed a W i hI hD hrd him
     have HI:=hid hI
     have HD:=hid hD
     have Hr:=hid hrd
     clear hI hrd hD
     have y2:a.tmps[2]? = some (.pointer (some ⟨w.heap.size,0,none⟩)):=HI.out.rest 2 (by decide)
     have y3:a.tmps[3]? = some (.pointer (some ⟨w.heap.size+1,0,none⟩)):=HI.out.rest 3 (by decide)
     have dK10:=(K1.out.below HI.out.world).cell (i:=0) rfl
     have dK11:=(K1.out.below HI.out.world).cell (i:=1) rfl
     have dK20:=(K2.out.below HI.out.world).cell (i:=0) rfl
     have dK21:=(K2.out.below HI.out.world).cell (i:=1) rfl
     have dKT1:=(KT.out.below HI.out.world).cell (i:=1) rfl
     have X0:RV _ listed a 0 37 (.agg #[.string xa,.string xb]):=HI.out.rh
     have X1:RV _ listed a 1 38 (.int .i64 (-1)):=HI.out.rh
     have X3:RV _ listed a 3 40 (.agg #[.string yc,.string yd]):=HI.out.rh
     have X4:RV _ listed a 4 41 (.int .i64 0):=HI.out.rh
     have X2:RV _ listed a 2 39 (.int .i64 0):=HI.out.rh
     have X6:RV _ listed a 6 43 (.pointer (some ⟨0,0,none⟩)):=HI.out.rh
     have X5:RV _ listed a 5 42 (.int .i64 1):=HI.out.rh
     have X7:RV _ listed a 7 44 (.pointer (some ⟨0,1,none⟩)):=HI.out.rh
     have X8:RV _ listed a 8 45 (.int .i64 (-1)):=HI.out.rh
     match i,him,Hr with
     | 0,_,Hi =>
       refine stepH rfl fun K' hK=>?_
       go_simp
       exact hK.out _ _ ⟨HI.out.pv Hi.out rfl,trivial⟩
     | 1,_,Hi =>
       have x0:=X0.g Hi.out (by kernel_rfl)
       refine stepH rfl fun K' hK=>?_
       go_simp
       with_reducible refine(C7.out _ (HB7.out.trans (HI.out.world.mono HB7.out.size))).mono ?_
       rintro e W' ⟨rfl,hb⟩
       exact hK.out _ _ ⟨HI.out.pc Hi.out hb rfl,trivial⟩
     | 2,_,Hi =>
       have x1:=X1.g Hi.out (by kernel_rfl)
       refine stepH rfl fun K' hK=>?_
       go_simp
       exact hK.out _ _ ⟨HI.out.pv Hi.out rfl,trivial⟩
     | 3,_,Hi =>
       refine stepH rfl fun K' hK=>?_
       go_simp
       exact hK.out _ _ ⟨HI.out.pv Hi.out rfl,trivial⟩
     | 4,_,Hi =>
       have x3:=X3.g Hi.out (by kernel_rfl)
       refine stepH rfl fun K' hK=>?_
       go_simp
       with_reducible refine(C8.out _ (HB7.out.trans (HI.out.world.mono HB7.out.size))).mono ?_
       rintro e W' ⟨rfl,hb⟩
       exact hK.out _ _ ⟨HI.out.pc Hi.out hb rfl,trivial⟩
     | 5,_,Hi =>
       have x4:=X4.g Hi.out (by kernel_rfl)
       refine stepH rfl fun K' hK=>?_
       go_simp
       exact hK.out _ _ ⟨HI.out.pv Hi.out rfl,trivial⟩
     | 6,_,Hi =>
       have x2:=X2.g Hi.out (by kernel_rfl)
       refine stepH rfl fun K' hK=>?_
       go_simp
       exact hK.out _ _ ⟨HI.out.pv Hi.out rfl,trivial⟩
     | 7,_,Hi =>
       have x6:=X6.g Hi.out (by kernel_rfl)
       have x5:=X5.g Hi.out (by kernel_rfl)
       refine stepH rfl fun K' hK=>?_
       go_simp
       exact hK.out _ _ ⟨HI.out.pv Hi.out rfl,trivial⟩
     | 8,_,Hi =>
       have x7:=X7.g Hi.out (by kernel_rfl)
       refine stepH rfl fun K' hK=>?_
       go_simp
       exact hK.out _ _ ⟨HI.out.pv Hi.out rfl,trivial⟩
     | 9,_,Hi =>
       have x8:=X8.g Hi.out (by kernel_rfl)
       refine stepH rfl fun K' hK=>?_
       go_simp
       exact hK.out _ _ ⟨HI.out.pv Hi.out rfl,trivial⟩
     | n+10,h,_=>exact absurd h (by omega)
   · intro listed a W hI hD hall
     have HBW:=hid hI.world
     have HI:=hid hI
     have HA:=hid hall
     clear hI hall
     have HBX:=hid (HB7.out.trans (HBW.out.mono HB7.out.size))
     refine tail_nil ?_
     exact⟨rfl,(HI.out.finx ⟨HI.out.sx HA.out 0,HI.out.sx HA.out 1,HI.out.sx HA.out 2,HI.out.sx HA.out 3,HI.out.sx HA.out 4,HI.out.sx HA.out 5,HI.out.sx HA.out 6,HI.out.sx HA.out 7,HI.out.sx HA.out 8,HI.out.sx HA.out 9,trivial⟩ rfl),HBX.out⟩
 rintro a' W8 ⟨rfl,z0⟩
 have HB8:=hid z0
 clear z0
 simp only[putL,List.setIfInBounds_toArray,List.set_cons_zero,List.set_cons_succ]
 go_wp2
 exact bodyPost_ret (v:=.tuple #[.int .i64 (-1),.int .i64 0]) (by simp[results,Tryz.results43,go_sem]) rfl ⟨rfl,HB8.out⟩
theorem osos_zm (xa xb yc yd:ByteArray)(sb sd:Int)(w₀:World)(h1:CV w₀ 16 #[.string xa] (.bool true))(h2:CV w₀ 16 #[.string xb] (.bool true))(h3:CV w₀ 16 #[.string yc] (.bool true))(h4:CV w₀ 16 #[.string yd] (.bool true))(h5:CV w₀ 37 #[.string xb] (.int .i64 sb))(h6:CV w₀ 37 #[.string yd] (.int .i64 sd))(h7:CV w₀ 76 #[.agg #[.string xa,.string xb]] (.int .i64 0))(h8:CV w₀ 76 #[.agg #[.string yc,.string yd]] (.int .i64 (-1)))(f1:decide (sb<0)=false)(f2:decide (sd<0)=false)(kKT:Stb w₀ 0 #[.int .i64 (-1),.int .i64 (-1),.int .i64 2,.int .i64 (-1),.int .i64 0,.int .i64 1,.int .i64 2,.int .i64 1,.int .i64 1] 101) :
 CV w₀ 43 #[.agg #[.string xa,.string xb],.agg #[.string yc,.string yd]] (.tuple #[.int .i64 (-1),.int .i64 0]):=by
 intro w hw
 have C1:=hid (h1.mono hw)
 have C2:=hid (h2.mono hw)
 have C3:=hid (h3.mono hw)
 have C4:=hid (h4.mono hw)
 have C5:=hid (h5.mono hw)
 have C6:=hid (h6.mono hw)
 have C7:=hid (h7.mono hw)
 have C8:=hid (h8.mono hw)
 have g1:=f1
 have g2:=f2
 clear f1 f2
 have KT:=hid (kKT.below hw)
 clear h1 h2 h3 h4 h5 h6 h7 h8 kKT hw
 go_enter Tryz.func43,Tryz.ntmps43
 go_upto_region 1 with fail
 refine wp_boxes w [(#[.string xa,.string xb],74),(#[.string yc,.string yd],74)] rfl ?_
 rintro W0 ⟨k1,k2,hb⟩
 have HB0:=hid (show Below w.heap.size w W0 from hb)
 have KT:=hid (KT.out.below HB0.out)
 have K1:=hid k1
 have K2:=hid k2
 clear k1 k2 hb
 have dK10:=K1.out.cell (i:=0) rfl
 have dK11:=K1.out.cell (i:=1) rfl
 have dK20:=K2.out.cell (i:=0) rfl
 have dK21:=K2.out.cell (i:=1) rfl
 go_wp2
 have hb:=below_new W0 (.cells #[.string xa,.string xb,.string yc,.string yd] 22)
 have k3:=SBk.new W0 #[.string xa,.string xb,.string yc,.string yd] 22
 generalize W0.alloc (.cells #[.string xa,.string xb,.string yc,.string yd] 22)=W1 at *
 have KT:=hid (KT.out.below hb)
 have K1:=hid (K1.out.below hb)
 have K2:=hid (K2.out.below hb)
 have HB1:=hbt HB0 hb
 have K3:=hid k3
 clear k3 hb dK10 dK11 dK20 dK21
 refine wp_loop_rounds 5 ?_
 rw[rounds_succ]
 have dK30:=K3.out.cell (i:=0) rfl
 go_wp2_with fail
 with_reducible refine(C1.out _ HB1.out).mono ?_
 rintro e W2 ⟨rfl,hb⟩
 clear dK30
 have KT:=hid (KT.out.below hb)
 have K1:=hid (K1.out.below hb)
 have K2:=hid (K2.out.below hb)
 have K3:=hid (K3.out.below hb)
 have HB2:=hbt HB1 hb
 clear hb
 go_wp2
 rw[rounds_succ]
 have dK31:=K3.out.cell (i:=1) rfl
 go_wp2_with fail
 with_reducible refine(C2.out _ HB2.out).mono ?_
 rintro e W3 ⟨rfl,hb⟩
 clear dK31
 have KT:=hid (KT.out.below hb)
 have K1:=hid (K1.out.below hb)
 have K2:=hid (K2.out.below hb)
 have K3:=hid (K3.out.below hb)
 have HB3:=hbt HB2 hb
 clear hb
 go_wp2
 rw[rounds_succ]
 have dK32:=K3.out.cell (i:=2) rfl
 go_wp2_with fail
 with_reducible refine(C3.out _ HB3.out).mono ?_
 rintro e W4 ⟨rfl,hb⟩
 clear dK32
 have KT:=hid (KT.out.below hb)
 have K1:=hid (K1.out.below hb)
 have K2:=hid (K2.out.below hb)
 have K3:=hid (K3.out.below hb)
 have HB4:=hbt HB3 hb
 clear hb
 go_wp2
 rw[rounds_succ]
 have dK33:=K3.out.cell (i:=3) rfl
 go_wp2_with fail
 with_reducible refine(C4.out _ HB4.out).mono ?_
 rintro e W5 ⟨rfl,hb⟩
 clear dK33
 have KT:=hid (KT.out.below hb)
 have K1:=hid (K1.out.below hb)
 have K2:=hid (K2.out.below hb)
 have HB5:=hbt HB4 hb
 clear hb
 go_wp2
 rw[rounds_succ]
 have dK11:=K1.out.cell (i:=1) rfl
 go_wp2_with fail
 with_reducible refine(C5.out _ HB5.out).mono ?_
 rintro e W6 ⟨rfl,hb⟩
 clear dK11
 have KT:=hid (KT.out.below hb)
 have K1:=hid (K1.out.below hb)
 have K2:=hid (K2.out.below hb)
 have HB6:=hbt HB5 hb
 clear hb
 have dK21:=K2.out.cell (i:=1) rfl
 go_wp2_with fail
 with_reducible refine(C6.out _ HB6.out).mono ?_
 rintro e W7 ⟨rfl,hb⟩
 clear dK21
 have KT:=hid (KT.out.below hb)
 have K1:=hid (K1.out.below hb)
 have K2:=hid (K2.out.below hb)
 have HB7:=hbt HB6 hb
 clear hb
 go_wp2_with fail
 refine wp_region_post (fun a0 a' V=>a'=⟨putL [(37,.agg #[.string xa,.string xb]),(38,.int .i64 0),(39,.int .i64 1),(40,.agg #[.string yc,.string yd]),(41,.int .i64 (-1)),(42,.int .i64 0),(43,.pointer (some ⟨0,3,none⟩)),(44,.pointer (some ⟨0,3,none⟩)),(45,.int .i64 (-1)),(8,.int .i64 (-1))] a0.tmps,a0.defers⟩∧Below w.heap.size w V) ?_ ?_
 · refine wp_region_tail_d (by kernel_rfl) 10 0 (fun i=>[37,38,39,40,41,42,43,44,45,8].getD i 0) (RelR [Rel.val (.agg #[.string xa,.string xb]),Rel.val (.int .i64 0),Rel.val (.int .i64 1),Rel.val (.agg #[.string yc,.string yd]),Rel.val (.int .i64 (-1)),Rel.val (.int .i64 0),Rel.val (.pointer (some ⟨0,3,none⟩)),Rel.val (.pointer (some ⟨0,3,none⟩)),Rel.val (.int .i64 (-1)),Rel.val (.int .i64 (-1))]) (fun W=>Below W7.heap.size W7 W) (fun _ _=>True) (by kernel_rfl) (by kernel_rfl) (by kernel_rfl) trivial (Below.refl _ _).drew ?_ ?_
   · intro listed a W i hI hD hrd him
     have HI:=hid hI
     have HD:=hid hD
     have Hr:=hid hrd
     clear hI hrd hD
     have y2:a.tmps[2]? = some (.pointer (some ⟨w.heap.size,0,none⟩)):=HI.out.rest 2 (by decide)
     have y3:a.tmps[3]? = some (.pointer (some ⟨w.heap.size+1,0,none⟩)):=HI.out.rest 3 (by decide)
     have dK10:=(K1.out.below HI.out.world).cell (i:=0) rfl
     have dK11:=(K1.out.below HI.out.world).cell (i:=1) rfl
     have dK20:=(K2.out.below HI.out.world).cell (i:=0) rfl
     have dK21:=(K2.out.below HI.out.world).cell (i:=1) rfl
     have dKT3:=(KT.out.below HI.out.world).cell (i:=3) rfl
     have X0:RV _ listed a 0 37 (.agg #[.string xa,.string xb]):=HI.out.rh
     have X1:RV _ listed a 1 38 (.int .i64 0):=HI.out.rh
     have X3:RV _ listed a 3 40 (.agg #[.string yc,.string yd]):=HI.out.rh
     have X4:RV _ listed a 4 41 (.int .i64 (-1)):=HI.out.rh
     have X2:RV _ listed a 2 39 (.int .i64 1):=HI.out.rh
     have X6:RV _ listed a 6 43 (.pointer (some ⟨0,3,none⟩)):=HI.out.rh
     have X5:RV _ listed a 5 42 (.int .i64 0):=HI.out.rh
     have X7:RV _ listed a 7 44 (.pointer (some ⟨0,3,none⟩)):=HI.out.rh
     have X8:RV _ listed a 8 45 (.int .i64 (-1)):=HI.out.rh
     match i,him,Hr with
     | 0,_,Hi =>
       refine stepH rfl fun K' hK=>?_
       go_simp
       exact hK.out _ _ ⟨HI.out.pv Hi.out rfl,trivial⟩
     | 1,_,Hi =>
       have x0:=X0.g Hi.out (by kernel_rfl)
       refine stepH rfl fun K' hK=>?_
       go_simp
       with_reducible refine(C7.out _ (HB7.out.trans (HI.out.world.mono HB7.out.size))).mono ?_
       rintro e W' ⟨rfl,hb⟩
       exact hK.out _ _ ⟨HI.out.pc Hi.out hb rfl,trivial⟩
     | 2,_,Hi =>
       have x1:=X1.g Hi.out (by kernel_rfl)
       refine stepH rfl fun K' hK=>?_
       go_simp
       exact hK.out _ _ ⟨HI.out.pv Hi.out rfl,trivial⟩
     | 3,_,Hi =>
       refine stepH rfl fun K' hK=>?_
       go_simp
       exact hK.out _ _ ⟨HI.out.pv Hi.out rfl,trivial⟩
     | 4,_,Hi =>
       have x3:=X3.g Hi.out (by kernel_rfl)
       refine stepH rfl fun K' hK=>?_
       go_simp
       with_reducible refine(C8.out _ (HB7.out.trans (HI.out.world.mono HB7.out.size))).mono ?_
       rintro e W' ⟨rfl,hb⟩
       exact hK.out _ _ ⟨HI.out.pc Hi.out hb rfl,trivial⟩
     | 5,_,Hi =>
       have x4:=X4.g Hi.out (by kernel_rfl)
       refine stepH rfl fun K' hK=>?_
       go_simp
       exact hK.out _ _ ⟨HI.out.pv Hi.out rfl,trivial⟩
     | 6,_,Hi =>
       have x2:=X2.g Hi.out (by kernel_rfl)
       refine stepH rfl fun K' hK=>?_
       go_simp
       exact hK.out _ _ ⟨HI.out.pv Hi.out rfl,trivial⟩
     | 7,_,Hi =>
       have x6:=X6.g Hi.out (by kernel_rfl)
       have x5:=X5.g Hi.out (by kernel_rfl)
       refine stepH rfl fun K' hK=>?_
       go_simp
       exact hK.out _ _ ⟨HI.out.pv Hi.out rfl,trivial⟩
     | 8,_,Hi =>
       have x7:=X7.g Hi.out (by kernel_rfl)
       refine stepH rfl fun K' hK=>?_
       go_simp
       exact hK.out _ _ ⟨HI.out.pv Hi.out rfl,trivial⟩
     | 9,_,Hi =>
       have x8:=X8.g Hi.out (by kernel_rfl)
       refine stepH rfl fun K' hK=>?_
       go_simp
       exact hK.out _ _ ⟨HI.out.pv Hi.out rfl,trivial⟩
     | n+10,h,_=>exact absurd h (by omega)
   · intro listed a W hI hD hall
     have HBW:=hid hI.world
     have HI:=hid hI
     have HA:=hid hall
     clear hI hall
     have HBX:=hid (HB7.out.trans (HBW.out.mono HB7.out.size))
     refine tail_nil ?_
     exact⟨rfl,(HI.out.finx ⟨HI.out.sx HA.out 0,HI.out.sx HA.out 1,HI.out.sx HA.out 2,HI.out.sx HA.out 3,HI.out.sx HA.out 4,HI.out.sx HA.out 5,HI.out.sx HA.out 6,HI.out.sx HA.out 7,HI.out.sx HA.out 8,HI.out.sx HA.out 9,trivial⟩ rfl),HBX.out⟩
 rintro a' W8 ⟨rfl,z0⟩
 have HB8:=hid z0
 clear z0
 simp only[putL,List.setIfInBounds_toArray,List.set_cons_zero,List.set_cons_succ]
 go_wp2
 exact bodyPost_ret (v:=.tuple #[.int .i64 (-1),.int .i64 0]) (by simp[results,Tryz.results43,go_sem]) rfl ⟨rfl,HB8.out⟩
theorem osos_zz (xa xb yc yd:ByteArray)(sb sd:Int)(w₀:World)(h1:CV w₀ 16 #[.string xa] (.bool true))(h2:CV w₀ 16 #[.string xb] (.bool true))(h3:CV w₀ 16 #[.string yc] (.bool true))(h4:CV w₀ 16 #[.string yd] (.bool true))(h5:CV w₀ 37 #[.string xb] (.int .i64 sb))(h6:CV w₀ 37 #[.string yd] (.int .i64 sd))(h7:CV w₀ 76 #[.agg #[.string xa,.string xb]] (.int .i64 0))(h8:CV w₀ 76 #[.agg #[.string yc,.string yd]] (.int .i64 0))(f1:decide (sb<0)=false)(f2:decide (sd<0)=false)(kKT:Stb w₀ 0 #[.int .i64 (-1),.int .i64 (-1),.int .i64 2,.int .i64 (-1),.int .i64 0,.int .i64 1,.int .i64 2,.int .i64 1,.int .i64 1] 101) :
 CV w₀ 43 #[.agg #[.string xa,.string xb],.agg #[.string yc,.string yd]] (.tuple #[.int .i64 0,.int .i64 0]):=by
 intro w hw
 have C1:=hid (h1.mono hw)
 have C2:=hid (h2.mono hw)
 have C3:=hid (h3.mono hw)
 have C4:=hid (h4.mono hw)
 have C5:=hid (h5.mono hw)
 have C6:=hid (h6.mono hw)
 have C7:=hid (h7.mono hw)
 have C8:=hid (h8.mono hw)
 have g1:=f1
 have g2:=f2
 clear f1 f2
 have KT:=hid (kKT.below hw)
 clear h1 h2 h3 h4 h5 h6 h7 h8 kKT hw
 go_enter Tryz.func43,Tryz.ntmps43
 go_upto_region 1 with fail
 refine wp_boxes w [(#[.string xa,.string xb],74),(#[.string yc,.string yd],74)] rfl ?_
 rintro W0 ⟨k1,k2,hb⟩
 have HB0:=hid (show Below w.heap.size w W0 from hb)
 have KT:=hid (KT.out.below HB0.out)
 have K1:=hid k1
 have K2:=hid k2
 clear k1 k2 hb
 have dK10:=K1.out.cell (i:=0) rfl
 have dK11:=K1.out.cell (i:=1) rfl
 have dK20:=K2.out.cell (i:=0) rfl
 have dK21:=K2.out.cell (i:=1) rfl
 go_wp2
 have hb:=below_new W0 (.cells #[.string xa,.string xb,.string yc,.string yd] 22)
 have k3:=SBk.new W0 #[.string xa,.string xb,.string yc,.string yd] 22
 generalize W0.alloc (.cells #[.string xa,.string xb,.string yc,.string yd] 22)=W1 at *
 have KT:=hid (KT.out.below hb)
 have K1:=hid (K1.out.below hb)
 have K2:=hid (K2.out.below hb)
 have HB1:=hbt HB0 hb
 have K3:=hid k3
 clear k3 hb dK10 dK11 dK20 dK21
 refine wp_loop_rounds 5 ?_
 rw[rounds_succ]
 have dK30:=K3.out.cell (i:=0) rfl
 go_wp2_with fail
 with_reducible refine(C1.out _ HB1.out).mono ?_
 rintro e W2 ⟨rfl,hb⟩
 clear dK30
 have KT:=hid (KT.out.below hb)
 have K1:=hid (K1.out.below hb)
 have K2:=hid (K2.out.below hb)
 have K3:=hid (K3.out.below hb)
 have HB2:=hbt HB1 hb
 clear hb
 go_wp2
 rw[rounds_succ]
 have dK31:=K3.out.cell (i:=1) rfl
 go_wp2_with fail
 with_reducible refine(C2.out _ HB2.out).mono ?_
 rintro e W3 ⟨rfl,hb⟩
 clear dK31
 have KT:=hid (KT.out.below hb)
 have K1:=hid (K1.out.below hb)
 have K2:=hid (K2.out.below hb)
 have K3:=hid (K3.out.below hb)
 have HB3:=hbt HB2 hb
 clear hb
 go_wp2
 rw[rounds_succ]
 have dK32:=K3.out.cell (i:=2) rfl
 go_wp2_with fail
 with_reducible refine(C3.out _ HB3.out).mono ?_
 rintro e W4 ⟨rfl,hb⟩
 clear dK32
 have KT:=hid (KT.out.below hb)
 have K1:=hid (K1.out.below hb)
 have K2:=hid (K2.out.below hb)
 have K3:=hid (K3.out.below hb)
 have HB4:=hbt HB3 hb
 clear hb
 go_wp2
 rw[rounds_succ]
 have dK33:=K3.out.cell (i:=3) rfl
 go_wp2_with fail
 with_reducible refine(C4.out _ HB4.out).mono ?_
 rintro e W5 ⟨rfl,hb⟩
 clear dK33
 have KT:=hid (KT.out.below hb)
 have K1:=hid (K1.out.below hb)
 have K2:=hid (K2.out.below hb)
 have HB5:=hbt HB4 hb
 clear hb
 go_wp2
 rw[rounds_succ]
 have dK11:=K1.out.cell (i:=1) rfl
 go_wp2_with fail
 with_reducible refine(C5.out _ HB5.out).mono ?_
 rintro e W6 ⟨rfl,hb⟩
 clear dK11
 have KT:=hid (KT.out.below hb)
 have K1:=hid (K1.out.below hb)
 have K2:=hid (K2.out.below hb)
 have HB6:=hbt HB5 hb
 clear hb
 have dK21:=K2.out.cell (i:=1) rfl
 go_wp2_with fail
 with_reducible refine(C6.out _ HB6.out).mono ?_
 rintro e W7 ⟨rfl,hb⟩
 clear dK21
 have KT:=hid (KT.out.below hb)
 have K1:=hid (K1.out.below hb)
 have K2:=hid (K2.out.below hb)
 have HB7:=hbt HB6 hb
 clear hb
 go_wp2_with fail
 refine wp_region_post (fun a0 a' V=>a'=⟨putL [(37,.agg #[.string xa,.string xb]),(38,.int .i64 0),(39,.int .i64 1),(40,.agg #[.string yc,.string yd]),(41,.int .i64 0),(42,.int .i64 1),(43,.pointer (some ⟨0,3,none⟩)),(44,.pointer (some ⟨0,4,none⟩)),(45,.int .i64 0),(8,.int .i64 0)] a0.tmps,a0.defers⟩∧Below w.heap.size w V) ?_ ?_
 · refine wp_region_tail_d (by kernel_rfl) 10 0 (fun i=>[37,38,39,40,41,42,43,44,45,8].getD i 0) (RelR [Rel.val (.agg #[.string xa,.string xb]),Rel.val (.int .i64 0),Rel.val (.int .i64 1),Rel.val (.agg #[.string yc,.string yd]),Rel.val (.int .i64 0),Rel.val (.int .i64 1),Rel.val (.pointer (some ⟨0,3,none⟩)),Rel.val (.pointer (some ⟨0,4,none⟩)),Rel.val (.int .i64 0),Rel.val (.int .i64 0)]) (fun W=>Below W7.heap.size W7 W) (fun _ _=>True) (by kernel_rfl) (by kernel_rfl) (by kernel_rfl) trivial (Below.refl _ _).drew ?_ ?_
   · intro listed a W i hI hD hrd him
     have HI:=hid hI
     have HD:=hid hD
     have Hr:=hid hrd
     clear hI hrd hD
     have y2:a.tmps[2]? = some (.pointer (some ⟨w.heap.size,0,none⟩)):=HI.out.rest 2 (by decide)
     have y3:a.tmps[3]? = some (.pointer (some ⟨w.heap.size+1,0,none⟩)):=HI.out.rest 3 (by decide)
     have dK10:=(K1.out.below HI.out.world).cell (i:=0) rfl
     have dK11:=(K1.out.below HI.out.world).cell (i:=1) rfl
     have dK20:=(K2.out.below HI.out.world).cell (i:=0) rfl
     have dK21:=(K2.out.below HI.out.world).cell (i:=1) rfl
     have dKT4:=(KT.out.below HI.out.world).cell (i:=4) rfl
     have X0:RV _ listed a 0 37 (.agg #[.string xa,.string xb]):=HI.out.rh
     have X1:RV _ listed a 1 38 (.int .i64 0):=HI.out.rh
     have X3:RV _ listed a 3 40 (.agg #[.string yc,.string yd]):=HI.out.rh
     have X4:RV _ listed a 4 41 (.int .i64 0):=HI.out.rh
     have X2:RV _ listed a 2 39 (.int .i64 1):=HI.out.rh
     have X6:RV _ listed a 6 43 (.pointer (some ⟨0,3,none⟩)):=HI.out.rh
     have X5:RV _ listed a 5 42 (.int .i64 1):=HI.out.rh
     have X7:RV _ listed a 7 44 (.pointer (some ⟨0,4,none⟩)):=HI.out.rh
     have X8:RV _ listed a 8 45 (.int .i64 0):=HI.out.rh
     match i,him,Hr with
     | 0,_,Hi =>
       refine stepH rfl fun K' hK=>?_
       go_simp
       exact hK.out _ _ ⟨HI.out.pv Hi.out rfl,trivial⟩
     | 1,_,Hi =>
       have x0:=X0.g Hi.out (by kernel_rfl)
       refine stepH rfl fun K' hK=>?_
       go_simp
       with_reducible refine(C7.out _ (HB7.out.trans (HI.out.world.mono HB7.out.size))).mono ?_
       rintro e W' ⟨rfl,hb⟩
       exact hK.out _ _ ⟨HI.out.pc Hi.out hb rfl,trivial⟩
     | 2,_,Hi =>
       have x1:=X1.g Hi.out (by kernel_rfl)
       refine stepH rfl fun K' hK=>?_
       go_simp
       exact hK.out _ _ ⟨HI.out.pv Hi.out rfl,trivial⟩
     | 3,_,Hi =>
       refine stepH rfl fun K' hK=>?_
       go_simp
       exact hK.out _ _ ⟨HI.out.pv Hi.out rfl,trivial⟩
     | 4,_,Hi =>
       have x3:=X3.g Hi.out (by kernel_rfl)
       refine stepH rfl fun K' hK=>?_
       go_simp
       with_reducible refine(C8.out _ (HB7.out.trans (HI.out.world.mono HB7.out.size))).mono ?_
       rintro e W' ⟨rfl,hb⟩
       exact hK.out _ _ ⟨HI.out.pc Hi.out hb rfl,trivial⟩
     | 5,_,Hi =>
       have x4:=X4.g Hi.out (by kernel_rfl)
       refine stepH rfl fun K' hK=>?_
       go_simp
       exact hK.out _ _ ⟨HI.out.pv Hi.out rfl,trivial⟩
     | 6,_,Hi =>
       have x2:=X2.g Hi.out (by kernel_rfl)
       refine stepH rfl fun K' hK=>?_
       go_simp
       exact hK.out _ _ ⟨HI.out.pv Hi.out rfl,trivial⟩
     | 7,_,Hi =>
       have x6:=X6.g Hi.out (by kernel_rfl)
       have x5:=X5.g Hi.out (by kernel_rfl)
       refine stepH rfl fun K' hK=>?_
       go_simp
       exact hK.out _ _ ⟨HI.out.pv Hi.out rfl,trivial⟩
     | 8,_,Hi =>
       have x7:=X7.g Hi.out (by kernel_rfl)
       refine stepH rfl fun K' hK=>?_
       go_simp
       exact hK.out _ _ ⟨HI.out.pv Hi.out rfl,trivial⟩
     | 9,_,Hi =>
       have x8:=X8.g Hi.out (by kernel_rfl)
       refine stepH rfl fun K' hK=>?_
       go_simp
       exact hK.out _ _ ⟨HI.out.pv Hi.out rfl,trivial⟩
     | n+10,h,_=>exact absurd h (by omega)
   · intro listed a W hI hD hall
     have HBW:=hid hI.world
     have HI:=hid hI
     have HA:=hid hall
     clear hI hall
     have HBX:=hid (HB7.out.trans (HBW.out.mono HB7.out.size))
     refine tail_nil ?_
     exact⟨rfl,(HI.out.finx ⟨HI.out.sx HA.out 0,HI.out.sx HA.out 1,HI.out.sx HA.out 2,HI.out.sx HA.out 3,HI.out.sx HA.out 4,HI.out.sx HA.out 5,HI.out.sx HA.out 6,HI.out.sx HA.out 7,HI.out.sx HA.out 8,HI.out.sx HA.out 9,trivial⟩ rfl),HBX.out⟩
 rintro a' W8 ⟨rfl,z0⟩
 have HB8:=hid z0
 clear z0
 simp only[putL,List.setIfInBounds_toArray,List.set_cons_zero,List.set_cons_succ]
 go_wp2
 exact bodyPost_ret (v:=.tuple #[.int .i64 0,.int .i64 0]) (by simp[results,Tryz.results43,go_sem]) rfl ⟨rfl,HB8.out⟩
theorem osos_zp (xa xb yc yd:ByteArray)(sb sd:Int)(w₀:World)(h1:CV w₀ 16 #[.string xa] (.bool true))(h2:CV w₀ 16 #[.string xb] (.bool true))(h3:CV w₀ 16 #[.string yc] (.bool true))(h4:CV w₀ 16 #[.string yd] (.bool true))(h5:CV w₀ 37 #[.string xb] (.int .i64 sb))(h6:CV w₀ 37 #[.string yd] (.int .i64 sd))(h7:CV w₀ 76 #[.agg #[.string xa,.string xb]] (.int .i64 0))(h8:CV w₀ 76 #[.agg #[.string yc,.string yd]] (.int .i64 1))(f1:decide (sb<0)=false)(f2:decide (sd<0)=false)(kKT:Stb w₀ 0 #[.int .i64 (-1),.int .i64 (-1),.int .i64 2,.int .i64 (-1),.int .i64 0,.int .i64 1,.int .i64 2,.int .i64 1,.int .i64 1] 101) :
 CV w₀ 43 #[.agg #[.string xa,.string xb],.agg #[.string yc,.string yd]] (.tuple #[.int .i64 1,.int .i64 0]):=by
 intro w hw
 have C1:=hid (h1.mono hw)
 have C2:=hid (h2.mono hw)
 have C3:=hid (h3.mono hw)
 have C4:=hid (h4.mono hw)
 have C5:=hid (h5.mono hw)
 have C6:=hid (h6.mono hw)
 have C7:=hid (h7.mono hw)
 have C8:=hid (h8.mono hw)
 have g1:=f1
 have g2:=f2
 clear f1 f2
 have KT:=hid (kKT.below hw)
 clear h1 h2 h3 h4 h5 h6 h7 h8 kKT hw
 go_enter Tryz.func43,Tryz.ntmps43
 go_upto_region 1 with fail
 refine wp_boxes w [(#[.string xa,.string xb],74),(#[.string yc,.string yd],74)] rfl ?_
 rintro W0 ⟨k1,k2,hb⟩
 have HB0:=hid (show Below w.heap.size w W0 from hb)
 have KT:=hid (KT.out.below HB0.out)
 have K1:=hid k1
 have K2:=hid k2
 clear k1 k2 hb
 have dK10:=K1.out.cell (i:=0) rfl
 have dK11:=K1.out.cell (i:=1) rfl
 have dK20:=K2.out.cell (i:=0) rfl
 have dK21:=K2.out.cell (i:=1) rfl
 go_wp2
 have hb:=below_new W0 (.cells #[.string xa,.string xb,.string yc,.string yd] 22)
 have k3:=SBk.new W0 #[.string xa,.string xb,.string yc,.string yd] 22
 generalize W0.alloc (.cells #[.string xa,.string xb,.string yc,.string yd] 22)=W1 at *
 have KT:=hid (KT.out.below hb)
 have K1:=hid (K1.out.below hb)
 have K2:=hid (K2.out.below hb)
 have HB1:=hbt HB0 hb
 have K3:=hid k3
 clear k3 hb dK10 dK11 dK20 dK21
 refine wp_loop_rounds 5 ?_
 rw[rounds_succ]
 have dK30:=K3.out.cell (i:=0) rfl
 go_wp2_with fail
 with_reducible refine(C1.out _ HB1.out).mono ?_
 rintro e W2 ⟨rfl,hb⟩
 clear dK30
 have KT:=hid (KT.out.below hb)
 have K1:=hid (K1.out.below hb)
 have K2:=hid (K2.out.below hb)
 have K3:=hid (K3.out.below hb)
 have HB2:=hbt HB1 hb
 clear hb
 go_wp2
 rw[rounds_succ]
 have dK31:=K3.out.cell (i:=1) rfl
 go_wp2_with fail
 with_reducible refine(C2.out _ HB2.out).mono ?_
 rintro e W3 ⟨rfl,hb⟩
 clear dK31
 have KT:=hid (KT.out.below hb)
 have K1:=hid (K1.out.below hb)
 have K2:=hid (K2.out.below hb)
 have K3:=hid (K3.out.below hb)
 have HB3:=hbt HB2 hb
 clear hb
 go_wp2
 rw[rounds_succ]
 have dK32:=K3.out.cell (i:=2) rfl
 go_wp2_with fail
 with_reducible refine(C3.out _ HB3.out).mono ?_
 rintro e W4 ⟨rfl,hb⟩
 clear dK32
 have KT:=hid (KT.out.below hb)
 have K1:=hid (K1.out.below hb)
 have K2:=hid (K2.out.below hb)
 have K3:=hid (K3.out.below hb)
 have HB4:=hbt HB3 hb
 clear hb
 go_wp2
 rw[rounds_succ]
 have dK33:=K3.out.cell (i:=3) rfl
 go_wp2_with fail
 with_reducible refine(C4.out _ HB4.out).mono ?_
 rintro e W5 ⟨rfl,hb⟩
 clear dK33
 have KT:=hid (KT.out.below hb)
 have K1:=hid (K1.out.below hb)
 have K2:=hid (K2.out.below hb)
 have HB5:=hbt HB4 hb
 clear hb
 go_wp2
 rw[rounds_succ]
 have dK11:=K1.out.cell (i:=1) rfl
 go_wp2_with fail
 with_reducible refine(C5.out _ HB5.out).mono ?_
 rintro e W6 ⟨rfl,hb⟩
 clear dK11
 have KT:=hid (KT.out.below hb)
 have K1:=hid (K1.out.below hb)
 have K2:=hid (K2.out.below hb)
 have HB6:=hbt HB5 hb
 clear hb
 have dK21:=K2.out.cell (i:=1) rfl
 go_wp2_with fail
 with_reducible refine(C6.out _ HB6.out).mono ?_
 rintro e W7 ⟨rfl,hb⟩
 clear dK21
 have KT:=hid (KT.out.below hb)
 have K1:=hid (K1.out.below hb)
 have K2:=hid (K2.out.below hb)
 have HB7:=hbt HB6 hb
 clear hb
 go_wp2_with fail
 refine wp_region_post (fun a0 a' V=>a'=⟨putL [(37,.agg #[.string xa,.string xb]),(38,.int .i64 0),(39,.int .i64 1),(40,.agg #[.string yc,.string yd]),(41,.int .i64 1),(42,.int .i64 2),(43,.pointer (some ⟨0,3,none⟩)),(44,.pointer (some ⟨0,5,none⟩)),(45,.int .i64 1),(8,.int .i64 1)] a0.tmps,a0.defers⟩∧Below w.heap.size w V) ?_ ?_
 · refine wp_region_tail_d (by kernel_rfl) 10 0 (fun i=>[37,38,39,40,41,42,43,44,45,8].getD i 0) (RelR [Rel.val (.agg #[.string xa,.string xb]),Rel.val (.int .i64 0),Rel.val (.int .i64 1),Rel.val (.agg #[.string yc,.string yd]),Rel.val (.int .i64 1),Rel.val (.int .i64 2),Rel.val (.pointer (some ⟨0,3,none⟩)),Rel.val (.pointer (some ⟨0,5,none⟩)),Rel.val (.int .i64 1),Rel.val (.int .i64 1)]) (fun W=>Below W7.heap.size W7 W) (fun _ _=>True) (by kernel_rfl) (by kernel_rfl) (by kernel_rfl) trivial (Below.refl _ _).drew ?_ ?_
   · intro listed a W i hI hD hrd him
     have HI:=hid hI
     have HD:=hid hD
     have Hr:=hid hrd
     clear hI hrd hD
     have y2:a.tmps[2]? = some (.pointer (some ⟨w.heap.size,0,none⟩)):=HI.out.rest 2 (by decide)
     have y3:a.tmps[3]? = some (.pointer (some ⟨w.heap.size+1,0,none⟩)):=HI.out.rest 3 (by decide)
     have dK10:=(K1.out.below HI.out.world).cell (i:=0) rfl
     have dK11:=(K1.out.below HI.out.world).cell (i:=1) rfl
     have dK20:=(K2.out.below HI.out.world).cell (i:=0) rfl
     have dK21:=(K2.out.below HI.out.world).cell (i:=1) rfl
     have dKT5:=(KT.out.below HI.out.world).cell (i:=5) rfl
     have X0:RV _ listed a 0 37 (.agg #[.string xa,.string xb]):=HI.out.rh
     have X1:RV _ listed a 1 38 (.int .i64 0):=HI.out.rh
     have X3:RV _ listed a 3 40 (.agg #[.string yc,.string yd]):=HI.out.rh
     have X4:RV _ listed a 4 41 (.int .i64 1):=HI.out.rh
     have X2:RV _ listed a 2 39 (.int .i64 1):=HI.out.rh
     have X6:RV _ listed a 6 43 (.pointer (some ⟨0,3,none⟩)):=HI.out.rh
     have X5:RV _ listed a 5 42 (.int .i64 2):=HI.out.rh
     have X7:RV _ listed a 7 44 (.pointer (some ⟨0,5,none⟩)):=HI.out.rh
     have X8:RV _ listed a 8 45 (.int .i64 1):=HI.out.rh
     match i,him,Hr with
     | 0,_,Hi =>
       refine stepH rfl fun K' hK=>?_
       go_simp
       exact hK.out _ _ ⟨HI.out.pv Hi.out rfl,trivial⟩
     | 1,_,Hi =>
       have x0:=X0.g Hi.out (by kernel_rfl)
       refine stepH rfl fun K' hK=>?_
       go_simp
       with_reducible refine(C7.out _ (HB7.out.trans (HI.out.world.mono HB7.out.size))).mono ?_
       rintro e W' ⟨rfl,hb⟩
       exact hK.out _ _ ⟨HI.out.pc Hi.out hb rfl,trivial⟩
     | 2,_,Hi =>
       have x1:=X1.g Hi.out (by kernel_rfl)
       refine stepH rfl fun K' hK=>?_
       go_simp
       exact hK.out _ _ ⟨HI.out.pv Hi.out rfl,trivial⟩
     | 3,_,Hi =>
       refine stepH rfl fun K' hK=>?_
       go_simp
       exact hK.out _ _ ⟨HI.out.pv Hi.out rfl,trivial⟩
     | 4,_,Hi =>
       have x3:=X3.g Hi.out (by kernel_rfl)
       refine stepH rfl fun K' hK=>?_
       go_simp
       with_reducible refine(C8.out _ (HB7.out.trans (HI.out.world.mono HB7.out.size))).mono ?_
       rintro e W' ⟨rfl,hb⟩
       exact hK.out _ _ ⟨HI.out.pc Hi.out hb rfl,trivial⟩
     | 5,_,Hi =>
       have x4:=X4.g Hi.out (by kernel_rfl)
       refine stepH rfl fun K' hK=>?_
       go_simp
       exact hK.out _ _ ⟨HI.out.pv Hi.out rfl,trivial⟩
     | 6,_,Hi =>
       have x2:=X2.g Hi.out (by kernel_rfl)
       refine stepH rfl fun K' hK=>?_
       go_simp
       exact hK.out _ _ ⟨HI.out.pv Hi.out rfl,trivial⟩
     | 7,_,Hi =>
       have x6:=X6.g Hi.out (by kernel_rfl)
       have x5:=X5.g Hi.out (by kernel_rfl)
       refine stepH rfl fun K' hK=>?_
       go_simp
       exact hK.out _ _ ⟨HI.out.pv Hi.out rfl,trivial⟩
     | 8,_,Hi =>
       have x7:=X7.g Hi.out (by kernel_rfl)
       refine stepH rfl fun K' hK=>?_
       go_simp
       exact hK.out _ _ ⟨HI.out.pv Hi.out rfl,trivial⟩
     | 9,_,Hi =>
       have x8:=X8.g Hi.out (by kernel_rfl)
       refine stepH rfl fun K' hK=>?_
       go_simp
       exact hK.out _ _ ⟨HI.out.pv Hi.out rfl,trivial⟩
     | n+10,h,_=>exact absurd h (by omega)
   · intro listed a W hI hD hall
     have HBW:=hid hI.world
     have HI:=hid hI
     have HA:=hid hall
     clear hI hall
     have HBX:=hid (HB7.out.trans (HBW.out.mono HB7.out.size))
     refine tail_nil ?_
     exact⟨rfl,(HI.out.finx ⟨HI.out.sx HA.out 0,HI.out.sx HA.out 1,HI.out.sx HA.out 2,HI.out.sx HA.out 3,HI.out.sx HA.out 4,HI.out.sx HA.out 5,HI.out.sx HA.out 6,HI.out.sx HA.out 7,HI.out.sx HA.out 8,HI.out.sx HA.out 9,trivial⟩ rfl),HBX.out⟩
 rintro a' W8 ⟨rfl,z0⟩
 have HB8:=hid z0
 clear z0
 simp only[putL,List.setIfInBounds_toArray,List.set_cons_zero,List.set_cons_succ]
 go_wp2
 exact bodyPost_ret (v:=.tuple #[.int .i64 1,.int .i64 0]) (by simp[results,Tryz.results43,go_sem]) rfl ⟨rfl,HB8.out⟩
theorem osos_pz (xa xb yc yd:ByteArray)(sb sd:Int)(w₀:World)(h1:CV w₀ 16 #[.string xa] (.bool true))(h2:CV w₀ 16 #[.string xb] (.bool true))(h3:CV w₀ 16 #[.string yc] (.bool true))(h4:CV w₀ 16 #[.string yd] (.bool true))(h5:CV w₀ 37 #[.string xb] (.int .i64 sb))(h6:CV w₀ 37 #[.string yd] (.int .i64 sd))(h7:CV w₀ 76 #[.agg #[.string xa,.string xb]] (.int .i64 1))(h8:CV w₀ 76 #[.agg #[.string yc,.string yd]] (.int .i64 0))(f1:decide (sb<0)=false)(f2:decide (sd<0)=false)(kKT:Stb w₀ 0 #[.int .i64 (-1),.int .i64 (-1),.int .i64 2,.int .i64 (-1),.int .i64 0,.int .i64 1,.int .i64 2,.int .i64 1,.int .i64 1] 101) :
 CV w₀ 43 #[.agg #[.string xa,.string xb],.agg #[.string yc,.string yd]] (.tuple #[.int .i64 1,.int .i64 0]):=by
 intro w hw
 have C1:=hid (h1.mono hw)
 have C2:=hid (h2.mono hw)
 have C3:=hid (h3.mono hw)
 have C4:=hid (h4.mono hw)
 have C5:=hid (h5.mono hw)
 have C6:=hid (h6.mono hw)
 have C7:=hid (h7.mono hw)
 have C8:=hid (h8.mono hw)
 have g1:=f1
 have g2:=f2
 clear f1 f2
 have KT:=hid (kKT.below hw)
 clear h1 h2 h3 h4 h5 h6 h7 h8 kKT hw
 go_enter Tryz.func43,Tryz.ntmps43
 go_upto_region 1 with fail
 refine wp_boxes w [(#[.string xa,.string xb],74),(#[.string yc,.string yd],74)] rfl ?_
 rintro W0 ⟨k1,k2,hb⟩
 have HB0:=hid (show Below w.heap.size w W0 from hb)
 have KT:=hid (KT.out.below HB0.out)
 have K1:=hid k1
 have K2:=hid k2
 clear k1 k2 hb
 have dK10:=K1.out.cell (i:=0) rfl
 have dK11:=K1.out.cell (i:=1) rfl
 have dK20:=K2.out.cell (i:=0) rfl
 have dK21:=K2.out.cell (i:=1) rfl
 go_wp2
 have hb:=below_new W0 (.cells #[.string xa,.string xb,.string yc,.string yd] 22)
 have k3:=SBk.new W0 #[.string xa,.string xb,.string yc,.string yd] 22
 generalize W0.alloc (.cells #[.string xa,.string xb,.string yc,.string yd] 22)=W1 at *
 have KT:=hid (KT.out.below hb)
 have K1:=hid (K1.out.below hb)
 have K2:=hid (K2.out.below hb)
 have HB1:=hbt HB0 hb
 have K3:=hid k3
 clear k3 hb dK10 dK11 dK20 dK21
 refine wp_loop_rounds 5 ?_
 rw[rounds_succ]
 have dK30:=K3.out.cell (i:=0) rfl
 go_wp2_with fail
 with_reducible refine(C1.out _ HB1.out).mono ?_
 rintro e W2 ⟨rfl,hb⟩
 clear dK30
 have KT:=hid (KT.out.below hb)
 have K1:=hid (K1.out.below hb)
 have K2:=hid (K2.out.below hb)
 have K3:=hid (K3.out.below hb)
 have HB2:=hbt HB1 hb
 clear hb
 go_wp2
 rw[rounds_succ]
 have dK31:=K3.out.cell (i:=1) rfl
 go_wp2_with fail
 with_reducible refine(C2.out _ HB2.out).mono ?_
 rintro e W3 ⟨rfl,hb⟩
 clear dK31
 have KT:=hid (KT.out.below hb)
 have K1:=hid (K1.out.below hb)
 have K2:=hid (K2.out.below hb)
 have K3:=hid (K3.out.below hb)
 have HB3:=hbt HB2 hb
 clear hb
 go_wp2
 rw[rounds_succ]
 have dK32:=K3.out.cell (i:=2) rfl
 go_wp2_with fail
 with_reducible refine(C3.out _ HB3.out).mono ?_
 rintro e W4 ⟨rfl,hb⟩
 clear dK32
 have KT:=hid (KT.out.below hb)
 have K1:=hid (K1.out.below hb)
 have K2:=hid (K2.out.below hb)
 have K3:=hid (K3.out.below hb)
 have HB4:=hbt HB3 hb
 clear hb
 go_wp2
 rw[rounds_succ]
 have dK33:=K3.out.cell (i:=3) rfl
 go_wp2_with fail
 with_reducible refine(C4.out _ HB4.out).mono ?_
 rintro e W5 ⟨rfl,hb⟩
 clear dK33
 have KT:=hid (KT.out.below hb)
 have K1:=hid (K1.out.below hb)
 have K2:=hid (K2.out.below hb)
 have HB5:=hbt HB4 hb
 clear hb
 go_wp2
 rw[rounds_succ]
 have dK11:=K1.out.cell (i:=1) rfl
 go_wp2_with fail
 with_reducible refine(C5.out _ HB5.out).mono ?_
 rintro e W6 ⟨rfl,hb⟩
 clear dK11
 have KT:=hid (KT.out.below hb)
 have K1:=hid (K1.out.below hb)
 have K2:=hid (K2.out.below hb)
 have HB6:=hbt HB5 hb
 clear hb
 have dK21:=K2.out.cell (i:=1) rfl
 go_wp2_with fail
 with_reducible refine(C6.out _ HB6.out).mono ?_
 rintro e W7 ⟨rfl,hb⟩
 clear dK21
 have KT:=hid (KT.out.below hb)
 have K1:=hid (K1.out.below hb)
 have K2:=hid (K2.out.below hb)
 have HB7:=hbt HB6 hb
 clear hb
 go_wp2_with fail
 refine wp_region_post (fun a0 a' V=>a'=⟨putL [(37,.agg #[.string xa,.string xb]),(38,.int .i64 1),(39,.int .i64 2),(40,.agg #[.string yc,.string yd]),(41,.int .i64 0),(42,.int .i64 1),(43,.pointer (some ⟨0,6,none⟩)),(44,.pointer (some ⟨0,7,none⟩)),(45,.int .i64 1),(8,.int .i64 1)] a0.tmps,a0.defers⟩∧Below w.heap.size w V) ?_ ?_
 · refine wp_region_tail_d (by kernel_rfl) 10 0 (fun i=>[37,38,39,40,41,42,43,44,45,8].getD i 0) (RelR [Rel.val (.agg #[.string xa,.string xb]),Rel.val (.int .i64 1),Rel.val (.int .i64 2),Rel.val (.agg #[.string yc,.string yd]),Rel.val (.int .i64 0),Rel.val (.int .i64 1),Rel.val (.pointer (some ⟨0,6,none⟩)),Rel.val (.pointer (some ⟨0,7,none⟩)),Rel.val (.int .i64 1),Rel.val (.int .i64 1)]) (fun W=>Below W7.heap.size W7 W) (fun _ _=>True) (by kernel_rfl) (by kernel_rfl) (by kernel_rfl) trivial (Below.refl _ _).drew ?_ ?_
   · intro listed a W i hI hD hrd him
     have HI:=hid hI
     have HD:=hid hD
     have Hr:=hid hrd
     clear hI hrd hD
     have y2:a.tmps[2]? = some (.pointer (some ⟨w.heap.size,0,none⟩)):=HI.out.rest 2 (by decide)
     have y3:a.tmps[3]? = some (.pointer (some ⟨w.heap.size+1,0,none⟩)):=HI.out.rest 3 (by decide)
     have dK10:=(K1.out.below HI.out.world).cell (i:=0) rfl
     have dK11:=(K1.out.below HI.out.world).cell (i:=1) rfl
     have dK20:=(K2.out.below HI.out.world).cell (i:=0) rfl
     have dK21:=(K2.out.below HI.out.world).cell (i:=1) rfl
     have dKT7:=(KT.out.below HI.out.world).cell (i:=7) rfl
     have X0:RV _ listed a 0 37 (.agg #[.string xa,.string xb]):=HI.out.rh
     have X1:RV _ listed a 1 38 (.int .i64 1):=HI.out.rh
     have X3:RV _ listed a 3 40 (.agg #[.string yc,.string yd]):=HI.out.rh
     have X4:RV _ listed a 4 41 (.int .i64 0):=HI.out.rh
     have X2:RV _ listed a 2 39 (.int .i64 2):=HI.out.rh
     have X6:RV _ listed a 6 43 (.pointer (some ⟨0,6,none⟩)):=HI.out.rh
     have X5:RV _ listed a 5 42 (.int .i64 1):=HI.out.rh
     have X7:RV _ listed a 7 44 (.pointer (some ⟨0,7,none⟩)):=HI.out.rh
     have X8:RV _ listed a 8 45 (.int .i64 1):=HI.out.rh
     match i,him,Hr with
     | 0,_,Hi =>
       refine stepH rfl fun K' hK=>?_
       go_simp
       exact hK.out _ _ ⟨HI.out.pv Hi.out rfl,trivial⟩
     | 1,_,Hi =>
       have x0:=X0.g Hi.out (by kernel_rfl)
       refine stepH rfl fun K' hK=>?_
       go_simp
       with_reducible refine(C7.out _ (HB7.out.trans (HI.out.world.mono HB7.out.size))).mono ?_
       rintro e W' ⟨rfl,hb⟩
       exact hK.out _ _ ⟨HI.out.pc Hi.out hb rfl,trivial⟩
     | 2,_,Hi =>
       have x1:=X1.g Hi.out (by kernel_rfl)
       refine stepH rfl fun K' hK=>?_
       go_simp
       exact hK.out _ _ ⟨HI.out.pv Hi.out rfl,trivial⟩
     | 3,_,Hi =>
       refine stepH rfl fun K' hK=>?_
       go_simp
       exact hK.out _ _ ⟨HI.out.pv Hi.out rfl,trivial⟩
     | 4,_,Hi =>
       have x3:=X3.g Hi.out (by kernel_rfl)
       refine stepH rfl fun K' hK=>?_
       go_simp
       with_reducible refine(C8.out _ (HB7.out.trans (HI.out.world.mono HB7.out.size))).mono ?_
       rintro e W' ⟨rfl,hb⟩
       exact hK.out _ _ ⟨HI.out.pc Hi.out hb rfl,trivial⟩
     | 5,_,Hi =>
       have x4:=X4.g Hi.out (by kernel_rfl)
       refine stepH rfl fun K' hK=>?_
       go_simp
       exact hK.out _ _ ⟨HI.out.pv Hi.out rfl,trivial⟩
     | 6,_,Hi =>
       have x2:=X2.g Hi.out (by kernel_rfl)
       refine stepH rfl fun K' hK=>?_
       go_simp
       exact hK.out _ _ ⟨HI.out.pv Hi.out rfl,trivial⟩
     | 7,_,Hi =>
       have x6:=X6.g Hi.out (by kernel_rfl)
       have x5:=X5.g Hi.out (by kernel_rfl)
       refine stepH rfl fun K' hK=>?_
       go_simp
       exact hK.out _ _ ⟨HI.out.pv Hi.out rfl,trivial⟩
     | 8,_,Hi =>
       have x7:=X7.g Hi.out (by kernel_rfl)
       refine stepH rfl fun K' hK=>?_
       go_simp
       exact hK.out _ _ ⟨HI.out.pv Hi.out rfl,trivial⟩
     | 9,_,Hi =>
       have x8:=X8.g Hi.out (by kernel_rfl)
       refine stepH rfl fun K' hK=>?_
       go_simp
       exact hK.out _ _ ⟨HI.out.pv Hi.out rfl,trivial⟩
     | n+10,h,_=>exact absurd h (by omega)
   · intro listed a W hI hD hall
     have HBW:=hid hI.world
     have HI:=hid hI
     have HA:=hid hall
     clear hI hall
     have HBX:=hid (HB7.out.trans (HBW.out.mono HB7.out.size))
     refine tail_nil ?_
     exact⟨rfl,(HI.out.finx ⟨HI.out.sx HA.out 0,HI.out.sx HA.out 1,HI.out.sx HA.out 2,HI.out.sx HA.out 3,HI.out.sx HA.out 4,HI.out.sx HA.out 5,HI.out.sx HA.out 6,HI.out.sx HA.out 7,HI.out.sx HA.out 8,HI.out.sx HA.out 9,trivial⟩ rfl),HBX.out⟩
 rintro a' W8 ⟨rfl,z0⟩
 have HB8:=hid z0
 clear z0
 simp only[putL,List.setIfInBounds_toArray,List.set_cons_zero,List.set_cons_succ]
 go_wp2
 exact bodyPost_ret (v:=.tuple #[.int .i64 1,.int .i64 0]) (by simp[results,Tryz.results43,go_sem]) rfl ⟨rfl,HB8.out⟩
theorem osos_pp (xa xb yc yd:ByteArray)(sb sd:Int)(w₀:World)(h1:CV w₀ 16 #[.string xa] (.bool true))(h2:CV w₀ 16 #[.string xb] (.bool true))(h3:CV w₀ 16 #[.string yc] (.bool true))(h4:CV w₀ 16 #[.string yd] (.bool true))(h5:CV w₀ 37 #[.string xb] (.int .i64 sb))(h6:CV w₀ 37 #[.string yd] (.int .i64 sd))(h7:CV w₀ 76 #[.agg #[.string xa,.string xb]] (.int .i64 1))(h8:CV w₀ 76 #[.agg #[.string yc,.string yd]] (.int .i64 1))(f1:decide (sb<0)=false)(f2:decide (sd<0)=false)(kKT:Stb w₀ 0 #[.int .i64 (-1),.int .i64 (-1),.int .i64 2,.int .i64 (-1),.int .i64 0,.int .i64 1,.int .i64 2,.int .i64 1,.int .i64 1] 101) :
 CV w₀ 43 #[.agg #[.string xa,.string xb],.agg #[.string yc,.string yd]] (.tuple #[.int .i64 1,.int .i64 0]):=by
 intro w hw
 have C1:=hid (h1.mono hw)
 have C2:=hid (h2.mono hw)
 have C3:=hid (h3.mono hw)
 have C4:=hid (h4.mono hw)
 have C5:=hid (h5.mono hw)
 have C6:=hid (h6.mono hw)
 have C7:=hid (h7.mono hw)
 have C8:=hid (h8.mono hw)
 have g1:=f1
 have g2:=f2
 clear f1 f2
 have KT:=hid (kKT.below hw)
 clear h1 h2 h3 h4 h5 h6 h7 h8 kKT hw
 go_enter Tryz.func43,Tryz.ntmps43
 go_upto_region 1 with fail
 refine wp_boxes w [(#[.string xa,.string xb],74),(#[.string yc,.string yd],74)] rfl ?_
 rintro W0 ⟨k1,k2,hb⟩
 have HB0:=hid (show Below w.heap.size w W0 from hb)
 have KT:=hid (KT.out.below HB0.out)
 have K1:=hid k1
 have K2:=hid k2
 clear k1 k2 hb
 have dK10:=K1.out.cell (i:=0) rfl
 have dK11:=K1.out.cell (i:=1) rfl
 have dK20:=K2.out.cell (i:=0) rfl
 have dK21:=K2.out.cell (i:=1) rfl
 go_wp2
 have hb:=below_new W0 (.cells #[.string xa,.string xb,.string yc,.string yd] 22)
 have k3:=SBk.new W0 #[.string xa,.string xb,.string yc,.string yd] 22
 generalize W0.alloc (.cells #[.string xa,.string xb,.string yc,.string yd] 22)=W1 at *
 have KT:=hid (KT.out.below hb)
 have K1:=hid (K1.out.below hb)
 have K2:=hid (K2.out.below hb)
 have HB1:=hbt HB0 hb
 have K3:=hid k3
 clear k3 hb dK10 dK11 dK20 dK21
 refine wp_loop_rounds 5 ?_
 rw[rounds_succ]
 have dK30:=K3.out.cell (i:=0) rfl
 go_wp2_with fail
 with_reducible refine(C1.out _ HB1.out).mono ?_
 rintro e W2 ⟨rfl,hb⟩
 clear dK30
 have KT:=hid (KT.out.below hb)
 have K1:=hid (K1.out.below hb)
 have K2:=hid (K2.out.below hb)
 have K3:=hid (K3.out.below hb)
 have HB2:=hbt HB1 hb
 clear hb
 go_wp2
 rw[rounds_succ]
 have dK31:=K3.out.cell (i:=1) rfl
 go_wp2_with fail
 with_reducible refine(C2.out _ HB2.out).mono ?_
 rintro e W3 ⟨rfl,hb⟩
 clear dK31
 have KT:=hid (KT.out.below hb)
 have K1:=hid (K1.out.below hb)
 have K2:=hid (K2.out.below hb)
 have K3:=hid (K3.out.below hb)
 have HB3:=hbt HB2 hb
 clear hb
 go_wp2
 rw[rounds_succ]
 have dK32:=K3.out.cell (i:=2) rfl
 go_wp2_with fail
 with_reducible refine(C3.out _ HB3.out).mono ?_
 rintro e W4 ⟨rfl,hb⟩
 clear dK32
 have KT:=hid (KT.out.below hb)
 have K1:=hid (K1.out.below hb)
 have K2:=hid (K2.out.below hb)
 have K3:=hid (K3.out.below hb)
 have HB4:=hbt HB3 hb
 clear hb
 go_wp2
 rw[rounds_succ]
 have dK33:=K3.out.cell (i:=3) rfl
 go_wp2_with fail
 with_reducible refine(C4.out _ HB4.out).mono ?_
 rintro e W5 ⟨rfl,hb⟩
 clear dK33
 have KT:=hid (KT.out.below hb)
 have K1:=hid (K1.out.below hb)
 have K2:=hid (K2.out.below hb)
 have HB5:=hbt HB4 hb
 clear hb
 go_wp2
 rw[rounds_succ]
 have dK11:=K1.out.cell (i:=1) rfl
 go_wp2_with fail
 with_reducible refine(C5.out _ HB5.out).mono ?_
 rintro e W6 ⟨rfl,hb⟩
 clear dK11
 have KT:=hid (KT.out.below hb)
 have K1:=hid (K1.out.below hb)
 have K2:=hid (K2.out.below hb)
 have HB6:=hbt HB5 hb
 clear hb
 have dK21:=K2.out.cell (i:=1) rfl
 go_wp2_with fail
 with_reducible refine(C6.out _ HB6.out).mono ?_
 rintro e W7 ⟨rfl,hb⟩
 clear dK21
 have KT:=hid (KT.out.below hb)
 have K1:=hid (K1.out.below hb)
 have K2:=hid (K2.out.below hb)
 have HB7:=hbt HB6 hb
 clear hb
 go_wp2_with fail
 refine wp_region_post (fun a0 a' V=>a'=⟨putL [(37,.agg #[.string xa,.string xb]),(38,.int .i64 1),(39,.int .i64 2),(40,.agg #[.string yc,.string yd]),(41,.int .i64 1),(42,.int .i64 2),(43,.pointer (some ⟨0,6,none⟩)),(44,.pointer (some ⟨0,8,none⟩)),(45,.int .i64 1),(8,.int .i64 1)] a0.tmps,a0.defers⟩∧Below w.heap.size w V) ?_ ?_
 · refine wp_region_tail_d (by kernel_rfl) 10 0 (fun i=>[37,38,39,40,41,42,43,44,45,8].getD i 0) (RelR [Rel.val (.agg #[.string xa,.string xb]),Rel.val (.int .i64 1),Rel.val (.int .i64 2),Rel.val (.agg #[.string yc,.string yd]),Rel.val (.int .i64 1),Rel.val (.int .i64 2),Rel.val (.pointer (some ⟨0,6,none⟩)),Rel.val (.pointer (some ⟨0,8,none⟩)),Rel.val (.int .i64 1),Rel.val (.int .i64 1)]) (fun W=>Below W7.heap.size W7 W) (fun _ _=>True) (by kernel_rfl) (by kernel_rfl) (by kernel_rfl) trivial (Below.refl _ _).drew ?_ ?_
   · intro listed a W i hI hD hrd him
     have HI:=hid hI
     have HD:=hid hD
     have Hr:=hid hrd
     clear hI hrd hD
     have y2:a.tmps[2]? = some (.pointer (some ⟨w.heap.size,0,none⟩)):=HI.out.rest 2 (by decide)
     have y3:a.tmps[3]? = some (.pointer (some ⟨w.heap.size+1,0,none⟩)):=HI.out.rest 3 (by decide)
     have dK10:=(K1.out.below HI.out.world).cell (i:=0) rfl
     have dK11:=(K1.out.below HI.out.world).cell (i:=1) rfl
     have dK20:=(K2.out.below HI.out.world).cell (i:=0) rfl
     have dK21:=(K2.out.below HI.out.world).cell (i:=1) rfl
     have dKT8:=(KT.out.below HI.out.world).cell (i:=8) rfl
     have X0:RV _ listed a 0 37 (.agg #[.string xa,.string xb]):=HI.out.rh
     have X1:RV _ listed a 1 38 (.int .i64 1):=HI.out.rh
     have X3:RV _ listed a 3 40 (.agg #[.string yc,.string yd]):=HI.out.rh
     have X4:RV _ listed a 4 41 (.int .i64 1):=HI.out.rh
     have X2:RV _ listed a 2 39 (.int .i64 2):=HI.out.rh
     have X6:RV _ listed a 6 43 (.pointer (some ⟨0,6,none⟩)):=HI.out.rh
     have X5:RV _ listed a 5 42 (.int .i64 2):=HI.out.rh
     have X7:RV _ listed a 7 44 (.pointer (some ⟨0,8,none⟩)):=HI.out.rh
     have X8:RV _ listed a 8 45 (.int .i64 1):=HI.out.rh
     match i,him,Hr with
     | 0,_,Hi =>
       refine stepH rfl fun K' hK=>?_
       go_simp
       exact hK.out _ _ ⟨HI.out.pv Hi.out rfl,trivial⟩
     | 1,_,Hi =>
       have x0:=X0.g Hi.out (by kernel_rfl)
       refine stepH rfl fun K' hK=>?_
       go_simp
       with_reducible refine(C7.out _ (HB7.out.trans (HI.out.world.mono HB7.out.size))).mono ?_
       rintro e W' ⟨rfl,hb⟩
       exact hK.out _ _ ⟨HI.out.pc Hi.out hb rfl,trivial⟩
     | 2,_,Hi =>
       have x1:=X1.g Hi.out (by kernel_rfl)
       refine stepH rfl fun K' hK=>?_
       go_simp
       exact hK.out _ _ ⟨HI.out.pv Hi.out rfl,trivial⟩
     | 3,_,Hi =>
       refine stepH rfl fun K' hK=>?_
       go_simp
       exact hK.out _ _ ⟨HI.out.pv Hi.out rfl,trivial⟩
     | 4,_,Hi =>
       have x3:=X3.g Hi.out (by kernel_rfl)
       refine stepH rfl fun K' hK=>?_
       go_simp
       with_reducible refine(C8.out _ (HB7.out.trans (HI.out.world.mono HB7.out.size))).mono ?_
       rintro e W' ⟨rfl,hb⟩
       exact hK.out _ _ ⟨HI.out.pc Hi.out hb rfl,trivial⟩
     | 5,_,Hi =>
       have x4:=X4.g Hi.out (by kernel_rfl)
       refine stepH rfl fun K' hK=>?_
       go_simp
       exact hK.out _ _ ⟨HI.out.pv Hi.out rfl,trivial⟩
     | 6,_,Hi =>
       have x2:=X2.g Hi.out (by kernel_rfl)
       refine stepH rfl fun K' hK=>?_
       go_simp
       exact hK.out _ _ ⟨HI.out.pv Hi.out rfl,trivial⟩
     | 7,_,Hi =>
       have x6:=X6.g Hi.out (by kernel_rfl)
       have x5:=X5.g Hi.out (by kernel_rfl)
       refine stepH rfl fun K' hK=>?_
       go_simp
       exact hK.out _ _ ⟨HI.out.pv Hi.out rfl,trivial⟩
     | 8,_,Hi =>
       have x7:=X7.g Hi.out (by kernel_rfl)
       refine stepH rfl fun K' hK=>?_
       go_simp
       exact hK.out _ _ ⟨HI.out.pv Hi.out rfl,trivial⟩
     | 9,_,Hi =>
       have x8:=X8.g Hi.out (by kernel_rfl)
       refine stepH rfl fun K' hK=>?_
       go_simp
       exact hK.out _ _ ⟨HI.out.pv Hi.out rfl,trivial⟩
     | n+10,h,_=>exact absurd h (by omega)
   · intro listed a W hI hD hall
     have HBW:=hid hI.world
     have HI:=hid hI
     have HA:=hid hall
     clear hI hall
     have HBX:=hid (HB7.out.trans (HBW.out.mono HB7.out.size))
     refine tail_nil ?_
     exact⟨rfl,(HI.out.finx ⟨HI.out.sx HA.out 0,HI.out.sx HA.out 1,HI.out.sx HA.out 2,HI.out.sx HA.out 3,HI.out.sx HA.out 4,HI.out.sx HA.out 5,HI.out.sx HA.out 6,HI.out.sx HA.out 7,HI.out.sx HA.out 8,HI.out.sx HA.out 9,trivial⟩ rfl),HBX.out⟩
 rintro a' W8 ⟨rfl,z0⟩
 have HB8:=hid z0
 clear z0
 simp only[putL,List.setIfInBounds_toArray,List.set_cons_zero,List.set_cons_succ]
 go_wp2
 exact bodyPost_ret (v:=.tuple #[.int .i64 1,.int .i64 0]) (by simp[results,Tryz.results43,go_sem]) rfl ⟨rfl,HB8.out⟩
end Go.Proofs.YtggoeabhbkbadaaGreatDoor
