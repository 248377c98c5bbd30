/- texts -/
import Derived.Test.YtcchkjpdchcjpaaGreatDoorMz26q
open Go.Proofs.Tryz
set_option maxRecDepth 100000
set_option maxHeartbeats 20000000
open Go.Lib (hid)
namespace Go.Proofs.YtcchkjpdchcjpaaGreatDoor
open Go.RowKit Go.Gb
def Stb (w:World) (g:Nat) (cs:Array Value) (_:TypeId):Prop:=g<w.heap.size∧∀ i v,cs[i]? = some v→w.cell? ⟨g,i,none⟩=some v
theorem Stb.cell {w:World}{g i:Nat}{cs:Array Value}{T:TypeId}{v:Value}(h:Stb w g cs T)(hi:cs[i]? = some v):w.cell? ⟨g,i,none⟩=some v:=h.2 i v hi
theorem Stb.below {w w':World}{g:Nat}{cs:Array Value}{T:TypeId}(h:Stb w g cs T)(hb:Below w.heap.size w w'):Stb w' g cs T :=
 ⟨Nat.lt_of_lt_of_le h.1 hb.size,fun i v hi=>(hb.cell (p:=⟨g,i,none⟩) h.1).trans (h.2 i v hi)⟩
theorem xg (xa xb yc yd:ByteArray)(w₀:World)(h1:CV w₀ 35 #[.string xa] (.bool false))  :
 CV w₀ 16 #[.agg #[.string xa,.string xb],.agg #[.string yc,.string yd]] (.tuple #[.int .i64 0,.int .i64 1]):=by
 intro w hw;have C1:=hid (h1.mono hw);clear h1 hw;go_enter func16,ntmps16
 go_upto_region 1 with fail
 refine aA w [(#[.string xa,.string xb],43),(#[.string yc,.string yd],43)] rfl ?_;rintro W0 ⟨k1,k2,hb⟩;have rV:=hid (show Below w.heap.size w W0 from hb);have K1:=hid k1;have K2:=hid k2;clear k1 k2 hb;obtain ⟨pq,w9⟩:=au K1.o rfl rfl;obtain ⟨ol,wu⟩:=au K2.o rfl rfl;go_wp2;have hb:=bQ W0 (.cells #[.string xa,.string xb,.string yc,.string yd] 22);have k3:=SBk.new W0 #[.string xa,.string xb,.string yc,.string yd] 22;generalize W0.alloc (.cells #[.string xa,.string xb,.string yc,.string yd] 22)=W1 at *;have ww:=hbt rV hb;have K3:=hid k3;clear k3 hb pq w9 ol wu;refine wp_loop_rounds 5 ?_;rw[rounds_succ];have nk:=K3.o.cell (i:=0) rfl;go_wp2_with fail
 with_reducible refine(C1.o _ ww.o).mono ?_
 rintro e W2 ⟨rfl,hb⟩;clear nk;have sw:=hbt ww hb;clear hb;go_wp2;exact bodyPost_ret (v:=.tuple #[.int .i64 0,.int .i64 1]) (by simp[results,results16,go_sem]) rfl ⟨rfl,sw.o⟩
theorem z1S (xa xb yc yd:ByteArray)(w₀:World)(h1:CV w₀ 35 #[.string xa] (.bool true))(h2:CV w₀ 35 #[.string xb] (.bool false))  :
 CV w₀ 16 #[.agg #[.string xa,.string xb],.agg #[.string yc,.string yd]] (.tuple #[.int .i64 0,.int .i64 1]):=by
 intro w hw;have C1:=hid (h1.mono hw);have C2:=hid (h2.mono hw);clear h1 h2 hw;go_enter func16,ntmps16
 go_upto_region 1 with fail
 refine aA w [(#[.string xa,.string xb],43),(#[.string yc,.string yd],43)] rfl ?_;rintro W0 ⟨k1,k2,hb⟩;have rV:=hid (show Below w.heap.size w W0 from hb);have K1:=hid k1;have K2:=hid k2;clear k1 k2 hb;obtain ⟨pq,w9⟩:=au K1.o rfl rfl;obtain ⟨ol,wu⟩:=au K2.o rfl rfl;go_wp2;have hb:=bQ W0 (.cells #[.string xa,.string xb,.string yc,.string yd] 22);have k3:=SBk.new W0 #[.string xa,.string xb,.string yc,.string yd] 22;generalize W0.alloc (.cells #[.string xa,.string xb,.string yc,.string yd] 22)=W1 at *;have ww:=hbt rV hb;have K3:=hid k3;clear k3 hb pq w9 ol wu;refine wp_loop_rounds 5 ?_;rw[rounds_succ];have nk:=K3.o.cell (i:=0) rfl;go_wp2_with fail
 with_reducible refine(C1.o _ ww.o).mono ?_
 rintro e W2 ⟨rfl,hb⟩;clear nk;have K3:=hid (K3.o.below hb);have sw:=hbt ww hb;clear hb;go_wp2;rw[rounds_succ];have mi:=K3.o.cell (i:=1) rfl;go_wp2_with fail
 with_reducible refine(C2.o _ sw.o).mono ?_
 rintro e W3 ⟨rfl,hb⟩;clear mi;have rM:=hbt sw hb;clear hb;go_wp2;exact bodyPost_ret (v:=.tuple #[.int .i64 0,.int .i64 1]) (by simp[results,results16,go_sem]) rfl ⟨rfl,rM.o⟩
theorem z1R (xa xb yc yd:ByteArray)(w₀:World)(h1:CV w₀ 35 #[.string xa] (.bool true))(h2:CV w₀ 35 #[.string xb] (.bool true))(h3:CV w₀ 35 #[.string yc] (.bool false))  :
 CV w₀ 16 #[.agg #[.string xa,.string xb],.agg #[.string yc,.string yd]] (.tuple #[.int .i64 0,.int .i64 1]):=by
 intro w hw;obtain ⟨C1,C2,C3⟩:=ae (h1.mono hw) (h2.mono hw) (h3.mono hw);clear h1 h2 h3 hw;go_enter func16,ntmps16
 go_upto_region 1 with fail
 refine aA w [(#[.string xa,.string xb],43),(#[.string yc,.string yd],43)] rfl ?_;rintro W0 ⟨k1,k2,hb⟩;have rV:=hid (show Below w.heap.size w W0 from hb);have K1:=hid k1;have K2:=hid k2;clear k1 k2 hb;obtain ⟨pq,w9⟩:=au K1.o rfl rfl;obtain ⟨ol,wu⟩:=au K2.o rfl rfl;go_wp2;have hb:=bQ W0 (.cells #[.string xa,.string xb,.string yc,.string yd] 22);have k3:=SBk.new W0 #[.string xa,.string xb,.string yc,.string yd] 22;generalize W0.alloc (.cells #[.string xa,.string xb,.string yc,.string yd] 22)=W1 at *;have ww:=hbt rV hb;have K3:=hid k3;clear k3 hb pq w9 ol wu;refine wp_loop_rounds 5 ?_;rw[rounds_succ];have nk:=K3.o.cell (i:=0) rfl;go_wp2_with fail
 with_reducible refine(C1.o _ ww.o).mono ?_
 rintro e W2 ⟨rfl,hb⟩;clear nk;have K3:=hid (K3.o.below hb);have sw:=hbt ww hb;clear hb;go_wp2;rw[rounds_succ];have mi:=K3.o.cell (i:=1) rfl;go_wp2_with fail
 with_reducible refine(C2.o _ sw.o).mono ?_
 rintro e W3 ⟨rfl,hb⟩;clear mi;have K3:=hid (K3.o.below hb);have rM:=hbt sw hb;clear hb;go_wp2;rw[rounds_succ];have l5:=K3.o.cell (i:=2) rfl;go_wp2_with fail
 with_reducible refine(C3.o _ rM.o).mono ?_
 rintro e W4 ⟨rfl,hb⟩;clear l5;have oM:=hbt rM hb;clear hb;go_wp2;exact bodyPost_ret (v:=.tuple #[.int .i64 0,.int .i64 1]) (by simp[results,results16,go_sem]) rfl ⟨rfl,oM.o⟩
theorem xe (xa xb yc yd:ByteArray)(w₀:World)(h1:CV w₀ 35 #[.string xa] (.bool true))(h2:CV w₀ 35 #[.string xb] (.bool true))(h3:CV w₀ 35 #[.string yc] (.bool true))(h4:CV w₀ 35 #[.string yd] (.bool false))  :
 CV w₀ 16 #[.agg #[.string xa,.string xb],.agg #[.string yc,.string yd]] (.tuple #[.int .i64 0,.int .i64 1]):=by
 intro w hw;obtain ⟨C1,C2,C3,C4⟩:=aY (h1.mono hw) (h2.mono hw) (h3.mono hw) (h4.mono hw);clear h1 h2 h3 h4 hw;go_enter func16,ntmps16
 go_upto_region 1 with fail
 refine aA w [(#[.string xa,.string xb],43),(#[.string yc,.string yd],43)] rfl ?_;rintro W0 ⟨k1,k2,hb⟩;have rV:=hid (show Below w.heap.size w W0 from hb);have K1:=hid k1;have K2:=hid k2;clear k1 k2 hb;obtain ⟨pq,w9⟩:=au K1.o rfl rfl;obtain ⟨ol,wu⟩:=au K2.o rfl rfl;go_wp2;have hb:=bQ W0 (.cells #[.string xa,.string xb,.string yc,.string yd] 22);have k3:=SBk.new W0 #[.string xa,.string xb,.string yc,.string yd] 22;generalize W0.alloc (.cells #[.string xa,.string xb,.string yc,.string yd] 22)=W1 at *;have ww:=hbt rV hb;have K3:=hid k3;clear k3 hb pq w9 ol wu;refine wp_loop_rounds 5 ?_;rw[rounds_succ];have nk:=K3.o.cell (i:=0) rfl;go_wp2_with fail
 with_reducible refine(C1.o _ ww.o).mono ?_
 rintro e W2 ⟨rfl,hb⟩;clear nk;have K3:=hid (K3.o.below hb);have sw:=hbt ww hb;clear hb;go_wp2;rw[rounds_succ];have mi:=K3.o.cell (i:=1) rfl;go_wp2_with fail
 with_reducible refine(C2.o _ sw.o).mono ?_
 rintro e W3 ⟨rfl,hb⟩;clear mi;have K3:=hid (K3.o.below hb);have rM:=hbt sw hb;clear hb;go_wp2;rw[rounds_succ];have l5:=K3.o.cell (i:=2) rfl;go_wp2_with fail
 with_reducible refine(C3.o _ rM.o).mono ?_
 rintro e W4 ⟨rfl,hb⟩;clear l5;have K3:=hid (K3.o.below hb);have oM:=hbt rM hb;clear hb;go_wp2;rw[rounds_succ];have lv:=K3.o.cell (i:=3) rfl;go_wp2_with fail
 with_reducible refine(C4.o _ oM.o).mono ?_
 rintro e W5 ⟨rfl,hb⟩;clear lv;have oV:=hbt oM hb;clear hb;go_wp2;exact bodyPost_ret (v:=.tuple #[.int .i64 0,.int .i64 1]) (by simp[results,results16,go_sem]) rfl ⟨rfl,oV.o⟩
theorem z0e (xa xb yc yd:ByteArray)(w₀:World)(h1:CV w₀ 35 #[.string xa] (.bool true))(h2:CV w₀ 35 #[.string xb] (.bool true))(h3:CV w₀ 35 #[.string yc] (.bool true))(h4:CV w₀ 35 #[.string yd] (.bool true))(h5:CV w₀ 27 #[.string xb] (.int .i64 (-1)))  :
 CV w₀ 16 #[.agg #[.string xa,.string xb],.agg #[.string yc,.string yd]] (.tuple #[.int .i64 0,.int .i64 2]):=by
 intro w hw;obtain ⟨C1,C2,C3,C4,C5⟩:=bO (h1.mono hw) (h2.mono hw) (h3.mono hw) (h4.mono hw) (h5.mono hw);clear h1 h2 h3 h4 h5 hw;go_enter func16,ntmps16
 go_upto_region 1 with fail
 refine aA w [(#[.string xa,.string xb],43),(#[.string yc,.string yd],43)] rfl ?_;rintro W0 ⟨k1,k2,hb⟩;have rV:=hid (show Below w.heap.size w W0 from hb);have K1:=hid k1;have K2:=hid k2;clear k1 k2 hb;obtain ⟨pq,w9⟩:=au K1.o rfl rfl;obtain ⟨ol,wu⟩:=au K2.o rfl rfl;go_wp2;have hb:=bQ W0 (.cells #[.string xa,.string xb,.string yc,.string yd] 22);have k3:=SBk.new W0 #[.string xa,.string xb,.string yc,.string yd] 22;generalize W0.alloc (.cells #[.string xa,.string xb,.string yc,.string yd] 22)=W1 at *;have K1:=hid (K1.o.below hb);have ww:=hbt rV hb;have K3:=hid k3;clear k3 hb pq w9 ol wu;refine wp_loop_rounds 5 ?_;rw[rounds_succ];have nk:=K3.o.cell (i:=0) rfl;go_wp2_with fail
 with_reducible refine(C1.o _ ww.o).mono ?_
 rintro e W2 ⟨rfl,hb⟩;clear nk;obtain ⟨K1,K3⟩:=ax hb K1 K3;have sw:=hbt ww hb;clear hb;go_wp2;rw[rounds_succ];have mi:=K3.o.cell (i:=1) rfl;go_wp2_with fail
 with_reducible refine(C2.o _ sw.o).mono ?_
 rintro e W3 ⟨rfl,hb⟩;clear mi;obtain ⟨K1,K3⟩:=ax hb K1 K3;have rM:=hbt sw hb;clear hb;go_wp2;rw[rounds_succ];have l5:=K3.o.cell (i:=2) rfl;go_wp2_with fail
 with_reducible refine(C3.o _ rM.o).mono ?_
 rintro e W4 ⟨rfl,hb⟩;clear l5;obtain ⟨K1,K3⟩:=ax hb K1 K3;have oM:=hbt rM hb;clear hb;go_wp2;rw[rounds_succ];have lv:=K3.o.cell (i:=3) rfl;go_wp2_with fail
 with_reducible refine(C4.o _ oM.o).mono ?_
 rintro e W5 ⟨rfl,hb⟩;clear lv;have K1:=hid (K1.o.below hb);have oV:=hbt oM hb;clear hb;go_wp2;rw[rounds_succ];have w9:=K1.o.cell (i:=1) rfl;go_wp2_with fail
 with_reducible refine(C5.o _ oV.o).mono ?_
 rintro e W6 ⟨rfl,hb⟩;clear w9;have mf:=hbt oV hb;clear hb;go_wp2;exact bodyPost_ret (v:=.tuple #[.int .i64 0,.int .i64 2]) (by simp[results,results16,go_sem]) rfl ⟨rfl,mf.o⟩
theorem sZ (xa xb yc yd:ByteArray)(s:Int)(w₀:World)(h1:CV w₀ 35 #[.string xa] (.bool true))(h2:CV w₀ 35 #[.string xb] (.bool true))(h3:CV w₀ 35 #[.string yc] (.bool true))(h4:CV w₀ 35 #[.string yd] (.bool true))(h5:CV w₀ 27 #[.string xb] (.int .i64 s))(h6:CV w₀ 27 #[.string yd] (.int .i64 (-1)))(f1:decide (s<0)=false) :
 CV w₀ 16 #[.agg #[.string xa,.string xb],.agg #[.string yc,.string yd]] (.tuple #[.int .i64 0,.int .i64 2]):=by
 intro w hw;obtain ⟨C1,C2,C3,C4,C5,C6⟩:=bX (h1.mono hw) (h2.mono hw) (h3.mono hw) (h4.mono hw) (h5.mono hw) (h6.mono hw);have g1:=f1;clear f1 h1 h2 h3 h4 h5 h6 hw;go_enter func16,ntmps16
 go_upto_region 1 with fail
 refine aA w [(#[.string xa,.string xb],43),(#[.string yc,.string yd],43)] rfl ?_;rintro W0 ⟨k1,k2,hb⟩;have rV:=hid (show Below w.heap.size w W0 from hb);have K1:=hid k1;have K2:=hid k2;clear k1 k2 hb;obtain ⟨pq,w9⟩:=au K1.o rfl rfl;obtain ⟨ol,wu⟩:=au K2.o rfl rfl;go_wp2;have hb:=bQ W0 (.cells #[.string xa,.string xb,.string yc,.string yd] 22);have k3:=SBk.new W0 #[.string xa,.string xb,.string yc,.string yd] 22;generalize W0.alloc (.cells #[.string xa,.string xb,.string yc,.string yd] 22)=W1 at *;obtain ⟨K1,K2⟩:=ax hb K1 K2;have ww:=hbt rV hb;have K3:=hid k3;clear k3 hb pq w9 ol wu;refine wp_loop_rounds 5 ?_;rw[rounds_succ];have nk:=K3.o.cell (i:=0) rfl;go_wp2_with fail
 with_reducible refine(C1.o _ ww.o).mono ?_
 rintro e W2 ⟨rfl,hb⟩;clear nk;obtain ⟨K1,K2,K3⟩:=aI hb K1 K2 K3;have sw:=hbt ww hb;clear hb;go_wp2;rw[rounds_succ];have mi:=K3.o.cell (i:=1) rfl;go_wp2_with fail
 with_reducible refine(C2.o _ sw.o).mono ?_
 rintro e W3 ⟨rfl,hb⟩;clear mi;obtain ⟨K1,K2,K3⟩:=aI hb K1 K2 K3;have rM:=hbt sw hb;clear hb;go_wp2;rw[rounds_succ];have l5:=K3.o.cell (i:=2) rfl;go_wp2_with fail
 with_reducible refine(C3.o _ rM.o).mono ?_
 rintro e W4 ⟨rfl,hb⟩;clear l5;obtain ⟨K1,K2,K3⟩:=aI hb K1 K2 K3;have oM:=hbt rM hb;clear hb;go_wp2;rw[rounds_succ];have lv:=K3.o.cell (i:=3) rfl;go_wp2_with fail
 with_reducible refine(C4.o _ oM.o).mono ?_
 rintro e W5 ⟨rfl,hb⟩;clear lv;obtain ⟨K1,K2⟩:=ax hb K1 K2;have oV:=hbt oM hb;clear hb;go_wp2;rw[rounds_succ];have w9:=K1.o.cell (i:=1) rfl;go_wp2_with fail
 with_reducible refine(C5.o _ oV.o).mono ?_
 rintro e W6 ⟨rfl,hb⟩;clear w9;have K2:=hid (K2.o.below hb);have mf:=hbt oV hb;clear hb;have wu:=K2.o.cell (i:=1) rfl;go_wp2_with fail
 with_reducible refine(C6.o _ mf.o).mono ?_
 rintro e W7 ⟨rfl,hb⟩;clear wu;have wo:=hbt mf hb;clear hb;go_wp2;exact bodyPost_ret (v:=.tuple #[.int .i64 0,.int .i64 2]) (by simp[results,results16,go_sem]) rfl ⟨rfl,wo.o⟩
theorem z3L (xa xb yc yd:ByteArray)(sb sd:Int)(w₀:World)(h1:CV w₀ 35 #[.string xa] (.bool true))(h2:CV w₀ 35 #[.string xb] (.bool true))(h3:CV w₀ 35 #[.string yc] (.bool true))(h4:CV w₀ 35 #[.string yd] (.bool true))(h5:CV w₀ 27 #[.string xb] (.int .i64 sb))(h6:CV w₀ 27 #[.string yd] (.int .i64 sd))(h7:CV w₀ 38 #[.agg #[.string xa,.string xb]] (.int .i64 (-1)))(h8:CV w₀ 38 #[.agg #[.string yc,.string yd]] (.int .i64 (-1)))(f1:decide (sb<0)=false)(f2:decide (sd<0)=false)(kKT:Stb w₀ 0 #[.int .i64 (-1),.int .i64 (-1),.int .i64 2,.int .i64 (-1),.int .i64 0,.int .i64 1,.int .i64 2,.int .i64 1,.int .i64 1] 71) :
 CV w₀ 16 #[.agg #[.string xa,.string xb],.agg #[.string yc,.string yd]] (.tuple #[.int .i64 (-1),.int .i64 0]):=by
 intro w hw;obtain ⟨C1,C2,C3,C4,C5,C6,C7,C8⟩:=eO (h1.mono hw) (h2.mono hw) (h3.mono hw) (h4.mono hw) (h5.mono hw) (h6.mono hw) (h7.mono hw) (h8.mono hw);have g1:=f1;have g2:=f2;clear f1 f2;have KT:=hid (kKT.below hw);clear h1 h2 h3 h4 h5 h6 h7 h8 kKT hw;go_enter func16,ntmps16
 go_upto_region 1 with fail
 refine aA w [(#[.string xa,.string xb],43),(#[.string yc,.string yd],43)] rfl ?_;rintro W0 ⟨k1,k2,hb⟩;have rV:=hid (show Below w.heap.size w W0 from hb);obtain ⟨KT,K1,K2⟩:=ae (KT.o.below rV.o) k1 k2;clear k1 k2 hb;obtain ⟨pq,w9⟩:=au K1.o rfl rfl;obtain ⟨ol,wu⟩:=au K2.o rfl rfl;go_wp2;have hb:=bQ W0 (.cells #[.string xa,.string xb,.string yc,.string yd] 22);have k3:=SBk.new W0 #[.string xa,.string xb,.string yc,.string yd] 22;generalize W0.alloc (.cells #[.string xa,.string xb,.string yc,.string yd] 22)=W1 at *;obtain ⟨K1,K2⟩:=ax hb K1 K2;have KT:=Lib.hid (KT.o.below hb);have ww:=hbt rV hb;have K3:=hid k3;clear k3 hb pq w9 ol wu;refine wp_loop_rounds 5 ?_;rw[rounds_succ];have nk:=K3.o.cell (i:=0) rfl;go_wp2_with fail
 with_reducible refine(C1.o _ ww.o).mono ?_
 rintro e W2 ⟨rfl,hb⟩;clear nk;obtain ⟨K1,K2,K3⟩:=aI hb K1 K2 K3;have KT:=Lib.hid (KT.o.below hb);have sw:=hbt ww hb;clear hb;go_wp2;rw[rounds_succ];have mi:=K3.o.cell (i:=1) rfl;go_wp2_with fail
 with_reducible refine(C2.o _ sw.o).mono ?_
 rintro e W3 ⟨rfl,hb⟩;clear mi;obtain ⟨K1,K2,K3⟩:=aI hb K1 K2 K3;have KT:=Lib.hid (KT.o.below hb);have rM:=hbt sw hb;clear hb;go_wp2;rw[rounds_succ];have l5:=K3.o.cell (i:=2) rfl;go_wp2_with fail
 with_reducible refine(C3.o _ rM.o).mono ?_
 rintro e W4 ⟨rfl,hb⟩;clear l5;obtain ⟨K1,K2,K3⟩:=aI hb K1 K2 K3;have KT:=Lib.hid (KT.o.below hb);have oM:=hbt rM hb;clear hb;go_wp2;rw[rounds_succ];have lv:=K3.o.cell (i:=3) rfl;go_wp2_with fail
 with_reducible refine(C4.o _ oM.o).mono ?_
 rintro e W5 ⟨rfl,hb⟩;clear lv;obtain ⟨K1,K2⟩:=ax hb K1 K2;have KT:=Lib.hid (KT.o.below hb);have oV:=hbt oM hb;clear hb;go_wp2;rw[rounds_succ];have w9:=K1.o.cell (i:=1) rfl;go_wp2_with fail
 with_reducible refine(C5.o _ oV.o).mono ?_
 rintro e W6 ⟨rfl,hb⟩;clear w9;obtain ⟨K1,K2⟩:=ax hb K1 K2;have KT:=Lib.hid (KT.o.below hb);have mf:=hbt oV hb;clear hb;have wu:=K2.o.cell (i:=1) rfl;go_wp2_with fail
 with_reducible refine(C6.o _ mf.o).mono ?_
 rintro e W7 ⟨rfl,hb⟩;clear wu;obtain ⟨K1,K2⟩:=ax hb K1 K2;have KT:=Lib.hid (KT.o.below hb);have wo:=hbt mf hb;clear hb;go_wp2_with fail
 refine az (fun a0 a' V=>a'=⟨putL [(37,.agg #[.string xa,.string xb]),(38,.int .i64 (-1)),(39,.int .i64 0),(40,.agg #[.string yc,.string yd]),(41,.int .i64 (-1)),(42,.int .i64 0),(43,.pointer (some ⟨0,0,none⟩)),(44,.pointer (some ⟨0,0,none⟩)),(45,.int .i64 (-1)),(8,.int .i64 (-1))] a0.tmps,a0.defers⟩∧Below w.heap.size w V) ?_ ?_
 · refine aC (by kernel_rfl) 10 0 (fun i=>[37,38,39,40,41,42,43,44,45,8].getD i 0) (RelR [Rel.val (.agg #[.string xa,.string xb]),Rel.val (.int .i64 (-1)),Rel.val (.int .i64 0),Rel.val (.agg #[.string yc,.string yd]),Rel.val (.int .i64 (-1)),Rel.val (.int .i64 0),Rel.val (.pointer (some ⟨0,0,none⟩)),Rel.val (.pointer (some ⟨0,0,none⟩)),Rel.val (.int .i64 (-1)),Rel.val (.int .i64 (-1))]) (fun W=>Below W7.heap.size W7 W) (fun _ _=>True) (by kernel_rfl) (by kernel_rfl) (by kernel_rfl) trivial (Below.refl _ _).drew ?_ ?_
   · intro u6 a W i hI hD hrd him
     obtain ⟨HI,HD,Hr⟩:=ae hI hD hrd;clear hI hrd hD;have y2:a.tmps[2]? = some (.pointer (some ⟨w.heap.size,0,none⟩)):=HI.o.rest 2 (by decide);have y3:a.tmps[3]? = some (.pointer (some ⟨w.heap.size+1,0,none⟩)):=HI.o.rest 3 (by decide);obtain ⟨pq,w9⟩:=au (K1.o.below HI.o.world) rfl rfl;obtain ⟨ol,wu⟩:=au (K2.o.below HI.o.world) rfl rfl;have dKT0:=(KT.o.below HI.o.world).cell (i:=0) rfl;have X0:RV _ u6 a 0 37 (.agg #[.string xa,.string xb]):=HI.o.rh;have X1:RV _ u6 a 1 38 (.int .i64 (-1)):=HI.o.rh;have X3:RV _ u6 a 3 40 (.agg #[.string yc,.string yd]):=HI.o.rh;have X4:RV _ u6 a 4 41 (.int .i64 (-1)):=HI.o.rh;have X2:RV _ u6 a 2 39 (.int .i64 0):=HI.o.rh;have X6:RV _ u6 a 6 43 (.pointer (some ⟨0,0,none⟩)):=HI.o.rh;have X5:RV _ u6 a 5 42 (.int .i64 0):=HI.o.rh;have X7:RV _ u6 a 7 44 (.pointer (some ⟨0,0,none⟩)):=HI.o.rh;have X8:RV _ u6 a 8 45 (.int .i64 (-1)):=HI.o.rh
     match i,him,Hr with
     | 0,_,Hi =>
       refine aj rfl fun K' hK=>?_;go_simp;exact hK.o _ _ ⟨HI.o.pv Hi.o rfl,trivial⟩
     | 1,_,Hi =>
       have x0:=X0.g Hi.o (by kernel_rfl);refine aj rfl fun K' hK=>?_;go_simp;with_reducible refine(C7.o _ (wo.o.trans (HI.o.world.mono wo.o.size))).mono ?_
       rintro e W' ⟨rfl,hb⟩;exact hK.o _ _ ⟨HI.o.pc Hi.o hb rfl,trivial⟩
     | 2,_,Hi =>
       have x1:=X1.g Hi.o (by kernel_rfl);refine aj rfl fun K' hK=>?_;go_simp;exact hK.o _ _ ⟨HI.o.pv Hi.o rfl,trivial⟩
     | 3,_,Hi =>
       refine aj rfl fun K' hK=>?_;go_simp;exact hK.o _ _ ⟨HI.o.pv Hi.o rfl,trivial⟩
     | 4,_,Hi =>
       have x3:=X3.g Hi.o (by kernel_rfl);refine aj rfl fun K' hK=>?_;go_simp;with_reducible refine(C8.o _ (wo.o.trans (HI.o.world.mono wo.o.size))).mono ?_
       rintro e W' ⟨rfl,hb⟩;exact hK.o _ _ ⟨HI.o.pc Hi.o hb rfl,trivial⟩
     | 5,_,Hi =>
       have x4:=X4.g Hi.o (by kernel_rfl);refine aj rfl fun K' hK=>?_;go_simp;exact hK.o _ _ ⟨HI.o.pv Hi.o rfl,trivial⟩
     | 6,_,Hi =>
       have x2:=X2.g Hi.o (by kernel_rfl);refine aj rfl fun K' hK=>?_;go_simp;exact hK.o _ _ ⟨HI.o.pv Hi.o rfl,trivial⟩
     | 7,_,Hi =>
       have x6:=X6.g Hi.o (by kernel_rfl);have x5:=X5.g Hi.o (by kernel_rfl);refine aj rfl fun K' hK=>?_;go_simp;exact hK.o _ _ ⟨HI.o.pv Hi.o rfl,trivial⟩
     | 8,_,Hi =>
       have x7:=X7.g Hi.o (by kernel_rfl);refine aj rfl fun K' hK=>?_;go_simp;exact hK.o _ _ ⟨HI.o.pv Hi.o rfl,trivial⟩
     | 9,_,Hi =>
       have x8:=X8.g Hi.o (by kernel_rfl);refine aj rfl fun K' hK=>?_;go_simp;exact hK.o _ _ ⟨HI.o.pv Hi.o rfl,trivial⟩
     | n+10,h,_=>exact absurd h (by omega)
   · intro u6 a W hI hD lg
     obtain ⟨kw,HI,HA⟩:=ae hI.world hI lg;clear hI lg;have kz:=hid (wo.o.trans (kw.o.mono wo.o.size));refine aT ?_;exact⟨rfl,(HI.o.finx ⟨HI.o.sx HA.o 0,HI.o.sx HA.o 1,HI.o.sx HA.o 2,HI.o.sx HA.o 3,HI.o.sx HA.o 4,HI.o.sx HA.o 5,HI.o.sx HA.o 6,HI.o.sx HA.o 7,HI.o.sx HA.o 8,HI.o.sx HA.o 9,trivial⟩ rfl),kz.o⟩
 rintro a' W8 ⟨rfl,z0⟩;have kM:=hid z0;clear z0;simp only[putL,List.setIfInBounds_toArray,List.set_cons_zero,List.set_cons_succ];go_wp2;exact bodyPost_ret (v:=.tuple #[.int .i64 (-1),.int .i64 0]) (by simp[results,results16,go_sem]) rfl ⟨rfl,kM.o⟩
theorem z3K (xa xb yc yd:ByteArray)(sb sd:Int)(w₀:World)(h1:CV w₀ 35 #[.string xa] (.bool true))(h2:CV w₀ 35 #[.string xb] (.bool true))(h3:CV w₀ 35 #[.string yc] (.bool true))(h4:CV w₀ 35 #[.string yd] (.bool true))(h5:CV w₀ 27 #[.string xb] (.int .i64 sb))(h6:CV w₀ 27 #[.string yd] (.int .i64 sd))(h7:CV w₀ 38 #[.agg #[.string xa,.string xb]] (.int .i64 (-1)))(h8:CV w₀ 38 #[.agg #[.string yc,.string yd]] (.int .i64 0))(f1:decide (sb<0)=false)(f2:decide (sd<0)=false)(kKT:Stb w₀ 0 #[.int .i64 (-1),.int .i64 (-1),.int .i64 2,.int .i64 (-1),.int .i64 0,.int .i64 1,.int .i64 2,.int .i64 1,.int .i64 1] 71) :
 CV w₀ 16 #[.agg #[.string xa,.string xb],.agg #[.string yc,.string yd]] (.tuple #[.int .i64 (-1),.int .i64 0]):=by
 intro w hw;obtain ⟨C1,C2,C3,C4,C5,C6,C7,C8⟩:=eO (h1.mono hw) (h2.mono hw) (h3.mono hw) (h4.mono hw) (h5.mono hw) (h6.mono hw) (h7.mono hw) (h8.mono hw);have g1:=f1;have g2:=f2;clear f1 f2;have KT:=hid (kKT.below hw);clear h1 h2 h3 h4 h5 h6 h7 h8 kKT hw;go_enter func16,ntmps16
 go_upto_region 1 with fail
 refine aA w [(#[.string xa,.string xb],43),(#[.string yc,.string yd],43)] rfl ?_;rintro W0 ⟨k1,k2,hb⟩;have rV:=hid (show Below w.heap.size w W0 from hb);obtain ⟨KT,K1,K2⟩:=ae (KT.o.below rV.o) k1 k2;clear k1 k2 hb;obtain ⟨pq,w9⟩:=au K1.o rfl rfl;obtain ⟨ol,wu⟩:=au K2.o rfl rfl;go_wp2;have hb:=bQ W0 (.cells #[.string xa,.string xb,.string yc,.string yd] 22);have k3:=SBk.new W0 #[.string xa,.string xb,.string yc,.string yd] 22;generalize W0.alloc (.cells #[.string xa,.string xb,.string yc,.string yd] 22)=W1 at *;obtain ⟨K1,K2⟩:=ax hb K1 K2;have KT:=Lib.hid (KT.o.below hb);have ww:=hbt rV hb;have K3:=hid k3;clear k3 hb pq w9 ol wu;refine wp_loop_rounds 5 ?_;rw[rounds_succ];have nk:=K3.o.cell (i:=0) rfl;go_wp2_with fail
 with_reducible refine(C1.o _ ww.o).mono ?_
 rintro e W2 ⟨rfl,hb⟩;clear nk;obtain ⟨K1,K2,K3⟩:=aI hb K1 K2 K3;have KT:=Lib.hid (KT.o.below hb);have sw:=hbt ww hb;clear hb;go_wp2;rw[rounds_succ];have mi:=K3.o.cell (i:=1) rfl;go_wp2_with fail
 with_reducible refine(C2.o _ sw.o).mono ?_
 rintro e W3 ⟨rfl,hb⟩;clear mi;obtain ⟨K1,K2,K3⟩:=aI hb K1 K2 K3;have KT:=Lib.hid (KT.o.below hb);have rM:=hbt sw hb;clear hb;go_wp2;rw[rounds_succ];have l5:=K3.o.cell (i:=2) rfl;go_wp2_with fail
 with_reducible refine(C3.o _ rM.o).mono ?_
 rintro e W4 ⟨rfl,hb⟩;clear l5;obtain ⟨K1,K2,K3⟩:=aI hb K1 K2 K3;have KT:=Lib.hid (KT.o.below hb);have oM:=hbt rM hb;clear hb;go_wp2;rw[rounds_succ];have lv:=K3.o.cell (i:=3) rfl;go_wp2_with fail
 with_reducible refine(C4.o _ oM.o).mono ?_
 rintro e W5 ⟨rfl,hb⟩;clear lv;obtain ⟨K1,K2⟩:=ax hb K1 K2;have KT:=Lib.hid (KT.o.below hb);have oV:=hbt oM hb;clear hb;go_wp2;rw[rounds_succ];have w9:=K1.o.cell (i:=1) rfl;go_wp2_with fail
 with_reducible refine(C5.o _ oV.o).mono ?_
 rintro e W6 ⟨rfl,hb⟩;clear w9;obtain ⟨K1,K2⟩:=ax hb K1 K2;have KT:=Lib.hid (KT.o.below hb);have mf:=hbt oV hb;clear hb;have wu:=K2.o.cell (i:=1) rfl;go_wp2_with fail
 with_reducible refine(C6.o _ mf.o).mono ?_
 rintro e W7 ⟨rfl,hb⟩;clear wu;obtain ⟨K1,K2⟩:=ax hb K1 K2;have KT:=Lib.hid (KT.o.below hb);have wo:=hbt mf hb;clear hb;go_wp2_with fail
 refine az (fun a0 a' V=>a'=⟨putL [(37,.agg #[.string xa,.string xb]),(38,.int .i64 (-1)),(39,.int .i64 0),(40,.agg #[.string yc,.string yd]),(41,.int .i64 0),(42,.int .i64 1),(43,.pointer (some ⟨0,0,none⟩)),(44,.pointer (some ⟨0,1,none⟩)),(45,.int .i64 (-1)),(8,.int .i64 (-1))] a0.tmps,a0.defers⟩∧Below w.heap.size w V) ?_ ?_
 · refine aC (by kernel_rfl) 10 0 (fun i=>[37,38,39,40,41,42,43,44,45,8].getD i 0) (RelR [Rel.val (.agg #[.string xa,.string xb]),Rel.val (.int .i64 (-1)),Rel.val (.int .i64 0),Rel.val (.agg #[.string yc,.string yd]),Rel.val (.int .i64 0),Rel.val (.int .i64 1),Rel.val (.pointer (some ⟨0,0,none⟩)),Rel.val (.pointer (some ⟨0,1,none⟩)),Rel.val (.int .i64 (-1)),Rel.val (.int .i64 (-1))]) (fun W=>Below W7.heap.size W7 W) (fun _ _=>True) (by kernel_rfl) (by kernel_rfl) (by kernel_rfl) trivial (Below.refl _ _).drew ?_ ?_
   · intro u6 a W i hI hD hrd him
     obtain ⟨HI,HD,Hr⟩:=ae hI hD hrd;clear hI hrd hD;have y2:a.tmps[2]? = some (.pointer (some ⟨w.heap.size,0,none⟩)):=HI.o.rest 2 (by decide);have y3:a.tmps[3]? = some (.pointer (some ⟨w.heap.size+1,0,none⟩)):=HI.o.rest 3 (by decide);obtain ⟨pq,w9⟩:=au (K1.o.below HI.o.world) rfl rfl;obtain ⟨ol,wu⟩:=au (K2.o.below HI.o.world) rfl rfl;have dKT1:=(KT.o.below HI.o.world).cell (i:=1) rfl;have X0:RV _ u6 a 0 37 (.agg #[.string xa,.string xb]):=HI.o.rh;have X1:RV _ u6 a 1 38 (.int .i64 (-1)):=HI.o.rh;have X3:RV _ u6 a 3 40 (.agg #[.string yc,.string yd]):=HI.o.rh;have X4:RV _ u6 a 4 41 (.int .i64 0):=HI.o.rh;have X2:RV _ u6 a 2 39 (.int .i64 0):=HI.o.rh;have X6:RV _ u6 a 6 43 (.pointer (some ⟨0,0,none⟩)):=HI.o.rh;have X5:RV _ u6 a 5 42 (.int .i64 1):=HI.o.rh;have X7:RV _ u6 a 7 44 (.pointer (some ⟨0,1,none⟩)):=HI.o.rh;have X8:RV _ u6 a 8 45 (.int .i64 (-1)):=HI.o.rh
     match i,him,Hr with
     | 0,_,Hi =>
       refine aj rfl fun K' hK=>?_;go_simp;exact hK.o _ _ ⟨HI.o.pv Hi.o rfl,trivial⟩
     | 1,_,Hi =>
       have x0:=X0.g Hi.o (by kernel_rfl);refine aj rfl fun K' hK=>?_;go_simp;with_reducible refine(C7.o _ (wo.o.trans (HI.o.world.mono wo.o.size))).mono ?_
       rintro e W' ⟨rfl,hb⟩;exact hK.o _ _ ⟨HI.o.pc Hi.o hb rfl,trivial⟩
     | 2,_,Hi =>
       have x1:=X1.g Hi.o (by kernel_rfl);refine aj rfl fun K' hK=>?_;go_simp;exact hK.o _ _ ⟨HI.o.pv Hi.o rfl,trivial⟩
     | 3,_,Hi =>
       refine aj rfl fun K' hK=>?_;go_simp;exact hK.o _ _ ⟨HI.o.pv Hi.o rfl,trivial⟩
     | 4,_,Hi =>
       have x3:=X3.g Hi.o (by kernel_rfl);refine aj rfl fun K' hK=>?_;go_simp;with_reducible refine(C8.o _ (wo.o.trans (HI.o.world.mono wo.o.size))).mono ?_
       rintro e W' ⟨rfl,hb⟩;exact hK.o _ _ ⟨HI.o.pc Hi.o hb rfl,trivial⟩
     | 5,_,Hi =>
       have x4:=X4.g Hi.o (by kernel_rfl);refine aj rfl fun K' hK=>?_;go_simp;exact hK.o _ _ ⟨HI.o.pv Hi.o rfl,trivial⟩
     | 6,_,Hi =>
       have x2:=X2.g Hi.o (by kernel_rfl);refine aj rfl fun K' hK=>?_;go_simp;exact hK.o _ _ ⟨HI.o.pv Hi.o rfl,trivial⟩
     | 7,_,Hi =>
       have x6:=X6.g Hi.o (by kernel_rfl);have x5:=X5.g Hi.o (by kernel_rfl);refine aj rfl fun K' hK=>?_;go_simp;exact hK.o _ _ ⟨HI.o.pv Hi.o rfl,trivial⟩
     | 8,_,Hi =>
       have x7:=X7.g Hi.o (by kernel_rfl);refine aj rfl fun K' hK=>?_;go_simp;exact hK.o _ _ ⟨HI.o.pv Hi.o rfl,trivial⟩
     | 9,_,Hi =>
       have x8:=X8.g Hi.o (by kernel_rfl);refine aj rfl fun K' hK=>?_;go_simp;exact hK.o _ _ ⟨HI.o.pv Hi.o rfl,trivial⟩
     | n+10,h,_=>exact absurd h (by omega)
   · intro u6 a W hI hD lg
     obtain ⟨kw,HI,HA⟩:=ae hI.world hI lg;clear hI lg;have kz:=hid (wo.o.trans (kw.o.mono wo.o.size));refine aT ?_;exact⟨rfl,(HI.o.finx ⟨HI.o.sx HA.o 0,HI.o.sx HA.o 1,HI.o.sx HA.o 2,HI.o.sx HA.o 3,HI.o.sx HA.o 4,HI.o.sx HA.o 5,HI.o.sx HA.o 6,HI.o.sx HA.o 7,HI.o.sx HA.o 8,HI.o.sx HA.o 9,trivial⟩ rfl),kz.o⟩
 rintro a' W8 ⟨rfl,z0⟩;have kM:=hid z0;clear z0;simp only[putL,List.setIfInBounds_toArray,List.set_cons_zero,List.set_cons_succ];go_wp2;exact bodyPost_ret (v:=.tuple #[.int .i64 (-1),.int .i64 0]) (by simp[results,results16,go_sem]) rfl ⟨rfl,kM.o⟩
theorem z3H (xa xb yc yd:ByteArray)(sb sd:Int)(w₀:World)(h1:CV w₀ 35 #[.string xa] (.bool true))(h2:CV w₀ 35 #[.string xb] (.bool true))(h3:CV w₀ 35 #[.string yc] (.bool true))(h4:CV w₀ 35 #[.string yd] (.bool true))(h5:CV w₀ 27 #[.string xb] (.int .i64 sb))(h6:CV w₀ 27 #[.string yd] (.int .i64 sd))(h7:CV w₀ 38 #[.agg #[.string xa,.string xb]] (.int .i64 0))(h8:CV w₀ 38 #[.agg #[.string yc,.string yd]] (.int .i64 (-1)))(f1:decide (sb<0)=false)(f2:decide (sd<0)=false)(kKT:Stb w₀ 0 #[.int .i64 (-1),.int .i64 (-1),.int .i64 2,.int .i64 (-1),.int .i64 0,.int .i64 1,.int .i64 2,.int .i64 1,.int .i64 1] 71) :
 CV w₀ 16 #[.agg #[.string xa,.string xb],.agg #[.string yc,.string yd]] (.tuple #[.int .i64 (-1),.int .i64 0]):=by
 intro w hw;obtain ⟨C1,C2,C3,C4,C5,C6,C7,C8⟩:=eO (h1.mono hw) (h2.mono hw) (h3.mono hw) (h4.mono hw) (h5.mono hw) (h6.mono hw) (h7.mono hw) (h8.mono hw);have g1:=f1;have g2:=f2;clear f1 f2;have KT:=hid (kKT.below hw);clear h1 h2 h3 h4 h5 h6 h7 h8 kKT hw;go_enter func16,ntmps16
 go_upto_region 1 with fail
 refine aA w [(#[.string xa,.string xb],43),(#[.string yc,.string yd],43)] rfl ?_;rintro W0 ⟨k1,k2,hb⟩;have rV:=hid (show Below w.heap.size w W0 from hb);obtain ⟨KT,K1,K2⟩:=ae (KT.o.below rV.o) k1 k2;clear k1 k2 hb;obtain ⟨pq,w9⟩:=au K1.o rfl rfl;obtain ⟨ol,wu⟩:=au K2.o rfl rfl;go_wp2;have hb:=bQ W0 (.cells #[.string xa,.string xb,.string yc,.string yd] 22);have k3:=SBk.new W0 #[.string xa,.string xb,.string yc,.string yd] 22;generalize W0.alloc (.cells #[.string xa,.string xb,.string yc,.string yd] 22)=W1 at *;obtain ⟨K1,K2⟩:=ax hb K1 K2;have KT:=Lib.hid (KT.o.below hb);have ww:=hbt rV hb;have K3:=hid k3;clear k3 hb pq w9 ol wu;refine wp_loop_rounds 5 ?_;rw[rounds_succ];have nk:=K3.o.cell (i:=0) rfl;go_wp2_with fail
 with_reducible refine(C1.o _ ww.o).mono ?_
 rintro e W2 ⟨rfl,hb⟩;clear nk;obtain ⟨K1,K2,K3⟩:=aI hb K1 K2 K3;have KT:=Lib.hid (KT.o.below hb);have sw:=hbt ww hb;clear hb;go_wp2;rw[rounds_succ];have mi:=K3.o.cell (i:=1) rfl;go_wp2_with fail
 with_reducible refine(C2.o _ sw.o).mono ?_
 rintro e W3 ⟨rfl,hb⟩;clear mi;obtain ⟨K1,K2,K3⟩:=aI hb K1 K2 K3;have KT:=Lib.hid (KT.o.below hb);have rM:=hbt sw hb;clear hb;go_wp2;rw[rounds_succ];have l5:=K3.o.cell (i:=2) rfl;go_wp2_with fail
 with_reducible refine(C3.o _ rM.o).mono ?_
 rintro e W4 ⟨rfl,hb⟩;clear l5;obtain ⟨K1,K2,K3⟩:=aI hb K1 K2 K3;have KT:=Lib.hid (KT.o.below hb);have oM:=hbt rM hb;clear hb;go_wp2;rw[rounds_succ];have lv:=K3.o.cell (i:=3) rfl;go_wp2_with fail
 with_reducible refine(C4.o _ oM.o).mono ?_
 rintro e W5 ⟨rfl,hb⟩;clear lv;obtain ⟨K1,K2⟩:=ax hb K1 K2;have KT:=Lib.hid (KT.o.below hb);have oV:=hbt oM hb;clear hb;go_wp2;rw[rounds_succ];have w9:=K1.o.cell (i:=1) rfl;go_wp2_with fail
 with_reducible refine(C5.o _ oV.o).mono ?_
 rintro e W6 ⟨rfl,hb⟩;clear w9;obtain ⟨K1,K2⟩:=ax hb K1 K2;have KT:=Lib.hid (KT.o.below hb);have mf:=hbt oV hb;clear hb;have wu:=K2.o.cell (i:=1) rfl;go_wp2_with fail
 with_reducible refine(C6.o _ mf.o).mono ?_
 rintro e W7 ⟨rfl,hb⟩;clear wu;obtain ⟨K1,K2⟩:=ax hb K1 K2;have KT:=Lib.hid (KT.o.below hb);have wo:=hbt mf hb;clear hb;go_wp2_with fail
 refine az (fun a0 a' V=>a'=⟨putL [(37,.agg #[.string xa,.string xb]),(38,.int .i64 0),(39,.int .i64 1),(40,.agg #[.string yc,.string yd]),(41,.int .i64 (-1)),(42,.int .i64 0),(43,.pointer (some ⟨0,3,none⟩)),(44,.pointer (some ⟨0,3,none⟩)),(45,.int .i64 (-1)),(8,.int .i64 (-1))] a0.tmps,a0.defers⟩∧Below w.heap.size w V) ?_ ?_
 · refine aC (by kernel_rfl) 10 0 (fun i=>[37,38,39,40,41,42,43,44,45,8].getD i 0) (RelR [Rel.val (.agg #[.string xa,.string xb]),Rel.val (.int .i64 0),Rel.val (.int .i64 1),Rel.val (.agg #[.string yc,.string yd]),Rel.val (.int .i64 (-1)),Rel.val (.int .i64 0),Rel.val (.pointer (some ⟨0,3,none⟩)),Rel.val (.pointer (some ⟨0,3,none⟩)),Rel.val (.int .i64 (-1)),Rel.val (.int .i64 (-1))]) (fun W=>Below W7.heap.size W7 W) (fun _ _=>True) (by kernel_rfl) (by kernel_rfl) (by kernel_rfl) trivial (Below.refl _ _).drew ?_ ?_
   · intro u6 a W i hI hD hrd him
     obtain ⟨HI,HD,Hr⟩:=ae hI hD hrd;clear hI hrd hD;have y2:a.tmps[2]? = some (.pointer (some ⟨w.heap.size,0,none⟩)):=HI.o.rest 2 (by decide);have y3:a.tmps[3]? = some (.pointer (some ⟨w.heap.size+1,0,none⟩)):=HI.o.rest 3 (by decide);obtain ⟨pq,w9⟩:=au (K1.o.below HI.o.world) rfl rfl;obtain ⟨ol,wu⟩:=au (K2.o.below HI.o.world) rfl rfl;have dKT3:=(KT.o.below HI.o.world).cell (i:=3) rfl;have X0:RV _ u6 a 0 37 (.agg #[.string xa,.string xb]):=HI.o.rh;have X1:RV _ u6 a 1 38 (.int .i64 0):=HI.o.rh;have X3:RV _ u6 a 3 40 (.agg #[.string yc,.string yd]):=HI.o.rh;have X4:RV _ u6 a 4 41 (.int .i64 (-1)):=HI.o.rh;have X2:RV _ u6 a 2 39 (.int .i64 1):=HI.o.rh;have X6:RV _ u6 a 6 43 (.pointer (some ⟨0,3,none⟩)):=HI.o.rh;have X5:RV _ u6 a 5 42 (.int .i64 0):=HI.o.rh;have X7:RV _ u6 a 7 44 (.pointer (some ⟨0,3,none⟩)):=HI.o.rh;have X8:RV _ u6 a 8 45 (.int .i64 (-1)):=HI.o.rh
     match i,him,Hr with
     | 0,_,Hi =>
       refine aj rfl fun K' hK=>?_;go_simp;exact hK.o _ _ ⟨HI.o.pv Hi.o rfl,trivial⟩
     | 1,_,Hi =>
       have x0:=X0.g Hi.o (by kernel_rfl);refine aj rfl fun K' hK=>?_;go_simp;with_reducible refine(C7.o _ (wo.o.trans (HI.o.world.mono wo.o.size))).mono ?_
       rintro e W' ⟨rfl,hb⟩;exact hK.o _ _ ⟨HI.o.pc Hi.o hb rfl,trivial⟩
     | 2,_,Hi =>
       have x1:=X1.g Hi.o (by kernel_rfl);refine aj rfl fun K' hK=>?_;go_simp;exact hK.o _ _ ⟨HI.o.pv Hi.o rfl,trivial⟩
     | 3,_,Hi =>
       refine aj rfl fun K' hK=>?_;go_simp;exact hK.o _ _ ⟨HI.o.pv Hi.o rfl,trivial⟩
     | 4,_,Hi =>
       have x3:=X3.g Hi.o (by kernel_rfl);refine aj rfl fun K' hK=>?_;go_simp;with_reducible refine(C8.o _ (wo.o.trans (HI.o.world.mono wo.o.size))).mono ?_
       rintro e W' ⟨rfl,hb⟩;exact hK.o _ _ ⟨HI.o.pc Hi.o hb rfl,trivial⟩
     | 5,_,Hi =>
       have x4:=X4.g Hi.o (by kernel_rfl);refine aj rfl fun K' hK=>?_;go_simp;exact hK.o _ _ ⟨HI.o.pv Hi.o rfl,trivial⟩
     | 6,_,Hi =>
       have x2:=X2.g Hi.o (by kernel_rfl);refine aj rfl fun K' hK=>?_;go_simp;exact hK.o _ _ ⟨HI.o.pv Hi.o rfl,trivial⟩
     | 7,_,Hi =>
       have x6:=X6.g Hi.o (by kernel_rfl);have x5:=X5.g Hi.o (by kernel_rfl);refine aj rfl fun K' hK=>?_;go_simp;exact hK.o _ _ ⟨HI.o.pv Hi.o rfl,trivial⟩
     | 8,_,Hi =>
       have x7:=X7.g Hi.o (by kernel_rfl);refine aj rfl fun K' hK=>?_;go_simp;exact hK.o _ _ ⟨HI.o.pv Hi.o rfl,trivial⟩
     | 9,_,Hi =>
       have x8:=X8.g Hi.o (by kernel_rfl);refine aj rfl fun K' hK=>?_;go_simp;exact hK.o _ _ ⟨HI.o.pv Hi.o rfl,trivial⟩
     | n+10,h,_=>exact absurd h (by omega)
   · intro u6 a W hI hD lg
     obtain ⟨kw,HI,HA⟩:=ae hI.world hI lg;clear hI lg;have kz:=hid (wo.o.trans (kw.o.mono wo.o.size));refine aT ?_;exact⟨rfl,(HI.o.finx ⟨HI.o.sx HA.o 0,HI.o.sx HA.o 1,HI.o.sx HA.o 2,HI.o.sx HA.o 3,HI.o.sx HA.o 4,HI.o.sx HA.o 5,HI.o.sx HA.o 6,HI.o.sx HA.o 7,HI.o.sx HA.o 8,HI.o.sx HA.o 9,trivial⟩ rfl),kz.o⟩
 rintro a' W8 ⟨rfl,z0⟩;have kM:=hid z0;clear z0;simp only[putL,List.setIfInBounds_toArray,List.set_cons_zero,List.set_cons_succ];go_wp2;exact bodyPost_ret (v:=.tuple #[.int .i64 (-1),.int .i64 0]) (by simp[results,results16,go_sem]) rfl ⟨rfl,kM.o⟩
theorem z3F (xa xb yc yd:ByteArray)(sb sd:Int)(w₀:World)(h1:CV w₀ 35 #[.string xa] (.bool true))(h2:CV w₀ 35 #[.string xb] (.bool true))(h3:CV w₀ 35 #[.string yc] (.bool true))(h4:CV w₀ 35 #[.string yd] (.bool true))(h5:CV w₀ 27 #[.string xb] (.int .i64 sb))(h6:CV w₀ 27 #[.string yd] (.int .i64 sd))(h7:CV w₀ 38 #[.agg #[.string xa,.string xb]] (.int .i64 0))(h8:CV w₀ 38 #[.agg #[.string yc,.string yd]] (.int .i64 0))(f1:decide (sb<0)=false)(f2:decide (sd<0)=false)(kKT:Stb w₀ 0 #[.int .i64 (-1),.int .i64 (-1),.int .i64 2,.int .i64 (-1),.int .i64 0,.int .i64 1,.int .i64 2,.int .i64 1,.int .i64 1] 71) :
 CV w₀ 16 #[.agg #[.string xa,.string xb],.agg #[.string yc,.string yd]] (.tuple #[.int .i64 0,.int .i64 0]):=by
 intro w hw;obtain ⟨C1,C2,C3,C4,C5,C6,C7,C8⟩:=eO (h1.mono hw) (h2.mono hw) (h3.mono hw) (h4.mono hw) (h5.mono hw) (h6.mono hw) (h7.mono hw) (h8.mono hw);have g1:=f1;have g2:=f2;clear f1 f2;have KT:=hid (kKT.below hw);clear h1 h2 h3 h4 h5 h6 h7 h8 kKT hw;go_enter func16,ntmps16
 go_upto_region 1 with fail
 refine aA w [(#[.string xa,.string xb],43),(#[.string yc,.string yd],43)] rfl ?_;rintro W0 ⟨k1,k2,hb⟩;have rV:=hid (show Below w.heap.size w W0 from hb);obtain ⟨KT,K1,K2⟩:=ae (KT.o.below rV.o) k1 k2;clear k1 k2 hb;obtain ⟨pq,w9⟩:=au K1.o rfl rfl;obtain ⟨ol,wu⟩:=au K2.o rfl rfl;go_wp2;have hb:=bQ W0 (.cells #[.string xa,.string xb,.string yc,.string yd] 22);have k3:=SBk.new W0 #[.string xa,.string xb,.string yc,.string yd] 22;generalize W0.alloc (.cells #[.string xa,.string xb,.string yc,.string yd] 22)=W1 at *;obtain ⟨K1,K2⟩:=ax hb K1 K2;have KT:=Lib.hid (KT.o.below hb);have ww:=hbt rV hb;have K3:=hid k3;clear k3 hb pq w9 ol wu;refine wp_loop_rounds 5 ?_;rw[rounds_succ];have nk:=K3.o.cell (i:=0) rfl;go_wp2_with fail
 with_reducible refine(C1.o _ ww.o).mono ?_
 rintro e W2 ⟨rfl,hb⟩;clear nk;obtain ⟨K1,K2,K3⟩:=aI hb K1 K2 K3;have KT:=Lib.hid (KT.o.below hb);have sw:=hbt ww hb;clear hb;go_wp2;rw[rounds_succ];have mi:=K3.o.cell (i:=1) rfl;go_wp2_with fail
 with_reducible refine(C2.o _ sw.o).mono ?_
 rintro e W3 ⟨rfl,hb⟩;clear mi;obtain ⟨K1,K2,K3⟩:=aI hb K1 K2 K3;have KT:=Lib.hid (KT.o.below hb);have rM:=hbt sw hb;clear hb;go_wp2;rw[rounds_succ];have l5:=K3.o.cell (i:=2) rfl;go_wp2_with fail
 with_reducible refine(C3.o _ rM.o).mono ?_
 rintro e W4 ⟨rfl,hb⟩;clear l5;obtain ⟨K1,K2,K3⟩:=aI hb K1 K2 K3;have KT:=Lib.hid (KT.o.below hb);have oM:=hbt rM hb;clear hb;go_wp2;rw[rounds_succ];have lv:=K3.o.cell (i:=3) rfl;go_wp2_with fail
 with_reducible refine(C4.o _ oM.o).mono ?_
 rintro e W5 ⟨rfl,hb⟩;clear lv;obtain ⟨K1,K2⟩:=ax hb K1 K2;have KT:=Lib.hid (KT.o.below hb);have oV:=hbt oM hb;clear hb;go_wp2;rw[rounds_succ];have w9:=K1.o.cell (i:=1) rfl;go_wp2_with fail
 with_reducible refine(C5.o _ oV.o).mono ?_
 rintro e W6 ⟨rfl,hb⟩;clear w9;obtain ⟨K1,K2⟩:=ax hb K1 K2;have KT:=Lib.hid (KT.o.below hb);have mf:=hbt oV hb;clear hb;have wu:=K2.o.cell (i:=1) rfl;go_wp2_with fail
 with_reducible refine(C6.o _ mf.o).mono ?_
 rintro e W7 ⟨rfl,hb⟩;clear wu;obtain ⟨K1,K2⟩:=ax hb K1 K2;have KT:=Lib.hid (KT.o.below hb);have wo:=hbt mf hb;clear hb;go_wp2_with fail
 refine az (fun a0 a' V=>a'=⟨putL [(37,.agg #[.string xa,.string xb]),(38,.int .i64 0),(39,.int .i64 1),(40,.agg #[.string yc,.string yd]),(41,.int .i64 0),(42,.int .i64 1),(43,.pointer (some ⟨0,3,none⟩)),(44,.pointer (some ⟨0,4,none⟩)),(45,.int .i64 0),(8,.int .i64 0)] a0.tmps,a0.defers⟩∧Below w.heap.size w V) ?_ ?_
 · refine aC (by kernel_rfl) 10 0 (fun i=>[37,38,39,40,41,42,43,44,45,8].getD i 0) (RelR [Rel.val (.agg #[.string xa,.string xb]),Rel.val (.int .i64 0),Rel.val (.int .i64 1),Rel.val (.agg #[.string yc,.string yd]),Rel.val (.int .i64 0),Rel.val (.int .i64 1),Rel.val (.pointer (some ⟨0,3,none⟩)),Rel.val (.pointer (some ⟨0,4,none⟩)),Rel.val (.int .i64 0),Rel.val (.int .i64 0)]) (fun W=>Below W7.heap.size W7 W) (fun _ _=>True) (by kernel_rfl) (by kernel_rfl) (by kernel_rfl) trivial (Below.refl _ _).drew ?_ ?_
   · intro u6 a W i hI hD hrd him
     obtain ⟨HI,HD,Hr⟩:=ae hI hD hrd;clear hI hrd hD;have y2:a.tmps[2]? = some (.pointer (some ⟨w.heap.size,0,none⟩)):=HI.o.rest 2 (by decide);have y3:a.tmps[3]? = some (.pointer (some ⟨w.heap.size+1,0,none⟩)):=HI.o.rest 3 (by decide);obtain ⟨pq,w9⟩:=au (K1.o.below HI.o.world) rfl rfl;obtain ⟨ol,wu⟩:=au (K2.o.below HI.o.world) rfl rfl;have dKT4:=(KT.o.below HI.o.world).cell (i:=4) rfl;have X0:RV _ u6 a 0 37 (.agg #[.string xa,.string xb]):=HI.o.rh;have X1:RV _ u6 a 1 38 (.int .i64 0):=HI.o.rh;have X3:RV _ u6 a 3 40 (.agg #[.string yc,.string yd]):=HI.o.rh;have X4:RV _ u6 a 4 41 (.int .i64 0):=HI.o.rh;have X2:RV _ u6 a 2 39 (.int .i64 1):=HI.o.rh;have X6:RV _ u6 a 6 43 (.pointer (some ⟨0,3,none⟩)):=HI.o.rh;have X5:RV _ u6 a 5 42 (.int .i64 1):=HI.o.rh;have X7:RV _ u6 a 7 44 (.pointer (some ⟨0,4,none⟩)):=HI.o.rh;have X8:RV _ u6 a 8 45 (.int .i64 0):=HI.o.rh
     match i,him,Hr with
     | 0,_,Hi =>
       refine aj rfl fun K' hK=>?_;go_simp;exact hK.o _ _ ⟨HI.o.pv Hi.o rfl,trivial⟩
     | 1,_,Hi =>
       have x0:=X0.g Hi.o (by kernel_rfl);refine aj rfl fun K' hK=>?_;go_simp;with_reducible refine(C7.o _ (wo.o.trans (HI.o.world.mono wo.o.size))).mono ?_
       rintro e W' ⟨rfl,hb⟩;exact hK.o _ _ ⟨HI.o.pc Hi.o hb rfl,trivial⟩
     | 2,_,Hi =>
       have x1:=X1.g Hi.o (by kernel_rfl);refine aj rfl fun K' hK=>?_;go_simp;exact hK.o _ _ ⟨HI.o.pv Hi.o rfl,trivial⟩
     | 3,_,Hi =>
       refine aj rfl fun K' hK=>?_;go_simp;exact hK.o _ _ ⟨HI.o.pv Hi.o rfl,trivial⟩
     | 4,_,Hi =>
       have x3:=X3.g Hi.o (by kernel_rfl);refine aj rfl fun K' hK=>?_;go_simp;with_reducible refine(C8.o _ (wo.o.trans (HI.o.world.mono wo.o.size))).mono ?_
       rintro e W' ⟨rfl,hb⟩;exact hK.o _ _ ⟨HI.o.pc Hi.o hb rfl,trivial⟩
     | 5,_,Hi =>
       have x4:=X4.g Hi.o (by kernel_rfl);refine aj rfl fun K' hK=>?_;go_simp;exact hK.o _ _ ⟨HI.o.pv Hi.o rfl,trivial⟩
     | 6,_,Hi =>
       have x2:=X2.g Hi.o (by kernel_rfl);refine aj rfl fun K' hK=>?_;go_simp;exact hK.o _ _ ⟨HI.o.pv Hi.o rfl,trivial⟩
     | 7,_,Hi =>
       have x6:=X6.g Hi.o (by kernel_rfl);have x5:=X5.g Hi.o (by kernel_rfl);refine aj rfl fun K' hK=>?_;go_simp;exact hK.o _ _ ⟨HI.o.pv Hi.o rfl,trivial⟩
     | 8,_,Hi =>
       have x7:=X7.g Hi.o (by kernel_rfl);refine aj rfl fun K' hK=>?_;go_simp;exact hK.o _ _ ⟨HI.o.pv Hi.o rfl,trivial⟩
     | 9,_,Hi =>
       have x8:=X8.g Hi.o (by kernel_rfl);refine aj rfl fun K' hK=>?_;go_simp;exact hK.o _ _ ⟨HI.o.pv Hi.o rfl,trivial⟩
     | n+10,h,_=>exact absurd h (by omega)
   · intro u6 a W hI hD lg
     obtain ⟨kw,HI,HA⟩:=ae hI.world hI lg;clear hI lg;have kz:=hid (wo.o.trans (kw.o.mono wo.o.size));refine aT ?_;exact⟨rfl,(HI.o.finx ⟨HI.o.sx HA.o 0,HI.o.sx HA.o 1,HI.o.sx HA.o 2,HI.o.sx HA.o 3,HI.o.sx HA.o 4,HI.o.sx HA.o 5,HI.o.sx HA.o 6,HI.o.sx HA.o 7,HI.o.sx HA.o 8,HI.o.sx HA.o 9,trivial⟩ rfl),kz.o⟩
 rintro a' W8 ⟨rfl,z0⟩;have kM:=hid z0;clear z0;simp only[putL,List.setIfInBounds_toArray,List.set_cons_zero,List.set_cons_succ];go_wp2;exact bodyPost_ret (v:=.tuple #[.int .i64 0,.int .i64 0]) (by simp[results,results16,go_sem]) rfl ⟨rfl,kM.o⟩
theorem z3G (xa xb yc yd:ByteArray)(sb sd:Int)(w₀:World)(h1:CV w₀ 35 #[.string xa] (.bool true))(h2:CV w₀ 35 #[.string xb] (.bool true))(h3:CV w₀ 35 #[.string yc] (.bool true))(h4:CV w₀ 35 #[.string yd] (.bool true))(h5:CV w₀ 27 #[.string xb] (.int .i64 sb))(h6:CV w₀ 27 #[.string yd] (.int .i64 sd))(h7:CV w₀ 38 #[.agg #[.string xa,.string xb]] (.int .i64 0))(h8:CV w₀ 38 #[.agg #[.string yc,.string yd]] (.int .i64 1))(f1:decide (sb<0)=false)(f2:decide (sd<0)=false)(kKT:Stb w₀ 0 #[.int .i64 (-1),.int .i64 (-1),.int .i64 2,.int .i64 (-1),.int .i64 0,.int .i64 1,.int .i64 2,.int .i64 1,.int .i64 1] 71) :
 CV w₀ 16 #[.agg #[.string xa,.string xb],.agg #[.string yc,.string yd]] (.tuple #[.int .i64 1,.int .i64 0]):=by
 intro w hw;obtain ⟨C1,C2,C3,C4,C5,C6,C7,C8⟩:=eO (h1.mono hw) (h2.mono hw) (h3.mono hw) (h4.mono hw) (h5.mono hw) (h6.mono hw) (h7.mono hw) (h8.mono hw);have g1:=f1;have g2:=f2;clear f1 f2;have KT:=hid (kKT.below hw);clear h1 h2 h3 h4 h5 h6 h7 h8 kKT hw;go_enter func16,ntmps16
 go_upto_region 1 with fail
 refine aA w [(#[.string xa,.string xb],43),(#[.string yc,.string yd],43)] rfl ?_;rintro W0 ⟨k1,k2,hb⟩;have rV:=hid (show Below w.heap.size w W0 from hb);obtain ⟨KT,K1,K2⟩:=ae (KT.o.below rV.o) k1 k2;clear k1 k2 hb;obtain ⟨pq,w9⟩:=au K1.o rfl rfl;obtain ⟨ol,wu⟩:=au K2.o rfl rfl;go_wp2;have hb:=bQ W0 (.cells #[.string xa,.string xb,.string yc,.string yd] 22);have k3:=SBk.new W0 #[.string xa,.string xb,.string yc,.string yd] 22;generalize W0.alloc (.cells #[.string xa,.string xb,.string yc,.string yd] 22)=W1 at *;obtain ⟨K1,K2⟩:=ax hb K1 K2;have KT:=Lib.hid (KT.o.below hb);have ww:=hbt rV hb;have K3:=hid k3;clear k3 hb pq w9 ol wu;refine wp_loop_rounds 5 ?_;rw[rounds_succ];have nk:=K3.o.cell (i:=0) rfl;go_wp2_with fail
 with_reducible refine(C1.o _ ww.o).mono ?_
 rintro e W2 ⟨rfl,hb⟩;clear nk;obtain ⟨K1,K2,K3⟩:=aI hb K1 K2 K3;have KT:=Lib.hid (KT.o.below hb);have sw:=hbt ww hb;clear hb;go_wp2;rw[rounds_succ];have mi:=K3.o.cell (i:=1) rfl;go_wp2_with fail
 with_reducible refine(C2.o _ sw.o).mono ?_
 rintro e W3 ⟨rfl,hb⟩;clear mi;obtain ⟨K1,K2,K3⟩:=aI hb K1 K2 K3;have KT:=Lib.hid (KT.o.below hb);have rM:=hbt sw hb;clear hb;go_wp2;rw[rounds_succ];have l5:=K3.o.cell (i:=2) rfl;go_wp2_with fail
 with_reducible refine(C3.o _ rM.o).mono ?_
 rintro e W4 ⟨rfl,hb⟩;clear l5;obtain ⟨K1,K2,K3⟩:=aI hb K1 K2 K3;have KT:=Lib.hid (KT.o.below hb);have oM:=hbt rM hb;clear hb;go_wp2;rw[rounds_succ];have lv:=K3.o.cell (i:=3) rfl;go_wp2_with fail
 with_reducible refine(C4.o _ oM.o).mono ?_
 rintro e W5 ⟨rfl,hb⟩;clear lv;obtain ⟨K1,K2⟩:=ax hb K1 K2;have KT:=Lib.hid (KT.o.below hb);have oV:=hbt oM hb;clear hb;go_wp2;rw[rounds_succ];have w9:=K1.o.cell (i:=1) rfl;go_wp2_with fail
 with_reducible refine(C5.o _ oV.o).mono ?_
 rintro e W6 ⟨rfl,hb⟩;clear w9;obtain ⟨K1,K2⟩:=ax hb K1 K2;have KT:=Lib.hid (KT.o.below hb);have mf:=hbt oV hb;clear hb;have wu:=K2.o.cell (i:=1) rfl;go_wp2_with fail
 with_reducible refine(C6.o _ mf.o).mono ?_
 rintro e W7 ⟨rfl,hb⟩;clear wu;obtain ⟨K1,K2⟩:=ax hb K1 K2;have KT:=Lib.hid (KT.o.below hb);have wo:=hbt mf hb;clear hb;go_wp2_with fail
 refine az (fun a0 a' V=>a'=⟨putL [(37,.agg #[.string xa,.string xb]),(38,.int .i64 0),(39,.int .i64 1),(40,.agg #[.string yc,.string yd]),(41,.int .i64 1),(42,.int .i64 2),(43,.pointer (some ⟨0,3,none⟩)),(44,.pointer (some ⟨0,5,none⟩)),(45,.int .i64 1),(8,.int .i64 1)] a0.tmps,a0.defers⟩∧Below w.heap.size w V) ?_ ?_
 · refine aC (by kernel_rfl) 10 0 (fun i=>[37,38,39,40,41,42,43,44,45,8].getD i 0) (RelR [Rel.val (.agg #[.string xa,.string xb]),Rel.val (.int .i64 0),Rel.val (.int .i64 1),Rel.val (.agg #[.string yc,.string yd]),Rel.val (.int .i64 1),Rel.val (.int .i64 2),Rel.val (.pointer (some ⟨0,3,none⟩)),Rel.val (.pointer (some ⟨0,5,none⟩)),Rel.val (.int .i64 1),Rel.val (.int .i64 1)]) (fun W=>Below W7.heap.size W7 W) (fun _ _=>True) (by kernel_rfl) (by kernel_rfl) (by kernel_rfl) trivial (Below.refl _ _).drew ?_ ?_
   · intro u6 a W i hI hD hrd him
     obtain ⟨HI,HD,Hr⟩:=ae hI hD hrd;clear hI hrd hD;have y2:a.tmps[2]? = some (.pointer (some ⟨w.heap.size,0,none⟩)):=HI.o.rest 2 (by decide);have y3:a.tmps[3]? = some (.pointer (some ⟨w.heap.size+1,0,none⟩)):=HI.o.rest 3 (by decide);obtain ⟨pq,w9⟩:=au (K1.o.below HI.o.world) rfl rfl;obtain ⟨ol,wu⟩:=au (K2.o.below HI.o.world) rfl rfl;have dKT5:=(KT.o.below HI.o.world).cell (i:=5) rfl;have X0:RV _ u6 a 0 37 (.agg #[.string xa,.string xb]):=HI.o.rh;have X1:RV _ u6 a 1 38 (.int .i64 0):=HI.o.rh;have X3:RV _ u6 a 3 40 (.agg #[.string yc,.string yd]):=HI.o.rh;have X4:RV _ u6 a 4 41 (.int .i64 1):=HI.o.rh;have X2:RV _ u6 a 2 39 (.int .i64 1):=HI.o.rh;have X6:RV _ u6 a 6 43 (.pointer (some ⟨0,3,none⟩)):=HI.o.rh;have X5:RV _ u6 a 5 42 (.int .i64 2):=HI.o.rh;have X7:RV _ u6 a 7 44 (.pointer (some ⟨0,5,none⟩)):=HI.o.rh;have X8:RV _ u6 a 8 45 (.int .i64 1):=HI.o.rh
     match i,him,Hr with
     | 0,_,Hi =>
       refine aj rfl fun K' hK=>?_;go_simp;exact hK.o _ _ ⟨HI.o.pv Hi.o rfl,trivial⟩
     | 1,_,Hi =>
       have x0:=X0.g Hi.o (by kernel_rfl);refine aj rfl fun K' hK=>?_;go_simp;with_reducible refine(C7.o _ (wo.o.trans (HI.o.world.mono wo.o.size))).mono ?_
       rintro e W' ⟨rfl,hb⟩;exact hK.o _ _ ⟨HI.o.pc Hi.o hb rfl,trivial⟩
     | 2,_,Hi =>
       have x1:=X1.g Hi.o (by kernel_rfl);refine aj rfl fun K' hK=>?_;go_simp;exact hK.o _ _ ⟨HI.o.pv Hi.o rfl,trivial⟩
     | 3,_,Hi =>
       refine aj rfl fun K' hK=>?_;go_simp;exact hK.o _ _ ⟨HI.o.pv Hi.o rfl,trivial⟩
     | 4,_,Hi =>
       have x3:=X3.g Hi.o (by kernel_rfl);refine aj rfl fun K' hK=>?_;go_simp;with_reducible refine(C8.o _ (wo.o.trans (HI.o.world.mono wo.o.size))).mono ?_
       rintro e W' ⟨rfl,hb⟩;exact hK.o _ _ ⟨HI.o.pc Hi.o hb rfl,trivial⟩
     | 5,_,Hi =>
       have x4:=X4.g Hi.o (by kernel_rfl);refine aj rfl fun K' hK=>?_;go_simp;exact hK.o _ _ ⟨HI.o.pv Hi.o rfl,trivial⟩
     | 6,_,Hi =>
       have x2:=X2.g Hi.o (by kernel_rfl);refine aj rfl fun K' hK=>?_;go_simp;exact hK.o _ _ ⟨HI.o.pv Hi.o rfl,trivial⟩
     | 7,_,Hi =>
       have x6:=X6.g Hi.o (by kernel_rfl);have x5:=X5.g Hi.o (by kernel_rfl);refine aj rfl fun K' hK=>?_;go_simp;exact hK.o _ _ ⟨HI.o.pv Hi.o rfl,trivial⟩
     | 8,_,Hi =>
       have x7:=X7.g Hi.o (by kernel_rfl);refine aj rfl fun K' hK=>?_;go_simp;exact hK.o _ _ ⟨HI.o.pv Hi.o rfl,trivial⟩
     | 9,_,Hi =>
       have x8:=X8.g Hi.o (by kernel_rfl);refine aj rfl fun K' hK=>?_;go_simp;exact hK.o _ _ ⟨HI.o.pv Hi.o rfl,trivial⟩
     | n+10,h,_=>exact absurd h (by omega)
   · intro u6 a W hI hD lg
     obtain ⟨kw,HI,HA⟩:=ae hI.world hI lg;clear hI lg;have kz:=hid (wo.o.trans (kw.o.mono wo.o.size));refine aT ?_;exact⟨rfl,(HI.o.finx ⟨HI.o.sx HA.o 0,HI.o.sx HA.o 1,HI.o.sx HA.o 2,HI.o.sx HA.o 3,HI.o.sx HA.o 4,HI.o.sx HA.o 5,HI.o.sx HA.o 6,HI.o.sx HA.o 7,HI.o.sx HA.o 8,HI.o.sx HA.o 9,trivial⟩ rfl),kz.o⟩
 rintro a' W8 ⟨rfl,z0⟩;have kM:=hid z0;clear z0;simp only[putL,List.setIfInBounds_toArray,List.set_cons_zero,List.set_cons_succ];go_wp2;exact bodyPost_ret (v:=.tuple #[.int .i64 1,.int .i64 0]) (by simp[results,results16,go_sem]) rfl ⟨rfl,kM.o⟩
theorem z3I (xa xb yc yd:ByteArray)(sb sd:Int)(w₀:World)(h1:CV w₀ 35 #[.string xa] (.bool true))(h2:CV w₀ 35 #[.string xb] (.bool true))(h3:CV w₀ 35 #[.string yc] (.bool true))(h4:CV w₀ 35 #[.string yd] (.bool true))(h5:CV w₀ 27 #[.string xb] (.int .i64 sb))(h6:CV w₀ 27 #[.string yd] (.int .i64 sd))(h7:CV w₀ 38 #[.agg #[.string xa,.string xb]] (.int .i64 1))(h8:CV w₀ 38 #[.agg #[.string yc,.string yd]] (.int .i64 0))(f1:decide (sb<0)=false)(f2:decide (sd<0)=false)(kKT:Stb w₀ 0 #[.int .i64 (-1),.int .i64 (-1),.int .i64 2,.int .i64 (-1),.int .i64 0,.int .i64 1,.int .i64 2,.int .i64 1,.int .i64 1] 71) :
 CV w₀ 16 #[.agg #[.string xa,.string xb],.agg #[.string yc,.string yd]] (.tuple #[.int .i64 1,.int .i64 0]):=by
 intro w hw;obtain ⟨C1,C2,C3,C4,C5,C6,C7,C8⟩:=eO (h1.mono hw) (h2.mono hw) (h3.mono hw) (h4.mono hw) (h5.mono hw) (h6.mono hw) (h7.mono hw) (h8.mono hw);have g1:=f1;have g2:=f2;clear f1 f2;have KT:=hid (kKT.below hw);clear h1 h2 h3 h4 h5 h6 h7 h8 kKT hw;go_enter func16,ntmps16
 go_upto_region 1 with fail
 refine aA w [(#[.string xa,.string xb],43),(#[.string yc,.string yd],43)] rfl ?_;rintro W0 ⟨k1,k2,hb⟩;have rV:=hid (show Below w.heap.size w W0 from hb);obtain ⟨KT,K1,K2⟩:=ae (KT.o.below rV.o) k1 k2;clear k1 k2 hb;obtain ⟨pq,w9⟩:=au K1.o rfl rfl;obtain ⟨ol,wu⟩:=au K2.o rfl rfl;go_wp2;have hb:=bQ W0 (.cells #[.string xa,.string xb,.string yc,.string yd] 22);have k3:=SBk.new W0 #[.string xa,.string xb,.string yc,.string yd] 22;generalize W0.alloc (.cells #[.string xa,.string xb,.string yc,.string yd] 22)=W1 at *;obtain ⟨K1,K2⟩:=ax hb K1 K2;have KT:=Lib.hid (KT.o.below hb);have ww:=hbt rV hb;have K3:=hid k3;clear k3 hb pq w9 ol wu;refine wp_loop_rounds 5 ?_;rw[rounds_succ];have nk:=K3.o.cell (i:=0) rfl;go_wp2_with fail
 with_reducible refine(C1.o _ ww.o).mono ?_
 rintro e W2 ⟨rfl,hb⟩;clear nk;obtain ⟨K1,K2,K3⟩:=aI hb K1 K2 K3;have KT:=Lib.hid (KT.o.below hb);have sw:=hbt ww hb;clear hb;go_wp2;rw[rounds_succ];have mi:=K3.o.cell (i:=1) rfl;go_wp2_with fail
 with_reducible refine(C2.o _ sw.o).mono ?_
 rintro e W3 ⟨rfl,hb⟩;clear mi;obtain ⟨K1,K2,K3⟩:=aI hb K1 K2 K3;have KT:=Lib.hid (KT.o.below hb);have rM:=hbt sw hb;clear hb;go_wp2;rw[rounds_succ];have l5:=K3.o.cell (i:=2) rfl;go_wp2_with fail
 with_reducible refine(C3.o _ rM.o).mono ?_
 rintro e W4 ⟨rfl,hb⟩;clear l5;obtain ⟨K1,K2,K3⟩:=aI hb K1 K2 K3;have KT:=Lib.hid (KT.o.below hb);have oM:=hbt rM hb;clear hb;go_wp2;rw[rounds_succ];have lv:=K3.o.cell (i:=3) rfl;go_wp2_with fail
 with_reducible refine(C4.o _ oM.o).mono ?_
 rintro e W5 ⟨rfl,hb⟩;clear lv;obtain ⟨K1,K2⟩:=ax hb K1 K2;have KT:=Lib.hid (KT.o.below hb);have oV:=hbt oM hb;clear hb;go_wp2;rw[rounds_succ];have w9:=K1.o.cell (i:=1) rfl;go_wp2_with fail
 with_reducible refine(C5.o _ oV.o).mono ?_
 rintro e W6 ⟨rfl,hb⟩;clear w9;obtain ⟨K1,K2⟩:=ax hb K1 K2;have KT:=Lib.hid (KT.o.below hb);have mf:=hbt oV hb;clear hb;have wu:=K2.o.cell (i:=1) rfl;go_wp2_with fail
 with_reducible refine(C6.o _ mf.o).mono ?_
 rintro e W7 ⟨rfl,hb⟩;clear wu;obtain ⟨K1,K2⟩:=ax hb K1 K2;have KT:=Lib.hid (KT.o.below hb);have wo:=hbt mf hb;clear hb;go_wp2_with fail
 refine az (fun a0 a' V=>a'=⟨putL [(37,.agg #[.string xa,.string xb]),(38,.int .i64 1),(39,.int .i64 2),(40,.agg #[.string yc,.string yd]),(41,.int .i64 0),(42,.int .i64 1),(43,.pointer (some ⟨0,6,none⟩)),(44,.pointer (some ⟨0,7,none⟩)),(45,.int .i64 1),(8,.int .i64 1)] a0.tmps,a0.defers⟩∧Below w.heap.size w V) ?_ ?_
 · refine aC (by kernel_rfl) 10 0 (fun i=>[37,38,39,40,41,42,43,44,45,8].getD i 0) (RelR [Rel.val (.agg #[.string xa,.string xb]),Rel.val (.int .i64 1),Rel.val (.int .i64 2),Rel.val (.agg #[.string yc,.string yd]),Rel.val (.int .i64 0),Rel.val (.int .i64 1),Rel.val (.pointer (some ⟨0,6,none⟩)),Rel.val (.pointer (some ⟨0,7,none⟩)),Rel.val (.int .i64 1),Rel.val (.int .i64 1)]) (fun W=>Below W7.heap.size W7 W) (fun _ _=>True) (by kernel_rfl) (by kernel_rfl) (by kernel_rfl) trivial (Below.refl _ _).drew ?_ ?_
   · intro u6 a W i hI hD hrd him
     obtain ⟨HI,HD,Hr⟩:=ae hI hD hrd;clear hI hrd hD;have y2:a.tmps[2]? = some (.pointer (some ⟨w.heap.size,0,none⟩)):=HI.o.rest 2 (by decide);have y3:a.tmps[3]? = some (.pointer (some ⟨w.heap.size+1,0,none⟩)):=HI.o.rest 3 (by decide);obtain ⟨pq,w9⟩:=au (K1.o.below HI.o.world) rfl rfl;obtain ⟨ol,wu⟩:=au (K2.o.below HI.o.world) rfl rfl;have dKT7:=(KT.o.below HI.o.world).cell (i:=7) rfl;have X0:RV _ u6 a 0 37 (.agg #[.string xa,.string xb]):=HI.o.rh;have X1:RV _ u6 a 1 38 (.int .i64 1):=HI.o.rh;have X3:RV _ u6 a 3 40 (.agg #[.string yc,.string yd]):=HI.o.rh;have X4:RV _ u6 a 4 41 (.int .i64 0):=HI.o.rh;have X2:RV _ u6 a 2 39 (.int .i64 2):=HI.o.rh;have X6:RV _ u6 a 6 43 (.pointer (some ⟨0,6,none⟩)):=HI.o.rh;have X5:RV _ u6 a 5 42 (.int .i64 1):=HI.o.rh;have X7:RV _ u6 a 7 44 (.pointer (some ⟨0,7,none⟩)):=HI.o.rh;have X8:RV _ u6 a 8 45 (.int .i64 1):=HI.o.rh
     match i,him,Hr with
     | 0,_,Hi =>
       refine aj rfl fun K' hK=>?_;go_simp;exact hK.o _ _ ⟨HI.o.pv Hi.o rfl,trivial⟩
     | 1,_,Hi =>
       have x0:=X0.g Hi.o (by kernel_rfl);refine aj rfl fun K' hK=>?_;go_simp;with_reducible refine(C7.o _ (wo.o.trans (HI.o.world.mono wo.o.size))).mono ?_
       rintro e W' ⟨rfl,hb⟩;exact hK.o _ _ ⟨HI.o.pc Hi.o hb rfl,trivial⟩
     | 2,_,Hi =>
       have x1:=X1.g Hi.o (by kernel_rfl);refine aj rfl fun K' hK=>?_;go_simp;exact hK.o _ _ ⟨HI.o.pv Hi.o rfl,trivial⟩
     | 3,_,Hi =>
       refine aj rfl fun K' hK=>?_;go_simp;exact hK.o _ _ ⟨HI.o.pv Hi.o rfl,trivial⟩
     | 4,_,Hi =>
       have x3:=X3.g Hi.o (by kernel_rfl);refine aj rfl fun K' hK=>?_;go_simp;with_reducible refine(C8.o _ (wo.o.trans (HI.o.world.mono wo.o.size))).mono ?_
       rintro e W' ⟨rfl,hb⟩;exact hK.o _ _ ⟨HI.o.pc Hi.o hb rfl,trivial⟩
     | 5,_,Hi =>
       have x4:=X4.g Hi.o (by kernel_rfl);refine aj rfl fun K' hK=>?_;go_simp;exact hK.o _ _ ⟨HI.o.pv Hi.o rfl,trivial⟩
     | 6,_,Hi =>
       have x2:=X2.g Hi.o (by kernel_rfl);refine aj rfl fun K' hK=>?_;go_simp;exact hK.o _ _ ⟨HI.o.pv Hi.o rfl,trivial⟩
     | 7,_,Hi =>
       have x6:=X6.g Hi.o (by kernel_rfl);have x5:=X5.g Hi.o (by kernel_rfl);refine aj rfl fun K' hK=>?_;go_simp;exact hK.o _ _ ⟨HI.o.pv Hi.o rfl,trivial⟩
     | 8,_,Hi =>
       have x7:=X7.g Hi.o (by kernel_rfl);refine aj rfl fun K' hK=>?_;go_simp;exact hK.o _ _ ⟨HI.o.pv Hi.o rfl,trivial⟩
     | 9,_,Hi =>
       have x8:=X8.g Hi.o (by kernel_rfl);refine aj rfl fun K' hK=>?_;go_simp;exact hK.o _ _ ⟨HI.o.pv Hi.o rfl,trivial⟩
     | n+10,h,_=>exact absurd h (by omega)
   · intro u6 a W hI hD lg
     obtain ⟨kw,HI,HA⟩:=ae hI.world hI lg;clear hI lg;have kz:=hid (wo.o.trans (kw.o.mono wo.o.size));refine aT ?_;exact⟨rfl,(HI.o.finx ⟨HI.o.sx HA.o 0,HI.o.sx HA.o 1,HI.o.sx HA.o 2,HI.o.sx HA.o 3,HI.o.sx HA.o 4,HI.o.sx HA.o 5,HI.o.sx HA.o 6,HI.o.sx HA.o 7,HI.o.sx HA.o 8,HI.o.sx HA.o 9,trivial⟩ rfl),kz.o⟩
 rintro a' W8 ⟨rfl,z0⟩;have kM:=hid z0;clear z0;simp only[putL,List.setIfInBounds_toArray,List.set_cons_zero,List.set_cons_succ];go_wp2;exact bodyPost_ret (v:=.tuple #[.int .i64 1,.int .i64 0]) (by simp[results,results16,go_sem]) rfl ⟨rfl,kM.o⟩
theorem z3J (xa xb yc yd:ByteArray)(sb sd:Int)(w₀:World)(h1:CV w₀ 35 #[.string xa] (.bool true))(h2:CV w₀ 35 #[.string xb] (.bool true))(h3:CV w₀ 35 #[.string yc] (.bool true))(h4:CV w₀ 35 #[.string yd] (.bool true))(h5:CV w₀ 27 #[.string xb] (.int .i64 sb))(h6:CV w₀ 27 #[.string yd] (.int .i64 sd))(h7:CV w₀ 38 #[.agg #[.string xa,.string xb]] (.int .i64 1))(h8:CV w₀ 38 #[.agg #[.string yc,.string yd]] (.int .i64 1))(f1:decide (sb<0)=false)(f2:decide (sd<0)=false)(kKT:Stb w₀ 0 #[.int .i64 (-1),.int .i64 (-1),.int .i64 2,.int .i64 (-1),.int .i64 0,.int .i64 1,.int .i64 2,.int .i64 1,.int .i64 1] 71) :
 CV w₀ 16 #[.agg #[.string xa,.string xb],.agg #[.string yc,.string yd]] (.tuple #[.int .i64 1,.int .i64 0]):=by
 intro w hw;obtain ⟨C1,C2,C3,C4,C5,C6,C7,C8⟩:=eO (h1.mono hw) (h2.mono hw) (h3.mono hw) (h4.mono hw) (h5.mono hw) (h6.mono hw) (h7.mono hw) (h8.mono hw);have g1:=f1;have g2:=f2;clear f1 f2;have KT:=hid (kKT.below hw);clear h1 h2 h3 h4 h5 h6 h7 h8 kKT hw;go_enter func16,ntmps16
 go_upto_region 1 with fail
 refine aA w [(#[.string xa,.string xb],43),(#[.string yc,.string yd],43)] rfl ?_;rintro W0 ⟨k1,k2,hb⟩;have rV:=hid (show Below w.heap.size w W0 from hb);obtain ⟨KT,K1,K2⟩:=ae (KT.o.below rV.o) k1 k2;clear k1 k2 hb;obtain ⟨pq,w9⟩:=au K1.o rfl rfl;obtain ⟨ol,wu⟩:=au K2.o rfl rfl;go_wp2;have hb:=bQ W0 (.cells #[.string xa,.string xb,.string yc,.string yd] 22);have k3:=SBk.new W0 #[.string xa,.string xb,.string yc,.string yd] 22;generalize W0.alloc (.cells #[.string xa,.string xb,.string yc,.string yd] 22)=W1 at *;obtain ⟨K1,K2⟩:=ax hb K1 K2;have KT:=Lib.hid (KT.o.below hb);have ww:=hbt rV hb;have K3:=hid k3;clear k3 hb pq w9 ol wu;refine wp_loop_rounds 5 ?_;rw[rounds_succ];have nk:=K3.o.cell (i:=0) rfl;go_wp2_with fail
 with_reducible refine(C1.o _ ww.o).mono ?_
 rintro e W2 ⟨rfl,hb⟩;clear nk;obtain ⟨K1,K2,K3⟩:=aI hb K1 K2 K3;have KT:=Lib.hid (KT.o.below hb);have sw:=hbt ww hb;clear hb;go_wp2;rw[rounds_succ];have mi:=K3.o.cell (i:=1) rfl;go_wp2_with fail
 with_reducible refine(C2.o _ sw.o).mono ?_
 rintro e W3 ⟨rfl,hb⟩;clear mi;obtain ⟨K1,K2,K3⟩:=aI hb K1 K2 K3;have KT:=Lib.hid (KT.o.below hb);have rM:=hbt sw hb;clear hb;go_wp2;rw[rounds_succ];have l5:=K3.o.cell (i:=2) rfl;go_wp2_with fail
 with_reducible refine(C3.o _ rM.o).mono ?_
 rintro e W4 ⟨rfl,hb⟩;clear l5;obtain ⟨K1,K2,K3⟩:=aI hb K1 K2 K3;have KT:=Lib.hid (KT.o.below hb);have oM:=hbt rM hb;clear hb;go_wp2;rw[rounds_succ];have lv:=K3.o.cell (i:=3) rfl;go_wp2_with fail
 with_reducible refine(C4.o _ oM.o).mono ?_
 rintro e W5 ⟨rfl,hb⟩;clear lv;obtain ⟨K1,K2⟩:=ax hb K1 K2;have KT:=Lib.hid (KT.o.below hb);have oV:=hbt oM hb;clear hb;go_wp2;rw[rounds_succ];have w9:=K1.o.cell (i:=1) rfl;go_wp2_with fail
 with_reducible refine(C5.o _ oV.o).mono ?_
 rintro e W6 ⟨rfl,hb⟩;clear w9;obtain ⟨K1,K2⟩:=ax hb K1 K2;have KT:=Lib.hid (KT.o.below hb);have mf:=hbt oV hb;clear hb;have wu:=K2.o.cell (i:=1) rfl;go_wp2_with fail
 with_reducible refine(C6.o _ mf.o).mono ?_
 rintro e W7 ⟨rfl,hb⟩;clear wu;obtain ⟨K1,K2⟩:=ax hb K1 K2;have KT:=Lib.hid (KT.o.below hb);have wo:=hbt mf hb;clear hb;go_wp2_with fail
 refine az (fun a0 a' V=>a'=⟨putL [(37,.agg #[.string xa,.string xb]),(38,.int .i64 1),(39,.int .i64 2),(40,.agg #[.string yc,.string yd]),(41,.int .i64 1),(42,.int .i64 2),(43,.pointer (some ⟨0,6,none⟩)),(44,.pointer (some ⟨0,8,none⟩)),(45,.int .i64 1),(8,.int .i64 1)] a0.tmps,a0.defers⟩∧Below w.heap.size w V) ?_ ?_
 · refine aC (by kernel_rfl) 10 0 (fun i=>[37,38,39,40,41,42,43,44,45,8].getD i 0) (RelR [Rel.val (.agg #[.string xa,.string xb]),Rel.val (.int .i64 1),Rel.val (.int .i64 2),Rel.val (.agg #[.string yc,.string yd]),Rel.val (.int .i64 1),Rel.val (.int .i64 2),Rel.val (.pointer (some ⟨0,6,none⟩)),Rel.val (.pointer (some ⟨0,8,none⟩)),Rel.val (.int .i64 1),Rel.val (.int .i64 1)]) (fun W=>Below W7.heap.size W7 W) (fun _ _=>True) (by kernel_rfl) (by kernel_rfl) (by kernel_rfl) trivial (Below.refl _ _).drew ?_ ?_
   · intro u6 a W i hI hD hrd him
     obtain ⟨HI,HD,Hr⟩:=ae hI hD hrd;clear hI hrd hD;have y2:a.tmps[2]? = some (.pointer (some ⟨w.heap.size,0,none⟩)):=HI.o.rest 2 (by decide);have y3:a.tmps[3]? = some (.pointer (some ⟨w.heap.size+1,0,none⟩)):=HI.o.rest 3 (by decide);obtain ⟨pq,w9⟩:=au (K1.o.below HI.o.world) rfl rfl;obtain ⟨ol,wu⟩:=au (K2.o.below HI.o.world) rfl rfl;have dKT8:=(KT.o.below HI.o.world).cell (i:=8) rfl;have X0:RV _ u6 a 0 37 (.agg #[.string xa,.string xb]):=HI.o.rh;have X1:RV _ u6 a 1 38 (.int .i64 1):=HI.o.rh;have X3:RV _ u6 a 3 40 (.agg #[.string yc,.string yd]):=HI.o.rh;have X4:RV _ u6 a 4 41 (.int .i64 1):=HI.o.rh;have X2:RV _ u6 a 2 39 (.int .i64 2):=HI.o.rh;have X6:RV _ u6 a 6 43 (.pointer (some ⟨0,6,none⟩)):=HI.o.rh;have X5:RV _ u6 a 5 42 (.int .i64 2):=HI.o.rh;have X7:RV _ u6 a 7 44 (.pointer (some ⟨0,8,none⟩)):=HI.o.rh;have X8:RV _ u6 a 8 45 (.int .i64 1):=HI.o.rh
     match i,him,Hr with
     | 0,_,Hi =>
       refine aj rfl fun K' hK=>?_;go_simp;exact hK.o _ _ ⟨HI.o.pv Hi.o rfl,trivial⟩
     | 1,_,Hi =>
       have x0:=X0.g Hi.o (by kernel_rfl);refine aj rfl fun K' hK=>?_;go_simp;with_reducible refine(C7.o _ (wo.o.trans (HI.o.world.mono wo.o.size))).mono ?_
       rintro e W' ⟨rfl,hb⟩;exact hK.o _ _ ⟨HI.o.pc Hi.o hb rfl,trivial⟩
     | 2,_,Hi =>
       have x1:=X1.g Hi.o (by kernel_rfl);refine aj rfl fun K' hK=>?_;go_simp;exact hK.o _ _ ⟨HI.o.pv Hi.o rfl,trivial⟩
     | 3,_,Hi =>
       refine aj rfl fun K' hK=>?_;go_simp;exact hK.o _ _ ⟨HI.o.pv Hi.o rfl,trivial⟩
     | 4,_,Hi =>
       have x3:=X3.g Hi.o (by kernel_rfl);refine aj rfl fun K' hK=>?_;go_simp;with_reducible refine(C8.o _ (wo.o.trans (HI.o.world.mono wo.o.size))).mono ?_
       rintro e W' ⟨rfl,hb⟩;exact hK.o _ _ ⟨HI.o.pc Hi.o hb rfl,trivial⟩
     | 5,_,Hi =>
       have x4:=X4.g Hi.o (by kernel_rfl);refine aj rfl fun K' hK=>?_;go_simp;exact hK.o _ _ ⟨HI.o.pv Hi.o rfl,trivial⟩
     | 6,_,Hi =>
       have x2:=X2.g Hi.o (by kernel_rfl);refine aj rfl fun K' hK=>?_;go_simp;exact hK.o _ _ ⟨HI.o.pv Hi.o rfl,trivial⟩
     | 7,_,Hi =>
       have x6:=X6.g Hi.o (by kernel_rfl);have x5:=X5.g Hi.o (by kernel_rfl);refine aj rfl fun K' hK=>?_;go_simp;exact hK.o _ _ ⟨HI.o.pv Hi.o rfl,trivial⟩
     | 8,_,Hi =>
       have x7:=X7.g Hi.o (by kernel_rfl);refine aj rfl fun K' hK=>?_;go_simp;exact hK.o _ _ ⟨HI.o.pv Hi.o rfl,trivial⟩
     | 9,_,Hi =>
       have x8:=X8.g Hi.o (by kernel_rfl);refine aj rfl fun K' hK=>?_;go_simp;exact hK.o _ _ ⟨HI.o.pv Hi.o rfl,trivial⟩
     | n+10,h,_=>exact absurd h (by omega)
   · intro u6 a W hI hD lg
     obtain ⟨kw,HI,HA⟩:=ae hI.world hI lg;clear hI lg;have kz:=hid (wo.o.trans (kw.o.mono wo.o.size));refine aT ?_;exact⟨rfl,(HI.o.finx ⟨HI.o.sx HA.o 0,HI.o.sx HA.o 1,HI.o.sx HA.o 2,HI.o.sx HA.o 3,HI.o.sx HA.o 4,HI.o.sx HA.o 5,HI.o.sx HA.o 6,HI.o.sx HA.o 7,HI.o.sx HA.o 8,HI.o.sx HA.o 9,trivial⟩ rfl),kz.o⟩
 rintro a' W8 ⟨rfl,z0⟩;have kM:=hid z0;clear z0;simp only[putL,List.setIfInBounds_toArray,List.set_cons_zero,List.set_cons_succ];go_wp2;exact bodyPost_ret (v:=.tuple #[.int .i64 1,.int .i64 0]) (by simp[results,results16,go_sem]) rfl ⟨rfl,kM.o⟩
instance {W W':World}{g:Nat}{c:Array Value}{T:TypeId}:Gr (Stb W g c T) W W' (Stb W' g c T):=⟨fun h k=>k.below h⟩
