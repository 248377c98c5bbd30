/- texts -/
import Derived.Test.YtkiklcbhglpooaaGreatDoorMz25q
set_option maxRecDepth 100000
set_option maxHeartbeats 20000000
open Go.Lib (hid)
namespace Go.Proofs.YtkiklcbhglpooaaGreatDoor
open Go.RowKit Go.Gb
theorem z2F (xa xb yc yd:ByteArray)(qx qy:ByteArray)(sb sd:Int)(w₀:World)(h1:CV w₀ 24 #[.string xa] (.bool true))(h2:CV w₀ 24 #[.string xb] (.bool true))(h3:CV w₀ 24 #[.string yc] (.bool true))(h4:CV w₀ 24 #[.string yd] (.bool true))(h5:CV w₀ 55 #[.string xb] (.int .i64 sb))(h6:CV w₀ 55 #[.string yd] (.int .i64 sd))(h7:CV w₀ 110 #[.agg #[.string xa,.string xb]] (.int .i64 1))(h8:CV w₀ 110 #[.agg #[.string yc,.string yd]] (.int .i64 (-1)))(h9:CV w₀ 112 #[.agg #[.string xa,.string xb]] (.string qx))(hA:CV w₀ 112 #[.agg #[.string yc,.string yd]] (.string qy))(hB:CV w₀ 111 #[.string qx,.string qy] (.int .i64 (-1)))(f1:decide (sb<0)=false)(f2:decide (sd<0)=false)(kKT:Stb w₀ 0 #[.int .i64 (-1),.int .i64 (-1),.int .i64 2,.int .i64 (-1),.int .i64 0,.int .i64 1,.int .i64 2,.int .i64 1,.int .i64 1] 124) :
 CV w₀ 52 #[.agg #[.string xa,.string xb],.agg #[.string yc,.string yd]] (.tuple #[.int .i64 (-1),.int .i64 0]):=by
 intro w hw;obtain ⟨C1,C2,C3,C4,C5,C6,C7,C8,C9⟩:=bW (h1.mono hw) (h2.mono hw) (h3.mono hw) (h4.mono hw) (h5.mono hw) (h6.mono hw) (h7.mono hw) (h8.mono hw) (h9.mono hw);have CA:=hid (hA.mono hw);have CB:=hid (hB.mono hw);have g1:=f1;have g2:=f2;clear f1 f2;have KT:=hid (kKT.below hw);clear h1 h2 h3 h4 h5 h6 h7 h8 h9 hA hB kKT hw;go_enter Tryz.func52,Tryz.ntmps52
 go_upto_region 1 with fail
 refine aG w [(#[.string xa,.string xb],78),(#[.string yc,.string yd],78)] rfl ?_;rintro W0 ⟨k1,k2,hb⟩;have rq:=hid (show Below w.heap.size w W0 from hb);obtain ⟨KT,K1,K2⟩:=av (KT.o.below rq.o) k1 k2;clear k1 k2 hb;obtain ⟨su,wu⟩:=ay K1.o rfl rfl;obtain ⟨sw,ww⟩:=ay K2.o rfl rfl;go_wp2;have hb:=om W0 (.cells #[.string xa,.string xb,.string yc,.string yd] 25);have k3:=SBk.new W0 #[.string xa,.string xb,.string yc,.string yd] 25;generalize W0.alloc (.cells #[.string xa,.string xb,.string yc,.string yd] 25)=W1 at *;obtain ⟨K1,K2⟩:=aM hb K1 K2;have KT:=Lib.hid (KT.o.below hb);have ru:=hbt rq hb;have K3:=hid k3;clear k3 hb su wu sw ww;refine wp_loop_rounds 5 ?_;rw[rounds_succ];have pu:=K3.o.cell (i:=0) rfl;go_wp2_with fail
 with_reducible refine(C1.o _ ru.o).mono ?_
 rintro e W2 ⟨rfl,hb⟩;clear pu;obtain ⟨K1,K2,K3⟩:=bX hb K1 K2 K3;have KT:=Lib.hid (KT.o.below hb);have rM:=hbt ru hb;clear hb;go_wp2;rw[rounds_succ];have ol:=K3.o.cell (i:=1) rfl;go_wp2_with fail
 with_reducible refine(C2.o _ rM.o).mono ?_
 rintro e W3 ⟨rfl,hb⟩;clear ol;obtain ⟨K1,K2,K3⟩:=bX hb K1 K2 K3;have KT:=Lib.hid (KT.o.below hb);have rV:=hbt rM hb;clear hb;go_wp2;rw[rounds_succ];have oM:=K3.o.cell (i:=2) rfl;go_wp2_with fail
 with_reducible refine(C3.o _ rV.o).mono ?_
 rintro e W4 ⟨rfl,hb⟩;clear oM;obtain ⟨K1,K2,K3⟩:=bX hb K1 K2 K3;have KT:=Lib.hid (KT.o.below hb);have p8:=hbt rV hb;clear hb;go_wp2;rw[rounds_succ];have oV:=K3.o.cell (i:=3) rfl;go_wp2_with fail
 with_reducible refine(C4.o _ p8.o).mono ?_
 rintro e W5 ⟨rfl,hb⟩;clear oV;obtain ⟨K1,K2⟩:=aM hb K1 K2;have KT:=Lib.hid (KT.o.below hb);have p9:=hbt p8 hb;clear hb;go_wp2;rw[rounds_succ];have wu:=K1.o.cell (i:=1) rfl;go_wp2_with fail
 with_reducible refine(C5.o _ p9.o).mono ?_
 rintro e W6 ⟨rfl,hb⟩;clear wu;obtain ⟨K1,K2⟩:=aM hb K1 K2;have KT:=Lib.hid (KT.o.below hb);have pq:=hbt p9 hb;clear hb;have ww:=K2.o.cell (i:=1) rfl;go_wp2_with fail
 with_reducible refine(C6.o _ pq.o).mono ?_
 rintro e W7 ⟨rfl,hb⟩;clear ww;obtain ⟨K1,K2⟩:=aM hb K1 K2;have KT:=Lib.hid (KT.o.below hb);have wo:=hbt pq hb;clear hb;go_wp2_with fail
 refine aK (fun a0 a' V=>a'=⟨putL [(37,.agg #[.string xa,.string xb]),(38,.int .i64 1),(39,.int .i64 2),(40,.agg #[.string yc,.string yd]),(41,.int .i64 (-1)),(42,.int .i64 0),(43,.pointer (some ⟨0,6,none⟩)),(44,.pointer (some ⟨0,6,none⟩)),(45,.int .i64 2),(8,.int .i64 2)] a0.tmps,a0.defers⟩∧Below w.heap.size w V∧SBk V (w.heap.size) #[.string xa,.string xb] 78∧SBk V (w.heap.size+1) #[.string yc,.string yd] 78) ?_ ?_
 · refine dh (by kernel_rfl) 10 0 (fun i=>[37,38,39,40,41,42,43,44,45,8].getD i 0) (RelR [Rel.val (.agg #[.string xa,.string xb]),Rel.val (.int .i64 1),Rel.val (.int .i64 2),Rel.val (.agg #[.string yc,.string yd]),Rel.val (.int .i64 (-1)),Rel.val (.int .i64 0),Rel.val (.pointer (some ⟨0,6,none⟩)),Rel.val (.pointer (some ⟨0,6,none⟩)),Rel.val (.int .i64 2),Rel.val (.int .i64 2)]) (fun W=>Below W7.heap.size W7 W) (fun _ _=>True) (by kernel_rfl) (by kernel_rfl) (by kernel_rfl) trivial (Below.refl _ _).drew ?_ ?_
   · intro u6 a W i hI hD hrd him
     obtain ⟨HI,HD,Hr⟩:=av hI hD hrd;clear hI hrd hD;have y2:a.tmps[2]? = some (.pointer (some ⟨w.heap.size,0,none⟩)):=HI.o.rest 2 (by decide);have y3:a.tmps[3]? = some (.pointer (some ⟨w.heap.size+1,0,none⟩)):=HI.o.rest 3 (by decide);obtain ⟨su,wu⟩:=ay (K1.o.below HI.o.world) rfl rfl;obtain ⟨sw,ww⟩:=ay (K2.o.below HI.o.world) rfl rfl;have dKT6:=(KT.o.below HI.o.world).cell (i:=6) rfl;have X0:RV _ u6 a 0 37 (.agg #[.string xa,.string xb]):=HI.o.rh;have X1:RV _ u6 a 1 38 (.int .i64 1):=HI.o.rh;have X3:RV _ u6 a 3 40 (.agg #[.string yc,.string yd]):=HI.o.rh;have X4:RV _ u6 a 4 41 (.int .i64 (-1)):=HI.o.rh;have X2:RV _ u6 a 2 39 (.int .i64 2):=HI.o.rh;have X6:RV _ u6 a 6 43 (.pointer (some ⟨0,6,none⟩)):=HI.o.rh;have X5:RV _ u6 a 5 42 (.int .i64 0):=HI.o.rh;have X7:RV _ u6 a 7 44 (.pointer (some ⟨0,6,none⟩)):=HI.o.rh;have X8:RV _ u6 a 8 45 (.int .i64 2):=HI.o.rh
     match i,him,Hr with
     | 0,_,Hi =>
       refine aF rfl fun K' hK=>?_;go_simp;exact hK.o _ _ ⟨HI.o.pv Hi.o rfl,trivial⟩
     | 1,_,Hi =>
       have x0:=X0.g Hi.o (by kernel_rfl);refine aF rfl fun K' hK=>?_;go_simp;with_reducible refine(C7.o _ (wo.o.trans (HI.o.world.mono wo.o.size))).mono ?_
       rintro e W' ⟨rfl,hb⟩;exact hK.o _ _ ⟨HI.o.pc Hi.o hb rfl,trivial⟩
     | 2,_,Hi =>
       have x1:=X1.g Hi.o (by kernel_rfl);refine aF rfl fun K' hK=>?_;go_simp;exact hK.o _ _ ⟨HI.o.pv Hi.o rfl,trivial⟩
     | 3,_,Hi =>
       refine aF rfl fun K' hK=>?_;go_simp;exact hK.o _ _ ⟨HI.o.pv Hi.o rfl,trivial⟩
     | 4,_,Hi =>
       have x3:=X3.g Hi.o (by kernel_rfl);refine aF rfl fun K' hK=>?_;go_simp;with_reducible refine(C8.o _ (wo.o.trans (HI.o.world.mono wo.o.size))).mono ?_
       rintro e W' ⟨rfl,hb⟩;exact hK.o _ _ ⟨HI.o.pc Hi.o hb rfl,trivial⟩
     | 5,_,Hi =>
       have x4:=X4.g Hi.o (by kernel_rfl);refine aF rfl fun K' hK=>?_;go_simp;exact hK.o _ _ ⟨HI.o.pv Hi.o rfl,trivial⟩
     | 6,_,Hi =>
       have x2:=X2.g Hi.o (by kernel_rfl);refine aF rfl fun K' hK=>?_;go_simp;exact hK.o _ _ ⟨HI.o.pv Hi.o rfl,trivial⟩
     | 7,_,Hi =>
       have x6:=X6.g Hi.o (by kernel_rfl);have x5:=X5.g Hi.o (by kernel_rfl);refine aF rfl fun K' hK=>?_;go_simp;exact hK.o _ _ ⟨HI.o.pv Hi.o rfl,trivial⟩
     | 8,_,Hi =>
       have x7:=X7.g Hi.o (by kernel_rfl);refine aF rfl fun K' hK=>?_;go_simp;exact hK.o _ _ ⟨HI.o.pv Hi.o rfl,trivial⟩
     | 9,_,Hi =>
       have x8:=X8.g Hi.o (by kernel_rfl);refine aF rfl fun K' hK=>?_;go_simp;exact hK.o _ _ ⟨HI.o.pv Hi.o rfl,trivial⟩
     | n+10,h,_=>exact absurd h (by omega)
   · intro u6 a W hI hD si
     obtain ⟨sj,HI,HA⟩:=av hI.world hI si;clear hI si;obtain ⟨K1,K2⟩:=aM sj.o K1 K2;have r9:=Lib.hid (wo.o.trans (sj.o.mono wo.o.size));refine bF ?_;exact⟨rfl,(HI.o.finx ⟨HI.o.sx HA.o 0,HI.o.sx HA.o 1,HI.o.sx HA.o 2,HI.o.sx HA.o 3,HI.o.sx HA.o 4,HI.o.sx HA.o 5,HI.o.sx HA.o 6,HI.o.sx HA.o 7,HI.o.sx HA.o 8,HI.o.sx HA.o 9,trivial⟩ rfl),r9.o,K1.o,K2.o⟩
 rintro a' W8 ⟨rfl,z0,z1,z2⟩;obtain ⟨w9,K1,K2⟩:=av z0 z1 z2;clear z0 z1 z2;simp only[putL,List.setIfInBounds_toArray,List.set_cons_zero,List.set_cons_succ];go_wp2_with fail
 refine aK (fun a0 a' V=>a'=⟨putL [(49,.agg #[.string xa,.string xb]),(50,.int .i64 1),(51,.agg #[.string xa,.string xb]),(52,.string qx),(53,.agg #[.string yc,.string yd]),(54,.string qy),(55,.int .i64 (-1)),(56,.int .i64 (-1)),(4,.int .i64 (-1)),(5,.int .i64 0)] a0.tmps,a0.defers⟩∧Below w.heap.size w V) ?_ ?_
 · refine dh (by kernel_rfl) 10 0 (fun i=>[49,50,51,52,53,54,55,56,4,5].getD i 0) (RelR [Rel.val (.agg #[.string xa,.string xb]),Rel.val (.int .i64 1),Rel.val (.agg #[.string xa,.string xb]),Rel.val (.string qx),Rel.val (.agg #[.string yc,.string yd]),Rel.val (.string qy),Rel.val (.int .i64 (-1)),Rel.val (.int .i64 (-1)),Rel.val (.int .i64 (-1)),Rel.val (.int .i64 0)]) (fun W=>Below W8.heap.size W8 W) (fun _ _=>True) (by kernel_rfl) (by kernel_rfl) (by kernel_rfl) trivial (Below.refl _ _).drew ?_ ?_
   · intro u6 a W i hI hD hrd him
     obtain ⟨HI,HD,Hr⟩:=av hI hD hrd;clear hI hrd hD;have y2:a.tmps[2]? = some (.pointer (some ⟨w.heap.size,0,none⟩)):=HI.o.rest 2 (by decide);have y3:a.tmps[3]? = some (.pointer (some ⟨w.heap.size+1,0,none⟩)):=HI.o.rest 3 (by decide);obtain ⟨su,wu⟩:=ay (K1.o.below HI.o.world) rfl rfl;obtain ⟨sw,ww⟩:=ay (K2.o.below HI.o.world) rfl rfl;have X0:RV _ u6 a 0 49 (.agg #[.string xa,.string xb]):=HI.o.rh;have X2:RV _ u6 a 2 51 (.agg #[.string xa,.string xb]):=HI.o.rh;have X4:RV _ u6 a 4 53 (.agg #[.string yc,.string yd]):=HI.o.rh;have X3:RV _ u6 a 3 52 (.string qx):=HI.o.rh;have X5:RV _ u6 a 5 54 (.string qy):=HI.o.rh;have X1:RV _ u6 a 1 50 (.int .i64 1):=HI.o.rh;have X6:RV _ u6 a 6 55 (.int .i64 (-1)):=HI.o.rh;have X7:RV _ u6 a 7 56 (.int .i64 (-1)):=HI.o.rh
     match i,him,Hr with
     | 0,_,Hi =>
       refine aF rfl fun K' hK=>?_;go_simp;exact hK.o _ _ ⟨HI.o.pv Hi.o rfl,trivial⟩
     | 1,_,Hi =>
       have x0:=X0.g Hi.o (by kernel_rfl);refine aF rfl fun K' hK=>?_;go_simp;with_reducible refine(C7.o _ (w9.o.trans (HI.o.world.mono w9.o.size))).mono ?_
       rintro e W' ⟨rfl,hb⟩;exact hK.o _ _ ⟨HI.o.pc Hi.o hb rfl,trivial⟩
     | 2,_,Hi =>
       refine aF rfl fun K' hK=>?_;go_simp;exact hK.o _ _ ⟨HI.o.pv Hi.o rfl,trivial⟩
     | 3,_,Hi =>
       have x2:=X2.g Hi.o (by kernel_rfl);refine aF rfl fun K' hK=>?_;go_simp;with_reducible refine(C9.o _ (w9.o.trans (HI.o.world.mono w9.o.size))).mono ?_
       rintro e W' ⟨rfl,hb⟩;exact hK.o _ _ ⟨HI.o.pc Hi.o hb rfl,trivial⟩
     | 4,_,Hi =>
       refine aF rfl fun K' hK=>?_;go_simp;exact hK.o _ _ ⟨HI.o.pv Hi.o rfl,trivial⟩
     | 5,_,Hi =>
       have x4:=X4.g Hi.o (by kernel_rfl);refine aF rfl fun K' hK=>?_;go_simp;with_reducible refine(CA.o _ (w9.o.trans (HI.o.world.mono w9.o.size))).mono ?_
       rintro e W' ⟨rfl,hb⟩;exact hK.o _ _ ⟨HI.o.pc Hi.o hb rfl,trivial⟩
     | 6,_,Hi =>
       have x3:=X3.g Hi.o (by kernel_rfl);have x5:=X5.g Hi.o (by kernel_rfl);refine aF rfl fun K' hK=>?_;go_simp;with_reducible refine(CB.o _ (w9.o.trans (HI.o.world.mono w9.o.size))).mono ?_
       rintro e W' ⟨rfl,hb⟩;exact hK.o _ _ ⟨HI.o.pc Hi.o hb rfl,trivial⟩
     | 7,_,Hi =>
       have x1:=X1.g Hi.o (by kernel_rfl);have x6:=X6.g Hi.o (by kernel_rfl);refine aF rfl fun K' hK=>?_;go_simp;exact hK.o _ _ ⟨HI.o.pv Hi.o rfl,trivial⟩
     | 8,_,Hi =>
       have x7:=X7.g Hi.o (by kernel_rfl);refine aF rfl fun K' hK=>?_;go_simp;exact hK.o _ _ ⟨HI.o.pv Hi.o rfl,trivial⟩
     | 9,_,Hi =>
       refine aF rfl fun K' hK=>?_;go_simp;exact hK.o _ _ ⟨HI.o.pv Hi.o rfl,trivial⟩
     | n+10,h,_=>exact absurd h (by omega)
   · intro u6 a W hI hD si
     obtain ⟨sj,HI,HA⟩:=av hI.world hI si;clear hI si;have r9:=hid (w9.o.trans (sj.o.mono w9.o.size));refine bF ?_;exact⟨rfl,(HI.o.finx ⟨HI.o.sx HA.o 0,HI.o.sx HA.o 1,HI.o.sx HA.o 2,HI.o.sx HA.o 3,HI.o.sx HA.o 4,HI.o.sx HA.o 5,HI.o.sx HA.o 6,HI.o.sx HA.o 7,HI.o.sx HA.o 8,HI.o.sx HA.o 9,trivial⟩ rfl),r9.o⟩
 rintro a' W9 ⟨rfl,z0⟩;have mf:=hid z0;clear z0;simp only[putL,List.setIfInBounds_toArray,List.set_cons_zero,List.set_cons_succ];go_wp2;exact bodyPost_ret (v:=.tuple #[.int .i64 (-1),.int .i64 0]) (by simp[results,Tryz.results52,go_sem]) rfl ⟨rfl,mf.o⟩
theorem z2E (xa xb yc yd:ByteArray)(qx qy:ByteArray)(sb sd:Int)(w₀:World)(h1:CV w₀ 24 #[.string xa] (.bool true))(h2:CV w₀ 24 #[.string xb] (.bool true))(h3:CV w₀ 24 #[.string yc] (.bool true))(h4:CV w₀ 24 #[.string yd] (.bool true))(h5:CV w₀ 55 #[.string xb] (.int .i64 sb))(h6:CV w₀ 55 #[.string yd] (.int .i64 sd))(h7:CV w₀ 110 #[.agg #[.string xa,.string xb]] (.int .i64 1))(h8:CV w₀ 110 #[.agg #[.string yc,.string yd]] (.int .i64 (-1)))(h9:CV w₀ 112 #[.agg #[.string xa,.string xb]] (.string qx))(hA:CV w₀ 112 #[.agg #[.string yc,.string yd]] (.string qy))(hB:CV w₀ 111 #[.string qx,.string qy] (.int .i64 1))(f1:decide (sb<0)=false)(f2:decide (sd<0)=false)(kKT:Stb w₀ 0 #[.int .i64 (-1),.int .i64 (-1),.int .i64 2,.int .i64 (-1),.int .i64 0,.int .i64 1,.int .i64 2,.int .i64 1,.int .i64 1] 124) :
 CV w₀ 52 #[.agg #[.string xa,.string xb],.agg #[.string yc,.string yd]] (.tuple #[.int .i64 1,.int .i64 0]):=by
 intro w hw;obtain ⟨C1,C2,C3,C4,C5,C6,C7,C8,C9⟩:=bW (h1.mono hw) (h2.mono hw) (h3.mono hw) (h4.mono hw) (h5.mono hw) (h6.mono hw) (h7.mono hw) (h8.mono hw) (h9.mono hw);have CA:=hid (hA.mono hw);have CB:=hid (hB.mono hw);have g1:=f1;have g2:=f2;clear f1 f2;have KT:=hid (kKT.below hw);clear h1 h2 h3 h4 h5 h6 h7 h8 h9 hA hB kKT hw;go_enter Tryz.func52,Tryz.ntmps52
 go_upto_region 1 with fail
 refine aG w [(#[.string xa,.string xb],78),(#[.string yc,.string yd],78)] rfl ?_;rintro W0 ⟨k1,k2,hb⟩;have rq:=hid (show Below w.heap.size w W0 from hb);obtain ⟨KT,K1,K2⟩:=av (KT.o.below rq.o) k1 k2;clear k1 k2 hb;obtain ⟨su,wu⟩:=ay K1.o rfl rfl;obtain ⟨sw,ww⟩:=ay K2.o rfl rfl;go_wp2;have hb:=om W0 (.cells #[.string xa,.string xb,.string yc,.string yd] 25);have k3:=SBk.new W0 #[.string xa,.string xb,.string yc,.string yd] 25;generalize W0.alloc (.cells #[.string xa,.string xb,.string yc,.string yd] 25)=W1 at *;obtain ⟨K1,K2⟩:=aM hb K1 K2;have KT:=Lib.hid (KT.o.below hb);have ru:=hbt rq hb;have K3:=hid k3;clear k3 hb su wu sw ww;refine wp_loop_rounds 5 ?_;rw[rounds_succ];have pu:=K3.o.cell (i:=0) rfl;go_wp2_with fail
 with_reducible refine(C1.o _ ru.o).mono ?_
 rintro e W2 ⟨rfl,hb⟩;clear pu;obtain ⟨K1,K2,K3⟩:=bX hb K1 K2 K3;have KT:=Lib.hid (KT.o.below hb);have rM:=hbt ru hb;clear hb;go_wp2;rw[rounds_succ];have ol:=K3.o.cell (i:=1) rfl;go_wp2_with fail
 with_reducible refine(C2.o _ rM.o).mono ?_
 rintro e W3 ⟨rfl,hb⟩;clear ol;obtain ⟨K1,K2,K3⟩:=bX hb K1 K2 K3;have KT:=Lib.hid (KT.o.below hb);have rV:=hbt rM hb;clear hb;go_wp2;rw[rounds_succ];have oM:=K3.o.cell (i:=2) rfl;go_wp2_with fail
 with_reducible refine(C3.o _ rV.o).mono ?_
 rintro e W4 ⟨rfl,hb⟩;clear oM;obtain ⟨K1,K2,K3⟩:=bX hb K1 K2 K3;have KT:=Lib.hid (KT.o.below hb);have p8:=hbt rV hb;clear hb;go_wp2;rw[rounds_succ];have oV:=K3.o.cell (i:=3) rfl;go_wp2_with fail
 with_reducible refine(C4.o _ p8.o).mono ?_
 rintro e W5 ⟨rfl,hb⟩;clear oV;obtain ⟨K1,K2⟩:=aM hb K1 K2;have KT:=Lib.hid (KT.o.below hb);have p9:=hbt p8 hb;clear hb;go_wp2;rw[rounds_succ];have wu:=K1.o.cell (i:=1) rfl;go_wp2_with fail
 with_reducible refine(C5.o _ p9.o).mono ?_
 rintro e W6 ⟨rfl,hb⟩;clear wu;obtain ⟨K1,K2⟩:=aM hb K1 K2;have KT:=Lib.hid (KT.o.below hb);have pq:=hbt p9 hb;clear hb;have ww:=K2.o.cell (i:=1) rfl;go_wp2_with fail
 with_reducible refine(C6.o _ pq.o).mono ?_
 rintro e W7 ⟨rfl,hb⟩;clear ww;obtain ⟨K1,K2⟩:=aM hb K1 K2;have KT:=Lib.hid (KT.o.below hb);have wo:=hbt pq hb;clear hb;go_wp2_with fail
 refine aK (fun a0 a' V=>a'=⟨putL [(37,.agg #[.string xa,.string xb]),(38,.int .i64 1),(39,.int .i64 2),(40,.agg #[.string yc,.string yd]),(41,.int .i64 (-1)),(42,.int .i64 0),(43,.pointer (some ⟨0,6,none⟩)),(44,.pointer (some ⟨0,6,none⟩)),(45,.int .i64 2),(8,.int .i64 2)] a0.tmps,a0.defers⟩∧Below w.heap.size w V∧SBk V (w.heap.size) #[.string xa,.string xb] 78∧SBk V (w.heap.size+1) #[.string yc,.string yd] 78) ?_ ?_
 · refine dh (by kernel_rfl) 10 0 (fun i=>[37,38,39,40,41,42,43,44,45,8].getD i 0) (RelR [Rel.val (.agg #[.string xa,.string xb]),Rel.val (.int .i64 1),Rel.val (.int .i64 2),Rel.val (.agg #[.string yc,.string yd]),Rel.val (.int .i64 (-1)),Rel.val (.int .i64 0),Rel.val (.pointer (some ⟨0,6,none⟩)),Rel.val (.pointer (some ⟨0,6,none⟩)),Rel.val (.int .i64 2),Rel.val (.int .i64 2)]) (fun W=>Below W7.heap.size W7 W) (fun _ _=>True) (by kernel_rfl) (by kernel_rfl) (by kernel_rfl) trivial (Below.refl _ _).drew ?_ ?_
   · intro u6 a W i hI hD hrd him
     obtain ⟨HI,HD,Hr⟩:=av hI hD hrd;clear hI hrd hD;have y2:a.tmps[2]? = some (.pointer (some ⟨w.heap.size,0,none⟩)):=HI.o.rest 2 (by decide);have y3:a.tmps[3]? = some (.pointer (some ⟨w.heap.size+1,0,none⟩)):=HI.o.rest 3 (by decide);obtain ⟨su,wu⟩:=ay (K1.o.below HI.o.world) rfl rfl;obtain ⟨sw,ww⟩:=ay (K2.o.below HI.o.world) rfl rfl;have dKT6:=(KT.o.below HI.o.world).cell (i:=6) rfl;have X0:RV _ u6 a 0 37 (.agg #[.string xa,.string xb]):=HI.o.rh;have X1:RV _ u6 a 1 38 (.int .i64 1):=HI.o.rh;have X3:RV _ u6 a 3 40 (.agg #[.string yc,.string yd]):=HI.o.rh;have X4:RV _ u6 a 4 41 (.int .i64 (-1)):=HI.o.rh;have X2:RV _ u6 a 2 39 (.int .i64 2):=HI.o.rh;have X6:RV _ u6 a 6 43 (.pointer (some ⟨0,6,none⟩)):=HI.o.rh;have X5:RV _ u6 a 5 42 (.int .i64 0):=HI.o.rh;have X7:RV _ u6 a 7 44 (.pointer (some ⟨0,6,none⟩)):=HI.o.rh;have X8:RV _ u6 a 8 45 (.int .i64 2):=HI.o.rh
     match i,him,Hr with
     | 0,_,Hi =>
       refine aF rfl fun K' hK=>?_;go_simp;exact hK.o _ _ ⟨HI.o.pv Hi.o rfl,trivial⟩
     | 1,_,Hi =>
       have x0:=X0.g Hi.o (by kernel_rfl);refine aF rfl fun K' hK=>?_;go_simp;with_reducible refine(C7.o _ (wo.o.trans (HI.o.world.mono wo.o.size))).mono ?_
       rintro e W' ⟨rfl,hb⟩;exact hK.o _ _ ⟨HI.o.pc Hi.o hb rfl,trivial⟩
     | 2,_,Hi =>
       have x1:=X1.g Hi.o (by kernel_rfl);refine aF rfl fun K' hK=>?_;go_simp;exact hK.o _ _ ⟨HI.o.pv Hi.o rfl,trivial⟩
     | 3,_,Hi =>
       refine aF rfl fun K' hK=>?_;go_simp;exact hK.o _ _ ⟨HI.o.pv Hi.o rfl,trivial⟩
     | 4,_,Hi =>
       have x3:=X3.g Hi.o (by kernel_rfl);refine aF rfl fun K' hK=>?_;go_simp;with_reducible refine(C8.o _ (wo.o.trans (HI.o.world.mono wo.o.size))).mono ?_
       rintro e W' ⟨rfl,hb⟩;exact hK.o _ _ ⟨HI.o.pc Hi.o hb rfl,trivial⟩
     | 5,_,Hi =>
       have x4:=X4.g Hi.o (by kernel_rfl);refine aF rfl fun K' hK=>?_;go_simp;exact hK.o _ _ ⟨HI.o.pv Hi.o rfl,trivial⟩
     | 6,_,Hi =>
       have x2:=X2.g Hi.o (by kernel_rfl);refine aF rfl fun K' hK=>?_;go_simp;exact hK.o _ _ ⟨HI.o.pv Hi.o rfl,trivial⟩
     | 7,_,Hi =>
       have x6:=X6.g Hi.o (by kernel_rfl);have x5:=X5.g Hi.o (by kernel_rfl);refine aF rfl fun K' hK=>?_;go_simp;exact hK.o _ _ ⟨HI.o.pv Hi.o rfl,trivial⟩
     | 8,_,Hi =>
       have x7:=X7.g Hi.o (by kernel_rfl);refine aF rfl fun K' hK=>?_;go_simp;exact hK.o _ _ ⟨HI.o.pv Hi.o rfl,trivial⟩
     | 9,_,Hi =>
       have x8:=X8.g Hi.o (by kernel_rfl);refine aF rfl fun K' hK=>?_;go_simp;exact hK.o _ _ ⟨HI.o.pv Hi.o rfl,trivial⟩
     | n+10,h,_=>exact absurd h (by omega)
   · intro u6 a W hI hD si
     obtain ⟨sj,HI,HA⟩:=av hI.world hI si;clear hI si;obtain ⟨K1,K2⟩:=aM sj.o K1 K2;have r9:=Lib.hid (wo.o.trans (sj.o.mono wo.o.size));refine bF ?_;exact⟨rfl,(HI.o.finx ⟨HI.o.sx HA.o 0,HI.o.sx HA.o 1,HI.o.sx HA.o 2,HI.o.sx HA.o 3,HI.o.sx HA.o 4,HI.o.sx HA.o 5,HI.o.sx HA.o 6,HI.o.sx HA.o 7,HI.o.sx HA.o 8,HI.o.sx HA.o 9,trivial⟩ rfl),r9.o,K1.o,K2.o⟩
 rintro a' W8 ⟨rfl,z0,z1,z2⟩;obtain ⟨w9,K1,K2⟩:=av z0 z1 z2;clear z0 z1 z2;simp only[putL,List.setIfInBounds_toArray,List.set_cons_zero,List.set_cons_succ];go_wp2_with fail
 refine aK (fun a0 a' V=>a'=⟨putL [(49,.agg #[.string xa,.string xb]),(50,.int .i64 1),(51,.agg #[.string xa,.string xb]),(52,.string qx),(53,.agg #[.string yc,.string yd]),(54,.string qy),(55,.int .i64 1),(56,.int .i64 1),(4,.int .i64 1),(5,.int .i64 0)] a0.tmps,a0.defers⟩∧Below w.heap.size w V) ?_ ?_
 · refine dh (by kernel_rfl) 10 0 (fun i=>[49,50,51,52,53,54,55,56,4,5].getD i 0) (RelR [Rel.val (.agg #[.string xa,.string xb]),Rel.val (.int .i64 1),Rel.val (.agg #[.string xa,.string xb]),Rel.val (.string qx),Rel.val (.agg #[.string yc,.string yd]),Rel.val (.string qy),Rel.val (.int .i64 1),Rel.val (.int .i64 1),Rel.val (.int .i64 1),Rel.val (.int .i64 0)]) (fun W=>Below W8.heap.size W8 W) (fun _ _=>True) (by kernel_rfl) (by kernel_rfl) (by kernel_rfl) trivial (Below.refl _ _).drew ?_ ?_
   · intro u6 a W i hI hD hrd him
     obtain ⟨HI,HD,Hr⟩:=av hI hD hrd;clear hI hrd hD;have y2:a.tmps[2]? = some (.pointer (some ⟨w.heap.size,0,none⟩)):=HI.o.rest 2 (by decide);have y3:a.tmps[3]? = some (.pointer (some ⟨w.heap.size+1,0,none⟩)):=HI.o.rest 3 (by decide);obtain ⟨su,wu⟩:=ay (K1.o.below HI.o.world) rfl rfl;obtain ⟨sw,ww⟩:=ay (K2.o.below HI.o.world) rfl rfl;have X0:RV _ u6 a 0 49 (.agg #[.string xa,.string xb]):=HI.o.rh;have X2:RV _ u6 a 2 51 (.agg #[.string xa,.string xb]):=HI.o.rh;have X4:RV _ u6 a 4 53 (.agg #[.string yc,.string yd]):=HI.o.rh;have X3:RV _ u6 a 3 52 (.string qx):=HI.o.rh;have X5:RV _ u6 a 5 54 (.string qy):=HI.o.rh;have X1:RV _ u6 a 1 50 (.int .i64 1):=HI.o.rh;have X6:RV _ u6 a 6 55 (.int .i64 1):=HI.o.rh;have X7:RV _ u6 a 7 56 (.int .i64 1):=HI.o.rh
     match i,him,Hr with
     | 0,_,Hi =>
       refine aF rfl fun K' hK=>?_;go_simp;exact hK.o _ _ ⟨HI.o.pv Hi.o rfl,trivial⟩
     | 1,_,Hi =>
       have x0:=X0.g Hi.o (by kernel_rfl);refine aF rfl fun K' hK=>?_;go_simp;with_reducible refine(C7.o _ (w9.o.trans (HI.o.world.mono w9.o.size))).mono ?_
       rintro e W' ⟨rfl,hb⟩;exact hK.o _ _ ⟨HI.o.pc Hi.o hb rfl,trivial⟩
     | 2,_,Hi =>
       refine aF rfl fun K' hK=>?_;go_simp;exact hK.o _ _ ⟨HI.o.pv Hi.o rfl,trivial⟩
     | 3,_,Hi =>
       have x2:=X2.g Hi.o (by kernel_rfl);refine aF rfl fun K' hK=>?_;go_simp;with_reducible refine(C9.o _ (w9.o.trans (HI.o.world.mono w9.o.size))).mono ?_
       rintro e W' ⟨rfl,hb⟩;exact hK.o _ _ ⟨HI.o.pc Hi.o hb rfl,trivial⟩
     | 4,_,Hi =>
       refine aF rfl fun K' hK=>?_;go_simp;exact hK.o _ _ ⟨HI.o.pv Hi.o rfl,trivial⟩
     | 5,_,Hi =>
       have x4:=X4.g Hi.o (by kernel_rfl);refine aF rfl fun K' hK=>?_;go_simp;with_reducible refine(CA.o _ (w9.o.trans (HI.o.world.mono w9.o.size))).mono ?_
       rintro e W' ⟨rfl,hb⟩;exact hK.o _ _ ⟨HI.o.pc Hi.o hb rfl,trivial⟩
     | 6,_,Hi =>
       have x3:=X3.g Hi.o (by kernel_rfl);have x5:=X5.g Hi.o (by kernel_rfl);refine aF rfl fun K' hK=>?_;go_simp;with_reducible refine(CB.o _ (w9.o.trans (HI.o.world.mono w9.o.size))).mono ?_
       rintro e W' ⟨rfl,hb⟩;exact hK.o _ _ ⟨HI.o.pc Hi.o hb rfl,trivial⟩
     | 7,_,Hi =>
       have x1:=X1.g Hi.o (by kernel_rfl);have x6:=X6.g Hi.o (by kernel_rfl);refine aF rfl fun K' hK=>?_;go_simp;exact hK.o _ _ ⟨HI.o.pv Hi.o rfl,trivial⟩
     | 8,_,Hi =>
       have x7:=X7.g Hi.o (by kernel_rfl);refine aF rfl fun K' hK=>?_;go_simp;exact hK.o _ _ ⟨HI.o.pv Hi.o rfl,trivial⟩
     | 9,_,Hi =>
       refine aF rfl fun K' hK=>?_;go_simp;exact hK.o _ _ ⟨HI.o.pv Hi.o rfl,trivial⟩
     | n+10,h,_=>exact absurd h (by omega)
   · intro u6 a W hI hD si
     obtain ⟨sj,HI,HA⟩:=av hI.world hI si;clear hI si;have r9:=hid (w9.o.trans (sj.o.mono w9.o.size));refine bF ?_;exact⟨rfl,(HI.o.finx ⟨HI.o.sx HA.o 0,HI.o.sx HA.o 1,HI.o.sx HA.o 2,HI.o.sx HA.o 3,HI.o.sx HA.o 4,HI.o.sx HA.o 5,HI.o.sx HA.o 6,HI.o.sx HA.o 7,HI.o.sx HA.o 8,HI.o.sx HA.o 9,trivial⟩ rfl),r9.o⟩
 rintro a' W9 ⟨rfl,z0⟩;have mf:=hid z0;clear z0;simp only[putL,List.setIfInBounds_toArray,List.set_cons_zero,List.set_cons_succ];go_wp2;exact bodyPost_ret (v:=.tuple #[.int .i64 1,.int .i64 0]) (by simp[results,Tryz.results52,go_sem]) rfl ⟨rfl,mf.o⟩
