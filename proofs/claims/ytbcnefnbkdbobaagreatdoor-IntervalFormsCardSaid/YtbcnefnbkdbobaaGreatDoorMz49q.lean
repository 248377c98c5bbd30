/- texts -/
import Derived.Test.YtbcnefnbkdbobaaGreatDoorVn
set_option maxRecDepth 100000
set_option maxHeartbeats 20000000
open Go.Lib (hid)
namespace Go.Proofs.YtbcnefnbkdbobaaGreatDoor
open Go.RowKit Go.Gb
theorem z0v (l u z:ByteArray)(w₀:World)  (hla:La w₀)(sa:40<l.size∨40<u.size) :
 CV w₀ 3 #[.agg #[.string l,.string u],.string z] (.bool true):=by
 intro w hw;have HT:=hid (hla.on hw);have SA:=hid sa;clear hla sa hw;go_enter Tryz.func3,Tryz.ntmps3
 go_upto_region 1 with fail
 refine aH w [(#[.string l,.string u],24)] rfl ?_;rintro W0 ⟨k1,hb⟩;have wu:=hid (show Below w.heap.size w W0 from hb);have K1:=hid k1;clear k1 hb;go_wp2_with fail
 with_reducible refine((qw _ (HT.o.on wu.o))).mono ?_
 rintro e W1 ⟨rfl,hb⟩;have K1:=hid (K1.o.below hb);have sw:=hbt wu hb;clear hb;obtain ⟨w9,wm⟩:=aV K1.o rfl rfl;go_wp2_with fail
 have hb:=jh W1 (.cells #[.string l,.string u] 24);have k2:=SBk.new W1 #[.string l,.string u] 24;generalize W1.alloc (.cells #[.string l,.string u] 24)=W2 at *;have r9:=hbt sw hb;have K2:=hid k2;clear k2 hb;with_reducible refine((xy _ l u _ SA.o K2.o.lt ⟨K2.o.cell (i:=0) rfl,K2.o.cell (i:=1) rfl⟩)).mono ?_
 rintro e W3 ⟨rfl,hb⟩;clear w9 wm;have ww:=hbt r9 hb;clear hb;go_wp2_with fail
 with_reducible refine((qw _ (HT.o.on ww.o))).mono ?_
 rintro e W4 ⟨rfl,hb⟩;have rM:=hbt ww hb;clear hb;go_wp2;exact bodyPost_ret (v:=.bool true) (by simp[results,Tryz.results3,go_sem]) rfl ⟨rfl,rM.o⟩
theorem z0w (l u z:ByteArray)(w₀:World)  (hla:La w₀)(sa:l.size≤40∧u.size≤40)(sz:40<z.size) :
 CV w₀ 3 #[.agg #[.string l,.string u],.string z] (.bool true):=by
 intro w hw;obtain ⟨HT,SA,SZ⟩:=av (hla.on hw) sa sz;clear hla sa sz hw;go_enter Tryz.func3,Tryz.ntmps3
 go_upto_region 1 with fail
 refine aH w [(#[.string l,.string u],24)] rfl ?_;rintro W0 ⟨k1,hb⟩;have wu:=hid (show Below w.heap.size w W0 from hb);have K1:=hid k1;clear k1 hb;go_wp2_with fail
 with_reducible refine((qw _ (HT.o.on wu.o))).mono ?_
 rintro e W1 ⟨rfl,hb⟩;have K1:=hid (K1.o.below hb);have sw:=hbt wu hb;clear hb;obtain ⟨w9,wm⟩:=aV K1.o rfl rfl;go_wp2_with fail
 have hb:=jh W1 (.cells #[.string l,.string u] 24);have k2:=SBk.new W1 #[.string l,.string u] 24;generalize W1.alloc (.cells #[.string l,.string u] 24)=W2 at *;have r9:=hbt sw hb;have K2:=hid k2;clear k2 hb;with_reducible refine((lY _ l u _ SA.o K2.o.lt ⟨K2.o.cell (i:=0) rfl,K2.o.cell (i:=1) rfl⟩)).mono ?_
 rintro e W3 ⟨rfl,hb⟩;clear w9 wm;have ww:=hbt r9 hb;clear hb;go_wp2_with fail
 have hb:=jh W3 (.cells #[.string z] 22);have k3:=SBk.new W3 #[.string z] 22;generalize W3.alloc (.cells #[.string z] 22)=W4 at *;have rM:=hbt ww hb;have K3:=hid k3;clear k3 hb;with_reducible refine((z1P _ z _ SZ.o (K3.o.cell (i:=0) rfl))).mono ?_
 rintro e W5 ⟨rfl,hb⟩;have rV:=hbt rM hb;clear hb;go_wp2_with fail
 with_reducible refine((qw _ (HT.o.on rV.o))).mono ?_
 rintro e W6 ⟨rfl,hb⟩;have pq:=hbt rV hb;clear hb;go_wp2;exact bodyPost_ret (v:=.bool true) (by simp[results,Tryz.results3,go_sem]) rfl ⟨rfl,pq.o⟩
theorem z1R (l u z:ByteArray)(s t:ByteArray)(ee nn es:Int)(bs bv bh:Bool)(w₀:World)(h1:CV w₀ 7 #[.string z] (.tuple #[.agg #[.string s,.string t],.int .i64 ee]))(h2:CV w₀ 8 #[.string z] (.tuple #[.agg #[.string s,.string t],.int .i64 ee]))(h3:CV w₀ 9 #[.agg #[.string l,.string u]] (.tuple #[.int .i64 nn,.bool bs,.int .i64 es]))(h4:CV w₀ 10 #[.agg #[.string l,.string u]] (.tuple #[.int .i64 nn,.bool bs,.int .i64 es]))(h5:CV w₀ 11 #[.agg #[.string l,.string u]] (.bool bv))(h6:CV w₀ 12 #[.agg #[.string l,.string u]] (.bool bv))(h7:CV w₀ 13 #[.agg #[.string l,.string u],.string z] (.bool bh))(h8:CV w₀ 14 #[.agg #[.string l,.string u],.string z] (.bool bh))(hla:La w₀)(sa:l.size≤40∧u.size≤40)(sz:z.size≤40) :
 CV w₀ 3 #[.agg #[.string l,.string u],.string z] (.bool true):=by
 intro w hw;obtain ⟨C1,C2,C3,C4,C5,C6,C7,C8,HT⟩:=cz (h1.mono hw) (h2.mono hw) (h3.mono hw) (h4.mono hw) (h5.mono hw) (h6.mono hw) (h7.mono hw) (h8.mono hw) (hla.on hw);have SA:=hid sa;have SZ:=hid sz;clear hla sa sz h1 h2 h3 h4 h5 h6 h7 h8 hw;go_enter Tryz.func3,Tryz.ntmps3
 go_upto_region 1 with fail
 refine aH w [(#[.string l,.string u],24)] rfl ?_;rintro W0 ⟨k1,hb⟩;have wu:=hid (show Below w.heap.size w W0 from hb);have K1:=hid k1;clear k1 hb;go_wp2_with fail
 with_reducible refine((qw _ (HT.o.on wu.o))).mono ?_
 rintro e W1 ⟨rfl,hb⟩;have K1:=hid (K1.o.below hb);have sw:=hbt wu hb;clear hb;obtain ⟨w9,wm⟩:=aV K1.o rfl rfl;go_wp2_with fail
 have hb:=jh W1 (.cells #[.string l,.string u] 24);have k2:=SBk.new W1 #[.string l,.string u] 24;generalize W1.alloc (.cells #[.string l,.string u] 24)=W2 at *;have K1:=hid (K1.o.below hb);have r9:=hbt sw hb;have K2:=hid k2;clear k2 hb;with_reducible refine((lY _ l u _ SA.o K2.o.lt ⟨K2.o.cell (i:=0) rfl,K2.o.cell (i:=1) rfl⟩)).mono ?_
 rintro e W3 ⟨rfl,hb⟩;clear w9 wm;obtain ⟨K1,K2⟩:=bG hb K1 K2;have ww:=hbt r9 hb;clear hb;go_wp2_with fail
 have hb:=jh W3 (.cells #[.string z] 22);have k3:=SBk.new W3 #[.string z] 22;generalize W3.alloc (.cells #[.string z] 22)=W4 at *;obtain ⟨K1,K2⟩:=bG hb K1 K2;have rM:=hbt ww hb;have K3:=hid k3;clear k3 hb;with_reducible refine((z2H _ z _ SZ.o (K3.o.cell (i:=0) rfl))).mono ?_
 rintro e W5 ⟨rfl,hb⟩;obtain ⟨K1,K2,K3⟩:=df hb K1 K2 K3;have rV:=hbt rM hb;clear hb;go_wp2_with fail
 with_reducible refine(C1.o _ rV.o).mono ?_
 rintro e W6 ⟨rfl,hb⟩;obtain ⟨K1,K2,K3⟩:=df hb K1 K2 K3;have pq:=hbt rV hb;clear hb;go_upto_region 4 with fail
 refine aH W6 [(#[.string s,.string t],24)] rfl ?_;have L1:=K1.o.lt;have L2:=K2.o.lt;have L3:=K3.o.lt;have L4:=pq.o.size;rintro W7 ⟨k4,hb⟩;have hb:Below W6.heap.size W6 W7:=hb;obtain ⟨K1,K2,K3⟩:=df hb K1 K2 K3;have ol:=hbt pq hb;have K4:=hid k4;clear k4 hb;go_wp2_with fail
 with_reducible refine(C2.o _ ol.o).mono ?_
 rintro e W8 ⟨rfl,hb⟩;obtain ⟨K1,K2,K3,K4⟩:=cB hb K1 K2 K3 K4;have oM:=hbt ol hb;clear hb;go_upto_region 5 with fail
 refine aH W8 [(#[.string s,.string t],24)] rfl ?_;have L5:=K1.o.lt;have L6:=K2.o.lt;have L7:=K3.o.lt;have L8:=K4.o.lt;have L9:=oM.o.size;rintro W9 ⟨k5,hb⟩;have hb:Below W8.heap.size W8 W9:=hb;obtain ⟨K1,K4⟩:=bG hb K1 K4;have oV:=hbt oM hb;have K5:=hid k5;clear k5 hb;obtain ⟨w9,wm⟩:=aV K1.o rfl rfl;go_wp2_with fail
 with_reducible refine(C3.o _ oV.o).mono ?_
 rintro e W10 ⟨rfl,hb⟩;clear w9 wm;obtain ⟨K1,K4,K5⟩:=df hb K1 K4 K5;have mf:=hbt oV hb;clear hb;obtain ⟨w9,wm⟩:=aV K1.o rfl rfl;go_wp2_with fail
 with_reducible refine(C4.o _ mf.o).mono ?_
 rintro e W11 ⟨rfl,hb⟩;clear w9 wm;obtain ⟨K1,K4,K5⟩:=df hb K1 K4 K5;have wo:=hbt mf hb;clear hb;go_wp2_with fail
 refine aX (fun a0 a' V=>a'=⟨putL [(50,.agg #[.string l,.string u]),(51,.bool bv),(52,.agg #[.string l,.string u]),(53,.bool bv),(54,.bool true),(55,.bool true),(56,.agg #[.string l,.string u]),(57,.string z),(58,.bool bh),(59,.agg #[.string l,.string u]),(60,.string z),(61,.bool bh),(62,.bool true),(63,.bool true),(64,.bool true),(65,.agg #[.string s,.string t]),(66,.agg #[.string s,.string t]),(67,.bool true),(68,.bool true),(69,.bool true),(70,.int .i64 ee),(71,.int .i64 ee),(72,.bool true),(73,.bool true),(74,.bool true),(75,.int .i64 nn),(76,.int .i64 nn),(77,.bool true),(78,.bool true),(79,.bool true),(80,.bool bs),(81,.bool bs),(82,.bool true),(83,.bool true),(84,.bool true),(85,.int .i64 es),(86,.int .i64 es),(87,.bool true),(88,.bool true),(4,.bool true)] a0.tmps,a0.defers⟩∧Below w.heap.size w V) ?_ ?_
 · refine bK (by kernel_rfl) 40 0 (fun i=>[50,51,52,53,54,55,56,57,58,59,60,61,62,63,64,65,66,67,68,69,70,71,72,73,74,75,76,77,78,79,80,81,82,83,84,85,86,87,88,4].getD i 0) (RelR [Rel.val (.agg #[.string l,.string u]),Rel.val (.bool bv),Rel.val (.agg #[.string l,.string u]),Rel.val (.bool bv),Rel.val (.bool true),Rel.val (.bool true),Rel.val (.agg #[.string l,.string u]),Rel.val (.string z),Rel.val (.bool bh),Rel.val (.agg #[.string l,.string u]),Rel.val (.string z),Rel.val (.bool bh),Rel.val (.bool true),Rel.val (.bool true),Rel.val (.bool true),Rel.val (.agg #[.string s,.string t]),Rel.val (.agg #[.string s,.string t]),Rel.val (.bool true),Rel.val (.bool true),Rel.val (.bool true),Rel.val (.int .i64 ee),Rel.val (.int .i64 ee),Rel.val (.bool true),Rel.val (.bool true),Rel.val (.bool true),Rel.val (.int .i64 nn),Rel.val (.int .i64 nn),Rel.val (.bool true),Rel.val (.bool true),Rel.val (.bool true),Rel.val (.bool bs),Rel.val (.bool bs),Rel.val (.bool true),Rel.val (.bool true),Rel.val (.bool true),Rel.val (.int .i64 es),Rel.val (.int .i64 es),Rel.val (.bool true),Rel.val (.bool true),Rel.val (.bool true)]) (fun W=>Below W11.heap.size W11 W) (fun _ _=>True) (by kernel_rfl) (by kernel_rfl) (by kernel_rfl) trivial (Below.refl _ _).drew ?_ ?_
   · intro u6 a W i hI hD hrd him
     obtain ⟨HI,HD,Hr⟩:=av hI hD hrd;clear hI hrd hD;have y2:a.tmps[2]? = some (.pointer (some ⟨w.heap.size,0,none⟩)):=HI.o.rest 2 (by decide);have y1:a.tmps[1]? = some (.string z):=HI.o.rest 1 (by decide);have y5:a.tmps[5]? = some (.pointer (some ⟨W6.heap.size,0,none⟩)):=HI.o.rest 5 (by decide);have y7:a.tmps[7]? = some (.pointer (some ⟨W8.heap.size,0,none⟩)):=HI.o.rest 7 (by decide);have y6:a.tmps[6]? = some (.int .i64 ee):=HI.o.rest 6 (by decide);have y8:a.tmps[8]? = some (.int .i64 ee):=HI.o.rest 8 (by decide);have y9:a.tmps[9]? = some (.int .i64 nn):=HI.o.rest 9 (by decide);have y12:a.tmps[12]? = some (.int .i64 nn):=HI.o.rest 12 (by decide);have y10:a.tmps[10]? = some (.bool bs):=HI.o.rest 10 (by decide);have y13:a.tmps[13]? = some (.bool bs):=HI.o.rest 13 (by decide);have y11:a.tmps[11]? = some (.int .i64 es):=HI.o.rest 11 (by decide);have y14:a.tmps[14]? = some (.int .i64 es):=HI.o.rest 14 (by decide);obtain ⟨w9,wm⟩:=aV (K1.o.below HI.o.world) rfl rfl;obtain ⟨kz,kM⟩:=aV (K4.o.below HI.o.world) rfl rfl;obtain ⟨kV,gy⟩:=aV (K5.o.below HI.o.world) rfl rfl;have X0:RV _ u6 a 0 50 (.agg #[.string l,.string u]):=HI.o.rh;have X2:RV _ u6 a 2 52 (.agg #[.string l,.string u]):=HI.o.rh;have X1:RV _ u6 a 1 51 (.bool bv):=HI.o.rh;have X3:RV _ u6 a 3 53 (.bool bv):=HI.o.rh;have X4:RV _ u6 a 4 54 (.bool true):=HI.o.rh;have X5:RV _ u6 a 5 55 (.bool true):=HI.o.rh;have X6:RV _ u6 a 6 56 (.agg #[.string l,.string u]):=HI.o.rh;have X7:RV _ u6 a 7 57 (.string z):=HI.o.rh;have X9:RV _ u6 a 9 59 (.agg #[.string l,.string u]):=HI.o.rh;have X10:RV _ u6 a 10 60 (.string z):=HI.o.rh;have X8:RV _ u6 a 8 58 (.bool bh):=HI.o.rh;have X11:RV _ u6 a 11 61 (.bool bh):=HI.o.rh;have X12:RV _ u6 a 12 62 (.bool true):=HI.o.rh;have X13:RV _ u6 a 13 63 (.bool true):=HI.o.rh;have X14:RV _ u6 a 14 64 (.bool true):=HI.o.rh;have X15:RV _ u6 a 15 65 (.agg #[.string s,.string t]):=HI.o.rh;have X16:RV _ u6 a 16 66 (.agg #[.string s,.string t]):=HI.o.rh;have X17:RV _ u6 a 17 67 (.bool true):=HI.o.rh;have X18:RV _ u6 a 18 68 (.bool true):=HI.o.rh;have X19:RV _ u6 a 19 69 (.bool true):=HI.o.rh;have X20:RV _ u6 a 20 70 (.int .i64 ee):=HI.o.rh;have X21:RV _ u6 a 21 71 (.int .i64 ee):=HI.o.rh;have X22:RV _ u6 a 22 72 (.bool true):=HI.o.rh;have X23:RV _ u6 a 23 73 (.bool true):=HI.o.rh;have X24:RV _ u6 a 24 74 (.bool true):=HI.o.rh;have X25:RV _ u6 a 25 75 (.int .i64 nn):=HI.o.rh;have X26:RV _ u6 a 26 76 (.int .i64 nn):=HI.o.rh;have X27:RV _ u6 a 27 77 (.bool true):=HI.o.rh;have X28:RV _ u6 a 28 78 (.bool true):=HI.o.rh;have X29:RV _ u6 a 29 79 (.bool true):=HI.o.rh;have X30:RV _ u6 a 30 80 (.bool bs):=HI.o.rh;have X31:RV _ u6 a 31 81 (.bool bs):=HI.o.rh;have X32:RV _ u6 a 32 82 (.bool true):=HI.o.rh;have X33:RV _ u6 a 33 83 (.bool true):=HI.o.rh;have X34:RV _ u6 a 34 84 (.bool true):=HI.o.rh;have X35:RV _ u6 a 35 85 (.int .i64 es):=HI.o.rh;have X36:RV _ u6 a 36 86 (.int .i64 es):=HI.o.rh;have X37:RV _ u6 a 37 87 (.bool true):=HI.o.rh;have X38:RV _ u6 a 38 88 (.bool true):=HI.o.rh
     match i,him,Hr with
     | 0,_,Hi =>
       refine aQ rfl fun K' hK=>?_;go_simp;exact hK.o _ _ ⟨HI.o.pv Hi.o rfl,trivial⟩
     | 1,_,Hi =>
       have x0:=X0.g Hi.o (by kernel_rfl);refine aQ rfl fun K' hK=>?_;go_simp;with_reducible refine(C5.o _ (wo.o.trans (HI.o.world.mono wo.o.size))).mono ?_
       rintro e W' ⟨rfl,hb⟩;exact hK.o _ _ ⟨HI.o.pc Hi.o hb rfl,trivial⟩
     | 2,_,Hi =>
       refine aQ rfl fun K' hK=>?_;go_simp;exact hK.o _ _ ⟨HI.o.pv Hi.o rfl,trivial⟩
     | 3,_,Hi =>
       have x2:=X2.g Hi.o (by kernel_rfl);refine aQ rfl fun K' hK=>?_;go_simp;with_reducible refine(C6.o _ (wo.o.trans (HI.o.world.mono wo.o.size))).mono ?_
       rintro e W' ⟨rfl,hb⟩;exact hK.o _ _ ⟨HI.o.pc Hi.o hb rfl,trivial⟩
     | 4,_,Hi =>
       have x1:=X1.g Hi.o (by kernel_rfl);have x3:=X3.g Hi.o (by kernel_rfl);refine aQ rfl fun K' hK=>?_;go_simp;exact hK.o _ _ ⟨HI.o.pv Hi.o rfl,trivial⟩
     | 5,_,Hi =>
       have x4:=X4.g Hi.o (by kernel_rfl);refine aQ rfl fun K' hK=>?_;go_simp;exact hK.o _ _ ⟨HI.o.pv Hi.o rfl,trivial⟩
     | 6,_,Hi =>
       have x5:=X5.g Hi.o (by kernel_rfl);refine aQ rfl fun K' hK=>?_;go_simp;exact hK.o _ _ ⟨HI.o.pv Hi.o rfl,trivial⟩
     | 7,_,Hi =>
       have x5:=X5.g Hi.o (by kernel_rfl);refine aQ rfl fun K' hK=>?_;go_simp;exact hK.o _ _ ⟨HI.o.pv Hi.o rfl,trivial⟩
     | 8,_,Hi =>
       have x6:=X6.g Hi.o (by kernel_rfl);have x7:=X7.g Hi.o (by kernel_rfl);have x5:=X5.g Hi.o (by kernel_rfl);refine aQ rfl fun K' hK=>?_;go_simp;with_reducible refine(C7.o _ (wo.o.trans (HI.o.world.mono wo.o.size))).mono ?_
       rintro e W' ⟨rfl,hb⟩;exact hK.o _ _ ⟨HI.o.pc Hi.o hb rfl,trivial⟩
     | 9,_,Hi =>
       have x5:=X5.g Hi.o (by kernel_rfl);refine aQ rfl fun K' hK=>?_;go_simp;exact hK.o _ _ ⟨HI.o.pv Hi.o rfl,trivial⟩
     | 10,_,Hi =>
       have x5:=X5.g Hi.o (by kernel_rfl);refine aQ rfl fun K' hK=>?_;go_simp;exact hK.o _ _ ⟨HI.o.pv Hi.o rfl,trivial⟩
     | 11,_,Hi =>
       have x9:=X9.g Hi.o (by kernel_rfl);have x10:=X10.g Hi.o (by kernel_rfl);have x5:=X5.g Hi.o (by kernel_rfl);refine aQ rfl fun K' hK=>?_;go_simp;with_reducible refine(C8.o _ (wo.o.trans (HI.o.world.mono wo.o.size))).mono ?_
       rintro e W' ⟨rfl,hb⟩;exact hK.o _ _ ⟨HI.o.pc Hi.o hb rfl,trivial⟩
     | 12,_,Hi =>
       have x8:=X8.g Hi.o (by kernel_rfl);have x11:=X11.g Hi.o (by kernel_rfl);have x5:=X5.g Hi.o (by kernel_rfl);refine aQ rfl fun K' hK=>?_;go_simp;exact hK.o _ _ ⟨HI.o.pv Hi.o rfl,trivial⟩
     | 13,_,Hi =>
       have x5:=X5.g Hi.o (by kernel_rfl);have x12:=X12.g Hi.o (by kernel_rfl);refine aQ rfl fun K' hK=>?_;go_simp;exact hK.o _ _ ⟨HI.o.pv Hi.o rfl,trivial⟩
     | 14,_,Hi =>
       have x13:=X13.g Hi.o (by kernel_rfl);refine aQ rfl fun K' hK=>?_;go_simp;exact hK.o _ _ ⟨HI.o.pv Hi.o rfl,trivial⟩
     | 15,_,Hi =>
       have x14:=X14.g Hi.o (by kernel_rfl);refine aQ rfl fun K' hK=>?_;go_simp;exact hK.o _ _ ⟨HI.o.pv Hi.o rfl,trivial⟩
     | 16,_,Hi =>
       have x14:=X14.g Hi.o (by kernel_rfl);refine aQ rfl fun K' hK=>?_;go_simp;exact hK.o _ _ ⟨HI.o.pv Hi.o rfl,trivial⟩
     | 17,_,Hi =>
       have x15:=X15.g Hi.o (by kernel_rfl);have x16:=X16.g Hi.o (by kernel_rfl);have x14:=X14.g Hi.o (by kernel_rfl);refine aQ rfl fun K' hK=>?_;go_simp;exact hK.o _ _ ⟨HI.o.pv Hi.o rfl,trivial⟩
     | 18,_,Hi =>
       have x14:=X14.g Hi.o (by kernel_rfl);have x17:=X17.g Hi.o (by kernel_rfl);refine aQ rfl fun K' hK=>?_;go_simp;exact hK.o _ _ ⟨HI.o.pv Hi.o rfl,trivial⟩
     | 19,_,Hi =>
       have x18:=X18.g Hi.o (by kernel_rfl);refine aQ rfl fun K' hK=>?_;go_simp;exact hK.o _ _ ⟨HI.o.pv Hi.o rfl,trivial⟩
     | 20,_,Hi =>
       have x19:=X19.g Hi.o (by kernel_rfl);refine aQ rfl fun K' hK=>?_;go_simp;exact hK.o _ _ ⟨HI.o.pv Hi.o rfl,trivial⟩
     | 21,_,Hi =>
       have x19:=X19.g Hi.o (by kernel_rfl);refine aQ rfl fun K' hK=>?_;go_simp;exact hK.o _ _ ⟨HI.o.pv Hi.o rfl,trivial⟩
     | 22,_,Hi =>
       have x20:=X20.g Hi.o (by kernel_rfl);have x21:=X21.g Hi.o (by kernel_rfl);have x19:=X19.g Hi.o (by kernel_rfl);refine aQ rfl fun K' hK=>?_;go_simp;exact hK.o _ _ ⟨HI.o.pv Hi.o rfl,trivial⟩
     | 23,_,Hi =>
       have x19:=X19.g Hi.o (by kernel_rfl);have x22:=X22.g Hi.o (by kernel_rfl);refine aQ rfl fun K' hK=>?_;go_simp;exact hK.o _ _ ⟨HI.o.pv Hi.o rfl,trivial⟩
     | 24,_,Hi =>
       have x23:=X23.g Hi.o (by kernel_rfl);refine aQ rfl fun K' hK=>?_;go_simp;exact hK.o _ _ ⟨HI.o.pv Hi.o rfl,trivial⟩
     | 25,_,Hi =>
       have x24:=X24.g Hi.o (by kernel_rfl);refine aQ rfl fun K' hK=>?_;go_simp;exact hK.o _ _ ⟨HI.o.pv Hi.o rfl,trivial⟩
     | 26,_,Hi =>
       have x24:=X24.g Hi.o (by kernel_rfl);refine aQ rfl fun K' hK=>?_;go_simp;exact hK.o _ _ ⟨HI.o.pv Hi.o rfl,trivial⟩
     | 27,_,Hi =>
       have x25:=X25.g Hi.o (by kernel_rfl);have x26:=X26.g Hi.o (by kernel_rfl);have x24:=X24.g Hi.o (by kernel_rfl);refine aQ rfl fun K' hK=>?_;go_simp;exact hK.o _ _ ⟨HI.o.pv Hi.o rfl,trivial⟩
     | 28,_,Hi =>
       have x24:=X24.g Hi.o (by kernel_rfl);have x27:=X27.g Hi.o (by kernel_rfl);refine aQ rfl fun K' hK=>?_;go_simp;exact hK.o _ _ ⟨HI.o.pv Hi.o rfl,trivial⟩
     | 29,_,Hi =>
       have x28:=X28.g Hi.o (by kernel_rfl);refine aQ rfl fun K' hK=>?_;go_simp;exact hK.o _ _ ⟨HI.o.pv Hi.o rfl,trivial⟩
     | 30,_,Hi =>
       have x29:=X29.g Hi.o (by kernel_rfl);refine aQ rfl fun K' hK=>?_;go_simp;exact hK.o _ _ ⟨HI.o.pv Hi.o rfl,trivial⟩
     | 31,_,Hi =>
       have x29:=X29.g Hi.o (by kernel_rfl);refine aQ rfl fun K' hK=>?_;go_simp;exact hK.o _ _ ⟨HI.o.pv Hi.o rfl,trivial⟩
     | 32,_,Hi =>
       have x30:=X30.g Hi.o (by kernel_rfl);have x31:=X31.g Hi.o (by kernel_rfl);have x29:=X29.g Hi.o (by kernel_rfl);refine aQ rfl fun K' hK=>?_;go_simp;exact hK.o _ _ ⟨HI.o.pv Hi.o rfl,trivial⟩
     | 33,_,Hi =>
       have x29:=X29.g Hi.o (by kernel_rfl);have x32:=X32.g Hi.o (by kernel_rfl);refine aQ rfl fun K' hK=>?_;go_simp;exact hK.o _ _ ⟨HI.o.pv Hi.o rfl,trivial⟩
     | 34,_,Hi =>
       have x33:=X33.g Hi.o (by kernel_rfl);refine aQ rfl fun K' hK=>?_;go_simp;exact hK.o _ _ ⟨HI.o.pv Hi.o rfl,trivial⟩
     | 35,_,Hi =>
       have x34:=X34.g Hi.o (by kernel_rfl);refine aQ rfl fun K' hK=>?_;go_simp;exact hK.o _ _ ⟨HI.o.pv Hi.o rfl,trivial⟩
     | 36,_,Hi =>
       have x34:=X34.g Hi.o (by kernel_rfl);refine aQ rfl fun K' hK=>?_;go_simp;exact hK.o _ _ ⟨HI.o.pv Hi.o rfl,trivial⟩
     | 37,_,Hi =>
       have x35:=X35.g Hi.o (by kernel_rfl);have x36:=X36.g Hi.o (by kernel_rfl);have x34:=X34.g Hi.o (by kernel_rfl);refine aQ rfl fun K' hK=>?_;go_simp;exact hK.o _ _ ⟨HI.o.pv Hi.o rfl,trivial⟩
     | 38,_,Hi =>
       have x34:=X34.g Hi.o (by kernel_rfl);have x37:=X37.g Hi.o (by kernel_rfl);refine aQ rfl fun K' hK=>?_;go_simp;exact hK.o _ _ ⟨HI.o.pv Hi.o rfl,trivial⟩
     | 39,_,Hi =>
       have x38:=X38.g Hi.o (by kernel_rfl);refine aQ rfl fun K' hK=>?_;go_simp;exact hK.o _ _ ⟨HI.o.pv Hi.o rfl,trivial⟩
     | n+40,h,_=>exact absurd h (by omega)
   · intro u6 a W hI hD mi
     obtain ⟨l5,HI,HA⟩:=av hI.world hI mi;clear hI mi;have lg:=hid (wo.o.trans (l5.o.mono wo.o.size));refine dA ?_;exact⟨rfl,(HI.o.finx ⟨HI.o.sx HA.o 0,HI.o.sx HA.o 1,HI.o.sx HA.o 2,HI.o.sx HA.o 3,HI.o.sx HA.o 4,HI.o.sx HA.o 5,HI.o.sx HA.o 6,HI.o.sx HA.o 7,HI.o.sx HA.o 8,HI.o.sx HA.o 9,HI.o.sx HA.o 10,HI.o.sx HA.o 11,HI.o.sx HA.o 12,HI.o.sx HA.o 13,HI.o.sx HA.o 14,HI.o.sx HA.o 15,HI.o.sx HA.o 16,HI.o.sx HA.o 17,HI.o.sx HA.o 18,HI.o.sx HA.o 19,HI.o.sx HA.o 20,HI.o.sx HA.o 21,HI.o.sx HA.o 22,HI.o.sx HA.o 23,HI.o.sx HA.o 24,HI.o.sx HA.o 25,HI.o.sx HA.o 26,HI.o.sx HA.o 27,HI.o.sx HA.o 28,HI.o.sx HA.o 29,HI.o.sx HA.o 30,HI.o.sx HA.o 31,HI.o.sx HA.o 32,HI.o.sx HA.o 33,HI.o.sx HA.o 34,HI.o.sx HA.o 35,HI.o.sx HA.o 36,HI.o.sx HA.o 37,HI.o.sx HA.o 38,HI.o.sx HA.o 39,trivial⟩ rfl),lg.o⟩
 rintro a' W12 ⟨rfl,z0⟩;have lv:=hid z0;clear z0;simp only[putL,List.setIfInBounds_toArray,List.set_cons_zero,List.set_cons_succ];go_wp2;exact bodyPost_ret (v:=.bool true) (by simp[results,Tryz.results3,go_sem]) rfl ⟨rfl,lv.o⟩
theorem tC (l u z:ByteArray)(w:World)(hl:La w) :
 CR 3 #[.agg #[.string l,.string u],.string z] w (.bool true):=by
 by_cases h1:40<l.size∨40<u.size
 · exact(z0v l u z w hl h1).at
 · by_cases h2:40<z.size
   · exact(z0w l u z w hl (by omega) h2).at
   · obtain⟨s,t,ee,k1,k2⟩:=z1L z (by omega) w hl
     obtain⟨nn,bs,es,k3,k4⟩:=z2F l u (by omega) (by omega) w hl;obtain⟨bv,k5,k6⟩:=z1K l u (by omega) (by omega) w hl;obtain⟨bh,k7,k8⟩:=z3i l u z (by omega) (by omega) (by omega) w hl;exact(z1R l u z s t ee nn es bs bv bh w k1 k2 k3 k4 k5 k6 k7 k8 hl (by omega) (by omega)).at
