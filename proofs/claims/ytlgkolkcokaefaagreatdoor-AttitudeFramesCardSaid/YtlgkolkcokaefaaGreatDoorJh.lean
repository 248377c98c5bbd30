/- texts -/
import Derived.Test.YtlgkolkcokaefaaGreatDoorMz46q
import Derived.Test.YtlgkolkcokaefaaGreatDoorMz30q
set_option maxRecDepth 100000
set_option maxHeartbeats 20000000
open Go.Lib (hid)
namespace Go.Proofs.YtlgkolkcokaefaaGreatDoor
open Go.RowKit Go.Gb
theorem z0W (p q x:ByteArray)(w₀:World)  (hla:La w₀)(fa:decide (p.size≤40∧q.size≤40)=false) :
 CV w₀ 3 #[.agg #[.string p,.string q],.string x] (.bool true):=by
 intro w hw;have HT:=hid (hla.on hw);have FA:=hid fa;clear hla fa hw;go_enter Tryz.func3,Tryz.ntmps3
 go_upto_region 1 with fail
 refine au w [(#[.string p,.string q],24)] rfl ?_;rintro W0 ⟨k1,hb⟩;have HB0:=hid (show Below w.heap.size w W0 from hb);have K1:=hid k1;clear k1 hb;go_wp2_with fail
 with_reducible refine((nM _ (HT.out.on HB0.out)).at).mono ?_
 rintro e W1 ⟨rfl,hb⟩;have K1:=hid (K1.out.below hb);have HB1:=hbt HB0 hb;clear hb;obtain ⟨dK10,dK11⟩:=aB K1.out rfl rfl;go_wp2_with fail
 with_reducible refine((hshA p q false _ FA.out).at).mono ?_
 rintro e W2 ⟨rfl,hb⟩;clear dK10 dK11;have HB2:=hbt HB1 hb;clear hb;go_wp2;exact bodyPost_ret (v:=.bool true) (by simp[results,Tryz.results3,go_sem]) rfl ⟨rfl,HB2.out⟩
theorem z0V (p q x:ByteArray)(w₀:World)  (hla:La w₀)(fa:decide (p.size≤40∧q.size≤40)=true)(fd:decide ((x.size:Int)≤40)=false) :
 CV w₀ 3 #[.agg #[.string p,.string q],.string x] (.bool true):=by
 intro w hw;obtain ⟨HT,FA,FD⟩:=ai (hla.on hw) fa fd;clear hla fa fd hw;go_enter Tryz.func3,Tryz.ntmps3
 go_upto_region 1 with fail
 refine au w [(#[.string p,.string q],24)] rfl ?_;rintro W0 ⟨k1,hb⟩;have HB0:=hid (show Below w.heap.size w W0 from hb);have K1:=hid k1;clear k1 hb;go_wp2_with fail
 with_reducible refine((nM _ (HT.out.on HB0.out)).at).mono ?_
 rintro e W1 ⟨rfl,hb⟩;have K1:=hid (K1.out.below hb);have HB1:=hbt HB0 hb;clear hb;obtain ⟨dK10,dK11⟩:=aB K1.out rfl rfl;go_wp2_with fail
 with_reducible refine((hshA p q true _ FA.out).at).mono ?_
 rintro e W2 ⟨rfl,hb⟩;clear dK10 dK11;have HB2:=hbt HB1 hb;clear hb;go_wp2_with fail
 with_reducible refine((hshort x false _ FD.out).at).mono ?_
 rintro e W3 ⟨rfl,hb⟩;have HB3:=hbt HB2 hb;clear hb;go_wp2;exact bodyPost_ret (v:=.bool true) (by simp[results,Tryz.results3,go_sem]) rfl ⟨rfl,HB3.out⟩
theorem z3R (p q x ea eb ec ga gb gc ja jb jc ta tb tc td na nb:ByteArray)(er es et eu:Int)(w₀:World)(h1:CV w₀ 11 #[.agg #[.string p,.string q]] (.tuple #[.agg #[.string ea,.string eb,.string ec,.string ga,.string gb,.string gc,.string ja,.string jb,.string jc],.int .i64 er]))(h2:CV w₀ 12 #[.agg #[.string p,.string q]] (.tuple #[.agg #[.string ea,.string eb,.string ec,.string ga,.string gb,.string gc,.string ja,.string jb,.string jc],.int .i64 er]))(h3:CV w₀ 13 #[.agg #[.string p,.string q],.string x] (.tuple #[.agg #[.string ta,.string tb,.string tc,.string td],.int .i64 es]))(h4:CV w₀ 14 #[.agg #[.string p,.string q],.string x] (.tuple #[.agg #[.string ta,.string tb,.string tc,.string td],.int .i64 es]))(h5:CV w₀ 15 #[.agg #[.string p,.string q]] (.tuple #[.agg #[.string na,.string nb],.int .i64 et]))(h6:CV w₀ 16 #[.agg #[.string p,.string q]] (.tuple #[.agg #[.string na,.string nb],.int .i64 et]))(h7:CV w₀ 17 #[.agg #[.string p,.string q]] (.int .i64 eu))(h8:CV w₀ 18 #[.agg #[.string p,.string q]] (.int .i64 eu))(hla:La w₀)(fa:decide (p.size≤40∧q.size≤40)=true)(fd:decide ((x.size:Int)≤40)=true) :
 CV w₀ 3 #[.agg #[.string p,.string q],.string x] (.bool true):=by
 intro w hw;obtain ⟨C1,C2,C3,C4,C5,C6,C7,C8,HT,FA,FD⟩:=gz (h1.mono hw) (h2.mono hw) (h3.mono hw) (h4.mono hw) (h5.mono hw) (h6.mono hw) (h7.mono hw) (h8.mono hw) (hla.on hw) fa fd;clear hla fa fd h1 h2 h3 h4 h5 h6 h7 h8 hw;go_enter Tryz.func3,Tryz.ntmps3
 go_upto_region 1 with fail
 refine au w [(#[.string p,.string q],24)] rfl ?_;rintro W0 ⟨k1,hb⟩;have HB0:=hid (show Below w.heap.size w W0 from hb);have K1:=hid k1;clear k1 hb;go_wp2_with fail
 with_reducible refine((nM _ (HT.out.on HB0.out)).at).mono ?_
 rintro e W1 ⟨rfl,hb⟩;have K1:=hid (K1.out.below hb);have HB1:=hbt HB0 hb;clear hb;obtain ⟨dK10,dK11⟩:=aB K1.out rfl rfl;go_wp2_with fail
 with_reducible refine((hshA p q true _ FA.out).at).mono ?_
 rintro e W2 ⟨rfl,hb⟩;clear dK10 dK11;have K1:=hid (K1.out.below hb);have HB2:=hbt HB1 hb;clear hb;go_wp2_with fail
 with_reducible refine((hshort x true _ FD.out).at).mono ?_
 rintro e W3 ⟨rfl,hb⟩;have K1:=hid (K1.out.below hb);have HB3:=hbt HB2 hb;clear hb;obtain ⟨dK10,dK11⟩:=aB K1.out rfl rfl;go_wp2_with fail
 with_reducible refine(C1.out _ HB3.out).mono ?_
 rintro e W4 ⟨rfl,hb⟩;clear dK10 dK11;have K1:=hid (K1.out.below hb);have HB4:=hbt HB3 hb;clear hb;go_upto_region 6 with fail
 refine au W4 [(#[.string ea,.string eb,.string ec,.string ga,.string gb,.string gc,.string ja,.string jb,.string jc],31)] rfl ?_;have L1:=K1.out.lt;have L2:=HB4.out.size;rintro W5 ⟨k2,hb⟩;have hb:Below W4.heap.size W4 W5:=hb;have K1:=hid (K1.out.below hb);have HB5:=hbt HB4 hb;have K2:=hid k2;clear k2 hb;obtain ⟨dK10,dK11⟩:=aB K1.out rfl rfl;go_wp2_with fail
 with_reducible refine(C2.out _ HB5.out).mono ?_
 rintro e W6 ⟨rfl,hb⟩;clear dK10 dK11;have K1:=hid (K1.out.below hb);have K2:=hid (K2.out.below hb);have HB6:=hbt HB5 hb;clear hb;go_upto_region 7 with fail
 refine au W6 [(#[.string ea,.string eb,.string ec,.string ga,.string gb,.string gc,.string ja,.string jb,.string jc],31)] rfl ?_;have L3:=K1.out.lt;have L4:=K2.out.lt;have L5:=HB6.out.size;rintro W7 ⟨k3,hb⟩;have hb:Below W6.heap.size W6 W7:=hb;have K1:=hid (K1.out.below hb);have K2:=hid (K2.out.below hb);have HB7:=hbt HB6 hb;have K3:=hid k3;clear k3 hb;obtain ⟨dK10,dK11⟩:=aB K1.out rfl rfl;go_wp2_with fail
 with_reducible refine(C3.out _ HB7.out).mono ?_
 rintro e W8 ⟨rfl,hb⟩;clear dK10 dK11;obtain ⟨K1,K2,K3⟩:=ai (K1.out.below hb) (K2.out.below hb) (K3.out.below hb);have HB8:=hbt HB7 hb;clear hb;go_upto_region 8 with fail
 refine au W8 [(#[.string ta,.string tb,.string tc,.string td],36)] rfl ?_;have L6:=K1.out.lt;have L7:=K2.out.lt;have L8:=K3.out.lt;have L9:=HB8.out.size;rintro W9 ⟨k4,hb⟩;have hb:Below W8.heap.size W8 W9:=hb;obtain ⟨K1,K2,K3⟩:=ai (K1.out.below hb) (K2.out.below hb) (K3.out.below hb);have HB9:=hbt HB8 hb;have K4:=hid k4;clear k4 hb;obtain ⟨dK10,dK11⟩:=aB K1.out rfl rfl;go_wp2_with fail
 with_reducible refine(C4.out _ HB9.out).mono ?_
 rintro e W10 ⟨rfl,hb⟩;clear dK10 dK11;obtain ⟨K1,K2,K3,K4⟩:=aH (K1.out.below hb) (K2.out.below hb) (K3.out.below hb) (K4.out.below hb);have HB10:=hbt HB9 hb;clear hb;go_upto_region 9 with fail
 refine au W10 [(#[.string ta,.string tb,.string tc,.string td],36)] rfl ?_;have L10:=K1.out.lt;have L11:=K2.out.lt;have L12:=K3.out.lt;have L13:=K4.out.lt;have L14:=HB10.out.size;rintro W11 ⟨k5,hb⟩;have hb:Below W10.heap.size W10 W11:=hb;obtain ⟨K1,K2,K3,K4⟩:=aH (K1.out.below hb) (K2.out.below hb) (K3.out.below hb) (K4.out.below hb);have HB11:=hbt HB10 hb;have K5:=hid k5;clear k5 hb;obtain ⟨dK10,dK11⟩:=aB K1.out rfl rfl;go_wp2_with fail
 with_reducible refine(C5.out _ HB11.out).mono ?_
 rintro e W12 ⟨rfl,hb⟩;clear dK10 dK11;obtain ⟨K1,K2,K3,K4,K5⟩:=aT (K1.out.below hb) (K2.out.below hb) (K3.out.below hb) (K4.out.below hb) (K5.out.below hb);have HB12:=hbt HB11 hb;clear hb;go_upto_region 10 with fail
 refine au W12 [(#[.string na,.string nb],24)] rfl ?_;have L15:=K1.out.lt;have L16:=K2.out.lt;have L17:=K3.out.lt;have L18:=K4.out.lt;have L19:=K5.out.lt;have L20:=HB12.out.size;rintro W13 ⟨k6,hb⟩;have hb:Below W12.heap.size W12 W13:=hb;obtain ⟨K1,K2,K3,K4,K5⟩:=aT (K1.out.below hb) (K2.out.below hb) (K3.out.below hb) (K4.out.below hb) (K5.out.below hb);have HB13:=hbt HB12 hb;have K6:=hid k6;clear k6 hb;obtain ⟨dK10,dK11⟩:=aB K1.out rfl rfl;go_wp2_with fail
 with_reducible refine(C6.out _ HB13.out).mono ?_
 rintro e W14 ⟨rfl,hb⟩;clear dK10 dK11;obtain ⟨K1,K2,K3,K4,K5,K6⟩:=bT (K1.out.below hb) (K2.out.below hb) (K3.out.below hb) (K4.out.below hb) (K5.out.below hb) (K6.out.below hb);have HB14:=hbt HB13 hb;clear hb;go_upto_region 11 with fail
 refine au W14 [(#[.string na,.string nb],24)] rfl ?_;have L21:=K1.out.lt;have L22:=K2.out.lt;have L23:=K3.out.lt;have L24:=K4.out.lt;have L25:=K5.out.lt;have L26:=K6.out.lt;have L27:=HB14.out.size;rintro W15 ⟨k7,hb⟩;have hb:Below W14.heap.size W14 W15:=hb;obtain ⟨K1,K2,K3,K4,K5,K6⟩:=bT (K1.out.below hb) (K2.out.below hb) (K3.out.below hb) (K4.out.below hb) (K5.out.below hb) (K6.out.below hb);have HB15:=hbt HB14 hb;have K7:=hid k7;clear k7 hb;go_wp2_with fail
 refine aC (fun a0 a' V=>a'=⟨putL [(59,.agg #[.string ea,.string eb,.string ec,.string ga,.string gb,.string gc,.string ja,.string jb,.string jc]),(60,.agg #[.string ea,.string eb,.string ec,.string ga,.string gb,.string gc,.string ja,.string jb,.string jc]),(61,.bool true),(62,.bool true),(63,.int .i64 er),(64,.int .i64 er),(65,.bool true),(66,.bool true),(67,.bool true),(68,.agg #[.string ta,.string tb,.string tc,.string td]),(69,.agg #[.string ta,.string tb,.string tc,.string td]),(70,.bool true),(71,.bool true),(72,.bool true),(73,.int .i64 es),(74,.int .i64 es),(75,.bool true),(76,.bool true),(77,.bool true),(78,.agg #[.string na,.string nb]),(79,.agg #[.string na,.string nb]),(80,.bool true),(81,.bool true),(82,.bool true),(83,.int .i64 et),(84,.int .i64 et),(85,.bool true),(86,.bool true),(87,.bool true),(88,.agg #[.string p,.string q]),(89,.int .i64 eu),(90,.agg #[.string p,.string q]),(91,.int .i64 eu),(92,.bool true),(93,.bool true),(4,.bool true)] a0.tmps,a0.defers⟩∧Below w.heap.size w V) ?_ ?_
 · refine az (by kernel_rfl) 36 0 (fun i=>[59,60,61,62,63,64,65,66,67,68,69,70,71,72,73,74,75,76,77,78,79,80,81,82,83,84,85,86,87,88,89,90,91,92,93,4].getD i 0) (RelR [Rel.val (.agg #[.string ea,.string eb,.string ec,.string ga,.string gb,.string gc,.string ja,.string jb,.string jc]),Rel.val (.agg #[.string ea,.string eb,.string ec,.string ga,.string gb,.string gc,.string ja,.string jb,.string jc]),Rel.val (.bool true),Rel.val (.bool true),Rel.val (.int .i64 er),Rel.val (.int .i64 er),Rel.val (.bool true),Rel.val (.bool true),Rel.val (.bool true),Rel.val (.agg #[.string ta,.string tb,.string tc,.string td]),Rel.val (.agg #[.string ta,.string tb,.string tc,.string td]),Rel.val (.bool true),Rel.val (.bool true),Rel.val (.bool true),Rel.val (.int .i64 es),Rel.val (.int .i64 es),Rel.val (.bool true),Rel.val (.bool true),Rel.val (.bool true),Rel.val (.agg #[.string na,.string nb]),Rel.val (.agg #[.string na,.string nb]),Rel.val (.bool true),Rel.val (.bool true),Rel.val (.bool true),Rel.val (.int .i64 et),Rel.val (.int .i64 et),Rel.val (.bool true),Rel.val (.bool true),Rel.val (.bool true),Rel.val (.agg #[.string p,.string q]),Rel.val (.int .i64 eu),Rel.val (.agg #[.string p,.string q]),Rel.val (.int .i64 eu),Rel.val (.bool true),Rel.val (.bool true),Rel.val (.bool true)]) (fun W=>Below W15.heap.size W15 W) (fun _ _=>True) (by kernel_rfl) (by kernel_rfl) (by kernel_rfl) trivial (Below.refl _ _).drew ?_ ?_
   · intro listed a W i hI hD hrd him
     obtain ⟨HI,HD,Hr⟩:=ai hI hD hrd;clear hI hrd hD;have y5:a.tmps[5]? = some (.pointer (some ⟨W4.heap.size,0,none⟩)):=HI.out.rest 5 (by decide);have y7:a.tmps[7]? = some (.pointer (some ⟨W6.heap.size,0,none⟩)):=HI.out.rest 7 (by decide);have y6:a.tmps[6]? = some (.int .i64 er):=HI.out.rest 6 (by decide);have y8:a.tmps[8]? = some (.int .i64 er):=HI.out.rest 8 (by decide);have y9:a.tmps[9]? = some (.pointer (some ⟨W8.heap.size,0,none⟩)):=HI.out.rest 9 (by decide);have y11:a.tmps[11]? = some (.pointer (some ⟨W10.heap.size,0,none⟩)):=HI.out.rest 11 (by decide);have y10:a.tmps[10]? = some (.int .i64 es):=HI.out.rest 10 (by decide);have y12:a.tmps[12]? = some (.int .i64 es):=HI.out.rest 12 (by decide);have y13:a.tmps[13]? = some (.pointer (some ⟨W12.heap.size,0,none⟩)):=HI.out.rest 13 (by decide);have y15:a.tmps[15]? = some (.pointer (some ⟨W14.heap.size,0,none⟩)):=HI.out.rest 15 (by decide);have y14:a.tmps[14]? = some (.int .i64 et):=HI.out.rest 14 (by decide);have y16:a.tmps[16]? = some (.int .i64 et):=HI.out.rest 16 (by decide);have y2:a.tmps[2]? = some (.pointer (some ⟨w.heap.size,0,none⟩)):=HI.out.rest 2 (by decide);obtain ⟨dK20,dK21,dK22,dK23,dK24,dK25,dK26,dK27,dK28⟩:=dR (K2.out.below HI.out.world) rfl rfl rfl rfl rfl rfl rfl rfl rfl;obtain ⟨dK30,dK31,dK32,dK33,dK34,dK35,dK36,dK37,dK38⟩:=dR (K3.out.below HI.out.world) rfl rfl rfl rfl rfl rfl rfl rfl rfl;obtain ⟨dK40,dK41,dK42,dK43⟩:=fI (K4.out.below HI.out.world) rfl rfl rfl rfl;obtain ⟨dK50,dK51,dK52,dK53⟩:=fI (K5.out.below HI.out.world) rfl rfl rfl rfl;obtain ⟨dK60,dK61⟩:=aB (K6.out.below HI.out.world) rfl rfl;obtain ⟨dK70,dK71⟩:=aB (K7.out.below HI.out.world) rfl rfl;obtain ⟨dK10,dK11⟩:=aB (K1.out.below HI.out.world) rfl rfl;have X0:RV _ listed a 0 59 (.agg #[.string ea,.string eb,.string ec,.string ga,.string gb,.string gc,.string ja,.string jb,.string jc]):=HI.out.rh;have X1:RV _ listed a 1 60 (.agg #[.string ea,.string eb,.string ec,.string ga,.string gb,.string gc,.string ja,.string jb,.string jc]):=HI.out.rh;have X2:RV _ listed a 2 61 (.bool true):=HI.out.rh;have X3:RV _ listed a 3 62 (.bool true):=HI.out.rh;have X4:RV _ listed a 4 63 (.int .i64 er):=HI.out.rh;have X5:RV _ listed a 5 64 (.int .i64 er):=HI.out.rh;have X6:RV _ listed a 6 65 (.bool true):=HI.out.rh;have X7:RV _ listed a 7 66 (.bool true):=HI.out.rh;have X8:RV _ listed a 8 67 (.bool true):=HI.out.rh;have X9:RV _ listed a 9 68 (.agg #[.string ta,.string tb,.string tc,.string td]):=HI.out.rh;have X10:RV _ listed a 10 69 (.agg #[.string ta,.string tb,.string tc,.string td]):=HI.out.rh;have X11:RV _ listed a 11 70 (.bool true):=HI.out.rh;have X12:RV _ listed a 12 71 (.bool true):=HI.out.rh;have X13:RV _ listed a 13 72 (.bool true):=HI.out.rh;have X14:RV _ listed a 14 73 (.int .i64 es):=HI.out.rh;have X15:RV _ listed a 15 74 (.int .i64 es):=HI.out.rh;have X16:RV _ listed a 16 75 (.bool true):=HI.out.rh;have X17:RV _ listed a 17 76 (.bool true):=HI.out.rh;have X18:RV _ listed a 18 77 (.bool true):=HI.out.rh;have X19:RV _ listed a 19 78 (.agg #[.string na,.string nb]):=HI.out.rh;have X20:RV _ listed a 20 79 (.agg #[.string na,.string nb]):=HI.out.rh;have X21:RV _ listed a 21 80 (.bool true):=HI.out.rh;have X22:RV _ listed a 22 81 (.bool true):=HI.out.rh;have X23:RV _ listed a 23 82 (.bool true):=HI.out.rh;have X24:RV _ listed a 24 83 (.int .i64 et):=HI.out.rh;have X25:RV _ listed a 25 84 (.int .i64 et):=HI.out.rh;have X26:RV _ listed a 26 85 (.bool true):=HI.out.rh;have X27:RV _ listed a 27 86 (.bool true):=HI.out.rh;have X28:RV _ listed a 28 87 (.bool true):=HI.out.rh;have X29:RV _ listed a 29 88 (.agg #[.string p,.string q]):=HI.out.rh;have X31:RV _ listed a 31 90 (.agg #[.string p,.string q]):=HI.out.rh;have X30:RV _ listed a 30 89 (.int .i64 eu):=HI.out.rh;have X32:RV _ listed a 32 91 (.int .i64 eu):=HI.out.rh;have X33:RV _ listed a 33 92 (.bool true):=HI.out.rh;have X34:RV _ listed a 34 93 (.bool true):=HI.out.rh
     match i,him,Hr with
     | 0,_,Hi =>
       refine ak rfl fun K' hK=>?_;go_simp;exact hK.out _ _ ⟨HI.out.pv Hi.out rfl,trivial⟩
     | 1,_,Hi =>
       refine ak rfl fun K' hK=>?_;go_simp;exact hK.out _ _ ⟨HI.out.pv Hi.out rfl,trivial⟩
     | 2,_,Hi =>
       have x0:=X0.g Hi.out (by kernel_rfl);have x1:=X1.g Hi.out (by kernel_rfl);refine ak rfl fun K' hK=>?_;go_simp;exact hK.out _ _ ⟨HI.out.pv Hi.out rfl,trivial⟩
     | 3,_,Hi =>
       have x2:=X2.g Hi.out (by kernel_rfl);refine ak rfl fun K' hK=>?_;go_simp;exact hK.out _ _ ⟨HI.out.pv Hi.out rfl,trivial⟩
     | 4,_,Hi =>
       have x3:=X3.g Hi.out (by kernel_rfl);refine ak rfl fun K' hK=>?_;go_simp;exact hK.out _ _ ⟨HI.out.pv Hi.out rfl,trivial⟩
     | 5,_,Hi =>
       have x3:=X3.g Hi.out (by kernel_rfl);refine ak rfl fun K' hK=>?_;go_simp;exact hK.out _ _ ⟨HI.out.pv Hi.out rfl,trivial⟩
     | 6,_,Hi =>
       have x4:=X4.g Hi.out (by kernel_rfl);have x5:=X5.g Hi.out (by kernel_rfl);have x3:=X3.g Hi.out (by kernel_rfl);refine ak rfl fun K' hK=>?_;go_simp;exact hK.out _ _ ⟨HI.out.pv Hi.out rfl,trivial⟩
     | 7,_,Hi =>
       have x3:=X3.g Hi.out (by kernel_rfl);have x6:=X6.g Hi.out (by kernel_rfl);refine ak rfl fun K' hK=>?_;go_simp;exact hK.out _ _ ⟨HI.out.pv Hi.out rfl,trivial⟩
     | 8,_,Hi =>
       have x7:=X7.g Hi.out (by kernel_rfl);refine ak rfl fun K' hK=>?_;go_simp;exact hK.out _ _ ⟨HI.out.pv Hi.out rfl,trivial⟩
     | 9,_,Hi =>
       have x8:=X8.g Hi.out (by kernel_rfl);refine ak rfl fun K' hK=>?_;go_simp;exact hK.out _ _ ⟨HI.out.pv Hi.out rfl,trivial⟩
     | 10,_,Hi =>
       have x8:=X8.g Hi.out (by kernel_rfl);refine ak rfl fun K' hK=>?_;go_simp;exact hK.out _ _ ⟨HI.out.pv Hi.out rfl,trivial⟩
     | 11,_,Hi =>
       have x9:=X9.g Hi.out (by kernel_rfl);have x10:=X10.g Hi.out (by kernel_rfl);have x8:=X8.g Hi.out (by kernel_rfl);refine ak rfl fun K' hK=>?_;go_simp;exact hK.out _ _ ⟨HI.out.pv Hi.out rfl,trivial⟩
     | 12,_,Hi =>
       have x8:=X8.g Hi.out (by kernel_rfl);have x11:=X11.g Hi.out (by kernel_rfl);refine ak rfl fun K' hK=>?_;go_simp;exact hK.out _ _ ⟨HI.out.pv Hi.out rfl,trivial⟩
     | 13,_,Hi =>
       have x12:=X12.g Hi.out (by kernel_rfl);refine ak rfl fun K' hK=>?_;go_simp;exact hK.out _ _ ⟨HI.out.pv Hi.out rfl,trivial⟩
     | 14,_,Hi =>
       have x13:=X13.g Hi.out (by kernel_rfl);refine ak rfl fun K' hK=>?_;go_simp;exact hK.out _ _ ⟨HI.out.pv Hi.out rfl,trivial⟩
     | 15,_,Hi =>
       have x13:=X13.g Hi.out (by kernel_rfl);refine ak rfl fun K' hK=>?_;go_simp;exact hK.out _ _ ⟨HI.out.pv Hi.out rfl,trivial⟩
     | 16,_,Hi =>
       have x14:=X14.g Hi.out (by kernel_rfl);have x15:=X15.g Hi.out (by kernel_rfl);have x13:=X13.g Hi.out (by kernel_rfl);refine ak rfl fun K' hK=>?_;go_simp;exact hK.out _ _ ⟨HI.out.pv Hi.out rfl,trivial⟩
     | 17,_,Hi =>
       have x13:=X13.g Hi.out (by kernel_rfl);have x16:=X16.g Hi.out (by kernel_rfl);refine ak rfl fun K' hK=>?_;go_simp;exact hK.out _ _ ⟨HI.out.pv Hi.out rfl,trivial⟩
     | 18,_,Hi =>
       have x17:=X17.g Hi.out (by kernel_rfl);refine ak rfl fun K' hK=>?_;go_simp;exact hK.out _ _ ⟨HI.out.pv Hi.out rfl,trivial⟩
     | 19,_,Hi =>
       have x18:=X18.g Hi.out (by kernel_rfl);refine ak rfl fun K' hK=>?_;go_simp;exact hK.out _ _ ⟨HI.out.pv Hi.out rfl,trivial⟩
     | 20,_,Hi =>
       have x18:=X18.g Hi.out (by kernel_rfl);refine ak rfl fun K' hK=>?_;go_simp;exact hK.out _ _ ⟨HI.out.pv Hi.out rfl,trivial⟩
     | 21,_,Hi =>
       have x19:=X19.g Hi.out (by kernel_rfl);have x20:=X20.g Hi.out (by kernel_rfl);have x18:=X18.g Hi.out (by kernel_rfl);refine ak rfl fun K' hK=>?_;go_simp;exact hK.out _ _ ⟨HI.out.pv Hi.out rfl,trivial⟩
     | 22,_,Hi =>
       have x18:=X18.g Hi.out (by kernel_rfl);have x21:=X21.g Hi.out (by kernel_rfl);refine ak rfl fun K' hK=>?_;go_simp;exact hK.out _ _ ⟨HI.out.pv Hi.out rfl,trivial⟩
     | 23,_,Hi =>
       have x22:=X22.g Hi.out (by kernel_rfl);refine ak rfl fun K' hK=>?_;go_simp;exact hK.out _ _ ⟨HI.out.pv Hi.out rfl,trivial⟩
     | 24,_,Hi =>
       have x23:=X23.g Hi.out (by kernel_rfl);refine ak rfl fun K' hK=>?_;go_simp;exact hK.out _ _ ⟨HI.out.pv Hi.out rfl,trivial⟩
     | 25,_,Hi =>
       have x23:=X23.g Hi.out (by kernel_rfl);refine ak rfl fun K' hK=>?_;go_simp;exact hK.out _ _ ⟨HI.out.pv Hi.out rfl,trivial⟩
     | 26,_,Hi =>
       have x24:=X24.g Hi.out (by kernel_rfl);have x25:=X25.g Hi.out (by kernel_rfl);have x23:=X23.g Hi.out (by kernel_rfl);refine ak rfl fun K' hK=>?_;go_simp;exact hK.out _ _ ⟨HI.out.pv Hi.out rfl,trivial⟩
     | 27,_,Hi =>
       have x23:=X23.g Hi.out (by kernel_rfl);have x26:=X26.g Hi.out (by kernel_rfl);refine ak rfl fun K' hK=>?_;go_simp;exact hK.out _ _ ⟨HI.out.pv Hi.out rfl,trivial⟩
     | 28,_,Hi =>
       have x27:=X27.g Hi.out (by kernel_rfl);refine ak rfl fun K' hK=>?_;go_simp;exact hK.out _ _ ⟨HI.out.pv Hi.out rfl,trivial⟩
     | 29,_,Hi =>
       have x28:=X28.g Hi.out (by kernel_rfl);refine ak rfl fun K' hK=>?_;go_simp;exact hK.out _ _ ⟨HI.out.pv Hi.out rfl,trivial⟩
     | 30,_,Hi =>
       have x29:=X29.g Hi.out (by kernel_rfl);have x28:=X28.g Hi.out (by kernel_rfl);refine ak rfl fun K' hK=>?_;go_simp;with_reducible refine(C7.out _ (HB15.out.trans (HI.out.world.mono HB15.out.size))).mono ?_
       rintro e W' ⟨rfl,hb⟩;exact hK.out _ _ ⟨HI.out.pc Hi.out hb rfl,trivial⟩
     | 31,_,Hi =>
       have x28:=X28.g Hi.out (by kernel_rfl);refine ak rfl fun K' hK=>?_;go_simp;exact hK.out _ _ ⟨HI.out.pv Hi.out rfl,trivial⟩
     | 32,_,Hi =>
       have x31:=X31.g Hi.out (by kernel_rfl);have x28:=X28.g Hi.out (by kernel_rfl);refine ak rfl fun K' hK=>?_;go_simp;with_reducible refine(C8.out _ (HB15.out.trans (HI.out.world.mono HB15.out.size))).mono ?_
       rintro e W' ⟨rfl,hb⟩;exact hK.out _ _ ⟨HI.out.pc Hi.out hb rfl,trivial⟩
     | 33,_,Hi =>
       have x30:=X30.g Hi.out (by kernel_rfl);have x32:=X32.g Hi.out (by kernel_rfl);have x28:=X28.g Hi.out (by kernel_rfl);refine ak rfl fun K' hK=>?_;go_simp;exact hK.out _ _ ⟨HI.out.pv Hi.out rfl,trivial⟩
     | 34,_,Hi =>
       have x28:=X28.g Hi.out (by kernel_rfl);have x33:=X33.g Hi.out (by kernel_rfl);refine ak rfl fun K' hK=>?_;go_simp;exact hK.out _ _ ⟨HI.out.pv Hi.out rfl,trivial⟩
     | 35,_,Hi =>
       have x34:=X34.g Hi.out (by kernel_rfl);refine ak rfl fun K' hK=>?_;go_simp;exact hK.out _ _ ⟨HI.out.pv Hi.out rfl,trivial⟩
     | n+36,h,_=>exact absurd h (by omega)
   · intro listed a W hI hD hall
     obtain ⟨HBW,HI,HA⟩:=ai hI.world hI hall;clear hI hall;have HBX:=hid (HB15.out.trans (HBW.out.mono HB15.out.size));refine aY ?_;exact⟨rfl,(HI.out.finx ⟨HI.out.sx HA.out 0,HI.out.sx HA.out 1,HI.out.sx HA.out 2,HI.out.sx HA.out 3,HI.out.sx HA.out 4,HI.out.sx HA.out 5,HI.out.sx HA.out 6,HI.out.sx HA.out 7,HI.out.sx HA.out 8,HI.out.sx HA.out 9,HI.out.sx HA.out 10,HI.out.sx HA.out 11,HI.out.sx HA.out 12,HI.out.sx HA.out 13,HI.out.sx HA.out 14,HI.out.sx HA.out 15,HI.out.sx HA.out 16,HI.out.sx HA.out 17,HI.out.sx HA.out 18,HI.out.sx HA.out 19,HI.out.sx HA.out 20,HI.out.sx HA.out 21,HI.out.sx HA.out 22,HI.out.sx HA.out 23,HI.out.sx HA.out 24,HI.out.sx HA.out 25,HI.out.sx HA.out 26,HI.out.sx HA.out 27,HI.out.sx HA.out 28,HI.out.sx HA.out 29,HI.out.sx HA.out 30,HI.out.sx HA.out 31,HI.out.sx HA.out 32,HI.out.sx HA.out 33,HI.out.sx HA.out 34,HI.out.sx HA.out 35,trivial⟩ rfl),HBX.out⟩
 rintro a' W16 ⟨rfl,z0⟩;have HB16:=hid z0;clear z0;simp only[putL,List.setIfInBounds_toArray,List.set_cons_zero,List.set_cons_succ];go_wp2;exact bodyPost_ret (v:=.bool true) (by simp[results,Tryz.results3,go_sem]) rfl ⟨rfl,HB16.out⟩
end Go.Proofs.YtlgkolkcokaefaaGreatDoor
