/- texts -/
import Derived.Test.YtkiklcbhglpooaaGreatDoorMz45q
import Derived.Test.YtkiklcbhglpooaaGreatDoorYfb
open Go.Proofs.Tryz
set_option maxRecDepth 100000
set_option maxHeartbeats 20000000
open Go.Lib (hid)
namespace Go.Proofs.YtkiklcbhglpooaaGreatDoor
open Go.RowKit Go.Gb
theorem z5B (n:Int)(w₀:World)  (f1:n<1) :
 CV w₀ 41 #[.int .i64 n] (.bool false):=by
 intro w hw;have g1:decide (1≤n)=false:=decide_eq_false (by omega);have g2:¬ 1≤n:=by omega
 clear f1 hw;go_enter func41,ntmps41
 have u6:=hid (Below.refl w.heap.size w);go_wp2;exact bodyPost_ret (v:=.bool false) (by simp[results,results41,go_sem]) rfl ⟨rfl,u6.o⟩
theorem z5C (n:Int)(w₀:World)  (f1:24<n) :
 CV w₀ 41 #[.int .i64 n] (.bool false):=by
 intro w hw;have g1:decide (1≤n)=true:=decide_eq_true (by omega);have g2:1≤n:=by omega
 have g3:decide (n≤24)=false:=decide_eq_false (by omega);have g4:¬ n≤24:=by omega
 clear f1 hw;go_enter func41,ntmps41
 have u6:=hid (Below.refl w.heap.size w);go_wp2;exact bodyPost_ret (v:=.bool false) (by simp[results,results41,go_sem]) rfl ⟨rfl,u6.o⟩
theorem z6C (n:Int)(w₀:World)(h1:CV w₀ 41 #[.int .i64 n] (.bool false))  :
 CV w₀ 11 #[.int .i64 n] (.tuple #[.agg #[.string ⟨#[]⟩,.string ⟨#[]⟩],.int .i64 2]):=by
 intro w hw;have C1:=hid (h1.mono hw);clear h1 hw;go_enter func11,ntmps11
 go_upto_region 1 with fail
 refine ak w [(#[.string ⟨#[]⟩,.string ⟨#[]⟩],27)] rfl ?_;rintro W0 ⟨k1,hb⟩;have u6:=hid (show Below w.heap.size w W0 from hb);have K1:=hid k1;clear k1 hb;go_wp2_with fail
 with_reducible refine(C1.o _ u6.o).mono ?_
 rintro e W1 ⟨rfl,hb⟩;have K1:=hid (K1.o.below hb);have w9:=hbt u6 hb;clear hb;obtain ⟨wm,wo⟩:=ay K1.o rfl rfl;obtain ⟨pu,ol⟩:=aR K1.o;go_wp2;exact bodyPost_ret (v:=.tuple #[.agg #[.string ⟨#[]⟩,.string ⟨#[]⟩],.int .i64 2]) (by simp[results,results11,go_sem,wm,wo]) rfl ⟨rfl,(aj (l:=[.string ⟨#[]⟩,.string ⟨#[]⟩]) (i:=0) (by omega) w9.o)⟩
theorem uU (t:ByteArray)(n:Int)(w₀:World)  (kc:Ck1 w₀ t 1) :
 CV w₀ 45 #[.string t,.int .i64 n,.func (.func 46) #[] #[]] (.tuple #[.agg #[.string ⟨#[]⟩,.string ⟨#[]⟩],.int .i64 1]):=by
 intro w hw;have KC:=hid (fM kc hw);clear kc hw;go_enter func45,ntmps45
 go_upto_region 1 with fail
 refine ak w [(#[.string ⟨#[]⟩,.string ⟨#[]⟩],27)] rfl ?_;rintro W0 ⟨k1,hb⟩;have u6:=hid (show Below w.heap.size w W0 from hb);have K1:=hid k1;clear k1 hb;go_wp2_with fail
 have hb:=dL W0 (.cells #[.string t] 25);have k2:=SBk.new W0 #[.string t] 25;generalize W0.alloc (.cells #[.string t] 25)=W1 at *;have K1:=hid (K1.o.below hb);have w9:=hbt u6 hb;have K2:=hid k2;clear k2 hb;with_reducible refine((KC.o _ _ w9.o K2.o)).mono ?_
 rintro e W2 ⟨rfl,hb⟩;have K1:=hid (K1.o.below hb);have wu:=hbt w9 hb;clear hb;obtain ⟨wm,wo⟩:=ay K1.o rfl rfl;obtain ⟨pu,ol⟩:=aR K1.o;go_wp2;exact bodyPost_ret (v:=.tuple #[.agg #[.string ⟨#[]⟩,.string ⟨#[]⟩],.int .i64 1]) (by simp[results,results45,go_sem,wm,wo]) rfl ⟨rfl,(aj (l:=[.string ⟨#[]⟩,.string ⟨#[]⟩]) (i:=0) (by omega) wu.o)⟩
theorem uT (t:ByteArray)(n:Int)(w₀:World)  (kc:Ck1 w₀ t 2) :
 CV w₀ 45 #[.string t,.int .i64 n,.func (.func 46) #[] #[]] (.tuple #[.agg #[.string ⟨#[]⟩,.string ⟨#[]⟩],.int .i64 2]):=by
 intro w hw;have KC:=hid (fM kc hw);clear kc hw;go_enter func45,ntmps45
 go_upto_region 1 with fail
 refine ak w [(#[.string ⟨#[]⟩,.string ⟨#[]⟩],27)] rfl ?_;rintro W0 ⟨k1,hb⟩;have u6:=hid (show Below w.heap.size w W0 from hb);have K1:=hid k1;clear k1 hb;go_wp2_with fail
 have hb:=dL W0 (.cells #[.string t] 25);have k2:=SBk.new W0 #[.string t] 25;generalize W0.alloc (.cells #[.string t] 25)=W1 at *;have K1:=hid (K1.o.below hb);have w9:=hbt u6 hb;have K2:=hid k2;clear k2 hb;with_reducible refine((KC.o _ _ w9.o K2.o)).mono ?_
 rintro e W2 ⟨rfl,hb⟩;have K1:=hid (K1.o.below hb);have wu:=hbt w9 hb;clear hb;obtain ⟨wm,wo⟩:=ay K1.o rfl rfl;obtain ⟨pu,ol⟩:=aR K1.o;go_wp2;exact bodyPost_ret (v:=.tuple #[.agg #[.string ⟨#[]⟩,.string ⟨#[]⟩],.int .i64 2]) (by simp[results,results45,go_sem,wm,wo]) rfl ⟨rfl,(aj (l:=[.string ⟨#[]⟩,.string ⟨#[]⟩]) (i:=0) (by omega) wu.o)⟩
theorem uS (t:ByteArray)(n:Int)(w₀:World)(h1:CV w₀ 41 #[.int .i64 n] (.bool false))(kc:Ck1 w₀ t 0) :
 CV w₀ 45 #[.string t,.int .i64 n,.func (.func 46) #[] #[]] (.tuple #[.agg #[.string ⟨#[]⟩,.string ⟨#[]⟩],.int .i64 2]):=by
 intro w hw;have C1:=hid (h1.mono hw);have KC:=hid (fM kc hw);clear kc h1 hw;go_enter func45,ntmps45
 go_upto_region 1 with fail
 refine ak w [(#[.string ⟨#[]⟩,.string ⟨#[]⟩],27)] rfl ?_;rintro W0 ⟨k1,hb⟩;have u6:=hid (show Below w.heap.size w W0 from hb);have K1:=hid k1;clear k1 hb;go_wp2_with fail
 have hb:=dL W0 (.cells #[.string t] 25);have k2:=SBk.new W0 #[.string t] 25;generalize W0.alloc (.cells #[.string t] 25)=W1 at *;have K1:=hid (K1.o.below hb);have w9:=hbt u6 hb;have K2:=hid k2;clear k2 hb;with_reducible refine((KC.o _ _ w9.o K2.o)).mono ?_
 rintro e W2 ⟨rfl,hb⟩;have K1:=hid (K1.o.below hb);have wu:=hbt w9 hb;clear hb;go_wp2_with fail
 with_reducible refine(C1.o _ wu.o).mono ?_
 rintro e W3 ⟨rfl,hb⟩;have K1:=hid (K1.o.below hb);have sj:=hbt wu hb;clear hb;obtain ⟨wm,wo⟩:=ay K1.o rfl rfl;obtain ⟨pu,ol⟩:=aR K1.o;go_wp2;exact bodyPost_ret (v:=.tuple #[.agg #[.string ⟨#[]⟩,.string ⟨#[]⟩],.int .i64 2]) (by simp[results,results45,go_sem,wm,wo]) rfl ⟨rfl,(aj (l:=[.string ⟨#[]⟩,.string ⟨#[]⟩]) (i:=0) (by omega) sj.o)⟩
theorem uQ (t:ByteArray)(n:Int)(w₀:World)  (kc:Ck1 w₀ t 1) :
 CV w₀ 45 #[.string t,.int .i64 n,.func (.func 49) #[] #[]] (.tuple #[.agg #[.string ⟨#[]⟩,.string ⟨#[]⟩],.int .i64 1]):=by
 intro w hw;have KC:=hid (fM kc hw);clear kc hw;go_enter func45,ntmps45
 go_upto_region 1 with fail
 refine ak w [(#[.string ⟨#[]⟩,.string ⟨#[]⟩],27)] rfl ?_;rintro W0 ⟨k1,hb⟩;have u6:=hid (show Below w.heap.size w W0 from hb);have K1:=hid k1;clear k1 hb;go_wp2_with fail
 have hb:=dL W0 (.cells #[.string t] 25);have k2:=SBk.new W0 #[.string t] 25;generalize W0.alloc (.cells #[.string t] 25)=W1 at *;have K1:=hid (K1.o.below hb);have w9:=hbt u6 hb;have K2:=hid k2;clear k2 hb;with_reducible refine((KC.o _ _ w9.o K2.o)).mono ?_
 rintro e W2 ⟨rfl,hb⟩;have K1:=hid (K1.o.below hb);have wu:=hbt w9 hb;clear hb;obtain ⟨wm,wo⟩:=ay K1.o rfl rfl;obtain ⟨pu,ol⟩:=aR K1.o;go_wp2;exact bodyPost_ret (v:=.tuple #[.agg #[.string ⟨#[]⟩,.string ⟨#[]⟩],.int .i64 1]) (by simp[results,results45,go_sem,wm,wo]) rfl ⟨rfl,(aj (l:=[.string ⟨#[]⟩,.string ⟨#[]⟩]) (i:=0) (by omega) wu.o)⟩
theorem uP (t:ByteArray)(n:Int)(w₀:World)  (kc:Ck1 w₀ t 2) :
 CV w₀ 45 #[.string t,.int .i64 n,.func (.func 49) #[] #[]] (.tuple #[.agg #[.string ⟨#[]⟩,.string ⟨#[]⟩],.int .i64 2]):=by
 intro w hw;have KC:=hid (fM kc hw);clear kc hw;go_enter func45,ntmps45
 go_upto_region 1 with fail
 refine ak w [(#[.string ⟨#[]⟩,.string ⟨#[]⟩],27)] rfl ?_;rintro W0 ⟨k1,hb⟩;have u6:=hid (show Below w.heap.size w W0 from hb);have K1:=hid k1;clear k1 hb;go_wp2_with fail
 have hb:=dL W0 (.cells #[.string t] 25);have k2:=SBk.new W0 #[.string t] 25;generalize W0.alloc (.cells #[.string t] 25)=W1 at *;have K1:=hid (K1.o.below hb);have w9:=hbt u6 hb;have K2:=hid k2;clear k2 hb;with_reducible refine((KC.o _ _ w9.o K2.o)).mono ?_
 rintro e W2 ⟨rfl,hb⟩;have K1:=hid (K1.o.below hb);have wu:=hbt w9 hb;clear hb;obtain ⟨wm,wo⟩:=ay K1.o rfl rfl;obtain ⟨pu,ol⟩:=aR K1.o;go_wp2;exact bodyPost_ret (v:=.tuple #[.agg #[.string ⟨#[]⟩,.string ⟨#[]⟩],.int .i64 2]) (by simp[results,results45,go_sem,wm,wo]) rfl ⟨rfl,(aj (l:=[.string ⟨#[]⟩,.string ⟨#[]⟩]) (i:=0) (by omega) wu.o)⟩
theorem uO (t:ByteArray)(n:Int)(w₀:World)(h1:CV w₀ 41 #[.int .i64 n] (.bool false))(kc:Ck1 w₀ t 0) :
 CV w₀ 45 #[.string t,.int .i64 n,.func (.func 49) #[] #[]] (.tuple #[.agg #[.string ⟨#[]⟩,.string ⟨#[]⟩],.int .i64 2]):=by
 intro w hw;have C1:=hid (h1.mono hw);have KC:=hid (fM kc hw);clear kc h1 hw;go_enter func45,ntmps45
 go_upto_region 1 with fail
 refine ak w [(#[.string ⟨#[]⟩,.string ⟨#[]⟩],27)] rfl ?_;rintro W0 ⟨k1,hb⟩;have u6:=hid (show Below w.heap.size w W0 from hb);have K1:=hid k1;clear k1 hb;go_wp2_with fail
 have hb:=dL W0 (.cells #[.string t] 25);have k2:=SBk.new W0 #[.string t] 25;generalize W0.alloc (.cells #[.string t] 25)=W1 at *;have K1:=hid (K1.o.below hb);have w9:=hbt u6 hb;have K2:=hid k2;clear k2 hb;with_reducible refine((KC.o _ _ w9.o K2.o)).mono ?_
 rintro e W2 ⟨rfl,hb⟩;have K1:=hid (K1.o.below hb);have wu:=hbt w9 hb;clear hb;go_wp2_with fail
 with_reducible refine(C1.o _ wu.o).mono ?_
 rintro e W3 ⟨rfl,hb⟩;have K1:=hid (K1.o.below hb);have sj:=hbt wu hb;clear hb;obtain ⟨wm,wo⟩:=ay K1.o rfl rfl;obtain ⟨pu,ol⟩:=aR K1.o;go_wp2;exact bodyPost_ret (v:=.tuple #[.agg #[.string ⟨#[]⟩,.string ⟨#[]⟩],.int .i64 2]) (by simp[results,results45,go_sem,wm,wo]) rfl ⟨rfl,(aj (l:=[.string ⟨#[]⟩,.string ⟨#[]⟩]) (i:=0) (by omega) sj.o)⟩
theorem z2v (x:ByteArray)(n:Int)(w₀:World)  (hla:La w₀)(f1:9<x.size) :
 CV w₀ 4 #[.string x,.int .i64 n] (.bool true):=by
 intro w hw;have HT:=hid (hla.on hw);clear hla;have g1:(9:Int)<(x.size:Int):=by omega
 clear f1 hw;go_enter func4,ntmps4
 have u6:=hid (Below.refl w.heap.size w);go_wp2_with fail
 with_reducible refine((fJ _ (HT.o.on u6.o)).at).mono ?_
 rintro e W1 ⟨rfl,hb⟩;have w9:=hbt u6 hb;clear hb;go_wp2_with fail
 with_reducible refine((fJ _ (HT.o.on w9.o)).at).mono ?_
 rintro e W2 ⟨rfl,hb⟩;have wu:=hbt w9 hb;clear hb;go_wp2;exact bodyPost_ret (v:=.bool true) (by simp[results,results4,go_sem]) rfl ⟨rfl,wu.o⟩
theorem z2u (x:ByteArray)(n:Int)(w₀:World)  (hla:La w₀)(f1:¬ 9<x.size)(f2:6<n)(f3:n≤24) :
 CV w₀ 4 #[.string x,.int .i64 n] (.bool true):=by
 intro w hw;have HT:=hid (hla.on hw);clear hla;have g1:¬ (9:Int)<(x.size:Int):=by omega
 have g2:decide (6<n)=true:=decide_eq_true f2;have g4:6<n:=f2;have g3:decide (n≤24)=true:=decide_eq_true f3;have g5:n≤24:=f3;clear f1 f2 f3 hw;go_enter func4,ntmps4
 have u6:=hid (Below.refl w.heap.size w);go_wp2_with fail
 with_reducible refine((fJ _ (HT.o.on u6.o)).at).mono ?_
 rintro e W1 ⟨rfl,hb⟩;have w9:=hbt u6 hb;clear hb;go_wp2_with fail
 with_reducible refine((fJ _ (HT.o.on w9.o)).at).mono ?_
 rintro e W2 ⟨rfl,hb⟩;have wu:=hbt w9 hb;clear hb;go_wp2;exact bodyPost_ret (v:=.bool true) (by simp[results,results4,go_sem]) rfl ⟨rfl,wu.o⟩
theorem z4O (x:ByteArray)(n:Int)(s1 t1 s2 t2 s3 t3:ByteArray)(e1 e2 e3:Int)(w₀:World)(h1:CV w₀ 11 #[.int .i64 n] (.tuple #[.agg #[.string s1,.string t1],.int .i64 e1]))(h2:CV w₀ 12 #[.int .i64 n] (.tuple #[.agg #[.string s1,.string t1],.int .i64 e1]))(h3:CV w₀ 13 #[.string x,.int .i64 n] (.tuple #[.agg #[.string s2,.string t2],.int .i64 e2]))(h4:CV w₀ 14 #[.string x,.int .i64 n] (.tuple #[.agg #[.string s2,.string t2],.int .i64 e2]))(h5:CV w₀ 15 #[.string x,.int .i64 n] (.tuple #[.agg #[.string s3,.string t3],.int .i64 e3]))(h6:CV w₀ 16 #[.string x,.int .i64 n] (.tuple #[.agg #[.string s3,.string t3],.int .i64 e3]))(hla:La w₀)(f1:¬ 9<x.size)(f2:n≤6) :
 CV w₀ 4 #[.string x,.int .i64 n] (.bool true):=by
 intro w hw;obtain ⟨C1,C2,C3,C4,C5,C6,HT⟩:=dQ (h1.mono hw) (h2.mono hw) (h3.mono hw) (h4.mono hw) (h5.mono hw) (h6.mono hw) (hla.on hw);clear hla;have g1:¬ (9:Int)<(x.size:Int):=by omega
 clear f1;have g2:decide (6<n)=false:=decide_eq_false (by omega);have g4:¬ 6<n:=by omega
 clear f2 h1 h2 h3 h4 h5 h6 hw;go_enter func4,ntmps4
 have u6:=hid (Below.refl w.heap.size w);go_wp2_with fail
 with_reducible refine((fJ _ (HT.o.on u6.o)).at).mono ?_
 rintro e W1 ⟨rfl,hb⟩;have w9:=hbt u6 hb;clear hb;go_wp2_with fail
 with_reducible refine(C1.o _ w9.o).mono ?_
 rintro e W2 ⟨rfl,hb⟩;have wu:=hbt w9 hb;clear hb;go_upto_region 4 with fail
 refine ak W2 [(#[.string s1,.string t1],27)] rfl ?_;have L1:=wu.o.size;rintro W3 ⟨k1,hb⟩;have hb:Below W2.heap.size W2 W3:=hb;have sj:=hbt wu hb;have K1:=hid k1;clear k1 hb;go_wp2_with fail
 with_reducible refine(C2.o _ sj.o).mono ?_
 rintro e W4 ⟨rfl,hb⟩;have K1:=hid (K1.o.below hb);have oM:=hbt sj hb;clear hb;go_upto_region 5 with fail
 refine ak W4 [(#[.string s1,.string t1],27)] rfl ?_;have L2:=K1.o.lt;have L3:=oM.o.size;rintro W5 ⟨k2,hb⟩;have hb:Below W4.heap.size W4 W5:=hb;have K1:=hid (K1.o.below hb);have oV:=hbt oM hb;have K2:=hid k2;clear k2 hb;go_wp2_with fail
 with_reducible refine(C3.o _ oV.o).mono ?_
 rintro e W6 ⟨rfl,hb⟩;obtain ⟨K1,K2⟩:=aO hb K1 K2;have ma:=hbt oV hb;clear hb;go_upto_region 6 with fail
 refine ak W6 [(#[.string s2,.string t2],27)] rfl ?_;have L4:=K1.o.lt;have L5:=K2.o.lt;have L6:=ma.o.size;rintro W7 ⟨k3,hb⟩;have hb:Below W6.heap.size W6 W7:=hb;obtain ⟨K1,K2⟩:=aO hb K1 K2;have mf:=hbt ma hb;have K3:=hid k3;clear k3 hb;go_wp2_with fail
 with_reducible refine(C4.o _ mf.o).mono ?_
 rintro e W8 ⟨rfl,hb⟩;obtain ⟨K1,K2,K3⟩:=bA hb K1 K2 K3;have mi:=hbt mf hb;clear hb;go_upto_region 7 with fail
 refine ak W8 [(#[.string s2,.string t2],27)] rfl ?_;have L7:=K1.o.lt;have L8:=K2.o.lt;have L9:=K3.o.lt;have L10:=mi.o.size;rintro W9 ⟨k4,hb⟩;have hb:Below W8.heap.size W8 W9:=hb;obtain ⟨K1,K2,K3⟩:=bA hb K1 K2 K3;have l5:=hbt mi hb;have K4:=hid k4;clear k4 hb;go_wp2_with fail
 with_reducible refine(C5.o _ l5.o).mono ?_
 rintro e W10 ⟨rfl,hb⟩;obtain ⟨K1,K2,K3,K4⟩:=bR hb K1 K2 K3 K4;have l6:=hbt l5 hb;clear hb;go_upto_region 8 with fail
 refine ak W10 [(#[.string s3,.string t3],27)] rfl ?_;have L11:=K1.o.lt;have L12:=K2.o.lt;have L13:=K3.o.lt;have L14:=K4.o.lt;have L15:=l6.o.size;rintro W11 ⟨k5,hb⟩;have hb:Below W10.heap.size W10 W11:=hb;obtain ⟨K1,K2,K3,K4⟩:=bR hb K1 K2 K3 K4;have lg:=hbt l6 hb;have K5:=hid k5;clear k5 hb;go_wp2_with fail
 with_reducible refine(C6.o _ lg.o).mono ?_
 rintro e W12 ⟨rfl,hb⟩;obtain ⟨K1,K2,K3,K4,K5⟩:=eQ hb K1 K2 K3 K4 K5;have lv:=hbt lg hb;clear hb;go_upto_region 9 with fail
 refine ak W12 [(#[.string s3,.string t3],27)] rfl ?_;have L16:=K1.o.lt;have L17:=K2.o.lt;have L18:=K3.o.lt;have L19:=K4.o.lt;have L20:=K5.o.lt;have L21:=lv.o.size;rintro W13 ⟨k6,hb⟩;have hb:Below W12.heap.size W12 W13:=hb;obtain ⟨K1,K2,K3,K4,K5⟩:=eQ hb K1 K2 K3 K4 K5;have kz:=hbt lv hb;have K6:=hid k6;clear k6 hb;obtain ⟨wm,wo⟩:=ay K1.o rfl rfl;obtain ⟨ww,si⟩:=ay K2.o rfl rfl;obtain ⟨sw,rM⟩:=ay K3.o rfl rfl;obtain ⟨fq,fQ⟩:=ay K4.o rfl rfl;obtain ⟨ed,d9⟩:=ay K5.o rfl rfl;obtain ⟨dn,dx⟩:=ay K6.o rfl rfl;go_wp2;exact bodyPost_ret (v:=.bool true) (by simp[results,results4,go_sem]) rfl ⟨rfl,kz.o⟩
theorem z4P (x:ByteArray)(n:Int)(s1 t1 s2 t2 s3 t3:ByteArray)(e1 e2 e3:Int)(w₀:World)(h1:CV w₀ 11 #[.int .i64 n] (.tuple #[.agg #[.string s1,.string t1],.int .i64 e1]))(h2:CV w₀ 12 #[.int .i64 n] (.tuple #[.agg #[.string s1,.string t1],.int .i64 e1]))(h3:CV w₀ 13 #[.string x,.int .i64 n] (.tuple #[.agg #[.string s2,.string t2],.int .i64 e2]))(h4:CV w₀ 14 #[.string x,.int .i64 n] (.tuple #[.agg #[.string s2,.string t2],.int .i64 e2]))(h5:CV w₀ 15 #[.string x,.int .i64 n] (.tuple #[.agg #[.string s3,.string t3],.int .i64 e3]))(h6:CV w₀ 16 #[.string x,.int .i64 n] (.tuple #[.agg #[.string s3,.string t3],.int .i64 e3]))(hla:La w₀)(f1:¬ 9<x.size)(f2:24<n) :
 CV w₀ 4 #[.string x,.int .i64 n] (.bool true):=by
 intro w hw;obtain ⟨C1,C2,C3,C4,C5,C6,HT⟩:=dQ (h1.mono hw) (h2.mono hw) (h3.mono hw) (h4.mono hw) (h5.mono hw) (h6.mono hw) (hla.on hw);clear hla;have g1:¬ (9:Int)<(x.size:Int):=by omega
 clear f1;have g2:decide (6<n)=true:=decide_eq_true (by omega);have g4:6<n:=by omega
 have g3:decide (n≤24)=false:=decide_eq_false (by omega);have g5:¬ n≤24:=by omega
 clear f2 h1 h2 h3 h4 h5 h6 hw;go_enter func4,ntmps4
 have u6:=hid (Below.refl w.heap.size w);go_wp2_with fail
 with_reducible refine((fJ _ (HT.o.on u6.o)).at).mono ?_
 rintro e W1 ⟨rfl,hb⟩;have w9:=hbt u6 hb;clear hb;go_wp2_with fail
 with_reducible refine(C1.o _ w9.o).mono ?_
 rintro e W2 ⟨rfl,hb⟩;have wu:=hbt w9 hb;clear hb;go_upto_region 4 with fail
 refine ak W2 [(#[.string s1,.string t1],27)] rfl ?_;have L1:=wu.o.size;rintro W3 ⟨k1,hb⟩;have hb:Below W2.heap.size W2 W3:=hb;have sj:=hbt wu hb;have K1:=hid k1;clear k1 hb;go_wp2_with fail
 with_reducible refine(C2.o _ sj.o).mono ?_
 rintro e W4 ⟨rfl,hb⟩;have K1:=hid (K1.o.below hb);have oM:=hbt sj hb;clear hb;go_upto_region 5 with fail
 refine ak W4 [(#[.string s1,.string t1],27)] rfl ?_;have L2:=K1.o.lt;have L3:=oM.o.size;rintro W5 ⟨k2,hb⟩;have hb:Below W4.heap.size W4 W5:=hb;have K1:=hid (K1.o.below hb);have oV:=hbt oM hb;have K2:=hid k2;clear k2 hb;go_wp2_with fail
 with_reducible refine(C3.o _ oV.o).mono ?_
 rintro e W6 ⟨rfl,hb⟩;obtain ⟨K1,K2⟩:=aO hb K1 K2;have ma:=hbt oV hb;clear hb;go_upto_region 6 with fail
 refine ak W6 [(#[.string s2,.string t2],27)] rfl ?_;have L4:=K1.o.lt;have L5:=K2.o.lt;have L6:=ma.o.size;rintro W7 ⟨k3,hb⟩;have hb:Below W6.heap.size W6 W7:=hb;obtain ⟨K1,K2⟩:=aO hb K1 K2;have mf:=hbt ma hb;have K3:=hid k3;clear k3 hb;go_wp2_with fail
 with_reducible refine(C4.o _ mf.o).mono ?_
 rintro e W8 ⟨rfl,hb⟩;obtain ⟨K1,K2,K3⟩:=bA hb K1 K2 K3;have mi:=hbt mf hb;clear hb;go_upto_region 7 with fail
 refine ak W8 [(#[.string s2,.string t2],27)] rfl ?_;have L7:=K1.o.lt;have L8:=K2.o.lt;have L9:=K3.o.lt;have L10:=mi.o.size;rintro W9 ⟨k4,hb⟩;have hb:Below W8.heap.size W8 W9:=hb;obtain ⟨K1,K2,K3⟩:=bA hb K1 K2 K3;have l5:=hbt mi hb;have K4:=hid k4;clear k4 hb;go_wp2_with fail
 with_reducible refine(C5.o _ l5.o).mono ?_
 rintro e W10 ⟨rfl,hb⟩;obtain ⟨K1,K2,K3,K4⟩:=bR hb K1 K2 K3 K4;have l6:=hbt l5 hb;clear hb;go_upto_region 8 with fail
 refine ak W10 [(#[.string s3,.string t3],27)] rfl ?_;have L11:=K1.o.lt;have L12:=K2.o.lt;have L13:=K3.o.lt;have L14:=K4.o.lt;have L15:=l6.o.size;rintro W11 ⟨k5,hb⟩;have hb:Below W10.heap.size W10 W11:=hb;obtain ⟨K1,K2,K3,K4⟩:=bR hb K1 K2 K3 K4;have lg:=hbt l6 hb;have K5:=hid k5;clear k5 hb;go_wp2_with fail
 with_reducible refine(C6.o _ lg.o).mono ?_
 rintro e W12 ⟨rfl,hb⟩;obtain ⟨K1,K2,K3,K4,K5⟩:=eQ hb K1 K2 K3 K4 K5;have lv:=hbt lg hb;clear hb;go_upto_region 9 with fail
 refine ak W12 [(#[.string s3,.string t3],27)] rfl ?_;have L16:=K1.o.lt;have L17:=K2.o.lt;have L18:=K3.o.lt;have L19:=K4.o.lt;have L20:=K5.o.lt;have L21:=lv.o.size;rintro W13 ⟨k6,hb⟩;have hb:Below W12.heap.size W12 W13:=hb;obtain ⟨K1,K2,K3,K4,K5⟩:=eQ hb K1 K2 K3 K4 K5;have kz:=hbt lv hb;have K6:=hid k6;clear k6 hb;obtain ⟨wm,wo⟩:=ay K1.o rfl rfl;obtain ⟨ww,si⟩:=ay K2.o rfl rfl;obtain ⟨sw,rM⟩:=ay K3.o rfl rfl;obtain ⟨fq,fQ⟩:=ay K4.o rfl rfl;obtain ⟨ed,d9⟩:=ay K5.o rfl rfl;obtain ⟨dn,dx⟩:=ay K6.o rfl rfl;go_wp2;exact bodyPost_ret (v:=.bool true) (by simp[results,results4,go_sem]) rfl ⟨rfl,kz.o⟩
open Go.Lib (hid)
set_option linter.unusedSimpArgs false
theorem z3o (xa ya:Rat)(k:Int)(q1:QS)(q2:QS)(w:World)(hk:decide (k≤0)=true)(h1:KP2 87 xa ya (.int .i64 k))(r1:FQ w q1 xa)(r2:FQ w q2 ya) :
 Calls Tryz.prog 183 #[(QS.v q1),(QS.v q2)] w (RQ w xa):=by
 dsimp only[QS.v];obtain ⟨C1,R1,R2⟩:=au h1 r1 r2;have hkk:=hk;clear hk h1 r1 r2;go_enter func183,ntmps183
 go_upto_region 1 with fail
 refine ak w [(q1.l.toArray,50),(q2.l.toArray,50),(#[.bool false,.slice none 0 0,.slice none 0 0],50)] rfl ?_;rintro W0 ⟨k1,k2,k3,hb⟩;have u6:=hid (show Below w.heap.size w W0 from hb);obtain ⟨R1,R2⟩:=aO u6.o R1 R2;obtain ⟨K1,K2,K3⟩:=au k1 k2 k3;clear k1 k2 k3 hb;obtain ⟨wm,wo,rV⟩:=aC K1.o rfl rfl rfl;obtain ⟨ww,si,p8⟩:=aC K2.o rfl rfl rfl;go_wp2_with fail
 with_reducible refine(C1.o _ _ _ R1.o R2.o).mono ?_
 rintro e W1 ⟨rfl,hb⟩;clear wm wo rV ww si p8;obtain ⟨K1,K3,R1⟩:=bA hb K1 K3 R1;have w9:=hbt u6 hb;clear hb;obtain ⟨wm,wo,rV⟩:=aC K1.o rfl rfl rfl;obtain ⟨sw,rM,pq⟩:=aC K3.o rfl rfl rfl;obtain ⟨kM,kV,gy⟩:=bB K3.o;go_wp2;exact bodyPost_ret (v:=q1.v) (by simp[Lvv,QS.l,Qvv,QS.v,results,results183,go_sem,sw,rM,pq]) rfl ⟨_,rfl,(bO q1.l 0 R1.o K3.o (by simp[bJ,Lvv,QS.l]) (by simp[aW,Lvv,QS.l])),(aj (l:=q1.l) (i:=0) (by omega) w9.o)⟩
theorem z3p (xa ya:Rat)(k:Int)(q1:QS)(q2:QS)(w:World)(hk:decide (k≤0)=false)(h1:KP2 87 xa ya (.int .i64 k))(r1:FQ w q1 xa)(r2:FQ w q2 ya) :
 Calls Tryz.prog 183 #[(QS.v q1),(QS.v q2)] w (RQ w ya):=by
 dsimp only[QS.v];obtain ⟨C1,R1,R2⟩:=au h1 r1 r2;have hkk:=hk;clear hk h1 r1 r2;go_enter func183,ntmps183
 go_upto_region 1 with fail
 refine ak w [(q1.l.toArray,50),(q2.l.toArray,50),(#[.bool false,.slice none 0 0,.slice none 0 0],50)] rfl ?_;rintro W0 ⟨k1,k2,k3,hb⟩;have u6:=hid (show Below w.heap.size w W0 from hb);obtain ⟨R1,R2⟩:=aO u6.o R1 R2;obtain ⟨K1,K2,K3⟩:=au k1 k2 k3;clear k1 k2 k3 hb;obtain ⟨wm,wo,rV⟩:=aC K1.o rfl rfl rfl;obtain ⟨ww,si,p8⟩:=aC K2.o rfl rfl rfl;go_wp2_with fail
 with_reducible refine(C1.o _ _ _ R1.o R2.o).mono ?_
 rintro e W1 ⟨rfl,hb⟩;clear wm wo rV ww si p8;obtain ⟨K2,K3,R2⟩:=bA hb K2 K3 R2;have w9:=hbt u6 hb;clear hb;obtain ⟨ww,si,p8⟩:=aC K2.o rfl rfl rfl;obtain ⟨sw,rM,pq⟩:=aC K3.o rfl rfl rfl;obtain ⟨kM,kV,gy⟩:=bB K3.o;go_wp2;exact bodyPost_ret (v:=q2.v) (by simp[Lvv,QS.l,Qvv,QS.v,results,results183,go_sem,sw,rM,pq]) rfl ⟨_,rfl,(bO q2.l 0 R2.o K3.o (by simp[bJ,Lvv,QS.l]) (by simp[aW,Lvv,QS.l])),(aj (l:=q2.l) (i:=0) (by omega) w9.o)⟩
theorem z6p {x y:Rat}(hx:SmQ 900 x)(hy:SmQ 900 y):KQ2 183 x y (lstQ x y):=by
 intro q0 q1 W r0 r1;have C:=kp2 (zB x y _ rfl (sZ hx (by decide) (by decide)) (sZ hy (by decide) (by decide)));unfold lstQ
 by_cases hc:cmpQ x y≤0
 · rw[if_pos hc]
   exact z3o x y _ q0 q1 W (decide_eq_true hc) C r0 r1
 · rw[if_neg hc]
   exact z3p x y _ q0 q1 W (decide_eq_false hc) C r0 r1
theorem z5j (xa ya:Rat)(k:Int)(q1:QS)(q2:QS)(w:World)(hk:decide (0≤k)=true)(h1:KP2 87 xa ya (.int .i64 k))(r1:FQ w q1 xa)(r2:FQ w q2 ya) :
 Calls Tryz.prog 184 #[(QS.v q1),(QS.v q2)] w (RQ w xa):=by
 dsimp only[QS.v];obtain ⟨C1,R1,R2⟩:=au h1 r1 r2;have hkk:=hk;clear hk h1 r1 r2;go_enter func184,ntmps184
 go_upto_region 1 with fail
 refine ak w [(q1.l.toArray,50),(q2.l.toArray,50),(#[.bool false,.slice none 0 0,.slice none 0 0],50)] rfl ?_;rintro W0 ⟨k1,k2,k3,hb⟩;have u6:=hid (show Below w.heap.size w W0 from hb);obtain ⟨R1,R2⟩:=aO u6.o R1 R2;obtain ⟨K1,K2,K3⟩:=au k1 k2 k3;clear k1 k2 k3 hb;obtain ⟨wm,wo,rV⟩:=aC K1.o rfl rfl rfl;obtain ⟨ww,si,p8⟩:=aC K2.o rfl rfl rfl;go_wp2_with fail
 with_reducible refine(C1.o _ _ _ R1.o R2.o).mono ?_
 rintro e W1 ⟨rfl,hb⟩;clear wm wo rV ww si p8;obtain ⟨K1,K3,R1⟩:=bA hb K1 K3 R1;have w9:=hbt u6 hb;clear hb;obtain ⟨wm,wo,rV⟩:=aC K1.o rfl rfl rfl;obtain ⟨sw,rM,pq⟩:=aC K3.o rfl rfl rfl;obtain ⟨kM,kV,gy⟩:=bB K3.o;go_wp2;exact bodyPost_ret (v:=q1.v) (by simp[Lvv,QS.l,Qvv,QS.v,results,results184,go_sem,sw,rM,pq]) rfl ⟨_,rfl,(bO q1.l 0 R1.o K3.o (by simp[bJ,Lvv,QS.l]) (by simp[aW,Lvv,QS.l])),(aj (l:=q1.l) (i:=0) (by omega) w9.o)⟩
theorem z5k (xa ya:Rat)(k:Int)(q1:QS)(q2:QS)(w:World)(hk:decide (0≤k)=false)(h1:KP2 87 xa ya (.int .i64 k))(r1:FQ w q1 xa)(r2:FQ w q2 ya) :
 Calls Tryz.prog 184 #[(QS.v q1),(QS.v q2)] w (RQ w ya):=by
 dsimp only[QS.v];obtain ⟨C1,R1,R2⟩:=au h1 r1 r2;have hkk:=hk;clear hk h1 r1 r2;go_enter func184,ntmps184
 go_upto_region 1 with fail
 refine ak w [(q1.l.toArray,50),(q2.l.toArray,50),(#[.bool false,.slice none 0 0,.slice none 0 0],50)] rfl ?_;rintro W0 ⟨k1,k2,k3,hb⟩;have u6:=hid (show Below w.heap.size w W0 from hb);obtain ⟨R1,R2⟩:=aO u6.o R1 R2;obtain ⟨K1,K2,K3⟩:=au k1 k2 k3;clear k1 k2 k3 hb;obtain ⟨wm,wo,rV⟩:=aC K1.o rfl rfl rfl;obtain ⟨ww,si,p8⟩:=aC K2.o rfl rfl rfl;go_wp2_with fail
 with_reducible refine(C1.o _ _ _ R1.o R2.o).mono ?_
 rintro e W1 ⟨rfl,hb⟩;clear wm wo rV ww si p8;obtain ⟨K2,K3,R2⟩:=bA hb K2 K3 R2;have w9:=hbt u6 hb;clear hb;obtain ⟨ww,si,p8⟩:=aC K2.o rfl rfl rfl;obtain ⟨sw,rM,pq⟩:=aC K3.o rfl rfl rfl;obtain ⟨kM,kV,gy⟩:=bB K3.o;go_wp2;exact bodyPost_ret (v:=q2.v) (by simp[Lvv,QS.l,Qvv,QS.v,results,results184,go_sem,sw,rM,pq]) rfl ⟨_,rfl,(bO q2.l 0 R2.o K3.o (by simp[bJ,Lvv,QS.l]) (by simp[aW,Lvv,QS.l])),(aj (l:=q2.l) (i:=0) (by omega) w9.o)⟩
theorem z7g {x y:Rat}(hx:SmQ 900 x)(hy:SmQ 900 y):KQ2 184 x y (mstQ x y):=by
 intro q0 q1 W r0 r1;have C:=kp2 (zB x y _ rfl (sZ hx (by decide) (by decide)) (sZ hy (by decide) (by decide)));unfold mstQ
 by_cases hc:0≤cmpQ x y
 · rw[if_pos hc]
   exact z5j x y _ q0 q1 W (decide_eq_true hc) C r0 r1
 · rw[if_neg hc]
   exact z5k x y _ q0 q1 W (decide_eq_false hc) C r0 r1
theorem hTo {x:Rat}(hx:SmQ 900 x):KP1 81 x (.string (Sq x)):=kp1 (sQTo x _ rfl (hx.mono (by decide)))
theorem hMul {x y:Rat}(hx:SmQ 900 x)(hy:SmQ 900 y):KQ2 30 x y (x*y):=kq2 (z6g x y _ rfl (ylq hx (by decide)) (ylq hy (by decide)))
theorem hAdd {x y:Rat}(hx:SmQ 900 x)(hy:SmQ 900 y):KQ2 29 x y (x+y):=kq2 (z6i x y _ rfl (ylq hx (by decide)) (ylq hy (by decide)))
theorem hSub {x y:Rat}(hx:SmQ 900 x)(hy:SmQ 900 y):KQ2 106 x y (x-y):=kq2 (z6U x y _ rfl (ylq hx (by decide)) (ylq hy (by decide)))
theorem hDiv {x y:Rat}(h0:y≠0)(hx:SmQ 900 x)(hy:SmQ 900 y):KQ2 83 x y (x / y):=kq2 (z6V x y _ rfl h0 (ylq hx (by decide)) (ylq hy (by decide)))
theorem hInv {x:Rat}(h0:x≠0)(hx:SmQ 900 x):KQ1 132 x x⁻¹:=kq1 (z6h x _ rfl h0 (ylq hx (by decide)))
theorem hNeg {x:Rat}(hx:SmQ 900 x):KQ1 105 x (-x):=kq1 (z6f x _ rfl (ylq hx (by decide)))
theorem hCmp {x y:Rat}(hx:SmQ 900 x)(hy:SmQ 900 y):KP2 87 x y (.int .i64 (cmpQ x y)):=kp2 (zB x y _ rfl (ylq hx (by decide)) (ylq hy (by decide)))
theorem hInt (k:Int)(n:Nat)(q:Rat)(hk:(n:Int)=k)(h2:n≤2000000000)(hn:q.num=k)(hd:q.den=1):KS 27 (.int .i64 k) q:=ks (fun W=>z2N k q n hk h2 hn hd W)
theorem z6q (a l:Int)(n:Nat)(q:Rat)(hS:∀ W,CZ 66 #[.int .i64 a] W a)(ha:aa a≤50000)(hl:(n:Int)=l)(h1:1≤n)(h2:n≤1000000)(hq:mkRat a n=q):KS2 86 (.int .i64 a) (.int .i64 l) q:=fun W=>by
 subst hl;refine(z3u a (n:Int) a q.num n q.den (by simp[IntKind.wrap,IntKind.bits,IntKind.signed];omega) W hS (fun W=>kD (n:Int) n rfl (by omega) W) (fun p1 c1 s2 d2 W a b=>?_)).mono ?_
 · exact qO _ n q hq (by omega) ha (Nat.le_trans (iQ (show n≤1000000 by omega)) (by decide +kernel)) p1 c1 s2 d2 W a b
 · rintro e w' ⟨p,c,s,d,he,r1,r2,hb⟩
   exact⟨⟨_,p,_,c,s,_,d⟩,he,⟨rfl,rfl,rfl,r1,r2⟩,hb⟩
theorem uq (l:Int)(n:Nat)(q:Rat)(hl:(n:Int)=l)(h1:1≤n)(h2:n≤1000000)(hq:mkRat 1 n=q):KS2 86 (.int .i64 1) (.int .i64 l) q :=
 z6q 1 l n q (fun W=>z4w 1 1 rfl (by decide) (by decide) W) (by show ag 1≤50000;rw[jN];decide) hl h1 h2 hq
theorem z5l (x:Rat):KI1 146 x x x:=fun q W r=>z7i x q W r
theorem z5m {a b c d:Rat}(ha:SmQ 900 a)(hb:SmQ 900 b)(hc:SmQ 900 c)(hd:SmQ 900 d):KII 145 a b c d (lstQ a c) (mstQ b d):=fun p q r s W h1 h2 h3 h4=>z7j a b c d _ _ p q r s W (z6p ha hc) (z7g hb hd) h1 h2 h3 h4
theorem z1r {a b k:Rat}(ha:SmQ 400 a)(hb:SmQ 400 b)(hk:SmQ 400 k):KIQ 100 a b k (lstQ (a*k) (b*k)) (mstQ (a*k) (b*k)):=fun p q r W h1 h2 h3 =>
 z6t a b k _ _ _ _ p q r W (hMul (ha.mono (by decide)) (hk.mono (by decide))) (z5l _) (hMul (hb.mono (by decide)) (hk.mono (by decide))) (z5l _) (z5m ((ha.mul hk).mono (by decide)) ((ha.mul hk).mono (by decide)) ((hb.mul hk).mono (by decide)) ((hb.mul hk).mono (by decide))) h1 h2 h3
theorem m8 {x y:Rat}(hx:SmQ 400 x)(hy:SmQ 400 y):SmQ 900 (x*y):=(hx.mul hy).mono (by decide)
theorem z6o {a b c d:Rat}(ha:SmQ 400 a)(hb:SmQ 400 b)(hc:SmQ 400 c)(hd:SmQ 400 d):KII 150 a b c d (lstQ (lstQ (a*c) (b*c)) (lstQ (a*d) (b*d))) (mstQ (mstQ (a*c) (b*c)) (mstQ (a*d) (b*d))):=fun p q r s W h1 h2 h3 h4 =>
 z6s a b c d _ _ _ _ _ _ p q r s W (z1r ha hb hc) (z1r ha hb hd) (z5m (z4t (m8 ha hc) (m8 hb hc)) (z4s (m8 ha hc) (m8 hb hc)) (z4t (m8 ha hd) (m8 hb hd)) (z4s (m8 ha hd) (m8 hb hd))) h1 h2 h3 h4
theorem z7f {p q:Rat × Rat}(ha:SmQ 400 p.1)(hb:SmQ 400 p.2)(hc:SmQ 400 q.1)(hd:SmQ 400 q.2)(c0:q.1≠0)(d0:q.2≠0):KII 109 p.1 p.2 q.1 q.2 (divI p q).1 (divI p q).2:=fun x y r s W h1 h2 h3 h4=>by
 have h:=z7h p.1 p.2 q.1 q.2 _ _ _ _ x y r s W (hInv d0 (hd.mono (by decide))) (hInv c0 (hc.mono (by decide))) (z6o ha hb (hd.inv d0) (hc.inv c0)) h1 h2 h3 h4;rw[← Rat.div_def,← Rat.div_def,← Rat.div_def,← Rat.div_def,z1j (lstQ (p.1 / q.2) (p.2 / q.2)),z1e (mstQ (p.1 / q.2) (p.2 / q.2))]at h;unfold divI
 rw[wG,wH];exact h
theorem rA (a:Rat):lstQ a a=a:=by rcases jd a a with e|e<;>exact e
theorem rz (a:Rat):mstQ a a=a:=by rcases jb a a with e|e<;>exact e
theorem nX {x:Rat}{p:Rat × Rat}(h1:SmQ 400 p.1)(h2:SmQ 400 p.2)(hx:SmQ 400 x):KIQ 100 p.1 p.2 x (mulI x p).1 (mulI x p).2:=by
 have h:=z1r h1 h2 hx;unfold mulI
 rw[wG,wH,rA,rA,rz,rz,Rat.mul_comm x p.1,Rat.mul_comm x p.2];exact h
theorem z1s {p q:Rat × Rat}(h1:SmQ 900 p.1)(h2:SmQ 900 p.2)(h3:SmQ 900 q.1)(h4:SmQ 900 q.2):KII 102 p.1 p.2 q.1 q.2 (subI p q).1 (subI p q).2:=fun x y r s W k1 k2 k3 k4 =>
 z6u p.1 p.2 q.1 q.2 _ _ x y r s W (hSub h1 h4) (hSub h2 h3) k1 k2 k3 k4
theorem hIo {p:Rat × Rat}(ha:SmQ 900 p.1)(hb:SmQ 900 p.2):KI2 32 p.1 p.2 (.agg #[.string (Sq p.1),.string (Sq p.2)]):=fun x y W h1 h2=>gTo p.1 p.2 _ _ x y W (hTo ha) (hTo hb) h1 h2
theorem yI0:KS 27 (.int .i64 0) 0:=ks (fun W=>z2N 0 0 0 rfl (by decide) rfl rfl W)
theorem ySer {x:Rat}{k n:Nat}(hx:SmQ k x)(hk:k≤10)(hn:n≤6)(h1 : -1≤x)(h2:x≤1):KEn 101 x (.int .i64 (n:Int)) (serI x n).1 (serI x n).2:=by
 have hp:∀ i,i≤n→SmQ 150 (powU x i):=fun i hi=>(xX hx i).mono (by
  have:=Nat.mul_le_mul (show k+k≤20 by omega) (show i≤6 by omega)
  omega)
 have hs:∀ i,i≤n+1→SmQ 200 (serU x i):=fun i hi=>(vP hx h1 h2 (n:=i) (by omega)).mono (by
  have:=Nat.mul_le_mul hk (show 2*i≤14 by omega)
  omega)
 have hd:∀ i,i≤n→SmQ 5 (1 / ((2*i+1:Nat):Rat)):=fun i hi=>(su1.div (vJ (k:=4) (by unfold Sm;omega) (by decide)) (uf i)).mono (by decide)
 have et:∀ i,powU x i*(1 / ((2*i+1:Nat):Rat))=iK x i:=fun i=>by
  unfold iK
  rw[Rat.div_def,Rat.div_def,Rat.one_mul]
 have hx9:SmQ 900 x:=hx.mono (by omega);have hxx:SmQ 900 (x*x):=(hx.mul hx).mono (by omega);have sx:SmQ 900 (-(x*x)):=(hx.mul hx).neg.mono (by omega);intro q0 W r0;have e1:(serI x n).1=lstQ (serU x n) (serU x (n+1)):=by unfold serI;rw[wG,rA]
 have e2:(serI x n).2=mstQ (serU x n) (serU x (n+1)):=by unfold serI;rw[wH,rz]
 rw[e1,e2];refine vB x (x*x) (-(x*x)) _ _ (powU x) (fun i=>1 / ((2*i+1:Nat):Rat)) (iK x) (serU x) n (by omega) q0 W rfl rfl (hMul hx9 hx9) (hNeg hxx) yI0 (fun i hi=>?_) (fun i hi=>?_) (fun i hi=>?_) (fun i hi=>?_) z5l ?_ r0
 · refine uq _ (2*i+1) _ (by omega) (by omega) (by omega) ?_
   rw[Rat.mkRat_eq_div];rfl
 · rw[← et]
   exact hMul ((hp i hi).mono (by decide)) ((hd i hi).mono (by decide))
 · refine hAdd ((hs i (by omega)).mono (by decide)) ?_
   rw[← et];exact((hp i hi).mul (hd i hi)).mono (by decide)
 · have e:powU x (i+1)=powU x i * -(x*x):=by
    show powU x i*(0-x*x)=_
    rw[show(0:Rat)-x*x = -(x*x) by grind]
   rw[e];exact hMul ((hp i hi).mono (by decide)) sx
 · exact z5m ((hs n (by omega)).mono (by decide)) ((hs n (by omega)).mono (by decide)) ((hs (n+1) (by omega)).mono (by decide)) ((hs (n+1) (by omega)).mono (by decide))
theorem yPiI {n:Nat}(hn:n≤6):KNI 44 (.int .i64 (n:Int)) (piI n).1 (piI n).2:=fun W=>by
 have a:=iF s5 (by decide +kernel) (by decide +kernel) hn;have b:=iF s239 (by decide +kernel) (by decide +kernel) hn;have c:=dJ s16 a.1 a.2;have d:=dJ s4 b.1 b.2
 exact z6Q (n:Int) (1 / 5) _ _ 16 _ _ (1 / 239) _ _ 4 _ _ _ _ W (uq 5 5 _ rfl (by decide) (by decide) (by decide +kernel)) (ySer s5 (by decide) hn (by decide +kernel) (by decide +kernel)) (hInt 16 16 16 rfl (by decide) rfl rfl) (nX (a.1.mono (by decide)) (a.2.mono (by decide)) (s16.mono (by decide)))
  (uq 239 239 _ rfl (by decide) (by decide) (by decide +kernel)) (ySer s239 (by decide) hn (by decide +kernel) (by decide +kernel)) (hInt 4 4 4 rfl (by decide) rfl rfl) (nX (b.1.mono (by decide)) (b.2.mono (by decide)) (s4.mono (by decide)))
  (z1s (p:=mulI 16 (serI (1 / 5) n)) (q:=mulI 4 (serI (1 / 239) n)) (c.1.mono (by decide)) (c.2.mono (by decide)) (d.1.mono (by decide)) (d.2.mono (by decide)))
theorem z5T:KS2 86 (.int .i64 1) (.int .i64 2) (1 / 2):=uq 2 2 _ rfl (by decide) (by decide) (by decide +kernel)
theorem z0j:KS2 86 (.int .i64 (-1)) (.int .i64 2) (-1 / 2):=z6q (-1) 2 2 _ pR (by show ag 1≤50000;rw[jN];decide) rfl (by decide) (by decide) (by decide +kernel)
theorem sn12:SmQ 2 (-(1:Rat) / 2):=⟨by unfold Sm;decide +kernel,by unfold Sm;decide +kernel⟩
theorem z4I {x:Rat}(h : -1 / 2≤x):decide (cmpQ x (-1 / 2)<0)=false:=by
 rcases dA x (-1 / 2) with⟨h2,e⟩|⟨h2,e⟩|⟨h2,e⟩
 · grind
 · rw[e];rfl
 · rw[e];rfl
theorem z5W {x:Rat}{n:Nat}(hx:SmQ 7 x)(hn:n≤6)(h1 : -1 / 2≤x)(h2:x≤1):KEn 48 x (.int .i64 (n:Int)) (atI n x).1 (atI n x).2:=by
 have x9:SmQ 900 x:=hx.mono (by decide);intro q0 W r0;by_cases hm:x≤1 / 2
 · rw[wW hm]
   exact z2y x _ _ _ _ (n:Int) _ _ q0 W (z4I h1) (by rw[z1l];exact decide_eq_true hm) z0j (hCmp x9 (sn12.mono (by decide))) z5T (hCmp x9 (s12.mono (by decide))) (ySer hx (by decide) hn (by grind) h2) r0
 · have hgt:(1:Rat) / 2<x:=by grind
   have hr:=vO hx hgt h2;have hri:=vU hgt h2;have hne:1+x≠0:=by grind
   have hp:=nJ hn;have hq:=dJ s14 hp.1 hp.2;have hs:=iF (n:=n) hr (by grind) (by grind) hn;rw[rZ hm]
   exact z0l x _ _ 1 (1-x) (1+x) (nL x) _ _ (1 / 4) _ _ _ _ _ _ (n:Int) _ _ q0 W (z4I h1) (by rw[z1l];exact decide_eq_false hm) z0j (hCmp x9 (sn12.mono (by decide))) z5T (hCmp x9 (s12.mono (by decide))) yI1 (hSub (su1.mono (by decide)) x9) (hAdd (su1.mono (by decide)) x9) (hDiv hne ((su1.sub hx).mono (by decide)) ((su1.add hx).mono (by decide)))
    (yPiI hn) (uq 4 4 _ rfl (by decide) (by decide) (by decide +kernel)) (nX (hp.1.mono (by decide)) (hp.2.mono (by decide)) (s14.mono (by decide))) (ySer hr (by decide) hn (by grind) (by grind)) (z1s (p:=mulI (1 / 4) (piI n)) (q:=serI (nL x) n) (hq.1.mono (by decide)) (hq.2.mono (by decide)) (hs.1.mono (by decide)) (hs.2.mono (by decide))) r0
theorem z5V {x:Rat}{n:Nat}(hx:SmQ 7 x)(hn:n≤6)(h1 : -1≤x)(h2:x≤1):KEn 48 x (.int .i64 (n:Int)) (atJ n x).1 (atJ n x).2:=by
 by_cases h:x < -1 / 2
 · have s:=xZ hx.neg (by grind) (by grind) hn
   have x9:SmQ 900 x:=hx.mono (by decide);unfold atJ
   rw[if_pos h,← yH (qo n (-x))];intro q0 W r0;exact z2z x _ (-x) _ _ (-1) _ _ (n:Int) _ q0 W (by rw[oo h];rfl) z0j (hCmp x9 (sn12.mono (by decide))) (hNeg x9) (z5W hx.neg hn (by grind) (by grind)) yIn (nX (s.1.mono (by decide)) (s.2.mono (by decide)) (sun.mono (by decide))) r0
 · unfold atJ
   rw[if_neg h];exact z5W hx hn (by grind) h2
theorem z6R {x:Rat}{n:Nat}(hx:SmQ 7 x)(hn1:1≤n)(hn:n≤6)(h1 : -1≤x)(h2:x≤1):KEn 50 x (.int .i64 (n:Int)) (degJ n x).1 (degJ n x).2:=by
 have a:=xY hx h1 h2 hn;have hp:=nJ hn;have hle:=nM n;have hpos:=z15 n hn1 hn;have hs:=dJ s360 a.1 a.2;intro q0 W r0;exact yInW x _ _ 360 _ _ _ _ _ _ (n:Int) q0 W (z5V hx hn h1 h2) (hInt 360 360 360 rfl (by decide) rfl rfl) (nX (a.1.mono (by decide)) (a.2.mono (by decide)) (s360.mono (by decide))) (yPiI hn) (z7f (p:=mulI 360 (atJ n x)) (q:=piI n) (hs.1.mono (by decide)) (hs.2.mono (by decide)) (hp.1.mono (by decide)) (hp.2.mono (by decide)) (by grind) (by grind)) r0
theorem z4i (n:Int):KPs 43 (.int .i64 n) (.bool (decide (1≤n∧n≤24))):=fun W=>by
 by_cases h1:n<1
 · rw[decide_eq_false (fun h=>by omega)]
   have e1:decide (1≤n)=false:=decide_eq_false (by omega);have e2:¬ 1≤n:=by omega
   clear h1;go_enter func43,ntmps43
   go_wp2;go_ret
   exact⟨rfl,Below.refl _ _⟩
 · by_cases h2:24<n
   · rw[decide_eq_false (fun h=>by omega)]
     have e1:decide (1≤n)=true:=decide_eq_true (by omega);have e2:1≤n:=by omega
     have e3:decide (n≤24)=false:=decide_eq_false (by omega);have e4:¬ n≤24:=by omega
     clear h1 h2;go_enter func43,ntmps43
     go_wp2;go_ret
     exact⟨rfl,Below.refl _ _⟩
   · rw[decide_eq_true (⟨by omega,by omega⟩:1≤n∧n≤24)]
     have e1:decide (1≤n)=true:=decide_eq_true (by omega);have e2:1≤n:=by omega
     have e3:decide (n≤24)=true:=decide_eq_true (by omega);have e4:n≤24:=by omega
     clear h1 h2;go_enter func43,ntmps43
     go_wp2;go_ret
     exact⟨rfl,Below.refl _ _⟩
theorem wX {n:Int}(h:n<1∨24<n)(w:World):CV w 41 #[.int .i64 n] (.bool false):=by
 rcases h with h|h
 · exact z5B n w h
 · exact z5C n w h
theorem nz {n:Int}(h:n<1∨24<n):KPs 43 (.int .i64 n) (.bool false):=by
 have k:=z4i n;rwa [decide_eq_false (fun h2=>by omega)]at k
theorem lH {n:Nat}(h1:1≤n)(h2:n≤6):KPs 43 (.int .i64 (n:Int)) (.bool true):=by
 have k:=z4i (n:Int);rwa [decide_eq_true (⟨by omega,by omega⟩:1≤(n:Int)∧(n:Int)≤24)]at k
theorem pPi6 (n:Int)(hn:n≤6∨24<n)(w:World)(hla:La w):∃ s t er,CV w 11 #[.int .i64 n] (.tuple #[.agg #[.string s,.string t],.int .i64 er])∧CV w 12 #[.int .i64 n] (.tuple #[.agg #[.string s,.string t],.int .i64 er]):=by
 by_cases hr:n<1∨24<n
 · exact⟨_,_,_,z6C n w (wX hr w),fun W _=>z5S n W (nz hr)⟩
 · obtain⟨m,rfl⟩:∃ m:Nat,n=(m:Int):=⟨n.toNat,by omega⟩
   have h1:1≤m:=by omega
   have h6:m≤6:=by omega
   have hp:=nJ h6;exact⟨_,_,_,z7p h1 h6 w hla,fun W _=>z5R (m:Int) _ _ _ _ W (lH h1 h6) (yPiI h6) (hIo (p:=piI m) (hp.1.mono (by decide)) (hp.2.mono (by decide)))⟩
theorem z6l (x:ByteArray)(h:x.size≤9):vldQ x.data.toList=false∨(∃ q,x=Sq q∧SmQ 9 q∧¬ (-1≤q∧q≤1))∨(∃ q,x=Sq q∧SmQ 7 q ∧ -1≤q∧q≤1):=by
 cases hv:vldQ x.data.toList with
 | false=>exact Or.inl rfl
 | true =>
   have hq:=z6b hv;rw[hq]at h;generalize qval x.data.toList=q at *;by_cases h1 : -1≤q∧q≤1
   · exact Or.inr (Or.inr ⟨q,hq,z0E h h1.1 h1.2,h1.1,h1.2⟩)
   · exact Or.inr (Or.inl ⟨q,hq,z4p h (by decide),h1⟩)
theorem tY (x:ByteArray)(n:Int)(hx:x.size≤9)(hn:n≤6∨24<n)(w:World)(hla:La w):∃ s t er,CV w 13 #[.string x,.int .i64 n] (.tuple #[.agg #[.string s,.string t],.int .i64 er])∧CV w 14 #[.string x,.int .i64 n] (.tuple #[.agg #[.string s,.string t],.int .i64 er]):=by
 rcases z6l x hx with hv|⟨q,rfl,hx,ho⟩|⟨q,rfl,hx,a,b⟩
 · obtain⟨y,hy⟩:=sO hv (by omega)
   exact⟨_,_,_,iZ _ _ _ _ _ w (uU _ n w (z1T hv (by omega) w hla)),fun W _=>oN x n y W hy⟩
 · exact⟨_,_,_,iZ _ _ _ _ _ w (uT _ n w (z1S ho (hx.fit (by decide)) w hla)),fun W _=>oL _ n q W (sN ho hx (by decide))⟩
 · have ck:=iA ⟨a,b⟩ (hx.fit (by decide)) w hla
   have rd:=xL ⟨a,b⟩ hx (by decide);by_cases hr:n<1∨24<n
   · exact⟨_,_,_,iZ _ _ _ _ _ w (uS _ n w (wX hr w) ck),fun W _=>oK _ n q W (nz hr) rd⟩
   · obtain⟨m,rfl⟩:∃ m:Nat,n=(m:Int):=⟨n.toNat,by omega⟩
     have h1:1≤m:=by omega
     have h6:m≤6:=by omega
     have hp:=xY hx a b h6;exact⟨_,_,_,z5I h1 h6 hx a b w hla,fun W _=>oJ _ (m:Int) q _ _ _ _ W (lH h1 h6) rd (z5V hx h6 a b) (hIo (p:=atJ m q) (hp.1.mono (by decide)) (hp.2.mono (by decide)))⟩
theorem z19 (x:ByteArray)(n:Int)(hx:x.size≤9)(hn:n≤6∨24<n)(w:World)(hla:La w):∃ s t er,CV w 15 #[.string x,.int .i64 n] (.tuple #[.agg #[.string s,.string t],.int .i64 er])∧CV w 16 #[.string x,.int .i64 n] (.tuple #[.agg #[.string s,.string t],.int .i64 er]):=by
 rcases z6l x hx with hv|⟨q,rfl,hx,ho⟩|⟨q,rfl,hx,a,b⟩
 · obtain⟨y,hy⟩:=sO hv (by omega)
   exact⟨_,_,_,iY _ _ _ _ _ w (uQ _ n w (z1T hv (by omega) w hla)),fun W _=>vF x n y W hy⟩
 · exact⟨_,_,_,iY _ _ _ _ _ w (uP _ n w (z1S ho (hx.fit (by decide)) w hla)),fun W _=>vE _ n q W (sN ho hx (by decide))⟩
 · have ck:=iA ⟨a,b⟩ (hx.fit (by decide)) w hla
   have rd:=xL ⟨a,b⟩ hx (by decide);by_cases hr:n<1∨24<n
   · exact⟨_,_,_,iY _ _ _ _ _ w (uO _ n w (wX hr w) ck),fun W _=>vD _ n q W (nz hr) rd⟩
   · obtain⟨m,rfl⟩:∃ m:Nat,n=(m:Int):=⟨n.toNat,by omega⟩
     have h1:1≤m:=by omega
     have h6:m≤6:=by omega
     have hp:=z4W hx a b h1 h6;exact⟨_,_,_,z5G h1 h6 hx a b w hla,fun W _=>vC _ (m:Int) q _ _ _ _ W (lH h1 h6) rd (z6R hx h1 h6 a b) (hIo (p:=degJ m q) (hp.1.mono (by decide)) (hp.2.mono (by decide)))⟩
theorem su (x:ByteArray)(n:Int)(_h1 : -9223372036854775808≤n)(_h2:n≤9223372036854775807)(w:World)(hl:La w) :
 CR 4 #[.string x,.int .i64 n] w (.bool true):=by
 by_cases hx:9<x.size
 · exact(z2v x n w hl hx).at
 by_cases hm:6<n∧n≤24
 · exact(z2u x n w hl hx hm.1 hm.2).at
 have hn:n≤6∨24<n:=by omega
 obtain⟨s1,t1,e1,k1,k2⟩:=pPi6 n hn w hl;obtain⟨s2,t2,e2,k3,k4⟩:=tY x n (by omega) hn w hl;obtain⟨s3,t3,e3,k5,k6⟩:=z19 x n (by omega) hn w hl;rcases hn with h|h
 · exact(z4O x n s1 t1 s2 t2 s3 t3 e1 e2 e3 w k1 k2 k3 k4 k5 k6 hl hx h).at
 · exact(z4P x n s1 t1 s2 t2 s3 t3 e1 e2 e3 w k1 k2 k3 k4 k5 k6 hl hx h).at
theorem uj {x:Int}(h:(Lit.int .i64 x).wf=true) : -9223372036854775808≤x∧x≤9223372036854775807:=by
 have h1:IntKind.i64.min≤x∧x≤IntKind.i64.max:=by simpa [Lit.wf] using h
 exact⟨Int.le_trans (show(-9223372036854775808:Int)≤IntKind.i64.min by decide) h1.1,Int.le_trans h1.2 (show IntKind.i64.max≤9223372036854775807 by decide)⟩
