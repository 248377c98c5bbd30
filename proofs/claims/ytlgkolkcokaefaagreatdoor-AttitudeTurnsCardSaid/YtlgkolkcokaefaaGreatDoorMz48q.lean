/- texts -/
import Derived.Test.YtlgkolkcokaefaaGreatDoorMz46q
import Derived.Test.YtlgkolkcokaefaaGreatDoorMz28q
open Go.Proofs.Tryz
set_option maxRecDepth 100000
set_option maxHeartbeats 20000000
open Go.Lib (hid)
namespace Go.Proofs.YtlgkolkcokaefaaGreatDoor
open Go.RowKit Go.Gb
theorem h40h:SmQ 40 (1 / 2:Rat):=hsh.mono (by decide)
theorem h400:SmQ 40 (0:Rat):=hs0.mono (by decide)
theorem h7:SmQ 1 (7:Rat):=⟨by unfold Sm;decide,by unfold Sm;decide⟩
theorem h5:SmQ 1 (5:Rat):=⟨by unfold Sm;decide,by unfold Sm;decide⟩
theorem hin:InA (1 / 2:Rat) (0:Rat):=by decide +kernel
theorem z5k (w:World)(hla:La w):CV w 11 #[.agg #[.string ⟨#[49,47,50]⟩,.string ⟨#[48]⟩]] (.tuple #[.agg #[.string ⟨#[49]⟩,.string ⟨#[48]⟩,.string ⟨#[48]⟩,.string ⟨#[48]⟩,.string ⟨#[51,47,53]⟩,.string ⟨#[52,47,53]⟩,.string ⟨#[48]⟩,.string ⟨#[45,52,47,53]⟩,.string ⟨#[51,47,53]⟩],.int .i64 0]):=by
 have h:=z5d h40h h400 w hla (z3L h40h h400 hin w hla);rw[show Sq (cosQ (0:Rat))=⟨#[49]⟩from by decide +kernel,show Sq (0-sinQ (1 / 2:Rat)*sinQ (0:Rat))=⟨#[48]⟩from by decide +kernel,show Sq (cosQ (1 / 2:Rat)*sinQ (0:Rat))=⟨#[48]⟩from by decide +kernel,show Sq (cosQ (1 / 2:Rat))=⟨#[51,47,53]⟩from by decide +kernel,show Sq (sinQ (1 / 2:Rat))=⟨#[52,47,53]⟩from by decide +kernel,show Sq (0-sinQ (0:Rat))=⟨#[48]⟩from by decide +kernel,show Sq (0-sinQ (1 / 2:Rat)*cosQ (0:Rat))=⟨#[45,52,47,53]⟩from by decide +kernel,show Sq (cosQ (1 / 2:Rat)*cosQ (0:Rat))=⟨#[51,47,53]⟩from by decide +kernel,hqh,hq0]at h;exact h
theorem z3O (w:World)(hla:La w):CV w 20 #[.agg #[.string ⟨#[49,47,50]⟩,.string ⟨#[48]⟩],.agg #[.string ⟨#[55]⟩,.string ⟨#[53]⟩,.string ⟨#[48]⟩]] (.tuple #[.agg #[.string ⟨#[55]⟩,.string ⟨#[51]⟩,.string ⟨#[45,52]⟩],.int .i64 0]):=by
 have f:∀ {a:Rat},SmQ 2 a→FitQ a:=fun h=>h.fit (by decide);have h:=z0i h40h h400 h7 h5 hs0 (by decide) (f ⟨by unfold Sm;decide +kernel,by unfold Sm;decide +kernel⟩) (f ⟨by unfold Sm;decide +kernel,by unfold Sm;decide +kernel⟩) (f ⟨by unfold Sm;decide +kernel,by unfold Sm;decide +kernel⟩) w hla (z2y h40h h400 (h7.fit (by decide)) (h5.fit (by decide)) (hs0.fit (by decide)) hin w hla);rw[show Sq (dotR (cosQ (0:Rat)) (0-sinQ (1 / 2:Rat)*sinQ (0:Rat)) (cosQ (1 / 2:Rat)*sinQ (0:Rat)) 7 5 0)=⟨#[55]⟩from by decide +kernel,show Sq (dotR 0 (cosQ (1 / 2:Rat)) (sinQ (1 / 2:Rat)) 7 5 0)=⟨#[51]⟩from by decide +kernel,show Sq (dotR (0-sinQ (0:Rat)) (0-sinQ (1 / 2:Rat)*cosQ (0:Rat)) (cosQ (1 / 2:Rat)*cosQ (0:Rat)) 7 5 0)=⟨#[45,52]⟩from by decide +kernel,hqh,hq0,show Sq (7:Rat)=⟨#[55]⟩from by decide +kernel,show Sq (5:Rat)=⟨#[53]⟩from by decide +kernel]at h;exact h
theorem nR  (w₀:World)  (hla:La w₀) :
 CV w₀ 8 #[] (.bool true):=by
 intro w hw;have HT:=hid (hla.on hw);clear hla hw;go_enter func8,ntmps8
 have HB0:=hid (Below.refl w.heap.size w);go_upto_region 2 with fail
 refine au w [(#[.string ⟨#[49,47,50]⟩,.string ⟨#[48]⟩],24)] rfl ?_;rintro W0 ⟨k1,hb⟩;have HB0:=hid (show Below w.heap.size w W0 from hb);have K1:=hid k1;clear k1 hb;obtain ⟨dK10,dK11⟩:=aI K1.out rfl rfl;go_wp2_with fail
 with_reducible refine((z5k _ (HT.out.on HB0.out)).at).mono ?_
 rintro e W1 ⟨rfl,hb⟩;clear dK10 dK11;have K1:=hid (K1.out.below hb);have HB1:=hbt HB0 hb;clear hb;go_upto_region 3 with fail
 refine au W1 [(#[.string ⟨#[49]⟩,.string ⟨#[48]⟩,.string ⟨#[48]⟩,.string ⟨#[48]⟩,.string ⟨#[51,47,53]⟩,.string ⟨#[52,47,53]⟩,.string ⟨#[48]⟩,.string ⟨#[45,52,47,53]⟩,.string ⟨#[51,47,53]⟩],31)] rfl ?_;have L1:=K1.out.lt;have L2:=HB1.out.size;rintro W2 ⟨k2,hb⟩;have hb:Below W1.heap.size W1 W2:=hb;have K1:=hid (K1.out.below hb);have HB2:=hbt HB1 hb;have K2:=hid k2;clear k2 hb;obtain ⟨dK10,dK11⟩:=aI K1.out rfl rfl;go_wp2_with fail
 with_reducible refine((z3O _ (HT.out.on HB2.out)).at).mono ?_
 rintro e W3 ⟨rfl,hb⟩;clear dK10 dK11;have K1:=hid (K1.out.below hb);have K2:=hid (K2.out.below hb);have HB3:=hbt HB2 hb;clear hb;go_upto_region 4 with fail
 refine au W3 [(#[.string ⟨#[55]⟩,.string ⟨#[51]⟩,.string ⟨#[45,52]⟩],29)] rfl ?_;have L3:=K1.out.lt;have L4:=K2.out.lt;have L5:=HB3.out.size;rintro W4 ⟨k3,hb⟩;have hb:Below W3.heap.size W3 W4:=hb;have K2:=hid (K2.out.below hb);have HB4:=hbt HB3 hb;have K3:=hid k3;clear k3 hb;have dK26:=K2.out.cell (i:=6) rfl;have dK27:=K2.out.cell (i:=7) rfl;have dK28:=K2.out.cell (i:=8) rfl;have dK23:=K2.out.cell (i:=3) rfl;have dK24:=K2.out.cell (i:=4) rfl;have dK25:=K2.out.cell (i:=5) rfl;obtain ⟨dK30,dK31,dK32⟩:=ax K3.out rfl rfl rfl;go_wp2;exact bodyPost_ret (v:=.bool true) (by simp[results,results8,go_sem]) rfl ⟨rfl,HB4.out⟩
theorem hshort (x:ByteArray)(b:Bool)(w₀:World)  (hb0:decide ((x.size:Int)≤40)=b) :
 CV w₀ 10 #[.string x] (.bool b):=by
 intro w hw;have g0:=hb0;clear hb0 hw;go_enter func10,ntmps10
 have HB0:=hid (Below.refl w.heap.size w);go_wp2;exact bodyPost_ret (v:=.bool b) (by simp[results,results10,go_sem]) rfl ⟨rfl,HB0.out⟩
theorem z4w (p q:ByteArray)(w₀:World)(h1:CV w₀ 10 #[.string p] (.bool false))  :
 CV w₀ 9 #[.agg #[.string p,.string q]] (.bool false):=by
 intro w hw;have C1:=hid (h1.mono hw);clear h1 hw;go_enter func9,ntmps9
 go_upto_region 1 with fail
 refine au w [(#[.string p,.string q],24)] rfl ?_;rintro W0 ⟨k1,hb⟩;have HB0:=hid (show Below w.heap.size w W0 from hb);have K1:=hid k1;clear k1 hb;have dK10:=K1.out.cell (i:=0) rfl;go_wp2_with fail
 with_reducible refine(C1.out _ HB0.out).mono ?_
 rintro e W1 ⟨rfl,hb⟩;clear dK10;have HB1:=hbt HB0 hb;clear hb;go_wp2;exact bodyPost_ret (v:=.bool false) (by simp[results,results9,go_sem]) rfl ⟨rfl,HB1.out⟩
theorem z4v (p q:ByteArray)(w₀:World)(h1:CV w₀ 10 #[.string p] (.bool true))(h2:CV w₀ 10 #[.string q] (.bool false))  :
 CV w₀ 9 #[.agg #[.string p,.string q]] (.bool false):=by
 intro w hw;have C1:=hid (h1.mono hw);have C2:=hid (h2.mono hw);clear h1 h2 hw;go_enter func9,ntmps9
 go_upto_region 1 with fail
 refine au w [(#[.string p,.string q],24)] rfl ?_;rintro W0 ⟨k1,hb⟩;have HB0:=hid (show Below w.heap.size w W0 from hb);have K1:=hid k1;clear k1 hb;have dK10:=K1.out.cell (i:=0) rfl;go_wp2_with fail
 with_reducible refine(C1.out _ HB0.out).mono ?_
 rintro e W1 ⟨rfl,hb⟩;clear dK10;have K1:=hid (K1.out.below hb);have HB1:=hbt HB0 hb;clear hb;have dK11:=K1.out.cell (i:=1) rfl;go_wp2_with fail
 with_reducible refine(C2.out _ HB1.out).mono ?_
 rintro e W2 ⟨rfl,hb⟩;clear dK11;have HB2:=hbt HB1 hb;clear hb;go_wp2;exact bodyPost_ret (v:=.bool false) (by simp[results,results9,go_sem]) rfl ⟨rfl,HB2.out⟩
theorem z4u (p q:ByteArray)(w₀:World)(h1:CV w₀ 10 #[.string p] (.bool true))(h2:CV w₀ 10 #[.string q] (.bool true))  :
 CV w₀ 9 #[.agg #[.string p,.string q]] (.bool true):=by
 intro w hw;have C1:=hid (h1.mono hw);have C2:=hid (h2.mono hw);clear h1 h2 hw;go_enter func9,ntmps9
 go_upto_region 1 with fail
 refine au w [(#[.string p,.string q],24)] rfl ?_;rintro W0 ⟨k1,hb⟩;have HB0:=hid (show Below w.heap.size w W0 from hb);have K1:=hid k1;clear k1 hb;have dK10:=K1.out.cell (i:=0) rfl;go_wp2_with fail
 with_reducible refine(C1.out _ HB0.out).mono ?_
 rintro e W1 ⟨rfl,hb⟩;clear dK10;have K1:=hid (K1.out.below hb);have HB1:=hbt HB0 hb;clear hb;have dK11:=K1.out.cell (i:=1) rfl;go_wp2_with fail
 with_reducible refine(C2.out _ HB1.out).mono ?_
 rintro e W2 ⟨rfl,hb⟩;clear dK11;have HB2:=hbt HB1 hb;clear hb;go_wp2;exact bodyPost_ret (v:=.bool true) (by simp[results,results9,go_sem]) rfl ⟨rfl,HB2.out⟩
theorem hshA (p q:ByteArray)(b:Bool)(w₀:World)(hb:decide (p.size≤40∧q.size≤40)=b):CV w₀ 9 #[.agg #[.string p,.string q]] (.bool b):=by
 have hs:∀ {x:ByteArray} {c:Bool},decide ((x.size:Int)≤40)=c→CV w₀ 10 #[.string x] (.bool c):=fun h=>hshort _ _ _ h;by_cases gp:p.size≤40
 · have c0:=hs (x:=p) (decide_eq_true (show(p.size:Int)≤40 by omega))
   by_cases gq:q.size≤40
   · have c1:=hs (x:=q) (decide_eq_true (show(q.size:Int)≤40 by omega))
     obtain rfl:b=true:=by rw[← hb];exact decide_eq_true (by omega)
     exact z4u p q w₀ c0 c1
   · obtain rfl:b=false:=by rw[← hb];exact decide_eq_false (by omega)
     exact z4v p q w₀ c0 (hs (decide_eq_false (show ¬ (q.size:Int)≤40 by omega)))
 · obtain rfl:b=false:=by rw[← hb];exact decide_eq_false (by omega)
   exact z4w p q w₀  (hs (decide_eq_false (show ¬ (p.size:Int)≤40 by omega)))
theorem z4t (x y z:ByteArray)(w₀:World)(h1:CV w₀ 10 #[.string x] (.bool false))  :
 CV w₀ 19 #[.agg #[.string x,.string y,.string z]] (.bool false):=by
 intro w hw;have C1:=hid (h1.mono hw);clear h1 hw;go_enter func19,ntmps19
 go_upto_region 1 with fail
 refine au w [(#[.string x,.string y,.string z],29)] rfl ?_;rintro W0 ⟨k1,hb⟩;have HB0:=hid (show Below w.heap.size w W0 from hb);have K1:=hid k1;clear k1 hb;have dK10:=K1.out.cell (i:=0) rfl;go_wp2_with fail
 with_reducible refine(C1.out _ HB0.out).mono ?_
 rintro e W1 ⟨rfl,hb⟩;clear dK10;have HB1:=hbt HB0 hb;clear hb;go_wp2;exact bodyPost_ret (v:=.bool false) (by simp[results,results19,go_sem]) rfl ⟨rfl,HB1.out⟩
theorem z4s (x y z:ByteArray)(w₀:World)(h1:CV w₀ 10 #[.string x] (.bool true))(h2:CV w₀ 10 #[.string y] (.bool false))  :
 CV w₀ 19 #[.agg #[.string x,.string y,.string z]] (.bool false):=by
 intro w hw;have C1:=hid (h1.mono hw);have C2:=hid (h2.mono hw);clear h1 h2 hw;go_enter func19,ntmps19
 go_upto_region 1 with fail
 refine au w [(#[.string x,.string y,.string z],29)] rfl ?_;rintro W0 ⟨k1,hb⟩;have HB0:=hid (show Below w.heap.size w W0 from hb);have K1:=hid k1;clear k1 hb;have dK10:=K1.out.cell (i:=0) rfl;go_wp2_with fail
 with_reducible refine(C1.out _ HB0.out).mono ?_
 rintro e W1 ⟨rfl,hb⟩;clear dK10;have K1:=hid (K1.out.below hb);have HB1:=hbt HB0 hb;clear hb;have dK11:=K1.out.cell (i:=1) rfl;go_wp2_with fail
 with_reducible refine(C2.out _ HB1.out).mono ?_
 rintro e W2 ⟨rfl,hb⟩;clear dK11;have HB2:=hbt HB1 hb;clear hb;go_wp2;exact bodyPost_ret (v:=.bool false) (by simp[results,results19,go_sem]) rfl ⟨rfl,HB2.out⟩
theorem z4r (x y z:ByteArray)(w₀:World)(h1:CV w₀ 10 #[.string x] (.bool true))(h2:CV w₀ 10 #[.string y] (.bool true))(h3:CV w₀ 10 #[.string z] (.bool false))  :
 CV w₀ 19 #[.agg #[.string x,.string y,.string z]] (.bool false):=by
 intro w hw;obtain ⟨C1,C2,C3⟩:=ah (h1.mono hw) (h2.mono hw) (h3.mono hw);clear h1 h2 h3 hw;go_enter func19,ntmps19
 go_upto_region 1 with fail
 refine au w [(#[.string x,.string y,.string z],29)] rfl ?_;rintro W0 ⟨k1,hb⟩;have HB0:=hid (show Below w.heap.size w W0 from hb);have K1:=hid k1;clear k1 hb;have dK10:=K1.out.cell (i:=0) rfl;go_wp2_with fail
 with_reducible refine(C1.out _ HB0.out).mono ?_
 rintro e W1 ⟨rfl,hb⟩;clear dK10;have K1:=hid (K1.out.below hb);have HB1:=hbt HB0 hb;clear hb;have dK11:=K1.out.cell (i:=1) rfl;go_wp2_with fail
 with_reducible refine(C2.out _ HB1.out).mono ?_
 rintro e W2 ⟨rfl,hb⟩;clear dK11;have K1:=hid (K1.out.below hb);have HB2:=hbt HB1 hb;clear hb;have dK12:=K1.out.cell (i:=2) rfl;go_wp2_with fail
 with_reducible refine(C3.out _ HB2.out).mono ?_
 rintro e W3 ⟨rfl,hb⟩;clear dK12;have HB3:=hbt HB2 hb;clear hb;go_wp2;exact bodyPost_ret (v:=.bool false) (by simp[results,results19,go_sem]) rfl ⟨rfl,HB3.out⟩
theorem z4q (x y z:ByteArray)(w₀:World)(h1:CV w₀ 10 #[.string x] (.bool true))(h2:CV w₀ 10 #[.string y] (.bool true))(h3:CV w₀ 10 #[.string z] (.bool true))  :
 CV w₀ 19 #[.agg #[.string x,.string y,.string z]] (.bool true):=by
 intro w hw;obtain ⟨C1,C2,C3⟩:=ah (h1.mono hw) (h2.mono hw) (h3.mono hw);clear h1 h2 h3 hw;go_enter func19,ntmps19
 go_upto_region 1 with fail
 refine au w [(#[.string x,.string y,.string z],29)] rfl ?_;rintro W0 ⟨k1,hb⟩;have HB0:=hid (show Below w.heap.size w W0 from hb);have K1:=hid k1;clear k1 hb;have dK10:=K1.out.cell (i:=0) rfl;go_wp2_with fail
 with_reducible refine(C1.out _ HB0.out).mono ?_
 rintro e W1 ⟨rfl,hb⟩;clear dK10;have K1:=hid (K1.out.below hb);have HB1:=hbt HB0 hb;clear hb;have dK11:=K1.out.cell (i:=1) rfl;go_wp2_with fail
 with_reducible refine(C2.out _ HB1.out).mono ?_
 rintro e W2 ⟨rfl,hb⟩;clear dK11;have K1:=hid (K1.out.below hb);have HB2:=hbt HB1 hb;clear hb;have dK12:=K1.out.cell (i:=2) rfl;go_wp2_with fail
 with_reducible refine(C3.out _ HB2.out).mono ?_
 rintro e W3 ⟨rfl,hb⟩;clear dK12;have HB3:=hbt HB2 hb;clear hb;go_wp2;exact bodyPost_ret (v:=.bool true) (by simp[results,results19,go_sem]) rfl ⟨rfl,HB3.out⟩
theorem hshV (x y z:ByteArray)(b:Bool)(w₀:World)(hb:decide (x.size≤40∧y.size≤40∧z.size≤40)=b):CV w₀ 19 #[.agg #[.string x,.string y,.string z]] (.bool b):=by
 have hs:∀ {x:ByteArray} {c:Bool},decide ((x.size:Int)≤40)=c→CV w₀ 10 #[.string x] (.bool c):=fun h=>hshort _ _ _ h;by_cases gx:x.size≤40
 · have c0:=hs (x:=x) (decide_eq_true (show(x.size:Int)≤40 by omega))
   by_cases gy:y.size≤40
   · have c1:=hs (x:=y) (decide_eq_true (show(y.size:Int)≤40 by omega))
     by_cases gz:z.size≤40
     · have c2:=hs (x:=z) (decide_eq_true (show(z.size:Int)≤40 by omega))
       obtain rfl:b=true:=by rw[← hb];exact decide_eq_true (by omega)
       exact z4q x y z w₀ c0 c1 c2
     · obtain rfl:b=false:=by rw[← hb];exact decide_eq_false (by omega)
       exact z4r x y z w₀ c0 c1 (hs (decide_eq_false (show ¬ (z.size:Int)≤40 by omega)))
   · obtain rfl:b=false:=by rw[← hb];exact decide_eq_false (by omega)
     exact z4s x y z w₀ c0 (hs (decide_eq_false (show ¬ (y.size:Int)≤40 by omega)))
 · obtain rfl:b=false:=by rw[← hb];exact decide_eq_false (by omega)
   exact z4t x y z w₀  (hs (decide_eq_false (show ¬ (x.size:Int)≤40 by omega)))
open Go.Lib (hid)
theorem z0L (p q x y z:ByteArray)(w₀:World)  (hla:La w₀)(fa:decide (p.size≤40∧q.size≤40)=false) :
 CV w₀ 4 #[.agg #[.string p,.string q],.agg #[.string x,.string y,.string z]] (.bool true):=by
 intro w hw;have HT:=hid (hla.on hw);have FA:=hid fa;clear hla fa hw;go_enter func4,ntmps4
 go_upto_region 1 with fail
 refine au w [(#[.string p,.string q],24),(#[.string x,.string y,.string z],29)] rfl ?_;rintro W0 ⟨k1,k2,hb⟩;have HB0:=hid (show Below w.heap.size w W0 from hb);have K1:=hid k1;have K2:=hid k2;clear k1 k2 hb;go_wp2_with fail
 with_reducible refine((nR _ (HT.out.on HB0.out)).at).mono ?_
 rintro e W1 ⟨rfl,hb⟩;have K1:=hid (K1.out.below hb);have HB1:=hbt HB0 hb;clear hb;obtain ⟨dK10,dK11⟩:=aI K1.out rfl rfl;go_wp2_with fail
 with_reducible refine((hshA p q false _ FA.out).at).mono ?_
 rintro e W2 ⟨rfl,hb⟩;clear dK10 dK11;have HB2:=hbt HB1 hb;clear hb;go_wp2;exact bodyPost_ret (v:=.bool true) (by simp[results,results4,go_sem]) rfl ⟨rfl,HB2.out⟩
theorem z0K (p q x y z:ByteArray)(w₀:World)  (hla:La w₀)(fa:decide (p.size≤40∧q.size≤40)=true)(fv:decide (x.size≤40∧y.size≤40∧z.size≤40)=false) :
 CV w₀ 4 #[.agg #[.string p,.string q],.agg #[.string x,.string y,.string z]] (.bool true):=by
 intro w hw;obtain ⟨HT,FA,FV⟩:=ah (hla.on hw) fa fv;clear hla fa fv hw;go_enter func4,ntmps4
 go_upto_region 1 with fail
 refine au w [(#[.string p,.string q],24),(#[.string x,.string y,.string z],29)] rfl ?_;rintro W0 ⟨k1,k2,hb⟩;have HB0:=hid (show Below w.heap.size w W0 from hb);have K1:=hid k1;have K2:=hid k2;clear k1 k2 hb;go_wp2_with fail
 with_reducible refine((nR _ (HT.out.on HB0.out)).at).mono ?_
 rintro e W1 ⟨rfl,hb⟩;have K1:=hid (K1.out.below hb);have K2:=hid (K2.out.below hb);have HB1:=hbt HB0 hb;clear hb;obtain ⟨dK10,dK11⟩:=aI K1.out rfl rfl;go_wp2_with fail
 with_reducible refine((hshA p q true _ FA.out).at).mono ?_
 rintro e W2 ⟨rfl,hb⟩;clear dK10 dK11;have K2:=hid (K2.out.below hb);have HB2:=hbt HB1 hb;clear hb;obtain ⟨dK20,dK21,dK22⟩:=ax K2.out rfl rfl rfl;go_wp2_with fail
 with_reducible refine((hshV x y z false _ FV.out).at).mono ?_
 rintro e W3 ⟨rfl,hb⟩;clear dK20 dK21 dK22;have HB3:=hbt HB2 hb;clear hb;go_wp2;exact bodyPost_ret (v:=.bool true) (by simp[results,results4,go_sem]) rfl ⟨rfl,HB3.out⟩
theorem uP (p q x y z ta tb tc ba bb bc:ByteArray)(er es:Int)(w₀:World)(h1:CV w₀ 20 #[.agg #[.string p,.string q],.agg #[.string x,.string y,.string z]] (.tuple #[.agg #[.string ta,.string tb,.string tc],.int .i64 er]))(h2:CV w₀ 21 #[.agg #[.string p,.string q],.agg #[.string x,.string y,.string z]] (.tuple #[.agg #[.string ta,.string tb,.string tc],.int .i64 er]))(h3:CV w₀ 22 #[.agg #[.string p,.string q],.agg #[.string x,.string y,.string z]] (.tuple #[.agg #[.string ba,.string bb,.string bc],.int .i64 es]))(h4:CV w₀ 23 #[.agg #[.string p,.string q],.agg #[.string x,.string y,.string z]] (.tuple #[.agg #[.string ba,.string bb,.string bc],.int .i64 es]))(hla:La w₀)(fa:decide (p.size≤40∧q.size≤40)=true)(fv:decide (x.size≤40∧y.size≤40∧z.size≤40)=true) :
 CV w₀ 4 #[.agg #[.string p,.string q],.agg #[.string x,.string y,.string z]] (.bool true):=by
 intro w hw;obtain ⟨C1,C2,C3,C4,HT,FA,FV⟩:=bK (h1.mono hw) (h2.mono hw) (h3.mono hw) (h4.mono hw) (hla.on hw) fa fv;clear hla fa fv h1 h2 h3 h4 hw;go_enter func4,ntmps4
 go_upto_region 1 with fail
 refine au w [(#[.string p,.string q],24),(#[.string x,.string y,.string z],29)] rfl ?_;rintro W0 ⟨k1,k2,hb⟩;have HB0:=hid (show Below w.heap.size w W0 from hb);have K1:=hid k1;have K2:=hid k2;clear k1 k2 hb;go_wp2_with fail
 with_reducible refine((nR _ (HT.out.on HB0.out)).at).mono ?_
 rintro e W1 ⟨rfl,hb⟩;have K1:=hid (K1.out.below hb);have K2:=hid (K2.out.below hb);have HB1:=hbt HB0 hb;clear hb;obtain ⟨dK10,dK11⟩:=aI K1.out rfl rfl;go_wp2_with fail
 with_reducible refine((hshA p q true _ FA.out).at).mono ?_
 rintro e W2 ⟨rfl,hb⟩;clear dK10 dK11;have K1:=hid (K1.out.below hb);have K2:=hid (K2.out.below hb);have HB2:=hbt HB1 hb;clear hb;obtain ⟨dK20,dK21,dK22⟩:=ax K2.out rfl rfl rfl;go_wp2_with fail
 with_reducible refine((hshV x y z true _ FV.out).at).mono ?_
 rintro e W3 ⟨rfl,hb⟩;clear dK20 dK21 dK22;have K1:=hid (K1.out.below hb);have K2:=hid (K2.out.below hb);have HB3:=hbt HB2 hb;clear hb;obtain ⟨dK10,dK11⟩:=aI K1.out rfl rfl;obtain ⟨dK20,dK21,dK22⟩:=ax K2.out rfl rfl rfl;go_wp2_with fail
 with_reducible refine(C1.out _ HB3.out).mono ?_
 rintro e W4 ⟨rfl,hb⟩;clear dK10 dK11 dK20 dK21 dK22;have K1:=hid (K1.out.below hb);have K2:=hid (K2.out.below hb);have HB4:=hbt HB3 hb;clear hb;go_upto_region 6 with fail
 refine au W4 [(#[.string ta,.string tb,.string tc],29)] rfl ?_;have L1:=K1.out.lt;have L2:=K2.out.lt;have L3:=HB4.out.size;rintro W5 ⟨k3,hb⟩;have hb:Below W4.heap.size W4 W5:=hb;have K1:=hid (K1.out.below hb);have K2:=hid (K2.out.below hb);have HB5:=hbt HB4 hb;have K3:=hid k3;clear k3 hb;obtain ⟨dK10,dK11⟩:=aI K1.out rfl rfl;obtain ⟨dK20,dK21,dK22⟩:=ax K2.out rfl rfl rfl;go_wp2_with fail
 with_reducible refine(C2.out _ HB5.out).mono ?_
 rintro e W6 ⟨rfl,hb⟩;clear dK10 dK11 dK20 dK21 dK22;obtain ⟨K1,K2,K3⟩:=ah (K1.out.below hb) (K2.out.below hb) (K3.out.below hb);have HB6:=hbt HB5 hb;clear hb;go_upto_region 7 with fail
 refine au W6 [(#[.string ta,.string tb,.string tc],29)] rfl ?_;have L4:=K1.out.lt;have L5:=K2.out.lt;have L6:=K3.out.lt;have L7:=HB6.out.size;rintro W7 ⟨k4,hb⟩;have hb:Below W6.heap.size W6 W7:=hb;obtain ⟨K1,K2,K3⟩:=ah (K1.out.below hb) (K2.out.below hb) (K3.out.below hb);have HB7:=hbt HB6 hb;have K4:=hid k4;clear k4 hb;obtain ⟨dK10,dK11⟩:=aI K1.out rfl rfl;obtain ⟨dK20,dK21,dK22⟩:=ax K2.out rfl rfl rfl;go_wp2_with fail
 with_reducible refine(C3.out _ HB7.out).mono ?_
 rintro e W8 ⟨rfl,hb⟩;clear dK10 dK11 dK20 dK21 dK22;obtain ⟨K1,K2,K3,K4⟩:=aH (K1.out.below hb) (K2.out.below hb) (K3.out.below hb) (K4.out.below hb);have HB8:=hbt HB7 hb;clear hb;go_upto_region 8 with fail
 refine au W8 [(#[.string ba,.string bb,.string bc],29)] rfl ?_;have L8:=K1.out.lt;have L9:=K2.out.lt;have L10:=K3.out.lt;have L11:=K4.out.lt;have L12:=HB8.out.size;rintro W9 ⟨k5,hb⟩;have hb:Below W8.heap.size W8 W9:=hb;obtain ⟨K1,K2,K3,K4⟩:=aH (K1.out.below hb) (K2.out.below hb) (K3.out.below hb) (K4.out.below hb);have HB9:=hbt HB8 hb;have K5:=hid k5;clear k5 hb;obtain ⟨dK10,dK11⟩:=aI K1.out rfl rfl;obtain ⟨dK20,dK21,dK22⟩:=ax K2.out rfl rfl rfl;go_wp2_with fail
 with_reducible refine(C4.out _ HB9.out).mono ?_
 rintro e W10 ⟨rfl,hb⟩;clear dK10 dK11 dK20 dK21 dK22;obtain ⟨K1,K2,K3,K4,K5⟩:=aO (K1.out.below hb) (K2.out.below hb) (K3.out.below hb) (K4.out.below hb) (K5.out.below hb);have HB10:=hbt HB9 hb;clear hb;go_upto_region 9 with fail
 refine au W10 [(#[.string ba,.string bb,.string bc],29)] rfl ?_;have L13:=K1.out.lt;have L14:=K2.out.lt;have L15:=K3.out.lt;have L16:=K4.out.lt;have L17:=K5.out.lt;have L18:=HB10.out.size;rintro W11 ⟨k6,hb⟩;have hb:Below W10.heap.size W10 W11:=hb;obtain ⟨K3,K4,K5⟩:=ah (K3.out.below hb) (K4.out.below hb) (K5.out.below hb);have HB11:=hbt HB10 hb;have K6:=hid k6;clear k6 hb;obtain ⟨dK30,dK31,dK32⟩:=ax K3.out rfl rfl rfl;obtain ⟨dK40,dK41,dK42⟩:=ax K4.out rfl rfl rfl;obtain ⟨dK50,dK51,dK52⟩:=ax K5.out rfl rfl rfl;obtain ⟨dK60,dK61,dK62⟩:=ax K6.out rfl rfl rfl;go_wp2;exact bodyPost_ret (v:=.bool true) (by simp[results,results4,go_sem]) rfl ⟨rfl,HB11.out⟩
