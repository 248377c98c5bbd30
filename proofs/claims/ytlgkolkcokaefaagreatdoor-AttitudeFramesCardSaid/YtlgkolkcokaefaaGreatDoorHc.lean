/- texts -/
import Derived.Test.YtlgkolkcokaefaaGreatDoorMz26q
open Go.Proofs.Tryz
set_option maxRecDepth 100000
set_option maxHeartbeats 20000000
open Go.Lib (hid)
namespace Go.Proofs.YtlgkolkcokaefaaGreatDoor
open Go.RowKit Go.Gb
theorem z3u  (w₀:World)   :
 CV w₀ 55 #[.slice none 0 0] (.bool true):=by
 intro w hw;clear hw;go_enter func55,ntmps55
 have HB0:=hid (Below.refl w.heap.size w);go_wp2;refine wp_loop_rounds 1 ?_;rw[rounds_succ];go_wp2;exact bodyPost_ret (v:=.bool true) (by simp[results,results55,go_sem]) rfl ⟨rfl,HB0.out⟩
theorem z0k (g:Nat)(x:ByteArray)(w₀:World)(h1:CV w₀ 74 #[.string x] (.bool false))  (kKX:SBk w₀ g #[.string x] 22) :
 CV w₀ 55 #[.slice (some ⟨g,0,none⟩) 1 1] (.bool false):=by
 intro w hw;have C1:=hid (h1.mono hw);have KX:=hid (kKX.below hw);clear h1 kKX hw;go_enter func55,ntmps55
 have HB0:=hid (Below.refl w.heap.size w);go_wp2;refine wp_loop_rounds 2 ?_;rw[rounds_succ];have dKX0:=KX.out.cell (i:=0) rfl;go_wp2_with fail
 with_reducible refine(C1.out _ HB0.out).mono ?_
 rintro e W1 ⟨rfl,hb⟩;clear dKX0;have HB1:=hbt HB0 hb;clear hb;go_wp2;exact bodyPost_ret (v:=.bool false) (by simp[results,results55,go_sem]) rfl ⟨rfl,HB1.out⟩
theorem z1X (g:Nat)(x:ByteArray)(w₀:World)(h1:CV w₀ 74 #[.string x] (.bool true))  (kKX:SBk w₀ g #[.string x] 22) :
 CV w₀ 55 #[.slice (some ⟨g,0,none⟩) 1 1] (.bool true):=by
 intro w hw;have C1:=hid (h1.mono hw);have KX:=hid (kKX.below hw);clear h1 kKX hw;go_enter func55,ntmps55
 have HB0:=hid (Below.refl w.heap.size w);go_wp2;refine wp_loop_rounds 2 ?_;rw[rounds_succ];have dKX0:=KX.out.cell (i:=0) rfl;go_wp2_with fail
 with_reducible refine(C1.out _ HB0.out).mono ?_
 rintro e W1 ⟨rfl,hb⟩;clear dKX0;have HB1:=hbt HB0 hb;clear hb;go_wp2;rw[rounds_succ];go_wp2;exact bodyPost_ret (v:=.bool true) (by simp[results,results55,go_sem]) rfl ⟨rfl,HB1.out⟩
abbrev An1 (w:World) (x:ByteArray) (b:Bool):Prop:=∀ (g:Nat) (W:World),Below w.heap.size w W→SBk W g #[.string x] 22→CR 55 #[.slice (some ⟨g,0,none⟩) 1 1] W (.bool b)
theorem gX {w W:World}{x:ByteArray}{b:Bool}(h:An1 w x b)(hb:Below w.heap.size w W):An1 W x b:=fun g X hX=>h g X (hb.trans (hX.mono hb.size))
theorem z3Q {x:ByteArray}{vx:Bool}{w:World}(hx:CV w 74 #[.string x] (.bool vx)):An1 w x (vx):=by
 intro g W hb k;have hx:=hx.mono hb
 cases vx with
 | false=>exact(z0k g x W hx k).at
 | true =>
   exact(z1X g x W hx k).at
theorem z0j (g:Nat)(x y:ByteArray)(w₀:World)(h1:CV w₀ 74 #[.string x] (.bool false))  (kKX:SBk w₀ g #[.string x,.string y] 22) :
 CV w₀ 55 #[.slice (some ⟨g,0,none⟩) 2 2] (.bool false):=by
 intro w hw;have C1:=hid (h1.mono hw);have KX:=hid (kKX.below hw);clear h1 kKX hw;go_enter func55,ntmps55
 have HB0:=hid (Below.refl w.heap.size w);go_wp2;refine wp_loop_rounds 3 ?_;rw[rounds_succ];have dKX0:=KX.out.cell (i:=0) rfl;go_wp2_with fail
 with_reducible refine(C1.out _ HB0.out).mono ?_
 rintro e W1 ⟨rfl,hb⟩;clear dKX0;have HB1:=hbt HB0 hb;clear hb;go_wp2;exact bodyPost_ret (v:=.bool false) (by simp[results,results55,go_sem]) rfl ⟨rfl,HB1.out⟩
theorem z0i (g:Nat)(x y:ByteArray)(w₀:World)(h1:CV w₀ 74 #[.string x] (.bool true))(h2:CV w₀ 74 #[.string y] (.bool false))  (kKX:SBk w₀ g #[.string x,.string y] 22) :
 CV w₀ 55 #[.slice (some ⟨g,0,none⟩) 2 2] (.bool false):=by
 intro w hw;obtain ⟨C1,C2,KX⟩:=ai (h1.mono hw) (h2.mono hw) (kKX.below hw);clear h1 h2 kKX hw;go_enter func55,ntmps55
 have HB0:=hid (Below.refl w.heap.size w);go_wp2;refine wp_loop_rounds 3 ?_;rw[rounds_succ];have dKX0:=KX.out.cell (i:=0) rfl;go_wp2_with fail
 with_reducible refine(C1.out _ HB0.out).mono ?_
 rintro e W1 ⟨rfl,hb⟩;clear dKX0;have KX:=hid (KX.out.below hb);have HB1:=hbt HB0 hb;clear hb;go_wp2;rw[rounds_succ];have dKX1:=KX.out.cell (i:=1) rfl;go_wp2_with fail
 with_reducible refine(C2.out _ HB1.out).mono ?_
 rintro e W2 ⟨rfl,hb⟩;clear dKX1;have HB2:=hbt HB1 hb;clear hb;go_wp2;exact bodyPost_ret (v:=.bool false) (by simp[results,results55,go_sem]) rfl ⟨rfl,HB2.out⟩
theorem z1W (g:Nat)(x y:ByteArray)(w₀:World)(h1:CV w₀ 74 #[.string x] (.bool true))(h2:CV w₀ 74 #[.string y] (.bool true))  (kKX:SBk w₀ g #[.string x,.string y] 22) :
 CV w₀ 55 #[.slice (some ⟨g,0,none⟩) 2 2] (.bool true):=by
 intro w hw;obtain ⟨C1,C2,KX⟩:=ai (h1.mono hw) (h2.mono hw) (kKX.below hw);clear h1 h2 kKX hw;go_enter func55,ntmps55
 have HB0:=hid (Below.refl w.heap.size w);go_wp2;refine wp_loop_rounds 3 ?_;rw[rounds_succ];have dKX0:=KX.out.cell (i:=0) rfl;go_wp2_with fail
 with_reducible refine(C1.out _ HB0.out).mono ?_
 rintro e W1 ⟨rfl,hb⟩;clear dKX0;have KX:=hid (KX.out.below hb);have HB1:=hbt HB0 hb;clear hb;go_wp2;rw[rounds_succ];have dKX1:=KX.out.cell (i:=1) rfl;go_wp2_with fail
 with_reducible refine(C2.out _ HB1.out).mono ?_
 rintro e W2 ⟨rfl,hb⟩;clear dKX1;have HB2:=hbt HB1 hb;clear hb;go_wp2;rw[rounds_succ];go_wp2;exact bodyPost_ret (v:=.bool true) (by simp[results,results55,go_sem]) rfl ⟨rfl,HB2.out⟩
abbrev An2 (w:World) (x y:ByteArray) (b:Bool):Prop:=∀ (g:Nat) (W:World),Below w.heap.size w W→SBk W g #[.string x,.string y] 22→CR 55 #[.slice (some ⟨g,0,none⟩) 2 2] W (.bool b)
theorem dA {w W:World}{x y:ByteArray}{b:Bool}(h:An2 w x y b)(hb:Below w.heap.size w W):An2 W x y b:=fun g X hX=>h g X (hb.trans (hX.mono hb.size))
theorem qJ {x y:ByteArray}{vx vy:Bool}{w:World}(hx:CV w 74 #[.string x] (.bool vx))(hy:CV w 74 #[.string y] (.bool vy)):An2 w x y (vx&&vy):=by
 intro g W hb k;have hx:=hx.mono hb;have hy:=hy.mono hb
 cases vx with
 | false=>exact(z0j g x y W hx k).at
 | true =>
   cases vy with
   | false=>exact(z0i g x y W hx hy k).at
   | true =>
     exact(z1W g x y W hx hy k).at
theorem z0h (g:Nat)(x y z:ByteArray)(w₀:World)(h1:CV w₀ 74 #[.string x] (.bool false))  (kKX:SBk w₀ g #[.string x,.string y,.string z] 22) :
 CV w₀ 55 #[.slice (some ⟨g,0,none⟩) 3 3] (.bool false):=by
 intro w hw;have C1:=hid (h1.mono hw);have KX:=hid (kKX.below hw);clear h1 kKX hw;go_enter func55,ntmps55
 have HB0:=hid (Below.refl w.heap.size w);go_wp2;refine wp_loop_rounds 4 ?_;rw[rounds_succ];have dKX0:=KX.out.cell (i:=0) rfl;go_wp2_with fail
 with_reducible refine(C1.out _ HB0.out).mono ?_
 rintro e W1 ⟨rfl,hb⟩;clear dKX0;have HB1:=hbt HB0 hb;clear hb;go_wp2;exact bodyPost_ret (v:=.bool false) (by simp[results,results55,go_sem]) rfl ⟨rfl,HB1.out⟩
theorem z0g (g:Nat)(x y z:ByteArray)(w₀:World)(h1:CV w₀ 74 #[.string x] (.bool true))(h2:CV w₀ 74 #[.string y] (.bool false))  (kKX:SBk w₀ g #[.string x,.string y,.string z] 22) :
 CV w₀ 55 #[.slice (some ⟨g,0,none⟩) 3 3] (.bool false):=by
 intro w hw;obtain ⟨C1,C2,KX⟩:=ai (h1.mono hw) (h2.mono hw) (kKX.below hw);clear h1 h2 kKX hw;go_enter func55,ntmps55
 have HB0:=hid (Below.refl w.heap.size w);go_wp2;refine wp_loop_rounds 4 ?_;rw[rounds_succ];have dKX0:=KX.out.cell (i:=0) rfl;go_wp2_with fail
 with_reducible refine(C1.out _ HB0.out).mono ?_
 rintro e W1 ⟨rfl,hb⟩;clear dKX0;have KX:=hid (KX.out.below hb);have HB1:=hbt HB0 hb;clear hb;go_wp2;rw[rounds_succ];have dKX1:=KX.out.cell (i:=1) rfl;go_wp2_with fail
 with_reducible refine(C2.out _ HB1.out).mono ?_
 rintro e W2 ⟨rfl,hb⟩;clear dKX1;have HB2:=hbt HB1 hb;clear hb;go_wp2;exact bodyPost_ret (v:=.bool false) (by simp[results,results55,go_sem]) rfl ⟨rfl,HB2.out⟩
theorem z0f (g:Nat)(x y z:ByteArray)(w₀:World)(h1:CV w₀ 74 #[.string x] (.bool true))(h2:CV w₀ 74 #[.string y] (.bool true))(h3:CV w₀ 74 #[.string z] (.bool false))  (kKX:SBk w₀ g #[.string x,.string y,.string z] 22) :
 CV w₀ 55 #[.slice (some ⟨g,0,none⟩) 3 3] (.bool false):=by
 intro w hw;obtain ⟨C1,C2,C3,KX⟩:=aH (h1.mono hw) (h2.mono hw) (h3.mono hw) (kKX.below hw);clear h1 h2 h3 kKX hw;go_enter func55,ntmps55
 have HB0:=hid (Below.refl w.heap.size w);go_wp2;refine wp_loop_rounds 4 ?_;rw[rounds_succ];have dKX0:=KX.out.cell (i:=0) rfl;go_wp2_with fail
 with_reducible refine(C1.out _ HB0.out).mono ?_
 rintro e W1 ⟨rfl,hb⟩;clear dKX0;have KX:=hid (KX.out.below hb);have HB1:=hbt HB0 hb;clear hb;go_wp2;rw[rounds_succ];have dKX1:=KX.out.cell (i:=1) rfl;go_wp2_with fail
 with_reducible refine(C2.out _ HB1.out).mono ?_
 rintro e W2 ⟨rfl,hb⟩;clear dKX1;have KX:=hid (KX.out.below hb);have HB2:=hbt HB1 hb;clear hb;go_wp2;rw[rounds_succ];have dKX2:=KX.out.cell (i:=2) rfl;go_wp2_with fail
 with_reducible refine(C3.out _ HB2.out).mono ?_
 rintro e W3 ⟨rfl,hb⟩;clear dKX2;have HB3:=hbt HB2 hb;clear hb;go_wp2;exact bodyPost_ret (v:=.bool false) (by simp[results,results55,go_sem]) rfl ⟨rfl,HB3.out⟩
theorem z1V (g:Nat)(x y z:ByteArray)(w₀:World)(h1:CV w₀ 74 #[.string x] (.bool true))(h2:CV w₀ 74 #[.string y] (.bool true))(h3:CV w₀ 74 #[.string z] (.bool true))  (kKX:SBk w₀ g #[.string x,.string y,.string z] 22) :
 CV w₀ 55 #[.slice (some ⟨g,0,none⟩) 3 3] (.bool true):=by
 intro w hw;obtain ⟨C1,C2,C3,KX⟩:=aH (h1.mono hw) (h2.mono hw) (h3.mono hw) (kKX.below hw);clear h1 h2 h3 kKX hw;go_enter func55,ntmps55
 have HB0:=hid (Below.refl w.heap.size w);go_wp2;refine wp_loop_rounds 4 ?_;rw[rounds_succ];have dKX0:=KX.out.cell (i:=0) rfl;go_wp2_with fail
 with_reducible refine(C1.out _ HB0.out).mono ?_
 rintro e W1 ⟨rfl,hb⟩;clear dKX0;have KX:=hid (KX.out.below hb);have HB1:=hbt HB0 hb;clear hb;go_wp2;rw[rounds_succ];have dKX1:=KX.out.cell (i:=1) rfl;go_wp2_with fail
 with_reducible refine(C2.out _ HB1.out).mono ?_
 rintro e W2 ⟨rfl,hb⟩;clear dKX1;have KX:=hid (KX.out.below hb);have HB2:=hbt HB1 hb;clear hb;go_wp2;rw[rounds_succ];have dKX2:=KX.out.cell (i:=2) rfl;go_wp2_with fail
 with_reducible refine(C3.out _ HB2.out).mono ?_
 rintro e W3 ⟨rfl,hb⟩;clear dKX2;have HB3:=hbt HB2 hb;clear hb;go_wp2;rw[rounds_succ];go_wp2;exact bodyPost_ret (v:=.bool true) (by simp[results,results55,go_sem]) rfl ⟨rfl,HB3.out⟩
abbrev An3 (w:World) (x y z:ByteArray) (b:Bool):Prop:=∀ (g:Nat) (W:World),Below w.heap.size w W→SBk W g #[.string x,.string y,.string z] 22→CR 55 #[.slice (some ⟨g,0,none⟩) 3 3] W (.bool b)
theorem wZ {w W:World}{x y z:ByteArray}{b:Bool}(h:An3 w x y z b)(hb:Below w.heap.size w W):An3 W x y z b:=fun g X hX=>h g X (hb.trans (hX.mono hb.size))
theorem z3P {x y z:ByteArray}{vx vy vz:Bool}{w:World}(hx:CV w 74 #[.string x] (.bool vx))(hy:CV w 74 #[.string y] (.bool vy))(hz:CV w 74 #[.string z] (.bool vz)):An3 w x y z (vx&&vy&&vz):=by
 intro g W hb k;have hx:=hx.mono hb;have hy:=hy.mono hb;have hz:=hz.mono hb
 cases vx with
 | false=>exact(z0h g x y z W hx k).at
 | true =>
   cases vy with
   | false=>exact(z0g g x y z W hx hy k).at
   | true =>
     cases vz with
     | false=>exact(z0f g x y z W hx hy hz k).at
     | true =>
       exact(z1V g x y z W hx hy hz k).at
theorem z1Y (l x u:ByteArray)(w₀:World)(h1:CV w₀ 75 #[.string l,.string x] (.int .i64 1))  :
 CV w₀ 56 #[.string l,.string x,.string u] (.bool false):=by
 intro w hw;have C1:=hid (h1.mono hw);clear h1 hw;go_enter func56,ntmps56
 have HB0:=hid (Below.refl w.heap.size w);go_wp2_with fail
 with_reducible refine(C1.out _ HB0.out).mono ?_
 rintro e W1 ⟨rfl,hb⟩;have HB1:=hbt HB0 hb;clear hb;go_wp2;exact bodyPost_ret (v:=.bool false) (by simp[results,results56,go_sem]) rfl ⟨rfl,HB1.out⟩
theorem z0m (l x u:ByteArray)(c d:Int)(b:Bool)(w₀:World)(h1:CV w₀ 75 #[.string l,.string x] (.int .i64 c))(h2:CV w₀ 75 #[.string x,.string u] (.int .i64 d))(f1:decide (c≤0)=true)(f2:decide (d≤0)=b) :
 CV w₀ 56 #[.string l,.string x,.string u] (.bool b):=by
 intro w hw;have C1:=hid (h1.mono hw);have C2:=hid (h2.mono hw);have g1:=f1;have g2:=f2;clear f1 f2 h1 h2 hw;go_enter func56,ntmps56
 have HB0:=hid (Below.refl w.heap.size w);go_wp2_with fail
 with_reducible refine(C1.out _ HB0.out).mono ?_
 rintro e W1 ⟨rfl,hb⟩;have HB1:=hbt HB0 hb;clear hb;go_wp2_with fail
 with_reducible refine(C2.out _ HB1.out).mono ?_
 rintro e W2 ⟨rfl,hb⟩;have HB2:=hbt HB1 hb;clear hb;go_wp2;exact bodyPost_ret (v:=.bool b) (by simp[results,results56,go_sem]) rfl ⟨rfl,HB2.out⟩
theorem z3D (p q:ByteArray)(w₀:World)  (kn:An2 w₀ p q false) :
 CV w₀ 29 #[.agg #[.string p,.string q],.slice none 0 0] (.int .i64 1):=by
 intro w hw;have KN:=hid (dA kn hw);clear kn hw;go_enter func29,ntmps29
 go_upto_region 1 with fail
 refine au w [(#[.string p,.string q],24)] rfl ?_;rintro W0 ⟨k1,hb⟩;have HB0:=hid (show Below w.heap.size w W0 from hb);have K1:=hid k1;clear k1 hb;obtain ⟨dK10,dK11⟩:=aB K1.out rfl rfl;go_wp2_with fail
 have hb:=bZ W0 (.cells #[.string p,.string q] 22);have k2:=SBk.new W0 #[.string p,.string q] 22;generalize W0.alloc (.cells #[.string p,.string q] 22)=W1 at *;have HB1:=hbt HB0 hb;have K2:=hid k2;clear k2 hb;with_reducible refine((KN.out _ _ HB1.out K2.out)).mono ?_
 rintro e W2 ⟨rfl,hb⟩;clear dK10 dK11;have HB2:=hbt HB1 hb;clear hb;go_wp2;exact bodyPost_ret (v:=.int .i64 1) (by simp[results,results29,go_sem]) rfl ⟨rfl,HB2.out⟩
theorem z3C (p q:ByteArray)(w₀:World)(h1:CV w₀ 56 #[.string ⟨#[45,49]⟩,.string p,.string ⟨#[49]⟩] (.bool false))(kn:An2 w₀ p q true) :
 CV w₀ 29 #[.agg #[.string p,.string q],.slice none 0 0] (.int .i64 2):=by
 intro w hw;have C1:=hid (h1.mono hw);have KN:=hid (dA kn hw);clear kn h1 hw;go_enter func29,ntmps29
 go_upto_region 1 with fail
 refine au w [(#[.string p,.string q],24)] rfl ?_;rintro W0 ⟨k1,hb⟩;have HB0:=hid (show Below w.heap.size w W0 from hb);have K1:=hid k1;clear k1 hb;obtain ⟨dK10,dK11⟩:=aB K1.out rfl rfl;go_wp2_with fail
 have hb:=bZ W0 (.cells #[.string p,.string q] 22);have k2:=SBk.new W0 #[.string p,.string q] 22;generalize W0.alloc (.cells #[.string p,.string q] 22)=W1 at *;have K1:=hid (K1.out.below hb);have HB1:=hbt HB0 hb;have K2:=hid k2;clear k2 hb;with_reducible refine((KN.out _ _ HB1.out K2.out)).mono ?_
 rintro e W2 ⟨rfl,hb⟩;clear dK10 dK11;have K1:=hid (K1.out.below hb);have HB2:=hbt HB1 hb;clear hb;go_wp2_with fail
 with_reducible refine((z3u _ _ HB2.out)).mono ?_
 rintro e W3 ⟨rfl,hb⟩;have K1:=hid (K1.out.below hb);have HB3:=hbt HB2 hb;clear hb;have dK10:=K1.out.cell (i:=0) rfl;go_wp2_with fail
 with_reducible refine(C1.out _ HB3.out).mono ?_
 rintro e W4 ⟨rfl,hb⟩;clear dK10;have HB4:=hbt HB3 hb;clear hb;go_wp2;exact bodyPost_ret (v:=.int .i64 2) (by simp[results,results29,go_sem]) rfl ⟨rfl,HB4.out⟩
theorem z3B (p q:ByteArray)(w₀:World)(h1:CV w₀ 56 #[.string ⟨#[45,49]⟩,.string p,.string ⟨#[49]⟩] (.bool true))(h2:CV w₀ 56 #[.string ⟨#[45,49,47,50]⟩,.string q,.string ⟨#[49,47,50]⟩] (.bool false))(kn:An2 w₀ p q true) :
 CV w₀ 29 #[.agg #[.string p,.string q],.slice none 0 0] (.int .i64 2):=by
 intro w hw;obtain ⟨C1,C2,KN⟩:=ai (h1.mono hw) (h2.mono hw) (dA kn hw);clear kn h1 h2 hw;go_enter func29,ntmps29
 go_upto_region 1 with fail
 refine au w [(#[.string p,.string q],24)] rfl ?_;rintro W0 ⟨k1,hb⟩;have HB0:=hid (show Below w.heap.size w W0 from hb);have K1:=hid k1;clear k1 hb;obtain ⟨dK10,dK11⟩:=aB K1.out rfl rfl;go_wp2_with fail
 have hb:=bZ W0 (.cells #[.string p,.string q] 22);have k2:=SBk.new W0 #[.string p,.string q] 22;generalize W0.alloc (.cells #[.string p,.string q] 22)=W1 at *;have K1:=hid (K1.out.below hb);have HB1:=hbt HB0 hb;have K2:=hid k2;clear k2 hb;with_reducible refine((KN.out _ _ HB1.out K2.out)).mono ?_
 rintro e W2 ⟨rfl,hb⟩;clear dK10 dK11;have K1:=hid (K1.out.below hb);have HB2:=hbt HB1 hb;clear hb;go_wp2_with fail
 with_reducible refine((z3u _ _ HB2.out)).mono ?_
 rintro e W3 ⟨rfl,hb⟩;have K1:=hid (K1.out.below hb);have HB3:=hbt HB2 hb;clear hb;have dK10:=K1.out.cell (i:=0) rfl;go_wp2_with fail
 with_reducible refine(C1.out _ HB3.out).mono ?_
 rintro e W4 ⟨rfl,hb⟩;clear dK10;have K1:=hid (K1.out.below hb);have HB4:=hbt HB3 hb;clear hb;have dK11:=K1.out.cell (i:=1) rfl;go_wp2_with fail
 with_reducible refine(C2.out _ HB4.out).mono ?_
 rintro e W5 ⟨rfl,hb⟩;clear dK11;have HB5:=hbt HB4 hb;clear hb;go_wp2;exact bodyPost_ret (v:=.int .i64 2) (by simp[results,results29,go_sem]) rfl ⟨rfl,HB5.out⟩
theorem z0p (p q:ByteArray)(w₀:World)(h1:CV w₀ 56 #[.string ⟨#[45,49]⟩,.string p,.string ⟨#[49]⟩] (.bool true))(h2:CV w₀ 56 #[.string ⟨#[45,49,47,50]⟩,.string q,.string ⟨#[49,47,50]⟩] (.bool true))(kn:An2 w₀ p q true) :
 CV w₀ 29 #[.agg #[.string p,.string q],.slice none 0 0] (.int .i64 0):=by
 intro w hw;obtain ⟨C1,C2,KN⟩:=ai (h1.mono hw) (h2.mono hw) (dA kn hw);clear kn h1 h2 hw;go_enter func29,ntmps29
 go_upto_region 1 with fail
 refine au w [(#[.string p,.string q],24)] rfl ?_;rintro W0 ⟨k1,hb⟩;have HB0:=hid (show Below w.heap.size w W0 from hb);have K1:=hid k1;clear k1 hb;obtain ⟨dK10,dK11⟩:=aB K1.out rfl rfl;go_wp2_with fail
 have hb:=bZ W0 (.cells #[.string p,.string q] 22);have k2:=SBk.new W0 #[.string p,.string q] 22;generalize W0.alloc (.cells #[.string p,.string q] 22)=W1 at *;have K1:=hid (K1.out.below hb);have HB1:=hbt HB0 hb;have K2:=hid k2;clear k2 hb;with_reducible refine((KN.out _ _ HB1.out K2.out)).mono ?_
 rintro e W2 ⟨rfl,hb⟩;clear dK10 dK11;have K1:=hid (K1.out.below hb);have HB2:=hbt HB1 hb;clear hb;go_wp2_with fail
 with_reducible refine((z3u _ _ HB2.out)).mono ?_
 rintro e W3 ⟨rfl,hb⟩;have K1:=hid (K1.out.below hb);have HB3:=hbt HB2 hb;clear hb;have dK10:=K1.out.cell (i:=0) rfl;go_wp2_with fail
 with_reducible refine(C1.out _ HB3.out).mono ?_
 rintro e W4 ⟨rfl,hb⟩;clear dK10;have K1:=hid (K1.out.below hb);have HB4:=hbt HB3 hb;clear hb;have dK11:=K1.out.cell (i:=1) rfl;go_wp2_with fail
 with_reducible refine(C2.out _ HB4.out).mono ?_
 rintro e W5 ⟨rfl,hb⟩;clear dK11;have HB5:=hbt HB4 hb;clear hb;go_wp2;exact bodyPost_ret (v:=.int .i64 0) (by simp[results,results29,go_sem]) rfl ⟨rfl,HB5.out⟩
theorem z3A (g:Nat)(p q x:ByteArray)(w₀:World)  (kn:An2 w₀ p q false)(kKX:SBk w₀ g #[.string x] 22) :
 CV w₀ 29 #[.agg #[.string p,.string q],.slice (some ⟨g,0,none⟩) 1 1] (.int .i64 1):=by
 intro w hw;have KN:=hid (dA kn hw);clear kn;have KX:=hid (kKX.below hw);clear kKX hw;go_enter func29,ntmps29
 go_upto_region 1 with fail
 refine au w [(#[.string p,.string q],24)] rfl ?_;rintro W0 ⟨k1,hb⟩;have HB0:=hid (show Below w.heap.size w W0 from hb);have K1:=hid k1;clear k1 hb;obtain ⟨dK10,dK11⟩:=aB K1.out rfl rfl;go_wp2_with fail
 have hb:=bZ W0 (.cells #[.string p,.string q] 22);have k2:=SBk.new W0 #[.string p,.string q] 22;generalize W0.alloc (.cells #[.string p,.string q] 22)=W1 at *;have HB1:=hbt HB0 hb;have K2:=hid k2;clear k2 hb;with_reducible refine((KN.out _ _ HB1.out K2.out)).mono ?_
 rintro e W2 ⟨rfl,hb⟩;clear dK10 dK11;have HB2:=hbt HB1 hb;clear hb;go_wp2;exact bodyPost_ret (v:=.int .i64 1) (by simp[results,results29,go_sem]) rfl ⟨rfl,HB2.out⟩
theorem z3z (g:Nat)(p q x:ByteArray)(w₀:World)  (kn:An2 w₀ p q true)(ko:An1 w₀ x false)(kKX:SBk w₀ g #[.string x] 22) :
 CV w₀ 29 #[.agg #[.string p,.string q],.slice (some ⟨g,0,none⟩) 1 1] (.int .i64 1):=by
 intro w hw;have KN:=hid (dA kn hw);clear kn;have KO:=hid (gX ko hw);clear ko;have KX:=hid (kKX.below hw);clear kKX hw;go_enter func29,ntmps29
 go_upto_region 1 with fail
 refine au w [(#[.string p,.string q],24)] rfl ?_;rintro W0 ⟨k1,hb⟩;have HB0:=hid (show Below w.heap.size w W0 from hb);have KX:=hid (KX.out.below HB0.out);have K1:=hid k1;clear k1 hb;obtain ⟨dK10,dK11⟩:=aB K1.out rfl rfl;go_wp2_with fail
 have hb:=bZ W0 (.cells #[.string p,.string q] 22);have k2:=SBk.new W0 #[.string p,.string q] 22;generalize W0.alloc (.cells #[.string p,.string q] 22)=W1 at *;have KX:=hid (KX.out.below hb);have HB1:=hbt HB0 hb;have K2:=hid k2;clear k2 hb;with_reducible refine((KN.out _ _ HB1.out K2.out)).mono ?_
 rintro e W2 ⟨rfl,hb⟩;clear dK10 dK11;have KX:=hid (KX.out.below hb);have HB2:=hbt HB1 hb;clear hb;go_wp2_with fail
 with_reducible refine((KO.out _ _ HB2.out KX.out)).mono ?_
 rintro e W3 ⟨rfl,hb⟩;have HB3:=hbt HB2 hb;clear hb;go_wp2;exact bodyPost_ret (v:=.int .i64 1) (by simp[results,results29,go_sem]) rfl ⟨rfl,HB3.out⟩
theorem z3x (g:Nat)(p q x:ByteArray)(w₀:World)(h1:CV w₀ 56 #[.string ⟨#[45,49]⟩,.string p,.string ⟨#[49]⟩] (.bool false))(kn:An2 w₀ p q true)(ko:An1 w₀ x true)(kKX:SBk w₀ g #[.string x] 22) :
 CV w₀ 29 #[.agg #[.string p,.string q],.slice (some ⟨g,0,none⟩) 1 1] (.int .i64 2):=by
 intro w hw;have C1:=hid (h1.mono hw);have KN:=hid (dA kn hw);clear kn;have KO:=hid (gX ko hw);clear ko;have KX:=hid (kKX.below hw);clear h1 kKX hw;go_enter func29,ntmps29
 go_upto_region 1 with fail
 refine au w [(#[.string p,.string q],24)] rfl ?_;rintro W0 ⟨k1,hb⟩;have HB0:=hid (show Below w.heap.size w W0 from hb);have KX:=hid (KX.out.below HB0.out);have K1:=hid k1;clear k1 hb;obtain ⟨dK10,dK11⟩:=aB K1.out rfl rfl;go_wp2_with fail
 have hb:=bZ W0 (.cells #[.string p,.string q] 22);have k2:=SBk.new W0 #[.string p,.string q] 22;generalize W0.alloc (.cells #[.string p,.string q] 22)=W1 at *;have KX:=hid (KX.out.below hb);have K1:=hid (K1.out.below hb);have HB1:=hbt HB0 hb;have K2:=hid k2;clear k2 hb;with_reducible refine((KN.out _ _ HB1.out K2.out)).mono ?_
 rintro e W2 ⟨rfl,hb⟩;clear dK10 dK11;have KX:=hid (KX.out.below hb);have K1:=hid (K1.out.below hb);have HB2:=hbt HB1 hb;clear hb;go_wp2_with fail
 with_reducible refine((KO.out _ _ HB2.out KX.out)).mono ?_
 rintro e W3 ⟨rfl,hb⟩;have K1:=hid (K1.out.below hb);have HB3:=hbt HB2 hb;clear hb;have dK10:=K1.out.cell (i:=0) rfl;go_wp2_with fail
 with_reducible refine(C1.out _ HB3.out).mono ?_
 rintro e W4 ⟨rfl,hb⟩;clear dK10;have HB4:=hbt HB3 hb;clear hb;go_wp2;exact bodyPost_ret (v:=.int .i64 2) (by simp[results,results29,go_sem]) rfl ⟨rfl,HB4.out⟩
theorem z3w (g:Nat)(p q x:ByteArray)(w₀:World)(h1:CV w₀ 56 #[.string ⟨#[45,49]⟩,.string p,.string ⟨#[49]⟩] (.bool true))(h2:CV w₀ 56 #[.string ⟨#[45,49,47,50]⟩,.string q,.string ⟨#[49,47,50]⟩] (.bool false))(kn:An2 w₀ p q true)(ko:An1 w₀ x true)(kKX:SBk w₀ g #[.string x] 22) :
 CV w₀ 29 #[.agg #[.string p,.string q],.slice (some ⟨g,0,none⟩) 1 1] (.int .i64 2):=by
 intro w hw;obtain ⟨C1,C2,KN⟩:=ai (h1.mono hw) (h2.mono hw) (dA kn hw);clear kn;have KO:=hid (gX ko hw);clear ko;have KX:=hid (kKX.below hw);clear h1 h2 kKX hw;go_enter func29,ntmps29
 go_upto_region 1 with fail
 refine au w [(#[.string p,.string q],24)] rfl ?_;rintro W0 ⟨k1,hb⟩;have HB0:=hid (show Below w.heap.size w W0 from hb);have KX:=hid (KX.out.below HB0.out);have K1:=hid k1;clear k1 hb;obtain ⟨dK10,dK11⟩:=aB K1.out rfl rfl;go_wp2_with fail
 have hb:=bZ W0 (.cells #[.string p,.string q] 22);have k2:=SBk.new W0 #[.string p,.string q] 22;generalize W0.alloc (.cells #[.string p,.string q] 22)=W1 at *;have KX:=hid (KX.out.below hb);have K1:=hid (K1.out.below hb);have HB1:=hbt HB0 hb;have K2:=hid k2;clear k2 hb;with_reducible refine((KN.out _ _ HB1.out K2.out)).mono ?_
 rintro e W2 ⟨rfl,hb⟩;clear dK10 dK11;have KX:=hid (KX.out.below hb);have K1:=hid (K1.out.below hb);have HB2:=hbt HB1 hb;clear hb;go_wp2_with fail
 with_reducible refine((KO.out _ _ HB2.out KX.out)).mono ?_
 rintro e W3 ⟨rfl,hb⟩;have K1:=hid (K1.out.below hb);have HB3:=hbt HB2 hb;clear hb;have dK10:=K1.out.cell (i:=0) rfl;go_wp2_with fail
 with_reducible refine(C1.out _ HB3.out).mono ?_
 rintro e W4 ⟨rfl,hb⟩;clear dK10;have K1:=hid (K1.out.below hb);have HB4:=hbt HB3 hb;clear hb;have dK11:=K1.out.cell (i:=1) rfl;go_wp2_with fail
 with_reducible refine(C2.out _ HB4.out).mono ?_
 rintro e W5 ⟨rfl,hb⟩;clear dK11;have HB5:=hbt HB4 hb;clear hb;go_wp2;exact bodyPost_ret (v:=.int .i64 2) (by simp[results,results29,go_sem]) rfl ⟨rfl,HB5.out⟩
theorem z3y (g:Nat)(p q x:ByteArray)(w₀:World)(h1:CV w₀ 56 #[.string ⟨#[45,49]⟩,.string p,.string ⟨#[49]⟩] (.bool true))(h2:CV w₀ 56 #[.string ⟨#[45,49,47,50]⟩,.string q,.string ⟨#[49,47,50]⟩] (.bool true))(kn:An2 w₀ p q true)(ko:An1 w₀ x true)(kKX:SBk w₀ g #[.string x] 22) :
 CV w₀ 29 #[.agg #[.string p,.string q],.slice (some ⟨g,0,none⟩) 1 1] (.int .i64 0):=by
 intro w hw;obtain ⟨C1,C2,KN⟩:=ai (h1.mono hw) (h2.mono hw) (dA kn hw);clear kn;have KO:=hid (gX ko hw);clear ko;have KX:=hid (kKX.below hw);clear h1 h2 kKX hw;go_enter func29,ntmps29
 go_upto_region 1 with fail
 refine au w [(#[.string p,.string q],24)] rfl ?_;rintro W0 ⟨k1,hb⟩;have HB0:=hid (show Below w.heap.size w W0 from hb);have KX:=hid (KX.out.below HB0.out);have K1:=hid k1;clear k1 hb;obtain ⟨dK10,dK11⟩:=aB K1.out rfl rfl;go_wp2_with fail
 have hb:=bZ W0 (.cells #[.string p,.string q] 22);have k2:=SBk.new W0 #[.string p,.string q] 22;generalize W0.alloc (.cells #[.string p,.string q] 22)=W1 at *;have KX:=hid (KX.out.below hb);have K1:=hid (K1.out.below hb);have HB1:=hbt HB0 hb;have K2:=hid k2;clear k2 hb;with_reducible refine((KN.out _ _ HB1.out K2.out)).mono ?_
 rintro e W2 ⟨rfl,hb⟩;clear dK10 dK11;have KX:=hid (KX.out.below hb);have K1:=hid (K1.out.below hb);have HB2:=hbt HB1 hb;clear hb;go_wp2_with fail
 with_reducible refine((KO.out _ _ HB2.out KX.out)).mono ?_
 rintro e W3 ⟨rfl,hb⟩;have K1:=hid (K1.out.below hb);have HB3:=hbt HB2 hb;clear hb;have dK10:=K1.out.cell (i:=0) rfl;go_wp2_with fail
 with_reducible refine(C1.out _ HB3.out).mono ?_
 rintro e W4 ⟨rfl,hb⟩;clear dK10;have K1:=hid (K1.out.below hb);have HB4:=hbt HB3 hb;clear hb;have dK11:=K1.out.cell (i:=1) rfl;go_wp2_with fail
 with_reducible refine(C2.out _ HB4.out).mono ?_
 rintro e W5 ⟨rfl,hb⟩;clear dK11;have HB5:=hbt HB4 hb;clear hb;go_wp2;exact bodyPost_ret (v:=.int .i64 0) (by simp[results,results29,go_sem]) rfl ⟨rfl,HB5.out⟩
abbrev Ch1 (w:World) (p q x:ByteArray) (er:Int):Prop:=∀ (g:Nat) (W:World),Below w.heap.size w W→SBk W g #[.string x] 22→CR 29 #[.agg #[.string p,.string q],.slice (some ⟨g,0,none⟩) 1 1] W (.int .i64 er)
theorem qG {w W:World}{p q x:ByteArray}{er:Int}(h:Ch1 w p q x er)(hb:Below w.heap.size w W):Ch1 W p q x er:=fun g X hX=>h g X (hb.trans (hX.mono hb.size))
theorem z3v (g:Nat)(p q x y z:ByteArray)(w₀:World)(h1:CV w₀ 56 #[.string ⟨#[45,49]⟩,.string p,.string ⟨#[49]⟩] (.bool true))(h2:CV w₀ 56 #[.string ⟨#[45,49,47,50]⟩,.string q,.string ⟨#[49,47,50]⟩] (.bool true))(kn:An2 w₀ p q true)(ko:An3 w₀ x y z true)(kKX:SBk w₀ g #[.string x,.string y,.string z] 22) :
 CV w₀ 29 #[.agg #[.string p,.string q],.slice (some ⟨g,0,none⟩) 3 3] (.int .i64 0):=by
 intro w hw;obtain ⟨C1,C2,KN⟩:=ai (h1.mono hw) (h2.mono hw) (dA kn hw);clear kn;have KO:=hid (wZ ko hw);clear ko;have KX:=hid (kKX.below hw);clear h1 h2 kKX hw;go_enter func29,ntmps29
 go_upto_region 1 with fail
 refine au w [(#[.string p,.string q],24)] rfl ?_;rintro W0 ⟨k1,hb⟩;have HB0:=hid (show Below w.heap.size w W0 from hb);have KX:=hid (KX.out.below HB0.out);have K1:=hid k1;clear k1 hb;obtain ⟨dK10,dK11⟩:=aB K1.out rfl rfl;go_wp2_with fail
 have hb:=bZ W0 (.cells #[.string p,.string q] 22);have k2:=SBk.new W0 #[.string p,.string q] 22;generalize W0.alloc (.cells #[.string p,.string q] 22)=W1 at *;have KX:=hid (KX.out.below hb);have K1:=hid (K1.out.below hb);have HB1:=hbt HB0 hb;have K2:=hid k2;clear k2 hb;with_reducible refine((KN.out _ _ HB1.out K2.out)).mono ?_
 rintro e W2 ⟨rfl,hb⟩;clear dK10 dK11;have KX:=hid (KX.out.below hb);have K1:=hid (K1.out.below hb);have HB2:=hbt HB1 hb;clear hb;go_wp2_with fail
 with_reducible refine((KO.out _ _ HB2.out KX.out)).mono ?_
 rintro e W3 ⟨rfl,hb⟩;have K1:=hid (K1.out.below hb);have HB3:=hbt HB2 hb;clear hb;have dK10:=K1.out.cell (i:=0) rfl;go_wp2_with fail
 with_reducible refine(C1.out _ HB3.out).mono ?_
 rintro e W4 ⟨rfl,hb⟩;clear dK10;have K1:=hid (K1.out.below hb);have HB4:=hbt HB3 hb;clear hb;have dK11:=K1.out.cell (i:=1) rfl;go_wp2_with fail
 with_reducible refine(C2.out _ HB4.out).mono ?_
 rintro e W5 ⟨rfl,hb⟩;clear dK11;have HB5:=hbt HB4 hb;clear hb;go_wp2;exact bodyPost_ret (v:=.int .i64 0) (by simp[results,results29,go_sem]) rfl ⟨rfl,HB5.out⟩
abbrev Ch3 (w:World) (p q x y z:ByteArray) (er:Int):Prop:=∀ (g:Nat) (W:World),Below w.heap.size w W→SBk W g #[.string x,.string y,.string z] 22→CR 29 #[.agg #[.string p,.string q],.slice (some ⟨g,0,none⟩) 3 3] W (.int .i64 er)
theorem wT {w W:World}{p q x y z:ByteArray}{er:Int}(h:Ch3 w p q x y z er)(hb:Below w.heap.size w W):Ch3 W p q x y z er:=fun g X hX=>h g X (hb.trans (hX.mono hb.size))
end Go.Proofs.YtlgkolkcokaefaaGreatDoor
