/- texts -/
import Derived.Test.YtodcdibanokjjaaGreatDoorAa
open Go.Proofs.Tryz
set_option maxRecDepth 100000
set_option maxHeartbeats 20000000
open Go.Lib (hid)
namespace Go.Proofs.YtodcdibanokjjaaGreatDoor
open Go.RowKit Go.Gb
theorem p8 (t:ByteArray)(b:Bool)(w₀:World)(h1:CV w₀ 18 #[.agg #[.string ⟨#[45,49]⟩,.string ⟨#[49]⟩],.string t] (.bool b))  :
 CV w₀ 12 #[.string t] (.bool b):=by
 intro w hw;have C1:=hid (h1.mono hw);clear h1 hw;go_enter func12,ntmps12
 have HB0:=hid (Below.refl w.heap.size w);go_wp2_with fail
 with_reducible refine(C1.out _ HB0.out).mono ?_
 rintro e W1 ⟨rfl,hb⟩;have HB1:=hbt HB0 hb;clear hb;go_wp2;exact bodyPost_ret (v:=.bool b) (by simp[results,results12,go_sem]) rfl ⟨rfl,HB1.out⟩
theorem z2S (g:Nat)(x:ByteArray)(w₀:World)(h1:CV w₀ 45 #[.string x] (.bool false))  (kKX:SBk w₀ g #[.string x] 22) :
 CV w₀ 22 #[.slice (some ⟨g,0,none⟩) 1 1] (.int .i64 1):=by
 intro w hw;have C1:=hid (h1.mono hw);have KX:=hid (kKX.below hw);clear h1 kKX hw;go_enter func22,ntmps22
 have HB0:=hid (Below.refl w.heap.size w);go_wp2;refine wp_loop_rounds 2 ?_;rw[rounds_succ];have dKX0:=KX.out.cell (i:=0) rfl;go_wp2_with fail
 with_reducible refine(C1.out _ HB0.out).mono ?_
 rintro e W1 ⟨rfl,hb⟩;clear dKX0;have HB1:=hbt HB0 hb;clear hb;go_wp2;exact bodyPost_ret (v:=.int .i64 1) (by simp[results,results22,go_sem]) rfl ⟨rfl,HB1.out⟩
theorem z2R (g:Nat)(x:ByteArray)(w₀:World)(h1:CV w₀ 45 #[.string x] (.bool true))(hA:CV w₀ 12 #[.string x] (.bool false))  (kKX:SBk w₀ g #[.string x] 22) :
 CV w₀ 22 #[.slice (some ⟨g,0,none⟩) 1 1] (.int .i64 2):=by
 intro w hw;obtain ⟨C1,CA,KX⟩:=ai (h1.mono hw) (hA.mono hw) (kKX.below hw);clear h1 hA kKX hw;go_enter func22,ntmps22
 have HB0:=hid (Below.refl w.heap.size w);go_wp2;refine wp_loop_rounds 2 ?_;rw[rounds_succ];have dKX0:=KX.out.cell (i:=0) rfl;go_wp2_with fail
 with_reducible refine(C1.out _ HB0.out).mono ?_
 rintro e W1 ⟨rfl,hb⟩;clear dKX0;have KX:=hid (KX.out.below hb);have HB1:=hbt HB0 hb;clear hb;go_wp2;rw[rounds_succ];go_wp2;refine wp_loop_rounds 2 ?_;rw[rounds_succ];have dKX0:=KX.out.cell (i:=0) rfl;go_wp2_with fail
 with_reducible refine(CA.out _ HB1.out).mono ?_
 rintro e W2 ⟨rfl,hb⟩;clear dKX0;have HB2:=hbt HB1 hb;clear hb;go_wp2;exact bodyPost_ret (v:=.int .i64 2) (by simp[results,results22,go_sem]) rfl ⟨rfl,HB2.out⟩
theorem z4w (g:Nat)(x:ByteArray)(w₀:World)(h1:CV w₀ 45 #[.string x] (.bool true))(hA:CV w₀ 12 #[.string x] (.bool true))  (kKX:SBk w₀ g #[.string x] 22) :
 CV w₀ 22 #[.slice (some ⟨g,0,none⟩) 1 1] (.int .i64 0):=by
 intro w hw;obtain ⟨C1,CA,KX⟩:=ai (h1.mono hw) (hA.mono hw) (kKX.below hw);clear h1 hA kKX hw;go_enter func22,ntmps22
 have HB0:=hid (Below.refl w.heap.size w);go_wp2;refine wp_loop_rounds 2 ?_;rw[rounds_succ];have dKX0:=KX.out.cell (i:=0) rfl;go_wp2_with fail
 with_reducible refine(C1.out _ HB0.out).mono ?_
 rintro e W1 ⟨rfl,hb⟩;clear dKX0;have KX:=hid (KX.out.below hb);have HB1:=hbt HB0 hb;clear hb;go_wp2;rw[rounds_succ];go_wp2;refine wp_loop_rounds 2 ?_;rw[rounds_succ];have dKX0:=KX.out.cell (i:=0) rfl;go_wp2_with fail
 with_reducible refine(CA.out _ HB1.out).mono ?_
 rintro e W2 ⟨rfl,hb⟩;clear dKX0;have HB2:=hbt HB1 hb;clear hb;go_wp2;rw[rounds_succ];go_wp2;exact bodyPost_ret (v:=.int .i64 0) (by simp[results,results22,go_sem]) rfl ⟨rfl,HB2.out⟩
theorem z2Q (g:Nat)(x y:ByteArray)(w₀:World)(h1:CV w₀ 45 #[.string x] (.bool false))  (kKX:SBk w₀ g #[.string x,.string y] 22) :
 CV w₀ 22 #[.slice (some ⟨g,0,none⟩) 2 2] (.int .i64 1):=by
 intro w hw;have C1:=hid (h1.mono hw);have KX:=hid (kKX.below hw);clear h1 kKX hw;go_enter func22,ntmps22
 have HB0:=hid (Below.refl w.heap.size w);go_wp2;refine wp_loop_rounds 3 ?_;rw[rounds_succ];have dKX0:=KX.out.cell (i:=0) rfl;go_wp2_with fail
 with_reducible refine(C1.out _ HB0.out).mono ?_
 rintro e W1 ⟨rfl,hb⟩;clear dKX0;have HB1:=hbt HB0 hb;clear hb;go_wp2;exact bodyPost_ret (v:=.int .i64 1) (by simp[results,results22,go_sem]) rfl ⟨rfl,HB1.out⟩
theorem z2P (g:Nat)(x y:ByteArray)(w₀:World)(h1:CV w₀ 45 #[.string x] (.bool true))(h2:CV w₀ 45 #[.string y] (.bool false))  (kKX:SBk w₀ g #[.string x,.string y] 22) :
 CV w₀ 22 #[.slice (some ⟨g,0,none⟩) 2 2] (.int .i64 1):=by
 intro w hw;obtain ⟨C1,C2,KX⟩:=ai (h1.mono hw) (h2.mono hw) (kKX.below hw);clear h1 h2 kKX hw;go_enter func22,ntmps22
 have HB0:=hid (Below.refl w.heap.size w);go_wp2;refine wp_loop_rounds 3 ?_;rw[rounds_succ];have dKX0:=KX.out.cell (i:=0) rfl;go_wp2_with fail
 with_reducible refine(C1.out _ HB0.out).mono ?_
 rintro e W1 ⟨rfl,hb⟩;clear dKX0;have KX:=hid (KX.out.below hb);have HB1:=hbt HB0 hb;clear hb;go_wp2;rw[rounds_succ];have dKX1:=KX.out.cell (i:=1) rfl;go_wp2_with fail
 with_reducible refine(C2.out _ HB1.out).mono ?_
 rintro e W2 ⟨rfl,hb⟩;clear dKX1;have HB2:=hbt HB1 hb;clear hb;go_wp2;exact bodyPost_ret (v:=.int .i64 1) (by simp[results,results22,go_sem]) rfl ⟨rfl,HB2.out⟩
theorem z2O (g:Nat)(x y:ByteArray)(w₀:World)(h1:CV w₀ 45 #[.string x] (.bool true))(h2:CV w₀ 45 #[.string y] (.bool true))(hA:CV w₀ 12 #[.string x] (.bool false))  (kKX:SBk w₀ g #[.string x,.string y] 22) :
 CV w₀ 22 #[.slice (some ⟨g,0,none⟩) 2 2] (.int .i64 2):=by
 intro w hw;obtain ⟨C1,C2,CA,KX⟩:=aG (h1.mono hw) (h2.mono hw) (hA.mono hw) (kKX.below hw);clear h1 h2 hA kKX hw;go_enter func22,ntmps22
 have HB0:=hid (Below.refl w.heap.size w);go_wp2;refine wp_loop_rounds 3 ?_;rw[rounds_succ];have dKX0:=KX.out.cell (i:=0) rfl;go_wp2_with fail
 with_reducible refine(C1.out _ HB0.out).mono ?_
 rintro e W1 ⟨rfl,hb⟩;clear dKX0;have KX:=hid (KX.out.below hb);have HB1:=hbt HB0 hb;clear hb;go_wp2;rw[rounds_succ];have dKX1:=KX.out.cell (i:=1) rfl;go_wp2_with fail
 with_reducible refine(C2.out _ HB1.out).mono ?_
 rintro e W2 ⟨rfl,hb⟩;clear dKX1;have KX:=hid (KX.out.below hb);have HB2:=hbt HB1 hb;clear hb;go_wp2;rw[rounds_succ];go_wp2;refine wp_loop_rounds 3 ?_;rw[rounds_succ];have dKX0:=KX.out.cell (i:=0) rfl;go_wp2_with fail
 with_reducible refine(CA.out _ HB2.out).mono ?_
 rintro e W3 ⟨rfl,hb⟩;clear dKX0;have HB3:=hbt HB2 hb;clear hb;go_wp2;exact bodyPost_ret (v:=.int .i64 2) (by simp[results,results22,go_sem]) rfl ⟨rfl,HB3.out⟩
theorem z2N (g:Nat)(x y:ByteArray)(w₀:World)(h1:CV w₀ 45 #[.string x] (.bool true))(h2:CV w₀ 45 #[.string y] (.bool true))(hA:CV w₀ 12 #[.string x] (.bool true))(hB:CV w₀ 12 #[.string y] (.bool false))  (kKX:SBk w₀ g #[.string x,.string y] 22) :
 CV w₀ 22 #[.slice (some ⟨g,0,none⟩) 2 2] (.int .i64 2):=by
 intro w hw;obtain ⟨C1,C2,CA,CB,KX⟩:=aQ (h1.mono hw) (h2.mono hw) (hA.mono hw) (hB.mono hw) (kKX.below hw);clear h1 h2 hA hB kKX hw;go_enter func22,ntmps22
 have HB0:=hid (Below.refl w.heap.size w);go_wp2;refine wp_loop_rounds 3 ?_;rw[rounds_succ];have dKX0:=KX.out.cell (i:=0) rfl;go_wp2_with fail
 with_reducible refine(C1.out _ HB0.out).mono ?_
 rintro e W1 ⟨rfl,hb⟩;clear dKX0;have KX:=hid (KX.out.below hb);have HB1:=hbt HB0 hb;clear hb;go_wp2;rw[rounds_succ];have dKX1:=KX.out.cell (i:=1) rfl;go_wp2_with fail
 with_reducible refine(C2.out _ HB1.out).mono ?_
 rintro e W2 ⟨rfl,hb⟩;clear dKX1;have KX:=hid (KX.out.below hb);have HB2:=hbt HB1 hb;clear hb;go_wp2;rw[rounds_succ];go_wp2;refine wp_loop_rounds 3 ?_;rw[rounds_succ];have dKX0:=KX.out.cell (i:=0) rfl;go_wp2_with fail
 with_reducible refine(CA.out _ HB2.out).mono ?_
 rintro e W3 ⟨rfl,hb⟩;clear dKX0;have KX:=hid (KX.out.below hb);have HB3:=hbt HB2 hb;clear hb;go_wp2;rw[rounds_succ];have dKX1:=KX.out.cell (i:=1) rfl;go_wp2_with fail
 with_reducible refine(CB.out _ HB3.out).mono ?_
 rintro e W4 ⟨rfl,hb⟩;clear dKX1;have HB4:=hbt HB3 hb;clear hb;go_wp2;exact bodyPost_ret (v:=.int .i64 2) (by simp[results,results22,go_sem]) rfl ⟨rfl,HB4.out⟩
theorem z4v (g:Nat)(x y:ByteArray)(w₀:World)(h1:CV w₀ 45 #[.string x] (.bool true))(h2:CV w₀ 45 #[.string y] (.bool true))(hA:CV w₀ 12 #[.string x] (.bool true))(hB:CV w₀ 12 #[.string y] (.bool true))  (kKX:SBk w₀ g #[.string x,.string y] 22) :
 CV w₀ 22 #[.slice (some ⟨g,0,none⟩) 2 2] (.int .i64 0):=by
 intro w hw;obtain ⟨C1,C2,CA,CB,KX⟩:=aQ (h1.mono hw) (h2.mono hw) (hA.mono hw) (hB.mono hw) (kKX.below hw);clear h1 h2 hA hB kKX hw;go_enter func22,ntmps22
 have HB0:=hid (Below.refl w.heap.size w);go_wp2;refine wp_loop_rounds 3 ?_;rw[rounds_succ];have dKX0:=KX.out.cell (i:=0) rfl;go_wp2_with fail
 with_reducible refine(C1.out _ HB0.out).mono ?_
 rintro e W1 ⟨rfl,hb⟩;clear dKX0;have KX:=hid (KX.out.below hb);have HB1:=hbt HB0 hb;clear hb;go_wp2;rw[rounds_succ];have dKX1:=KX.out.cell (i:=1) rfl;go_wp2_with fail
 with_reducible refine(C2.out _ HB1.out).mono ?_
 rintro e W2 ⟨rfl,hb⟩;clear dKX1;have KX:=hid (KX.out.below hb);have HB2:=hbt HB1 hb;clear hb;go_wp2;rw[rounds_succ];go_wp2;refine wp_loop_rounds 3 ?_;rw[rounds_succ];have dKX0:=KX.out.cell (i:=0) rfl;go_wp2_with fail
 with_reducible refine(CA.out _ HB2.out).mono ?_
 rintro e W3 ⟨rfl,hb⟩;clear dKX0;have KX:=hid (KX.out.below hb);have HB3:=hbt HB2 hb;clear hb;go_wp2;rw[rounds_succ];have dKX1:=KX.out.cell (i:=1) rfl;go_wp2_with fail
 with_reducible refine(CB.out _ HB3.out).mono ?_
 rintro e W4 ⟨rfl,hb⟩;clear dKX1;have HB4:=hbt HB3 hb;clear hb;go_wp2;rw[rounds_succ];go_wp2;exact bodyPost_ret (v:=.int .i64 0) (by simp[results,results22,go_sem]) rfl ⟨rfl,HB4.out⟩
abbrev Ck1 (w:World) (x:ByteArray) (er:Int):Prop:=∀ (g:Nat) (W:World),Below w.heap.size w W→SBk W g #[.string x] 22→CR 22 #[.slice (some ⟨g,0,none⟩) 1 1] W (.int .i64 er)
theorem gY {w W:World}{x:ByteArray}{er:Int}(h:Ck1 w x er)(hb:Below w.heap.size w W):Ck1 W x er:=fun g X hX=>h g X (hb.trans (hX.mono hb.size))
abbrev Ck2 (w:World) (x y:ByteArray) (er:Int):Prop:=∀ (g:Nat) (W:World),Below w.heap.size w W→SBk W g #[.string x,.string y] 22→CR 22 #[.slice (some ⟨g,0,none⟩) 2 2] W (.int .i64 er)
theorem kP {w W:World}{x y:ByteArray}{er:Int}(h:Ck2 w x y er)(hb:Below w.heap.size w W):Ck2 W x y er:=fun g X hX=>h g X (hb.trans (hX.mono hb.size))
theorem z4u (t:ByteArray)(w₀:World)  (kc:Ck1 w₀ t 1) :
 CV w₀ 6 #[.string t] (.tuple #[.string ⟨#[]⟩,.int .i64 1]):=by
 intro w hw;have KC:=hid (gY kc hw);clear kc hw;go_enter func6,ntmps6
 have HB0:=hid (Below.refl w.heap.size w);go_wp2_with fail
 have hb:=d9 w (.cells #[.string t] 22);have k1:=SBk.new w #[.string t] 22;generalize w.alloc (.cells #[.string t] 22)=W1 at *;have HB1:=hbt HB0 hb;have K1:=hid k1;clear k1 hb;with_reducible refine((KC.out _ _ HB1.out K1.out)).mono ?_
 rintro e W2 ⟨rfl,hb⟩;have HB2:=hbt HB1 hb;clear hb;go_wp2;exact bodyPost_ret (v:=.tuple #[.string ⟨#[]⟩,.int .i64 1]) (by simp[results,results6,go_sem]) rfl ⟨rfl,HB2.out⟩
theorem z4t (t:ByteArray)(w₀:World)  (kc:Ck1 w₀ t 2) :
 CV w₀ 6 #[.string t] (.tuple #[.string ⟨#[]⟩,.int .i64 2]):=by
 intro w hw;have KC:=hid (gY kc hw);clear kc hw;go_enter func6,ntmps6
 have HB0:=hid (Below.refl w.heap.size w);go_wp2_with fail
 have hb:=d9 w (.cells #[.string t] 22);have k1:=SBk.new w #[.string t] 22;generalize w.alloc (.cells #[.string t] 22)=W1 at *;have HB1:=hbt HB0 hb;have K1:=hid k1;clear k1 hb;with_reducible refine((KC.out _ _ HB1.out K1.out)).mono ?_
 rintro e W2 ⟨rfl,hb⟩;have HB2:=hbt HB1 hb;clear hb;go_wp2;exact bodyPost_ret (v:=.tuple #[.string ⟨#[]⟩,.int .i64 2]) (by simp[results,results6,go_sem]) rfl ⟨rfl,HB2.out⟩
theorem z4q (t:ByteArray)(w₀:World)  (kc:Ck1 w₀ t 1) :
 CV w₀ 8 #[.string t] (.tuple #[.string ⟨#[]⟩,.int .i64 1]):=by
 intro w hw;have KC:=hid (gY kc hw);clear kc hw;go_enter func8,ntmps8
 have HB0:=hid (Below.refl w.heap.size w);go_wp2_with fail
 have hb:=d9 w (.cells #[.string t] 22);have k1:=SBk.new w #[.string t] 22;generalize w.alloc (.cells #[.string t] 22)=W1 at *;have HB1:=hbt HB0 hb;have K1:=hid k1;clear k1 hb;with_reducible refine((KC.out _ _ HB1.out K1.out)).mono ?_
 rintro e W2 ⟨rfl,hb⟩;have HB2:=hbt HB1 hb;clear hb;go_wp2;exact bodyPost_ret (v:=.tuple #[.string ⟨#[]⟩,.int .i64 1]) (by simp[results,results8,go_sem]) rfl ⟨rfl,HB2.out⟩
theorem z4p (t:ByteArray)(w₀:World)  (kc:Ck1 w₀ t 2) :
 CV w₀ 8 #[.string t] (.tuple #[.string ⟨#[]⟩,.int .i64 2]):=by
 intro w hw;have KC:=hid (gY kc hw);clear kc hw;go_enter func8,ntmps8
 have HB0:=hid (Below.refl w.heap.size w);go_wp2_with fail
 have hb:=d9 w (.cells #[.string t] 22);have k1:=SBk.new w #[.string t] 22;generalize w.alloc (.cells #[.string t] 22)=W1 at *;have HB1:=hbt HB0 hb;have K1:=hid k1;clear k1 hb;with_reducible refine((KC.out _ _ HB1.out K1.out)).mono ?_
 rintro e W2 ⟨rfl,hb⟩;have HB2:=hbt HB1 hb;clear hb;go_wp2;exact bodyPost_ret (v:=.tuple #[.string ⟨#[]⟩,.int .i64 2]) (by simp[results,results8,go_sem]) rfl ⟨rfl,HB2.out⟩
theorem z2M (t q m p z:ByteArray)(w₀:World)(h1:CV w₀ 23 #[.string t,.string t] (.string q))(h2:CV w₀ 25 #[.string ⟨#[49]⟩,.string q] (.string m))(h3:CV w₀ 26 #[.string ⟨#[49]⟩,.string q] (.string p))(h4:CV w₀ 24 #[.string m,.string p] (.string z))(kc:Ck1 w₀ t 0) :
 CV w₀ 6 #[.string t] (.tuple #[.string z,.int .i64 0]):=by
 intro w hw;obtain ⟨C1,C2,C3,C4,KC⟩:=aQ (h1.mono hw) (h2.mono hw) (h3.mono hw) (h4.mono hw) (gY kc hw);clear kc h1 h2 h3 h4 hw;go_enter func6,ntmps6
 have HB0:=hid (Below.refl w.heap.size w);go_wp2_with fail
 have hb:=d9 w (.cells #[.string t] 22);have k1:=SBk.new w #[.string t] 22;generalize w.alloc (.cells #[.string t] 22)=W1 at *;have HB1:=hbt HB0 hb;have K1:=hid k1;clear k1 hb;with_reducible refine((KC.out _ _ HB1.out K1.out)).mono ?_
 rintro e W2 ⟨rfl,hb⟩;have HB2:=hbt HB1 hb;clear hb;go_wp2_with fail
 with_reducible refine(C1.out _ HB2.out).mono ?_
 rintro e W3 ⟨rfl,hb⟩;have HB3:=hbt HB2 hb;clear hb;go_wp2_with fail
 with_reducible refine(C2.out _ HB3.out).mono ?_
 rintro e W4 ⟨rfl,hb⟩;have HB4:=hbt HB3 hb;clear hb;go_wp2_with fail
 with_reducible refine(C3.out _ HB4.out).mono ?_
 rintro e W5 ⟨rfl,hb⟩;have HB5:=hbt HB4 hb;clear hb;go_wp2_with fail
 with_reducible refine(C4.out _ HB5.out).mono ?_
 rintro e W6 ⟨rfl,hb⟩;have HB6:=hbt HB5 hb;clear hb;go_wp2;exact bodyPost_ret (v:=.tuple #[.string z,.int .i64 0]) (by simp[results,results6,go_sem]) rfl ⟨rfl,HB6.out⟩
theorem z2I (t d q p z:ByteArray)(w₀:World)(h1:CV w₀ 23 #[.string ⟨#[50]⟩,.string t] (.string d))(h2:CV w₀ 23 #[.string t,.string t] (.string q))(h3:CV w₀ 26 #[.string ⟨#[49]⟩,.string q] (.string p))(h4:CV w₀ 24 #[.string d,.string p] (.string z))(kc:Ck1 w₀ t 0) :
 CV w₀ 8 #[.string t] (.tuple #[.string z,.int .i64 0]):=by
 intro w hw;obtain ⟨C1,C2,C3,C4,KC⟩:=aQ (h1.mono hw) (h2.mono hw) (h3.mono hw) (h4.mono hw) (gY kc hw);clear kc h1 h2 h3 h4 hw;go_enter func8,ntmps8
 have HB0:=hid (Below.refl w.heap.size w);go_wp2_with fail
 have hb:=d9 w (.cells #[.string t] 22);have k1:=SBk.new w #[.string t] 22;generalize w.alloc (.cells #[.string t] 22)=W1 at *;have HB1:=hbt HB0 hb;have K1:=hid k1;clear k1 hb;with_reducible refine((KC.out _ _ HB1.out K1.out)).mono ?_
 rintro e W2 ⟨rfl,hb⟩;have HB2:=hbt HB1 hb;clear hb;go_wp2_with fail
 with_reducible refine(C1.out _ HB2.out).mono ?_
 rintro e W3 ⟨rfl,hb⟩;have HB3:=hbt HB2 hb;clear hb;go_wp2_with fail
 with_reducible refine(C2.out _ HB3.out).mono ?_
 rintro e W4 ⟨rfl,hb⟩;have HB4:=hbt HB3 hb;clear hb;go_wp2_with fail
 with_reducible refine(C3.out _ HB4.out).mono ?_
 rintro e W5 ⟨rfl,hb⟩;have HB5:=hbt HB4 hb;clear hb;go_wp2_with fail
 with_reducible refine(C4.out _ HB5.out).mono ?_
 rintro e W6 ⟨rfl,hb⟩;have HB6:=hbt HB5 hb;clear hb;go_wp2;exact bodyPost_ret (v:=.tuple #[.string z,.int .i64 0]) (by simp[results,results8,go_sem]) rfl ⟨rfl,HB6.out⟩
theorem z0I (s t:ByteArray)(w₀:World)  (kc:Ck2 w₀ s t 1) :
 CV w₀ 10 #[.string s,.string t] (.tuple #[.string ⟨#[]⟩,.int .i64 1]):=by
 intro w hw;have KC:=hid (kP kc hw);clear kc hw;go_enter func10,ntmps10
 have HB0:=hid (Below.refl w.heap.size w);go_wp2_with fail
 have hb:=d9 w (.cells #[.string s,.string t] 22);have k1:=SBk.new w #[.string s,.string t] 22;generalize w.alloc (.cells #[.string s,.string t] 22)=W1 at *;have HB1:=hbt HB0 hb;have K1:=hid k1;clear k1 hb;with_reducible refine((KC.out _ _ HB1.out K1.out)).mono ?_
 rintro e W2 ⟨rfl,hb⟩;have HB2:=hbt HB1 hb;clear hb;go_wp2;exact bodyPost_ret (v:=.tuple #[.string ⟨#[]⟩,.int .i64 1]) (by simp[results,results10,go_sem]) rfl ⟨rfl,HB2.out⟩
theorem z0H (s t:ByteArray)(w₀:World)  (kc:Ck2 w₀ s t 2) :
 CV w₀ 10 #[.string s,.string t] (.tuple #[.string ⟨#[]⟩,.int .i64 2]):=by
 intro w hw;have KC:=hid (kP kc hw);clear kc hw;go_enter func10,ntmps10
 have HB0:=hid (Below.refl w.heap.size w);go_wp2_with fail
 have hb:=d9 w (.cells #[.string s,.string t] 22);have k1:=SBk.new w #[.string s,.string t] 22;generalize w.alloc (.cells #[.string s,.string t] 22)=W1 at *;have HB1:=hbt HB0 hb;have K1:=hid k1;clear k1 hb;with_reducible refine((KC.out _ _ HB1.out K1.out)).mono ?_
 rintro e W2 ⟨rfl,hb⟩;have HB2:=hbt HB1 hb;clear hb;go_wp2;exact bodyPost_ret (v:=.tuple #[.string ⟨#[]⟩,.int .i64 2]) (by simp[results,results10,go_sem]) rfl ⟨rfl,HB2.out⟩
theorem z0G (s t a1 p m:ByteArray)(w₀:World)(h1:CV w₀ 26 #[.string s,.string t] (.string a1))(h2:CV w₀ 23 #[.string s,.string t] (.string p))(h3:CV w₀ 25 #[.string ⟨#[49]⟩,.string p] (.string m))(h4:CV w₀ 31 #[.string a1,.string m] (.tuple #[.string ⟨#[]⟩,.int .i64 16]))(kc:Ck2 w₀ s t 0) :
 CV w₀ 10 #[.string s,.string t] (.tuple #[.string ⟨#[]⟩,.int .i64 15]):=by
 intro w hw;obtain ⟨C1,C2,C3,C4,KC⟩:=aQ (h1.mono hw) (h2.mono hw) (h3.mono hw) (h4.mono hw) (kP kc hw);clear kc h1 h2 h3 h4 hw;go_enter func10,ntmps10
 have HB0:=hid (Below.refl w.heap.size w);go_wp2_with fail
 have hb:=d9 w (.cells #[.string s,.string t] 22);have k1:=SBk.new w #[.string s,.string t] 22;generalize w.alloc (.cells #[.string s,.string t] 22)=W1 at *;have HB1:=hbt HB0 hb;have K1:=hid k1;clear k1 hb;with_reducible refine((KC.out _ _ HB1.out K1.out)).mono ?_
 rintro e W2 ⟨rfl,hb⟩;have HB2:=hbt HB1 hb;clear hb;go_wp2_with fail
 with_reducible refine(C1.out _ HB2.out).mono ?_
 rintro e W3 ⟨rfl,hb⟩;have HB3:=hbt HB2 hb;clear hb;go_wp2_with fail
 with_reducible refine(C2.out _ HB3.out).mono ?_
 rintro e W4 ⟨rfl,hb⟩;have HB4:=hbt HB3 hb;clear hb;go_wp2_with fail
 with_reducible refine(C3.out _ HB4.out).mono ?_
 rintro e W5 ⟨rfl,hb⟩;have HB5:=hbt HB4 hb;clear hb;go_wp2_with fail
 with_reducible refine(C4.out _ HB5.out).mono ?_
 rintro e W6 ⟨rfl,hb⟩;have HB6:=hbt HB5 hb;clear hb;go_wp2;exact bodyPost_ret (v:=.tuple #[.string ⟨#[]⟩,.int .i64 15]) (by simp[results,results10,go_sem]) rfl ⟨rfl,HB6.out⟩
theorem yf (s t a1 p m z:ByteArray)(w₀:World)(h1:CV w₀ 26 #[.string s,.string t] (.string a1))(h2:CV w₀ 23 #[.string s,.string t] (.string p))(h3:CV w₀ 25 #[.string ⟨#[49]⟩,.string p] (.string m))(h4:CV w₀ 31 #[.string a1,.string m] (.tuple #[.string z,.int .i64 0]))(h5:CV w₀ 12 #[.string z] (.bool false))(kc:Ck2 w₀ s t 0) :
 CV w₀ 10 #[.string s,.string t] (.tuple #[.string ⟨#[]⟩,.int .i64 15]):=by
 intro w hw;obtain ⟨C1,C2,C3,C4,C5,KC⟩:=bU (h1.mono hw) (h2.mono hw) (h3.mono hw) (h4.mono hw) (h5.mono hw) (kP kc hw);clear kc h1 h2 h3 h4 h5 hw;go_enter func10,ntmps10
 have HB0:=hid (Below.refl w.heap.size w);go_wp2_with fail
 have hb:=d9 w (.cells #[.string s,.string t] 22);have k1:=SBk.new w #[.string s,.string t] 22;generalize w.alloc (.cells #[.string s,.string t] 22)=W1 at *;have HB1:=hbt HB0 hb;have K1:=hid k1;clear k1 hb;with_reducible refine((KC.out _ _ HB1.out K1.out)).mono ?_
 rintro e W2 ⟨rfl,hb⟩;have HB2:=hbt HB1 hb;clear hb;go_wp2_with fail
 with_reducible refine(C1.out _ HB2.out).mono ?_
 rintro e W3 ⟨rfl,hb⟩;have HB3:=hbt HB2 hb;clear hb;go_wp2_with fail
 with_reducible refine(C2.out _ HB3.out).mono ?_
 rintro e W4 ⟨rfl,hb⟩;have HB4:=hbt HB3 hb;clear hb;go_wp2_with fail
 with_reducible refine(C3.out _ HB4.out).mono ?_
 rintro e W5 ⟨rfl,hb⟩;have HB5:=hbt HB4 hb;clear hb;go_wp2_with fail
 with_reducible refine(C4.out _ HB5.out).mono ?_
 rintro e W6 ⟨rfl,hb⟩;have HB6:=hbt HB5 hb;clear hb;go_wp2_with fail
 with_reducible refine(C5.out _ HB6.out).mono ?_
 rintro e W7 ⟨rfl,hb⟩;have HB7:=hbt HB6 hb;clear hb;go_wp2;exact bodyPost_ret (v:=.tuple #[.string ⟨#[]⟩,.int .i64 15]) (by simp[results,results10,go_sem]) rfl ⟨rfl,HB7.out⟩
theorem z2G (s t a1 p m z:ByteArray)(w₀:World)(h1:CV w₀ 26 #[.string s,.string t] (.string a1))(h2:CV w₀ 23 #[.string s,.string t] (.string p))(h3:CV w₀ 25 #[.string ⟨#[49]⟩,.string p] (.string m))(h4:CV w₀ 31 #[.string a1,.string m] (.tuple #[.string z,.int .i64 0]))(h5:CV w₀ 12 #[.string z] (.bool true))(kc:Ck2 w₀ s t 0) :
 CV w₀ 10 #[.string s,.string t] (.tuple #[.string z,.int .i64 0]):=by
 intro w hw;obtain ⟨C1,C2,C3,C4,C5,KC⟩:=bU (h1.mono hw) (h2.mono hw) (h3.mono hw) (h4.mono hw) (h5.mono hw) (kP kc hw);clear kc h1 h2 h3 h4 h5 hw;go_enter func10,ntmps10
 have HB0:=hid (Below.refl w.heap.size w);go_wp2_with fail
 have hb:=d9 w (.cells #[.string s,.string t] 22);have k1:=SBk.new w #[.string s,.string t] 22;generalize w.alloc (.cells #[.string s,.string t] 22)=W1 at *;have HB1:=hbt HB0 hb;have K1:=hid k1;clear k1 hb;with_reducible refine((KC.out _ _ HB1.out K1.out)).mono ?_
 rintro e W2 ⟨rfl,hb⟩;have HB2:=hbt HB1 hb;clear hb;go_wp2_with fail
 with_reducible refine(C1.out _ HB2.out).mono ?_
 rintro e W3 ⟨rfl,hb⟩;have HB3:=hbt HB2 hb;clear hb;go_wp2_with fail
 with_reducible refine(C2.out _ HB3.out).mono ?_
 rintro e W4 ⟨rfl,hb⟩;have HB4:=hbt HB3 hb;clear hb;go_wp2_with fail
 with_reducible refine(C3.out _ HB4.out).mono ?_
 rintro e W5 ⟨rfl,hb⟩;have HB5:=hbt HB4 hb;clear hb;go_wp2_with fail
 with_reducible refine(C4.out _ HB5.out).mono ?_
 rintro e W6 ⟨rfl,hb⟩;have HB6:=hbt HB5 hb;clear hb;go_wp2_with fail
 with_reducible refine(C5.out _ HB6.out).mono ?_
 rintro e W7 ⟨rfl,hb⟩;have HB7:=hbt HB6 hb;clear hb;go_wp2;exact bodyPost_ret (v:=.tuple #[.string z,.int .i64 0]) (by simp[results,results10,go_sem]) rfl ⟨rfl,HB7.out⟩
end Go.Proofs.YtodcdibanokjjaaGreatDoor
