/- texts -/
import Derived.Test.YtkiklcbhglpooaaGreatDoorMz15q
import Derived.StillTailTactics
open Go.Proofs.Tryz
set_option maxRecDepth 100000
set_option maxHeartbeats 20000000
open Go.Lib (hid)
namespace Go.Proofs.YtkiklcbhglpooaaGreatDoor
open Go.RowKit Go.Gb
abbrev CV (w:World) (f:Nat) (args:Array Value) (v:Value):Prop:=∀ W,Below w.heap.size w W→Calls Tryz.prog f args W fun e w'=>e=.returned v∧Below W.heap.size W w'
theorem CV.mono {w W:World}{f:Nat}{args:Array Value}{v:Value}(h:CV w f args v)(hb:Below w.heap.size w W):CV W f args v:=fun X hX=>h X (hb.trans (hX.mono hb.size))
theorem CV.at {w:World}{f:Nat}{args:Array Value}{v:Value}(h:CV w f args v):Calls Tryz.prog f args w fun e w'=>e=.returned v∧Below w.heap.size w w':=h w (Below.refl _ _)
theorem aRat (x:ByteArray)(n:Int)(w₀:World)   :
 CV w₀ 136 #[.string x,.int .i64 n] (.string x):=by
 intro w hw;clear hw;go_enter func136,ntmps136
 have u6:=hid (Below.refl w.heap.size w);go_wp2;exact bodyPost_ret (v:=.string x) (by simp[results,results136,go_sem]) rfl ⟨rfl,u6.o⟩
theorem aInt (x n:Int)(w₀:World)   :
 CV w₀ 147 #[.int .i64 x,.int .i64 n] (.int .i64 x):=by
 intro w hw;clear hw;go_enter func147,ntmps147
 have u6:=hid (Below.refl w.heap.size w);go_wp2;exact bodyPost_ret (v:=.int .i64 x) (by simp[results,results147,go_sem]) rfl ⟨rfl,u6.o⟩
theorem aIv (l u:ByteArray)(n:Int)(w₀:World)   :
 CV w₀ 107 #[.agg #[.string l,.string u],.int .i64 n] (.agg #[.string l,.string u]):=by
 intro w hw;clear hw;go_enter func107,ntmps107
 go_upto_region 1 with fail
 refine ak w [(#[.string l,.string u],27),(#[.string ⟨#[]⟩,.string ⟨#[]⟩],27)] rfl ?_;rintro W0 ⟨k1,k2,hb⟩;have u6:=hid (show Below w.heap.size w W0 from hb);have K1:=hid k1;have K2:=hid k2;clear k1 k2 hb;obtain ⟨rV,p8⟩:=ay K1.o rfl rfl;obtain ⟨sw,rM⟩:=ay K2.o rfl rfl;obtain ⟨oM,oV⟩:=aR K2.o;go_wp2;exact bodyPost_ret (v:=.agg #[.string l,.string u]) (by simp[results,results107,go_sem,sw,rM]) rfl ⟨rfl,(aj (l:=[.string l,.string u]) (i:=0) (by omega) u6.o)⟩
theorem z2a (x y z:ByteArray)(n:Int)(w₀:World)(h1:CV w₀ 64 #[.string x,.string y] (.tuple #[.string z,.int .i64 n]))  :
 CV w₀ 92 #[.string x,.string y] (.string z):=by
 intro w hw;have C1:=hid (h1.mono hw);clear h1 hw;go_enter func92,ntmps92
 have u6:=hid (Below.refl w.heap.size w);go_wp2_with fail
 with_reducible refine(C1.o _ u6.o).mono ?_
 rintro e W1 ⟨rfl,hb⟩;have w9:=hbt u6 hb;clear hb;go_wp2_with fail
 with_reducible refine(aRat z n _ _ w9.o).mono ?_
 rintro e W2 ⟨rfl,hb⟩;have wm:=hbt w9 hb;clear hb;go_wp2;exact bodyPost_ret (v:=.string z) (by simp[results,results92,go_sem]) rfl ⟨rfl,wm.o⟩
theorem z03 (x y z:ByteArray)(n:Int)(w₀:World)(h1:CV w₀ 53 #[.string x,.string y] (.tuple #[.string z,.int .i64 n]))  :
 CV w₀ 91 #[.string x,.string y] (.string z):=by
 intro w hw;have C1:=hid (h1.mono hw);clear h1 hw;go_enter func91,ntmps91
 have u6:=hid (Below.refl w.heap.size w);go_wp2_with fail
 with_reducible refine(C1.o _ u6.o).mono ?_
 rintro e W1 ⟨rfl,hb⟩;have w9:=hbt u6 hb;clear hb;go_wp2_with fail
 with_reducible refine(aRat z n _ _ w9.o).mono ?_
 rintro e W2 ⟨rfl,hb⟩;have wm:=hbt w9 hb;clear hb;go_wp2;exact bodyPost_ret (v:=.string z) (by simp[results,results91,go_sem]) rfl ⟨rfl,wm.o⟩
theorem zZ (x y z:ByteArray)(n:Int)(w₀:World)(h1:CV w₀ 65 #[.string x,.string y] (.tuple #[.string z,.int .i64 n]))  :
 CV w₀ 89 #[.string x,.string y] (.string z):=by
 intro w hw;have C1:=hid (h1.mono hw);clear h1 hw;go_enter func89,ntmps89
 have u6:=hid (Below.refl w.heap.size w);go_wp2_with fail
 with_reducible refine(C1.o _ u6.o).mono ?_
 rintro e W1 ⟨rfl,hb⟩;have w9:=hbt u6 hb;clear hb;go_wp2_with fail
 with_reducible refine(aRat z n _ _ w9.o).mono ?_
 rintro e W2 ⟨rfl,hb⟩;have wm:=hbt w9 hb;clear hb;go_wp2;exact bodyPost_ret (v:=.string z) (by simp[results,results89,go_sem]) rfl ⟨rfl,wm.o⟩
theorem z2d (x y z:ByteArray)(n:Int)(w₀:World)(h1:CV w₀ 93 #[.string x,.string y] (.tuple #[.string z,.int .i64 n]))  :
 CV w₀ 90 #[.string x,.string y] (.string z):=by
 intro w hw;have C1:=hid (h1.mono hw);clear h1 hw;go_enter func90,ntmps90
 have u6:=hid (Below.refl w.heap.size w);go_wp2_with fail
 with_reducible refine(C1.o _ u6.o).mono ?_
 rintro e W1 ⟨rfl,hb⟩;have w9:=hbt u6 hb;clear hb;go_wp2_with fail
 with_reducible refine(aRat z n _ _ w9.o).mono ?_
 rintro e W2 ⟨rfl,hb⟩;have wm:=hbt w9 hb;clear hb;go_wp2;exact bodyPost_ret (v:=.string z) (by simp[results,results90,go_sem]) rfl ⟨rfl,wm.o⟩
theorem z02 (x y:ByteArray)(c n:Int)(w₀:World)(h1:CV w₀ 96 #[.string x,.string y] (.tuple #[.int .i64 c,.int .i64 n]))  :
 CV w₀ 103 #[.string x,.string y] (.int .i64 c):=by
 intro w hw;have C1:=hid (h1.mono hw);clear h1 hw;go_enter func103,ntmps103
 have u6:=hid (Below.refl w.heap.size w);go_wp2_with fail
 with_reducible refine(C1.o _ u6.o).mono ?_
 rintro e W1 ⟨rfl,hb⟩;have w9:=hbt u6 hb;clear hb;go_wp2_with fail
 with_reducible refine(aInt c n _ _ w9.o).mono ?_
 rintro e W2 ⟨rfl,hb⟩;have wm:=hbt w9 hb;clear hb;go_wp2;exact bodyPost_ret (v:=.int .i64 c) (by simp[results,results103,go_sem]) rfl ⟨rfl,wm.o⟩
theorem uN (x l u:ByteArray)(n:Int)(w₀:World)(h1:CV w₀ 51 #[.string x] (.tuple #[.agg #[.string l,.string u],.int .i64 n]))  :
 CV w₀ 142 #[.string x] (.agg #[.string l,.string u]):=by
 intro w hw;have C1:=hid (h1.mono hw);clear h1 hw;go_enter func142,ntmps142
 go_upto_region 1 with fail
 refine ak w [(#[.string ⟨#[]⟩,.string ⟨#[]⟩],27)] rfl ?_;rintro W0 ⟨k1,hb⟩;have u6:=hid (show Below w.heap.size w W0 from hb);have K1:=hid k1;clear k1 hb;go_wp2_with fail
 with_reducible refine(C1.o _ u6.o).mono ?_
 rintro e W1 ⟨rfl,hb⟩;have K1:=hid (K1.o.below hb);have w9:=hbt u6 hb;clear hb;go_wp2_with fail
 with_reducible refine(aIv l u n _ _ w9.o).mono ?_
 rintro e W2 ⟨rfl,hb⟩;have K1:=hid (K1.o.below hb);have wm:=hbt w9 hb;clear hb;obtain ⟨rV,p8⟩:=ay K1.o rfl rfl;obtain ⟨l5,l6⟩:=aR K1.o;go_wp2;exact bodyPost_ret (v:=.agg #[.string l,.string u]) (by simp[results,results142,go_sem,rV,p8]) rfl ⟨rfl,(aj (l:=[.string l,.string u]) (i:=0) (by omega) wm.o)⟩
theorem z3S (xa xb xc xd l u:ByteArray)(n:Int)(w₀:World)(h1:CV w₀ 143 #[.agg #[.string xa,.string xb],.agg #[.string xc,.string xd]] (.tuple #[.agg #[.string l,.string u],.int .i64 n]))  :
 CV w₀ 98 #[.agg #[.string xa,.string xb],.agg #[.string xc,.string xd]] (.agg #[.string l,.string u]):=by
 intro w hw;have C1:=hid (h1.mono hw);clear h1 hw;go_enter func98,ntmps98
 go_upto_region 1 with fail
 refine ak w [(#[.string xa,.string xb],27),(#[.string xc,.string xd],27),(#[.string ⟨#[]⟩,.string ⟨#[]⟩],27)] rfl ?_;rintro W0 ⟨k1,k2,k3,hb⟩;have u6:=hid (show Below w.heap.size w W0 from hb);obtain ⟨K1,K2,K3⟩:=au k1 k2 k3;clear k1 k2 k3 hb;obtain ⟨rV,p8⟩:=ay K1.o rfl rfl;obtain ⟨sw,rM⟩:=ay K2.o rfl rfl;go_wp2_with fail
 with_reducible refine(C1.o _ u6.o).mono ?_
 rintro e W1 ⟨rfl,hb⟩;clear rV p8 sw rM;have K3:=hid (K3.o.below hb);have w9:=hbt u6 hb;clear hb;go_wp2_with fail
 with_reducible refine(aIv l u n _ _ w9.o).mono ?_
 rintro e W2 ⟨rfl,hb⟩;have K3:=hid (K3.o.below hb);have wm:=hbt w9 hb;clear hb;obtain ⟨ma,mf⟩:=ay K3.o rfl rfl;obtain ⟨lg,lv⟩:=aR K3.o;go_wp2;exact bodyPost_ret (v:=.agg #[.string l,.string u]) (by simp[results,results98,go_sem,ma,mf]) rfl ⟨rfl,(aj (l:=[.string l,.string u]) (i:=0) (by omega) wm.o)⟩
theorem z01 (x xa xb xc xd l u:ByteArray)(n:Int)(w₀:World)(h0:CV w₀ 142 #[.string x] (.agg #[.string xa,.string xb]))(h1:CV w₀ 144 #[.agg #[.string xa,.string xb],.agg #[.string xc,.string xd]] (.tuple #[.agg #[.string l,.string u],.int .i64 n]))  :
 CV w₀ 99 #[.string x,.agg #[.string xc,.string xd]] (.agg #[.string l,.string u]):=by
 intro w hw;have C0:=hid (h0.mono hw);have C1:=hid (h1.mono hw);clear h0 h1 hw;go_enter func99,ntmps99
 go_upto_region 1 with fail
 refine ak w [(#[.string xc,.string xd],27),(#[.string ⟨#[]⟩,.string ⟨#[]⟩],27)] rfl ?_;rintro W0 ⟨k1,k2,hb⟩;have u6:=hid (show Below w.heap.size w W0 from hb);have K1:=hid k1;have K2:=hid k2;clear k1 k2 hb;go_wp2_with fail
 refine az (fun a0 a' V=>a'=⟨putL [(5,.string x),(6,.agg #[.string xa,.string xb]),(7,.agg #[.string xc,.string xd]),(8,.tuple #[.agg #[.string l,.string u],.int .i64 n]),(9,.agg #[.string l,.string u]),(10,.int .i64 n),(11,.agg #[.string l,.string u])] a0.tmps,a0.defers⟩∧Below w.heap.size w V∧SBk V (w.heap.size+1) #[.string l,.string u] 27) ?_ ?_
 · refine bK (by kernel_rfl) 7 1 (fun i=>[5,6,7,8,9,10,11].getD i 0) (RelR [Rel.val (.string x),Rel.val (.agg #[.string xa,.string xb]),Rel.val (.agg #[.string xc,.string xd]),Rel.val (.tuple #[.agg #[.string l,.string u],.int .i64 n]),Rel.val (.agg #[.string l,.string u]),Rel.val (.int .i64 n),Rel.val (.agg #[.string l,.string u])]) (fun W=>Below W0.heap.size W0 W) (fun _ _=>True) (by kernel_rfl) (by kernel_rfl) (by kernel_rfl) trivial (Below.refl _ _).drew ?_ ?_
   · intro sj a W i hI hD hrd him
     obtain ⟨HI,HD,Hr⟩:=au hI hD hrd;clear hI hrd hD;have y0:a.tmps[0]? = some (.string x):=HI.o.rest 0 (by decide);have y3:a.tmps[3]? = some (.pointer (some ⟨w.heap.size,0,none⟩)):=HI.o.rest 3 (by decide);obtain ⟨rV,p8⟩:=ay (K1.o.below HI.o.world) rfl rfl;have X0:RV _ sj a 0 5 (.string x):=HI.o.rh;have X1:RV _ sj a 1 6 (.agg #[.string xa,.string xb]):=HI.o.rh;have X2:RV _ sj a 2 7 (.agg #[.string xc,.string xd]):=HI.o.rh;have X3:RV _ sj a 3 8 (.tuple #[.agg #[.string l,.string u],.int .i64 n]):=HI.o.rh;have X4:RV _ sj a 4 9 (.agg #[.string l,.string u]):=HI.o.rh;have X5:RV _ sj a 5 10 (.int .i64 n):=HI.o.rh
     match i,him,Hr with
     | 0,_,Hi =>
       refine aA rfl fun K' hK=>?_;go_simp;exact hK.o _ _ ⟨HI.o.pv Hi.o rfl,trivial⟩
     | 1,_,Hi =>
       have x0:=X0.g Hi.o (by kernel_rfl);refine aA rfl fun K' hK=>?_;go_simp;with_reducible refine(C0.o _ (u6.o.trans (HI.o.world.mono u6.o.size))).mono ?_
       rintro e W' ⟨rfl,hb⟩;exact hK.o _ _ ⟨HI.o.pc Hi.o hb rfl,trivial⟩
     | 2,_,Hi =>
       refine aA rfl fun K' hK=>?_;go_simp;exact hK.o _ _ ⟨HI.o.pv Hi.o rfl,trivial⟩
     | 3,_,Hi =>
       have x1:=X1.g Hi.o (by kernel_rfl);have x2:=X2.g Hi.o (by kernel_rfl);refine aA rfl fun K' hK=>?_;go_simp;with_reducible refine(C1.o _ (u6.o.trans (HI.o.world.mono u6.o.size))).mono ?_
       rintro e W' ⟨rfl,hb⟩;exact hK.o _ _ ⟨HI.o.pc Hi.o hb rfl,trivial⟩
     | 4,_,Hi =>
       have x3:=X3.g Hi.o (by kernel_rfl);refine aA rfl fun K' hK=>?_;go_simp;exact hK.o _ _ ⟨HI.o.pv Hi.o rfl,trivial⟩
     | 5,_,Hi =>
       have x3:=X3.g Hi.o (by kernel_rfl);refine aA rfl fun K' hK=>?_;go_simp;exact hK.o _ _ ⟨HI.o.pv Hi.o rfl,trivial⟩
     | 6,_,Hi =>
       have x4:=X4.g Hi.o (by kernel_rfl);have x5:=X5.g Hi.o (by kernel_rfl);refine aA rfl fun K' hK=>?_;go_simp;with_reducible refine(aIv l u n _ _ (u6.o.trans (HI.o.world.mono u6.o.size))).mono ?_
       rintro e W' ⟨rfl,hb⟩;exact hK.o _ _ ⟨HI.o.pc Hi.o hb rfl,trivial⟩
     | n+7,h,_=>exact absurd h (by omega)
   · intro sj a W hI hD pq
     have x6:a.tmps[11]? = some (.agg #[.string l,.string u]):=hI.sx pq 6;obtain ⟨ol,HI,HA⟩:=au hI.world hI pq;clear hI pq;obtain ⟨mi,K2⟩:=aD (u6.o.trans (ol.o.mono u6.o.size)) (K2.o.below ol.o);have y4:a.tmps[4]? = some (.pointer (some ⟨w.heap.size+1,0,none⟩)):=HI.o.rest 4 (by decide);obtain ⟨sw,rM⟩:=ay K2.o rfl rfl;obtain ⟨oM,oV⟩:=aR K2.o;refine aZ (t:=0) ?_;refine aA rfl fun K' hK=>?_;go_simp;refine hK.o _ _ ?_;clear hK;refine aV ?_;rw[← fG];exact⟨rfl,(HI.o.finx ⟨HI.o.sx HA.o 0,HI.o.sx HA.o 1,HI.o.sx HA.o 2,HI.o.sx HA.o 3,HI.o.sx HA.o 4,HI.o.sx HA.o 5,x6,trivial⟩ rfl),(aj (l:=[.string l,.string u]) (i:=0) (by omega) mi.o),(fF K2.o)⟩
 rintro a' W1 ⟨rfl,z0,z1⟩;have w9:=hid z0;have K2:=hid z1;clear z0 z1;simp only[putL,List.setIfInBounds_toArray,List.set_cons_zero,List.set_cons_succ];go_wp2;obtain ⟨sw,rM⟩:=ay K2.o rfl rfl;exact bodyPost_ret (v:=.agg #[.string l,.string u]) (by simp[results,results99,go_sem,sw,rM]) rfl ⟨rfl,w9.o⟩
open Go.Lib (hid)
theorem zY (t:ByteArray)(b:Bool)(w₀:World)(h1:CV w₀ 38 #[.agg #[.string ⟨#[45,49]⟩,.string ⟨#[49]⟩],.string t] (.bool b))  :
 CV w₀ 40 #[.string t] (.bool b):=by
 intro w hw;have C1:=hid (h1.mono hw);clear h1 hw;go_enter func40,ntmps40
 have u6:=hid (Below.refl w.heap.size w);go_wp2_with fail
 with_reducible refine(C1.o _ u6.o).mono ?_
 rintro e W1 ⟨rfl,hb⟩;have w9:=hbt u6 hb;clear hb;go_wp2;exact bodyPost_ret (v:=.bool b) (by simp[results,results40,go_sem]) rfl ⟨rfl,w9.o⟩
theorem z3Y (g:Nat)(x:ByteArray)(w₀:World)(h1:CV w₀ 24 #[.string x] (.bool false))  (kKX:SBk w₀ g #[.string x] 25) :
 CV w₀ 88 #[.slice (some ⟨g,0,none⟩) 1 1] (.int .i64 1):=by
 intro w hw;have C1:=hid (h1.mono hw);have KX:=hid (kKX.below hw);clear h1 kKX hw;go_enter func88,ntmps88
 have u6:=hid (Below.refl w.heap.size w);go_wp2;refine wp_loop_rounds 2 ?_;rw[rounds_succ];have dKX0:=KX.o.cell (i:=0) rfl;go_wp2_with fail
 with_reducible refine(C1.o _ u6.o).mono ?_
 rintro e W1 ⟨rfl,hb⟩;clear dKX0;have w9:=hbt u6 hb;clear hb;go_wp2;exact bodyPost_ret (v:=.int .i64 1) (by simp[results,results88,go_sem]) rfl ⟨rfl,w9.o⟩
theorem z3X (g:Nat)(x:ByteArray)(w₀:World)(h1:CV w₀ 24 #[.string x] (.bool true))(hA:CV w₀ 40 #[.string x] (.bool false))  (kKX:SBk w₀ g #[.string x] 25) :
 CV w₀ 88 #[.slice (some ⟨g,0,none⟩) 1 1] (.int .i64 2):=by
 intro w hw;obtain ⟨C1,CA,KX⟩:=au (h1.mono hw) (hA.mono hw) (kKX.below hw);clear h1 hA kKX hw;go_enter func88,ntmps88
 have u6:=hid (Below.refl w.heap.size w);go_wp2;refine wp_loop_rounds 2 ?_;rw[rounds_succ];have dKX0:=KX.o.cell (i:=0) rfl;go_wp2_with fail
 with_reducible refine(C1.o _ u6.o).mono ?_
 rintro e W1 ⟨rfl,hb⟩;clear dKX0;have KX:=hid (KX.o.below hb);have w9:=hbt u6 hb;clear hb;go_wp2;rw[rounds_succ];go_wp2;refine wp_loop_rounds 2 ?_;rw[rounds_succ];have dKX0:=KX.o.cell (i:=0) rfl;go_wp2_with fail
 with_reducible refine(CA.o _ w9.o).mono ?_
 rintro e W2 ⟨rfl,hb⟩;clear dKX0;have wm:=hbt w9 hb;clear hb;go_wp2;exact bodyPost_ret (v:=.int .i64 2) (by simp[results,results88,go_sem]) rfl ⟨rfl,wm.o⟩
theorem z5F (g:Nat)(x:ByteArray)(w₀:World)(h1:CV w₀ 24 #[.string x] (.bool true))(hA:CV w₀ 40 #[.string x] (.bool true))  (kKX:SBk w₀ g #[.string x] 25) :
 CV w₀ 88 #[.slice (some ⟨g,0,none⟩) 1 1] (.int .i64 0):=by
 intro w hw;obtain ⟨C1,CA,KX⟩:=au (h1.mono hw) (hA.mono hw) (kKX.below hw);clear h1 hA kKX hw;go_enter func88,ntmps88
 have u6:=hid (Below.refl w.heap.size w);go_wp2;refine wp_loop_rounds 2 ?_;rw[rounds_succ];have dKX0:=KX.o.cell (i:=0) rfl;go_wp2_with fail
 with_reducible refine(C1.o _ u6.o).mono ?_
 rintro e W1 ⟨rfl,hb⟩;clear dKX0;have KX:=hid (KX.o.below hb);have w9:=hbt u6 hb;clear hb;go_wp2;rw[rounds_succ];go_wp2;refine wp_loop_rounds 2 ?_;rw[rounds_succ];have dKX0:=KX.o.cell (i:=0) rfl;go_wp2_with fail
 with_reducible refine(CA.o _ w9.o).mono ?_
 rintro e W2 ⟨rfl,hb⟩;clear dKX0;have wm:=hbt w9 hb;clear hb;go_wp2;rw[rounds_succ];go_wp2;exact bodyPost_ret (v:=.int .i64 0) (by simp[results,results88,go_sem]) rfl ⟨rfl,wm.o⟩
theorem z5E (g:Nat)(x y:ByteArray)(w₀:World)(h1:CV w₀ 24 #[.string x] (.bool true))(h2:CV w₀ 24 #[.string y] (.bool true))(hA:CV w₀ 40 #[.string x] (.bool true))(hB:CV w₀ 40 #[.string y] (.bool true))  (kKX:SBk w₀ g #[.string x,.string y] 25) :
 CV w₀ 88 #[.slice (some ⟨g,0,none⟩) 2 2] (.int .i64 0):=by
 intro w hw;obtain ⟨C1,C2,CA,CB,KX⟩:=bD (h1.mono hw) (h2.mono hw) (hA.mono hw) (hB.mono hw) (kKX.below hw);clear h1 h2 hA hB kKX hw;go_enter func88,ntmps88
 have u6:=hid (Below.refl w.heap.size w);go_wp2;refine wp_loop_rounds 3 ?_;rw[rounds_succ];have dKX0:=KX.o.cell (i:=0) rfl;go_wp2_with fail
 with_reducible refine(C1.o _ u6.o).mono ?_
 rintro e W1 ⟨rfl,hb⟩;clear dKX0;have KX:=hid (KX.o.below hb);have w9:=hbt u6 hb;clear hb;go_wp2;rw[rounds_succ];have dKX1:=KX.o.cell (i:=1) rfl;go_wp2_with fail
 with_reducible refine(C2.o _ w9.o).mono ?_
 rintro e W2 ⟨rfl,hb⟩;clear dKX1;have KX:=hid (KX.o.below hb);have wm:=hbt w9 hb;clear hb;go_wp2;rw[rounds_succ];go_wp2;refine wp_loop_rounds 3 ?_;rw[rounds_succ];have dKX0:=KX.o.cell (i:=0) rfl;go_wp2_with fail
 with_reducible refine(CA.o _ wm.o).mono ?_
 rintro e W3 ⟨rfl,hb⟩;clear dKX0;have KX:=hid (KX.o.below hb);have wo:=hbt wm hb;clear hb;go_wp2;rw[rounds_succ];have dKX1:=KX.o.cell (i:=1) rfl;go_wp2_with fail
 with_reducible refine(CB.o _ wo.o).mono ?_
 rintro e W4 ⟨rfl,hb⟩;clear dKX1;have wu:=hbt wo hb;clear hb;go_wp2;rw[rounds_succ];go_wp2;exact bodyPost_ret (v:=.int .i64 0) (by simp[results,results88,go_sem]) rfl ⟨rfl,wu.o⟩
abbrev Ck1 (w:World) (x:ByteArray) (er:Int):Prop:=∀ (g:Nat) (W:World),Below w.heap.size w W→SBk W g #[.string x] 25→CR 88 #[.slice (some ⟨g,0,none⟩) 1 1] W (.int .i64 er)
theorem fM {w W:World}{x:ByteArray}{er:Int}(h:Ck1 w x er)(hb:Below w.heap.size w W):Ck1 W x er:=fun g X hX=>h g X (hb.trans (hX.mono hb.size))
abbrev Ck2 (w:World) (x y:ByteArray) (er:Int):Prop:=∀ (g:Nat) (W:World),Below w.heap.size w W→SBk W g #[.string x,.string y] 25→CR 88 #[.slice (some ⟨g,0,none⟩) 2 2] W (.int .i64 er)
theorem rX {w W:World}{x y:ByteArray}{er:Int}(h:Ck2 w x y er)(hb:Below w.heap.size w W):Ck2 W x y er:=fun g X hX=>h g X (hb.trans (hX.mono hb.size))
theorem z3W (t q m p z:ByteArray)(w₀:World)(h1:CV w₀ 89 #[.string t,.string t] (.string q))(h2:CV w₀ 91 #[.string ⟨#[49]⟩,.string q] (.string m))(h3:CV w₀ 92 #[.string ⟨#[49]⟩,.string q] (.string p))(h4:CV w₀ 90 #[.string m,.string p] (.string z))(kc:Ck1 w₀ t 0) :
 CV w₀ 34 #[.string t] (.tuple #[.string z,.int .i64 0]):=by
 intro w hw;obtain ⟨C1,C2,C3,C4,KC⟩:=bD (h1.mono hw) (h2.mono hw) (h3.mono hw) (h4.mono hw) (fM kc hw);clear kc h1 h2 h3 h4 hw;go_enter func34,ntmps34
 have u6:=hid (Below.refl w.heap.size w);go_wp2_with fail
 have hb:=dL w (.cells #[.string t] 25);have k1:=SBk.new w #[.string t] 25;generalize w.alloc (.cells #[.string t] 25)=W1 at *;have w9:=hbt u6 hb;have K1:=hid k1;clear k1 hb;with_reducible refine((KC.o _ _ w9.o K1.o)).mono ?_
 rintro e W2 ⟨rfl,hb⟩;have wm:=hbt w9 hb;clear hb;go_wp2_with fail
 with_reducible refine(C1.o _ wm.o).mono ?_
 rintro e W3 ⟨rfl,hb⟩;have wo:=hbt wm hb;clear hb;go_wp2_with fail
 with_reducible refine(C2.o _ wo.o).mono ?_
 rintro e W4 ⟨rfl,hb⟩;have wu:=hbt wo hb;clear hb;go_wp2_with fail
 with_reducible refine(C3.o _ wu.o).mono ?_
 rintro e W5 ⟨rfl,hb⟩;have ww:=hbt wu hb;clear hb;go_wp2_with fail
 with_reducible refine(C4.o _ ww.o).mono ?_
 rintro e W6 ⟨rfl,hb⟩;have si:=hbt ww hb;clear hb;go_wp2;exact bodyPost_ret (v:=.tuple #[.string z,.int .i64 0]) (by simp[results,results34,go_sem]) rfl ⟨rfl,si.o⟩
theorem z3T (t d q p z:ByteArray)(w₀:World)(h1:CV w₀ 89 #[.string ⟨#[50]⟩,.string t] (.string d))(h2:CV w₀ 89 #[.string t,.string t] (.string q))(h3:CV w₀ 92 #[.string ⟨#[49]⟩,.string q] (.string p))(h4:CV w₀ 90 #[.string d,.string p] (.string z))(kc:Ck1 w₀ t 0) :
 CV w₀ 35 #[.string t] (.tuple #[.string z,.int .i64 0]):=by
 intro w hw;obtain ⟨C1,C2,C3,C4,KC⟩:=bD (h1.mono hw) (h2.mono hw) (h3.mono hw) (h4.mono hw) (fM kc hw);clear kc h1 h2 h3 h4 hw;go_enter func35,ntmps35
 have u6:=hid (Below.refl w.heap.size w);go_wp2_with fail
 have hb:=dL w (.cells #[.string t] 25);have k1:=SBk.new w #[.string t] 25;generalize w.alloc (.cells #[.string t] 25)=W1 at *;have w9:=hbt u6 hb;have K1:=hid k1;clear k1 hb;with_reducible refine((KC.o _ _ w9.o K1.o)).mono ?_
 rintro e W2 ⟨rfl,hb⟩;have wm:=hbt w9 hb;clear hb;go_wp2_with fail
 with_reducible refine(C1.o _ wm.o).mono ?_
 rintro e W3 ⟨rfl,hb⟩;have wo:=hbt wm hb;clear hb;go_wp2_with fail
 with_reducible refine(C2.o _ wo.o).mono ?_
 rintro e W4 ⟨rfl,hb⟩;have wu:=hbt wo hb;clear hb;go_wp2_with fail
 with_reducible refine(C3.o _ wu.o).mono ?_
 rintro e W5 ⟨rfl,hb⟩;have ww:=hbt wu hb;clear hb;go_wp2_with fail
 with_reducible refine(C4.o _ ww.o).mono ?_
 rintro e W6 ⟨rfl,hb⟩;have si:=hbt ww hb;clear hb;go_wp2;exact bodyPost_ret (v:=.tuple #[.string z,.int .i64 0]) (by simp[results,results35,go_sem]) rfl ⟨rfl,si.o⟩
theorem z1Y (s t a1 p m:ByteArray)(w₀:World)(h1:CV w₀ 92 #[.string s,.string t] (.string a1))(h2:CV w₀ 89 #[.string s,.string t] (.string p))(h3:CV w₀ 91 #[.string ⟨#[49]⟩,.string p] (.string m))(h4:CV w₀ 93 #[.string a1,.string m] (.tuple #[.string ⟨#[]⟩,.int .i64 16]))(kc:Ck2 w₀ s t 0) :
 CV w₀ 36 #[.string s,.string t] (.tuple #[.string ⟨#[]⟩,.int .i64 15]):=by
 intro w hw;obtain ⟨C1,C2,C3,C4,KC⟩:=bD (h1.mono hw) (h2.mono hw) (h3.mono hw) (h4.mono hw) (rX kc hw);clear kc h1 h2 h3 h4 hw;go_enter func36,ntmps36
 have u6:=hid (Below.refl w.heap.size w);go_wp2_with fail
 have hb:=dL w (.cells #[.string s,.string t] 25);have k1:=SBk.new w #[.string s,.string t] 25;generalize w.alloc (.cells #[.string s,.string t] 25)=W1 at *;have w9:=hbt u6 hb;have K1:=hid k1;clear k1 hb;with_reducible refine((KC.o _ _ w9.o K1.o)).mono ?_
 rintro e W2 ⟨rfl,hb⟩;have wm:=hbt w9 hb;clear hb;go_wp2_with fail
 with_reducible refine(C1.o _ wm.o).mono ?_
 rintro e W3 ⟨rfl,hb⟩;have wo:=hbt wm hb;clear hb;go_wp2_with fail
 with_reducible refine(C2.o _ wo.o).mono ?_
 rintro e W4 ⟨rfl,hb⟩;have wu:=hbt wo hb;clear hb;go_wp2_with fail
 with_reducible refine(C3.o _ wu.o).mono ?_
 rintro e W5 ⟨rfl,hb⟩;have ww:=hbt wu hb;clear hb;go_wp2_with fail
 with_reducible refine(C4.o _ ww.o).mono ?_
 rintro e W6 ⟨rfl,hb⟩;have si:=hbt ww hb;clear hb;go_wp2;exact bodyPost_ret (v:=.tuple #[.string ⟨#[]⟩,.int .i64 15]) (by simp[results,results36,go_sem]) rfl ⟨rfl,si.o⟩
theorem z00 (s t a1 p m z:ByteArray)(w₀:World)(h1:CV w₀ 92 #[.string s,.string t] (.string a1))(h2:CV w₀ 89 #[.string s,.string t] (.string p))(h3:CV w₀ 91 #[.string ⟨#[49]⟩,.string p] (.string m))(h4:CV w₀ 93 #[.string a1,.string m] (.tuple #[.string z,.int .i64 0]))(h5:CV w₀ 40 #[.string z] (.bool false))(kc:Ck2 w₀ s t 0) :
 CV w₀ 36 #[.string s,.string t] (.tuple #[.string ⟨#[]⟩,.int .i64 15]):=by
 intro w hw;obtain ⟨C1,C2,C3,C4,C5,KC⟩:=dh (h1.mono hw) (h2.mono hw) (h3.mono hw) (h4.mono hw) (h5.mono hw) (rX kc hw);clear kc h1 h2 h3 h4 h5 hw;go_enter func36,ntmps36
 have u6:=hid (Below.refl w.heap.size w);go_wp2_with fail
 have hb:=dL w (.cells #[.string s,.string t] 25);have k1:=SBk.new w #[.string s,.string t] 25;generalize w.alloc (.cells #[.string s,.string t] 25)=W1 at *;have w9:=hbt u6 hb;have K1:=hid k1;clear k1 hb;with_reducible refine((KC.o _ _ w9.o K1.o)).mono ?_
 rintro e W2 ⟨rfl,hb⟩;have wm:=hbt w9 hb;clear hb;go_wp2_with fail
 with_reducible refine(C1.o _ wm.o).mono ?_
 rintro e W3 ⟨rfl,hb⟩;have wo:=hbt wm hb;clear hb;go_wp2_with fail
 with_reducible refine(C2.o _ wo.o).mono ?_
 rintro e W4 ⟨rfl,hb⟩;have wu:=hbt wo hb;clear hb;go_wp2_with fail
 with_reducible refine(C3.o _ wu.o).mono ?_
 rintro e W5 ⟨rfl,hb⟩;have ww:=hbt wu hb;clear hb;go_wp2_with fail
 with_reducible refine(C4.o _ ww.o).mono ?_
 rintro e W6 ⟨rfl,hb⟩;have si:=hbt ww hb;clear hb;go_wp2_with fail
 with_reducible refine(C5.o _ si.o).mono ?_
 rintro e W7 ⟨rfl,hb⟩;have pu:=hbt si hb;clear hb;go_wp2;exact bodyPost_ret (v:=.tuple #[.string ⟨#[]⟩,.int .i64 15]) (by simp[results,results36,go_sem]) rfl ⟨rfl,pu.o⟩
theorem z3R (s t a1 p m z:ByteArray)(w₀:World)(h1:CV w₀ 92 #[.string s,.string t] (.string a1))(h2:CV w₀ 89 #[.string s,.string t] (.string p))(h3:CV w₀ 91 #[.string ⟨#[49]⟩,.string p] (.string m))(h4:CV w₀ 93 #[.string a1,.string m] (.tuple #[.string z,.int .i64 0]))(h5:CV w₀ 40 #[.string z] (.bool true))(kc:Ck2 w₀ s t 0) :
 CV w₀ 36 #[.string s,.string t] (.tuple #[.string z,.int .i64 0]):=by
 intro w hw;obtain ⟨C1,C2,C3,C4,C5,KC⟩:=dh (h1.mono hw) (h2.mono hw) (h3.mono hw) (h4.mono hw) (h5.mono hw) (rX kc hw);clear kc h1 h2 h3 h4 h5 hw;go_enter func36,ntmps36
 have u6:=hid (Below.refl w.heap.size w);go_wp2_with fail
 have hb:=dL w (.cells #[.string s,.string t] 25);have k1:=SBk.new w #[.string s,.string t] 25;generalize w.alloc (.cells #[.string s,.string t] 25)=W1 at *;have w9:=hbt u6 hb;have K1:=hid k1;clear k1 hb;with_reducible refine((KC.o _ _ w9.o K1.o)).mono ?_
 rintro e W2 ⟨rfl,hb⟩;have wm:=hbt w9 hb;clear hb;go_wp2_with fail
 with_reducible refine(C1.o _ wm.o).mono ?_
 rintro e W3 ⟨rfl,hb⟩;have wo:=hbt wm hb;clear hb;go_wp2_with fail
 with_reducible refine(C2.o _ wo.o).mono ?_
 rintro e W4 ⟨rfl,hb⟩;have wu:=hbt wo hb;clear hb;go_wp2_with fail
 with_reducible refine(C3.o _ wu.o).mono ?_
 rintro e W5 ⟨rfl,hb⟩;have ww:=hbt wu hb;clear hb;go_wp2_with fail
 with_reducible refine(C4.o _ ww.o).mono ?_
 rintro e W6 ⟨rfl,hb⟩;have si:=hbt ww hb;clear hb;go_wp2_with fail
 with_reducible refine(C5.o _ si.o).mono ?_
 rintro e W7 ⟨rfl,hb⟩;have pu:=hbt si hb;clear hb;go_wp2;exact bodyPost_ret (v:=.tuple #[.string z,.int .i64 0]) (by simp[results,results36,go_sem]) rfl ⟨rfl,pu.o⟩
