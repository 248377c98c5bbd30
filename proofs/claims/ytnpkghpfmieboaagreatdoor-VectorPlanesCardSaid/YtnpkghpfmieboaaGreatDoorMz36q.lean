/- texts -/
import Derived.Test.YtnpkghpfmieboaaGreatDoorQj
import Derived.Test.YtnpkghpfmieboaaGreatDoorMz35q
open Go.Proofs.Tryz
set_option maxRecDepth 100000
set_option maxHeartbeats 20000000
open Go.Lib (hid)
namespace Go.Proofs.YtnpkghpfmieboaaGreatDoor
open Go.RowKit Go.Gb
abbrev CV (w:World) (f:Nat) (args:Array Value) (v:Value):Prop:=∀ W,Below w.heap.size w W→Calls Tryz.prog f args W fun e w'=>e=.returned v∧Below W.heap.size W w'
theorem CV.mono {w W:World}{f:Nat}{args:Array Value}{v:Value}(h:CV w f args v)(hb:Below w.heap.size w W):CV W f args v:=fun X hX=>h X (hb.trans (hX.mono hb.size))
theorem CV.at {w:World}{f:Nat}{args:Array Value}{v:Value}(h:CV w f args v):Calls Tryz.prog f args w fun e w'=>e=.returned v∧Below w.heap.size w w':=h w (Below.refl _ _)
theorem kRat (x:ByteArray)(n:Int)(w₀:World)   :
 CV w₀ 56 #[.string x,.int .i64 n] (.string x):=by
 intro w hw;clear hw;go_enter func56,ntmps56
 have u6:=hid (Below.refl w.heap.size w);go_wp2;exact bodyPost_ret (v:=.string x) (by simp[results,results56,go_sem]) rfl ⟨rfl,u6.o⟩
theorem kInt (x n:Int)(w₀:World)   :
 CV w₀ 49 #[.int .i64 x,.int .i64 n] (.int .i64 x):=by
 intro w hw;clear hw;go_enter func49,ntmps49
 have u6:=hid (Below.refl w.heap.size w);go_wp2;exact bodyPost_ret (v:=.int .i64 x) (by simp[results,results49,go_sem]) rfl ⟨rfl,u6.o⟩
theorem nS (x y z:ByteArray)(n:Int)(w₀:World)(h1:CV w₀ 63 #[.string x,.string y] (.tuple #[.string z,.int .i64 n]))  :
 CV w₀ 45 #[.string x,.string y] (.string z):=by
 intro w hw;have C1:=hid (h1.mono hw);clear h1 hw;go_enter func45,ntmps45
 have u6:=hid (Below.refl w.heap.size w);go_wp2_with fail
 with_reducible refine(C1.o _ u6.o).mono ?_
 rintro e W1 ⟨rfl,hb⟩;have w9:=hbt u6 hb;clear hb;go_wp2_with fail
 with_reducible refine(kRat z n _ _ w9.o).mono ?_
 rintro e W2 ⟨rfl,hb⟩;have sj:=hbt w9 hb;clear hb;go_wp2;exact bodyPost_ret (v:=.string z) (by simp[results,results45,go_sem]) rfl ⟨rfl,sj.o⟩
theorem lS (x y z:ByteArray)(n:Int)(w₀:World)(h1:CV w₀ 57 #[.string x,.string y] (.tuple #[.string z,.int .i64 n]))  :
 CV w₀ 31 #[.string x,.string y] (.string z):=by
 intro w hw;have C1:=hid (h1.mono hw);clear h1 hw;go_enter func31,ntmps31
 have u6:=hid (Below.refl w.heap.size w);go_wp2_with fail
 with_reducible refine(C1.o _ u6.o).mono ?_
 rintro e W1 ⟨rfl,hb⟩;have w9:=hbt u6 hb;clear hb;go_wp2_with fail
 with_reducible refine(kRat z n _ _ w9.o).mono ?_
 rintro e W2 ⟨rfl,hb⟩;have sj:=hbt w9 hb;clear hb;go_wp2;exact bodyPost_ret (v:=.string z) (by simp[results,results31,go_sem]) rfl ⟨rfl,sj.o⟩
theorem lQ (x y z:ByteArray)(n:Int)(w₀:World)(h1:CV w₀ 80 #[.string x,.string y] (.tuple #[.string z,.int .i64 n]))  :
 CV w₀ 55 #[.string x,.string y] (.string z):=by
 intro w hw;have C1:=hid (h1.mono hw);clear h1 hw;go_enter func55,ntmps55
 have u6:=hid (Below.refl w.heap.size w);go_wp2_with fail
 with_reducible refine(C1.o _ u6.o).mono ?_
 rintro e W1 ⟨rfl,hb⟩;have w9:=hbt u6 hb;clear hb;go_wp2_with fail
 with_reducible refine(kRat z n _ _ w9.o).mono ?_
 rintro e W2 ⟨rfl,hb⟩;have sj:=hbt w9 hb;clear hb;go_wp2;exact bodyPost_ret (v:=.string z) (by simp[results,results55,go_sem]) rfl ⟨rfl,sj.o⟩
theorem zR (x y z:ByteArray)(n:Int)(w₀:World)(h1:CV w₀ 62 #[.string x,.string y] (.tuple #[.string z,.int .i64 n]))  :
 CV w₀ 43 #[.string x,.string y] (.string z):=by
 intro w hw;have C1:=hid (h1.mono hw);clear h1 hw;go_enter func43,ntmps43
 have u6:=hid (Below.refl w.heap.size w);go_wp2_with fail
 with_reducible refine(C1.o _ u6.o).mono ?_
 rintro e W1 ⟨rfl,hb⟩;have w9:=hbt u6 hb;clear hb;go_wp2_with fail
 with_reducible refine(kRat z n _ _ w9.o).mono ?_
 rintro e W2 ⟨rfl,hb⟩;have sj:=hbt w9 hb;clear hb;go_wp2;exact bodyPost_ret (v:=.string z) (by simp[results,results43,go_sem]) rfl ⟨rfl,sj.o⟩
theorem qg (x y:ByteArray)(c n:Int)(w₀:World)(h1:CV w₀ 50 #[.string x,.string y] (.tuple #[.int .i64 c,.int .i64 n]))  :
 CV w₀ 23 #[.string x,.string y] (.int .i64 c):=by
 intro w hw;have C1:=hid (h1.mono hw);clear h1 hw;go_enter func23,ntmps23
 have u6:=hid (Below.refl w.heap.size w);go_wp2_with fail
 with_reducible refine(C1.o _ u6.o).mono ?_
 rintro e W1 ⟨rfl,hb⟩;have w9:=hbt u6 hb;clear hb;go_wp2_with fail
 with_reducible refine(kInt c n _ _ w9.o).mono ?_
 rintro e W2 ⟨rfl,hb⟩;have sj:=hbt w9 hb;clear hb;go_wp2;exact bodyPost_ret (v:=.int .i64 c) (by simp[results,results23,go_sem]) rfl ⟨rfl,sj.o⟩
open Go.Lib (hid)
theorem oq {x:ByteArray}(h:x≠⟨#[]⟩):(x.toList==[])=false:=by
 rw[toList_data,beq_eq_false_iff_ne];intro e;apply h
 cases x with
 | mk d=>exact congrArg ByteArray.mk (Array.ext' (by simpa using e))
theorem vD (x y z:ByteArray)(w₀:World)   :
 CV w₀ 54 #[.agg #[.string x,.string y,.string z]] (.agg #[.string x,.string y,.string z]):=by
 intro w hw;clear hw;go_enter func54,ntmps54
 go_upto_region 1 with fail
 refine ak w [(#[.string x,.string y,.string z],95),(#[.string ⟨#[]⟩,.string ⟨#[]⟩,.string ⟨#[]⟩],69)] rfl ?_;rintro W0 ⟨k1,k2,hb⟩;have u6:=hid (show Below w.heap.size w W0 from hb);have K1:=hid k1;have K2:=hid k2;clear k1 k2 hb;obtain ⟨wo,wu,ww⟩:=ah K1.o rfl rfl rfl;obtain ⟨wy,wz,si⟩:=ah K2.o rfl rfl rfl;obtain ⟨sw,r9,rf⟩:=aP K2.o;go_wp2;exact bodyPost_ret (v:=.agg #[.string x,.string y,.string z]) (by simp[results,results54,go_sem,wy,wz,si]) rfl ⟨rfl,(au (l:=[.string x,.string y,.string z]) (i:=0) (by omega) u6.o)⟩
theorem gD (x y z:ByteArray)(w₀:World)   :
 CV w₀ 28 #[.agg #[.string x,.string y,.string z]] (.agg #[.string x,.string y,.string z]):=by
 intro w hw;clear hw;go_enter func28,ntmps28
 go_upto_region 1 with fail
 refine ak w [(#[.string x,.string y,.string z],24),(#[.string ⟨#[]⟩,.string ⟨#[]⟩,.string ⟨#[]⟩],69)] rfl ?_;rintro W0 ⟨k1,k2,hb⟩;have u6:=hid (show Below w.heap.size w W0 from hb);have K1:=hid k1;have K2:=hid k2;clear k1 k2 hb;obtain ⟨wo,wu,ww⟩:=ah K1.o rfl rfl rfl;go_wp2_with fail
 with_reducible refine(vD x y z _ _ u6.o).mono ?_
 rintro e W1 ⟨rfl,hb⟩;clear wo wu ww;have K2:=hid (K2.o.below hb);have w9:=hbt u6 hb;clear hb;obtain ⟨wy,wz,si⟩:=ah K2.o rfl rfl rfl;obtain ⟨sw,r9,rf⟩:=aP K2.o;go_wp2;exact bodyPost_ret (v:=.agg #[.string x,.string y,.string z]) (by simp[results,results28,go_sem,wy,wz,si]) rfl ⟨rfl,(au (l:=[.string x,.string y,.string z]) (i:=0) (by omega) w9.o)⟩
theorem z1B  (w₀:World)   :
 CV w₀ 32 #[] (.agg #[.string ⟨#[48]⟩,.string ⟨#[48]⟩,.string ⟨#[48]⟩]):=by
 intro w hw;clear hw;go_enter func32,ntmps32
 go_upto_region 1 with fail
 refine ak w [(#[.string ⟨#[]⟩,.string ⟨#[]⟩,.string ⟨#[]⟩],69)] rfl ?_;rintro W0 ⟨k1,hb⟩;have u6:=hid (show Below w.heap.size w W0 from hb);have K1:=hid k1;clear k1 hb;obtain ⟨wo,wu,ww⟩:=ah K1.o rfl rfl rfl;obtain ⟨rM,rV,p8⟩:=aP K1.o;go_wp2;exact bodyPost_ret (v:=.agg #[.string ⟨#[48]⟩,.string ⟨#[48]⟩,.string ⟨#[48]⟩]) (by simp[results,results32,go_sem,wo,wu,ww]) rfl ⟨rfl,(au (l:=[.string ⟨#[48]⟩,.string ⟨#[48]⟩,.string ⟨#[48]⟩]) (i:=0) (by omega) u6.o)⟩
theorem cix0 (x y z:ByteArray)(W:World):(Instr.index 69 (.agg #[.string x,.string y,.string z]) (.int .i64 0)).run Tryz.prog W=.ok (.string x) W:=by kernel_rfl
theorem cix1 (x y z:ByteArray)(W:World):(Instr.index 69 (.agg #[.string x,.string y,.string z]) (.int .i64 1)).run Tryz.prog W=.ok (.string y) W:=by kernel_rfl
theorem cix2 (x y z:ByteArray)(W:World):(Instr.index 69 (.agg #[.string x,.string y,.string z]) (.int .i64 2)).run Tryz.prog W=.ok (.string z) W:=by kernel_rfl
theorem z1E (x y z:ByteArray)(w₀:World)  (hx:x≠⟨#[]⟩)(hy:y≠⟨#[]⟩)(hz:z≠⟨#[]⟩) :
 CV w₀ 33 #[.agg #[.string x,.string y,.string z]] (.tuple #[.agg #[.string x,.string y,.string z],.int .i64 0]):=by
 intro w hw;have i0:=cix0 x y z;have i1:=cix1 x y z;have i2:=cix2 x y z;have kx:=oq hx;clear hx;have ky:=oq hy;clear hy;have kz:=oq hz;clear hz hw;go_enter func33,ntmps33
 go_upto_region 1 with fail
 refine ak w [(#[.string x,.string y,.string z],69),(#[.string ⟨#[]⟩,.string ⟨#[]⟩,.string ⟨#[]⟩],24)] rfl ?_;rintro W0 ⟨k1,k2,hb⟩;have u6:=hid (show Below w.heap.size w W0 from hb);have K1:=hid k1;have K2:=hid k2;clear k1 k2 hb;obtain ⟨wo,wu,ww⟩:=ah K1.o rfl rfl rfl;go_wp2;clear wo wu ww;refine wp_loop_rounds 4 ?_;rw[rounds_succ];go_wp2;rw[rounds_succ];go_wp2;rw[rounds_succ];go_wp2;rw[rounds_succ];obtain ⟨wo,wu,ww⟩:=ah K1.o rfl rfl rfl;obtain ⟨wy,wz,si⟩:=ah K2.o rfl rfl rfl;obtain ⟨sw,r9,rf⟩:=aP K2.o;go_wp2;exact bodyPost_ret (v:=.tuple #[.agg #[.string x,.string y,.string z],.int .i64 0]) (by simp[results,results33,go_sem,wy,wz,si]) rfl ⟨rfl,(au (l:=[.string x,.string y,.string z]) (i:=0) (by omega) u6.o)⟩
theorem z1H (y z:ByteArray)(w₀:World)   :
 CV w₀ 33 #[.agg #[.string ⟨#[]⟩,.string y,.string z]] (.tuple #[.agg #[.string ⟨#[]⟩,.string ⟨#[]⟩,.string ⟨#[]⟩],.int .i64 1]):=by
 intro w hw;have i0:=cix0 ⟨#[]⟩ y z;have i1:=cix1 ⟨#[]⟩ y z;have i2:=cix2 ⟨#[]⟩ y z;clear hw;go_enter func33,ntmps33
 go_upto_region 1 with fail
 refine ak w [(#[.string ⟨#[]⟩,.string y,.string z],69),(#[.string ⟨#[]⟩,.string ⟨#[]⟩,.string ⟨#[]⟩],24)] rfl ?_;rintro W0 ⟨k1,k2,hb⟩;have u6:=hid (show Below w.heap.size w W0 from hb);have K1:=hid k1;have K2:=hid k2;clear k1 k2 hb;obtain ⟨wo,wu,ww⟩:=ah K1.o rfl rfl rfl;go_wp2;clear wo wu ww;refine wp_loop_rounds 4 ?_;rw[rounds_succ];obtain ⟨wy,wz,si⟩:=ah K2.o rfl rfl rfl;obtain ⟨sw,r9,rf⟩:=aP K2.o;go_wp2;exact bodyPost_ret (v:=.tuple #[.agg #[.string ⟨#[]⟩,.string ⟨#[]⟩,.string ⟨#[]⟩],.int .i64 1]) (by simp[results,results33,go_sem,wy,wz,si]) rfl ⟨rfl,(au (l:=[.string ⟨#[]⟩,.string ⟨#[]⟩,.string ⟨#[]⟩]) (i:=0) (by omega) u6.o)⟩
theorem z1G (x z:ByteArray)(w₀:World)  (hx:x≠⟨#[]⟩) :
 CV w₀ 33 #[.agg #[.string x,.string ⟨#[]⟩,.string z]] (.tuple #[.agg #[.string ⟨#[]⟩,.string ⟨#[]⟩,.string ⟨#[]⟩],.int .i64 1]):=by
 intro w hw;have i0:=cix0 x ⟨#[]⟩ z;have i1:=cix1 x ⟨#[]⟩ z;have i2:=cix2 x ⟨#[]⟩ z;have kx:=oq hx;clear hx hw;go_enter func33,ntmps33
 go_upto_region 1 with fail
 refine ak w [(#[.string x,.string ⟨#[]⟩,.string z],69),(#[.string ⟨#[]⟩,.string ⟨#[]⟩,.string ⟨#[]⟩],24)] rfl ?_;rintro W0 ⟨k1,k2,hb⟩;have u6:=hid (show Below w.heap.size w W0 from hb);have K1:=hid k1;have K2:=hid k2;clear k1 k2 hb;obtain ⟨wo,wu,ww⟩:=ah K1.o rfl rfl rfl;go_wp2;clear wo wu ww;refine wp_loop_rounds 4 ?_;rw[rounds_succ];go_wp2;rw[rounds_succ];obtain ⟨wy,wz,si⟩:=ah K2.o rfl rfl rfl;obtain ⟨sw,r9,rf⟩:=aP K2.o;go_wp2;exact bodyPost_ret (v:=.tuple #[.agg #[.string ⟨#[]⟩,.string ⟨#[]⟩,.string ⟨#[]⟩],.int .i64 1]) (by simp[results,results33,go_sem,wy,wz,si]) rfl ⟨rfl,(au (l:=[.string ⟨#[]⟩,.string ⟨#[]⟩,.string ⟨#[]⟩]) (i:=0) (by omega) u6.o)⟩
theorem z1F (x y:ByteArray)(w₀:World)  (hx:x≠⟨#[]⟩)(hy:y≠⟨#[]⟩) :
 CV w₀ 33 #[.agg #[.string x,.string y,.string ⟨#[]⟩]] (.tuple #[.agg #[.string ⟨#[]⟩,.string ⟨#[]⟩,.string ⟨#[]⟩],.int .i64 1]):=by
 intro w hw;have i0:=cix0 x y ⟨#[]⟩;have i1:=cix1 x y ⟨#[]⟩;have i2:=cix2 x y ⟨#[]⟩;have kx:=oq hx;clear hx;have ky:=oq hy;clear hy hw;go_enter func33,ntmps33
 go_upto_region 1 with fail
 refine ak w [(#[.string x,.string y,.string ⟨#[]⟩],69),(#[.string ⟨#[]⟩,.string ⟨#[]⟩,.string ⟨#[]⟩],24)] rfl ?_;rintro W0 ⟨k1,k2,hb⟩;have u6:=hid (show Below w.heap.size w W0 from hb);have K1:=hid k1;have K2:=hid k2;clear k1 k2 hb;obtain ⟨wo,wu,ww⟩:=ah K1.o rfl rfl rfl;go_wp2;clear wo wu ww;refine wp_loop_rounds 4 ?_;rw[rounds_succ];go_wp2;rw[rounds_succ];go_wp2;rw[rounds_succ];obtain ⟨wy,wz,si⟩:=ah K2.o rfl rfl rfl;obtain ⟨sw,r9,rf⟩:=aP K2.o;go_wp2;exact bodyPost_ret (v:=.tuple #[.agg #[.string ⟨#[]⟩,.string ⟨#[]⟩,.string ⟨#[]⟩],.int .i64 1]) (by simp[results,results33,go_sem,wy,wz,si]) rfl ⟨rfl,(au (l:=[.string ⟨#[]⟩,.string ⟨#[]⟩,.string ⟨#[]⟩]) (i:=0) (by omega) u6.o)⟩
theorem rJ (x:ByteArray)(w₀:World)  (hx:x≠⟨#[]⟩) :
 CV w₀ 47 #[.string x] (.tuple #[.string x,.int .i64 0]):=by
 intro w hw;have kx:=oq hx;clear hx hw;go_enter func47,ntmps47
 have u6:=hid (Below.refl w.heap.size w);go_wp2;exact bodyPost_ret (v:=.tuple #[.string x,.int .i64 0]) (by simp[results,results47,go_sem]) rfl ⟨rfl,u6.o⟩
theorem z3S  (w₀:World)   :
 CV w₀ 47 #[.string ⟨#[]⟩] (.tuple #[.string ⟨#[]⟩,.int .i64 1]):=by
 intro w hw;clear hw;go_enter func47,ntmps47
 have u6:=hid (Below.refl w.heap.size w);go_wp2;exact bodyPost_ret (v:=.tuple #[.string ⟨#[]⟩,.int .i64 1]) (by simp[results,results47,go_sem]) rfl ⟨rfl,u6.o⟩
set_option maxRecDepth 100000 in
theorem wh (d:Nat)(a b c x y z:ByteArray)(W:World):(Op.equalIn (d+1+1) 69 (.agg #[.string a,.string b,.string c]) (.agg #[.string x,.string y,.string z])).run Tryz.prog W=.ok (a.toList==x.toList&&(b.toList==y.toList&&c.toList==z.toList)) W:=by
 have hs:∀ a b:ByteArray,∀ W,(Op.equalIn (d+1) 22 (.string a) (.string b)).run Tryz.prog W=.ok (a.toList==b.toList) W:=fun a b W=>run_equalIn_string W d 22 a b underlying22;have p0:∀ (a b c:ByteArray) W,(part 22 #[.string a,.string b,.string c] 0).run Tryz.prog W=.ok (.string a) W:=fun _ _ _ _=>by kernel_rfl
 have p1:∀ (a b c:ByteArray) W,(part 22 #[.string a,.string b,.string c] 1).run Tryz.prog W=.ok (.string b) W:=fun _ _ _ _=>by kernel_rfl
 have p2:∀ (a b c:ByteArray) W,(part 22 #[.string a,.string b,.string c] 2).run Tryz.prog W=.ok (.string c) W:=fun _ _ _ _=>by kernel_rfl
 have hc:∀ W,(sizeOf 22).run Tryz.prog W=.ok 1 W:=fun _=>by kernel_rfl
 generalize d+1=k at *;have hu:=underlying69;simp only[Op.equalIn,Sem.run_bind,run_underlying hu,Result.andThen_ok,hc];rw[show([:3]:Std.Legacy.Range)=[0:3]from rfl];simp only[Std.Legacy.Range.forIn_eq_forIn_range',Std.Legacy.Range.size,List.range',List.forIn_cons,List.forIn_nil,Sem.run_bind,Nat.mul_one,Nat.zero_add,p0,hs,Result.andThen_ok];cases a.toList==x.toList<;>cases h2:b.toList==y.toList<;>cases h3:c.toList==z.toList<;>simp[Sem.run_pure,Sem.run_bind,h2,h3,p1,p2,hs]
def o7 (a b c x y z:ByteArray):Bool:=a.toList==x.toList&&(b.toList==y.toList&&c.toList==z.toList)
theorem rX {a b c x y z:ByteArray}{r:Bool}(h:o7 a b c x y z=r)(W:World):(Op.equalIn 10000 69 (.agg #[.string a,.string b,.string c]) (.agg #[.string x,.string y,.string z])).run Tryz.prog W=.ok r W:=by
 subst h;exact wh 9998 a b c x y z W
theorem z4H {q:Rat}{k:Nat}(h:SmQ k q)(h0:0<k)(hk:k≤10000):LQ q:=⟨Nat.le_trans (gU h.1 h0) hk,Nat.le_trans (gU h.2 h0) hk⟩
theorem z0e (a:ByteArray)(ha:a.size≤900):∃ q:Rat,∀ W,Calls Tryz.prog 51 #[.string a] W fun e w'=>∃ p c s d,e=.returned (.tuple #[.agg #[.bool (ai q.num),.slice p (ae q.num) c,.slice s (ag q.den) d],.bool (vldQ a.data.toList)])∧RN w' (.slice p (ae q.num) c) q.num.natAbs∧RN w' (.slice s (ag q.den) d) q.den∧Below W.heap.size W w':=by
 cases h:vldQ a.data.toList with
 | false=>exact⟨0,fun W=>z1W a h ha W⟩
 | true =>
   have e:=z3J h;obtain⟨q,hq⟩:∃ q,q=qval a.data.toList:=⟨_,rfl⟩;rw[← hq]at e;subst e;exact⟨q,fun W=>z5B q (z07 ha (by decide)) (by omega) W⟩
