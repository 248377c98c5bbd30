/- texts -/
import Derived.Test.YthbdjinlcgnebaaGreatDoorQj
import Derived.Test.YthbdjinlcgnebaaGreatDoorMz37q
open Go.Proofs.Tryz
set_option maxRecDepth 100000
set_option maxHeartbeats 20000000
open Go.Lib (hid)
namespace Go.Proofs.YthbdjinlcgnebaaGreatDoor
open Go.RowKit Go.Gb
abbrev CV (w:World) (f:Nat) (args:Array Value) (v:Value):Prop:=∀ W,Below w.heap.size w W→Calls Tryz.prog f args W fun e w'=>e=.returned v∧Below W.heap.size W w'
theorem CV.mono {w W:World}{f:Nat}{args:Array Value}{v:Value}(h:CV w f args v)(hb:Below w.heap.size w W):CV W f args v:=fun X hX=>h X (hb.trans (hX.mono hb.size))
theorem CV.at {w:World}{f:Nat}{args:Array Value}{v:Value}(h:CV w f args v):Calls Tryz.prog f args w fun e w'=>e=.returned v∧Below w.heap.size w w':=h w (Below.refl _ _)
theorem kRat (x:ByteArray)(n:Int)(w₀:World)   :
 CV w₀ 53 #[.string x,.int .i64 n] (.string x):=by
 intro w hw;clear hw;go_enter func53,ntmps53
 have u6:=hid (Below.refl w.heap.size w);go_wp2;exact bodyPost_ret (v:=.string x) (by simp[results,results53,go_sem]) rfl ⟨rfl,u6.out⟩
theorem kInt (x n:Int)(w₀:World)   :
 CV w₀ 74 #[.int .i64 x,.int .i64 n] (.int .i64 x):=by
 intro w hw;clear hw;go_enter func74,ntmps74
 have u6:=hid (Below.refl w.heap.size w);go_wp2;exact bodyPost_ret (v:=.int .i64 x) (by simp[results,results74,go_sem]) rfl ⟨rfl,u6.out⟩
theorem mX (x y z:ByteArray)(n:Int)(w₀:World)(h1:CV w₀ 54 #[.string x,.string y] (.tuple #[.string z,.int .i64 n]))  :
 CV w₀ 28 #[.string x,.string y] (.string z):=by
 intro w hw;have C1:=hid (h1.mono hw);clear h1 hw;go_enter func28,ntmps28
 have u6:=hid (Below.refl w.heap.size w);go_wp2_with fail
 with_reducible refine(C1.out _ u6.out).mono ?_
 rintro e W1 ⟨rfl,hb⟩;have w9:=hbt u6 hb;clear hb;go_wp2_with fail
 with_reducible refine(kRat z n _ _ w9.out).mono ?_
 rintro e W2 ⟨rfl,hb⟩;have wy:=hbt w9 hb;clear hb;go_wp2;exact bodyPost_ret (v:=.string z) (by simp[results,results28,go_sem]) rfl ⟨rfl,wy.out⟩
theorem lm (x y z:ByteArray)(n:Int)(w₀:World)(h1:CV w₀ 56 #[.string x,.string y] (.tuple #[.string z,.int .i64 n]))  :
 CV w₀ 33 #[.string x,.string y] (.string z):=by
 intro w hw;have C1:=hid (h1.mono hw);clear h1 hw;go_enter func33,ntmps33
 have u6:=hid (Below.refl w.heap.size w);go_wp2_with fail
 with_reducible refine(C1.out _ u6.out).mono ?_
 rintro e W1 ⟨rfl,hb⟩;have w9:=hbt u6 hb;clear hb;go_wp2_with fail
 with_reducible refine(kRat z n _ _ w9.out).mono ?_
 rintro e W2 ⟨rfl,hb⟩;have wy:=hbt w9 hb;clear hb;go_wp2;exact bodyPost_ret (v:=.string z) (by simp[results,results33,go_sem]) rfl ⟨rfl,wy.out⟩
theorem ll (x y z:ByteArray)(n:Int)(w₀:World)(h1:CV w₀ 82 #[.string x,.string y] (.tuple #[.string z,.int .i64 n]))  :
 CV w₀ 58 #[.string x,.string y] (.string z):=by
 intro w hw;have C1:=hid (h1.mono hw);clear h1 hw;go_enter func58,ntmps58
 have u6:=hid (Below.refl w.heap.size w);go_wp2_with fail
 with_reducible refine(C1.out _ u6.out).mono ?_
 rintro e W1 ⟨rfl,hb⟩;have w9:=hbt u6 hb;clear hb;go_wp2_with fail
 with_reducible refine(kRat z n _ _ w9.out).mono ?_
 rintro e W2 ⟨rfl,hb⟩;have wy:=hbt w9 hb;clear hb;go_wp2;exact bodyPost_ret (v:=.string z) (by simp[results,results58,go_sem]) rfl ⟨rfl,wy.out⟩
theorem yU (x y z:ByteArray)(n:Int)(w₀:World)(h1:CV w₀ 73 #[.string x,.string y] (.tuple #[.string z,.int .i64 n]))  :
 CV w₀ 49 #[.string x,.string y] (.string z):=by
 intro w hw;have C1:=hid (h1.mono hw);clear h1 hw;go_enter func49,ntmps49
 have u6:=hid (Below.refl w.heap.size w);go_wp2_with fail
 with_reducible refine(C1.out _ u6.out).mono ?_
 rintro e W1 ⟨rfl,hb⟩;have w9:=hbt u6 hb;clear hb;go_wp2_with fail
 with_reducible refine(kRat z n _ _ w9.out).mono ?_
 rintro e W2 ⟨rfl,hb⟩;have wy:=hbt w9 hb;clear hb;go_wp2;exact bodyPost_ret (v:=.string z) (by simp[results,results49,go_sem]) rfl ⟨rfl,wy.out⟩
theorem xE (x y:ByteArray)(c n:Int)(w₀:World)(h1:CV w₀ 75 #[.string x,.string y] (.tuple #[.int .i64 c,.int .i64 n]))  :
 CV w₀ 51 #[.string x,.string y] (.int .i64 c):=by
 intro w hw;have C1:=hid (h1.mono hw);clear h1 hw;go_enter func51,ntmps51
 have u6:=hid (Below.refl w.heap.size w);go_wp2_with fail
 with_reducible refine(C1.out _ u6.out).mono ?_
 rintro e W1 ⟨rfl,hb⟩;have w9:=hbt u6 hb;clear hb;go_wp2_with fail
 with_reducible refine(kInt c n _ _ w9.out).mono ?_
 rintro e W2 ⟨rfl,hb⟩;have wy:=hbt w9 hb;clear hb;go_wp2;exact bodyPost_ret (v:=.int .i64 c) (by simp[results,results51,go_sem]) rfl ⟨rfl,wy.out⟩
open Go.Lib (hid)
theorem nG {x:ByteArray}(h:x≠⟨#[]⟩):(x.toList==[])=false:=by
 rw[toList_data,beq_eq_false_iff_ne];intro e;apply h
 cases x with
 | mk d=>exact congrArg ByteArray.mk (Array.ext' (by simpa using e))
theorem ul (x y z:ByteArray)(w₀:World)   :
 CV w₀ 52 #[.agg #[.string x,.string y,.string z]] (.agg #[.string x,.string y,.string z]):=by
 intro w hw;clear hw;go_enter func52,ntmps52
 go_upto_region 1 with fail
 refine ak w [(#[.string x,.string y,.string z],85),(#[.string ⟨#[]⟩,.string ⟨#[]⟩,.string ⟨#[]⟩],51)] rfl ?_;rintro W0 ⟨k1,k2,hb⟩;have u6:=hid (show Below w.heap.size w W0 from hb);have K1:=hid k1;have K2:=hid k2;clear k1 k2 hb;obtain ⟨wo,wu,ww⟩:=ag K1.out rfl rfl rfl;obtain ⟨wz,sw,rf⟩:=ag K2.out rfl rfl rfl;obtain ⟨rM,rV,p8⟩:=aN K2.out;go_wp2;exact bodyPost_ret (v:=.agg #[.string x,.string y,.string z]) (by simp[results,results52,go_sem,wz,sw,rf]) rfl ⟨rfl,(av (l:=[.string x,.string y,.string z]) (i:=0) (by omega) u6.out)⟩
theorem fE (x y z:ByteArray)(w₀:World)   :
 CV w₀ 27 #[.agg #[.string x,.string y,.string z]] (.agg #[.string x,.string y,.string z]):=by
 intro w hw;clear hw;go_enter func27,ntmps27
 go_upto_region 1 with fail
 refine ak w [(#[.string x,.string y,.string z],24),(#[.string ⟨#[]⟩,.string ⟨#[]⟩,.string ⟨#[]⟩],51)] rfl ?_;rintro W0 ⟨k1,k2,hb⟩;have u6:=hid (show Below w.heap.size w W0 from hb);have K1:=hid k1;have K2:=hid k2;clear k1 k2 hb;obtain ⟨wo,wu,ww⟩:=ag K1.out rfl rfl rfl;go_wp2_with fail
 with_reducible refine(ul x y z _ _ u6.out).mono ?_
 rintro e W1 ⟨rfl,hb⟩;clear wo wu ww;have K2:=hid (K2.out.below hb);have w9:=hbt u6 hb;clear hb;obtain ⟨wz,sw,rf⟩:=ag K2.out rfl rfl rfl;obtain ⟨rM,rV,p8⟩:=aN K2.out;go_wp2;exact bodyPost_ret (v:=.agg #[.string x,.string y,.string z]) (by simp[results,results27,go_sem,wz,sw,rf]) rfl ⟨rfl,(av (l:=[.string x,.string y,.string z]) (i:=0) (by omega) w9.out)⟩
theorem z0X  (w₀:World)   :
 CV w₀ 50 #[] (.agg #[.string ⟨#[48]⟩,.string ⟨#[48]⟩,.string ⟨#[48]⟩]):=by
 intro w hw;clear hw;go_enter func50,ntmps50
 go_upto_region 1 with fail
 refine ak w [(#[.string ⟨#[]⟩,.string ⟨#[]⟩,.string ⟨#[]⟩],51)] rfl ?_;rintro W0 ⟨k1,hb⟩;have u6:=hid (show Below w.heap.size w W0 from hb);have K1:=hid k1;clear k1 hb;obtain ⟨wo,wu,ww⟩:=ag K1.out rfl rfl rfl;obtain ⟨ma,mf,mi⟩:=aN K1.out;go_wp2;exact bodyPost_ret (v:=.agg #[.string ⟨#[48]⟩,.string ⟨#[48]⟩,.string ⟨#[48]⟩]) (by simp[results,results50,go_sem,wo,wu,ww]) rfl ⟨rfl,(av (l:=[.string ⟨#[48]⟩,.string ⟨#[48]⟩,.string ⟨#[48]⟩]) (i:=0) (by omega) u6.out)⟩
theorem cix0 (x y z:ByteArray)(W:World):(Instr.index 51 (.agg #[.string x,.string y,.string z]) (.int .i64 0)).run Tryz.prog W=.ok (.string x) W:=by kernel_rfl
theorem cix1 (x y z:ByteArray)(W:World):(Instr.index 51 (.agg #[.string x,.string y,.string z]) (.int .i64 1)).run Tryz.prog W=.ok (.string y) W:=by kernel_rfl
theorem cix2 (x y z:ByteArray)(W:World):(Instr.index 51 (.agg #[.string x,.string y,.string z]) (.int .i64 2)).run Tryz.prog W=.ok (.string z) W:=by kernel_rfl
theorem z15 (x y z:ByteArray)(w₀:World)  (hx:x≠⟨#[]⟩)(hy:y≠⟨#[]⟩)(hz:z≠⟨#[]⟩) :
 CV w₀ 29 #[.agg #[.string x,.string y,.string z]] (.tuple #[.agg #[.string x,.string y,.string z],.int .i64 0]):=by
 intro w hw;have i0:=cix0 x y z;have i1:=cix1 x y z;have i2:=cix2 x y z;have kx:=nG hx;clear hx;have ky:=nG hy;clear hy;have kz:=nG hz;clear hz hw;go_enter func29,ntmps29
 go_upto_region 1 with fail
 refine ak w [(#[.string x,.string y,.string z],51),(#[.string ⟨#[]⟩,.string ⟨#[]⟩,.string ⟨#[]⟩],24)] rfl ?_;rintro W0 ⟨k1,k2,hb⟩;have u6:=hid (show Below w.heap.size w W0 from hb);have K1:=hid k1;have K2:=hid k2;clear k1 k2 hb;obtain ⟨wo,wu,ww⟩:=ag K1.out rfl rfl rfl;go_wp2;clear wo wu ww;refine wp_loop_rounds 4 ?_;rw[rounds_succ];go_wp2;rw[rounds_succ];go_wp2;rw[rounds_succ];go_wp2;rw[rounds_succ];obtain ⟨wo,wu,ww⟩:=ag K1.out rfl rfl rfl;obtain ⟨wz,sw,rf⟩:=ag K2.out rfl rfl rfl;obtain ⟨rM,rV,p8⟩:=aN K2.out;go_wp2;exact bodyPost_ret (v:=.tuple #[.agg #[.string x,.string y,.string z],.int .i64 0]) (by simp[results,results29,go_sem,wz,sw,rf]) rfl ⟨rfl,(av (l:=[.string x,.string y,.string z]) (i:=0) (by omega) u6.out)⟩
theorem z19 (y z:ByteArray)(w₀:World)   :
 CV w₀ 29 #[.agg #[.string ⟨#[]⟩,.string y,.string z]] (.tuple #[.agg #[.string ⟨#[]⟩,.string ⟨#[]⟩,.string ⟨#[]⟩],.int .i64 1]):=by
 intro w hw;have i0:=cix0 ⟨#[]⟩ y z;have i1:=cix1 ⟨#[]⟩ y z;have i2:=cix2 ⟨#[]⟩ y z;clear hw;go_enter func29,ntmps29
 go_upto_region 1 with fail
 refine ak w [(#[.string ⟨#[]⟩,.string y,.string z],51),(#[.string ⟨#[]⟩,.string ⟨#[]⟩,.string ⟨#[]⟩],24)] rfl ?_;rintro W0 ⟨k1,k2,hb⟩;have u6:=hid (show Below w.heap.size w W0 from hb);have K1:=hid k1;have K2:=hid k2;clear k1 k2 hb;obtain ⟨wo,wu,ww⟩:=ag K1.out rfl rfl rfl;go_wp2;clear wo wu ww;refine wp_loop_rounds 4 ?_;rw[rounds_succ];obtain ⟨wz,sw,rf⟩:=ag K2.out rfl rfl rfl;obtain ⟨rM,rV,p8⟩:=aN K2.out;go_wp2;exact bodyPost_ret (v:=.tuple #[.agg #[.string ⟨#[]⟩,.string ⟨#[]⟩,.string ⟨#[]⟩],.int .i64 1]) (by simp[results,results29,go_sem,wz,sw,rf]) rfl ⟨rfl,(av (l:=[.string ⟨#[]⟩,.string ⟨#[]⟩,.string ⟨#[]⟩]) (i:=0) (by omega) u6.out)⟩
theorem z18 (x z:ByteArray)(w₀:World)  (hx:x≠⟨#[]⟩) :
 CV w₀ 29 #[.agg #[.string x,.string ⟨#[]⟩,.string z]] (.tuple #[.agg #[.string ⟨#[]⟩,.string ⟨#[]⟩,.string ⟨#[]⟩],.int .i64 1]):=by
 intro w hw;have i0:=cix0 x ⟨#[]⟩ z;have i1:=cix1 x ⟨#[]⟩ z;have i2:=cix2 x ⟨#[]⟩ z;have kx:=nG hx;clear hx hw;go_enter func29,ntmps29
 go_upto_region 1 with fail
 refine ak w [(#[.string x,.string ⟨#[]⟩,.string z],51),(#[.string ⟨#[]⟩,.string ⟨#[]⟩,.string ⟨#[]⟩],24)] rfl ?_;rintro W0 ⟨k1,k2,hb⟩;have u6:=hid (show Below w.heap.size w W0 from hb);have K1:=hid k1;have K2:=hid k2;clear k1 k2 hb;obtain ⟨wo,wu,ww⟩:=ag K1.out rfl rfl rfl;go_wp2;clear wo wu ww;refine wp_loop_rounds 4 ?_;rw[rounds_succ];go_wp2;rw[rounds_succ];obtain ⟨wz,sw,rf⟩:=ag K2.out rfl rfl rfl;obtain ⟨rM,rV,p8⟩:=aN K2.out;go_wp2;exact bodyPost_ret (v:=.tuple #[.agg #[.string ⟨#[]⟩,.string ⟨#[]⟩,.string ⟨#[]⟩],.int .i64 1]) (by simp[results,results29,go_sem,wz,sw,rf]) rfl ⟨rfl,(av (l:=[.string ⟨#[]⟩,.string ⟨#[]⟩,.string ⟨#[]⟩]) (i:=0) (by omega) u6.out)⟩
theorem z16 (x y:ByteArray)(w₀:World)  (hx:x≠⟨#[]⟩)(hy:y≠⟨#[]⟩) :
 CV w₀ 29 #[.agg #[.string x,.string y,.string ⟨#[]⟩]] (.tuple #[.agg #[.string ⟨#[]⟩,.string ⟨#[]⟩,.string ⟨#[]⟩],.int .i64 1]):=by
 intro w hw;have i0:=cix0 x y ⟨#[]⟩;have i1:=cix1 x y ⟨#[]⟩;have i2:=cix2 x y ⟨#[]⟩;have kx:=nG hx;clear hx;have ky:=nG hy;clear hy hw;go_enter func29,ntmps29
 go_upto_region 1 with fail
 refine ak w [(#[.string x,.string y,.string ⟨#[]⟩],51),(#[.string ⟨#[]⟩,.string ⟨#[]⟩,.string ⟨#[]⟩],24)] rfl ?_;rintro W0 ⟨k1,k2,hb⟩;have u6:=hid (show Below w.heap.size w W0 from hb);have K1:=hid k1;have K2:=hid k2;clear k1 k2 hb;obtain ⟨wo,wu,ww⟩:=ag K1.out rfl rfl rfl;go_wp2;clear wo wu ww;refine wp_loop_rounds 4 ?_;rw[rounds_succ];go_wp2;rw[rounds_succ];go_wp2;rw[rounds_succ];obtain ⟨wz,sw,rf⟩:=ag K2.out rfl rfl rfl;obtain ⟨rM,rV,p8⟩:=aN K2.out;go_wp2;exact bodyPost_ret (v:=.tuple #[.agg #[.string ⟨#[]⟩,.string ⟨#[]⟩,.string ⟨#[]⟩],.int .i64 1]) (by simp[results,results29,go_sem,wz,sw,rf]) rfl ⟨rfl,(av (l:=[.string ⟨#[]⟩,.string ⟨#[]⟩,.string ⟨#[]⟩]) (i:=0) (by omega) u6.out)⟩
theorem qB (x:ByteArray)(w₀:World)  (hx:x≠⟨#[]⟩) :
 CV w₀ 39 #[.string x] (.tuple #[.string x,.int .i64 0]):=by
 intro w hw;have kx:=nG hx;clear hx hw;go_enter func39,ntmps39
 have u6:=hid (Below.refl w.heap.size w);go_wp2;exact bodyPost_ret (v:=.tuple #[.string x,.int .i64 0]) (by simp[results,results39,go_sem]) rfl ⟨rfl,u6.out⟩
theorem z03  (w₀:World)   :
 CV w₀ 39 #[.string ⟨#[]⟩] (.tuple #[.string ⟨#[]⟩,.int .i64 1]):=by
 intro w hw;clear hw;go_enter func39,ntmps39
 have u6:=hid (Below.refl w.heap.size w);go_wp2;exact bodyPost_ret (v:=.tuple #[.string ⟨#[]⟩,.int .i64 1]) (by simp[results,results39,go_sem]) rfl ⟨rfl,u6.out⟩
end Go.Proofs.YthbdjinlcgnebaaGreatDoor
open Go.Lib (hid)
namespace Go.Proofs.YthbdjinlcgnebaaGreatDoor
open Go.RowKit Go.Gb
theorem oJ (a:ByteArray)(ha:a.size≤900)(w:World)(hl:La w) :
 Calls Tryz.prog 72 #[.string a] w fun e w'=>(∃ s b:ByteArray,e=.returned (.tuple #[.agg #[.string s,.string b],.bool (vldQ a.data.toList)]))∧Below w.heap.size w w':=by
 cases h:vldQ a.data.toList with
 | false=>exact wY a h ha w hl
 | true =>
   have e:=z3e h;obtain⟨q,hq⟩:∃ q,q=qval a.data.toList:=⟨_,rfl⟩;rw[← hq]at e;subst e;refine(kN q ((zu ha (by decide)).fit (by decide)) w hl).mono ?_;rintro e w' ⟨rfl,hb⟩;exact⟨⟨_,_,rfl⟩,hb⟩
theorem z1q (a b:ByteArray)(h:(vldQ a.data.toList&&vldQ b.data.toList)=false)(ha:a.size≤900)(hb:b.size≤900)(w:World)(hl:La w) :
 Calls Tryz.prog 93 #[.string a,.string b] w fun e w'=>∃ s b t c:ByteArray,e=.returned (.tuple #[.agg #[.string s,.string b],.agg #[.string t,.string c],.bool false])∧Below w.heap.size w w':=by
 refine(qI a b _ _ w hl (fun W hW=>oJ a ha W hW) (fun W hW=>oJ b hb W hW)).mono ?_;rintro e w' ⟨⟨s,u,t,c,rfl⟩,hB⟩;rw[h];exact⟨s,u,t,c,rfl,hB⟩
theorem jQ (a b:ByteArray)(k:Int)(h:(vldQ a.data.toList&&vldQ b.data.toList)=false)(ha:a.size≤900)(hb:b.size≤900)(w:World)(hl:La w) :
 CR 76 #[.string a,.int .u8 k,.string b] w (.tuple #[.string ⟨#[]⟩,.int .i64 1]):=by
 have HL:=hid hl;have C1:=hid (fun W (hW:La W)=>z1q a b h ha hb W hW);clear hl h ha hb;go_enter func76,ntmps76
 have u6:=hid (Below.refl w.heap.size w);go_wp2_with fail
 with_reducible refine(C1.out _ (HL.out.on u6.out)).mono ?_
 rintro e W1 ⟨pq,ol,oM,oV,rfl,hb⟩;have w9:=hbt u6 hb;clear hb;go_upto_region 2 with fail
 refine ak W1 [(#[.string pq,.string ol],103),(#[.string oM,.string oV],103)] rfl ?_;have L1:=w9.out.size;rintro W2 ⟨k1,k2,hb⟩;have hb:Below W1.heap.size W1 W2:=hb;have wy:=hbt w9 hb;have K1:=hid k1;have K2:=hid k2;clear k1 k2 hb;go_wp2;exact bodyPost_ret (v:=.tuple #[.string ⟨#[]⟩,.int .i64 1]) (by simp[results,results76,go_sem]) rfl ⟨rfl,wy.out⟩
theorem z3k (a b:ByteArray)(h:(vldQ a.data.toList&&vldQ b.data.toList)=false)(ha:a.size≤900)(hb:b.size≤900)(w:World)(hl:La w) :
 CR 54 #[.string a,.string b] w (.tuple #[.string ⟨#[]⟩,.int .i64 1]):=by
 have HL:=hid hl;have C1:=hid (fun W (hW:La W)=>jQ a b 43 h ha hb W hW);clear hl h ha hb;go_enter func54,ntmps54
 have u6:=hid (Below.refl w.heap.size w);go_wp2_with fail
 with_reducible refine(C1.out _ (HL.out.on u6.out)).mono ?_
 rintro e W1 ⟨rfl,hb⟩;have w9:=hbt u6 hb;clear hb;go_wp2;exact bodyPost_ret (v:=.tuple #[.string ⟨#[]⟩,.int .i64 1]) (by simp[results,results54,go_sem]) rfl ⟨rfl,w9.out⟩
theorem z3i (a b:ByteArray)(h:(vldQ a.data.toList&&vldQ b.data.toList)=false)(ha:a.size≤900)(hb:b.size≤900)(w:World)(hl:La w) :
 CR 56 #[.string a,.string b] w (.tuple #[.string ⟨#[]⟩,.int .i64 1]):=by
 have HL:=hid hl;have C1:=hid (fun W (hW:La W)=>jQ a b 45 h ha hb W hW);clear hl h ha hb;go_enter func56,ntmps56
 have u6:=hid (Below.refl w.heap.size w);go_wp2_with fail
 with_reducible refine(C1.out _ (HL.out.on u6.out)).mono ?_
 rintro e W1 ⟨rfl,hb⟩;have w9:=hbt u6 hb;clear hb;go_wp2;exact bodyPost_ret (v:=.tuple #[.string ⟨#[]⟩,.int .i64 1]) (by simp[results,results56,go_sem]) rfl ⟨rfl,w9.out⟩
theorem z3j (a b:ByteArray)(h:(vldQ a.data.toList&&vldQ b.data.toList)=false)(ha:a.size≤900)(hb:b.size≤900)(w:World)(hl:La w) :
 CR 82 #[.string a,.string b] w (.tuple #[.string ⟨#[]⟩,.int .i64 1]):=by
 have HL:=hid hl;have C1:=hid (fun W (hW:La W)=>jQ a b 42 h ha hb W hW);clear hl h ha hb;go_enter func82,ntmps82
 have u6:=hid (Below.refl w.heap.size w);go_wp2_with fail
 with_reducible refine(C1.out _ (HL.out.on u6.out)).mono ?_
 rintro e W1 ⟨rfl,hb⟩;have w9:=hbt u6 hb;clear hb;go_wp2;exact bodyPost_ret (v:=.tuple #[.string ⟨#[]⟩,.int .i64 1]) (by simp[results,results82,go_sem]) rfl ⟨rfl,w9.out⟩
set_option maxRecDepth 100000 in
theorem uM (d:Nat)(a b c x y z:ByteArray)(W:World):(Op.equalIn (d+1+1) 51 (.agg #[.string a,.string b,.string c]) (.agg #[.string x,.string y,.string z])).run Tryz.prog W=.ok (a.toList==x.toList&&(b.toList==y.toList&&c.toList==z.toList)) W:=by
 have hs:∀ a b:ByteArray,∀ W,(Op.equalIn (d+1) 22 (.string a) (.string b)).run Tryz.prog W=.ok (a.toList==b.toList) W:=fun a b W=>run_equalIn_string W d 22 a b underlying22;have p0:∀ (a b c:ByteArray) W,(part 22 #[.string a,.string b,.string c] 0).run Tryz.prog W=.ok (.string a) W:=fun _ _ _ _=>by kernel_rfl
 have p1:∀ (a b c:ByteArray) W,(part 22 #[.string a,.string b,.string c] 1).run Tryz.prog W=.ok (.string b) W:=fun _ _ _ _=>by kernel_rfl
 have p2:∀ (a b c:ByteArray) W,(part 22 #[.string a,.string b,.string c] 2).run Tryz.prog W=.ok (.string c) W:=fun _ _ _ _=>by kernel_rfl
 have hc:∀ W,(sizeOf 22).run Tryz.prog W=.ok 1 W:=fun _=>by kernel_rfl
 generalize d+1=k at *;have hu:=underlying51;simp only[Op.equalIn,Sem.run_bind,run_underlying hu,Result.andThen_ok,hc];rw[show([:3]:Std.Legacy.Range)=[0:3]from rfl];simp only[Std.Legacy.Range.forIn_eq_forIn_range',Std.Legacy.Range.size,List.range',List.forIn_cons,List.forIn_nil,Sem.run_bind,Nat.mul_one,Nat.zero_add,p0,hs,Result.andThen_ok];cases a.toList==x.toList<;>cases h2:b.toList==y.toList<;>cases h3:c.toList==z.toList<;>simp[Sem.run_pure,Sem.run_bind,h2,h3,p1,p2,hs]
def q9 (a b c x y z:ByteArray):Bool:=a.toList==x.toList&&(b.toList==y.toList&&c.toList==z.toList)
theorem qJ {a b c x y z:ByteArray}{r:Bool}(h:q9 a b c x y z=r)(W:World):(Op.equalIn 10000 51 (.agg #[.string a,.string b,.string c]) (.agg #[.string x,.string y,.string z])).run Tryz.prog W=.ok r W:=by
 subst h;exact uM 9998 a b c x y z W
theorem z3X {q:Rat}{k:Nat}(h:SmQ k q)(h0:0<k)(hk:k≤10000):LQ q:=⟨Nat.le_trans (gL h.1 h0) hk,Nat.le_trans (gL h.2 h0) hk⟩
theorem zG (a:ByteArray)(ha:a.size≤900):∃ q:Rat,∀ W,Calls Tryz.prog 37 #[.string a] W fun e w'=>∃ p c s d,e=.returned (.tuple #[.agg #[.bool (au q.num),.slice p (ah q.num) c,.slice s (ai q.den) d],.bool (vldQ a.data.toList)])∧RN w' (.slice p (ah q.num) c) q.num.natAbs∧RN w' (.slice s (ai q.den) d) q.den∧Below W.heap.size W w':=by
 cases h:vldQ a.data.toList with
 | false=>exact⟨0,fun W=>z1k a h ha W⟩
 | true =>
   have e:=z3e h;obtain⟨q,hq⟩:∃ q,q=qval a.data.toList:=⟨_,rfl⟩;rw[← hq]at e;subst e;exact⟨q,fun W=>z4N q (zu ha (by decide)) (by omega) W⟩
