/- texts -/
import Derived.Test.YtikihamjpenboaaGreatDoorMz8q
open Go.Proofs.Tryz
set_option maxRecDepth 100000
set_option maxHeartbeats 20000000
open Go.Lib (hid)
namespace Go.Proofs.YtikihamjpenboaaGreatDoor
open Go.RowKit Go.Gb
theorem vT (x pt pp sq fl rk z:ByteArray)(n:Int)(w₀:World)(h1:CV w₀ 73 #[.int .i64 n] (.string pt))(h2:CV w₀ 21 #[.string pt,.string pt] (.string pp))(h3:CV w₀ 21 #[.string x,.string pp] (.string sq))(h4:CV w₀ 49 #[.string sq] (.string fl))(h5:CV w₀ 20 #[.string fl] (.string rk))(h6:CV w₀ 21 #[.string rk,.string rk] (.string sq))(h7:CV w₀ 19 #[.string rk,.string pt] (.string z))  :
 CV w₀ 34 #[.string x,.int .i64 n] (.string z):=by
 intro w hw;obtain ⟨C1,C2,C3,C4,C5,C6,C7⟩:=fK (h1.mono hw) (h2.mono hw) (h3.mono hw) (h4.mono hw) (h5.mono hw) (h6.mono hw) (h7.mono hw);clear h1 h2 h3 h4 h5 h6 h7 hw;go_enter func34,ntmps34
 have u6:=hid (Below.refl w.heap.size w);go_wp2_with fail
 with_reducible refine(C1.o _ u6.o).mono ?_
 rintro e W1 ⟨rfl,hb⟩;have w9:=hbt u6 hb;clear hb;go_wp2_with fail
 with_reducible refine(C2.o _ w9.o).mono ?_
 rintro e W2 ⟨rfl,hb⟩;have wo:=hbt w9 hb;clear hb;go_wp2_with fail
 with_reducible refine(C3.o _ wo.o).mono ?_
 rintro e W3 ⟨rfl,hb⟩;have ww:=hbt wo hb;clear hb;go_wp2_with fail
 with_reducible refine(C4.o _ ww.o).mono ?_
 rintro e W4 ⟨rfl,hb⟩;have sj:=hbt ww hb;clear hb;go_wp2_with fail
 with_reducible refine(C5.o _ sj.o).mono ?_
 rintro e W5 ⟨rfl,hb⟩;have r9:=hbt sj hb;clear hb;go_wp2_with fail
 with_reducible refine(C6.o _ r9.o).mono ?_
 rintro e W6 ⟨rfl,hb⟩;have rq:=hbt r9 hb;clear hb;go_wp2_with fail
 with_reducible refine(C7.o _ rq.o).mono ?_
 rintro e W7 ⟨rfl,hb⟩;have rM:=hbt rq hb;clear hb;go_wp2;exact bodyPost_ret (v:=.string z) (by simp[results,results34,go_sem]) rfl ⟨rfl,rM.o⟩
theorem zx (x pt pp sq fl rk kk kh z:ByteArray)(n:Int)(w₀:World)(h1:CV w₀ 73 #[.int .i64 n] (.string pt))(h2:CV w₀ 21 #[.string pt,.string pt] (.string pp))(h3:CV w₀ 21 #[.string x,.string pp] (.string sq))(h4:CV w₀ 49 #[.string sq] (.string fl))(h5:CV w₀ 20 #[.string fl] (.string rk))(h6:CV w₀ 21 #[.string rk,.string rk] (.string kk))(h7:CV w₀ 42 #[.string rk,.string ⟨#[49,47,50]⟩] (.string kh))(h8:CV w₀ 19 #[.string kh,.string pt] (.string z))(f1:(kk.toList==sq.toList)=false) :
 CV w₀ 34 #[.string x,.int .i64 n] (.string z):=by
 intro w hw;obtain ⟨C1,C2,C3,C4,C5,C6,C7,C8⟩:=jY (h1.mono hw) (h2.mono hw) (h3.mono hw) (h4.mono hw) (h5.mono hw) (h6.mono hw) (h7.mono hw) (h8.mono hw);have g1:=f1;clear f1 h1 h2 h3 h4 h5 h6 h7 h8 hw;go_enter func34,ntmps34
 have u6:=hid (Below.refl w.heap.size w);go_wp2_with fail
 with_reducible refine(C1.o _ u6.o).mono ?_
 rintro e W1 ⟨rfl,hb⟩;have w9:=hbt u6 hb;clear hb;go_wp2_with fail
 with_reducible refine(C2.o _ w9.o).mono ?_
 rintro e W2 ⟨rfl,hb⟩;have wo:=hbt w9 hb;clear hb;go_wp2_with fail
 with_reducible refine(C3.o _ wo.o).mono ?_
 rintro e W3 ⟨rfl,hb⟩;have ww:=hbt wo hb;clear hb;go_wp2_with fail
 with_reducible refine(C4.o _ ww.o).mono ?_
 rintro e W4 ⟨rfl,hb⟩;have sj:=hbt ww hb;clear hb;go_wp2_with fail
 with_reducible refine(C5.o _ sj.o).mono ?_
 rintro e W5 ⟨rfl,hb⟩;have r9:=hbt sj hb;clear hb;go_wp2_with fail
 with_reducible refine(C6.o _ r9.o).mono ?_
 rintro e W6 ⟨rfl,hb⟩;have rq:=hbt r9 hb;clear hb;go_wp2_with fail
 with_reducible refine(C7.o _ rq.o).mono ?_
 rintro e W7 ⟨rfl,hb⟩;have rM:=hbt rq hb;clear hb;go_wp2_with fail
 with_reducible refine(C8.o _ rM.o).mono ?_
 rintro e W8 ⟨rfl,hb⟩;have l6:=hbt rM hb;clear hb;go_wp2;exact bodyPost_ret (v:=.string z) (by simp[results,results34,go_sem]) rfl ⟨rfl,l6.o⟩
theorem z1b (x:ByteArray)(w₀:World)(h1:CV w₀ 17 #[.string x] (.tuple #[.string ⟨#[]⟩,.string ⟨#[]⟩,.int .i64 1]))  :
 CV w₀ 6 #[.string x] (.tuple #[.string ⟨#[]⟩,.bool false,.int .i64 1]):=by
 intro w hw;have C1:=hid (h1.mono hw);clear h1 hw;go_enter func6,ntmps6
 have u6:=hid (Below.refl w.heap.size w);go_wp2_with fail
 with_reducible refine(C1.o _ u6.o).mono ?_
 rintro e W1 ⟨rfl,hb⟩;have w9:=hbt u6 hb;clear hb;go_wp2;exact bodyPost_ret (v:=.tuple #[.string ⟨#[]⟩,.bool false,.int .i64 1]) (by simp[results,results6,go_sem]) rfl ⟨rfl,w9.o⟩
theorem zC (x nm dn:ByteArray)(w₀:World)(h1:CV w₀ 17 #[.string x] (.tuple #[.string nm,.string dn,.int .i64 0]))(h2:CV w₀ 18 #[.string x] (.int .i64 (-1)))  :
 CV w₀ 6 #[.string x] (.tuple #[.string ⟨#[]⟩,.bool false,.int .i64 2]):=by
 intro w hw;have C1:=hid (h1.mono hw);have C2:=hid (h2.mono hw);clear h1 h2 hw;go_enter func6,ntmps6
 have u6:=hid (Below.refl w.heap.size w);go_wp2_with fail
 with_reducible refine(C1.o _ u6.o).mono ?_
 rintro e W1 ⟨rfl,hb⟩;have w9:=hbt u6 hb;clear hb;go_wp2_with fail
 with_reducible refine(C2.o _ w9.o).mono ?_
 rintro e W2 ⟨rfl,hb⟩;have wo:=hbt w9 hb;clear hb;go_wp2;exact bodyPost_ret (v:=.tuple #[.string ⟨#[]⟩,.bool false,.int .i64 2]) (by simp[results,results6,go_sem]) rfl ⟨rfl,wo.o⟩
theorem zA (x nm dn rn rd fo:ByteArray)(s:Int)(w₀:World)(h1:CV w₀ 17 #[.string x] (.tuple #[.string nm,.string dn,.int .i64 0]))(h2:CV w₀ 18 #[.string x] (.int .i64 s))(h3:CV w₀ 20 #[.string nm] (.string rn))(h4:CV w₀ 20 #[.string dn] (.string rd))(h5:CV w₀ 19 #[.string rn,.string rd] (.string fo))(h6:CV w₀ 21 #[.string fo,.string fo] (.string x))(f1:decide (s<0)=false) :
 CV w₀ 6 #[.string x] (.tuple #[.string fo,.bool true,.int .i64 0]):=by
 intro w hw;obtain ⟨C1,C2,C3,C4,C5,C6⟩:=cz (h1.mono hw) (h2.mono hw) (h3.mono hw) (h4.mono hw) (h5.mono hw) (h6.mono hw);have g1:=f1;clear f1 h1 h2 h3 h4 h5 h6 hw;go_enter func6,ntmps6
 have u6:=hid (Below.refl w.heap.size w);go_wp2_with fail
 with_reducible refine(C1.o _ u6.o).mono ?_
 rintro e W1 ⟨rfl,hb⟩;have w9:=hbt u6 hb;clear hb;go_wp2_with fail
 with_reducible refine(C2.o _ w9.o).mono ?_
 rintro e W2 ⟨rfl,hb⟩;have wo:=hbt w9 hb;clear hb;go_wp2_with fail
 with_reducible refine(C3.o _ wo.o).mono ?_
 rintro e W3 ⟨rfl,hb⟩;have ww:=hbt wo hb;clear hb;go_wp2_with fail
 with_reducible refine(C4.o _ ww.o).mono ?_
 rintro e W4 ⟨rfl,hb⟩;have sj:=hbt ww hb;clear hb;go_wp2_with fail
 with_reducible refine(C5.o _ sj.o).mono ?_
 rintro e W5 ⟨rfl,hb⟩;have r9:=hbt sj hb;clear hb;go_wp2_with fail
 with_reducible refine(C6.o _ r9.o).mono ?_
 rintro e W6 ⟨rfl,hb⟩;have rq:=hbt r9 hb;clear hb;go_wp2;exact bodyPost_ret (v:=.tuple #[.string fo,.bool true,.int .i64 0]) (by simp[results,results6,go_sem]) rfl ⟨rfl,rq.o⟩
theorem zB (x nm dn rn rd fo ff:ByteArray)(s:Int)(w₀:World)(h1:CV w₀ 17 #[.string x] (.tuple #[.string nm,.string dn,.int .i64 0]))(h2:CV w₀ 18 #[.string x] (.int .i64 s))(h3:CV w₀ 20 #[.string nm] (.string rn))(h4:CV w₀ 20 #[.string dn] (.string rd))(h5:CV w₀ 19 #[.string rn,.string rd] (.string fo))(h6:CV w₀ 21 #[.string fo,.string fo] (.string ff))(f1:decide (s<0)=false)(f2:(ff.toList==x.toList)=false) :
 CV w₀ 6 #[.string x] (.tuple #[.string ⟨#[]⟩,.bool false,.int .i64 0]):=by
 intro w hw;obtain ⟨C1,C2,C3,C4,C5,C6⟩:=cz (h1.mono hw) (h2.mono hw) (h3.mono hw) (h4.mono hw) (h5.mono hw) (h6.mono hw);have g1:=f1;have g2:=f2;clear f1 f2 h1 h2 h3 h4 h5 h6 hw;go_enter func6,ntmps6
 have u6:=hid (Below.refl w.heap.size w);go_wp2_with fail
 with_reducible refine(C1.o _ u6.o).mono ?_
 rintro e W1 ⟨rfl,hb⟩;have w9:=hbt u6 hb;clear hb;go_wp2_with fail
 with_reducible refine(C2.o _ w9.o).mono ?_
 rintro e W2 ⟨rfl,hb⟩;have wo:=hbt w9 hb;clear hb;go_wp2_with fail
 with_reducible refine(C3.o _ wo.o).mono ?_
 rintro e W3 ⟨rfl,hb⟩;have ww:=hbt wo hb;clear hb;go_wp2_with fail
 with_reducible refine(C4.o _ ww.o).mono ?_
 rintro e W4 ⟨rfl,hb⟩;have sj:=hbt ww hb;clear hb;go_wp2_with fail
 with_reducible refine(C5.o _ sj.o).mono ?_
 rintro e W5 ⟨rfl,hb⟩;have r9:=hbt sj hb;clear hb;go_wp2_with fail
 with_reducible refine(C6.o _ r9.o).mono ?_
 rintro e W6 ⟨rfl,hb⟩;have rq:=hbt r9 hb;clear hb;go_wp2;exact bodyPost_ret (v:=.tuple #[.string ⟨#[]⟩,.bool false,.int .i64 0]) (by simp[results,results6,go_sem]) rfl ⟨rfl,rq.o⟩
theorem z3b (x:ByteArray)(n:Int)(w₀:World)(h1:CV w₀ 30 #[.string x] (.tuple #[.agg #[.string ⟨#[]⟩,.string ⟨#[]⟩],.int .i64 1]))  :
 CV w₀ 8 #[.string x,.int .i64 n] (.tuple #[.agg #[.string ⟨#[]⟩,.string ⟨#[]⟩],.int .i64 1]):=by
 intro w hw;have C1:=hid (h1.mono hw);clear h1 hw;go_enter func8,ntmps8
 go_upto_region 1 with fail
 refine az w [(#[.string ⟨#[]⟩,.string ⟨#[]⟩],24)] rfl ?_;rintro W0 ⟨k1,hb⟩;have u6:=hid (show Below w.heap.size w W0 from hb);have K1:=hid k1;clear k1 hb;go_wp2_with fail
 with_reducible refine(C1.o _ u6.o).mono ?_
 rintro e W1 ⟨rfl,hb⟩;have K1:=hid (K1.o.below hb);have w9:=hbt u6 hb;clear hb;go_upto_region 2 with fail
 refine az W1 [(#[.string ⟨#[]⟩,.string ⟨#[]⟩],24)] rfl ?_;have L1:=K1.o.lt;have L2:=w9.o.size;rintro W2 ⟨k2,hb⟩;have hb:Below W1.heap.size W1 W2:=hb;have K1:=hid (K1.o.below hb);have wo:=hbt w9 hb;have K2:=hid k2;clear k2 hb;obtain ⟨wu,sw⟩:=au K1.o rfl rfl;obtain ⟨mi,l5⟩:=bJ K1.o;go_wp2;exact bodyPost_ret (v:=.tuple #[.agg #[.string ⟨#[]⟩,.string ⟨#[]⟩],.int .i64 1]) (by simp[results,results8,go_sem,wu,sw]) rfl ⟨rfl,(ay (l:=[.string ⟨#[]⟩,.string ⟨#[]⟩]) (i:=0) (by omega) wo.o)⟩
theorem uz (x l u:ByteArray)(n er:Int)(w₀:World)(h1:CV w₀ 30 #[.string x] (.tuple #[.agg #[.string x,.string x],.int .i64 0]))(h2:CV w₀ 10 #[.agg #[.string x,.string x],.int .i64 n] (.tuple #[.agg #[.string l,.string u],.int .i64 er]))  :
 CV w₀ 8 #[.string x,.int .i64 n] (.tuple #[.agg #[.string l,.string u],.int .i64 er]):=by
 intro w hw;have C1:=hid (h1.mono hw);have C2:=hid (h2.mono hw);clear h1 h2 hw;go_enter func8,ntmps8
 go_upto_region 1 with fail
 refine az w [(#[.string ⟨#[]⟩,.string ⟨#[]⟩],24)] rfl ?_;rintro W0 ⟨k1,hb⟩;have u6:=hid (show Below w.heap.size w W0 from hb);have K1:=hid k1;clear k1 hb;go_wp2_with fail
 with_reducible refine(C1.o _ u6.o).mono ?_
 rintro e W1 ⟨rfl,hb⟩;have K1:=hid (K1.o.below hb);have w9:=hbt u6 hb;clear hb;go_upto_region 2 with fail
 refine az W1 [(#[.string x,.string x],24)] rfl ?_;have L1:=K1.o.lt;have L2:=w9.o.size;rintro W2 ⟨k2,hb⟩;have hb:Below W1.heap.size W1 W2:=hb;have K1:=hid (K1.o.below hb);have wo:=hbt w9 hb;have K2:=hid k2;clear k2 hb;obtain ⟨ru,lg⟩:=au K2.o rfl rfl;go_wp2_with fail
 with_reducible refine(C2.o _ wo.o).mono ?_
 rintro e W3 ⟨rfl,hb⟩;clear ru lg;have K1:=hid (K1.o.below hb);have ww:=hbt wo hb;clear hb;obtain ⟨wu,sw⟩:=au K1.o rfl rfl;obtain ⟨mi,l5⟩:=bJ K1.o;go_wp2;exact bodyPost_ret (v:=.tuple #[.agg #[.string l,.string u],.int .i64 er]) (by simp[results,results8,go_sem,wu,sw]) rfl ⟨rfl,(ay (l:=[.string l,.string u]) (i:=0) (by omega) ww.o)⟩
theorem zq (x y:ByteArray)(s t u:Int)(w₀:World)(h1:CV w₀ 18 #[.string x] (.int .i64 s))(h2:CV w₀ 18 #[.string y] (.int .i64 t))(f1:IntKind.i64.wrap (s*t)=u) :
 CV w₀ 79 #[.agg #[.string x,.string y]] (.int .i64 u):=by
 intro w hw;have C1:=hid (h1.mono hw);have C2:=hid (h2.mono hw);have g1:=f1;clear f1 h1 h2 hw;go_enter func79,ntmps79
 go_upto_region 1 with fail
 refine az w [(#[.string x,.string y],72)] rfl ?_;rintro W0 ⟨k1,hb⟩;have u6:=hid (show Below w.heap.size w W0 from hb);have K1:=hid k1;clear k1 hb;go_wp2_with fail
 refine aF (fun a0 a' V=>a'=⟨putL [(3,.pointer (some ⟨w.heap.size,0,none⟩)),(4,.string x),(5,.int .i64 s),(6,.pointer (some ⟨w.heap.size,1,none⟩)),(7,.string y),(8,.int .i64 t),(9,.int .i64 u),(2,.int .i64 u)] a0.tmps,a0.defers⟩∧Below w.heap.size w V) ?_ ?_
 · refine bK (by kernel_rfl) 8 0 (fun i=>[3,4,5,6,7,8,9,2].getD i 0) (RelR [Rel.val (.pointer (some ⟨w.heap.size,0,none⟩)),Rel.val (.string x),Rel.val (.int .i64 s),Rel.val (.pointer (some ⟨w.heap.size,1,none⟩)),Rel.val (.string y),Rel.val (.int .i64 t),Rel.val (.int .i64 u),Rel.val (.int .i64 u)]) (fun W=>Below W0.heap.size W0 W) (fun _ _=>True) (by kernel_rfl) (by kernel_rfl) (by kernel_rfl) trivial (Below.refl _ _).drew ?_ ?_
   · intro si a W i hI hD hrd him
     obtain ⟨HI,HD,Hr⟩:=ak hI hD hrd;clear hI hrd hD;have y1:a.tmps[1]? = some (.pointer (some ⟨w.heap.size,0,none⟩)):=HI.o.rest 1 (by decide);obtain ⟨wu,sw⟩:=au (K1.o.below HI.o.world) rfl rfl;have X0:RV _ si a 0 3 (.pointer (some ⟨w.heap.size,0,none⟩)):=HI.o.rh;have X1:RV _ si a 1 4 (.string x):=HI.o.rh;have X3:RV _ si a 3 6 (.pointer (some ⟨w.heap.size,1,none⟩)):=HI.o.rh;have X4:RV _ si a 4 7 (.string y):=HI.o.rh;have X2:RV _ si a 2 5 (.int .i64 s):=HI.o.rh;have X5:RV _ si a 5 8 (.int .i64 t):=HI.o.rh;have X6:RV _ si a 6 9 (.int .i64 u):=HI.o.rh
     match i,him,Hr with
     | 0,_,Hi =>
       refine aA rfl fun K' hK=>?_;go_simp;exact hK.o _ _ ⟨HI.o.pv Hi.o rfl,trivial⟩
     | 1,_,Hi =>
       have x0:=X0.g Hi.o (by kernel_rfl);refine aA rfl fun K' hK=>?_;go_simp;exact hK.o _ _ ⟨HI.o.pv Hi.o rfl,trivial⟩
     | 2,_,Hi =>
       have x1:=X1.g Hi.o (by kernel_rfl);refine aA rfl fun K' hK=>?_;go_simp;with_reducible refine(C1.o _ (u6.o.trans (HI.o.world.mono u6.o.size))).mono ?_
       rintro e W' ⟨rfl,hb⟩;exact hK.o _ _ ⟨HI.o.pc Hi.o hb rfl,trivial⟩
     | 3,_,Hi =>
       refine aA rfl fun K' hK=>?_;go_simp;exact hK.o _ _ ⟨HI.o.pv Hi.o rfl,trivial⟩
     | 4,_,Hi =>
       have x3:=X3.g Hi.o (by kernel_rfl);refine aA rfl fun K' hK=>?_;go_simp;exact hK.o _ _ ⟨HI.o.pv Hi.o rfl,trivial⟩
     | 5,_,Hi =>
       have x4:=X4.g Hi.o (by kernel_rfl);refine aA rfl fun K' hK=>?_;go_simp;with_reducible refine(C2.o _ (u6.o.trans (HI.o.world.mono u6.o.size))).mono ?_
       rintro e W' ⟨rfl,hb⟩;exact hK.o _ _ ⟨HI.o.pc Hi.o hb rfl,trivial⟩
     | 6,_,Hi =>
       have x2:=X2.g Hi.o (by kernel_rfl);have x5:=X5.g Hi.o (by kernel_rfl);refine aA rfl fun K' hK=>?_;go_simp;exact hK.o _ _ ⟨HI.o.pv Hi.o rfl,trivial⟩
     | 7,_,Hi =>
       have x6:=X6.g Hi.o (by kernel_rfl);refine aA rfl fun K' hK=>?_;go_simp;exact hK.o _ _ ⟨HI.o.pv Hi.o rfl,trivial⟩
     | n+8,h,_=>exact absurd h (by omega)
   · intro si a W hI hD rV
     obtain ⟨oV,HI,HA⟩:=ak hI.world hI rV;clear hI rV;have mf:=hid (u6.o.trans (oV.o.mono u6.o.size));refine bi ?_;exact⟨rfl,(HI.o.finx ⟨HI.o.sx HA.o 0,HI.o.sx HA.o 1,HI.o.sx HA.o 2,HI.o.sx HA.o 3,HI.o.sx HA.o 4,HI.o.sx HA.o 5,HI.o.sx HA.o 6,HI.o.sx HA.o 7,trivial⟩ rfl),mf.o⟩
 rintro a' W1 ⟨rfl,z0⟩;have w9:=hid z0;clear z0;simp only[putL,List.setIfInBounds_toArray,List.set_cons_zero,List.set_cons_succ];go_wp2;exact bodyPost_ret (v:=.int .i64 u) (by simp[results,results79,go_sem]) rfl ⟨rfl,w9.o⟩
theorem uy (x y p q:ByteArray)(w₀:World)(h1:CV w₀ 21 #[.string x,.string x] (.string p))(h2:CV w₀ 21 #[.string p,.string y] (.string q))  :
 CV w₀ 80 #[.agg #[.string x,.string y]] (.string q):=by
 intro w hw;have C1:=hid (h1.mono hw);have C2:=hid (h2.mono hw);clear h1 h2 hw;go_enter func80,ntmps80
 go_upto_region 1 with fail
 refine az w [(#[.string x,.string y],72)] rfl ?_;rintro W0 ⟨k1,hb⟩;have u6:=hid (show Below w.heap.size w W0 from hb);have K1:=hid k1;clear k1 hb;go_wp2_with fail
 refine aF (fun a0 a' V=>a'=⟨putL [(3,.pointer (some ⟨w.heap.size,0,none⟩)),(4,.string x),(5,.pointer (some ⟨w.heap.size,0,none⟩)),(6,.string x),(7,.string p),(8,.pointer (some ⟨w.heap.size,1,none⟩)),(9,.string y),(10,.string q),(2,.string q)] a0.tmps,a0.defers⟩∧Below w.heap.size w V) ?_ ?_
 · refine bK (by kernel_rfl) 9 0 (fun i=>[3,4,5,6,7,8,9,10,2].getD i 0) (RelR [Rel.val (.pointer (some ⟨w.heap.size,0,none⟩)),Rel.val (.string x),Rel.val (.pointer (some ⟨w.heap.size,0,none⟩)),Rel.val (.string x),Rel.val (.string p),Rel.val (.pointer (some ⟨w.heap.size,1,none⟩)),Rel.val (.string y),Rel.val (.string q),Rel.val (.string q)]) (fun W=>Below W0.heap.size W0 W) (fun _ _=>True) (by kernel_rfl) (by kernel_rfl) (by kernel_rfl) trivial (Below.refl _ _).drew ?_ ?_
   · intro si a W i hI hD hrd him
     obtain ⟨HI,HD,Hr⟩:=ak hI hD hrd;clear hI hrd hD;have y1:a.tmps[1]? = some (.pointer (some ⟨w.heap.size,0,none⟩)):=HI.o.rest 1 (by decide);obtain ⟨wu,sw⟩:=au (K1.o.below HI.o.world) rfl rfl;have X0:RV _ si a 0 3 (.pointer (some ⟨w.heap.size,0,none⟩)):=HI.o.rh;have X2:RV _ si a 2 5 (.pointer (some ⟨w.heap.size,0,none⟩)):=HI.o.rh;have X1:RV _ si a 1 4 (.string x):=HI.o.rh;have X3:RV _ si a 3 6 (.string x):=HI.o.rh;have X5:RV _ si a 5 8 (.pointer (some ⟨w.heap.size,1,none⟩)):=HI.o.rh;have X4:RV _ si a 4 7 (.string p):=HI.o.rh;have X6:RV _ si a 6 9 (.string y):=HI.o.rh;have X7:RV _ si a 7 10 (.string q):=HI.o.rh
     match i,him,Hr with
     | 0,_,Hi =>
       refine aA rfl fun K' hK=>?_;go_simp;exact hK.o _ _ ⟨HI.o.pv Hi.o rfl,trivial⟩
     | 1,_,Hi =>
       have x0:=X0.g Hi.o (by kernel_rfl);refine aA rfl fun K' hK=>?_;go_simp;exact hK.o _ _ ⟨HI.o.pv Hi.o rfl,trivial⟩
     | 2,_,Hi =>
       refine aA rfl fun K' hK=>?_;go_simp;exact hK.o _ _ ⟨HI.o.pv Hi.o rfl,trivial⟩
     | 3,_,Hi =>
       have x2:=X2.g Hi.o (by kernel_rfl);refine aA rfl fun K' hK=>?_;go_simp;exact hK.o _ _ ⟨HI.o.pv Hi.o rfl,trivial⟩
     | 4,_,Hi =>
       have x1:=X1.g Hi.o (by kernel_rfl);have x3:=X3.g Hi.o (by kernel_rfl);refine aA rfl fun K' hK=>?_;go_simp;with_reducible refine(C1.o _ (u6.o.trans (HI.o.world.mono u6.o.size))).mono ?_
       rintro e W' ⟨rfl,hb⟩;exact hK.o _ _ ⟨HI.o.pc Hi.o hb rfl,trivial⟩
     | 5,_,Hi =>
       refine aA rfl fun K' hK=>?_;go_simp;exact hK.o _ _ ⟨HI.o.pv Hi.o rfl,trivial⟩
     | 6,_,Hi =>
       have x5:=X5.g Hi.o (by kernel_rfl);refine aA rfl fun K' hK=>?_;go_simp;exact hK.o _ _ ⟨HI.o.pv Hi.o rfl,trivial⟩
     | 7,_,Hi =>
       have x4:=X4.g Hi.o (by kernel_rfl);have x6:=X6.g Hi.o (by kernel_rfl);refine aA rfl fun K' hK=>?_;go_simp;with_reducible refine(C2.o _ (u6.o.trans (HI.o.world.mono u6.o.size))).mono ?_
       rintro e W' ⟨rfl,hb⟩;exact hK.o _ _ ⟨HI.o.pc Hi.o hb rfl,trivial⟩
     | 8,_,Hi =>
       have x7:=X7.g Hi.o (by kernel_rfl);refine aA rfl fun K' hK=>?_;go_simp;exact hK.o _ _ ⟨HI.o.pv Hi.o rfl,trivial⟩
     | n+9,h,_=>exact absurd h (by omega)
   · intro si a W hI hD rV
     obtain ⟨oV,HI,HA⟩:=ak hI.world hI rV;clear hI rV;have mf:=hid (u6.o.trans (oV.o.mono u6.o.size));refine bi ?_;exact⟨rfl,(HI.o.finx ⟨HI.o.sx HA.o 0,HI.o.sx HA.o 1,HI.o.sx HA.o 2,HI.o.sx HA.o 3,HI.o.sx HA.o 4,HI.o.sx HA.o 5,HI.o.sx HA.o 6,HI.o.sx HA.o 7,HI.o.sx HA.o 8,trivial⟩ rfl),mf.o⟩
 rintro a' W1 ⟨rfl,z0⟩;have w9:=hid z0;clear z0;simp only[putL,List.setIfInBounds_toArray,List.set_cons_zero,List.set_cons_succ];go_wp2;exact bodyPost_ret (v:=.string q) (by simp[results,results80,go_sem]) rfl ⟨rfl,w9.o⟩
theorem z1c (a b c:ByteArray)(s er:Int)(w₀:World)(h1:CV w₀ 39 #[.agg #[.string a,.string ⟨#[49]⟩],.agg #[.string b,.string c]] (.tuple #[.int .i64 s,.int .i64 er]))  :
 CV w₀ 12 #[.string a,.string b,.string c] (.tuple #[.int .i64 s,.int .i64 er]):=by
 intro w hw;have C1:=hid (h1.mono hw);clear h1 hw;go_enter func12,ntmps12
 have u6:=hid (Below.refl w.heap.size w);go_wp2_with fail
 with_reducible refine(C1.o _ u6.o).mono ?_
 rintro e W1 ⟨rfl,hb⟩;have w9:=hbt u6 hb;clear hb;go_wp2;exact bodyPost_ret (v:=.tuple #[.int .i64 s,.int .i64 er]) (by simp[results,results12,go_sem]) rfl ⟨rfl,w9.o⟩
theorem uC (a b c d m:ByteArray)(s er:Int)(w₀:World)(h1:CV w₀ 40 #[.string ⟨#[48]⟩,.string c] (.tuple #[.string m,.int .i64 0]))(h2:CV w₀ 39 #[.agg #[.string a,.string b],.agg #[.string m,.string d]] (.tuple #[.int .i64 s,.int .i64 er]))  :
 CV w₀ 13 #[.string a,.string b,.string c,.string d] (.tuple #[.int .i64 s,.int .i64 er]):=by
 intro w hw;have C1:=hid (h1.mono hw);have C2:=hid (h2.mono hw);clear h1 h2 hw;go_enter func13,ntmps13
 have u6:=hid (Below.refl w.heap.size w);go_wp2_with fail
 with_reducible refine(C1.o _ u6.o).mono ?_
 rintro e W1 ⟨rfl,hb⟩;have w9:=hbt u6 hb;clear hb;go_wp2_with fail
 with_reducible refine(C2.o _ w9.o).mono ?_
 rintro e W2 ⟨rfl,hb⟩;have wo:=hbt w9 hb;clear hb;go_wp2;exact bodyPost_ret (v:=.tuple #[.int .i64 s,.int .i64 er]) (by simp[results,results13,go_sem]) rfl ⟨rfl,wo.o⟩
open Go.Lib (hid)
theorem z5e (l u:ByteArray)(n:Int)(w₀:World)(h1:CV w₀ 31 #[.agg #[.string l,.string u]] (.bool true))(h2:CV w₀ 18 #[.string l] (.int .i64 (-1)))  :
 CV w₀ 10 #[.agg #[.string l,.string u],.int .i64 n] (.tuple #[.agg #[.string ⟨#[]⟩,.string ⟨#[]⟩],.int .i64 2]):=by
 intro w hw;have C1:=hid (h1.mono hw);have C2:=hid (h2.mono hw);clear h1 h2 hw;go_enter func10,ntmps10
 go_upto_region 1 with fail
 refine az w [(#[.string l,.string u],24),(#[.int .i64 n],3),(#[.string ⟨#[]⟩,.string ⟨#[]⟩],24),(#[.int .i64 0],27)] rfl ?_;rintro W0 ⟨k1,k2,k3,k4,hb⟩;have u6:=hid (show Below w.heap.size w W0 from hb);obtain ⟨K1,K2,K3,K4⟩:=aM k1 k2 k3 k4;clear k1 k2 k3 k4 hb;obtain ⟨wu,sw⟩:=au K1.o rfl rfl;go_wp2_with fail
 with_reducible refine(C1.o _ u6.o).mono ?_
 rintro e W1 ⟨rfl,hb⟩;clear wu sw;obtain ⟨K1,K3,K4⟩:=bG hb K1 K3 K4;have w9:=hbt u6 hb;clear hb;have wu:=K1.o.cell (i:=0) rfl;go_wp2_with fail
 with_reducible refine(C2.o _ w9.o).mono ?_
 rintro e W2 ⟨rfl,hb⟩;clear wu;obtain ⟨K3,K4⟩:=aH hb K3 K4;have wo:=hbt w9 hb;clear hb;obtain ⟨p8,p9⟩:=au K3.o rfl rfl;have pq:=K4.o.cell (i:=0) rfl;have pu:=K3.o.frozen (i:=0);have ol:=K3.o.frozen (i:=1);have oM:=K4.o.frozen (i:=0);go_wp2;exact bodyPost_ret (v:=.tuple #[.agg #[.string ⟨#[]⟩,.string ⟨#[]⟩],.int .i64 2]) (by simp[results,results10,go_sem,p8,p9,pq]) rfl ⟨rfl,(ay (l:=[.int .i64 2]) (i:=0) (by omega) (ay (l:=[.string ⟨#[]⟩,.string ⟨#[]⟩]) (i:=0) (by omega) wo.o))⟩
theorem zu (g:Nat)(x y p q r s l u:ByteArray)(n er:Int)(w₀:World)(h1:CV w₀ 41 #[.string x] (.bool true))(h2:CV w₀ 21 #[.string x,.string x] (.string p))(h3:CV w₀ 42 #[.string ⟨#[48]⟩,.string p] (.string q))(h4:CV w₀ 41 #[.string y] (.bool true))(h5:CV w₀ 21 #[.string y,.string y] (.string r))(h6:CV w₀ 42 #[.string q,.string r] (.string s))(h7:CV w₀ 8 #[.string s,.int .i64 n] (.tuple #[.agg #[.string l,.string u],.int .i64 er]))  (kKX:SBk w₀ g #[.string x,.string y] 22) :
 CV w₀ 14 #[.slice (some ⟨g,0,none⟩) 2 2,.int .i64 n] (.tuple #[.agg #[.string l,.string u],.int .i64 er]):=by
 intro w hw;obtain ⟨C1,C2,C3,C4,C5,C6,C7,KX⟩:=jY (h1.mono hw) (h2.mono hw) (h3.mono hw) (h4.mono hw) (h5.mono hw) (h6.mono hw) (h7.mono hw) (kKX.below hw);clear h1 h2 h3 h4 h5 h6 h7 kKX hw;go_enter func14,ntmps14
 go_upto_region 1 with fail
 refine az w [(#[.string ⟨#[]⟩,.string ⟨#[]⟩],24)] rfl ?_;rintro W0 ⟨k1,hb⟩;have u6:=hid (show Below w.heap.size w W0 from hb);have KX:=hid (KX.o.below u6.o);have K1:=hid k1;clear k1 hb;go_wp2;refine wp_loop_rounds 3 ?_;rw[rounds_succ];have dKX0:=KX.o.cell (i:=0) rfl;go_wp2_with fail
 with_reducible refine(C1.o _ u6.o).mono ?_
 rintro e W1 ⟨rfl,hb⟩;clear dKX0;have KX:=hid (KX.o.below hb);have K1:=hid (K1.o.below hb);have w9:=hbt u6 hb;clear hb;go_wp2_with fail
 with_reducible refine(C2.o _ w9.o).mono ?_
 rintro e W2 ⟨rfl,hb⟩;have KX:=hid (KX.o.below hb);have K1:=hid (K1.o.below hb);have wo:=hbt w9 hb;clear hb;go_wp2_with fail
 with_reducible refine(C3.o _ wo.o).mono ?_
 rintro e W3 ⟨rfl,hb⟩;have KX:=hid (KX.o.below hb);have K1:=hid (K1.o.below hb);have ww:=hbt wo hb;clear hb;go_wp2;rw[rounds_succ];have dKX1:=KX.o.cell (i:=1) rfl;go_wp2_with fail
 with_reducible refine(C4.o _ ww.o).mono ?_
 rintro e W4 ⟨rfl,hb⟩;clear dKX1;have K1:=hid (K1.o.below hb);have sj:=hbt ww hb;clear hb;go_wp2_with fail
 with_reducible refine(C5.o _ sj.o).mono ?_
 rintro e W5 ⟨rfl,hb⟩;have K1:=hid (K1.o.below hb);have r9:=hbt sj hb;clear hb;go_wp2_with fail
 with_reducible refine(C6.o _ r9.o).mono ?_
 rintro e W6 ⟨rfl,hb⟩;have K1:=hid (K1.o.below hb);have rq:=hbt r9 hb;clear hb;go_wp2;rw[rounds_succ];go_wp2_with fail
 with_reducible refine(C7.o _ rq.o).mono ?_
 rintro e W7 ⟨rfl,hb⟩;have K1:=hid (K1.o.below hb);have rM:=hbt rq hb;clear hb;obtain ⟨wu,sw⟩:=au K1.o rfl rfl;obtain ⟨mi,l5⟩:=bJ K1.o;go_wp2;exact bodyPost_ret (v:=.tuple #[.agg #[.string l,.string u],.int .i64 er]) (by simp[results,results14,go_sem,wu,sw]) rfl ⟨rfl,(ay (l:=[.string l,.string u]) (i:=0) (by omega) rM.o)⟩
theorem dU {w:World}{g:Nat}{x y v:Value}{T:TypeId}(h:SBk w g #[x,y] T):SBk (w.setCell ⟨g,0,none⟩ v) g #[v,y] T:=by
 have k:=h.set (i:=0) v;simpa using k
theorem lN {w:World}{g:Nat}{x v:Value}{T:TypeId}(h:SBk w g #[x] T):SBk (w.setCell ⟨g,0,none⟩ v) g #[v] T:=by
 have k:=h.set (i:=0) v;simpa using k
theorem di {w:World}{g:Nat}{x y v:Value}{T:TypeId}(h:SBk w g #[x,y] T):SBk (w.setCell ⟨g,1,none⟩ v) g #[x,v] T:=by
 have k:=h.set (i:=1) v;simpa using k
theorem o9 (b3 b2 b4:Nat)(l u p q:ByteArray)(n er:Int)(w₀:World)(h1:CV w₀ 33 #[.agg #[.string l,.string u],.int .i64 n] (.tuple #[.agg #[.string p,.string q],.int .i64 er]))(h34:b3≠b4)(W:World)(hW:Below w₀.heap.size w₀ W)
 (c0:W.cell? ⟨b3,0,none⟩=some (.string l)) (c1:W.cell? ⟨b3,1,none⟩=some (.string u)) (c2:W.cell? ⟨b2,0,none⟩=some (.int .i64 n)) (c4:W.cell? ⟨b4,0,none⟩=some (.int .i64 0))
 (f0:W.frozen? ⟨b3,0,none⟩=false) (f1:W.frozen? ⟨b3,1,none⟩=false) (f4:W.frozen? ⟨b4,0,none⟩=false) :
 CallsD Tryz.prog 32 #[.pointer (some ⟨b3,0,none⟩),.pointer (some ⟨b2,0,none⟩),.pointer (some ⟨b4,0,none⟩)] .returning W fun e u' w'=>u'=.returning∧(e=.returned (.tuple #[])∧w'.cell? ⟨b3,0,none⟩=some (.string p)∧w'.cell? ⟨b3,1,none⟩=some (.string q)∧w'.cell? ⟨b4,0,none⟩=some (.int .i64 er)∧∀ n0 w0,n0≤b3→n0≤b4→Below n0 w0 W→Below n0 w0 w'):=by
 have C1:=hid (h1.mono hW);have l3:=World.block_lt_of_cell? W _ c0;have l4:=World.block_lt_of_cell? W _ c4;have hB:=hid (Below.refl W.heap.size W);clear h1 hW;go_enter_d func32,ntmps32
 go_wp2_with fail
 with_reducible refine(C1.o _ hB.o).mono ?_
 rintro e W1 ⟨rfl,hb⟩;have k0:=(hb.cell (p:=⟨b3,0,none⟩) l3).trans c0;have k1:=(hb.cell (p:=⟨b3,1,none⟩) l3).trans c1;have k4:=(hb.cell (p:=⟨b4,0,none⟩) l4).trans c4;have j0:=(hb.frozen (p:=⟨b3,0,none⟩) l3).trans f0;have j1:=(hb.frozen (p:=⟨b3,1,none⟩) l3).trans f1;have j4:=(hb.frozen (p:=⟨b4,0,none⟩) l4).trans f4;have hbb:=hid hb;clear hb c0 c1 c2 c4 f0 f1 f4 l4;go_wp2;first|go_end0|refine bodyPost_ret (results_none rfl _ _ _) rfl ?_
 refine⟨rfl,?_,?_,?_,?_⟩
 · simp[go_sem, *]
 · simp[go_sem, *]
 · simp[go_sem, *]
 · intro n0 w0 h3 h4 h
   exact(((h.trans (hbb.o.mono (by omega))).setCell (p:=⟨b3,0,none⟩) h3 _).setCell (p:=⟨b3,1,none⟩) h3 _).setCell (p:=⟨b4,0,none⟩) h4 _
theorem z3e (l f p q:ByteArray)(n s:Int)(w₀:World)(h1:CV w₀ 31 #[.agg #[.string l,.string l]] (.bool true))(h2:CV w₀ 18 #[.string l] (.int .i64 s))(h3:CV w₀ 34 #[.string l,.int .i64 n] (.string f))(hR:CV w₀ 33 #[.agg #[.string f,.string f],.int .i64 n] (.tuple #[.agg #[.string p,.string q],.int .i64 0]))(f1:decide (s<0)=false)(f2:1≤n)(f3:n≤1000000000) :
 CV w₀ 10 #[.agg #[.string l,.string l],.int .i64 n] (.tuple #[.agg #[.string p,.string q],.int .i64 0]):=by
 intro w hw;obtain ⟨C1,C2,C3,CR⟩:=aM (h1.mono hw) (h2.mono hw) (h3.mono hw) (hR.mono hw);clear h3 hR;have g1:=f1;have g2:decide (n<1)=false:=decide_eq_false (by omega);have g3:decide (1000000000<n)=false:=decide_eq_false (by omega);clear f1 f2 f3 h1 h2 hw;have hmf:∀ (fn:Fn) (first cap:Array Value) (w:World),(Instr.makeFunc fn first cap).run Tryz.prog w=.ok (.func fn first cap) w:=fun _ _ _ _=>rfl;go_enter_defers func10,ntmps10
 go_upto_region 1 with fail
 refine az w [(#[.string l,.string l],24),(#[.int .i64 n],3),(#[.string ⟨#[]⟩,.string ⟨#[]⟩],24),(#[.int .i64 0],27)] rfl ?_;rintro W0 ⟨k1,k2,k3,k4,hb⟩;have u6:=hid (show Below w.heap.size w W0 from hb);obtain ⟨K1,K2,K3,K4⟩:=aM k1 k2 k3 k4;clear k1 k2 k3 k4 hb;obtain ⟨wu,sw⟩:=au K1.o rfl rfl;go_wp2_with fail
 with_reducible refine(C1.o _ u6.o).mono ?_
 rintro e W1 ⟨rfl,hb⟩;clear wu sw;obtain ⟨K1,K2,K3,K4⟩:=aW hb K1 K2 K3 K4;have w9:=hbt u6 hb;clear hb;have wu:=K1.o.cell (i:=0) rfl;go_wp2_with fail
 with_reducible refine(C2.o _ w9.o).mono ?_
 rintro e W2 ⟨rfl,hb⟩;clear wu;obtain ⟨K2,K1,K3,K4⟩:=aW hb K2 K1 K3 K4;have wo:=hbt w9 hb;clear hb;have ru:=K2.o.cell (i:=0) rfl;have wu:=K1.o.cell (i:=0) rfl;go_wp2_with fail
 with_reducible refine(C3.o _ wo.o).mono ?_
 rintro e W3 ⟨rfl,hb⟩;clear ru wu;obtain ⟨K1,K2,K3,K4⟩:=aW hb K1 K2 K3 K4;have ww:=hbt wo hb;clear hb;obtain ⟨wu,sw⟩:=au K1.o rfl rfl;have ru:=K2.o.cell (i:=0) rfl;obtain ⟨p8,p9⟩:=au K3.o rfl rfl;have pq:=K4.o.cell (i:=0) rfl;have pu:=K3.o.frozen (i:=0);have ol:=K3.o.frozen (i:=1);have oM:=K4.o.frozen (i:=0);go_wp2;have hn2:w.heap.size+1≠w.heap.size+1+1:=by omega
 have hn4:w.heap.size+1+1+1≠w.heap.size+1+1:=by omega
 have hn34:w.heap.size+1+1≠w.heap.size+1+1+1:=by omega
 have hn24:w.heap.size+1≠w.heap.size+1+1+1:=by omega
 refine leaves_cons (f:=32) (args:=#[.pointer (some ⟨(w.heap.size+1+1),0,none⟩),.pointer (some ⟨(w.heap.size+1),0,none⟩),.pointer (some ⟨(w.heap.size+1+1+1),0,none⟩)]) (by simp) (by simp[go_sem]) ?_;refine(o9 (w.heap.size+1+1) (w.heap.size+1) (w.heap.size+1+1+1) f f p q n 0 w CR.o (by omega) _ ?_ ?_ ?_ ?_ ?_ ?_ ?_ ?_).mono ?_
 · repeat (first|exact ww.o|refine Below.setCell ?_ (by first|omega|(simp;omega)|simp) _)
 · exact((di (dU (di (dU K3.o)))).off hn34 _).cell (i:=0) rfl
 · exact((di (dU (di (dU K3.o)))).off hn34 _).cell (i:=1) rfl
 · exact(((((K2.o.off hn2 _).off hn2 _).off hn2 _).off hn2 _).off hn24 _).cell (i:=0) rfl
 · exact(lN ((((K4.o.off hn4 _).off hn4 _).off hn4 _).off hn4 _)).cell (i:=0) rfl
 · exact((di (dU (di (dU K3.o)))).off hn34 _).frozen (i:=0)
 · exact((di (dU (di (dU K3.o)))).off hn34 _).frozen (i:=1)
 · exact(lN ((((K4.o.off hn4 _).off hn4 _).off hn4 _).off hn4 _)).frozen (i:=0)
 rintro e u' w' ⟨rfl,rfl,r0,r1,r4,hB⟩
 have hB':Below w.heap.size w w':=by
  refine hB _ _ (by omega) (by omega) ?_;repeat (first|exact ww.o|refine Below.setCell ?_ (by first|omega|(simp;omega)|simp) _)
 simp[Leaves,settle,results,results10,go_sem,r0,r1,r4]
 exact hB'
theorem z3f (l u f g p q:ByteArray)(n s:Int)(w₀:World)(h1:CV w₀ 31 #[.agg #[.string l,.string u]] (.bool true))(h2:CV w₀ 18 #[.string l] (.int .i64 s))(h3:CV w₀ 34 #[.string l,.int .i64 n] (.string f))(h4:CV w₀ 34 #[.string u,.int .i64 n] (.string g))(hR:CV w₀ 33 #[.agg #[.string f,.string g],.int .i64 n] (.tuple #[.agg #[.string p,.string q],.int .i64 0]))(f1:decide (s<0)=false)(f4:(u.toList==l.toList)=false)(f2:1≤n)(f3:n≤1000000000) :
 CV w₀ 10 #[.agg #[.string l,.string u],.int .i64 n] (.tuple #[.agg #[.string p,.string q],.int .i64 0]):=by
 intro w hw;obtain ⟨C1,C2,C3,C4,CR⟩:=bY (h1.mono hw) (h2.mono hw) (h3.mono hw) (h4.mono hw) (hR.mono hw);have g4:=f4;clear h3 h4 hR f4;have g1:=f1;have g2:decide (n<1)=false:=decide_eq_false (by omega);have g3:decide (1000000000<n)=false:=decide_eq_false (by omega);clear f1 f2 f3 h1 h2 hw;have hmf:∀ (fn:Fn) (first cap:Array Value) (w:World),(Instr.makeFunc fn first cap).run Tryz.prog w=.ok (.func fn first cap) w:=fun _ _ _ _=>rfl;go_enter_defers func10,ntmps10
 go_upto_region 1 with fail
 refine az w [(#[.string l,.string u],24),(#[.int .i64 n],3),(#[.string ⟨#[]⟩,.string ⟨#[]⟩],24),(#[.int .i64 0],27)] rfl ?_;rintro W0 ⟨k1,k2,k3,k4,hb⟩;have u6:=hid (show Below w.heap.size w W0 from hb);obtain ⟨K1,K2,K3,K4⟩:=aM k1 k2 k3 k4;clear k1 k2 k3 k4 hb;obtain ⟨wu,sw⟩:=au K1.o rfl rfl;go_wp2_with fail
 with_reducible refine(C1.o _ u6.o).mono ?_
 rintro e W1 ⟨rfl,hb⟩;clear wu sw;obtain ⟨K1,K2,K3,K4⟩:=aW hb K1 K2 K3 K4;have w9:=hbt u6 hb;clear hb;have wu:=K1.o.cell (i:=0) rfl;go_wp2_with fail
 with_reducible refine(C2.o _ w9.o).mono ?_
 rintro e W2 ⟨rfl,hb⟩;clear wu;obtain ⟨K2,K1,K3,K4⟩:=aW hb K2 K1 K3 K4;have wo:=hbt w9 hb;clear hb;have ru:=K2.o.cell (i:=0) rfl;have wu:=K1.o.cell (i:=0) rfl;go_wp2_with fail
 with_reducible refine(C3.o _ wo.o).mono ?_
 rintro e W3 ⟨rfl,hb⟩;clear ru wu;obtain ⟨K1,K2,K3,K4⟩:=aW hb K1 K2 K3 K4;have ww:=hbt wo hb;clear hb;obtain ⟨wu,sw⟩:=au K1.o rfl rfl;have ru:=K2.o.cell (i:=0) rfl;obtain ⟨p8,p9⟩:=au K3.o rfl rfl;have pq:=K4.o.cell (i:=0) rfl;have pu:=K3.o.frozen (i:=0);have ol:=K3.o.frozen (i:=1);have oM:=K4.o.frozen (i:=0);go_wp2_with fail
 refine(C4.o _ ?_).mono ?_
 · repeat (first|exact ww.o|refine Below.setCell ?_ (by first|omega|(simp;omega)|simp) _)
 rintro e W4 ⟨rfl,hb⟩;have L3:=K3.o.lt;have sz:(W3.setCell ⟨w.heap.size+1+1,0,none⟩ (.string f)).heap.size=W3.heap.size:=by simp
 have K1:=hid ((K1.o.off (show w.heap.size≠w.heap.size+1+1 by omega) _).below hb);have K2:=hid ((K2.o.off (show w.heap.size+1≠w.heap.size+1+1 by omega) _).below hb);have K3:=hid (show SBk W4 (w.heap.size+1+1) #[.string f,.string ⟨#[]⟩] 24 from(K3.o.set (i:=0) _).below hb);have K4:=hid ((K4.o.off (show w.heap.size+1+1+1≠w.heap.size+1+1 by omega) _).below hb);have sj:=hid ((ww.o.setCell (p:=⟨w.heap.size+1+1,0,none⟩) (show w.heap.size≤w.heap.size+1+1 by omega) (.string f)).trans (hb.mono (by rw[sz];omega)));clear hb wu sw ru p8 p9 pq pu ol oM L3 sz;obtain ⟨wu,sw⟩:=au K1.o rfl rfl;have ru:=K2.o.cell (i:=0) rfl;obtain ⟨p8,p9⟩:=au K3.o rfl rfl;have pq:=K4.o.cell (i:=0) rfl;have pu:=K3.o.frozen (i:=0);have ol:=K3.o.frozen (i:=1);have oM:=K4.o.frozen (i:=0);go_wp2;have hn2:w.heap.size+1≠w.heap.size+1+1:=by omega
 have hn4:w.heap.size+1+1+1≠w.heap.size+1+1:=by omega
 have hn34:w.heap.size+1+1≠w.heap.size+1+1+1:=by omega
 have hn24:w.heap.size+1≠w.heap.size+1+1+1:=by omega
 refine leaves_cons (f:=32) (args:=#[.pointer (some ⟨(w.heap.size+1+1),0,none⟩),.pointer (some ⟨(w.heap.size+1),0,none⟩),.pointer (some ⟨(w.heap.size+1+1+1),0,none⟩)]) (by simp) (by simp[go_sem]) ?_;refine(o9 (w.heap.size+1+1) (w.heap.size+1) (w.heap.size+1+1+1) f g p q n 0 w CR.o (by omega) _ ?_ ?_ ?_ ?_ ?_ ?_ ?_ ?_).mono ?_
 · repeat (first|exact sj.o|refine Below.setCell ?_ (by first|omega|(simp;omega)|simp) _)
 · exact((di (dU (di K3.o))).off hn34 _).cell (i:=0) rfl
 · exact((di (dU (di K3.o))).off hn34 _).cell (i:=1) rfl
 · exact((((K2.o.off hn2 _).off hn2 _).off hn2 _).off hn24 _).cell (i:=0) rfl
 · exact(lN (((K4.o.off hn4 _).off hn4 _).off hn4 _)).cell (i:=0) rfl
 · exact((di (dU (di K3.o))).off hn34 _).frozen (i:=0)
 · exact((di (dU (di K3.o))).off hn34 _).frozen (i:=1)
 · exact(lN (((K4.o.off hn4 _).off hn4 _).off hn4 _)).frozen (i:=0)
 rintro e u' w' ⟨rfl,rfl,r0,r1,r4,hB⟩
 have hB':Below w.heap.size w w':=by
  refine hB _ _ (by omega) (by omega) ?_;repeat (first|exact sj.o|refine Below.setCell ?_ (by first|omega|(simp;omega)|simp) _)
 simp[Leaves,settle,results,results10,go_sem,r0,r1,r4]
 exact hB'
