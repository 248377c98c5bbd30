/- texts -/
import Derived.Test.YtodcdibanokjjaaGreatDoorMz15q
import Derived.Deep.DeepCutAuto
import Derived.StillTailTactics
open Go.Proofs.Tryz
set_option maxRecDepth 100000
set_option maxHeartbeats 20000000
open Go.Lib (hid)
namespace Go.Proofs.YtodcdibanokjjaaGreatDoor
open Go.RowKit Go.Gb
abbrev CV (w:World) (f:Nat) (args:Array Value) (v:Value):Prop:=∀ W,Below w.heap.size w W→Calls Tryz.prog f args W fun e w'=>e=.returned v∧Below W.heap.size W w'
theorem CV.mono {w W:World}{f:Nat}{args:Array Value}{v:Value}(h:CV w f args v)(hb:Below w.heap.size w W):CV W f args v:=fun X hX=>h X (hb.trans (hX.mono hb.size))
theorem CV.at {w:World}{f:Nat}{args:Array Value}{v:Value}(h:CV w f args v):Calls Tryz.prog f args w fun e w'=>e=.returned v∧Below w.heap.size w w':=h w (Below.refl _ _)
theorem aRat (x:ByteArray)(n:Int)(w₀:World)   :
 CV w₀ 50 #[.string x,.int .i64 n] (.string x):=by
 intro w hw;clear hw;go_enter func50,ntmps50
 have HB0:=hid (Below.refl w.heap.size w);go_wp2;exact bodyPost_ret (v:=.string x) (by simp[results,results50,go_sem]) rfl ⟨rfl,HB0.out⟩
theorem aInt (x n:Int)(w₀:World)   :
 CV w₀ 103 #[.int .i64 x,.int .i64 n] (.int .i64 x):=by
 intro w hw;clear hw;go_enter func103,ntmps103
 have HB0:=hid (Below.refl w.heap.size w);go_wp2;exact bodyPost_ret (v:=.int .i64 x) (by simp[results,results103,go_sem]) rfl ⟨rfl,HB0.out⟩
theorem aIv (l u:ByteArray)(n:Int)(w₀:World)   :
 CV w₀ 74 #[.agg #[.string l,.string u],.int .i64 n] (.agg #[.string l,.string u]):=by
 intro w hw;clear hw;go_enter func74,ntmps74
 go_upto_region 1 with fail
 refine ay w [(#[.string l,.string u],32),(#[.string ⟨#[]⟩,.string ⟨#[]⟩],32)] rfl ?_;rintro W0 ⟨k1,k2,hb⟩;have HB0:=hid (show Below w.heap.size w W0 from hb);have K1:=hid k1;have K2:=hid k2;clear k1 k2 hb;obtain ⟨dK10,dK11⟩:=aI K1.out rfl rfl;obtain ⟨dK20,dK21⟩:=aI K2.out rfl rfl;obtain ⟨fK20,fK21⟩:=bG K2.out;go_wp2;exact bodyPost_ret (v:=.agg #[.string l,.string u]) (by simp[results,results74,go_sem,dK20,dK21]) rfl ⟨rfl,(av (l:=[.string l,.string u]) (i:=0) (by omega) HB0.out)⟩
theorem z0K (x y z:ByteArray)(n:Int)(w₀:World)(h1:CV w₀ 53 #[.string x,.string y] (.tuple #[.string z,.int .i64 n]))  :
 CV w₀ 26 #[.string x,.string y] (.string z):=by
 intro w hw;have C1:=hid (h1.mono hw);clear h1 hw;go_enter func26,ntmps26
 have HB0:=hid (Below.refl w.heap.size w);go_wp2_with fail
 with_reducible refine(C1.out _ HB0.out).mono ?_
 rintro e W1 ⟨rfl,hb⟩;have HB1:=hbt HB0 hb;clear hb;go_wp2_with fail
 with_reducible refine(aRat z n _ _ HB1.out).mono ?_
 rintro e W2 ⟨rfl,hb⟩;have HB2:=hbt HB1 hb;clear hb;go_wp2;exact bodyPost_ret (v:=.string z) (by simp[results,results26,go_sem]) rfl ⟨rfl,HB2.out⟩
theorem yj (x y z:ByteArray)(n:Int)(w₀:World)(h1:CV w₀ 52 #[.string x,.string y] (.tuple #[.string z,.int .i64 n]))  :
 CV w₀ 25 #[.string x,.string y] (.string z):=by
 intro w hw;have C1:=hid (h1.mono hw);clear h1 hw;go_enter func25,ntmps25
 have HB0:=hid (Below.refl w.heap.size w);go_wp2_with fail
 with_reducible refine(C1.out _ HB0.out).mono ?_
 rintro e W1 ⟨rfl,hb⟩;have HB1:=hbt HB0 hb;clear hb;go_wp2_with fail
 with_reducible refine(aRat z n _ _ HB1.out).mono ?_
 rintro e W2 ⟨rfl,hb⟩;have HB2:=hbt HB1 hb;clear hb;go_wp2;exact bodyPost_ret (v:=.string z) (by simp[results,results25,go_sem]) rfl ⟨rfl,HB2.out⟩
theorem yc (x y z:ByteArray)(n:Int)(w₀:World)(h1:CV w₀ 51 #[.string x,.string y] (.tuple #[.string z,.int .i64 n]))  :
 CV w₀ 23 #[.string x,.string y] (.string z):=by
 intro w hw;have C1:=hid (h1.mono hw);clear h1 hw;go_enter func23,ntmps23
 have HB0:=hid (Below.refl w.heap.size w);go_wp2_with fail
 with_reducible refine(C1.out _ HB0.out).mono ?_
 rintro e W1 ⟨rfl,hb⟩;have HB1:=hbt HB0 hb;clear hb;go_wp2_with fail
 with_reducible refine(aRat z n _ _ HB1.out).mono ?_
 rintro e W2 ⟨rfl,hb⟩;have HB2:=hbt HB1 hb;clear hb;go_wp2;exact bodyPost_ret (v:=.string z) (by simp[results,results23,go_sem]) rfl ⟨rfl,HB2.out⟩
theorem z0L (x y z:ByteArray)(n:Int)(w₀:World)(h1:CV w₀ 31 #[.string x,.string y] (.tuple #[.string z,.int .i64 n]))  :
 CV w₀ 24 #[.string x,.string y] (.string z):=by
 intro w hw;have C1:=hid (h1.mono hw);clear h1 hw;go_enter func24,ntmps24
 have HB0:=hid (Below.refl w.heap.size w);go_wp2_with fail
 with_reducible refine(C1.out _ HB0.out).mono ?_
 rintro e W1 ⟨rfl,hb⟩;have HB1:=hbt HB0 hb;clear hb;go_wp2_with fail
 with_reducible refine(aRat z n _ _ HB1.out).mono ?_
 rintro e W2 ⟨rfl,hb⟩;have HB2:=hbt HB1 hb;clear hb;go_wp2;exact bodyPost_ret (v:=.string z) (by simp[results,results24,go_sem]) rfl ⟨rfl,HB2.out⟩
theorem yh (x y:ByteArray)(c n:Int)(w₀:World)(h1:CV w₀ 48 #[.string x,.string y] (.tuple #[.int .i64 c,.int .i64 n]))  :
 CV w₀ 70 #[.string x,.string y] (.int .i64 c):=by
 intro w hw;have C1:=hid (h1.mono hw);clear h1 hw;go_enter func70,ntmps70
 have HB0:=hid (Below.refl w.heap.size w);go_wp2_with fail
 with_reducible refine(C1.out _ HB0.out).mono ?_
 rintro e W1 ⟨rfl,hb⟩;have HB1:=hbt HB0 hb;clear hb;go_wp2_with fail
 with_reducible refine(aInt c n _ _ HB1.out).mono ?_
 rintro e W2 ⟨rfl,hb⟩;have HB2:=hbt HB1 hb;clear hb;go_wp2;exact bodyPost_ret (v:=.int .i64 c) (by simp[results,results70,go_sem]) rfl ⟨rfl,HB2.out⟩
theorem sV (x l u:ByteArray)(n:Int)(w₀:World)(h1:CV w₀ 130 #[.string x] (.tuple #[.agg #[.string l,.string u],.int .i64 n]))  :
 CV w₀ 105 #[.string x] (.agg #[.string l,.string u]):=by
 intro w hw;have C1:=hid (h1.mono hw);clear h1 hw;go_enter func105,ntmps105
 go_upto_region 1 with fail
 refine ay w [(#[.string ⟨#[]⟩,.string ⟨#[]⟩],32)] rfl ?_;rintro W0 ⟨k1,hb⟩;have HB0:=hid (show Below w.heap.size w W0 from hb);have K1:=hid k1;clear k1 hb;go_wp2_with fail
 with_reducible refine(C1.out _ HB0.out).mono ?_
 rintro e W1 ⟨rfl,hb⟩;have K1:=hid (K1.out.below hb);have HB1:=hbt HB0 hb;clear hb;go_wp2_with fail
 with_reducible refine(aIv l u n _ _ HB1.out).mono ?_
 rintro e W2 ⟨rfl,hb⟩;have K1:=hid (K1.out.below hb);have HB2:=hbt HB1 hb;clear hb;obtain ⟨dK10,dK11⟩:=aI K1.out rfl rfl;obtain ⟨fK10,fK11⟩:=bG K1.out;go_wp2;exact bodyPost_ret (v:=.agg #[.string l,.string u]) (by simp[results,results105,go_sem,dK10,dK11]) rfl ⟨rfl,(av (l:=[.string l,.string u]) (i:=0) (by omega) HB2.out)⟩
theorem z2H (xa xb xc xd l u:ByteArray)(n:Int)(w₀:World)(h1:CV w₀ 108 #[.agg #[.string xa,.string xb],.agg #[.string xc,.string xd]] (.tuple #[.agg #[.string l,.string u],.int .i64 n]))  :
 CV w₀ 73 #[.agg #[.string xa,.string xb],.agg #[.string xc,.string xd]] (.agg #[.string l,.string u]):=by
 intro w hw;have C1:=hid (h1.mono hw);clear h1 hw;go_enter func73,ntmps73
 go_upto_region 1 with fail
 refine ay w [(#[.string xa,.string xb],32),(#[.string xc,.string xd],32),(#[.string ⟨#[]⟩,.string ⟨#[]⟩],32)] rfl ?_;rintro W0 ⟨k1,k2,k3,hb⟩;have HB0:=hid (show Below w.heap.size w W0 from hb);obtain ⟨K1,K2,K3⟩:=ai k1 k2 k3;clear k1 k2 k3 hb;obtain ⟨dK10,dK11⟩:=aI K1.out rfl rfl;obtain ⟨dK20,dK21⟩:=aI K2.out rfl rfl;go_wp2_with fail
 with_reducible refine(C1.out _ HB0.out).mono ?_
 rintro e W1 ⟨rfl,hb⟩;clear dK10 dK11 dK20 dK21;have K3:=hid (K3.out.below hb);have HB1:=hbt HB0 hb;clear hb;go_wp2_with fail
 with_reducible refine(aIv l u n _ _ HB1.out).mono ?_
 rintro e W2 ⟨rfl,hb⟩;have K3:=hid (K3.out.below hb);have HB2:=hbt HB1 hb;clear hb;obtain ⟨dK30,dK31⟩:=aI K3.out rfl rfl;obtain ⟨fK30,fK31⟩:=bG K3.out;go_wp2;exact bodyPost_ret (v:=.agg #[.string l,.string u]) (by simp[results,results73,go_sem,dK30,dK31]) rfl ⟨rfl,(av (l:=[.string l,.string u]) (i:=0) (by omega) HB2.out)⟩
theorem yg (x xa xb xc xd l u:ByteArray)(n:Int)(w₀:World)(h0:CV w₀ 105 #[.string x] (.agg #[.string xa,.string xb]))(h1:CV w₀ 104 #[.agg #[.string xa,.string xb],.agg #[.string xc,.string xd]] (.tuple #[.agg #[.string l,.string u],.int .i64 n]))  :
 CV w₀ 71 #[.string x,.agg #[.string xc,.string xd]] (.agg #[.string l,.string u]):=by
 intro w hw;have C0:=hid (h0.mono hw);have C1:=hid (h1.mono hw);clear h0 h1 hw;go_enter func71,ntmps71
 go_upto_region 1 with fail
 refine ay w [(#[.string xc,.string xd],32),(#[.string ⟨#[]⟩,.string ⟨#[]⟩],32)] rfl ?_;rintro W0 ⟨k1,k2,hb⟩;have HB0:=hid (show Below w.heap.size w W0 from hb);have K1:=hid k1;have K2:=hid k2;clear k1 k2 hb;go_wp2_with fail
 refine aC (fun a0 a' V=>a'=⟨putL [(5,.string x),(6,.agg #[.string xa,.string xb]),(7,.agg #[.string xc,.string xd]),(8,.tuple #[.agg #[.string l,.string u],.int .i64 n]),(9,.agg #[.string l,.string u]),(10,.int .i64 n),(11,.agg #[.string l,.string u])] a0.tmps,a0.defers⟩∧Below w.heap.size w V∧SBk V (w.heap.size+1) #[.string l,.string u] 32) ?_ ?_
 · refine aB (by kernel_rfl) 7 1 (fun i=>[5,6,7,8,9,10,11].getD i 0) (RelR [Rel.val (.string x),Rel.val (.agg #[.string xa,.string xb]),Rel.val (.agg #[.string xc,.string xd]),Rel.val (.tuple #[.agg #[.string l,.string u],.int .i64 n]),Rel.val (.agg #[.string l,.string u]),Rel.val (.int .i64 n),Rel.val (.agg #[.string l,.string u])]) (fun W=>Below W0.heap.size W0 W) (fun _ _=>True) (by kernel_rfl) (by kernel_rfl) (by kernel_rfl) trivial (Below.refl _ _).drew ?_ ?_
   · intro listed a W i hI hD hrd him
     obtain ⟨HI,HD,Hr⟩:=ai hI hD hrd;clear hI hrd hD;have y0:a.tmps[0]? = some (.string x):=HI.out.rest 0 (by decide);have y3:a.tmps[3]? = some (.pointer (some ⟨w.heap.size,0,none⟩)):=HI.out.rest 3 (by decide);obtain ⟨dK10,dK11⟩:=aI (K1.out.below HI.out.world) rfl rfl;have X0:RV _ listed a 0 5 (.string x):=HI.out.rh;have X1:RV _ listed a 1 6 (.agg #[.string xa,.string xb]):=HI.out.rh;have X2:RV _ listed a 2 7 (.agg #[.string xc,.string xd]):=HI.out.rh;have X3:RV _ listed a 3 8 (.tuple #[.agg #[.string l,.string u],.int .i64 n]):=HI.out.rh;have X4:RV _ listed a 4 9 (.agg #[.string l,.string u]):=HI.out.rh;have X5:RV _ listed a 5 10 (.int .i64 n):=HI.out.rh
     match i,him,Hr with
     | 0,_,Hi =>
       refine au rfl fun K' hK=>?_;go_simp;exact hK.out _ _ ⟨HI.out.pv Hi.out rfl,trivial⟩
     | 1,_,Hi =>
       have x0:=X0.g Hi.out (by kernel_rfl);refine au rfl fun K' hK=>?_;go_simp;with_reducible refine(C0.out _ (HB0.out.trans (HI.out.world.mono HB0.out.size))).mono ?_
       rintro e W' ⟨rfl,hb⟩;exact hK.out _ _ ⟨HI.out.pc Hi.out hb rfl,trivial⟩
     | 2,_,Hi =>
       refine au rfl fun K' hK=>?_;go_simp;exact hK.out _ _ ⟨HI.out.pv Hi.out rfl,trivial⟩
     | 3,_,Hi =>
       have x1:=X1.g Hi.out (by kernel_rfl);have x2:=X2.g Hi.out (by kernel_rfl);refine au rfl fun K' hK=>?_;go_simp;with_reducible refine(C1.out _ (HB0.out.trans (HI.out.world.mono HB0.out.size))).mono ?_
       rintro e W' ⟨rfl,hb⟩;exact hK.out _ _ ⟨HI.out.pc Hi.out hb rfl,trivial⟩
     | 4,_,Hi =>
       have x3:=X3.g Hi.out (by kernel_rfl);refine au rfl fun K' hK=>?_;go_simp;exact hK.out _ _ ⟨HI.out.pv Hi.out rfl,trivial⟩
     | 5,_,Hi =>
       have x3:=X3.g Hi.out (by kernel_rfl);refine au rfl fun K' hK=>?_;go_simp;exact hK.out _ _ ⟨HI.out.pv Hi.out rfl,trivial⟩
     | 6,_,Hi =>
       have x4:=X4.g Hi.out (by kernel_rfl);have x5:=X5.g Hi.out (by kernel_rfl);refine au rfl fun K' hK=>?_;go_simp;with_reducible refine(aIv l u n _ _ (HB0.out.trans (HI.out.world.mono HB0.out.size))).mono ?_
       rintro e W' ⟨rfl,hb⟩;exact hK.out _ _ ⟨HI.out.pc Hi.out hb rfl,trivial⟩
     | n+7,h,_=>exact absurd h (by omega)
   · intro listed a W hI hD hall
     have x6:a.tmps[11]? = some (.agg #[.string l,.string u]):=hI.sx hall 6;obtain ⟨HBW,HI,HA⟩:=ai hI.world hI hall;clear hI hall;obtain ⟨K2,HBX⟩:=aF (K2.out.below HBW.out) (HB0.out.trans (HBW.out.mono HB0.out.size));have y4:a.tmps[4]? = some (.pointer (some ⟨w.heap.size+1,0,none⟩)):=HI.out.rest 4 (by decide);obtain ⟨dK20,dK21⟩:=aI K2.out rfl rfl;obtain ⟨fK20,fK21⟩:=bG K2.out;refine aR (t:=0) ?_;refine au rfl fun K' hK=>?_;go_simp;refine hK.out _ _ ?_;clear hK;refine bf ?_;rw[← fP];exact⟨rfl,(HI.out.finx ⟨HI.out.sx HA.out 0,HI.out.sx HA.out 1,HI.out.sx HA.out 2,HI.out.sx HA.out 3,HI.out.sx HA.out 4,HI.out.sx HA.out 5,x6,trivial⟩ rfl),(av (l:=[.string l,.string u]) (i:=0) (by omega) HBX.out),(gp K2.out)⟩
 rintro a' W1 ⟨rfl,z0,z1⟩;have HB1:=hid z0;have K2:=hid z1;clear z0 z1;simp only[putL,List.setIfInBounds_toArray,List.set_cons_zero,List.set_cons_succ];go_wp2;obtain ⟨dK20,dK21⟩:=aI K2.out rfl rfl;exact bodyPost_ret (v:=.agg #[.string l,.string u]) (by simp[results,results71,go_sem,dK20,dK21]) rfl ⟨rfl,HB1.out⟩
end Go.Proofs.YtodcdibanokjjaaGreatDoor
