/- Texts of this proof, one behind the other. -/
import Derived.Test.YtcihodmmaclihaaGreatDoorMz9q
import Derived.Test.YtcihodmmaclihaaGreatDoorMz3q
import Derived.BigQuiet
import Derived.Deep.DeepCutAuto
import Derived.StillTailTactics
import Derived.WalkSpells
import Derived.WalkLawsBesides
set_option maxRecDepth 100000
set_option maxHeartbeats 20000000
open Go.Lib (hid)
namespace Go.Proofs.YtcihodmmaclihaaGreatDoor
open Go.RowKit Go.Gb
abbrev CV (w:World) (f:Nat) (args:Array Value) (v:Value):Prop:=∀ W,Below w.heap.size w W→Calls Tryz.prog f args W fun e w'=>e=.returned v∧Below W.heap.size W w'
theorem CV.mono {w W:World}{f:Nat}{args:Array Value}{v:Value}(h:CV w f args v)(hb:Below w.heap.size w W):CV W f args v:=fun X hX=>h X (hb.trans (hX.mono hb.size))
theorem CV.at {w:World}{f:Nat}{args:Array Value}{v:Value}(h:CV w f args v):Calls Tryz.prog f args w fun e w'=>e=.returned v∧Below w.heap.size w w':=h w (Below.refl _ _)
theorem aRat (x:ByteArray)(n:Int)(w₀:World)   :
 CV w₀ 53 #[.string x,.int .i64 n] (.string x):=by
 intro w hw
 clear hw
 go_enter Tryz.func53,Tryz.ntmps53
 have HB0:=hid (Below.refl w.heap.size w)
 go_wp2
 exact bodyPost_ret (v:=.string x) (by simp[results,Tryz.results53,go_sem]) rfl ⟨rfl,HB0.out⟩
theorem aInt (x n:Int)(w₀:World)   :
 CV w₀ 60 #[.int .i64 x,.int .i64 n] (.int .i64 x):=by
 intro w hw
 clear hw
 go_enter Tryz.func60,Tryz.ntmps60
 have HB0:=hid (Below.refl w.heap.size w)
 go_wp2
 exact bodyPost_ret (v:=.int .i64 x) (by simp[results,Tryz.results60,go_sem]) rfl ⟨rfl,HB0.out⟩
theorem aIv (l u:ByteArray)(n:Int)(w₀:World)   :
 CV w₀ 44 #[.agg #[.string l,.string u],.int .i64 n] (.agg #[.string l,.string u]):=by
 intro w hw
 clear hw
 go_enter Tryz.func44,Tryz.ntmps44
 go_upto_region 1 with fail
 refine wp_boxes w [(#[.string l,.string u],26),(#[.string ⟨#[]⟩,.string ⟨#[]⟩],26)] rfl ?_
 rintro W0 ⟨k1,k2,hb⟩
 have HB0:=hid (show Below w.heap.size w W0 from hb)
 have K1:=hid k1
 have K2:=hid k2
 clear k1 k2 hb
 have dK10:=K1.out.cell (i:=0) rfl
 have dK11:=K1.out.cell (i:=1) rfl
 have dK20:=K2.out.cell (i:=0) rfl
 have dK21:=K2.out.cell (i:=1) rfl
 have fK20:=K2.out.frozen (i:=0)
 have fK21:=K2.out.frozen (i:=1)
 go_wp2
 exact bodyPost_ret (v:=.agg #[.string l,.string u]) (by simp[results,Tryz.results44,go_sem,dK20,dK21]) rfl ⟨rfl,(store_below (l:=[.string l,.string u]) (i:=0) (by omega) HB0.out)⟩
theorem aplus_raw (x y z:ByteArray)(n:Int)(w₀:World)(h1:CV w₀ 55 #[.string x,.string y] (.tuple #[.string z,.int .i64 n]))  :
 CV w₀ 38 #[.string x,.string y] (.string z):=by
 intro w hw
 have C1:=hid (h1.mono hw)
 clear h1 hw
 go_enter Tryz.func38,Tryz.ntmps38
 have HB0:=hid (Below.refl w.heap.size w)
 go_wp2_with fail
 with_reducible refine(C1.out _ HB0.out).mono ?_
 rintro e W1 ⟨rfl,hb⟩
 have HB1:=hbt HB0 hb
 clear hb
 go_wp2_with fail
 with_reducible refine(aRat z n _ _ HB1.out).mono ?_
 rintro e W2 ⟨rfl,hb⟩
 have HB2:=hbt HB1 hb
 clear hb
 go_wp2
 exact bodyPost_ret (v:=.string z) (by simp[results,Tryz.results38,go_sem]) rfl ⟨rfl,HB2.out⟩
theorem aminus_raw (x y z:ByteArray)(n:Int)(w₀:World)(h1:CV w₀ 30 #[.string x,.string y] (.tuple #[.string z,.int .i64 n]))  :
 CV w₀ 37 #[.string x,.string y] (.string z):=by
 intro w hw
 have C1:=hid (h1.mono hw)
 clear h1 hw
 go_enter Tryz.func37,Tryz.ntmps37
 have HB0:=hid (Below.refl w.heap.size w)
 go_wp2_with fail
 with_reducible refine(C1.out _ HB0.out).mono ?_
 rintro e W1 ⟨rfl,hb⟩
 have HB1:=hbt HB0 hb
 clear hb
 go_wp2_with fail
 with_reducible refine(aRat z n _ _ HB1.out).mono ?_
 rintro e W2 ⟨rfl,hb⟩
 have HB2:=hbt HB1 hb
 clear hb
 go_wp2
 exact bodyPost_ret (v:=.string z) (by simp[results,Tryz.results37,go_sem]) rfl ⟨rfl,HB2.out⟩
theorem atimes_raw (x y z:ByteArray)(n:Int)(w₀:World)(h1:CV w₀ 54 #[.string x,.string y] (.tuple #[.string z,.int .i64 n]))  :
 CV w₀ 35 #[.string x,.string y] (.string z):=by
 intro w hw
 have C1:=hid (h1.mono hw)
 clear h1 hw
 go_enter Tryz.func35,Tryz.ntmps35
 have HB0:=hid (Below.refl w.heap.size w)
 go_wp2_with fail
 with_reducible refine(C1.out _ HB0.out).mono ?_
 rintro e W1 ⟨rfl,hb⟩
 have HB1:=hbt HB0 hb
 clear hb
 go_wp2_with fail
 with_reducible refine(aRat z n _ _ HB1.out).mono ?_
 rintro e W2 ⟨rfl,hb⟩
 have HB2:=hbt HB1 hb
 clear hb
 go_wp2
 exact bodyPost_ret (v:=.string z) (by simp[results,Tryz.results35,go_sem]) rfl ⟨rfl,HB2.out⟩
theorem aover_raw (x y z:ByteArray)(n:Int)(w₀:World)(h1:CV w₀ 39 #[.string x,.string y] (.tuple #[.string z,.int .i64 n]))  :
 CV w₀ 36 #[.string x,.string y] (.string z):=by
 intro w hw
 have C1:=hid (h1.mono hw)
 clear h1 hw
 go_enter Tryz.func36,Tryz.ntmps36
 have HB0:=hid (Below.refl w.heap.size w)
 go_wp2_with fail
 with_reducible refine(C1.out _ HB0.out).mono ?_
 rintro e W1 ⟨rfl,hb⟩
 have HB1:=hbt HB0 hb
 clear hb
 go_wp2_with fail
 with_reducible refine(aRat z n _ _ HB1.out).mono ?_
 rintro e W2 ⟨rfl,hb⟩
 have HB2:=hbt HB1 hb
 clear hb
 go_wp2
 exact bodyPost_ret (v:=.string z) (by simp[results,Tryz.results36,go_sem]) rfl ⟨rfl,HB2.out⟩
theorem aorder_raw (x y:ByteArray)(c n:Int)(w₀:World)(h1:CV w₀ 12 #[.string x,.string y] (.tuple #[.int .i64 c,.int .i64 n]))  :
 CV w₀ 43 #[.string x,.string y] (.int .i64 c):=by
 intro w hw
 have C1:=hid (h1.mono hw)
 clear h1 hw
 go_enter Tryz.func43,Tryz.ntmps43
 have HB0:=hid (Below.refl w.heap.size w)
 go_wp2_with fail
 with_reducible refine(C1.out _ HB0.out).mono ?_
 rintro e W1 ⟨rfl,hb⟩
 have HB1:=hbt HB0 hb
 clear hb
 go_wp2_with fail
 with_reducible refine(aInt c n _ _ HB1.out).mono ?_
 rintro e W2 ⟨rfl,hb⟩
 have HB2:=hbt HB1 hb
 clear hb
 go_wp2
 exact bodyPost_ret (v:=.int .i64 c) (by simp[results,Tryz.results43,go_sem]) rfl ⟨rfl,HB2.out⟩
theorem aexactly_raw (x l u:ByteArray)(n:Int)(w₀:World)(h1:CV w₀ 82 #[.string x] (.tuple #[.agg #[.string l,.string u],.int .i64 n]))  :
 CV w₀ 58 #[.string x] (.agg #[.string l,.string u]):=by
 intro w hw
 have C1:=hid (h1.mono hw)
 clear h1 hw
 go_enter Tryz.func58,Tryz.ntmps58
 go_upto_region 1 with fail
 refine wp_boxes w [(#[.string ⟨#[]⟩,.string ⟨#[]⟩],26)] rfl ?_
 rintro W0 ⟨k1,hb⟩
 have HB0:=hid (show Below w.heap.size w W0 from hb)
 have K1:=hid k1
 clear k1 hb
 go_wp2_with fail
 with_reducible refine(C1.out _ HB0.out).mono ?_
 rintro e W1 ⟨rfl,hb⟩
 have K1:=hid (K1.out.below hb)
 have HB1:=hbt HB0 hb
 clear hb
 go_wp2_with fail
 with_reducible refine(aIv l u n _ _ HB1.out).mono ?_
 rintro e W2 ⟨rfl,hb⟩
 have K1:=hid (K1.out.below hb)
 have HB2:=hbt HB1 hb
 clear hb
 have dK10:=K1.out.cell (i:=0) rfl
 have dK11:=K1.out.cell (i:=1) rfl
 have fK10:=K1.out.frozen (i:=0)
 have fK11:=K1.out.frozen (i:=1)
 go_wp2
 exact bodyPost_ret (v:=.agg #[.string l,.string u]) (by simp[results,Tryz.results58,go_sem,dK10,dK11]) rfl ⟨rfl,(store_below (l:=[.string l,.string u]) (i:=0) (by omega) HB2.out)⟩
theorem asub_raw (xa xb xc xd l u:ByteArray)(n:Int)(w₀:World)(h1:CV w₀ 13 #[.agg #[.string xa,.string xb],.agg #[.string xc,.string xd]] (.tuple #[.agg #[.string l,.string u],.int .i64 n]))  :
 CV w₀ 41 #[.agg #[.string xa,.string xb],.agg #[.string xc,.string xd]] (.agg #[.string l,.string u]):=by
 intro w hw
 have C1:=hid (h1.mono hw)
 clear h1 hw
 go_enter Tryz.func41,Tryz.ntmps41
 go_upto_region 1 with fail
 refine wp_boxes w [(#[.string xa,.string xb],26),(#[.string xc,.string xd],26),(#[.string ⟨#[]⟩,.string ⟨#[]⟩],26)] rfl ?_
 rintro W0 ⟨k1,k2,k3,hb⟩
 have HB0:=hid (show Below w.heap.size w W0 from hb)
 have K1:=hid k1
 have K2:=hid k2
 have K3:=hid k3
 clear k1 k2 k3 hb
 have dK10:=K1.out.cell (i:=0) rfl
 have dK11:=K1.out.cell (i:=1) rfl
 have dK20:=K2.out.cell (i:=0) rfl
 have dK21:=K2.out.cell (i:=1) rfl
 go_wp2_with fail
 with_reducible refine(C1.out _ HB0.out).mono ?_
 rintro e W1 ⟨rfl,hb⟩
 clear dK10 dK11 dK20 dK21
 have K3:=hid (K3.out.below hb)
 have HB1:=hbt HB0 hb
 clear hb
 go_wp2_with fail
 with_reducible refine(aIv l u n _ _ HB1.out).mono ?_
 rintro e W2 ⟨rfl,hb⟩
 have K3:=hid (K3.out.below hb)
 have HB2:=hbt HB1 hb
 clear hb
 have dK30:=K3.out.cell (i:=0) rfl
 have dK31:=K3.out.cell (i:=1) rfl
 have fK30:=K3.out.frozen (i:=0)
 have fK31:=K3.out.frozen (i:=1)
 go_wp2
 exact bodyPost_ret (v:=.agg #[.string l,.string u]) (by simp[results,Tryz.results41,go_sem,dK30,dK31]) rfl ⟨rfl,(store_below (l:=[.string l,.string u]) (i:=0) (by omega) HB2.out)⟩
theorem ascale_raw (x xa xb xc xd l u:ByteArray)(n:Int)(w₀:World)(h0:CV w₀ 58 #[.string x] (.agg #[.string xa,.string xb]))(h1:CV w₀ 59 #[.agg #[.string xa,.string xb],.agg #[.string xc,.string xd]] (.tuple #[.agg #[.string l,.string u],.int .i64 n]))  :
 CV w₀ 42 #[.string x,.agg #[.string xc,.string xd]] (.agg #[.string l,.string u]):=by
 intro w hw
 have C0:=hid (h0.mono hw)
 have C1:=hid (h1.mono hw)
 clear h0 h1 hw
 go_enter Tryz.func42,Tryz.ntmps42
 go_upto_region 1 with fail
 refine wp_boxes w [(#[.string xc,.string xd],26),(#[.string ⟨#[]⟩,.string ⟨#[]⟩],26)] rfl ?_
 rintro W0 ⟨k1,k2,hb⟩
 have HB0:=hid (show Below w.heap.size w W0 from hb)
 have K1:=hid k1
 have K2:=hid k2
 clear k1 k2 hb
 go_wp2_with fail
 refine wp_region_post (fun a0 a' V=>a'=⟨putL [(5,.string x),(6,.agg #[.string xa,.string xb]),(7,.agg #[.string xc,.string xd]),(8,.tuple #[.agg #[.string l,.string u],.int .i64 n]),(9,.agg #[.string l,.string u]),(10,.int .i64 n),(11,.agg #[.string l,.string u])] a0.tmps,a0.defers⟩∧Below w.heap.size w V∧SBk V (w.heap.size+1) #[.string l,.string u] 26) ?_ ?_
 · refine wp_region_tail_d (by kernel_rfl) 7 1 (fun i=>[5,6,7,8,9,10,11].getD i 0) (RelR [Rel.val (.string x),Rel.val (.agg #[.string xa,.string xb]),Rel.val (.agg #[.string xc,.string xd]),Rel.val (.tuple #[.agg #[.string l,.string u],.int .i64 n]),Rel.val (.agg #[.string l,.string u]),Rel.val (.int .i64 n),Rel.val (.agg #[.string l,.string u])]) (fun W=>Below W0.heap.size W0 W) (fun _ _=>True) (by kernel_rfl) (by kernel_rfl) (by kernel_rfl) trivial (Below.refl _ _).drew ?_ ?_
   · intro listed a W i hI hD hrd him
     have HI:=hid hI
     have HD:=hid hD
     have Hr:=hid hrd
     clear hI hrd hD
     have y0:a.tmps[0]? = some (.string x):=HI.out.rest 0 (by decide)
     have y3:a.tmps[3]? = some (.pointer (some ⟨w.heap.size,0,none⟩)):=HI.out.rest 3 (by decide)
     have dK10:=(K1.out.below HI.out.world).cell (i:=0) rfl
     have dK11:=(K1.out.below HI.out.world).cell (i:=1) rfl
     have X0:RV _ listed a 0 5 (.string x):=HI.out.rh
     have X1:RV _ listed a 1 6 (.agg #[.string xa,.string xb]):=HI.out.rh
     have X2:RV _ listed a 2 7 (.agg #[.string xc,.string xd]):=HI.out.rh
     have X3:RV _ listed a 3 8 (.tuple #[.agg #[.string l,.string u],.int .i64 n]):=HI.out.rh
     have X4:RV _ listed a 4 9 (.agg #[.string l,.string u]):=HI.out.rh
     have X5:RV _ listed a 5 10 (.int .i64 n):=HI.out.rh
     match i,him,Hr with
     | 0,_,Hi =>
       refine stepH rfl fun K' hK=>?_
       go_simp
       exact hK.out _ _ ⟨HI.out.pv Hi.out rfl,trivial⟩
     | 1,_,Hi =>
       have x0:=X0.g Hi.out (by kernel_rfl)
       refine stepH rfl fun K' hK=>?_
       go_simp
       with_reducible refine(C0.out _ (HB0.out.trans (HI.out.world.mono HB0.out.size))).mono ?_
       rintro e W' ⟨rfl,hb⟩
       exact hK.out _ _ ⟨HI.out.pc Hi.out hb rfl,trivial⟩
     | 2,_,Hi =>
       refine stepH rfl fun K' hK=>?_
       go_simp
       exact hK.out _ _ ⟨HI.out.pv Hi.out rfl,trivial⟩
     | 3,_,Hi =>
       have x1:=X1.g Hi.out (by kernel_rfl)
       have x2:=X2.g Hi.out (by kernel_rfl)
       refine stepH rfl fun K' hK=>?_
       go_simp
       with_reducible refine(C1.out _ (HB0.out.trans (HI.out.world.mono HB0.out.size))).mono ?_
       rintro e W' ⟨rfl,hb⟩
       exact hK.out _ _ ⟨HI.out.pc Hi.out hb rfl,trivial⟩
     | 4,_,Hi =>
       have x3:=X3.g Hi.out (by kernel_rfl)
       refine stepH rfl fun K' hK=>?_
       go_simp
       exact hK.out _ _ ⟨HI.out.pv Hi.out rfl,trivial⟩
     | 5,_,Hi =>
       have x3:=X3.g Hi.out (by kernel_rfl)
       refine stepH rfl fun K' hK=>?_
       go_simp
       exact hK.out _ _ ⟨HI.out.pv Hi.out rfl,trivial⟩
     | 6,_,Hi =>
       have x4:=X4.g Hi.out (by kernel_rfl)
       have x5:=X5.g Hi.out (by kernel_rfl)
       refine stepH rfl fun K' hK=>?_
       go_simp
       with_reducible refine(aIv l u n _ _ (HB0.out.trans (HI.out.world.mono HB0.out.size))).mono ?_
       rintro e W' ⟨rfl,hb⟩
       exact hK.out _ _ ⟨HI.out.pc Hi.out hb rfl,trivial⟩
     | n+7,h,_=>exact absurd h (by omega)
   · intro listed a W hI hD hall
     have x6:a.tmps[11]? = some (.agg #[.string l,.string u]):=hI.sx hall 6
     have HBW:=hid hI.world
     have HI:=hid hI
     have HA:=hid hall
     clear hI hall
     have K2:=hid (K2.out.below HBW.out)
     have HBX:=hid (HB0.out.trans (HBW.out.mono HB0.out.size))
     have y4:a.tmps[4]? = some (.pointer (some ⟨w.heap.size+1,0,none⟩)):=HI.out.rest 4 (by decide)
     have dK20:=K2.out.cell (i:=0) rfl
     have fK20:=K2.out.frozen (i:=0)
     have dK21:=K2.out.cell (i:=1) rfl
     have fK21:=K2.out.frozen (i:=1)
     refine tail_succ (t:=0) ?_
     refine stepH rfl fun K' hK=>?_
     go_simp
     refine hK.out _ _ ?_
     clear hK
     refine tail_nil ?_
     rw[← storeAll_2]
     exact⟨rfl,(HI.out.finx ⟨HI.out.sx HA.out 0,HI.out.sx HA.out 1,HI.out.sx HA.out 2,HI.out.sx HA.out 3,HI.out.sx HA.out 4,HI.out.sx HA.out 5,x6,trivial⟩ rfl),(store_below (l:=[.string l,.string u]) (i:=0) (by omega) HBX.out),(store_blk_2 K2.out)⟩
 rintro a' W1 ⟨rfl,z0,z1⟩
 have HB1:=hid z0
 have K2:=hid z1
 clear z0 z1
 simp only[putL,List.setIfInBounds_toArray,List.set_cons_zero,List.set_cons_succ]
 go_wp2
 have dK20:=K2.out.cell (i:=0) rfl
 have dK21:=K2.out.cell (i:=1) rfl
 exact bodyPost_ret (v:=.agg #[.string l,.string u]) (by simp[results,Tryz.results42,go_sem,dK20,dK21]) rfl ⟨rfl,HB1.out⟩
end Go.Proofs.YtcihodmmaclihaaGreatDoor
set_option maxRecDepth 100000
set_option maxHeartbeats 20000000
open Go.Lib (hid)
namespace Go.Proofs.YtcihodmmaclihaaGreatDoor
open Go.RowKit Go.Gb
theorem avalid_raw (t:ByteArray)(b:Bool)(w₀:World)(h1:CV w₀ 15 #[.agg #[.string ⟨#[45,49]⟩,.string ⟨#[49]⟩],.string t] (.bool b))  :
 CV w₀ 7 #[.string t] (.bool b):=by
 intro w hw
 have C1:=hid (h1.mono hw)
 clear h1 hw
 go_enter Tryz.func7,Tryz.ntmps7
 have HB0:=hid (Below.refl w.heap.size w)
 go_wp2_with fail
 with_reducible refine(C1.out _ HB0.out).mono ?_
 rintro e W1 ⟨rfl,hb⟩
 have HB1:=hbt HB0 hb
 clear hb
 go_wp2
 exact bodyPost_ret (v:=.bool b) (by simp[results,Tryz.results7,go_sem]) rfl ⟨rfl,HB1.out⟩
theorem ack1_rg0 (g:Nat)(x:ByteArray)(w₀:World)(h1:CV w₀ 31 #[.string x] (.bool true))(hA:CV w₀ 7 #[.string x] (.bool false))  (kKX:SBk w₀ g #[.string x] 22) :
 CV w₀ 34 #[.slice (some ⟨g,0,none⟩) 1 1] (.int .i64 2):=by
 intro w hw
 have C1:=hid (h1.mono hw)
 have CA:=hid (hA.mono hw)
 have KX:=hid (kKX.below hw)
 clear h1 hA kKX hw
 go_enter Tryz.func34,Tryz.ntmps34
 have HB0:=hid (Below.refl w.heap.size w)
 go_wp2
 refine wp_loop_rounds 2 ?_
 rw[rounds_succ]
 have dKX0:=KX.out.cell (i:=0) rfl
 go_wp2_with fail
 with_reducible refine(C1.out _ HB0.out).mono ?_
 rintro e W1 ⟨rfl,hb⟩
 clear dKX0
 have KX:=hid (KX.out.below hb)
 have HB1:=hbt HB0 hb
 clear hb
 go_wp2
 rw[rounds_succ]
 go_wp2
 refine wp_loop_rounds 2 ?_
 rw[rounds_succ]
 have dKX0:=KX.out.cell (i:=0) rfl
 go_wp2_with fail
 with_reducible refine(CA.out _ HB1.out).mono ?_
 rintro e W2 ⟨rfl,hb⟩
 clear dKX0
 have HB2:=hbt HB1 hb
 clear hb
 go_wp2
 exact bodyPost_ret (v:=.int .i64 2) (by simp[results,Tryz.results34,go_sem]) rfl ⟨rfl,HB2.out⟩
theorem ack1_ok (g:Nat)(x:ByteArray)(w₀:World)(h1:CV w₀ 31 #[.string x] (.bool true))(hA:CV w₀ 7 #[.string x] (.bool true))  (kKX:SBk w₀ g #[.string x] 22) :
 CV w₀ 34 #[.slice (some ⟨g,0,none⟩) 1 1] (.int .i64 0):=by
 intro w hw
 have C1:=hid (h1.mono hw)
 have CA:=hid (hA.mono hw)
 have KX:=hid (kKX.below hw)
 clear h1 hA kKX hw
 go_enter Tryz.func34,Tryz.ntmps34
 have HB0:=hid (Below.refl w.heap.size w)
 go_wp2
 refine wp_loop_rounds 2 ?_
 rw[rounds_succ]
 have dKX0:=KX.out.cell (i:=0) rfl
 go_wp2_with fail
 with_reducible refine(C1.out _ HB0.out).mono ?_
 rintro e W1 ⟨rfl,hb⟩
 clear dKX0
 have KX:=hid (KX.out.below hb)
 have HB1:=hbt HB0 hb
 clear hb
 go_wp2
 rw[rounds_succ]
 go_wp2
 refine wp_loop_rounds 2 ?_
 rw[rounds_succ]
 have dKX0:=KX.out.cell (i:=0) rfl
 go_wp2_with fail
 with_reducible refine(CA.out _ HB1.out).mono ?_
 rintro e W2 ⟨rfl,hb⟩
 clear dKX0
 have HB2:=hbt HB1 hb
 clear hb
 go_wp2
 rw[rounds_succ]
 go_wp2
 exact bodyPost_ret (v:=.int .i64 0) (by simp[results,Tryz.results34,go_sem]) rfl ⟨rfl,HB2.out⟩
theorem ack2_rg0 (g:Nat)(x y:ByteArray)(w₀:World)(h1:CV w₀ 31 #[.string x] (.bool true))(h2:CV w₀ 31 #[.string y] (.bool true))(hA:CV w₀ 7 #[.string x] (.bool false))  (kKX:SBk w₀ g #[.string x,.string y] 22) :
 CV w₀ 34 #[.slice (some ⟨g,0,none⟩) 2 2] (.int .i64 2):=by
 intro w hw
 have C1:=hid (h1.mono hw)
 have C2:=hid (h2.mono hw)
 have CA:=hid (hA.mono hw)
 have KX:=hid (kKX.below hw)
 clear h1 h2 hA kKX hw
 go_enter Tryz.func34,Tryz.ntmps34
 have HB0:=hid (Below.refl w.heap.size w)
 go_wp2
 refine wp_loop_rounds 3 ?_
 rw[rounds_succ]
 have dKX0:=KX.out.cell (i:=0) rfl
 go_wp2_with fail
 with_reducible refine(C1.out _ HB0.out).mono ?_
 rintro e W1 ⟨rfl,hb⟩
 clear dKX0
 have KX:=hid (KX.out.below hb)
 have HB1:=hbt HB0 hb
 clear hb
 go_wp2
 rw[rounds_succ]
 have dKX1:=KX.out.cell (i:=1) rfl
 go_wp2_with fail
 with_reducible refine(C2.out _ HB1.out).mono ?_
 rintro e W2 ⟨rfl,hb⟩
 clear dKX1
 have KX:=hid (KX.out.below hb)
 have HB2:=hbt HB1 hb
 clear hb
 go_wp2
 rw[rounds_succ]
 go_wp2
 refine wp_loop_rounds 3 ?_
 rw[rounds_succ]
 have dKX0:=KX.out.cell (i:=0) rfl
 go_wp2_with fail
 with_reducible refine(CA.out _ HB2.out).mono ?_
 rintro e W3 ⟨rfl,hb⟩
 clear dKX0
 have HB3:=hbt HB2 hb
 clear hb
 go_wp2
 exact bodyPost_ret (v:=.int .i64 2) (by simp[results,Tryz.results34,go_sem]) rfl ⟨rfl,HB3.out⟩
theorem ack2_ok (g:Nat)(x y:ByteArray)(w₀:World)(h1:CV w₀ 31 #[.string x] (.bool true))(h2:CV w₀ 31 #[.string y] (.bool true))(hA:CV w₀ 7 #[.string x] (.bool true))(hB:CV w₀ 7 #[.string y] (.bool true))  (kKX:SBk w₀ g #[.string x,.string y] 22) :
 CV w₀ 34 #[.slice (some ⟨g,0,none⟩) 2 2] (.int .i64 0):=by
 intro w hw
 have C1:=hid (h1.mono hw)
 have C2:=hid (h2.mono hw)
 have CA:=hid (hA.mono hw)
 have CB:=hid (hB.mono hw)
 have KX:=hid (kKX.below hw)
 clear h1 h2 hA hB kKX hw
 go_enter Tryz.func34,Tryz.ntmps34
 have HB0:=hid (Below.refl w.heap.size w)
 go_wp2
 refine wp_loop_rounds 3 ?_
 rw[rounds_succ]
 have dKX0:=KX.out.cell (i:=0) rfl
 go_wp2_with fail
 with_reducible refine(C1.out _ HB0.out).mono ?_
 rintro e W1 ⟨rfl,hb⟩
 clear dKX0
 have KX:=hid (KX.out.below hb)
 have HB1:=hbt HB0 hb
 clear hb
 go_wp2
 rw[rounds_succ]
 have dKX1:=KX.out.cell (i:=1) rfl
 go_wp2_with fail
 with_reducible refine(C2.out _ HB1.out).mono ?_
 rintro e W2 ⟨rfl,hb⟩
 clear dKX1
 have KX:=hid (KX.out.below hb)
 have HB2:=hbt HB1 hb
 clear hb
 go_wp2
 rw[rounds_succ]
 go_wp2
 refine wp_loop_rounds 3 ?_
 rw[rounds_succ]
 have dKX0:=KX.out.cell (i:=0) rfl
 go_wp2_with fail
 with_reducible refine(CA.out _ HB2.out).mono ?_
 rintro e W3 ⟨rfl,hb⟩
 clear dKX0
 have KX:=hid (KX.out.below hb)
 have HB3:=hbt HB2 hb
 clear hb
 go_wp2
 rw[rounds_succ]
 have dKX1:=KX.out.cell (i:=1) rfl
 go_wp2_with fail
 with_reducible refine(CB.out _ HB3.out).mono ?_
 rintro e W4 ⟨rfl,hb⟩
 clear dKX1
 have HB4:=hbt HB3 hb
 clear hb
 go_wp2
 rw[rounds_succ]
 go_wp2
 exact bodyPost_ret (v:=.int .i64 0) (by simp[results,Tryz.results34,go_sem]) rfl ⟨rfl,HB4.out⟩
abbrev Ck1 (w:World) (x:ByteArray) (er:Int):Prop:=∀ (g:Nat) (W:World),Below w.heap.size w W→SBk W g #[.string x] 22→CR 34 #[.slice (some ⟨g,0,none⟩) 1 1] W (.int .i64 er)
theorem ck1_mono {w W:World}{x:ByteArray}{er:Int}(h:Ck1 w x er)(hb:Below w.heap.size w W):Ck1 W x er:=fun g X hX=>h g X (hb.trans (hX.mono hb.size))
abbrev Ck2 (w:World) (x y:ByteArray) (er:Int):Prop:=∀ (g:Nat) (W:World),Below w.heap.size w W→SBk W g #[.string x,.string y] 22→CR 34 #[.slice (some ⟨g,0,none⟩) 2 2] W (.int .i64 er)
theorem ck2_mono {w W:World}{x y:ByteArray}{er:Int}(h:Ck2 w x y er)(hb:Below w.heap.size w W):Ck2 W x y er:=fun g X hX=>h g X (hb.trans (hX.mono hb.size))
theorem acos_raw (t q m p z:ByteArray)(w₀:World)(h1:CV w₀ 35 #[.string t,.string t] (.string q))(h2:CV w₀ 37 #[.string ⟨#[49]⟩,.string q] (.string m))(h3:CV w₀ 38 #[.string ⟨#[49]⟩,.string q] (.string p))(h4:CV w₀ 36 #[.string m,.string p] (.string z))(kc:Ck1 w₀ t 0) :
 CV w₀ 18 #[.string t] (.tuple #[.string z,.int .i64 0]):=by
 intro w hw
 have C1:=hid (h1.mono hw)
 have C2:=hid (h2.mono hw)
 have C3:=hid (h3.mono hw)
 have C4:=hid (h4.mono hw)
 have KC:=hid (ck1_mono kc hw)
 clear kc h1 h2 h3 h4 hw
 go_enter Tryz.func18,Tryz.ntmps18
 have HB0:=hid (Below.refl w.heap.size w)
 go_wp2_with fail
 have hb:=below_new w (.cells #[.string t] 22)
 have k1:=SBk.new w #[.string t] 22
 generalize w.alloc (.cells #[.string t] 22)=W1 at *
 have HB1:=hbt HB0 hb
 have K1:=hid k1
 clear k1 hb
 with_reducible refine((KC.out _ _ HB1.out K1.out)).mono ?_
 rintro e W2 ⟨rfl,hb⟩
 have HB2:=hbt HB1 hb
 clear hb
 go_wp2_with fail
 with_reducible refine(C1.out _ HB2.out).mono ?_
 rintro e W3 ⟨rfl,hb⟩
 have HB3:=hbt HB2 hb
 clear hb
 go_wp2_with fail
 with_reducible refine(C2.out _ HB3.out).mono ?_
 rintro e W4 ⟨rfl,hb⟩
 have HB4:=hbt HB3 hb
 clear hb
 go_wp2_with fail
 with_reducible refine(C3.out _ HB4.out).mono ?_
 rintro e W5 ⟨rfl,hb⟩
 have HB5:=hbt HB4 hb
 clear hb
 go_wp2_with fail
 with_reducible refine(C4.out _ HB5.out).mono ?_
 rintro e W6 ⟨rfl,hb⟩
 have HB6:=hbt HB5 hb
 clear hb
 go_wp2
 exact bodyPost_ret (v:=.tuple #[.string z,.int .i64 0]) (by simp[results,Tryz.results18,go_sem]) rfl ⟨rfl,HB6.out⟩
theorem asin_raw (t d q p z:ByteArray)(w₀:World)(h1:CV w₀ 35 #[.string ⟨#[50]⟩,.string t] (.string d))(h2:CV w₀ 35 #[.string t,.string t] (.string q))(h3:CV w₀ 38 #[.string ⟨#[49]⟩,.string q] (.string p))(h4:CV w₀ 36 #[.string d,.string p] (.string z))(kc:Ck1 w₀ t 0) :
 CV w₀ 19 #[.string t] (.tuple #[.string z,.int .i64 0]):=by
 intro w hw
 have C1:=hid (h1.mono hw)
 have C2:=hid (h2.mono hw)
 have C3:=hid (h3.mono hw)
 have C4:=hid (h4.mono hw)
 have KC:=hid (ck1_mono kc hw)
 clear kc h1 h2 h3 h4 hw
 go_enter Tryz.func19,Tryz.ntmps19
 have HB0:=hid (Below.refl w.heap.size w)
 go_wp2_with fail
 have hb:=below_new w (.cells #[.string t] 22)
 have k1:=SBk.new w #[.string t] 22
 generalize w.alloc (.cells #[.string t] 22)=W1 at *
 have HB1:=hbt HB0 hb
 have K1:=hid k1
 clear k1 hb
 with_reducible refine((KC.out _ _ HB1.out K1.out)).mono ?_
 rintro e W2 ⟨rfl,hb⟩
 have HB2:=hbt HB1 hb
 clear hb
 go_wp2_with fail
 with_reducible refine(C1.out _ HB2.out).mono ?_
 rintro e W3 ⟨rfl,hb⟩
 have HB3:=hbt HB2 hb
 clear hb
 go_wp2_with fail
 with_reducible refine(C2.out _ HB3.out).mono ?_
 rintro e W4 ⟨rfl,hb⟩
 have HB4:=hbt HB3 hb
 clear hb
 go_wp2_with fail
 with_reducible refine(C3.out _ HB4.out).mono ?_
 rintro e W5 ⟨rfl,hb⟩
 have HB5:=hbt HB4 hb
 clear hb
 go_wp2_with fail
 with_reducible refine(C4.out _ HB5.out).mono ?_
 rintro e W6 ⟨rfl,hb⟩
 have HB6:=hbt HB5 hb
 clear hb
 go_wp2
 exact bodyPost_ret (v:=.tuple #[.string z,.int .i64 0]) (by simp[results,Tryz.results19,go_sem]) rfl ⟨rfl,HB6.out⟩
theorem asum_zero (s t a1 p m:ByteArray)(w₀:World)(h1:CV w₀ 38 #[.string s,.string t] (.string a1))(h2:CV w₀ 35 #[.string s,.string t] (.string p))(h3:CV w₀ 37 #[.string ⟨#[49]⟩,.string p] (.string m))(h4:CV w₀ 39 #[.string a1,.string m] (.tuple #[.string ⟨#[]⟩,.int .i64 16]))(kc:Ck2 w₀ s t 0) :
 CV w₀ 20 #[.string s,.string t] (.tuple #[.string ⟨#[]⟩,.int .i64 15]):=by
 intro w hw
 have C1:=hid (h1.mono hw)
 have C2:=hid (h2.mono hw)
 have C3:=hid (h3.mono hw)
 have C4:=hid (h4.mono hw)
 have KC:=hid (ck2_mono kc hw)
 clear kc h1 h2 h3 h4 hw
 go_enter Tryz.func20,Tryz.ntmps20
 have HB0:=hid (Below.refl w.heap.size w)
 go_wp2_with fail
 have hb:=below_new w (.cells #[.string s,.string t] 22)
 have k1:=SBk.new w #[.string s,.string t] 22
 generalize w.alloc (.cells #[.string s,.string t] 22)=W1 at *
 have HB1:=hbt HB0 hb
 have K1:=hid k1
 clear k1 hb
 with_reducible refine((KC.out _ _ HB1.out K1.out)).mono ?_
 rintro e W2 ⟨rfl,hb⟩
 have HB2:=hbt HB1 hb
 clear hb
 go_wp2_with fail
 with_reducible refine(C1.out _ HB2.out).mono ?_
 rintro e W3 ⟨rfl,hb⟩
 have HB3:=hbt HB2 hb
 clear hb
 go_wp2_with fail
 with_reducible refine(C2.out _ HB3.out).mono ?_
 rintro e W4 ⟨rfl,hb⟩
 have HB4:=hbt HB3 hb
 clear hb
 go_wp2_with fail
 with_reducible refine(C3.out _ HB4.out).mono ?_
 rintro e W5 ⟨rfl,hb⟩
 have HB5:=hbt HB4 hb
 clear hb
 go_wp2_with fail
 with_reducible refine(C4.out _ HB5.out).mono ?_
 rintro e W6 ⟨rfl,hb⟩
 have HB6:=hbt HB5 hb
 clear hb
 go_wp2
 exact bodyPost_ret (v:=.tuple #[.string ⟨#[]⟩,.int .i64 15]) (by simp[results,Tryz.results20,go_sem]) rfl ⟨rfl,HB6.out⟩
theorem asum_limit (s t a1 p m z:ByteArray)(w₀:World)(h1:CV w₀ 38 #[.string s,.string t] (.string a1))(h2:CV w₀ 35 #[.string s,.string t] (.string p))(h3:CV w₀ 37 #[.string ⟨#[49]⟩,.string p] (.string m))(h4:CV w₀ 39 #[.string a1,.string m] (.tuple #[.string z,.int .i64 0]))(h5:CV w₀ 7 #[.string z] (.bool false))(kc:Ck2 w₀ s t 0) :
 CV w₀ 20 #[.string s,.string t] (.tuple #[.string ⟨#[]⟩,.int .i64 15]):=by
 intro w hw
 have C1:=hid (h1.mono hw)
 have C2:=hid (h2.mono hw)
 have C3:=hid (h3.mono hw)
 have C4:=hid (h4.mono hw)
 have C5:=hid (h5.mono hw)
 have KC:=hid (ck2_mono kc hw)
 clear kc h1 h2 h3 h4 h5 hw
 go_enter Tryz.func20,Tryz.ntmps20
 have HB0:=hid (Below.refl w.heap.size w)
 go_wp2_with fail
 have hb:=below_new w (.cells #[.string s,.string t] 22)
 have k1:=SBk.new w #[.string s,.string t] 22
 generalize w.alloc (.cells #[.string s,.string t] 22)=W1 at *
 have HB1:=hbt HB0 hb
 have K1:=hid k1
 clear k1 hb
 with_reducible refine((KC.out _ _ HB1.out K1.out)).mono ?_
 rintro e W2 ⟨rfl,hb⟩
 have HB2:=hbt HB1 hb
 clear hb
 go_wp2_with fail
 with_reducible refine(C1.out _ HB2.out).mono ?_
 rintro e W3 ⟨rfl,hb⟩
 have HB3:=hbt HB2 hb
 clear hb
 go_wp2_with fail
 with_reducible refine(C2.out _ HB3.out).mono ?_
 rintro e W4 ⟨rfl,hb⟩
 have HB4:=hbt HB3 hb
 clear hb
 go_wp2_with fail
 with_reducible refine(C3.out _ HB4.out).mono ?_
 rintro e W5 ⟨rfl,hb⟩
 have HB5:=hbt HB4 hb
 clear hb
 go_wp2_with fail
 with_reducible refine(C4.out _ HB5.out).mono ?_
 rintro e W6 ⟨rfl,hb⟩
 have HB6:=hbt HB5 hb
 clear hb
 go_wp2_with fail
 with_reducible refine(C5.out _ HB6.out).mono ?_
 rintro e W7 ⟨rfl,hb⟩
 have HB7:=hbt HB6 hb
 clear hb
 go_wp2
 exact bodyPost_ret (v:=.tuple #[.string ⟨#[]⟩,.int .i64 15]) (by simp[results,Tryz.results20,go_sem]) rfl ⟨rfl,HB7.out⟩
theorem asum_raw (s t a1 p m z:ByteArray)(w₀:World)(h1:CV w₀ 38 #[.string s,.string t] (.string a1))(h2:CV w₀ 35 #[.string s,.string t] (.string p))(h3:CV w₀ 37 #[.string ⟨#[49]⟩,.string p] (.string m))(h4:CV w₀ 39 #[.string a1,.string m] (.tuple #[.string z,.int .i64 0]))(h5:CV w₀ 7 #[.string z] (.bool true))(kc:Ck2 w₀ s t 0) :
 CV w₀ 20 #[.string s,.string t] (.tuple #[.string z,.int .i64 0]):=by
 intro w hw
 have C1:=hid (h1.mono hw)
 have C2:=hid (h2.mono hw)
 have C3:=hid (h3.mono hw)
 have C4:=hid (h4.mono hw)
 have C5:=hid (h5.mono hw)
 have KC:=hid (ck2_mono kc hw)
 clear kc h1 h2 h3 h4 h5 hw
 go_enter Tryz.func20,Tryz.ntmps20
 have HB0:=hid (Below.refl w.heap.size w)
 go_wp2_with fail
 have hb:=below_new w (.cells #[.string s,.string t] 22)
 have k1:=SBk.new w #[.string s,.string t] 22
 generalize w.alloc (.cells #[.string s,.string t] 22)=W1 at *
 have HB1:=hbt HB0 hb
 have K1:=hid k1
 clear k1 hb
 with_reducible refine((KC.out _ _ HB1.out K1.out)).mono ?_
 rintro e W2 ⟨rfl,hb⟩
 have HB2:=hbt HB1 hb
 clear hb
 go_wp2_with fail
 with_reducible refine(C1.out _ HB2.out).mono ?_
 rintro e W3 ⟨rfl,hb⟩
 have HB3:=hbt HB2 hb
 clear hb
 go_wp2_with fail
 with_reducible refine(C2.out _ HB3.out).mono ?_
 rintro e W4 ⟨rfl,hb⟩
 have HB4:=hbt HB3 hb
 clear hb
 go_wp2_with fail
 with_reducible refine(C3.out _ HB4.out).mono ?_
 rintro e W5 ⟨rfl,hb⟩
 have HB5:=hbt HB4 hb
 clear hb
 go_wp2_with fail
 with_reducible refine(C4.out _ HB5.out).mono ?_
 rintro e W6 ⟨rfl,hb⟩
 have HB6:=hbt HB5 hb
 clear hb
 go_wp2_with fail
 with_reducible refine(C5.out _ HB6.out).mono ?_
 rintro e W7 ⟨rfl,hb⟩
 have HB7:=hbt HB6 hb
 clear hb
 go_wp2
 exact bodyPost_ret (v:=.tuple #[.string z,.int .i64 0]) (by simp[results,Tryz.results20,go_sem]) rfl ⟨rfl,HB7.out⟩
end Go.Proofs.YtcihodmmaclihaaGreatDoor
