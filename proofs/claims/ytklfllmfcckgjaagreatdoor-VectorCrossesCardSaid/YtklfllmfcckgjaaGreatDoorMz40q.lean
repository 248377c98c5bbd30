/- Texts of this proof, one behind the other. -/
import Derived.Test.YtklfllmfcckgjaaGreatDoorQj
set_option maxRecDepth 100000
set_option maxHeartbeats 20000000
open Go.Lib (hid)
namespace Go.Proofs.YtklfllmfcckgjaaGreatDoor
open Go.RowKit Go.Gb
abbrev CV (w:World) (f:Nat) (args:Array Value) (v:Value):Prop:=∀ W,Below w.heap.size w W→Calls Tryz.prog f args W fun e w'=>e=.returned v∧Below W.heap.size W w'
theorem CV.mono {w W:World}{f:Nat}{args:Array Value}{v:Value}(h:CV w f args v)(hb:Below w.heap.size w W):CV W f args v:=fun X hX=>h X (hb.trans (hX.mono hb.size))
theorem CV.at {w:World}{f:Nat}{args:Array Value}{v:Value}(h:CV w f args v):Calls Tryz.prog f args w fun e w'=>e=.returned v∧Below w.heap.size w w':=h w (Below.refl _ _)
theorem kRat (x:ByteArray)(n:Int)(w₀:World)   :
 CV w₀ 66 #[.string x,.int .i64 n] (.string x):=by
 intro w hw
 clear hw
 go_enter Tryz.func66,Tryz.ntmps66
 have HB0:=hid (Below.refl w.heap.size w)
 go_wp2
 exact bodyPost_ret (v:=.string x) (by simp[results,Tryz.results66,go_sem]) rfl ⟨rfl,HB0.out⟩
theorem kInt (x n:Int)(w₀:World)   :
 CV w₀ 67 #[.int .i64 x,.int .i64 n] (.int .i64 x):=by
 intro w hw
 clear hw
 go_enter Tryz.func67,Tryz.ntmps67
 have HB0:=hid (Below.refl w.heap.size w)
 go_wp2
 exact bodyPost_ret (v:=.int .i64 x) (by simp[results,Tryz.results67,go_sem]) rfl ⟨rfl,HB0.out⟩
theorem vplus_raw (x y z:ByteArray)(n:Int)(w₀:World)(h1:CV w₀ 18 #[.string x,.string y] (.tuple #[.string z,.int .i64 n]))  :
 CV w₀ 38 #[.string x,.string y] (.string z):=by
 intro w hw
 have C1:=hid (h1.mono hw)
 clear h1 hw
 go_enter Tryz.func38,Tryz.ntmps38
 have HB0:=hid (Below.refl w.heap.size w)
 go_wp2_with fail
 with_reducible refine(C1.out _ HB0.out).mono ?_
 rintro e W1 ⟨rfl,hb⟩
 have HB1:=hbt HB0 hb
 clear hb
 go_wp2_with fail
 with_reducible refine(kRat z n _ _ HB1.out).mono ?_
 rintro e W2 ⟨rfl,hb⟩
 have HB2:=hbt HB1 hb
 clear hb
 go_wp2
 exact bodyPost_ret (v:=.string z) (by simp[results,Tryz.results38,go_sem]) rfl ⟨rfl,HB2.out⟩
theorem vminus_raw (x y z:ByteArray)(n:Int)(w₀:World)(h1:CV w₀ 14 #[.string x,.string y] (.tuple #[.string z,.int .i64 n]))  :
 CV w₀ 39 #[.string x,.string y] (.string z):=by
 intro w hw
 have C1:=hid (h1.mono hw)
 clear h1 hw
 go_enter Tryz.func39,Tryz.ntmps39
 have HB0:=hid (Below.refl w.heap.size w)
 go_wp2_with fail
 with_reducible refine(C1.out _ HB0.out).mono ?_
 rintro e W1 ⟨rfl,hb⟩
 have HB1:=hbt HB0 hb
 clear hb
 go_wp2_with fail
 with_reducible refine(kRat z n _ _ HB1.out).mono ?_
 rintro e W2 ⟨rfl,hb⟩
 have HB2:=hbt HB1 hb
 clear hb
 go_wp2
 exact bodyPost_ret (v:=.string z) (by simp[results,Tryz.results39,go_sem]) rfl ⟨rfl,HB2.out⟩
theorem vtimes_raw (x y z:ByteArray)(n:Int)(w₀:World)(h1:CV w₀ 13 #[.string x,.string y] (.tuple #[.string z,.int .i64 n]))  :
 CV w₀ 50 #[.string x,.string y] (.string z):=by
 intro w hw
 have C1:=hid (h1.mono hw)
 clear h1 hw
 go_enter Tryz.func50,Tryz.ntmps50
 have HB0:=hid (Below.refl w.heap.size w)
 go_wp2_with fail
 with_reducible refine(C1.out _ HB0.out).mono ?_
 rintro e W1 ⟨rfl,hb⟩
 have HB1:=hbt HB0 hb
 clear hb
 go_wp2_with fail
 with_reducible refine(kRat z n _ _ HB1.out).mono ?_
 rintro e W2 ⟨rfl,hb⟩
 have HB2:=hbt HB1 hb
 clear hb
 go_wp2
 exact bodyPost_ret (v:=.string z) (by simp[results,Tryz.results50,go_sem]) rfl ⟨rfl,HB2.out⟩
theorem vover_raw (x y z:ByteArray)(n:Int)(w₀:World)(h1:CV w₀ 71 #[.string x,.string y] (.tuple #[.string z,.int .i64 n]))  :
 CV w₀ 46 #[.string x,.string y] (.string z):=by
 intro w hw
 have C1:=hid (h1.mono hw)
 clear h1 hw
 go_enter Tryz.func46,Tryz.ntmps46
 have HB0:=hid (Below.refl w.heap.size w)
 go_wp2_with fail
 with_reducible refine(C1.out _ HB0.out).mono ?_
 rintro e W1 ⟨rfl,hb⟩
 have HB1:=hbt HB0 hb
 clear hb
 go_wp2_with fail
 with_reducible refine(kRat z n _ _ HB1.out).mono ?_
 rintro e W2 ⟨rfl,hb⟩
 have HB2:=hbt HB1 hb
 clear hb
 go_wp2
 exact bodyPost_ret (v:=.string z) (by simp[results,Tryz.results46,go_sem]) rfl ⟨rfl,HB2.out⟩
theorem vorder_raw (x y:ByteArray)(c n:Int)(w₀:World)(h1:CV w₀ 22 #[.string x,.string y] (.tuple #[.int .i64 c,.int .i64 n]))  :
 CV w₀ 42 #[.string x,.string y] (.int .i64 c):=by
 intro w hw
 have C1:=hid (h1.mono hw)
 clear h1 hw
 go_enter Tryz.func42,Tryz.ntmps42
 have HB0:=hid (Below.refl w.heap.size w)
 go_wp2_with fail
 with_reducible refine(C1.out _ HB0.out).mono ?_
 rintro e W1 ⟨rfl,hb⟩
 have HB1:=hbt HB0 hb
 clear hb
 go_wp2_with fail
 with_reducible refine(kInt c n _ _ HB1.out).mono ?_
 rintro e W2 ⟨rfl,hb⟩
 have HB2:=hbt HB1 hb
 clear hb
 go_wp2
 exact bodyPost_ret (v:=.int .i64 c) (by simp[results,Tryz.results42,go_sem]) rfl ⟨rfl,HB2.out⟩
end Go.Proofs.YtklfllmfcckgjaaGreatDoor
set_option maxRecDepth 100000
set_option maxHeartbeats 20000000
open Go.Lib (hid)
namespace Go.Proofs.YtklfllmfcckgjaaGreatDoor
open Go.RowKit Go.Gb
theorem ne_nil {x:ByteArray}(h:x≠⟨#[]⟩):(x.toList==[])=false:=by
 rw[toList_data,beq_eq_false_iff_ne]
 intro e
 apply h
 cases x with
 | mk d=>exact congrArg ByteArray.mk (Array.ext' (by simpa using e))
theorem spatial_raw (x y z:ByteArray)(w₀:World)   :
 CV w₀ 49 #[.agg #[.string x,.string y,.string z]] (.agg #[.string x,.string y,.string z]):=by
 intro w hw
 clear hw
 go_enter Tryz.func49,Tryz.ntmps49
 go_upto_region 1 with fail
 refine wp_boxes w [(#[.string x,.string y,.string z],81),(#[.string ⟨#[]⟩,.string ⟨#[]⟩,.string ⟨#[]⟩],59)] rfl ?_
 rintro W0 ⟨k1,k2,hb⟩
 have HB0:=hid (show Below w.heap.size w W0 from hb)
 have K1:=hid k1
 have K2:=hid k2
 clear k1 k2 hb
 have dK10:=K1.out.cell (i:=0) rfl
 have dK11:=K1.out.cell (i:=1) rfl
 have dK12:=K1.out.cell (i:=2) rfl
 have dK20:=K2.out.cell (i:=0) rfl
 have dK21:=K2.out.cell (i:=1) rfl
 have dK22:=K2.out.cell (i:=2) rfl
 have fK20:=K2.out.frozen (i:=0)
 have fK21:=K2.out.frozen (i:=1)
 have fK22:=K2.out.frozen (i:=2)
 go_wp2
 exact bodyPost_ret (v:=.agg #[.string x,.string y,.string z]) (by simp[results,Tryz.results49,go_sem,dK20,dK21,dK22]) rfl ⟨rfl,(store_below (l:=[.string x,.string y,.string z]) (i:=0) (by omega) HB0.out)⟩
theorem vread (x y z:ByteArray)(w₀:World)   :
 CV w₀ 29 #[.agg #[.string x,.string y,.string z]] (.agg #[.string x,.string y,.string z]):=by
 intro w hw
 clear hw
 go_enter Tryz.func29,Tryz.ntmps29
 go_upto_region 1 with fail
 refine wp_boxes w [(#[.string x,.string y,.string z],24),(#[.string ⟨#[]⟩,.string ⟨#[]⟩,.string ⟨#[]⟩],59)] rfl ?_
 rintro W0 ⟨k1,k2,hb⟩
 have HB0:=hid (show Below w.heap.size w W0 from hb)
 have K1:=hid k1
 have K2:=hid k2
 clear k1 k2 hb
 have dK10:=K1.out.cell (i:=0) rfl
 have dK11:=K1.out.cell (i:=1) rfl
 have dK12:=K1.out.cell (i:=2) rfl
 go_wp2_with fail
 with_reducible refine(spatial_raw x y z _ _ HB0.out).mono ?_
 rintro e W1 ⟨rfl,hb⟩
 clear dK10 dK11 dK12
 have K2:=hid (K2.out.below hb)
 have HB1:=hbt HB0 hb
 clear hb
 have dK20:=K2.out.cell (i:=0) rfl
 have dK21:=K2.out.cell (i:=1) rfl
 have dK22:=K2.out.cell (i:=2) rfl
 have fK20:=K2.out.frozen (i:=0)
 have fK21:=K2.out.frozen (i:=1)
 have fK22:=K2.out.frozen (i:=2)
 go_wp2
 exact bodyPost_ret (v:=.agg #[.string x,.string y,.string z]) (by simp[results,Tryz.results29,go_sem,dK20,dK21,dK22]) rfl ⟨rfl,(store_below (l:=[.string x,.string y,.string z]) (i:=0) (by omega) HB1.out)⟩
theorem vzero  (w₀:World)   :
 CV w₀ 40 #[] (.agg #[.string ⟨#[48]⟩,.string ⟨#[48]⟩,.string ⟨#[48]⟩]):=by
 intro w hw
 clear hw
 go_enter Tryz.func40,Tryz.ntmps40
 go_upto_region 1 with fail
 refine wp_boxes w [(#[.string ⟨#[]⟩,.string ⟨#[]⟩,.string ⟨#[]⟩],59)] rfl ?_
 rintro W0 ⟨k1,hb⟩
 have HB0:=hid (show Below w.heap.size w W0 from hb)
 have K1:=hid k1
 clear k1 hb
 have dK10:=K1.out.cell (i:=0) rfl
 have dK11:=K1.out.cell (i:=1) rfl
 have dK12:=K1.out.cell (i:=2) rfl
 have fK10:=K1.out.frozen (i:=0)
 have fK11:=K1.out.frozen (i:=1)
 have fK12:=K1.out.frozen (i:=2)
 go_wp2
 exact bodyPost_ret (v:=.agg #[.string ⟨#[48]⟩,.string ⟨#[48]⟩,.string ⟨#[48]⟩]) (by simp[results,Tryz.results40,go_sem,dK10,dK11,dK12]) rfl ⟨rfl,(store_below (l:=[.string ⟨#[48]⟩,.string ⟨#[48]⟩,.string ⟨#[48]⟩]) (i:=0) (by omega) HB0.out)⟩
theorem cix0 (x y z:ByteArray)(W:World):(Instr.index 59 (.agg #[.string x,.string y,.string z]) (.int .i64 0)).run Tryz.prog W=.ok (.string x) W:=by kernel_rfl
theorem cix1 (x y z:ByteArray)(W:World):(Instr.index 59 (.agg #[.string x,.string y,.string z]) (.int .i64 1)).run Tryz.prog W=.ok (.string y) W:=by kernel_rfl
theorem cix2 (x y z:ByteArray)(W:World):(Instr.index 59 (.agg #[.string x,.string y,.string z]) (.int .i64 2)).run Tryz.prog W=.ok (.string z) W:=by kernel_rfl
theorem vchk_yes (x y z:ByteArray)(w₀:World)  (hx:x≠⟨#[]⟩)(hy:y≠⟨#[]⟩)(hz:z≠⟨#[]⟩) :
 CV w₀ 31 #[.agg #[.string x,.string y,.string z]] (.tuple #[.agg #[.string x,.string y,.string z],.int .i64 0]):=by
 intro w hw
 have i0:=cix0 x y z
 have i1:=cix1 x y z
 have i2:=cix2 x y z
 have kx:=ne_nil hx
 clear hx
 have ky:=ne_nil hy
 clear hy
 have kz:=ne_nil hz
 clear hz hw
 go_enter Tryz.func31,Tryz.ntmps31
 go_upto_region 1 with fail
 refine wp_boxes w [(#[.string x,.string y,.string z],59),(#[.string ⟨#[]⟩,.string ⟨#[]⟩,.string ⟨#[]⟩],24)] rfl ?_
 rintro W0 ⟨k1,k2,hb⟩
 have HB0:=hid (show Below w.heap.size w W0 from hb)
 have K1:=hid k1
 have K2:=hid k2
 clear k1 k2 hb
 have dK10:=K1.out.cell (i:=0) rfl
 have dK11:=K1.out.cell (i:=1) rfl
 have dK12:=K1.out.cell (i:=2) rfl
 go_wp2
 clear dK10 dK11 dK12
 refine wp_loop_rounds 4 ?_
 rw[rounds_succ]
 go_wp2
 rw[rounds_succ]
 go_wp2
 rw[rounds_succ]
 go_wp2
 rw[rounds_succ]
 have dK10:=K1.out.cell (i:=0) rfl
 have dK11:=K1.out.cell (i:=1) rfl
 have dK12:=K1.out.cell (i:=2) rfl
 have dK20:=K2.out.cell (i:=0) rfl
 have dK21:=K2.out.cell (i:=1) rfl
 have dK22:=K2.out.cell (i:=2) rfl
 have fK20:=K2.out.frozen (i:=0)
 have fK21:=K2.out.frozen (i:=1)
 have fK22:=K2.out.frozen (i:=2)
 go_wp2
 exact bodyPost_ret (v:=.tuple #[.agg #[.string x,.string y,.string z],.int .i64 0]) (by simp[results,Tryz.results31,go_sem,dK20,dK21,dK22]) rfl ⟨rfl,(store_below (l:=[.string x,.string y,.string z]) (i:=0) (by omega) HB0.out)⟩
theorem nchk_yes (x:ByteArray)(w₀:World)  (hx:x≠⟨#[]⟩) :
 CV w₀ 33 #[.string x] (.tuple #[.string x,.int .i64 0]):=by
 intro w hw
 have kx:=ne_nil hx
 clear hx hw
 go_enter Tryz.func33,Tryz.ntmps33
 have HB0:=hid (Below.refl w.heap.size w)
 go_wp2
 exact bodyPost_ret (v:=.tuple #[.string x,.int .i64 0]) (by simp[results,Tryz.results33,go_sem]) rfl ⟨rfl,HB0.out⟩
theorem nchk_no  (w₀:World)   :
 CV w₀ 33 #[.string ⟨#[]⟩] (.tuple #[.string ⟨#[]⟩,.int .i64 1]):=by
 intro w hw
 clear hw
 go_enter Tryz.func33,Tryz.ntmps33
 have HB0:=hid (Below.refl w.heap.size w)
 go_wp2
 exact bodyPost_ret (v:=.tuple #[.string ⟨#[]⟩,.int .i64 1]) (by simp[results,Tryz.results33,go_sem]) rfl ⟨rfl,HB0.out⟩
end Go.Proofs.YtklfllmfcckgjaaGreatDoor
namespace Go.Gb
open Go Go.RowKit
theorem store_blk_3 {w:World}{g:Nat}{T:TypeId}{x0 x1 x2 a b c:Value}(h:SBk w g #[x0,x1,x2] T):SBk (storeAll w g 0 [a,b,c]) g #[a,b,c] T:=by
 have:=store_blk [a,b,c] 0 h
 simpa [setAll] using this
theorem storeAll_3 (w:World)(g:Nat)(a b c:Value):storeAll w g 0 [a,b,c]=((w.setCell ⟨g,0,none⟩ a).setCell ⟨g,1,none⟩ b).setCell ⟨g,2,none⟩ c:=rfl
theorem store_blk_4 {w:World}{g:Nat}{T:TypeId}{x0 x1 x2 x3 a b c d:Value}(h:SBk w g #[x0,x1,x2,x3] T):SBk (storeAll w g 0 [a,b,c,d]) g #[a,b,c,d] T:=by
 have:=store_blk [a,b,c,d] 0 h
 simpa [setAll] using this
theorem storeAll_4 (w:World)(g:Nat)(a b c d:Value):storeAll w g 0 [a,b,c,d]=(((w.setCell ⟨g,0,none⟩ a).setCell ⟨g,1,none⟩ b).setCell ⟨g,2,none⟩ c).setCell ⟨g,3,none⟩ d:=rfl
theorem below_new (W:World)(o:Obj):Below W.heap.size W (W.alloc o):=(Below.refl W.heap.size W).alloc (Nat.le_refl _) o
theorem putL_more (s:Nat)(v:Value):∀ (L:List (Nat × Value)) (t:Array Value),putL (L++[(s,v)]) t=(putL L t).setIfInBounds s v
 | [],_=>rfl
 | p :: L,t=>putL_more s v L (t.setIfInBounds p.1 p.2)
theorem put_more {a:Act}{L L':List (Nat × Value)}{t:Array Value}{b:Act}{s:Nat}{v:Value}(h:a=⟨putL L t,b.defers⟩)(hL:L++[(s,v)]=L'):(⟨a.tmps.setIfInBounds s v,a.defers⟩:Act)=⟨putL L' t,b.defers⟩:=by
 subst hL
 rw[putL_more,h]
end Go.Gb
