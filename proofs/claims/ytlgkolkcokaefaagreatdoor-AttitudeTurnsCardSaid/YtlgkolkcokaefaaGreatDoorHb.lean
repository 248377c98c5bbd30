/- texts -/
import Derived.Test.YtlgkolkcokaefaaGreatDoorMz19q
set_option maxRecDepth 100000
set_option maxHeartbeats 20000000
open Go.Lib (hid)
namespace Go.Proofs.YtlgkolkcokaefaaGreatDoor
open Go.RowKit Go.Gb
theorem xP (g:Nat)(ka kb kc x y z l m n s r:ByteArray)(w₀:World)(h1:CV w₀ 58 #[.string ka,.string x] (.string l))(h2:CV w₀ 58 #[.string kb,.string y] (.string m))(h3:CV w₀ 64 #[.string l,.string m] (.string s))(h4:CV w₀ 58 #[.string kc,.string z] (.string n))(h5:CV w₀ 64 #[.string s,.string n] (.string r))  (kKX:SBk w₀ g #[.string x,.string y,.string z] 65) :
 CV w₀ 63 #[.agg #[.string ka,.string kb,.string kc],.pointer (some ⟨g,0,none⟩)] (.string r):=by
 intro w hw;obtain ⟨C1,C2,C3,C4,C5,KX⟩:=bL (h1.mono hw) (h2.mono hw) (h3.mono hw) (h4.mono hw) (h5.mono hw) (kKX.below hw);clear h1 h2 h3 h4 h5 kKX hw;go_enter Tryz.func63,Tryz.ntmps63
 go_upto_region 1 with fail
 refine au w [(#[.string ka,.string kb,.string kc],65)] rfl ?_;rintro W0 ⟨k1,hb⟩;have HB0:=hid (show Below w.heap.size w W0 from hb);have KX:=hid (KX.out.below HB0.out);have K1:=hid k1;clear k1 hb;go_wp2_with fail
 refine aC (fun a0 a' V=>a'=⟨putL [(4,.pointer (some ⟨w.heap.size,0,none⟩)),(5,.string ka),(6,.pointer (some ⟨g,0,none⟩)),(7,.string x),(8,.string l),(9,.pointer (some ⟨w.heap.size,1,none⟩)),(10,.string kb),(11,.pointer (some ⟨g,1,none⟩)),(12,.string y),(13,.string m),(14,.string s),(15,.pointer (some ⟨w.heap.size,2,none⟩)),(16,.string kc),(17,.pointer (some ⟨g,2,none⟩)),(18,.string z),(19,.string n),(20,.string r),(3,.string r)] a0.tmps,a0.defers⟩∧Below w.heap.size w V) ?_ ?_
 · refine ay (by kernel_rfl) 18 0 (fun i=>[4,5,6,7,8,9,10,11,12,13,14,15,16,17,18,19,20,3].getD i 0) (RelR [Rel.val (.pointer (some ⟨w.heap.size,0,none⟩)),Rel.val (.string ka),Rel.val (.pointer (some ⟨g,0,none⟩)),Rel.val (.string x),Rel.val (.string l),Rel.val (.pointer (some ⟨w.heap.size,1,none⟩)),Rel.val (.string kb),Rel.val (.pointer (some ⟨g,1,none⟩)),Rel.val (.string y),Rel.val (.string m),Rel.val (.string s),Rel.val (.pointer (some ⟨w.heap.size,2,none⟩)),Rel.val (.string kc),Rel.val (.pointer (some ⟨g,2,none⟩)),Rel.val (.string z),Rel.val (.string n),Rel.val (.string r),Rel.val (.string r)]) (fun W=>Below W0.heap.size W0 W) (fun _ _=>True) (by kernel_rfl) (by kernel_rfl) (by kernel_rfl) trivial (Below.refl _ _).drew ?_ ?_
   · intro aa a W i hI hD hrd him
     obtain ⟨HI,HD,Hr⟩:=ah hI hD hrd;clear hI hrd hD;have y2:a.tmps[2]? = some (.pointer (some ⟨w.heap.size,0,none⟩)):=HI.out.rest 2 (by decide);have y1:a.tmps[1]? = some (.pointer (some ⟨g,0,none⟩)):=HI.out.rest 1 (by decide);have dK10:=(K1.out.below HI.out.world).cell (i:=0) rfl;have dKX0:=(KX.out.below HI.out.world).cell (i:=0) rfl;have dK11:=(K1.out.below HI.out.world).cell (i:=1) rfl;have dKX1:=(KX.out.below HI.out.world).cell (i:=1) rfl;have dK12:=(K1.out.below HI.out.world).cell (i:=2) rfl;have dKX2:=(KX.out.below HI.out.world).cell (i:=2) rfl;have X0:RV _ aa a 0 4 (.pointer (some ⟨w.heap.size,0,none⟩)):=HI.out.rh;have X2:RV _ aa a 2 6 (.pointer (some ⟨g,0,none⟩)):=HI.out.rh;have X1:RV _ aa a 1 5 (.string ka):=HI.out.rh;have X3:RV _ aa a 3 7 (.string x):=HI.out.rh;have X5:RV _ aa a 5 9 (.pointer (some ⟨w.heap.size,1,none⟩)):=HI.out.rh;have X7:RV _ aa a 7 11 (.pointer (some ⟨g,1,none⟩)):=HI.out.rh;have X6:RV _ aa a 6 10 (.string kb):=HI.out.rh;have X8:RV _ aa a 8 12 (.string y):=HI.out.rh;have X4:RV _ aa a 4 8 (.string l):=HI.out.rh;have X9:RV _ aa a 9 13 (.string m):=HI.out.rh;have X11:RV _ aa a 11 15 (.pointer (some ⟨w.heap.size,2,none⟩)):=HI.out.rh;have X13:RV _ aa a 13 17 (.pointer (some ⟨g,2,none⟩)):=HI.out.rh;have X12:RV _ aa a 12 16 (.string kc):=HI.out.rh;have X14:RV _ aa a 14 18 (.string z):=HI.out.rh;have X10:RV _ aa a 10 14 (.string s):=HI.out.rh;have X15:RV _ aa a 15 19 (.string n):=HI.out.rh;have X16:RV _ aa a 16 20 (.string r):=HI.out.rh
     match i,him,Hr with
     | 0,_,Hi =>
       refine ak rfl fun K' hK=>?_;go_simp;exact hK.out _ _ ⟨HI.out.pv Hi.out rfl,trivial⟩
     | 1,_,Hi =>
       have x0:=X0.g Hi.out (by kernel_rfl);refine ak rfl fun K' hK=>?_;go_simp;exact hK.out _ _ ⟨HI.out.pv Hi.out rfl,trivial⟩
     | 2,_,Hi =>
       refine ak rfl fun K' hK=>?_;go_simp;exact hK.out _ _ ⟨HI.out.pv Hi.out rfl,trivial⟩
     | 3,_,Hi =>
       have x2:=X2.g Hi.out (by kernel_rfl);refine ak rfl fun K' hK=>?_;go_simp;exact hK.out _ _ ⟨HI.out.pv Hi.out rfl,trivial⟩
     | 4,_,Hi =>
       have x1:=X1.g Hi.out (by kernel_rfl);have x3:=X3.g Hi.out (by kernel_rfl);refine ak rfl fun K' hK=>?_;go_simp;with_reducible refine(C1.out _ (HB0.out.trans (HI.out.world.mono HB0.out.size))).mono ?_
       rintro e W' ⟨rfl,hb⟩;exact hK.out _ _ ⟨HI.out.pc Hi.out hb rfl,trivial⟩
     | 5,_,Hi =>
       refine ak rfl fun K' hK=>?_;go_simp;exact hK.out _ _ ⟨HI.out.pv Hi.out rfl,trivial⟩
     | 6,_,Hi =>
       have x5:=X5.g Hi.out (by kernel_rfl);refine ak rfl fun K' hK=>?_;go_simp;exact hK.out _ _ ⟨HI.out.pv Hi.out rfl,trivial⟩
     | 7,_,Hi =>
       refine ak rfl fun K' hK=>?_;go_simp;exact hK.out _ _ ⟨HI.out.pv Hi.out rfl,trivial⟩
     | 8,_,Hi =>
       have x7:=X7.g Hi.out (by kernel_rfl);refine ak rfl fun K' hK=>?_;go_simp;exact hK.out _ _ ⟨HI.out.pv Hi.out rfl,trivial⟩
     | 9,_,Hi =>
       have x6:=X6.g Hi.out (by kernel_rfl);have x8:=X8.g Hi.out (by kernel_rfl);refine ak rfl fun K' hK=>?_;go_simp;with_reducible refine(C2.out _ (HB0.out.trans (HI.out.world.mono HB0.out.size))).mono ?_
       rintro e W' ⟨rfl,hb⟩;exact hK.out _ _ ⟨HI.out.pc Hi.out hb rfl,trivial⟩
     | 10,_,Hi =>
       have x4:=X4.g Hi.out (by kernel_rfl);have x9:=X9.g Hi.out (by kernel_rfl);refine ak rfl fun K' hK=>?_;go_simp;with_reducible refine(C3.out _ (HB0.out.trans (HI.out.world.mono HB0.out.size))).mono ?_
       rintro e W' ⟨rfl,hb⟩;exact hK.out _ _ ⟨HI.out.pc Hi.out hb rfl,trivial⟩
     | 11,_,Hi =>
       refine ak rfl fun K' hK=>?_;go_simp;exact hK.out _ _ ⟨HI.out.pv Hi.out rfl,trivial⟩
     | 12,_,Hi =>
       have x11:=X11.g Hi.out (by kernel_rfl);refine ak rfl fun K' hK=>?_;go_simp;exact hK.out _ _ ⟨HI.out.pv Hi.out rfl,trivial⟩
     | 13,_,Hi =>
       refine ak rfl fun K' hK=>?_;go_simp;exact hK.out _ _ ⟨HI.out.pv Hi.out rfl,trivial⟩
     | 14,_,Hi =>
       have x13:=X13.g Hi.out (by kernel_rfl);refine ak rfl fun K' hK=>?_;go_simp;exact hK.out _ _ ⟨HI.out.pv Hi.out rfl,trivial⟩
     | 15,_,Hi =>
       have x12:=X12.g Hi.out (by kernel_rfl);have x14:=X14.g Hi.out (by kernel_rfl);refine ak rfl fun K' hK=>?_;go_simp;with_reducible refine(C4.out _ (HB0.out.trans (HI.out.world.mono HB0.out.size))).mono ?_
       rintro e W' ⟨rfl,hb⟩;exact hK.out _ _ ⟨HI.out.pc Hi.out hb rfl,trivial⟩
     | 16,_,Hi =>
       have x10:=X10.g Hi.out (by kernel_rfl);have x15:=X15.g Hi.out (by kernel_rfl);refine ak rfl fun K' hK=>?_;go_simp;with_reducible refine(C5.out _ (HB0.out.trans (HI.out.world.mono HB0.out.size))).mono ?_
       rintro e W' ⟨rfl,hb⟩;exact hK.out _ _ ⟨HI.out.pc Hi.out hb rfl,trivial⟩
     | 17,_,Hi =>
       have x16:=X16.g Hi.out (by kernel_rfl);refine ak rfl fun K' hK=>?_;go_simp;exact hK.out _ _ ⟨HI.out.pv Hi.out rfl,trivial⟩
     | n+18,h,_=>exact absurd h (by omega)
   · intro aa a W hI hD hall
     obtain ⟨HBW,HI,HA⟩:=ah hI.world hI hall;clear hI hall;have HBX:=hid (HB0.out.trans (HBW.out.mono HB0.out.size));refine aY ?_;exact⟨rfl,(HI.out.finx ⟨HI.out.sx HA.out 0,HI.out.sx HA.out 1,HI.out.sx HA.out 2,HI.out.sx HA.out 3,HI.out.sx HA.out 4,HI.out.sx HA.out 5,HI.out.sx HA.out 6,HI.out.sx HA.out 7,HI.out.sx HA.out 8,HI.out.sx HA.out 9,HI.out.sx HA.out 10,HI.out.sx HA.out 11,HI.out.sx HA.out 12,HI.out.sx HA.out 13,HI.out.sx HA.out 14,HI.out.sx HA.out 15,HI.out.sx HA.out 16,HI.out.sx HA.out 17,trivial⟩ rfl),HBX.out⟩
 rintro a' W1 ⟨rfl,z0⟩;have HB1:=hid z0;clear z0;simp only[putL,List.setIfInBounds_toArray,List.set_cons_zero,List.set_cons_succ];go_wp2;exact bodyPost_ret (v:=.string r) (by simp[results,Tryz.results63,go_sem]) rfl ⟨rfl,HB1.out⟩
theorem z01 (x y z r0 r1 r2 ea eb ec fa fb fc ja jb jc:ByteArray)(w₀:World)  (d0:∀ (g:Nat) (W:World),Below w₀.heap.size w₀ W→SBk W g #[.string x,.string y,.string z] 65→CV W 63 #[.agg #[.string ea,.string eb,.string ec],.pointer (some ⟨g,0,none⟩)] (.string r0))(d1:∀ (g:Nat) (W:World),Below w₀.heap.size w₀ W→SBk W g #[.string x,.string y,.string z] 65→CV W 63 #[.agg #[.string fa,.string fb,.string fc],.pointer (some ⟨g,0,none⟩)] (.string r1))(d2:∀ (g:Nat) (W:World),Below w₀.heap.size w₀ W→SBk W g #[.string x,.string y,.string z] 65→CV W 63 #[.agg #[.string ja,.string jb,.string jc],.pointer (some ⟨g,0,none⟩)] (.string r2)) :
 CV w₀ 36 #[.agg #[.string ea,.string eb,.string ec,.string fa,.string fb,.string fc,.string ja,.string jb,.string jc],.agg #[.string x,.string y,.string z]] (.agg #[.string r0,.string r1,.string r2]):=by
 intro w hw;have D0:=hid (fun g W (h:Below w.heap.size w W)=>d0 g W (hw.trans (h.mono hw.size)));have D1:=hid (fun g W (h:Below w.heap.size w W)=>d1 g W (hw.trans (h.mono hw.size)));have D2:=hid (fun g W (h:Below w.heap.size w W)=>d2 g W (hw.trans (h.mono hw.size)));have hmf:∀ (fn:Fn) (first cap:Array Value) (w:World),(Instr.makeFunc fn first cap).run Tryz.prog w=.ok (.func fn first cap) w:=fun _ _ _ _=>rfl;clear d0 d1 d2 hw;go_enter Tryz.func36,Tryz.ntmps36
 go_upto_region 1 with fail
 refine au w [(#[.string ea,.string eb,.string ec,.string fa,.string fb,.string fc,.string ja,.string jb,.string jc],67),(#[.string x,.string y,.string z],65),(#[.string ⟨#[]⟩,.string ⟨#[]⟩,.string ⟨#[]⟩],65)] rfl ?_;rintro W0 ⟨k1,k2,k3,hb⟩;have HB0:=hid (show Below w.heap.size w W0 from hb);obtain ⟨K1,K2,K3⟩:=ah k1 k2 k3;clear k1 k2 k3 hb;have E0:=hid (D0.out _ _ HB0.out K2.out);have E1:=hid (D1.out _ _ HB0.out K2.out);have E2:=hid (D2.out _ _ HB0.out K2.out);clear D0 D1 D2;go_wp2_with fail
 refine aC (fun a0 a' V=>a'=⟨putL [(7,.func (.func 63) #[] #[.pointer (some ⟨w.heap.size+1,0,none⟩)]),(8,.pointer (some ⟨w.heap.size,0,none⟩)),(9,.agg #[.string ea,.string eb,.string ec]),(10,.string r0),(11,.func (.func 63) #[] #[.pointer (some ⟨w.heap.size+1,0,none⟩)]),(12,.pointer (some ⟨w.heap.size,3,none⟩)),(13,.agg #[.string fa,.string fb,.string fc]),(14,.string r1),(15,.func (.func 63) #[] #[.pointer (some ⟨w.heap.size+1,0,none⟩)]),(16,.pointer (some ⟨w.heap.size,6,none⟩)),(17,.agg #[.string ja,.string jb,.string jc]),(18,.string r2),(19,.agg #[.string r0,.string r1,.string r2])] a0.tmps,a0.defers⟩∧Below w.heap.size w V∧SBk V (w.heap.size+1+1) #[.string r0,.string r1,.string r2] 65) ?_ ?_
 · refine ay (by kernel_rfl) 13 1 (fun i=>[7,8,9,10,11,12,13,14,15,16,17,18,19].getD i 0) (RelR [Rel.val (.func (.func 63) #[] #[.pointer (some ⟨w.heap.size+1,0,none⟩)]),Rel.val (.pointer (some ⟨w.heap.size,0,none⟩)),Rel.val (.agg #[.string ea,.string eb,.string ec]),Rel.val (.string r0),Rel.val (.func (.func 63) #[] #[.pointer (some ⟨w.heap.size+1,0,none⟩)]),Rel.val (.pointer (some ⟨w.heap.size,3,none⟩)),Rel.val (.agg #[.string fa,.string fb,.string fc]),Rel.val (.string r1),Rel.val (.func (.func 63) #[] #[.pointer (some ⟨w.heap.size+1,0,none⟩)]),Rel.val (.pointer (some ⟨w.heap.size,6,none⟩)),Rel.val (.agg #[.string ja,.string jb,.string jc]),Rel.val (.string r2),Rel.val (.agg #[.string r0,.string r1,.string r2])]) (fun W=>Below W0.heap.size W0 W) (fun _ _=>True) (by kernel_rfl) (by kernel_rfl) (by kernel_rfl) trivial (Below.refl _ _).drew ?_ ?_
   · intro aa a W i hI hD hrd him
     obtain ⟨HI,HD,Hr⟩:=ah hI hD hrd;clear hI hrd hD;have y5:a.tmps[5]? = some (.func (.func 63) #[] #[.pointer (some ⟨w.heap.size+1,0,none⟩)]):=HI.out.rest 5 (by decide);have y2:a.tmps[2]? = some (.pointer (some ⟨w.heap.size,0,none⟩)):=HI.out.rest 2 (by decide);obtain ⟨dK10,dK11,dK12,dK13,dK14,dK15,dK16,dK17,dK18⟩:=d9 (K1.out.below HI.out.world) rfl rfl rfl rfl rfl rfl rfl rfl rfl;have X1:RV _ aa a 1 8 (.pointer (some ⟨w.heap.size,0,none⟩)):=HI.out.rh;have X0:RV _ aa a 0 7 (.func (.func 63) #[] #[.pointer (some ⟨w.heap.size+1,0,none⟩)]):=HI.out.rh;have X2:RV _ aa a 2 9 (.agg #[.string ea,.string eb,.string ec]):=HI.out.rh;have X5:RV _ aa a 5 12 (.pointer (some ⟨w.heap.size,3,none⟩)):=HI.out.rh;have X4:RV _ aa a 4 11 (.func (.func 63) #[] #[.pointer (some ⟨w.heap.size+1,0,none⟩)]):=HI.out.rh;have X6:RV _ aa a 6 13 (.agg #[.string fa,.string fb,.string fc]):=HI.out.rh;have X9:RV _ aa a 9 16 (.pointer (some ⟨w.heap.size,6,none⟩)):=HI.out.rh;have X8:RV _ aa a 8 15 (.func (.func 63) #[] #[.pointer (some ⟨w.heap.size+1,0,none⟩)]):=HI.out.rh;have X10:RV _ aa a 10 17 (.agg #[.string ja,.string jb,.string jc]):=HI.out.rh;have X3:RV _ aa a 3 10 (.string r0):=HI.out.rh;have X7:RV _ aa a 7 14 (.string r1):=HI.out.rh;have X11:RV _ aa a 11 18 (.string r2):=HI.out.rh
     match i,him,Hr with
     | 0,_,Hi =>
       refine ak rfl fun K' hK=>?_;go_simp;exact hK.out _ _ ⟨HI.out.pv Hi.out rfl,trivial⟩
     | 1,_,Hi =>
       refine ak rfl fun K' hK=>?_;go_simp;exact hK.out _ _ ⟨HI.out.pv Hi.out rfl,trivial⟩
     | 2,_,Hi =>
       have x1:=X1.g Hi.out (by kernel_rfl);refine ak rfl fun K' hK=>?_;go_simp;exact hK.out _ _ ⟨HI.out.pv Hi.out rfl,trivial⟩
     | 3,_,Hi =>
       have x0:=X0.g Hi.out (by kernel_rfl);have x2:=X2.g Hi.out (by kernel_rfl);refine ak rfl fun K' hK=>?_;go_simp;with_reducible refine(E0.out _ HI.out.world).mono ?_
       rintro e W' ⟨rfl,hb⟩;exact hK.out _ _ ⟨HI.out.pc Hi.out hb rfl,trivial⟩
     | 4,_,Hi =>
       refine ak rfl fun K' hK=>?_;go_simp;exact hK.out _ _ ⟨HI.out.pv Hi.out rfl,trivial⟩
     | 5,_,Hi =>
       refine ak rfl fun K' hK=>?_;go_simp;exact hK.out _ _ ⟨HI.out.pv Hi.out rfl,trivial⟩
     | 6,_,Hi =>
       have x5:=X5.g Hi.out (by kernel_rfl);refine ak rfl fun K' hK=>?_;go_simp;exact hK.out _ _ ⟨HI.out.pv Hi.out rfl,trivial⟩
     | 7,_,Hi =>
       have x4:=X4.g Hi.out (by kernel_rfl);have x6:=X6.g Hi.out (by kernel_rfl);refine ak rfl fun K' hK=>?_;go_simp;with_reducible refine(E1.out _ HI.out.world).mono ?_
       rintro e W' ⟨rfl,hb⟩;exact hK.out _ _ ⟨HI.out.pc Hi.out hb rfl,trivial⟩
     | 8,_,Hi =>
       refine ak rfl fun K' hK=>?_;go_simp;exact hK.out _ _ ⟨HI.out.pv Hi.out rfl,trivial⟩
     | 9,_,Hi =>
       refine ak rfl fun K' hK=>?_;go_simp;exact hK.out _ _ ⟨HI.out.pv Hi.out rfl,trivial⟩
     | 10,_,Hi =>
       have x9:=X9.g Hi.out (by kernel_rfl);refine ak rfl fun K' hK=>?_;go_simp;exact hK.out _ _ ⟨HI.out.pv Hi.out rfl,trivial⟩
     | 11,_,Hi =>
       have x8:=X8.g Hi.out (by kernel_rfl);have x10:=X10.g Hi.out (by kernel_rfl);refine ak rfl fun K' hK=>?_;go_simp;with_reducible refine(E2.out _ HI.out.world).mono ?_
       rintro e W' ⟨rfl,hb⟩;exact hK.out _ _ ⟨HI.out.pc Hi.out hb rfl,trivial⟩
     | 12,_,Hi =>
       have x3:=X3.g Hi.out (by kernel_rfl);have x7:=X7.g Hi.out (by kernel_rfl);have x11:=X11.g Hi.out (by kernel_rfl);refine ak rfl fun K' hK=>?_;go_simp;exact hK.out _ _ ⟨HI.out.pv Hi.out rfl,trivial⟩
     | n+13,h,_=>exact absurd h (by omega)
   · intro aa a W hI hD hall
     have x12:a.tmps[19]? = some (.agg #[.string r0,.string r1,.string r2]):=hI.sx hall 12;obtain ⟨HBW,HI,HA⟩:=ah hI.world hI hall;clear hI hall;obtain ⟨K3,HBX⟩:=aD (K3.out.below HBW.out) (HB0.out.trans (HBW.out.mono HB0.out.size));have y4:a.tmps[4]? = some (.pointer (some ⟨w.heap.size+1+1,0,none⟩)):=HI.out.rest 4 (by decide);obtain ⟨dK30,dK31,dK32⟩:=ax K3.out rfl rfl rfl;obtain ⟨fK30,fK31,fK32⟩:=aT K3.out;refine aS (t:=0) ?_;refine ak rfl fun K' hK=>?_;go_simp;refine hK.out _ _ ?_;clear hK;refine aY ?_;rw[← fP];exact⟨rfl,(HI.out.finx ⟨HI.out.sx HA.out 0,HI.out.sx HA.out 1,HI.out.sx HA.out 2,HI.out.sx HA.out 3,HI.out.sx HA.out 4,HI.out.sx HA.out 5,HI.out.sx HA.out 6,HI.out.sx HA.out 7,HI.out.sx HA.out 8,HI.out.sx HA.out 9,HI.out.sx HA.out 10,HI.out.sx HA.out 11,x12,trivial⟩ rfl),(av (l:=[.string r0,.string r1,.string r2]) (i:=0) (by omega) HBX.out),(dh K3.out)⟩
 rintro a' W1 ⟨rfl,z0,z1⟩;have HB1:=hid z0;have K3:=hid z1;clear z0 z1;simp only[putL,List.setIfInBounds_toArray,List.set_cons_zero,List.set_cons_succ];go_wp2;obtain ⟨dK30,dK31,dK32⟩:=ax K3.out rfl rfl rfl;exact bodyPost_ret (v:=.agg #[.string r0,.string r1,.string r2]) (by simp[results,Tryz.results36,go_sem,dK30,dK31,dK32]) rfl ⟨rfl,HB1.out⟩
theorem fix0 (ea eb ec fa fb fc ja jb jc:ByteArray)(W:World):(Instr.index 67 (.agg #[.string ea,.string eb,.string ec,.string fa,.string fb,.string fc,.string ja,.string jb,.string jc]) (.int .i64 0)).run Tryz.prog W=.ok (.agg #[.string ea,.string eb,.string ec]) W:=by kernel_rfl
theorem fix1 (ea eb ec fa fb fc ja jb jc:ByteArray)(W:World):(Instr.index 67 (.agg #[.string ea,.string eb,.string ec,.string fa,.string fb,.string fc,.string ja,.string jb,.string jc]) (.int .i64 1)).run Tryz.prog W=.ok (.agg #[.string fa,.string fb,.string fc]) W:=by kernel_rfl
theorem fix2 (ea eb ec fa fb fc ja jb jc:ByteArray)(W:World):(Instr.index 67 (.agg #[.string ea,.string eb,.string ec,.string fa,.string fb,.string fc,.string ja,.string jb,.string jc]) (.int .i64 2)).run Tryz.prog W=.ok (.agg #[.string ja,.string jb,.string jc]) W:=by kernel_rfl
theorem tix0 (x y z:ByteArray)(W:World):(Instr.index 65 (.agg #[.string x,.string y,.string z]) (.int .i64 0)).run Tryz.prog W=.ok (.string x) W:=by kernel_rfl
theorem tix1 (x y z:ByteArray)(W:World):(Instr.index 65 (.agg #[.string x,.string y,.string z]) (.int .i64 1)).run Tryz.prog W=.ok (.string y) W:=by kernel_rfl
theorem tix2 (x y z:ByteArray)(W:World):(Instr.index 65 (.agg #[.string x,.string y,.string z]) (.int .i64 2)).run Tryz.prog W=.ok (.string z) W:=by kernel_rfl
theorem z1W (ea eb ec fa fb fc ja jb jc:ByteArray)(w₀:World)   :
 CV w₀ 39 #[.agg #[.string ea,.string eb,.string ec,.string fa,.string fb,.string fc,.string ja,.string jb,.string jc]] (.agg #[.string ea,.string fa,.string ja,.string eb,.string fb,.string jb,.string ec,.string fc,.string jc]):=by
 intro w hw;have i0:=fix0 ea eb ec fa fb fc ja jb jc;have i1:=fix1 ea eb ec fa fb fc ja jb jc;have i2:=fix2 ea eb ec fa fb fc ja jb jc;have j00:=tix0 ea eb ec;have j01:=tix1 ea eb ec;have j02:=tix2 ea eb ec;have j10:=tix0 fa fb fc;have j11:=tix1 fa fb fc;have j12:=tix2 fa fb fc;have j20:=tix0 ja jb jc;have j21:=tix1 ja jb jc;have j22:=tix2 ja jb jc;clear hw;go_enter Tryz.func39,Tryz.ntmps39
 go_upto_region 1 with fail
 refine au w [(#[.string ea,.string eb,.string ec,.string fa,.string fb,.string fc,.string ja,.string jb,.string jc],67),(#[.string ⟨#[]⟩,.string ⟨#[]⟩,.string ⟨#[]⟩,.string ⟨#[]⟩,.string ⟨#[]⟩,.string ⟨#[]⟩,.string ⟨#[]⟩,.string ⟨#[]⟩,.string ⟨#[]⟩],67)] rfl ?_;rintro W0 ⟨k1,k2,hb⟩;have HB0:=hid (show Below w.heap.size w W0 from hb);have K1:=hid k1;have K2:=hid k2;clear k1 k2 hb;go_upto_region 2 with fail
 refine au W0 [(#[.string ⟨#[]⟩,.string ⟨#[]⟩,.string ⟨#[]⟩,.string ⟨#[]⟩,.string ⟨#[]⟩,.string ⟨#[]⟩,.string ⟨#[]⟩,.string ⟨#[]⟩,.string ⟨#[]⟩],67)] rfl ?_;have L1:=K1.out.lt;have L2:=K2.out.lt;have L3:=HB0.out.size;rintro W1 ⟨k3,hb⟩;have hb:Below W0.heap.size W0 W1:=hb;have K1:=hid (K1.out.below hb);have K2:=hid (K2.out.below hb);have HB1:=hbt HB0 hb;have K3:=hid k3;clear k3 hb;obtain ⟨dK10,dK11,dK12,dK13,dK14,dK15,dK16,dK17,dK18⟩:=d9 K1.out rfl rfl rfl rfl rfl rfl rfl rfl rfl;go_wp2;clear dK10 dK11 dK12 dK13 dK14 dK15 dK16 dK17 dK18;refine wp_loop_rounds 4 ?_;rw[rounds_succ];go_upto_region 5 with fail
 refine au W1 [(#[.string ea,.string eb,.string ec],65)] rfl ?_;have L4:=K1.out.lt;have L5:=K2.out.lt;have L6:=K3.out.lt;have L7:=HB1.out.size;rintro W2 ⟨k4,hb⟩;have hb:Below W1.heap.size W1 W2:=hb;obtain ⟨K1,K2,K3⟩:=ah (K1.out.below hb) (K2.out.below hb) (K3.out.below hb);have HB2:=hbt HB1 hb;have K4:=hid k4;clear k4 hb;obtain ⟨dK40,dK41,dK42⟩:=ax K4.out rfl rfl rfl;go_wp2;clear dK40 dK41 dK42;refine wp_loop_rounds 4 ?_;rw[rounds_succ];have dK30:=K3.out.cell (i:=0) rfl;have fK30:=K3.out.frozen (i:=0);go_upto_region 9 with fail
 clear dK30 fK30
 refine fE (fun V=>Below w.heap.size w V∧SBk V (w.heap.size) #[.string ea,.string eb,.string ec,.string fa,.string fb,.string fc,.string ja,.string jb,.string jc] 67∧SBk V (w.heap.size+1) #[.string ⟨#[]⟩,.string ⟨#[]⟩,.string ⟨#[]⟩,.string ⟨#[]⟩,.string ⟨#[]⟩,.string ⟨#[]⟩,.string ⟨#[]⟩,.string ⟨#[]⟩,.string ⟨#[]⟩] 67∧SBk V (W0.heap.size) #[.string ea,.string ⟨#[]⟩,.string ⟨#[]⟩,.string ⟨#[]⟩,.string ⟨#[]⟩,.string ⟨#[]⟩,.string ⟨#[]⟩,.string ⟨#[]⟩,.string ⟨#[]⟩] 67∧SBk V (W1.heap.size) #[.string ea,.string eb,.string ec] 65) (by
  have o0:∀ {g':Nat} {cs':Array Value} {T':TypeId},g'≠W0.heap.size→SBk W2 g' cs' T'→SBk (storeAll W2 (W0.heap.size) 0 [.string ea]) g' cs' T':=fun hg' h'=>bB hg' _ 0 h'
  exact⟨(av (l:=[.string ea]) (i:=0) (by omega) HB2.out),(o0 (by omega) K1.out),(o0 (by omega) K2.out),(bz (l:=[.string ea]) (i:=0) K3.out),(o0 (by omega) K4.out)⟩) ?_
 rintro W3 ⟨hb,z0,z1,z2,z3⟩;obtain ⟨HB3,K1,K2,K3,K4⟩:=aO hb z0 z1 z2 z3;clear hb z0 z1 z2 z3;go_wp2;rw[rounds_succ];have dK33:=K3.out.cell (i:=3) rfl;have fK33:=K3.out.frozen (i:=3);go_upto_region 9 with fail
 clear dK33 fK33
 refine fE (fun V=>Below w.heap.size w V∧SBk V (w.heap.size) #[.string ea,.string eb,.string ec,.string fa,.string fb,.string fc,.string ja,.string jb,.string jc] 67∧SBk V (w.heap.size+1) #[.string ⟨#[]⟩,.string ⟨#[]⟩,.string ⟨#[]⟩,.string ⟨#[]⟩,.string ⟨#[]⟩,.string ⟨#[]⟩,.string ⟨#[]⟩,.string ⟨#[]⟩,.string ⟨#[]⟩] 67∧SBk V (W0.heap.size) #[.string ea,.string ⟨#[]⟩,.string ⟨#[]⟩,.string eb,.string ⟨#[]⟩,.string ⟨#[]⟩,.string ⟨#[]⟩,.string ⟨#[]⟩,.string ⟨#[]⟩] 67∧SBk V (W1.heap.size) #[.string ea,.string eb,.string ec] 65) (by
  have o0:∀ {g':Nat} {cs':Array Value} {T':TypeId},g'≠W0.heap.size→SBk W3 g' cs' T'→SBk (storeAll W3 (W0.heap.size) 3 [.string eb]) g' cs' T':=fun hg' h'=>bB hg' _ 3 h'
  exact⟨(av (l:=[.string eb]) (i:=3) (by omega) HB3.out),(o0 (by omega) K1.out),(o0 (by omega) K2.out),(bz (l:=[.string eb]) (i:=3) K3.out),(o0 (by omega) K4.out)⟩) ?_
 rintro W4 ⟨hb,z0,z1,z2,z3⟩;obtain ⟨HB4,K1,K2,K3,K4⟩:=aO hb z0 z1 z2 z3;clear hb z0 z1 z2 z3;go_wp2;rw[rounds_succ];have dK36:=K3.out.cell (i:=6) rfl;have fK36:=K3.out.frozen (i:=6);go_upto_region 9 with fail
 clear dK36 fK36
 refine fE (fun V=>Below w.heap.size w V∧SBk V (w.heap.size) #[.string ea,.string eb,.string ec,.string fa,.string fb,.string fc,.string ja,.string jb,.string jc] 67∧SBk V (w.heap.size+1) #[.string ⟨#[]⟩,.string ⟨#[]⟩,.string ⟨#[]⟩,.string ⟨#[]⟩,.string ⟨#[]⟩,.string ⟨#[]⟩,.string ⟨#[]⟩,.string ⟨#[]⟩,.string ⟨#[]⟩] 67∧SBk V (W0.heap.size) #[.string ea,.string ⟨#[]⟩,.string ⟨#[]⟩,.string eb,.string ⟨#[]⟩,.string ⟨#[]⟩,.string ec,.string ⟨#[]⟩,.string ⟨#[]⟩] 67∧SBk V (W1.heap.size) #[.string ea,.string eb,.string ec] 65) (by
  have o0:∀ {g':Nat} {cs':Array Value} {T':TypeId},g'≠W0.heap.size→SBk W4 g' cs' T'→SBk (storeAll W4 (W0.heap.size) 6 [.string ec]) g' cs' T':=fun hg' h'=>bB hg' _ 6 h'
  exact⟨(av (l:=[.string ec]) (i:=6) (by omega) HB4.out),(o0 (by omega) K1.out),(o0 (by omega) K2.out),(bz (l:=[.string ec]) (i:=6) K3.out),(o0 (by omega) K4.out)⟩) ?_
 rintro W5 ⟨hb,z0,z1,z2,z3⟩;obtain ⟨HB5,K1,K2,K3,K4⟩:=aO hb z0 z1 z2 z3;clear hb z0 z1 z2 z3;go_wp2;rw[rounds_succ];go_wp2;rw[rounds_succ];go_upto_region 5 with fail
 refine au W5 [(#[.string fa,.string fb,.string fc],65)] rfl ?_;have L8:=K1.out.lt;have L9:=K2.out.lt;have L10:=K3.out.lt;have L11:=K4.out.lt;have L12:=HB5.out.size;rintro W6 ⟨k5,hb⟩;have hb:Below W5.heap.size W5 W6:=hb;obtain ⟨K1,K2,K3,K4⟩:=aH (K1.out.below hb) (K2.out.below hb) (K3.out.below hb) (K4.out.below hb);have HB6:=hbt HB5 hb;have K5:=hid k5;clear k5 hb;obtain ⟨dK50,dK51,dK52⟩:=ax K5.out rfl rfl rfl;go_wp2;clear dK50 dK51 dK52;refine wp_loop_rounds 4 ?_;rw[rounds_succ];have dK31:=K3.out.cell (i:=1) rfl;have fK31:=K3.out.frozen (i:=1);go_upto_region 9 with fail
 clear dK31 fK31
 refine fE (fun V=>Below w.heap.size w V∧SBk V (w.heap.size) #[.string ea,.string eb,.string ec,.string fa,.string fb,.string fc,.string ja,.string jb,.string jc] 67∧SBk V (w.heap.size+1) #[.string ⟨#[]⟩,.string ⟨#[]⟩,.string ⟨#[]⟩,.string ⟨#[]⟩,.string ⟨#[]⟩,.string ⟨#[]⟩,.string ⟨#[]⟩,.string ⟨#[]⟩,.string ⟨#[]⟩] 67∧SBk V (W0.heap.size) #[.string ea,.string fa,.string ⟨#[]⟩,.string eb,.string ⟨#[]⟩,.string ⟨#[]⟩,.string ec,.string ⟨#[]⟩,.string ⟨#[]⟩] 67∧SBk V (W1.heap.size) #[.string ea,.string eb,.string ec] 65∧SBk V (W5.heap.size) #[.string fa,.string fb,.string fc] 65) (by
  have o0:∀ {g':Nat} {cs':Array Value} {T':TypeId},g'≠W0.heap.size→SBk W6 g' cs' T'→SBk (storeAll W6 (W0.heap.size) 1 [.string fa]) g' cs' T':=fun hg' h'=>bB hg' _ 1 h'
  exact⟨(av (l:=[.string fa]) (i:=1) (by omega) HB6.out),(o0 (by omega) K1.out),(o0 (by omega) K2.out),(bz (l:=[.string fa]) (i:=1) K3.out),(o0 (by omega) K4.out),(o0 (by omega) K5.out)⟩) ?_
 rintro W7 ⟨hb,z0,z1,z2,z3,z4⟩;obtain ⟨HB7,K1,K2,K3,K4,K5⟩:=bL hb z0 z1 z2 z3 z4;clear hb z0 z1 z2 z3 z4;go_wp2;rw[rounds_succ];have dK34:=K3.out.cell (i:=4) rfl;have fK34:=K3.out.frozen (i:=4);go_upto_region 9 with fail
 clear dK34 fK34
 refine fE (fun V=>Below w.heap.size w V∧SBk V (w.heap.size) #[.string ea,.string eb,.string ec,.string fa,.string fb,.string fc,.string ja,.string jb,.string jc] 67∧SBk V (w.heap.size+1) #[.string ⟨#[]⟩,.string ⟨#[]⟩,.string ⟨#[]⟩,.string ⟨#[]⟩,.string ⟨#[]⟩,.string ⟨#[]⟩,.string ⟨#[]⟩,.string ⟨#[]⟩,.string ⟨#[]⟩] 67∧SBk V (W0.heap.size) #[.string ea,.string fa,.string ⟨#[]⟩,.string eb,.string fb,.string ⟨#[]⟩,.string ec,.string ⟨#[]⟩,.string ⟨#[]⟩] 67∧SBk V (W1.heap.size) #[.string ea,.string eb,.string ec] 65∧SBk V (W5.heap.size) #[.string fa,.string fb,.string fc] 65) (by
  have o0:∀ {g':Nat} {cs':Array Value} {T':TypeId},g'≠W0.heap.size→SBk W7 g' cs' T'→SBk (storeAll W7 (W0.heap.size) 4 [.string fb]) g' cs' T':=fun hg' h'=>bB hg' _ 4 h'
  exact⟨(av (l:=[.string fb]) (i:=4) (by omega) HB7.out),(o0 (by omega) K1.out),(o0 (by omega) K2.out),(bz (l:=[.string fb]) (i:=4) K3.out),(o0 (by omega) K4.out),(o0 (by omega) K5.out)⟩) ?_
 rintro W8 ⟨hb,z0,z1,z2,z3,z4⟩;obtain ⟨HB8,K1,K2,K3,K4,K5⟩:=bL hb z0 z1 z2 z3 z4;clear hb z0 z1 z2 z3 z4;go_wp2;rw[rounds_succ];have dK37:=K3.out.cell (i:=7) rfl;have fK37:=K3.out.frozen (i:=7);go_upto_region 9 with fail
 clear dK37 fK37
 refine fE (fun V=>Below w.heap.size w V∧SBk V (w.heap.size) #[.string ea,.string eb,.string ec,.string fa,.string fb,.string fc,.string ja,.string jb,.string jc] 67∧SBk V (w.heap.size+1) #[.string ⟨#[]⟩,.string ⟨#[]⟩,.string ⟨#[]⟩,.string ⟨#[]⟩,.string ⟨#[]⟩,.string ⟨#[]⟩,.string ⟨#[]⟩,.string ⟨#[]⟩,.string ⟨#[]⟩] 67∧SBk V (W0.heap.size) #[.string ea,.string fa,.string ⟨#[]⟩,.string eb,.string fb,.string ⟨#[]⟩,.string ec,.string fc,.string ⟨#[]⟩] 67∧SBk V (W1.heap.size) #[.string ea,.string eb,.string ec] 65∧SBk V (W5.heap.size) #[.string fa,.string fb,.string fc] 65) (by
  have o0:∀ {g':Nat} {cs':Array Value} {T':TypeId},g'≠W0.heap.size→SBk W8 g' cs' T'→SBk (storeAll W8 (W0.heap.size) 7 [.string fc]) g' cs' T':=fun hg' h'=>bB hg' _ 7 h'
  exact⟨(av (l:=[.string fc]) (i:=7) (by omega) HB8.out),(o0 (by omega) K1.out),(o0 (by omega) K2.out),(bz (l:=[.string fc]) (i:=7) K3.out),(o0 (by omega) K4.out),(o0 (by omega) K5.out)⟩) ?_
 rintro W9 ⟨hb,z0,z1,z2,z3,z4⟩;obtain ⟨HB9,K1,K2,K3,K4,K5⟩:=bL hb z0 z1 z2 z3 z4;clear hb z0 z1 z2 z3 z4;go_wp2;rw[rounds_succ];go_wp2;rw[rounds_succ];go_upto_region 5 with fail
 refine au W9 [(#[.string ja,.string jb,.string jc],65)] rfl ?_;have L13:=K1.out.lt;have L14:=K2.out.lt;have L15:=K3.out.lt;have L16:=K4.out.lt;have L17:=K5.out.lt;have L18:=HB9.out.size;rintro W10 ⟨k6,hb⟩;have hb:Below W9.heap.size W9 W10:=hb;obtain ⟨K1,K2,K3,K4,K5⟩:=aO (K1.out.below hb) (K2.out.below hb) (K3.out.below hb) (K4.out.below hb) (K5.out.below hb);have HB10:=hbt HB9 hb;have K6:=hid k6;clear k6 hb;obtain ⟨dK60,dK61,dK62⟩:=ax K6.out rfl rfl rfl;go_wp2;clear dK60 dK61 dK62;refine wp_loop_rounds 4 ?_;rw[rounds_succ];have dK32:=K3.out.cell (i:=2) rfl;have fK32:=K3.out.frozen (i:=2);go_upto_region 9 with fail
 clear dK32 fK32
 refine fE (fun V=>Below w.heap.size w V∧SBk V (w.heap.size) #[.string ea,.string eb,.string ec,.string fa,.string fb,.string fc,.string ja,.string jb,.string jc] 67∧SBk V (w.heap.size+1) #[.string ⟨#[]⟩,.string ⟨#[]⟩,.string ⟨#[]⟩,.string ⟨#[]⟩,.string ⟨#[]⟩,.string ⟨#[]⟩,.string ⟨#[]⟩,.string ⟨#[]⟩,.string ⟨#[]⟩] 67∧SBk V (W0.heap.size) #[.string ea,.string fa,.string ja,.string eb,.string fb,.string ⟨#[]⟩,.string ec,.string fc,.string ⟨#[]⟩] 67∧SBk V (W1.heap.size) #[.string ea,.string eb,.string ec] 65∧SBk V (W5.heap.size) #[.string fa,.string fb,.string fc] 65∧SBk V (W9.heap.size) #[.string ja,.string jb,.string jc] 65) (by
  have o0:∀ {g':Nat} {cs':Array Value} {T':TypeId},g'≠W0.heap.size→SBk W10 g' cs' T'→SBk (storeAll W10 (W0.heap.size) 2 [.string ja]) g' cs' T':=fun hg' h'=>bB hg' _ 2 h'
  exact⟨(av (l:=[.string ja]) (i:=2) (by omega) HB10.out),(o0 (by omega) K1.out),(o0 (by omega) K2.out),(bz (l:=[.string ja]) (i:=2) K3.out),(o0 (by omega) K4.out),(o0 (by omega) K5.out),(o0 (by omega) K6.out)⟩) ?_
 rintro W11 ⟨hb,z0,z1,z2,z3,z4,z5⟩;obtain ⟨HB11,K1,K2,K3,K4,K5,K6⟩:=bK hb z0 z1 z2 z3 z4 z5;clear hb z0 z1 z2 z3 z4 z5;go_wp2;rw[rounds_succ];have dK35:=K3.out.cell (i:=5) rfl;have fK35:=K3.out.frozen (i:=5);go_upto_region 9 with fail
 clear dK35 fK35
 refine fE (fun V=>Below w.heap.size w V∧SBk V (w.heap.size+1) #[.string ⟨#[]⟩,.string ⟨#[]⟩,.string ⟨#[]⟩,.string ⟨#[]⟩,.string ⟨#[]⟩,.string ⟨#[]⟩,.string ⟨#[]⟩,.string ⟨#[]⟩,.string ⟨#[]⟩] 67∧SBk V (W0.heap.size) #[.string ea,.string fa,.string ja,.string eb,.string fb,.string jb,.string ec,.string fc,.string ⟨#[]⟩] 67) (by
  have o0:∀ {g':Nat} {cs':Array Value} {T':TypeId},g'≠W0.heap.size→SBk W11 g' cs' T'→SBk (storeAll W11 (W0.heap.size) 5 [.string jb]) g' cs' T':=fun hg' h'=>bB hg' _ 5 h'
  exact⟨(av (l:=[.string jb]) (i:=5) (by omega) HB11.out),(o0 (by omega) K2.out),(bz (l:=[.string jb]) (i:=5) K3.out)⟩) ?_
 rintro W12 ⟨hb,z0,z1⟩;obtain ⟨HB12,K2,K3⟩:=ah hb z0 z1;clear hb z0 z1;go_wp2;rw[rounds_succ];have dK38:=K3.out.cell (i:=8) rfl;have fK38:=K3.out.frozen (i:=8);go_upto_region 9 with fail
 clear dK38 fK38
 refine fE (fun V=>Below w.heap.size w V∧SBk V (w.heap.size+1) #[.string ⟨#[]⟩,.string ⟨#[]⟩,.string ⟨#[]⟩,.string ⟨#[]⟩,.string ⟨#[]⟩,.string ⟨#[]⟩,.string ⟨#[]⟩,.string ⟨#[]⟩,.string ⟨#[]⟩] 67∧SBk V (W0.heap.size) #[.string ea,.string fa,.string ja,.string eb,.string fb,.string jb,.string ec,.string fc,.string jc] 67) (by
  have o0:∀ {g':Nat} {cs':Array Value} {T':TypeId},g'≠W0.heap.size→SBk W12 g' cs' T'→SBk (storeAll W12 (W0.heap.size) 8 [.string jc]) g' cs' T':=fun hg' h'=>bB hg' _ 8 h'
  exact⟨(av (l:=[.string jc]) (i:=8) (by omega) HB12.out),(o0 (by omega) K2.out),(bz (l:=[.string jc]) (i:=8) K3.out)⟩) ?_
 rintro W13 ⟨hb,z0,z1⟩;obtain ⟨HB13,K2,K3⟩:=ah hb z0 z1;clear hb z0 z1;go_wp2;rw[rounds_succ];go_wp2;rw[rounds_succ];obtain ⟨dK30,dK31,dK32,dK33,dK34,dK35,dK36,dK37,dK38⟩:=d9 K3.out rfl rfl rfl rfl rfl rfl rfl rfl rfl;obtain ⟨dK20,dK21,dK22,dK23,dK24,dK25,dK26,dK27,dK28⟩:=d9 K2.out rfl rfl rfl rfl rfl rfl rfl rfl rfl;obtain ⟨fK20,fK21,fK22,fK23,fK24,fK25,fK26,fK27,fK28⟩:=iG K2.out;go_wp2;exact bodyPost_ret (v:=.agg #[.string ea,.string fa,.string ja,.string eb,.string fb,.string jb,.string ec,.string fc,.string jc]) (by simp[results,Tryz.results39,go_sem,dK20,dK21,dK22,dK23,dK24,dK25,dK26,dK27,dK28]) rfl ⟨rfl,(av (l:=[.string ea,.string fa,.string ja,.string eb,.string fb,.string jb,.string ec,.string fc,.string jc]) (i:=0) (by omega) HB13.out)⟩
