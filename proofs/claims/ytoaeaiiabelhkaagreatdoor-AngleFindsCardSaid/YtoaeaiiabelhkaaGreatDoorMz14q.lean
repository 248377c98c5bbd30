/- texts -/
import Derived.Deep.DeepCutAuto
import Derived.Test.YtoaeaiiabelhkaaGreatDoorMz11q
import Derived.Lib.CutLaws
import Derived.Test.YtoaeaiiabelhkaaGreatDoorCards
import Derived.Test.YtoaeaiiabelhkaaGreatDoorTie
import Derived.LaidMore
import Derived.Lib.SmallJoins
open Go.Proofs.Tryz
namespace Go.Gb
open Go Go.RowKit
theorem dC {w:World}{g:Nat}{T:TypeId}{x0 x1 x2 x3 x4 x5 a b c d e f:Value}(h:SBk w g #[x0,x1,x2,x3,x4,x5] T):SBk (storeAll w g 0 [a,b,c,d,e,f]) g #[a,b,c,d,e,f] T:=by
 have:=bK [a,b,c,d,e,f] 0 h;simpa [tL] using this
theorem dL (w:World)(g:Nat)(a b c d e f:Value):storeAll w g 0 [a,b,c,d,e,f]=(((((w.setCell ⟨g,0,none⟩ a).setCell ⟨g,1,none⟩ b).setCell ⟨g,2,none⟩ c).setCell ⟨g,3,none⟩ d).setCell ⟨g,4,none⟩ e).setCell ⟨g,5,none⟩ f:=rfl
theorem fD {w:World}{g:Nat}{T:TypeId}{x0 x1 a b:Value}(h:SBk w g #[x0,x1] T):SBk (storeAll w g 0 [a,b]) g #[a,b] T:=by
 have:=bK [a,b] 0 h;simpa [tL] using this
theorem fE (w:World)(g:Nat)(a b:Value):storeAll w g 0 [a,b]=(w.setCell ⟨g,0,none⟩ a).setCell ⟨g,1,none⟩ b:=rfl
theorem eP {w:World}{g:Nat}{T:TypeId}{x0 x1 x2 a b c:Value}(h:SBk w g #[x0,x1,x2] T):SBk (storeAll w g 0 [a,b,c]) g #[a,b,c] T:=by
 have:=bK [a,b,c] 0 h;simpa [tL] using this
theorem iM (w:World)(g:Nat)(a b c:Value):storeAll w g 0 [a,b,c]=((w.setCell ⟨g,0,none⟩ a).setCell ⟨g,1,none⟩ b).setCell ⟨g,2,none⟩ c:=rfl
theorem gY (W:World)(o:Obj):Below W.heap.size W (W.alloc o):=(Below.refl W.heap.size W).alloc (Nat.le_refl _) o
end Go.Gb
set_option maxRecDepth 100000
set_option maxHeartbeats 20000000
open Go.Lib (hid)
namespace Go.Proofs.YtoaeaiiabelhkaaGreatDoor
open Go.RowKit Go.Gb
abbrev CV (w:World) (f:Nat) (args:Array Value) (v:Value):Prop:=∀ W,Below w.heap.size w W→Calls Tryz.prog f args W fun e w'=>e=.returned v∧Below W.heap.size W w'
theorem CV.mono {w W:World}{f:Nat}{args:Array Value}{v:Value}(h:CV w f args v)(hb:Below w.heap.size w W):CV W f args v:=fun X hX=>h X (hb.trans (hX.mono hb.size))
theorem CV.at {w:World}{f:Nat}{args:Array Value}{v:Value}(h:CV w f args v):Calls Tryz.prog f args w fun e w'=>e=.returned v∧Below w.heap.size w w':=h w (Below.refl _ _)
theorem aRat (x:ByteArray)(n:Int)(w₀:World)   :
 CV w₀ 68 #[.string x,.int .i64 n] (.string x):=by
 intro w hw;clear hw;go_enter func68,ntmps68
 have u6:=hid (Below.refl w.heap.size w);go_wp2;exact bodyPost_ret (v:=.string x) (by simp[results,results68,go_sem]) rfl ⟨rfl,u6.o⟩
theorem aInt (x n:Int)(w₀:World)   :
 CV w₀ 80 #[.int .i64 x,.int .i64 n] (.int .i64 x):=by
 intro w hw;clear hw;go_enter func80,ntmps80
 have u6:=hid (Below.refl w.heap.size w);go_wp2;exact bodyPost_ret (v:=.int .i64 x) (by simp[results,results80,go_sem]) rfl ⟨rfl,u6.o⟩
theorem aIv (l u:ByteArray)(n:Int)(w₀:World)   :
 CV w₀ 44 #[.agg #[.string l,.string u],.int .i64 n] (.agg #[.string l,.string u]):=by
 intro w hw;clear hw;go_enter func44,ntmps44
 go_upto_region 1 with fail
 refine av w [(#[.string l,.string u],25),(#[.string ⟨#[]⟩,.string ⟨#[]⟩],25)] rfl ?_;rintro W0 ⟨k1,k2,hb⟩;have u6:=hid (show Below w.heap.size w W0 from hb);have K1:=hid k1;have K2:=hid k2;clear k1 k2 hb;obtain ⟨sw,rM⟩:=aC K1.o rfl rfl;obtain ⟨sj,su⟩:=aC K2.o rfl rfl;obtain ⟨pu,ol⟩:=aS K2.o;go_wp2;exact bodyPost_ret (v:=.agg #[.string l,.string u]) (by simp[results,results44,go_sem,sj,su]) rfl ⟨rfl,(aj (l:=[.string l,.string u]) (i:=0) (by omega) u6.o)⟩
theorem z1Y (x y z:ByteArray)(n:Int)(w₀:World)(h1:CV w₀ 71 #[.string x,.string y] (.tuple #[.string z,.int .i64 n]))  :
 CV w₀ 33 #[.string x,.string y] (.string z):=by
 intro w hw;have C1:=hid (h1.mono hw);clear h1 hw;go_enter func33,ntmps33
 have u6:=hid (Below.refl w.heap.size w);go_wp2_with fail
 with_reducible refine(C1.o _ u6.o).mono ?_
 rintro e W1 ⟨rfl,hb⟩;have uu:=hbt u6 hb;clear hb;go_wp2_with fail
 with_reducible refine(aRat z n _ _ uu.o).mono ?_
 rintro e W2 ⟨rfl,hb⟩;have w9:=hbt uu hb;clear hb;go_wp2;exact bodyPost_ret (v:=.string z) (by simp[results,results33,go_sem]) rfl ⟨rfl,w9.o⟩
theorem zT (x y z:ByteArray)(n:Int)(w₀:World)(h1:CV w₀ 70 #[.string x,.string y] (.tuple #[.string z,.int .i64 n]))  :
 CV w₀ 32 #[.string x,.string y] (.string z):=by
 intro w hw;have C1:=hid (h1.mono hw);clear h1 hw;go_enter func32,ntmps32
 have u6:=hid (Below.refl w.heap.size w);go_wp2_with fail
 with_reducible refine(C1.o _ u6.o).mono ?_
 rintro e W1 ⟨rfl,hb⟩;have uu:=hbt u6 hb;clear hb;go_wp2_with fail
 with_reducible refine(aRat z n _ _ uu.o).mono ?_
 rintro e W2 ⟨rfl,hb⟩;have w9:=hbt uu hb;clear hb;go_wp2;exact bodyPost_ret (v:=.string z) (by simp[results,results32,go_sem]) rfl ⟨rfl,w9.o⟩
theorem zP (x y z:ByteArray)(n:Int)(w₀:World)(h1:CV w₀ 69 #[.string x,.string y] (.tuple #[.string z,.int .i64 n]))  :
 CV w₀ 30 #[.string x,.string y] (.string z):=by
 intro w hw;have C1:=hid (h1.mono hw);clear h1 hw;go_enter func30,ntmps30
 have u6:=hid (Below.refl w.heap.size w);go_wp2_with fail
 with_reducible refine(C1.o _ u6.o).mono ?_
 rintro e W1 ⟨rfl,hb⟩;have uu:=hbt u6 hb;clear hb;go_wp2_with fail
 with_reducible refine(aRat z n _ _ uu.o).mono ?_
 rintro e W2 ⟨rfl,hb⟩;have w9:=hbt uu hb;clear hb;go_wp2;exact bodyPost_ret (v:=.string z) (by simp[results,results30,go_sem]) rfl ⟨rfl,w9.o⟩
theorem z1Z (x y z:ByteArray)(n:Int)(w₀:World)(h1:CV w₀ 34 #[.string x,.string y] (.tuple #[.string z,.int .i64 n]))  :
 CV w₀ 31 #[.string x,.string y] (.string z):=by
 intro w hw;have C1:=hid (h1.mono hw);clear h1 hw;go_enter func31,ntmps31
 have u6:=hid (Below.refl w.heap.size w);go_wp2_with fail
 with_reducible refine(C1.o _ u6.o).mono ?_
 rintro e W1 ⟨rfl,hb⟩;have uu:=hbt u6 hb;clear hb;go_wp2_with fail
 with_reducible refine(aRat z n _ _ uu.o).mono ?_
 rintro e W2 ⟨rfl,hb⟩;have w9:=hbt uu hb;clear hb;go_wp2;exact bodyPost_ret (v:=.string z) (by simp[results,results31,go_sem]) rfl ⟨rfl,w9.o⟩
theorem zS (x y:ByteArray)(c n:Int)(w₀:World)(h1:CV w₀ 38 #[.string x,.string y] (.tuple #[.int .i64 c,.int .i64 n]))  :
 CV w₀ 40 #[.string x,.string y] (.int .i64 c):=by
 intro w hw;have C1:=hid (h1.mono hw);clear h1 hw;go_enter func40,ntmps40
 have u6:=hid (Below.refl w.heap.size w);go_wp2_with fail
 with_reducible refine(C1.o _ u6.o).mono ?_
 rintro e W1 ⟨rfl,hb⟩;have uu:=hbt u6 hb;clear hb;go_wp2_with fail
 with_reducible refine(aInt c n _ _ uu.o).mono ?_
 rintro e W2 ⟨rfl,hb⟩;have w9:=hbt uu hb;clear hb;go_wp2;exact bodyPost_ret (v:=.int .i64 c) (by simp[results,results40,go_sem]) rfl ⟨rfl,w9.o⟩
theorem uQ (x l u:ByteArray)(n:Int)(w₀:World)(h1:CV w₀ 130 #[.string x] (.tuple #[.agg #[.string l,.string u],.int .i64 n]))  :
 CV w₀ 83 #[.string x] (.agg #[.string l,.string u]):=by
 intro w hw;have C1:=hid (h1.mono hw);clear h1 hw;go_enter func83,ntmps83
 go_upto_region 1 with fail
 refine av w [(#[.string ⟨#[]⟩,.string ⟨#[]⟩],25)] rfl ?_;rintro W0 ⟨k1,hb⟩;have u6:=hid (show Below w.heap.size w W0 from hb);have K1:=hid k1;clear k1 hb;go_wp2_with fail
 with_reducible refine(C1.o _ u6.o).mono ?_
 rintro e W1 ⟨rfl,hb⟩;have K1:=hid (K1.o.below hb);have uu:=hbt u6 hb;clear hb;go_wp2_with fail
 with_reducible refine(aIv l u n _ _ uu.o).mono ?_
 rintro e W2 ⟨rfl,hb⟩;have K1:=hid (K1.o.below hb);have w9:=hbt uu hb;clear hb;obtain ⟨sw,rM⟩:=aC K1.o rfl rfl;obtain ⟨ma,mf⟩:=aS K1.o;go_wp2;exact bodyPost_ret (v:=.agg #[.string l,.string u]) (by simp[results,results83,go_sem,sw,rM]) rfl ⟨rfl,(aj (l:=[.string l,.string u]) (i:=0) (by omega) w9.o)⟩
theorem z3M (xa xb xc xd l u:ByteArray)(n:Int)(w₀:World)(h1:CV w₀ 84 #[.agg #[.string xa,.string xb],.agg #[.string xc,.string xd]] (.tuple #[.agg #[.string l,.string u],.int .i64 n]))  :
 CV w₀ 42 #[.agg #[.string xa,.string xb],.agg #[.string xc,.string xd]] (.agg #[.string l,.string u]):=by
 intro w hw;have C1:=hid (h1.mono hw);clear h1 hw;go_enter func42,ntmps42
 go_upto_region 1 with fail
 refine av w [(#[.string xa,.string xb],25),(#[.string xc,.string xd],25),(#[.string ⟨#[]⟩,.string ⟨#[]⟩],25)] rfl ?_;rintro W0 ⟨k1,k2,k3,hb⟩;have u6:=hid (show Below w.heap.size w W0 from hb);obtain ⟨K1,K2,K3⟩:=ak k1 k2 k3;clear k1 k2 k3 hb;obtain ⟨sw,rM⟩:=aC K1.o rfl rfl;obtain ⟨sj,su⟩:=aC K2.o rfl rfl;go_wp2_with fail
 with_reducible refine(C1.o _ u6.o).mono ?_
 rintro e W1 ⟨rfl,hb⟩;clear sw rM sj su;have K3:=hid (K3.o.below hb);have uu:=hbt u6 hb;clear hb;go_wp2_with fail
 with_reducible refine(aIv l u n _ _ uu.o).mono ?_
 rintro e W2 ⟨rfl,hb⟩;have K3:=hid (K3.o.below hb);have w9:=hbt uu hb;clear hb;obtain ⟨oM,oV⟩:=aC K3.o rfl rfl;obtain ⟨mi,l5⟩:=aS K3.o;go_wp2;exact bodyPost_ret (v:=.agg #[.string l,.string u]) (by simp[results,results42,go_sem,oM,oV]) rfl ⟨rfl,(aj (l:=[.string l,.string u]) (i:=0) (by omega) w9.o)⟩
theorem zR (x xa xb xc xd l u:ByteArray)(n:Int)(w₀:World)(h0:CV w₀ 83 #[.string x] (.agg #[.string xa,.string xb]))(h1:CV w₀ 85 #[.agg #[.string xa,.string xb],.agg #[.string xc,.string xd]] (.tuple #[.agg #[.string l,.string u],.int .i64 n]))  :
 CV w₀ 43 #[.string x,.agg #[.string xc,.string xd]] (.agg #[.string l,.string u]):=by
 intro w hw;have C0:=hid (h0.mono hw);have C1:=hid (h1.mono hw);clear h0 h1 hw;go_enter func43,ntmps43
 go_upto_region 1 with fail
 refine av w [(#[.string xc,.string xd],25),(#[.string ⟨#[]⟩,.string ⟨#[]⟩],25)] rfl ?_;rintro W0 ⟨k1,k2,hb⟩;have u6:=hid (show Below w.heap.size w W0 from hb);have K1:=hid k1;have K2:=hid k2;clear k1 k2 hb;go_wp2_with fail
 refine ay (fun a0 a' V=>a'=⟨putL [(5,.string x),(6,.agg #[.string xa,.string xb]),(7,.agg #[.string xc,.string xd]),(8,.tuple #[.agg #[.string l,.string u],.int .i64 n]),(9,.agg #[.string l,.string u]),(10,.int .i64 n),(11,.agg #[.string l,.string u])] a0.tmps,a0.defers⟩∧Below w.heap.size w V∧SBk V (w.heap.size+1) #[.string l,.string u] 25) ?_ ?_
 · refine bX (by kernel_rfl) 7 1 (fun i=>[5,6,7,8,9,10,11].getD i 0) (RelR [Rel.val (.string x),Rel.val (.agg #[.string xa,.string xb]),Rel.val (.agg #[.string xc,.string xd]),Rel.val (.tuple #[.agg #[.string l,.string u],.int .i64 n]),Rel.val (.agg #[.string l,.string u]),Rel.val (.int .i64 n),Rel.val (.agg #[.string l,.string u])]) (fun W=>Below W0.heap.size W0 W) (fun _ _=>True) (by kernel_rfl) (by kernel_rfl) (by kernel_rfl) trivial (Below.refl _ _).drew ?_ ?_
   · intro si a W i hI hD hrd him
     obtain ⟨HI,HD,Hr⟩:=ak hI hD hrd;clear hI hrd hD;have y0:a.tmps[0]? = some (.string x):=HI.o.rest 0 (by decide);have y3:a.tmps[3]? = some (.pointer (some ⟨w.heap.size,0,none⟩)):=HI.o.rest 3 (by decide);obtain ⟨sw,rM⟩:=aC (K1.o.below HI.o.world) rfl rfl;have X0:RV _ si a 0 5 (.string x):=HI.o.rh;have X1:RV _ si a 1 6 (.agg #[.string xa,.string xb]):=HI.o.rh;have X2:RV _ si a 2 7 (.agg #[.string xc,.string xd]):=HI.o.rh;have X3:RV _ si a 3 8 (.tuple #[.agg #[.string l,.string u],.int .i64 n]):=HI.o.rh;have X4:RV _ si a 4 9 (.agg #[.string l,.string u]):=HI.o.rh;have X5:RV _ si a 5 10 (.int .i64 n):=HI.o.rh
     match i,him,Hr with
     | 0,_,Hi =>
       refine stepH rfl fun K' hK=>?_;go_simp;exact hK.o _ _ ⟨HI.o.pv Hi.o rfl,trivial⟩
     | 1,_,Hi =>
       have x0:=X0.g Hi.o (by kernel_rfl);refine stepH rfl fun K' hK=>?_;go_simp;with_reducible refine(C0.o _ (u6.o.trans (HI.o.world.mono u6.o.size))).mono ?_
       rintro e W' ⟨rfl,hb⟩;exact hK.o _ _ ⟨HI.o.pc Hi.o hb rfl,trivial⟩
     | 2,_,Hi =>
       refine stepH rfl fun K' hK=>?_;go_simp;exact hK.o _ _ ⟨HI.o.pv Hi.o rfl,trivial⟩
     | 3,_,Hi =>
       have x1:=X1.g Hi.o (by kernel_rfl);have x2:=X2.g Hi.o (by kernel_rfl);refine stepH rfl fun K' hK=>?_;go_simp;with_reducible refine(C1.o _ (u6.o.trans (HI.o.world.mono u6.o.size))).mono ?_
       rintro e W' ⟨rfl,hb⟩;exact hK.o _ _ ⟨HI.o.pc Hi.o hb rfl,trivial⟩
     | 4,_,Hi =>
       have x3:=X3.g Hi.o (by kernel_rfl);refine stepH rfl fun K' hK=>?_;go_simp;exact hK.o _ _ ⟨HI.o.pv Hi.o rfl,trivial⟩
     | 5,_,Hi =>
       have x3:=X3.g Hi.o (by kernel_rfl);refine stepH rfl fun K' hK=>?_;go_simp;exact hK.o _ _ ⟨HI.o.pv Hi.o rfl,trivial⟩
     | 6,_,Hi =>
       have x4:=X4.g Hi.o (by kernel_rfl);have x5:=X5.g Hi.o (by kernel_rfl);refine stepH rfl fun K' hK=>?_;go_simp;with_reducible refine(aIv l u n _ _ (u6.o.trans (HI.o.world.mono u6.o.size))).mono ?_
       rintro e W' ⟨rfl,hb⟩;exact hK.o _ _ ⟨HI.o.pc Hi.o hb rfl,trivial⟩
     | n+7,h,_=>exact absurd h (by omega)
   · intro si a W hI hD rV
     have x6:a.tmps[11]? = some (.agg #[.string l,.string u]):=hI.sx rV 6;obtain ⟨pq,HI,HA⟩:=ak hI.world hI rV;clear hI rV;obtain ⟨ny,K2⟩:=aB (u6.o.trans (pq.o.mono u6.o.size)) (K2.o.below pq.o);have y4:a.tmps[4]? = some (.pointer (some ⟨w.heap.size+1,0,none⟩)):=HI.o.rest 4 (by decide);obtain ⟨sj,su⟩:=aC K2.o rfl rfl;obtain ⟨pu,ol⟩:=aS K2.o;refine aZ (t:=0) ?_;refine stepH rfl fun K' hK=>?_;go_simp;refine hK.o _ _ ?_;clear hK;refine aV ?_;rw[← fE];exact⟨rfl,(HI.o.finx ⟨HI.o.sx HA.o 0,HI.o.sx HA.o 1,HI.o.sx HA.o 2,HI.o.sx HA.o 3,HI.o.sx HA.o 4,HI.o.sx HA.o 5,x6,trivial⟩ rfl),(aj (l:=[.string l,.string u]) (i:=0) (by omega) ny.o),(fD K2.o)⟩
 rintro a' W1 ⟨rfl,z0,z1⟩;have uu:=hid z0;have K2:=hid z1;clear z0 z1;simp only[putL,List.setIfInBounds_toArray,List.set_cons_zero,List.set_cons_succ];go_wp2;obtain ⟨sj,su⟩:=aC K2.o rfl rfl;exact bodyPost_ret (v:=.agg #[.string l,.string u]) (by simp[results,results43,go_sem,sj,su]) rfl ⟨rfl,uu.o⟩
open Go.Lib (hid)
theorem zO (t:ByteArray)(b:Bool)(w₀:World)(h1:CV w₀ 13 #[.agg #[.string ⟨#[45,49]⟩,.string ⟨#[49]⟩],.string t] (.bool b))  :
 CV w₀ 15 #[.string t] (.bool b):=by
 intro w hw;have C1:=hid (h1.mono hw);clear h1 hw;go_enter func15,ntmps15
 have u6:=hid (Below.refl w.heap.size w);go_wp2_with fail
 with_reducible refine(C1.o _ u6.o).mono ?_
 rintro e W1 ⟨rfl,hb⟩;have uu:=hbt u6 hb;clear hb;go_wp2;exact bodyPost_ret (v:=.bool b) (by simp[results,results15,go_sem]) rfl ⟨rfl,uu.o⟩
theorem z5K (g:Nat)(x:ByteArray)(w₀:World)(h1:CV w₀ 16 #[.string x] (.bool true))(hA:CV w₀ 15 #[.string x] (.bool true))  (kKX:SBk w₀ g #[.string x] 22) :
 CV w₀ 29 #[.slice (some ⟨g,0,none⟩) 1 1] (.int .i64 0):=by
 intro w hw;obtain ⟨C1,CA,KX⟩:=ak (h1.mono hw) (hA.mono hw) (kKX.below hw);clear h1 hA kKX hw;go_enter func29,ntmps29
 have u6:=hid (Below.refl w.heap.size w);go_wp2;refine wp_loop_rounds 2 ?_;rw[rounds_succ];have dKX0:=KX.o.cell (i:=0) rfl;go_wp2_with fail
 with_reducible refine(C1.o _ u6.o).mono ?_
 rintro e W1 ⟨rfl,hb⟩;clear dKX0;have KX:=hid (KX.o.below hb);have uu:=hbt u6 hb;clear hb;go_wp2;rw[rounds_succ];go_wp2;refine wp_loop_rounds 2 ?_;rw[rounds_succ];have dKX0:=KX.o.cell (i:=0) rfl;go_wp2_with fail
 with_reducible refine(CA.o _ uu.o).mono ?_
 rintro e W2 ⟨rfl,hb⟩;clear dKX0;have w9:=hbt uu hb;clear hb;go_wp2;rw[rounds_succ];go_wp2;exact bodyPost_ret (v:=.int .i64 0) (by simp[results,results29,go_sem]) rfl ⟨rfl,w9.o⟩
theorem z5J (g:Nat)(x y:ByteArray)(w₀:World)(h1:CV w₀ 16 #[.string x] (.bool true))(h2:CV w₀ 16 #[.string y] (.bool true))(hA:CV w₀ 15 #[.string x] (.bool true))(hB:CV w₀ 15 #[.string y] (.bool true))  (kKX:SBk w₀ g #[.string x,.string y] 22) :
 CV w₀ 29 #[.slice (some ⟨g,0,none⟩) 2 2] (.int .i64 0):=by
 intro w hw;obtain ⟨C1,C2,CA,CB,KX⟩:=bz (h1.mono hw) (h2.mono hw) (hA.mono hw) (hB.mono hw) (kKX.below hw);clear h1 h2 hA hB kKX hw;go_enter func29,ntmps29
 have u6:=hid (Below.refl w.heap.size w);go_wp2;refine wp_loop_rounds 3 ?_;rw[rounds_succ];have dKX0:=KX.o.cell (i:=0) rfl;go_wp2_with fail
 with_reducible refine(C1.o _ u6.o).mono ?_
 rintro e W1 ⟨rfl,hb⟩;clear dKX0;have KX:=hid (KX.o.below hb);have uu:=hbt u6 hb;clear hb;go_wp2;rw[rounds_succ];have dKX1:=KX.o.cell (i:=1) rfl;go_wp2_with fail
 with_reducible refine(C2.o _ uu.o).mono ?_
 rintro e W2 ⟨rfl,hb⟩;clear dKX1;have KX:=hid (KX.o.below hb);have w9:=hbt uu hb;clear hb;go_wp2;rw[rounds_succ];go_wp2;refine wp_loop_rounds 3 ?_;rw[rounds_succ];have dKX0:=KX.o.cell (i:=0) rfl;go_wp2_with fail
 with_reducible refine(CA.o _ w9.o).mono ?_
 rintro e W3 ⟨rfl,hb⟩;clear dKX0;have KX:=hid (KX.o.below hb);have wm:=hbt w9 hb;clear hb;go_wp2;rw[rounds_succ];have dKX1:=KX.o.cell (i:=1) rfl;go_wp2_with fail
 with_reducible refine(CB.o _ wm.o).mono ?_
 rintro e W4 ⟨rfl,hb⟩;clear dKX1;have wo:=hbt wm hb;clear hb;go_wp2;rw[rounds_succ];go_wp2;exact bodyPost_ret (v:=.int .i64 0) (by simp[results,results29,go_sem]) rfl ⟨rfl,wo.o⟩
abbrev Ck1 (w:World) (x:ByteArray) (er:Int):Prop:=∀ (g:Nat) (W:World),Below w.heap.size w W→SBk W g #[.string x] 22→CR 29 #[.slice (some ⟨g,0,none⟩) 1 1] W (.int .i64 er)
theorem ng {w W:World}{x:ByteArray}{er:Int}(h:Ck1 w x er)(hb:Below w.heap.size w W):Ck1 W x er:=fun g X hX=>h g X (hb.trans (hX.mono hb.size))
abbrev Ck2 (w:World) (x y:ByteArray) (er:Int):Prop:=∀ (g:Nat) (W:World),Below w.heap.size w W→SBk W g #[.string x,.string y] 22→CR 29 #[.slice (some ⟨g,0,none⟩) 2 2] W (.int .i64 er)
theorem sD {w W:World}{x y:ByteArray}{er:Int}(h:Ck2 w x y er)(hb:Below w.heap.size w W):Ck2 W x y er:=fun g X hX=>h g X (hb.trans (hX.mono hb.size))
theorem z3S (t q m p z:ByteArray)(w₀:World)(h1:CV w₀ 30 #[.string t,.string t] (.string q))(h2:CV w₀ 32 #[.string ⟨#[49]⟩,.string q] (.string m))(h3:CV w₀ 33 #[.string ⟨#[49]⟩,.string q] (.string p))(h4:CV w₀ 31 #[.string m,.string p] (.string z))(kc:Ck1 w₀ t 0) :
 CV w₀ 7 #[.string t] (.tuple #[.string z,.int .i64 0]):=by
 intro w hw;obtain ⟨C1,C2,C3,C4,KC⟩:=bz (h1.mono hw) (h2.mono hw) (h3.mono hw) (h4.mono hw) (ng kc hw);clear kc h1 h2 h3 h4 hw;go_enter func7,ntmps7
 have u6:=hid (Below.refl w.heap.size w);go_wp2_with fail
 have hb:=gY w (.cells #[.string t] 22);have k1:=SBk.new w #[.string t] 22;generalize w.alloc (.cells #[.string t] 22)=W1 at *;have uu:=hbt u6 hb;have K1:=hid k1;clear k1 hb;with_reducible refine((KC.o _ _ uu.o K1.o)).mono ?_
 rintro e W2 ⟨rfl,hb⟩;have w9:=hbt uu hb;clear hb;go_wp2_with fail
 with_reducible refine(C1.o _ w9.o).mono ?_
 rintro e W3 ⟨rfl,hb⟩;have wm:=hbt w9 hb;clear hb;go_wp2_with fail
 with_reducible refine(C2.o _ wm.o).mono ?_
 rintro e W4 ⟨rfl,hb⟩;have wo:=hbt wm hb;clear hb;go_wp2_with fail
 with_reducible refine(C3.o _ wo.o).mono ?_
 rintro e W5 ⟨rfl,hb⟩;have wu:=hbt wo hb;clear hb;go_wp2_with fail
 with_reducible refine(C4.o _ wu.o).mono ?_
 rintro e W6 ⟨rfl,hb⟩;have ww:=hbt wu hb;clear hb;go_wp2;exact bodyPost_ret (v:=.tuple #[.string z,.int .i64 0]) (by simp[results,results7,go_sem]) rfl ⟨rfl,ww.o⟩
theorem z3N (t d q p z:ByteArray)(w₀:World)(h1:CV w₀ 30 #[.string ⟨#[50]⟩,.string t] (.string d))(h2:CV w₀ 30 #[.string t,.string t] (.string q))(h3:CV w₀ 33 #[.string ⟨#[49]⟩,.string q] (.string p))(h4:CV w₀ 31 #[.string d,.string p] (.string z))(kc:Ck1 w₀ t 0) :
 CV w₀ 8 #[.string t] (.tuple #[.string z,.int .i64 0]):=by
 intro w hw;obtain ⟨C1,C2,C3,C4,KC⟩:=bz (h1.mono hw) (h2.mono hw) (h3.mono hw) (h4.mono hw) (ng kc hw);clear kc h1 h2 h3 h4 hw;go_enter func8,ntmps8
 have u6:=hid (Below.refl w.heap.size w);go_wp2_with fail
 have hb:=gY w (.cells #[.string t] 22);have k1:=SBk.new w #[.string t] 22;generalize w.alloc (.cells #[.string t] 22)=W1 at *;have uu:=hbt u6 hb;have K1:=hid k1;clear k1 hb;with_reducible refine((KC.o _ _ uu.o K1.o)).mono ?_
 rintro e W2 ⟨rfl,hb⟩;have w9:=hbt uu hb;clear hb;go_wp2_with fail
 with_reducible refine(C1.o _ w9.o).mono ?_
 rintro e W3 ⟨rfl,hb⟩;have wm:=hbt w9 hb;clear hb;go_wp2_with fail
 with_reducible refine(C2.o _ wm.o).mono ?_
 rintro e W4 ⟨rfl,hb⟩;have wo:=hbt wm hb;clear hb;go_wp2_with fail
 with_reducible refine(C3.o _ wo.o).mono ?_
 rintro e W5 ⟨rfl,hb⟩;have wu:=hbt wo hb;clear hb;go_wp2_with fail
 with_reducible refine(C4.o _ wu.o).mono ?_
 rintro e W6 ⟨rfl,hb⟩;have ww:=hbt wu hb;clear hb;go_wp2;exact bodyPost_ret (v:=.tuple #[.string z,.int .i64 0]) (by simp[results,results8,go_sem]) rfl ⟨rfl,ww.o⟩
theorem z1W (s t a1 p m:ByteArray)(w₀:World)(h1:CV w₀ 33 #[.string s,.string t] (.string a1))(h2:CV w₀ 30 #[.string s,.string t] (.string p))(h3:CV w₀ 32 #[.string ⟨#[49]⟩,.string p] (.string m))(h4:CV w₀ 34 #[.string a1,.string m] (.tuple #[.string ⟨#[]⟩,.int .i64 16]))(kc:Ck2 w₀ s t 0) :
 CV w₀ 9 #[.string s,.string t] (.tuple #[.string ⟨#[]⟩,.int .i64 15]):=by
 intro w hw;obtain ⟨C1,C2,C3,C4,KC⟩:=bz (h1.mono hw) (h2.mono hw) (h3.mono hw) (h4.mono hw) (sD kc hw);clear kc h1 h2 h3 h4 hw;go_enter func9,ntmps9
 have u6:=hid (Below.refl w.heap.size w);go_wp2_with fail
 have hb:=gY w (.cells #[.string s,.string t] 22);have k1:=SBk.new w #[.string s,.string t] 22;generalize w.alloc (.cells #[.string s,.string t] 22)=W1 at *;have uu:=hbt u6 hb;have K1:=hid k1;clear k1 hb;with_reducible refine((KC.o _ _ uu.o K1.o)).mono ?_
 rintro e W2 ⟨rfl,hb⟩;have w9:=hbt uu hb;clear hb;go_wp2_with fail
 with_reducible refine(C1.o _ w9.o).mono ?_
 rintro e W3 ⟨rfl,hb⟩;have wm:=hbt w9 hb;clear hb;go_wp2_with fail
 with_reducible refine(C2.o _ wm.o).mono ?_
 rintro e W4 ⟨rfl,hb⟩;have wo:=hbt wm hb;clear hb;go_wp2_with fail
 with_reducible refine(C3.o _ wo.o).mono ?_
 rintro e W5 ⟨rfl,hb⟩;have wu:=hbt wo hb;clear hb;go_wp2_with fail
 with_reducible refine(C4.o _ wu.o).mono ?_
 rintro e W6 ⟨rfl,hb⟩;have ww:=hbt wu hb;clear hb;go_wp2;exact bodyPost_ret (v:=.tuple #[.string ⟨#[]⟩,.int .i64 15]) (by simp[results,results9,go_sem]) rfl ⟨rfl,ww.o⟩
theorem zQ (s t a1 p m z:ByteArray)(w₀:World)(h1:CV w₀ 33 #[.string s,.string t] (.string a1))(h2:CV w₀ 30 #[.string s,.string t] (.string p))(h3:CV w₀ 32 #[.string ⟨#[49]⟩,.string p] (.string m))(h4:CV w₀ 34 #[.string a1,.string m] (.tuple #[.string z,.int .i64 0]))(h5:CV w₀ 15 #[.string z] (.bool false))(kc:Ck2 w₀ s t 0) :
 CV w₀ 9 #[.string s,.string t] (.tuple #[.string ⟨#[]⟩,.int .i64 15]):=by
 intro w hw;obtain ⟨C1,C2,C3,C4,C5,KC⟩:=di (h1.mono hw) (h2.mono hw) (h3.mono hw) (h4.mono hw) (h5.mono hw) (sD kc hw);clear kc h1 h2 h3 h4 h5 hw;go_enter func9,ntmps9
 have u6:=hid (Below.refl w.heap.size w);go_wp2_with fail
 have hb:=gY w (.cells #[.string s,.string t] 22);have k1:=SBk.new w #[.string s,.string t] 22;generalize w.alloc (.cells #[.string s,.string t] 22)=W1 at *;have uu:=hbt u6 hb;have K1:=hid k1;clear k1 hb;with_reducible refine((KC.o _ _ uu.o K1.o)).mono ?_
 rintro e W2 ⟨rfl,hb⟩;have w9:=hbt uu hb;clear hb;go_wp2_with fail
 with_reducible refine(C1.o _ w9.o).mono ?_
 rintro e W3 ⟨rfl,hb⟩;have wm:=hbt w9 hb;clear hb;go_wp2_with fail
 with_reducible refine(C2.o _ wm.o).mono ?_
 rintro e W4 ⟨rfl,hb⟩;have wo:=hbt wm hb;clear hb;go_wp2_with fail
 with_reducible refine(C3.o _ wo.o).mono ?_
 rintro e W5 ⟨rfl,hb⟩;have wu:=hbt wo hb;clear hb;go_wp2_with fail
 with_reducible refine(C4.o _ wu.o).mono ?_
 rintro e W6 ⟨rfl,hb⟩;have ww:=hbt wu hb;clear hb;go_wp2_with fail
 with_reducible refine(C5.o _ ww.o).mono ?_
 rintro e W7 ⟨rfl,hb⟩;have p8:=hbt ww hb;clear hb;go_wp2;exact bodyPost_ret (v:=.tuple #[.string ⟨#[]⟩,.int .i64 15]) (by simp[results,results9,go_sem]) rfl ⟨rfl,p8.o⟩
theorem z3L (s t a1 p m z:ByteArray)(w₀:World)(h1:CV w₀ 33 #[.string s,.string t] (.string a1))(h2:CV w₀ 30 #[.string s,.string t] (.string p))(h3:CV w₀ 32 #[.string ⟨#[49]⟩,.string p] (.string m))(h4:CV w₀ 34 #[.string a1,.string m] (.tuple #[.string z,.int .i64 0]))(h5:CV w₀ 15 #[.string z] (.bool true))(kc:Ck2 w₀ s t 0) :
 CV w₀ 9 #[.string s,.string t] (.tuple #[.string z,.int .i64 0]):=by
 intro w hw;obtain ⟨C1,C2,C3,C4,C5,KC⟩:=di (h1.mono hw) (h2.mono hw) (h3.mono hw) (h4.mono hw) (h5.mono hw) (sD kc hw);clear kc h1 h2 h3 h4 h5 hw;go_enter func9,ntmps9
 have u6:=hid (Below.refl w.heap.size w);go_wp2_with fail
 have hb:=gY w (.cells #[.string s,.string t] 22);have k1:=SBk.new w #[.string s,.string t] 22;generalize w.alloc (.cells #[.string s,.string t] 22)=W1 at *;have uu:=hbt u6 hb;have K1:=hid k1;clear k1 hb;with_reducible refine((KC.o _ _ uu.o K1.o)).mono ?_
 rintro e W2 ⟨rfl,hb⟩;have w9:=hbt uu hb;clear hb;go_wp2_with fail
 with_reducible refine(C1.o _ w9.o).mono ?_
 rintro e W3 ⟨rfl,hb⟩;have wm:=hbt w9 hb;clear hb;go_wp2_with fail
 with_reducible refine(C2.o _ wm.o).mono ?_
 rintro e W4 ⟨rfl,hb⟩;have wo:=hbt wm hb;clear hb;go_wp2_with fail
 with_reducible refine(C3.o _ wo.o).mono ?_
 rintro e W5 ⟨rfl,hb⟩;have wu:=hbt wo hb;clear hb;go_wp2_with fail
 with_reducible refine(C4.o _ wu.o).mono ?_
 rintro e W6 ⟨rfl,hb⟩;have ww:=hbt wu hb;clear hb;go_wp2_with fail
 with_reducible refine(C5.o _ ww.o).mono ?_
 rintro e W7 ⟨rfl,hb⟩;have p8:=hbt ww hb;clear hb;go_wp2;exact bodyPost_ret (v:=.tuple #[.string z,.int .i64 0]) (by simp[results,results9,go_sem]) rfl ⟨rfl,p8.o⟩
open Go.RowKit
abbrev CL (f : FuncId) (args : Array Value) (v : Value) : Prop := ∀ W, La W → Calls Tryz.prog f args W fun e w' => e = .returned v ∧ Below W.heap.size W w'
end Go.Proofs.YtoaeaiiabelhkaaGreatDoor
namespace Go.Proofs.YtoaeaiiabelhkaaGreatDoor
open Go.RowKit Go.Gb
theorem index_hit (c:UInt8)(a b:List UInt8)(h:c∉a):Lib.index (a++c :: b) [c]=a.length:=by
 refine Lib.index_first (by simp) ?_ ?_
 · simp[Lib.occAt,List.isPrefixOf]
 · intro j hj
   unfold Lib.occAt
   rw[List.drop_append_of_le_length (by omega)]
   cases hd:a.drop j with
   | nil=>exact absurd (List.drop_eq_nil_iff.1 hd) (by omega)
   | cons x t =>
     have hx:x∈a:=List.mem_of_mem_drop (hd▸List.mem_cons_self);have h1:¬ c=x:=by rintro rfl;exact h hx
     simp[List.isPrefixOf,h1]
theorem qj (c:UInt8):∀ l:List UInt8,c∉l→Lib.index l [c] = -1
 | [],_=>rfl
 | x :: l,h=>by
   have h1:¬ c=x:=by rintro rfl;exact h List.mem_cons_self
   have h2:=qj c l (fun hm=>h (List.mem_cons_of_mem _ hm));unfold Lib.index
   rw[h2];simp[List.isPrefixOf,h1]
theorem z1N (c:UInt8)(a b:List UInt8)(h:c∉a):Lib.cut (a++c :: b) [c]=(a,b,true):=by
 unfold Lib.cut
 rw[index_hit c a b h,if_pos (by omega)];simp
theorem yH (c:UInt8)(l:List UInt8)(h:c∉l):Lib.cut l [c]=(l,[],false):=by
 unfold Lib.cut
 rw[qj c l h];rfl
theorem og (c:UInt8)(l:List UInt8):(c∉l∧Lib.cut l [c]=(l,[],false))∨∃ a b,c∉a∧l=a++c :: b∧Lib.cut l [c]=(a,b,true):=by
 by_cases h:c∈l
 · obtain⟨a,b,e,hn⟩:=List.eq_append_cons_of_mem h
   exact Or.inr ⟨a,b,hn,e,by rw[e];exact z1N c a b hn⟩
 · exact Or.inl ⟨h,yH c l h⟩
theorem z1J (c:UInt8)(hc:isD c=false)(n:Nat):c∉Lib.decDigits n:=by
 intro h;have:=List.all_eq_true.1 (je n) c h;rw[hc]at this;cases this
theorem z2z (c:UInt8)(hc:isD c=false)(h45:c≠45)(z:Int):c∉(Sz z).data.toList:=by
 rcases bZ z with⟨n,hn,rfl⟩|rfl|⟨n,hn,rfl⟩
 · rw[jq hn]
   intro h;rcases List.mem_cons.1 h with h|h
   · exact h45 h
   · exact z1J c hc n h
 · rw[show Sz 0=Sn 0 from dU 0,cK];exact z1J c hc 0
 · rw[dU,cK];exact z1J c hc n
def Sq (q:Rat):ByteArray:=if q.den=1 then Sz q.num else ⟨((Sz q.num).data.toList++47 :: Lib.decDigits q.den).toArray⟩
theorem jr {q:Rat}(h:q.den=1):Sq q=Sz q.num:=by unfold Sq;rw[if_pos h]
theorem qL {q:Rat}(h:q.den≠1):Sq q=⟨((Sz q.num).data.toList++47 :: Lib.decDigits q.den).toArray⟩:=by unfold Sq;rw[if_neg h]
theorem ic {q:Rat}(h:q.den≠1):(Sq q).data.toList=(Sz q.num).data.toList++47 :: Lib.decDigits q.den:=by rw[qL h]
theorem xJ (z:Int):Sq (Rat.ofInt z)=Sz z:=jr rfl
theorem yI {q:Rat}(h:q.den≠1):Lib.cut (Sq q).data.toList [47]=((Sz q.num).data.toList,Lib.decDigits q.den,true):=by
 rw[ic h];exact z1N 47 _ _ (z2z 47 (by decide) (by decide) _)
theorem z1M (z:Int):Lib.cut (Sz z).data.toList [47]=((Sz z).data.toList,[],false):=yH 47 _ (z2z 47 (by decide) (by decide) _)
def vldP (n d:List UInt8):Bool:=vldZ n&&vldZ d && !(d==[49])&&decide (1≤zval d)&&(Nat.gcd (zval n).natAbs (zval d).natAbs==1)
def vldQ (l:List UInt8):Bool:=if (Lib.cut l [47]).2.2 then vldP (Lib.cut l [47]).1 (Lib.cut l [47]).2.1 else vldZ l
def qval (l:List UInt8):Rat:=if (Lib.cut l [47]).2.2 then mkRat (zval (Lib.cut l [47]).1) (zval (Lib.cut l [47]).2.1).toNat else Rat.ofInt (zval l)
theorem z4i {l:List UInt8}(h:vldZ l=true):(Sz (zval l)).data.toList=l:=by
 have h1:=z0q (a:=⟨l.toArray⟩) (by simpa using h);have h2:=congrArg (fun b:ByteArray=>b.data.toList) h1;simpa using h2.symm
theorem z3A {l:List UInt8}(h:vldZ l=true)(h1:1≤zval l):l=Lib.decDigits (zval l).toNat:=by
 have h2:=z4i h;obtain⟨n,hn⟩:∃ n:Nat,zval l=n:=⟨(zval l).toNat,by omega⟩;rw[hn,dU,cK]at h2;rw[hn,Int.toNat_natCast,h2]
theorem zy (z:Int)(n:Nat)(hn:n≠0)(hg:Nat.gcd z.natAbs n=1):(mkRat z n).num=z∧(mkRat z n).den=n:=by
 have h:=mX z n hn;rw[hg]at h;simpa using h
theorem z6e {a:ByteArray}(h:vldQ a.data.toList=true):a=Sq (qval a.data.toList):=by
 cases a with
 | mk d =>
   simp only at h ⊢;obtain⟨l,rfl⟩:∃ l:List UInt8,d=l.toArray:=⟨d.toList,rfl⟩;simp only at h ⊢;rcases og 47 l with⟨_,e⟩|⟨x,y,_,el,e⟩
   · unfold vldQ at h
     unfold qval
     rw[e]at h ⊢;simp only[Bool.false_eq_true,if_false]at h ⊢;rw[xJ];have h2:=z0q (a:=⟨l.toArray⟩) (by simpa using h);simpa using h2
   · unfold vldQ at h
     unfold qval
     rw[e]at h ⊢;simp only[if_true]at h ⊢;unfold vldP at h
     simp only[Bool.and_eq_true,decide_eq_true_eq,Bool.not_eq_true',beq_iff_eq]at h;obtain⟨⟨⟨⟨h1,h2⟩,h3⟩,h4⟩,h5⟩:=h;have hy:=z3A h2 h4;have hx:=z4i h1;obtain⟨m,hm⟩:∃ m:Nat,zval y=m:=⟨(zval y).toNat,by omega⟩;rw[hm]at h4 h5 hy ⊢;rw[Int.toNat_natCast]at hy ⊢;rw[Int.natAbs_natCast]at h5;obtain⟨p1,p2⟩:=zy (zval x) m (by omega) h5
     have hm1:m≠1:=by
        intro h6;subst h6;rw[Lib.decDigits_one (by decide)]at hy;rw[hy]at h3;simp at h3
     rw[qL (by rw[p2];exact hm1),p1,p2,hx,← hy,el]
theorem z4j (q:Rat):qval (Sq q).data.toList=q:=by
 unfold qval
 by_cases h:q.den=1
 · rw[jr h,z1M]
   simp only[Bool.false_eq_true,if_false];rw[xG];exact Rat.ext rfl h.symm
 · rw[yI h]
   simp only[if_true];rw[xG,mV,Int.toNat_natCast];exact Rat.mkRat_self q
theorem z0x (q:Rat):(Sq q).toList=(Sq q).data.toList:=toList_data _
theorem z0w {x y:Rat}(h:x≠y):((Sq x).toList==(Sq y).toList)=false:=by
 rw[beq_eq_false_iff_ne,z0x,z0x];intro h2;apply h
 rw[← z4j x,← z4j y,h2]
def SmQ (k:Nat) (q:Rat):Prop:=Sm k q.num.natAbs∧Sm k q.den
def aO (q:Rat):Prop:=SmQ 900 q
theorem SmQ.mono {k l:Nat}{q:Rat}(h:SmQ k q)(hkl:k≤l):SmQ l q:=⟨h.1.mono hkl,h.2.mono hkl⟩
theorem SmQ.fit {k:Nat}{q:Rat}(h:SmQ k q)(hk:k≤900):aO q:=SmQ.mono h hk
theorem SmQ.neg {k:Nat}{q:Rat}(h:SmQ k q):SmQ k (-q):=by
 obtain⟨e1,e2⟩:=z1a q;unfold SmQ
 rw[e1,e2,Int.natAbs_neg];exact h
theorem z3a (z:Int)(n:Nat)(hn:n≠0):(mkRat z n).num.natAbs≤z.natAbs∧(mkRat z n).den≤n:=by
 obtain⟨e1,e2⟩:=mX z n hn;rw[e1,e2];exact⟨Int.natAbs_ediv_le_natAbs _ _,Nat.div_le_self _ _⟩
theorem z4m {k:Nat}{z:Int}{n:Nat}(hn:n≠0)(h1:Sm k z.natAbs)(h2:Sm k n):SmQ k (mkRat z n):=by
 obtain⟨e1,e2⟩:=z3a z n hn;exact⟨h1.le e1,h2.le e2⟩
theorem iU (x y:Rat):x.den*y.den≠0:=Nat.mul_ne_zero x.den_nz y.den_nz
theorem SmQ.add {k l:Nat}{x y:Rat}(hx:SmQ k x)(hy:SmQ l y):SmQ (k+l+1) (x+y):=by
 rw[jI];refine z4m (iU x y) ?_ ((hx.2.mul hy.2).mono (by omega));refine Sm.le ?_ (Int.natAbs_add_le _ _);rw[Int.natAbs_mul,Int.natAbs_mul,Int.natAbs_natCast,Int.natAbs_natCast];exact Sm.add (hx.1.mul hy.2) ((hy.1.mul hx.2).mono (by omega))
theorem SmQ.sub {k l:Nat}{x y:Rat}(hx:SmQ k x)(hy:SmQ l y):SmQ (k+l+1) (x-y):=by
 rw[Rat.sub_eq_add_neg];exact hx.add hy.neg
theorem SmQ.mul {k l:Nat}{x y:Rat}(hx:SmQ k x)(hy:SmQ l y):SmQ (k+l) (x*y):=by
 rw[jA];refine z4m (iU x y) ?_ (hx.2.mul hy.2);rw[Int.natAbs_mul];exact hx.1.mul hy.1
theorem SmQ.inv {k:Nat}{x:Rat}(hx:SmQ k x)(h0:x≠0):SmQ k x⁻¹:=by
 have hn:x.num≠0:=fun h=>h0 (Rat.num_eq_zero.1 h);rcases Int.lt_or_gt_of_ne hn with h|h
 · obtain⟨e1,e2⟩:=kS h
   unfold SmQ
   rw[e1,Int.natAbs_neg,Int.natAbs_natCast,show(x⁻¹).den=x.num.natAbs by omega];exact⟨hx.2,hx.1⟩
 · obtain⟨e1,e2⟩:=nW h
   unfold SmQ
   rw[e1,Int.natAbs_natCast,show(x⁻¹).den=x.num.natAbs by omega];exact⟨hx.2,hx.1⟩
theorem SmQ.div {k l:Nat}{x y:Rat}(hx:SmQ k x)(hy:SmQ l y)(h0:y≠0):SmQ (k+l) (x / y):=by
 rw[Rat.div_def];exact hx.mul (hy.inv h0)
theorem jv {z:Int}{k:Nat}(h:(Sz z).size≤k):Sm k z.natAbs:=by
 rcases bZ z with⟨n,hn,rfl⟩|rfl|⟨n,hn,rfl⟩
 · rw[Int.natAbs_neg,Int.natAbs_natCast]
   rw[jq hn]at h
   have h1:=Sm.of (a:=Sn n) (k:=k) (eG n) (by
    have h2:(Sn n).size=(Lib.decDigits n).length:=by rw[← aF,cK]
    have h3:(⟨(45 :: Lib.decDigits n).toArray⟩:ByteArray).size=(Lib.decDigits n).length+1:=by simp[ByteArray.size]
    omega)
   rwa [cu]at h1
 · rw[show Sz 0=Sn 0 from dU 0]at h
   have h1:=Sm.of (a:=Sn 0) (k:=k) (eG 0) h;rwa [cu]at h1
 · rw[Int.natAbs_natCast]
   rw[dU]at h;have h1:=Sm.of (a:=Sn n) (k:=k) (eG n) h;rwa [cu]at h1
theorem z4l {q:Rat}{k:Nat}(h:(Sq q).size≤k)(hk:0<k):SmQ k q:=by
 by_cases h1:q.den=1
 · rw[jr h1]at h
   refine⟨jv h,?_⟩;rw[h1];exact Nat.one_lt_pow (by omega) (by decide)
 · have h2:(Sq q).size=(Sz q.num).size+1+(Sn q.den).size:=by
    rw[← aF,ic h1,← aF,← aF,cK];simp;omega
   refine⟨jv (by omega),?_⟩;have h3:=Sm.of (a:=Sn q.den) (k:=k) (eG _) (by omega);rwa [cu]at h3
theorem aO.num {q:Rat}(h:aO q):FitZ q.num:=by unfold FitZ Fit;exact Sm.mono (k:=900) h.1 (by decide)
theorem aO.den {q:Rat}(h:aO q):Fit q.den:=by unfold Fit;exact Sm.mono (k:=900) h.2 (by decide)
theorem jZ {z:Int}{k:Nat}(h:Sm k z.natAbs)(hk:0<k):(Sz z).size≤k+1:=by
 rcases bZ z with⟨n,hn,rfl⟩|rfl|⟨n,hn,rfl⟩
 · rw[Int.natAbs_neg,Int.natAbs_natCast]at h
   have h1:=iD h hk;have h2:(Sn n).size=(Lib.decDigits n).length:=by rw[← aF,cK]
   have h3:(Sz (-(n:Int))).size=(Lib.decDigits n).length+1:=by rw[jq hn];simp[ByteArray.size]
   omega
 · have h1:=iD h hk
   rw[show Sz 0=Sn 0 from dU 0];simp at h1
   omega
 · rw[Int.natAbs_natCast]at h
   have h1:=iD h hk;rw[dU];omega
theorem z0v {q:Rat}{k:Nat}(h:SmQ k q)(hk:0<k):(Sq q).size≤k+1+1+k:=by
 have h1:=jZ h.1 hk;have h2:=iD h.2 hk;by_cases h3:q.den=1
 · rw[jr h3];omega
 · have h4:(Sq q).size=(Sz q.num).size+1+(Sn q.den).size:=by
    rw[← aF,ic h3,← aF,← aF,cK];simp;omega
   omega
theorem pW {n:Nat}(h:n<10^18):Lib.parseIntB 64 (Lib.decDigits n)=.ok (n:Int):=by
 have hl:(Lib.decDigits n).length≤18:=rU 18 n h (by decide);have hp:=nN (Lib.decDigits n) (nG n) (by omega);rw[gp]at hp;obtain⟨c,t,hd,hc⟩:=jP (n:=n);have hD:isD c=true:=List.all_eq_true.1 (je n) c (by rw[hd];exact List.mem_cons_self);have hD':=(fw c).1 hD;rw[hd]at hp ⊢;unfold Lib.parseIntB
 have h1:¬ c.toNat=43:=by omega
 have h2:¬ c.toNat=45:=by omega
 simp only[h1,h2,or_self,if_false,hp]
 have h3:¬ (2^(64-1)≤n):=by
  have:(10:Nat)^18<2^(64-1):=by decide
  omega
 simp[h3]
theorem zx {n:Nat}(h:n<10^18):Lib.parseIntB 64 (45 :: Lib.decDigits n)=.ok (-(n:Int)):=by
 have hl:(Lib.decDigits n).length≤18:=rU 18 n h (by decide);have hp:=nN (Lib.decDigits n) (nG n) (by omega);rw[gp]at hp;unfold Lib.parseIntB
 have e:(45:UInt8).toNat=45:=rfl;simp only[e,or_true,if_true,hp]
 have h3:¬ (2^(64-1)<n):=by
  have:(10:Nat)^18<2^(64-1):=by decide
  omega
 simp[h3]
theorem z2V {z:Int}(h:(Sz z).size≤18):Lib.parseIntB 64 (Sz z).data.toList=.ok z:=by
 have hs:=jv h;rcases bZ z with⟨n,hn,rfl⟩|rfl|⟨n,hn,rfl⟩
 · rw[Int.natAbs_neg,Int.natAbs_natCast]at hs
   rw[jq hn];exact zx hs
 · rw[show Sz 0=Sn 0 from dU 0,cK]
   exact pW (by decide)
 · rw[Int.natAbs_natCast]at hs
   rw[dU,cK];exact pW hs
theorem z1k (z:Int):(⟨(Lib.itoa z).toArray⟩:ByteArray)=Sz z:=by
 unfold Lib.itoa Sz
 split
 · rfl
 · unfold Sn
   rw[show z.toNat=z.natAbs by omega]
open Go.ChangeShapes Go.WideShapes Go.ChangeAt Go.WideMaps Go.WideElems Go.RowKit
theorem own:ownKnob Tryz.prog.godebug=none:=by kernel_rfl
theorem gTab:Tryz.prog.globalNamed "internal/strconv.uint64pow10" = some 2:=by kernel_rfl
theorem z3k:(Tryz.prog.globals[2]?).map (·.type)=some 225:=by kernel_rfl
theorem z3I:Tryz.prog.cellsOf 225=20:=by kernel_rfl
theorem z3H:Tryz.prog.cellsOf 112=1:=by kernel_rfl
def z6P:List (String × DataW Unit):=[("math/bits.deBruijn32tab",Rows.laid_math_bits_deBruijn32tab),("math/bits.deBruijn64tab",Rows.laid_math_bits_deBruijn64tab),("internal/strconv.uint64pow10",Rows.laid_internal_strconv_uint64pow10),("strconv.ErrRange",Rows.laid_strconv_ErrRange),("strconv.ErrSyntax",Rows.laid_strconv_ErrSyntax)]
end Go.Proofs.YtoaeaiiabelhkaaGreatDoor
namespace Go.Proofs.YtoaeaiiabelhkaaGreatDoor
open Go.ChangeShapes Go.WideShapes Go.ChangeAt Go.WideMaps Go.WideElems Go.RowKit Go.Gb
open Go.ChangeMaps (open_string shut_string)
theorem zt {H:Type}{enc:TypeId × Value→H}{P:Program}{f:Func}{s:ChangeSpec}{apart fresh handsOn again:Bool}{W W':World}{args:Array Value}{v:Value}{ds gs:List (DataW H)}
 (hW:DataW.Whole enc P f.params.toList s.vars apart W args.toList ds gs [])
 (hres:∀ (b:Nat) (sp:Nat→Bool) (hd:Bool),DataW.TrodAll enc P W' b sp hd f.resultTypes.toList (v.resultList f.resultTypes.size) (s.fn H (ds++gs)).results [])
 (hargs:∀ sp:Nat→Bool,DataW.TrodAll enc P W' 0 sp true f.params.toList args.toList (s.fn H (ds++gs)).args [])
 (hvars:∀ sp:Nat→Bool,DataW.TrodVars enc P W' sp s.vars (s.fn H (ds++gs)).vars [])
 (hk:W.keptBut W' (fun _=>False))
 (hok:∀ (j:Nat) (t:TypeId) (r:Value),f.resultTypes[j]? = some t→(v.resultList f.resultTypes.size)[j]? = some r→Value.okWide P W' .any 0 t r) :
 s.post enc P f apart fresh handsOn again W args v W':=by
 refine⟨ds,gs,[],[],[],[],hW,hres _ _ _,hargs _,hvars _,World.keptBut_mono (fun p hp=>hp.elim) hk,fun _=>?_⟩;refine⟨hok,_,_,([]++[])++[],⟨[]++[],[],trodAll_append (hargs _) (hres _ _ _),hvars _,rfl,?_,?_⟩,?_⟩
 · intro b off hp
   simp at hp
 · intro ha
   simp
 · intro p hp _
   simp at hp
end Go.Proofs.YtoaeaiiabelhkaaGreatDoor
namespace Go.Proofs.YtoaeaiiabelhkaaGreatDoor
open Go.ChangeShapes Go.WideShapes Go.ChangeAt Go.WideMaps Go.WideElems Go.RowKit
theorem z5p:Tryz.prog.globalNamed "garboard/integer.zero" = some 1:=by kernel_rfl
theorem z1s:(Tryz.prog.globals[1]?).map (·.type)=some 137:=by kernel_rfl
def jC:List (String × DataW Unit):=[("math/bits.deBruijn32tab",Rows.laid_math_bits_deBruijn32tab),("math/bits.deBruijn64tab",Rows.laid_math_bits_deBruijn64tab),("internal/strconv.uint64pow10",Rows.laid_internal_strconv_uint64pow10),("strconv.ErrRange",Rows.laid_strconv_ErrRange),("strconv.ErrSyntax",Rows.laid_strconv_ErrSyntax),("garboard/integer.zero",Rows.laid_garboard_integer_zero)]
theorem zB {W:World}(h:laidMetH Tryz.prog jC W):La W:=by
 rw[MakeChecks.laidMetH_plain _ _ _ (by kernel_rfl)]at h;obtain⟨ps,⟨g0,t0,cs0,f0,p0,q0,hg0,ht0,hv0,hd0,⟨g1,t1,cs1,f1,p1,q1,hg1,ht1,hv1,hd1,⟨g2,t2,cs2,f2,p2,q2,hg2,ht2,hv2,hd2,⟨g3,t3,cs3,f3,p3,q3,hg3,ht3,hv3,hd3,⟨g4,t4,cs4,f4,p4,q4,hg4,ht4,hv4,hd4,⟨g5,t5,cs5,f5,p5,q5,hg5,ht5,hv5,hd5,_,_⟩,_⟩,_⟩,_⟩,_⟩,_⟩,_,_⟩:=h;obtain rfl:=Option.some.inj (gTab.symm.trans hg2);obtain rfl:=Option.some.inj (z3k.symm.trans ht2);obtain rfl:=Option.some.inj (z5p.symm.trans hg5);obtain rfl:=Option.some.inj (z1s.symm.trans ht5);refine⟨?_,?_⟩
 · unfold Tb Lib.TabIs
   rw[hv2];congr 1
   apply Array.ext'
   rw[Lib.cells_of_tab (k:=.u64) (zs:=Lib.pow10Tab) underlying225 underlying112 z3H z3I hd2]
 · obtain⟨k0,k1,hu,e0,o0,e1,o1⟩:∃ k0 k1:Field,Tryz.prog.underlying 137=some (.struct #[k0,k1])∧k0.type=3∧k0.offset=0∧k1.type=9∧k1.offset=1:=⟨_,_,underlying137,rfl,rfl,rfl,rfl⟩
   obtain⟨y0,y1,n,hx,hlen,h0,h1⟩:=trod_struct2 hu hd5;rw[e0,o0]at h0;rw[e1,o1]at h1;obtain⟨m,hc0,hy0,_⟩:=DataW.trod_int underlying3 h0;obtain⟨s,hc1,hy1,_⟩:=DataW.trod_string underlying9 h1;subst hy0 hy1;have hc:Tryz.prog.cellsOf 137=2:=by kernel_rfl
   have hci:Tryz.prog.cellsOf 3=1:=by kernel_rfl
   have hcs:Tryz.prog.cellsOf 9=1:=by kernel_rfl
   rw[hc]at hlen;rw[hci]at hc0;rw[hcs]at hc1
   have hd:m=0∧s.data.toList=[48]:=by
    have:=congrArg Prod.fst hx;simpa [Rows.laid_garboard_integer_zero,eq_comm] using this
   obtain⟨rfl,hs⟩:=hd
   have hs':s=⟨#[48]⟩:=by
    cases s with
    | mk d=>exact congrArg ByteArray.mk (Array.ext' hs)
   subst hs'
   have hl:cs5.toList=[.int .i64 0,.string ⟨#[48]⟩]:=by
    match hcs5:cs5.toList,hlen with
    | [a,b],_ =>
      rw[hcs5]at hc0 hc1;simp at hc0 hc1
      rw[hc0,hc1]
   have g0':=World.var?_cell z5p hv5 0;have g1':=World.var?_cell z5p hv5 1;have ha:cs5=#[.int .i64 0,.string ⟨#[48]⟩]:=Array.ext' hl;rw[ha]at g0' g1';have c0:W.cell? ⟨1,0,none⟩=some (.int .i64 0):=by simpa using g0'
   have c1:W.cell? ⟨1,1,none⟩=some (.string ⟨#[48]⟩):=by simpa using g1'
   exact⟨World.block_lt_of_cell? W _ c0,c0,c1⟩
theorem z1F (os:Os)(args:Array Value):laidMetH Tryz.prog jC ((World.doorLaid Tryz.prog 4000 os).forCall (fun _ _=>0) ⟨#[],args,[]⟩).memory:=by
 rw[MakeChecks.laidMetH_plain _ _ _ (by kernel_rfl)];exact laidMet_of_run' 8 (by kernel_rfl) (by kernel_rfl)
end Go.Proofs.YtoaeaiiabelhkaaGreatDoor
namespace Go.Proofs.YtoaeaiiabelhkaaGreatDoor
open Go.ChangeShapes Go.WideShapes Go.ChangeAt Go.WideMaps Go.WideElems Go.RowKit Go.Gb Go.Joins
open Go.ChangeMaps (open_string shut_string)
