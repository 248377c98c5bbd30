/- texts -/
import Derived.Test.YtodcdibanokjjaaGreatDoorYa
open Go.Proofs.Tryz
set_option maxRecDepth 100000
set_option maxHeartbeats 20000000
open Go.Lib (hid)
namespace Go.Proofs.YtodcdibanokjjaaGreatDoor
open Go.RowKit Go.Gb
theorem z3c (s t:ByteArray)(x y:Rat)  (w:World)  (h1:KBo 32 (.string s) (.string t) x y 1)  :
 CR 11 #[.string s,.string t] w (.tuple #[.string ⟨#[]⟩,.int .i64 1]):=by
 have C1:=hid h1;clear h1;go_enter func11,ntmps11
 have HB0:=hid (Below.refl w.heap.size w);go_wp2_with fail
 with_reducible refine(C1.out _).mono ?_
 rintro e W1 ⟨u01,u02,rfl,u06,u07,hb⟩;have HB1:=hbt HB0 hb;have RX:=hid u06;have RY:=hid u07;clear hb u06 u07;go_upto_region 2 with fail
 refine ay W1 [(#[.bool u01.b,.slice u01.a u01.n u01.c,.slice u01.e u01.m u01.d],48),(#[.bool u02.b,.slice u02.a u02.n u02.c,.slice u02.e u02.m u02.d],48)] rfl ?_;have L1:=HB1.out.size;rintro W2 ⟨k1,k2,hb⟩;have hb:Below W1.heap.size W1 W2:=hb;have HB2:=hbt HB1 hb;have K1:=hid k1;have K2:=hid k2;clear k1 k2 hb;go_wp2;exact bodyPost_ret (v:=.tuple #[.string ⟨#[]⟩,.int .i64 1]) (by simp[results,results11,go_sem]) rfl ⟨rfl,HB2.out⟩
theorem z3G (s t:ByteArray)(x y:Rat)  (w:World)  (h1:KBo 32 (.string s) (.string t) x y 0)(h2:KBe 33 x false)  :
 CR 11 #[.string s,.string t] w (.tuple #[.string ⟨#[]⟩,.int .i64 2]):=by
 have C1:=hid h1;have C2:=hid h2;clear h1 h2;go_enter func11,ntmps11
 have HB0:=hid (Below.refl w.heap.size w);go_wp2_with fail
 with_reducible refine(C1.out _).mono ?_
 rintro e W1 ⟨u01,u02,rfl,u06,u07,hb⟩;have HB1:=hbt HB0 hb;have RX:=hid u06;have RY:=hid u07;clear hb u06 u07;go_upto_region 2 with fail
 refine ay W1 [(#[.bool u01.b,.slice u01.a u01.n u01.c,.slice u01.e u01.m u01.d],48),(#[.bool u02.b,.slice u02.a u02.n u02.c,.slice u02.e u02.m u02.d],48)] rfl ?_;have L1:=HB1.out.size;rintro W2 ⟨k1,k2,hb⟩;have hb:Below W1.heap.size W1 W2:=hb;have RX:=hid (RX.out.below hb);have HB2:=hbt HB1 hb;have K1:=hid k1;have K2:=hid k2;clear k1 k2 hb;obtain ⟨dK10,dK11,dK12⟩:=aA K1.out rfl rfl rfl;go_wp2_with fail
 with_reducible refine(C2.out _ _ RX.out).mono ?_
 rintro e W3 ⟨rfl,hb⟩;clear dK10 dK11 dK12;have HB3:=hbt HB2 hb;clear hb;go_wp2;exact bodyPost_ret (v:=.tuple #[.string ⟨#[]⟩,.int .i64 2]) (by simp[results,results11,go_sem]) rfl ⟨rfl,HB3.out⟩
theorem z3F (s t:ByteArray)(x y:Rat)  (w:World)  (h1:KBo 32 (.string s) (.string t) x y 0)(h2:KBe 33 x true)(h3:KBe 33 y false)  :
 CR 11 #[.string s,.string t] w (.tuple #[.string ⟨#[]⟩,.int .i64 2]):=by
 obtain ⟨C1,C2,C3⟩:=ai h1 h2 h3;clear h1 h2 h3;go_enter func11,ntmps11
 have HB0:=hid (Below.refl w.heap.size w);go_wp2_with fail
 with_reducible refine(C1.out _).mono ?_
 rintro e W1 ⟨u01,u02,rfl,u06,u07,hb⟩;have HB1:=hbt HB0 hb;have RX:=hid u06;have RY:=hid u07;clear hb u06 u07;go_upto_region 2 with fail
 refine ay W1 [(#[.bool u01.b,.slice u01.a u01.n u01.c,.slice u01.e u01.m u01.d],48),(#[.bool u02.b,.slice u02.a u02.n u02.c,.slice u02.e u02.m u02.d],48)] rfl ?_;have L1:=HB1.out.size;rintro W2 ⟨k1,k2,hb⟩;have hb:Below W1.heap.size W1 W2:=hb;have RX:=hid (RX.out.below hb);have RY:=hid (RY.out.below hb);have HB2:=hbt HB1 hb;have K1:=hid k1;have K2:=hid k2;clear k1 k2 hb;obtain ⟨dK10,dK11,dK12⟩:=aA K1.out rfl rfl rfl;go_wp2_with fail
 with_reducible refine(C2.out _ _ RX.out).mono ?_
 rintro e W3 ⟨rfl,hb⟩;clear dK10 dK11 dK12;have K2:=hid (K2.out.below hb);have RY:=hid (RY.out.below hb);have HB3:=hbt HB2 hb;clear hb;obtain ⟨dK20,dK21,dK22⟩:=aA K2.out rfl rfl rfl;go_wp2_with fail
 with_reducible refine(C3.out _ _ RY.out).mono ?_
 rintro e W4 ⟨rfl,hb⟩;clear dK20 dK21 dK22;have HB4:=hbt HB3 hb;clear hb;go_wp2;exact bodyPost_ret (v:=.tuple #[.string ⟨#[]⟩,.int .i64 2]) (by simp[results,results11,go_sem]) rfl ⟨rfl,HB4.out⟩
theorem yM (s t:ByteArray)(x y:Rat)(u m d:Rat)  (w:World)  (h1:KBo 32 (.string s) (.string t) x y 0)(h2:KBe 33 x true)(h3:KBe 33 y true)(h4:KS 35 (.int .i64 1) u)(h5:KQ2 36 x y m)(h6:KQ2 34 u m d)(h7:KP1 37 d (.int .i64 0))  :
 CR 11 #[.string s,.string t] w (.tuple #[.string ⟨#[]⟩,.int .i64 15]):=by
 obtain ⟨C1,C2,C3,C4,C5,C6,C7⟩:=cB h1 h2 h3 h4 h5 h6 h7;clear h1 h2 h3 h4 h5 h6 h7;go_enter func11,ntmps11
 have HB0:=hid (Below.refl w.heap.size w);go_wp2_with fail
 with_reducible refine(C1.out _).mono ?_
 rintro e W1 ⟨u01,u02,rfl,u06,u07,hb⟩;have HB1:=hbt HB0 hb;have RX:=hid u06;have RY:=hid u07;clear hb u06 u07;go_upto_region 2 with fail
 refine ay W1 [(#[.bool u01.b,.slice u01.a u01.n u01.c,.slice u01.e u01.m u01.d],48),(#[.bool u02.b,.slice u02.a u02.n u02.c,.slice u02.e u02.m u02.d],48)] rfl ?_;have L1:=HB1.out.size;rintro W2 ⟨k1,k2,hb⟩;have hb:Below W1.heap.size W1 W2:=hb;have RX:=hid (RX.out.below hb);have RY:=hid (RY.out.below hb);have HB2:=hbt HB1 hb;have K1:=hid k1;have K2:=hid k2;clear k1 k2 hb;obtain ⟨dK10,dK11,dK12⟩:=aA K1.out rfl rfl rfl;go_wp2_with fail
 with_reducible refine(C2.out _ _ RX.out).mono ?_
 rintro e W3 ⟨rfl,hb⟩;clear dK10 dK11 dK12;obtain ⟨K1,K2,RX,RY⟩:=aG (K1.out.below hb) (K2.out.below hb) (RX.out.below hb) (RY.out.below hb);have HB3:=hbt HB2 hb;clear hb;obtain ⟨dK20,dK21,dK22⟩:=aA K2.out rfl rfl rfl;go_wp2_with fail
 with_reducible refine(C3.out _ _ RY.out).mono ?_
 rintro e W4 ⟨rfl,hb⟩;clear dK20 dK21 dK22;obtain ⟨K1,K2,RX,RY⟩:=aG (K1.out.below hb) (K2.out.below hb) (RX.out.below hb) (RY.out.below hb);have HB4:=hbt HB3 hb;clear hb;go_wp2_with fail
 have L2:=K1.out.lt;have L3:=K2.out.lt;have L4:=HB4.out.size;refine aC (fun a0 a' V=>∃ (u04:QS) (u05:QS) (u00:QS) (gn1:Nat),a'=⟨putL [(29,u04.v),(30,u01.v),(31,u02.v),(32,u05.v),(33,u00.v),(9,.pointer (some ⟨gn1,0,none⟩))] a0.tmps,a0.defers⟩∧Below w.heap.size w V∧SBk V (gn1) #[.bool u00.b,.slice u00.a u00.n u00.c,.slice u00.e u00.m u00.d] 48∧FQ V u00 d∧W4.heap.size≤gn1) ?_ ?_
 · refine aB (by kernel_rfl) 6 1 (fun i=>[29,30,31,32,33,9].getD i 0) (RelR [Rel.q u,Rel.val (u01.v),Rel.val (u02.v),Rel.q m,Rel.q d,Rel.ptr W4.heap.size (.cells #[.bool false,.slice none 0 0,.slice none 0 0] 48)]) (fun W=>Below W4.heap.size W4 W) (fun _ _=>True) (by kernel_rfl) (by kernel_rfl) (by kernel_rfl) trivial (Below.refl _ _).drew ?_ ?_
   · intro listed a W i hI hD hrd him
     obtain ⟨HI,Hr⟩:=aF hI hrd;clear hI hrd hD;have y6:a.tmps[6]? = some (.pointer (some ⟨W1.heap.size,0,none⟩)):=HI.out.rest 6 (by decide);have y7:a.tmps[7]? = some (.pointer (some ⟨W1.heap.size+1,0,none⟩)):=HI.out.rest 7 (by decide);obtain⟨dK10,dK11,dK12⟩:=cells3 (K1.out.below HI.out.world);obtain⟨dK20,dK21,dK22⟩:=cells3 (K2.out.below HI.out.world);have X1:RV _ listed a 1 30 (u01.v):=HI.out.rh;have X2:RV _ listed a 2 31 (u02.v):=HI.out.rh
     match i,him,Hr with
     | 1,_,Hi|2,_,Hi =>
       refine au rfl fun K' hK=>?_;go_simp;exact hK.out _ _ ⟨HI.out.pv Hi.out rfl,trivial⟩
     | 0,_,Hi =>
       refine au rfl fun K' hK=>?_;go_simp;with_reducible refine(C4.out _).mono ?_
       rintro e W' ⟨u04,rfl,u0c,hb⟩;exact hK.out _ _ ⟨HI.out.pc Hi.out hb ⟨u04,rfl,u0c⟩,trivial⟩
     | 3,_,Hi =>
       have x1:=X1.g Hi.out (by kernel_rfl);have x2:=X2.g Hi.out (by kernel_rfl);refine au rfl fun K' hK=>?_;go_simp;with_reducible refine(C5.out _ _ _ (RX.out.below HI.out.world) (RY.out.below HI.out.world)).mono ?_
       rintro e W' ⟨u05,rfl,u0d,hb⟩;exact hK.out _ _ ⟨HI.out.pc Hi.out hb ⟨u05,rfl,u0d⟩,trivial⟩
     | 4,_,Hi =>
       obtain⟨u04,x0,u09⟩:=qAt HI.out 0 29 Hi.out (by kernel_rfl);obtain⟨u05,x3,u0a⟩:=qAt HI.out 3 32 Hi.out (by kernel_rfl);refine au rfl fun K' hK=>?_;go_simp;with_reducible refine(C6.out _ _ _ u09.out u0a.out).mono ?_
       rintro e W' ⟨u00,rfl,u0e,hb⟩;exact hK.out _ _ ⟨HI.out.pc Hi.out hb ⟨u00,rfl,u0e⟩,trivial⟩
     | 5,_,Hi =>
       refine au rfl fun K' hK=>?_;go_simp;exact hK.out _ _ ⟨HI.out.pc Hi.out ((Below.refl W.heap.size W).alloc (Nat.le_refl _) (.cells #[.bool false,.slice none 0 0,.slice none 0 0] 48)) ⟨W.heap.size,rfl,HI.out.world.size,SBk.new _ _ _⟩,trivial⟩
     | n+6,h,_=>exact absurd h (by omega)
   · intro listed a W hI hD hall
     obtain⟨u04,x0,u09⟩:=qEnd hI hall 0 29;obtain⟨u05,x3,u0a⟩:=qEnd hI hall 3 32;obtain⟨u00,x4,u0f⟩:=qEnd hI hall 4 33;obtain⟨v',x5,gn1,e,hge,hsb⟩:=hI.slots 5 (by decide) (hall 5 (by decide));obtain rfl:=e;have x5:a.tmps[9]? = some (.pointer (some ⟨gn1,0,none⟩)):=x5;obtain ⟨RRG,hsb⟩:=aF hge hsb;clear hge;obtain ⟨HBW,HI,HA⟩:=ai hI.world hI hall;clear hI hall;have K3:Hid (SBk W gn1 #[.bool false,.slice none 0 0,.slice none 0 0] 48):=hsb;have HBX:=hid (HB4.out.trans (HBW.out.mono HB4.out.size));have RU:=u09;have RM:=u0a;have RD:=u0f;obtain⟨dK30,dK31,dK32⟩:=cells3 K3.out;obtain⟨fK30,fK31,fK32⟩:=frz3 K3.out;dsimp only[QS.v]at x4;refine aR (t:=0) ?_;refine au rfl fun K' hK=>?_;go_simp;refine hK.out _ _ ?_;clear hK;refine bf ?_;rw[← eu];have s0:∀ {q':QS} {x':Rat},FQ W q' x'→FQ (storeAll W (gn1) 0 [.bool u00.b,.slice u00.a u00.n u00.c,.slice u00.e u00.m u00.d]) q' x':=fun h'=>bZ _ 0 h' K3.out (by simp[bO]) (by simp[bA]);exact⟨rfl,u04,u05,u00,gn1,(HI.out.finx ⟨x0,HI.out.sx HA.out 1,HI.out.sx HA.out 2,x3,x4,x5,trivial⟩ rfl),(av (l:=[.bool u00.b,.slice u00.a u00.n u00.c,.slice u00.e u00.m u00.d]) (i:=0) (by have:=RRG.out;omega) HBX.out),(bD K3.out),(s0 RD.out),RRG.out⟩
 rintro a' W5 ⟨u04,u05,u00,gn1,rfl,z0,z1,z2,z3⟩;obtain ⟨HB5,K3,RD,RRW5⟩:=aG z0 z1 z2 z3;clear z0 z1 z2 z3;simp only[putL,List.setIfInBounds_toArray,List.set_cons_zero,List.set_cons_succ];obtain ⟨dK30,dK31,dK32⟩:=aA K3.out rfl rfl rfl;go_wp2_with fail
 with_reducible refine(C7.out _ _ RD.out).mono ?_
 rintro e W6 ⟨rfl,hb⟩;clear dK30 dK31 dK32;have HB6:=hbt HB5 hb;clear hb;go_wp2;exact bodyPost_ret (v:=.tuple #[.string ⟨#[]⟩,.int .i64 15]) (by simp[results,results11,go_sem]) rfl ⟨rfl,HB6.out⟩
theorem wW (s t:ByteArray)(x y:Rat)(u m d a z:Rat)(k:Int)  (w:World)(hk:(k==0)=false)(h1:KBo 32 (.string s) (.string t) x y 0)(h2:KBe 33 x true)(h3:KBe 33 y true)(h4:KS 35 (.int .i64 1) u)(h5:KQ2 36 x y m)(h6:KQ2 34 u m d)(h7:KP1 37 d (.int .i64 k))(h8:KQ2 39 x y a)(h9:KQ2 38 a d z)(hA:KBe 33 z false)  :
 CR 11 #[.string s,.string t] w (.tuple #[.string ⟨#[]⟩,.int .i64 15]):=by
 obtain ⟨C1,C2,C3,C4,C5,C6,C7,C8,C9,CA⟩:=gD h1 h2 h3 h4 h5 h6 h7 h8 h9 hA;have hkk:=hk;clear hk h1 h2 h3 h4 h5 h6 h7 h8 h9 hA;go_enter func11,ntmps11
 have HB0:=hid (Below.refl w.heap.size w);go_wp2_with fail
 with_reducible refine(C1.out _).mono ?_
 rintro e W1 ⟨u01,u02,rfl,u06,u07,hb⟩;have HB1:=hbt HB0 hb;have RX:=hid u06;have RY:=hid u07;clear hb u06 u07;go_upto_region 2 with fail
 refine ay W1 [(#[.bool u01.b,.slice u01.a u01.n u01.c,.slice u01.e u01.m u01.d],48),(#[.bool u02.b,.slice u02.a u02.n u02.c,.slice u02.e u02.m u02.d],48)] rfl ?_;have L1:=HB1.out.size;rintro W2 ⟨k1,k2,hb⟩;have hb:Below W1.heap.size W1 W2:=hb;have RX:=hid (RX.out.below hb);have RY:=hid (RY.out.below hb);have HB2:=hbt HB1 hb;have K1:=hid k1;have K2:=hid k2;clear k1 k2 hb;obtain ⟨dK10,dK11,dK12⟩:=aA K1.out rfl rfl rfl;go_wp2_with fail
 with_reducible refine(C2.out _ _ RX.out).mono ?_
 rintro e W3 ⟨rfl,hb⟩;clear dK10 dK11 dK12;obtain ⟨K1,K2,RX,RY⟩:=aG (K1.out.below hb) (K2.out.below hb) (RX.out.below hb) (RY.out.below hb);have HB3:=hbt HB2 hb;clear hb;obtain ⟨dK20,dK21,dK22⟩:=aA K2.out rfl rfl rfl;go_wp2_with fail
 with_reducible refine(C3.out _ _ RY.out).mono ?_
 rintro e W4 ⟨rfl,hb⟩;clear dK20 dK21 dK22;obtain ⟨K1,K2,RX,RY⟩:=aG (K1.out.below hb) (K2.out.below hb) (RX.out.below hb) (RY.out.below hb);have HB4:=hbt HB3 hb;clear hb;go_wp2_with fail
 have L2:=K1.out.lt;have L3:=K2.out.lt;have L4:=HB4.out.size;refine aC (fun a0 a' V=>∃ (u04:QS) (u05:QS) (u00:QS) (gn1:Nat),a'=⟨putL [(29,u04.v),(30,u01.v),(31,u02.v),(32,u05.v),(33,u00.v),(9,.pointer (some ⟨gn1,0,none⟩))] a0.tmps,a0.defers⟩∧Below w.heap.size w V∧SBk V (W1.heap.size) #[.bool u01.b,.slice u01.a u01.n u01.c,.slice u01.e u01.m u01.d] 48∧SBk V (W1.heap.size+1) #[.bool u02.b,.slice u02.a u02.n u02.c,.slice u02.e u02.m u02.d] 48∧SBk V (gn1) #[.bool u00.b,.slice u00.a u00.n u00.c,.slice u00.e u00.m u00.d] 48∧FQ V u01 x∧FQ V u02 y∧FQ V u00 d∧W4.heap.size≤gn1) ?_ ?_
 · refine aB (by kernel_rfl) 6 1 (fun i=>[29,30,31,32,33,9].getD i 0) (RelR [Rel.q u,Rel.val (u01.v),Rel.val (u02.v),Rel.q m,Rel.q d,Rel.ptr W4.heap.size (.cells #[.bool false,.slice none 0 0,.slice none 0 0] 48)]) (fun W=>Below W4.heap.size W4 W) (fun _ _=>True) (by kernel_rfl) (by kernel_rfl) (by kernel_rfl) trivial (Below.refl _ _).drew ?_ ?_
   · intro listed a W i hI hD hrd him
     obtain ⟨HI,Hr⟩:=aF hI hrd;clear hI hrd hD;have y6:a.tmps[6]? = some (.pointer (some ⟨W1.heap.size,0,none⟩)):=HI.out.rest 6 (by decide);have y7:a.tmps[7]? = some (.pointer (some ⟨W1.heap.size+1,0,none⟩)):=HI.out.rest 7 (by decide);obtain⟨dK10,dK11,dK12⟩:=cells3 (K1.out.below HI.out.world);obtain⟨dK20,dK21,dK22⟩:=cells3 (K2.out.below HI.out.world);have X1:RV _ listed a 1 30 (u01.v):=HI.out.rh;have X2:RV _ listed a 2 31 (u02.v):=HI.out.rh
     match i,him,Hr with
     | 1,_,Hi|2,_,Hi =>
       refine au rfl fun K' hK=>?_;go_simp;exact hK.out _ _ ⟨HI.out.pv Hi.out rfl,trivial⟩
     | 0,_,Hi =>
       refine au rfl fun K' hK=>?_;go_simp;with_reducible refine(C4.out _).mono ?_
       rintro e W' ⟨u04,rfl,u0c,hb⟩;exact hK.out _ _ ⟨HI.out.pc Hi.out hb ⟨u04,rfl,u0c⟩,trivial⟩
     | 3,_,Hi =>
       have x1:=X1.g Hi.out (by kernel_rfl);have x2:=X2.g Hi.out (by kernel_rfl);refine au rfl fun K' hK=>?_;go_simp;with_reducible refine(C5.out _ _ _ (RX.out.below HI.out.world) (RY.out.below HI.out.world)).mono ?_
       rintro e W' ⟨u05,rfl,u0d,hb⟩;exact hK.out _ _ ⟨HI.out.pc Hi.out hb ⟨u05,rfl,u0d⟩,trivial⟩
     | 4,_,Hi =>
       obtain⟨u04,x0,u09⟩:=qAt HI.out 0 29 Hi.out (by kernel_rfl);obtain⟨u05,x3,u0a⟩:=qAt HI.out 3 32 Hi.out (by kernel_rfl);refine au rfl fun K' hK=>?_;go_simp;with_reducible refine(C6.out _ _ _ u09.out u0a.out).mono ?_
       rintro e W' ⟨u00,rfl,u0e,hb⟩;exact hK.out _ _ ⟨HI.out.pc Hi.out hb ⟨u00,rfl,u0e⟩,trivial⟩
     | 5,_,Hi =>
       refine au rfl fun K' hK=>?_;go_simp;exact hK.out _ _ ⟨HI.out.pc Hi.out ((Below.refl W.heap.size W).alloc (Nat.le_refl _) (.cells #[.bool false,.slice none 0 0,.slice none 0 0] 48)) ⟨W.heap.size,rfl,HI.out.world.size,SBk.new _ _ _⟩,trivial⟩
     | n+6,h,_=>exact absurd h (by omega)
   · intro listed a W hI hD hall
     obtain⟨u04,x0,u09⟩:=qEnd hI hall 0 29;obtain⟨u05,x3,u0a⟩:=qEnd hI hall 3 32;obtain⟨u00,x4,u0f⟩:=qEnd hI hall 4 33;obtain⟨v',x5,gn1,e,hge,hsb⟩:=hI.slots 5 (by decide) (hall 5 (by decide));obtain rfl:=e;have x5:a.tmps[9]? = some (.pointer (some ⟨gn1,0,none⟩)):=x5;obtain ⟨RRG,hsb⟩:=aF hge hsb;clear hge;obtain ⟨HBW,HI,HA⟩:=ai hI.world hI hall;clear hI hall;obtain ⟨K1,K2,RX,RY⟩:=aG (K1.out.below HBW.out) (K2.out.below HBW.out) (RX.out.below HBW.out) (RY.out.below HBW.out);have K3:Hid (SBk W gn1 #[.bool false,.slice none 0 0,.slice none 0 0] 48):=hsb;have HBX:=hid (HB4.out.trans (HBW.out.mono HB4.out.size));have RU:=u09;have RM:=u0a;have RD:=u0f;obtain⟨dK30,dK31,dK32⟩:=cells3 K3.out;obtain⟨fK30,fK31,fK32⟩:=frz3 K3.out;dsimp only[QS.v]at x4;refine aR (t:=0) ?_;refine au rfl fun K' hK=>?_;go_simp;refine hK.out _ _ ?_;clear hK;refine bf ?_;rw[← eu];have s0:∀ {q':QS} {x':Rat},FQ W q' x'→FQ (storeAll W (gn1) 0 [.bool u00.b,.slice u00.a u00.n u00.c,.slice u00.e u00.m u00.d]) q' x':=fun h'=>bZ _ 0 h' K3.out (by simp[bO]) (by simp[bA]);have o0:∀ {g':Nat} {cs':Array Value} {T':TypeId},g'≠gn1→SBk W g' cs' T'→SBk (storeAll W (gn1) 0 [.bool u00.b,.slice u00.a u00.n u00.c,.slice u00.e u00.m u00.d]) g' cs' T':=fun hg' h'=>aV hg' _ 0 h';exact⟨rfl,u04,u05,u00,gn1,(HI.out.finx ⟨x0,HI.out.sx HA.out 1,HI.out.sx HA.out 2,x3,x4,x5,trivial⟩ rfl),(av (l:=[.bool u00.b,.slice u00.a u00.n u00.c,.slice u00.e u00.m u00.d]) (i:=0) (by have:=RRG.out;omega) HBX.out),(o0 (by have:=RRG.out;omega) K1.out),(o0 (by have:=RRG.out;omega) K2.out),(bD K3.out),(s0 RX.out),(s0 RY.out),(s0 RD.out),RRG.out⟩
 rintro a' W5 ⟨u04,u05,u00,gn1,rfl,z0,z1,z2,z3,z4,z5,z6,z7⟩;obtain ⟨HB5,K1,K2,K3,RX,RY,RD,RRW5⟩:=fH z0 z1 z2 z3 z4 z5 z6 z7;clear z0 z1 z2 z3 z4 z5 z6 z7;simp only[putL,List.setIfInBounds_toArray,List.set_cons_zero,List.set_cons_succ];obtain ⟨dK30,dK31,dK32⟩:=aA K3.out rfl rfl rfl;go_wp2_with fail
 with_reducible refine(C7.out _ _ RD.out).mono ?_
 rintro e W6 ⟨rfl,hb⟩;clear dK30 dK31 dK32;obtain ⟨K1,K2,K3,RX,RY,RD⟩:=bU (K1.out.below hb) (K2.out.below hb) (K3.out.below hb) (RX.out.below hb) (RY.out.below hb) (RD.out.below hb);have HB6:=hbt HB5 hb;clear hb;go_wp2_with fail
 have L7:=K1.out.lt;have L8:=K2.out.lt;have L9:=K3.out.lt;have L10:=HB6.out.size;refine aC (fun a0 a' V=>∃ (u08:QS) (u03:QS) (gn2:Nat),a'=⟨putL [(37,u01.v),(38,u02.v),(39,u08.v),(40,u00.v),(41,u03.v),(10,.pointer (some ⟨gn2,0,none⟩))] a0.tmps,a0.defers⟩∧Below w.heap.size w V∧SBk V (gn2) #[.bool u03.b,.slice u03.a u03.n u03.c,.slice u03.e u03.m u03.d] 48∧FQ V u03 z∧W6.heap.size≤gn2) ?_ ?_
 · refine aB (by kernel_rfl) 6 1 (fun i=>[37,38,39,40,41,10].getD i 0) (RelR [Rel.val (u01.v),Rel.val (u02.v),Rel.q a,Rel.val (u00.v),Rel.q z,Rel.ptr W6.heap.size (.cells #[.bool false,.slice none 0 0,.slice none 0 0] 48)]) (fun W=>Below W6.heap.size W6 W) (fun _ _=>True) (by kernel_rfl) (by kernel_rfl) (by kernel_rfl) trivial (Below.refl _ _).drew ?_ ?_
   · intro listed a W i hI hD hrd him
     obtain ⟨HI,Hr⟩:=aF hI hrd;clear hI hrd hD;have y6:a.tmps[6]? = some (.pointer (some ⟨W1.heap.size,0,none⟩)):=HI.out.rest 6 (by decide);have y7:a.tmps[7]? = some (.pointer (some ⟨W1.heap.size+1,0,none⟩)):=HI.out.rest 7 (by decide);have y9:a.tmps[9]? = some (.pointer (some ⟨gn1,0,none⟩)):=HI.out.rest 9 (by decide);obtain⟨dK10,dK11,dK12⟩:=cells3 (K1.out.below HI.out.world);obtain⟨dK20,dK21,dK22⟩:=cells3 (K2.out.below HI.out.world);obtain⟨dK30,dK31,dK32⟩:=cells3 (K3.out.below HI.out.world);have X0:RV _ listed a 0 37 (u01.v):=HI.out.rh;have X1:RV _ listed a 1 38 (u02.v):=HI.out.rh;have X3:RV _ listed a 3 40 (u00.v):=HI.out.rh
     match i,him,Hr with
     | 0,_,Hi|1,_,Hi|3,_,Hi =>
       refine au rfl fun K' hK=>?_;go_simp;exact hK.out _ _ ⟨HI.out.pv Hi.out rfl,trivial⟩
     | 2,_,Hi =>
       have x0:=X0.g Hi.out (by kernel_rfl);have x1:=X1.g Hi.out (by kernel_rfl);refine au rfl fun K' hK=>?_;go_simp;with_reducible refine(C8.out _ _ _ (RX.out.below HI.out.world) (RY.out.below HI.out.world)).mono ?_
       rintro e W' ⟨u08,rfl,u0g,hb⟩;exact hK.out _ _ ⟨HI.out.pc Hi.out hb ⟨u08,rfl,u0g⟩,trivial⟩
     | 4,_,Hi =>
       obtain⟨u08,x2,u0b⟩:=qAt HI.out 2 39 Hi.out (by kernel_rfl);have x3:=X3.g Hi.out (by kernel_rfl);refine au rfl fun K' hK=>?_;go_simp;with_reducible refine(C9.out _ _ _ u0b.out (RD.out.below HI.out.world)).mono ?_
       rintro e W' ⟨u03,rfl,u0h,hb⟩;exact hK.out _ _ ⟨HI.out.pc Hi.out hb ⟨u03,rfl,u0h⟩,trivial⟩
     | 5,_,Hi =>
       refine au rfl fun K' hK=>?_;go_simp;exact hK.out _ _ ⟨HI.out.pc Hi.out ((Below.refl W.heap.size W).alloc (Nat.le_refl _) (.cells #[.bool false,.slice none 0 0,.slice none 0 0] 48)) ⟨W.heap.size,rfl,HI.out.world.size,SBk.new _ _ _⟩,trivial⟩
     | n+6,h,_=>exact absurd h (by omega)
   · intro listed a W hI hD hall
     obtain⟨u08,x2,u0b⟩:=qEnd hI hall 2 39;obtain⟨u03,x4,u0i⟩:=qEnd hI hall 4 41;obtain⟨v',x5,gn2,e,hge,hsb⟩:=hI.slots 5 (by decide) (hall 5 (by decide));obtain rfl:=e;have x5:a.tmps[10]? = some (.pointer (some ⟨gn2,0,none⟩)):=x5;obtain ⟨RRG,hsb⟩:=aF hge hsb;clear hge;obtain ⟨HBW,HI,HA⟩:=ai hI.world hI hall;clear hI hall;have K4:Hid (SBk W gn2 #[.bool false,.slice none 0 0,.slice none 0 0] 48):=hsb;have HBX:=hid (HB6.out.trans (HBW.out.mono HB6.out.size));have RA:=u0b;have RZ:=u0i;obtain⟨dK40,dK41,dK42⟩:=cells3 K4.out;obtain⟨fK40,fK41,fK42⟩:=frz3 K4.out;dsimp only[QS.v]at x4;refine aR (t:=0) ?_;refine au rfl fun K' hK=>?_;go_simp;refine hK.out _ _ ?_;clear hK;refine bf ?_;rw[← eu];have s0:∀ {q':QS} {x':Rat},FQ W q' x'→FQ (storeAll W (gn2) 0 [.bool u03.b,.slice u03.a u03.n u03.c,.slice u03.e u03.m u03.d]) q' x':=fun h'=>bZ _ 0 h' K4.out (by simp[bO]) (by simp[bA]);exact⟨rfl,u08,u03,gn2,(HI.out.finx ⟨HI.out.sx HA.out 0,HI.out.sx HA.out 1,x2,HI.out.sx HA.out 3,x4,x5,trivial⟩ rfl),(av (l:=[.bool u03.b,.slice u03.a u03.n u03.c,.slice u03.e u03.m u03.d]) (i:=0) (by have:=RRG.out;have:=RRW5.out;have:=RRG.out;omega) HBX.out),(bD K4.out),(s0 RZ.out),RRG.out⟩
 rintro a' W7 ⟨u08,u03,gn2,rfl,z0,z1,z2,z3⟩;obtain ⟨HB7,K4,RZ,RRW7⟩:=aG z0 z1 z2 z3;clear z0 z1 z2 z3;simp only[putL,List.setIfInBounds_toArray,List.set_cons_zero,List.set_cons_succ];obtain ⟨dK40,dK41,dK42⟩:=aA K4.out rfl rfl rfl;go_wp2_with fail
 with_reducible refine(CA.out _ _ RZ.out).mono ?_
 rintro e W8 ⟨rfl,hb⟩;clear dK40 dK41 dK42;have HB8:=hbt HB7 hb;clear hb;go_wp2;exact bodyPost_ret (v:=.tuple #[.string ⟨#[]⟩,.int .i64 15]) (by simp[results,results11,go_sem]) rfl ⟨rfl,HB8.out⟩
theorem z3E (s t:ByteArray)(x y:Rat)(u m d a z:Rat)(k:Int)(r:ByteArray)  (w:World)(hk:(k==0)=false)(h1:KBo 32 (.string s) (.string t) x y 0)(h2:KBe 33 x true)(h3:KBe 33 y true)(h4:KS 35 (.int .i64 1) u)(h5:KQ2 36 x y m)(h6:KQ2 34 u m d)(h7:KP1 37 d (.int .i64 k))(h8:KQ2 39 x y a)(h9:KQ2 38 a d z)(hA:KBe 33 z true)(hB:KP1 28 z (.string r))  :
 CR 11 #[.string s,.string t] w (.tuple #[.string r,.int .i64 0]):=by
 obtain ⟨C1,C2,C3,C4,C5,C6,C7,C8,C9,CA,CB⟩:=iC h1 h2 h3 h4 h5 h6 h7 h8 h9 hA hB;have hkk:=hk;clear hk h1 h2 h3 h4 h5 h6 h7 h8 h9 hA hB;go_enter func11,ntmps11
 have HB0:=hid (Below.refl w.heap.size w);go_wp2_with fail
 with_reducible refine(C1.out _).mono ?_
 rintro e W1 ⟨u01,u02,rfl,u06,u07,hb⟩;have HB1:=hbt HB0 hb;have RX:=hid u06;have RY:=hid u07;clear hb u06 u07;go_upto_region 2 with fail
 refine ay W1 [(#[.bool u01.b,.slice u01.a u01.n u01.c,.slice u01.e u01.m u01.d],48),(#[.bool u02.b,.slice u02.a u02.n u02.c,.slice u02.e u02.m u02.d],48)] rfl ?_;have L1:=HB1.out.size;rintro W2 ⟨k1,k2,hb⟩;have hb:Below W1.heap.size W1 W2:=hb;have RX:=hid (RX.out.below hb);have RY:=hid (RY.out.below hb);have HB2:=hbt HB1 hb;have K1:=hid k1;have K2:=hid k2;clear k1 k2 hb;obtain ⟨dK10,dK11,dK12⟩:=aA K1.out rfl rfl rfl;go_wp2_with fail
 with_reducible refine(C2.out _ _ RX.out).mono ?_
 rintro e W3 ⟨rfl,hb⟩;clear dK10 dK11 dK12;obtain ⟨K1,K2,RX,RY⟩:=aG (K1.out.below hb) (K2.out.below hb) (RX.out.below hb) (RY.out.below hb);have HB3:=hbt HB2 hb;clear hb;obtain ⟨dK20,dK21,dK22⟩:=aA K2.out rfl rfl rfl;go_wp2_with fail
 with_reducible refine(C3.out _ _ RY.out).mono ?_
 rintro e W4 ⟨rfl,hb⟩;clear dK20 dK21 dK22;obtain ⟨K1,K2,RX,RY⟩:=aG (K1.out.below hb) (K2.out.below hb) (RX.out.below hb) (RY.out.below hb);have HB4:=hbt HB3 hb;clear hb;go_wp2_with fail
 have L2:=K1.out.lt;have L3:=K2.out.lt;have L4:=HB4.out.size;refine aC (fun a0 a' V=>∃ (u04:QS) (u05:QS) (u00:QS) (gn1:Nat),a'=⟨putL [(29,u04.v),(30,u01.v),(31,u02.v),(32,u05.v),(33,u00.v),(9,.pointer (some ⟨gn1,0,none⟩))] a0.tmps,a0.defers⟩∧Below w.heap.size w V∧SBk V (W1.heap.size) #[.bool u01.b,.slice u01.a u01.n u01.c,.slice u01.e u01.m u01.d] 48∧SBk V (W1.heap.size+1) #[.bool u02.b,.slice u02.a u02.n u02.c,.slice u02.e u02.m u02.d] 48∧SBk V (gn1) #[.bool u00.b,.slice u00.a u00.n u00.c,.slice u00.e u00.m u00.d] 48∧FQ V u01 x∧FQ V u02 y∧FQ V u00 d∧W4.heap.size≤gn1) ?_ ?_
 · refine aB (by kernel_rfl) 6 1 (fun i=>[29,30,31,32,33,9].getD i 0) (RelR [Rel.q u,Rel.val (u01.v),Rel.val (u02.v),Rel.q m,Rel.q d,Rel.ptr W4.heap.size (.cells #[.bool false,.slice none 0 0,.slice none 0 0] 48)]) (fun W=>Below W4.heap.size W4 W) (fun _ _=>True) (by kernel_rfl) (by kernel_rfl) (by kernel_rfl) trivial (Below.refl _ _).drew ?_ ?_
   · intro listed a W i hI hD hrd him
     obtain ⟨HI,Hr⟩:=aF hI hrd;clear hI hrd hD;have y6:a.tmps[6]? = some (.pointer (some ⟨W1.heap.size,0,none⟩)):=HI.out.rest 6 (by decide);have y7:a.tmps[7]? = some (.pointer (some ⟨W1.heap.size+1,0,none⟩)):=HI.out.rest 7 (by decide);obtain⟨dK10,dK11,dK12⟩:=cells3 (K1.out.below HI.out.world);obtain⟨dK20,dK21,dK22⟩:=cells3 (K2.out.below HI.out.world);have X1:RV _ listed a 1 30 (u01.v):=HI.out.rh;have X2:RV _ listed a 2 31 (u02.v):=HI.out.rh
     match i,him,Hr with
     | 1,_,Hi|2,_,Hi =>
       refine au rfl fun K' hK=>?_;go_simp;exact hK.out _ _ ⟨HI.out.pv Hi.out rfl,trivial⟩
     | 0,_,Hi =>
       refine au rfl fun K' hK=>?_;go_simp;with_reducible refine(C4.out _).mono ?_
       rintro e W' ⟨u04,rfl,u0c,hb⟩;exact hK.out _ _ ⟨HI.out.pc Hi.out hb ⟨u04,rfl,u0c⟩,trivial⟩
     | 3,_,Hi =>
       have x1:=X1.g Hi.out (by kernel_rfl);have x2:=X2.g Hi.out (by kernel_rfl);refine au rfl fun K' hK=>?_;go_simp;with_reducible refine(C5.out _ _ _ (RX.out.below HI.out.world) (RY.out.below HI.out.world)).mono ?_
       rintro e W' ⟨u05,rfl,u0d,hb⟩;exact hK.out _ _ ⟨HI.out.pc Hi.out hb ⟨u05,rfl,u0d⟩,trivial⟩
     | 4,_,Hi =>
       obtain⟨u04,x0,u09⟩:=qAt HI.out 0 29 Hi.out (by kernel_rfl);obtain⟨u05,x3,u0a⟩:=qAt HI.out 3 32 Hi.out (by kernel_rfl);refine au rfl fun K' hK=>?_;go_simp;with_reducible refine(C6.out _ _ _ u09.out u0a.out).mono ?_
       rintro e W' ⟨u00,rfl,u0e,hb⟩;exact hK.out _ _ ⟨HI.out.pc Hi.out hb ⟨u00,rfl,u0e⟩,trivial⟩
     | 5,_,Hi =>
       refine au rfl fun K' hK=>?_;go_simp;exact hK.out _ _ ⟨HI.out.pc Hi.out ((Below.refl W.heap.size W).alloc (Nat.le_refl _) (.cells #[.bool false,.slice none 0 0,.slice none 0 0] 48)) ⟨W.heap.size,rfl,HI.out.world.size,SBk.new _ _ _⟩,trivial⟩
     | n+6,h,_=>exact absurd h (by omega)
   · intro listed a W hI hD hall
     obtain⟨u04,x0,u09⟩:=qEnd hI hall 0 29;obtain⟨u05,x3,u0a⟩:=qEnd hI hall 3 32;obtain⟨u00,x4,u0f⟩:=qEnd hI hall 4 33;obtain⟨v',x5,gn1,e,hge,hsb⟩:=hI.slots 5 (by decide) (hall 5 (by decide));obtain rfl:=e;have x5:a.tmps[9]? = some (.pointer (some ⟨gn1,0,none⟩)):=x5;obtain ⟨RRG,hsb⟩:=aF hge hsb;clear hge;obtain ⟨HBW,HI,HA⟩:=ai hI.world hI hall;clear hI hall;obtain ⟨K1,K2,RX,RY⟩:=aG (K1.out.below HBW.out) (K2.out.below HBW.out) (RX.out.below HBW.out) (RY.out.below HBW.out);have K3:Hid (SBk W gn1 #[.bool false,.slice none 0 0,.slice none 0 0] 48):=hsb;have HBX:=hid (HB4.out.trans (HBW.out.mono HB4.out.size));have RU:=u09;have RM:=u0a;have RD:=u0f;obtain⟨dK30,dK31,dK32⟩:=cells3 K3.out;obtain⟨fK30,fK31,fK32⟩:=frz3 K3.out;dsimp only[QS.v]at x4;refine aR (t:=0) ?_;refine au rfl fun K' hK=>?_;go_simp;refine hK.out _ _ ?_;clear hK;refine bf ?_;rw[← eu];have s0:∀ {q':QS} {x':Rat},FQ W q' x'→FQ (storeAll W (gn1) 0 [.bool u00.b,.slice u00.a u00.n u00.c,.slice u00.e u00.m u00.d]) q' x':=fun h'=>bZ _ 0 h' K3.out (by simp[bO]) (by simp[bA]);have o0:∀ {g':Nat} {cs':Array Value} {T':TypeId},g'≠gn1→SBk W g' cs' T'→SBk (storeAll W (gn1) 0 [.bool u00.b,.slice u00.a u00.n u00.c,.slice u00.e u00.m u00.d]) g' cs' T':=fun hg' h'=>aV hg' _ 0 h';exact⟨rfl,u04,u05,u00,gn1,(HI.out.finx ⟨x0,HI.out.sx HA.out 1,HI.out.sx HA.out 2,x3,x4,x5,trivial⟩ rfl),(av (l:=[.bool u00.b,.slice u00.a u00.n u00.c,.slice u00.e u00.m u00.d]) (i:=0) (by have:=RRG.out;omega) HBX.out),(o0 (by have:=RRG.out;omega) K1.out),(o0 (by have:=RRG.out;omega) K2.out),(bD K3.out),(s0 RX.out),(s0 RY.out),(s0 RD.out),RRG.out⟩
 rintro a' W5 ⟨u04,u05,u00,gn1,rfl,z0,z1,z2,z3,z4,z5,z6,z7⟩;obtain ⟨HB5,K1,K2,K3,RX,RY,RD,RRW5⟩:=fH z0 z1 z2 z3 z4 z5 z6 z7;clear z0 z1 z2 z3 z4 z5 z6 z7;simp only[putL,List.setIfInBounds_toArray,List.set_cons_zero,List.set_cons_succ];obtain ⟨dK30,dK31,dK32⟩:=aA K3.out rfl rfl rfl;go_wp2_with fail
 with_reducible refine(C7.out _ _ RD.out).mono ?_
 rintro e W6 ⟨rfl,hb⟩;clear dK30 dK31 dK32;obtain ⟨K1,K2,K3,RX,RY,RD⟩:=bU (K1.out.below hb) (K2.out.below hb) (K3.out.below hb) (RX.out.below hb) (RY.out.below hb) (RD.out.below hb);have HB6:=hbt HB5 hb;clear hb;go_wp2_with fail
 have L7:=K1.out.lt;have L8:=K2.out.lt;have L9:=K3.out.lt;have L10:=HB6.out.size;refine aC (fun a0 a' V=>∃ (u08:QS) (u03:QS) (gn2:Nat),a'=⟨putL [(37,u01.v),(38,u02.v),(39,u08.v),(40,u00.v),(41,u03.v),(10,.pointer (some ⟨gn2,0,none⟩))] a0.tmps,a0.defers⟩∧Below w.heap.size w V∧SBk V (gn2) #[.bool u03.b,.slice u03.a u03.n u03.c,.slice u03.e u03.m u03.d] 48∧FQ V u03 z∧W6.heap.size≤gn2) ?_ ?_
 · refine aB (by kernel_rfl) 6 1 (fun i=>[37,38,39,40,41,10].getD i 0) (RelR [Rel.val (u01.v),Rel.val (u02.v),Rel.q a,Rel.val (u00.v),Rel.q z,Rel.ptr W6.heap.size (.cells #[.bool false,.slice none 0 0,.slice none 0 0] 48)]) (fun W=>Below W6.heap.size W6 W) (fun _ _=>True) (by kernel_rfl) (by kernel_rfl) (by kernel_rfl) trivial (Below.refl _ _).drew ?_ ?_
   · intro listed a W i hI hD hrd him
     obtain ⟨HI,Hr⟩:=aF hI hrd;clear hI hrd hD;have y6:a.tmps[6]? = some (.pointer (some ⟨W1.heap.size,0,none⟩)):=HI.out.rest 6 (by decide);have y7:a.tmps[7]? = some (.pointer (some ⟨W1.heap.size+1,0,none⟩)):=HI.out.rest 7 (by decide);have y9:a.tmps[9]? = some (.pointer (some ⟨gn1,0,none⟩)):=HI.out.rest 9 (by decide);obtain⟨dK10,dK11,dK12⟩:=cells3 (K1.out.below HI.out.world);obtain⟨dK20,dK21,dK22⟩:=cells3 (K2.out.below HI.out.world);obtain⟨dK30,dK31,dK32⟩:=cells3 (K3.out.below HI.out.world);have X0:RV _ listed a 0 37 (u01.v):=HI.out.rh;have X1:RV _ listed a 1 38 (u02.v):=HI.out.rh;have X3:RV _ listed a 3 40 (u00.v):=HI.out.rh
     match i,him,Hr with
     | 0,_,Hi|1,_,Hi|3,_,Hi =>
       refine au rfl fun K' hK=>?_;go_simp;exact hK.out _ _ ⟨HI.out.pv Hi.out rfl,trivial⟩
     | 2,_,Hi =>
       have x0:=X0.g Hi.out (by kernel_rfl);have x1:=X1.g Hi.out (by kernel_rfl);refine au rfl fun K' hK=>?_;go_simp;with_reducible refine(C8.out _ _ _ (RX.out.below HI.out.world) (RY.out.below HI.out.world)).mono ?_
       rintro e W' ⟨u08,rfl,u0g,hb⟩;exact hK.out _ _ ⟨HI.out.pc Hi.out hb ⟨u08,rfl,u0g⟩,trivial⟩
     | 4,_,Hi =>
       obtain⟨u08,x2,u0b⟩:=qAt HI.out 2 39 Hi.out (by kernel_rfl);have x3:=X3.g Hi.out (by kernel_rfl);refine au rfl fun K' hK=>?_;go_simp;with_reducible refine(C9.out _ _ _ u0b.out (RD.out.below HI.out.world)).mono ?_
       rintro e W' ⟨u03,rfl,u0h,hb⟩;exact hK.out _ _ ⟨HI.out.pc Hi.out hb ⟨u03,rfl,u0h⟩,trivial⟩
     | 5,_,Hi =>
       refine au rfl fun K' hK=>?_;go_simp;exact hK.out _ _ ⟨HI.out.pc Hi.out ((Below.refl W.heap.size W).alloc (Nat.le_refl _) (.cells #[.bool false,.slice none 0 0,.slice none 0 0] 48)) ⟨W.heap.size,rfl,HI.out.world.size,SBk.new _ _ _⟩,trivial⟩
     | n+6,h,_=>exact absurd h (by omega)
   · intro listed a W hI hD hall
     obtain⟨u08,x2,u0b⟩:=qEnd hI hall 2 39;obtain⟨u03,x4,u0i⟩:=qEnd hI hall 4 41;obtain⟨v',x5,gn2,e,hge,hsb⟩:=hI.slots 5 (by decide) (hall 5 (by decide));obtain rfl:=e;have x5:a.tmps[10]? = some (.pointer (some ⟨gn2,0,none⟩)):=x5;obtain ⟨RRG,hsb⟩:=aF hge hsb;clear hge;obtain ⟨HBW,HI,HA⟩:=ai hI.world hI hall;clear hI hall;have K4:Hid (SBk W gn2 #[.bool false,.slice none 0 0,.slice none 0 0] 48):=hsb;have HBX:=hid (HB6.out.trans (HBW.out.mono HB6.out.size));have RA:=u0b;have RZ:=u0i;obtain⟨dK40,dK41,dK42⟩:=cells3 K4.out;obtain⟨fK40,fK41,fK42⟩:=frz3 K4.out;dsimp only[QS.v]at x4;refine aR (t:=0) ?_;refine au rfl fun K' hK=>?_;go_simp;refine hK.out _ _ ?_;clear hK;refine bf ?_;rw[← eu];have s0:∀ {q':QS} {x':Rat},FQ W q' x'→FQ (storeAll W (gn2) 0 [.bool u03.b,.slice u03.a u03.n u03.c,.slice u03.e u03.m u03.d]) q' x':=fun h'=>bZ _ 0 h' K4.out (by simp[bO]) (by simp[bA]);exact⟨rfl,u08,u03,gn2,(HI.out.finx ⟨HI.out.sx HA.out 0,HI.out.sx HA.out 1,x2,HI.out.sx HA.out 3,x4,x5,trivial⟩ rfl),(av (l:=[.bool u03.b,.slice u03.a u03.n u03.c,.slice u03.e u03.m u03.d]) (i:=0) (by have:=RRG.out;have:=RRW5.out;have:=RRG.out;omega) HBX.out),(bD K4.out),(s0 RZ.out),RRG.out⟩
 rintro a' W7 ⟨u08,u03,gn2,rfl,z0,z1,z2,z3⟩;obtain ⟨HB7,K4,RZ,RRW7⟩:=aG z0 z1 z2 z3;clear z0 z1 z2 z3;simp only[putL,List.setIfInBounds_toArray,List.set_cons_zero,List.set_cons_succ];obtain ⟨dK40,dK41,dK42⟩:=aA K4.out rfl rfl rfl;go_wp2_with fail
 with_reducible refine(CA.out _ _ RZ.out).mono ?_
 rintro e W8 ⟨rfl,hb⟩;clear dK40 dK41 dK42;have K4:=hid (K4.out.below hb);have RZ:=hid (RZ.out.below hb);have HB8:=hbt HB7 hb;clear hb;obtain ⟨dK40,dK41,dK42⟩:=aA K4.out rfl rfl rfl;go_wp2_with fail
 with_reducible refine(CB.out _ _ RZ.out).mono ?_
 rintro e W9 ⟨rfl,hb⟩;clear dK40 dK41 dK42;have HB9:=hbt HB8 hb;clear hb;go_wp2;exact bodyPost_ret (v:=.tuple #[.string r,.int .i64 0]) (by simp[results,results11,go_sem]) rfl ⟨rfl,HB9.out⟩
end Go.Proofs.YtodcdibanokjjaaGreatDoor
