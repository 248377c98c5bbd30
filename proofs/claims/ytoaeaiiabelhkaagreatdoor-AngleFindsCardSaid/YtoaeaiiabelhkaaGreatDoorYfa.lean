/- texts -/
import Derived.Test.YtoaeaiiabelhkaaGreatDoorCf
open Go.Proofs.Tryz
set_option maxRecDepth 100000
set_option maxHeartbeats 20000000
open Go.Lib (hid)
namespace Go.Proofs.YtoaeaiiabelhkaaGreatDoor
open Go.RowKit Go.Gb
set_option linter.unusedSimpArgs false
set_option linter.unusedVariables false
abbrev KS2 (f:Nat) (v0 v1:Value) (z:Rat):Prop:=∀ (W:World),Calls Tryz.prog f #[v0,v1] W (RQ W z)
abbrev KEn (f:Nat) (x:Rat) (v:Value) (lo hi:Rat):Prop:=∀ (q0:QS) (W:World),FQ W q0 x→Calls Tryz.prog f #[.agg #[.bool q0.b,.slice q0.a q0.n q0.c,.slice q0.e q0.m q0.d],v] W (RII W lo hi)
abbrev KNI (f:Nat) (v:Value) (lo hi:Rat):Prop:=∀ (W:World),Calls Tryz.prog f #[v] W (RII W lo hi)
theorem z6T (n:Int)(f5 a1 b1 k1 c1 d1 f2 a2 b2 k2 c2 d2 za zb:Rat)  (w:World)  (h1:KS2 58 (.int .i64 1) (.int .i64 5) f5)(h2:KEn 99 f5 (.int .i64 n) a1 b1)(h3:KS 24 (.int .i64 16) k1)(h4:KIQ 60 a1 b1 k1 c1 d1)(h5:KS2 58 (.int .i64 1) (.int .i64 239) f2)(h6:KEn 99 f2 (.int .i64 n) a2 b2)(h7:KS 24 (.int .i64 4) k2)(h8:KIQ 60 a2 b2 k2 c2 d2)(h9:KII 102 c1 d1 c2 d2 za zb)  :
 Calls Tryz.prog 62 #[.int .i64 n] w (RII w za zb):=by
 obtain ⟨C1,C2,C3,C4,C5,C6,C7,C8,C9⟩:=bQ h1 h2 h3 h4 h5 h6 h7 h8 h9;clear h1 h2 h3 h4 h5 h6 h7 h8 h9;go_enter func62,ntmps62
 go_upto_region 1 with fail
 refine av w [(#[.bool false,.slice none 0 0,.slice none 0 0,.bool false,.slice none 0 0,.slice none 0 0],55)] rfl ?_;rintro W0 ⟨k1,hb⟩;have rV:=hid (show Below w.heap.size w W0 from hb);have K1:=hid k1;clear k1 hb;go_wp2_with fail
 with_reducible refine(C1.o _).mono ?_
 rintro e W1 ⟨q_1,rfl,mf,hb⟩;have K1:=hid (K1.o.below hb);have mi:=hbt rV hb;have RF5:=hid mf;clear hb mf;go_wp2_with fail
 with_reducible refine(C2.o _ _ RF5.o).mono ?_
 rintro e W2 ⟨u0z,u0A,rfl,gy,u04,hb⟩;have K1:=hid (K1.o.below hb);have l5:=hbt mi hb;have RA1:=hid gy;have RB1:=hid u04;clear hb gy u04;go_wp2_with fail
 with_reducible refine(C3.o _).mono ?_
 rintro e W3 ⟨q_3,rfl,fq,hb⟩;obtain ⟨K1,RA1,RB1⟩:=bA hb K1 RA1 RB1;have l6:=hbt l5 hb;have RK1:=hid fq;clear hb fq;go_wp2_with fail
 with_reducible refine(C4.o _ _ _ _ RA1.o RB1.o RK1.o).mono ?_
 rintro e W4 ⟨u6,uu,rfl,fQ,ed,hb⟩;have K1:=hid (K1.o.below hb);have d9:=hbt l6 hb;have RC1:=hid fQ;have RD1:=hid ed;clear hb fQ ed;go_upto_region 2 with fail
 refine av W4 [(#[.bool u6.b,.slice u6.a u6.n u6.c,.slice u6.e u6.m u6.d,.bool uu.b,.slice uu.a uu.n uu.c,.slice uu.e uu.m uu.d],55)] rfl ?_;have L1:=K1.o.lt;have L2:=d9.o.size;rintro W5 ⟨k2,hb⟩;have hb:Below W4.heap.size W4 W5:=hb;obtain ⟨K1,RC1,RD1⟩:=bA hb K1 RC1 RD1;have HB5:=hbt d9 hb;have K2:=hid k2;clear k2 hb;go_wp2_with fail
 refine ay (fun a0 a' V=>∃ (ww:QS) (dh:QS) (dn:QS) (dx:QS) (dz:QS) (dX:QS) (w9:QS) (wm:QS),a'=⟨putL [(9,Qii u6 uu),(10,ww.v),(11,.int .i64 n),(12,Qii dh dn),(13,dx.v),(14,Qii dz dX),(15,Qii w9 wm)] a0.tmps,a0.defers⟩∧Below w.heap.size w V∧SBk V (w.heap.size) #[.bool w9.b,.slice w9.a w9.n w9.c,.slice w9.e w9.m w9.d,.bool wm.b,.slice wm.a wm.n wm.c,.slice wm.e wm.m wm.d] 55∧FQ V w9 za∧FQ V wm zb) ?_ ?_
 · refine aH 7 1 [9,10,11,12,13,14,15] [Rel.val (Qii u6 uu),Rel.q f2,Rel.val (.int .i64 n),Rel.qi a2 b2,Rel.q k2,Rel.qi c2 d2,Rel.qi za zb] ?_ ?_
   · intro pq a W i HI hD Hr him
     obtain⟨y3,y0⟩:=HI.o.s2 3 0;obtain ⟨lg,ll,lv,kz,kM,kV⟩:=bE (K2.o.below HI.o.world) rfl rfl rfl rfl rfl rfl;obtain⟨X2,X0⟩:=HI.o.g2 2 11 0 9
     match i,him,Hr with
     | 0,_,Hi|2,_,Hi =>
       refine stepH rfl fun K' hK=>?_;go_simp;exact hK.o _ _ (HI.o.pw Hi.o)
     | 1,_,Hi =>
       refine stepH rfl fun K' hK=>?_;go_simp;with_reducible refine(C5.o _).mono ?_
       rintro e W' ⟨ww,rfl,dY,hb⟩;exact hK.o _ _ ⟨HI.o.pc Hi.o hb ⟨ww,rfl,dY⟩,trivial⟩
     | 3,_,Hi =>
       obtain⟨ww,x1,pu⟩:=qAt HI.o 1 10 Hi.o (by kernel_rfl);have x2:=X2.q Hi.o;refine stepH rfl fun K' hK=>?_;go_simp;with_reducible refine(C6.o _ _ pu.o).mono ?_
       rintro e W' ⟨dh,dn,rfl,rn1_3a,rn1_3b,hb⟩;exact hK.o _ _ ⟨HI.o.pc Hi.o hb ⟨dh,dn,rfl,rn1_3a,rn1_3b⟩,trivial⟩
     | 4,_,Hi =>
       refine stepH rfl fun K' hK=>?_;go_simp;with_reducible refine(C7.o _).mono ?_
       rintro e W' ⟨dx,rfl,u0C,hb⟩;exact hK.o _ _ ⟨HI.o.pc Hi.o hb ⟨dx,rfl,u0C⟩,trivial⟩
     | 5,_,Hi =>
       obtain⟨dh,dn,x3,u06,u07⟩:=qAti HI.o 3 12 Hi.o (by kernel_rfl);dsimp only[Qii]at x3;obtain⟨dx,x4,u08⟩:=qAt HI.o 4 13 Hi.o (by kernel_rfl);refine stepH rfl fun K' hK=>?_;go_simp;with_reducible refine(C8.o _ _ _ _ u06.o u07.o u08.o).mono ?_
       rintro e W' ⟨dz,dX,rfl,rn1_5a,rn1_5b,hb⟩;exact hK.o _ _ ⟨HI.o.pc Hi.o hb ⟨dz,dX,rfl,rn1_5a,rn1_5b⟩,trivial⟩
     | 6,_,Hi =>
       have x0:=X0.q Hi.o;obtain⟨dz,dX,x5,u09,u0a⟩:=qAti HI.o 5 14 Hi.o (by kernel_rfl);dsimp only[Qii]at x5;refine stepH rfl fun K' hK=>?_;go_simp;with_reducible refine(C9.o _ _ _ _ _ (RC1.o.below HI.o.world) (RD1.o.below HI.o.world) u09.o u0a.o).mono ?_
       rintro e W' ⟨w9,wm,rfl,rn1_6a,rn1_6b,hb⟩;exact hK.o _ _ ⟨HI.o.pc Hi.o hb ⟨w9,wm,rfl,rn1_6a,rn1_6b⟩,trivial⟩
     | n+7,h,_=>exact absurd h (by omega)
   · intro pq a W HI hD HA
     obtain⟨ww,x1,pu⟩:=qEnd HI.o HA.o 1 10;obtain⟨dh,dn,x3,u06,u07⟩:=iO HI.o HA.o 3 12;obtain⟨dx,x4,u08⟩:=qEnd HI.o HA.o 4 13;obtain⟨dz,dX,x5,u09,u0a⟩:=iO HI.o HA.o 5 14;obtain⟨w9,wm,x6,u0D,u0E⟩:=iO HI.o HA.o 6 15;have rM:=hid HI.o.world;obtain ⟨ol,K1⟩:=aB (HB5.o.trans (rM.o.mono HB5.o.size)) (K1.o.below rM.o);have RF2:=pu;have RA2:=u06;have RB2:=u07;have RK2:=u08;have RC2:=u09;have RD2:=u0a;have RZA:=u0D;have RZB:=u0E;obtain ⟨oM,oV,ny,u0t,u0u,u0v⟩:=bE K1.o rfl rfl rfl rfl rfl rfl;obtain ⟨u0S,u0T,u0U,u0V,u0W,u0X⟩:=dP K1.o;have y2:=HI.o.rst 2 rfl;dsimp only[Qii]at x6;refine aZ (t:=0) ?_;refine stepH rfl fun K' hK=>?_;go_simp;refine hK.o _ _ ?_;clear hK;refine aV ?_;rw[← dL];have s0:∀ {q':QS} {x':Rat},FQ W q' x'→FQ (storeAll W (w.heap.size) 0 [.bool w9.b,.slice w9.a w9.n w9.c,.slice w9.e w9.m w9.d,.bool wm.b,.slice wm.a wm.n wm.c,.slice wm.e wm.m wm.d]) q' x':=fun h'=>bO _ 0 h' K1.o (by simp[bJ]) (by simp[aU]);exact⟨rfl,ww,dh,dn,dx,dz,dX,w9,wm,(HI.o.finx ⟨HI.o.sx HA.o 0,x1,HI.o.sx HA.o 2,x3,x4,x5,x6,trivial⟩ rfl),(aj (l:=[.bool w9.b,.slice w9.a w9.n w9.c,.slice w9.e w9.m w9.d,.bool wm.b,.slice wm.a wm.n wm.c,.slice wm.e wm.m wm.d]) (i:=0) (by omega) ol.o),(dC K1.o),(s0 RZA.o),(s0 RZB.o)⟩
 rintro a' W6 ⟨ww,dh,dn,dx,dz,dX,w9,wm,rfl,z0,z1,z2,z3⟩;obtain ⟨HB6,K1,RZA,RZB⟩:=aN z0 z1 z2 z3;clear z0 z1 z2 z3;simp only[putL,List.setIfInBounds_toArray,List.set_cons_zero,List.set_cons_succ];go_wp2;obtain ⟨oM,oV,ny,u0t,u0u,u0v⟩:=bE K1.o rfl rfl rfl rfl rfl rfl;exact bodyPost_ret (v:=.agg #[.bool w9.b,.slice w9.a w9.n w9.c,.slice w9.e w9.m w9.d,.bool wm.b,.slice wm.a wm.n wm.c,.slice wm.e wm.m wm.d]) (by simp[results,results62,go_sem,oM,oV,ny,u0t,u0u,u0v]) rfl ⟨_,_,rfl,RZA.o,RZB.o,HB6.o⟩
theorem z2t (x hn xm la lb u za zb:Rat)(n k1:Int)(q1:QS)(w:World)(hk:decide (k1<0)=true)(h1:KS2 58 (.int .i64 (-1)) (.int .i64 2) hn)(h2:KP2 27 x hn (.int .i64 k1))(h3:KQ1 98 x xm)(h4:KEn 61 xm (.int .i64 n) la lb)(h5:KS 24 (.int .i64 (-1)) u)(h6:KIQ 60 la lb u za zb)(r1:FQ w q1 x) :
 Calls Tryz.prog 61 #[(QS.v q1),.int .i64 n] w (RII w za zb):=by
 dsimp only[QS.v];obtain ⟨C1,C2,C3,C4,C5,C6,R1⟩:=eB h1 h2 h3 h4 h5 h6 r1;have hkk:=hk;clear hk h1 h2 h3 h4 h5 h6 r1;go_enter func61,ntmps61
 go_upto_region 1 with fail
 refine av w [(q1.l.toArray,49),(#[.bool false,.slice none 0 0,.slice none 0 0,.bool false,.slice none 0 0,.slice none 0 0],55)] rfl ?_;rintro W0 ⟨k1,k2,hb⟩;have rV:=hid (show Below w.heap.size w W0 from hb);obtain ⟨K1,K2,R1⟩:=ak k1 k2 (R1.o.below rV.o);clear k1 k2 hb;go_wp2_with fail
 refine ay (fun a0 a' V=>∃ (ww:QS),a'=⟨putL [(7,q1.v),(8,ww.v),(9,.int .i64 k1),(10,.bool true),(6,.bool true)] a0.tmps,a0.defers⟩∧Below w.heap.size w V∧SBk V (w.heap.size) q1.l.toArray 49∧SBk V (w.heap.size+1) #[.bool false,.slice none 0 0,.slice none 0 0,.bool false,.slice none 0 0,.slice none 0 0] 55∧FQ V q1 x) ?_ ?_
 · refine aH 5 0 [7,8,9,10,6] [Rel.val (q1.v),Rel.q hn,Rel.val (.int .i64 k1),Rel.val (.bool true),Rel.val (.bool true)] ?_ ?_
   · intro pq a W i HI hD Hr him
     have y2:=HI.o.rst 2 rfl;obtain⟨oM,oV,ny⟩:=cells3 (K1.o.below HI.o.world);obtain⟨X0,X2,X3⟩:=HI.o.g3 0 7 2 9 3 10
     match i,him,Hr with
     | 0,_,Hi|3,_,Hi|4,_,Hi =>
       try have x2:=X2.t Hi.o
       try have x3:=X3.t Hi.o
       refine stepH rfl fun K' hK=>?_;go_simp;exact hK.o _ _ (HI.o.pw Hi.o)
     | 1,_,Hi =>
       refine stepH rfl fun K' hK=>?_;go_simp;with_reducible refine(C1.o _).mono ?_
       rintro e W' ⟨ww,rfl,dY,hb⟩;exact hK.o _ _ ⟨HI.o.pc Hi.o hb ⟨ww,rfl,dY⟩,trivial⟩
     | 2,_,Hi =>
       have x0:=X0.q Hi.o;obtain⟨ww,x1,pu⟩:=qAt HI.o 1 8 Hi.o (by kernel_rfl);refine stepH rfl fun K' hK=>?_;go_simp;with_reducible refine(C2.o _ _ _ (R1.o.below HI.o.world) pu.o).mono ?_
       rintro e W' ⟨rfl,hb⟩;exact hK.o _ _ ⟨HI.o.pc Hi.o hb rfl,trivial⟩
     | n+5,h,_=>exact absurd h (by omega)
   · intro pq a W HI hD HA
     obtain⟨ww,x1,pu⟩:=qEnd HI.o HA.o 1 8;have rM:=hid HI.o.world;obtain ⟨K1,K2,R1⟩:=bA rM.o K1 K2 R1;have ol:=Lib.hid (rV.o.trans (rM.o.mono rV.o.size));have RHN:=pu;refine aV ?_;exact⟨rfl,ww,(HI.o.finx ⟨HI.o.sx HA.o 0,x1,HI.o.sx HA.o 2,HI.o.sx HA.o 3,HI.o.sx HA.o 4,trivial⟩ rfl),ol.o,K1.o,K2.o,R1.o⟩
 rintro a' W1 ⟨ww,rfl,z0,z1,z2,z3⟩;obtain ⟨mi,K1,K2,R1⟩:=aN z0 z1 z2 z3;clear z0 z1 z2 z3;simp only[putL,List.setIfInBounds_toArray,List.set_cons_zero,List.set_cons_succ];obtain ⟨oM,oV,ny⟩:=aA K1.o rfl rfl rfl;go_wp2_with fail
 with_reducible refine(C3.o _ _ R1.o).mono ?_
 rintro e W2 ⟨q_1,rfl,mf,hb⟩;clear oM oV ny;have K2:=hid (K2.o.below hb);have l5:=hbt mi hb;have RM:=hid mf;clear hb mf;go_wp2_with fail
 with_reducible refine(C4.o _ _ RM.o).mono ?_
 rintro e W3 ⟨u0z,u0A,rfl,gy,u04,hb⟩;have K2:=hid (K2.o.below hb);have l6:=hbt l5 hb;have RLA:=hid gy;have RLB:=hid u04;clear hb gy u04;go_wp2_with fail
 with_reducible refine(C5.o _).mono ?_
 rintro e W4 ⟨q_3,rfl,fq,hb⟩;obtain ⟨K2,RLA,RLB⟩:=bA hb K2 RLA RLB;have d9:=hbt l6 hb;have RU:=hid fq;clear hb fq;go_wp2_with fail
 with_reducible refine(C6.o _ _ _ _ RLA.o RLB.o RU.o).mono ?_
 rintro e W5 ⟨u6,uu,rfl,fQ,ed,hb⟩;have K2:=hid (K2.o.below hb);have HB5:=hbt d9 hb;have RZA:=hid fQ;have RZB:=hid ed;clear hb fQ ed;obtain ⟨lg,ll,lv,kz,kM,kV⟩:=bE K2.o rfl rfl rfl rfl rfl rfl;obtain ⟨u0b,u0c,u0d,u0e,u0f,u0g⟩:=dP K2.o;go_wp2;exact bodyPost_ret (v:=.agg #[.bool u6.b,.slice u6.a u6.n u6.c,.slice u6.e u6.m u6.d,.bool uu.b,.slice uu.a uu.n uu.c,.slice uu.e uu.m uu.d]) (by simp[results,results61,go_sem,lg,ll,lv,kz,kM,kV]) rfl ⟨_,_,rfl,(bO [.bool u6.b,.slice u6.a u6.n u6.c,.slice u6.e u6.m u6.d,.bool uu.b,.slice uu.a uu.n uu.c,.slice uu.e uu.m uu.d] 0 RZA.o K2.o (by simp[bJ]) (by simp[aU])),(bO [.bool u6.b,.slice u6.a u6.n u6.c,.slice u6.e u6.m u6.d,.bool uu.b,.slice uu.a uu.n uu.c,.slice uu.e uu.m uu.d] 0 RZB.o K2.o (by simp[bJ]) (by simp[aU])),(aj (l:=[.bool u6.b,.slice u6.a u6.n u6.c,.slice u6.e u6.m u6.d,.bool uu.b,.slice uu.a uu.n uu.c,.slice uu.e uu.m uu.d]) (i:=0) (by omega) HB5.o)⟩
theorem z2s (x hn hp za zb:Rat)(n k1 k2:Int)(q1:QS)(w:World)(hk:decide (k1<0)=false)(hm:decide (k2≤0)=true)(h1:KS2 58 (.int .i64 (-1)) (.int .i64 2) hn)(h2:KP2 27 x hn (.int .i64 k1))(h3:KS2 58 (.int .i64 1) (.int .i64 2) hp)(h4:KP2 27 x hp (.int .i64 k2))(h5:KEn 99 x (.int .i64 n) za zb)(r1:FQ w q1 x) :
 Calls Tryz.prog 61 #[(QS.v q1),.int .i64 n] w (RII w za zb):=by
 dsimp only[QS.v];obtain ⟨C1,C2,C3,C4,C5,R1⟩:=di h1 h2 h3 h4 h5 r1;have hkk:=hk;have hmm:=hm;clear hk hm h1 h2 h3 h4 h5 r1;go_enter func61,ntmps61
 go_upto_region 1 with fail
 refine av w [(q1.l.toArray,49),(#[.bool false,.slice none 0 0,.slice none 0 0,.bool false,.slice none 0 0,.slice none 0 0],55)] rfl ?_;rintro W0 ⟨k1,k2,hb⟩;have rV:=hid (show Below w.heap.size w W0 from hb);obtain ⟨K1,K2,R1⟩:=ak k1 k2 (R1.o.below rV.o);clear k1 k2 hb;go_wp2_with fail
 refine ay (fun a0 a' V=>∃ (ww:QS),a'=⟨putL [(7,q1.v),(8,ww.v),(9,.int .i64 k1),(10,.bool false),(6,.bool false)] a0.tmps,a0.defers⟩∧Below w.heap.size w V∧SBk V (w.heap.size) q1.l.toArray 49∧SBk V (w.heap.size+1) #[.bool false,.slice none 0 0,.slice none 0 0,.bool false,.slice none 0 0,.slice none 0 0] 55∧FQ V q1 x) ?_ ?_
 · refine aH 5 0 [7,8,9,10,6] [Rel.val (q1.v),Rel.q hn,Rel.val (.int .i64 k1),Rel.val (.bool false),Rel.val (.bool false)] ?_ ?_
   · intro pq a W i HI hD Hr him
     have y2:=HI.o.rst 2 rfl;obtain⟨oM,oV,ny⟩:=cells3 (K1.o.below HI.o.world);obtain⟨X0,X2,X3⟩:=HI.o.g3 0 7 2 9 3 10
     match i,him,Hr with
     | 0,_,Hi|3,_,Hi|4,_,Hi =>
       try have x2:=X2.t Hi.o
       try have x3:=X3.t Hi.o
       refine stepH rfl fun K' hK=>?_;go_simp;exact hK.o _ _ (HI.o.pw Hi.o)
     | 1,_,Hi =>
       refine stepH rfl fun K' hK=>?_;go_simp;with_reducible refine(C1.o _).mono ?_
       rintro e W' ⟨ww,rfl,dY,hb⟩;exact hK.o _ _ ⟨HI.o.pc Hi.o hb ⟨ww,rfl,dY⟩,trivial⟩
     | 2,_,Hi =>
       have x0:=X0.q Hi.o;obtain⟨ww,x1,pu⟩:=qAt HI.o 1 8 Hi.o (by kernel_rfl);refine stepH rfl fun K' hK=>?_;go_simp;with_reducible refine(C2.o _ _ _ (R1.o.below HI.o.world) pu.o).mono ?_
       rintro e W' ⟨rfl,hb⟩;exact hK.o _ _ ⟨HI.o.pc Hi.o hb rfl,trivial⟩
     | n+5,h,_=>exact absurd h (by omega)
   · intro pq a W HI hD HA
     obtain⟨ww,x1,pu⟩:=qEnd HI.o HA.o 1 8;have rM:=hid HI.o.world;obtain ⟨K1,K2,R1⟩:=bA rM.o K1 K2 R1;have ol:=Lib.hid (rV.o.trans (rM.o.mono rV.o.size));have RHN:=pu;refine aV ?_;exact⟨rfl,ww,(HI.o.finx ⟨HI.o.sx HA.o 0,x1,HI.o.sx HA.o 2,HI.o.sx HA.o 3,HI.o.sx HA.o 4,trivial⟩ rfl),ol.o,K1.o,K2.o,R1.o⟩
 rintro a' W1 ⟨ww,rfl,z0,z1,z2,z3⟩;obtain ⟨mi,K1,K2,R1⟩:=aN z0 z1 z2 z3;clear z0 z1 z2 z3;simp only[putL,List.setIfInBounds_toArray,List.set_cons_zero,List.set_cons_succ];go_wp2_with fail
 refine ay (fun a0 a' V=>∃ (p8:QS),a'=⟨putL [(18,q1.v),(19,p8.v),(20,.int .i64 k2),(21,.bool true),(17,.bool true)] a0.tmps,a0.defers⟩∧Below w.heap.size w V∧SBk V (w.heap.size) q1.l.toArray 49∧SBk V (w.heap.size+1) #[.bool false,.slice none 0 0,.slice none 0 0,.bool false,.slice none 0 0,.slice none 0 0] 55∧FQ V q1 x) ?_ ?_
 · refine aH 5 0 [18,19,20,21,17] [Rel.val (q1.v),Rel.q hp,Rel.val (.int .i64 k2),Rel.val (.bool true),Rel.val (.bool true)] ?_ ?_
   · intro pq a W i HI hD Hr him
     have y2:=HI.o.rst 2 rfl;obtain⟨oM,oV,ny⟩:=cells3 (K1.o.below HI.o.world);obtain⟨X0,X2,X3⟩:=HI.o.g3 0 18 2 20 3 21
     match i,him,Hr with
     | 0,_,Hi|3,_,Hi|4,_,Hi =>
       try have x2:=X2.t Hi.o
       try have x3:=X3.t Hi.o
       refine stepH rfl fun K' hK=>?_;go_simp;exact hK.o _ _ (HI.o.pw Hi.o)
     | 1,_,Hi =>
       refine stepH rfl fun K' hK=>?_;go_simp;with_reducible refine(C3.o _).mono ?_
       rintro e W' ⟨p8,rfl,u0h,hb⟩;exact hK.o _ _ ⟨HI.o.pc Hi.o hb ⟨p8,rfl,u0h⟩,trivial⟩
     | 2,_,Hi =>
       have x0:=X0.q Hi.o;obtain⟨p8,x1,cO⟩:=qAt HI.o 1 19 Hi.o (by kernel_rfl);refine stepH rfl fun K' hK=>?_;go_simp;with_reducible refine(C4.o _ _ _ (R1.o.below HI.o.world) cO.o).mono ?_
       rintro e W' ⟨rfl,hb⟩;exact hK.o _ _ ⟨HI.o.pc Hi.o hb rfl,trivial⟩
     | n+5,h,_=>exact absurd h (by omega)
   · intro pq a W HI hD HA
     obtain⟨p8,x1,cO⟩:=qEnd HI.o HA.o 1 19;have rM:=hid HI.o.world;obtain ⟨K1,K2,R1⟩:=bA rM.o K1 K2 R1;have ol:=Lib.hid (mi.o.trans (rM.o.mono mi.o.size));have RHP:=cO;refine aV ?_;exact⟨rfl,p8,(HI.o.finx ⟨HI.o.sx HA.o 0,x1,HI.o.sx HA.o 2,HI.o.sx HA.o 3,HI.o.sx HA.o 4,trivial⟩ rfl),ol.o,K1.o,K2.o,R1.o⟩
 rintro a' W2 ⟨p8,rfl,z0,z1,z2,z3⟩;obtain ⟨l5,K1,K2,R1⟩:=aN z0 z1 z2 z3;clear z0 z1 z2 z3;simp only[putL,List.setIfInBounds_toArray,List.set_cons_zero,List.set_cons_succ];obtain ⟨oM,oV,ny⟩:=aA K1.o rfl rfl rfl;go_wp2_with fail
 with_reducible refine(C5.o _ _ R1.o).mono ?_
 rintro e W3 ⟨si,sj,rfl,mf,u05,hb⟩;clear oM oV ny;have K2:=hid (K2.o.below hb);have l6:=hbt l5 hb;have RZA:=hid mf;have RZB:=hid u05;clear hb mf u05;obtain ⟨lg,ll,lv,kz,kM,kV⟩:=bE K2.o rfl rfl rfl rfl rfl rfl;obtain ⟨u0b,u0c,u0d,u0e,u0f,u0g⟩:=dP K2.o;go_wp2;exact bodyPost_ret (v:=.agg #[.bool si.b,.slice si.a si.n si.c,.slice si.e si.m si.d,.bool sj.b,.slice sj.a sj.n sj.c,.slice sj.e sj.m sj.d]) (by simp[results,results61,go_sem,lg,ll,lv,kz,kM,kV]) rfl ⟨_,_,rfl,(bO [.bool si.b,.slice si.a si.n si.c,.slice si.e si.m si.d,.bool sj.b,.slice sj.a sj.n sj.c,.slice sj.e sj.m sj.d] 0 RZA.o K2.o (by simp[bJ]) (by simp[aU])),(bO [.bool si.b,.slice si.a si.n si.c,.slice si.e si.m si.d,.bool sj.b,.slice sj.a sj.n sj.c,.slice sj.e sj.m sj.d] 0 RZB.o K2.o (by simp[bJ]) (by simp[aU])),(aj (l:=[.bool si.b,.slice si.a si.n si.c,.slice si.e si.m si.d,.bool sj.b,.slice sj.a sj.n sj.c,.slice sj.e sj.m sj.d]) (i:=0) (by omega) l6.o)⟩
theorem z0i (x hn hp u m p r pa pb f4 ca cb sa sb za zb:Rat)(n k1 k2:Int)(q1:QS)(w:World)(hk:decide (k1<0)=false)(hm:decide (k2≤0)=false)(h1:KS2 58 (.int .i64 (-1)) (.int .i64 2) hn)(h2:KP2 27 x hn (.int .i64 k1))(h3:KS2 58 (.int .i64 1) (.int .i64 2) hp)(h4:KP2 27 x hp (.int .i64 k2))(h5:KS 24 (.int .i64 1) u)(h6:KQ2 101 u x m)(h7:KQ2 57 u x p)(h8:KQ2 100 m p r)(h9:KNI 62 (.int .i64 n) pa pb)(hA:KS2 58 (.int .i64 1) (.int .i64 4) f4)(hB:KIQ 60 pa pb f4 ca cb)(hD:KEn 99 r (.int .i64 n) sa sb)(hE:KII 102 ca cb sa sb za zb)(r1:FQ w q1 x) :
 Calls Tryz.prog 61 #[(QS.v q1),.int .i64 n] w (RII w za zb):=by
 dsimp only[QS.v];obtain ⟨C1,C2,C3,C4,C5,C6,C7,C8,C9⟩:=bQ h1 h2 h3 h4 h5 h6 h7 h8 h9;obtain ⟨CA,CB,CD,CE,R1⟩:=bz hA hB hD hE r1;have hkk:=hk;have hmm:=hm;clear hk hm h1 h2 h3 h4 h5 h6 h7 h8 h9 hA hB hD hE r1;go_enter func61,ntmps61
 go_upto_region 1 with fail
 refine av w [(q1.l.toArray,49),(#[.bool false,.slice none 0 0,.slice none 0 0,.bool false,.slice none 0 0,.slice none 0 0],55)] rfl ?_;rintro W0 ⟨k1,k2,hb⟩;have rV:=hid (show Below w.heap.size w W0 from hb);obtain ⟨K1,K2,R1⟩:=ak k1 k2 (R1.o.below rV.o);clear k1 k2 hb;go_wp2_with fail
 refine ay (fun a0 a' V=>∃ (ww:QS),a'=⟨putL [(7,q1.v),(8,ww.v),(9,.int .i64 k1),(10,.bool false),(6,.bool false)] a0.tmps,a0.defers⟩∧Below w.heap.size w V∧SBk V (w.heap.size) q1.l.toArray 49∧SBk V (w.heap.size+1) #[.bool false,.slice none 0 0,.slice none 0 0,.bool false,.slice none 0 0,.slice none 0 0] 55∧FQ V q1 x∧FQ V ww hn) ?_ ?_
 · refine aH 5 0 [7,8,9,10,6] [Rel.val (q1.v),Rel.q hn,Rel.val (.int .i64 k1),Rel.val (.bool false),Rel.val (.bool false)] ?_ ?_
   · intro pq a W i HI hD Hr him
     have y2:=HI.o.rst 2 rfl;obtain⟨oM,oV,ny⟩:=cells3 (K1.o.below HI.o.world);obtain⟨X0,X2,X3⟩:=HI.o.g3 0 7 2 9 3 10
     match i,him,Hr with
     | 0,_,Hi|3,_,Hi|4,_,Hi =>
       try have x2:=X2.t Hi.o
       try have x3:=X3.t Hi.o
       refine stepH rfl fun K' hK=>?_;go_simp;exact hK.o _ _ (HI.o.pw Hi.o)
     | 1,_,Hi =>
       refine stepH rfl fun K' hK=>?_;go_simp;with_reducible refine(C1.o _).mono ?_
       rintro e W' ⟨ww,rfl,dY,hb⟩;exact hK.o _ _ ⟨HI.o.pc Hi.o hb ⟨ww,rfl,dY⟩,trivial⟩
     | 2,_,Hi =>
       have x0:=X0.q Hi.o;obtain⟨ww,x1,pu⟩:=qAt HI.o 1 8 Hi.o (by kernel_rfl);refine stepH rfl fun K' hK=>?_;go_simp;with_reducible refine(C2.o _ _ _ (R1.o.below HI.o.world) pu.o).mono ?_
       rintro e W' ⟨rfl,hb⟩;exact hK.o _ _ ⟨HI.o.pc Hi.o hb rfl,trivial⟩
     | n+5,h,_=>exact absurd h (by omega)
   · intro pq a W HI hD HA
     obtain⟨ww,x1,pu⟩:=qEnd HI.o HA.o 1 8;have rM:=hid HI.o.world;obtain ⟨K1,K2,R1⟩:=bA rM.o K1 K2 R1;have ol:=Lib.hid (rV.o.trans (rM.o.mono rV.o.size));have RHN:=pu;refine aV ?_;exact⟨rfl,ww,(HI.o.finx ⟨HI.o.sx HA.o 0,x1,HI.o.sx HA.o 2,HI.o.sx HA.o 3,HI.o.sx HA.o 4,trivial⟩ rfl),ol.o,K1.o,K2.o,R1.o,RHN.o⟩
 rintro a' W1 ⟨ww,rfl,z0,z1,z2,z3,z4⟩;obtain ⟨mi,K1,K2,R1,RHN⟩:=bz z0 z1 z2 z3 z4;clear z0 z1 z2 z3 z4;simp only[putL,List.setIfInBounds_toArray,List.set_cons_zero,List.set_cons_succ];go_wp2_with fail
 refine ay (fun a0 a' V=>∃ (p8:QS),a'=⟨putL [(18,q1.v),(19,p8.v),(20,.int .i64 k2),(21,.bool false),(17,.bool false)] a0.tmps,a0.defers⟩∧Below w.heap.size w V∧SBk V (w.heap.size) q1.l.toArray 49∧SBk V (w.heap.size+1) #[.bool false,.slice none 0 0,.slice none 0 0,.bool false,.slice none 0 0,.slice none 0 0] 55∧FQ V q1 x∧FQ V ww hn∧FQ V p8 hp) ?_ ?_
 · refine aH 5 0 [18,19,20,21,17] [Rel.val (q1.v),Rel.q hp,Rel.val (.int .i64 k2),Rel.val (.bool false),Rel.val (.bool false)] ?_ ?_
   · intro pq a W i HI hD Hr him
     have y2:=HI.o.rst 2 rfl;obtain⟨oM,oV,ny⟩:=cells3 (K1.o.below HI.o.world);obtain⟨X0,X2,X3⟩:=HI.o.g3 0 18 2 20 3 21
     match i,him,Hr with
     | 0,_,Hi|3,_,Hi|4,_,Hi =>
       try have x2:=X2.t Hi.o
       try have x3:=X3.t Hi.o
       refine stepH rfl fun K' hK=>?_;go_simp;exact hK.o _ _ (HI.o.pw Hi.o)
     | 1,_,Hi =>
       refine stepH rfl fun K' hK=>?_;go_simp;with_reducible refine(C3.o _).mono ?_
       rintro e W' ⟨p8,rfl,u0h,hb⟩;exact hK.o _ _ ⟨HI.o.pc Hi.o hb ⟨p8,rfl,u0h⟩,trivial⟩
     | 2,_,Hi =>
       have x0:=X0.q Hi.o;obtain⟨p8,x1,cO⟩:=qAt HI.o 1 19 Hi.o (by kernel_rfl);refine stepH rfl fun K' hK=>?_;go_simp;with_reducible refine(C4.o _ _ _ (R1.o.below HI.o.world) cO.o).mono ?_
       rintro e W' ⟨rfl,hb⟩;exact hK.o _ _ ⟨HI.o.pc Hi.o hb rfl,trivial⟩
     | n+5,h,_=>exact absurd h (by omega)
   · intro pq a W HI hD HA
     obtain⟨p8,x1,cO⟩:=qEnd HI.o HA.o 1 19;have rM:=hid HI.o.world;obtain ⟨K1,K2,R1,RHN⟩:=bY rM.o K1 K2 R1 RHN;have ol:=Lib.hid (mi.o.trans (rM.o.mono mi.o.size));have RHP:=cO;refine aV ?_;exact⟨rfl,p8,(HI.o.finx ⟨HI.o.sx HA.o 0,x1,HI.o.sx HA.o 2,HI.o.sx HA.o 3,HI.o.sx HA.o 4,trivial⟩ rfl),ol.o,K1.o,K2.o,R1.o,RHN.o,RHP.o⟩
 rintro a' W2 ⟨p8,rfl,z0,z1,z2,z3,z4,z5⟩;obtain ⟨l5,K1,K2,R1,RHN,RHP⟩:=di z0 z1 z2 z3 z4 z5;clear z0 z1 z2 z3 z4 z5;simp only[putL,List.setIfInBounds_toArray,List.set_cons_zero,List.set_cons_succ];go_wp2_with fail
 have L1:=K1.o.lt;have L2:=K2.o.lt;have L3:=l5.o.size;refine ay (fun a0 a' V=>∃ (bg:QS) (bn:QS) (bq:QS) (bu:QS) (ma:QS) (gn3:Nat),a'=⟨putL [(25,bg.v),(26,q1.v),(27,bn.v),(28,bq.v),(29,q1.v),(30,bu.v),(31,ma.v),(5,.pointer (some ⟨gn3,0,none⟩))] a0.tmps,a0.defers⟩∧Below w.heap.size w V∧SBk V (w.heap.size+1) #[.bool false,.slice none 0 0,.slice none 0 0,.bool false,.slice none 0 0,.slice none 0 0] 55∧SBk V (gn3) ma.l.toArray 49∧FQ V ma r∧W2.heap.size≤gn3) ?_ ?_
 · refine aH 8 1 [25,26,27,28,29,30,31,5] [Rel.q u,Rel.val (q1.v),Rel.q m,Rel.q u,Rel.val (q1.v),Rel.q p,Rel.q r,Rel.ptr W2.heap.size (.cells #[.bool false,.slice none 0 0,.slice none 0 0] 49)] ?_ ?_
   · intro pq a W i HI hD Hr him
     have y2:=HI.o.rst 2 rfl;obtain⟨oM,oV,ny⟩:=cells3 (K1.o.below HI.o.world);obtain⟨X1,X4⟩:=HI.o.g2 1 26 4 29
     match i,him,Hr with
     | 1,_,Hi|4,_,Hi =>
       refine stepH rfl fun K' hK=>?_;go_simp;exact hK.o _ _ (HI.o.pw Hi.o)
     | 0,_,Hi =>
       refine stepH rfl fun K' hK=>?_;go_simp;with_reducible refine(C5.o _).mono ?_
       rintro e W' ⟨bg,rfl,u0G,hb⟩;exact hK.o _ _ ⟨HI.o.pc Hi.o hb ⟨bg,rfl,u0G⟩,trivial⟩
     | 2,_,Hi =>
       obtain⟨bg,x0,u0i⟩:=qAt HI.o 0 25 Hi.o (by kernel_rfl);have x1:=X1.q Hi.o;refine stepH rfl fun K' hK=>?_;go_simp;with_reducible refine(C6.o _ _ _ u0i.o (R1.o.below HI.o.world)).mono ?_
       rintro e W' ⟨bn,rfl,u0H,hb⟩;exact hK.o _ _ ⟨HI.o.pc Hi.o hb ⟨bn,rfl,u0H⟩,trivial⟩
     | 3,_,Hi =>
       refine stepH rfl fun K' hK=>?_;go_simp;with_reducible refine(C5.o _).mono ?_
       rintro e W' ⟨bq,rfl,u0I,hb⟩;exact hK.o _ _ ⟨HI.o.pc Hi.o hb ⟨bq,rfl,u0I⟩,trivial⟩
     | 5,_,Hi =>
       obtain⟨bq,x3,u0j⟩:=qAt HI.o 3 28 Hi.o (by kernel_rfl);have x4:=X4.q Hi.o;refine stepH rfl fun K' hK=>?_;go_simp;with_reducible refine(C7.o _ _ _ u0j.o (R1.o.below HI.o.world)).mono ?_
       rintro e W' ⟨bu,rfl,u0J,hb⟩;exact hK.o _ _ ⟨HI.o.pc Hi.o hb ⟨bu,rfl,u0J⟩,trivial⟩
     | 6,_,Hi =>
       obtain⟨bn,x2,u0k⟩:=qAt HI.o 2 27 Hi.o (by kernel_rfl);obtain⟨bu,x5,u0l⟩:=qAt HI.o 5 30 Hi.o (by kernel_rfl);refine stepH rfl fun K' hK=>?_;go_simp;with_reducible refine(C8.o _ _ _ u0k.o u0l.o).mono ?_
       rintro e W' ⟨ma,rfl,u0K,hb⟩;exact hK.o _ _ ⟨HI.o.pc Hi.o hb ⟨ma,rfl,u0K⟩,trivial⟩
     | 7,_,Hi =>
       refine stepH rfl fun K' hK=>?_;go_simp;exact hK.o _ _ ⟨HI.o.pc Hi.o ((Below.refl W.heap.size W).alloc (Nat.le_refl _) (.cells #[.bool false,.slice none 0 0,.slice none 0 0] 49)) ⟨W.heap.size,rfl,HI.o.world.size,SBk.new _ _ _⟩,trivial⟩
     | n+8,h,_=>exact absurd h (by omega)
   · intro pq a W HI hD HA
     obtain⟨bg,x0,u0i⟩:=qEnd HI.o HA.o 0 25;obtain⟨bn,x2,u0k⟩:=qEnd HI.o HA.o 2 27;obtain⟨bq,x3,u0j⟩:=qEnd HI.o HA.o 3 28;obtain⟨bu,x5,u0l⟩:=qEnd HI.o HA.o 5 30;obtain⟨ma,x6,u0L⟩:=qEnd HI.o HA.o 6 31;obtain⟨v',x7,gn3,e,hge,hsb⟩:=HI.o.slots 7 (by decide) (HA.o 7 (by decide));obtain rfl:=e;have x7:a.tmps[5]? = some (.pointer (some ⟨gn3,0,none⟩)):=x7;obtain ⟨RRG,hsb⟩:=aB hge hsb;clear hge;have rM:=hid HI.o.world;have K2:=hid (K2.o.below rM.o);have K3:Hid (SBk W gn3 #[.bool false,.slice none 0 0,.slice none 0 0] 49):=hsb;have ol:=hid (l5.o.trans (rM.o.mono l5.o.size));have RU:=u0i;have RM:=u0k;have RU2:=u0j;have RP9:=u0l;have RR9:=u0L;obtain⟨u0M,u0N,u0O⟩:=cells3 K3.o;obtain⟨u0Y,u0Z,u10⟩:=frz3 K3.o;dsimp only[QS.v]at x6;refine aZ (t:=0) ?_;refine stepH rfl fun K' hK=>?_;go_simp;refine hK.o _ _ ?_;clear hK;refine aV ?_;rw[← iM];have s0:∀ {q':QS} {x':Rat},FQ W q' x'→FQ (storeAll W (gn3) 0 ma.l) q' x':=fun h'=>bO _ 0 h' K3.o (by simp[bJ,Lvv,QS.l]) (by simp[aU,Lvv,QS.l]);have o0:∀ {g':Nat} {cs':Array Value} {T':TypeId},g'≠gn3→SBk W g' cs' T'→SBk (storeAll W (gn3) 0 ma.l) g' cs' T':=fun hg' h'=>bR hg' _ 0 h';exact⟨rfl,bg,bn,bq,bu,ma,gn3,(HI.o.finx ⟨x0,HI.o.sx HA.o 1,x2,x3,HI.o.sx HA.o 4,x5,x6,x7,trivial⟩ rfl),(aj (l:=ma.l) (i:=0) (by have:=RRG.o;omega) ol.o),(o0 (by have:=RRG.o;omega) K2.o),(eP K3.o),(s0 RR9.o),RRG.o⟩
 rintro a' W3 ⟨bg,bn,bq,bu,ma,gn3,rfl,z0,z1,z2,z3,z4⟩;obtain ⟨l6,K2,K3,RR9,RRW3⟩:=bz z0 z1 z2 z3 z4;clear z0 z1 z2 z3 z4;simp only[putL,List.setIfInBounds_toArray,List.set_cons_zero,List.set_cons_succ];go_wp2_with fail
 refine ay (fun a0 a' V=>∃ (bv:QS) (bM:QS) (bV:QS) (af:QS) (u00:QS) (u01:QS) (u02:QS) (wo:QS) (wu:QS),a'=⟨putL [(32,.int .i64 n),(33,Qii bv bM),(34,bV.v),(35,Qii af u00),(36,ma.v),(37,.int .i64 n),(38,Qii u01 u02),(39,Qii wo wu)] a0.tmps,a0.defers⟩∧Below w.heap.size w V∧SBk V (w.heap.size+1) #[.bool wo.b,.slice wo.a wo.n wo.c,.slice wo.e wo.m wo.d,.bool wu.b,.slice wu.a wu.n wu.c,.slice wu.e wu.m wu.d] 55∧FQ V wo za∧FQ V wu zb) ?_ ?_
 · refine aH 8 1 [32,33,34,35,36,37,38,39] [Rel.val (.int .i64 n),Rel.qi pa pb,Rel.q f4,Rel.qi ca cb,Rel.val (ma.v),Rel.val (.int .i64 n),Rel.qi sa sb,Rel.qi za zb] ?_ ?_
   · intro pq a W i HI hD Hr him
     obtain⟨y1,y5⟩:=HI.o.s2 1 5;obtain⟨u0M,u0N,u0O⟩:=cells3 (K3.o.below HI.o.world);obtain⟨X0,X4,X5⟩:=HI.o.g3 0 32 4 36 5 37
     match i,him,Hr with
     | 0,_,Hi|4,_,Hi|5,_,Hi =>
       refine stepH rfl fun K' hK=>?_;go_simp;exact hK.o _ _ (HI.o.pw Hi.o)
     | 1,_,Hi =>
       have x0:=X0.q Hi.o;refine stepH rfl fun K' hK=>?_;go_simp;with_reducible refine(C9.o _).mono ?_
       rintro e W' ⟨bv,bM,rfl,rn4_1a,rn4_1b,hb⟩;exact hK.o _ _ ⟨HI.o.pc Hi.o hb ⟨bv,bM,rfl,rn4_1a,rn4_1b⟩,trivial⟩
     | 2,_,Hi =>
       refine stepH rfl fun K' hK=>?_;go_simp;with_reducible refine(CA.o _).mono ?_
       rintro e W' ⟨bV,rfl,u0P,hb⟩;exact hK.o _ _ ⟨HI.o.pc Hi.o hb ⟨bV,rfl,u0P⟩,trivial⟩
     | 3,_,Hi =>
       obtain⟨bv,bM,x1,u0m,u0n⟩:=qAti HI.o 1 33 Hi.o (by kernel_rfl);dsimp only[Qii]at x1;obtain⟨bV,x2,u0o⟩:=qAt HI.o 2 34 Hi.o (by kernel_rfl);refine stepH rfl fun K' hK=>?_;go_simp;with_reducible refine(CB.o _ _ _ _ u0m.o u0n.o u0o.o).mono ?_
       rintro e W' ⟨af,u00,rfl,rn4_3a,rn4_3b,hb⟩;exact hK.o _ _ ⟨HI.o.pc Hi.o hb ⟨af,u00,rfl,rn4_3a,rn4_3b⟩,trivial⟩
     | 6,_,Hi =>
       have x4:=X4.q Hi.o;have x5:=X5.q Hi.o;refine stepH rfl fun K' hK=>?_;go_simp;with_reducible refine(CD.o _ _ (RR9.o.below HI.o.world)).mono ?_
       rintro e W' ⟨u01,u02,rfl,rn4_6a,rn4_6b,hb⟩;exact hK.o _ _ ⟨HI.o.pc Hi.o hb ⟨u01,u02,rfl,rn4_6a,rn4_6b⟩,trivial⟩
     | 7,_,Hi =>
       obtain⟨af,u00,x3,u0p,u0q⟩:=qAti HI.o 3 35 Hi.o (by kernel_rfl);dsimp only[Qii]at x3;obtain⟨u01,u02,x6,u0r,u0s⟩:=qAti HI.o 6 38 Hi.o (by kernel_rfl);dsimp only[Qii]at x6;refine stepH rfl fun K' hK=>?_;go_simp;with_reducible refine(CE.o _ _ _ _ _ u0p.o u0q.o u0r.o u0s.o).mono ?_
       rintro e W' ⟨wo,wu,rfl,rn4_7a,rn4_7b,hb⟩;exact hK.o _ _ ⟨HI.o.pc Hi.o hb ⟨wo,wu,rfl,rn4_7a,rn4_7b⟩,trivial⟩
     | n+8,h,_=>exact absurd h (by omega)
   · intro pq a W HI hD HA
     obtain⟨bv,bM,x1,u0m,u0n⟩:=iO HI.o HA.o 1 33;obtain⟨bV,x2,u0o⟩:=qEnd HI.o HA.o 2 34;obtain⟨af,u00,x3,u0p,u0q⟩:=iO HI.o HA.o 3 35;obtain⟨u01,u02,x6,u0r,u0s⟩:=iO HI.o HA.o 6 38;obtain⟨wo,wu,x7,u0Q,u0R⟩:=iO HI.o HA.o 7 39;have rM:=hid HI.o.world;obtain ⟨ol,K2⟩:=aB (l6.o.trans (rM.o.mono l6.o.size)) (K2.o.below rM.o);have RPA:=u0m;have RPB:=u0n;have RF4:=u0o;have RCA:=u0p;have RCB:=u0q;have RSA:=u0r;have RSB:=u0s;have RZA:=u0Q;have RZB:=u0R;obtain ⟨lg,ll,lv,kz,kM,kV⟩:=bE K2.o rfl rfl rfl rfl rfl rfl;obtain ⟨u0b,u0c,u0d,u0e,u0f,u0g⟩:=dP K2.o;have y4:=HI.o.rst 4 rfl;dsimp only[Qii]at x7;refine aZ (t:=0) ?_;refine stepH rfl fun K' hK=>?_;go_simp;refine hK.o _ _ ?_;clear hK;refine aV ?_;rw[← dL];have s0:∀ {q':QS} {x':Rat},FQ W q' x'→FQ (storeAll W (w.heap.size+1) 0 [.bool wo.b,.slice wo.a wo.n wo.c,.slice wo.e wo.m wo.d,.bool wu.b,.slice wu.a wu.n wu.c,.slice wu.e wu.m wu.d]) q' x':=fun h'=>bO _ 0 h' K2.o (by simp[bJ]) (by simp[aU]);exact⟨rfl,bv,bM,bV,af,u00,u01,u02,wo,wu,(HI.o.finx ⟨HI.o.sx HA.o 0,x1,x2,x3,HI.o.sx HA.o 4,HI.o.sx HA.o 5,x6,x7,trivial⟩ rfl),(aj (l:=[.bool wo.b,.slice wo.a wo.n wo.c,.slice wo.e wo.m wo.d,.bool wu.b,.slice wu.a wu.n wu.c,.slice wu.e wu.m wu.d]) (i:=0) (by have:=RRW3.o;omega) ol.o),(dC K2.o),(s0 RZA.o),(s0 RZB.o)⟩
 rintro a' W4 ⟨bv,bM,bV,af,u00,u01,u02,wo,wu,rfl,z0,z1,z2,z3⟩;obtain ⟨d9,K2,RZA,RZB⟩:=aN z0 z1 z2 z3;clear z0 z1 z2 z3;simp only[putL,List.setIfInBounds_toArray,List.set_cons_zero,List.set_cons_succ];go_wp2;obtain ⟨lg,ll,lv,kz,kM,kV⟩:=bE K2.o rfl rfl rfl rfl rfl rfl;exact bodyPost_ret (v:=.agg #[.bool wo.b,.slice wo.a wo.n wo.c,.slice wo.e wo.m wo.d,.bool wu.b,.slice wu.a wu.n wu.c,.slice wu.e wu.m wu.d]) (by simp[results,results61,go_sem,lg,ll,lv,kz,kM,kV]) rfl ⟨_,_,rfl,RZA.o,RZB.o,d9.o⟩
theorem yInW (x a b k cc d pa pb za zb:Rat)(n:Int)(q1:QS)(w:World)  (h1:KEn 61 x (.int .i64 n) a b)(h2:KS 24 (.int .i64 360) k)(h3:KIQ 60 a b k cc d)(h4:KNI 62 (.int .i64 n) pa pb)(h5:KII 59 cc d pa pb za zb)(r1:FQ w q1 x) :
 Calls Tryz.prog 26 #[(QS.v q1),.int .i64 n] w (RII w za zb):=by
 dsimp only[QS.v];obtain ⟨C1,C2,C3,C4,C5,R1⟩:=di h1 h2 h3 h4 h5 r1;clear h1 h2 h3 h4 h5 r1;go_enter func26,ntmps26
 go_upto_region 1 with fail
 refine av w [(q1.l.toArray,49),(#[.bool false,.slice none 0 0,.slice none 0 0,.bool false,.slice none 0 0,.slice none 0 0],55)] rfl ?_;rintro W0 ⟨k1,k2,hb⟩;have rV:=hid (show Below w.heap.size w W0 from hb);obtain ⟨K1,K2,R1⟩:=ak k1 k2 (R1.o.below rV.o);clear k1 k2 hb;obtain ⟨oM,oV,ny⟩:=aA K1.o rfl rfl rfl;go_wp2_with fail
 with_reducible refine(C1.o _ _ R1.o).mono ?_
 rintro e W1 ⟨si,sj,rfl,mf,u05,hb⟩;clear oM oV ny;have K2:=hid (K2.o.below hb);have mi:=hbt rV hb;have RA:=hid mf;have RB:=hid u05;clear hb mf u05;go_wp2_with fail
 with_reducible refine(C2.o _).mono ?_
 rintro e W2 ⟨q_2,rfl,gy,hb⟩;obtain ⟨K2,RA,RB⟩:=bA hb K2 RA RB;have l5:=hbt mi hb;have RK:=hid gy;clear hb gy;go_wp2_with fail
 with_reducible refine(C3.o _ _ _ _ RA.o RB.o RK.o).mono ?_
 rintro e W3 ⟨u12,u13,rfl,fq,u0w,hb⟩;have K2:=hid (K2.o.below hb);have l6:=hbt l5 hb;have RCC:=hid fq;have RD:=hid u0w;clear hb fq u0w;go_wp2_with fail
 with_reducible refine(C4.o _).mono ?_
 rintro e W4 ⟨u6,uu,rfl,fQ,ed,hb⟩;obtain ⟨K2,RCC,RD⟩:=bA hb K2 RCC RD;have d9:=hbt l6 hb;have RPA:=hid fQ;have RPB:=hid ed;clear hb fQ ed;go_wp2_with fail
 with_reducible refine(C5.o _ _ _ _ _ RCC.o RD.o RPA.o RPB.o).mono ?_
 rintro e W5 ⟨su,sw,rfl,u0x,u0y,hb⟩;have K2:=hid (K2.o.below hb);have HB5:=hbt d9 hb;have RZA:=hid u0x;have RZB:=hid u0y;clear hb u0x u0y;obtain ⟨lg,ll,lv,kz,kM,kV⟩:=bE K2.o rfl rfl rfl rfl rfl rfl;obtain ⟨u0b,u0c,u0d,u0e,u0f,u0g⟩:=dP K2.o;go_wp2;exact bodyPost_ret (v:=.agg #[.bool su.b,.slice su.a su.n su.c,.slice su.e su.m su.d,.bool sw.b,.slice sw.a sw.n sw.c,.slice sw.e sw.m sw.d]) (by simp[results,results26,go_sem,lg,ll,lv,kz,kM,kV]) rfl ⟨_,_,rfl,(bO [.bool su.b,.slice su.a su.n su.c,.slice su.e su.m su.d,.bool sw.b,.slice sw.a sw.n sw.c,.slice sw.e sw.m sw.d] 0 RZA.o K2.o (by simp[bJ]) (by simp[aU])),(bO [.bool su.b,.slice su.a su.n su.c,.slice su.e su.m su.d,.bool sw.b,.slice sw.a sw.n sw.c,.slice sw.e sw.m sw.d] 0 RZB.o K2.o (by simp[bJ]) (by simp[aU])),(aj (l:=[.bool su.b,.slice su.a su.n su.c,.slice su.e su.m su.d,.bool sw.b,.slice sw.a sw.n sw.c,.slice sw.e sw.m sw.d]) (i:=0) (by omega) HB5.o)⟩
