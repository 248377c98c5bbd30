/- texts -/
import Derived.Test.YtkiklcbhglpooaaGreatDoorCf
open Go.Proofs.Tryz
set_option maxRecDepth 100000
set_option maxHeartbeats 20000000
open Go.Lib (hid)
namespace Go.Proofs.YtkiklcbhglpooaaGreatDoor
open Go.RowKit Go.Gb
set_option linter.unusedSimpArgs false
set_option linter.unusedVariables false
abbrev KS2 (f:Nat) (v0 v1:Value) (z:Rat):Prop:=∀ (W:World),Calls Tryz.prog f #[v0,v1] W (RQ W z)
abbrev KEn (f:Nat) (x:Rat) (v:Value) (lo hi:Rat):Prop:=∀ (q0:QS) (W:World),FQ W q0 x→Calls Tryz.prog f #[.agg #[.bool q0.b,.slice q0.a q0.n q0.c,.slice q0.e q0.m q0.d],v] W (RII W lo hi)
abbrev KNI (f:Nat) (v:Value) (lo hi:Rat):Prop:=∀ (W:World),Calls Tryz.prog f #[v] W (RII W lo hi)
theorem z6Q (n:Int)(f5 a1 b1 k1 c1 d1 f2 a2 b2 k2 c2 d2 za zb:Rat)  (w:World)  (h1:KS2 86 (.int .i64 1) (.int .i64 5) f5)(h2:KEn 101 f5 (.int .i64 n) a1 b1)(h3:KS 27 (.int .i64 16) k1)(h4:KIQ 100 a1 b1 k1 c1 d1)(h5:KS2 86 (.int .i64 1) (.int .i64 239) f2)(h6:KEn 101 f2 (.int .i64 n) a2 b2)(h7:KS 27 (.int .i64 4) k2)(h8:KIQ 100 a2 b2 k2 c2 d2)(h9:KII 102 c1 d1 c2 d2 za zb)  :
 Calls Tryz.prog 44 #[.int .i64 n] w (RII w za zb):=by
 obtain ⟨C1,C2,C3,C4,C5,C6,C7,C8,C9⟩:=bZ h1 h2 h3 h4 h5 h6 h7 h8 h9;clear h1 h2 h3 h4 h5 h6 h7 h8 h9;go_enter func44,ntmps44
 go_upto_region 1 with fail
 refine ak w [(#[.bool false,.slice none 0 0,.slice none 0 0,.bool false,.slice none 0 0,.slice none 0 0],58)] rfl ?_;rintro W0 ⟨k1,hb⟩;have wu:=hid (show Below w.heap.size w W0 from hb);have K1:=hid k1;clear k1 hb;go_wp2_with fail
 with_reducible refine(C1.o _).mono ?_
 rintro e W1 ⟨q_1,rfl,ww,hb⟩;have K1:=hid (K1.o.below hb);have w9:=hbt wu hb;have RF5:=hid ww;clear hb ww;go_wp2_with fail
 with_reducible refine(C2.o _ _ RF5.o).mono ?_
 rintro e W2 ⟨u0B,u0C,rfl,ed,cO,hb⟩;have K1:=hid (K1.o.below hb);have pu:=hbt w9 hb;have RA1:=hid ed;have RB1:=hid cO;clear hb ed cO;go_wp2_with fail
 with_reducible refine(C3.o _).mono ?_
 rintro e W3 ⟨q_3,rfl,lv,hb⟩;obtain ⟨K1,RA1,RB1⟩:=bA hb K1 RA1 RB1;have mf:=hbt pu hb;have RK1:=hid lv;clear hb lv;go_wp2_with fail
 with_reducible refine(C4.o _ _ _ _ RA1.o RB1.o RK1.o).mono ?_
 rintro e W4 ⟨wm,wo,rfl,bg,bn,hb⟩;have K1:=hid (K1.o.below hb);have fQ:=hbt mf hb;have RC1:=hid bg;have RD1:=hid bn;clear hb bg bn;go_upto_region 2 with fail
 refine ak W4 [(#[.bool wm.b,.slice wm.a wm.n wm.c,.slice wm.e wm.m wm.d,.bool wo.b,.slice wo.a wo.n wo.c,.slice wo.e wo.m wo.d],58)] rfl ?_;have L1:=K1.o.lt;have L2:=fQ.o.size;rintro W5 ⟨k2,hb⟩;have hb:Below W4.heap.size W4 W5:=hb;obtain ⟨K1,RC1,RD1⟩:=bA hb K1 RC1 RD1;have d9:=hbt fQ hb;have K2:=hid k2;clear k2 hb;go_wp2_with fail
 refine az (fun a0 a' V=>∃ (pq:QS) (bu:QS) (bv:QS) (bM:QS) (bV:QS) (af:QS) (si:QS) (sj:QS),a'=⟨putL [(9,Qii wm wo),(10,pq.v),(11,.int .i64 n),(12,Qii bu bv),(13,bM.v),(14,Qii bV af),(15,Qii si sj)] a0.tmps,a0.defers⟩∧Below w.heap.size w V∧SBk V (w.heap.size) #[.bool si.b,.slice si.a si.n si.c,.slice si.e si.m si.d,.bool sj.b,.slice sj.a sj.n sj.c,.slice sj.e sj.m sj.d] 58∧FQ V si za∧FQ V sj zb) ?_ ?_
 · refine aL 7 1 [9,10,11,12,13,14,15] [Rel.val (Qii wm wo),Rel.q f2,Rel.val (.int .i64 n),Rel.qi a2 b2,Rel.q k2,Rel.qi c2 d2,Rel.qi za zb] ?_ ?_
   · intro l5 a W i HI hD Hr him
     obtain⟨y3,y0⟩:=HI.o.s2 3 0;obtain ⟨kM,kV,gy,dz,dX,dY⟩:=bQ (K2.o.below HI.o.world) rfl rfl rfl rfl rfl rfl;obtain⟨X2,X0⟩:=HI.o.g2 2 11 0 9
     match i,him,Hr with
     | 0,_,Hi|2,_,Hi =>
       refine aA rfl fun K' hK=>?_;go_simp;exact hK.o _ _ (HI.o.pw Hi.o)
     | 1,_,Hi =>
       refine aA rfl fun K' hK=>?_;go_simp;with_reducible refine(C5.o _).mono ?_
       rintro e W' ⟨pq,rfl,u00,hb⟩;exact hK.o _ _ ⟨HI.o.pc Hi.o hb ⟨pq,rfl,u00⟩,trivial⟩
     | 3,_,Hi =>
       obtain⟨pq,x1,l6⟩:=qAt HI.o 1 10 Hi.o (by kernel_rfl);have x2:=X2.q Hi.o;refine aA rfl fun K' hK=>?_;go_simp;with_reducible refine(C6.o _ _ l6.o).mono ?_
       rintro e W' ⟨bu,bv,rfl,rn1_3a,rn1_3b,hb⟩;exact hK.o _ _ ⟨HI.o.pc Hi.o hb ⟨bu,bv,rfl,rn1_3a,rn1_3b⟩,trivial⟩
     | 4,_,Hi =>
       refine aA rfl fun K' hK=>?_;go_simp;with_reducible refine(C7.o _).mono ?_
       rintro e W' ⟨bM,rfl,u0L,hb⟩;exact hK.o _ _ ⟨HI.o.pc Hi.o hb ⟨bM,rfl,u0L⟩,trivial⟩
     | 5,_,Hi =>
       obtain⟨bu,bv,x3,u0e,u0f⟩:=qAti HI.o 3 12 Hi.o (by kernel_rfl);dsimp only[Qii]at x3;obtain⟨bM,x4,u0g⟩:=qAt HI.o 4 13 Hi.o (by kernel_rfl);refine aA rfl fun K' hK=>?_;go_simp;with_reducible refine(C8.o _ _ _ _ u0e.o u0f.o u0g.o).mono ?_
       rintro e W' ⟨bV,af,rfl,rn1_5a,rn1_5b,hb⟩;exact hK.o _ _ ⟨HI.o.pc Hi.o hb ⟨bV,af,rfl,rn1_5a,rn1_5b⟩,trivial⟩
     | 6,_,Hi =>
       have x0:=X0.q Hi.o;obtain⟨bV,af,x5,u0h,u0i⟩:=qAti HI.o 5 14 Hi.o (by kernel_rfl);dsimp only[Qii]at x5;refine aA rfl fun K' hK=>?_;go_simp;with_reducible refine(C9.o _ _ _ _ _ (RC1.o.below HI.o.world) (RD1.o.below HI.o.world) u0h.o u0i.o).mono ?_
       rintro e W' ⟨si,sj,rfl,rn1_6a,rn1_6b,hb⟩;exact hK.o _ _ ⟨HI.o.pc Hi.o hb ⟨si,sj,rfl,rn1_6a,rn1_6b⟩,trivial⟩
     | n+7,h,_=>exact absurd h (by omega)
   · intro l5 a W HI hD HA
     obtain⟨pq,x1,l6⟩:=qEnd HI.o HA.o 1 10;obtain⟨bu,bv,x3,u0e,u0f⟩:=iO HI.o HA.o 3 12;obtain⟨bM,x4,u0g⟩:=qEnd HI.o HA.o 4 13;obtain⟨bV,af,x5,u0h,u0i⟩:=iO HI.o HA.o 5 14;obtain⟨si,sj,x6,u0M,u0N⟩:=iO HI.o HA.o 6 15;have ma:=hid HI.o.world;obtain ⟨lg,K1⟩:=aD (d9.o.trans (ma.o.mono d9.o.size)) (K1.o.below ma.o);have RF2:=l6;have RA2:=u0e;have RB2:=u0f;have RK2:=u0g;have RC2:=u0h;have RD2:=u0i;have RZA:=u0M;have RZB:=u0N;obtain ⟨rV,p8,kz,u0D,u0E,u0F⟩:=bQ K1.o rfl rfl rfl rfl rfl rfl;obtain ⟨dn,dx,u11,u12,u13,u14⟩:=dR K1.o;have y2:=HI.o.rst 2 rfl;dsimp only[Qii]at x6;refine aZ (t:=0) ?_;refine aA rfl fun K' hK=>?_;go_simp;refine hK.o _ _ ?_;clear hK;refine aV ?_;rw[← dM];have s0:∀ {q':QS} {x':Rat},FQ W q' x'→FQ (storeAll W (w.heap.size) 0 [.bool si.b,.slice si.a si.n si.c,.slice si.e si.m si.d,.bool sj.b,.slice sj.a sj.n sj.c,.slice sj.e sj.m sj.d]) q' x':=fun h'=>bO _ 0 h' K1.o (by simp[bJ]) (by simp[aW]);exact⟨rfl,pq,bu,bv,bM,bV,af,si,sj,(HI.o.finx ⟨HI.o.sx HA.o 0,x1,HI.o.sx HA.o 2,x3,x4,x5,x6,trivial⟩ rfl),(aj (l:=[.bool si.b,.slice si.a si.n si.c,.slice si.e si.m si.d,.bool sj.b,.slice sj.a sj.n sj.c,.slice sj.e sj.m sj.d]) (i:=0) (by omega) lg.o),(dC K1.o),(s0 RZA.o),(s0 RZB.o)⟩
 rintro a' W6 ⟨pq,bu,bv,bM,bV,af,si,sj,rfl,z0,z1,z2,z3⟩;obtain ⟨HB6,K1,RZA,RZB⟩:=aM z0 z1 z2 z3;clear z0 z1 z2 z3;simp only[putL,List.setIfInBounds_toArray,List.set_cons_zero,List.set_cons_succ];go_wp2;obtain ⟨rV,p8,kz,u0D,u0E,u0F⟩:=bQ K1.o rfl rfl rfl rfl rfl rfl;exact bodyPost_ret (v:=.agg #[.bool si.b,.slice si.a si.n si.c,.slice si.e si.m si.d,.bool sj.b,.slice sj.a sj.n sj.c,.slice sj.e sj.m sj.d]) (by simp[results,results44,go_sem,rV,p8,kz,u0D,u0E,u0F]) rfl ⟨_,_,rfl,RZA.o,RZB.o,HB6.o⟩
theorem z2z (x hn xm la lb u za zb:Rat)(n k1:Int)(q1:QS)(w:World)(hk:decide (k1<0)=true)(h1:KS2 86 (.int .i64 (-1)) (.int .i64 2) hn)(h2:KP2 87 x hn (.int .i64 k1))(h3:KQ1 105 x xm)(h4:KEn 48 xm (.int .i64 n) la lb)(h5:KS 27 (.int .i64 (-1)) u)(h6:KIQ 100 la lb u za zb)(r1:FQ w q1 x) :
 Calls Tryz.prog 48 #[(QS.v q1),.int .i64 n] w (RII w za zb):=by
 dsimp only[QS.v];obtain ⟨C1,C2,C3,C4,C5,C6,R1⟩:=dQ h1 h2 h3 h4 h5 h6 r1;have hkk:=hk;clear hk h1 h2 h3 h4 h5 h6 r1;go_enter func48,ntmps48
 go_upto_region 1 with fail
 refine ak w [(q1.l.toArray,50),(#[.bool false,.slice none 0 0,.slice none 0 0,.bool false,.slice none 0 0,.slice none 0 0],58)] rfl ?_;rintro W0 ⟨k1,k2,hb⟩;have wu:=hid (show Below w.heap.size w W0 from hb);obtain ⟨K1,K2,R1⟩:=au k1 k2 (R1.o.below wu.o);clear k1 k2 hb;go_wp2_with fail
 refine az (fun a0 a' V=>∃ (pq:QS),a'=⟨putL [(7,q1.v),(8,pq.v),(9,.int .i64 k1),(10,.bool true),(6,.bool true)] a0.tmps,a0.defers⟩∧Below w.heap.size w V∧SBk V (w.heap.size) q1.l.toArray 50∧SBk V (w.heap.size+1) #[.bool false,.slice none 0 0,.slice none 0 0,.bool false,.slice none 0 0,.slice none 0 0] 58∧FQ V q1 x) ?_ ?_
 · refine aL 5 0 [7,8,9,10,6] [Rel.val (q1.v),Rel.q hn,Rel.val (.int .i64 k1),Rel.val (.bool true),Rel.val (.bool true)] ?_ ?_
   · intro l5 a W i HI hD Hr him
     have y2:=HI.o.rst 2 rfl;obtain⟨rV,p8,kz⟩:=cells3 (K1.o.below HI.o.world);obtain⟨X0,X2,X3⟩:=HI.o.g3 0 7 2 9 3 10
     match i,him,Hr with
     | 0,_,Hi|3,_,Hi|4,_,Hi =>
       try have x2:=X2.t Hi.o
       try have x3:=X3.t Hi.o
       refine aA rfl fun K' hK=>?_;go_simp;exact hK.o _ _ (HI.o.pw Hi.o)
     | 1,_,Hi =>
       refine aA rfl fun K' hK=>?_;go_simp;with_reducible refine(C1.o _).mono ?_
       rintro e W' ⟨pq,rfl,u00,hb⟩;exact hK.o _ _ ⟨HI.o.pc Hi.o hb ⟨pq,rfl,u00⟩,trivial⟩
     | 2,_,Hi =>
       have x0:=X0.q Hi.o;obtain⟨pq,x1,l6⟩:=qAt HI.o 1 8 Hi.o (by kernel_rfl);refine aA rfl fun K' hK=>?_;go_simp;with_reducible refine(C2.o _ _ _ (R1.o.below HI.o.world) l6.o).mono ?_
       rintro e W' ⟨rfl,hb⟩;exact hK.o _ _ ⟨HI.o.pc Hi.o hb rfl,trivial⟩
     | n+5,h,_=>exact absurd h (by omega)
   · intro l5 a W HI hD HA
     obtain⟨pq,x1,l6⟩:=qEnd HI.o HA.o 1 8;have ma:=hid HI.o.world;obtain ⟨K1,K2,R1⟩:=bA ma.o K1 K2 R1;have lg:=Lib.hid (wu.o.trans (ma.o.mono wu.o.size));have RHN:=l6;refine aV ?_;exact⟨rfl,pq,(HI.o.finx ⟨HI.o.sx HA.o 0,x1,HI.o.sx HA.o 2,HI.o.sx HA.o 3,HI.o.sx HA.o 4,trivial⟩ rfl),lg.o,K1.o,K2.o,R1.o⟩
 rintro a' W1 ⟨pq,rfl,z0,z1,z2,z3⟩;obtain ⟨w9,K1,K2,R1⟩:=aM z0 z1 z2 z3;clear z0 z1 z2 z3;simp only[putL,List.setIfInBounds_toArray,List.set_cons_zero,List.set_cons_succ];obtain ⟨rV,p8,kz⟩:=aC K1.o rfl rfl rfl;go_wp2_with fail
 with_reducible refine(C3.o _ _ R1.o).mono ?_
 rintro e W2 ⟨q_1,rfl,ww,hb⟩;clear rV p8 kz;have K2:=hid (K2.o.below hb);have pu:=hbt w9 hb;have RM:=hid ww;clear hb ww;go_wp2_with fail
 with_reducible refine(C4.o _ _ RM.o).mono ?_
 rintro e W3 ⟨u0B,u0C,rfl,ed,cO,hb⟩;have K2:=hid (K2.o.below hb);have mf:=hbt pu hb;have RLA:=hid ed;have RLB:=hid cO;clear hb ed cO;go_wp2_with fail
 with_reducible refine(C5.o _).mono ?_
 rintro e W4 ⟨q_3,rfl,lv,hb⟩;obtain ⟨K2,RLA,RLB⟩:=bA hb K2 RLA RLB;have fQ:=hbt mf hb;have RU:=hid lv;clear hb lv;go_wp2_with fail
 with_reducible refine(C6.o _ _ _ _ RLA.o RLB.o RU.o).mono ?_
 rintro e W5 ⟨wm,wo,rfl,bg,bn,hb⟩;have K2:=hid (K2.o.below hb);have d9:=hbt fQ hb;have RZA:=hid bg;have RZB:=hid bn;clear hb bg bn;obtain ⟨kM,kV,gy,dz,dX,dY⟩:=bQ K2.o rfl rfl rfl rfl rfl rfl;obtain ⟨u0j,u0k,u0l,u0m,u0n,u0o⟩:=dR K2.o;go_wp2;exact bodyPost_ret (v:=.agg #[.bool wm.b,.slice wm.a wm.n wm.c,.slice wm.e wm.m wm.d,.bool wo.b,.slice wo.a wo.n wo.c,.slice wo.e wo.m wo.d]) (by simp[results,results48,go_sem,kM,kV,gy,dz,dX,dY]) rfl ⟨_,_,rfl,(bO [.bool wm.b,.slice wm.a wm.n wm.c,.slice wm.e wm.m wm.d,.bool wo.b,.slice wo.a wo.n wo.c,.slice wo.e wo.m wo.d] 0 RZA.o K2.o (by simp[bJ]) (by simp[aW])),(bO [.bool wm.b,.slice wm.a wm.n wm.c,.slice wm.e wm.m wm.d,.bool wo.b,.slice wo.a wo.n wo.c,.slice wo.e wo.m wo.d] 0 RZB.o K2.o (by simp[bJ]) (by simp[aW])),(aj (l:=[.bool wm.b,.slice wm.a wm.n wm.c,.slice wm.e wm.m wm.d,.bool wo.b,.slice wo.a wo.n wo.c,.slice wo.e wo.m wo.d]) (i:=0) (by omega) d9.o)⟩
theorem z2y (x hn hp za zb:Rat)(n k1 k2:Int)(q1:QS)(w:World)(hk:decide (k1<0)=false)(hm:decide (k2≤0)=true)(h1:KS2 86 (.int .i64 (-1)) (.int .i64 2) hn)(h2:KP2 87 x hn (.int .i64 k1))(h3:KS2 86 (.int .i64 1) (.int .i64 2) hp)(h4:KP2 87 x hp (.int .i64 k2))(h5:KEn 101 x (.int .i64 n) za zb)(r1:FQ w q1 x) :
 Calls Tryz.prog 48 #[(QS.v q1),.int .i64 n] w (RII w za zb):=by
 dsimp only[QS.v];obtain ⟨C1,C2,C3,C4,C5,R1⟩:=dh h1 h2 h3 h4 h5 r1;have hkk:=hk;have hmm:=hm;clear hk hm h1 h2 h3 h4 h5 r1;go_enter func48,ntmps48
 go_upto_region 1 with fail
 refine ak w [(q1.l.toArray,50),(#[.bool false,.slice none 0 0,.slice none 0 0,.bool false,.slice none 0 0,.slice none 0 0],58)] rfl ?_;rintro W0 ⟨k1,k2,hb⟩;have wu:=hid (show Below w.heap.size w W0 from hb);obtain ⟨K1,K2,R1⟩:=au k1 k2 (R1.o.below wu.o);clear k1 k2 hb;go_wp2_with fail
 refine az (fun a0 a' V=>∃ (pq:QS),a'=⟨putL [(7,q1.v),(8,pq.v),(9,.int .i64 k1),(10,.bool false),(6,.bool false)] a0.tmps,a0.defers⟩∧Below w.heap.size w V∧SBk V (w.heap.size) q1.l.toArray 50∧SBk V (w.heap.size+1) #[.bool false,.slice none 0 0,.slice none 0 0,.bool false,.slice none 0 0,.slice none 0 0] 58∧FQ V q1 x) ?_ ?_
 · refine aL 5 0 [7,8,9,10,6] [Rel.val (q1.v),Rel.q hn,Rel.val (.int .i64 k1),Rel.val (.bool false),Rel.val (.bool false)] ?_ ?_
   · intro l5 a W i HI hD Hr him
     have y2:=HI.o.rst 2 rfl;obtain⟨rV,p8,kz⟩:=cells3 (K1.o.below HI.o.world);obtain⟨X0,X2,X3⟩:=HI.o.g3 0 7 2 9 3 10
     match i,him,Hr with
     | 0,_,Hi|3,_,Hi|4,_,Hi =>
       try have x2:=X2.t Hi.o
       try have x3:=X3.t Hi.o
       refine aA rfl fun K' hK=>?_;go_simp;exact hK.o _ _ (HI.o.pw Hi.o)
     | 1,_,Hi =>
       refine aA rfl fun K' hK=>?_;go_simp;with_reducible refine(C1.o _).mono ?_
       rintro e W' ⟨pq,rfl,u00,hb⟩;exact hK.o _ _ ⟨HI.o.pc Hi.o hb ⟨pq,rfl,u00⟩,trivial⟩
     | 2,_,Hi =>
       have x0:=X0.q Hi.o;obtain⟨pq,x1,l6⟩:=qAt HI.o 1 8 Hi.o (by kernel_rfl);refine aA rfl fun K' hK=>?_;go_simp;with_reducible refine(C2.o _ _ _ (R1.o.below HI.o.world) l6.o).mono ?_
       rintro e W' ⟨rfl,hb⟩;exact hK.o _ _ ⟨HI.o.pc Hi.o hb rfl,trivial⟩
     | n+5,h,_=>exact absurd h (by omega)
   · intro l5 a W HI hD HA
     obtain⟨pq,x1,l6⟩:=qEnd HI.o HA.o 1 8;have ma:=hid HI.o.world;obtain ⟨K1,K2,R1⟩:=bA ma.o K1 K2 R1;have lg:=Lib.hid (wu.o.trans (ma.o.mono wu.o.size));have RHN:=l6;refine aV ?_;exact⟨rfl,pq,(HI.o.finx ⟨HI.o.sx HA.o 0,x1,HI.o.sx HA.o 2,HI.o.sx HA.o 3,HI.o.sx HA.o 4,trivial⟩ rfl),lg.o,K1.o,K2.o,R1.o⟩
 rintro a' W1 ⟨pq,rfl,z0,z1,z2,z3⟩;obtain ⟨w9,K1,K2,R1⟩:=aM z0 z1 z2 z3;clear z0 z1 z2 z3;simp only[putL,List.setIfInBounds_toArray,List.set_cons_zero,List.set_cons_succ];go_wp2_with fail
 refine az (fun a0 a' V=>∃ (mi:QS),a'=⟨putL [(18,q1.v),(19,mi.v),(20,.int .i64 k2),(21,.bool true),(17,.bool true)] a0.tmps,a0.defers⟩∧Below w.heap.size w V∧SBk V (w.heap.size) q1.l.toArray 50∧SBk V (w.heap.size+1) #[.bool false,.slice none 0 0,.slice none 0 0,.bool false,.slice none 0 0,.slice none 0 0] 58∧FQ V q1 x) ?_ ?_
 · refine aL 5 0 [18,19,20,21,17] [Rel.val (q1.v),Rel.q hp,Rel.val (.int .i64 k2),Rel.val (.bool true),Rel.val (.bool true)] ?_ ?_
   · intro l5 a W i HI hD Hr him
     have y2:=HI.o.rst 2 rfl;obtain⟨rV,p8,kz⟩:=cells3 (K1.o.below HI.o.world);obtain⟨X0,X2,X3⟩:=HI.o.g3 0 18 2 20 3 21
     match i,him,Hr with
     | 0,_,Hi|3,_,Hi|4,_,Hi =>
       try have x2:=X2.t Hi.o
       try have x3:=X3.t Hi.o
       refine aA rfl fun K' hK=>?_;go_simp;exact hK.o _ _ (HI.o.pw Hi.o)
     | 1,_,Hi =>
       refine aA rfl fun K' hK=>?_;go_simp;with_reducible refine(C3.o _).mono ?_
       rintro e W' ⟨mi,rfl,u0p,hb⟩;exact hK.o _ _ ⟨HI.o.pc Hi.o hb ⟨mi,rfl,u0p⟩,trivial⟩
     | 2,_,Hi =>
       have x0:=X0.q Hi.o;obtain⟨mi,x1,u01⟩:=qAt HI.o 1 19 Hi.o (by kernel_rfl);refine aA rfl fun K' hK=>?_;go_simp;with_reducible refine(C4.o _ _ _ (R1.o.below HI.o.world) u01.o).mono ?_
       rintro e W' ⟨rfl,hb⟩;exact hK.o _ _ ⟨HI.o.pc Hi.o hb rfl,trivial⟩
     | n+5,h,_=>exact absurd h (by omega)
   · intro l5 a W HI hD HA
     obtain⟨mi,x1,u01⟩:=qEnd HI.o HA.o 1 19;have ma:=hid HI.o.world;obtain ⟨K1,K2,R1⟩:=bA ma.o K1 K2 R1;have lg:=Lib.hid (w9.o.trans (ma.o.mono w9.o.size));have RHP:=u01;refine aV ?_;exact⟨rfl,mi,(HI.o.finx ⟨HI.o.sx HA.o 0,x1,HI.o.sx HA.o 2,HI.o.sx HA.o 3,HI.o.sx HA.o 4,trivial⟩ rfl),lg.o,K1.o,K2.o,R1.o⟩
 rintro a' W2 ⟨mi,rfl,z0,z1,z2,z3⟩;obtain ⟨pu,K1,K2,R1⟩:=aM z0 z1 z2 z3;clear z0 z1 z2 z3;simp only[putL,List.setIfInBounds_toArray,List.set_cons_zero,List.set_cons_succ];obtain ⟨rV,p8,kz⟩:=aC K1.o rfl rfl rfl;go_wp2_with fail
 with_reducible refine(C5.o _ _ R1.o).mono ?_
 rintro e W3 ⟨u6,ol,rfl,ww,u0d,hb⟩;clear rV p8 kz;have K2:=hid (K2.o.below hb);have mf:=hbt pu hb;have RZA:=hid ww;have RZB:=hid u0d;clear hb ww u0d;obtain ⟨kM,kV,gy,dz,dX,dY⟩:=bQ K2.o rfl rfl rfl rfl rfl rfl;obtain ⟨u0j,u0k,u0l,u0m,u0n,u0o⟩:=dR K2.o;go_wp2;exact bodyPost_ret (v:=.agg #[.bool u6.b,.slice u6.a u6.n u6.c,.slice u6.e u6.m u6.d,.bool ol.b,.slice ol.a ol.n ol.c,.slice ol.e ol.m ol.d]) (by simp[results,results48,go_sem,kM,kV,gy,dz,dX,dY]) rfl ⟨_,_,rfl,(bO [.bool u6.b,.slice u6.a u6.n u6.c,.slice u6.e u6.m u6.d,.bool ol.b,.slice ol.a ol.n ol.c,.slice ol.e ol.m ol.d] 0 RZA.o K2.o (by simp[bJ]) (by simp[aW])),(bO [.bool u6.b,.slice u6.a u6.n u6.c,.slice u6.e u6.m u6.d,.bool ol.b,.slice ol.a ol.n ol.c,.slice ol.e ol.m ol.d] 0 RZB.o K2.o (by simp[bJ]) (by simp[aW])),(aj (l:=[.bool u6.b,.slice u6.a u6.n u6.c,.slice u6.e u6.m u6.d,.bool ol.b,.slice ol.a ol.n ol.c,.slice ol.e ol.m ol.d]) (i:=0) (by omega) mf.o)⟩
theorem z0l (x hn hp u m p r pa pb f4 ca cb sa sb za zb:Rat)(n k1 k2:Int)(q1:QS)(w:World)(hk:decide (k1<0)=false)(hm:decide (k2≤0)=false)(h1:KS2 86 (.int .i64 (-1)) (.int .i64 2) hn)(h2:KP2 87 x hn (.int .i64 k1))(h3:KS2 86 (.int .i64 1) (.int .i64 2) hp)(h4:KP2 87 x hp (.int .i64 k2))(h5:KS 27 (.int .i64 1) u)(h6:KQ2 106 u x m)(h7:KQ2 29 u x p)(h8:KQ2 83 m p r)(h9:KNI 44 (.int .i64 n) pa pb)(hA:KS2 86 (.int .i64 1) (.int .i64 4) f4)(hB:KIQ 100 pa pb f4 ca cb)(hD:KEn 101 r (.int .i64 n) sa sb)(hE:KII 102 ca cb sa sb za zb)(r1:FQ w q1 x) :
 Calls Tryz.prog 48 #[(QS.v q1),.int .i64 n] w (RII w za zb):=by
 dsimp only[QS.v];obtain ⟨C1,C2,C3,C4,C5,C6,C7,C8,C9⟩:=bZ h1 h2 h3 h4 h5 h6 h7 h8 h9;obtain ⟨CA,CB,CD,CE,R1⟩:=bD hA hB hD hE r1;have hkk:=hk;have hmm:=hm;clear hk hm h1 h2 h3 h4 h5 h6 h7 h8 h9 hA hB hD hE r1;go_enter func48,ntmps48
 go_upto_region 1 with fail
 refine ak w [(q1.l.toArray,50),(#[.bool false,.slice none 0 0,.slice none 0 0,.bool false,.slice none 0 0,.slice none 0 0],58)] rfl ?_;rintro W0 ⟨k1,k2,hb⟩;have wu:=hid (show Below w.heap.size w W0 from hb);obtain ⟨K1,K2,R1⟩:=au k1 k2 (R1.o.below wu.o);clear k1 k2 hb;go_wp2_with fail
 refine az (fun a0 a' V=>∃ (pq:QS),a'=⟨putL [(7,q1.v),(8,pq.v),(9,.int .i64 k1),(10,.bool false),(6,.bool false)] a0.tmps,a0.defers⟩∧Below w.heap.size w V∧SBk V (w.heap.size) q1.l.toArray 50∧SBk V (w.heap.size+1) #[.bool false,.slice none 0 0,.slice none 0 0,.bool false,.slice none 0 0,.slice none 0 0] 58∧FQ V q1 x∧FQ V pq hn) ?_ ?_
 · refine aL 5 0 [7,8,9,10,6] [Rel.val (q1.v),Rel.q hn,Rel.val (.int .i64 k1),Rel.val (.bool false),Rel.val (.bool false)] ?_ ?_
   · intro l5 a W i HI hD Hr him
     have y2:=HI.o.rst 2 rfl;obtain⟨rV,p8,kz⟩:=cells3 (K1.o.below HI.o.world);obtain⟨X0,X2,X3⟩:=HI.o.g3 0 7 2 9 3 10
     match i,him,Hr with
     | 0,_,Hi|3,_,Hi|4,_,Hi =>
       try have x2:=X2.t Hi.o
       try have x3:=X3.t Hi.o
       refine aA rfl fun K' hK=>?_;go_simp;exact hK.o _ _ (HI.o.pw Hi.o)
     | 1,_,Hi =>
       refine aA rfl fun K' hK=>?_;go_simp;with_reducible refine(C1.o _).mono ?_
       rintro e W' ⟨pq,rfl,u00,hb⟩;exact hK.o _ _ ⟨HI.o.pc Hi.o hb ⟨pq,rfl,u00⟩,trivial⟩
     | 2,_,Hi =>
       have x0:=X0.q Hi.o;obtain⟨pq,x1,l6⟩:=qAt HI.o 1 8 Hi.o (by kernel_rfl);refine aA rfl fun K' hK=>?_;go_simp;with_reducible refine(C2.o _ _ _ (R1.o.below HI.o.world) l6.o).mono ?_
       rintro e W' ⟨rfl,hb⟩;exact hK.o _ _ ⟨HI.o.pc Hi.o hb rfl,trivial⟩
     | n+5,h,_=>exact absurd h (by omega)
   · intro l5 a W HI hD HA
     obtain⟨pq,x1,l6⟩:=qEnd HI.o HA.o 1 8;have ma:=hid HI.o.world;obtain ⟨K1,K2,R1⟩:=bA ma.o K1 K2 R1;have lg:=Lib.hid (wu.o.trans (ma.o.mono wu.o.size));have RHN:=l6;refine aV ?_;exact⟨rfl,pq,(HI.o.finx ⟨HI.o.sx HA.o 0,x1,HI.o.sx HA.o 2,HI.o.sx HA.o 3,HI.o.sx HA.o 4,trivial⟩ rfl),lg.o,K1.o,K2.o,R1.o,RHN.o⟩
 rintro a' W1 ⟨pq,rfl,z0,z1,z2,z3,z4⟩;obtain ⟨w9,K1,K2,R1,RHN⟩:=bD z0 z1 z2 z3 z4;clear z0 z1 z2 z3 z4;simp only[putL,List.setIfInBounds_toArray,List.set_cons_zero,List.set_cons_succ];go_wp2_with fail
 refine az (fun a0 a' V=>∃ (mi:QS),a'=⟨putL [(18,q1.v),(19,mi.v),(20,.int .i64 k2),(21,.bool false),(17,.bool false)] a0.tmps,a0.defers⟩∧Below w.heap.size w V∧SBk V (w.heap.size) q1.l.toArray 50∧SBk V (w.heap.size+1) #[.bool false,.slice none 0 0,.slice none 0 0,.bool false,.slice none 0 0,.slice none 0 0] 58∧FQ V q1 x∧FQ V pq hn∧FQ V mi hp) ?_ ?_
 · refine aL 5 0 [18,19,20,21,17] [Rel.val (q1.v),Rel.q hp,Rel.val (.int .i64 k2),Rel.val (.bool false),Rel.val (.bool false)] ?_ ?_
   · intro l5 a W i HI hD Hr him
     have y2:=HI.o.rst 2 rfl;obtain⟨rV,p8,kz⟩:=cells3 (K1.o.below HI.o.world);obtain⟨X0,X2,X3⟩:=HI.o.g3 0 18 2 20 3 21
     match i,him,Hr with
     | 0,_,Hi|3,_,Hi|4,_,Hi =>
       try have x2:=X2.t Hi.o
       try have x3:=X3.t Hi.o
       refine aA rfl fun K' hK=>?_;go_simp;exact hK.o _ _ (HI.o.pw Hi.o)
     | 1,_,Hi =>
       refine aA rfl fun K' hK=>?_;go_simp;with_reducible refine(C3.o _).mono ?_
       rintro e W' ⟨mi,rfl,u0p,hb⟩;exact hK.o _ _ ⟨HI.o.pc Hi.o hb ⟨mi,rfl,u0p⟩,trivial⟩
     | 2,_,Hi =>
       have x0:=X0.q Hi.o;obtain⟨mi,x1,u01⟩:=qAt HI.o 1 19 Hi.o (by kernel_rfl);refine aA rfl fun K' hK=>?_;go_simp;with_reducible refine(C4.o _ _ _ (R1.o.below HI.o.world) u01.o).mono ?_
       rintro e W' ⟨rfl,hb⟩;exact hK.o _ _ ⟨HI.o.pc Hi.o hb rfl,trivial⟩
     | n+5,h,_=>exact absurd h (by omega)
   · intro l5 a W HI hD HA
     obtain⟨mi,x1,u01⟩:=qEnd HI.o HA.o 1 19;have ma:=hid HI.o.world;obtain ⟨K1,K2,R1,RHN⟩:=bR ma.o K1 K2 R1 RHN;have lg:=Lib.hid (w9.o.trans (ma.o.mono w9.o.size));have RHP:=u01;refine aV ?_;exact⟨rfl,mi,(HI.o.finx ⟨HI.o.sx HA.o 0,x1,HI.o.sx HA.o 2,HI.o.sx HA.o 3,HI.o.sx HA.o 4,trivial⟩ rfl),lg.o,K1.o,K2.o,R1.o,RHN.o,RHP.o⟩
 rintro a' W2 ⟨mi,rfl,z0,z1,z2,z3,z4,z5⟩;obtain ⟨pu,K1,K2,R1,RHN,RHP⟩:=dh z0 z1 z2 z3 z4 z5;clear z0 z1 z2 z3 z4 z5;simp only[putL,List.setIfInBounds_toArray,List.set_cons_zero,List.set_cons_succ];go_wp2_with fail
 have L1:=K1.o.lt;have L2:=K2.o.lt;have L3:=pu.o.size;refine az (fun a0 a' V=>∃ (u02:QS) (u03:QS) (u04:QS) (u05:QS) (fq:QS) (gn3:Nat),a'=⟨putL [(25,u02.v),(26,q1.v),(27,u03.v),(28,u04.v),(29,q1.v),(30,u05.v),(31,fq.v),(5,.pointer (some ⟨gn3,0,none⟩))] a0.tmps,a0.defers⟩∧Below w.heap.size w V∧SBk V (w.heap.size+1) #[.bool false,.slice none 0 0,.slice none 0 0,.bool false,.slice none 0 0,.slice none 0 0] 58∧SBk V (gn3) fq.l.toArray 50∧FQ V fq r∧W2.heap.size≤gn3) ?_ ?_
 · refine aL 8 1 [25,26,27,28,29,30,31,5] [Rel.q u,Rel.val (q1.v),Rel.q m,Rel.q u,Rel.val (q1.v),Rel.q p,Rel.q r,Rel.ptr W2.heap.size (.cells #[.bool false,.slice none 0 0,.slice none 0 0] 50)] ?_ ?_
   · intro l5 a W i HI hD Hr him
     have y2:=HI.o.rst 2 rfl;obtain⟨rV,p8,kz⟩:=cells3 (K1.o.below HI.o.world);obtain⟨X1,X4⟩:=HI.o.g2 1 26 4 29
     match i,him,Hr with
     | 1,_,Hi|4,_,Hi =>
       refine aA rfl fun K' hK=>?_;go_simp;exact hK.o _ _ (HI.o.pw Hi.o)
     | 0,_,Hi =>
       refine aA rfl fun K' hK=>?_;go_simp;with_reducible refine(C5.o _).mono ?_
       rintro e W' ⟨u02,rfl,u0P,hb⟩;exact hK.o _ _ ⟨HI.o.pc Hi.o hb ⟨u02,rfl,u0P⟩,trivial⟩
     | 2,_,Hi =>
       obtain⟨u02,x0,u0q⟩:=qAt HI.o 0 25 Hi.o (by kernel_rfl);have x1:=X1.q Hi.o;refine aA rfl fun K' hK=>?_;go_simp;with_reducible refine(C6.o _ _ _ u0q.o (R1.o.below HI.o.world)).mono ?_
       rintro e W' ⟨u03,rfl,u0Q,hb⟩;exact hK.o _ _ ⟨HI.o.pc Hi.o hb ⟨u03,rfl,u0Q⟩,trivial⟩
     | 3,_,Hi =>
       refine aA rfl fun K' hK=>?_;go_simp;with_reducible refine(C5.o _).mono ?_
       rintro e W' ⟨u04,rfl,u0R,hb⟩;exact hK.o _ _ ⟨HI.o.pc Hi.o hb ⟨u04,rfl,u0R⟩,trivial⟩
     | 5,_,Hi =>
       obtain⟨u04,x3,u0r⟩:=qAt HI.o 3 28 Hi.o (by kernel_rfl);have x4:=X4.q Hi.o;refine aA rfl fun K' hK=>?_;go_simp;with_reducible refine(C7.o _ _ _ u0r.o (R1.o.below HI.o.world)).mono ?_
       rintro e W' ⟨u05,rfl,u0S,hb⟩;exact hK.o _ _ ⟨HI.o.pc Hi.o hb ⟨u05,rfl,u0S⟩,trivial⟩
     | 6,_,Hi =>
       obtain⟨u03,x2,u0s⟩:=qAt HI.o 2 27 Hi.o (by kernel_rfl);obtain⟨u05,x5,u0t⟩:=qAt HI.o 5 30 Hi.o (by kernel_rfl);refine aA rfl fun K' hK=>?_;go_simp;with_reducible refine(C8.o _ _ _ u0s.o u0t.o).mono ?_
       rintro e W' ⟨fq,rfl,u0T,hb⟩;exact hK.o _ _ ⟨HI.o.pc Hi.o hb ⟨fq,rfl,u0T⟩,trivial⟩
     | 7,_,Hi =>
       refine aA rfl fun K' hK=>?_;go_simp;exact hK.o _ _ ⟨HI.o.pc Hi.o ((Below.refl W.heap.size W).alloc (Nat.le_refl _) (.cells #[.bool false,.slice none 0 0,.slice none 0 0] 50)) ⟨W.heap.size,rfl,HI.o.world.size,SBk.new _ _ _⟩,trivial⟩
     | n+8,h,_=>exact absurd h (by omega)
   · intro l5 a W HI hD HA
     obtain⟨u02,x0,u0q⟩:=qEnd HI.o HA.o 0 25;obtain⟨u03,x2,u0s⟩:=qEnd HI.o HA.o 2 27;obtain⟨u04,x3,u0r⟩:=qEnd HI.o HA.o 3 28;obtain⟨u05,x5,u0t⟩:=qEnd HI.o HA.o 5 30;obtain⟨fq,x6,u0U⟩:=qEnd HI.o HA.o 6 31;obtain⟨v',x7,gn3,e,hge,hsb⟩:=HI.o.slots 7 (by decide) (HA.o 7 (by decide));obtain rfl:=e;have x7:a.tmps[5]? = some (.pointer (some ⟨gn3,0,none⟩)):=x7;obtain ⟨RRG,hsb⟩:=aD hge hsb;clear hge;have ma:=hid HI.o.world;have K2:=hid (K2.o.below ma.o);have K3:Hid (SBk W gn3 #[.bool false,.slice none 0 0,.slice none 0 0] 50):=hsb;have lg:=hid (pu.o.trans (ma.o.mono pu.o.size));have RU:=u0q;have RM:=u0s;have RU2:=u0r;have RP9:=u0t;have RR9:=u0U;obtain⟨u0V,u0W,u0X⟩:=cells3 K3.o;obtain⟨u15,u17,u18⟩:=frz3 K3.o;dsimp only[QS.v]at x6;refine aZ (t:=0) ?_;refine aA rfl fun K' hK=>?_;go_simp;refine hK.o _ _ ?_;clear hK;refine aV ?_;rw[← iM];have s0:∀ {q':QS} {x':Rat},FQ W q' x'→FQ (storeAll W (gn3) 0 fq.l) q' x':=fun h'=>bO _ 0 h' K3.o (by simp[bJ,Lvv,QS.l]) (by simp[aW,Lvv,QS.l]);have o0:∀ {g':Nat} {cs':Array Value} {T':TypeId},g'≠gn3→SBk W g' cs' T'→SBk (storeAll W (gn3) 0 fq.l) g' cs' T':=fun hg' h'=>cK hg' _ 0 h';exact⟨rfl,u02,u03,u04,u05,fq,gn3,(HI.o.finx ⟨x0,HI.o.sx HA.o 1,x2,x3,HI.o.sx HA.o 4,x5,x6,x7,trivial⟩ rfl),(aj (l:=fq.l) (i:=0) (by have:=RRG.o;omega) lg.o),(o0 (by have:=RRG.o;omega) K2.o),(eT K3.o),(s0 RR9.o),RRG.o⟩
 rintro a' W3 ⟨u02,u03,u04,u05,fq,gn3,rfl,z0,z1,z2,z3,z4⟩;obtain ⟨mf,K2,K3,RR9,RRW3⟩:=bD z0 z1 z2 z3 z4;clear z0 z1 z2 z3 z4;simp only[putL,List.setIfInBounds_toArray,List.set_cons_zero,List.set_cons_succ];go_wp2_with fail
 refine az (fun a0 a' V=>∃ (u06:QS) (u07:QS) (u08:QS) (u09:QS) (u0a:QS) (u0b:QS) (u0c:QS) (sw:QS) (rM:QS),a'=⟨putL [(32,.int .i64 n),(33,Qii u06 u07),(34,u08.v),(35,Qii u09 u0a),(36,fq.v),(37,.int .i64 n),(38,Qii u0b u0c),(39,Qii sw rM)] a0.tmps,a0.defers⟩∧Below w.heap.size w V∧SBk V (w.heap.size+1) #[.bool sw.b,.slice sw.a sw.n sw.c,.slice sw.e sw.m sw.d,.bool rM.b,.slice rM.a rM.n rM.c,.slice rM.e rM.m rM.d] 58∧FQ V sw za∧FQ V rM zb) ?_ ?_
 · refine aL 8 1 [32,33,34,35,36,37,38,39] [Rel.val (.int .i64 n),Rel.qi pa pb,Rel.q f4,Rel.qi ca cb,Rel.val (fq.v),Rel.val (.int .i64 n),Rel.qi sa sb,Rel.qi za zb] ?_ ?_
   · intro l5 a W i HI hD Hr him
     obtain⟨y1,y5⟩:=HI.o.s2 1 5;obtain⟨u0V,u0W,u0X⟩:=cells3 (K3.o.below HI.o.world);obtain⟨X0,X4,X5⟩:=HI.o.g3 0 32 4 36 5 37
     match i,him,Hr with
     | 0,_,Hi|4,_,Hi|5,_,Hi =>
       refine aA rfl fun K' hK=>?_;go_simp;exact hK.o _ _ (HI.o.pw Hi.o)
     | 1,_,Hi =>
       have x0:=X0.q Hi.o;refine aA rfl fun K' hK=>?_;go_simp;with_reducible refine(C9.o _).mono ?_
       rintro e W' ⟨u06,u07,rfl,rn4_1a,rn4_1b,hb⟩;exact hK.o _ _ ⟨HI.o.pc Hi.o hb ⟨u06,u07,rfl,rn4_1a,rn4_1b⟩,trivial⟩
     | 2,_,Hi =>
       refine aA rfl fun K' hK=>?_;go_simp;with_reducible refine(CA.o _).mono ?_
       rintro e W' ⟨u08,rfl,u0Y,hb⟩;exact hK.o _ _ ⟨HI.o.pc Hi.o hb ⟨u08,rfl,u0Y⟩,trivial⟩
     | 3,_,Hi =>
       obtain⟨u06,u07,x1,u0u,u0v⟩:=qAti HI.o 1 33 Hi.o (by kernel_rfl);dsimp only[Qii]at x1;obtain⟨u08,x2,u0w⟩:=qAt HI.o 2 34 Hi.o (by kernel_rfl);refine aA rfl fun K' hK=>?_;go_simp;with_reducible refine(CB.o _ _ _ _ u0u.o u0v.o u0w.o).mono ?_
       rintro e W' ⟨u09,u0a,rfl,rn4_3a,rn4_3b,hb⟩;exact hK.o _ _ ⟨HI.o.pc Hi.o hb ⟨u09,u0a,rfl,rn4_3a,rn4_3b⟩,trivial⟩
     | 6,_,Hi =>
       have x4:=X4.q Hi.o;have x5:=X5.q Hi.o;refine aA rfl fun K' hK=>?_;go_simp;with_reducible refine(CD.o _ _ (RR9.o.below HI.o.world)).mono ?_
       rintro e W' ⟨u0b,u0c,rfl,rn4_6a,rn4_6b,hb⟩;exact hK.o _ _ ⟨HI.o.pc Hi.o hb ⟨u0b,u0c,rfl,rn4_6a,rn4_6b⟩,trivial⟩
     | 7,_,Hi =>
       obtain⟨u09,u0a,x3,u0x,u0y⟩:=qAti HI.o 3 35 Hi.o (by kernel_rfl);dsimp only[Qii]at x3;obtain⟨u0b,u0c,x6,u0z,u0A⟩:=qAti HI.o 6 38 Hi.o (by kernel_rfl);dsimp only[Qii]at x6;refine aA rfl fun K' hK=>?_;go_simp;with_reducible refine(CE.o _ _ _ _ _ u0x.o u0y.o u0z.o u0A.o).mono ?_
       rintro e W' ⟨sw,rM,rfl,rn4_7a,rn4_7b,hb⟩;exact hK.o _ _ ⟨HI.o.pc Hi.o hb ⟨sw,rM,rfl,rn4_7a,rn4_7b⟩,trivial⟩
     | n+8,h,_=>exact absurd h (by omega)
   · intro l5 a W HI hD HA
     obtain⟨u06,u07,x1,u0u,u0v⟩:=iO HI.o HA.o 1 33;obtain⟨u08,x2,u0w⟩:=qEnd HI.o HA.o 2 34;obtain⟨u09,u0a,x3,u0x,u0y⟩:=iO HI.o HA.o 3 35;obtain⟨u0b,u0c,x6,u0z,u0A⟩:=iO HI.o HA.o 6 38;obtain⟨sw,rM,x7,u0Z,u10⟩:=iO HI.o HA.o 7 39;have ma:=hid HI.o.world;obtain ⟨lg,K2⟩:=aD (mf.o.trans (ma.o.mono mf.o.size)) (K2.o.below ma.o);have RPA:=u0u;have RPB:=u0v;have RF4:=u0w;have RCA:=u0x;have RCB:=u0y;have RSA:=u0z;have RSB:=u0A;have RZA:=u0Z;have RZB:=u10;obtain ⟨kM,kV,gy,dz,dX,dY⟩:=bQ K2.o rfl rfl rfl rfl rfl rfl;obtain ⟨u0j,u0k,u0l,u0m,u0n,u0o⟩:=dR K2.o;have y4:=HI.o.rst 4 rfl;dsimp only[Qii]at x7;refine aZ (t:=0) ?_;refine aA rfl fun K' hK=>?_;go_simp;refine hK.o _ _ ?_;clear hK;refine aV ?_;rw[← dM];have s0:∀ {q':QS} {x':Rat},FQ W q' x'→FQ (storeAll W (w.heap.size+1) 0 [.bool sw.b,.slice sw.a sw.n sw.c,.slice sw.e sw.m sw.d,.bool rM.b,.slice rM.a rM.n rM.c,.slice rM.e rM.m rM.d]) q' x':=fun h'=>bO _ 0 h' K2.o (by simp[bJ]) (by simp[aW]);exact⟨rfl,u06,u07,u08,u09,u0a,u0b,u0c,sw,rM,(HI.o.finx ⟨HI.o.sx HA.o 0,x1,x2,x3,HI.o.sx HA.o 4,HI.o.sx HA.o 5,x6,x7,trivial⟩ rfl),(aj (l:=[.bool sw.b,.slice sw.a sw.n sw.c,.slice sw.e sw.m sw.d,.bool rM.b,.slice rM.a rM.n rM.c,.slice rM.e rM.m rM.d]) (i:=0) (by have:=RRW3.o;omega) lg.o),(dC K2.o),(s0 RZA.o),(s0 RZB.o)⟩
 rintro a' W4 ⟨u06,u07,u08,u09,u0a,u0b,u0c,sw,rM,rfl,z0,z1,z2,z3⟩;obtain ⟨fQ,K2,RZA,RZB⟩:=aM z0 z1 z2 z3;clear z0 z1 z2 z3;simp only[putL,List.setIfInBounds_toArray,List.set_cons_zero,List.set_cons_succ];go_wp2;obtain ⟨kM,kV,gy,dz,dX,dY⟩:=bQ K2.o rfl rfl rfl rfl rfl rfl;exact bodyPost_ret (v:=.agg #[.bool sw.b,.slice sw.a sw.n sw.c,.slice sw.e sw.m sw.d,.bool rM.b,.slice rM.a rM.n rM.c,.slice rM.e rM.m rM.d]) (by simp[results,results48,go_sem,kM,kV,gy,dz,dX,dY]) rfl ⟨_,_,rfl,RZA.o,RZB.o,fQ.o⟩
theorem yInW (x a b k cc d pa pb za zb:Rat)(n:Int)(q1:QS)(w:World)  (h1:KEn 48 x (.int .i64 n) a b)(h2:KS 27 (.int .i64 360) k)(h3:KIQ 100 a b k cc d)(h4:KNI 44 (.int .i64 n) pa pb)(h5:KII 109 cc d pa pb za zb)(r1:FQ w q1 x) :
 Calls Tryz.prog 50 #[(QS.v q1),.int .i64 n] w (RII w za zb):=by
 dsimp only[QS.v];obtain ⟨C1,C2,C3,C4,C5,R1⟩:=dh h1 h2 h3 h4 h5 r1;clear h1 h2 h3 h4 h5 r1;go_enter func50,ntmps50
 go_upto_region 1 with fail
 refine ak w [(q1.l.toArray,50),(#[.bool false,.slice none 0 0,.slice none 0 0,.bool false,.slice none 0 0,.slice none 0 0],58)] rfl ?_;rintro W0 ⟨k1,k2,hb⟩;have wu:=hid (show Below w.heap.size w W0 from hb);obtain ⟨K1,K2,R1⟩:=au k1 k2 (R1.o.below wu.o);clear k1 k2 hb;obtain ⟨rV,p8,kz⟩:=aC K1.o rfl rfl rfl;go_wp2_with fail
 with_reducible refine(C1.o _ _ R1.o).mono ?_
 rintro e W1 ⟨u6,ol,rfl,ww,u0d,hb⟩;clear rV p8 kz;have K2:=hid (K2.o.below hb);have w9:=hbt wu hb;have RA:=hid ww;have RB:=hid u0d;clear hb ww u0d;go_wp2_with fail
 with_reducible refine(C2.o _).mono ?_
 rintro e W2 ⟨q_2,rfl,ed,hb⟩;obtain ⟨K2,RA,RB⟩:=bA hb K2 RA RB;have pu:=hbt w9 hb;have RK:=hid ed;clear hb ed;go_wp2_with fail
 with_reducible refine(C3.o _ _ _ _ RA.o RB.o RK.o).mono ?_
 rintro e W3 ⟨u0G,u0H,rfl,lv,bq,hb⟩;have K2:=hid (K2.o.below hb);have mf:=hbt pu hb;have RCC:=hid lv;have RD:=hid bq;clear hb lv bq;go_wp2_with fail
 with_reducible refine(C4.o _).mono ?_
 rintro e W4 ⟨wm,wo,rfl,bg,bn,hb⟩;obtain ⟨K2,RCC,RD⟩:=bA hb K2 RCC RD;have fQ:=hbt mf hb;have RPA:=hid bg;have RPB:=hid bn;clear hb bg bn;go_wp2_with fail
 with_reducible refine(C5.o _ _ _ _ _ RCC.o RD.o RPA.o RPB.o).mono ?_
 rintro e W5 ⟨oM,oV,rfl,u0I,u0J,hb⟩;have K2:=hid (K2.o.below hb);have d9:=hbt fQ hb;have RZA:=hid u0I;have RZB:=hid u0J;clear hb u0I u0J;obtain ⟨kM,kV,gy,dz,dX,dY⟩:=bQ K2.o rfl rfl rfl rfl rfl rfl;obtain ⟨u0j,u0k,u0l,u0m,u0n,u0o⟩:=dR K2.o;go_wp2;exact bodyPost_ret (v:=.agg #[.bool oM.b,.slice oM.a oM.n oM.c,.slice oM.e oM.m oM.d,.bool oV.b,.slice oV.a oV.n oV.c,.slice oV.e oV.m oV.d]) (by simp[results,results50,go_sem,kM,kV,gy,dz,dX,dY]) rfl ⟨_,_,rfl,(bO [.bool oM.b,.slice oM.a oM.n oM.c,.slice oM.e oM.m oM.d,.bool oV.b,.slice oV.a oV.n oV.c,.slice oV.e oV.m oV.d] 0 RZA.o K2.o (by simp[bJ]) (by simp[aW])),(bO [.bool oM.b,.slice oM.a oM.n oM.c,.slice oM.e oM.m oM.d,.bool oV.b,.slice oV.a oV.n oV.c,.slice oV.e oV.m oV.d] 0 RZB.o K2.o (by simp[bJ]) (by simp[aW])),(aj (l:=[.bool oM.b,.slice oM.a oM.n oM.c,.slice oM.e oM.m oM.d,.bool oV.b,.slice oV.a oV.n oV.c,.slice oV.e oV.m oV.d]) (i:=0) (by omega) d9.o)⟩
theorem z5S (n:Int)  (w:World)  (h1:KPs 43 (.int .i64 n) (.bool false))  :
 CR 12 #[.int .i64 n] w (.tuple #[.agg #[.string ⟨#[]⟩,.string ⟨#[]⟩],.int .i64 2]):=by
 have C1:=hid h1;clear h1;go_enter func12,ntmps12
 go_upto_region 1 with fail
 refine ak w [(#[.string ⟨#[]⟩,.string ⟨#[]⟩],27)] rfl ?_;rintro W0 ⟨k1,hb⟩;have wu:=hid (show Below w.heap.size w W0 from hb);have K1:=hid k1;clear k1 hb;go_wp2_with fail
 with_reducible refine(C1.o _).mono ?_
 rintro e W1 ⟨rfl,hb⟩;have K1:=hid (K1.o.below hb);have w9:=hbt wu hb;clear hb;obtain ⟨rV,p8⟩:=ay K1.o rfl rfl;obtain ⟨dn,dx⟩:=aR K1.o;go_wp2;exact bodyPost_ret (v:=.tuple #[.agg #[.string ⟨#[]⟩,.string ⟨#[]⟩],.int .i64 2]) (by simp[results,results12,go_sem,rV,p8]) rfl ⟨rfl,(aj (l:=[.string ⟨#[]⟩,.string ⟨#[]⟩]) (i:=0) (by omega) w9.o)⟩
theorem z5R (n:Int)(pa pb:Rat)(s t:ByteArray)  (w:World)  (h1:KPs 43 (.int .i64 n) (.bool true))(h2:KNI 44 (.int .i64 n) pa pb)(h3:KI2 32 pa pb (.agg #[.string s,.string t]))  :
 CR 12 #[.int .i64 n] w (.tuple #[.agg #[.string s,.string t],.int .i64 0]):=by
 obtain ⟨C1,C2,C3⟩:=au h1 h2 h3;clear h1 h2 h3;go_enter func12,ntmps12
 go_upto_region 1 with fail
 refine ak w [(#[.string ⟨#[]⟩,.string ⟨#[]⟩],27)] rfl ?_;rintro W0 ⟨k1,hb⟩;have wu:=hid (show Below w.heap.size w W0 from hb);have K1:=hid k1;clear k1 hb;go_wp2_with fail
 with_reducible refine(C1.o _).mono ?_
 rintro e W1 ⟨rfl,hb⟩;have K1:=hid (K1.o.below hb);have w9:=hbt wu hb;clear hb;go_wp2_with fail
 with_reducible refine(C2.o _).mono ?_
 rintro e W2 ⟨u0B,u0C,rfl,ed,cO,hb⟩;have K1:=hid (K1.o.below hb);have pu:=hbt w9 hb;have RPA:=hid ed;have RPB:=hid cO;clear hb ed cO;go_wp2_with fail
 with_reducible refine(C3.o _ _ _ RPA.o RPB.o).mono ?_
 rintro e W3 ⟨rfl,hb⟩;have K1:=hid (K1.o.below hb);have mf:=hbt pu hb;clear hb;obtain ⟨rV,p8⟩:=ay K1.o rfl rfl;obtain ⟨dn,dx⟩:=aR K1.o;go_wp2;exact bodyPost_ret (v:=.tuple #[.agg #[.string s,.string t],.int .i64 0]) (by simp[results,results12,go_sem,rV,p8]) rfl ⟨rfl,(aj (l:=[.string s,.string t]) (i:=0) (by omega) mf.o)⟩
theorem oN (a:ByteArray)(n:Int)(x:Rat)  (w:World)  (h2:KSi 47 (.string a) x (1))  :
 CR 14 #[.string a,.int .i64 n] w (.tuple #[.agg #[.string ⟨#[]⟩,.string ⟨#[]⟩],.int .i64 1]):=by
 have C2:=hid h2;clear h2;go_enter func14,ntmps14
 go_upto_region 1 with fail
 refine ak w [(#[.string ⟨#[]⟩,.string ⟨#[]⟩],27)] rfl ?_;rintro W0 ⟨k1,hb⟩;have wu:=hid (show Below w.heap.size w W0 from hb);have K1:=hid k1;clear k1 hb;go_wp2_with fail
 with_reducible refine(C2.o _).mono ?_
 rintro e W1 ⟨u6,rfl,ww,hb⟩;have K1:=hid (K1.o.below hb);have w9:=hbt wu hb;have RX:=hid ww;clear hb ww;go_upto_region 2 with fail
 refine ak W1 [(u6.l.toArray,50)] rfl ?_;have L1:=K1.o.lt;have L2:=w9.o.size;rintro W2 ⟨k2,hb⟩;have hb:Below W1.heap.size W1 W2:=hb;have K1:=hid (K1.o.below hb);have pu:=hbt w9 hb;have K2:=hid k2;clear k2 hb;obtain ⟨rV,p8⟩:=ay K1.o rfl rfl;obtain ⟨dn,dx⟩:=aR K1.o;go_wp2;exact bodyPost_ret (v:=.tuple #[.agg #[.string ⟨#[]⟩,.string ⟨#[]⟩],.int .i64 1]) (by simp[results,results14,go_sem,rV,p8]) rfl ⟨rfl,(aj (l:=[.string ⟨#[]⟩,.string ⟨#[]⟩]) (i:=0) (by omega) pu.o)⟩
theorem oL (a:ByteArray)(n:Int)(x:Rat)  (w:World)  (h2:KSi 47 (.string a) x (2))  :
 CR 14 #[.string a,.int .i64 n] w (.tuple #[.agg #[.string ⟨#[]⟩,.string ⟨#[]⟩],.int .i64 2]):=by
 have C2:=hid h2;clear h2;go_enter func14,ntmps14
 go_upto_region 1 with fail
 refine ak w [(#[.string ⟨#[]⟩,.string ⟨#[]⟩],27)] rfl ?_;rintro W0 ⟨k1,hb⟩;have wu:=hid (show Below w.heap.size w W0 from hb);have K1:=hid k1;clear k1 hb;go_wp2_with fail
 with_reducible refine(C2.o _).mono ?_
 rintro e W1 ⟨u6,rfl,ww,hb⟩;have K1:=hid (K1.o.below hb);have w9:=hbt wu hb;have RX:=hid ww;clear hb ww;go_upto_region 2 with fail
 refine ak W1 [(u6.l.toArray,50)] rfl ?_;have L1:=K1.o.lt;have L2:=w9.o.size;rintro W2 ⟨k2,hb⟩;have hb:Below W1.heap.size W1 W2:=hb;have K1:=hid (K1.o.below hb);have pu:=hbt w9 hb;have K2:=hid k2;clear k2 hb;obtain ⟨rV,p8⟩:=ay K1.o rfl rfl;obtain ⟨dn,dx⟩:=aR K1.o;go_wp2;exact bodyPost_ret (v:=.tuple #[.agg #[.string ⟨#[]⟩,.string ⟨#[]⟩],.int .i64 2]) (by simp[results,results14,go_sem,rV,p8]) rfl ⟨rfl,(aj (l:=[.string ⟨#[]⟩,.string ⟨#[]⟩]) (i:=0) (by omega) pu.o)⟩
theorem oK (a:ByteArray)(n:Int)(x:Rat)  (w:World)  (h1:KPs 43 (.int .i64 n) (.bool false))(h2:KSi 47 (.string a) x (0))  :
 CR 14 #[.string a,.int .i64 n] w (.tuple #[.agg #[.string ⟨#[]⟩,.string ⟨#[]⟩],.int .i64 2]):=by
 have C1:=hid h1;have C2:=hid h2;clear h1 h2;go_enter func14,ntmps14
 go_upto_region 1 with fail
 refine ak w [(#[.string ⟨#[]⟩,.string ⟨#[]⟩],27)] rfl ?_;rintro W0 ⟨k1,hb⟩;have wu:=hid (show Below w.heap.size w W0 from hb);have K1:=hid k1;clear k1 hb;go_wp2_with fail
 with_reducible refine(C2.o _).mono ?_
 rintro e W1 ⟨u6,rfl,ww,hb⟩;have K1:=hid (K1.o.below hb);have w9:=hbt wu hb;have RX:=hid ww;clear hb ww;go_upto_region 2 with fail
 refine ak W1 [(u6.l.toArray,50)] rfl ?_;have L1:=K1.o.lt;have L2:=w9.o.size;rintro W2 ⟨k2,hb⟩;have hb:Below W1.heap.size W1 W2:=hb;have K1:=hid (K1.o.below hb);have pu:=hbt w9 hb;have K2:=hid k2;clear k2 hb;go_wp2_with fail
 with_reducible refine(C1.o _).mono ?_
 rintro e W3 ⟨rfl,hb⟩;have K1:=hid (K1.o.below hb);have mf:=hbt pu hb;clear hb;obtain ⟨rV,p8⟩:=ay K1.o rfl rfl;obtain ⟨dn,dx⟩:=aR K1.o;go_wp2;exact bodyPost_ret (v:=.tuple #[.agg #[.string ⟨#[]⟩,.string ⟨#[]⟩],.int .i64 2]) (by simp[results,results14,go_sem,rV,p8]) rfl ⟨rfl,(aj (l:=[.string ⟨#[]⟩,.string ⟨#[]⟩]) (i:=0) (by omega) mf.o)⟩
theorem oJ (a:ByteArray)(n:Int)(x:Rat)(pa pb:Rat)(s t:ByteArray)  (w:World)  (h1:KPs 43 (.int .i64 n) (.bool true))(h2:KSi 47 (.string a) x (0))(h4:KEn 48 x (.int .i64 n) pa pb)(h3:KI2 32 pa pb (.agg #[.string s,.string t]))  :
 CR 14 #[.string a,.int .i64 n] w (.tuple #[.agg #[.string s,.string t],.int .i64 0]):=by
 obtain ⟨C1,C2,C4,C3⟩:=aM h1 h2 h4 h3;clear h1 h2 h4 h3;go_enter func14,ntmps14
 go_upto_region 1 with fail
 refine ak w [(#[.string ⟨#[]⟩,.string ⟨#[]⟩],27)] rfl ?_;rintro W0 ⟨k1,hb⟩;have wu:=hid (show Below w.heap.size w W0 from hb);have K1:=hid k1;clear k1 hb;go_wp2_with fail
 with_reducible refine(C2.o _).mono ?_
 rintro e W1 ⟨u6,rfl,ww,hb⟩;have K1:=hid (K1.o.below hb);have w9:=hbt wu hb;have RX:=hid ww;clear hb ww;go_upto_region 2 with fail
 refine ak W1 [(u6.l.toArray,50)] rfl ?_;have L1:=K1.o.lt;have L2:=w9.o.size;rintro W2 ⟨k2,hb⟩;have hb:Below W1.heap.size W1 W2:=hb;obtain ⟨K1,RX⟩:=aO hb K1 RX;have pu:=hbt w9 hb;have K2:=hid k2;clear k2 hb;go_wp2_with fail
 with_reducible refine(C1.o _).mono ?_
 rintro e W3 ⟨rfl,hb⟩;obtain ⟨K1,K2,RX⟩:=bA hb K1 K2 RX;have mf:=hbt pu hb;clear hb;obtain ⟨kM,kV,gy⟩:=aC K2.o rfl rfl rfl;go_wp2_with fail
 with_reducible refine(C4.o _ _ RX.o).mono ?_
 rintro e W4 ⟨u0G,u0H,rfl,lv,bq,hb⟩;clear kM kV gy;have K1:=hid (K1.o.below hb);have fQ:=hbt mf hb;have RPA:=hid lv;have RPB:=hid bq;clear hb lv bq;go_wp2_with fail
 with_reducible refine(C3.o _ _ _ RPA.o RPB.o).mono ?_
 rintro e W5 ⟨rfl,hb⟩;have K1:=hid (K1.o.below hb);have d9:=hbt fQ hb;clear hb;obtain ⟨rV,p8⟩:=ay K1.o rfl rfl;obtain ⟨dn,dx⟩:=aR K1.o;go_wp2;exact bodyPost_ret (v:=.tuple #[.agg #[.string s,.string t],.int .i64 0]) (by simp[results,results14,go_sem,rV,p8]) rfl ⟨rfl,(aj (l:=[.string s,.string t]) (i:=0) (by omega) d9.o)⟩
theorem vF (a:ByteArray)(n:Int)(x:Rat)  (w:World)  (h2:KSi 47 (.string a) x (1))  :
 CR 16 #[.string a,.int .i64 n] w (.tuple #[.agg #[.string ⟨#[]⟩,.string ⟨#[]⟩],.int .i64 1]):=by
 have C2:=hid h2;clear h2;go_enter func16,ntmps16
 go_upto_region 1 with fail
 refine ak w [(#[.string ⟨#[]⟩,.string ⟨#[]⟩],27)] rfl ?_;rintro W0 ⟨k1,hb⟩;have wu:=hid (show Below w.heap.size w W0 from hb);have K1:=hid k1;clear k1 hb;go_wp2_with fail
 with_reducible refine(C2.o _).mono ?_
 rintro e W1 ⟨u6,rfl,ww,hb⟩;have K1:=hid (K1.o.below hb);have w9:=hbt wu hb;have RX:=hid ww;clear hb ww;go_upto_region 2 with fail
 refine ak W1 [(u6.l.toArray,50)] rfl ?_;have L1:=K1.o.lt;have L2:=w9.o.size;rintro W2 ⟨k2,hb⟩;have hb:Below W1.heap.size W1 W2:=hb;have K1:=hid (K1.o.below hb);have pu:=hbt w9 hb;have K2:=hid k2;clear k2 hb;obtain ⟨rV,p8⟩:=ay K1.o rfl rfl;obtain ⟨dn,dx⟩:=aR K1.o;go_wp2;exact bodyPost_ret (v:=.tuple #[.agg #[.string ⟨#[]⟩,.string ⟨#[]⟩],.int .i64 1]) (by simp[results,results16,go_sem,rV,p8]) rfl ⟨rfl,(aj (l:=[.string ⟨#[]⟩,.string ⟨#[]⟩]) (i:=0) (by omega) pu.o)⟩
theorem vE (a:ByteArray)(n:Int)(x:Rat)  (w:World)  (h2:KSi 47 (.string a) x (2))  :
 CR 16 #[.string a,.int .i64 n] w (.tuple #[.agg #[.string ⟨#[]⟩,.string ⟨#[]⟩],.int .i64 2]):=by
 have C2:=hid h2;clear h2;go_enter func16,ntmps16
 go_upto_region 1 with fail
 refine ak w [(#[.string ⟨#[]⟩,.string ⟨#[]⟩],27)] rfl ?_;rintro W0 ⟨k1,hb⟩;have wu:=hid (show Below w.heap.size w W0 from hb);have K1:=hid k1;clear k1 hb;go_wp2_with fail
 with_reducible refine(C2.o _).mono ?_
 rintro e W1 ⟨u6,rfl,ww,hb⟩;have K1:=hid (K1.o.below hb);have w9:=hbt wu hb;have RX:=hid ww;clear hb ww;go_upto_region 2 with fail
 refine ak W1 [(u6.l.toArray,50)] rfl ?_;have L1:=K1.o.lt;have L2:=w9.o.size;rintro W2 ⟨k2,hb⟩;have hb:Below W1.heap.size W1 W2:=hb;have K1:=hid (K1.o.below hb);have pu:=hbt w9 hb;have K2:=hid k2;clear k2 hb;obtain ⟨rV,p8⟩:=ay K1.o rfl rfl;obtain ⟨dn,dx⟩:=aR K1.o;go_wp2;exact bodyPost_ret (v:=.tuple #[.agg #[.string ⟨#[]⟩,.string ⟨#[]⟩],.int .i64 2]) (by simp[results,results16,go_sem,rV,p8]) rfl ⟨rfl,(aj (l:=[.string ⟨#[]⟩,.string ⟨#[]⟩]) (i:=0) (by omega) pu.o)⟩
theorem vD (a:ByteArray)(n:Int)(x:Rat)  (w:World)  (h1:KPs 43 (.int .i64 n) (.bool false))(h2:KSi 47 (.string a) x (0))  :
 CR 16 #[.string a,.int .i64 n] w (.tuple #[.agg #[.string ⟨#[]⟩,.string ⟨#[]⟩],.int .i64 2]):=by
 have C1:=hid h1;have C2:=hid h2;clear h1 h2;go_enter func16,ntmps16
 go_upto_region 1 with fail
 refine ak w [(#[.string ⟨#[]⟩,.string ⟨#[]⟩],27)] rfl ?_;rintro W0 ⟨k1,hb⟩;have wu:=hid (show Below w.heap.size w W0 from hb);have K1:=hid k1;clear k1 hb;go_wp2_with fail
 with_reducible refine(C2.o _).mono ?_
 rintro e W1 ⟨u6,rfl,ww,hb⟩;have K1:=hid (K1.o.below hb);have w9:=hbt wu hb;have RX:=hid ww;clear hb ww;go_upto_region 2 with fail
 refine ak W1 [(u6.l.toArray,50)] rfl ?_;have L1:=K1.o.lt;have L2:=w9.o.size;rintro W2 ⟨k2,hb⟩;have hb:Below W1.heap.size W1 W2:=hb;have K1:=hid (K1.o.below hb);have pu:=hbt w9 hb;have K2:=hid k2;clear k2 hb;go_wp2_with fail
 with_reducible refine(C1.o _).mono ?_
 rintro e W3 ⟨rfl,hb⟩;have K1:=hid (K1.o.below hb);have mf:=hbt pu hb;clear hb;obtain ⟨rV,p8⟩:=ay K1.o rfl rfl;obtain ⟨dn,dx⟩:=aR K1.o;go_wp2;exact bodyPost_ret (v:=.tuple #[.agg #[.string ⟨#[]⟩,.string ⟨#[]⟩],.int .i64 2]) (by simp[results,results16,go_sem,rV,p8]) rfl ⟨rfl,(aj (l:=[.string ⟨#[]⟩,.string ⟨#[]⟩]) (i:=0) (by omega) mf.o)⟩
theorem vC (a:ByteArray)(n:Int)(x:Rat)(pa pb:Rat)(s t:ByteArray)  (w:World)  (h1:KPs 43 (.int .i64 n) (.bool true))(h2:KSi 47 (.string a) x (0))(h4:KEn 50 x (.int .i64 n) pa pb)(h3:KI2 32 pa pb (.agg #[.string s,.string t]))  :
 CR 16 #[.string a,.int .i64 n] w (.tuple #[.agg #[.string s,.string t],.int .i64 0]):=by
 obtain ⟨C1,C2,C4,C3⟩:=aM h1 h2 h4 h3;clear h1 h2 h4 h3;go_enter func16,ntmps16
 go_upto_region 1 with fail
 refine ak w [(#[.string ⟨#[]⟩,.string ⟨#[]⟩],27)] rfl ?_;rintro W0 ⟨k1,hb⟩;have wu:=hid (show Below w.heap.size w W0 from hb);have K1:=hid k1;clear k1 hb;go_wp2_with fail
 with_reducible refine(C2.o _).mono ?_
 rintro e W1 ⟨u6,rfl,ww,hb⟩;have K1:=hid (K1.o.below hb);have w9:=hbt wu hb;have RX:=hid ww;clear hb ww;go_upto_region 2 with fail
 refine ak W1 [(u6.l.toArray,50)] rfl ?_;have L1:=K1.o.lt;have L2:=w9.o.size;rintro W2 ⟨k2,hb⟩;have hb:Below W1.heap.size W1 W2:=hb;obtain ⟨K1,RX⟩:=aO hb K1 RX;have pu:=hbt w9 hb;have K2:=hid k2;clear k2 hb;go_wp2_with fail
 with_reducible refine(C1.o _).mono ?_
 rintro e W3 ⟨rfl,hb⟩;obtain ⟨K1,K2,RX⟩:=bA hb K1 K2 RX;have mf:=hbt pu hb;clear hb;obtain ⟨kM,kV,gy⟩:=aC K2.o rfl rfl rfl;go_wp2_with fail
 with_reducible refine(C4.o _ _ RX.o).mono ?_
 rintro e W4 ⟨u0G,u0H,rfl,lv,bq,hb⟩;clear kM kV gy;have K1:=hid (K1.o.below hb);have fQ:=hbt mf hb;have RPA:=hid lv;have RPB:=hid bq;clear hb lv bq;go_wp2_with fail
 with_reducible refine(C3.o _ _ _ RPA.o RPB.o).mono ?_
 rintro e W5 ⟨rfl,hb⟩;have K1:=hid (K1.o.below hb);have d9:=hbt fQ hb;clear hb;obtain ⟨rV,p8⟩:=ay K1.o rfl rfl;obtain ⟨dn,dx⟩:=aR K1.o;go_wp2;exact bodyPost_ret (v:=.tuple #[.agg #[.string s,.string t],.int .i64 0]) (by simp[results,results16,go_sem,rV,p8]) rfl ⟨rfl,(aj (l:=[.string s,.string t]) (i:=0) (by omega) d9.o)⟩
