/- texts -/
import Derived.Test.YtkiklcbhglpooaaGreatDoorMz46q
set_option maxRecDepth 100000
set_option maxHeartbeats 20000000
open Go.Lib (hid)
namespace Go.Proofs.YtkiklcbhglpooaaGreatDoor
open Go.RowKit Go.Gb
set_option linter.unusedSimpArgs false
set_option linter.unusedVariables false
abbrev RZ (W:World) (k:Int):Ending→World→Prop:=fun e w'=>∃ p c,e=.returned (.agg #[.bool (ai k),.slice p (ae k) c])∧RN w' (.slice p (ae k) c) k.natAbs∧Below W.heap.size W w'
abbrev RNn (W:World) (n:Nat):Ending→World→Prop:=fun e w'=>∃ p c,e=.returned (.slice p (ah n) c)∧RN w' (.slice p (ah n) c) n∧Below W.heap.size W w'
abbrev KZq (f:Nat) (x:Rat) (k:Int):Prop:=∀ (q0:QS) (W:World),FQ W q0 x→Calls Tryz.prog f #[.agg #[.bool q0.b,.slice q0.a q0.n q0.c,.slice q0.e q0.m q0.d]] W (RZ W k)
abbrev KNz (f:Nat) (k:Int) (r:Nat):Prop:=∀ (p:Option Addr) (c:Nat) (W:World),RN W (.slice p (ae k) c) k.natAbs→Calls Tryz.prog f #[.slice p (ae k) c] W (RNn W r)
abbrev KQN (f:Nat) (r:Nat) (z:Rat):Prop:=∀ (p:Option Addr) (c:Nat) (W:World),RN W (.slice p (ah r) c) r→Calls Tryz.prog f #[.slice p (ah r) c] W (RQ W z)
abbrev KS2 (f:Nat) (v0 v1:Value) (z:Rat):Prop:=∀ (W:World),Calls Tryz.prog f #[v0,v1] W (RQ W z)
abbrev KEn (f:Nat) (x:Rat) (v:Value) (lo hi:Rat):Prop:=∀ (q0:QS) (W:World),FQ W q0 x→Calls Tryz.prog f #[.agg #[.bool q0.b,.slice q0.a q0.n q0.c,.slice q0.e q0.m q0.d],v] W (RII W lo hi)
theorem xC (x qn qm qp qr lo fr hi sq:Rat)(n k m:Int)(r:Nat)(bm:Bool)(q1:QS)(w:World)(hm:(m==0)=bm)(h1:KS 27 (.int .i64 n) qn)(h2:KQ2 30 qn qn qm)(h3:KQ2 30 x qm qp)(h4:KZq 82 qp k)(h5:KNz 85 k r)(h6:KQN 84 r qr)(h7:KQ2 83 qr qn lo)(h8:KS2 86 (.int .i64 1) (.int .i64 n) fr)(h9:KQ2 29 lo fr hi)(h10:KQ2 30 lo lo sq)(h11:KP2 87 sq x (.int .i64 m))(r1:FQ w q1 x) :
 Calls Tryz.prog 33 #[(QS.v q1),.int .i64 n] w (RII w lo (cond bm lo hi)):=by
 dsimp only[QS.v];obtain ⟨C1,C2,C3,C4,C5,C6,C7,C8,C9⟩:=bW h1 h2 h3 h4 h5 h6 h7 h8 h9;obtain ⟨C10,C11,R1⟩:=av h10 h11 r1;have e1:=hm;have e2:decide (m=0)=bm:=by rw[← hm];rfl
 have e4:(m != 0) = !bm:=by rw[← hm];rfl
 clear hm h1 h2 h3 h4 h5 h6 h7 h8 h9 h10 h11 r1;go_enter Tryz.func33,Tryz.ntmps33
 go_upto_region 1 with fail
 refine aG w [(q1.l.toArray,50),(#[.bool false,.slice none 0 0,.slice none 0 0,.bool false,.slice none 0 0,.slice none 0 0],58)] rfl ?_;rintro W0 ⟨k1,k2,hb⟩;have mf:=hid (show Below w.heap.size w W0 from hb);obtain ⟨K1,K2,R1⟩:=av k1 k2 (R1.o.below mf.o);clear k1 k2 hb;go_wp2_with fail
 have L1:=K1.o.lt;have L2:=K2.o.lt;have L3:=mf.o.size;refine aK (fun a0 a' V=>∃ (wo:QS) (wu:QS) (ww:QS) (si:QS) (sj:_) (su:_) (sw:_),a'=⟨putL [(8,q1.v),(9,.int .i64 n),(10,wo.v),(11,.int .i64 n),(12,wu.v),(13,ww.v),(14,si.v),(15,.agg #[.bool (ai k),.slice sj (ae k) su]),(5,.pointer (some ⟨sw,0,none⟩))] a0.tmps,a0.defers⟩∧Below w.heap.size w V∧SBk V (w.heap.size) q1.l.toArray 50∧SBk V (w.heap.size+1) #[.bool false,.slice none 0 0,.slice none 0 0,.bool false,.slice none 0 0,.slice none 0 0] 58∧SBk V (sw) #[.bool (ai k),.slice sj (ae k) su] 48∧FQ V q1 x∧FQ V wo qn∧FQ V wu qn∧FQ V ww qm∧FQ V si qp∧RN V (.slice sj (ae k) su) k.natAbs∧W0.heap.size≤sw) ?_ ?_
 · refine aY 9 1 [8,9,10,11,12,13,14,15,5] [Rel.val (q1.v),Rel.val (.int .i64 n),Rel.q qn,Rel.val (.int .i64 n),Rel.q qn,Rel.q qm,Rel.q qp,Rel.int k,Rel.ptr W0.heap.size (.cells #[.bool false,.slice none 0 0] 48)] ?_ ?_
   · intro pq a W i HI hD Hr him
     obtain⟨y2,y1⟩:=HI.o.s2 2 1;obtain ⟨bv,bM,bS⟩:=aU (K1.o.below HI.o.world) rfl rfl rfl;obtain⟨X1,X3,X0⟩:=HI.o.g3 1 9 3 11 0 8
     match i,him,Hr with
     | 0,_,Hi|1,_,Hi =>
       refine aF rfl fun K' hK=>?_;go_simp;exact hK.o _ _ (HI.o.pw Hi.o)
     | 2,_,Hi =>
       have x1:=X1.q Hi.o;refine aF rfl fun K' hK=>?_;go_simp;with_reducible refine(C1.o _).mono ?_
       rintro e W' ⟨wo,rfl,ru,hb⟩;exact hK.o _ _ ⟨HI.o.pc Hi.o hb ⟨wo,rfl,ru⟩,trivial⟩
     | 3,_,Hi =>
       refine aF rfl fun K' hK=>?_;go_simp;exact hK.o _ _ (HI.o.pw Hi.o)
     | 4,_,Hi =>
       have x3:=X3.q Hi.o;refine aF rfl fun K' hK=>?_;go_simp;with_reducible refine(C1.o _).mono ?_
       rintro e W' ⟨wu,rfl,rM,hb⟩;exact hK.o _ _ ⟨HI.o.pc Hi.o hb ⟨wu,rfl,rM⟩,trivial⟩
     | 5,_,Hi =>
       obtain⟨v',x2,wo,e,ru⟩:=HI.o.at (i:=2) Hi.o (by kernel_rfl) (by decide);obtain rfl:=e;have x2:a.tmps[10]? = some (.agg #[.bool wo.b,.slice wo.a wo.n wo.c,.slice wo.e wo.m wo.d]):=x2;have kz:=hid ru;clear ru;obtain⟨v',x4,wu,e,rM⟩:=HI.o.at (i:=4) Hi.o (by kernel_rfl) (by decide);obtain rfl:=e;have x4:a.tmps[12]? = some (.agg #[.bool wu.b,.slice wu.a wu.n wu.c,.slice wu.e wu.m wu.d]):=x4;have kM:=hid rM;clear rM;refine aF rfl fun K' hK=>?_;go_simp;with_reducible refine(C2.o _ _ _ kz.o kM.o).mono ?_
       rintro e W' ⟨ww,rfl,rV,hb⟩;exact hK.o _ _ ⟨HI.o.pc Hi.o hb ⟨ww,rfl,rV⟩,trivial⟩
     | 6,_,Hi =>
       have x0:=X0.q Hi.o;obtain⟨v',x5,ww,e,rV⟩:=HI.o.at (i:=5) Hi.o (by kernel_rfl) (by decide);obtain rfl:=e;have x5:a.tmps[13]? = some (.agg #[.bool ww.b,.slice ww.a ww.n ww.c,.slice ww.e ww.m ww.d]):=x5;have kS:=hid rV;clear rV;refine aF rfl fun K' hK=>?_;go_simp;with_reducible refine(C3.o _ _ _ (R1.o.below HI.o.world) kS.o).mono ?_
       rintro e W' ⟨si,rfl,p8,hb⟩;exact hK.o _ _ ⟨HI.o.pc Hi.o hb ⟨si,rfl,p8⟩,trivial⟩
     | 7,_,Hi =>
       obtain⟨v',x6,si,e,p8⟩:=HI.o.at (i:=6) Hi.o (by kernel_rfl) (by decide);obtain rfl:=e;have x6:a.tmps[14]? = some (.agg #[.bool si.b,.slice si.a si.n si.c,.slice si.e si.m si.d]):=x6;have kV:=hid p8;clear p8;refine aF rfl fun K' hK=>?_;go_simp;with_reducible refine(C4.o _ _ kV.o).mono ?_
       rintro e W' ⟨sj,su,rfl,mi,hb⟩;exact hK.o _ _ ⟨HI.o.pc Hi.o hb ⟨sj,su,rfl,mi⟩,trivial⟩
     | 8,_,Hi =>
       refine aF rfl fun K' hK=>?_;go_simp;exact hK.o _ _ ⟨HI.o.pc Hi.o ((Below.refl W.heap.size W).alloc (Nat.le_refl _) (.cells #[.bool false,.slice none 0 0] 48)) ⟨W.heap.size,rfl,HI.o.world.size,SBk.new _ _ _⟩,trivial⟩
     | n+9,h,_=>exact absurd h (by omega)
   · intro pq a W HI hD HA
     obtain⟨v',x2,wo,e,ru⟩:=HI.o.slots 2 (by decide) (HA.o 2 (by decide));obtain rfl:=e;have kz:=hid ru;clear ru;obtain⟨v',x4,wu,e,rM⟩:=HI.o.slots 4 (by decide) (HA.o 4 (by decide));obtain rfl:=e;have kM:=hid rM;clear rM;obtain⟨v',x5,ww,e,rV⟩:=HI.o.slots 5 (by decide) (HA.o 5 (by decide));obtain rfl:=e;have kS:=hid rV;clear rV;obtain⟨v',x6,si,e,p8⟩:=HI.o.slots 6 (by decide) (HA.o 6 (by decide));obtain rfl:=e;have kV:=hid p8;clear p8;obtain⟨v',x7,sj,su,e,mi⟩:=HI.o.slots 7 (by decide) (HA.o 7 (by decide));obtain rfl:=e;have bV:=hid mi;clear mi;have x7:a.tmps[15]? = some (.agg #[.bool (ai k),.slice sj (ae k) su]):=x7;obtain⟨v',x8,sw,e,d9,dn⟩:=HI.o.slots 8 (by decide) (HA.o 8 (by decide));obtain rfl:=e;have l5:=hid d9;clear d9;have aa:=hid dn;clear dn;have x8:a.tmps[5]? = some (.pointer (some ⟨sw,0,none⟩)):=x8;have r9:=hid HI.o.world;obtain ⟨K1,K2,R1⟩:=bX r9.o K1 K2 R1;have pu:=Lib.hid (mf.o.trans (r9.o.mono mf.o.size));have RN1:=kz;have RN2:=kM;have RM:=kS;have RP:=kV;have RK:=bV;have K3:Hid (SBk W sw #[.bool false,.slice none 0 0] 48):=aa;obtain ⟨u0h,dx⟩:=ay K3.o rfl rfl;obtain ⟨u0i,u0j⟩:=bI K3.o;refine bJ (t:=0) ?_;refine aF rfl fun K' hK=>?_;go_simp;refine hK.o _ _ ?_;clear hK;refine bF ?_;rw[← pF];have s0:∀ {q':QS} {x':Rat},FQ W q' x'→FQ (storeAll W (sw) 0 [.bool (ai k),.slice sj (ae k) su]) q' x':=fun h'=>iC _ 0 h' K3.o (by simp[bL]) (by simp[bi]);have o0:∀ {g':Nat} {cs':Array Value} {T':TypeId},g'≠sw→SBk W g' cs' T'→SBk (storeAll W (sw) 0 [.bool (ai k),.slice sj (ae k) su]) g' cs' T':=fun hg' h'=>bY hg' _ 0 h';exact⟨rfl,wo,wu,ww,si,sj,su,sw,(HI.o.finx ⟨HI.o.sx HA.o 0,HI.o.sx HA.o 1,x2,HI.o.sx HA.o 3,x4,x5,x6,x7,x8,trivial⟩ rfl),(az (l:=[.bool (ai k),.slice sj (ae k) su]) (i:=0) (by have:=l5.o;omega) pu.o),(o0 (by have:=l5.o;omega) K1.o),(o0 (by have:=l5.o;omega) K2.o),(nD K3.o),(s0 R1.o),(s0 RN1.o),(s0 RN2.o),(s0 RM.o),(s0 RP.o),(jf _ 0 RK.o K3.o (by simp[bL]) (by simp[bi])),l5.o⟩
 rintro a' W1 ⟨wo,wu,ww,si,sj,su,sw,rfl,z0,z1,z2,z3,z4,z5,z6,z7,z8,z9,z10⟩;obtain ⟨af,K1,K2,K3,R1,RN1,RN2,RM,RP⟩:=bW z0 z1 z2 z3 z4 z5 z6 z7 z8;have RK:=hid z9;have R8xW1:=z10;clear z0 z1 z2 z3 z4 z5 z6 z7 z8 z9 z10;simp only[putL,List.setIfInBounds_toArray,List.set_cons_zero,List.set_cons_succ];have dx:=K3.o.cell (i:=1) rfl;go_wp2_with fail
 with_reducible refine(C5.o _ _ _ RK.o).mono ?_
 rintro e W2 ⟨aX,c_1,rfl,dz,hb⟩;clear dx;obtain ⟨K1,K2,K3,R1,RN1,RN2,RM,RP,RK⟩:=jW hb K1 K2 K3 R1 RN1 RN2 RM RP RK;have HB2:=hbt af hb;have RR:=hid dz;clear hb dz;go_wp2_with fail
 with_reducible refine(C6.o _ _ _ RR.o).mono ?_
 rintro e W3 ⟨q_2,rfl,dP,hb⟩;obtain ⟨K1,K2,K3,R1,RN1,RN2,RM,RP,RK⟩:=jW hb K1 K2 K3 R1 RN1 RN2 RM RP RK;have RR:=hid (RR.o.below hb);have HB3:=hbt HB2 hb;have RQR:=hid dP;clear hb dP;go_wp2_with fail
 with_reducible refine(C1.o _).mono ?_
 rintro e W4 ⟨q_3,rfl,dX,hb⟩;obtain ⟨K1,K2,K3,R1,RN1,RN2,RM,RP,RK⟩:=jW hb K1 K2 K3 R1 RN1 RN2 RM RP RK;obtain ⟨RR,RQR⟩:=aM hb RR RQR;have HB4:=hbt HB3 hb;have RN3:=hid dX;clear hb dX;go_wp2_with fail
 with_reducible refine(C7.o _ _ _ RQR.o RN3.o).mono ?_
 rintro e W5 ⟨u6,rfl,dY,hb⟩;obtain ⟨K1,K2,K3,R1,RN1,RN2,RM,RP,RK⟩:=jW hb K1 K2 K3 R1 RN1 RN2 RM RP RK;obtain ⟨RR,RQR,RN3⟩:=bX hb RR RQR RN3;have cu:=hbt HB4 hb;have RLO:=hid dY;clear hb dY;go_upto_region 3 with fail
 refine aG W5 [(u6.l.toArray,50)] rfl ?_;have L5:=K1.o.lt;have L6:=K2.o.lt;have L7:=K3.o.lt;have L8:=cu.o.size;rintro W6 ⟨k4,hb⟩;have hb:Below W5.heap.size W5 W6:=hb;obtain ⟨K1,K2,K3,R1,RN1,RN2,RM,RP,RK⟩:=jW hb K1 K2 K3 R1 RN1 RN2 RM RP RK;obtain ⟨RR,RQR,RN3,RLO⟩:=bD hb RR RQR RN3 RLO;have gy:=hbt cu hb;have K4:=hid k4;clear k4 hb;go_wp2_with fail
 have L9:=K1.o.lt;have L10:=K2.o.lt;have L11:=K3.o.lt;have L12:=K4.o.lt;have L13:=gy.o.size;refine aK (fun a0 a' V=>∃ (rq:QS) (w9:QS) (gn2:Nat),a'=⟨putL [(23,u6.v),(24,.int .i64 n),(25,rq.v),(26,w9.v),(7,.pointer (some ⟨gn2,0,none⟩))] a0.tmps,a0.defers⟩∧Below w.heap.size w V∧SBk V (w.heap.size) q1.l.toArray 50∧SBk V (w.heap.size+1) #[.bool false,.slice none 0 0,.slice none 0 0,.bool false,.slice none 0 0,.slice none 0 0] 58∧SBk V (sw) #[.bool (ai k),.slice sj (ae k) su] 48∧SBk V (W5.heap.size) u6.l.toArray 50∧SBk V (gn2) w9.l.toArray 50∧FQ V q1 x∧FQ V wo qn∧FQ V wu qn∧FQ V ww qm∧FQ V si qp∧RN V (.slice sj (ae k) su) k.natAbs∧RN V (.slice aX (ah r) c_1) r∧FQ V q_2 qr∧FQ V q_3 qn∧FQ V u6 lo∧FQ V rq fr∧FQ V w9 hi∧W6.heap.size≤gn2) ?_ ?_
 · refine aY 5 1 [23,24,25,26,7] [Rel.val (u6.v),Rel.val (.int .i64 n),Rel.q fr,Rel.q hi,Rel.ptr W6.heap.size (.cells #[.bool false,.slice none 0 0,.slice none 0 0] 50)] ?_ ?_
   · intro pq a W i HI hD Hr him
     obtain⟨y6,y1⟩:=HI.o.s2 6 1;obtain⟨ol,oM,oV⟩:=cells3 (K4.o.below HI.o.world);obtain⟨X1,X0⟩:=HI.o.g2 1 24 0 23
     match i,him,Hr with
     | 0,_,Hi|1,_,Hi =>
       refine aF rfl fun K' hK=>?_;go_simp;exact hK.o _ _ (HI.o.pw Hi.o)
     | 2,_,Hi =>
       have x1:=X1.q Hi.o;refine aF rfl fun K' hK=>?_;go_simp;with_reducible refine(C8.o _).mono ?_
       rintro e W' ⟨rq,rfl,u06,hb⟩;exact hK.o _ _ ⟨HI.o.pc Hi.o hb ⟨rq,rfl,u06⟩,trivial⟩
     | 3,_,Hi =>
       have x0:=X0.q Hi.o;obtain⟨rq,x2,gF⟩:=qAt HI.o 2 25 Hi.o (by kernel_rfl);refine aF rfl fun K' hK=>?_;go_simp;with_reducible refine(C9.o _ _ _ (RLO.o.below HI.o.world) gF.o).mono ?_
       rintro e W' ⟨w9,rfl,u07,hb⟩;exact hK.o _ _ ⟨HI.o.pc Hi.o hb ⟨w9,rfl,u07⟩,trivial⟩
     | 4,_,Hi =>
       refine aF rfl fun K' hK=>?_;go_simp;exact hK.o _ _ ⟨HI.o.pc Hi.o ((Below.refl W.heap.size W).alloc (Nat.le_refl _) (.cells #[.bool false,.slice none 0 0,.slice none 0 0] 50)) ⟨W.heap.size,rfl,HI.o.world.size,SBk.new _ _ _⟩,trivial⟩
     | n+5,h,_=>exact absurd h (by omega)
   · intro pq a W HI hD HA
     obtain⟨rq,x2,gF⟩:=qEnd HI.o HA.o 2 25;obtain⟨w9,x3,u08⟩:=qEnd HI.o HA.o 3 26;obtain⟨v',x4,gn2,e,hge,hsb⟩:=HI.o.slots 4 (by decide) (HA.o 4 (by decide));obtain rfl:=e;have x4:a.tmps[7]? = some (.pointer (some ⟨gn2,0,none⟩)):=x4;obtain ⟨RRG,hsb⟩:=aC hge hsb;clear hge;have r9:=hid HI.o.world;obtain ⟨K1,K2,K3,K4,R1,RN1,RN2,RM,RP⟩:=jW r9.o K1 K2 K3 K4 R1 RN1 RN2 RM RP;obtain ⟨RK,RR,RQR,RN3,RLO⟩:=gm r9.o RK RR RQR RN3 RLO;have K5:Hid (SBk W gn2 #[.bool false,.slice none 0 0,.slice none 0 0] 50):=hsb;have pu:=hid (gy.o.trans (r9.o.mono gy.o.size));have RF:=gF;have RHI:=u08;obtain⟨l6,lg,lv⟩:=cells3 K5.o;obtain⟨cO,bg,bn⟩:=frz3 K5.o;dsimp only[QS.v]at x3;refine bJ (t:=0) ?_;refine aF rfl fun K' hK=>?_;go_simp;refine hK.o _ _ ?_;clear hK;refine bF ?_;rw[← lM];have s0:∀ {q':QS} {x':Rat},FQ W q' x'→FQ (storeAll W (gn2) 0 w9.l) q' x':=fun h'=>iC _ 0 h' K5.o (by simp[bL,Lvv,QS.l]) (by simp[bi,Lvv,QS.l]);have o0:∀ {g':Nat} {cs':Array Value} {T':TypeId},g'≠gn2→SBk W g' cs' T'→SBk (storeAll W (gn2) 0 w9.l) g' cs' T':=fun hg' h'=>bY hg' _ 0 h';exact⟨rfl,rq,w9,gn2,(HI.o.finx ⟨HI.o.sx HA.o 0,HI.o.sx HA.o 1,x2,x3,x4,trivial⟩ rfl),(az (l:=w9.l) (i:=0) (by have:=RRG.o;omega) pu.o),(o0 (by have:=RRG.o;omega) K1.o),(o0 (by have:=RRG.o;omega) K2.o),(o0 (by have:=RRG.o;omega) K3.o),(o0 (by have:=RRG.o;omega) K4.o),(kC K5.o),(s0 R1.o),(s0 RN1.o),(s0 RN2.o),(s0 RM.o),(s0 RP.o),(jf _ 0 RK.o K5.o (by simp[bL,Lvv,QS.l]) (by simp[bi,Lvv,QS.l])),(jf _ 0 RR.o K5.o (by simp[bL,Lvv,QS.l]) (by simp[bi,Lvv,QS.l])),(s0 RQR.o),(s0 RN3.o),(s0 RLO.o),(s0 RF.o),(s0 RHI.o),RRG.o⟩
 rintro a' W7 ⟨rq,w9,gn2,rfl,z0,z1,z2,z3,z4,z5,z6,z7,z8,z9,z10,z11,z12,z13,z14,z15,z16,z17,z18⟩;obtain ⟨bq,K1,K2,K3,K4,K5,R1,RN1,RN2⟩:=bW z0 z1 z2 z3 z4 z5 z6 z7 z8;obtain ⟨RM,RP,RK,RR,RQR,RN3,RLO,RF,RHI⟩:=bW z9 z10 z11 z12 z13 z14 z15 z16 z17;have RRW7:=hid z18;clear z0 z1 z2 z3 z4 z5 z6 z7 z8 z9 z10 z11 z12 z13 z14 z15 z16 z17 z18;simp only[putL,List.setIfInBounds_toArray,List.set_cons_zero,List.set_cons_succ];go_wp2_with fail
 refine aK (fun a0 a' V=>∃ (p9:QS),a'=⟨putL [(27,u6.v),(28,u6.v),(29,p9.v),(30,q1.v),(31,.int .i64 m),(32,.bool bm)] a0.tmps,a0.defers⟩∧Below w.heap.size w V∧SBk V (w.heap.size+1) #[.bool false,.slice none 0 0,.slice none 0 0,.bool false,.slice none 0 0,.slice none 0 0] 58∧SBk V (W5.heap.size) u6.l.toArray 50∧SBk V (gn2) w9.l.toArray 50∧FQ V u6 lo∧FQ V w9 hi) ?_ ?_
 · refine aY 6 0 [27,28,29,30,31,32] [Rel.val (u6.v),Rel.val (u6.v),Rel.q sq,Rel.val (q1.v),Rel.val (.int .i64 m),Rel.val (.bool bm)] ?_ ?_
   · intro pq a W i HI hD Hr him
     obtain⟨y6,y2⟩:=HI.o.s2 6 2;obtain⟨ol,oM,oV⟩:=cells3 (K4.o.below HI.o.world);obtain⟨bv,bM,bS⟩:=cells3 (K1.o.below HI.o.world);obtain⟨X0,X1,X3⟩:=HI.o.g3 0 27 1 28 3 30;have X4:=HI.o.rg 4 31 rfl
     match i,him,Hr with
     | 0,_,Hi|1,_,Hi|3,_,Hi|5,_,Hi =>
       try have x4:=X4.t Hi.o
       refine aF rfl fun K' hK=>?_;go_simp;exact hK.o _ _ (HI.o.pw Hi.o)
     | 2,_,Hi =>
       have x0:=X0.q Hi.o;have x1:=X1.q Hi.o;refine aF rfl fun K' hK=>?_;go_simp;with_reducible refine(C10.o _ _ _ (RLO.o.below HI.o.world) (RLO.o.below HI.o.world)).mono ?_
       rintro e W' ⟨p9,rfl,u09,hb⟩;exact hK.o _ _ ⟨HI.o.pc Hi.o hb ⟨p9,rfl,u09⟩,trivial⟩
     | 4,_,Hi =>
       obtain⟨p9,x2,fo⟩:=qAt HI.o 2 29 Hi.o (by kernel_rfl);have x3:=X3.q Hi.o;refine aF rfl fun K' hK=>?_;go_simp;with_reducible refine(C11.o _ _ _ fo.o (R1.o.below HI.o.world)).mono ?_
       rintro e W' ⟨rfl,hb⟩;exact hK.o _ _ ⟨HI.o.pc Hi.o hb rfl,trivial⟩
     | n+6,h,_=>exact absurd h (by omega)
   · intro pq a W HI hD HA
     obtain⟨p9,x2,fo⟩:=qEnd HI.o HA.o 2 29;have r9:=hid HI.o.world;obtain ⟨K2,K4,K5,RLO,RHI⟩:=gm r9.o K2 K4 K5 RLO RHI;have pu:=Lib.hid (bq.o.trans (r9.o.mono bq.o.size));have RSQ:=fo;refine bF ?_;exact⟨rfl,p9,(HI.o.finx ⟨HI.o.sx HA.o 0,HI.o.sx HA.o 1,x2,HI.o.sx HA.o 3,HI.o.sx HA.o 4,HI.o.sx HA.o 5,trivial⟩ rfl),pu.o,K2.o,K4.o,K5.o,RLO.o,RHI.o⟩
 rintro a' W8 ⟨p9,rfl,z0,z1,z2,z3,z4,z5⟩;obtain ⟨bu,K2,K4,K5,RLO,RHI⟩:=dw z0 z1 z2 z3 z4 z5;clear z0 z1 z2 z3 z4 z5;simp only[putL,List.setIfInBounds_toArray,List.set_cons_zero,List.set_cons_succ]
 cases bm with
 | true =>
   obtain ⟨ol,oM,oV⟩:=aU K4.o rfl rfl rfl;obtain ⟨l6,lg,lv⟩:=aU K5.o rfl rfl rfl;obtain ⟨cO,bg,bn⟩:=bZ K5.o;go_upto_region 6 with fail
   clear ol oM oV l6 cO lg bg lv bn
   refine z1R (fun V=>Below w.heap.size w V∧SBk V (w.heap.size+1) #[.bool false,.slice none 0 0,.slice none 0 0,.bool false,.slice none 0 0,.slice none 0 0] 58∧SBk V (W5.heap.size) u6.l.toArray 50∧SBk V (gn2) u6.l.toArray 50∧FQ V u6 lo∧FQ V w9 hi) (by
    rw[← lM];have s0:∀ {q':QS} {x':Rat},FQ W8 q' x'→FQ (storeAll W8 (gn2) 0 u6.l) q' x':=fun h'=>iC _ 0 h' K5.o (by simp[bL,Lvv,QS.l]) (by simp[bi,Lvv,QS.l]);have o0:∀ {g':Nat} {cs':Array Value} {T':TypeId},g'≠gn2→SBk W8 g' cs' T'→SBk (storeAll W8 (gn2) 0 u6.l) g' cs' T':=fun hg' h'=>bY hg' _ 0 h'
    exact⟨(az (l:=u6.l) (i:=0) (by have:=RRW7.o;omega) bu.o),(o0 (by have:=RRW7.o;omega) K2.o),(o0 (by have:=RRW7.o;omega) K4.o),(kC K5.o),(s0 RLO.o),(s0 RHI.o)⟩) ?_
   rintro W9 ⟨hb,z0,z1,z2,z3,z4⟩;obtain ⟨HB9,K2,K4,K5,RLO,RHI⟩:=dw hb z0 z1 z2 z3 z4;clear hb z0 z1 z2 z3 z4;obtain ⟨ol,oM,oV⟩:=aU K4.o rfl rfl rfl;obtain ⟨l6,lg,lv⟩:=aU K5.o rfl rfl rfl;obtain ⟨fq,fQ,ed,ek,eH,eX⟩:=sG K2.o rfl rfl rfl rfl rfl rfl;obtain ⟨u0b,u0c,u0d,u0e,u0f,u0g⟩:=uw K2.o;go_wp2;exact bodyPost_ret (v:=.agg #[.bool u6.b,.slice u6.a u6.n u6.c,.slice u6.e u6.m u6.d,.bool u6.b,.slice u6.a u6.n u6.c,.slice u6.e u6.m u6.d]) (by simp[results,Tryz.results33,go_sem,fq,fQ,ed,ek,eH,eX]) rfl ⟨_,_,rfl,(iC [.bool u6.b,.slice u6.a u6.n u6.c,.slice u6.e u6.m u6.d,.bool u6.b,.slice u6.a u6.n u6.c,.slice u6.e u6.m u6.d] 0 RLO.o K2.o (by simp[bL]) (by simp[bi])),(iC [.bool u6.b,.slice u6.a u6.n u6.c,.slice u6.e u6.m u6.d,.bool u6.b,.slice u6.a u6.n u6.c,.slice u6.e u6.m u6.d] 0 RLO.o K2.o (by simp[bL]) (by simp[bi])),(az (l:=[.bool u6.b,.slice u6.a u6.n u6.c,.slice u6.e u6.m u6.d,.bool u6.b,.slice u6.a u6.n u6.c,.slice u6.e u6.m u6.d]) (i:=0) (by have:=RRW7.o;omega) HB9.o)⟩
 | false =>
   obtain ⟨ol,oM,oV⟩:=aU K4.o rfl rfl rfl;obtain ⟨l6,lg,lv⟩:=aU K5.o rfl rfl rfl;obtain ⟨fq,fQ,ed,ek,eH,eX⟩:=sG K2.o rfl rfl rfl rfl rfl rfl;obtain ⟨u0b,u0c,u0d,u0e,u0f,u0g⟩:=uw K2.o;go_wp2;exact bodyPost_ret (v:=.agg #[.bool u6.b,.slice u6.a u6.n u6.c,.slice u6.e u6.m u6.d,.bool w9.b,.slice w9.a w9.n w9.c,.slice w9.e w9.m w9.d]) (by simp[results,Tryz.results33,go_sem,fq,fQ,ed,ek,eH,eX]) rfl ⟨_,_,rfl,(iC [.bool u6.b,.slice u6.a u6.n u6.c,.slice u6.e u6.m u6.d,.bool w9.b,.slice w9.a w9.n w9.c,.slice w9.e w9.m w9.d] 0 RLO.o K2.o (by simp[bL]) (by simp[bi])),(iC [.bool u6.b,.slice u6.a u6.n u6.c,.slice u6.e u6.m u6.d,.bool w9.b,.slice w9.a w9.n w9.c,.slice w9.e w9.m w9.d] 0 RHI.o K2.o (by simp[bL]) (by simp[bi])),(az (l:=[.bool u6.b,.slice u6.a u6.n u6.c,.slice u6.e u6.m u6.d,.bool w9.b,.slice w9.a w9.n w9.c,.slice w9.e w9.m w9.d]) (i:=0) (by have:=RRW7.o;omega) bu.o)⟩
