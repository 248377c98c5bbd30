/- texts -/
import Derived.Test.YtikihamjpenboaaGreatDoorMz42q
open Go.Proofs.Tryz
set_option maxRecDepth 100000
set_option maxHeartbeats 20000000
open Go.Lib (hid)
namespace Go.Proofs.YtikihamjpenboaaGreatDoor
open Go.RowKit Go.Gb
set_option linter.unusedSimpArgs false
set_option linter.unusedVariables false
abbrev RZ (W:World) (k:Int):Ending→World→Prop:=fun e w'=>∃ p c,e=.returned (.agg #[.bool (ah k),.slice p (aa k) c])∧RN w' (.slice p (aa k) c) k.natAbs∧Below W.heap.size W w'
abbrev RNn (W:World) (n:Nat):Ending→World→Prop:=fun e w'=>∃ p c,e=.returned (.slice p (ag n) c)∧RN w' (.slice p (ag n) c) n∧Below W.heap.size W w'
abbrev KZq (f:Nat) (x:Rat) (k:Int):Prop:=∀ (q0:QS) (W:World),FQ W q0 x→Calls Tryz.prog f #[.agg #[.bool q0.b,.slice q0.a q0.n q0.c,.slice q0.e q0.m q0.d]] W (RZ W k)
abbrev KNz (f:Nat) (k:Int) (r:Nat):Prop:=∀ (p:Option Addr) (c:Nat) (W:World),RN W (.slice p (aa k) c) k.natAbs→Calls Tryz.prog f #[.slice p (aa k) c] W (RNn W r)
abbrev KNp (f:Nat) (x:Rat) (r:Nat):Prop:=∀ (q:QS) (W:World),FQ W q x→Calls Tryz.prog f #[.slice q.a q.n q.c] W (RNn W r)
abbrev KNd (f:Nat) (x:Rat) (r:Nat):Prop:=∀ (q:QS) (W:World),FQ W q x→Calls Tryz.prog f #[.slice q.e q.m q.d] W (RNn W r)
abbrev KQN (f:Nat) (r:Nat) (z:Rat):Prop:=∀ (p:Option Addr) (c:Nat) (W:World),RN W (.slice p (ag r) c) r→Calls Tryz.prog f #[.slice p (ag r) c] W (RQ W z)
abbrev KS2 (f:Nat) (v0 v1:Value) (z:Rat):Prop:=∀ (W:World),Calls Tryz.prog f #[v0,v1] W (RQ W z)
abbrev KEn (f:Nat) (x:Rat) (v:Value) (lo hi:Rat):Prop:=∀ (q0:QS) (W:World),FQ W q0 x→Calls Tryz.prog f #[.agg #[.bool q0.b,.slice q0.a q0.n q0.c,.slice q0.e q0.m q0.d],v] W (RII W lo hi)
theorem xY (x qn qm qp qr lo fr hi sq:Rat)(n k m:Int)(r:Nat)(bm:Bool)(q1:QS)(w:World)(hm:(m==0)=bm)(h1:KS 54 (.int .i64 n) qn)(h2:KQ2 28 qn qn qm)(h3:KQ2 28 x qm qp)(h4:KZq 76 qp k)(h5:KNz 26 k r)(h6:KQN 25 r qr)(h7:KQ2 24 qr qn lo)(h8:KS2 78 (.int .i64 1) (.int .i64 n) fr)(h9:KQ2 77 lo fr hi)(h10:KQ2 28 lo lo sq)(h11:KP2 27 sq x (.int .i64 m))(r1:FQ w q1 x) :
 Calls Tryz.prog 38 #[(QS.v q1),.int .i64 n] w (RII w lo (cond bm lo hi)):=by
 dsimp only[QS.v];obtain ⟨C1,C2,C3,C4,C5,C6,C7,C8,C9⟩:=bX h1 h2 h3 h4 h5 h6 h7 h8 h9;obtain ⟨C10,C11,R1⟩:=ak h10 h11 r1;have e1:=hm;have e2:decide (m=0)=bm:=by rw[← hm];rfl
 have e4:(m != 0) = !bm:=by rw[← hm];rfl
 clear hm h1 h2 h3 h4 h5 h6 h7 h8 h9 h10 h11 r1;go_enter func38,ntmps38
 go_upto_region 1 with fail
 refine az w [(q1.l.toArray,51),(#[.bool false,.slice none 0 0,.slice none 0 0,.bool false,.slice none 0 0,.slice none 0 0],64)] rfl ?_;rintro W0 ⟨k1,k2,hb⟩;have rM:=hid (show Below w.heap.size w W0 from hb);obtain ⟨K1,K2,R1⟩:=ak k1 k2 (R1.o.below rM.o);clear k1 k2 hb;go_wp2_with fail
 have L1:=K1.o.lt;have L2:=K2.o.lt;have L3:=rM.o.size;refine aF (fun a0 a' V=>∃ (p8:QS) (ww:QS) (p9:QS) (pq:QS) (sj:_) (sw:_) (lv:_),a'=⟨putL [(8,q1.v),(9,.int .i64 n),(10,p8.v),(11,.int .i64 n),(12,ww.v),(13,p9.v),(14,pq.v),(15,.agg #[.bool (ah k),.slice sj (aa k) sw]),(5,.pointer (some ⟨lv,0,none⟩))] a0.tmps,a0.defers⟩∧Below w.heap.size w V∧SBk V (w.heap.size) q1.l.toArray 51∧SBk V (w.heap.size+1) #[.bool false,.slice none 0 0,.slice none 0 0,.bool false,.slice none 0 0,.slice none 0 0] 64∧SBk V (lv) #[.bool (ah k),.slice sj (aa k) sw] 49∧FQ V q1 x∧FQ V p8 qn∧FQ V ww qn∧FQ V p9 qm∧FQ V pq qp∧RN V (.slice sj (aa k) sw) k.natAbs∧W0.heap.size≤lv) ?_ ?_
 · refine aU 9 1 [8,9,10,11,12,13,14,15,5] [Rel.val (q1.v),Rel.val (.int .i64 n),Rel.q qn,Rel.val (.int .i64 n),Rel.q qn,Rel.q qm,Rel.q qp,Rel.int k,Rel.ptr W0.heap.size (.cells #[.bool false,.slice none 0 0] 49)] ?_ ?_
   · intro kS a W i HI hD Hr him
     obtain⟨y2,y1⟩:=HI.o.s2 2 1;obtain ⟨l5,oV,dx⟩:=aP (K1.o.below HI.o.world) rfl rfl rfl;obtain⟨X1,X3,X0⟩:=HI.o.g3 1 9 3 11 0 8
     match i,him,Hr with
     | 0,_,Hi|1,_,Hi =>
       refine aA rfl fun K' hK=>?_;go_simp;exact hK.o _ _ (HI.o.pw Hi.o)
     | 2,_,Hi =>
       have x1:=X1.q Hi.o;refine aA rfl fun K' hK=>?_;go_simp;with_reducible refine(C1.o _).mono ?_
       rintro e W' ⟨p8,rfl,dz,hb⟩;exact hK.o _ _ ⟨HI.o.pc Hi.o hb ⟨p8,rfl,dz⟩,trivial⟩
     | 3,_,Hi =>
       refine aA rfl fun K' hK=>?_;go_simp;exact hK.o _ _ (HI.o.pw Hi.o)
     | 4,_,Hi =>
       have x3:=X3.q Hi.o;refine aA rfl fun K' hK=>?_;go_simp;with_reducible refine(C1.o _).mono ?_
       rintro e W' ⟨ww,rfl,mf,hb⟩;exact hK.o _ _ ⟨HI.o.pc Hi.o hb ⟨ww,rfl,mf⟩,trivial⟩
     | 5,_,Hi =>
       obtain⟨v',x2,p8,e,dz⟩:=HI.o.at (i:=2) Hi.o (by kernel_rfl) (by decide);obtain rfl:=e;have x2:a.tmps[10]? = some (.agg #[.bool p8.b,.slice p8.a p8.n p8.c,.slice p8.e p8.m p8.d]):=x2;have u0b:=hid dz;clear dz;obtain⟨v',x4,ww,e,mf⟩:=HI.o.at (i:=4) Hi.o (by kernel_rfl) (by decide);obtain rfl:=e;have x4:a.tmps[12]? = some (.agg #[.bool ww.b,.slice ww.a ww.n ww.c,.slice ww.e ww.m ww.d]):=x4;have dP:=hid mf;clear mf;refine aA rfl fun K' hK=>?_;go_simp;with_reducible refine(C2.o _ _ _ u0b.o dP.o).mono ?_
       rintro e W' ⟨p9,rfl,dX,hb⟩;exact hK.o _ _ ⟨HI.o.pc Hi.o hb ⟨p9,rfl,dX⟩,trivial⟩
     | 6,_,Hi =>
       have x0:=X0.q Hi.o;obtain⟨v',x5,p9,e,dX⟩:=HI.o.at (i:=5) Hi.o (by kernel_rfl) (by decide);obtain rfl:=e;have x5:a.tmps[13]? = some (.agg #[.bool p9.b,.slice p9.a p9.n p9.c,.slice p9.e p9.m p9.d]):=x5;have u0c:=hid dX;clear dX;refine aA rfl fun K' hK=>?_;go_simp;with_reducible refine(C3.o _ _ _ (R1.o.below HI.o.world) u0c.o).mono ?_
       rintro e W' ⟨pq,rfl,dY,hb⟩;exact hK.o _ _ ⟨HI.o.pc Hi.o hb ⟨pq,rfl,dY⟩,trivial⟩
     | 7,_,Hi =>
       obtain⟨v',x6,pq,e,dY⟩:=HI.o.at (i:=6) Hi.o (by kernel_rfl) (by decide);obtain rfl:=e;have x6:a.tmps[14]? = some (.agg #[.bool pq.b,.slice pq.a pq.n pq.c,.slice pq.e pq.m pq.d]):=x6;have u0d:=hid dY;clear dY;refine aA rfl fun K' hK=>?_;go_simp;with_reducible refine(C4.o _ _ u0d.o).mono ?_
       rintro e W' ⟨sj,sw,rfl,kz,hb⟩;exact hK.o _ _ ⟨HI.o.pc Hi.o hb ⟨sj,sw,rfl,kz⟩,trivial⟩
     | 8,_,Hi =>
       refine aA rfl fun K' hK=>?_;go_simp;exact hK.o _ _ ⟨HI.o.pc Hi.o ((Below.refl W.heap.size W).alloc (Nat.le_refl _) (.cells #[.bool false,.slice none 0 0] 49)) ⟨W.heap.size,rfl,HI.o.world.size,SBk.new _ _ _⟩,trivial⟩
     | n+9,h,_=>exact absurd h (by omega)
   · intro kS a W HI hD HA
     obtain⟨v',x2,p8,e,dz⟩:=HI.o.slots 2 (by decide) (HA.o 2 (by decide));obtain rfl:=e;have u0b:=hid dz;clear dz;obtain⟨v',x4,ww,e,mf⟩:=HI.o.slots 4 (by decide) (HA.o 4 (by decide));obtain rfl:=e;have dP:=hid mf;clear mf;obtain⟨v',x5,p9,e,dX⟩:=HI.o.slots 5 (by decide) (HA.o 5 (by decide));obtain rfl:=e;have u0c:=hid dX;clear dX;obtain⟨v',x6,pq,e,dY⟩:=HI.o.slots 6 (by decide) (HA.o 6 (by decide));obtain rfl:=e;have u0d:=hid dY;clear dY;obtain⟨v',x7,sj,sw,e,kz⟩:=HI.o.slots 7 (by decide) (HA.o 7 (by decide));obtain rfl:=e;have u02:=hid kz;clear kz;have x7:a.tmps[15]? = some (.agg #[.bool (ah k),.slice sj (aa k) sw]):=x7;obtain⟨v',x8,lv,e,gF,u0r⟩:=HI.o.slots 8 (by decide) (HA.o 8 (by decide));obtain rfl:=e;have ek:=hid gF;clear gF;have u0F:=hid u0r;clear u0r;have x8:a.tmps[5]? = some (.pointer (some ⟨lv,0,none⟩)):=x8;have rV:=hid HI.o.world;obtain ⟨K1,K2,R1⟩:=bG rV.o K1 K2 R1;have kV:=Lib.hid (rM.o.trans (rV.o.mono rM.o.size));have RN1:=u0b;have RN2:=dP;have RM:=u0c;have RP:=u0d;have RK:=u02;have K3:Hid (SBk W lv #[.bool false,.slice none 0 0] 49):=u0F;obtain ⟨cu,fo⟩:=au K3.o rfl rfl;obtain ⟨u0T,u0U⟩:=bJ K3.o;refine bz (t:=0) ?_;refine aA rfl fun K' hK=>?_;go_simp;refine hK.o _ _ ?_;clear hK;refine bi ?_;rw[← lY];have s0:∀ {q':QS} {x':Rat},FQ W q' x'→FQ (storeAll W (lv) 0 [.bool (ah k),.slice sj (aa k) sw]) q' x':=fun h'=>eu _ 0 h' K3.o (by simp[bF]) (by simp[aY]);have o0:∀ {g':Nat} {cs':Array Value} {T':TypeId},g'≠lv→SBk W g' cs' T'→SBk (storeAll W (lv) 0 [.bool (ah k),.slice sj (aa k) sw]) g' cs' T':=fun hg' h'=>bZ hg' _ 0 h';exact⟨rfl,p8,ww,p9,pq,sj,sw,lv,(HI.o.finx ⟨HI.o.sx HA.o 0,HI.o.sx HA.o 1,x2,HI.o.sx HA.o 3,x4,x5,x6,x7,x8,trivial⟩ rfl),(ay (l:=[.bool (ah k),.slice sj (aa k) sw]) (i:=0) (by have:=ek.o;omega) kV.o),(o0 (by have:=ek.o;omega) K1.o),(o0 (by have:=ek.o;omega) K2.o),(kH K3.o),(s0 R1.o),(s0 RN1.o),(s0 RN2.o),(s0 RM.o),(s0 RP.o),(jh _ 0 RK.o K3.o (by simp[bF]) (by simp[aY])),ek.o⟩
 rintro a' W1 ⟨p8,ww,p9,pq,sj,sw,lv,rfl,z0,z1,z2,z3,z4,z5,z6,z7,z8,z9,z10⟩;obtain ⟨rq,K1,K2,K3,R1,RN1,RN2,RM,RP⟩:=bX z0 z1 z2 z3 z4 z5 z6 z7 z8;have RK:=hid z9;have R8xW1:=z10;clear z0 z1 z2 z3 z4 z5 z6 z7 z8 z9 z10;simp only[putL,List.setIfInBounds_toArray,List.set_cons_zero,List.set_cons_succ];have fo:=K3.o.cell (i:=1) rfl;go_wp2_with fail
 with_reducible refine(C5.o _ _ _ RK.o).mono ?_
 rintro e W2 ⟨p_1,c_1,rfl,r9,hb⟩;clear fo;obtain ⟨K1,K2,K3,R1,RN1,RN2,RM,RP,RK⟩:=kg hb K1 K2 K3 R1 RN1 RN2 RM RP RK;have mi:=hbt rq hb;have RR:=hid r9;clear hb r9;go_wp2_with fail
 with_reducible refine(C6.o _ _ _ RR.o).mono ?_
 rintro e W3 ⟨q_2,rfl,u0s,hb⟩;obtain ⟨K1,K2,K3,R1,RN1,RN2,RM,RP,RK⟩:=kg hb K1 K2 K3 R1 RN1 RN2 RM RP RK;have RR:=hid (RR.o.below hb);have lg:=hbt mi hb;have RQR:=hid u0s;clear hb u0s;go_wp2_with fail
 with_reducible refine(C1.o _).mono ?_
 rintro e W4 ⟨q_3,rfl,u0t,hb⟩;obtain ⟨K1,K2,K3,R1,RN1,RN2,RM,RP,RK⟩:=kg hb K1 K2 K3 R1 RN1 RN2 RM RP RK;obtain ⟨RR,RQR⟩:=aH hb RR RQR;have fq:=hbt lg hb;have RN3:=hid u0t;clear hb u0t;go_wp2_with fail
 with_reducible refine(C7.o _ _ _ RQR.o RN3.o).mono ?_
 rintro e W5 ⟨u6,rfl,u0u,hb⟩;obtain ⟨K1,K2,K3,R1,RN1,RN2,RM,RP,RK⟩:=kg hb K1 K2 K3 R1 RN1 RN2 RM RP RK;obtain ⟨RR,RQR,RN3⟩:=bG hb RR RQR RN3;have cO:=hbt fq hb;have RLO:=hid u0u;clear hb u0u;go_upto_region 3 with fail
 refine az W5 [(u6.l.toArray,51)] rfl ?_;have L5:=K1.o.lt;have L6:=K2.o.lt;have L7:=K3.o.lt;have L8:=cO.o.size;rintro W6 ⟨k4,hb⟩;have hb:Below W5.heap.size W5 W6:=hb;obtain ⟨K1,K2,K3,R1,RN1,RN2,RM,RP,RK⟩:=kg hb K1 K2 K3 R1 RN1 RN2 RM RP RK;obtain ⟨RR,RQR,RN3,RLO⟩:=aW hb RR RQR RN3 RLO;have HB6:=hbt cO hb;have K4:=hid k4;clear k4 hb;go_wp2_with fail
 have L9:=K1.o.lt;have L10:=K2.o.lt;have L11:=K3.o.lt;have L12:=K4.o.lt;have L13:=HB6.o.size;refine aF (fun a0 a' V=>∃ (pu:QS) (w9:QS) (gn2:Nat),a'=⟨putL [(23,u6.v),(24,.int .i64 n),(25,pu.v),(26,w9.v),(7,.pointer (some ⟨gn2,0,none⟩))] a0.tmps,a0.defers⟩∧Below w.heap.size w V∧SBk V (w.heap.size) q1.l.toArray 51∧SBk V (w.heap.size+1) #[.bool false,.slice none 0 0,.slice none 0 0,.bool false,.slice none 0 0,.slice none 0 0] 64∧SBk V (lv) #[.bool (ah k),.slice sj (aa k) sw] 49∧SBk V (W5.heap.size) u6.l.toArray 51∧SBk V (gn2) w9.l.toArray 51∧FQ V q1 x∧FQ V p8 qn∧FQ V ww qn∧FQ V p9 qm∧FQ V pq qp∧RN V (.slice sj (aa k) sw) k.natAbs∧RN V (.slice p_1 (ag r) c_1) r∧FQ V q_2 qr∧FQ V q_3 qn∧FQ V u6 lo∧FQ V pu fr∧FQ V w9 hi∧W6.heap.size≤gn2) ?_ ?_
 · refine aU 5 1 [23,24,25,26,7] [Rel.val (u6.v),Rel.val (.int .i64 n),Rel.q fr,Rel.q hi,Rel.ptr W6.heap.size (.cells #[.bool false,.slice none 0 0,.slice none 0 0] 51)] ?_ ?_
   · intro kS a W i HI hD Hr him
     obtain⟨y6,y1⟩:=HI.o.s2 6 1;obtain⟨u04,u05,u06⟩:=cells3 (K4.o.below HI.o.world);obtain⟨X1,X0⟩:=HI.o.g2 1 24 0 23
     match i,him,Hr with
     | 0,_,Hi|1,_,Hi =>
       refine aA rfl fun K' hK=>?_;go_simp;exact hK.o _ _ (HI.o.pw Hi.o)
     | 2,_,Hi =>
       have x1:=X1.q Hi.o;refine aA rfl fun K' hK=>?_;go_simp;with_reducible refine(C8.o _).mono ?_
       rintro e W' ⟨pu,rfl,u0e,hb⟩;exact hK.o _ _ ⟨HI.o.pc Hi.o hb ⟨pu,rfl,u0e⟩,trivial⟩
     | 3,_,Hi =>
       have x0:=X0.q Hi.o;obtain⟨pu,x2,bg⟩:=qAt HI.o 2 25 Hi.o (by kernel_rfl);refine aA rfl fun K' hK=>?_;go_simp;with_reducible refine(C9.o _ _ _ (RLO.o.below HI.o.world) bg.o).mono ?_
       rintro e W' ⟨w9,rfl,u0K,hb⟩;exact hK.o _ _ ⟨HI.o.pc Hi.o hb ⟨w9,rfl,u0K⟩,trivial⟩
     | 4,_,Hi =>
       refine aA rfl fun K' hK=>?_;go_simp;exact hK.o _ _ ⟨HI.o.pc Hi.o ((Below.refl W.heap.size W).alloc (Nat.le_refl _) (.cells #[.bool false,.slice none 0 0,.slice none 0 0] 51)) ⟨W.heap.size,rfl,HI.o.world.size,SBk.new _ _ _⟩,trivial⟩
     | n+5,h,_=>exact absurd h (by omega)
   · intro kS a W HI hD HA
     obtain⟨pu,x2,bg⟩:=qEnd HI.o HA.o 2 25;obtain⟨w9,x3,u0L⟩:=qEnd HI.o HA.o 3 26;obtain⟨v',x4,gn2,e,hge,hsb⟩:=HI.o.slots 4 (by decide) (HA.o 4 (by decide));obtain rfl:=e;have x4:a.tmps[7]? = some (.pointer (some ⟨gn2,0,none⟩)):=x4;obtain ⟨RRG,hsb⟩:=aD hge hsb;clear hge;have rV:=hid HI.o.world;obtain ⟨K1,K2,K3,K4,R1,RN1,RN2,RM,RP⟩:=kg rV.o K1 K2 K3 K4 R1 RN1 RN2 RM RP;obtain ⟨RK,RR,RQR,RN3,RLO⟩:=gp rV.o RK RR RQR RN3 RLO;have K5:Hid (SBk W gn2 #[.bool false,.slice none 0 0,.slice none 0 0] 51):=hsb;have kV:=hid (HB6.o.trans (rV.o.mono HB6.o.size));have RF:=bg;have RHI:=u0L;obtain⟨u07,u08,u09⟩:=cells3 K5.o;obtain⟨u0v,u0w,u0x⟩:=frz3 K5.o;dsimp only[QS.v]at x3;refine bz (t:=0) ?_;refine aA rfl fun K' hK=>?_;go_simp;refine hK.o _ _ ?_;clear hK;refine bi ?_;rw[← lX];have s0:∀ {q':QS} {x':Rat},FQ W q' x'→FQ (storeAll W (gn2) 0 w9.l) q' x':=fun h'=>eu _ 0 h' K5.o (by simp[bF,Lvv,QS.l]) (by simp[aY,Lvv,QS.l]);have o0:∀ {g':Nat} {cs':Array Value} {T':TypeId},g'≠gn2→SBk W g' cs' T'→SBk (storeAll W (gn2) 0 w9.l) g' cs' T':=fun hg' h'=>bZ hg' _ 0 h';exact⟨rfl,pu,w9,gn2,(HI.o.finx ⟨HI.o.sx HA.o 0,HI.o.sx HA.o 1,x2,x3,x4,trivial⟩ rfl),(ay (l:=w9.l) (i:=0) (by have:=RRG.o;omega) kV.o),(o0 (by have:=RRG.o;omega) K1.o),(o0 (by have:=RRG.o;omega) K2.o),(o0 (by have:=RRG.o;omega) K3.o),(o0 (by have:=RRG.o;omega) K4.o),(kG K5.o),(s0 R1.o),(s0 RN1.o),(s0 RN2.o),(s0 RM.o),(s0 RP.o),(jh _ 0 RK.o K5.o (by simp[bF,Lvv,QS.l]) (by simp[aY,Lvv,QS.l])),(jh _ 0 RR.o K5.o (by simp[bF,Lvv,QS.l]) (by simp[aY,Lvv,QS.l])),(s0 RQR.o),(s0 RN3.o),(s0 RLO.o),(s0 RF.o),(s0 RHI.o),RRG.o⟩
 rintro a' W7 ⟨pu,w9,gn2,rfl,z0,z1,z2,z3,z4,z5,z6,z7,z8,z9,z10,z11,z12,z13,z14,z15,z16,z17,z18⟩;obtain ⟨HB7,K1,K2,K3,K4,K5,R1,RN1,RN2⟩:=bX z0 z1 z2 z3 z4 z5 z6 z7 z8;obtain ⟨RM,RP,RK,RR,RQR,RN3,RLO,RF,RHI⟩:=bX z9 z10 z11 z12 z13 z14 z15 z16 z17;have RRW7:=hid z18;clear z0 z1 z2 z3 z4 z5 z6 z7 z8 z9 z10 z11 z12 z13 z14 z15 z16 z17 z18;simp only[putL,List.setIfInBounds_toArray,List.set_cons_zero,List.set_cons_succ];go_wp2_with fail
 refine aF (fun a0 a' V=>∃ (bn:QS),a'=⟨putL [(27,u6.v),(28,u6.v),(29,bn.v),(30,q1.v),(31,.int .i64 m),(32,.bool bm)] a0.tmps,a0.defers⟩∧Below w.heap.size w V∧SBk V (w.heap.size+1) #[.bool false,.slice none 0 0,.slice none 0 0,.bool false,.slice none 0 0,.slice none 0 0] 64∧SBk V (W5.heap.size) u6.l.toArray 51∧SBk V (gn2) w9.l.toArray 51∧FQ V u6 lo∧FQ V w9 hi) ?_ ?_
 · refine aU 6 0 [27,28,29,30,31,32] [Rel.val (u6.v),Rel.val (u6.v),Rel.q sq,Rel.val (q1.v),Rel.val (.int .i64 m),Rel.val (.bool bm)] ?_ ?_
   · intro kS a W i HI hD Hr him
     obtain⟨y6,y2⟩:=HI.o.s2 6 2;obtain⟨u04,u05,u06⟩:=cells3 (K4.o.below HI.o.world);obtain⟨l5,oV,dx⟩:=cells3 (K1.o.below HI.o.world);obtain⟨X0,X1,X3⟩:=HI.o.g3 0 27 1 28 3 30;have X4:=HI.o.rg 4 31 rfl
     match i,him,Hr with
     | 0,_,Hi|1,_,Hi|3,_,Hi|5,_,Hi =>
       try have x4:=X4.t Hi.o
       refine aA rfl fun K' hK=>?_;go_simp;exact hK.o _ _ (HI.o.pw Hi.o)
     | 2,_,Hi =>
       have x0:=X0.q Hi.o;have x1:=X1.q Hi.o;refine aA rfl fun K' hK=>?_;go_simp;with_reducible refine(C10.o _ _ _ (RLO.o.below HI.o.world) (RLO.o.below HI.o.world)).mono ?_
       rintro e W' ⟨bn,rfl,u0M,hb⟩;exact hK.o _ _ ⟨HI.o.pc Hi.o hb ⟨bn,rfl,u0M⟩,trivial⟩
     | 4,_,Hi =>
       obtain⟨bn,x2,u0f⟩:=qAt HI.o 2 29 Hi.o (by kernel_rfl);have x3:=X3.q Hi.o;refine aA rfl fun K' hK=>?_;go_simp;with_reducible refine(C11.o _ _ _ u0f.o (R1.o.below HI.o.world)).mono ?_
       rintro e W' ⟨rfl,hb⟩;exact hK.o _ _ ⟨HI.o.pc Hi.o hb rfl,trivial⟩
     | n+6,h,_=>exact absurd h (by omega)
   · intro kS a W HI hD HA
     obtain⟨bn,x2,u0f⟩:=qEnd HI.o HA.o 2 29;have rV:=hid HI.o.world;obtain ⟨K2,K4,K5,RLO,RHI⟩:=gp rV.o K2 K4 K5 RLO RHI;have kV:=Lib.hid (HB7.o.trans (rV.o.mono HB7.o.size));have RSQ:=u0f;refine bi ?_;exact⟨rfl,bn,(HI.o.finx ⟨HI.o.sx HA.o 0,HI.o.sx HA.o 1,x2,HI.o.sx HA.o 3,HI.o.sx HA.o 4,HI.o.sx HA.o 5,trivial⟩ rfl),kV.o,K2.o,K4.o,K5.o,RLO.o,RHI.o⟩
 rintro a' W8 ⟨bn,rfl,z0,z1,z2,z3,z4,z5⟩;obtain ⟨HB8,K2,K4,K5,RLO,RHI⟩:=cz z0 z1 z2 z3 z4 z5;clear z0 z1 z2 z3 z4 z5;simp only[putL,List.setIfInBounds_toArray,List.set_cons_zero,List.set_cons_succ]
 cases bm with
 | true =>
   obtain ⟨u04,u05,u06⟩:=aP K4.o rfl rfl rfl;obtain ⟨u07,u08,u09⟩:=aP K5.o rfl rfl rfl;obtain ⟨u0v,u0w,u0x⟩:=bU K5.o;go_upto_region 6 with fail
   clear u04 u05 u06 u07 u0v u08 u0w u09 u0x
   refine z2t (fun V=>Below w.heap.size w V∧SBk V (w.heap.size+1) #[.bool false,.slice none 0 0,.slice none 0 0,.bool false,.slice none 0 0,.slice none 0 0] 64∧SBk V (W5.heap.size) u6.l.toArray 51∧SBk V (gn2) u6.l.toArray 51∧FQ V u6 lo∧FQ V w9 hi) (by
    rw[← lX];have s0:∀ {q':QS} {x':Rat},FQ W8 q' x'→FQ (storeAll W8 (gn2) 0 u6.l) q' x':=fun h'=>eu _ 0 h' K5.o (by simp[bF,Lvv,QS.l]) (by simp[aY,Lvv,QS.l]);have o0:∀ {g':Nat} {cs':Array Value} {T':TypeId},g'≠gn2→SBk W8 g' cs' T'→SBk (storeAll W8 (gn2) 0 u6.l) g' cs' T':=fun hg' h'=>bZ hg' _ 0 h'
    exact⟨(ay (l:=u6.l) (i:=0) (by have:=RRW7.o;omega) HB8.o),(o0 (by have:=RRW7.o;omega) K2.o),(o0 (by have:=RRW7.o;omega) K4.o),(kG K5.o),(s0 RLO.o),(s0 RHI.o)⟩) ?_
   rintro W9 ⟨hb,z0,z1,z2,z3,z4⟩;obtain ⟨HB9,K2,K4,K5,RLO,RHI⟩:=cz hb z0 z1 z2 z3 z4;clear hb z0 z1 z2 z3 z4;obtain ⟨u04,u05,u06⟩:=aP K4.o rfl rfl rfl;obtain ⟨u07,u08,u09⟩:=aP K5.o rfl rfl rfl;obtain ⟨ol,oM,bq,u0g,u0h,u0i⟩:=nK K2.o rfl rfl rfl rfl rfl rfl;obtain ⟨bS,bV,u0A,u0O,u0P,u0Q⟩:=uM K2.o;go_wp2;exact bodyPost_ret (v:=.agg #[.bool u6.b,.slice u6.a u6.n u6.c,.slice u6.e u6.m u6.d,.bool u6.b,.slice u6.a u6.n u6.c,.slice u6.e u6.m u6.d]) (by simp[results,results38,go_sem,ol,oM,bq,u0g,u0h,u0i]) rfl ⟨_,_,rfl,(eu [.bool u6.b,.slice u6.a u6.n u6.c,.slice u6.e u6.m u6.d,.bool u6.b,.slice u6.a u6.n u6.c,.slice u6.e u6.m u6.d] 0 RLO.o K2.o (by simp[bF]) (by simp[aY])),(eu [.bool u6.b,.slice u6.a u6.n u6.c,.slice u6.e u6.m u6.d,.bool u6.b,.slice u6.a u6.n u6.c,.slice u6.e u6.m u6.d] 0 RLO.o K2.o (by simp[bF]) (by simp[aY])),(ay (l:=[.bool u6.b,.slice u6.a u6.n u6.c,.slice u6.e u6.m u6.d,.bool u6.b,.slice u6.a u6.n u6.c,.slice u6.e u6.m u6.d]) (i:=0) (by have:=RRW7.o;omega) HB9.o)⟩
 | false =>
   obtain ⟨u04,u05,u06⟩:=aP K4.o rfl rfl rfl;obtain ⟨u07,u08,u09⟩:=aP K5.o rfl rfl rfl;obtain ⟨ol,oM,bq,u0g,u0h,u0i⟩:=nK K2.o rfl rfl rfl rfl rfl rfl;obtain ⟨bS,bV,u0A,u0O,u0P,u0Q⟩:=uM K2.o;go_wp2;exact bodyPost_ret (v:=.agg #[.bool u6.b,.slice u6.a u6.n u6.c,.slice u6.e u6.m u6.d,.bool w9.b,.slice w9.a w9.n w9.c,.slice w9.e w9.m w9.d]) (by simp[results,results38,go_sem,ol,oM,bq,u0g,u0h,u0i]) rfl ⟨_,_,rfl,(eu [.bool u6.b,.slice u6.a u6.n u6.c,.slice u6.e u6.m u6.d,.bool w9.b,.slice w9.a w9.n w9.c,.slice w9.e w9.m w9.d] 0 RLO.o K2.o (by simp[bF]) (by simp[aY])),(eu [.bool u6.b,.slice u6.a u6.n u6.c,.slice u6.e u6.m u6.d,.bool w9.b,.slice w9.a w9.n w9.c,.slice w9.e w9.m w9.d] 0 RHI.o K2.o (by simp[bF]) (by simp[aY])),(ay (l:=[.bool u6.b,.slice u6.a u6.n u6.c,.slice u6.e u6.m u6.d,.bool w9.b,.slice w9.a w9.n w9.c,.slice w9.e w9.m w9.d]) (i:=0) (by have:=RRW7.o;omega) HB8.o)⟩
theorem z5T (a:ByteArray)(x:Rat)  (w:World)  (h1:KSb 22 (.string a) x false)  :
 CR 7 #[.string a] w (.tuple #[.string ⟨#[]⟩,.bool false,.int .i64 1]):=by
 have C1:=hid h1;clear h1;go_enter func7,ntmps7
 have rM:=hid (Below.refl w.heap.size w);go_wp2_with fail
 with_reducible refine(C1.o _).mono ?_
 rintro e W1 ⟨ru,rfl,r9,hb⟩;have rq:=hbt rM hb;have RX:=hid r9;clear hb r9;go_upto_region 2 with fail
 refine az W1 [(ru.l.toArray,51)] rfl ?_;have L1:=rq.o.size;rintro W2 ⟨k1,hb⟩;have hb:Below W1.heap.size W1 W2:=hb;have mi:=hbt rq hb;have K1:=hid k1;clear k1 hb;go_wp2;exact bodyPost_ret (v:=.tuple #[.string ⟨#[]⟩,.bool false,.int .i64 1]) (by simp[results,results7,go_sem]) rfl ⟨rfl,mi.o⟩
theorem z4U (a:ByteArray)(x:Rat)(s:Int)  (w:World)(hs:decide (s<0)=true)(h1:KSb 22 (.string a) x true)(h2:KP1 23 x (.int .i64 s))  :
 CR 7 #[.string a] w (.tuple #[.string ⟨#[]⟩,.bool false,.int .i64 2]):=by
 have C1:=hid h1;have C2:=hid h2;have hss:=hs;clear hs h1 h2;go_enter func7,ntmps7
 have rM:=hid (Below.refl w.heap.size w);go_wp2_with fail
 with_reducible refine(C1.o _).mono ?_
 rintro e W1 ⟨ru,rfl,r9,hb⟩;have rq:=hbt rM hb;have RX:=hid r9;clear hb r9;go_upto_region 2 with fail
 refine az W1 [(ru.l.toArray,51)] rfl ?_;have L1:=rq.o.size;rintro W2 ⟨k1,hb⟩;have hb:Below W1.heap.size W1 W2:=hb;have RX:=hid (RX.o.below hb);have mi:=hbt rq hb;have K1:=hid k1;clear k1 hb;obtain ⟨l5,oV,dx⟩:=aP K1.o rfl rfl rfl;go_wp2_with fail
 with_reducible refine(C2.o _ _ RX.o).mono ?_
 rintro e W3 ⟨rfl,hb⟩;clear l5 oV dx;have lg:=hbt mi hb;clear hb;go_wp2;exact bodyPost_ret (v:=.tuple #[.string ⟨#[]⟩,.bool false,.int .i64 2]) (by simp[results,results7,go_sem]) rfl ⟨rfl,lg.o⟩
theorem z0N (a:ByteArray)(x qr qd rt sq:Rat)(s m:Int)(r d:Nat)(z:ByteArray)(bm:Bool)  (w:World)(hs:decide (s<0)=false)(hm:(m==0)=bm)(h1:KSb 22 (.string a) x true)(h2:KP1 23 x (.int .i64 s))(h3:KNp 26 x r)(h4:KQN 25 r qr)(h5:KNd 26 x d)(h6:KQN 25 d qd)(h7:KQ2 24 qr qd rt)(h8:KQ2 28 rt rt sq)(h9:KP2 27 sq x (.int .i64 m))(h10:KP1 29 rt (.string z))  :
 CR 7 #[.string a] w (cond bm (.tuple #[.string z,.bool true,.int .i64 0]) (.tuple #[.string ⟨#[]⟩,.bool false,.int .i64 0])):=by
 obtain ⟨C1,C2,C3,C4,C5,C6,C7,C8,C9⟩:=bX h1 h2 h3 h4 h5 h6 h7 h8 h9;have C10:=hid h10;have hss:=hs;clear hs;have e1:=hm;have e2:decide (m=0)=bm:=by rw[← hm];rfl
 have e4:(m != 0) = !bm:=by rw[← hm];rfl
 clear hm h1 h2 h3 h4 h5 h6 h7 h8 h9 h10;go_enter func7,ntmps7
 have rM:=hid (Below.refl w.heap.size w);go_wp2_with fail
 with_reducible refine(C1.o _).mono ?_
 rintro e W1 ⟨ru,rfl,r9,hb⟩;have rq:=hbt rM hb;have RX:=hid r9;clear hb r9;go_upto_region 2 with fail
 refine az W1 [(ru.l.toArray,51)] rfl ?_;have L1:=rq.o.size;rintro W2 ⟨k1,hb⟩;have hb:Below W1.heap.size W1 W2:=hb;have RX:=hid (RX.o.below hb);have mi:=hbt rq hb;have K1:=hid k1;clear k1 hb;obtain ⟨l5,oV,dx⟩:=aP K1.o rfl rfl rfl;go_wp2_with fail
 with_reducible refine(C2.o _ _ RX.o).mono ?_
 rintro e W3 ⟨rfl,hb⟩;clear l5 oV dx;obtain ⟨K1,RX⟩:=aH hb K1 RX;have lg:=hbt mi hb;clear hb;go_wp2_with fail
 have L2:=K1.o.lt;have L3:=lg.o.size;refine aF (fun a0 a' V=>∃ (eH:_) (eX:_) (ww:QS) (sj:_) (sw:_) (l6:QS) (si:QS) (kM:_),a'=⟨putL [(18,.pointer (some ⟨W1.heap.size,0,none⟩)),(19,.pointer (some ⟨W1.heap.size,1,none⟩)),(20,.slice ru.a ru.n ru.c),(21,.slice eH (ag r) eX),(22,ww.v),(23,.pointer (some ⟨W1.heap.size,2,none⟩)),(24,.slice ru.e ru.m ru.d),(25,.slice sj (ag d) sw),(26,l6.v),(27,si.v),(7,.pointer (some ⟨kM,0,none⟩))] a0.tmps,a0.defers⟩∧Below w.heap.size w V∧SBk V (W1.heap.size) ru.l.toArray 51∧SBk V (kM) si.l.toArray 51∧FQ V ru x∧FQ V si rt∧W3.heap.size≤kM) ?_ ?_
 · refine aU 11 1 [18,19,20,21,22,23,24,25,26,27,7] [Rel.val (.pointer (some ⟨W1.heap.size,0,none⟩)),Rel.val (.pointer (some ⟨W1.heap.size,1,none⟩)),Rel.val (.slice ru.a ru.n ru.c),Rel.nat r,Rel.q qr,Rel.val (.pointer (some ⟨W1.heap.size,2,none⟩)),Rel.val (.slice ru.e ru.m ru.d),Rel.nat d,Rel.q qd,Rel.q rt,Rel.ptr W3.heap.size (.cells #[.bool false,.slice none 0 0,.slice none 0 0] 51)] ?_ ?_
   · intro kS a W i HI hD Hr him
     have y5:=HI.o.rst 5 rfl;have oV:=(K1.o.below HI.o.world).cell (i:=1) rfl;have dx:=(K1.o.below HI.o.world).cell (i:=2) rfl;obtain⟨X0,X1,X2⟩:=HI.o.g3 0 18 1 19 2 20;obtain⟨X5,X6⟩:=HI.o.g2 5 23 6 24
     match i,him,Hr with
     | 0,_,Hi|1,_,Hi|2,_,Hi =>
       try have x0:=X0.t Hi.o
       try have x1:=X1.t Hi.o
       refine aA rfl fun K' hK=>?_;go_simp;exact hK.o _ _ (HI.o.pw Hi.o)
     | 3,_,Hi =>
       have x2:=X2.q Hi.o;refine aA rfl fun K' hK=>?_;go_simp;with_reducible refine(C3.o _ _ (RX.o.below HI.o.world)).mono ?_
       rintro e W' ⟨eH,eX,rfl,bu,hb⟩;exact hK.o _ _ ⟨HI.o.pc Hi.o hb ⟨eH,eX,rfl,bu⟩,trivial⟩
     | 4,_,Hi =>
       obtain⟨v',x3,eH,eX,e,bu⟩:=HI.o.at (i:=3) Hi.o (by kernel_rfl) (by decide);obtain rfl:=e;have x3:a.tmps[21]? = some (.slice eH (ag r) eX):=x3;have u0j:=hid bu;clear bu;refine aA rfl fun K' hK=>?_;go_simp;with_reducible refine(C4.o _ _ _ u0j.o).mono ?_
       rintro e W' ⟨ww,rfl,mf,hb⟩;exact hK.o _ _ ⟨HI.o.pc Hi.o hb ⟨ww,rfl,mf⟩,trivial⟩
     | 5,_,Hi|6,_,Hi =>
       try have x5:=X5.t Hi.o
       refine aA rfl fun K' hK=>?_;go_simp;exact hK.o _ _ (HI.o.pw Hi.o)
     | 7,_,Hi =>
       have x6:=X6.q Hi.o;refine aA rfl fun K' hK=>?_;go_simp;with_reducible refine(C5.o _ _ (RX.o.below HI.o.world)).mono ?_
       rintro e W' ⟨sj,sw,rfl,kz,hb⟩;exact hK.o _ _ ⟨HI.o.pc Hi.o hb ⟨sj,sw,rfl,kz⟩,trivial⟩
     | 8,_,Hi =>
       obtain⟨v',x7,sj,sw,e,kz⟩:=HI.o.at (i:=7) Hi.o (by kernel_rfl) (by decide);obtain rfl:=e;have x7:a.tmps[25]? = some (.slice sj (ag d) sw):=x7;have u02:=hid kz;clear kz;refine aA rfl fun K' hK=>?_;go_simp;with_reducible refine(C6.o _ _ _ u02.o).mono ?_
       rintro e W' ⟨l6,rfl,gF,hb⟩;exact hK.o _ _ ⟨HI.o.pc Hi.o hb ⟨l6,rfl,gF⟩,trivial⟩
     | 9,_,Hi =>
       obtain⟨v',x4,ww,e,mf⟩:=HI.o.at (i:=4) Hi.o (by kernel_rfl) (by decide);obtain rfl:=e;have x4:a.tmps[22]? = some (.agg #[.bool ww.b,.slice ww.a ww.n ww.c,.slice ww.e ww.m ww.d]):=x4;have dP:=hid mf;clear mf;obtain⟨v',x8,l6,e,gF⟩:=HI.o.at (i:=8) Hi.o (by kernel_rfl) (by decide);obtain rfl:=e;have x8:a.tmps[26]? = some (.agg #[.bool l6.b,.slice l6.a l6.n l6.c,.slice l6.e l6.m l6.d]):=x8;have ek:=hid gF;clear gF;refine aA rfl fun K' hK=>?_;go_simp;with_reducible refine(C7.o _ _ _ dP.o ek.o).mono ?_
       rintro e W' ⟨si,rfl,u0a,hb⟩;exact hK.o _ _ ⟨HI.o.pc Hi.o hb ⟨si,rfl,u0a⟩,trivial⟩
     | 10,_,Hi =>
       refine aA rfl fun K' hK=>?_;go_simp;exact hK.o _ _ ⟨HI.o.pc Hi.o ((Below.refl W.heap.size W).alloc (Nat.le_refl _) (.cells #[.bool false,.slice none 0 0,.slice none 0 0] 51)) ⟨W.heap.size,rfl,HI.o.world.size,SBk.new _ _ _⟩,trivial⟩
     | n+11,h,_=>exact absurd h (by omega)
   · intro kS a W HI hD HA
     obtain⟨v',x3,eH,eX,e,bu⟩:=HI.o.slots 3 (by decide) (HA.o 3 (by decide));obtain rfl:=e;have u0j:=hid bu;clear bu;obtain⟨v',x4,ww,e,mf⟩:=HI.o.slots 4 (by decide) (HA.o 4 (by decide));obtain rfl:=e;have dP:=hid mf;clear mf;obtain⟨v',x7,sj,sw,e,kz⟩:=HI.o.slots 7 (by decide) (HA.o 7 (by decide));obtain rfl:=e;have u02:=hid kz;clear kz;obtain⟨v',x8,l6,e,gF⟩:=HI.o.slots 8 (by decide) (HA.o 8 (by decide));obtain rfl:=e;have ek:=hid gF;clear gF;obtain⟨v',x9,si,e,u0a⟩:=HI.o.slots 9 (by decide) (HA.o 9 (by decide));obtain rfl:=e;have u0R:=hid u0a;clear u0a;have x9:a.tmps[27]? = some (.agg #[.bool si.b,.slice si.a si.n si.c,.slice si.e si.m si.d]):=x9;obtain⟨v',x10,kM,e,u0B,u0C⟩:=HI.o.slots 10 (by decide) (HA.o 10 (by decide));obtain rfl:=e;have u0k:=hid u0B;clear u0B;have u0S:=hid u0C;clear u0C;have x10:a.tmps[7]? = some (.pointer (some ⟨kM,0,none⟩)):=x10;have rV:=hid HI.o.world;obtain ⟨K1,RX⟩:=aH rV.o K1 RX;have kV:=Lib.hid (lg.o.trans (rV.o.mono lg.o.size));have RR:=u0j;have RQR:=dP;have RD:=u02;have RQD:=ek;have RT:=u0R;have K2:Hid (SBk W kM #[.bool false,.slice none 0 0,.slice none 0 0] 51):=u0S;obtain ⟨ol,oM,bq⟩:=aP K2.o rfl rfl rfl;obtain ⟨bS,bV,u0A⟩:=bU K2.o;refine bz (t:=0) ?_;refine aA rfl fun K' hK=>?_;go_simp;refine hK.o _ _ ?_;clear hK;refine bi ?_;rw[← lX];have s0:∀ {q':QS} {x':Rat},FQ W q' x'→FQ (storeAll W (kM) 0 si.l) q' x':=fun h'=>eu _ 0 h' K2.o (by simp[bF,Lvv,QS.l]) (by simp[aY,Lvv,QS.l]);have o0:∀ {g':Nat} {cs':Array Value} {T':TypeId},g'≠kM→SBk W g' cs' T'→SBk (storeAll W (kM) 0 si.l) g' cs' T':=fun hg' h'=>bZ hg' _ 0 h';exact⟨rfl,eH,eX,ww,sj,sw,l6,si,kM,(HI.o.finx ⟨HI.o.sx HA.o 0,HI.o.sx HA.o 1,HI.o.sx HA.o 2,x3,x4,HI.o.sx HA.o 5,HI.o.sx HA.o 6,x7,x8,x9,x10,trivial⟩ rfl),(ay (l:=si.l) (i:=0) (by have:=u0k.o;omega) kV.o),(o0 (by have:=u0k.o;omega) K1.o),(kG K2.o),(s0 RX.o),(s0 RT.o),u0k.o⟩
 rintro a' W4 ⟨eH,eX,ww,sj,sw,l6,si,kM,rfl,z0,z1,z2,z3,z4,z5⟩;obtain ⟨fq,K1,K2,RX,RT⟩:=bY z0 z1 z2 z3 z4;have R10xW4:=z5;clear z0 z1 z2 z3 z4 z5;simp only[putL,List.setIfInBounds_toArray,List.set_cons_zero,List.set_cons_succ];go_wp2_with fail
 refine aF (fun a0 a' V=>∃ (pu:QS),a'=⟨putL [(28,si.v),(29,si.v),(30,pu.v),(31,ru.v),(32,.int .i64 m),(33,.bool (!bm))] a0.tmps,a0.defers⟩∧Below w.heap.size w V∧SBk V (kM) si.l.toArray 51∧FQ V si rt) ?_ ?_
 · refine aU 6 0 [28,29,30,31,32,33] [Rel.val (si.v),Rel.val (si.v),Rel.q sq,Rel.val (ru.v),Rel.val (.int .i64 m),Rel.val (.bool (!bm))] ?_ ?_
   · intro kS a W i HI hD Hr him
     obtain⟨y7,y5⟩:=HI.o.s2 7 5;obtain⟨ol,oM,bq⟩:=cells3 (K2.o.below HI.o.world);obtain⟨l5,oV,dx⟩:=cells3 (K1.o.below HI.o.world);obtain⟨X0,X1,X3⟩:=HI.o.g3 0 28 1 29 3 31;have X4:=HI.o.rg 4 32 rfl
     match i,him,Hr with
     | 0,_,Hi|1,_,Hi|3,_,Hi|5,_,Hi =>
       try have x4:=X4.t Hi.o
       refine aA rfl fun K' hK=>?_;go_simp;exact hK.o _ _ (HI.o.pw Hi.o)
     | 2,_,Hi =>
       have x0:=X0.q Hi.o;have x1:=X1.q Hi.o;refine aA rfl fun K' hK=>?_;go_simp;with_reducible refine(C8.o _ _ _ (RT.o.below HI.o.world) (RT.o.below HI.o.world)).mono ?_
       rintro e W' ⟨pu,rfl,u0e,hb⟩;exact hK.o _ _ ⟨HI.o.pc Hi.o hb ⟨pu,rfl,u0e⟩,trivial⟩
     | 4,_,Hi =>
       obtain⟨pu,x2,bg⟩:=qAt HI.o 2 30 Hi.o (by kernel_rfl);have x3:=X3.q Hi.o;refine aA rfl fun K' hK=>?_;go_simp;with_reducible refine(C9.o _ _ _ bg.o (RX.o.below HI.o.world)).mono ?_
       rintro e W' ⟨rfl,hb⟩;exact hK.o _ _ ⟨HI.o.pc Hi.o hb rfl,trivial⟩
     | n+6,h,_=>exact absurd h (by omega)
   · intro kS a W HI hD HA
     obtain⟨pu,x2,bg⟩:=qEnd HI.o HA.o 2 30;have rV:=hid HI.o.world;obtain ⟨K2,RT⟩:=aH rV.o K2 RT;have kV:=Lib.hid (fq.o.trans (rV.o.mono fq.o.size));have RSQ:=bg;refine bi ?_;exact⟨rfl,pu,(HI.o.finx ⟨HI.o.sx HA.o 0,HI.o.sx HA.o 1,x2,HI.o.sx HA.o 3,HI.o.sx HA.o 4,HI.o.sx HA.o 5,trivial⟩ rfl),kV.o,K2.o,RT.o⟩
 rintro a' W5 ⟨pu,rfl,z0,z1,z2⟩;obtain ⟨cO,K2,RT⟩:=ak z0 z1 z2;clear z0 z1 z2;simp only[putL,List.setIfInBounds_toArray,List.set_cons_zero,List.set_cons_succ]
 cases bm with
 | true =>
   obtain ⟨ol,oM,bq⟩:=aP K2.o rfl rfl rfl;go_wp2_with fail
   with_reducible refine(C10.o _ _ RT.o).mono ?_
   rintro e W6 ⟨rfl,hb⟩;clear ol oM bq;have HB6:=hbt cO hb;clear hb;go_wp2;exact bodyPost_ret (v:=.tuple #[.string z,.bool true,.int .i64 0]) (by simp[results,results7,go_sem]) rfl ⟨rfl,HB6.o⟩
 | false =>
   go_wp2;exact bodyPost_ret (v:=.tuple #[.string ⟨#[]⟩,.bool false,.int .i64 0]) (by simp[results,results7,go_sem]) rfl ⟨rfl,cO.o⟩
theorem z5S (l u:ByteArray)(n:Int)(xa xb:Rat)  (w:World)  (h1:KIb 35 (.agg #[.string l,.string u]) xa xb false)  :
 CR 11 #[.agg #[.string l,.string u],.int .i64 n] w (.tuple #[.agg #[.string ⟨#[]⟩,.string ⟨#[]⟩],.int .i64 1]):=by
 have C1:=hid h1;clear h1;go_enter func11,ntmps11
 go_upto_region 1 with fail
 refine az w [(#[.string l,.string u],24),(#[.string ⟨#[]⟩,.string ⟨#[]⟩],24)] rfl ?_;rintro W0 ⟨k1,k2,hb⟩;have rM:=hid (show Below w.heap.size w W0 from hb);have K1:=hid k1;have K2:=hid k2;clear k1 k2 hb;obtain ⟨l5,oV⟩:=au K1.o rfl rfl;go_wp2_with fail
 with_reducible refine(C1.o _).mono ?_
 rintro e W1 ⟨wo,wu,rfl,r9,gy,hb⟩;clear l5 oV;obtain ⟨K1,K2⟩:=aH hb K1 K2;have rq:=hbt rM hb;have RXa:=hid r9;have RXb:=hid gy;clear hb r9 gy;go_upto_region 2 with fail
 refine az W1 [(#[.bool wo.b,.slice wo.a wo.n wo.c,.slice wo.e wo.m wo.d,.bool wu.b,.slice wu.a wu.n wu.c,.slice wu.e wu.m wu.d],64)] rfl ?_;have L1:=K1.o.lt;have L2:=K2.o.lt;have L3:=rq.o.size;rintro W2 ⟨k3,hb⟩;have hb:Below W1.heap.size W1 W2:=hb;have K2:=hid (K2.o.below hb);have mi:=hbt rq hb;have K3:=hid k3;clear k3 hb;obtain ⟨ol,oM⟩:=au K2.o rfl rfl;obtain ⟨bS,bV⟩:=bJ K2.o;go_wp2;exact bodyPost_ret (v:=.tuple #[.agg #[.string ⟨#[]⟩,.string ⟨#[]⟩],.int .i64 1]) (by simp[results,results11,go_sem,ol,oM]) rfl ⟨rfl,(ay (l:=[.string ⟨#[]⟩,.string ⟨#[]⟩]) (i:=0) (by omega) mi.o)⟩
theorem z4T (l u:ByteArray)(n:Int)(xa xb:Rat)(k:Int)  (w:World)(hk:decide (k<0)=true)(h1:KIb 35 (.agg #[.string l,.string u]) xa xb true)(h2:KP1 23 xa (.int .i64 k))  :
 CR 11 #[.agg #[.string l,.string u],.int .i64 n] w (.tuple #[.agg #[.string ⟨#[]⟩,.string ⟨#[]⟩],.int .i64 2]):=by
 have C1:=hid h1;have C2:=hid h2;have hkk:=hk;clear hk h1 h2;go_enter func11,ntmps11
 go_upto_region 1 with fail
 refine az w [(#[.string l,.string u],24),(#[.string ⟨#[]⟩,.string ⟨#[]⟩],24)] rfl ?_;rintro W0 ⟨k1,k2,hb⟩;have rM:=hid (show Below w.heap.size w W0 from hb);have K1:=hid k1;have K2:=hid k2;clear k1 k2 hb;obtain ⟨l5,oV⟩:=au K1.o rfl rfl;go_wp2_with fail
 with_reducible refine(C1.o _).mono ?_
 rintro e W1 ⟨wo,wu,rfl,r9,gy,hb⟩;clear l5 oV;obtain ⟨K1,K2⟩:=aH hb K1 K2;have rq:=hbt rM hb;have RXa:=hid r9;have RXb:=hid gy;clear hb r9 gy;go_upto_region 2 with fail
 refine az W1 [(#[.bool wo.b,.slice wo.a wo.n wo.c,.slice wo.e wo.m wo.d,.bool wu.b,.slice wu.a wu.n wu.c,.slice wu.e wu.m wu.d],64)] rfl ?_;have L1:=K1.o.lt;have L2:=K2.o.lt;have L3:=rq.o.size;rintro W2 ⟨k3,hb⟩;have hb:Below W1.heap.size W1 W2:=hb;obtain ⟨K2,RXa⟩:=aH hb K2 RXa;have mi:=hbt rq hb;have K3:=hid k3;clear k3 hb;obtain ⟨cu,fo,af⟩:=aP K3.o rfl rfl rfl;go_wp2_with fail
 with_reducible refine(C2.o _ _ RXa.o).mono ?_
 rintro e W3 ⟨rfl,hb⟩;clear cu fo af;have K2:=hid (K2.o.below hb);have lg:=hbt mi hb;clear hb;obtain ⟨ol,oM⟩:=au K2.o rfl rfl;obtain ⟨bS,bV⟩:=bJ K2.o;go_wp2;exact bodyPost_ret (v:=.tuple #[.agg #[.string ⟨#[]⟩,.string ⟨#[]⟩],.int .i64 2]) (by simp[results,results11,go_sem,ol,oM]) rfl ⟨rfl,(ay (l:=[.string ⟨#[]⟩,.string ⟨#[]⟩]) (i:=0) (by omega) lg.o)⟩
theorem xX (l u:ByteArray)(n:Int)(xa xb:Rat)(k:Int)  (w:World)(hk:decide (k<0)=false)(h1:KIb 35 (.agg #[.string l,.string u]) xa xb true)(h2:KP1 23 xa (.int .i64 k))(h3:KPs 36 (.int .i64 n) (.bool false))  :
 CR 11 #[.agg #[.string l,.string u],.int .i64 n] w (.tuple #[.agg #[.string ⟨#[]⟩,.string ⟨#[]⟩],.int .i64 2]):=by
 obtain ⟨C1,C2,C3⟩:=ak h1 h2 h3;have hkk:=hk;clear hk h1 h2 h3;go_enter func11,ntmps11
 go_upto_region 1 with fail
 refine az w [(#[.string l,.string u],24),(#[.string ⟨#[]⟩,.string ⟨#[]⟩],24)] rfl ?_;rintro W0 ⟨k1,k2,hb⟩;have rM:=hid (show Below w.heap.size w W0 from hb);have K1:=hid k1;have K2:=hid k2;clear k1 k2 hb;obtain ⟨l5,oV⟩:=au K1.o rfl rfl;go_wp2_with fail
 with_reducible refine(C1.o _).mono ?_
 rintro e W1 ⟨wo,wu,rfl,r9,gy,hb⟩;clear l5 oV;obtain ⟨K1,K2⟩:=aH hb K1 K2;have rq:=hbt rM hb;have RXa:=hid r9;have RXb:=hid gy;clear hb r9 gy;go_upto_region 2 with fail
 refine az W1 [(#[.bool wo.b,.slice wo.a wo.n wo.c,.slice wo.e wo.m wo.d,.bool wu.b,.slice wu.a wu.n wu.c,.slice wu.e wu.m wu.d],64)] rfl ?_;have L1:=K1.o.lt;have L2:=K2.o.lt;have L3:=rq.o.size;rintro W2 ⟨k3,hb⟩;have hb:Below W1.heap.size W1 W2:=hb;obtain ⟨K2,RXa⟩:=aH hb K2 RXa;have mi:=hbt rq hb;have K3:=hid k3;clear k3 hb;obtain ⟨cu,fo,af⟩:=aP K3.o rfl rfl rfl;go_wp2_with fail
 with_reducible refine(C2.o _ _ RXa.o).mono ?_
 rintro e W3 ⟨rfl,hb⟩;clear cu fo af;have K2:=hid (K2.o.below hb);have lg:=hbt mi hb;clear hb;go_wp2_with fail
 with_reducible refine(C3.o _).mono ?_
 rintro e W4 ⟨rfl,hb⟩;have K2:=hid (K2.o.below hb);have fq:=hbt lg hb;clear hb;obtain ⟨ol,oM⟩:=au K2.o rfl rfl;obtain ⟨bS,bV⟩:=bJ K2.o;go_wp2;exact bodyPost_ret (v:=.tuple #[.agg #[.string ⟨#[]⟩,.string ⟨#[]⟩],.int .i64 2]) (by simp[results,results11,go_sem,ol,oM]) rfl ⟨rfl,(ay (l:=[.string ⟨#[]⟩,.string ⟨#[]⟩]) (i:=0) (by omega) fq.o)⟩
theorem z5R (l u:ByteArray)(n:Int)(xa xb:Rat)(k:Int)(la ka lb kb:Rat)(s t:ByteArray)  (w:World)(hk:decide (k<0)=false)(h1:KIb 35 (.agg #[.string l,.string u]) xa xb true)(h2:KP1 23 xa (.int .i64 k))(h3:KPs 36 (.int .i64 n) (.bool true))(h4:KEn 38 xa (.int .i64 n) la ka)(h5:KEn 38 xb (.int .i64 n) lb kb)(h6:KI2 37 la kb (.agg #[.string s,.string t]))  :
 CR 11 #[.agg #[.string l,.string u],.int .i64 n] w (.tuple #[.agg #[.string s,.string t],.int .i64 0]):=by
 obtain ⟨C1,C2,C3,C4,C5,C6⟩:=cz h1 h2 h3 h4 h5 h6;have hkk:=hk;clear hk h1 h2 h3 h4 h5 h6;go_enter func11,ntmps11
 go_upto_region 1 with fail
 refine az w [(#[.string l,.string u],24),(#[.string ⟨#[]⟩,.string ⟨#[]⟩],24)] rfl ?_;rintro W0 ⟨k1,k2,hb⟩;have rM:=hid (show Below w.heap.size w W0 from hb);have K1:=hid k1;have K2:=hid k2;clear k1 k2 hb;obtain ⟨l5,oV⟩:=au K1.o rfl rfl;go_wp2_with fail
 with_reducible refine(C1.o _).mono ?_
 rintro e W1 ⟨wo,wu,rfl,r9,gy,hb⟩;clear l5 oV;obtain ⟨K1,K2⟩:=aH hb K1 K2;have rq:=hbt rM hb;have RXa:=hid r9;have RXb:=hid gy;clear hb r9 gy;go_upto_region 2 with fail
 refine az W1 [(#[.bool wo.b,.slice wo.a wo.n wo.c,.slice wo.e wo.m wo.d,.bool wu.b,.slice wu.a wu.n wu.c,.slice wu.e wu.m wu.d],64)] rfl ?_;have L1:=K1.o.lt;have L2:=K2.o.lt;have L3:=rq.o.size;rintro W2 ⟨k3,hb⟩;have hb:Below W1.heap.size W1 W2:=hb;obtain ⟨K2,RXa,RXb⟩:=bG hb K2 RXa RXb;have mi:=hbt rq hb;have K3:=hid k3;clear k3 hb;obtain ⟨cu,fo,af⟩:=aP K3.o rfl rfl rfl;go_wp2_with fail
 with_reducible refine(C2.o _ _ RXa.o).mono ?_
 rintro e W3 ⟨rfl,hb⟩;clear cu fo af;obtain ⟨K2,K3,RXa,RXb⟩:=aW hb K2 K3 RXa RXb;have lg:=hbt mi hb;clear hb;go_wp2_with fail
 with_reducible refine(C3.o _).mono ?_
 rintro e W4 ⟨rfl,hb⟩;obtain ⟨K2,K3,RXa,RXb⟩:=aW hb K2 K3 RXa RXb;have fq:=hbt lg hb;clear hb;go_wp2_with fail
 refine aF (fun a0 a' V=>∃ (fQ:QS) (d9:QS) (bv:QS) (dn:QS) (ed:QS) (bM:QS) (u00:QS) (u01:QS),a'=⟨putL [(26,.pointer (some ⟨W1.heap.size,0,none⟩)),(27,wo.v),(28,.int .i64 n),(29,Qii fQ d9),(30,bv.v),(31,.pointer (some ⟨W1.heap.size,3,none⟩)),(32,wu.v),(33,.int .i64 n),(34,Qii dn ed),(35,bM.v),(36,Qii u00 u01),(37,.agg #[.string s,.string t]),(5,.int .i64 0)] a0.tmps,a0.defers⟩∧Below w.heap.size w V∧SBk V (w.heap.size+1) #[.string s,.string t] 24) ?_ ?_
 · refine aU 12 2 [26,27,28,29,30,31,32,33,34,35,36,37] [Rel.val (.pointer (some ⟨W1.heap.size,0,none⟩)),Rel.val (wo.v),Rel.val (.int .i64 n),Rel.qi la ka,Rel.q la,Rel.val (.pointer (some ⟨W1.heap.size,3,none⟩)),Rel.val (wu.v),Rel.val (.int .i64 n),Rel.qi lb kb,Rel.q kb,Rel.qi la kb,Rel.val (.agg #[.string s,.string t])] ?_ ?_
   · intro kS a W i HI hD Hr him
     obtain⟨y6,y1⟩:=HI.o.s2 6 1;obtain ⟨cu,fo,af,u0V,u0W,u0X⟩:=nK (K3.o.below HI.o.world) rfl rfl rfl rfl rfl rfl;obtain⟨X0,X1,X2,X5,X6,X7⟩:=HI.o.g6 0 26 1 27 2 28 5 31 6 32 7 33
     match i,him,Hr with
     | 0,_,Hi|1,_,Hi|2,_,Hi|5,_,Hi|6,_,Hi|7,_,Hi =>
       try have x0:=X0.t Hi.o
       try have x5:=X5.t Hi.o
       refine aA rfl fun K' hK=>?_;go_simp;exact hK.o _ _ (HI.o.pw Hi.o)
     | 3,_,Hi =>
       have x1:=X1.q Hi.o;have x2:=X2.q Hi.o;refine aA rfl fun K' hK=>?_;go_simp;with_reducible refine(C4.o _ _ (RXa.o.below HI.o.world)).mono ?_
       rintro e W' ⟨fQ,d9,rfl,rn1_3a,rn1_3b,hb⟩;exact hK.o _ _ ⟨HI.o.pc Hi.o hb ⟨fQ,d9,rfl,rn1_3a,rn1_3b⟩,trivial⟩
     | 4,_,Hi =>
       obtain⟨fQ,d9,x3,u0l,u0D⟩:=qAti HI.o 3 29 Hi.o (by kernel_rfl);dsimp only[Qii]at x3;refine aA rfl fun K' hK=>?_;go_simp;exact hK.o _ _ ⟨HI.o.pv Hi.o ⟨fQ,rfl,u0l.o⟩,trivial⟩
     | 8,_,Hi =>
       have x6:=X6.q Hi.o;have x7:=X7.q Hi.o;refine aA rfl fun K' hK=>?_;go_simp;with_reducible refine(C5.o _ _ (RXb.o.below HI.o.world)).mono ?_
       rintro e W' ⟨dn,ed,rfl,rn1_8a,rn1_8b,hb⟩;exact hK.o _ _ ⟨HI.o.pc Hi.o hb ⟨dn,ed,rfl,rn1_8a,rn1_8b⟩,trivial⟩
     | 9,_,Hi =>
       obtain⟨dn,ed,x8,u0E,u0m⟩:=qAti HI.o 8 34 Hi.o (by kernel_rfl);dsimp only[Qii]at x8;refine aA rfl fun K' hK=>?_;go_simp;exact hK.o _ _ ⟨HI.o.pv Hi.o ⟨ed,rfl,u0m.o⟩,trivial⟩
     | 10,_,Hi =>
       obtain⟨bv,x4,u0n⟩:=qAt HI.o 4 30 Hi.o (by kernel_rfl);dsimp only[QS.v]at x4;obtain⟨bM,x9,u0o⟩:=qAt HI.o 9 35 Hi.o (by kernel_rfl);dsimp only[QS.v]at x9;refine aA rfl fun K' hK=>?_;go_simp;exact hK.o _ _ ⟨HI.o.pv Hi.o ⟨bv,bM,rfl,u0n.o,u0o.o⟩,trivial⟩
     | 11,_,Hi =>
       obtain⟨u00,u01,x10,u0p,u0q⟩:=qAti HI.o 10 36 Hi.o (by kernel_rfl);dsimp only[Qii]at x10;refine aA rfl fun K' hK=>?_;go_simp;with_reducible refine(C6.o _ _ _ u0p.o u0q.o).mono ?_
       rintro e W' ⟨rfl,hb⟩;exact hK.o _ _ ⟨HI.o.pc Hi.o hb rfl,trivial⟩
     | n+12,h,_=>exact absurd h (by omega)
   · intro kS a W HI hD HA
     obtain⟨fQ,d9,x3,u0l,u0D⟩:=z4W HI.o HA.o 3 29;obtain⟨bv,x4,u0n⟩:=qEnd HI.o HA.o 4 30;obtain⟨dn,ed,x8,u0E,u0m⟩:=z4W HI.o HA.o 8 34;obtain⟨bM,x9,u0o⟩:=qEnd HI.o HA.o 9 35;obtain⟨u00,u01,x10,u0p,u0q⟩:=z4W HI.o HA.o 10 36;have x11:a.tmps[37]? = some (.agg #[.string s,.string t]):=HI.o.sx HA.o 11;have rV:=hid HI.o.world;obtain ⟨kV,K2⟩:=aD (fq.o.trans (rV.o.mono fq.o.size)) (K2.o.below rV.o);have RLA:=u0l;have RHA:=u0D;have u0Y:=u0n;have RLB:=u0E;have RHB:=u0m;have u0Z:=u0o;have u10:=u0p;have u11:=u0q;obtain⟨ol,oM⟩:=z4A K2.o;obtain⟨bS,bV⟩:=frz2 K2.o;have y4:=HI.o.rst 4 rfl;have EA:=hid (show a=⟨putL [(26,.pointer (some ⟨W1.heap.size,0,none⟩)),(27,wo.v),(28,.int .i64 n),(29,Qii fQ d9),(30,bv.v),(31,.pointer (some ⟨W1.heap.size,3,none⟩)),(32,wu.v),(33,.int .i64 n),(34,Qii dn ed),(35,bM.v),(36,Qii u00 u01),(37,.agg #[.string s,.string t])] _,_⟩from(HI.o.finx ⟨HI.o.sx HA.o 0,HI.o.sx HA.o 1,HI.o.sx HA.o 2,x3,x4,HI.o.sx HA.o 5,HI.o.sx HA.o 6,HI.o.sx HA.o 7,x8,x9,x10,x11,trivial⟩ rfl));refine bz (t:=1) ?_;refine aA rfl fun K' hK=>?_;go_simp;refine hK.o _ _ ?_;clear hK;refine bz (t:=0) ?_;refine aA rfl fun K' hK=>?_;go_simp;refine hK.o _ _ ?_;clear hK;refine bi ?_;rw[← lY];exact⟨rfl,fQ,d9,bv,dn,ed,bM,u00,u01,(nG EA.o rfl),(ay (l:=[.string s,.string t]) (i:=0) (by omega) kV.o),(kH K2.o)⟩
 rintro a' W5 ⟨fQ,d9,bv,dn,ed,bM,u00,u01,rfl,z0,z1⟩;have cO:=hid z0;have K2:=hid z1;clear z0 z1;simp only[putL,List.setIfInBounds_toArray,List.set_cons_zero,List.set_cons_succ];go_wp2;obtain ⟨ol,oM⟩:=au K2.o rfl rfl;exact bodyPost_ret (v:=.tuple #[.agg #[.string s,.string t],.int .i64 0]) (by simp[results,results11,go_sem,ol,oM]) rfl ⟨rfl,cO.o⟩
