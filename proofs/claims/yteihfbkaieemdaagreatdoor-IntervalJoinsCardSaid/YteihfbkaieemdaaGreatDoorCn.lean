/- texts -/
import Derived.Test.YteihfbkaieemdaaGreatDoorMz45q
open Go.Proofs.Tryz
set_option maxRecDepth 100000
set_option maxHeartbeats 20000000
open Go.Lib (hid)
namespace Go.Proofs.YteihfbkaieemdaaGreatDoor
open Go.RowKit Go.Gb
set_option linter.unusedSimpArgs false
set_option linter.unusedVariables false
abbrev KQn (f:Nat) (x:Rat) (v:Value) (z:Rat):Prop:=∀ (q0:QS) (W:World),FQ W q0 x→Calls Tryz.prog f #[.agg #[.bool q0.b,.slice q0.a q0.n q0.c,.slice q0.e q0.m q0.d],v] W (RQ W z)
abbrev KIn (f:Nat) (xa xb:Rat) (v:Value) (x y:Rat):Prop:=∀ (qa qb:QS) (W:World),FQ W qa xa→FQ W qb xb→Calls Tryz.prog f #[.agg #[.bool qa.b,.slice qa.a qa.n qa.c,.slice qa.e qa.m qa.d,.bool qb.b,.slice qb.a qb.n qb.c,.slice qb.e qb.m qb.d],v] W (RII W x y)
theorem gOut (xa xb za pb qb zb:Rat)(n:Int)(q1a q1b:QS)(w:World)  (h1:KQn 82 xa (.int .i64 n) za)(h2:KQ1 83 xb pb)(h3:KQn 82 pb (.int .i64 n) qb)(h4:KQ1 83 qb zb)(r1a:FQ w q1a xa)(r1b:FQ w q1b xb) :
 Calls Tryz.prog 58 #[(Qii q1a q1b),.int .i64 n] w (RII w za zb):=by
 dsimp only[Qii];obtain ⟨C1,C2,C3,C4,R1a,R1b⟩:=cK h1 h2 h3 h4 r1a r1b;clear h1 h2 h3 h4 r1a r1b;go_enter func58,ntmps58
 go_upto_region 1 with fail
 refine az w [(#[.bool q1a.b,.slice q1a.a q1a.n q1a.c,.slice q1a.e q1a.m q1a.d,.bool q1b.b,.slice q1b.a q1b.n q1b.c,.slice q1b.e q1b.m q1b.d],56),(#[.bool false,.slice none 0 0,.slice none 0 0,.bool false,.slice none 0 0,.slice none 0 0],56)] rfl ?_;rintro W0 ⟨k1,k2,hb⟩;have rq:=hid (show Below w.heap.size w W0 from hb);obtain ⟨R1a,R1b⟩:=aP rq.o R1a R1b;obtain ⟨K1,K2⟩:=aB k1 k2;clear k1 k2 hb;go_wp2_with fail
 refine aN (fun a0 a' V=>∃ (ol:QS) (oV:QS) (mf:QS) (wu:QS) (u6:QS) (w9:QS),a'=⟨putL [(5,.pointer (some ⟨w.heap.size,0,none⟩)),(6,q1a.v),(7,.int .i64 n),(8,ol.v),(9,.pointer (some ⟨w.heap.size,3,none⟩)),(10,q1b.v),(11,oV.v),(12,.int .i64 n),(13,mf.v),(14,wu.v),(15,Qii u6 w9)] a0.tmps,a0.defers⟩∧Below w.heap.size w V∧SBk V (w.heap.size+1) #[.bool u6.b,.slice u6.a u6.n u6.c,.slice u6.e u6.m u6.d,.bool w9.b,.slice w9.a w9.n w9.c,.slice w9.e w9.m w9.d] 56∧FQ V u6 za∧FQ V w9 zb) ?_ ?_
 · refine bE 11 1 [5,6,7,8,9,10,11,12,13,14,15] [Rel.val (.pointer (some ⟨w.heap.size,0,none⟩)),Rel.val (q1a.v),Rel.val (.int .i64 n),Rel.q za,Rel.val (.pointer (some ⟨w.heap.size,3,none⟩)),Rel.val (q1b.v),Rel.q pb,Rel.val (.int .i64 n),Rel.q qb,Rel.q zb,Rel.qi za zb] ?_ ?_
   · intro eX a W i HI hD Hr him
     obtain⟨y2,y1⟩:=HI.o.s2 2 1;obtain ⟨p8,p9,u0b,u0c,u0d,u0e⟩:=bG (K1.o.below HI.o.world) rfl rfl rfl rfl rfl rfl;obtain⟨X0,X1,X2,X4,X5,X7⟩:=HI.o.g6 0 5 1 6 2 7 4 9 5 10 7 12
     match i,him,Hr with
     | 0,_,Hi|1,_,Hi|2,_,Hi|4,_,Hi|5,_,Hi|7,_,Hi =>
       try have x0:=X0.t Hi.o
       try have x4:=X4.t Hi.o
       refine aM rfl fun K' hK=>?_;go_simp;exact hK.o _ _ (HI.o.pw Hi.o)
     | 3,_,Hi =>
       have x1:=X1.q Hi.o;have x2:=X2.q Hi.o;refine aM rfl fun K' hK=>?_;go_simp;with_reducible refine(C1.o _ _ (R1a.o.below HI.o.world)).mono ?_
       rintro e W' ⟨ol,rfl,u02,hb⟩;exact hK.o _ _ ⟨HI.o.pc Hi.o hb ⟨ol,rfl,u02⟩,trivial⟩
     | 6,_,Hi =>
       have x5:=X5.q Hi.o;refine aM rfl fun K' hK=>?_;go_simp;with_reducible refine(C2.o _ _ (R1b.o.below HI.o.world)).mono ?_
       rintro e W' ⟨oV,rfl,u03,hb⟩;exact hK.o _ _ ⟨HI.o.pc Hi.o hb ⟨oV,rfl,u03⟩,trivial⟩
     | 8,_,Hi =>
       obtain⟨oV,x6,d9⟩:=qAt HI.o 6 11 Hi.o (by kernel_rfl);have x7:=X7.q Hi.o;refine aM rfl fun K' hK=>?_;go_simp;with_reducible refine(C3.o _ _ d9.o).mono ?_
       rintro e W' ⟨mf,rfl,u04,hb⟩;exact hK.o _ _ ⟨HI.o.pc Hi.o hb ⟨mf,rfl,u04⟩,trivial⟩
     | 9,_,Hi =>
       obtain⟨mf,x8,dn⟩:=qAt HI.o 8 13 Hi.o (by kernel_rfl);refine aM rfl fun K' hK=>?_;go_simp;with_reducible refine(C4.o _ _ dn.o).mono ?_
       rintro e W' ⟨wu,rfl,dx,hb⟩;exact hK.o _ _ ⟨HI.o.pc Hi.o hb ⟨wu,rfl,dx⟩,trivial⟩
     | 10,_,Hi =>
       obtain⟨ol,x3,dz⟩:=qAt HI.o 3 8 Hi.o (by kernel_rfl);dsimp only[QS.v]at x3;obtain⟨wu,x9,mi⟩:=qAt HI.o 9 14 Hi.o (by kernel_rfl);dsimp only[QS.v]at x9;refine aM rfl fun K' hK=>?_;go_simp;exact hK.o _ _ ⟨HI.o.pv Hi.o ⟨ol,wu,rfl,dz.o,mi.o⟩,trivial⟩
     | n+11,h,_=>exact absurd h (by omega)
   · intro eX a W HI hD HA
     obtain⟨ol,x3,dz⟩:=qEnd HI.o HA.o 3 8;obtain⟨oV,x6,d9⟩:=qEnd HI.o HA.o 6 11;obtain⟨mf,x8,dn⟩:=qEnd HI.o HA.o 8 13;obtain⟨wu,x9,mi⟩:=qEnd HI.o HA.o 9 14;obtain⟨u6,w9,x10,dX,dY⟩:=z3T HI.o HA.o 10 15;have lm:=hid HI.o.world;obtain ⟨cu,K2⟩:=aB (rq.o.trans (lm.o.mono rq.o.size)) (K2.o.below lm.o);have RA:=dz;have RPB:=d9;have RQB:=dn;have RB:=mi;have pq:=dX;have pu:=dY;obtain ⟨ru,rM,bu,bv,bM,bV⟩:=bG K2.o rfl rfl rfl rfl rfl rfl;obtain ⟨cO,bg,u0f,u0g,u0h,u0i⟩:=dZ K2.o;have y4:=HI.o.rst 4 rfl;dsimp only[Qii]at x10;refine aY (t:=0) ?_;refine aM rfl fun K' hK=>?_;go_simp;refine hK.o _ _ ?_;clear hK;refine bQ ?_;rw[← iC];have s0:∀ {q':QS} {x':Rat},FQ W q' x'→FQ (storeAll W (w.heap.size+1) 0 [.bool u6.b,.slice u6.a u6.n u6.c,.slice u6.e u6.m u6.d,.bool w9.b,.slice w9.a w9.n w9.c,.slice w9.e w9.m w9.d]) q' x':=fun h'=>di _ 0 h' K2.o (by simp[bL]) (by simp[bA]);exact⟨rfl,ol,oV,mf,wu,u6,w9,(HI.o.finx ⟨HI.o.sx HA.o 0,HI.o.sx HA.o 1,HI.o.sx HA.o 2,x3,HI.o.sx HA.o 4,HI.o.sx HA.o 5,x6,HI.o.sx HA.o 7,x8,x9,x10,trivial⟩ rfl),(ay (l:=[.bool u6.b,.slice u6.a u6.n u6.c,.slice u6.e u6.m u6.d,.bool w9.b,.slice w9.a w9.n w9.c,.slice w9.e w9.m w9.d]) (i:=0) (by omega) cu.o),(bY K2.o),(s0 pq.o),(s0 pu.o)⟩
 rintro a' W1 ⟨ol,oV,mf,wu,u6,w9,rfl,z0,z1,z2,z3⟩;obtain ⟨sj,K2,pq,pu⟩:=aL z0 z1 z2 z3;clear z0 z1 z2 z3;simp only[putL,List.setIfInBounds_toArray,List.set_cons_zero,List.set_cons_succ];go_wp2;obtain ⟨ru,rM,bu,bv,bM,bV⟩:=bG K2.o rfl rfl rfl rfl rfl rfl;exact bodyPost_ret (v:=.agg #[.bool u6.b,.slice u6.a u6.n u6.c,.slice u6.e u6.m u6.d,.bool w9.b,.slice w9.a w9.n w9.c,.slice w9.e w9.m w9.d]) (by simp[results,results58,go_sem,ru,rM,bu,bv,bM,bV]) rfl ⟨_,_,rfl,pq.o,pu.o,sj.o⟩
theorem z0w (l u m n:ByteArray)(xa xb ya yb:Rat)  (w:World)  (h1:KIB 33 (.agg #[.string l,.string u]) (.agg #[.string m,.string n]) xa xb ya yb (1))  :
 CR 18 #[.agg #[.string l,.string u],.agg #[.string m,.string n]] w (.tuple #[.agg #[.string ⟨#[]⟩,.string ⟨#[]⟩],.bool false]):=by
 have C1:=hid h1;clear h1;go_enter func18,ntmps18
 go_upto_region 1 with fail
 refine az w [(#[.string l,.string u],24),(#[.string m,.string n],24),(#[.string ⟨#[]⟩,.string ⟨#[]⟩],24)] rfl ?_;rintro W0 ⟨k1,k2,k3,hb⟩;have rq:=hid (show Below w.heap.size w W0 from hb);obtain ⟨K1,K2,K3⟩:=ak k1 k2 k3;clear k1 k2 k3 hb;obtain ⟨p8,p9⟩:=av K1.o rfl rfl;obtain ⟨ru,rM⟩:=av K2.o rfl rfl;go_wp2_with fail
 with_reducible refine(C1.o _).mono ?_
 rintro e W1 ⟨wm,wo,ww,si,rfl,sw,r9,lv,kz,hb⟩;clear p8 p9 ru rM;obtain ⟨K1,K2,K3⟩:=bR hb K1 K2 K3;have sj:=hbt rq hb;obtain ⟨RXa,RXb,RYa,RYb⟩:=aL sw r9 lv kz;clear hb sw r9 lv kz;go_upto_region 2 with fail
 refine az W1 [(#[.bool wm.b,.slice wm.a wm.n wm.c,.slice wm.e wm.m wm.d,.bool wo.b,.slice wo.a wo.n wo.c,.slice wo.e wo.m wo.d],56),(#[.bool ww.b,.slice ww.a ww.n ww.c,.slice ww.e ww.m ww.d,.bool si.b,.slice si.a si.n si.c,.slice si.e si.m si.d],56)] rfl ?_;have L1:=K1.o.lt;have L2:=K2.o.lt;have L3:=K3.o.lt;have L4:=sj.o.size;rintro W2 ⟨k4,k5,hb⟩;have hb:Below W1.heap.size W1 W2:=hb;have K3:=hid (K3.o.below hb);have rV:=hbt sj hb;have K4:=hid k4;have K5:=hid k5;clear k4 k5 hb;obtain ⟨l5,lg⟩:=av K3.o rfl rfl;obtain ⟨af,au⟩:=bF K3.o;go_wp2;exact bodyPost_ret (v:=.tuple #[.agg #[.string ⟨#[]⟩,.string ⟨#[]⟩],.bool false]) (by simp[results,results18,go_sem,l5,lg]) rfl ⟨rfl,(ay (l:=[.string ⟨#[]⟩,.string ⟨#[]⟩]) (i:=0) (by omega) rV.o)⟩
theorem tY (l u m n:ByteArray)(xa xb ya yb:Rat)(za zb:Rat)(k:Int)(s t:ByteArray)(bk:Bool)  (w:World)(hk:decide (0<k)=bk)(h1:KIB 33 (.agg #[.string l,.string u]) (.agg #[.string m,.string n]) xa xb ya yb (0))(h2:KQ2 52 xa ya za)(h3:KQ2 53 xb yb zb)(h4:KP2 54 za zb (.int .i64 k))(h5:KI2 34 za zb (.agg #[.string s,.string t]))  :
 CR 18 #[.agg #[.string l,.string u],.agg #[.string m,.string n]] w (cond bk (.tuple #[.agg #[.string ⟨#[]⟩,.string ⟨#[]⟩],.bool false]) (.tuple #[.agg #[.string s,.string t],.bool true])):=by
 obtain ⟨C1,C2,C3,C4,C5⟩:=bI h1 h2 h3 h4 h5;have hkk:=hk;clear hk h1 h2 h3 h4 h5;go_enter func18,ntmps18
 go_upto_region 1 with fail
 refine az w [(#[.string l,.string u],24),(#[.string m,.string n],24),(#[.string ⟨#[]⟩,.string ⟨#[]⟩],24)] rfl ?_;rintro W0 ⟨k1,k2,k3,hb⟩;have rq:=hid (show Below w.heap.size w W0 from hb);obtain ⟨K1,K2,K3⟩:=ak k1 k2 k3;clear k1 k2 k3 hb;obtain ⟨p8,p9⟩:=av K1.o rfl rfl;obtain ⟨ru,rM⟩:=av K2.o rfl rfl;go_wp2_with fail
 with_reducible refine(C1.o _).mono ?_
 rintro e W1 ⟨wm,wo,ww,si,rfl,sw,r9,lv,kz,hb⟩;clear p8 p9 ru rM;obtain ⟨K1,K2,K3⟩:=bR hb K1 K2 K3;have sj:=hbt rq hb;obtain ⟨RXa,RXb,RYa,RYb⟩:=aL sw r9 lv kz;clear hb sw r9 lv kz;go_upto_region 2 with fail
 refine az W1 [(#[.bool wm.b,.slice wm.a wm.n wm.c,.slice wm.e wm.m wm.d,.bool wo.b,.slice wo.a wo.n wo.c,.slice wo.e wo.m wo.d],56),(#[.bool ww.b,.slice ww.a ww.n ww.c,.slice ww.e ww.m ww.d,.bool si.b,.slice si.a si.n si.c,.slice si.e si.m si.d],56)] rfl ?_;have L1:=K1.o.lt;have L2:=K2.o.lt;have L3:=K3.o.lt;have L4:=sj.o.size;rintro W2 ⟨k4,k5,hb⟩;have hb:Below W1.heap.size W1 W2:=hb;obtain ⟨K1,K2,K3,RXa,RXb,RYa,RYb⟩:=fA hb K1 K2 K3 RXa RXb RYa RYb;have rV:=hbt sj hb;have K4:=hid k4;have K5:=hid k5;clear k4 k5 hb;go_wp2_with fail
 have L5:=K1.o.lt;have L6:=K2.o.lt;have L7:=K3.o.lt;have L8:=K4.o.lt;have L9:=K5.o.lt;have L10:=rV.o.size;refine aN (fun a0 a' V=>∃ (oM:QS) (wu:QS) (u6:QS) (w9:QS) (gn1:Nat),a'=⟨putL [(20,.pointer (some ⟨W1.heap.size,0,none⟩)),(21,wm.v),(22,.pointer (some ⟨W1.heap.size+1,0,none⟩)),(23,ww.v),(24,oM.v),(25,.pointer (some ⟨W1.heap.size,3,none⟩)),(26,wo.v),(27,.pointer (some ⟨W1.heap.size+1,3,none⟩)),(28,si.v),(29,wu.v),(30,Qii u6 w9),(9,.pointer (some ⟨gn1,0,none⟩))] a0.tmps,a0.defers⟩∧Below w.heap.size w V∧SBk V (w.heap.size+1+1) #[.string ⟨#[]⟩,.string ⟨#[]⟩] 24∧SBk V (gn1) #[.bool u6.b,.slice u6.a u6.n u6.c,.slice u6.e u6.m u6.d,.bool w9.b,.slice w9.a w9.n w9.c,.slice w9.e w9.m w9.d] 56∧FQ V u6 za∧FQ V w9 zb∧W2.heap.size≤gn1) ?_ ?_
 · refine bE 12 1 [20,21,22,23,24,25,26,27,28,29,30,9] [Rel.val (.pointer (some ⟨W1.heap.size,0,none⟩)),Rel.val (wm.v),Rel.val (.pointer (some ⟨W1.heap.size+1,0,none⟩)),Rel.val (ww.v),Rel.q za,Rel.val (.pointer (some ⟨W1.heap.size,3,none⟩)),Rel.val (wo.v),Rel.val (.pointer (some ⟨W1.heap.size+1,3,none⟩)),Rel.val (si.v),Rel.q zb,Rel.qi za zb,Rel.ptr W2.heap.size (.cells #[.bool false,.slice none 0 0,.slice none 0 0,.bool false,.slice none 0 0,.slice none 0 0] 56)] ?_ ?_
   · intro eX a W i HI hD Hr him
     obtain⟨y6,y7⟩:=HI.o.s2 6 7;obtain ⟨u0j,u0k,u0l,u0m,u0n,u0o⟩:=bG (K4.o.below HI.o.world) rfl rfl rfl rfl rfl rfl;obtain ⟨u0p,u0q,u0r,u0s,u0t,u0u⟩:=bG (K5.o.below HI.o.world) rfl rfl rfl rfl rfl rfl;obtain⟨X0,X2,X1,X3,X5,X7⟩:=HI.o.g6 0 20 2 22 1 21 3 23 5 25 7 27;obtain⟨X6,X8⟩:=HI.o.g2 6 26 8 28
     match i,him,Hr with
     | 0,_,Hi|1,_,Hi|2,_,Hi|3,_,Hi|5,_,Hi|6,_,Hi|7,_,Hi|8,_,Hi =>
       try have x0:=X0.t Hi.o
       try have x2:=X2.t Hi.o
       try have x5:=X5.t Hi.o
       try have x7:=X7.t Hi.o
       refine aM rfl fun K' hK=>?_;go_simp;exact hK.o _ _ (HI.o.pw Hi.o)
     | 4,_,Hi =>
       have x1:=X1.q Hi.o;have x3:=X3.q Hi.o;refine aM rfl fun K' hK=>?_;go_simp;with_reducible refine(C2.o _ _ _ (RXa.o.below HI.o.world) (RYa.o.below HI.o.world)).mono ?_
       rintro e W' ⟨oM,rfl,u05,hb⟩;exact hK.o _ _ ⟨HI.o.pc Hi.o hb ⟨oM,rfl,u05⟩,trivial⟩
     | 9,_,Hi =>
       have x6:=X6.q Hi.o;have x8:=X8.q Hi.o;refine aM rfl fun K' hK=>?_;go_simp;with_reducible refine(C3.o _ _ _ (RXb.o.below HI.o.world) (RYb.o.below HI.o.world)).mono ?_
       rintro e W' ⟨wu,rfl,dx,hb⟩;exact hK.o _ _ ⟨HI.o.pc Hi.o hb ⟨wu,rfl,dx⟩,trivial⟩
     | 10,_,Hi =>
       obtain⟨oM,x4,bn⟩:=qAt HI.o 4 24 Hi.o (by kernel_rfl);dsimp only[QS.v]at x4;obtain⟨wu,x9,mi⟩:=qAt HI.o 9 29 Hi.o (by kernel_rfl);dsimp only[QS.v]at x9;refine aM rfl fun K' hK=>?_;go_simp;exact hK.o _ _ ⟨HI.o.pv Hi.o ⟨oM,wu,rfl,bn.o,mi.o⟩,trivial⟩
     | 11,_,Hi =>
       refine aM rfl fun K' hK=>?_;go_simp;exact hK.o _ _ ⟨HI.o.pc Hi.o ((Below.refl W.heap.size W).alloc (Nat.le_refl _) (.cells #[.bool false,.slice none 0 0,.slice none 0 0,.bool false,.slice none 0 0,.slice none 0 0] 56)) ⟨W.heap.size,rfl,HI.o.world.size,SBk.new _ _ _⟩,trivial⟩
     | n+12,h,_=>exact absurd h (by omega)
   · intro eX a W HI hD HA
     obtain⟨oM,x4,bn⟩:=qEnd HI.o HA.o 4 24;obtain⟨wu,x9,mi⟩:=qEnd HI.o HA.o 9 29;obtain⟨u6,w9,x10,dX,dY⟩:=z3T HI.o HA.o 10 30;obtain⟨v',x11,gn1,e,hge,hsb⟩:=HI.o.slots 11 (by decide) (HA.o 11 (by decide));obtain rfl:=e;have x11:a.tmps[9]? = some (.pointer (some ⟨gn1,0,none⟩)):=x11;obtain ⟨RRG,hsb⟩:=aB hge hsb;clear hge;have lm:=hid HI.o.world;have K3:=hid (K3.o.below lm.o);have K6:Hid (SBk W gn1 #[.bool false,.slice none 0 0,.slice none 0 0,.bool false,.slice none 0 0,.slice none 0 0] 56):=hsb;have cu:=hid (rV.o.trans (lm.o.mono rV.o.size));have RA:=bn;have RB:=mi;have pq:=dX;have pu:=dY;obtain ⟨kM,kV,gy,gF,fq,fQ⟩:=bG K6.o rfl rfl rfl rfl rfl rfl;obtain ⟨u0v,u0w,u0x,u0y,u0z,u0A⟩:=dZ K6.o;dsimp only[Qii]at x10;refine aY (t:=0) ?_;refine aM rfl fun K' hK=>?_;go_simp;refine hK.o _ _ ?_;clear hK;refine bQ ?_;rw[← iC];have s0:∀ {q':QS} {x':Rat},FQ W q' x'→FQ (storeAll W (gn1) 0 [.bool u6.b,.slice u6.a u6.n u6.c,.slice u6.e u6.m u6.d,.bool w9.b,.slice w9.a w9.n w9.c,.slice w9.e w9.m w9.d]) q' x':=fun h'=>di _ 0 h' K6.o (by simp[bL]) (by simp[bA]);have o0:∀ {g':Nat} {cs':Array Value} {T':TypeId},g'≠gn1→SBk W g' cs' T'→SBk (storeAll W (gn1) 0 [.bool u6.b,.slice u6.a u6.n u6.c,.slice u6.e u6.m u6.d,.bool w9.b,.slice w9.a w9.n w9.c,.slice w9.e w9.m w9.d]) g' cs' T':=fun hg' h'=>aZ hg' _ 0 h';exact⟨rfl,oM,wu,u6,w9,gn1,(HI.o.finx ⟨HI.o.sx HA.o 0,HI.o.sx HA.o 1,HI.o.sx HA.o 2,HI.o.sx HA.o 3,x4,HI.o.sx HA.o 5,HI.o.sx HA.o 6,HI.o.sx HA.o 7,HI.o.sx HA.o 8,x9,x10,x11,trivial⟩ rfl),(ay (l:=[.bool u6.b,.slice u6.a u6.n u6.c,.slice u6.e u6.m u6.d,.bool w9.b,.slice w9.a w9.n w9.c,.slice w9.e w9.m w9.d]) (i:=0) (by have:=RRG.o;omega) cu.o),(o0 (by have:=RRG.o;omega) K3.o),(bY K6.o),(s0 pq.o),(s0 pu.o),RRG.o⟩
 rintro a' W3 ⟨oM,wu,u6,w9,gn1,rfl,z0,z1,z2,z3,z4,z5⟩;obtain ⟨bq,K3,K6,pq,pu,RRW3⟩:=cK z0 z1 z2 z3 z4 z5;clear z0 z1 z2 z3 z4 z5;simp only[putL,List.setIfInBounds_toArray,List.set_cons_zero,List.set_cons_succ];obtain ⟨kM,kV,gy,gF,fq,fQ⟩:=bG K6.o rfl rfl rfl rfl rfl rfl;go_wp2_with fail
 with_reducible refine(C4.o _ _ _ pq.o pu.o).mono ?_
 rintro e W4 ⟨rfl,hb⟩;clear kM kV gy gF fq fQ;obtain ⟨K3,K6⟩:=aP hb K3 K6;obtain ⟨pq,pu⟩:=aB (pq.o.below hb) (pu.o.below hb);have ed:=hbt bq hb;clear hb
 cases bk with
 | true =>
   obtain ⟨l5,lg⟩:=av K3.o rfl rfl;obtain ⟨af,au⟩:=bF K3.o;go_wp2;exact bodyPost_ret (v:=.tuple #[.agg #[.string ⟨#[]⟩,.string ⟨#[]⟩],.bool false]) (by simp[results,results18,go_sem,l5,lg]) rfl ⟨rfl,(ay (l:=[.string ⟨#[]⟩,.string ⟨#[]⟩]) (i:=0) (by have:=RRW3.o;omega) ed.o)⟩
 | false =>
   obtain ⟨kM,kV,gy,gF,fq,fQ⟩:=bG K6.o rfl rfl rfl rfl rfl rfl;go_wp2_with fail
   with_reducible refine(C5.o _ _ _ pq.o pu.o).mono ?_
   rintro e W5 ⟨rfl,hb⟩;clear kM kV gy gF fq fQ;have K3:=hid (K3.o.below hb);have HB5:=hbt ed hb;clear hb;obtain ⟨l5,lg⟩:=av K3.o rfl rfl;obtain ⟨af,au⟩:=bF K3.o;go_wp2;exact bodyPost_ret (v:=.tuple #[.agg #[.string s,.string t],.bool true]) (by simp[results,results18,go_sem,l5,lg]) rfl ⟨rfl,(ay (l:=[.string s,.string t]) (i:=0) (by have:=RRW3.o;omega) HB5.o)⟩
theorem z2v (l u:ByteArray)(n:Int)(xa xb:Rat)  (w:World)  (h1:KIb 46 (.agg #[.string l,.string u]) xa xb false)  :
 CR 23 #[.agg #[.string l,.string u],.int .i64 n] w (.tuple #[.agg #[.string ⟨#[]⟩,.string ⟨#[]⟩],.int .i64 1]):=by
 have C1:=hid h1;clear h1;go_enter func23,ntmps23
 go_upto_region 1 with fail
 refine az w [(#[.string l,.string u],24),(#[.string ⟨#[]⟩,.string ⟨#[]⟩],24)] rfl ?_;rintro W0 ⟨k1,k2,hb⟩;have rq:=hid (show Below w.heap.size w W0 from hb);have K1:=hid k1;have K2:=hid k2;clear k1 k2 hb;obtain ⟨p8,p9⟩:=av K1.o rfl rfl;go_wp2_with fail
 with_reducible refine(C1.o _).mono ?_
 rintro e W1 ⟨wm,wo,rfl,sw,r9,hb⟩;clear p8 p9;obtain ⟨K1,K2⟩:=aP hb K1 K2;have sj:=hbt rq hb;have RXa:=hid sw;have RXb:=hid r9;clear hb sw r9;go_upto_region 2 with fail
 refine az W1 [(#[.bool wm.b,.slice wm.a wm.n wm.c,.slice wm.e wm.m wm.d,.bool wo.b,.slice wo.a wo.n wo.c,.slice wo.e wo.m wo.d],56)] rfl ?_;have L1:=K1.o.lt;have L2:=K2.o.lt;have L3:=sj.o.size;rintro W2 ⟨k3,hb⟩;have hb:Below W1.heap.size W1 W2:=hb;have K2:=hid (K2.o.below hb);have rV:=hbt sj hb;have K3:=hid k3;clear k3 hb;obtain ⟨ru,rM⟩:=av K2.o rfl rfl;obtain ⟨cO,bg⟩:=bF K2.o;go_wp2;exact bodyPost_ret (v:=.tuple #[.agg #[.string ⟨#[]⟩,.string ⟨#[]⟩],.int .i64 1]) (by simp[results,results23,go_sem,ru,rM]) rfl ⟨rfl,(ay (l:=[.string ⟨#[]⟩,.string ⟨#[]⟩]) (i:=0) (by omega) rV.o)⟩
theorem z2u (l u:ByteArray)(n:Int)(xa xb:Rat)  (w:World)(h9:n<1∨1000000000<n)(h1:KIb 46 (.agg #[.string l,.string u]) xa xb true)  :
 CR 23 #[.agg #[.string l,.string u],.int .i64 n] w (.tuple #[.agg #[.string ⟨#[]⟩,.string ⟨#[]⟩],.int .i64 2]):=by
 rcases h9 with h9|h9<;>(
  have C1:=hid h1;try have e1:decide (n<1)=true:=decide_eq_true (by omega)
  try have e1:decide (n<1)=false:=decide_eq_false (by omega)
  try have e2:n<1:=by omega
  try have e2:¬ n<1:=by omega
  try have e3:decide (1000000000<n)=true:=decide_eq_true (by omega)
  try have e4:1000000000<n:=by omega
  clear h9 h1;go_enter func23,ntmps23
  go_upto_region 1 with fail
  refine az w [(#[.string l,.string u],24),(#[.string ⟨#[]⟩,.string ⟨#[]⟩],24)] rfl ?_;rintro W0 ⟨k1,k2,hb⟩;have rq:=hid (show Below w.heap.size w W0 from hb);have K1:=hid k1;have K2:=hid k2;clear k1 k2 hb;obtain ⟨p8,p9⟩:=av K1.o rfl rfl;go_wp2_with fail
  with_reducible refine(C1.o _).mono ?_
  rintro e W1 ⟨wm,wo,rfl,sw,r9,hb⟩;clear p8 p9;obtain ⟨K1,K2⟩:=aP hb K1 K2;have sj:=hbt rq hb;have RXa:=hid sw;have RXb:=hid r9;clear hb sw r9;go_upto_region 2 with fail
  refine az W1 [(#[.bool wm.b,.slice wm.a wm.n wm.c,.slice wm.e wm.m wm.d,.bool wo.b,.slice wo.a wo.n wo.c,.slice wo.e wo.m wo.d],56)] rfl ?_;have L1:=K1.o.lt;have L2:=K2.o.lt;have L3:=sj.o.size;rintro W2 ⟨k3,hb⟩;have hb:Below W1.heap.size W1 W2:=hb;have K2:=hid (K2.o.below hb);have rV:=hbt sj hb;have K3:=hid k3;clear k3 hb;obtain ⟨ru,rM⟩:=av K2.o rfl rfl;obtain ⟨cO,bg⟩:=bF K2.o;go_wp2
  exact bodyPost_ret (v:=.tuple #[.agg #[.string ⟨#[]⟩,.string ⟨#[]⟩],.int .i64 2]) (by simp[results,results23,go_sem,ru,rM]) rfl ⟨rfl,(ay (l:=[.string ⟨#[]⟩,.string ⟨#[]⟩]) (i:=0) (by omega) rV.o)⟩)
theorem z0v (l u:ByteArray)(n:Int)(xa xb:Rat)(za zb:Rat)(s t:ByteArray)  (w:World)(hn1:1≤n)(hn2:n≤1000000000)(h1:KIb 46 (.agg #[.string l,.string u]) xa xb true)(h2:KIn 58 xa xb (.int .i64 n) za zb)(h3:KI2 34 za zb (.agg #[.string s,.string t]))  :
 CR 23 #[.agg #[.string l,.string u],.int .i64 n] w (.tuple #[.agg #[.string s,.string t],.int .i64 0]):=by
 obtain ⟨C1,C2,C3⟩:=ak h1 h2 h3;have e1:decide (n<1)=false:=decide_eq_false (by omega);have e3:decide (1000000000<n)=false:=decide_eq_false (by omega);have e2:¬ n<1:=by omega
 have e4:¬ 1000000000<n:=by omega
 clear hn1 hn2 h1 h2 h3;go_enter func23,ntmps23
 go_upto_region 1 with fail
 refine az w [(#[.string l,.string u],24),(#[.string ⟨#[]⟩,.string ⟨#[]⟩],24)] rfl ?_;rintro W0 ⟨k1,k2,hb⟩;have rq:=hid (show Below w.heap.size w W0 from hb);have K1:=hid k1;have K2:=hid k2;clear k1 k2 hb;obtain ⟨p8,p9⟩:=av K1.o rfl rfl;go_wp2_with fail
 with_reducible refine(C1.o _).mono ?_
 rintro e W1 ⟨wm,wo,rfl,sw,r9,hb⟩;clear p8 p9;obtain ⟨K1,K2⟩:=aP hb K1 K2;have sj:=hbt rq hb;have RXa:=hid sw;have RXb:=hid r9;clear hb sw r9;go_upto_region 2 with fail
 refine az W1 [(#[.bool wm.b,.slice wm.a wm.n wm.c,.slice wm.e wm.m wm.d,.bool wo.b,.slice wo.a wo.n wo.c,.slice wo.e wo.m wo.d],56)] rfl ?_;have L1:=K1.o.lt;have L2:=K2.o.lt;have L3:=sj.o.size;rintro W2 ⟨k3,hb⟩;have hb:Below W1.heap.size W1 W2:=hb;obtain ⟨K2,RXa,RXb⟩:=bR hb K2 RXa RXb;have rV:=hbt sj hb;have K3:=hid k3;clear k3 hb;obtain ⟨l5,lg,u07,u08,u09,u0a⟩:=bG K3.o rfl rfl rfl rfl rfl rfl;go_wp2_with fail
 with_reducible refine(C2.o _ _ _ RXa.o RXb.o).mono ?_
 rintro e W3 ⟨u0B,u0C,rfl,u00,u01,hb⟩;clear l5 lg u07 u08 u09 u0a;have K2:=hid (K2.o.below hb);have bq:=hbt rV hb;have RA:=hid u00;have RB:=hid u01;clear hb u00 u01;go_wp2_with fail
 with_reducible refine(C3.o _ _ _ RA.o RB.o).mono ?_
 rintro e W4 ⟨rfl,hb⟩;have K2:=hid (K2.o.below hb);have ed:=hbt bq hb;clear hb;obtain ⟨ru,rM⟩:=av K2.o rfl rfl;obtain ⟨cO,bg⟩:=bF K2.o;go_wp2;exact bodyPost_ret (v:=.tuple #[.agg #[.string s,.string t],.int .i64 0]) (by simp[results,results23,go_sem,ru,rM]) rfl ⟨rfl,(ay (l:=[.string s,.string t]) (i:=0) (by omega) ed.o)⟩
