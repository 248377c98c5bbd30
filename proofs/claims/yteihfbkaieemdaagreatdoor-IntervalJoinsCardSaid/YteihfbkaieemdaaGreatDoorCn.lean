/- texts -/
import Derived.Test.YteihfbkaieemdaaGreatDoorMz45q
open Go.Proofs.Tryz
set_option maxRecDepth 100000
set_option maxHeartbeats 20000000
open Go.Lib (hid)
namespace Go.Proofs.YteihfbkaieemdaaGreatDoor
open Go.RowKit Go.Gb
set_option linter.unusedVariables false
abbrev KQn (f:Nat) (x:Rat) (v:Value) (z:Rat):Prop:=∀ (q0:QS) (W:World),FQ W q0 x→Calls Tryz.prog f #[.agg #[.bool q0.b,.slice q0.a q0.n q0.c,.slice q0.e q0.m q0.d],v] W (RQ W z)
abbrev KIn (f:Nat) (xa xb:Rat) (v:Value) (x y:Rat):Prop:=∀ (qa qb:QS) (W:World),FQ W qa xa→FQ W qb xb→Calls Tryz.prog f #[.agg #[.bool qa.b,.slice qa.a qa.n qa.c,.slice qa.e qa.m qa.d,.bool qb.b,.slice qb.a qb.n qb.c,.slice qb.e qb.m qb.d],v] W (RII W x y)
theorem gOut (xa xb za pb qb zb:Rat)(n:Int)(q1a q1b:QS)(w:World)  (h1:KQn 82 xa (.int .i64 n) za)(h2:KQ1 83 xb pb)(h3:KQn 82 pb (.int .i64 n) qb)(h4:KQ1 83 qb zb)(r1a:FQ w q1a xa)(r1b:FQ w q1b xb) :
 Calls Tryz.prog 58 #[(Qii q1a q1b),.int .i64 n] w (RII w za zb):=by
 dsimp only[Qii];obtain ⟨C1,C2,C3,C4,R1a,R1b⟩:=bW h1 h2 h3 h4 r1a r1b;clear h1 h2 h3 h4 r1a r1b;go_enter func58,ntmps58
 go_upto_region 1 with fail
 refine ay w [(#[.bool q1a.b,.slice q1a.a q1a.n q1a.c,.slice q1a.e q1a.m q1a.d,.bool q1b.b,.slice q1b.a q1b.n q1b.c,.slice q1b.e q1b.m q1b.d],56),(#[.bool false,.slice none 0 0,.slice none 0 0,.bool false,.slice none 0 0,.slice none 0 0],56)] rfl ?_;rintro W0 ⟨k1,k2,hb⟩;have rM:=hid (show Below w.heap.size w W0 from hb);obtain ⟨R1a,R1b⟩:=aR rM.o R1a R1b;obtain ⟨K1,K2⟩:=aC k1 k2;clear k1 k2 hb;go_wp2_with fail
 refine aP (fun a0 a' V=>∃ (mi:QS) (lv:QS) (kz:QS) (sj:QS) (u6:QS) (w9:QS),a'=⟨putL [(5,.pointer (some ⟨w.heap.size,0,none⟩)),(6,q1a.v),(7,.int .i64 n),(8,mi.v),(9,.pointer (some ⟨w.heap.size,3,none⟩)),(10,q1b.v),(11,lv.v),(12,.int .i64 n),(13,kz.v),(14,sj.v),(15,Qii u6 w9)] a0.tmps,a0.defers⟩∧Below w.heap.size w V∧SBk V (w.heap.size+1) #[.bool u6.b,.slice u6.a u6.n u6.c,.slice u6.e u6.m u6.d,.bool w9.b,.slice w9.a w9.n w9.c,.slice w9.e w9.m w9.d] 56∧FQ V u6 za∧FQ V w9 zb) ?_ ?_
 · refine bH (by kernel_rfl) 11 1 (fun i=>[5,6,7,8,9,10,11,12,13,14,15].getD i 0) (RelR [Rel.val (.pointer (some ⟨w.heap.size,0,none⟩)),Rel.val (q1a.v),Rel.val (.int .i64 n),Rel.q za,Rel.val (.pointer (some ⟨w.heap.size,3,none⟩)),Rel.val (q1b.v),Rel.q pb,Rel.val (.int .i64 n),Rel.q qb,Rel.q zb,Rel.qi za zb]) (fun W=>Below W0.heap.size W0 W) (fun _ _=>True) (by kernel_rfl) (by kernel_rfl) (by kernel_rfl) trivial (Below.refl _ _).drew ?_ ?_
   · intro si a W i hI hD hrd him
     obtain ⟨HI,Hr⟩:=aC hI hrd;clear hI hrd hD;have y2:a.tmps[2]? = some (.pointer (some ⟨w.heap.size,0,none⟩)):=HI.o.rest 2 (by decide);have y1:a.tmps[1]? = some (.int .i64 n):=HI.o.rest 1 (by decide);obtain ⟨pu,ol,u0v,u0w,u0x,u0y⟩:=bf (K1.o.below HI.o.world) rfl rfl rfl rfl rfl rfl;have X0:RV _ si a 0 5 (.pointer (some ⟨w.heap.size,0,none⟩)):=HI.o.rh;have X1:RV _ si a 1 6 (q1a.v):=HI.o.rh;have X2:RV _ si a 2 7 (.int .i64 n):=HI.o.rh;have X4:RV _ si a 4 9 (.pointer (some ⟨w.heap.size,3,none⟩)):=HI.o.rh;have X5:RV _ si a 5 10 (q1b.v):=HI.o.rh;have X7:RV _ si a 7 12 (.int .i64 n):=HI.o.rh
     match i,him,Hr with
     | 0,_,Hi|1,_,Hi|2,_,Hi|4,_,Hi|5,_,Hi|7,_,Hi =>
       try have x0:=X0.g Hi.o (by decide +kernel)
       try have x4:=X4.g Hi.o (by decide +kernel)
       refine aJ rfl fun K' hK=>?_;go_simp;exact hK.o _ _ ⟨HI.o.pv Hi.o rfl,trivial⟩
     | 3,_,Hi =>
       have x1:=X1.g Hi.o (by kernel_rfl);have x2:=X2.g Hi.o (by kernel_rfl);refine aJ rfl fun K' hK=>?_;go_simp;with_reducible refine(C1.o _ _ (R1a.o.below HI.o.world)).mono ?_
       rintro e W' ⟨mi,rfl,u05,hb⟩;exact hK.o _ _ ⟨HI.o.pc Hi.o hb ⟨mi,rfl,u05⟩,trivial⟩
     | 6,_,Hi =>
       have x5:=X5.g Hi.o (by kernel_rfl);refine aJ rfl fun K' hK=>?_;go_simp;with_reducible refine(C2.o _ _ (R1b.o.below HI.o.world)).mono ?_
       rintro e W' ⟨lv,rfl,u06,hb⟩;exact hK.o _ _ ⟨HI.o.pc Hi.o hb ⟨lv,rfl,u06⟩,trivial⟩
     | 8,_,Hi =>
       obtain⟨lv,x6,bq⟩:=qAt HI.o 6 11 Hi.o (by kernel_rfl);have x7:=X7.g Hi.o (by kernel_rfl);refine aJ rfl fun K' hK=>?_;go_simp;with_reducible refine(C3.o _ _ bq.o).mono ?_
       rintro e W' ⟨kz,rfl,u07,hb⟩;exact hK.o _ _ ⟨HI.o.pc Hi.o hb ⟨kz,rfl,u07⟩,trivial⟩
     | 9,_,Hi =>
       obtain⟨kz,x8,bu⟩:=qAt HI.o 8 13 Hi.o (by kernel_rfl);refine aJ rfl fun K' hK=>?_;go_simp;with_reducible refine(C4.o _ _ bu.o).mono ?_
       rintro e W' ⟨sj,rfl,dx,hb⟩;exact hK.o _ _ ⟨HI.o.pc Hi.o hb ⟨sj,rfl,dx⟩,trivial⟩
     | 10,_,Hi =>
       obtain⟨mi,x3,bv⟩:=qAt HI.o 3 8 Hi.o (by kernel_rfl);dsimp only[QS.v]at x3;obtain⟨sj,x9,mf⟩:=qAt HI.o 9 14 Hi.o (by kernel_rfl);dsimp only[QS.v]at x9;refine aJ rfl fun K' hK=>?_;go_simp;exact hK.o _ _ ⟨HI.o.pv Hi.o ⟨mi,sj,rfl,bv.o,mf.o⟩,trivial⟩
     | n+11,h,_=>exact absurd h (by omega)
   · intro si a W hI hD r9
     obtain⟨mi,x3,bv⟩:=qEnd hI r9 3 8;obtain⟨lv,x6,bq⟩:=qEnd hI r9 6 11;obtain⟨kz,x8,bu⟩:=qEnd hI r9 8 13;obtain⟨sj,x9,mf⟩:=qEnd hI r9 9 14;obtain⟨u6,w9,x10,dz,dX⟩:=z06 hI r9 10 15;obtain ⟨l5,HI,HA⟩:=ak hI.world hI r9;clear hI r9;obtain ⟨dY,K2⟩:=aC (rM.o.trans (l5.o.mono rM.o.size)) (K2.o.below l5.o);have RA:=bv;have RPB:=bq;have RQB:=bu;have RB:=mf;have oM:=dz;have oV:=dX;obtain ⟨p9,pq,bV,af,au,u00⟩:=bf K2.o rfl rfl rfl rfl rfl rfl;obtain ⟨bg,bn,u0z,u0A,u0B,u0C⟩:=dF K2.o;have y4:a.tmps[4]? = some (.pointer (some ⟨w.heap.size+1,0,none⟩)):=HI.o.rest 4 (by decide);dsimp only[Qii]at x10;refine aY (t:=0) ?_;refine aJ rfl fun K' hK=>?_;go_simp;refine hK.o _ _ ?_;clear hK;refine bJ ?_;rw[← fB];have s0:∀ {q':QS} {x':Rat},FQ W q' x'→FQ (storeAll W (w.heap.size+1) 0 [.bool u6.b,.slice u6.a u6.n u6.c,.slice u6.e u6.m u6.d,.bool w9.b,.slice w9.a w9.n w9.c,.slice w9.e w9.m w9.d]) q' x':=fun h'=>bZ _ 0 h' K2.o (by simp[bI]) (by simp[bi]);exact⟨rfl,mi,lv,kz,sj,u6,w9,(HI.o.finx ⟨HI.o.sx HA.o 0,HI.o.sx HA.o 1,HI.o.sx HA.o 2,x3,HI.o.sx HA.o 4,HI.o.sx HA.o 5,x6,HI.o.sx HA.o 7,x8,x9,x10,trivial⟩ rfl),(ax (l:=[.bool u6.b,.slice u6.a u6.n u6.c,.slice u6.e u6.m u6.d,.bool w9.b,.slice w9.a w9.n w9.c,.slice w9.e w9.m w9.d]) (i:=0) (by omega) dY.o),(bS K2.o),(s0 oM.o),(s0 oV.o)⟩
 rintro a' W1 ⟨mi,lv,kz,sj,u6,w9,rfl,z0,z1,z2,z3⟩;obtain ⟨sw,K2,oM,oV⟩:=aL z0 z1 z2 z3;clear z0 z1 z2 z3;simp only[putL,List.setIfInBounds_toArray,List.set_cons_zero,List.set_cons_succ];go_wp2;obtain ⟨p9,pq,bV,af,au,u00⟩:=bf K2.o rfl rfl rfl rfl rfl rfl;exact bodyPost_ret (v:=.agg #[.bool u6.b,.slice u6.a u6.n u6.c,.slice u6.e u6.m u6.d,.bool w9.b,.slice w9.a w9.n w9.c,.slice w9.e w9.m w9.d]) (by simp[results,results58,go_sem,p9,pq,bV,af,au,u00]) rfl ⟨_,_,rfl,oM.o,oV.o,sw.o⟩
theorem z0F (l u m n:ByteArray)(xa xb ya yb:Rat)  (w:World)  (h1:KIB 33 (.agg #[.string l,.string u]) (.agg #[.string m,.string n]) xa xb ya yb (1))  :
 CR 18 #[.agg #[.string l,.string u],.agg #[.string m,.string n]] w (.tuple #[.agg #[.string ⟨#[]⟩,.string ⟨#[]⟩],.bool false]):=by
 have C1:=hid h1;clear h1;go_enter func18,ntmps18
 go_upto_region 1 with fail
 refine ay w [(#[.string l,.string u],24),(#[.string m,.string n],24),(#[.string ⟨#[]⟩,.string ⟨#[]⟩],24)] rfl ?_;rintro W0 ⟨k1,k2,k3,hb⟩;have rM:=hid (show Below w.heap.size w W0 from hb);obtain ⟨K1,K2,K3⟩:=ak k1 k2 k3;clear k1 k2 k3 hb;obtain ⟨pu,ol⟩:=av K1.o rfl rfl;obtain ⟨p9,pq⟩:=av K2.o rfl rfl;go_wp2_with fail
 with_reducible refine(C1.o _).mono ?_
 rintro e W1 ⟨wm,wo,wu,ww,rfl,rq,ru,lg,lm,hb⟩;clear pu ol p9 pq;obtain ⟨K1,K2,K3⟩:=bO hb K1 K2 K3;have sw:=hbt rM hb;obtain ⟨RXa,RXb,RYa,RYb⟩:=aL rq ru lg lm;clear hb rq ru lg lm;go_upto_region 2 with fail
 refine ay W1 [(#[.bool wm.b,.slice wm.a wm.n wm.c,.slice wm.e wm.m wm.d,.bool wo.b,.slice wo.a wo.n wo.c,.slice wo.e wo.m wo.d],56),(#[.bool wu.b,.slice wu.a wu.n wu.c,.slice wu.e wu.m wu.d,.bool ww.b,.slice ww.a ww.n ww.c,.slice ww.e ww.m ww.d],56)] rfl ?_;have L1:=K1.o.lt;have L2:=K2.o.lt;have L3:=K3.o.lt;have L4:=sw.o.size;rintro W2 ⟨k4,k5,hb⟩;have hb:Below W1.heap.size W1 W2:=hb;have K3:=hid (K3.o.below hb);have rV:=hbt sw hb;have K4:=hid k4;have K5:=hid k5;clear k4 k5 hb;obtain ⟨kM,kV⟩:=av K3.o rfl rfl;obtain ⟨u01,u02⟩:=bF K3.o;go_wp2;exact bodyPost_ret (v:=.tuple #[.agg #[.string ⟨#[]⟩,.string ⟨#[]⟩],.bool false]) (by simp[results,results18,go_sem,kM,kV]) rfl ⟨rfl,(ax (l:=[.string ⟨#[]⟩,.string ⟨#[]⟩]) (i:=0) (by omega) rV.o)⟩
theorem z2H (l u m n:ByteArray)(xa xb ya yb:Rat)(za zb:Rat)(k:Int)  (w:World)(hk:decide (0<k)=true)(h1:KIB 33 (.agg #[.string l,.string u]) (.agg #[.string m,.string n]) xa xb ya yb (0))(h2:KQ2 52 xa ya za)(h3:KQ2 53 xb yb zb)(h4:KP2 54 za zb (.int .i64 k))  :
 CR 18 #[.agg #[.string l,.string u],.agg #[.string m,.string n]] w (.tuple #[.agg #[.string ⟨#[]⟩,.string ⟨#[]⟩],.bool false]):=by
 obtain ⟨C1,C2,C3,C4⟩:=aL h1 h2 h3 h4;have hkk:=hk;clear hk h1 h2 h3 h4;go_enter func18,ntmps18
 go_upto_region 1 with fail
 refine ay w [(#[.string l,.string u],24),(#[.string m,.string n],24),(#[.string ⟨#[]⟩,.string ⟨#[]⟩],24)] rfl ?_;rintro W0 ⟨k1,k2,k3,hb⟩;have rM:=hid (show Below w.heap.size w W0 from hb);obtain ⟨K1,K2,K3⟩:=ak k1 k2 k3;clear k1 k2 k3 hb;obtain ⟨pu,ol⟩:=av K1.o rfl rfl;obtain ⟨p9,pq⟩:=av K2.o rfl rfl;go_wp2_with fail
 with_reducible refine(C1.o _).mono ?_
 rintro e W1 ⟨wm,wo,wu,ww,rfl,rq,ru,lg,lm,hb⟩;clear pu ol p9 pq;obtain ⟨K1,K2,K3⟩:=bO hb K1 K2 K3;have sw:=hbt rM hb;obtain ⟨RXa,RXb,RYa,RYb⟩:=aL rq ru lg lm;clear hb rq ru lg lm;go_upto_region 2 with fail
 refine ay W1 [(#[.bool wm.b,.slice wm.a wm.n wm.c,.slice wm.e wm.m wm.d,.bool wo.b,.slice wo.a wo.n wo.c,.slice wo.e wo.m wo.d],56),(#[.bool wu.b,.slice wu.a wu.n wu.c,.slice wu.e wu.m wu.d,.bool ww.b,.slice ww.a ww.n ww.c,.slice ww.e ww.m ww.d],56)] rfl ?_;have L1:=K1.o.lt;have L2:=K2.o.lt;have L3:=K3.o.lt;have L4:=sw.o.size;rintro W2 ⟨k4,k5,hb⟩;have hb:Below W1.heap.size W1 W2:=hb;obtain ⟨K1,K2,K3,RXa,RXb,RYa,RYb⟩:=eT hb K1 K2 K3 RXa RXb RYa RYb;have rV:=hbt sw hb;have K4:=hid k4;have K5:=hid k5;clear k4 k5 hb;go_wp2_with fail
 have L5:=K1.o.lt;have L6:=K2.o.lt;have L7:=K3.o.lt;have L8:=K4.o.lt;have L9:=K5.o.lt;have L10:=rV.o.size;refine aP (fun a0 a' V=>∃ (p8:QS) (sj:QS) (u6:QS) (w9:QS) (gn1:Nat),a'=⟨putL [(20,.pointer (some ⟨W1.heap.size,0,none⟩)),(21,wm.v),(22,.pointer (some ⟨W1.heap.size+1,0,none⟩)),(23,wu.v),(24,p8.v),(25,.pointer (some ⟨W1.heap.size,3,none⟩)),(26,wo.v),(27,.pointer (some ⟨W1.heap.size+1,3,none⟩)),(28,ww.v),(29,sj.v),(30,Qii u6 w9),(9,.pointer (some ⟨gn1,0,none⟩))] a0.tmps,a0.defers⟩∧Below w.heap.size w V∧SBk V (w.heap.size+1+1) #[.string ⟨#[]⟩,.string ⟨#[]⟩] 24∧SBk V (gn1) #[.bool u6.b,.slice u6.a u6.n u6.c,.slice u6.e u6.m u6.d,.bool w9.b,.slice w9.a w9.n w9.c,.slice w9.e w9.m w9.d] 56∧FQ V u6 za∧FQ V w9 zb∧W2.heap.size≤gn1) ?_ ?_
 · refine bH (by kernel_rfl) 12 1 (fun i=>[20,21,22,23,24,25,26,27,28,29,30,9].getD i 0) (RelR [Rel.val (.pointer (some ⟨W1.heap.size,0,none⟩)),Rel.val (wm.v),Rel.val (.pointer (some ⟨W1.heap.size+1,0,none⟩)),Rel.val (wu.v),Rel.q za,Rel.val (.pointer (some ⟨W1.heap.size,3,none⟩)),Rel.val (wo.v),Rel.val (.pointer (some ⟨W1.heap.size+1,3,none⟩)),Rel.val (ww.v),Rel.q zb,Rel.qi za zb,Rel.ptr W2.heap.size (.cells #[.bool false,.slice none 0 0,.slice none 0 0,.bool false,.slice none 0 0,.slice none 0 0] 56)]) (fun W=>Below W2.heap.size W2 W) (fun _ _=>True) (by kernel_rfl) (by kernel_rfl) (by kernel_rfl) trivial (Below.refl _ _).drew ?_ ?_
   · intro si a W i hI hD hrd him
     obtain ⟨HI,Hr⟩:=aC hI hrd;clear hI hrd hD;have y6:a.tmps[6]? = some (.pointer (some ⟨W1.heap.size,0,none⟩)):=HI.o.rest 6 (by decide);have y7:a.tmps[7]? = some (.pointer (some ⟨W1.heap.size+1,0,none⟩)):=HI.o.rest 7 (by decide);obtain ⟨u08,u09,u0a,u0b,u0c,u0d⟩:=bf (K4.o.below HI.o.world) rfl rfl rfl rfl rfl rfl;obtain ⟨u0e,u0f,u0g,u0h,u0i,u0j⟩:=bf (K5.o.below HI.o.world) rfl rfl rfl rfl rfl rfl;have X0:RV _ si a 0 20 (.pointer (some ⟨W1.heap.size,0,none⟩)):=HI.o.rh;have X2:RV _ si a 2 22 (.pointer (some ⟨W1.heap.size+1,0,none⟩)):=HI.o.rh;have X1:RV _ si a 1 21 (wm.v):=HI.o.rh;have X3:RV _ si a 3 23 (wu.v):=HI.o.rh;have X5:RV _ si a 5 25 (.pointer (some ⟨W1.heap.size,3,none⟩)):=HI.o.rh;have X7:RV _ si a 7 27 (.pointer (some ⟨W1.heap.size+1,3,none⟩)):=HI.o.rh;have X6:RV _ si a 6 26 (wo.v):=HI.o.rh;have X8:RV _ si a 8 28 (ww.v):=HI.o.rh
     match i,him,Hr with
     | 0,_,Hi|1,_,Hi|2,_,Hi|3,_,Hi|5,_,Hi|6,_,Hi|7,_,Hi|8,_,Hi =>
       try have x0:=X0.g Hi.o (by decide +kernel)
       try have x2:=X2.g Hi.o (by decide +kernel)
       try have x5:=X5.g Hi.o (by decide +kernel)
       try have x7:=X7.g Hi.o (by decide +kernel)
       refine aJ rfl fun K' hK=>?_;go_simp;exact hK.o _ _ ⟨HI.o.pv Hi.o rfl,trivial⟩
     | 4,_,Hi =>
       have x1:=X1.g Hi.o (by kernel_rfl);have x3:=X3.g Hi.o (by kernel_rfl);refine aJ rfl fun K' hK=>?_;go_simp;with_reducible refine(C2.o _ _ _ (RXa.o.below HI.o.world) (RYa.o.below HI.o.world)).mono ?_
       rintro e W' ⟨p8,rfl,bM,hb⟩;exact hK.o _ _ ⟨HI.o.pc Hi.o hb ⟨p8,rfl,bM⟩,trivial⟩
     | 9,_,Hi =>
       have x6:=X6.g Hi.o (by kernel_rfl);have x8:=X8.g Hi.o (by kernel_rfl);refine aJ rfl fun K' hK=>?_;go_simp;with_reducible refine(C3.o _ _ _ (RXb.o.below HI.o.world) (RYb.o.below HI.o.world)).mono ?_
       rintro e W' ⟨sj,rfl,dx,hb⟩;exact hK.o _ _ ⟨HI.o.pc Hi.o hb ⟨sj,rfl,dx⟩,trivial⟩
     | 10,_,Hi =>
       obtain⟨p8,x4,gy⟩:=qAt HI.o 4 24 Hi.o (by kernel_rfl);dsimp only[QS.v]at x4;obtain⟨sj,x9,mf⟩:=qAt HI.o 9 29 Hi.o (by kernel_rfl);dsimp only[QS.v]at x9;refine aJ rfl fun K' hK=>?_;go_simp;exact hK.o _ _ ⟨HI.o.pv Hi.o ⟨p8,sj,rfl,gy.o,mf.o⟩,trivial⟩
     | 11,_,Hi =>
       refine aJ rfl fun K' hK=>?_;go_simp;exact hK.o _ _ ⟨HI.o.pc Hi.o ((Below.refl W.heap.size W).alloc (Nat.le_refl _) (.cells #[.bool false,.slice none 0 0,.slice none 0 0,.bool false,.slice none 0 0,.slice none 0 0] 56)) ⟨W.heap.size,rfl,HI.o.world.size,SBk.new _ _ _⟩,trivial⟩
     | n+12,h,_=>exact absurd h (by omega)
   · intro si a W hI hD r9
     obtain⟨p8,x4,gy⟩:=qEnd hI r9 4 24;obtain⟨sj,x9,mf⟩:=qEnd hI r9 9 29;obtain⟨u6,w9,x10,dz,dX⟩:=z06 hI r9 10 30;obtain⟨v',x11,gn1,e,hge,hsb⟩:=hI.slots 11 (by decide) (r9 11 (by decide));obtain rfl:=e;have x11:a.tmps[9]? = some (.pointer (some ⟨gn1,0,none⟩)):=x11;obtain ⟨RRG,hsb⟩:=aC hge hsb;clear hge;obtain ⟨l5,HI,HA⟩:=ak hI.world hI r9;clear hI r9;have K3:=hid (K3.o.below l5.o);have K6:Hid (SBk W gn1 #[.bool false,.slice none 0 0,.slice none 0 0,.bool false,.slice none 0 0,.slice none 0 0] 56):=hsb;have dY:=hid (rV.o.trans (l5.o.mono rV.o.size));have RA:=gy;have RB:=mf;have oM:=dz;have oV:=dX;obtain ⟨gF,fq,fQ,ed,eX,dn⟩:=bf K6.o rfl rfl rfl rfl rfl rfl;obtain ⟨u0k,u0l,u0m,u0n,u0o,u0p⟩:=dF K6.o;dsimp only[Qii]at x10;refine aY (t:=0) ?_;refine aJ rfl fun K' hK=>?_;go_simp;refine hK.o _ _ ?_;clear hK;refine bJ ?_;rw[← fB];have s0:∀ {q':QS} {x':Rat},FQ W q' x'→FQ (storeAll W (gn1) 0 [.bool u6.b,.slice u6.a u6.n u6.c,.slice u6.e u6.m u6.d,.bool w9.b,.slice w9.a w9.n w9.c,.slice w9.e w9.m w9.d]) q' x':=fun h'=>bZ _ 0 h' K6.o (by simp[bI]) (by simp[bi]);have o0:∀ {g':Nat} {cs':Array Value} {T':TypeId},g'≠gn1→SBk W g' cs' T'→SBk (storeAll W (gn1) 0 [.bool u6.b,.slice u6.a u6.n u6.c,.slice u6.e u6.m u6.d,.bool w9.b,.slice w9.a w9.n w9.c,.slice w9.e w9.m w9.d]) g' cs' T':=fun hg' h'=>aF hg' _ 0 h';exact⟨rfl,p8,sj,u6,w9,gn1,(HI.o.finx ⟨HI.o.sx HA.o 0,HI.o.sx HA.o 1,HI.o.sx HA.o 2,HI.o.sx HA.o 3,x4,HI.o.sx HA.o 5,HI.o.sx HA.o 6,HI.o.sx HA.o 7,HI.o.sx HA.o 8,x9,x10,x11,trivial⟩ rfl),(ax (l:=[.bool u6.b,.slice u6.a u6.n u6.c,.slice u6.e u6.m u6.d,.bool w9.b,.slice w9.a w9.n w9.c,.slice w9.e w9.m w9.d]) (i:=0) (by have:=RRG.o;omega) dY.o),(o0 (by have:=RRG.o;omega) K3.o),(bS K6.o),(s0 oM.o),(s0 oV.o),RRG.o⟩
 rintro a' W3 ⟨p8,sj,u6,w9,gn1,rfl,z0,z1,z2,z3,z4,z5⟩;obtain ⟨cu,K3,K6,oM,oV,RRW3⟩:=bW z0 z1 z2 z3 z4 z5;clear z0 z1 z2 z3 z4 z5;simp only[putL,List.setIfInBounds_toArray,List.set_cons_zero,List.set_cons_succ];obtain ⟨gF,fq,fQ,ed,eX,dn⟩:=bf K6.o rfl rfl rfl rfl rfl rfl;go_wp2_with fail
 with_reducible refine(C4.o _ _ _ oM.o oV.o).mono ?_
 rintro e W4 ⟨rfl,hb⟩;clear gF fq fQ ed eX dn;have K3:=hid (K3.o.below hb);have cO:=hbt cu hb;clear hb;obtain ⟨kM,kV⟩:=av K3.o rfl rfl;obtain ⟨u01,u02⟩:=bF K3.o;go_wp2;exact bodyPost_ret (v:=.tuple #[.agg #[.string ⟨#[]⟩,.string ⟨#[]⟩],.bool false]) (by simp[results,results18,go_sem,kM,kV]) rfl ⟨rfl,(ax (l:=[.string ⟨#[]⟩,.string ⟨#[]⟩]) (i:=0) (by have:=RRW3.o;omega) cO.o)⟩
theorem z2G (l u m n:ByteArray)(xa xb ya yb:Rat)(za zb:Rat)(k:Int)(s t:ByteArray)  (w:World)(hk:decide (0<k)=false)(h1:KIB 33 (.agg #[.string l,.string u]) (.agg #[.string m,.string n]) xa xb ya yb (0))(h2:KQ2 52 xa ya za)(h3:KQ2 53 xb yb zb)(h4:KP2 54 za zb (.int .i64 k))(h5:KI2 34 za zb (.agg #[.string s,.string t]))  :
 CR 18 #[.agg #[.string l,.string u],.agg #[.string m,.string n]] w (.tuple #[.agg #[.string s,.string t],.bool true]):=by
 obtain ⟨C1,C2,C3,C4,C5⟩:=bG h1 h2 h3 h4 h5;have hkk:=hk;clear hk h1 h2 h3 h4 h5;go_enter func18,ntmps18
 go_upto_region 1 with fail
 refine ay w [(#[.string l,.string u],24),(#[.string m,.string n],24),(#[.string ⟨#[]⟩,.string ⟨#[]⟩],24)] rfl ?_;rintro W0 ⟨k1,k2,k3,hb⟩;have rM:=hid (show Below w.heap.size w W0 from hb);obtain ⟨K1,K2,K3⟩:=ak k1 k2 k3;clear k1 k2 k3 hb;obtain ⟨pu,ol⟩:=av K1.o rfl rfl;obtain ⟨p9,pq⟩:=av K2.o rfl rfl;go_wp2_with fail
 with_reducible refine(C1.o _).mono ?_
 rintro e W1 ⟨wm,wo,wu,ww,rfl,rq,ru,lg,lm,hb⟩;clear pu ol p9 pq;obtain ⟨K1,K2,K3⟩:=bO hb K1 K2 K3;have sw:=hbt rM hb;obtain ⟨RXa,RXb,RYa,RYb⟩:=aL rq ru lg lm;clear hb rq ru lg lm;go_upto_region 2 with fail
 refine ay W1 [(#[.bool wm.b,.slice wm.a wm.n wm.c,.slice wm.e wm.m wm.d,.bool wo.b,.slice wo.a wo.n wo.c,.slice wo.e wo.m wo.d],56),(#[.bool wu.b,.slice wu.a wu.n wu.c,.slice wu.e wu.m wu.d,.bool ww.b,.slice ww.a ww.n ww.c,.slice ww.e ww.m ww.d],56)] rfl ?_;have L1:=K1.o.lt;have L2:=K2.o.lt;have L3:=K3.o.lt;have L4:=sw.o.size;rintro W2 ⟨k4,k5,hb⟩;have hb:Below W1.heap.size W1 W2:=hb;obtain ⟨K1,K2,K3,RXa,RXb,RYa,RYb⟩:=eT hb K1 K2 K3 RXa RXb RYa RYb;have rV:=hbt sw hb;have K4:=hid k4;have K5:=hid k5;clear k4 k5 hb;go_wp2_with fail
 have L5:=K1.o.lt;have L6:=K2.o.lt;have L7:=K3.o.lt;have L8:=K4.o.lt;have L9:=K5.o.lt;have L10:=rV.o.size;refine aP (fun a0 a' V=>∃ (p8:QS) (sj:QS) (u6:QS) (w9:QS) (gn1:Nat),a'=⟨putL [(20,.pointer (some ⟨W1.heap.size,0,none⟩)),(21,wm.v),(22,.pointer (some ⟨W1.heap.size+1,0,none⟩)),(23,wu.v),(24,p8.v),(25,.pointer (some ⟨W1.heap.size,3,none⟩)),(26,wo.v),(27,.pointer (some ⟨W1.heap.size+1,3,none⟩)),(28,ww.v),(29,sj.v),(30,Qii u6 w9),(9,.pointer (some ⟨gn1,0,none⟩))] a0.tmps,a0.defers⟩∧Below w.heap.size w V∧SBk V (w.heap.size+1+1) #[.string ⟨#[]⟩,.string ⟨#[]⟩] 24∧SBk V (gn1) #[.bool u6.b,.slice u6.a u6.n u6.c,.slice u6.e u6.m u6.d,.bool w9.b,.slice w9.a w9.n w9.c,.slice w9.e w9.m w9.d] 56∧FQ V u6 za∧FQ V w9 zb∧W2.heap.size≤gn1) ?_ ?_
 · refine bH (by kernel_rfl) 12 1 (fun i=>[20,21,22,23,24,25,26,27,28,29,30,9].getD i 0) (RelR [Rel.val (.pointer (some ⟨W1.heap.size,0,none⟩)),Rel.val (wm.v),Rel.val (.pointer (some ⟨W1.heap.size+1,0,none⟩)),Rel.val (wu.v),Rel.q za,Rel.val (.pointer (some ⟨W1.heap.size,3,none⟩)),Rel.val (wo.v),Rel.val (.pointer (some ⟨W1.heap.size+1,3,none⟩)),Rel.val (ww.v),Rel.q zb,Rel.qi za zb,Rel.ptr W2.heap.size (.cells #[.bool false,.slice none 0 0,.slice none 0 0,.bool false,.slice none 0 0,.slice none 0 0] 56)]) (fun W=>Below W2.heap.size W2 W) (fun _ _=>True) (by kernel_rfl) (by kernel_rfl) (by kernel_rfl) trivial (Below.refl _ _).drew ?_ ?_
   · intro si a W i hI hD hrd him
     obtain ⟨HI,Hr⟩:=aC hI hrd;clear hI hrd hD;have y6:a.tmps[6]? = some (.pointer (some ⟨W1.heap.size,0,none⟩)):=HI.o.rest 6 (by decide);have y7:a.tmps[7]? = some (.pointer (some ⟨W1.heap.size+1,0,none⟩)):=HI.o.rest 7 (by decide);obtain ⟨u08,u09,u0a,u0b,u0c,u0d⟩:=bf (K4.o.below HI.o.world) rfl rfl rfl rfl rfl rfl;obtain ⟨u0e,u0f,u0g,u0h,u0i,u0j⟩:=bf (K5.o.below HI.o.world) rfl rfl rfl rfl rfl rfl;have X0:RV _ si a 0 20 (.pointer (some ⟨W1.heap.size,0,none⟩)):=HI.o.rh;have X2:RV _ si a 2 22 (.pointer (some ⟨W1.heap.size+1,0,none⟩)):=HI.o.rh;have X1:RV _ si a 1 21 (wm.v):=HI.o.rh;have X3:RV _ si a 3 23 (wu.v):=HI.o.rh;have X5:RV _ si a 5 25 (.pointer (some ⟨W1.heap.size,3,none⟩)):=HI.o.rh;have X7:RV _ si a 7 27 (.pointer (some ⟨W1.heap.size+1,3,none⟩)):=HI.o.rh;have X6:RV _ si a 6 26 (wo.v):=HI.o.rh;have X8:RV _ si a 8 28 (ww.v):=HI.o.rh
     match i,him,Hr with
     | 0,_,Hi|1,_,Hi|2,_,Hi|3,_,Hi|5,_,Hi|6,_,Hi|7,_,Hi|8,_,Hi =>
       try have x0:=X0.g Hi.o (by decide +kernel)
       try have x2:=X2.g Hi.o (by decide +kernel)
       try have x5:=X5.g Hi.o (by decide +kernel)
       try have x7:=X7.g Hi.o (by decide +kernel)
       refine aJ rfl fun K' hK=>?_;go_simp;exact hK.o _ _ ⟨HI.o.pv Hi.o rfl,trivial⟩
     | 4,_,Hi =>
       have x1:=X1.g Hi.o (by kernel_rfl);have x3:=X3.g Hi.o (by kernel_rfl);refine aJ rfl fun K' hK=>?_;go_simp;with_reducible refine(C2.o _ _ _ (RXa.o.below HI.o.world) (RYa.o.below HI.o.world)).mono ?_
       rintro e W' ⟨p8,rfl,bM,hb⟩;exact hK.o _ _ ⟨HI.o.pc Hi.o hb ⟨p8,rfl,bM⟩,trivial⟩
     | 9,_,Hi =>
       have x6:=X6.g Hi.o (by kernel_rfl);have x8:=X8.g Hi.o (by kernel_rfl);refine aJ rfl fun K' hK=>?_;go_simp;with_reducible refine(C3.o _ _ _ (RXb.o.below HI.o.world) (RYb.o.below HI.o.world)).mono ?_
       rintro e W' ⟨sj,rfl,dx,hb⟩;exact hK.o _ _ ⟨HI.o.pc Hi.o hb ⟨sj,rfl,dx⟩,trivial⟩
     | 10,_,Hi =>
       obtain⟨p8,x4,gy⟩:=qAt HI.o 4 24 Hi.o (by kernel_rfl);dsimp only[QS.v]at x4;obtain⟨sj,x9,mf⟩:=qAt HI.o 9 29 Hi.o (by kernel_rfl);dsimp only[QS.v]at x9;refine aJ rfl fun K' hK=>?_;go_simp;exact hK.o _ _ ⟨HI.o.pv Hi.o ⟨p8,sj,rfl,gy.o,mf.o⟩,trivial⟩
     | 11,_,Hi =>
       refine aJ rfl fun K' hK=>?_;go_simp;exact hK.o _ _ ⟨HI.o.pc Hi.o ((Below.refl W.heap.size W).alloc (Nat.le_refl _) (.cells #[.bool false,.slice none 0 0,.slice none 0 0,.bool false,.slice none 0 0,.slice none 0 0] 56)) ⟨W.heap.size,rfl,HI.o.world.size,SBk.new _ _ _⟩,trivial⟩
     | n+12,h,_=>exact absurd h (by omega)
   · intro si a W hI hD r9
     obtain⟨p8,x4,gy⟩:=qEnd hI r9 4 24;obtain⟨sj,x9,mf⟩:=qEnd hI r9 9 29;obtain⟨u6,w9,x10,dz,dX⟩:=z06 hI r9 10 30;obtain⟨v',x11,gn1,e,hge,hsb⟩:=hI.slots 11 (by decide) (r9 11 (by decide));obtain rfl:=e;have x11:a.tmps[9]? = some (.pointer (some ⟨gn1,0,none⟩)):=x11;obtain ⟨RRG,hsb⟩:=aC hge hsb;clear hge;obtain ⟨l5,HI,HA⟩:=ak hI.world hI r9;clear hI r9;have K3:=hid (K3.o.below l5.o);have K6:Hid (SBk W gn1 #[.bool false,.slice none 0 0,.slice none 0 0,.bool false,.slice none 0 0,.slice none 0 0] 56):=hsb;have dY:=hid (rV.o.trans (l5.o.mono rV.o.size));have RA:=gy;have RB:=mf;have oM:=dz;have oV:=dX;obtain ⟨gF,fq,fQ,ed,eX,dn⟩:=bf K6.o rfl rfl rfl rfl rfl rfl;obtain ⟨u0k,u0l,u0m,u0n,u0o,u0p⟩:=dF K6.o;dsimp only[Qii]at x10;refine aY (t:=0) ?_;refine aJ rfl fun K' hK=>?_;go_simp;refine hK.o _ _ ?_;clear hK;refine bJ ?_;rw[← fB];have s0:∀ {q':QS} {x':Rat},FQ W q' x'→FQ (storeAll W (gn1) 0 [.bool u6.b,.slice u6.a u6.n u6.c,.slice u6.e u6.m u6.d,.bool w9.b,.slice w9.a w9.n w9.c,.slice w9.e w9.m w9.d]) q' x':=fun h'=>bZ _ 0 h' K6.o (by simp[bI]) (by simp[bi]);have o0:∀ {g':Nat} {cs':Array Value} {T':TypeId},g'≠gn1→SBk W g' cs' T'→SBk (storeAll W (gn1) 0 [.bool u6.b,.slice u6.a u6.n u6.c,.slice u6.e u6.m u6.d,.bool w9.b,.slice w9.a w9.n w9.c,.slice w9.e w9.m w9.d]) g' cs' T':=fun hg' h'=>aF hg' _ 0 h';exact⟨rfl,p8,sj,u6,w9,gn1,(HI.o.finx ⟨HI.o.sx HA.o 0,HI.o.sx HA.o 1,HI.o.sx HA.o 2,HI.o.sx HA.o 3,x4,HI.o.sx HA.o 5,HI.o.sx HA.o 6,HI.o.sx HA.o 7,HI.o.sx HA.o 8,x9,x10,x11,trivial⟩ rfl),(ax (l:=[.bool u6.b,.slice u6.a u6.n u6.c,.slice u6.e u6.m u6.d,.bool w9.b,.slice w9.a w9.n w9.c,.slice w9.e w9.m w9.d]) (i:=0) (by have:=RRG.o;omega) dY.o),(o0 (by have:=RRG.o;omega) K3.o),(bS K6.o),(s0 oM.o),(s0 oV.o),RRG.o⟩
 rintro a' W3 ⟨p8,sj,u6,w9,gn1,rfl,z0,z1,z2,z3,z4,z5⟩;obtain ⟨cu,K3,K6,oM,oV,RRW3⟩:=bW z0 z1 z2 z3 z4 z5;clear z0 z1 z2 z3 z4 z5;simp only[putL,List.setIfInBounds_toArray,List.set_cons_zero,List.set_cons_succ];obtain ⟨gF,fq,fQ,ed,eX,dn⟩:=bf K6.o rfl rfl rfl rfl rfl rfl;go_wp2_with fail
 with_reducible refine(C4.o _ _ _ oM.o oV.o).mono ?_
 rintro e W4 ⟨rfl,hb⟩;clear gF fq fQ ed eX dn;obtain ⟨K3,K6⟩:=aR hb K3 K6;obtain ⟨oM,oV⟩:=aC (oM.o.below hb) (oV.o.below hb);have cO:=hbt cu hb;clear hb;obtain ⟨gF,fq,fQ,ed,eX,dn⟩:=bf K6.o rfl rfl rfl rfl rfl rfl;go_wp2_with fail
 with_reducible refine(C5.o _ _ _ oM.o oV.o).mono ?_
 rintro e W5 ⟨rfl,hb⟩;clear gF fq fQ ed eX dn;have K3:=hid (K3.o.below hb);have HB5:=hbt cO hb;clear hb;obtain ⟨kM,kV⟩:=av K3.o rfl rfl;obtain ⟨u01,u02⟩:=bF K3.o;go_wp2;exact bodyPost_ret (v:=.tuple #[.agg #[.string s,.string t],.bool true]) (by simp[results,results18,go_sem,kM,kV]) rfl ⟨rfl,(ax (l:=[.string s,.string t]) (i:=0) (by have:=RRW3.o;omega) HB5.o)⟩
theorem z2E (l u:ByteArray)(n:Int)(xa xb:Rat)  (w:World)  (h1:KIb 46 (.agg #[.string l,.string u]) xa xb false)  :
 CR 23 #[.agg #[.string l,.string u],.int .i64 n] w (.tuple #[.agg #[.string ⟨#[]⟩,.string ⟨#[]⟩],.int .i64 1]):=by
 have C1:=hid h1;clear h1;go_enter func23,ntmps23
 go_upto_region 1 with fail
 refine ay w [(#[.string l,.string u],24),(#[.string ⟨#[]⟩,.string ⟨#[]⟩],24)] rfl ?_;rintro W0 ⟨k1,k2,hb⟩;have rM:=hid (show Below w.heap.size w W0 from hb);have K1:=hid k1;have K2:=hid k2;clear k1 k2 hb;obtain ⟨pu,ol⟩:=av K1.o rfl rfl;go_wp2_with fail
 with_reducible refine(C1.o _).mono ?_
 rintro e W1 ⟨wm,wo,rfl,rq,ru,hb⟩;clear pu ol;obtain ⟨K1,K2⟩:=aR hb K1 K2;have sw:=hbt rM hb;have RXa:=hid rq;have RXb:=hid ru;clear hb rq ru;go_upto_region 2 with fail
 refine ay W1 [(#[.bool wm.b,.slice wm.a wm.n wm.c,.slice wm.e wm.m wm.d,.bool wo.b,.slice wo.a wo.n wo.c,.slice wo.e wo.m wo.d],56)] rfl ?_;have L1:=K1.o.lt;have L2:=K2.o.lt;have L3:=sw.o.size;rintro W2 ⟨k3,hb⟩;have hb:Below W1.heap.size W1 W2:=hb;have K2:=hid (K2.o.below hb);have rV:=hbt sw hb;have K3:=hid k3;clear k3 hb;obtain ⟨p9,pq⟩:=av K2.o rfl rfl;obtain ⟨bg,bn⟩:=bF K2.o;go_wp2;exact bodyPost_ret (v:=.tuple #[.agg #[.string ⟨#[]⟩,.string ⟨#[]⟩],.int .i64 1]) (by simp[results,results23,go_sem,p9,pq]) rfl ⟨rfl,(ax (l:=[.string ⟨#[]⟩,.string ⟨#[]⟩]) (i:=0) (by omega) rV.o)⟩
theorem z2D (l u:ByteArray)(n:Int)(xa xb:Rat)  (w:World)(h9:n<1)(h1:KIb 46 (.agg #[.string l,.string u]) xa xb true)  :
 CR 23 #[.agg #[.string l,.string u],.int .i64 n] w (.tuple #[.agg #[.string ⟨#[]⟩,.string ⟨#[]⟩],.int .i64 2]):=by
 have C1:=hid h1;have e1:decide (n<1)=true:=decide_eq_true h9;have e2:n<1:=h9;clear h9 h1;go_enter func23,ntmps23
 go_upto_region 1 with fail
 refine ay w [(#[.string l,.string u],24),(#[.string ⟨#[]⟩,.string ⟨#[]⟩],24)] rfl ?_;rintro W0 ⟨k1,k2,hb⟩;have rM:=hid (show Below w.heap.size w W0 from hb);have K1:=hid k1;have K2:=hid k2;clear k1 k2 hb;obtain ⟨pu,ol⟩:=av K1.o rfl rfl;go_wp2_with fail
 with_reducible refine(C1.o _).mono ?_
 rintro e W1 ⟨wm,wo,rfl,rq,ru,hb⟩;clear pu ol;obtain ⟨K1,K2⟩:=aR hb K1 K2;have sw:=hbt rM hb;have RXa:=hid rq;have RXb:=hid ru;clear hb rq ru;go_upto_region 2 with fail
 refine ay W1 [(#[.bool wm.b,.slice wm.a wm.n wm.c,.slice wm.e wm.m wm.d,.bool wo.b,.slice wo.a wo.n wo.c,.slice wo.e wo.m wo.d],56)] rfl ?_;have L1:=K1.o.lt;have L2:=K2.o.lt;have L3:=sw.o.size;rintro W2 ⟨k3,hb⟩;have hb:Below W1.heap.size W1 W2:=hb;have K2:=hid (K2.o.below hb);have rV:=hbt sw hb;have K3:=hid k3;clear k3 hb;obtain ⟨p9,pq⟩:=av K2.o rfl rfl;obtain ⟨bg,bn⟩:=bF K2.o;go_wp2;exact bodyPost_ret (v:=.tuple #[.agg #[.string ⟨#[]⟩,.string ⟨#[]⟩],.int .i64 2]) (by simp[results,results23,go_sem,p9,pq]) rfl ⟨rfl,(ax (l:=[.string ⟨#[]⟩,.string ⟨#[]⟩]) (i:=0) (by omega) rV.o)⟩
theorem z2F (l u:ByteArray)(n:Int)(xa xb:Rat)  (w:World)(h9:1000000000<n)(h1:KIb 46 (.agg #[.string l,.string u]) xa xb true)  :
 CR 23 #[.agg #[.string l,.string u],.int .i64 n] w (.tuple #[.agg #[.string ⟨#[]⟩,.string ⟨#[]⟩],.int .i64 2]):=by
 have C1:=hid h1;have e1:decide (n<1)=false:=decide_eq_false (by omega);have e2:¬ n<1:=by omega
 have e3:decide (1000000000<n)=true:=decide_eq_true h9;have e4:1000000000<n:=h9;clear h9 h1;go_enter func23,ntmps23
 go_upto_region 1 with fail
 refine ay w [(#[.string l,.string u],24),(#[.string ⟨#[]⟩,.string ⟨#[]⟩],24)] rfl ?_;rintro W0 ⟨k1,k2,hb⟩;have rM:=hid (show Below w.heap.size w W0 from hb);have K1:=hid k1;have K2:=hid k2;clear k1 k2 hb;obtain ⟨pu,ol⟩:=av K1.o rfl rfl;go_wp2_with fail
 with_reducible refine(C1.o _).mono ?_
 rintro e W1 ⟨wm,wo,rfl,rq,ru,hb⟩;clear pu ol;obtain ⟨K1,K2⟩:=aR hb K1 K2;have sw:=hbt rM hb;have RXa:=hid rq;have RXb:=hid ru;clear hb rq ru;go_upto_region 2 with fail
 refine ay W1 [(#[.bool wm.b,.slice wm.a wm.n wm.c,.slice wm.e wm.m wm.d,.bool wo.b,.slice wo.a wo.n wo.c,.slice wo.e wo.m wo.d],56)] rfl ?_;have L1:=K1.o.lt;have L2:=K2.o.lt;have L3:=sw.o.size;rintro W2 ⟨k3,hb⟩;have hb:Below W1.heap.size W1 W2:=hb;have K2:=hid (K2.o.below hb);have rV:=hbt sw hb;have K3:=hid k3;clear k3 hb;obtain ⟨p9,pq⟩:=av K2.o rfl rfl;obtain ⟨bg,bn⟩:=bF K2.o;go_wp2;exact bodyPost_ret (v:=.tuple #[.agg #[.string ⟨#[]⟩,.string ⟨#[]⟩],.int .i64 2]) (by simp[results,results23,go_sem,p9,pq]) rfl ⟨rfl,(ax (l:=[.string ⟨#[]⟩,.string ⟨#[]⟩]) (i:=0) (by omega) rV.o)⟩
theorem z0E (l u:ByteArray)(n:Int)(xa xb:Rat)(za zb:Rat)(s t:ByteArray)  (w:World)(hn1:1≤n)(hn2:n≤1000000000)(h1:KIb 46 (.agg #[.string l,.string u]) xa xb true)(h2:KIn 58 xa xb (.int .i64 n) za zb)(h3:KI2 34 za zb (.agg #[.string s,.string t]))  :
 CR 23 #[.agg #[.string l,.string u],.int .i64 n] w (.tuple #[.agg #[.string s,.string t],.int .i64 0]):=by
 obtain ⟨C1,C2,C3⟩:=ak h1 h2 h3;have e1:decide (n<1)=false:=decide_eq_false (by omega);have e3:decide (1000000000<n)=false:=decide_eq_false (by omega);have e2:¬ n<1:=by omega
 have e4:¬ 1000000000<n:=by omega
 clear hn1 hn2 h1 h2 h3;go_enter func23,ntmps23
 go_upto_region 1 with fail
 refine ay w [(#[.string l,.string u],24),(#[.string ⟨#[]⟩,.string ⟨#[]⟩],24)] rfl ?_;rintro W0 ⟨k1,k2,hb⟩;have rM:=hid (show Below w.heap.size w W0 from hb);have K1:=hid k1;have K2:=hid k2;clear k1 k2 hb;obtain ⟨pu,ol⟩:=av K1.o rfl rfl;go_wp2_with fail
 with_reducible refine(C1.o _).mono ?_
 rintro e W1 ⟨wm,wo,rfl,rq,ru,hb⟩;clear pu ol;obtain ⟨K1,K2⟩:=aR hb K1 K2;have sw:=hbt rM hb;have RXa:=hid rq;have RXb:=hid ru;clear hb rq ru;go_upto_region 2 with fail
 refine ay W1 [(#[.bool wm.b,.slice wm.a wm.n wm.c,.slice wm.e wm.m wm.d,.bool wo.b,.slice wo.a wo.n wo.c,.slice wo.e wo.m wo.d],56)] rfl ?_;have L1:=K1.o.lt;have L2:=K2.o.lt;have L3:=sw.o.size;rintro W2 ⟨k3,hb⟩;have hb:Below W1.heap.size W1 W2:=hb;obtain ⟨K2,RXa,RXb⟩:=bO hb K2 RXa RXb;have rV:=hbt sw hb;have K3:=hid k3;clear k3 hb;obtain ⟨kM,kV,u0r,u0s,u0t,u0u⟩:=bf K3.o rfl rfl rfl rfl rfl rfl;go_wp2_with fail
 with_reducible refine(C2.o _ _ _ RXa.o RXb.o).mono ?_
 rintro e W3 ⟨u0D,u0E,rfl,u03,u04,hb⟩;clear kM kV u0r u0s u0t u0u;have K2:=hid (K2.o.below hb);have cu:=hbt rV hb;have RA:=hid u03;have RB:=hid u04;clear hb u03 u04;go_wp2_with fail
 with_reducible refine(C3.o _ _ _ RA.o RB.o).mono ?_
 rintro e W4 ⟨rfl,hb⟩;have K2:=hid (K2.o.below hb);have cO:=hbt cu hb;clear hb;obtain ⟨p9,pq⟩:=av K2.o rfl rfl;obtain ⟨bg,bn⟩:=bF K2.o;go_wp2;exact bodyPost_ret (v:=.tuple #[.agg #[.string s,.string t],.int .i64 0]) (by simp[results,results23,go_sem,p9,pq]) rfl ⟨rfl,(ax (l:=[.string s,.string t]) (i:=0) (by omega) cO.o)⟩
