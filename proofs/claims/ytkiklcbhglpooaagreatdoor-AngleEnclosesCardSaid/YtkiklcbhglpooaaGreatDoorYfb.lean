/- texts -/
import Derived.Test.YtkiklcbhglpooaaGreatDoorYfa
set_option maxRecDepth 100000
set_option maxHeartbeats 20000000
open Go.Lib (hid)
namespace Go.Proofs.YtkiklcbhglpooaaGreatDoor
open Go.RowKit Go.Gb
set_option linter.unusedSimpArgs false
set_option linter.unusedVariables false
theorem vB (x xx sq za zb:Rat)(pw fr tm sm:Nat→Rat)(n:Nat)(hn:n≤1000)(q1:QS)(w:World)(p0:pw 0=x)(s0:sm 0=0)
 (h1:KQ2 30 x x xx) (h2:KQ1 105 xx sq) (hz:KS 27 (.int .i64 0) 0)
 (hf:∀ i,i≤n→KS2 86 (.int .i64 1) (.int .i64 (2*(i:Int)+1)) (fr i)) (hm:∀ i,i≤n→KQ2 30 (pw i) (fr i) (tm i))
 (ha:∀ i,i≤n→KQ2 29 (sm i) (tm i) (sm (i+1))) (hp:∀ i,i≤n→KQ2 30 (pw i) sq (pw (i+1)))
 (hj:∀ y,KI1 146 y y y) (ho:KII 145 (sm n) (sm n) (sm (n+1)) (sm (n+1)) za zb) (r1:FQ w q1 x) :
 Calls Tryz.prog 101 #[.agg #[.bool q1.b,.slice q1.a q1.n q1.c,.slice q1.e q1.m q1.d],.int .i64 (n:Int)] w (RII w za zb):=by
 obtain ⟨HP0,HS0,C1,C2,CZ,HF,HM,HA,HP⟩:=bZ p0 s0 h1 h2 hz hf hm ha hp;obtain ⟨HJ,CN,R1⟩:=au hj ho r1;clear p0 s0 h1 h2 hz hf hm ha hp hj ho r1;go_enter Tryz.func101,Tryz.ntmps101
 go_upto_region 1 with fail
 refine ak w [(q1.l.toArray,50),(#[.bool false,.slice none 0 0,.slice none 0 0,.bool false,.slice none 0 0,.slice none 0 0],58)] rfl ?_;rintro W0 ⟨k1,k2,hb⟩;have pq:=hid (show Below w.heap.size w W0 from hb);obtain ⟨K1,K2,R1⟩:=au k1 k2 (R1.o.below pq.o);clear k1 k2 hb;go_wp2_with fail
 have L1:=K1.o.lt;have L2:=K2.o.lt;have L3:=pq.o.size;refine az (fun a0 a' V=>∃ (ww:QS) (wm:QS) (wo:_) (wu:_),a'=⟨putL [(10,q1.v),(11,q1.v),(12,q1.v),(13,ww.v),(14,wm.v),(5,.pointer (some ⟨wo,0,none⟩)),(6,.pointer (some ⟨wu,0,none⟩))] a0.tmps,a0.defers⟩∧Below w.heap.size w V∧SBk V (w.heap.size) q1.l.toArray 50∧SBk V (w.heap.size+1) #[.bool false,.slice none 0 0,.slice none 0 0,.bool false,.slice none 0 0,.slice none 0 0] 58∧SBk V (wo) q1.l.toArray 50∧SBk V (wu) wm.l.toArray 50∧FQ V q1 x∧FQ V ww xx∧FQ V wm sq∧W0.heap.size≤wo∧W0.heap.size≤wu∧wo≠wu) ?_ ?_
 · refine bK (by kernel_rfl) 7 2 (fun i=>[10,11,12,13,14,5,6].getD i 0) (RelR [Rel.val (q1.v),Rel.val (q1.v),Rel.val (q1.v),Rel.q xx,Rel.q sq,Rel.ptr W0.heap.size (.cells #[.bool false,.slice none 0 0,.slice none 0 0] 50),Rel.ptr W0.heap.size (.cells #[.bool false,.slice none 0 0,.slice none 0 0] 50)]) (fun W=>Below W0.heap.size W0 W) (Dst 5 6 (fun i=>[10,11,12,13,14,5,6].getD i 0)) (by kernel_rfl) (by kernel_rfl) (by kernel_rfl) Dst.start (Below.refl _ _).drew ?_ ?_
   · intro l6 a W i hI hD hrd him
     obtain ⟨HI,HD,Hr⟩:=au hI hD hrd;clear hI hrd hD;have y2:=HI.o.rst 2 rfl;obtain ⟨u0w,u0x,u0y⟩:=aC (K1.o.below HI.o.world) rfl rfl rfl;obtain⟨X1,X2⟩:=HI.o.g2 1 11 2 12
     match i,him,Hr with
     | 0,_,Hi =>
       refine aA rfl fun K' hK=>?_;go_simp;exact hK.o _ _ ⟨HI.o.pv Hi.o rfl,HD.o.put (by decide) (by decide) rfl (by decide) (by decide)⟩
     | 1,_,Hi =>
       refine aA rfl fun K' hK=>?_;go_simp;exact hK.o _ _ ⟨HI.o.pv Hi.o rfl,HD.o.put (by decide) (by decide) rfl (by decide) (by decide)⟩
     | 2,_,Hi =>
       refine aA rfl fun K' hK=>?_;go_simp;exact hK.o _ _ ⟨HI.o.pv Hi.o rfl,HD.o.put (by decide) (by decide) rfl (by decide) (by decide)⟩
     | 3,_,Hi =>
       have x1:=X1.q Hi.o;have x2:=X2.q Hi.o;refine aA rfl fun K' hK=>?_;go_simp;with_reducible refine(C1.o _ _ _ (R1.o.below HI.o.world) (R1.o.below HI.o.world)).mono ?_
       rintro e W' ⟨ww,rfl,mf,hb⟩;exact hK.o _ _ ⟨HI.o.pc Hi.o hb ⟨ww,rfl,mf⟩,HD.o.put (by decide) (by decide) rfl (by decide) (by decide)⟩
     | 4,_,Hi =>
       obtain⟨v',x3,ww,e,mf⟩:=HI.o.at (i:=3) Hi.o (by kernel_rfl) (by decide);obtain rfl:=e;have x3:a.tmps[13]? = some (.agg #[.bool ww.b,.slice ww.a ww.n ww.c,.slice ww.e ww.m ww.d]):=x3;have d9:=hid mf;clear mf;refine aA rfl fun K' hK=>?_;go_simp;with_reducible refine(C2.o _ _ d9.o).mono ?_
       rintro e W' ⟨wm,rfl,lv,hb⟩;exact hK.o _ _ ⟨HI.o.pc Hi.o hb ⟨wm,rfl,lv⟩,HD.o.put (by decide) (by decide) rfl (by decide) (by decide)⟩
     | 5,_,Hi =>
       refine aA rfl fun K' hK=>?_;go_simp;exact hK.o _ _ ⟨HI.o.pc Hi.o ((Below.refl W.heap.size W).alloc (Nat.le_refl _) (.cells #[.bool false,.slice none 0 0,.slice none 0 0] 50)) ⟨W.heap.size,rfl,HI.o.world.size,SBk.new _ _ _⟩,Dst.left (by decide) rfl (by decide) (by rw[HI.o.tsize];simp) (HI.o.fresh (i:=6) (by decide) (fun _ _ h=>h))⟩
     | 6,_,Hi =>
       refine aA rfl fun K' hK=>?_;go_simp;exact hK.o _ _ ⟨HI.o.pc Hi.o ((Below.refl W.heap.size W).alloc (Nat.le_refl _) (.cells #[.bool false,.slice none 0 0,.slice none 0 0] 50)) ⟨W.heap.size,rfl,HI.o.world.size,SBk.new _ _ _⟩,Dst.right (by decide) rfl (by decide) (by rw[HI.o.tsize];simp) (HI.o.fresh (i:=5) (by decide) (fun _ _ h=>h))⟩
     | n+7,h,_=>exact absurd h (by omega)
   · intro l6 a W hI hD rM
     have x0:a.tmps[10]? = some (.agg #[.bool q1.b,.slice q1.a q1.n q1.c,.slice q1.e q1.m q1.d]):=hI.sx rM 0;obtain⟨v',x3,ww,e,mf⟩:=hI.slots 3 (by decide) (rM 3 (by decide));obtain rfl:=e;have d9:=hid mf;clear mf;obtain⟨v',x4,wm,e,lv⟩:=hI.slots 4 (by decide) (rM 4 (by decide));obtain rfl:=e;have u0b:=hid lv;clear lv;have x4:a.tmps[14]? = some (.agg #[.bool wm.b,.slice wm.a wm.n wm.c,.slice wm.e wm.m wm.d]):=x4;obtain⟨v',x5,wo,e,bM,bV⟩:=hI.slots 5 (by decide) (rM 5 (by decide));obtain rfl:=e;have sj:=hid bM;clear bM;have u0c:=hid bV;clear bV;have x5:a.tmps[5]? = some (.pointer (some ⟨wo,0,none⟩)):=x5;obtain⟨v',x6,wu,e,af,u00⟩:=hI.slots 6 (by decide) (rM 6 (by decide));obtain rfl:=e;have sw:=hid af;clear af;have u0d:=hid u00;clear u00;have x6:a.tmps[6]? = some (.pointer (some ⟨wu,0,none⟩)):=x6;have hD:=hD (rM 5 (by decide)) (rM 6 (by decide))
     have hne:wo≠wu:=by
        intro e;apply hD
        show a.tmps[5]? = a.tmps[6]?
        rw[x5,x6,e]
     have HNE:=hid hne;clear hne hD;obtain ⟨pu,HI,HA⟩:=au hI.world hI rM;clear hI rM;obtain ⟨K1,K2,R1⟩:=bA pu.o K1 K2 R1;have lg:=Lib.hid (pq.o.trans (pu.o.mono pq.o.size));have RXX:=d9;have RSQ:=u0b;have K3:Hid (SBk W wo #[.bool false,.slice none 0 0,.slice none 0 0] 50):=u0c;have K4:Hid (SBk W wu #[.bool false,.slice none 0 0,.slice none 0 0] 50):=u0d;obtain ⟨u0z,u0A,u0B⟩:=aC K3.o rfl rfl rfl;obtain ⟨u0C,u0D,u0E⟩:=bB K3.o;obtain ⟨dn,dx,dz⟩:=aC K4.o rfl rfl rfl;obtain ⟨u0e,u0f,u0g⟩:=bB K4.o;have dk:=(cK (w:=W) (g':=wo) (by have:=sj.o;have:=sw.o;have:=HNE.o;omega) (l:=q1.l) (i:=0) K4.o);simp only[storeAll,Lvv,QS.l]at dk;obtain⟨u0F,u0G,u0H⟩:=cells3 dk;clear dk;refine aZ (t:=1) ?_;refine aA rfl fun K' hK=>?_;go_simp;refine hK.o _ _ ?_;clear hK;refine aZ (t:=0) ?_;refine aA rfl fun K' hK=>?_;go_simp;refine hK.o _ _ ?_;clear hK;refine aV ?_;have s0:∀ {q':QS} {x':Rat},FQ W q' x'→FQ (storeAll W (wo) 0 q1.l) q' x':=fun h'=>bO _ 0 h' K3.o (by simp[bJ,Lvv,QS.l]) (by simp[aW,Lvv,QS.l]);have o0:∀ {g':Nat} {cs':Array Value} {T':TypeId},g'≠wo→SBk W g' cs' T'→SBk (storeAll W (wo) 0 q1.l) g' cs' T':=fun hg' h'=>cK hg' _ 0 h';have s1:∀ {q':QS} {x':Rat},FQ (storeAll W (wo) 0 q1.l) q' x'→FQ (storeAll (storeAll W (wo) 0 q1.l) (wu) 0 wm.l) q' x':=fun h'=>bO _ 0 h' (o0 (by have:=sj.o;have:=sw.o;have:=HNE.o;omega) K4.o) (by simp[bJ,Lvv,QS.l]) (by simp[aW,Lvv,QS.l]);have o1:∀ {g':Nat} {cs':Array Value} {T':TypeId},g'≠wu→SBk (storeAll W (wo) 0 q1.l) g' cs' T'→SBk (storeAll (storeAll W (wo) 0 q1.l) (wu) 0 wm.l) g' cs' T':=fun hg' h'=>cK hg' _ 0 h';exact⟨rfl,ww,wm,wo,wu,(HI.o.finx ⟨x0,HI.o.sx HA.o 1,HI.o.sx HA.o 2,x3,x4,x5,x6,trivial⟩ rfl),(aj (l:=wm.l) (i:=0) (by have:=sj.o;have:=sw.o;have:=HNE.o;omega) (aj (l:=q1.l) (i:=0) (by have:=sj.o;have:=sw.o;have:=HNE.o;omega) lg.o)),(o1 (by have:=sj.o;have:=sw.o;have:=HNE.o;omega) (o0 (by have:=sj.o;have:=sw.o;have:=HNE.o;omega) K1.o)),(o1 (by have:=sj.o;have:=sw.o;have:=HNE.o;omega) (o0 (by have:=sj.o;have:=sw.o;have:=HNE.o;omega) K2.o)),(cK (by have:=sj.o;have:=sw.o;have:=HNE.o;omega) (l:=wm.l) (i:=0) (eT K3.o)),(eT (cK (by have:=sj.o;have:=sw.o;have:=HNE.o;omega) (l:=q1.l) (i:=0) K4.o)),(s1 (s0 R1.o)),(s1 (s0 RXX.o)),(s1 (s0 RSQ.o)),sj.o,sw.o,HNE.o⟩
 rintro a' W1 ⟨ww,wm,wo,wu,rfl,z0,z1,z2,z3,z4,z5,z6,z7,z8,z9,z10⟩;obtain ⟨mi,K1,K2,K3,K4,R1,RXX,RSQ⟩:=jf z0 z1 z2 z3 z4 z5 z6 z7;have R5xW1:=z8;have R6xW1:=z9;have NEW1:=z10;clear z0 z1 z2 z3 z4 z5 z6 z7 z8 z9 z10;simp only[putL,List.setIfInBounds_toArray,List.set_cons_zero,List.set_cons_succ];go_wp2_with fail
 with_reducible refine(CZ.o _).mono ?_
 rintro e W2 ⟨q_1,rfl,u01,hb⟩;obtain ⟨K1,K2,K3,K4,R1,RXX,RSQ⟩:=mY hb K1 K2 K3 K4 R1 RXX RSQ;have dX:=hbt mi hb;have RS:=hid u01;clear hb u01;go_wp2_with fail
 with_reducible refine(CZ.o _).mono ?_
 rintro e W3 ⟨q_2,rfl,u03,hb⟩;obtain ⟨K1,K2,K3,K4,R1,RXX,RSQ,RS⟩:=yN hb K1 K2 K3 K4 R1 RXX RSQ RS;have kz:=hbt dX hb;have RL:=hid u03;clear hb u03;go_upto_region 3 with fail
 refine ak W3 [(q_1.l.toArray,50),(q_2.l.toArray,50)] rfl ?_;have L7:=K1.o.lt;have L8:=K2.o.lt;have L9:=K3.o.lt;have L10:=K4.o.lt;have L11:=kz.o.size;rintro W4 ⟨k5,k6,hb⟩;have hb:Below W3.heap.size W3 W4:=hb;obtain ⟨K1,K2,K3,K4,R1,RXX,RSQ,RS,RL⟩:=yM hb K1 K2 K3 K4 R1 RXX RSQ RS RL;have dY:=hbt kz hb;have K5:=hid k5;have K6:=hid k6;clear k5 k6 hb;go_wp2;go_loopw [9] (fun ii wr=>∃ kx:Nat,kx≤n+1∧ii=.int .i64 (kx:Int)∧Hid (Below w.heap.size w wr)∧Hid (SBk wr (w.heap.size+1) #[.bool false,.slice none 0 0,.slice none 0 0,.bool false,.slice none 0 0,.slice none 0 0] 58)∧∃ qp qs ql:QS,Hid (SBk wr (wo) qp.l.toArray 50)∧Hid (SBk wr (wu) wm.l.toArray 50)∧Hid (SBk wr (W3.heap.size) qs.l.toArray 50)∧Hid (SBk wr (W3.heap.size+1) ql.l.toArray 50)∧Hid (FQ wr qp (pw kx))∧Hid (FQ wr wm sq)∧Hid (FQ wr qs (sm kx))∧Hid (FQ wr ql (sm (kx-1)))) (fun ii _=>n+1-(intOf ii).toNat)
 case atStart=>exact⟨0,by omega,rfl,dY,K2,q1,q_1,q_2,K3,K4,K5,K6,by rw[HP0.o];exact R1,RSQ,by rw[HS0.o];exact RS,by rw[show sm (0-1)=0 from HS0.o];exact RL⟩
 case round =>
  obtain⟨kx,hin,rfl,pq,K4,qp,qs,ql,K5,K6,K7,K8,RP,RQ6,RS,RL⟩:=hrel;have hi0:(0:Int)≤(kx:Int):=by omega
  have wi:IntKind.i64.wrap ((kx:Int)+1)=(kx:Int)+1:=IntWalk.i64_in _ (by omega);have w2:IntKind.i64.wrap (2*(kx:Int))=2*(kx:Int):=IntWalk.i64_in _ (by omega);have w3:IntKind.i64.wrap (2*(kx:Int)+1)=2*(kx:Int)+1:=IntWalk.i64_in _ (by omega);by_cases hlt:kx≤n
  · have hlt1:(kx:Int)≤(n:Int):=by omega
    obtain ⟨CF,CM,CA,CP⟩:=aM (HF.o kx hlt) (HM.o kx hlt) (HA.o kx hlt) (HP.o kx hlt);clear RL;generalize hs1:sm (kx+1)=s1 at *;generalize hp1:pw (kx+1)=p1 at *;generalize hs0:sm kx=s0 at *;obtain ⟨ES,EP⟩:=aD hs1 hp1;have EL:=hid (show sm (kx+1-1)=s0 from hs0);clear hs1 hp1 hs0;generalize pw kx=p0 at *;generalize fr kx=f0 at *;generalize tm kx=t0 at *;obtain ⟨kM,kV,gy⟩:=aC K7.o rfl rfl rfl;obtain ⟨u04,u05,u06⟩:=aC K8.o rfl rfl rfl;obtain ⟨u0h,u0i,u0j⟩:=bB K8.o;go_upto_region 7 with fail
    clear kM kV gy u04 u0h u05 u0i u06 u0j
    refine mV (fun V=>Below w.heap.size w V∧SBk V (w.heap.size+1) #[.bool false,.slice none 0 0,.slice none 0 0,.bool false,.slice none 0 0,.slice none 0 0] 58∧SBk V (wo) qp.l.toArray 50∧SBk V (wu) wm.l.toArray 50∧SBk V (W3.heap.size) qs.l.toArray 50∧SBk V (W3.heap.size+1) qs.l.toArray 50∧FQ V qp p0∧FQ V wm sq∧FQ V qs s0) (by
        rw[← iM];have s0:∀ {q':QS} {x':Rat},FQ wr q' x'→FQ (storeAll wr (W3.heap.size+1) 0 qs.l) q' x':=fun h'=>bO _ 0 h' K8.o (by simp[bJ,Lvv,QS.l]) (by simp[aW,Lvv,QS.l]);have o0:∀ {g':Nat} {cs':Array Value} {T':TypeId},g'≠W3.heap.size+1→SBk wr g' cs' T'→SBk (storeAll wr (W3.heap.size+1) 0 qs.l) g' cs' T':=fun hg' h'=>cK hg' _ 0 h'
        exact⟨(aj (l:=qs.l) (i:=0) (by omega) pq.o),(o0 (by omega) K4.o),(o0 (by omega) K5.o),(o0 (by omega) K6.o),(o0 (by omega) K7.o),(eT K8.o),(s0 RP.o),(s0 RQ6.o),(s0 RS.o)⟩) ?_
    rintro V1 ⟨hb,z0,z1,z2,z3,z4,z5,z6,z7⟩;obtain ⟨mi,K4,K5,K6,K7,K8,RP,RQ6,RS⟩:=bZ hb z0 z1 z2 z3 z4 z5 z6 z7;clear hb z0 z1 z2 z3 z4 z5 z6 z7;go_wp2_with fail
    refine az (fun a0 a' V=>∃ (rV:QS) (p8:QS) (si:QS),a'=⟨putL [(23,qs.v),(24,qp.v),(25,.int .i64 (kx:Int)),(26,.int .i64 (2*(kx:Int))),(27,.int .i64 (2*(kx:Int)+1)),(28,rV.v),(29,p8.v),(30,si.v)] a0.tmps,a0.defers⟩∧Below w.heap.size w V∧SBk V (w.heap.size+1) #[.bool false,.slice none 0 0,.slice none 0 0,.bool false,.slice none 0 0,.slice none 0 0] 58∧SBk V (wo) qp.l.toArray 50∧SBk V (wu) wm.l.toArray 50∧SBk V (W3.heap.size) si.l.toArray 50∧SBk V (W3.heap.size+1) qs.l.toArray 50∧FQ V qp p0∧FQ V wm sq∧FQ V qs s0∧FQ V rV f0∧FQ V p8 t0∧FQ V si s1) ?_ ?_
    · refine aL 8 1 [23,24,25,26,27,28,29,30] [Rel.val (qs.v),Rel.val (qp.v),Rel.val (.int .i64 (kx:Int)),Rel.val (.int .i64 (2*(kx:Int))),Rel.val (.int .i64 (2*(kx:Int)+1)),Rel.q f0,Rel.q t0,Rel.q s1] ?_ ?_
      · intro l6 a W i HI hD Hr him
        obtain⟨y7,y5,y9⟩:=HI.o.s3 7 5 9;obtain⟨kM,kV,gy⟩:=cells3 (K7.o.below HI.o.world);obtain⟨fq,fQ,ed⟩:=cells3 (K5.o.below HI.o.world);obtain⟨X2,X3,X4⟩:=HI.o.g3 2 25 3 26 4 27;obtain⟨X1,X0⟩:=HI.o.g2 1 24 0 23
        match i,him,Hr with
        | 0,_,Hi|1,_,Hi|2,_,Hi|3,_,Hi|4,_,Hi =>
          try have x2:=X2.t Hi.o
          try have x3:=X3.t Hi.o
          refine aA rfl fun K' hK=>?_;go_simp;exact hK.o _ _ (HI.o.pw Hi.o)
        | 5,_,Hi =>
          have x4:=X4.q Hi.o;refine aA rfl fun K' hK=>?_;go_simp;with_reducible refine(CF.o _).mono ?_
          rintro e W' ⟨rV,rfl,u0k,hb⟩;exact hK.o _ _ ⟨HI.o.pc Hi.o hb ⟨rV,rfl,u0k⟩,trivial⟩
        | 6,_,Hi =>
          have x1:=X1.q Hi.o;obtain⟨rV,x5,cO⟩:=qAt HI.o 5 28 Hi.o (by kernel_rfl);refine aA rfl fun K' hK=>?_;go_simp;with_reducible refine(CM.o _ _ _ (RP.o.below HI.o.world) cO.o).mono ?_
          rintro e W' ⟨p8,rfl,u0l,hb⟩;exact hK.o _ _ ⟨HI.o.pc Hi.o hb ⟨p8,rfl,u0l⟩,trivial⟩
        | 7,_,Hi =>
          have x0:=X0.q Hi.o;obtain⟨p8,x6,bg⟩:=qAt HI.o 6 29 Hi.o (by kernel_rfl);refine aA rfl fun K' hK=>?_;go_simp;with_reducible refine(CA.o _ _ _ (RS.o.below HI.o.world) bg.o).mono ?_
          rintro e W' ⟨si,rfl,u0m,hb⟩;exact hK.o _ _ ⟨HI.o.pc Hi.o hb ⟨si,rfl,u0m⟩,trivial⟩
        | n+8,h,_=>exact absurd h (by omega)
      · intro l6 a W HI hD HA
        obtain⟨rV,x5,cO⟩:=qEnd HI.o HA.o 5 28;obtain⟨p8,x6,bg⟩:=qEnd HI.o HA.o 6 29;obtain⟨si,x7,u0n⟩:=qEnd HI.o HA.o 7 30;have pu:=hid HI.o.world;obtain ⟨K4,K5,K6,K7,K8,RP,RQ6,RS⟩:=yN pu.o K4 K5 K6 K7 K8 RP RQ6 RS;have lg:=Lib.hid (mi.o.trans (pu.o.mono mi.o.size));have RF:=cO;have RT:=bg;have RS1:=u0n;obtain⟨kM,kV,gy⟩:=cells3 K7.o;obtain⟨u0I,u0J,u0K⟩:=frz3 K7.o;have y7:=HI.o.rst 7 rfl;dsimp only[QS.v]at x7;refine aZ (t:=0) ?_;refine aA rfl fun K' hK=>?_;go_simp;refine hK.o _ _ ?_;clear hK;refine aV ?_;rw[← iM];have s0:∀ {q':QS} {x':Rat},FQ W q' x'→FQ (storeAll W (W3.heap.size) 0 si.l) q' x':=fun h'=>bO _ 0 h' K7.o (by simp[bJ,Lvv,QS.l]) (by simp[aW,Lvv,QS.l]);have o0:∀ {g':Nat} {cs':Array Value} {T':TypeId},g'≠W3.heap.size→SBk W g' cs' T'→SBk (storeAll W (W3.heap.size) 0 si.l) g' cs' T':=fun hg' h'=>cK hg' _ 0 h';exact⟨rfl,rV,p8,si,(HI.o.finx ⟨HI.o.sx HA.o 0,HI.o.sx HA.o 1,HI.o.sx HA.o 2,HI.o.sx HA.o 3,HI.o.sx HA.o 4,x5,x6,x7,trivial⟩ rfl),(aj (l:=si.l) (i:=0) (by omega) lg.o),(o0 (by omega) K4.o),(o0 (by omega) K5.o),(o0 (by omega) K6.o),(eT K7.o),(o0 (by omega) K8.o),(s0 RP.o),(s0 RQ6.o),(s0 RS.o),(s0 RF.o),(s0 RT.o),(s0 RS1.o)⟩
    rintro a' V2 ⟨rV,p8,si,rfl,z0,z1,z2,z3,z4,z5,z6,z7,z8,z9,z10,z11⟩;obtain ⟨dX,K4,K5,K6,K7,K8,RP,RQ6,RS⟩:=bZ z0 z1 z2 z3 z4 z5 z6 z7 z8;obtain ⟨RF,RT,RS1⟩:=au z9 z10 z11;clear z0 z1 z2 z3 z4 z5 z6 z7 z8 z9 z10 z11;simp only[putL,List.setIfInBounds_toArray,List.set_cons_zero,List.set_cons_succ];obtain ⟨fq,fQ,ed⟩:=aC K5.o rfl rfl rfl;obtain ⟨u0o,u0p,u0q⟩:=aC K6.o rfl rfl rfl;go_wp2_with fail
    with_reducible refine(CP.o _ _ _ RP.o RQ6.o).mono ?_
    rintro e V3 ⟨l5,rfl,u07,hb⟩;clear fq fQ ed u0o u0p u0q;obtain ⟨K4,K5,K6,K7,K8,RP,RQ6,RS,RF⟩:=yM hb K4 K5 K6 K7 K8 RP RQ6 RS RF;obtain ⟨RT,RS1⟩:=aO hb RT RS1;have kz:=hbt dX hb;have RP1:=hid u07;clear hb u07;obtain ⟨fq,fQ,ed⟩:=aC K5.o rfl rfl rfl;obtain ⟨u0r,u0s,u0t⟩:=bB K5.o;go_upto_region 5 with fail
    clear fq u0r fQ u0s ed u0t
    refine mV (fun V=>Below w.heap.size w V∧SBk V (w.heap.size+1) #[.bool false,.slice none 0 0,.slice none 0 0,.bool false,.slice none 0 0,.slice none 0 0] 58∧SBk V (wo) l5.l.toArray 50∧SBk V (wu) wm.l.toArray 50∧SBk V (W3.heap.size) si.l.toArray 50∧SBk V (W3.heap.size+1) qs.l.toArray 50∧FQ V qp p0∧FQ V wm sq∧FQ V qs s0∧FQ V rV f0∧FQ V p8 t0∧FQ V si s1∧FQ V l5 p1) (by
        rw[← iM];have s0:∀ {q':QS} {x':Rat},FQ V3 q' x'→FQ (storeAll V3 (wo) 0 l5.l) q' x':=fun h'=>bO _ 0 h' K5.o (by simp[bJ,Lvv,QS.l]) (by simp[aW,Lvv,QS.l]);have o0:∀ {g':Nat} {cs':Array Value} {T':TypeId},g'≠wo→SBk V3 g' cs' T'→SBk (storeAll V3 (wo) 0 l5.l) g' cs' T':=fun hg' h'=>cK hg' _ 0 h'
        exact⟨(aj (l:=l5.l) (i:=0) (by omega) kz.o),(o0 (by omega) K4.o),(eT K5.o),(o0 (by omega) K6.o),(o0 (by omega) K7.o),(o0 (by omega) K8.o),(s0 RP.o),(s0 RQ6.o),(s0 RS.o),(s0 RF.o),(s0 RT.o),(s0 RS1.o),(s0 RP1.o)⟩) ?_
    rintro V4 ⟨hb,z0,z1,z2,z3,z4,z5,z6,z7,z8,z9,z10,z11⟩;obtain ⟨dY,K4,K5,K6,K7,K8,RP,RQ6,RS⟩:=bZ hb z0 z1 z2 z3 z4 z5 z6 z7;obtain ⟨RF,RT,RS1,RP1⟩:=aM z8 z9 z10 z11;clear hb z0 z1 z2 z3 z4 z5 z6 z7 z8 z9 z10 z11;go_wp2;go_roundw
    case rel=>exact⟨kx+1,by omega,by go_num,dY,K4,l5,si,qs,K5,K6,K7,K8,by rw[EP.o];exact RP1,RQ6,by rw[ES.o];exact RS1,by rw[EL.o];exact RS⟩
    case measure=>simp[intOf];omega
  · have hge:decide ((kx:Int)≤(n:Int))=false:=by rw[decide_eq_false_iff_not];omega
    obtain rfl:kx=n+1:=by omega
    rw[show n+1-1=n from rfl]at RL;generalize sm (n+1)=s0 at *;generalize sm n=l0 at *;go_wp2_with fail
    refine az (fun a0 a' V=>∃ (ol:QS) (oM:QS) (oV:QS) (ma:QS) (u6:QS) (w9:QS),a'=⟨putL [(34,ql.v),(35,Qii ol oM),(36,qs.v),(37,Qii oV ma),(38,Qii u6 w9)] a0.tmps,a0.defers⟩∧Below w.heap.size w V∧SBk V (w.heap.size+1) #[.bool u6.b,.slice u6.a u6.n u6.c,.slice u6.e u6.m u6.d,.bool w9.b,.slice w9.a w9.n w9.c,.slice w9.e w9.m w9.d] 58∧SBk V (W3.heap.size) qs.l.toArray 50∧SBk V (W3.heap.size+1) ql.l.toArray 50∧FQ V qs s0∧FQ V ql l0∧FQ V ol l0∧FQ V oM l0∧FQ V oV s0∧FQ V ma s0∧FQ V u6 za∧FQ V w9 zb) ?_ ?_
    · refine aL 5 1 [34,35,36,37,38] [Rel.val (ql.v),Rel.qi l0 l0,Rel.val (qs.v),Rel.qi s0 s0,Rel.qi za zb] ?_ ?_
      · intro l6 a W i HI hD Hr him
        obtain⟨y8,y7⟩:=HI.o.s2 8 7;obtain⟨u04,u05,u06⟩:=cells3 (K8.o.below HI.o.world);obtain⟨kM,kV,gy⟩:=cells3 (K7.o.below HI.o.world);obtain⟨X0,X2⟩:=HI.o.g2 0 34 2 36
        match i,him,Hr with
        | 0,_,Hi|2,_,Hi =>
          refine aA rfl fun K' hK=>?_;go_simp;exact hK.o _ _ (HI.o.pw Hi.o)
        | 1,_,Hi =>
          have x0:=X0.q Hi.o;refine aA rfl fun K' hK=>?_;go_simp;with_reducible refine(HJ.o _ _ _ (RL.o.below HI.o.world)).mono ?_
          rintro e W' ⟨ol,oM,rfl,rn2_1a,rn2_1b,hb⟩;exact hK.o _ _ ⟨HI.o.pc Hi.o hb ⟨ol,oM,rfl,rn2_1a,rn2_1b⟩,trivial⟩
        | 3,_,Hi =>
          have x2:=X2.q Hi.o;refine aA rfl fun K' hK=>?_;go_simp;with_reducible refine(HJ.o _ _ _ (RS.o.below HI.o.world)).mono ?_
          rintro e W' ⟨oV,ma,rfl,rn2_3a,rn2_3b,hb⟩;exact hK.o _ _ ⟨HI.o.pc Hi.o hb ⟨oV,ma,rfl,rn2_3a,rn2_3b⟩,trivial⟩
        | 4,_,Hi =>
          obtain⟨ol,oM,x1,bn,bq⟩:=qAti HI.o 1 35 Hi.o (by kernel_rfl);dsimp only[Qii]at x1;obtain⟨oV,ma,x3,bu,bv⟩:=qAti HI.o 3 37 Hi.o (by kernel_rfl);dsimp only[Qii]at x3;refine aA rfl fun K' hK=>?_;go_simp;with_reducible refine(CN.o _ _ _ _ _ bn.o bq.o bu.o bv.o).mono ?_
          rintro e W' ⟨u6,w9,rfl,rn2_4a,rn2_4b,hb⟩;exact hK.o _ _ ⟨HI.o.pc Hi.o hb ⟨u6,w9,rfl,rn2_4a,rn2_4b⟩,trivial⟩
        | n+5,h,_=>exact absurd h (by omega)
      · intro l6 a W HI hD HA
        obtain⟨ol,oM,x1,bn,bq⟩:=iO HI.o HA.o 1 35;obtain⟨oV,ma,x3,bu,bv⟩:=iO HI.o HA.o 3 37;obtain⟨u6,w9,x4,u0u,u0v⟩:=iO HI.o HA.o 4 38;have pu:=hid HI.o.world;obtain ⟨K4,K7,K8,RS,RL⟩:=eQ pu.o K4 K7 K8 RS RL;have lg:=Lib.hid (pq.o.trans (pu.o.mono pq.o.size));have RJA:=bn;have RJB:=bq;have RJC:=bu;have RJD:=bv;have RZA:=u0u;have RZB:=u0v;obtain ⟨dn,dx,dz,u08,u09,u0a⟩:=bQ K4.o rfl rfl rfl rfl rfl rfl;obtain ⟨u0e,u0f,u0g,u0L,u0M,u0N⟩:=dR K4.o;have y4:=HI.o.rst 4 rfl;dsimp only[Qii]at x4;refine aZ (t:=0) ?_;refine aA rfl fun K' hK=>?_;go_simp;refine hK.o _ _ ?_;clear hK;refine aV ?_;rw[← dM];have s0:∀ {q':QS} {x':Rat},FQ W q' x'→FQ (storeAll W (w.heap.size+1) 0 [.bool u6.b,.slice u6.a u6.n u6.c,.slice u6.e u6.m u6.d,.bool w9.b,.slice w9.a w9.n w9.c,.slice w9.e w9.m w9.d]) q' x':=fun h'=>bO _ 0 h' K4.o (by simp[bJ]) (by simp[aW]);have o0:∀ {g':Nat} {cs':Array Value} {T':TypeId},g'≠w.heap.size+1→SBk W g' cs' T'→SBk (storeAll W (w.heap.size+1) 0 [.bool u6.b,.slice u6.a u6.n u6.c,.slice u6.e u6.m u6.d,.bool w9.b,.slice w9.a w9.n w9.c,.slice w9.e w9.m w9.d]) g' cs' T':=fun hg' h'=>cK hg' _ 0 h';exact⟨rfl,ol,oM,oV,ma,u6,w9,(HI.o.finx ⟨HI.o.sx HA.o 0,x1,HI.o.sx HA.o 2,x3,x4,trivial⟩ rfl),(aj (l:=[.bool u6.b,.slice u6.a u6.n u6.c,.slice u6.e u6.m u6.d,.bool w9.b,.slice w9.a w9.n w9.c,.slice w9.e w9.m w9.d]) (i:=0) (by omega) lg.o),(dC K4.o),(o0 (by omega) K7.o),(o0 (by omega) K8.o),(s0 RS.o),(s0 RL.o),(s0 RJA.o),(s0 RJB.o),(s0 RJC.o),(s0 RJD.o),(s0 RZA.o),(s0 RZB.o)⟩
    rintro a' V1 ⟨ol,oM,oV,ma,u6,w9,rfl,z0,z1,z2,z3,z4,z5,z6,z7,z8,z9,z10,z11⟩;obtain ⟨mi,K4,K7,K8,RS,RL,RJA,RJB,RJC⟩:=bZ z0 z1 z2 z3 z4 z5 z6 z7 z8;obtain ⟨RJD,RZA,RZB⟩:=au z9 z10 z11;clear z0 z1 z2 z3 z4 z5 z6 z7 z8 z9 z10 z11;simp only[putL,List.setIfInBounds_toArray,List.set_cons_zero,List.set_cons_succ];go_wp2;obtain ⟨dn,dx,dz,u08,u09,u0a⟩:=bQ K4.o rfl rfl rfl rfl rfl rfl;exact bodyPost_ret (v:=.agg #[.bool u6.b,.slice u6.a u6.n u6.c,.slice u6.e u6.m u6.d,.bool w9.b,.slice w9.a w9.n w9.c,.slice w9.e w9.m w9.d]) (by simp[results,Tryz.results101,go_sem,dn,dx,dz,u08,u09,u0a]) rfl ⟨_,_,rfl,RZA.o,RZB.o,mi.o⟩
