/- texts -/
import Derived.Test.YtoaeaiiabelhkaaGreatDoorYfa
set_option maxRecDepth 100000
set_option maxHeartbeats 20000000
open Go.Lib (hid)
namespace Go.Proofs.YtoaeaiiabelhkaaGreatDoor
open Go.RowKit Go.Gb
set_option linter.unusedSimpArgs false
set_option linter.unusedVariables false
theorem vo (x xx sq za zb:Rat)(pw fr tm sm:Nat→Rat)(n:Nat)(hn:n≤1000)(q1:QS)(w:World)(p0:pw 0=x)(s0:sm 0=0)
 (h1:KQ2 56 x x xx) (h2:KQ1 98 xx sq) (hz:KS 24 (.int .i64 0) 0)
 (hf:∀ i,i≤n→KS2 58 (.int .i64 1) (.int .i64 (2*(i:Int)+1)) (fr i)) (hm:∀ i,i≤n→KQ2 56 (pw i) (fr i) (tm i))
 (ha:∀ i,i≤n→KQ2 57 (sm i) (tm i) (sm (i+1))) (hp:∀ i,i≤n→KQ2 56 (pw i) sq (pw (i+1)))
 (hj:∀ y,KI1 97 y y y) (ho:KII 96 (sm n) (sm n) (sm (n+1)) (sm (n+1)) za zb) (r1:FQ w q1 x) :
 Calls Tryz.prog 99 #[.agg #[.bool q1.b,.slice q1.a q1.n q1.c,.slice q1.e q1.m q1.d],.int .i64 (n:Int)] w (RII w za zb):=by
 obtain ⟨HP0,HS0,C1,C2,CZ,HF,HM,HA,HP⟩:=bQ p0 s0 h1 h2 hz hf hm ha hp;obtain ⟨HJ,CN,R1⟩:=ak hj ho r1;clear p0 s0 h1 h2 hz hf hm ha hp hj ho r1;go_enter Tryz.func99,Tryz.ntmps99
 go_upto_region 1 with fail
 refine av w [(q1.l.toArray,49),(#[.bool false,.slice none 0 0,.slice none 0 0,.bool false,.slice none 0 0,.slice none 0 0],55)] rfl ?_;rintro W0 ⟨k1,k2,hb⟩;have rV:=hid (show Below w.heap.size w W0 from hb);obtain ⟨K1,K2,R1⟩:=ak k1 k2 (R1.o.below rV.o);clear k1 k2 hb;go_wp2_with fail
 have L1:=K1.o.lt;have L2:=K2.o.lt;have L3:=rV.o.size;refine ay (fun a0 a' V=>∃ (wu:QS) (w9:QS) (wm:_) (wo:_),a'=⟨putL [(10,q1.v),(11,q1.v),(12,q1.v),(13,wu.v),(14,w9.v),(5,.pointer (some ⟨wm,0,none⟩)),(6,.pointer (some ⟨wo,0,none⟩))] a0.tmps,a0.defers⟩∧Below w.heap.size w V∧SBk V (w.heap.size) q1.l.toArray 49∧SBk V (w.heap.size+1) #[.bool false,.slice none 0 0,.slice none 0 0,.bool false,.slice none 0 0,.slice none 0 0] 55∧SBk V (wm) q1.l.toArray 49∧SBk V (wo) w9.l.toArray 49∧FQ V q1 x∧FQ V wu xx∧FQ V w9 sq∧W0.heap.size≤wm∧W0.heap.size≤wo∧wm≠wo) ?_ ?_
 · refine bX (by kernel_rfl) 7 2 (fun i=>[10,11,12,13,14,5,6].getD i 0) (RelR [Rel.val (q1.v),Rel.val (q1.v),Rel.val (q1.v),Rel.q xx,Rel.q sq,Rel.ptr W0.heap.size (.cells #[.bool false,.slice none 0 0,.slice none 0 0] 49),Rel.ptr W0.heap.size (.cells #[.bool false,.slice none 0 0,.slice none 0 0] 49)]) (fun W=>Below W0.heap.size W0 W) (Dst 5 6 (fun i=>[10,11,12,13,14,5,6].getD i 0)) (by kernel_rfl) (by kernel_rfl) (by kernel_rfl) Dst.start (Below.refl _ _).drew ?_ ?_
   · intro mf a W i hI hD hrd him
     obtain ⟨HI,HD,Hr⟩:=ak hI hD hrd;clear hI hrd hD;have y2:=HI.o.rst 2 rfl;obtain ⟨u0r,u0s,u0t⟩:=aA (K1.o.below HI.o.world) rfl rfl rfl;obtain⟨X1,X2⟩:=HI.o.g2 1 11 2 12
     match i,him,Hr with
     | 0,_,Hi =>
       refine stepH rfl fun K' hK=>?_;go_simp;exact hK.o _ _ ⟨HI.o.pv Hi.o rfl,HD.o.put (by decide) (by decide) rfl (by decide) (by decide)⟩
     | 1,_,Hi =>
       refine stepH rfl fun K' hK=>?_;go_simp;exact hK.o _ _ ⟨HI.o.pv Hi.o rfl,HD.o.put (by decide) (by decide) rfl (by decide) (by decide)⟩
     | 2,_,Hi =>
       refine stepH rfl fun K' hK=>?_;go_simp;exact hK.o _ _ ⟨HI.o.pv Hi.o rfl,HD.o.put (by decide) (by decide) rfl (by decide) (by decide)⟩
     | 3,_,Hi =>
       have x1:=X1.q Hi.o;have x2:=X2.q Hi.o;refine stepH rfl fun K' hK=>?_;go_simp;with_reducible refine(C1.o _ _ _ (R1.o.below HI.o.world) (R1.o.below HI.o.world)).mono ?_
       rintro e W' ⟨wu,rfl,oV,hb⟩;exact hK.o _ _ ⟨HI.o.pc Hi.o hb ⟨wu,rfl,oV⟩,HD.o.put (by decide) (by decide) rfl (by decide) (by decide)⟩
     | 4,_,Hi =>
       obtain⟨v',x3,wu,e,oV⟩:=HI.o.at (i:=3) Hi.o (by kernel_rfl) (by decide);obtain rfl:=e;have x3:a.tmps[13]? = some (.agg #[.bool wu.b,.slice wu.a wu.n wu.c,.slice wu.e wu.m wu.d]):=x3;have gy:=hid oV;clear oV;refine stepH rfl fun K' hK=>?_;go_simp;with_reducible refine(C2.o _ _ gy.o).mono ?_
       rintro e W' ⟨w9,rfl,l5,hb⟩;exact hK.o _ _ ⟨HI.o.pc Hi.o hb ⟨w9,rfl,l5⟩,HD.o.put (by decide) (by decide) rfl (by decide) (by decide)⟩
     | 5,_,Hi =>
       refine stepH rfl fun K' hK=>?_;go_simp;exact hK.o _ _ ⟨HI.o.pc Hi.o ((Below.refl W.heap.size W).alloc (Nat.le_refl _) (.cells #[.bool false,.slice none 0 0,.slice none 0 0] 49)) ⟨W.heap.size,rfl,HI.o.world.size,SBk.new _ _ _⟩,Dst.left (by decide) rfl (by decide) (by rw[HI.o.tsize];simp) (HI.o.fresh (i:=6) (by decide) (fun _ _ h=>h))⟩
     | 6,_,Hi =>
       refine stepH rfl fun K' hK=>?_;go_simp;exact hK.o _ _ ⟨HI.o.pc Hi.o ((Below.refl W.heap.size W).alloc (Nat.le_refl _) (.cells #[.bool false,.slice none 0 0,.slice none 0 0] 49)) ⟨W.heap.size,rfl,HI.o.world.size,SBk.new _ _ _⟩,Dst.right (by decide) rfl (by decide) (by rw[HI.o.tsize];simp) (HI.o.fresh (i:=5) (by decide) (fun _ _ h=>h))⟩
     | n+7,h,_=>exact absurd h (by omega)
   · intro mf a W hI hD su
     have x0:a.tmps[10]? = some (.agg #[.bool q1.b,.slice q1.a q1.n q1.c,.slice q1.e q1.m q1.d]):=hI.sx su 0;obtain⟨v',x3,wu,e,oV⟩:=hI.slots 3 (by decide) (su 3 (by decide));obtain rfl:=e;have gy:=hid oV;clear oV;obtain⟨v',x4,w9,e,l5⟩:=hI.slots 4 (by decide) (su 4 (by decide));obtain rfl:=e;have u06:=hid l5;clear l5;have x4:a.tmps[14]? = some (.agg #[.bool w9.b,.slice w9.a w9.n w9.c,.slice w9.e w9.m w9.d]):=x4;obtain⟨v',x5,wm,e,bg,bn⟩:=hI.slots 5 (by decide) (su 5 (by decide));obtain rfl:=e;have si:=hid bg;clear bg;have u07:=hid bn;clear bn;have x5:a.tmps[5]? = some (.pointer (some ⟨wm,0,none⟩)):=x5;obtain⟨v',x6,wo,e,bq,bu⟩:=hI.slots 6 (by decide) (su 6 (by decide));obtain rfl:=e;have sj:=hid bq;clear bq;have u08:=hid bu;clear bu;have x6:a.tmps[6]? = some (.pointer (some ⟨wo,0,none⟩)):=x6;have hD:=hD (su 5 (by decide)) (su 6 (by decide))
     have hne:wm≠wo:=by
        intro e;apply hD
        show a.tmps[5]? = a.tmps[6]?
        rw[x5,x6,e]
     have HNE:=hid hne;clear hne hD;obtain ⟨p8,HI,HA⟩:=ak hI.world hI su;clear hI su;obtain ⟨K1,K2,R1⟩:=bA p8.o K1 K2 R1;have mi:=Lib.hid (rV.o.trans (p8.o.mono rV.o.size));have RXX:=gy;have RSQ:=u06;have K3:Hid (SBk W wm #[.bool false,.slice none 0 0,.slice none 0 0] 49):=u07;have K4:Hid (SBk W wo #[.bool false,.slice none 0 0,.slice none 0 0] 49):=u08;obtain ⟨u0u,u0v,u0w⟩:=aA K3.o rfl rfl rfl;obtain ⟨u0x,u0y,u0z⟩:=bC K3.o;obtain ⟨fq,fQ,ed⟩:=aA K4.o rfl rfl rfl;obtain ⟨u09,u0a,u0b⟩:=bC K4.o;have dk:=(bR (w:=W) (g':=wm) (by have:=si.o;have:=sj.o;have:=HNE.o;omega) (l:=q1.l) (i:=0) K4.o);simp only[storeAll,Lvv,QS.l]at dk;obtain⟨u0A,u0B,u0C⟩:=cells3 dk;clear dk;refine aZ (t:=1) ?_;refine stepH rfl fun K' hK=>?_;go_simp;refine hK.o _ _ ?_;clear hK;refine aZ (t:=0) ?_;refine stepH rfl fun K' hK=>?_;go_simp;refine hK.o _ _ ?_;clear hK;refine aV ?_;have s0:∀ {q':QS} {x':Rat},FQ W q' x'→FQ (storeAll W (wm) 0 q1.l) q' x':=fun h'=>bO _ 0 h' K3.o (by simp[bJ,Lvv,QS.l]) (by simp[aU,Lvv,QS.l]);have o0:∀ {g':Nat} {cs':Array Value} {T':TypeId},g'≠wm→SBk W g' cs' T'→SBk (storeAll W (wm) 0 q1.l) g' cs' T':=fun hg' h'=>bR hg' _ 0 h';have s1:∀ {q':QS} {x':Rat},FQ (storeAll W (wm) 0 q1.l) q' x'→FQ (storeAll (storeAll W (wm) 0 q1.l) (wo) 0 w9.l) q' x':=fun h'=>bO _ 0 h' (o0 (by have:=si.o;have:=sj.o;have:=HNE.o;omega) K4.o) (by simp[bJ,Lvv,QS.l]) (by simp[aU,Lvv,QS.l]);have o1:∀ {g':Nat} {cs':Array Value} {T':TypeId},g'≠wo→SBk (storeAll W (wm) 0 q1.l) g' cs' T'→SBk (storeAll (storeAll W (wm) 0 q1.l) (wo) 0 w9.l) g' cs' T':=fun hg' h'=>bR hg' _ 0 h';exact⟨rfl,wu,w9,wm,wo,(HI.o.finx ⟨x0,HI.o.sx HA.o 1,HI.o.sx HA.o 2,x3,x4,x5,x6,trivial⟩ rfl),(aj (l:=w9.l) (i:=0) (by have:=si.o;have:=sj.o;have:=HNE.o;omega) (aj (l:=q1.l) (i:=0) (by have:=si.o;have:=sj.o;have:=HNE.o;omega) mi.o)),(o1 (by have:=si.o;have:=sj.o;have:=HNE.o;omega) (o0 (by have:=si.o;have:=sj.o;have:=HNE.o;omega) K1.o)),(o1 (by have:=si.o;have:=sj.o;have:=HNE.o;omega) (o0 (by have:=si.o;have:=sj.o;have:=HNE.o;omega) K2.o)),(bR (by have:=si.o;have:=sj.o;have:=HNE.o;omega) (l:=w9.l) (i:=0) (eP K3.o)),(eP (bR (by have:=si.o;have:=sj.o;have:=HNE.o;omega) (l:=q1.l) (i:=0) K4.o)),(s1 (s0 R1.o)),(s1 (s0 RXX.o)),(s1 (s0 RSQ.o)),si.o,sj.o,HNE.o⟩
 rintro a' W1 ⟨wu,w9,wm,wo,rfl,z0,z1,z2,z3,z4,z5,z6,z7,z8,z9,z10⟩;obtain ⟨ny,K1,K2,K3,K4,R1,RXX,RSQ⟩:=jc z0 z1 z2 z3 z4 z5 z6 z7;have R5xW1:=z8;have R6xW1:=z9;have NEW1:=z10;clear z0 z1 z2 z3 z4 z5 z6 z7 z8 z9 z10;simp only[putL,List.setIfInBounds_toArray,List.set_cons_zero,List.set_cons_succ];go_wp2_with fail
 with_reducible refine(CZ.o _).mono ?_
 rintro e W2 ⟨q_1,rfl,bv,hb⟩;obtain ⟨K1,K2,K3,K4,R1,RXX,RSQ⟩:=iq hb K1 K2 K3 K4 R1 RXX RSQ;have d9:=hbt ny hb;have RS:=hid bv;clear hb bv;go_wp2_with fail
 with_reducible refine(CZ.o _).mono ?_
 rintro e W3 ⟨bM,rfl,bV,hb⟩;obtain ⟨K1,K2,K3,K4,R1,RXX,RSQ,RS⟩:=jQ hb K1 K2 K3 K4 R1 RXX RSQ RS;have l6:=hbt d9 hb;have RL:=hid bV;clear hb bV;go_upto_region 3 with fail
 refine av W3 [(q_1.l.toArray,49),(bM.l.toArray,49)] rfl ?_;have L7:=K1.o.lt;have L8:=K2.o.lt;have L9:=K3.o.lt;have L10:=K4.o.lt;have L11:=l6.o.size;rintro W4 ⟨k5,k6,hb⟩;have hb:Below W3.heap.size W3 W4:=hb;obtain ⟨K1,K2,K3,K4,R1,RXX,RSQ,RS,RL⟩:=jd hb K1 K2 K3 K4 R1 RXX RSQ RS RL;have dh:=hbt l6 hb;have K5:=hid k5;have K6:=hid k6;clear k5 k6 hb;go_wp2;go_loopw [9] (fun ii wr=>∃ kx:Nat,kx≤n+1∧ii=.int .i64 (kx:Int)∧Hid (Below w.heap.size w wr)∧Hid (SBk wr (w.heap.size+1) #[.bool false,.slice none 0 0,.slice none 0 0,.bool false,.slice none 0 0,.slice none 0 0] 55)∧∃ qp qs ql:QS,Hid (SBk wr (wm) qp.l.toArray 49)∧Hid (SBk wr (wo) w9.l.toArray 49)∧Hid (SBk wr (W3.heap.size) qs.l.toArray 49)∧Hid (SBk wr (W3.heap.size+1) ql.l.toArray 49)∧Hid (FQ wr qp (pw kx))∧Hid (FQ wr w9 sq)∧Hid (FQ wr qs (sm kx))∧Hid (FQ wr ql (sm (kx-1)))) (fun ii _=>n+1-(intOf ii).toNat)
 case atStart=>exact⟨0,by omega,rfl,dh,K2,q1,q_1,bM,K3,K4,K5,K6,by rw[HP0.o];exact R1,RSQ,by rw[HS0.o];exact RS,by rw[show sm (0-1)=0 from HS0.o];exact RL⟩
 case round =>
  obtain⟨kx,hin,rfl,rV,K4,qp,qs,ql,K5,K6,K7,K8,RP,RQ6,RS,RL⟩:=hrel;have hi0:(0:Int)≤(kx:Int):=by omega
  have wi:IntKind.i64.wrap ((kx:Int)+1)=(kx:Int)+1:=IntWalk.i64_in _ (by omega);have w2:IntKind.i64.wrap (2*(kx:Int))=2*(kx:Int):=IntWalk.i64_in _ (by omega);have w3:IntKind.i64.wrap (2*(kx:Int)+1)=2*(kx:Int)+1:=IntWalk.i64_in _ (by omega);by_cases hlt:kx≤n
  · have hlt1:(kx:Int)≤(n:Int):=by omega
    obtain ⟨CF,CM,CA,CP⟩:=aN (HF.o kx hlt) (HM.o kx hlt) (HA.o kx hlt) (HP.o kx hlt);clear RL;generalize hs1:sm (kx+1)=s1 at *;generalize hp1:pw (kx+1)=p1 at *;generalize hs0:sm kx=s0 at *;obtain ⟨ES,EP⟩:=aB hs1 hp1;have EL:=hid (show sm (kx+1-1)=s0 from hs0);clear hs1 hp1 hs0;generalize pw kx=p0 at *;generalize fr kx=f0 at *;generalize tm kx=t0 at *;obtain ⟨lg,ll,lv⟩:=aA K7.o rfl rfl rfl;obtain ⟨af,u00,u01⟩:=aA K8.o rfl rfl rfl;obtain ⟨u0c,u0d,u0e⟩:=bC K8.o;go_upto_region 7 with fail
    clear lg ll lv af u0c u00 u0d u01 u0e
    refine ib (fun V=>Below w.heap.size w V∧SBk V (w.heap.size+1) #[.bool false,.slice none 0 0,.slice none 0 0,.bool false,.slice none 0 0,.slice none 0 0] 55∧SBk V (wm) qp.l.toArray 49∧SBk V (wo) w9.l.toArray 49∧SBk V (W3.heap.size) qs.l.toArray 49∧SBk V (W3.heap.size+1) qs.l.toArray 49∧FQ V qp p0∧FQ V w9 sq∧FQ V qs s0) (by
        rw[← iM];have s0:∀ {q':QS} {x':Rat},FQ wr q' x'→FQ (storeAll wr (W3.heap.size+1) 0 qs.l) q' x':=fun h'=>bO _ 0 h' K8.o (by simp[bJ,Lvv,QS.l]) (by simp[aU,Lvv,QS.l]);have o0:∀ {g':Nat} {cs':Array Value} {T':TypeId},g'≠W3.heap.size+1→SBk wr g' cs' T'→SBk (storeAll wr (W3.heap.size+1) 0 qs.l) g' cs' T':=fun hg' h'=>bR hg' _ 0 h'
        exact⟨(aj (l:=qs.l) (i:=0) (by omega) rV.o),(o0 (by omega) K4.o),(o0 (by omega) K5.o),(o0 (by omega) K6.o),(o0 (by omega) K7.o),(eP K8.o),(s0 RP.o),(s0 RQ6.o),(s0 RS.o)⟩) ?_
    rintro V1 ⟨hb,z0,z1,z2,z3,z4,z5,z6,z7⟩;obtain ⟨ny,K4,K5,K6,K7,K8,RP,RQ6,RS⟩:=bQ hb z0 z1 z2 z3 z4 z5 z6 z7;clear hb z0 z1 z2 z3 z4 z5 z6 z7;go_wp2_with fail
    refine ay (fun a0 a' V=>∃ (sw:QS) (rM:QS) (ww:QS),a'=⟨putL [(23,qs.v),(24,qp.v),(25,.int .i64 (kx:Int)),(26,.int .i64 (2*(kx:Int))),(27,.int .i64 (2*(kx:Int)+1)),(28,sw.v),(29,rM.v),(30,ww.v)] a0.tmps,a0.defers⟩∧Below w.heap.size w V∧SBk V (w.heap.size+1) #[.bool false,.slice none 0 0,.slice none 0 0,.bool false,.slice none 0 0,.slice none 0 0] 55∧SBk V (wm) qp.l.toArray 49∧SBk V (wo) w9.l.toArray 49∧SBk V (W3.heap.size) ww.l.toArray 49∧SBk V (W3.heap.size+1) qs.l.toArray 49∧FQ V qp p0∧FQ V w9 sq∧FQ V qs s0∧FQ V sw f0∧FQ V rM t0∧FQ V ww s1) ?_ ?_
    · refine aH 8 1 [23,24,25,26,27,28,29,30] [Rel.val (qs.v),Rel.val (qp.v),Rel.val (.int .i64 (kx:Int)),Rel.val (.int .i64 (2*(kx:Int))),Rel.val (.int .i64 (2*(kx:Int)+1)),Rel.q f0,Rel.q t0,Rel.q s1] ?_ ?_
      · intro mf a W i HI hD Hr him
        obtain⟨y7,y5,y9⟩:=HI.o.s3 7 5 9;obtain⟨lg,ll,lv⟩:=cells3 (K7.o.below HI.o.world);obtain⟨kz,kM,kV⟩:=cells3 (K5.o.below HI.o.world);obtain⟨X2,X3,X4⟩:=HI.o.g3 2 25 3 26 4 27;obtain⟨X1,X0⟩:=HI.o.g2 1 24 0 23
        match i,him,Hr with
        | 0,_,Hi|1,_,Hi|2,_,Hi|3,_,Hi|4,_,Hi =>
          try have x2:=X2.t Hi.o
          try have x3:=X3.t Hi.o
          refine stepH rfl fun K' hK=>?_;go_simp;exact hK.o _ _ (HI.o.pw Hi.o)
        | 5,_,Hi =>
          have x4:=X4.q Hi.o;refine stepH rfl fun K' hK=>?_;go_simp;with_reducible refine(CF.o _).mono ?_
          rintro e W' ⟨sw,rfl,u0f,hb⟩;exact hK.o _ _ ⟨HI.o.pc Hi.o hb ⟨sw,rfl,u0f⟩,trivial⟩
        | 6,_,Hi =>
          have x1:=X1.q Hi.o;obtain⟨sw,x5,dn⟩:=qAt HI.o 5 28 Hi.o (by kernel_rfl);refine stepH rfl fun K' hK=>?_;go_simp;with_reducible refine(CM.o _ _ _ (RP.o.below HI.o.world) dn.o).mono ?_
          rintro e W' ⟨rM,rfl,u0g,hb⟩;exact hK.o _ _ ⟨HI.o.pc Hi.o hb ⟨rM,rfl,u0g⟩,trivial⟩
        | 7,_,Hi =>
          have x0:=X0.q Hi.o;obtain⟨rM,x6,dx⟩:=qAt HI.o 6 29 Hi.o (by kernel_rfl);refine stepH rfl fun K' hK=>?_;go_simp;with_reducible refine(CA.o _ _ _ (RS.o.below HI.o.world) dx.o).mono ?_
          rintro e W' ⟨ww,rfl,u0h,hb⟩;exact hK.o _ _ ⟨HI.o.pc Hi.o hb ⟨ww,rfl,u0h⟩,trivial⟩
        | n+8,h,_=>exact absurd h (by omega)
      · intro mf a W HI hD HA
        obtain⟨sw,x5,dn⟩:=qEnd HI.o HA.o 5 28;obtain⟨rM,x6,dx⟩:=qEnd HI.o HA.o 6 29;obtain⟨ww,x7,u0i⟩:=qEnd HI.o HA.o 7 30;have p8:=hid HI.o.world;obtain ⟨K4,K5,K6,K7,K8,RP,RQ6,RS⟩:=jQ p8.o K4 K5 K6 K7 K8 RP RQ6 RS;have mi:=Lib.hid (ny.o.trans (p8.o.mono ny.o.size));have RF:=dn;have RT:=dx;have RS1:=u0i;obtain⟨lg,ll,lv⟩:=cells3 K7.o;obtain⟨u0D,u0E,u0F⟩:=frz3 K7.o;have y7:=HI.o.rst 7 rfl;dsimp only[QS.v]at x7;refine aZ (t:=0) ?_;refine stepH rfl fun K' hK=>?_;go_simp;refine hK.o _ _ ?_;clear hK;refine aV ?_;rw[← iM];have s0:∀ {q':QS} {x':Rat},FQ W q' x'→FQ (storeAll W (W3.heap.size) 0 ww.l) q' x':=fun h'=>bO _ 0 h' K7.o (by simp[bJ,Lvv,QS.l]) (by simp[aU,Lvv,QS.l]);have o0:∀ {g':Nat} {cs':Array Value} {T':TypeId},g'≠W3.heap.size→SBk W g' cs' T'→SBk (storeAll W (W3.heap.size) 0 ww.l) g' cs' T':=fun hg' h'=>bR hg' _ 0 h';exact⟨rfl,sw,rM,ww,(HI.o.finx ⟨HI.o.sx HA.o 0,HI.o.sx HA.o 1,HI.o.sx HA.o 2,HI.o.sx HA.o 3,HI.o.sx HA.o 4,x5,x6,x7,trivial⟩ rfl),(aj (l:=ww.l) (i:=0) (by omega) mi.o),(o0 (by omega) K4.o),(o0 (by omega) K5.o),(o0 (by omega) K6.o),(eP K7.o),(o0 (by omega) K8.o),(s0 RP.o),(s0 RQ6.o),(s0 RS.o),(s0 RF.o),(s0 RT.o),(s0 RS1.o)⟩
    rintro a' V2 ⟨sw,rM,ww,rfl,z0,z1,z2,z3,z4,z5,z6,z7,z8,z9,z10,z11⟩;obtain ⟨d9,K4,K5,K6,K7,K8,RP,RQ6,RS⟩:=bQ z0 z1 z2 z3 z4 z5 z6 z7 z8;obtain ⟨RF,RT,RS1⟩:=ak z9 z10 z11;clear z0 z1 z2 z3 z4 z5 z6 z7 z8 z9 z10 z11;simp only[putL,List.setIfInBounds_toArray,List.set_cons_zero,List.set_cons_succ];obtain ⟨kz,kM,kV⟩:=aA K5.o rfl rfl rfl;obtain ⟨u0j,u0k,u0l⟩:=aA K6.o rfl rfl rfl;go_wp2_with fail
    with_reducible refine(CP.o _ _ _ RP.o RQ6.o).mono ?_
    rintro e V3 ⟨ma,rfl,u02,hb⟩;clear kz kM kV u0j u0k u0l;obtain ⟨K4,K5,K6,K7,K8,RP,RQ6,RS,RF⟩:=jd hb K4 K5 K6 K7 K8 RP RQ6 RS RF;obtain ⟨RT,RS1⟩:=aK hb RT RS1;have l6:=hbt d9 hb;have RP1:=hid u02;clear hb u02;obtain ⟨kz,kM,kV⟩:=aA K5.o rfl rfl rfl;obtain ⟨u0m,u0n,u0o⟩:=bC K5.o;go_upto_region 5 with fail
    clear kz u0m kM u0n kV u0o
    refine ib (fun V=>Below w.heap.size w V∧SBk V (w.heap.size+1) #[.bool false,.slice none 0 0,.slice none 0 0,.bool false,.slice none 0 0,.slice none 0 0] 55∧SBk V (wm) ma.l.toArray 49∧SBk V (wo) w9.l.toArray 49∧SBk V (W3.heap.size) ww.l.toArray 49∧SBk V (W3.heap.size+1) qs.l.toArray 49∧FQ V qp p0∧FQ V w9 sq∧FQ V qs s0∧FQ V sw f0∧FQ V rM t0∧FQ V ww s1∧FQ V ma p1) (by
        rw[← iM];have s0:∀ {q':QS} {x':Rat},FQ V3 q' x'→FQ (storeAll V3 (wm) 0 ma.l) q' x':=fun h'=>bO _ 0 h' K5.o (by simp[bJ,Lvv,QS.l]) (by simp[aU,Lvv,QS.l]);have o0:∀ {g':Nat} {cs':Array Value} {T':TypeId},g'≠wm→SBk V3 g' cs' T'→SBk (storeAll V3 (wm) 0 ma.l) g' cs' T':=fun hg' h'=>bR hg' _ 0 h'
        exact⟨(aj (l:=ma.l) (i:=0) (by omega) l6.o),(o0 (by omega) K4.o),(eP K5.o),(o0 (by omega) K6.o),(o0 (by omega) K7.o),(o0 (by omega) K8.o),(s0 RP.o),(s0 RQ6.o),(s0 RS.o),(s0 RF.o),(s0 RT.o),(s0 RS1.o),(s0 RP1.o)⟩) ?_
    rintro V4 ⟨hb,z0,z1,z2,z3,z4,z5,z6,z7,z8,z9,z10,z11⟩;obtain ⟨dh,K4,K5,K6,K7,K8,RP,RQ6,RS⟩:=bQ hb z0 z1 z2 z3 z4 z5 z6 z7;obtain ⟨RF,RT,RS1,RP1⟩:=aN z8 z9 z10 z11;clear hb z0 z1 z2 z3 z4 z5 z6 z7 z8 z9 z10 z11;go_wp2;go_roundw
    case rel=>exact⟨kx+1,by omega,by go_num,dh,K4,ma,ww,qs,K5,K6,K7,K8,by rw[EP.o];exact RP1,RQ6,by rw[ES.o];exact RS1,by rw[EL.o];exact RS⟩
    case measure=>simp[intOf];omega
  · have hge:decide ((kx:Int)≤(n:Int))=false:=by rw[decide_eq_false_iff_not];omega
    obtain rfl:kx=n+1:=by omega
    rw[show n+1-1=n from rfl]at RL;generalize sm (n+1)=s0 at *;generalize sm n=l0 at *;go_wp2_with fail
    refine ay (fun a0 a' V=>∃ (pq:QS) (pu:QS) (ol:QS) (oM:QS) (u6:QS) (uu:QS),a'=⟨putL [(34,ql.v),(35,Qii pq pu),(36,qs.v),(37,Qii ol oM),(38,Qii u6 uu)] a0.tmps,a0.defers⟩∧Below w.heap.size w V∧SBk V (w.heap.size+1) #[.bool u6.b,.slice u6.a u6.n u6.c,.slice u6.e u6.m u6.d,.bool uu.b,.slice uu.a uu.n uu.c,.slice uu.e uu.m uu.d] 55∧SBk V (W3.heap.size) qs.l.toArray 49∧SBk V (W3.heap.size+1) ql.l.toArray 49∧FQ V qs s0∧FQ V ql l0∧FQ V pq l0∧FQ V pu l0∧FQ V ol s0∧FQ V oM s0∧FQ V u6 za∧FQ V uu zb) ?_ ?_
    · refine aH 5 1 [34,35,36,37,38] [Rel.val (ql.v),Rel.qi l0 l0,Rel.val (qs.v),Rel.qi s0 s0,Rel.qi za zb] ?_ ?_
      · intro mf a W i HI hD Hr him
        obtain⟨y8,y7⟩:=HI.o.s2 8 7;obtain⟨af,u00,u01⟩:=cells3 (K8.o.below HI.o.world);obtain⟨lg,ll,lv⟩:=cells3 (K7.o.below HI.o.world);obtain⟨X0,X2⟩:=HI.o.g2 0 34 2 36
        match i,him,Hr with
        | 0,_,Hi|2,_,Hi =>
          refine stepH rfl fun K' hK=>?_;go_simp;exact hK.o _ _ (HI.o.pw Hi.o)
        | 1,_,Hi =>
          have x0:=X0.q Hi.o;refine stepH rfl fun K' hK=>?_;go_simp;with_reducible refine(HJ.o _ _ _ (RL.o.below HI.o.world)).mono ?_
          rintro e W' ⟨pq,pu,rfl,rn2_1a,rn2_1b,hb⟩;exact hK.o _ _ ⟨HI.o.pc Hi.o hb ⟨pq,pu,rfl,rn2_1a,rn2_1b⟩,trivial⟩
        | 3,_,Hi =>
          have x2:=X2.q Hi.o;refine stepH rfl fun K' hK=>?_;go_simp;with_reducible refine(HJ.o _ _ _ (RS.o.below HI.o.world)).mono ?_
          rintro e W' ⟨ol,oM,rfl,rn2_3a,rn2_3b,hb⟩;exact hK.o _ _ ⟨HI.o.pc Hi.o hb ⟨ol,oM,rfl,rn2_3a,rn2_3b⟩,trivial⟩
        | 4,_,Hi =>
          obtain⟨pq,pu,x1,dz,dX⟩:=qAti HI.o 1 35 Hi.o (by kernel_rfl);dsimp only[Qii]at x1;obtain⟨ol,oM,x3,dY,cO⟩:=qAti HI.o 3 37 Hi.o (by kernel_rfl);dsimp only[Qii]at x3;refine stepH rfl fun K' hK=>?_;go_simp;with_reducible refine(CN.o _ _ _ _ _ dz.o dX.o dY.o cO.o).mono ?_
          rintro e W' ⟨u6,uu,rfl,rn2_4a,rn2_4b,hb⟩;exact hK.o _ _ ⟨HI.o.pc Hi.o hb ⟨u6,uu,rfl,rn2_4a,rn2_4b⟩,trivial⟩
        | n+5,h,_=>exact absurd h (by omega)
      · intro mf a W HI hD HA
        obtain⟨pq,pu,x1,dz,dX⟩:=iO HI.o HA.o 1 35;obtain⟨ol,oM,x3,dY,cO⟩:=iO HI.o HA.o 3 37;obtain⟨u6,uu,x4,u0p,u0q⟩:=iO HI.o HA.o 4 38;have p8:=hid HI.o.world;obtain ⟨K4,K7,K8,RS,RL⟩:=gm p8.o K4 K7 K8 RS RL;have mi:=Lib.hid (rV.o.trans (p8.o.mono rV.o.size));have RJA:=dz;have RJB:=dX;have RJC:=dY;have RJD:=cO;have RZA:=u0p;have RZB:=u0q;obtain ⟨fq,fQ,ed,u03,u04,u05⟩:=bE K4.o rfl rfl rfl rfl rfl rfl;obtain ⟨u09,u0a,u0b,u0G,u0H,u0I⟩:=dP K4.o;have y4:=HI.o.rst 4 rfl;dsimp only[Qii]at x4;refine aZ (t:=0) ?_;refine stepH rfl fun K' hK=>?_;go_simp;refine hK.o _ _ ?_;clear hK;refine aV ?_;rw[← dL];have s0:∀ {q':QS} {x':Rat},FQ W q' x'→FQ (storeAll W (w.heap.size+1) 0 [.bool u6.b,.slice u6.a u6.n u6.c,.slice u6.e u6.m u6.d,.bool uu.b,.slice uu.a uu.n uu.c,.slice uu.e uu.m uu.d]) q' x':=fun h'=>bO _ 0 h' K4.o (by simp[bJ]) (by simp[aU]);have o0:∀ {g':Nat} {cs':Array Value} {T':TypeId},g'≠w.heap.size+1→SBk W g' cs' T'→SBk (storeAll W (w.heap.size+1) 0 [.bool u6.b,.slice u6.a u6.n u6.c,.slice u6.e u6.m u6.d,.bool uu.b,.slice uu.a uu.n uu.c,.slice uu.e uu.m uu.d]) g' cs' T':=fun hg' h'=>bR hg' _ 0 h';exact⟨rfl,pq,pu,ol,oM,u6,uu,(HI.o.finx ⟨HI.o.sx HA.o 0,x1,HI.o.sx HA.o 2,x3,x4,trivial⟩ rfl),(aj (l:=[.bool u6.b,.slice u6.a u6.n u6.c,.slice u6.e u6.m u6.d,.bool uu.b,.slice uu.a uu.n uu.c,.slice uu.e uu.m uu.d]) (i:=0) (by omega) mi.o),(dC K4.o),(o0 (by omega) K7.o),(o0 (by omega) K8.o),(s0 RS.o),(s0 RL.o),(s0 RJA.o),(s0 RJB.o),(s0 RJC.o),(s0 RJD.o),(s0 RZA.o),(s0 RZB.o)⟩
    rintro a' V1 ⟨pq,pu,ol,oM,u6,uu,rfl,z0,z1,z2,z3,z4,z5,z6,z7,z8,z9,z10,z11⟩;obtain ⟨ny,K4,K7,K8,RS,RL,RJA,RJB,RJC⟩:=bQ z0 z1 z2 z3 z4 z5 z6 z7 z8;obtain ⟨RJD,RZA,RZB⟩:=ak z9 z10 z11;clear z0 z1 z2 z3 z4 z5 z6 z7 z8 z9 z10 z11;simp only[putL,List.setIfInBounds_toArray,List.set_cons_zero,List.set_cons_succ];go_wp2;obtain ⟨fq,fQ,ed,u03,u04,u05⟩:=bE K4.o rfl rfl rfl rfl rfl rfl;exact bodyPost_ret (v:=.agg #[.bool u6.b,.slice u6.a u6.n u6.c,.slice u6.e u6.m u6.d,.bool uu.b,.slice uu.a uu.n uu.c,.slice uu.e uu.m uu.d]) (by simp[results,Tryz.results99,go_sem,fq,fQ,ed,u03,u04,u05]) rfl ⟨_,_,rfl,RZA.o,RZB.o,ny.o⟩
