/- texts -/
import Derived.Test.YtkiklcbhglpooaaGreatDoorQj
import Derived.Shelf.Strings.SlTrimAscii
import Derived.Test.YtkiklcbhglpooaaGreatDoorMz36q
namespace Go.Proofs.YtkiklcbhglpooaaGreatDoor
open Go.RowKit Go.Gb
theorem z1H (a b:Int)(hb:b≠0):(Rat.divInt a b).num.natAbs≤a.natAbs∧(Rat.divInt a b).den≤b.natAbs:=by
 rcases Int.lt_or_gt_of_ne hb with h|h
 · obtain⟨n,hn⟩:∃ n:Nat,b = -(n:Int):=⟨b.natAbs,by omega⟩
   subst hn;have h2:=z3g (-a) n (by omega);rw[Rat.divInt_neg',Rat.divInt_ofNat];rw[Int.natAbs_neg]at h2;rw[Int.natAbs_neg,Int.natAbs_natCast];exact h2
 · obtain⟨n,hn⟩:∃ n:Nat,b=(n:Int):=⟨b.natAbs,by omega⟩
   subst hn;rw[Rat.divInt_ofNat,Int.natAbs_natCast];exact z3g a n (by omega)
theorem pO {k:Nat}{a b:Int}(hb:b≠0)(ha:Sm k a.natAbs)(h:Sm k b.natAbs):SmQ k (Rat.divInt a b):=by
 obtain⟨e1,e2⟩:=z1H a b hb;exact⟨ha.le e1,h.le e2⟩
theorem uw {w:World}{v:Value}{p q:Addr}:(w.setCell p v).frozen? q=w.frozen? q:=by simp
theorem zT {q:Rat}(h1:q.num.natAbs<1000)(h2:q.den<1000):aP q:=⟨(show Sm 3 _ by unfold Sm;omega).mono (by decide),(show Sm 3 _ by unfold Sm;omega).mono (by decide)⟩
theorem qnd (q:Rat)(n:Int)(d:Nat)(a x y:ByteArray)(h:q.num=n∧q.den=d∧Sq q=a∧Sz n=x∧Sz (d:Int)=y):Sq q=a∧Fv q=.agg #[.string x,.string y]:=by
 obtain⟨h1,h2,h3,h4,h5⟩:=h;refine⟨h3,?_⟩;unfold Fv
 rw[h1,h2,h4,h5]
theorem q5:Sq 5=⟨#[53]⟩∧Fv 5=.agg #[.string ⟨#[53]⟩,.string ⟨#[49]⟩]:=qnd _ 5 1 _ _ _ (by decide +kernel)
theorem q_0:Sq (0:Rat)=⟨#[48]⟩:=by decide +kernel
theorem q_1:Sq (1:Rat)=⟨#[49]⟩:=by decide +kernel
end Go.Proofs.YtkiklcbhglpooaaGreatDoor
set_option maxRecDepth 100000
set_option maxHeartbeats 20000000
open Go.Lib (hid)
namespace Go.Proofs.YtkiklcbhglpooaaGreatDoor
open Go.RowKit Go.Gb
theorem z0Y (n1 n2 z n:Int)(en1 en2 dn:Nat)(p1:Option Addr)(c1:Nat)(s1:Option Addr)(d1:Nat)(p2:Option Addr)(c2:Nat)(s2:Option Addr)(d2:Nat)(w:World)(h0:∀ s1 d1 s2 d2 W,RN W (.slice s1 (ag en1) d1) en1→RN W (.slice s2 (ag en2) d2) en2→CR 73 #[.slice s1 (ag en1) d1,.slice s2 (ag en2) d2] W (.int .i64 0))(h1:∀ p1 c1 p2 c2 W,RN W (.slice p1 (aa n1) c1) n1.natAbs→RN W (.slice p2 (aa n2) c2) n2.natAbs→CZ 77 #[.agg #[.bool (ah n1),.slice p1 (aa n1) c1],.agg #[.bool (ah n2),.slice p2 (aa n2) c2]] W z)(h3:∀ p1 c1 s2 d2 W,RN W (.slice p1 (aa z) c1) z.natAbs→RN W (.slice s2 (ag en1) d2) en1→CF 76 #[.agg #[.bool (ah z),.slice p1 (aa z) c1],.slice s2 (ag en1) d2] W n dn)(r1:RN w (.slice p1 (aa n1) c1) n1.natAbs)(t1:RN w (.slice s1 (ag en1) d1) en1)(r2:RN w (.slice p2 (aa n2) c2) n2.natAbs)(t2:RN w (.slice s2 (ag en2) d2) en2) :
 CF 29 #[.agg #[.bool (ah n1),.slice p1 (aa n1) c1,.slice s1 (ag en1) d1],.agg #[.bool (ah n2),.slice p2 (aa n2) c2,.slice s2 (ag en2) d2]] w n dn:=by
 obtain ⟨C0,C1,C3,R1,T1,R2,T2⟩:=dQ h0 h1 h3 r1 t1 r2 t2;clear h0 h1 h3 r1 t1 r2 t2;go_enter Tryz.func29,Tryz.ntmps29
 go_upto_region 1 with fail
 refine ak w [(#[.bool (ah n1),.slice p1 (aa n1) c1,.slice s1 (ag en1) d1],50),(#[.bool (ah n2),.slice p2 (aa n2) c2,.slice s2 (ag en2) d2],50),(#[.bool false,.slice none 0 0,.slice none 0 0],50)] rfl ?_;rintro W0 ⟨k1,k2,k3,hb⟩;have ol:=hid (show Below w.heap.size w W0 from hb);obtain ⟨R1,T1,R2,T2⟩:=bR ol.o R1 T1 R2 T2;obtain ⟨K1,K2,K3⟩:=au k1 k2 k3;clear k1 k2 k3 hb;have gy:=K1.o.cell (i:=2) rfl;have bn:=K2.o.cell (i:=2) rfl;go_wp2_with fail
 with_reducible refine(C0.o _ _ _ _ _ T1.o T2.o).mono ?_
 rintro e W1 ⟨rfl,hb⟩;clear gy bn;obtain ⟨K1,K2,K3,R1,T1,R2⟩:=yO hb K1 K2 K3 R1 T1 R2;have ma:=hbt ol hb;clear hb;go_wp2_with fail
 refine az (fun a0 a' V=>∃ mf mi rV p8 pq pu,a'=⟨putL [(13,.pointer (some ⟨w.heap.size,0,none⟩)),(14,.agg #[.bool (ah n1),.slice p1 (aa n1) c1]),(15,.pointer (some ⟨w.heap.size+1,0,none⟩)),(16,.agg #[.bool (ah n2),.slice p2 (aa n2) c2]),(17,.agg #[.bool (ah z),.slice mf (aa z) mi]),(18,.pointer (some ⟨w.heap.size,2,none⟩)),(19,.slice s1 (ag en1) d1),(20,.agg #[.bool (ah n),.slice rV (aa n) p8,.slice pq (ag dn) pu])] a0.tmps,a0.defers⟩∧Below w.heap.size w V∧SBk V (w.heap.size+1+1) #[.bool (ah n),.slice rV (aa n) p8,.slice pq (ag dn) pu] 50∧RN V (.slice rV (aa n) p8) (n).natAbs∧RN V (.slice pq (ag dn) pu) (dn)) ?_ ?_
 · refine aL 8 1 [13,14,15,16,17,18,19,20] [Rel.val (.pointer (some ⟨w.heap.size,0,none⟩)),Rel.val (.agg #[.bool (ah n1),.slice p1 (aa n1) c1]),Rel.val (.pointer (some ⟨w.heap.size+1,0,none⟩)),Rel.val (.agg #[.bool (ah n2),.slice p2 (aa n2) c2]),Rel.int z,Rel.val (.pointer (some ⟨w.heap.size,2,none⟩)),Rel.val (.slice s1 (ag en1) d1),⟨fun v W=>∃ p c s d,v=.agg #[.bool (ah n),.slice p (aa n) c,.slice s (ag dn) d]∧RN W (.slice p (aa n) c) (n).natAbs∧RN W (.slice s (ag dn) d) (dn),fun _ _ _ ⟨p,c,s,d,e,h0,h1⟩ hb=>⟨p,c,s,d,e,h0.below hb,h1.below hb⟩⟩] ?_ ?_
   · intro fq a W i HI hD Hr him
     obtain⟨y2,y3⟩:=HI.o.s2 2 3;obtain ⟨ed,d9⟩:=ay (K1.o.below HI.o.world) rfl rfl;obtain ⟨bV,af⟩:=ay (K2.o.below HI.o.world) rfl rfl;have gy:=(K1.o.below HI.o.world).cell (i:=2) rfl;obtain⟨X0,X2,X1,X3,X5,X6⟩:=HI.o.g6 0 13 2 15 1 14 3 16 5 18 6 19
     match i,him,Hr with
     | 0,_,Hi|1,_,Hi|2,_,Hi|3,_,Hi =>
       try have x0:=X0.t Hi.o
       try have x2:=X2.t Hi.o
       refine aA rfl fun K' hK=>?_;go_simp;exact hK.o _ _ (HI.o.pw Hi.o)
     | 4,_,Hi =>
       have x1:=X1.q Hi.o;have x3:=X3.q Hi.o;refine aA rfl fun K' hK=>?_;go_simp;with_reducible refine(C1.o _ _ _ _ _ (R1.o.below HI.o.world) (R2.o.below HI.o.world)).mono ?_
       rintro e W' ⟨mf,mi,rfl,kz,hb⟩;exact hK.o _ _ ⟨HI.o.pc Hi.o hb ⟨mf,mi,rfl,kz⟩,trivial⟩
     | 5,_,Hi|6,_,Hi =>
       try have x5:=X5.t Hi.o
       refine aA rfl fun K' hK=>?_;go_simp;exact hK.o _ _ (HI.o.pw Hi.o)
     | 7,_,Hi =>
       obtain⟨v',x4,mf,mi,e,kz⟩:=HI.o.at (i:=4) Hi.o (by kernel_rfl) (by decide);obtain rfl:=e;have x4:a.tmps[17]? = some (.agg #[.bool (ah z),.slice mf (aa z) mi]):=x4;have bq:=hid kz;clear kz;have x6:=X6.q Hi.o;refine aA rfl fun K' hK=>?_;go_simp;with_reducible refine(C3.o _ _ _ _ _ bq.o (T1.o.below HI.o.world)).mono ?_
       rintro e W' ⟨rV,p8,pq,pu,rfl,dx,dz,hb⟩;exact hK.o _ _ ⟨HI.o.pc Hi.o hb ⟨rV,p8,pq,pu,rfl,dx,dz⟩,trivial⟩
     | n+8,h,_=>exact absurd h (by omega)
   · intro fq a W HI hD HA
     obtain⟨v',x4,mf,mi,e,kz⟩:=HI.o.slots 4 (by decide) (HA.o 4 (by decide));obtain rfl:=e;have bq:=hid kz;clear kz;obtain⟨v',x7,rV,p8,pq,pu,e,dx,dz⟩:=HI.o.slots 7 (by decide) (HA.o 7 (by decide));obtain rfl:=e;have u07:=hid dx;clear dx;have u08:=hid dz;clear dz;have x7:a.tmps[20]? = some (.agg #[.bool (ah n),.slice rV (aa n) p8,.slice pq (ag dn) pu]):=x7;have l5:=hid HI.o.world;obtain ⟨fQ,K3⟩:=aD (ma.o.trans (l5.o.mono ma.o.size)) (K3.o.below l5.o);have RZ:=bq;have RQ:=u07;have TQ:=u08;have y4:=HI.o.rst 4 rfl;obtain ⟨l6,lg,lv⟩:=aC K3.o rfl rfl rfl;obtain ⟨u00,u01,u02⟩:=bB K3.o;refine aZ (t:=0) ?_;refine aA rfl fun K' hK=>?_;go_simp;refine hK.o _ _ ?_;clear hK;refine aV ?_;have s0:∀ {v':Value} {n':Nat},RN W v' n'→RN (storeAll W (w.heap.size+1+1) 0 [.bool (ah n),.slice rV (aa n) p8,.slice pq (ag dn) pu]) v' n':=fun h'=>bf _ h' K3.o (by simp[bJ]) (by simp[aW]);exact⟨rfl,mf,mi,rV,p8,pq,pu,(HI.o.finx ⟨HI.o.sx HA.o 0,HI.o.sx HA.o 1,HI.o.sx HA.o 2,HI.o.sx HA.o 3,x4,HI.o.sx HA.o 5,HI.o.sx HA.o 6,x7,trivial⟩ rfl),(aj (l:=[.bool (ah n),.slice rV (aa n) p8,.slice pq (ag dn) pu]) (i:=0) (by omega) fQ.o),(bX (l:=[.bool (ah n),.slice rV (aa n) p8,.slice pq (ag dn) pu]) (i:=0) K3.o),(s0 RQ.o),(s0 TQ.o)⟩
 rintro a' W2 ⟨mf,mi,rV,p8,pq,pu,rfl,z0,z1,z2,z3⟩;obtain ⟨bu,K3,RQ,TQ⟩:=aM z0 z1 z2 z3;clear z0 z1 z2 z3;simp only[putL,List.setIfInBounds_toArray,List.set_cons_zero,List.set_cons_succ];go_wp2;obtain ⟨l6,lg,lv⟩:=aC K3.o rfl rfl rfl;exact bodyPost_ret (v:=.agg #[.bool (ah n),.slice rV (aa n) p8,.slice pq (ag dn) pu]) (by simp[results,Tryz.results29,go_sem,l6,lg,lv]) rfl ⟨_,_,_,_,rfl,RQ.o,TQ.o,bu.o⟩
open Go.Lib (hid)
theorem z2V (n1 n2 m n:Int)(en1 en2 f dn:Nat)(p1:Option Addr)(c1:Nat)(s1:Option Addr)(d1:Nat)(p2:Option Addr)(c2:Nat)(s2:Option Addr)(d2:Nat)(w:World)(h1:∀ p1 c1 s1 d1 W,RN W (.slice p1 (aa n2) c1) n2.natAbs→RN W (.slice s1 (ag en2) d1) en2→CF 105 #[.agg #[.bool (ah n2),.slice p1 (aa n2) c1,.slice s1 (ag en2) d1]] W m f)(h2:∀ p1 c1 s1 d1 p2 c2 s2 d2 W,RN W (.slice p1 (aa n1) c1) n1.natAbs→RN W (.slice s1 (ag en1) d1) en1→RN W (.slice p2 (aa m) c2) m.natAbs→RN W (.slice s2 (ag f) d2) f→CF 29 #[.agg #[.bool (ah n1),.slice p1 (aa n1) c1,.slice s1 (ag en1) d1],.agg #[.bool (ah m),.slice p2 (aa m) c2,.slice s2 (ag f) d2]] W n dn)(r1:RN w (.slice p1 (aa n1) c1) n1.natAbs)(t1:RN w (.slice s1 (ag en1) d1) en1)(r2:RN w (.slice p2 (aa n2) c2) n2.natAbs)(t2:RN w (.slice s2 (ag en2) d2) en2) :
 CF 106 #[.agg #[.bool (ah n1),.slice p1 (aa n1) c1,.slice s1 (ag en1) d1],.agg #[.bool (ah n2),.slice p2 (aa n2) c2,.slice s2 (ag en2) d2]] w n dn:=by
 obtain ⟨C1,C2,R1,T1,R2,T2⟩:=dh h1 h2 r1 t1 r2 t2;clear h1 h2 r1 t1 r2 t2;go_enter Tryz.func106,Tryz.ntmps106
 go_upto_region 1 with fail
 refine ak w [(#[.bool (ah n1),.slice p1 (aa n1) c1,.slice s1 (ag en1) d1],50),(#[.bool (ah n2),.slice p2 (aa n2) c2,.slice s2 (ag en2) d2],50),(#[.bool false,.slice none 0 0,.slice none 0 0],50)] rfl ?_;rintro W0 ⟨k1,k2,k3,hb⟩;have ol:=hid (show Below w.heap.size w W0 from hb);obtain ⟨R1,T1,R2,T2⟩:=bR ol.o R1 T1 R2 T2;obtain ⟨K1,K2,K3⟩:=au k1 k2 k3;clear k1 k2 k3 hb;go_wp2_with fail
 refine az (fun a0 a' V=>∃ wu ww si sj u6 w9 wm wo,a'=⟨putL [(5,.agg #[.bool (ah n1),.slice p1 (aa n1) c1,.slice s1 (ag en1) d1]),(6,.agg #[.bool (ah n2),.slice p2 (aa n2) c2,.slice s2 (ag en2) d2]),(7,.agg #[.bool (ah m),.slice wu (aa m) ww,.slice si (ag f) sj]),(8,.agg #[.bool (ah n),.slice u6 (aa n) w9,.slice wm (ag dn) wo])] a0.tmps,a0.defers⟩∧Below w.heap.size w V∧SBk V (w.heap.size+1+1) #[.bool (ah n),.slice u6 (aa n) w9,.slice wm (ag dn) wo] 50∧RN V (.slice u6 (aa n) w9) (n).natAbs∧RN V (.slice wm (ag dn) wo) (dn)) ?_ ?_
 · refine aL 4 1 [5,6,7,8] [Rel.val (.agg #[.bool (ah n1),.slice p1 (aa n1) c1,.slice s1 (ag en1) d1]),Rel.val (.agg #[.bool (ah n2),.slice p2 (aa n2) c2,.slice s2 (ag en2) d2]),⟨fun v W=>∃ p c s d,v=.agg #[.bool (ah m),.slice p (aa m) c,.slice s (ag f) d]∧RN W (.slice p (aa m) c) (m).natAbs∧RN W (.slice s (ag f) d) (f),fun _ _ _ ⟨p,c,s,d,e,h0,h1⟩ hb=>⟨p,c,s,d,e,h0.below hb,h1.below hb⟩⟩,⟨fun v W=>∃ p c s d,v=.agg #[.bool (ah n),.slice p (aa n) c,.slice s (ag dn) d]∧RN W (.slice p (aa n) c) (n).natAbs∧RN W (.slice s (ag dn) d) (dn),fun _ _ _ ⟨p,c,s,d,e,h0,h1⟩ hb=>⟨p,c,s,d,e,h0.below hb,h1.below hb⟩⟩] ?_ ?_
   · intro fq a W i HI hD Hr him
     obtain⟨y2,y3⟩:=HI.o.s2 2 3;obtain ⟨ed,d9,gy⟩:=aC (K1.o.below HI.o.world) rfl rfl rfl;obtain ⟨bV,af,bn⟩:=aC (K2.o.below HI.o.world) rfl rfl rfl;obtain⟨X1,X0⟩:=HI.o.g2 1 6 0 5
     match i,him,Hr with
     | 0,_,Hi|1,_,Hi =>
       refine aA rfl fun K' hK=>?_;go_simp;exact hK.o _ _ (HI.o.pw Hi.o)
     | 2,_,Hi =>
       have x1:=X1.q Hi.o;refine aA rfl fun K' hK=>?_;go_simp;with_reducible refine(C1.o _ _ _ _ _ (R2.o.below HI.o.world) (T2.o.below HI.o.world)).mono ?_
       rintro e W' ⟨wu,ww,si,sj,rfl,sw,rM,hb⟩;exact hK.o _ _ ⟨HI.o.pc Hi.o hb ⟨wu,ww,si,sj,rfl,sw,rM⟩,trivial⟩
     | 3,_,Hi =>
       have x0:=X0.q Hi.o;obtain⟨v',x2,wu,ww,si,sj,e,sw,rM⟩:=HI.o.at (i:=2) Hi.o (by kernel_rfl) (by decide);obtain rfl:=e;have x2:a.tmps[7]? = some (.agg #[.bool (ah m),.slice wu (aa m) ww,.slice si (ag f) sj]):=x2;have kM:=hid sw;clear sw;have kV:=hid rM;clear rM;refine aA rfl fun K' hK=>?_;go_simp;with_reducible refine(C2.o _ _ _ _ _ _ _ _ _ (R1.o.below HI.o.world) (T1.o.below HI.o.world) kM.o kV.o).mono ?_
       rintro e W' ⟨u6,w9,wm,wo,rfl,oM,oV,hb⟩;exact hK.o _ _ ⟨HI.o.pc Hi.o hb ⟨u6,w9,wm,wo,rfl,oM,oV⟩,trivial⟩
     | n+4,h,_=>exact absurd h (by omega)
   · intro fq a W HI hD HA
     obtain⟨v',x2,wu,ww,si,sj,e,sw,rM⟩:=HI.o.slots 2 (by decide) (HA.o 2 (by decide));obtain rfl:=e;have kM:=hid sw;clear sw;have kV:=hid rM;clear rM;obtain⟨v',x3,u6,w9,wm,wo,e,oM,oV⟩:=HI.o.slots 3 (by decide) (HA.o 3 (by decide));obtain rfl:=e;have bv:=hid oM;clear oM;have bM:=hid oV;clear oV;have x3:a.tmps[8]? = some (.agg #[.bool (ah n),.slice u6 (aa n) w9,.slice wm (ag dn) wo]):=x3;have l5:=hid HI.o.world;obtain ⟨fQ,K3⟩:=aD (ol.o.trans (l5.o.mono ol.o.size)) (K3.o.below l5.o);have RM:=kM;have TM:=kV;have RQ:=bv;have TQ:=bM;have y4:=HI.o.rst 4 rfl;obtain ⟨l6,lg,lv⟩:=aC K3.o rfl rfl rfl;obtain ⟨u00,u01,u02⟩:=bB K3.o;refine aZ (t:=0) ?_;refine aA rfl fun K' hK=>?_;go_simp;refine hK.o _ _ ?_;clear hK;refine aV ?_;have s0:∀ {v':Value} {n':Nat},RN W v' n'→RN (storeAll W (w.heap.size+1+1) 0 [.bool (ah n),.slice u6 (aa n) w9,.slice wm (ag dn) wo]) v' n':=fun h'=>bf _ h' K3.o (by simp[bJ]) (by simp[aW]);exact⟨rfl,wu,ww,si,sj,u6,w9,wm,wo,(HI.o.finx ⟨HI.o.sx HA.o 0,HI.o.sx HA.o 1,x2,x3,trivial⟩ rfl),(aj (l:=[.bool (ah n),.slice u6 (aa n) w9,.slice wm (ag dn) wo]) (i:=0) (by omega) fQ.o),(bX (l:=[.bool (ah n),.slice u6 (aa n) w9,.slice wm (ag dn) wo]) (i:=0) K3.o),(s0 RQ.o),(s0 TQ.o)⟩
 rintro a' W1 ⟨wu,ww,si,sj,u6,w9,wm,wo,rfl,z0,z1,z2,z3⟩;obtain ⟨ma,K3,RQ,TQ⟩:=aM z0 z1 z2 z3;clear z0 z1 z2 z3;simp only[putL,List.setIfInBounds_toArray,List.set_cons_zero,List.set_cons_succ];go_wp2;obtain ⟨l6,lg,lv⟩:=aC K3.o rfl rfl rfl;exact bodyPost_ret (v:=.agg #[.bool (ah n),.slice u6 (aa n) w9,.slice wm (ag dn) wo]) (by simp[results,Tryz.results106,go_sem,l6,lg,lv]) rfl ⟨_,_,_,_,rfl,RQ.o,TQ.o,ma.o⟩
theorem z2Z (n1 n2 m n:Int)(en1 en2 f dn:Nat)(p1:Option Addr)(c1:Nat)(s1:Option Addr)(d1:Nat)(p2:Option Addr)(c2:Nat)(s2:Option Addr)(d2:Nat)(w:World)(h1:∀ p1 c1 s1 d1 W,RN W (.slice p1 (aa n2) c1) n2.natAbs→RN W (.slice s1 (ag en2) d1) en2→CF 132 #[.agg #[.bool (ah n2),.slice p1 (aa n2) c1,.slice s1 (ag en2) d1]] W m f)(h2:∀ p1 c1 s1 d1 p2 c2 s2 d2 W,RN W (.slice p1 (aa n1) c1) n1.natAbs→RN W (.slice s1 (ag en1) d1) en1→RN W (.slice p2 (aa m) c2) m.natAbs→RN W (.slice s2 (ag f) d2) f→CF 30 #[.agg #[.bool (ah n1),.slice p1 (aa n1) c1,.slice s1 (ag en1) d1],.agg #[.bool (ah m),.slice p2 (aa m) c2,.slice s2 (ag f) d2]] W n dn)(r1:RN w (.slice p1 (aa n1) c1) n1.natAbs)(t1:RN w (.slice s1 (ag en1) d1) en1)(r2:RN w (.slice p2 (aa n2) c2) n2.natAbs)(t2:RN w (.slice s2 (ag en2) d2) en2) :
 CF 83 #[.agg #[.bool (ah n1),.slice p1 (aa n1) c1,.slice s1 (ag en1) d1],.agg #[.bool (ah n2),.slice p2 (aa n2) c2,.slice s2 (ag en2) d2]] w n dn:=by
 obtain ⟨C1,C2,R1,T1,R2,T2⟩:=dh h1 h2 r1 t1 r2 t2;clear h1 h2 r1 t1 r2 t2;go_enter Tryz.func83,Tryz.ntmps83
 go_upto_region 1 with fail
 refine ak w [(#[.bool (ah n1),.slice p1 (aa n1) c1,.slice s1 (ag en1) d1],50),(#[.bool (ah n2),.slice p2 (aa n2) c2,.slice s2 (ag en2) d2],50),(#[.bool false,.slice none 0 0,.slice none 0 0],50)] rfl ?_;rintro W0 ⟨k1,k2,k3,hb⟩;have ol:=hid (show Below w.heap.size w W0 from hb);obtain ⟨R1,T1,R2,T2⟩:=bR ol.o R1 T1 R2 T2;obtain ⟨K1,K2,K3⟩:=au k1 k2 k3;clear k1 k2 k3 hb;go_wp2_with fail
 refine az (fun a0 a' V=>∃ wu ww si sj u6 w9 wm wo,a'=⟨putL [(5,.agg #[.bool (ah n1),.slice p1 (aa n1) c1,.slice s1 (ag en1) d1]),(6,.agg #[.bool (ah n2),.slice p2 (aa n2) c2,.slice s2 (ag en2) d2]),(7,.agg #[.bool (ah m),.slice wu (aa m) ww,.slice si (ag f) sj]),(8,.agg #[.bool (ah n),.slice u6 (aa n) w9,.slice wm (ag dn) wo])] a0.tmps,a0.defers⟩∧Below w.heap.size w V∧SBk V (w.heap.size+1+1) #[.bool (ah n),.slice u6 (aa n) w9,.slice wm (ag dn) wo] 50∧RN V (.slice u6 (aa n) w9) (n).natAbs∧RN V (.slice wm (ag dn) wo) (dn)) ?_ ?_
 · refine aL 4 1 [5,6,7,8] [Rel.val (.agg #[.bool (ah n1),.slice p1 (aa n1) c1,.slice s1 (ag en1) d1]),Rel.val (.agg #[.bool (ah n2),.slice p2 (aa n2) c2,.slice s2 (ag en2) d2]),⟨fun v W=>∃ p c s d,v=.agg #[.bool (ah m),.slice p (aa m) c,.slice s (ag f) d]∧RN W (.slice p (aa m) c) (m).natAbs∧RN W (.slice s (ag f) d) (f),fun _ _ _ ⟨p,c,s,d,e,h0,h1⟩ hb=>⟨p,c,s,d,e,h0.below hb,h1.below hb⟩⟩,⟨fun v W=>∃ p c s d,v=.agg #[.bool (ah n),.slice p (aa n) c,.slice s (ag dn) d]∧RN W (.slice p (aa n) c) (n).natAbs∧RN W (.slice s (ag dn) d) (dn),fun _ _ _ ⟨p,c,s,d,e,h0,h1⟩ hb=>⟨p,c,s,d,e,h0.below hb,h1.below hb⟩⟩] ?_ ?_
   · intro fq a W i HI hD Hr him
     obtain⟨y2,y3⟩:=HI.o.s2 2 3;obtain ⟨ed,d9,gy⟩:=aC (K1.o.below HI.o.world) rfl rfl rfl;obtain ⟨bV,af,bn⟩:=aC (K2.o.below HI.o.world) rfl rfl rfl;obtain⟨X1,X0⟩:=HI.o.g2 1 6 0 5
     match i,him,Hr with
     | 0,_,Hi|1,_,Hi =>
       refine aA rfl fun K' hK=>?_;go_simp;exact hK.o _ _ (HI.o.pw Hi.o)
     | 2,_,Hi =>
       have x1:=X1.q Hi.o;refine aA rfl fun K' hK=>?_;go_simp;with_reducible refine(C1.o _ _ _ _ _ (R2.o.below HI.o.world) (T2.o.below HI.o.world)).mono ?_
       rintro e W' ⟨wu,ww,si,sj,rfl,sw,rM,hb⟩;exact hK.o _ _ ⟨HI.o.pc Hi.o hb ⟨wu,ww,si,sj,rfl,sw,rM⟩,trivial⟩
     | 3,_,Hi =>
       have x0:=X0.q Hi.o;obtain⟨v',x2,wu,ww,si,sj,e,sw,rM⟩:=HI.o.at (i:=2) Hi.o (by kernel_rfl) (by decide);obtain rfl:=e;have x2:a.tmps[7]? = some (.agg #[.bool (ah m),.slice wu (aa m) ww,.slice si (ag f) sj]):=x2;have kM:=hid sw;clear sw;have kV:=hid rM;clear rM;refine aA rfl fun K' hK=>?_;go_simp;with_reducible refine(C2.o _ _ _ _ _ _ _ _ _ (R1.o.below HI.o.world) (T1.o.below HI.o.world) kM.o kV.o).mono ?_
       rintro e W' ⟨u6,w9,wm,wo,rfl,oM,oV,hb⟩;exact hK.o _ _ ⟨HI.o.pc Hi.o hb ⟨u6,w9,wm,wo,rfl,oM,oV⟩,trivial⟩
     | n+4,h,_=>exact absurd h (by omega)
   · intro fq a W HI hD HA
     obtain⟨v',x2,wu,ww,si,sj,e,sw,rM⟩:=HI.o.slots 2 (by decide) (HA.o 2 (by decide));obtain rfl:=e;have kM:=hid sw;clear sw;have kV:=hid rM;clear rM;obtain⟨v',x3,u6,w9,wm,wo,e,oM,oV⟩:=HI.o.slots 3 (by decide) (HA.o 3 (by decide));obtain rfl:=e;have bv:=hid oM;clear oM;have bM:=hid oV;clear oV;have x3:a.tmps[8]? = some (.agg #[.bool (ah n),.slice u6 (aa n) w9,.slice wm (ag dn) wo]):=x3;have l5:=hid HI.o.world;obtain ⟨fQ,K3⟩:=aD (ol.o.trans (l5.o.mono ol.o.size)) (K3.o.below l5.o);have RM:=kM;have TM:=kV;have RQ:=bv;have TQ:=bM;have y4:=HI.o.rst 4 rfl;obtain ⟨l6,lg,lv⟩:=aC K3.o rfl rfl rfl;obtain ⟨u00,u01,u02⟩:=bB K3.o;refine aZ (t:=0) ?_;refine aA rfl fun K' hK=>?_;go_simp;refine hK.o _ _ ?_;clear hK;refine aV ?_;have s0:∀ {v':Value} {n':Nat},RN W v' n'→RN (storeAll W (w.heap.size+1+1) 0 [.bool (ah n),.slice u6 (aa n) w9,.slice wm (ag dn) wo]) v' n':=fun h'=>bf _ h' K3.o (by simp[bJ]) (by simp[aW]);exact⟨rfl,wu,ww,si,sj,u6,w9,wm,wo,(HI.o.finx ⟨HI.o.sx HA.o 0,HI.o.sx HA.o 1,x2,x3,trivial⟩ rfl),(aj (l:=[.bool (ah n),.slice u6 (aa n) w9,.slice wm (ag dn) wo]) (i:=0) (by omega) fQ.o),(bX (l:=[.bool (ah n),.slice u6 (aa n) w9,.slice wm (ag dn) wo]) (i:=0) K3.o),(s0 RQ.o),(s0 TQ.o)⟩
 rintro a' W1 ⟨wu,ww,si,sj,u6,w9,wm,wo,rfl,z0,z1,z2,z3⟩;obtain ⟨ma,K3,RQ,TQ⟩:=aM z0 z1 z2 z3;clear z0 z1 z2 z3;simp only[putL,List.setIfInBounds_toArray,List.set_cons_zero,List.set_cons_succ];go_wp2;obtain ⟨l6,lg,lv⟩:=aC K3.o rfl rfl rfl;exact bodyPost_ret (v:=.agg #[.bool (ah n),.slice u6 (aa n) w9,.slice wm (ag dn) wo]) (by simp[results,Tryz.results83,go_sem,l6,lg,lv]) rfl ⟨_,_,_,_,rfl,RQ.o,TQ.o,ma.o⟩
end Go.Proofs.YtkiklcbhglpooaaGreatDoor
open Go.Lib (hid)
namespace Go.Proofs.YtkiklcbhglpooaaGreatDoor
open Go.RowKit Go.Gb
set_option linter.unusedSimpArgs false
theorem z3u (k l n n3:Int)(dn dn3:Nat)(hl:IntKind.u32.wrap l=l)  (w:World)(h1:∀ W,CZ 66 #[.int .i64 k] W n)(h2:∀ W,CN 67 #[.int .u32 l] W dn)(h3:∀ p1 c1 s2 d2 W,RN W (.slice p1 (aa n) c1) n.natAbs→RN W (.slice s2 (ag dn) d2) dn→CF 76 #[.agg #[.bool (ah n),.slice p1 (aa n) c1],.slice s2 (ag dn) d2] W n3 dn3)  :
 CF 86 #[.int .i64 k,.int .i64 l] w n3 dn3:=by
 obtain ⟨C1,C2,C3⟩:=au h1 h2 h3;clear h1 h2 h3;go_enter Tryz.func86,Tryz.ntmps86
 go_upto_region 1 with fail
 refine ak w [(#[.bool false,.slice none 0 0,.slice none 0 0],50)] rfl ?_;rintro W0 ⟨k1,hb⟩;have ol:=hid (show Below w.heap.size w W0 from hb);have K1:=hid k1;clear k1 hb;go_wp2_with fail
 with_reducible refine(C1.o _).mono ?_
 rintro e W1 ⟨p_1,c_1,rfl,u03,hb⟩;have K1:=hid (K1.o.below hb);have ma:=hbt ol hb;have RN1:=hid u03;clear hb u03;go_wp2_with fail
 with_reducible refine(C2.o _).mono ?_
 rintro e W2 ⟨p_2,c_2,rfl,u04,hb⟩;obtain ⟨K1,RN1⟩:=aO hb K1 RN1;have bu:=hbt ma hb;have RD1:=hid u04;clear hb u04;go_wp2_with fail
 with_reducible refine(C3.o _ _ _ _ _ RN1.o RD1.o).mono ?_
 rintro e W3 ⟨dX,dY,cO,bg,rfl,u05,u06,hb⟩;have K1:=hid (K1.o.below hb);have HB3:=hbt bu hb;have RQ:=hid u05;have TQ:=hid u06;clear hb u05 u06;obtain ⟨ed,d9,gy⟩:=aC K1.o rfl rfl rfl;obtain ⟨u0e,u0f,u0g⟩:=bB K1.o;go_wp2;exact bodyPost_ret (v:=.agg #[.bool (ah n3),.slice dX (aa n3) dY,.slice cO (ag dn3) bg]) (by simp[results,Tryz.results86,go_sem,ed,d9,gy]) rfl ⟨_,_,_,_,rfl,(bf [.bool (ah n3),.slice dX (aa n3) dY,.slice cO (ag dn3) bg] RQ.o K1.o (by simp[bJ]) (by simp[aW])),(bf [.bool (ah n3),.slice dX (aa n3) dY,.slice cO (ag dn3) bg] TQ.o K1.o (by simp[bJ]) (by simp[aW])),(aj (l:=[.bool (ah n3),.slice dX (aa n3) dY,.slice cO (ag dn3) bg]) (i:=0) (by omega) HB3.o)⟩
