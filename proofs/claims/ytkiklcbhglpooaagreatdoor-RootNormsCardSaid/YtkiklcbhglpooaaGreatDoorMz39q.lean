/- texts -/
import Derived.Test.YtkiklcbhglpooaaGreatDoorMz38q
open Go.Proofs.Tryz
namespace Go.Proofs.YtkiklcbhglpooaaGreatDoor
open Go.RowKit Go.Gb
structure QS where
 b:Bool
 a:Option Addr
 n:Nat
 c:Nat
 e:Option Addr
 m:Nat
 d:Nat
def FQ (W:World) (q:QS) (x:Rat):Prop:=q.b=ai x.num∧q.n=ae x.num∧q.m=ah x.den∧RN W (.slice q.a q.n q.c) x.num.natAbs∧RN W (.slice q.e q.m q.d) x.den
theorem FQ.below {W W':World}{q:QS}{x:Rat}(h:FQ W q x)(hb:Below W.heap.size W W'):FQ W' q x:=⟨h.1,h.2.1,h.2.2.1,h.2.2.2.1.below hb,h.2.2.2.2.below hb⟩
theorem iC {q:QS}{x:Rat}{g:Nat}{T:TypeId}(l:List Value)(i:Nat){w:World}{cs:Array Value}(h:FQ w q x)(hg:SBk w g cs T)(hn:bL cs=true)(hl:l.all bi=true):FQ (storeAll w g i l) q x:=⟨h.1,h.2.1,h.2.2.1,jf l i h.2.2.2.1 hg hn hl,jf l i h.2.2.2.2 hg hn hl⟩
abbrev QS.l (q:QS):List Value:=[.bool q.b,.slice q.a q.n q.c,.slice q.e q.m q.d]
abbrev Lvv (qa qb qc:QS):List Value:=[.bool qa.b,.slice qa.a qa.n qa.c,.slice qa.e qa.m qa.d,.bool qb.b,.slice qb.a qb.n qb.c,.slice qb.e qb.m qb.d,.bool qc.b,.slice qc.a qc.n qc.c,.slice qc.e qc.m qc.d]
abbrev QS.v (q:QS):Value:=.agg #[.bool q.b,.slice q.a q.n q.c,.slice q.e q.m q.d]
abbrev RQ (W:World) (x:Rat):Ending→World→Prop:=fun e w'=>∃ q:QS,e=.returned (.agg #[.bool q.b,.slice q.a q.n q.c,.slice q.e q.m q.d])∧FQ w' q x∧Below W.heap.size W w'
abbrev RQb (W:World) (x:Rat) (b:Bool):Ending→World→Prop:=fun e w'=>∃ q:QS,e=.returned (.tuple #[.agg #[.bool q.b,.slice q.a q.n q.c,.slice q.e q.m q.d],.bool b])∧FQ w' q x∧Below W.heap.size W w'
abbrev RF (W:World) (xa xb xc xd xe xf xg xh xi:Rat):Ending→World→Prop:=fun e w'=>∃ qa qb qc qd qe qf qg qh qi:QS,e=.returned (.tuple #[.agg #[.bool qa.b,.slice qa.a qa.n qa.c,.slice qa.e qa.m qa.d,.bool qb.b,.slice qb.a qb.n qb.c,.slice qb.e qb.m qb.d,.bool qc.b,.slice qc.a qc.n qc.c,.slice qc.e qc.m qc.d,.bool qd.b,.slice qd.a qd.n qd.c,.slice qd.e qd.m qd.d,.bool qe.b,.slice qe.a qe.n qe.c,.slice qe.e qe.m qe.d,.bool qf.b,.slice qf.a qf.n qf.c,.slice qf.e qf.m qf.d,.bool qg.b,.slice qg.a qg.n qg.c,.slice qg.e qg.m qg.d,.bool qh.b,.slice qh.a qh.n qh.c,.slice qh.e qh.m qh.d,.bool qi.b,.slice qi.a qi.n qi.c,.slice qi.e qi.m qi.d],.int .i64 0])∧FQ w' qa xa∧FQ w' qb xb∧FQ w' qc xc∧FQ w' qd xd∧FQ w' qe xe∧FQ w' qf xf∧FQ w' qg xg∧FQ w' qh xh∧FQ w' qi xi∧Below W.heap.size W w'
abbrev RP (W:World) (v:Value):Ending→World→Prop:=fun e w'=>e=.returned v∧Below W.heap.size W w'
abbrev KQ2 (f:Nat) (x0 x1:Rat) (z:Rat):Prop:=∀ (q0 q1:QS) (W:World),FQ W q0 x0→FQ W q1 x1→Calls Tryz.prog f #[.agg #[.bool q0.b,.slice q0.a q0.n q0.c,.slice q0.e q0.m q0.d],.agg #[.bool q1.b,.slice q1.a q1.n q1.c,.slice q1.e q1.m q1.d]] W (RQ W z)
abbrev KP1 (f:Nat) (x0:Rat) (v:Value):Prop:=∀ (q0:QS) (W:World),FQ W q0 x0→Calls Tryz.prog f #[.agg #[.bool q0.b,.slice q0.a q0.n q0.c,.slice q0.e q0.m q0.d]] W (RP W v)
abbrev KP2 (f:Nat) (x0 x1:Rat) (v:Value):Prop:=∀ (q0 q1:QS) (W:World),FQ W q0 x0→FQ W q1 x1→Calls Tryz.prog f #[.agg #[.bool q0.b,.slice q0.a q0.n q0.c,.slice q0.e q0.m q0.d],.agg #[.bool q1.b,.slice q1.a q1.n q1.c,.slice q1.e q1.m q1.d]] W (RP W v)
abbrev KS (f:Nat) (v0:Value) (z:Rat):Prop:=∀ (W:World),Calls Tryz.prog f #[v0] W (RQ W z)
abbrev KSb (f:Nat) (v0:Value) (z:Rat) (b:Bool):Prop:=∀ (W:World),Calls Tryz.prog f #[v0] W (RQb W z b)
abbrev KPs (f:Nat) (v0 v:Value):Prop:=∀ W:World,Calls Tryz.prog f #[v0] W (RP W v)
def Rel.q (x:Rat):Rel:=⟨fun v W=>∃ q:QS,v=q.v∧FQ W q x,fun _ _ _ ⟨q,e,h⟩ hb=>⟨q,e,h.below hb⟩⟩
section
variable {ops:Array Oper} {m:Nat} {sl:Nat→Nat} {L:List Rel} {a0:Act} {P:World→Prop} {p8:Array Bool} {a:Act} {w:World}
theorem qAt (h:RInv ops m sl (RelR L) a0 P p8 a w)(i d:Nat){j:Nat}{x:Rat}(hj:j∈Region.ready .any ops p8)(hw:Region.waitsFor .any ops j i=true)(hm:i<m:=by decide)(hd:sl i=d:=by rfl)(hR:L.getD i (Rel.val undef)=Rel.q x:=by rfl):∃ q:QS,a.tmps[d]? = some q.v∧Hid (FQ w q x):=by
 obtain⟨v,hv,hr⟩:=h.at hj hw hm;unfold RelR at hr
 rw[hR]at hr;obtain⟨q,rfl,hq⟩:=hr;exact⟨q,hd▸hv,Lib.hid hq⟩
theorem qEnd (h:RInv ops m sl (RelR L) a0 P p8 a w)(cO:∀ j,j<m→p8.getD j false=true)(i d:Nat){x:Rat}(hm:i<m:=by decide)(hd:sl i=d:=by rfl)(hR:L.getD i (Rel.val undef)=Rel.q x:=by rfl):∃ q:QS,a.tmps[d]? = some q.v∧Hid (FQ w q x):=by
 obtain⟨v,hv,hr⟩:=h.slots i hm (cO i hm);unfold RelR at hr
 rw[hR]at hr;obtain⟨q,rfl,hq⟩:=hr;exact⟨q,hd▸hv,Lib.hid hq⟩
end
theorem z5J {w:World}{g:Nat}{T:TypeId}{x0 x1:Value}(h:SBk w g #[x0,x1] T):w.cell? ⟨g,0,none⟩=some x0∧w.cell? ⟨g,1,none⟩=some x1:=⟨h.cell (i:=0) rfl,h.cell (i:=1) rfl⟩
theorem cells3 {w:World}{g:Nat}{T:TypeId}{x0 x1 x2:Value}(h:SBk w g #[x0,x1,x2] T):w.cell? ⟨g,0,none⟩=some x0∧w.cell? ⟨g,1,none⟩=some x1∧w.cell? ⟨g,2,none⟩=some x2:=⟨h.cell (i:=0) rfl,h.cell (i:=1) rfl,h.cell (i:=2) rfl⟩
theorem frz2 {w:World}{g:Nat}{T:TypeId}{x0 x1:Value}(h:SBk w g #[x0,x1] T):w.frozen? ⟨g,0,none⟩=false∧w.frozen? ⟨g,1,none⟩=false:=⟨h.frozen (i:=0),h.frozen (i:=1)⟩
theorem frz3 {w:World}{g:Nat}{T:TypeId}{x0 x1 x2:Value}(h:SBk w g #[x0,x1,x2] T):w.frozen? ⟨g,0,none⟩=false∧w.frozen? ⟨g,1,none⟩=false∧w.frozen? ⟨g,2,none⟩=false:=⟨h.frozen (i:=0),h.frozen (i:=1),h.frozen (i:=2)⟩
instance {W W':World}{q:QS}{x:Rat}:Gr (FQ W q x) W W' (FQ W' q x):=⟨fun h k=>k.below h⟩
theorem kq2 {f:Nat}{x y z:Rat}(h:∀ p1 c1 s1 d1 p2 c2 s2 d2 W,RN W (.slice p1 (ae x.num) c1) x.num.natAbs→RN W (.slice s1 (ah x.den) d1) x.den→RN W (.slice p2 (ae y.num) c2) y.num.natAbs→RN W (.slice s2 (ah y.den) d2) y.den→Calls Tryz.prog f #[.agg #[.bool (ai x.num),.slice p1 (ae x.num) c1,.slice s1 (ah x.den) d1],.agg #[.bool (ai y.num),.slice p2 (ae y.num) c2,.slice s2 (ah y.den) d2]] W fun e w'=>∃ p c s d,e=.returned (.agg #[.bool (ai z.num),.slice p (ae z.num) c,.slice s (ah z.den) d])∧RN w' (.slice p (ae z.num) c) z.num.natAbs∧RN w' (.slice s (ah z.den) d) z.den∧Below W.heap.size W w'):KQ2 f x y z:=by
 rintro⟨b,a,n,c,e,m,d⟩ ⟨b',a',n',c',e',m',d'⟩ W ⟨h1,h2,h3,h4,h5⟩ ⟨k1,k2,k3,k4,k5⟩
 dsimp only at *;subst h1 h2 h3 k1 k2 k3;exact(h _ _ _ _ _ _ _ _ W h4 h5 k4 k5).mono fun _ _ ⟨p,c,s,d,he,hr,ht,hb⟩=>⟨⟨_,p,_,c,s,_,d⟩,he,⟨rfl,rfl,rfl,hr,ht⟩,hb⟩
theorem kp2 {f:Nat}{x y:Rat}{v:Value}(h:∀ p1 c1 s1 d1 p2 c2 s2 d2 W,RN W (.slice p1 (ae x.num) c1) x.num.natAbs→RN W (.slice s1 (ah x.den) d1) x.den→RN W (.slice p2 (ae y.num) c2) y.num.natAbs→RN W (.slice s2 (ah y.den) d2) y.den→Calls Tryz.prog f #[.agg #[.bool (ai x.num),.slice p1 (ae x.num) c1,.slice s1 (ah x.den) d1],.agg #[.bool (ai y.num),.slice p2 (ae y.num) c2,.slice s2 (ah y.den) d2]] W fun e w'=>e=.returned v∧Below W.heap.size W w'):KP2 f x y v:=by
 rintro⟨b,a,n,c,e,m,d⟩ ⟨b',a',n',c',e',m',d'⟩ W ⟨h1,h2,h3,h4,h5⟩ ⟨k1,k2,k3,k4,k5⟩
 dsimp only at *;subst h1 h2 h3 k1 k2 k3;exact h _ _ _ _ _ _ _ _ W h4 h5 k4 k5
theorem kp1 {f:Nat}{x:Rat}{v:Value}(h:∀ p1 c1 s1 d1 W,RN W (.slice p1 (ae x.num) c1) x.num.natAbs→RN W (.slice s1 (ah x.den) d1) x.den→Calls Tryz.prog f #[.agg #[.bool (ai x.num),.slice p1 (ae x.num) c1,.slice s1 (ah x.den) d1]] W fun e w'=>e=.returned v∧Below W.heap.size W w'):KP1 f x v:=by
 rintro⟨b,a,n,c,e,m,d⟩ W ⟨h1,h2,h3,h4,h5⟩
 dsimp only at *;subst h1 h2 h3;exact h _ _ _ _ W h4 h5
theorem ks {f:Nat}{v:Value}{z:Rat}(h:∀ W,Calls Tryz.prog f #[v] W fun e w'=>∃ p c s d,e=.returned (.agg #[.bool (ai z.num),.slice p (ae z.num) c,.slice s (ah z.den) d])∧RN w' (.slice p (ae z.num) c) z.num.natAbs∧RN w' (.slice s (ah z.den) d) z.den∧Below W.heap.size W w'):KS f v z:=fun W=>(h W).mono fun _ _ ⟨p,c,s,d,he,hr,ht,hb⟩=>⟨⟨_,p,_,c,s,_,d⟩,he,⟨rfl,rfl,rfl,hr,ht⟩,hb⟩
theorem ksb {f:Nat}{v:Value}{z:Rat}{b:Bool}(h:∀ W,Calls Tryz.prog f #[v] W fun e w'=>∃ p c s d,e=.returned (.tuple #[.agg #[.bool (ai z.num),.slice p (ae z.num) c,.slice s (ah z.den) d],.bool b])∧RN w' (.slice p (ae z.num) c) z.num.natAbs∧RN w' (.slice s (ah z.den) d) z.den∧Below W.heap.size W w'):KSb f v z b:=fun W=>(h W).mono fun _ _ ⟨p,c,s,d,he,hr,ht,hb⟩=>⟨⟨_,p,_,c,s,_,d⟩,he,⟨rfl,rfl,rfl,hr,ht⟩,hb⟩
end Go.Proofs.YtkiklcbhglpooaaGreatDoor
set_option maxRecDepth 100000
set_option maxHeartbeats 20000000
open Go.Lib (hid)
namespace Go.Proofs.YtkiklcbhglpooaaGreatDoor
open Go.RowKit Go.Gb
theorem z2t (k n:Int)(dn:Nat)  (w:World)(h1:∀ W,CZ 66 #[.int .i64 k] W n)(h2:∀ W,CN 67 #[.int .u32 1] W dn)  :
 CF 27 #[.int .i64 k] w n dn:=by
 have C1:=hid h1;have C2:=hid h2;clear h1 h2;go_enter func27,ntmps27
 go_upto_region 1 with fail
 refine aG w [(#[.bool false,.slice none 0 0,.slice none 0 0],50)] rfl ?_;rintro W0 ⟨k1,hb⟩;have wo:=hid (show Below w.heap.size w W0 from hb);have K1:=hid k1;clear k1 hb;go_wp2_with fail
 with_reducible refine(C1.o _).mono ?_
 rintro e W1 ⟨fo,fq,rfl,dY,hb⟩;have K1:=hid (K1.o.below hb);have p9:=hbt wo hb;have RN1:=hid dY;clear hb dY;go_wp2_with fail
 with_reducible refine(C2.o _).mono ?_
 rintro e W2 ⟨fQ,ed,rfl,cu,hb⟩;obtain ⟨K1,RN1⟩:=aM hb K1 RN1;have dP:=hbt p9 hb;have RD1:=hid cu;clear hb cu;obtain ⟨l6,lg,lv⟩:=aU K1.o rfl rfl rfl;obtain ⟨bV,aa,af⟩:=bZ K1.o;go_wp2;exact bodyPost_ret (v:=.agg #[.bool (ai n),.slice fo (ae n) fq,.slice fQ (ah dn) ed]) (by simp[results,results27,go_sem,l6,lg,lv]) rfl ⟨_,_,_,_,rfl,(aS [.bool (ai n),.slice fo (ae n) fq,.slice fQ (ah dn) ed] RN1.o K1.o (by simp[bL]) (by simp[bi])),(aS [.bool (ai n),.slice fo (ae n) fq,.slice fQ (ah dn) ed] RD1.o K1.o (by simp[bL]) (by simp[bi])),(az (l:=[.bool (ai n),.slice fo (ae n) fq,.slice fQ (ah dn) ed]) (i:=0) (by omega) dP.o)⟩
theorem z2s (n m:Int)(en:Nat)(p1:Option Addr)(c1:Nat)(s1:Option Addr)(d1:Nat)(w:World)(h1:∀ s2 d2 W,RN W (.slice s2 (ah en) d2) en→CZ 78 #[.bool (ai n),.slice s2 (ah en) d2] W m)(r1:RN w (.slice p1 (ae n) c1) n.natAbs)(t1:RN w (.slice s1 (ah en) d1) en) :
 Calls Tryz.prog 132 #[.agg #[.bool (ai n),.slice p1 (ae n) c1,.slice s1 (ah en) d1]] w fun e w'=>∃ p c s d,e=.returned (.agg #[.bool (ai m),.slice p (ae m) c,.slice s (ah n.natAbs) d])∧RN w' (.slice p (ae m) c) m.natAbs∧RN w' (.slice s (ah n.natAbs) d) n.natAbs∧Below w.heap.size w w':=by
 obtain ⟨C1,R1,T1⟩:=av h1 r1 t1;clear h1 r1 t1;go_enter func132,ntmps132
 go_upto_region 1 with fail
 refine aG w [(#[.bool (ai n),.slice p1 (ae n) c1,.slice s1 (ah en) d1],50),(#[.bool false,.slice none 0 0,.slice none 0 0],50)] rfl ?_;rintro W0 ⟨k1,k2,hb⟩;have wo:=hid (show Below w.heap.size w W0 from hb);obtain ⟨R1,T1⟩:=aM wo.o R1 T1;obtain ⟨K1,K2⟩:=aC k1 k2;clear k1 k2 hb;go_wp2_with fail
 refine aK (fun a0 a' V=>∃ pu ol rM rV,a'=⟨putL [(3,.pointer (some ⟨w.heap.size,0,none⟩)),(4,.pointer (some ⟨w.heap.size,0,none⟩)),(5,.bool (ai n)),(6,.pointer (some ⟨w.heap.size,2,none⟩)),(7,.slice s1 (ah en) d1),(8,.agg #[.bool (ai m),.slice pu (ae m) ol]),(9,.pointer (some ⟨w.heap.size,0,none⟩)),(10,.pointer (some ⟨w.heap.size,1,none⟩)),(11,.slice p1 (ae n) c1),(12,.agg #[.bool (ai m),.slice rM (ae m) rV,.slice p1 (ae n) c1])] a0.tmps,a0.defers⟩∧Below w.heap.size w V∧SBk V (w.heap.size+1) #[.bool (ai m),.slice rM (ae m) rV,.slice p1 (ae n) c1] 50∧RN V (.slice p1 (ae n) c1) n.natAbs∧RN V (.slice rM (ae m) rV) m.natAbs) ?_ ?_
 · refine aY 10 1 [3,4,5,6,7,8,9,10,11,12] [Rel.val (.pointer (some ⟨w.heap.size,0,none⟩)),Rel.val (.pointer (some ⟨w.heap.size,0,none⟩)),Rel.val (.bool (ai n)),Rel.val (.pointer (some ⟨w.heap.size,2,none⟩)),Rel.val (.slice s1 (ah en) d1),Rel.int m,Rel.val (.pointer (some ⟨w.heap.size,0,none⟩)),Rel.val (.pointer (some ⟨w.heap.size,1,none⟩)),Rel.val (.slice p1 (ae n) c1),⟨fun v W=>∃ pa ca,v=.agg #[.bool (ai m),.slice pa (ae m) ca,.slice p1 (ae n) c1]∧RN W (.slice pa (ae m) ca) m.natAbs,fun _ _ _ ⟨pa,ca,e,h0⟩ hb=>⟨pa,ca,e,h0.below hb⟩⟩] ?_ ?_
   · intro p8 a W i HI hD Hr him
     have y1:=HI.o.rst 1 rfl;have l6:=(K1.o.below HI.o.world).cell (i:=0) rfl;have lv:=(K1.o.below HI.o.world).cell (i:=2) rfl;have lg:=(K1.o.below HI.o.world).cell (i:=1) rfl;obtain⟨X0,X1,X3,X2,X4,X6⟩:=HI.o.g6 0 3 1 4 3 6 2 5 4 7 6 9;obtain⟨X7,X8⟩:=HI.o.g2 7 10 8 11
     match i,him,Hr with
     | 0,_,Hi|1,_,Hi|2,_,Hi|3,_,Hi|4,_,Hi =>
       try have x0:=X0.t Hi.o
       try have x1:=X1.t Hi.o
       try have x3:=X3.t Hi.o
       refine aF rfl fun K' hK=>?_;go_simp;exact hK.o _ _ (HI.o.pw Hi.o)
     | 5,_,Hi =>
       have x2:=X2.q Hi.o;have x4:=X4.q Hi.o;refine aF rfl fun K' hK=>?_;go_simp;with_reducible refine(C1.o _ _ _ (T1.o.below HI.o.world)).mono ?_
       rintro e W' ⟨pu,ol,rfl,mi,hb⟩;exact hK.o _ _ ⟨HI.o.pc Hi.o hb ⟨pu,ol,rfl,mi⟩,trivial⟩
     | 6,_,Hi|7,_,Hi|8,_,Hi =>
       try have x6:=X6.t Hi.o
       try have x7:=X7.t Hi.o
       refine aF rfl fun K' hK=>?_;go_simp;exact hK.o _ _ (HI.o.pw Hi.o)
     | 9,_,Hi =>
       obtain⟨v',x5,pu,ol,e,mi⟩:=HI.o.at (i:=5) Hi.o (by kernel_rfl) (by decide);obtain rfl:=e;have x5:a.tmps[8]? = some (.agg #[.bool (ai m),.slice pu (ae m) ol]):=x5;have dX:=hid mi;clear mi;have x8:=X8.q Hi.o;refine aF rfl fun K' hK=>?_;go_simp;exact hK.o _ _ ⟨HI.o.pv Hi.o ⟨pu,ol,rfl,dX.o⟩,trivial⟩
     | n+10,h,_=>exact absurd h (by omega)
   · intro p8 a W HI hD HA
     obtain⟨v',x5,pu,ol,e,mi⟩:=HI.o.slots 5 (by decide) (HA.o 5 (by decide));obtain rfl:=e;have dX:=hid mi;clear mi;obtain⟨v',x9,rM,rV,e,pq⟩:=HI.o.slots 9 (by decide) (HA.o 9 (by decide));obtain rfl:=e;have kz:=hid pq;clear pq;have x9:a.tmps[12]? = some (.agg #[.bool (ai m),.slice rM (ae m) rV,.slice p1 (ae n) c1]):=x9;have oM:=hid HI.o.world;obtain ⟨K2,R1⟩:=aM oM.o K2 R1;have kM:=Lib.hid (wo.o.trans (oM.o.mono wo.o.size));have RM:=dX;have RMb:=kz;have y2:=HI.o.rst 2 rfl;obtain ⟨ek,eH,kS⟩:=aU K2.o rfl rfl rfl;obtain ⟨aX,u00,u01⟩:=bZ K2.o;refine bJ (t:=0) ?_;refine aF rfl fun K' hK=>?_;go_simp;refine hK.o _ _ ?_;clear hK;refine bF ?_;have s0:∀ {v':Value} {n':Nat},RN W v' n'→RN (storeAll W (w.heap.size+1) 0 [.bool (ai m),.slice rM (ae m) rV,.slice p1 (ae n) c1]) v' n':=fun h'=>aS _ h' K2.o (by simp[bL]) (by simp[bi]);exact⟨rfl,pu,ol,rM,rV,(HI.o.finx ⟨HI.o.sx HA.o 0,HI.o.sx HA.o 1,HI.o.sx HA.o 2,HI.o.sx HA.o 3,HI.o.sx HA.o 4,x5,HI.o.sx HA.o 6,HI.o.sx HA.o 7,HI.o.sx HA.o 8,x9,trivial⟩ rfl),(az (l:=[.bool (ai m),.slice rM (ae m) rV,.slice p1 (ae n) c1]) (i:=0) (by omega) kM.o),(cK (l:=[.bool (ai m),.slice rM (ae m) rV,.slice p1 (ae n) c1]) (i:=0) K2.o),(s0 R1.o),(s0 RMb.o)⟩
 rintro a' W1 ⟨pu,ol,rM,rV,rfl,z0,z1,z2,z3⟩;obtain ⟨p9,K2,R1,RMb⟩:=aP z0 z1 z2 z3;clear z0 z1 z2 z3;simp only[putL,List.setIfInBounds_toArray,List.set_cons_zero,List.set_cons_succ];go_wp2;obtain ⟨ek,eH,kS⟩:=aU K2.o rfl rfl rfl;exact bodyPost_ret (v:=.agg #[.bool (ai m),.slice rM (ae m) rV,.slice p1 (ae n) c1]) (by simp[results,results132,go_sem,ek,eH,kS]) rfl ⟨_,_,_,_,rfl,RMb.o,R1.o,p9.o⟩
theorem z0q (n s:Int)(en:Nat)(p1:Option Addr)(c1:Nat)(s1:Option Addr)(d1:Nat)(w:World)(h1:∀ p1 c1 W,RN W (.slice p1 (ae n) c1) n.natAbs→CR 74 #[.agg #[.bool (ai n),.slice p1 (ae n) c1]] W (.int .i64 s))(r1:RN w (.slice p1 (ae n) c1) n.natAbs)(t1:RN w (.slice s1 (ah en) d1) en) :
 CR 134 #[.agg #[.bool (ai n),.slice p1 (ae n) c1,.slice s1 (ah en) d1]] w (.int .i64 s):=by
 obtain ⟨C1,R1,T1⟩:=av h1 r1 t1;clear h1 r1 t1;go_enter func134,ntmps134
 go_upto_region 1 with fail
 refine aG w [(#[.bool (ai n),.slice p1 (ae n) c1,.slice s1 (ah en) d1],50)] rfl ?_;rintro W0 ⟨k1,hb⟩;have wo:=hid (show Below w.heap.size w W0 from hb);have R1:=hid (R1.o.below wo.o);have K1:=hid k1;clear k1 hb;obtain ⟨l6,lg⟩:=ay K1.o rfl rfl;go_wp2_with fail
 with_reducible refine(C1.o _ _ _ R1.o).mono ?_
 rintro e W1 ⟨rfl,hb⟩;clear l6 lg;have p9:=hbt wo hb;clear hb;go_wp2;exact bodyPost_ret (v:=.int .i64 s) (by simp[results,results134,go_sem]) rfl ⟨rfl,p9.o⟩
theorem z2r (n1 n2 z n:Int)(en1 en2 en dn:Nat)(p1:Option Addr)(c1:Nat)(s1:Option Addr)(d1:Nat)(p2:Option Addr)(c2:Nat)(s2:Option Addr)(d2:Nat)(w:World)(h1:∀ p1 c1 p2 c2 W,RN W (.slice p1 (ae n1) c1) n1.natAbs→RN W (.slice p2 (ae n2) c2) n2.natAbs→CZ 80 #[.agg #[.bool (ai n1),.slice p1 (ae n1) c1],.agg #[.bool (ai n2),.slice p2 (ae n2) c2]] W z)(h2:∀ s1 d1 s2 d2 W,RN W (.slice s1 (ah en1) d1) en1→RN W (.slice s2 (ah en2) d2) en2→CN 79 #[.slice s1 (ah en1) d1,.slice s2 (ah en2) d2] W en)(h3:∀ p1 c1 s2 d2 W,RN W (.slice p1 (ae z) c1) z.natAbs→RN W (.slice s2 (ah en) d2) en→CF 76 #[.agg #[.bool (ai z),.slice p1 (ae z) c1],.slice s2 (ah en) d2] W n dn)(r1:RN w (.slice p1 (ae n1) c1) n1.natAbs)(t1:RN w (.slice s1 (ah en1) d1) en1)(r2:RN w (.slice p2 (ae n2) c2) n2.natAbs)(t2:RN w (.slice s2 (ah en2) d2) en2) :
 CF 30 #[.agg #[.bool (ai n1),.slice p1 (ae n1) c1,.slice s1 (ah en1) d1],.agg #[.bool (ai n2),.slice p2 (ae n2) c2,.slice s2 (ah en2) d2]] w n dn:=by
 obtain ⟨C1,C2,C3,R1,T1,R2,T2⟩:=fJ h1 h2 h3 r1 t1 r2 t2;clear h1 h2 h3 r1 t1 r2 t2;go_enter func30,ntmps30
 go_upto_region 1 with fail
 refine aG w [(#[.bool (ai n1),.slice p1 (ae n1) c1,.slice s1 (ah en1) d1],50),(#[.bool (ai n2),.slice p2 (ae n2) c2,.slice s2 (ah en2) d2],50),(#[.bool false,.slice none 0 0,.slice none 0 0],50)] rfl ?_;rintro W0 ⟨k1,k2,k3,hb⟩;have wo:=hid (show Below w.heap.size w W0 from hb);obtain ⟨R1,T1,R2,T2⟩:=bD wo.o R1 T1 R2 T2;obtain ⟨K1,K2,K3⟩:=av k1 k2 k3;clear k1 k2 k3 hb;go_wp2_with fail
 refine aK (fun a0 a' V=>∃ u6 w9 oV mf ww si sj su,a'=⟨putL [(5,.pointer (some ⟨w.heap.size,0,none⟩)),(6,.agg #[.bool (ai n1),.slice p1 (ae n1) c1]),(7,.pointer (some ⟨w.heap.size+1,0,none⟩)),(8,.agg #[.bool (ai n2),.slice p2 (ae n2) c2]),(9,.agg #[.bool (ai z),.slice u6 (ae z) w9]),(10,.pointer (some ⟨w.heap.size,2,none⟩)),(11,.slice s1 (ah en1) d1),(12,.pointer (some ⟨w.heap.size+1,2,none⟩)),(13,.slice s2 (ah en2) d2),(14,.slice oV (ah en) mf),(15,.agg #[.bool (ai n),.slice ww (ae n) si,.slice sj (ah dn) su])] a0.tmps,a0.defers⟩∧Below w.heap.size w V∧SBk V (w.heap.size+1+1) #[.bool (ai n),.slice ww (ae n) si,.slice sj (ah dn) su] 50∧RN V (.slice ww (ae n) si) (n).natAbs∧RN V (.slice sj (ah dn) su) (dn)) ?_ ?_
 · refine aY 11 1 [5,6,7,8,9,10,11,12,13,14,15] [Rel.val (.pointer (some ⟨w.heap.size,0,none⟩)),Rel.val (.agg #[.bool (ai n1),.slice p1 (ae n1) c1]),Rel.val (.pointer (some ⟨w.heap.size+1,0,none⟩)),Rel.val (.agg #[.bool (ai n2),.slice p2 (ae n2) c2]),Rel.int z,Rel.val (.pointer (some ⟨w.heap.size,2,none⟩)),Rel.val (.slice s1 (ah en1) d1),Rel.val (.pointer (some ⟨w.heap.size+1,2,none⟩)),Rel.val (.slice s2 (ah en2) d2),Rel.nat en,⟨fun v W=>∃ p c s d,v=.agg #[.bool (ai n),.slice p (ae n) c,.slice s (ah dn) d]∧RN W (.slice p (ae n) c) (n).natAbs∧RN W (.slice s (ah dn) d) (dn),fun _ _ _ ⟨p,c,s,d,e,h0,h1⟩ hb=>⟨p,c,s,d,e,h0.below hb,h1.below hb⟩⟩] ?_ ?_
   · intro p8 a W i HI hD Hr him
     obtain⟨y2,y3⟩:=HI.o.s2 2 3;obtain ⟨l6,lg⟩:=ay (K1.o.below HI.o.world) rfl rfl;obtain ⟨ek,eH⟩:=ay (K2.o.below HI.o.world) rfl rfl;have lv:=(K1.o.below HI.o.world).cell (i:=2) rfl;have kS:=(K2.o.below HI.o.world).cell (i:=2) rfl;obtain⟨X0,X2,X1,X3,X5,X7⟩:=HI.o.g6 0 5 2 7 1 6 3 8 5 10 7 12;obtain⟨X6,X8⟩:=HI.o.g2 6 11 8 13
     match i,him,Hr with
     | 0,_,Hi|1,_,Hi|2,_,Hi|3,_,Hi =>
       try have x0:=X0.t Hi.o
       try have x2:=X2.t Hi.o
       refine aF rfl fun K' hK=>?_;go_simp;exact hK.o _ _ (HI.o.pw Hi.o)
     | 4,_,Hi =>
       have x1:=X1.q Hi.o;have x3:=X3.q Hi.o;refine aF rfl fun K' hK=>?_;go_simp;with_reducible refine(C1.o _ _ _ _ _ (R1.o.below HI.o.world) (R2.o.below HI.o.world)).mono ?_
       rintro e W' ⟨u6,w9,rfl,wu,hb⟩;exact hK.o _ _ ⟨HI.o.pc Hi.o hb ⟨u6,w9,rfl,wu⟩,trivial⟩
     | 5,_,Hi|6,_,Hi|7,_,Hi|8,_,Hi =>
       try have x5:=X5.t Hi.o
       try have x7:=X7.t Hi.o
       refine aF rfl fun K' hK=>?_;go_simp;exact hK.o _ _ (HI.o.pw Hi.o)
     | 9,_,Hi =>
       have x6:=X6.q Hi.o;have x8:=X8.q Hi.o;refine aF rfl fun K' hK=>?_;go_simp;with_reducible refine(C2.o _ _ _ _ _ (T1.o.below HI.o.world) (T2.o.below HI.o.world)).mono ?_
       rintro e W' ⟨oV,mf,rfl,pq,hb⟩;exact hK.o _ _ ⟨HI.o.pc Hi.o hb ⟨oV,mf,rfl,pq⟩,trivial⟩
     | 10,_,Hi =>
       obtain⟨v',x4,u6,w9,e,wu⟩:=HI.o.at (i:=4) Hi.o (by kernel_rfl) (by decide);obtain rfl:=e;have x4:a.tmps[9]? = some (.agg #[.bool (ai z),.slice u6 (ae z) w9]):=x4;have l5:=hid wu;clear wu;obtain⟨v',x9,oV,mf,e,pq⟩:=HI.o.at (i:=9) Hi.o (by kernel_rfl) (by decide);obtain rfl:=e;have x9:a.tmps[14]? = some (.slice oV (ah en) mf):=x9;have kz:=hid pq;clear pq;refine aF rfl fun K' hK=>?_;go_simp;with_reducible refine(C3.o _ _ _ _ _ l5.o kz.o).mono ?_
       rintro e W' ⟨ww,si,sj,su,rfl,eX,d9,hb⟩;exact hK.o _ _ ⟨HI.o.pc Hi.o hb ⟨ww,si,sj,su,rfl,eX,d9⟩,trivial⟩
     | n+11,h,_=>exact absurd h (by omega)
   · intro p8 a W HI hD HA
     obtain⟨v',x4,u6,w9,e,wu⟩:=HI.o.slots 4 (by decide) (HA.o 4 (by decide));obtain rfl:=e;have l5:=hid wu;clear wu;obtain⟨v',x9,oV,mf,e,pq⟩:=HI.o.slots 9 (by decide) (HA.o 9 (by decide));obtain rfl:=e;have kz:=hid pq;clear pq;obtain⟨v',x10,ww,si,sj,su,e,eX,d9⟩:=HI.o.slots 10 (by decide) (HA.o 10 (by decide));obtain rfl:=e;have bg:=hid eX;clear eX;have bn:=hid d9;clear d9;have x10:a.tmps[15]? = some (.agg #[.bool (ai n),.slice ww (ae n) si,.slice sj (ah dn) su]):=x10;have oM:=hid HI.o.world;obtain ⟨kM,K3⟩:=aC (wo.o.trans (oM.o.mono wo.o.size)) (K3.o.below oM.o);have RZ:=l5;have RE:=kz;have RQ:=bg;have TQ:=bn;have y4:=HI.o.rst 4 rfl;obtain ⟨kV,gy,gF⟩:=aU K3.o rfl rfl rfl;obtain ⟨bq,bu,bv⟩:=bZ K3.o;refine bJ (t:=0) ?_;refine aF rfl fun K' hK=>?_;go_simp;refine hK.o _ _ ?_;clear hK;refine bF ?_;have s0:∀ {v':Value} {n':Nat},RN W v' n'→RN (storeAll W (w.heap.size+1+1) 0 [.bool (ai n),.slice ww (ae n) si,.slice sj (ah dn) su]) v' n':=fun h'=>aS _ h' K3.o (by simp[bL]) (by simp[bi]);exact⟨rfl,u6,w9,oV,mf,ww,si,sj,su,(HI.o.finx ⟨HI.o.sx HA.o 0,HI.o.sx HA.o 1,HI.o.sx HA.o 2,HI.o.sx HA.o 3,x4,HI.o.sx HA.o 5,HI.o.sx HA.o 6,HI.o.sx HA.o 7,HI.o.sx HA.o 8,x9,x10,trivial⟩ rfl),(az (l:=[.bool (ai n),.slice ww (ae n) si,.slice sj (ah dn) su]) (i:=0) (by omega) kM.o),(cK (l:=[.bool (ai n),.slice ww (ae n) si,.slice sj (ah dn) su]) (i:=0) K3.o),(s0 RQ.o),(s0 TQ.o)⟩
 rintro a' W1 ⟨u6,w9,oV,mf,ww,si,sj,su,rfl,z0,z1,z2,z3⟩;obtain ⟨p9,K3,RQ,TQ⟩:=aP z0 z1 z2 z3;clear z0 z1 z2 z3;simp only[putL,List.setIfInBounds_toArray,List.set_cons_zero,List.set_cons_succ];go_wp2;obtain ⟨kV,gy,gF⟩:=aU K3.o rfl rfl rfl;exact bodyPost_ret (v:=.agg #[.bool (ai n),.slice ww (ae n) si,.slice sj (ah dn) su]) (by simp[results,results30,go_sem,kV,gy,gF]) rfl ⟨_,_,_,_,rfl,RQ.o,TQ.o,p9.o⟩
open Go.Lib (hid)
theorem z0s (n1 n2 z n:Int)(en1 en2 dn:Nat)(p1:Option Addr)(c1:Nat)(s1:Option Addr)(d1:Nat)(p2:Option Addr)(c2:Nat)(s2:Option Addr)(d2:Nat)(w:World)(h0:∀ s1 d1 s2 d2 W,RN W (.slice s1 (ah en1) d1) en1→RN W (.slice s2 (ah en2) d2) en2→CR 73 #[.slice s1 (ah en1) d1,.slice s2 (ah en2) d2] W (.int .i64 0))(h1:∀ p1 c1 p2 c2 W,RN W (.slice p1 (ae n1) c1) n1.natAbs→RN W (.slice p2 (ae n2) c2) n2.natAbs→CZ 77 #[.agg #[.bool (ai n1),.slice p1 (ae n1) c1],.agg #[.bool (ai n2),.slice p2 (ae n2) c2]] W z)(h3:∀ p1 c1 s2 d2 W,RN W (.slice p1 (ae z) c1) z.natAbs→RN W (.slice s2 (ah en1) d2) en1→CF 76 #[.agg #[.bool (ai z),.slice p1 (ae z) c1],.slice s2 (ah en1) d2] W n dn)(r1:RN w (.slice p1 (ae n1) c1) n1.natAbs)(t1:RN w (.slice s1 (ah en1) d1) en1)(r2:RN w (.slice p2 (ae n2) c2) n2.natAbs)(t2:RN w (.slice s2 (ah en2) d2) en2) :
 CF 29 #[.agg #[.bool (ai n1),.slice p1 (ae n1) c1,.slice s1 (ah en1) d1],.agg #[.bool (ai n2),.slice p2 (ae n2) c2,.slice s2 (ah en2) d2]] w n dn:=by
 obtain ⟨C0,C1,C3,R1,T1,R2,T2⟩:=fJ h0 h1 h3 r1 t1 r2 t2;clear h0 h1 h3 r1 t1 r2 t2;go_enter func29,ntmps29
 go_upto_region 1 with fail
 refine aG w [(#[.bool (ai n1),.slice p1 (ae n1) c1,.slice s1 (ah en1) d1],50),(#[.bool (ai n2),.slice p2 (ae n2) c2,.slice s2 (ah en2) d2],50),(#[.bool false,.slice none 0 0,.slice none 0 0],50)] rfl ?_;rintro W0 ⟨k1,k2,k3,hb⟩;have wo:=hid (show Below w.heap.size w W0 from hb);obtain ⟨R1,T1,R2,T2⟩:=bD wo.o R1 T1 R2 T2;obtain ⟨K1,K2,K3⟩:=av k1 k2 k3;clear k1 k2 k3 hb;have lv:=K1.o.cell (i:=2) rfl;have kS:=K2.o.cell (i:=2) rfl;go_wp2_with fail
 with_reducible refine(C0.o _ _ _ _ _ T1.o T2.o).mono ?_
 rintro e W1 ⟨rfl,hb⟩;clear lv kS;obtain ⟨K1,K2,K3,R1,T1,R2⟩:=xR hb K1 K2 K3 R1 T1 R2;have p9:=hbt wo hb;clear hb;go_wp2_with fail
 refine aK (fun a0 a' V=>∃ u6 w9 sw r9 rq ru,a'=⟨putL [(13,.pointer (some ⟨w.heap.size,0,none⟩)),(14,.agg #[.bool (ai n1),.slice p1 (ae n1) c1]),(15,.pointer (some ⟨w.heap.size+1,0,none⟩)),(16,.agg #[.bool (ai n2),.slice p2 (ae n2) c2]),(17,.agg #[.bool (ai z),.slice u6 (ae z) w9]),(18,.pointer (some ⟨w.heap.size,2,none⟩)),(19,.slice s1 (ah en1) d1),(20,.agg #[.bool (ai n),.slice sw (ae n) r9,.slice rq (ah dn) ru])] a0.tmps,a0.defers⟩∧Below w.heap.size w V∧SBk V (w.heap.size+1+1) #[.bool (ai n),.slice sw (ae n) r9,.slice rq (ah dn) ru] 50∧RN V (.slice sw (ae n) r9) (n).natAbs∧RN V (.slice rq (ah dn) ru) (dn)) ?_ ?_
 · refine aY 8 1 [13,14,15,16,17,18,19,20] [Rel.val (.pointer (some ⟨w.heap.size,0,none⟩)),Rel.val (.agg #[.bool (ai n1),.slice p1 (ae n1) c1]),Rel.val (.pointer (some ⟨w.heap.size+1,0,none⟩)),Rel.val (.agg #[.bool (ai n2),.slice p2 (ae n2) c2]),Rel.int z,Rel.val (.pointer (some ⟨w.heap.size,2,none⟩)),Rel.val (.slice s1 (ah en1) d1),⟨fun v W=>∃ p c s d,v=.agg #[.bool (ai n),.slice p (ae n) c,.slice s (ah dn) d]∧RN W (.slice p (ae n) c) (n).natAbs∧RN W (.slice s (ah dn) d) (dn),fun _ _ _ ⟨p,c,s,d,e,h0,h1⟩ hb=>⟨p,c,s,d,e,h0.below hb,h1.below hb⟩⟩] ?_ ?_
   · intro p8 a W i HI hD Hr him
     obtain⟨y2,y3⟩:=HI.o.s2 2 3;obtain ⟨l6,lg⟩:=ay (K1.o.below HI.o.world) rfl rfl;obtain ⟨ek,eH⟩:=ay (K2.o.below HI.o.world) rfl rfl;have lv:=(K1.o.below HI.o.world).cell (i:=2) rfl;obtain⟨X0,X2,X1,X3,X5,X6⟩:=HI.o.g6 0 13 2 15 1 14 3 16 5 18 6 19
     match i,him,Hr with
     | 0,_,Hi|1,_,Hi|2,_,Hi|3,_,Hi =>
       try have x0:=X0.t Hi.o
       try have x2:=X2.t Hi.o
       refine aF rfl fun K' hK=>?_;go_simp;exact hK.o _ _ (HI.o.pw Hi.o)
     | 4,_,Hi =>
       have x1:=X1.q Hi.o;have x3:=X3.q Hi.o;refine aF rfl fun K' hK=>?_;go_simp;with_reducible refine(C1.o _ _ _ _ _ (R1.o.below HI.o.world) (R2.o.below HI.o.world)).mono ?_
       rintro e W' ⟨u6,w9,rfl,wu,hb⟩;exact hK.o _ _ ⟨HI.o.pc Hi.o hb ⟨u6,w9,rfl,wu⟩,trivial⟩
     | 5,_,Hi|6,_,Hi =>
       try have x5:=X5.t Hi.o
       refine aF rfl fun K' hK=>?_;go_simp;exact hK.o _ _ (HI.o.pw Hi.o)
     | 7,_,Hi =>
       obtain⟨v',x4,u6,w9,e,wu⟩:=HI.o.at (i:=4) Hi.o (by kernel_rfl) (by decide);obtain rfl:=e;have x4:a.tmps[17]? = some (.agg #[.bool (ai z),.slice u6 (ae z) w9]):=x4;have l5:=hid wu;clear wu;have x6:=X6.q Hi.o;refine aF rfl fun K' hK=>?_;go_simp;with_reducible refine(C3.o _ _ _ _ _ l5.o (T1.o.below HI.o.world)).mono ?_
       rintro e W' ⟨sw,r9,rq,ru,rfl,dx,dz,hb⟩;exact hK.o _ _ ⟨HI.o.pc Hi.o hb ⟨sw,r9,rq,ru,rfl,dx,dz⟩,trivial⟩
     | n+8,h,_=>exact absurd h (by omega)
   · intro p8 a W HI hD HA
     obtain⟨v',x4,u6,w9,e,wu⟩:=HI.o.slots 4 (by decide) (HA.o 4 (by decide));obtain rfl:=e;have l5:=hid wu;clear wu;obtain⟨v',x7,sw,r9,rq,ru,e,dx,dz⟩:=HI.o.slots 7 (by decide) (HA.o 7 (by decide));obtain rfl:=e;have bM:=hid dx;clear dx;have bS:=hid dz;clear dz;have x7:a.tmps[20]? = some (.agg #[.bool (ai n),.slice sw (ae n) r9,.slice rq (ah dn) ru]):=x7;have oM:=hid HI.o.world;obtain ⟨kM,K3⟩:=aC (p9.o.trans (oM.o.mono p9.o.size)) (K3.o.below oM.o);have RZ:=l5;have RQ:=bM;have TQ:=bS;have y4:=HI.o.rst 4 rfl;obtain ⟨kV,gy,gF⟩:=aU K3.o rfl rfl rfl;obtain ⟨bq,bu,bv⟩:=bZ K3.o;refine bJ (t:=0) ?_;refine aF rfl fun K' hK=>?_;go_simp;refine hK.o _ _ ?_;clear hK;refine bF ?_;have s0:∀ {v':Value} {n':Nat},RN W v' n'→RN (storeAll W (w.heap.size+1+1) 0 [.bool (ai n),.slice sw (ae n) r9,.slice rq (ah dn) ru]) v' n':=fun h'=>aS _ h' K3.o (by simp[bL]) (by simp[bi]);exact⟨rfl,u6,w9,sw,r9,rq,ru,(HI.o.finx ⟨HI.o.sx HA.o 0,HI.o.sx HA.o 1,HI.o.sx HA.o 2,HI.o.sx HA.o 3,x4,HI.o.sx HA.o 5,HI.o.sx HA.o 6,x7,trivial⟩ rfl),(az (l:=[.bool (ai n),.slice sw (ae n) r9,.slice rq (ah dn) ru]) (i:=0) (by omega) kM.o),(cK (l:=[.bool (ai n),.slice sw (ae n) r9,.slice rq (ah dn) ru]) (i:=0) K3.o),(s0 RQ.o),(s0 TQ.o)⟩
 rintro a' W2 ⟨u6,w9,sw,r9,rq,ru,rfl,z0,z1,z2,z3⟩;obtain ⟨dP,K3,RQ,TQ⟩:=aP z0 z1 z2 z3;clear z0 z1 z2 z3;simp only[putL,List.setIfInBounds_toArray,List.set_cons_zero,List.set_cons_succ];go_wp2;obtain ⟨kV,gy,gF⟩:=aU K3.o rfl rfl rfl;exact bodyPost_ret (v:=.agg #[.bool (ai n),.slice sw (ae n) r9,.slice rq (ah dn) ru]) (by simp[results,results29,go_sem,kV,gy,gF]) rfl ⟨_,_,_,_,rfl,RQ.o,TQ.o,dP.o⟩
