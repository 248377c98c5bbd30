/- texts -/
import Derived.Test.YteihfbkaieemdaaGreatDoorMz29q
namespace Go.Proofs.YteihfbkaieemdaaGreatDoor
open Go.RowKit Go.Gb
structure QS where
 b:Bool
 a:Option Addr
 n:Nat
 c:Nat
 e:Option Addr
 m:Nat
 d:Nat
def FQ (W:World) (q:QS) (x:Rat):Prop:=q.b=ai x.num∧q.n=ae x.num∧q.m=ag x.den∧RN W (.slice q.a q.n q.c) x.num.natAbs∧RN W (.slice q.e q.m q.d) x.den
theorem FQ.below {W W':World}{q:QS}{x:Rat}(h:FQ W q x)(hb:Below W.heap.size W W'):FQ W' q x:=⟨h.1,h.2.1,h.2.2.1,h.2.2.2.1.below hb,h.2.2.2.2.below hb⟩
theorem bW {q:QS}{x:Rat}{g:Nat}{T:TypeId}(l:List Value)(i:Nat){w:World}{cs:Array Value}(h:FQ w q x)(hg:SBk w g cs T)(hn:bQ cs=true)(hl:l.all bi=true):FQ (storeAll w g i l) q x:=⟨h.1,h.2.1,h.2.2.1,mP l i h.2.2.2.1 hg hn hl,mP l i h.2.2.2.2 hg hn hl⟩
abbrev QS.l (q:QS):List Value:=[.bool q.b,.slice q.a q.n q.c,.slice q.e q.m q.d]
abbrev Lvv (qa qb qc:QS):List Value:=[.bool qa.b,.slice qa.a qa.n qa.c,.slice qa.e qa.m qa.d,.bool qb.b,.slice qb.a qb.n qb.c,.slice qb.e qb.m qb.d,.bool qc.b,.slice qc.a qc.n qc.c,.slice qc.e qc.m qc.d]
abbrev QS.v (q:QS):Value:=.agg #[.bool q.b,.slice q.a q.n q.c,.slice q.e q.m q.d]
abbrev Qvv (qa qb qc:QS):Value:=.agg #[.bool qa.b,.slice qa.a qa.n qa.c,.slice qa.e qa.m qa.d,.bool qb.b,.slice qb.a qb.n qb.c,.slice qb.e qb.m qb.d,.bool qc.b,.slice qc.a qc.n qc.c,.slice qc.e qc.m qc.d]
abbrev RQ (W:World) (x:Rat):Ending→World→Prop:=fun e w'=>∃ q:QS,e=.returned (.agg #[.bool q.b,.slice q.a q.n q.c,.slice q.e q.m q.d])∧FQ w' q x∧Below W.heap.size W w'
abbrev RQb (W:World) (x:Rat) (b:Bool):Ending→World→Prop:=fun e w'=>∃ q:QS,e=.returned (.tuple #[.agg #[.bool q.b,.slice q.a q.n q.c,.slice q.e q.m q.d],.bool b])∧FQ w' q x∧Below W.heap.size W w'
abbrev RP (W:World) (v:Value):Ending→World→Prop:=fun e w'=>e=.returned v∧Below W.heap.size W w'
abbrev KQ1 (f:Nat) (x0:Rat) (z:Rat):Prop:=∀ (q0:QS) (W:World),FQ W q0 x0→Calls Tryz.prog f #[.agg #[.bool q0.b,.slice q0.a q0.n q0.c,.slice q0.e q0.m q0.d]] W (RQ W z)
abbrev KQ2 (f:Nat) (x0 x1:Rat) (z:Rat):Prop:=∀ (q0 q1:QS) (W:World),FQ W q0 x0→FQ W q1 x1→Calls Tryz.prog f #[.agg #[.bool q0.b,.slice q0.a q0.n q0.c,.slice q0.e q0.m q0.d],.agg #[.bool q1.b,.slice q1.a q1.n q1.c,.slice q1.e q1.m q1.d]] W (RQ W z)
abbrev KP1 (f:Nat) (x0:Rat) (v:Value):Prop:=∀ (q0:QS) (W:World),FQ W q0 x0→Calls Tryz.prog f #[.agg #[.bool q0.b,.slice q0.a q0.n q0.c,.slice q0.e q0.m q0.d]] W (RP W v)
abbrev KP2 (f:Nat) (x0 x1:Rat) (v:Value):Prop:=∀ (q0 q1:QS) (W:World),FQ W q0 x0→FQ W q1 x1→Calls Tryz.prog f #[.agg #[.bool q0.b,.slice q0.a q0.n q0.c,.slice q0.e q0.m q0.d],.agg #[.bool q1.b,.slice q1.a q1.n q1.c,.slice q1.e q1.m q1.d]] W (RP W v)
abbrev KS (f:Nat) (v0:Value) (z:Rat):Prop:=∀ (W:World),Calls Tryz.prog f #[v0] W (RQ W z)
abbrev KSb (f:Nat) (v0:Value) (z:Rat) (b:Bool):Prop:=∀ (W:World),Calls Tryz.prog f #[v0] W (RQb W z b)
def Rel.q (x:Rat):Rel:=⟨fun v W=>∃ q:QS,v=q.v∧FQ W q x,fun _ _ _ ⟨q,e,h⟩ hb=>⟨q,e,h.below hb⟩⟩
section
variable {ops:Array Oper} {m:Nat} {sl:Nat→Nat} {L:List Rel} {a0:Act} {P:World→Prop} {ol:Array Bool} {a:Act} {w:World}
theorem qAt (h:RInv ops m sl (RelR L) a0 P ol a w)(i d:Nat){j:Nat}{x:Rat}(hj:j∈Region.ready .any ops ol)(hw:Region.waitsFor .any ops j i=true)(hm:i<m:=by decide)(hd:sl i=d:=by rfl)(hR:L.getD i (Rel.val undef)=Rel.q x:=by rfl):∃ q:QS,a.tmps[d]? = some q.v∧Hid (FQ w q x):=by
 obtain⟨v,hv,hr⟩:=h.at hj hw hm;unfold RelR at hr
 rw[hR]at hr;obtain⟨q,rfl,hq⟩:=hr;exact⟨q,hd▸hv,Lib.hid hq⟩
theorem qEnd (h:RInv ops m sl (RelR L) a0 P ol a w)(u0d:∀ j,j<m→ol.getD j false=true)(i d:Nat){x:Rat}(hm:i<m:=by decide)(hd:sl i=d:=by rfl)(hR:L.getD i (Rel.val undef)=Rel.q x:=by rfl):∃ q:QS,a.tmps[d]? = some q.v∧Hid (FQ w q x):=by
 obtain⟨v,hv,hr⟩:=h.slots i hm (u0d i hm);unfold RelR at hr
 rw[hR]at hr;obtain⟨q,rfl,hq⟩:=hr;exact⟨q,hd▸hv,Lib.hid hq⟩
end
theorem z4R {w:World}{g:Nat}{T:TypeId}{x0 x1:Value}(h:SBk w g #[x0,x1] T):w.cell? ⟨g,0,none⟩=some x0∧w.cell? ⟨g,1,none⟩=some x1:=⟨h.cell (i:=0) rfl,h.cell (i:=1) rfl⟩
theorem cells3 {w:World}{g:Nat}{T:TypeId}{x0 x1 x2:Value}(h:SBk w g #[x0,x1,x2] T):w.cell? ⟨g,0,none⟩=some x0∧w.cell? ⟨g,1,none⟩=some x1∧w.cell? ⟨g,2,none⟩=some x2:=⟨h.cell (i:=0) rfl,h.cell (i:=1) rfl,h.cell (i:=2) rfl⟩
theorem frz2 {w:World}{g:Nat}{T:TypeId}{x0 x1:Value}(h:SBk w g #[x0,x1] T):w.frozen? ⟨g,0,none⟩=false∧w.frozen? ⟨g,1,none⟩=false:=⟨h.frozen (i:=0),h.frozen (i:=1)⟩
instance {W W':World}{q:QS}{x:Rat}:Gr (FQ W q x) W W' (FQ W' q x):=⟨fun h k=>k.below h⟩
theorem kq2 {f:Nat}{x y z:Rat}(h:∀ p1 c1 s1 d1 p2 c2 s2 d2 W,RN W (.slice p1 (ae x.num) c1) x.num.natAbs→RN W (.slice s1 (ag x.den) d1) x.den→RN W (.slice p2 (ae y.num) c2) y.num.natAbs→RN W (.slice s2 (ag y.den) d2) y.den→Calls Tryz.prog f #[.agg #[.bool (ai x.num),.slice p1 (ae x.num) c1,.slice s1 (ag x.den) d1],.agg #[.bool (ai y.num),.slice p2 (ae y.num) c2,.slice s2 (ag y.den) d2]] W fun e w'=>∃ p c s d,e=.returned (.agg #[.bool (ai z.num),.slice p (ae z.num) c,.slice s (ag z.den) d])∧RN w' (.slice p (ae z.num) c) z.num.natAbs∧RN w' (.slice s (ag z.den) d) z.den∧Below W.heap.size W w'):KQ2 f x y z:=by
 rintro⟨b,a,n,c,e,m,d⟩ ⟨b',a',n',c',e',m',d'⟩ W ⟨h1,h2,h3,h4,h5⟩ ⟨k1,k2,k3,k4,k5⟩
 dsimp only at *;subst h1 h2 h3 k1 k2 k3;exact(h _ _ _ _ _ _ _ _ W h4 h5 k4 k5).mono fun _ _ ⟨p,c,s,d,he,hr,ht,hb⟩=>⟨⟨_,p,_,c,s,_,d⟩,he,⟨rfl,rfl,rfl,hr,ht⟩,hb⟩
theorem kq1 {f:Nat}{x z:Rat}(h:∀ p1 c1 s1 d1 W,RN W (.slice p1 (ae x.num) c1) x.num.natAbs→RN W (.slice s1 (ag x.den) d1) x.den→Calls Tryz.prog f #[.agg #[.bool (ai x.num),.slice p1 (ae x.num) c1,.slice s1 (ag x.den) d1]] W fun e w'=>∃ p c s d,e=.returned (.agg #[.bool (ai z.num),.slice p (ae z.num) c,.slice s (ag z.den) d])∧RN w' (.slice p (ae z.num) c) z.num.natAbs∧RN w' (.slice s (ag z.den) d) z.den∧Below W.heap.size W w'):KQ1 f x z:=by
 rintro⟨b,a,n,c,e,m,d⟩ W ⟨h1,h2,h3,h4,h5⟩
 dsimp only at *;subst h1 h2 h3;exact(h _ _ _ _ W h4 h5).mono fun _ _ ⟨p,c,s,d,he,hr,ht,hb⟩=>⟨⟨_,p,_,c,s,_,d⟩,he,⟨rfl,rfl,rfl,hr,ht⟩,hb⟩
theorem kp2 {f:Nat}{x y:Rat}{v:Value}(h:∀ p1 c1 s1 d1 p2 c2 s2 d2 W,RN W (.slice p1 (ae x.num) c1) x.num.natAbs→RN W (.slice s1 (ag x.den) d1) x.den→RN W (.slice p2 (ae y.num) c2) y.num.natAbs→RN W (.slice s2 (ag y.den) d2) y.den→Calls Tryz.prog f #[.agg #[.bool (ai x.num),.slice p1 (ae x.num) c1,.slice s1 (ag x.den) d1],.agg #[.bool (ai y.num),.slice p2 (ae y.num) c2,.slice s2 (ag y.den) d2]] W fun e w'=>e=.returned v∧Below W.heap.size W w'):KP2 f x y v:=by
 rintro⟨b,a,n,c,e,m,d⟩ ⟨b',a',n',c',e',m',d'⟩ W ⟨h1,h2,h3,h4,h5⟩ ⟨k1,k2,k3,k4,k5⟩
 dsimp only at *;subst h1 h2 h3 k1 k2 k3;exact h _ _ _ _ _ _ _ _ W h4 h5 k4 k5
theorem kp1 {f:Nat}{x:Rat}{v:Value}(h:∀ p1 c1 s1 d1 W,RN W (.slice p1 (ae x.num) c1) x.num.natAbs→RN W (.slice s1 (ag x.den) d1) x.den→Calls Tryz.prog f #[.agg #[.bool (ai x.num),.slice p1 (ae x.num) c1,.slice s1 (ag x.den) d1]] W fun e w'=>e=.returned v∧Below W.heap.size W w'):KP1 f x v:=by
 rintro⟨b,a,n,c,e,m,d⟩ W ⟨h1,h2,h3,h4,h5⟩
 dsimp only at *;subst h1 h2 h3;exact h _ _ _ _ W h4 h5
theorem ks {f:Nat}{v:Value}{z:Rat}(h:∀ W,Calls Tryz.prog f #[v] W fun e w'=>∃ p c s d,e=.returned (.agg #[.bool (ai z.num),.slice p (ae z.num) c,.slice s (ag z.den) d])∧RN w' (.slice p (ae z.num) c) z.num.natAbs∧RN w' (.slice s (ag z.den) d) z.den∧Below W.heap.size W w'):KS f v z:=fun W=>(h W).mono fun _ _ ⟨p,c,s,d,he,hr,ht,hb⟩=>⟨⟨_,p,_,c,s,_,d⟩,he,⟨rfl,rfl,rfl,hr,ht⟩,hb⟩
theorem ksb {f:Nat}{v:Value}{z:Rat}{b:Bool}(h:∀ W,Calls Tryz.prog f #[v] W fun e w'=>∃ p c s d,e=.returned (.tuple #[.agg #[.bool (ai z.num),.slice p (ae z.num) c,.slice s (ag z.den) d],.bool b])∧RN w' (.slice p (ae z.num) c) z.num.natAbs∧RN w' (.slice s (ag z.den) d) z.den∧Below W.heap.size W w'):KSb f v z b:=fun W=>(h W).mono fun _ _ ⟨p,c,s,d,he,hr,ht,hb⟩=>⟨⟨_,p,_,c,s,_,d⟩,he,⟨rfl,rfl,rfl,hr,ht⟩,hb⟩
end Go.Proofs.YteihfbkaieemdaaGreatDoor
set_option maxRecDepth 100000
set_option maxHeartbeats 20000000
open Go.Lib (hid)
namespace Go.Proofs.YteihfbkaieemdaaGreatDoor
open Go.RowKit Go.Gb
theorem zS (n1 n2 z n:Int)(en1 en2 dn:Nat)(p1:Option Addr)(c1:Nat)(s1:Option Addr)(d1:Nat)(p2:Option Addr)(c2:Nat)(s2:Option Addr)(d2:Nat)(w:World)(h0:∀ s1 d1 s2 d2 W,RN W (.slice s1 (ag en1) d1) en1→RN W (.slice s2 (ag en2) d2) en2→CR 101 #[.slice s1 (ag en1) d1,.slice s2 (ag en2) d2] W (.int .i64 0))(h1:∀ p1 c1 p2 c2 W,RN W (.slice p1 (ae n1) c1) n1.natAbs→RN W (.slice p2 (ae n2) c2) n2.natAbs→CZ 102 #[.agg #[.bool (ai n1),.slice p1 (ae n1) c1],.agg #[.bool (ai n2),.slice p2 (ae n2) c2]] W z)(h3:∀ p1 c1 s2 d2 W,RN W (.slice p1 (ae z) c1) z.natAbs→RN W (.slice s2 (ag en1) d2) en1→CF 72 #[.agg #[.bool (ai z),.slice p1 (ae z) c1],.slice s2 (ag en1) d2] W n dn)(r1:RN w (.slice p1 (ae n1) c1) n1.natAbs)(t1:RN w (.slice s1 (ag en1) d1) en1)(r2:RN w (.slice p2 (ae n2) c2) n2.natAbs)(t2:RN w (.slice s2 (ag en2) d2) en2) :
 CF 66 #[.agg #[.bool (ai n1),.slice p1 (ae n1) c1,.slice s1 (ag en1) d1],.agg #[.bool (ai n2),.slice p2 (ae n2) c2,.slice s2 (ag en2) d2]] w n dn:=by
 obtain ⟨C0,C1,C3,R1,T1,R2,T2⟩:=dB h0 h1 h3 r1 t1 r2 t2;clear h0 h1 h3 r1 t1 r2 t2;go_enter Tryz.func66,Tryz.ntmps66
 go_upto_region 1 with fail
 refine ay w [(#[.bool (ai n1),.slice p1 (ae n1) c1,.slice s1 (ag en1) d1],54),(#[.bool (ai n2),.slice p2 (ae n2) c2,.slice s2 (ag en2) d2],54),(#[.bool false,.slice none 0 0,.slice none 0 0],54)] rfl ?_;rintro W0 ⟨k1,k2,k3,hb⟩;have bg:=hid (show Below w.heap.size w W0 from hb);obtain ⟨R1,T1,R2,T2⟩:=bF bg.o R1 T1 R2 T2;obtain ⟨K1,K2,K3⟩:=ak k1 k2 k3;clear k1 k2 k3 hb;have dX:=K1.o.cell (i:=2) rfl;have bn:=K2.o.cell (i:=2) rfl;go_wp2_with fail
 with_reducible refine(C0.o _ _ _ _ _ T1.o T2.o).mono ?_
 rintro e W1 ⟨rfl,hb⟩;clear dX bn;obtain ⟨K1,K2,K3,R1,T1,R2⟩:=iA hb K1 K2 K3 R1 T1 R2;have dY:=hbt bg hb;clear hb;go_wp2_with fail
 refine aJ (fun a0 a' V=>∃ l5 l6 wu ww sw r9,a'=⟨putL [(13,.pointer (some ⟨w.heap.size,0,none⟩)),(14,.agg #[.bool (ai n1),.slice p1 (ae n1) c1]),(15,.pointer (some ⟨w.heap.size+1,0,none⟩)),(16,.agg #[.bool (ai n2),.slice p2 (ae n2) c2]),(17,.agg #[.bool (ai z),.slice l5 (ae z) l6]),(18,.pointer (some ⟨w.heap.size,2,none⟩)),(19,.slice s1 (ag en1) d1),(20,.agg #[.bool (ai n),.slice wu (ae n) ww,.slice sw (ag dn) r9])] a0.tmps,a0.defers⟩∧Below w.heap.size w V∧SBk V (w.heap.size+1+1) #[.bool (ai n),.slice wu (ae n) ww,.slice sw (ag dn) r9] 54∧RN V (.slice wu (ae n) ww) (n).natAbs∧RN V (.slice sw (ag dn) r9) (dn)) ?_ ?_
 · refine aW 8 1 [13,14,15,16,17,18,19,20] [Rel.val (.pointer (some ⟨w.heap.size,0,none⟩)),Rel.val (.agg #[.bool (ai n1),.slice p1 (ae n1) c1]),Rel.val (.pointer (some ⟨w.heap.size+1,0,none⟩)),Rel.val (.agg #[.bool (ai n2),.slice p2 (ae n2) c2]),Rel.int z,Rel.val (.pointer (some ⟨w.heap.size,2,none⟩)),Rel.val (.slice s1 (ag en1) d1),⟨fun v W=>∃ p c s d,v=.agg #[.bool (ai n),.slice p (ae n) c,.slice s (ag dn) d]∧RN W (.slice p (ae n) c) (n).natAbs∧RN W (.slice s (ag dn) d) (dn),fun _ _ _ ⟨p,c,s,d,e,h0,h1⟩ hb=>⟨p,c,s,d,e,h0.below hb,h1.below hb⟩⟩] ?_ ?_
   · intro ol a W i HI hD Hr him
     obtain⟨y2,y3⟩:=HI.o.s2 2 3;obtain ⟨u0e,u0f⟩:=av (K1.o.below HI.o.world) rfl rfl;obtain ⟨u0g,u0h⟩:=av (K2.o.below HI.o.world) rfl rfl;have dX:=(K1.o.below HI.o.world).cell (i:=2) rfl;obtain⟨X0,X2,X1,X3,X5,X6⟩:=HI.o.g6 0 13 2 15 1 14 3 16 5 18 6 19
     match i,him,Hr with
     | 0,_,Hi|1,_,Hi|2,_,Hi|3,_,Hi =>
       try have x0:=X0.t Hi.o
       try have x2:=X2.t Hi.o
       refine aK rfl fun K' hK=>?_;go_simp;exact hK.o _ _ (HI.o.pw Hi.o)
     | 4,_,Hi =>
       have x1:=X1.q Hi.o;have x3:=X3.q Hi.o;refine aK rfl fun K' hK=>?_;go_simp;with_reducible refine(C1.o _ _ _ _ _ (R1.o.below HI.o.world) (R2.o.below HI.o.world)).mono ?_
       rintro e W' ⟨l5,l6,rfl,gF,hb⟩;exact hK.o _ _ ⟨HI.o.pc Hi.o hb ⟨l5,l6,rfl,gF⟩,trivial⟩
     | 5,_,Hi|6,_,Hi =>
       try have x5:=X5.t Hi.o
       refine aK rfl fun K' hK=>?_;go_simp;exact hK.o _ _ (HI.o.pw Hi.o)
     | 7,_,Hi =>
       obtain⟨v',x4,l5,l6,e,gF⟩:=HI.o.at (i:=4) Hi.o (by kernel_rfl) (by decide);obtain rfl:=e;have x4:a.tmps[17]? = some (.agg #[.bool (ai z),.slice l5 (ae z) l6]):=x4;have u03:=hid gF;clear gF;have x6:=X6.q Hi.o;refine aK rfl fun K' hK=>?_;go_simp;with_reducible refine(C3.o _ _ _ _ _ u03.o (T1.o.below HI.o.world)).mono ?_
       rintro e W' ⟨wu,ww,sw,r9,rfl,bV,af,hb⟩;exact hK.o _ _ ⟨HI.o.pc Hi.o hb ⟨wu,ww,sw,r9,rfl,bV,af⟩,trivial⟩
     | n+8,h,_=>exact absurd h (by omega)
   · intro ol a W HI hD HA
     obtain⟨v',x4,l5,l6,e,gF⟩:=HI.o.slots 4 (by decide) (HA.o 4 (by decide));obtain rfl:=e;have u03:=hid gF;clear gF;obtain⟨v',x7,wu,ww,sw,r9,e,bV,af⟩:=HI.o.slots 7 (by decide) (HA.o 7 (by decide));obtain rfl:=e;have u0i:=hid bV;clear bV;have u0j:=hid af;clear af;have x7:a.tmps[20]? = some (.agg #[.bool (ai n),.slice wu (ae n) ww,.slice sw (ag dn) r9]):=x7;have oV:=hid HI.o.world;obtain ⟨fq,K3⟩:=aD (dY.o.trans (oV.o.mono dY.o.size)) (K3.o.below oV.o);have RZ:=u03;have RQ:=u0i;have TQ:=u0j;have y4:=HI.o.rst 4 rfl;obtain ⟨bq,bu,bv⟩:=aO K3.o rfl rfl rfl;obtain ⟨u0k,u0l,u0m⟩:=bZ K3.o;refine aZ (t:=0) ?_;refine aK rfl fun K' hK=>?_;go_simp;refine hK.o _ _ ?_;clear hK;refine bH ?_;have s0:∀ {v':Value} {n':Nat},RN W v' n'→RN (storeAll W (w.heap.size+1+1) 0 [.bool (ai n),.slice wu (ae n) ww,.slice sw (ag dn) r9]) v' n':=fun h'=>bC _ h' K3.o (by simp[bQ]) (by simp[bi]);exact⟨rfl,l5,l6,wu,ww,sw,r9,(HI.o.finx ⟨HI.o.sx HA.o 0,HI.o.sx HA.o 1,HI.o.sx HA.o 2,HI.o.sx HA.o 3,x4,HI.o.sx HA.o 5,HI.o.sx HA.o 6,x7,trivial⟩ rfl),(ax (l:=[.bool (ai n),.slice wu (ae n) ww,.slice sw (ag dn) r9]) (i:=0) (by omega) fq.o),(dm (l:=[.bool (ai n),.slice wu (ae n) ww,.slice sw (ag dn) r9]) (i:=0) K3.o),(s0 RQ.o),(s0 TQ.o)⟩
 rintro a' W2 ⟨l5,l6,wu,ww,sw,r9,rfl,z0,z1,z2,z3⟩;obtain ⟨bz,K3,RQ,TQ⟩:=aH z0 z1 z2 z3;clear z0 z1 z2 z3;simp only[putL,List.setIfInBounds_toArray,List.set_cons_zero,List.set_cons_succ];go_wp2;obtain ⟨bq,bu,bv⟩:=aO K3.o rfl rfl rfl;exact bodyPost_ret (v:=.agg #[.bool (ai n),.slice wu (ae n) ww,.slice sw (ag dn) r9]) (by simp[results,Tryz.results66,go_sem,bq,bu,bv]) rfl ⟨_,_,_,_,rfl,RQ.o,TQ.o,bz.o⟩
open Go.Lib (hid)
theorem xW (n1 n2 x y z n k:Int)(en1 en2 en dn ua ub:Nat)(hk:k≠0)(p1:Option Addr)(c1:Nat)(s1:Option Addr)(d1:Nat)(p2:Option Addr)(c2:Nat)(s2:Option Addr)(d2:Nat)(w:World)(h0:∀ s1 d1 s2 d2 W,RN W (.slice s1 (ag en1) d1) en1→RN W (.slice s2 (ag en2) d2) en2→CR 101 #[.slice s1 (ag en1) d1,.slice s2 (ag en2) d2] W (.int .i64 k))(h1:∀ p1 c1 s2 d2 W,RN W (.slice p1 (ae n1) c1) n1.natAbs→RN W (.slice s2 (ag en2) d2) en2→CN 74 #[.slice p1 (ae n1) c1,.slice s2 (ag en2) d2] W ua)(h2:∀ s2 d2 W,RN W (.slice s2 (ag ua) d2) ua→CZ 77 #[.bool (ai n1),.slice s2 (ag ua) d2] W x)(h3:∀ p1 c1 s2 d2 W,RN W (.slice p1 (ae n2) c1) n2.natAbs→RN W (.slice s2 (ag en1) d2) en1→CN 74 #[.slice p1 (ae n2) c1,.slice s2 (ag en1) d2] W ub)(h4:∀ s2 d2 W,RN W (.slice s2 (ag ub) d2) ub→CZ 77 #[.bool (ai n2),.slice s2 (ag ub) d2] W y)(h5:∀ p1 c1 p2 c2 W,RN W (.slice p1 (ae x) c1) x.natAbs→RN W (.slice p2 (ae y) c2) y.natAbs→CZ 102 #[.agg #[.bool (ai x),.slice p1 (ae x) c1],.agg #[.bool (ai y),.slice p2 (ae y) c2]] W z)(h6:∀ s1 d1 s2 d2 W,RN W (.slice s1 (ag en1) d1) en1→RN W (.slice s2 (ag en2) d2) en2→CN 74 #[.slice s1 (ag en1) d1,.slice s2 (ag en2) d2] W en)(h7:∀ p1 c1 s2 d2 W,RN W (.slice p1 (ae z) c1) z.natAbs→RN W (.slice s2 (ag en) d2) en→CF 72 #[.agg #[.bool (ai z),.slice p1 (ae z) c1],.slice s2 (ag en) d2] W n dn)(r1:RN w (.slice p1 (ae n1) c1) n1.natAbs)(t1:RN w (.slice s1 (ag en1) d1) en1)(r2:RN w (.slice p2 (ae n2) c2) n2.natAbs)(t2:RN w (.slice s2 (ag en2) d2) en2) :
 CF 66 #[.agg #[.bool (ai n1),.slice p1 (ae n1) c1,.slice s1 (ag en1) d1],.agg #[.bool (ai n2),.slice p2 (ae n2) c2,.slice s2 (ag en2) d2]] w n dn:=by
 obtain ⟨C0,C1,C2,C3,C4,C5,C6,C7,R1⟩:=d9 h0 h1 h2 h3 h4 h5 h6 h7 r1;obtain ⟨T1,R2,T2⟩:=ak t1 r2 t2;have k0:(k==0)=false:=by rw[beq_eq_false_iff_ne];exact hk
 have k1:¬ k=0:=hk;clear hk h0 h1 h2 h3 h4 h5 h6 h7 r1 t1 r2 t2;go_enter Tryz.func66,Tryz.ntmps66
 go_upto_region 1 with fail
 refine ay w [(#[.bool (ai n1),.slice p1 (ae n1) c1,.slice s1 (ag en1) d1],54),(#[.bool (ai n2),.slice p2 (ae n2) c2,.slice s2 (ag en2) d2],54),(#[.bool false,.slice none 0 0,.slice none 0 0],54)] rfl ?_;rintro W0 ⟨k1,k2,k3,hb⟩;have bg:=hid (show Below w.heap.size w W0 from hb);obtain ⟨R1,T1,R2,T2⟩:=bF bg.o R1 T1 R2 T2;obtain ⟨K1,K2,K3⟩:=ak k1 k2 k3;clear k1 k2 k3 hb;have dX:=K1.o.cell (i:=2) rfl;have bn:=K2.o.cell (i:=2) rfl;go_wp2_with fail
 with_reducible refine(C0.o _ _ _ _ _ T1.o T2.o).mono ?_
 rintro e W1 ⟨rfl,hb⟩;clear dX bn;obtain ⟨K1,K2,K3,R1,T1,R2,T2⟩:=eZ hb K1 K2 K3 R1 T1 R2 T2;have dY:=hbt bg hb;clear hb;go_wp2_with fail
 have L1:=K1.o.lt;have L2:=K2.o.lt;have L3:=K3.o.lt;have L4:=dY.o.size;refine aJ (fun a0 a' V=>∃ mf mi u6 w9 oM,a'=⟨putL [(21,.pointer (some ⟨w.heap.size,0,none⟩)),(22,.pointer (some ⟨w.heap.size,0,none⟩)),(23,.bool (ai n1)),(24,.pointer (some ⟨w.heap.size,0,none⟩)),(25,.pointer (some ⟨w.heap.size,1,none⟩)),(26,.slice p1 (ae n1) c1),(27,.pointer (some ⟨w.heap.size+1,2,none⟩)),(28,.slice s2 (ag en2) d2),(29,.slice mf (ag ua) mi),(30,.agg #[.bool (ai x),.slice u6 (ae x) w9]),(5,.pointer (some ⟨oM,0,none⟩))] a0.tmps,a0.defers⟩∧Below w.heap.size w V∧SBk V (w.heap.size) #[.bool (ai n1),.slice p1 (ae n1) c1,.slice s1 (ag en1) d1] 54∧SBk V (w.heap.size+1) #[.bool (ai n2),.slice p2 (ae n2) c2,.slice s2 (ag en2) d2] 54∧SBk V (w.heap.size+1+1) #[.bool false,.slice none 0 0,.slice none 0 0] 54∧SBk V (oM) #[.bool (ai x),.slice u6 (ae x) w9] 52∧RN V (.slice p1 (ae n1) c1) n1.natAbs∧RN V (.slice s1 (ag en1) d1) en1∧RN V (.slice p2 (ae n2) c2) n2.natAbs∧RN V (.slice s2 (ag en2) d2) en2∧RN V (.slice mf (ag ua) mi) ua∧RN V (.slice u6 (ae x) w9) x.natAbs∧W1.heap.size≤oM) ?_ ?_
 · refine aW 11 1 [21,22,23,24,25,26,27,28,29,30,5] [Rel.val (.pointer (some ⟨w.heap.size,0,none⟩)),Rel.val (.pointer (some ⟨w.heap.size,0,none⟩)),Rel.val (.bool (ai n1)),Rel.val (.pointer (some ⟨w.heap.size,0,none⟩)),Rel.val (.pointer (some ⟨w.heap.size,1,none⟩)),Rel.val (.slice p1 (ae n1) c1),Rel.val (.pointer (some ⟨w.heap.size+1,2,none⟩)),Rel.val (.slice s2 (ag en2) d2),Rel.nat ua,Rel.int x,Rel.ptr W1.heap.size (.cells #[.bool false,.slice none 0 0] 52)] ?_ ?_
   · intro ol a W i HI hD Hr him
     obtain⟨y2,y3⟩:=HI.o.s2 2 3;obtain ⟨u0e,u0f⟩:=av (K1.o.below HI.o.world) rfl rfl;have bn:=(K2.o.below HI.o.world).cell (i:=2) rfl;obtain⟨X0,X1,X3,X4,X6,X5⟩:=HI.o.g6 0 21 1 22 3 24 4 25 6 27 5 26;obtain⟨X7,X2⟩:=HI.o.g2 7 28 2 23
     match i,him,Hr with
     | 0,_,Hi|1,_,Hi|2,_,Hi|3,_,Hi|4,_,Hi|5,_,Hi|6,_,Hi|7,_,Hi =>
       try have x0:=X0.t Hi.o
       try have x1:=X1.t Hi.o
       try have x3:=X3.t Hi.o
       try have x4:=X4.t Hi.o
       try have x6:=X6.t Hi.o
       refine aK rfl fun K' hK=>?_;go_simp;exact hK.o _ _ (HI.o.pw Hi.o)
     | 8,_,Hi =>
       have x5:=X5.q Hi.o;have x7:=X7.q Hi.o;refine aK rfl fun K' hK=>?_;go_simp;with_reducible refine(C1.o _ _ _ _ _ (R1.o.below HI.o.world) (T2.o.below HI.o.world)).mono ?_
       rintro e W' ⟨mf,mi,rfl,fQ,hb⟩;exact hK.o _ _ ⟨HI.o.pc Hi.o hb ⟨mf,mi,rfl,fQ⟩,trivial⟩
     | 9,_,Hi =>
       have x2:=X2.q Hi.o;obtain⟨v',x8,mf,mi,e,fQ⟩:=HI.o.at (i:=8) Hi.o (by kernel_rfl) (by decide);obtain rfl:=e;have x8:a.tmps[29]? = some (.slice mf (ag ua) mi):=x8;have u04:=hid fQ;clear fQ;refine aK rfl fun K' hK=>?_;go_simp;with_reducible refine(C2.o _ _ _ u04.o).mono ?_
       rintro e W' ⟨u6,w9,rfl,au,hb⟩;exact hK.o _ _ ⟨HI.o.pc Hi.o hb ⟨u6,w9,rfl,au⟩,trivial⟩
     | 10,_,Hi =>
       refine aK rfl fun K' hK=>?_;go_simp;exact hK.o _ _ ⟨HI.o.pc Hi.o ((Below.refl W.heap.size W).alloc (Nat.le_refl _) (.cells #[.bool false,.slice none 0 0] 52)) ⟨W.heap.size,rfl,HI.o.world.size,SBk.new _ _ _⟩,trivial⟩
     | n+11,h,_=>exact absurd h (by omega)
   · intro ol a W HI hD HA
     obtain⟨v',x8,mf,mi,e,fQ⟩:=HI.o.slots 8 (by decide) (HA.o 8 (by decide));obtain rfl:=e;have u04:=hid fQ;clear fQ;obtain⟨v',x9,u6,w9,e,au⟩:=HI.o.slots 9 (by decide) (HA.o 9 (by decide));obtain rfl:=e;have u0n:=hid au;clear au;have x9:a.tmps[30]? = some (.agg #[.bool (ai x),.slice u6 (ae x) w9]):=x9;obtain⟨v',x10,oM,e,u08,u09⟩:=HI.o.slots 10 (by decide) (HA.o 10 (by decide));obtain rfl:=e;have bM:=hid u08;clear u08;have u0o:=hid u09;clear u09;have x10:a.tmps[5]? = some (.pointer (some ⟨oM,0,none⟩)):=x10;have oV:=hid HI.o.world;obtain ⟨K1,K2,K3,R1,T1,R2,T2⟩:=eZ oV.o K1 K2 K3 R1 T1 R2 T2;have fq:=Lib.hid (dY.o.trans (oV.o.mono dY.o.size));have RA:=u04;have RX:=u0n;have K4:Hid (SBk W oM #[.bool false,.slice none 0 0] 52):=u0o;obtain ⟨u0p,u0q⟩:=av K4.o rfl rfl;obtain ⟨u0y,u0z⟩:=bE K4.o;refine aZ (t:=0) ?_;refine aK rfl fun K' hK=>?_;go_simp;refine hK.o _ _ ?_;clear hK;refine bH ?_;have s0:∀ {v':Value} {n':Nat},RN W v' n'→RN (storeAll W (oM) 0 [.bool (ai x),.slice u6 (ae x) w9]) v' n':=fun h'=>bC _ h' K4.o (by simp[bQ]) (by simp[bi]);have o0:∀ {g':Nat} {cs':Array Value} {T':TypeId},g'≠oM→SBk W g' cs' T'→SBk (storeAll W (oM) 0 [.bool (ai x),.slice u6 (ae x) w9]) g' cs' T':=fun hg' h'=>bO hg' _ 0 h';exact⟨rfl,mf,mi,u6,w9,oM,(HI.o.finx ⟨HI.o.sx HA.o 0,HI.o.sx HA.o 1,HI.o.sx HA.o 2,HI.o.sx HA.o 3,HI.o.sx HA.o 4,HI.o.sx HA.o 5,HI.o.sx HA.o 6,HI.o.sx HA.o 7,x8,x9,x10,trivial⟩ rfl),(ax (l:=[.bool (ai x),.slice u6 (ae x) w9]) (i:=0) (by have:=bM.o;omega) fq.o),(o0 (by have:=bM.o;omega) K1.o),(o0 (by have:=bM.o;omega) K2.o),(o0 (by have:=bM.o;omega) K3.o),(dm (l:=[.bool (ai x),.slice u6 (ae x) w9]) (i:=0) K4.o),(s0 R1.o),(s0 T1.o),(s0 R2.o),(s0 T2.o),(s0 RA.o),(s0 RX.o),bM.o⟩
 rintro a' W2 ⟨mf,mi,u6,w9,oM,rfl,z0,z1,z2,z3,z4,z5,z6,z7,z8,z9,z10,z11⟩;obtain ⟨bz,K1,K2,K3,K4,R1,T1,R2,T2⟩:=d9 z0 z1 z2 z3 z4 z5 z6 z7 z8;have RA:=hid z9;have RX:=hid z10;have R10xW2:=z11;clear z0 z1 z2 z3 z4 z5 z6 z7 z8 z9 z10 z11;simp only[putL,List.setIfInBounds_toArray,List.set_cons_zero,List.set_cons_succ];go_wp2_with fail
 have L6:=K1.o.lt;have L7:=K2.o.lt;have L8:=K3.o.lt;have L9:=K4.o.lt;have L10:=bz.o.size;refine aJ (fun a0 a' V=>∃ lg lv wm wo ma,a'=⟨putL [(31,.pointer (some ⟨w.heap.size+1,0,none⟩)),(32,.pointer (some ⟨w.heap.size+1,0,none⟩)),(33,.bool (ai n2)),(34,.pointer (some ⟨w.heap.size+1,0,none⟩)),(35,.pointer (some ⟨w.heap.size+1,1,none⟩)),(36,.slice p2 (ae n2) c2),(37,.pointer (some ⟨w.heap.size,2,none⟩)),(38,.slice s1 (ag en1) d1),(39,.slice lg (ag ub) lv),(40,.agg #[.bool (ai y),.slice wm (ae y) wo]),(6,.pointer (some ⟨ma,0,none⟩))] a0.tmps,a0.defers⟩∧Below w.heap.size w V∧SBk V (w.heap.size) #[.bool (ai n1),.slice p1 (ae n1) c1,.slice s1 (ag en1) d1] 54∧SBk V (w.heap.size+1) #[.bool (ai n2),.slice p2 (ae n2) c2,.slice s2 (ag en2) d2] 54∧SBk V (w.heap.size+1+1) #[.bool false,.slice none 0 0,.slice none 0 0] 54∧SBk V (oM) #[.bool (ai x),.slice u6 (ae x) w9] 52∧SBk V (ma) #[.bool (ai y),.slice wm (ae y) wo] 52∧RN V (.slice s1 (ag en1) d1) en1∧RN V (.slice s2 (ag en2) d2) en2∧RN V (.slice u6 (ae x) w9) x.natAbs∧RN V (.slice wm (ae y) wo) y.natAbs∧W2.heap.size≤ma) ?_ ?_
 · refine aW 11 1 [31,32,33,34,35,36,37,38,39,40,6] [Rel.val (.pointer (some ⟨w.heap.size+1,0,none⟩)),Rel.val (.pointer (some ⟨w.heap.size+1,0,none⟩)),Rel.val (.bool (ai n2)),Rel.val (.pointer (some ⟨w.heap.size+1,0,none⟩)),Rel.val (.pointer (some ⟨w.heap.size+1,1,none⟩)),Rel.val (.slice p2 (ae n2) c2),Rel.val (.pointer (some ⟨w.heap.size,2,none⟩)),Rel.val (.slice s1 (ag en1) d1),Rel.nat ub,Rel.int y,Rel.ptr W2.heap.size (.cells #[.bool false,.slice none 0 0] 52)] ?_ ?_
   · intro ol a W i HI hD Hr him
     obtain⟨y3,y2⟩:=HI.o.s2 3 2;obtain ⟨u0g,u0h⟩:=av (K2.o.below HI.o.world) rfl rfl;have dX:=(K1.o.below HI.o.world).cell (i:=2) rfl;obtain⟨X0,X1,X3,X4,X6,X5⟩:=HI.o.g6 0 31 1 32 3 34 4 35 6 37 5 36;obtain⟨X7,X2⟩:=HI.o.g2 7 38 2 33
     match i,him,Hr with
     | 0,_,Hi|1,_,Hi|2,_,Hi|3,_,Hi|4,_,Hi|5,_,Hi|6,_,Hi|7,_,Hi =>
       try have x0:=X0.t Hi.o
       try have x1:=X1.t Hi.o
       try have x3:=X3.t Hi.o
       try have x4:=X4.t Hi.o
       try have x6:=X6.t Hi.o
       refine aK rfl fun K' hK=>?_;go_simp;exact hK.o _ _ (HI.o.pw Hi.o)
     | 8,_,Hi =>
       have x5:=X5.q Hi.o;have x7:=X7.q Hi.o;refine aK rfl fun K' hK=>?_;go_simp;with_reducible refine(C3.o _ _ _ _ _ (R2.o.below HI.o.world) (T1.o.below HI.o.world)).mono ?_
       rintro e W' ⟨lg,lv,rfl,ed,hb⟩;exact hK.o _ _ ⟨HI.o.pc Hi.o hb ⟨lg,lv,rfl,ed⟩,trivial⟩
     | 9,_,Hi =>
       have x2:=X2.q Hi.o;obtain⟨v',x8,lg,lv,e,ed⟩:=HI.o.at (i:=8) Hi.o (by kernel_rfl) (by decide);obtain rfl:=e;have x8:a.tmps[39]? = some (.slice lg (ag ub) lv):=x8;have u05:=hid ed;clear ed;refine aK rfl fun K' hK=>?_;go_simp;with_reducible refine(C4.o _ _ _ u05.o).mono ?_
       rintro e W' ⟨wm,wo,rfl,u00,hb⟩;exact hK.o _ _ ⟨HI.o.pc Hi.o hb ⟨wm,wo,rfl,u00⟩,trivial⟩
     | 10,_,Hi =>
       refine aK rfl fun K' hK=>?_;go_simp;exact hK.o _ _ ⟨HI.o.pc Hi.o ((Below.refl W.heap.size W).alloc (Nat.le_refl _) (.cells #[.bool false,.slice none 0 0] 52)) ⟨W.heap.size,rfl,HI.o.world.size,SBk.new _ _ _⟩,trivial⟩
     | n+11,h,_=>exact absurd h (by omega)
   · intro ol a W HI hD HA
     obtain⟨v',x8,lg,lv,e,ed⟩:=HI.o.slots 8 (by decide) (HA.o 8 (by decide));obtain rfl:=e;have u05:=hid ed;clear ed;obtain⟨v',x9,wm,wo,e,u00⟩:=HI.o.slots 9 (by decide) (HA.o 9 (by decide));obtain rfl:=e;have u0r:=hid u00;clear u00;have x9:a.tmps[40]? = some (.agg #[.bool (ai y),.slice wm (ae y) wo]):=x9;obtain⟨v',x10,ma,e,u0a,u0b⟩:=HI.o.slots 10 (by decide) (HA.o 10 (by decide));obtain rfl:=e;have cO:=hid u0a;clear u0a;have u0s:=hid u0b;clear u0b;have x10:a.tmps[6]? = some (.pointer (some ⟨ma,0,none⟩)):=x10;have oV:=hid HI.o.world;obtain ⟨K1,K2,K3,K4,T1,T2,RX⟩:=eZ oV.o K1 K2 K3 K4 T1 T2 RX;have fq:=Lib.hid (bz.o.trans (oV.o.mono bz.o.size));have RB:=u05;have RY:=u0r;have K5:Hid (SBk W ma #[.bool false,.slice none 0 0] 52):=u0s;obtain ⟨u0t,u0u⟩:=av K5.o rfl rfl;obtain ⟨u0A,u0B⟩:=bE K5.o;refine aZ (t:=0) ?_;refine aK rfl fun K' hK=>?_;go_simp;refine hK.o _ _ ?_;clear hK;refine bH ?_;have s0:∀ {v':Value} {n':Nat},RN W v' n'→RN (storeAll W (ma) 0 [.bool (ai y),.slice wm (ae y) wo]) v' n':=fun h'=>bC _ h' K5.o (by simp[bQ]) (by simp[bi]);have o0:∀ {g':Nat} {cs':Array Value} {T':TypeId},g'≠ma→SBk W g' cs' T'→SBk (storeAll W (ma) 0 [.bool (ai y),.slice wm (ae y) wo]) g' cs' T':=fun hg' h'=>bO hg' _ 0 h';exact⟨rfl,lg,lv,wm,wo,ma,(HI.o.finx ⟨HI.o.sx HA.o 0,HI.o.sx HA.o 1,HI.o.sx HA.o 2,HI.o.sx HA.o 3,HI.o.sx HA.o 4,HI.o.sx HA.o 5,HI.o.sx HA.o 6,HI.o.sx HA.o 7,x8,x9,x10,trivial⟩ rfl),(ax (l:=[.bool (ai y),.slice wm (ae y) wo]) (i:=0) (by have:=cO.o;omega) fq.o),(o0 (by have:=cO.o;omega) K1.o),(o0 (by have:=cO.o;omega) K2.o),(o0 (by have:=cO.o;omega) K3.o),(o0 (by have:=cO.o;omega) K4.o),(dm (l:=[.bool (ai y),.slice wm (ae y) wo]) (i:=0) K5.o),(s0 T1.o),(s0 T2.o),(s0 RX.o),(s0 RY.o),cO.o⟩
 rintro a' W3 ⟨lg,lv,wm,wo,ma,rfl,z0,z1,z2,z3,z4,z5,z6,z7,z8,z9,z10⟩;obtain ⟨HB3,K1,K2,K3,K4,K5,T1,T2,RX⟩:=d9 z0 z1 z2 z3 z4 z5 z6 z7 z8;have RY:=hid z9;have R10xW3:=z10;clear z0 z1 z2 z3 z4 z5 z6 z7 z8 z9 z10;simp only[putL,List.setIfInBounds_toArray,List.set_cons_zero,List.set_cons_succ];go_wp2_with fail
 refine aJ (fun a0 a' V=>∃ kz kM kV gy rM rV p8 pq,a'=⟨putL [(41,.agg #[.bool (ai x),.slice u6 (ae x) w9]),(42,.agg #[.bool (ai y),.slice wm (ae y) wo]),(43,.agg #[.bool (ai z),.slice kz (ae z) kM]),(44,.pointer (some ⟨w.heap.size,2,none⟩)),(45,.slice s1 (ag en1) d1),(46,.pointer (some ⟨w.heap.size+1,2,none⟩)),(47,.slice s2 (ag en2) d2),(48,.slice kV (ag en) gy),(49,.agg #[.bool (ai n),.slice rM (ae n) rV,.slice p8 (ag dn) pq])] a0.tmps,a0.defers⟩∧Below w.heap.size w V∧SBk V (w.heap.size+1+1) #[.bool (ai n),.slice rM (ae n) rV,.slice p8 (ag dn) pq] 54∧RN V (.slice rM (ae n) rV) (n).natAbs∧RN V (.slice p8 (ag dn) pq) (dn)) ?_ ?_
 · refine aW 9 1 [41,42,43,44,45,46,47,48,49] [Rel.val (.agg #[.bool (ai x),.slice u6 (ae x) w9]),Rel.val (.agg #[.bool (ai y),.slice wm (ae y) wo]),Rel.int z,Rel.val (.pointer (some ⟨w.heap.size,2,none⟩)),Rel.val (.slice s1 (ag en1) d1),Rel.val (.pointer (some ⟨w.heap.size+1,2,none⟩)),Rel.val (.slice s2 (ag en2) d2),Rel.nat en,⟨fun v W=>∃ p c s d,v=.agg #[.bool (ai n),.slice p (ae n) c,.slice s (ag dn) d]∧RN W (.slice p (ae n) c) (n).natAbs∧RN W (.slice s (ag dn) d) (dn),fun _ _ _ ⟨p,c,s,d,e,h0,h1⟩ hb=>⟨p,c,s,d,e,h0.below hb,h1.below hb⟩⟩] ?_ ?_
   · intro ol a W i HI hD Hr him
     obtain⟨y5,y6,y2⟩:=HI.o.s3 5 6 2;have y3:=HI.o.rst 3 rfl;obtain ⟨u0p,u0q⟩:=av (K4.o.below HI.o.world) rfl rfl;obtain ⟨u0t,u0u⟩:=av (K5.o.below HI.o.world) rfl rfl;have dX:=(K1.o.below HI.o.world).cell (i:=2) rfl;have bn:=(K2.o.below HI.o.world).cell (i:=2) rfl;obtain⟨X0,X1,X3,X5,X4,X6⟩:=HI.o.g6 0 41 1 42 3 44 5 46 4 45 6 47
     match i,him,Hr with
     | 0,_,Hi|1,_,Hi =>
       refine aK rfl fun K' hK=>?_;go_simp;exact hK.o _ _ (HI.o.pw Hi.o)
     | 2,_,Hi =>
       have x0:=X0.q Hi.o;have x1:=X1.q Hi.o;refine aK rfl fun K' hK=>?_;go_simp;with_reducible refine(C5.o _ _ _ _ _ (RX.o.below HI.o.world) (RY.o.below HI.o.world)).mono ?_
       rintro e W' ⟨kz,kM,rfl,dx,hb⟩;exact hK.o _ _ ⟨HI.o.pc Hi.o hb ⟨kz,kM,rfl,dx⟩,trivial⟩
     | 3,_,Hi|4,_,Hi|5,_,Hi|6,_,Hi =>
       try have x3:=X3.t Hi.o
       try have x5:=X5.t Hi.o
       refine aK rfl fun K' hK=>?_;go_simp;exact hK.o _ _ (HI.o.pw Hi.o)
     | 7,_,Hi =>
       have x4:=X4.q Hi.o;have x6:=X6.q Hi.o;refine aK rfl fun K' hK=>?_;go_simp;with_reducible refine(C6.o _ _ _ _ _ (T1.o.below HI.o.world) (T2.o.below HI.o.world)).mono ?_
       rintro e W' ⟨kV,gy,rfl,dz,hb⟩;exact hK.o _ _ ⟨HI.o.pc Hi.o hb ⟨kV,gy,rfl,dz⟩,trivial⟩
     | 8,_,Hi =>
       obtain⟨v',x2,kz,kM,e,dx⟩:=HI.o.at (i:=2) Hi.o (by kernel_rfl) (by decide);obtain rfl:=e;have x2:a.tmps[43]? = some (.agg #[.bool (ai z),.slice kz (ae z) kM]):=x2;have u06:=hid dx;clear dx;obtain⟨v',x7,kV,gy,e,dz⟩:=HI.o.at (i:=7) Hi.o (by kernel_rfl) (by decide);obtain rfl:=e;have x7:a.tmps[48]? = some (.slice kV (ag en) gy):=x7;have u07:=hid dz;clear dz;refine aK rfl fun K' hK=>?_;go_simp;with_reducible refine(C7.o _ _ _ _ _ u06.o u07.o).mono ?_
       rintro e W' ⟨rM,rV,p8,pq,rfl,u01,u02,hb⟩;exact hK.o _ _ ⟨HI.o.pc Hi.o hb ⟨rM,rV,p8,pq,rfl,u01,u02⟩,trivial⟩
     | n+9,h,_=>exact absurd h (by omega)
   · intro ol a W HI hD HA
     obtain⟨v',x2,kz,kM,e,dx⟩:=HI.o.slots 2 (by decide) (HA.o 2 (by decide));obtain rfl:=e;have u06:=hid dx;clear dx;obtain⟨v',x7,kV,gy,e,dz⟩:=HI.o.slots 7 (by decide) (HA.o 7 (by decide));obtain rfl:=e;have u07:=hid dz;clear dz;obtain⟨v',x8,rM,rV,p8,pq,e,u01,u02⟩:=HI.o.slots 8 (by decide) (HA.o 8 (by decide));obtain rfl:=e;have u0v:=hid u01;clear u01;have u0w:=hid u02;clear u02;have x8:a.tmps[49]? = some (.agg #[.bool (ai n),.slice rM (ae n) rV,.slice p8 (ag dn) pq]):=x8;have oV:=hid HI.o.world;obtain ⟨fq,K3⟩:=aD (HB3.o.trans (oV.o.mono HB3.o.size)) (K3.o.below oV.o);have RZ:=u06;have RE:=u07;have RQ:=u0v;have TQ:=u0w;have y4:=HI.o.rst 4 rfl;obtain ⟨bq,bu,bv⟩:=aO K3.o rfl rfl rfl;obtain ⟨u0k,u0l,u0m⟩:=bZ K3.o;refine aZ (t:=0) ?_;refine aK rfl fun K' hK=>?_;go_simp;refine hK.o _ _ ?_;clear hK;refine bH ?_;have s0:∀ {v':Value} {n':Nat},RN W v' n'→RN (storeAll W (w.heap.size+1+1) 0 [.bool (ai n),.slice rM (ae n) rV,.slice p8 (ag dn) pq]) v' n':=fun h'=>bC _ h' K3.o (by simp[bQ]) (by simp[bi]);exact⟨rfl,kz,kM,kV,gy,rM,rV,p8,pq,(HI.o.finx ⟨HI.o.sx HA.o 0,HI.o.sx HA.o 1,x2,HI.o.sx HA.o 3,HI.o.sx HA.o 4,HI.o.sx HA.o 5,HI.o.sx HA.o 6,x7,x8,trivial⟩ rfl),(ax (l:=[.bool (ai n),.slice rM (ae n) rV,.slice p8 (ag dn) pq]) (i:=0) (by omega) fq.o),(dm (l:=[.bool (ai n),.slice rM (ae n) rV,.slice p8 (ag dn) pq]) (i:=0) K3.o),(s0 RQ.o),(s0 TQ.o)⟩
 rintro a' W4 ⟨kz,kM,kV,gy,rM,rV,p8,pq,rfl,z0,z1,z2,z3⟩;obtain ⟨HB4,K3,RQ,TQ⟩:=aH z0 z1 z2 z3;clear z0 z1 z2 z3;simp only[putL,List.setIfInBounds_toArray,List.set_cons_zero,List.set_cons_succ];go_wp2;obtain ⟨bq,bu,bv⟩:=aO K3.o rfl rfl rfl;exact bodyPost_ret (v:=.agg #[.bool (ai n),.slice rM (ae n) rV,.slice p8 (ag dn) pq]) (by simp[results,Tryz.results66,go_sem,bq,bu,bv]) rfl ⟨_,_,_,_,rfl,RQ.o,TQ.o,HB4.o⟩
