/- texts -/
import Derived.Test.YtnpkghpfmieboaaGreatDoorMz32q
open Go.Lib (hid)
namespace Go.Proofs.YtnpkghpfmieboaaGreatDoor
open Go.RowKit Go.Gb
structure QS where
 b:Bool
 a:Option Addr
 n:Nat
 c:Nat
 e:Option Addr
 m:Nat
 d:Nat
def FQ (W:World) (q:QS) (x:Rat):Prop:=q.b=ai x.num∧q.n=ae x.num∧q.m=ag x.den∧RN W (.slice q.a q.n q.c) x.num.natAbs∧RN W (.slice q.e q.m q.d) x.den
theorem FQ.below {W W':World}{q:QS}{x:Rat}(h:FQ W q x)(hb:Below W.heap.size W W'):FQ W' q x:=⟨h.1,h.2.1,h.2.2.1,h.2.2.2.1.below hb,h.2.2.2.2.below hb⟩
theorem bE {q:QS}{x:Rat}{g:Nat}{T:TypeId}(l:List Value)(i:Nat){w:World}{cs:Array Value}(h:FQ w q x)(hg:SBk w g cs T)(hn:bS cs=true)(hl:l.all bi=true):FQ (storeAll w g i l) q x:=⟨h.1,h.2.1,h.2.2.1,nG l i h.2.2.2.1 hg hn hl,nG l i h.2.2.2.2 hg hn hl⟩
abbrev QS.l (q:QS):List Value:=[.bool q.b,.slice q.a q.n q.c,.slice q.e q.m q.d]
abbrev Lvv (qa qb qc:QS):List Value:=[.bool qa.b,.slice qa.a qa.n qa.c,.slice qa.e qa.m qa.d,.bool qb.b,.slice qb.a qb.n qb.c,.slice qb.e qb.m qb.d,.bool qc.b,.slice qc.a qc.n qc.c,.slice qc.e qc.m qc.d]
abbrev QS.v (q:QS):Value:=.agg #[.bool q.b,.slice q.a q.n q.c,.slice q.e q.m q.d]
abbrev Qvv (qa qb qc:QS):Value:=.agg #[.bool qa.b,.slice qa.a qa.n qa.c,.slice qa.e qa.m qa.d,.bool qb.b,.slice qb.a qb.n qb.c,.slice qb.e qb.m qb.d,.bool qc.b,.slice qc.a qc.n qc.c,.slice qc.e qc.m qc.d]
abbrev RQ (W:World) (x:Rat):Ending→World→Prop:=fun e w'=>∃ q:QS,e=.returned (.agg #[.bool q.b,.slice q.a q.n q.c,.slice q.e q.m q.d])∧FQ w' q x∧Below W.heap.size W w'
abbrev RQb (W:World) (x:Rat) (b:Bool):Ending→World→Prop:=fun e w'=>∃ q:QS,e=.returned (.tuple #[.agg #[.bool q.b,.slice q.a q.n q.c,.slice q.e q.m q.d],.bool b])∧FQ w' q x∧Below W.heap.size W w'
abbrev Rv3 (W:World) (xa xb xc:Rat):Ending→World→Prop:=fun e w'=>∃ qa qb qc:QS,e=.returned (.agg #[.bool qa.b,.slice qa.a qa.n qa.c,.slice qa.e qa.m qa.d,.bool qb.b,.slice qb.a qb.n qb.c,.slice qb.e qb.m qb.d,.bool qc.b,.slice qc.a qc.n qc.c,.slice qc.e qc.m qc.d])∧FQ w' qa xa∧FQ w' qb xb∧FQ w' qc xc∧Below W.heap.size W w'
abbrev RVb (W:World) (xa xb xc:Rat) (b:Bool):Ending→World→Prop:=fun e w'=>∃ qa qb qc:QS,e=.returned (.tuple #[.agg #[.bool qa.b,.slice qa.a qa.n qa.c,.slice qa.e qa.m qa.d,.bool qb.b,.slice qb.a qb.n qb.c,.slice qb.e qb.m qb.d,.bool qc.b,.slice qc.a qc.n qc.c,.slice qc.e qc.m qc.d],.bool b])∧FQ w' qa xa∧FQ w' qb xb∧FQ w' qc xc∧Below W.heap.size W w'
abbrev RP (W:World) (v:Value):Ending→World→Prop:=fun e w'=>e=.returned v∧Below W.heap.size W w'
abbrev KQ2 (f:Nat) (x0 x1:Rat) (z:Rat):Prop:=∀ (q0 q1:QS) (W:World),FQ W q0 x0→FQ W q1 x1→Calls Tryz.prog f #[.agg #[.bool q0.b,.slice q0.a q0.n q0.c,.slice q0.e q0.m q0.d],.agg #[.bool q1.b,.slice q1.a q1.n q1.c,.slice q1.e q1.m q1.d]] W (RQ W z)
abbrev KP1 (f:Nat) (x0:Rat) (v:Value):Prop:=∀ (q0:QS) (W:World),FQ W q0 x0→Calls Tryz.prog f #[.agg #[.bool q0.b,.slice q0.a q0.n q0.c,.slice q0.e q0.m q0.d]] W (RP W v)
abbrev KS (f:Nat) (v0:Value) (z:Rat):Prop:=∀ (W:World),Calls Tryz.prog f #[v0] W (RQ W z)
abbrev KSb (f:Nat) (v0:Value) (z:Rat) (b:Bool):Prop:=∀ (W:World),Calls Tryz.prog f #[v0] W (RQb W z b)
abbrev KVb (f:Nat) (v0:Value) (xa xb xc:Rat) (b:Bool):Prop:=∀ (W:World),Calls Tryz.prog f #[v0] W (RVb W xa xb xc b)
abbrev KDot (f:Nat) (x0a x0b x0c x1a x1b x1c:Rat) (z:Rat):Prop:=∀ (q0a q0b q0c q1a q1b q1c:QS) (W:World),FQ W q0a x0a→FQ W q0b x0b→FQ W q0c x0c→FQ W q1a x1a→FQ W q1b x1b→FQ W q1c x1c→Calls Tryz.prog f #[.agg #[.bool q0a.b,.slice q0a.a q0a.n q0a.c,.slice q0a.e q0a.m q0a.d,.bool q0b.b,.slice q0b.a q0b.n q0b.c,.slice q0b.e q0b.m q0b.d,.bool q0c.b,.slice q0c.a q0c.n q0c.c,.slice q0c.e q0c.m q0c.d],.agg #[.bool q1a.b,.slice q1a.a q1a.n q1a.c,.slice q1a.e q1a.m q1a.d,.bool q1b.b,.slice q1b.a q1b.n q1b.c,.slice q1b.e q1b.m q1b.d,.bool q1c.b,.slice q1c.a q1c.n q1c.c,.slice q1c.e q1c.m q1c.d]] W (RQ W z)
abbrev KPl (f:Nat) (x0a x0b x0c x1a x1b x1c:Rat) (xa xb xc:Rat):Prop:=∀ (q0a q0b q0c q1a q1b q1c:QS) (W:World),FQ W q0a x0a→FQ W q0b x0b→FQ W q0c x0c→FQ W q1a x1a→FQ W q1b x1b→FQ W q1c x1c→Calls Tryz.prog f #[.agg #[.bool q0a.b,.slice q0a.a q0a.n q0a.c,.slice q0a.e q0a.m q0a.d,.bool q0b.b,.slice q0b.a q0b.n q0b.c,.slice q0b.e q0b.m q0b.d,.bool q0c.b,.slice q0c.a q0c.n q0c.c,.slice q0c.e q0c.m q0c.d],.agg #[.bool q1a.b,.slice q1a.a q1a.n q1a.c,.slice q1a.e q1a.m q1a.d,.bool q1b.b,.slice q1b.a q1b.n q1b.c,.slice q1b.e q1b.m q1b.d,.bool q1c.b,.slice q1c.a q1c.n q1c.c,.slice q1c.e q1c.m q1c.d]] W (Rv3 W xa xb xc)
abbrev KOut (f:Nat) (x0a x0b x0c:Rat) (v:Value):Prop:=∀ (q0a q0b q0c:QS) (W:World),FQ W q0a x0a→FQ W q0b x0b→FQ W q0c x0c→Calls Tryz.prog f #[.agg #[.bool q0a.b,.slice q0a.a q0a.n q0a.c,.slice q0a.e q0a.m q0a.d,.bool q0b.b,.slice q0b.a q0b.n q0b.c,.slice q0b.e q0b.m q0b.d,.bool q0c.b,.slice q0c.a q0c.n q0c.c,.slice q0c.e q0c.m q0c.d]] W (RP W v)
def Rel.q (x:Rat):Rel:=⟨fun v W=>∃ q:QS,v=q.v∧FQ W q x,fun _ _ _ ⟨q,e,h⟩ hb=>⟨q,e,h.below hb⟩⟩
def Rel.qv (x y z:Rat):Rel:=⟨fun v W=>∃ q r s:QS,v=Qvv q r s∧FQ W q x∧FQ W r y∧FQ W s z,fun _ _ _ ⟨q,r,s,e,h,k,l⟩ hb=>⟨q,r,s,e,h.below hb,k.below hb,l.below hb⟩⟩
section
variable {ops:Array Oper} {m:Nat} {sl:Nat→Nat} {L:List Rel} {a0:Act} {P:World→Prop} {wo:Array Bool} {a:Act} {w:World}
theorem qAt (h:RInv ops m sl (RelR L) a0 P wo a w)(i d:Nat){j:Nat}{x:Rat}(hj:j∈Region.ready .any ops wo)(hw:Region.waitsFor .any ops j i=true)(hm:i<m:=by decide)(hd:sl i=d:=by rfl)(hR:L.getD i (Rel.val undef)=Rel.q x:=by rfl):∃ q:QS,a.tmps[d]? = some q.v∧Hid (FQ w q x):=by
 obtain⟨v,hv,hr⟩:=h.at hj hw hm;unfold RelR at hr
 rw[hR]at hr;obtain⟨q,rfl,hq⟩:=hr;exact⟨q,hd▸hv,hid hq⟩
theorem qAtv (h:RInv ops m sl (RelR L) a0 P wo a w)(i d:Nat){j:Nat}{x y z:Rat}(hj:j∈Region.ready .any ops wo)(hw:Region.waitsFor .any ops j i=true)(hm:i<m:=by decide)(hd:sl i=d:=by rfl)(hR:L.getD i (Rel.val undef)=Rel.qv x y z:=by rfl):∃ q r s:QS,a.tmps[d]? = some (Qvv q r s)∧Hid (FQ w q x)∧Hid (FQ w r y)∧Hid (FQ w s z):=by
 obtain⟨v,hv,hr⟩:=h.at hj hw hm;unfold RelR at hr
 rw[hR]at hr;obtain⟨q,r,s,rfl,hq,hr,hs⟩:=hr;exact⟨q,r,s,hd▸hv,hid hq,hid hr,hid hs⟩
theorem qEnd (h:RInv ops m sl (RelR L) a0 P wo a w)(bM:∀ j,j<m→wo.getD j false=true)(i d:Nat){x:Rat}(hm:i<m:=by decide)(hd:sl i=d:=by rfl)(hR:L.getD i (Rel.val undef)=Rel.q x:=by rfl):∃ q:QS,a.tmps[d]? = some q.v∧Hid (FQ w q x):=by
 obtain⟨v,hv,hr⟩:=h.slots i hm (bM i hm);unfold RelR at hr
 rw[hR]at hr;obtain⟨q,rfl,hq⟩:=hr;exact⟨q,hd▸hv,hid hq⟩
theorem pK (h:RInv ops m sl (RelR L) a0 P wo a w)(bM:∀ j,j<m→wo.getD j false=true)(i d:Nat){x y z:Rat}(hm:i<m:=by decide)(hd:sl i=d:=by rfl)(hR:L.getD i (Rel.val undef)=Rel.qv x y z:=by rfl):∃ q r s:QS,a.tmps[d]? = some (Qvv q r s)∧Hid (FQ w q x)∧Hid (FQ w r y)∧Hid (FQ w s z):=by
 obtain⟨v,hv,hr⟩:=h.slots i hm (bM i hm);unfold RelR at hr
 rw[hR]at hr;obtain⟨q,r,s,rfl,hq,hr,hs⟩:=hr;exact⟨q,r,s,hd▸hv,hid hq,hid hr,hid hs⟩
end
theorem cells3 {w:World}{g:Nat}{T:TypeId}{x0 x1 x2:Value}(h:SBk w g #[x0,x1,x2] T):w.cell? ⟨g,0,none⟩=some x0∧w.cell? ⟨g,1,none⟩=some x1∧w.cell? ⟨g,2,none⟩=some x2:=⟨h.cell (i:=0) rfl,h.cell (i:=1) rfl,h.cell (i:=2) rfl⟩
theorem di {w:World}{g:Nat}{T:TypeId}{x0 x1 x2 x3 x4 x5 x6 x7 x8:Value}(h:SBk w g #[x0,x1,x2,x3,x4,x5,x6,x7,x8] T):w.cell? ⟨g,0,none⟩=some x0∧w.cell? ⟨g,1,none⟩=some x1∧w.cell? ⟨g,2,none⟩=some x2∧w.cell? ⟨g,3,none⟩=some x3∧w.cell? ⟨g,4,none⟩=some x4∧w.cell? ⟨g,5,none⟩=some x5∧w.cell? ⟨g,6,none⟩=some x6∧w.cell? ⟨g,7,none⟩=some x7∧w.cell? ⟨g,8,none⟩=some x8:=⟨h.cell (i:=0) rfl,h.cell (i:=1) rfl,h.cell (i:=2) rfl,h.cell (i:=3) rfl,h.cell (i:=4) rfl,h.cell (i:=5) rfl,h.cell (i:=6) rfl,h.cell (i:=7) rfl,h.cell (i:=8) rfl⟩
theorem frz3 {w:World}{g:Nat}{T:TypeId}{x0 x1 x2:Value}(h:SBk w g #[x0,x1,x2] T):w.frozen? ⟨g,0,none⟩=false∧w.frozen? ⟨g,1,none⟩=false∧w.frozen? ⟨g,2,none⟩=false:=⟨h.frozen (i:=0),h.frozen (i:=1),h.frozen (i:=2)⟩
theorem frz9 {w:World}{g:Nat}{T:TypeId}{x0 x1 x2 x3 x4 x5 x6 x7 x8:Value}(h:SBk w g #[x0,x1,x2,x3,x4,x5,x6,x7,x8] T):w.frozen? ⟨g,0,none⟩=false∧w.frozen? ⟨g,1,none⟩=false∧w.frozen? ⟨g,2,none⟩=false∧w.frozen? ⟨g,3,none⟩=false∧w.frozen? ⟨g,4,none⟩=false∧w.frozen? ⟨g,5,none⟩=false∧w.frozen? ⟨g,6,none⟩=false∧w.frozen? ⟨g,7,none⟩=false∧w.frozen? ⟨g,8,none⟩=false:=⟨h.frozen (i:=0),h.frozen (i:=1),h.frozen (i:=2),h.frozen (i:=3),h.frozen (i:=4),h.frozen (i:=5),h.frozen (i:=6),h.frozen (i:=7),h.frozen (i:=8)⟩
instance {W W':World}{q:QS}{x:Rat}:Gr (FQ W q x) W W' (FQ W' q x):=⟨fun h k=>k.below h⟩
end Go.Proofs.YtnpkghpfmieboaaGreatDoor
set_option maxRecDepth 100000
set_option maxHeartbeats 20000000
open Go.Lib (hid)
namespace Go.Proofs.YtnpkghpfmieboaaGreatDoor
open Go.RowKit Go.Gb
theorem z0n (n1 n2 z n:Int)(en1 en2 dn:Nat)(p1:Option Addr)(c1:Nat)(s1:Option Addr)(d1:Nat)(p2:Option Addr)(c2:Nat)(s2:Option Addr)(d2:Nat)(w:World)(h0:∀ s1 d1 s2 d2 W,RN W (.slice s1 (ag en1) d1) en1→RN W (.slice s2 (ag en2) d2) en2→CR 77 #[.slice s1 (ag en1) d1,.slice s2 (ag en2) d2] W (.int .i64 0))(h1:∀ p1 c1 p2 c2 W,RN W (.slice p1 (ae n1) c1) n1.natAbs→RN W (.slice p2 (ae n2) c2) n2.natAbs→CZ 85 #[.agg #[.bool (ai n1),.slice p1 (ae n1) c1],.agg #[.bool (ai n2),.slice p2 (ae n2) c2]] W z)(h3:∀ p1 c1 s2 d2 W,RN W (.slice p1 (ae z) c1) z.natAbs→RN W (.slice s2 (ag en1) d2) en1→CF 82 #[.agg #[.bool (ai z),.slice p1 (ae z) c1],.slice s2 (ag en1) d2] W n dn)(r1:RN w (.slice p1 (ae n1) c1) n1.natAbs)(t1:RN w (.slice s1 (ag en1) d1) en1)(r2:RN w (.slice p2 (ae n2) c2) n2.natAbs)(t2:RN w (.slice s2 (ag en2) d2) en2) :
 CF 61 #[.agg #[.bool (ai n1),.slice p1 (ae n1) c1,.slice s1 (ag en1) d1],.agg #[.bool (ai n2),.slice p2 (ae n2) c2,.slice s2 (ag en2) d2]] w n dn:=by
 obtain ⟨C0,C1,C3,R1,T1,R2,T2⟩:=fF h0 h1 h3 r1 t1 r2 t2;clear h0 h1 h3 r1 t1 r2 t2;go_enter Tryz.func61,Tryz.ntmps61
 go_upto_region 1 with fail
 refine ak w [(#[.bool (ai n1),.slice p1 (ae n1) c1,.slice s1 (ag en1) d1],57),(#[.bool (ai n2),.slice p2 (ae n2) c2,.slice s2 (ag en2) d2],57),(#[.bool false,.slice none 0 0,.slice none 0 0],57)] rfl ?_;rintro W0 ⟨k1,k2,k3,hb⟩;have p8:=hid (show Below w.heap.size w W0 from hb);obtain ⟨R1,T1,R2,T2⟩:=aW p8.o R1 T1 R2 T2;obtain ⟨K1,K2,K3⟩:=ax k1 k2 k3;clear k1 k2 k3 hb;have oM:=K1.o.cell (i:=2) rfl;have ed:=K2.o.cell (i:=2) rfl;go_wp2_with fail
 with_reducible refine(C0.o _ _ _ _ _ T1.o T2.o).mono ?_
 rintro e W1 ⟨rfl,hb⟩;clear oM ed;obtain ⟨K1,K2,K3,R1,T1,R2⟩:=cu hb K1 K2 K3 R1 T1 R2;have oV:=hbt p8 hb;clear hb;go_wp2_with fail
 refine ay (fun a0 a' V=>∃ l5 l6 wy wz si sj,a'=⟨aR [(13,.pointer (some ⟨w.heap.size,0,none⟩)),(14,.agg #[.bool (ai n1),.slice p1 (ae n1) c1]),(15,.pointer (some ⟨w.heap.size+1,0,none⟩)),(16,.agg #[.bool (ai n2),.slice p2 (ae n2) c2]),(17,.agg #[.bool (ai z),.slice l5 (ae z) l6]),(18,.pointer (some ⟨w.heap.size,2,none⟩)),(19,.slice s1 (ag en1) d1),(20,.agg #[.bool (ai n),.slice wy (ae n) wz,.slice si (ag dn) sj])] a0.tmps,a0.defers⟩∧Below w.heap.size w V∧SBk V (w.heap.size+1+1) #[.bool (ai n),.slice wy (ae n) wz,.slice si (ag dn) sj] 57∧RN V (.slice wy (ae n) wz) (n).natAbs∧RN V (.slice si (ag dn) sj) (dn)) ?_ ?_
 · refine aC 8 1 [13,14,15,16,17,18,19,20] [Rel.val (.pointer (some ⟨w.heap.size,0,none⟩)),Rel.val (.agg #[.bool (ai n1),.slice p1 (ae n1) c1]),Rel.val (.pointer (some ⟨w.heap.size+1,0,none⟩)),Rel.val (.agg #[.bool (ai n2),.slice p2 (ae n2) c2]),Rel.int z,Rel.val (.pointer (some ⟨w.heap.size,2,none⟩)),Rel.val (.slice s1 (ag en1) d1),⟨fun v W=>∃ p c s d,v=.agg #[.bool (ai n),.slice p (ae n) c,.slice s (ag dn) d]∧RN W (.slice p (ae n) c) (n).natAbs∧RN W (.slice s (ag dn) d) (dn),fun _ _ _ ⟨p,c,s,d,e,h0,h1⟩ hb=>⟨p,c,s,d,e,h0.below hb,h1.below hb⟩⟩] ?_ ?_
   · intro wo a W i HI hD Hr him
     obtain⟨y2,y3⟩:=HI.o.s2 2 3;obtain ⟨d9,dx⟩:=bH (K1.o.below HI.o.world) rfl rfl;obtain ⟨u08,u09⟩:=bH (K2.o.below HI.o.world) rfl rfl;have oM:=(K1.o.below HI.o.world).cell (i:=2) rfl;obtain⟨X0,X2,X1,X3,X5,X6⟩:=HI.o.g6 0 13 2 15 1 14 3 16 5 18 6 19
     match i,him,Hr with
     | 0,_,Hi|1,_,Hi|2,_,Hi|3,_,Hi =>
       try have x0:=X0.t Hi.o
       try have x2:=X2.t Hi.o
       refine av rfl fun K' hK=>?_;go_simp;exact hK.o _ _ (HI.o.pw Hi.o)
     | 4,_,Hi =>
       have x1:=X1.q Hi.o;have x3:=X3.q Hi.o;refine av rfl fun K' hK=>?_;go_simp;with_reducible refine(C1.o _ _ _ _ _ (R1.o.below HI.o.world) (R2.o.below HI.o.world)).mono ?_
       rintro e W' ⟨l5,l6,rfl,kK,hb⟩;exact hK.o _ _ ⟨HI.o.pc Hi.o hb ⟨l5,l6,rfl,kK⟩,trivial⟩
     | 5,_,Hi|6,_,Hi =>
       try have x5:=X5.t Hi.o
       refine av rfl fun K' hK=>?_;go_simp;exact hK.o _ _ (HI.o.pw Hi.o)
     | 7,_,Hi =>
       obtain⟨v',x4,l5,l6,e,kK⟩:=HI.o.at (i:=4) Hi.o (by kernel_rfl) (by decide);obtain rfl:=e;have x4:a.tmps[17]? = some (.agg #[.bool (ai z),.slice l5 (ae z) l6]):=x4;have bV:=hid kK;clear kK;have x6:=X6.q Hi.o;refine av rfl fun K' hK=>?_;go_simp;with_reducible refine(C3.o _ _ _ _ _ bV.o (T1.o.below HI.o.world)).mono ?_
       rintro e W' ⟨wy,wz,si,sj,rfl,bg,bn,hb⟩;exact hK.o _ _ ⟨HI.o.pc Hi.o hb ⟨wy,wz,si,sj,rfl,bg,bn⟩,trivial⟩
     | n+8,h,_=>exact absurd h (by omega)
   · intro wo a W HI hD HA
     obtain⟨v',x4,l5,l6,e,kK⟩:=HI.o.slots 4 (by decide) (HA.o 4 (by decide));obtain rfl:=e;have bV:=hid kK;clear kK;obtain⟨v',x7,wy,wz,si,sj,e,bg,bn⟩:=HI.o.slots 7 (by decide) (HA.o 7 (by decide));obtain rfl:=e;have u0a:=hid bg;clear bg;have u0b:=hid bn;clear bn;have x7:a.tmps[20]? = some (.agg #[.bool (ai n),.slice wy (ae n) wz,.slice si (ag dn) sj]):=x7;have pq:=hid HI.o.world;obtain ⟨kM,K3⟩:=aD (oV.o.trans (pq.o.mono oV.o.size)) (K3.o.below pq.o);have RZ:=bV;have RQ:=u0a;have TQ:=u0b;have y4:=HI.o.rst 4 rfl;obtain ⟨dz,dX,dY⟩:=ah K3.o rfl rfl rfl;obtain ⟨u0c,u0d,u0e⟩:=aP K3.o;refine aH (t:=0) ?_;refine av rfl fun K' hK=>?_;go_simp;refine hK.o _ _ ?_;clear hK;refine aO ?_;have s0:∀ {v':Value} {n':Nat},RN W v' n'→RN (storeAll W (w.heap.size+1+1) 0 [.bool (ai n),.slice wy (ae n) wz,.slice si (ag dn) sj]) v' n':=fun h'=>bC _ h' K3.o (by simp[bS]) (by simp[bi]);exact⟨rfl,l5,l6,wy,wz,si,sj,(HI.o.finx ⟨HI.o.sx HA.o 0,HI.o.sx HA.o 1,HI.o.sx HA.o 2,HI.o.sx HA.o 3,x4,HI.o.sx HA.o 5,HI.o.sx HA.o 6,x7,trivial⟩ rfl),(au (l:=[.bool (ai n),.slice wy (ae n) wz,.slice si (ag dn) sj]) (i:=0) (by omega) kM.o),(bO (l:=[.bool (ai n),.slice wy (ae n) wz,.slice si (ag dn) sj]) (i:=0) K3.o),(s0 RQ.o),(s0 TQ.o)⟩
 rintro a' W2 ⟨l5,l6,wy,wz,si,sj,rfl,z0,z1,z2,z3⟩;obtain ⟨ma,K3,RQ,TQ⟩:=aL z0 z1 z2 z3;clear z0 z1 z2 z3;simp only[aR,List.setIfInBounds_toArray,List.set_cons_zero,List.set_cons_succ];go_wp2;obtain ⟨dz,dX,dY⟩:=ah K3.o rfl rfl rfl;exact bodyPost_ret (v:=.agg #[.bool (ai n),.slice wy (ae n) wz,.slice si (ag dn) sj]) (by simp[results,Tryz.results61,go_sem,dz,dX,dY]) rfl ⟨_,_,_,_,rfl,RQ.o,TQ.o,ma.o⟩
open Go.Lib (hid)
theorem yX (n1 n2 x y z n k:Int)(en1 en2 en dn ua ub:Nat)(hk:k≠0)(p1:Option Addr)(c1:Nat)(s1:Option Addr)(d1:Nat)(p2:Option Addr)(c2:Nat)(s2:Option Addr)(d2:Nat)(w:World)(h0:∀ s1 d1 s2 d2 W,RN W (.slice s1 (ag en1) d1) en1→RN W (.slice s2 (ag en2) d2) en2→CR 77 #[.slice s1 (ag en1) d1,.slice s2 (ag en2) d2] W (.int .i64 k))(h1:∀ p1 c1 s2 d2 W,RN W (.slice p1 (ae n1) c1) n1.natAbs→RN W (.slice s2 (ag en2) d2) en2→CN 84 #[.slice p1 (ae n1) c1,.slice s2 (ag en2) d2] W ua)(h2:∀ s2 d2 W,RN W (.slice s2 (ag ua) d2) ua→CZ 86 #[.bool (ai n1),.slice s2 (ag ua) d2] W x)(h3:∀ p1 c1 s2 d2 W,RN W (.slice p1 (ae n2) c1) n2.natAbs→RN W (.slice s2 (ag en1) d2) en1→CN 84 #[.slice p1 (ae n2) c1,.slice s2 (ag en1) d2] W ub)(h4:∀ s2 d2 W,RN W (.slice s2 (ag ub) d2) ub→CZ 86 #[.bool (ai n2),.slice s2 (ag ub) d2] W y)(h5:∀ p1 c1 p2 c2 W,RN W (.slice p1 (ae x) c1) x.natAbs→RN W (.slice p2 (ae y) c2) y.natAbs→CZ 85 #[.agg #[.bool (ai x),.slice p1 (ae x) c1],.agg #[.bool (ai y),.slice p2 (ae y) c2]] W z)(h6:∀ s1 d1 s2 d2 W,RN W (.slice s1 (ag en1) d1) en1→RN W (.slice s2 (ag en2) d2) en2→CN 84 #[.slice s1 (ag en1) d1,.slice s2 (ag en2) d2] W en)(h7:∀ p1 c1 s2 d2 W,RN W (.slice p1 (ae z) c1) z.natAbs→RN W (.slice s2 (ag en) d2) en→CF 82 #[.agg #[.bool (ai z),.slice p1 (ae z) c1],.slice s2 (ag en) d2] W n dn)(r1:RN w (.slice p1 (ae n1) c1) n1.natAbs)(t1:RN w (.slice s1 (ag en1) d1) en1)(r2:RN w (.slice p2 (ae n2) c2) n2.natAbs)(t2:RN w (.slice s2 (ag en2) d2) en2) :
 CF 61 #[.agg #[.bool (ai n1),.slice p1 (ae n1) c1,.slice s1 (ag en1) d1],.agg #[.bool (ai n2),.slice p2 (ae n2) c2,.slice s2 (ag en2) d2]] w n dn:=by
 obtain ⟨C0,C1,C2,C3,C4,C5,C6,C7,R1⟩:=bK h0 h1 h2 h3 h4 h5 h6 h7 r1;obtain ⟨T1,R2,T2⟩:=ax t1 r2 t2;have k0:(k==0)=false:=by rw[beq_eq_false_iff_ne];exact hk
 have k1:¬ k=0:=hk;clear hk h0 h1 h2 h3 h4 h5 h6 h7 r1 t1 r2 t2;go_enter Tryz.func61,Tryz.ntmps61
 go_upto_region 1 with fail
 refine ak w [(#[.bool (ai n1),.slice p1 (ae n1) c1,.slice s1 (ag en1) d1],57),(#[.bool (ai n2),.slice p2 (ae n2) c2,.slice s2 (ag en2) d2],57),(#[.bool false,.slice none 0 0,.slice none 0 0],57)] rfl ?_;rintro W0 ⟨k1,k2,k3,hb⟩;have p8:=hid (show Below w.heap.size w W0 from hb);obtain ⟨R1,T1,R2,T2⟩:=aW p8.o R1 T1 R2 T2;obtain ⟨K1,K2,K3⟩:=ax k1 k2 k3;clear k1 k2 k3 hb;have oM:=K1.o.cell (i:=2) rfl;have ed:=K2.o.cell (i:=2) rfl;go_wp2_with fail
 with_reducible refine(C0.o _ _ _ _ _ T1.o T2.o).mono ?_
 rintro e W1 ⟨rfl,hb⟩;clear oM ed;obtain ⟨K1,K2,K3,R1,T1,R2,T2⟩:=fG hb K1 K2 K3 R1 T1 R2 T2;have oV:=hbt p8 hb;clear hb;go_wp2_with fail
 have L1:=K1.o.lt;have L2:=K2.o.lt;have L3:=K3.o.lt;have L4:=oV.o.size;refine ay (fun a0 a' V=>∃ mf mi u6 w9 rV,a'=⟨aR [(21,.pointer (some ⟨w.heap.size,0,none⟩)),(22,.pointer (some ⟨w.heap.size,0,none⟩)),(23,.bool (ai n1)),(24,.pointer (some ⟨w.heap.size,0,none⟩)),(25,.pointer (some ⟨w.heap.size,1,none⟩)),(26,.slice p1 (ae n1) c1),(27,.pointer (some ⟨w.heap.size+1,2,none⟩)),(28,.slice s2 (ag en2) d2),(29,.slice mf (ag ua) mi),(30,.agg #[.bool (ai x),.slice u6 (ae x) w9]),(5,.pointer (some ⟨rV,0,none⟩))] a0.tmps,a0.defers⟩∧Below w.heap.size w V∧SBk V (w.heap.size) #[.bool (ai n1),.slice p1 (ae n1) c1,.slice s1 (ag en1) d1] 57∧SBk V (w.heap.size+1) #[.bool (ai n2),.slice p2 (ae n2) c2,.slice s2 (ag en2) d2] 57∧SBk V (w.heap.size+1+1) #[.bool false,.slice none 0 0,.slice none 0 0] 57∧SBk V (rV) #[.bool (ai x),.slice u6 (ae x) w9] 55∧RN V (.slice p1 (ae n1) c1) n1.natAbs∧RN V (.slice s1 (ag en1) d1) en1∧RN V (.slice p2 (ae n2) c2) n2.natAbs∧RN V (.slice s2 (ag en2) d2) en2∧RN V (.slice mf (ag ua) mi) ua∧RN V (.slice u6 (ae x) w9) x.natAbs∧W1.heap.size≤rV) ?_ ?_
 · refine aC 11 1 [21,22,23,24,25,26,27,28,29,30,5] [Rel.val (.pointer (some ⟨w.heap.size,0,none⟩)),Rel.val (.pointer (some ⟨w.heap.size,0,none⟩)),Rel.val (.bool (ai n1)),Rel.val (.pointer (some ⟨w.heap.size,0,none⟩)),Rel.val (.pointer (some ⟨w.heap.size,1,none⟩)),Rel.val (.slice p1 (ae n1) c1),Rel.val (.pointer (some ⟨w.heap.size+1,2,none⟩)),Rel.val (.slice s2 (ag en2) d2),Rel.nat ua,Rel.int x,Rel.ptr W1.heap.size (.cells #[.bool false,.slice none 0 0] 55)] ?_ ?_
   · intro wo a W i HI hD Hr him
     obtain⟨y2,y3⟩:=HI.o.s2 2 3;obtain ⟨d9,dx⟩:=bH (K1.o.below HI.o.world) rfl rfl;have ed:=(K2.o.below HI.o.world).cell (i:=2) rfl;obtain⟨X0,X1,X3,X4,X6,X5⟩:=HI.o.g6 0 21 1 22 3 24 4 25 6 27 5 26;obtain⟨X7,X2⟩:=HI.o.g2 7 28 2 23
     match i,him,Hr with
     | 0,_,Hi|1,_,Hi|2,_,Hi|3,_,Hi|4,_,Hi|5,_,Hi|6,_,Hi|7,_,Hi =>
       try have x0:=X0.t Hi.o
       try have x1:=X1.t Hi.o
       try have x3:=X3.t Hi.o
       try have x4:=X4.t Hi.o
       try have x6:=X6.t Hi.o
       refine av rfl fun K' hK=>?_;go_simp;exact hK.o _ _ (HI.o.pw Hi.o)
     | 8,_,Hi =>
       have x5:=X5.q Hi.o;have x7:=X7.q Hi.o;refine av rfl fun K' hK=>?_;go_simp;with_reducible refine(C1.o _ _ _ _ _ (R1.o.below HI.o.world) (T2.o.below HI.o.world)).mono ?_
       rintro e W' ⟨mf,mi,rfl,kV,hb⟩;exact hK.o _ _ ⟨HI.o.pc Hi.o hb ⟨mf,mi,rfl,kV⟩,trivial⟩
     | 9,_,Hi =>
       have x2:=X2.q Hi.o;obtain⟨v',x8,mf,mi,e,kV⟩:=HI.o.at (i:=8) Hi.o (by kernel_rfl) (by decide);obtain rfl:=e;have x8:a.tmps[29]? = some (.slice mf (ag ua) mi):=x8;have af:=hid kV;clear kV;refine av rfl fun K' hK=>?_;go_simp;with_reducible refine(C2.o _ _ _ af.o).mono ?_
       rintro e W' ⟨u6,w9,rfl,bq,hb⟩;exact hK.o _ _ ⟨HI.o.pc Hi.o hb ⟨u6,w9,rfl,bq⟩,trivial⟩
     | 10,_,Hi =>
       refine av rfl fun K' hK=>?_;go_simp;exact hK.o _ _ ⟨HI.o.pc Hi.o ((Below.refl W.heap.size W).alloc (Nat.le_refl _) (.cells #[.bool false,.slice none 0 0] 55)) ⟨W.heap.size,rfl,HI.o.world.size,SBk.new _ _ _⟩,trivial⟩
     | n+11,h,_=>exact absurd h (by omega)
   · intro wo a W HI hD HA
     obtain⟨v',x8,mf,mi,e,kV⟩:=HI.o.slots 8 (by decide) (HA.o 8 (by decide));obtain rfl:=e;have af:=hid kV;clear kV;obtain⟨v',x9,u6,w9,e,bq⟩:=HI.o.slots 9 (by decide) (HA.o 9 (by decide));obtain rfl:=e;have u0f:=hid bq;clear bq;have x9:a.tmps[30]? = some (.agg #[.bool (ai x),.slice u6 (ae x) w9]):=x9;obtain⟨v',x10,rV,e,u03,u04⟩:=HI.o.slots 10 (by decide) (HA.o 10 (by decide));obtain rfl:=e;have cO:=hid u03;clear u03;have u0g:=hid u04;clear u04;have x10:a.tmps[5]? = some (.pointer (some ⟨rV,0,none⟩)):=x10;have pq:=hid HI.o.world;obtain ⟨K1,K2,K3,R1,T1,R2,T2⟩:=fG pq.o K1 K2 K3 R1 T1 R2 T2;have kM:=Lib.hid (oV.o.trans (pq.o.mono oV.o.size));have RA:=af;have RX:=u0f;have K4:Hid (SBk W rV #[.bool false,.slice none 0 0] 55):=u0g;obtain ⟨u0h,u0i⟩:=bH K4.o rfl rfl;obtain ⟨u0q,u0r⟩:=gm K4.o;refine aH (t:=0) ?_;refine av rfl fun K' hK=>?_;go_simp;refine hK.o _ _ ?_;clear hK;refine aO ?_;have s0:∀ {v':Value} {n':Nat},RN W v' n'→RN (storeAll W (rV) 0 [.bool (ai x),.slice u6 (ae x) w9]) v' n':=fun h'=>bC _ h' K4.o (by simp[bS]) (by simp[bi]);have o0:∀ {g':Nat} {cs':Array Value} {T':TypeId},g'≠rV→SBk W g' cs' T'→SBk (storeAll W (rV) 0 [.bool (ai x),.slice u6 (ae x) w9]) g' cs' T':=fun hg' h'=>aT hg' _ 0 h';exact⟨rfl,mf,mi,u6,w9,rV,(HI.o.finx ⟨HI.o.sx HA.o 0,HI.o.sx HA.o 1,HI.o.sx HA.o 2,HI.o.sx HA.o 3,HI.o.sx HA.o 4,HI.o.sx HA.o 5,HI.o.sx HA.o 6,HI.o.sx HA.o 7,x8,x9,x10,trivial⟩ rfl),(au (l:=[.bool (ai x),.slice u6 (ae x) w9]) (i:=0) (by have:=cO.o;omega) kM.o),(o0 (by have:=cO.o;omega) K1.o),(o0 (by have:=cO.o;omega) K2.o),(o0 (by have:=cO.o;omega) K3.o),(bO (l:=[.bool (ai x),.slice u6 (ae x) w9]) (i:=0) K4.o),(s0 R1.o),(s0 T1.o),(s0 R2.o),(s0 T2.o),(s0 RA.o),(s0 RX.o),cO.o⟩
 rintro a' W2 ⟨mf,mi,u6,w9,rV,rfl,z0,z1,z2,z3,z4,z5,z6,z7,z8,z9,z10,z11⟩;obtain ⟨ma,K1,K2,K3,K4,R1,T1,R2,T2⟩:=bK z0 z1 z2 z3 z4 z5 z6 z7 z8;have RA:=hid z9;have RX:=hid z10;have R10xW2:=z11;clear z0 z1 z2 z3 z4 z5 z6 z7 z8 z9 z10 z11;simp only[aR,List.setIfInBounds_toArray,List.set_cons_zero,List.set_cons_succ];go_wp2_with fail
 have L6:=K1.o.lt;have L7:=K2.o.lt;have L8:=K3.o.lt;have L9:=K4.o.lt;have L10:=ma.o.size;refine ay (fun a0 a' V=>∃ lc lg wu ww ol,a'=⟨aR [(31,.pointer (some ⟨w.heap.size+1,0,none⟩)),(32,.pointer (some ⟨w.heap.size+1,0,none⟩)),(33,.bool (ai n2)),(34,.pointer (some ⟨w.heap.size+1,0,none⟩)),(35,.pointer (some ⟨w.heap.size+1,1,none⟩)),(36,.slice p2 (ae n2) c2),(37,.pointer (some ⟨w.heap.size,2,none⟩)),(38,.slice s1 (ag en1) d1),(39,.slice lc (ag ub) lg),(40,.agg #[.bool (ai y),.slice wu (ae y) ww]),(6,.pointer (some ⟨ol,0,none⟩))] a0.tmps,a0.defers⟩∧Below w.heap.size w V∧SBk V (w.heap.size) #[.bool (ai n1),.slice p1 (ae n1) c1,.slice s1 (ag en1) d1] 57∧SBk V (w.heap.size+1) #[.bool (ai n2),.slice p2 (ae n2) c2,.slice s2 (ag en2) d2] 57∧SBk V (w.heap.size+1+1) #[.bool false,.slice none 0 0,.slice none 0 0] 57∧SBk V (rV) #[.bool (ai x),.slice u6 (ae x) w9] 55∧SBk V (ol) #[.bool (ai y),.slice wu (ae y) ww] 55∧RN V (.slice s1 (ag en1) d1) en1∧RN V (.slice s2 (ag en2) d2) en2∧RN V (.slice u6 (ae x) w9) x.natAbs∧RN V (.slice wu (ae y) ww) y.natAbs∧W2.heap.size≤ol) ?_ ?_
 · refine aC 11 1 [31,32,33,34,35,36,37,38,39,40,6] [Rel.val (.pointer (some ⟨w.heap.size+1,0,none⟩)),Rel.val (.pointer (some ⟨w.heap.size+1,0,none⟩)),Rel.val (.bool (ai n2)),Rel.val (.pointer (some ⟨w.heap.size+1,0,none⟩)),Rel.val (.pointer (some ⟨w.heap.size+1,1,none⟩)),Rel.val (.slice p2 (ae n2) c2),Rel.val (.pointer (some ⟨w.heap.size,2,none⟩)),Rel.val (.slice s1 (ag en1) d1),Rel.nat ub,Rel.int y,Rel.ptr W2.heap.size (.cells #[.bool false,.slice none 0 0] 55)] ?_ ?_
   · intro wo a W i HI hD Hr him
     obtain⟨y3,y2⟩:=HI.o.s2 3 2;obtain ⟨u08,u09⟩:=bH (K2.o.below HI.o.world) rfl rfl;have oM:=(K1.o.below HI.o.world).cell (i:=2) rfl;obtain⟨X0,X1,X3,X4,X6,X5⟩:=HI.o.g6 0 31 1 32 3 34 4 35 6 37 5 36;obtain⟨X7,X2⟩:=HI.o.g2 7 38 2 33
     match i,him,Hr with
     | 0,_,Hi|1,_,Hi|2,_,Hi|3,_,Hi|4,_,Hi|5,_,Hi|6,_,Hi|7,_,Hi =>
       try have x0:=X0.t Hi.o
       try have x1:=X1.t Hi.o
       try have x3:=X3.t Hi.o
       try have x4:=X4.t Hi.o
       try have x6:=X6.t Hi.o
       refine av rfl fun K' hK=>?_;go_simp;exact hK.o _ _ (HI.o.pw Hi.o)
     | 8,_,Hi =>
       have x5:=X5.q Hi.o;have x7:=X7.q Hi.o;refine av rfl fun K' hK=>?_;go_simp;with_reducible refine(C3.o _ _ _ _ _ (R2.o.below HI.o.world) (T1.o.below HI.o.world)).mono ?_
       rintro e W' ⟨lc,lg,rfl,gy,hb⟩;exact hK.o _ _ ⟨HI.o.pc Hi.o hb ⟨lc,lg,rfl,gy⟩,trivial⟩
     | 9,_,Hi =>
       have x2:=X2.q Hi.o;obtain⟨v',x8,lc,lg,e,gy⟩:=HI.o.at (i:=8) Hi.o (by kernel_rfl) (by decide);obtain rfl:=e;have x8:a.tmps[39]? = some (.slice lc (ag ub) lg):=x8;have u00:=hid gy;clear gy;refine av rfl fun K' hK=>?_;go_simp;with_reducible refine(C4.o _ _ _ u00.o).mono ?_
       rintro e W' ⟨wu,ww,rfl,bu,hb⟩;exact hK.o _ _ ⟨HI.o.pc Hi.o hb ⟨wu,ww,rfl,bu⟩,trivial⟩
     | 10,_,Hi =>
       refine av rfl fun K' hK=>?_;go_simp;exact hK.o _ _ ⟨HI.o.pc Hi.o ((Below.refl W.heap.size W).alloc (Nat.le_refl _) (.cells #[.bool false,.slice none 0 0] 55)) ⟨W.heap.size,rfl,HI.o.world.size,SBk.new _ _ _⟩,trivial⟩
     | n+11,h,_=>exact absurd h (by omega)
   · intro wo a W HI hD HA
     obtain⟨v',x8,lc,lg,e,gy⟩:=HI.o.slots 8 (by decide) (HA.o 8 (by decide));obtain rfl:=e;have u00:=hid gy;clear gy;obtain⟨v',x9,wu,ww,e,bu⟩:=HI.o.slots 9 (by decide) (HA.o 9 (by decide));obtain rfl:=e;have u0j:=hid bu;clear bu;have x9:a.tmps[40]? = some (.agg #[.bool (ai y),.slice wu (ae y) ww]):=x9;obtain⟨v',x10,ol,e,u05,u06⟩:=HI.o.slots 10 (by decide) (HA.o 10 (by decide));obtain rfl:=e;have fQ:=hid u05;clear u05;have u0k:=hid u06;clear u06;have x10:a.tmps[6]? = some (.pointer (some ⟨ol,0,none⟩)):=x10;have pq:=hid HI.o.world;obtain ⟨K1,K2,K3,K4,T1,T2,RX⟩:=fG pq.o K1 K2 K3 K4 T1 T2 RX;have kM:=Lib.hid (ma.o.trans (pq.o.mono ma.o.size));have RB:=u00;have RY:=u0j;have K5:Hid (SBk W ol #[.bool false,.slice none 0 0] 55):=u0k;obtain ⟨u0l,u0m⟩:=bH K5.o rfl rfl;obtain ⟨u0s,u0t⟩:=gm K5.o;refine aH (t:=0) ?_;refine av rfl fun K' hK=>?_;go_simp;refine hK.o _ _ ?_;clear hK;refine aO ?_;have s0:∀ {v':Value} {n':Nat},RN W v' n'→RN (storeAll W (ol) 0 [.bool (ai y),.slice wu (ae y) ww]) v' n':=fun h'=>bC _ h' K5.o (by simp[bS]) (by simp[bi]);have o0:∀ {g':Nat} {cs':Array Value} {T':TypeId},g'≠ol→SBk W g' cs' T'→SBk (storeAll W (ol) 0 [.bool (ai y),.slice wu (ae y) ww]) g' cs' T':=fun hg' h'=>aT hg' _ 0 h';exact⟨rfl,lc,lg,wu,ww,ol,(HI.o.finx ⟨HI.o.sx HA.o 0,HI.o.sx HA.o 1,HI.o.sx HA.o 2,HI.o.sx HA.o 3,HI.o.sx HA.o 4,HI.o.sx HA.o 5,HI.o.sx HA.o 6,HI.o.sx HA.o 7,x8,x9,x10,trivial⟩ rfl),(au (l:=[.bool (ai y),.slice wu (ae y) ww]) (i:=0) (by have:=fQ.o;omega) kM.o),(o0 (by have:=fQ.o;omega) K1.o),(o0 (by have:=fQ.o;omega) K2.o),(o0 (by have:=fQ.o;omega) K3.o),(o0 (by have:=fQ.o;omega) K4.o),(bO (l:=[.bool (ai y),.slice wu (ae y) ww]) (i:=0) K5.o),(s0 T1.o),(s0 T2.o),(s0 RX.o),(s0 RY.o),fQ.o⟩
 rintro a' W3 ⟨lc,lg,wu,ww,ol,rfl,z0,z1,z2,z3,z4,z5,z6,z7,z8,z9,z10⟩;obtain ⟨HB3,K1,K2,K3,K4,K5,T1,T2,RX⟩:=bK z0 z1 z2 z3 z4 z5 z6 z7 z8;have RY:=hid z9;have R10xW3:=z10;clear z0 z1 z2 z3 z4 z5 z6 z7 z8 z9 z10;simp only[aR,List.setIfInBounds_toArray,List.set_cons_zero,List.set_cons_succ];go_wp2_with fail
 refine ay (fun a0 a' V=>∃ lv kr ky kz sw r9 rf rM,a'=⟨aR [(41,.agg #[.bool (ai x),.slice u6 (ae x) w9]),(42,.agg #[.bool (ai y),.slice wu (ae y) ww]),(43,.agg #[.bool (ai z),.slice lv (ae z) kr]),(44,.pointer (some ⟨w.heap.size,2,none⟩)),(45,.slice s1 (ag en1) d1),(46,.pointer (some ⟨w.heap.size+1,2,none⟩)),(47,.slice s2 (ag en2) d2),(48,.slice ky (ag en) kz),(49,.agg #[.bool (ai n),.slice sw (ae n) r9,.slice rf (ag dn) rM])] a0.tmps,a0.defers⟩∧Below w.heap.size w V∧SBk V (w.heap.size+1+1) #[.bool (ai n),.slice sw (ae n) r9,.slice rf (ag dn) rM] 57∧RN V (.slice sw (ae n) r9) (n).natAbs∧RN V (.slice rf (ag dn) rM) (dn)) ?_ ?_
 · refine aC 9 1 [41,42,43,44,45,46,47,48,49] [Rel.val (.agg #[.bool (ai x),.slice u6 (ae x) w9]),Rel.val (.agg #[.bool (ai y),.slice wu (ae y) ww]),Rel.int z,Rel.val (.pointer (some ⟨w.heap.size,2,none⟩)),Rel.val (.slice s1 (ag en1) d1),Rel.val (.pointer (some ⟨w.heap.size+1,2,none⟩)),Rel.val (.slice s2 (ag en2) d2),Rel.nat en,⟨fun v W=>∃ p c s d,v=.agg #[.bool (ai n),.slice p (ae n) c,.slice s (ag dn) d]∧RN W (.slice p (ae n) c) (n).natAbs∧RN W (.slice s (ag dn) d) (dn),fun _ _ _ ⟨p,c,s,d,e,h0,h1⟩ hb=>⟨p,c,s,d,e,h0.below hb,h1.below hb⟩⟩] ?_ ?_
   · intro wo a W i HI hD Hr him
     obtain⟨y5,y6,y2⟩:=HI.o.s3 5 6 2;have y3:=HI.o.rst 3 rfl;obtain ⟨u0h,u0i⟩:=bH (K4.o.below HI.o.world) rfl rfl;obtain ⟨u0l,u0m⟩:=bH (K5.o.below HI.o.world) rfl rfl;have oM:=(K1.o.below HI.o.world).cell (i:=2) rfl;have ed:=(K2.o.below HI.o.world).cell (i:=2) rfl;obtain⟨X0,X1,X3,X5,X4,X6⟩:=HI.o.g6 0 41 1 42 3 44 5 46 4 45 6 47
     match i,him,Hr with
     | 0,_,Hi|1,_,Hi =>
       refine av rfl fun K' hK=>?_;go_simp;exact hK.o _ _ (HI.o.pw Hi.o)
     | 2,_,Hi =>
       have x0:=X0.q Hi.o;have x1:=X1.q Hi.o;refine av rfl fun K' hK=>?_;go_simp;with_reducible refine(C5.o _ _ _ _ _ (RX.o.below HI.o.world) (RY.o.below HI.o.world)).mono ?_
       rintro e W' ⟨lv,kr,rfl,fq,hb⟩;exact hK.o _ _ ⟨HI.o.pc Hi.o hb ⟨lv,kr,rfl,fq⟩,trivial⟩
     | 3,_,Hi|4,_,Hi|5,_,Hi|6,_,Hi =>
       try have x3:=X3.t Hi.o
       try have x5:=X5.t Hi.o
       refine av rfl fun K' hK=>?_;go_simp;exact hK.o _ _ (HI.o.pw Hi.o)
     | 7,_,Hi =>
       have x4:=X4.q Hi.o;have x6:=X6.q Hi.o;refine av rfl fun K' hK=>?_;go_simp;with_reducible refine(C6.o _ _ _ _ _ (T1.o.below HI.o.world) (T2.o.below HI.o.world)).mono ?_
       rintro e W' ⟨ky,kz,rfl,fw,hb⟩;exact hK.o _ _ ⟨HI.o.pc Hi.o hb ⟨ky,kz,rfl,fw⟩,trivial⟩
     | 8,_,Hi =>
       obtain⟨v',x2,lv,kr,e,fq⟩:=HI.o.at (i:=2) Hi.o (by kernel_rfl) (by decide);obtain rfl:=e;have x2:a.tmps[43]? = some (.agg #[.bool (ai z),.slice lv (ae z) kr]):=x2;have u01:=hid fq;clear fq;obtain⟨v',x7,ky,kz,e,fw⟩:=HI.o.at (i:=7) Hi.o (by kernel_rfl) (by decide);obtain rfl:=e;have x7:a.tmps[48]? = some (.slice ky (ag en) kz):=x7;have u02:=hid fw;clear fw;refine av rfl fun K' hK=>?_;go_simp;with_reducible refine(C7.o _ _ _ _ _ u01.o u02.o).mono ?_
       rintro e W' ⟨sw,r9,rf,rM,rfl,bv,bz,hb⟩;exact hK.o _ _ ⟨HI.o.pc Hi.o hb ⟨sw,r9,rf,rM,rfl,bv,bz⟩,trivial⟩
     | n+9,h,_=>exact absurd h (by omega)
   · intro wo a W HI hD HA
     obtain⟨v',x2,lv,kr,e,fq⟩:=HI.o.slots 2 (by decide) (HA.o 2 (by decide));obtain rfl:=e;have u01:=hid fq;clear fq;obtain⟨v',x7,ky,kz,e,fw⟩:=HI.o.slots 7 (by decide) (HA.o 7 (by decide));obtain rfl:=e;have u02:=hid fw;clear fw;obtain⟨v',x8,sw,r9,rf,rM,e,bv,bz⟩:=HI.o.slots 8 (by decide) (HA.o 8 (by decide));obtain rfl:=e;have u0n:=hid bv;clear bv;have u0o:=hid bz;clear bz;have x8:a.tmps[49]? = some (.agg #[.bool (ai n),.slice sw (ae n) r9,.slice rf (ag dn) rM]):=x8;have pq:=hid HI.o.world;obtain ⟨kM,K3⟩:=aD (HB3.o.trans (pq.o.mono HB3.o.size)) (K3.o.below pq.o);have RZ:=u01;have RE:=u02;have RQ:=u0n;have TQ:=u0o;have y4:=HI.o.rst 4 rfl;obtain ⟨dz,dX,dY⟩:=ah K3.o rfl rfl rfl;obtain ⟨u0c,u0d,u0e⟩:=aP K3.o;refine aH (t:=0) ?_;refine av rfl fun K' hK=>?_;go_simp;refine hK.o _ _ ?_;clear hK;refine aO ?_;have s0:∀ {v':Value} {n':Nat},RN W v' n'→RN (storeAll W (w.heap.size+1+1) 0 [.bool (ai n),.slice sw (ae n) r9,.slice rf (ag dn) rM]) v' n':=fun h'=>bC _ h' K3.o (by simp[bS]) (by simp[bi]);exact⟨rfl,lv,kr,ky,kz,sw,r9,rf,rM,(HI.o.finx ⟨HI.o.sx HA.o 0,HI.o.sx HA.o 1,x2,HI.o.sx HA.o 3,HI.o.sx HA.o 4,HI.o.sx HA.o 5,HI.o.sx HA.o 6,x7,x8,trivial⟩ rfl),(au (l:=[.bool (ai n),.slice sw (ae n) r9,.slice rf (ag dn) rM]) (i:=0) (by omega) kM.o),(bO (l:=[.bool (ai n),.slice sw (ae n) r9,.slice rf (ag dn) rM]) (i:=0) K3.o),(s0 RQ.o),(s0 TQ.o)⟩
 rintro a' W4 ⟨lv,kr,ky,kz,sw,r9,rf,rM,rfl,z0,z1,z2,z3⟩;obtain ⟨HB4,K3,RQ,TQ⟩:=aL z0 z1 z2 z3;clear z0 z1 z2 z3;simp only[aR,List.setIfInBounds_toArray,List.set_cons_zero,List.set_cons_succ];go_wp2;obtain ⟨dz,dX,dY⟩:=ah K3.o rfl rfl rfl;exact bodyPost_ret (v:=.agg #[.bool (ai n),.slice sw (ae n) r9,.slice rf (ag dn) rM]) (by simp[results,Tryz.results61,go_sem,dz,dX,dY]) rfl ⟨_,_,_,_,rfl,RQ.o,TQ.o,HB4.o⟩
end Go.Proofs.YtnpkghpfmieboaaGreatDoor
open Go.Lib (hid)
namespace Go.Proofs.YtnpkghpfmieboaaGreatDoor
open Go.RowKit Go.Gb
theorem z3M (n:Int)(en:Nat)(sn:ByteArray)(p1:Option Addr)(c1:Nat)(s1:Option Addr)(d1:Nat)(w:World)(h1:∀ p1 c1 W,RN W (.slice p1 (ae n) c1) n.natAbs→CR 59 #[.agg #[.bool (ai n),.slice p1 (ae n) c1]] W (.string sn))(h2:∀ s1 d1 W,RN W (.slice s1 (ag en) d1) en→CR 60 #[.slice s1 (ag en) d1] W (.string ⟨#[49]⟩))(r1:RN w (.slice p1 (ae n) c1) n.natAbs)(t1:RN w (.slice s1 (ag en) d1) en) :
 CR 40 #[.agg #[.bool (ai n),.slice p1 (ae n) c1,.slice s1 (ag en) d1]] w (.string sn):=by
 obtain ⟨C1,C2,R1,T1⟩:=aL h1 h2 r1 t1;clear h1 h2 r1 t1;go_enter Tryz.func40,Tryz.ntmps40
 go_upto_region 1 with fail
 refine ak w [(#[.bool (ai n),.slice p1 (ae n) c1,.slice s1 (ag en) d1],57)] rfl ?_;rintro W0 ⟨k1,hb⟩;have p8:=hid (show Below w.heap.size w W0 from hb);obtain ⟨R1,T1⟩:=aQ p8.o R1 T1;have K1:=Lib.hid k1;clear k1 hb;obtain ⟨d9,dx⟩:=bH K1.o rfl rfl;go_wp2_with fail
 with_reducible refine(C1.o _ _ _ R1.o).mono ?_
 rintro e W1 ⟨rfl,hb⟩;clear d9 dx;obtain ⟨K1,T1⟩:=aQ hb K1 T1;have oV:=hbt p8 hb;clear hb;have oM:=K1.o.cell (i:=2) rfl;go_wp2_with fail
 with_reducible refine(C2.o _ _ _ T1.o).mono ?_
 rintro e W2 ⟨rfl,hb⟩;clear oM;have ma:=hbt oV hb;clear hb;go_wp2;exact bodyPost_ret (v:=.string sn) (by simp[results,Tryz.results40,go_sem]) rfl ⟨rfl,ma.o⟩
theorem z2c (n:Int)(en:Nat)(sn sd res:ByteArray)(hsd:(sd.toList==[49])=false)(hr:sn++(⟨#[47]⟩++sd)=res)(hl1:sn.size≤10000)(hl2:sd.size≤10000)(p1:Option Addr)(c1:Nat)(s1:Option Addr)(d1:Nat)(w:World)(h1:∀ p1 c1 W,RN W (.slice p1 (ae n) c1) n.natAbs→CR 59 #[.agg #[.bool (ai n),.slice p1 (ae n) c1]] W (.string sn))(h2:∀ s1 d1 W,RN W (.slice s1 (ag en) d1) en→CR 60 #[.slice s1 (ag en) d1] W (.string sd))(r1:RN w (.slice p1 (ae n) c1) n.natAbs)(t1:RN w (.slice s1 (ag en) d1) en) :
 CR 40 #[.agg #[.bool (ai n),.slice p1 (ae n) c1,.slice s1 (ag en) d1]] w (.string res):=by
 obtain ⟨C1,C2,R1,T1,HR,HL1,HL2⟩:=fF h1 h2 r1 t1 hr hl1 hl2;have k0:¬ sd.toList=[49]:=by simpa using hsd
 clear hr hl1 hl2 h1 h2 r1 t1;go_enter Tryz.func40,Tryz.ntmps40
 go_upto_region 1 with fail
 refine ak w [(#[.bool (ai n),.slice p1 (ae n) c1,.slice s1 (ag en) d1],57)] rfl ?_;rintro W0 ⟨k1,hb⟩;have p8:=hid (show Below w.heap.size w W0 from hb);obtain ⟨R1,T1⟩:=aQ p8.o R1 T1;have K1:=Lib.hid k1;clear k1 hb;obtain ⟨d9,dx⟩:=bH K1.o rfl rfl;go_wp2_with fail
 with_reducible refine(C1.o _ _ _ R1.o).mono ?_
 rintro e W1 ⟨rfl,hb⟩;clear d9 dx;obtain ⟨K1,T1⟩:=aQ hb K1 T1;have oV:=hbt p8 hb;clear hb;have oM:=K1.o.cell (i:=2) rfl;go_wp2_with fail
 with_reducible refine(C2.o _ _ _ T1.o).mono ?_
 rintro e W2 ⟨rfl,hb⟩;clear oM;have ma:=hbt oV hb;clear hb;have ha1:=run_string_add_sum (P:=Tryz.prog) W2 ⟨#[47]⟩ sd (by have:=HL2.o;have e:(⟨#[47]⟩:ByteArray).size=1:=rfl;omega);have ha2:=run_string_add_sum (P:=Tryz.prog) W2 sn (⟨#[47]⟩++sd) (by have:=HL1.o;have:=HL2.o;have e:(⟨#[47]⟩:ByteArray).size=1:=rfl;rw[ByteArray.size_append];omega);rw[HR.o]at ha2;go_wp2;exact bodyPost_ret (v:=.string res) (by simp[results,Tryz.results40,go_sem]) rfl ⟨rfl,ma.o⟩
