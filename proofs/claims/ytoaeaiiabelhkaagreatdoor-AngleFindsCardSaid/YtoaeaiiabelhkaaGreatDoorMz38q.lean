/- texts -/
import Derived.Test.YtoaeaiiabelhkaaGreatDoorMz35q
import Derived.Test.YtoaeaiiabelhkaaGreatDoorMz36q
import Derived.Test.YtoaeaiiabelhkaaGreatDoorSl
namespace Go.Proofs.YtoaeaiiabelhkaaGreatDoor
open Go.RowKit Go.Gb
structure QS where
 b:Bool
 a:Option Addr
 n:Nat
 c:Nat
 e:Option Addr
 m:Nat
 d:Nat
def FQ (W:World) (q:QS) (x:Rat):Prop:=q.b=ah x.num∧q.n=aa x.num∧q.m=ag x.den∧RN W (.slice q.a q.n q.c) x.num.natAbs∧RN W (.slice q.e q.m q.d) x.den
theorem FQ.below {W W':World}{q:QS}{x:Rat}(h:FQ W q x)(hb:Below W.heap.size W W'):FQ W' q x:=⟨h.1,h.2.1,h.2.2.1,h.2.2.2.1.below hb,h.2.2.2.2.below hb⟩
theorem bO {q:QS}{x:Rat}{g:Nat}{T:TypeId}(l:List Value)(i:Nat){w:World}{cs:Array Value}(h:FQ w q x)(hg:SBk w g cs T)(hn:bJ cs=true)(hl:l.all aU=true):FQ (storeAll w g i l) q x:=⟨h.1,h.2.1,h.2.2.1,mW l i h.2.2.2.1 hg hn hl,mW l i h.2.2.2.2 hg hn hl⟩
abbrev QS.l (q:QS):List Value:=[.bool q.b,.slice q.a q.n q.c,.slice q.e q.m q.d]
abbrev Lvv (qa qb qc:QS):List Value:=[.bool qa.b,.slice qa.a qa.n qa.c,.slice qa.e qa.m qa.d,.bool qb.b,.slice qb.a qb.n qb.c,.slice qb.e qb.m qb.d,.bool qc.b,.slice qc.a qc.n qc.c,.slice qc.e qc.m qc.d]
abbrev QS.v (q:QS):Value:=.agg #[.bool q.b,.slice q.a q.n q.c,.slice q.e q.m q.d]
abbrev Qvv (qa qb qc:QS):Value:=.agg #[.bool qa.b,.slice qa.a qa.n qa.c,.slice qa.e qa.m qa.d,.bool qb.b,.slice qb.a qb.n qb.c,.slice qb.e qb.m qb.d,.bool qc.b,.slice qc.a qc.n qc.c,.slice qc.e qc.m qc.d]
abbrev RQ (W:World) (x:Rat):Ending→World→Prop:=fun e w'=>∃ q:QS,e=.returned (.agg #[.bool q.b,.slice q.a q.n q.c,.slice q.e q.m q.d])∧FQ w' q x∧Below W.heap.size W w'
abbrev RQb (W:World) (x:Rat) (b:Bool):Ending→World→Prop:=fun e w'=>∃ q:QS,e=.returned (.tuple #[.agg #[.bool q.b,.slice q.a q.n q.c,.slice q.e q.m q.d],.bool b])∧FQ w' q x∧Below W.heap.size W w'
abbrev RF (W:World) (xa xb xc xd xe xf xg xh xi:Rat):Ending→World→Prop:=fun e w'=>∃ qa qb qc qd qe qf qg qh qi:QS,e=.returned (.tuple #[.agg #[.bool qa.b,.slice qa.a qa.n qa.c,.slice qa.e qa.m qa.d,.bool qb.b,.slice qb.a qb.n qb.c,.slice qb.e qb.m qb.d,.bool qc.b,.slice qc.a qc.n qc.c,.slice qc.e qc.m qc.d,.bool qd.b,.slice qd.a qd.n qd.c,.slice qd.e qd.m qd.d,.bool qe.b,.slice qe.a qe.n qe.c,.slice qe.e qe.m qe.d,.bool qf.b,.slice qf.a qf.n qf.c,.slice qf.e qf.m qf.d,.bool qg.b,.slice qg.a qg.n qg.c,.slice qg.e qg.m qg.d,.bool qh.b,.slice qh.a qh.n qh.c,.slice qh.e qh.m qh.d,.bool qi.b,.slice qi.a qi.n qi.c,.slice qi.e qi.m qi.d],.int .i64 0])∧FQ w' qa xa∧FQ w' qb xb∧FQ w' qc xc∧FQ w' qd xd∧FQ w' qe xe∧FQ w' qf xf∧FQ w' qg xg∧FQ w' qh xh∧FQ w' qi xi∧Below W.heap.size W w'
abbrev RP (W:World) (v:Value):Ending→World→Prop:=fun e w'=>e=.returned v∧Below W.heap.size W w'
abbrev KQ1 (f:Nat) (x0:Rat) (z:Rat):Prop:=∀ (q0:QS) (W:World),FQ W q0 x0→Calls Tryz.prog f #[.agg #[.bool q0.b,.slice q0.a q0.n q0.c,.slice q0.e q0.m q0.d]] W (RQ W z)
abbrev KQ2 (f:Nat) (x0 x1:Rat) (z:Rat):Prop:=∀ (q0 q1:QS) (W:World),FQ W q0 x0→FQ W q1 x1→Calls Tryz.prog f #[.agg #[.bool q0.b,.slice q0.a q0.n q0.c,.slice q0.e q0.m q0.d],.agg #[.bool q1.b,.slice q1.a q1.n q1.c,.slice q1.e q1.m q1.d]] W (RQ W z)
abbrev KP1 (f:Nat) (x0:Rat) (v:Value):Prop:=∀ (q0:QS) (W:World),FQ W q0 x0→Calls Tryz.prog f #[.agg #[.bool q0.b,.slice q0.a q0.n q0.c,.slice q0.e q0.m q0.d]] W (RP W v)
abbrev KP2 (f:Nat) (x0 x1:Rat) (v:Value):Prop:=∀ (q0 q1:QS) (W:World),FQ W q0 x0→FQ W q1 x1→Calls Tryz.prog f #[.agg #[.bool q0.b,.slice q0.a q0.n q0.c,.slice q0.e q0.m q0.d],.agg #[.bool q1.b,.slice q1.a q1.n q1.c,.slice q1.e q1.m q1.d]] W (RP W v)
abbrev KS (f:Nat) (v0:Value) (z:Rat):Prop:=∀ (W:World),Calls Tryz.prog f #[v0] W (RQ W z)
abbrev KSb (f:Nat) (v0:Value) (z:Rat) (b:Bool):Prop:=∀ (W:World),Calls Tryz.prog f #[v0] W (RQb W z b)
abbrev KPs (f:Nat) (v0 v:Value):Prop:=∀ W:World,Calls Tryz.prog f #[v0] W (RP W v)
def Rel.q (x:Rat):Rel:=⟨fun v W=>∃ q:QS,v=q.v∧FQ W q x,fun _ _ _ ⟨q,e,h⟩ hb=>⟨q,e,h.below hb⟩⟩
section
variable {ops:Array Oper} {m:Nat} {sl:Nat→Nat} {L:List Rel} {a0:Act} {P:World→Prop} {u6:Array Bool} {a:Act} {w:World}
theorem qAt (h:RInv ops m sl (RelR L) a0 P u6 a w)(i d:Nat){j:Nat}{x:Rat}(hj:j∈Region.ready .any ops u6)(hw:Region.waitsFor .any ops j i=true)(hm:i<m:=by decide)(hd:sl i=d:=by rfl)(hR:L.getD i (Rel.val undef)=Rel.q x:=by rfl):∃ q:QS,a.tmps[d]? = some q.v∧Hid (FQ w q x):=by
 obtain⟨v,hv,hr⟩:=h.at hj hw hm;unfold RelR at hr
 rw[hR]at hr;obtain⟨q,rfl,hq⟩:=hr;exact⟨q,hd▸hv,Lib.hid hq⟩
theorem qEnd (h:RInv ops m sl (RelR L) a0 P u6 a w)(w9:∀ j,j<m→u6.getD j false=true)(i d:Nat){x:Rat}(hm:i<m:=by decide)(hd:sl i=d:=by rfl)(hR:L.getD i (Rel.val undef)=Rel.q x:=by rfl):∃ q:QS,a.tmps[d]? = some q.v∧Hid (FQ w q x):=by
 obtain⟨v,hv,hr⟩:=h.slots i hm (w9 i hm);unfold RelR at hr
 rw[hR]at hr;obtain⟨q,rfl,hq⟩:=hr;exact⟨q,hd▸hv,Lib.hid hq⟩
end
theorem z6A {w:World}{g:Nat}{T:TypeId}{x0 x1:Value}(h:SBk w g #[x0,x1] T):w.cell? ⟨g,0,none⟩=some x0∧w.cell? ⟨g,1,none⟩=some x1:=⟨h.cell (i:=0) rfl,h.cell (i:=1) rfl⟩
theorem cells3 {w:World}{g:Nat}{T:TypeId}{x0 x1 x2:Value}(h:SBk w g #[x0,x1,x2] T):w.cell? ⟨g,0,none⟩=some x0∧w.cell? ⟨g,1,none⟩=some x1∧w.cell? ⟨g,2,none⟩=some x2:=⟨h.cell (i:=0) rfl,h.cell (i:=1) rfl,h.cell (i:=2) rfl⟩
theorem frz2 {w:World}{g:Nat}{T:TypeId}{x0 x1:Value}(h:SBk w g #[x0,x1] T):w.frozen? ⟨g,0,none⟩=false∧w.frozen? ⟨g,1,none⟩=false:=⟨h.frozen (i:=0),h.frozen (i:=1)⟩
theorem frz3 {w:World}{g:Nat}{T:TypeId}{x0 x1 x2:Value}(h:SBk w g #[x0,x1,x2] T):w.frozen? ⟨g,0,none⟩=false∧w.frozen? ⟨g,1,none⟩=false∧w.frozen? ⟨g,2,none⟩=false:=⟨h.frozen (i:=0),h.frozen (i:=1),h.frozen (i:=2)⟩
instance {W W':World}{q:QS}{x:Rat}:Gr (FQ W q x) W W' (FQ W' q x):=⟨fun h k=>k.below h⟩
end Go.Proofs.YtoaeaiiabelhkaaGreatDoor
namespace Go.Gb
open Go Go.RowKit
theorem SBk.row {w:World}{g:Nat}{cs:Array Value}{T:TypeId}(h:SBk w g cs T)(ds:Array Value):SBk (w.setRow g ds) g ds T:=setRow_heap w g cs ds T (0,0) h
end Go.Gb
namespace Go.Proofs.YtoaeaiiabelhkaaGreatDoor
open Go.RowKit Go.Gb
set_option linter.unusedSimpArgs false
set_option linter.unusedVariables false
abbrev KI2 (f:Nat) (x y:Rat) (v:Value):Prop:=∀ (qa qb:QS) (W:World),FQ W qa x→FQ W qb y→Calls Tryz.prog f #[.agg #[.bool qa.b,.slice qa.a qa.n qa.c,.slice qa.e qa.m qa.d,.bool qb.b,.slice qb.a qb.n qb.c,.slice qb.e qb.m qb.d]] W (RP W v)
abbrev Qii (qa qb:QS):Value:=.agg #[.bool qa.b,.slice qa.a qa.n qa.c,.slice qa.e qa.m qa.d,.bool qb.b,.slice qb.a qb.n qb.c,.slice qb.e qb.m qb.d]
def Rel.qi (x y:Rat):Rel:=⟨fun v W=>∃ q r:QS,v=Qii q r∧FQ W q x∧FQ W r y,fun _ _ _ ⟨q,r,e,h,k⟩ hb=>⟨q,r,e,h.below hb,k.below hb⟩⟩
section
variable {ops:Array Oper} {m:Nat} {sl:Nat→Nat} {L:List Rel} {a0:Act} {P:World→Prop} {u6:Array Bool} {a:Act} {w:World}
theorem qAti (h:RInv ops m sl (RelR L) a0 P u6 a w)(i d:Nat){j:Nat}{x y:Rat}(hj:j∈Region.ready .any ops u6)(hw:Region.waitsFor .any ops j i=true)(hm:i<m:=by decide)(hd:sl i=d:=by rfl)(hR:L.getD i (Rel.val undef)=Rel.qi x y:=by rfl):∃ q r:QS,a.tmps[d]? = some (Qii q r)∧Hid (FQ w q x)∧Hid (FQ w r y):=by
 obtain⟨v,hv,hr⟩:=h.at hj hw hm;unfold RelR at hr
 rw[hR]at hr;obtain⟨q,r,rfl,hq,hr⟩:=hr;exact⟨q,r,hd▸hv,Lib.hid hq,Lib.hid hr⟩
theorem iO (h:RInv ops m sl (RelR L) a0 P u6 a w)(w9:∀ j,j<m→u6.getD j false=true)(i d:Nat){x y:Rat}(hm:i<m:=by decide)(hd:sl i=d:=by rfl)(hR:L.getD i (Rel.val undef)=Rel.qi x y:=by rfl):∃ q r:QS,a.tmps[d]? = some (Qii q r)∧Hid (FQ w q x)∧Hid (FQ w r y):=by
 obtain⟨v,hv,hr⟩:=h.slots i hm (w9 i hm);unfold RelR at hr
 rw[hR]at hr;obtain⟨q,r,rfl,hq,hr⟩:=hr;exact⟨q,r,hd▸hv,Lib.hid hq,Lib.hid hr⟩
end
theorem kq2 {f:Nat}{x y z:Rat}(h:∀ p1 c1 s1 d1 p2 c2 s2 d2 W,RN W (.slice p1 (aa x.num) c1) x.num.natAbs→RN W (.slice s1 (ag x.den) d1) x.den→RN W (.slice p2 (aa y.num) c2) y.num.natAbs→RN W (.slice s2 (ag y.den) d2) y.den→Calls Tryz.prog f #[.agg #[.bool (ah x.num),.slice p1 (aa x.num) c1,.slice s1 (ag x.den) d1],.agg #[.bool (ah y.num),.slice p2 (aa y.num) c2,.slice s2 (ag y.den) d2]] W fun e w'=>∃ p c s d,e=.returned (.agg #[.bool (ah z.num),.slice p (aa z.num) c,.slice s (ag z.den) d])∧RN w' (.slice p (aa z.num) c) z.num.natAbs∧RN w' (.slice s (ag z.den) d) z.den∧Below W.heap.size W w'):KQ2 f x y z:=by
 rintro⟨b,a,n,c,e,m,d⟩ ⟨b',a',n',c',e',m',d'⟩ W ⟨h1,h2,h3,h4,h5⟩ ⟨k1,k2,k3,k4,k5⟩
 dsimp only at *;subst h1 h2 h3 k1 k2 k3;exact(h _ _ _ _ _ _ _ _ W h4 h5 k4 k5).mono fun _ _ ⟨p,c,s,d,he,hr,ht,hb⟩=>⟨⟨_,p,_,c,s,_,d⟩,he,⟨rfl,rfl,rfl,hr,ht⟩,hb⟩
theorem kq1 {f:Nat}{x z:Rat}(h:∀ p1 c1 s1 d1 W,RN W (.slice p1 (aa x.num) c1) x.num.natAbs→RN W (.slice s1 (ag x.den) d1) x.den→Calls Tryz.prog f #[.agg #[.bool (ah x.num),.slice p1 (aa x.num) c1,.slice s1 (ag x.den) d1]] W fun e w'=>∃ p c s d,e=.returned (.agg #[.bool (ah z.num),.slice p (aa z.num) c,.slice s (ag z.den) d])∧RN w' (.slice p (aa z.num) c) z.num.natAbs∧RN w' (.slice s (ag z.den) d) z.den∧Below W.heap.size W w'):KQ1 f x z:=by
 rintro⟨b,a,n,c,e,m,d⟩ W ⟨h1,h2,h3,h4,h5⟩
 dsimp only at *;subst h1 h2 h3;exact(h _ _ _ _ W h4 h5).mono fun _ _ ⟨p,c,s,d,he,hr,ht,hb⟩=>⟨⟨_,p,_,c,s,_,d⟩,he,⟨rfl,rfl,rfl,hr,ht⟩,hb⟩
theorem kp2 {f:Nat}{x y:Rat}{v:Value}(h:∀ p1 c1 s1 d1 p2 c2 s2 d2 W,RN W (.slice p1 (aa x.num) c1) x.num.natAbs→RN W (.slice s1 (ag x.den) d1) x.den→RN W (.slice p2 (aa y.num) c2) y.num.natAbs→RN W (.slice s2 (ag y.den) d2) y.den→Calls Tryz.prog f #[.agg #[.bool (ah x.num),.slice p1 (aa x.num) c1,.slice s1 (ag x.den) d1],.agg #[.bool (ah y.num),.slice p2 (aa y.num) c2,.slice s2 (ag y.den) d2]] W fun e w'=>e=.returned v∧Below W.heap.size W w'):KP2 f x y v:=by
 rintro⟨b,a,n,c,e,m,d⟩ ⟨b',a',n',c',e',m',d'⟩ W ⟨h1,h2,h3,h4,h5⟩ ⟨k1,k2,k3,k4,k5⟩
 dsimp only at *;subst h1 h2 h3 k1 k2 k3;exact h _ _ _ _ _ _ _ _ W h4 h5 k4 k5
theorem kp1 {f:Nat}{x:Rat}{v:Value}(h:∀ p1 c1 s1 d1 W,RN W (.slice p1 (aa x.num) c1) x.num.natAbs→RN W (.slice s1 (ag x.den) d1) x.den→Calls Tryz.prog f #[.agg #[.bool (ah x.num),.slice p1 (aa x.num) c1,.slice s1 (ag x.den) d1]] W fun e w'=>e=.returned v∧Below W.heap.size W w'):KP1 f x v:=by
 rintro⟨b,a,n,c,e,m,d⟩ W ⟨h1,h2,h3,h4,h5⟩
 dsimp only at *;subst h1 h2 h3;exact h _ _ _ _ W h4 h5
theorem ks {f:Nat}{v:Value}{z:Rat}(h:∀ W,Calls Tryz.prog f #[v] W fun e w'=>∃ p c s d,e=.returned (.agg #[.bool (ah z.num),.slice p (aa z.num) c,.slice s (ag z.den) d])∧RN w' (.slice p (aa z.num) c) z.num.natAbs∧RN w' (.slice s (ag z.den) d) z.den∧Below W.heap.size W w'):KS f v z:=fun W=>(h W).mono fun _ _ ⟨p,c,s,d,he,hr,ht,hb⟩=>⟨⟨_,p,_,c,s,_,d⟩,he,⟨rfl,rfl,rfl,hr,ht⟩,hb⟩
theorem ksb {f:Nat}{v:Value}{z:Rat}{b:Bool}(h:∀ W,Calls Tryz.prog f #[v] W fun e w'=>∃ p c s d,e=.returned (.tuple #[.agg #[.bool (ah z.num),.slice p (aa z.num) c,.slice s (ag z.den) d],.bool b])∧RN w' (.slice p (aa z.num) c) z.num.natAbs∧RN w' (.slice s (ag z.den) d) z.den∧Below W.heap.size W w'):KSb f v z b:=fun W=>(h W).mono fun _ _ ⟨p,c,s,d,he,hr,ht,hb⟩=>⟨⟨_,p,_,c,s,_,d⟩,he,⟨rfl,rfl,rfl,hr,ht⟩,hb⟩
end Go.Proofs.YtoaeaiiabelhkaaGreatDoor
set_option maxRecDepth 100000
set_option maxHeartbeats 20000000
open Go.Lib (hid)
namespace Go.Proofs.YtoaeaiiabelhkaaGreatDoor
open Go.RowKit Go.Gb
theorem z5b (n:Int)(en:Nat)(sn:ByteArray)(p1:Option Addr)(c1:Nat)(s1:Option Addr)(d1:Nat)(w:World)(h1:∀ p1 c1 W,RN W (.slice p1 (aa n) c1) n.natAbs→CR 104 #[.agg #[.bool (ah n),.slice p1 (aa n) c1]] W (.string sn))(h2:∀ s1 d1 W,RN W (.slice s1 (ag en) d1) en→CR 105 #[.slice s1 (ag en) d1] W (.string ⟨#[49]⟩))(r1:RN w (.slice p1 (aa n) c1) n.natAbs)(t1:RN w (.slice s1 (ag en) d1) en) :
 CR 67 #[.agg #[.bool (ah n),.slice p1 (aa n) c1,.slice s1 (ag en) d1]] w (.string sn):=by
 obtain ⟨C1,C2,R1,T1⟩:=aN h1 h2 r1 t1;clear h1 h2 r1 t1;go_enter Tryz.func67,Tryz.ntmps67
 go_upto_region 1 with fail
 refine av w [(#[.bool (ah n),.slice p1 (aa n) c1,.slice s1 (ag en) d1],49)] rfl ?_;rintro W0 ⟨k1,hb⟩;have uu:=hid (show Below w.heap.size w W0 from hb);obtain ⟨R1,T1⟩:=aK uu.o R1 T1;have K1:=Lib.hid k1;clear k1 hb;obtain ⟨wm,wo⟩:=aC K1.o rfl rfl;go_wp2_with fail
 with_reducible refine(C1.o _ _ _ R1.o).mono ?_
 rintro e W1 ⟨rfl,hb⟩;clear wm wo;obtain ⟨K1,T1⟩:=aK hb K1 T1;have wu:=hbt uu hb;clear hb;have ww:=K1.o.cell (i:=2) rfl;go_wp2_with fail
 with_reducible refine(C2.o _ _ _ T1.o).mono ?_
 rintro e W2 ⟨rfl,hb⟩;clear ww;have si:=hbt wu hb;clear hb;go_wp2;exact bodyPost_ret (v:=.string sn) (by simp[results,Tryz.results67,go_sem]) rfl ⟨rfl,si.o⟩
theorem z2O (n:Int)(en:Nat)(sn sd res:ByteArray)(hsd:(sd.toList==[49])=false)(hr:sn++(⟨#[47]⟩++sd)=res)(hl1:sn.size≤10000)(hl2:sd.size≤10000)(p1:Option Addr)(c1:Nat)(s1:Option Addr)(d1:Nat)(w:World)(h1:∀ p1 c1 W,RN W (.slice p1 (aa n) c1) n.natAbs→CR 104 #[.agg #[.bool (ah n),.slice p1 (aa n) c1]] W (.string sn))(h2:∀ s1 d1 W,RN W (.slice s1 (ag en) d1) en→CR 105 #[.slice s1 (ag en) d1] W (.string sd))(r1:RN w (.slice p1 (aa n) c1) n.natAbs)(t1:RN w (.slice s1 (ag en) d1) en) :
 CR 67 #[.agg #[.bool (ah n),.slice p1 (aa n) c1,.slice s1 (ag en) d1]] w (.string res):=by
 obtain ⟨C1,C2,R1,T1,HR,HL1,HL2⟩:=eB h1 h2 r1 t1 hr hl1 hl2;have k0:¬ sd.toList=[49]:=by simpa using hsd
 clear hr hl1 hl2 h1 h2 r1 t1;go_enter Tryz.func67,Tryz.ntmps67
 go_upto_region 1 with fail
 refine av w [(#[.bool (ah n),.slice p1 (aa n) c1,.slice s1 (ag en) d1],49)] rfl ?_;rintro W0 ⟨k1,hb⟩;have uu:=hid (show Below w.heap.size w W0 from hb);obtain ⟨R1,T1⟩:=aK uu.o R1 T1;have K1:=Lib.hid k1;clear k1 hb;obtain ⟨wm,wo⟩:=aC K1.o rfl rfl;go_wp2_with fail
 with_reducible refine(C1.o _ _ _ R1.o).mono ?_
 rintro e W1 ⟨rfl,hb⟩;clear wm wo;obtain ⟨K1,T1⟩:=aK hb K1 T1;have wu:=hbt uu hb;clear hb;have ww:=K1.o.cell (i:=2) rfl;go_wp2_with fail
 with_reducible refine(C2.o _ _ _ T1.o).mono ?_
 rintro e W2 ⟨rfl,hb⟩;clear ww;have si:=hbt wu hb;clear hb;have ha1:=run_string_add_sum (P:=Tryz.prog) W2 ⟨#[47]⟩ sd (by have:=HL2.o;have e:(⟨#[47]⟩:ByteArray).size=1:=rfl;omega);have ha2:=run_string_add_sum (P:=Tryz.prog) W2 sn (⟨#[47]⟩++sd) (by have:=HL1.o;have:=HL2.o;have e:(⟨#[47]⟩:ByteArray).size=1:=rfl;rw[ByteArray.size_append];omega);rw[HR.o]at ha2;go_wp2;exact bodyPost_ret (v:=.string res) (by simp[results,Tryz.results67,go_sem]) rfl ⟨rfl,si.o⟩
def LQ (q:Rat):Prop:=aa q.num≤10000∧ag q.den≤10000
theorem z6Q (z:Int)(g:Nat)(hg:g∣z.natAbs):z / (g:Int)=if ah z then -((z.natAbs / g:Nat):Int) else ((z.natAbs / g:Nat):Int):=by
 have hd:(g:Int)∣(z.natAbs:Int):=Int.natCast_dvd_natCast.2 hg;unfold ah
 by_cases h:z<0
 · rw[decide_eq_true h,if_pos rfl]
   have e:z = -(z.natAbs:Int):=by omega
   conv=>lhs;rw[e]
   rw[Int.neg_ediv_of_dvd hd,Int.natCast_ediv]
 · rw[decide_eq_false h,if_neg (by simp),Int.natCast_ediv]
   congr 1
   omega
theorem z2q (z:Int)(n:Nat):z*(n:Int)=if ah z then -((z.natAbs*n:Nat):Int) else ((z.natAbs*n:Nat):Int):=by
 rw[Int.natCast_mul];unfold ah
 by_cases h:z<0
 · rw[decide_eq_true h,if_pos rfl,← Int.neg_mul];congr 1;omega
 · rw[decide_eq_false h,if_neg (by simp)];congr 1;omega
theorem z3R (x y:Rat)(h:x.den=y.den):x+y=mkRat (x.num+y.num) x.den:=by
 rw[jI,← h,← Int.add_mul,Rat.mkRat_mul_right x.den_nz]
theorem kE (a b:Int):aa (a*b)≤aa a+aa b:=by
 unfold aa ag;rw[Int.natAbs_mul];exact iA _ _
theorem jN (a b:Nat):ag (a*b)≤ag a+ag b:=iA a b
theorem xA {a b:Int}{K:Nat}(ha:aa a≤K)(hb:aa b≤K):aa (a+b)≤K+1 :=
 Nat.le_trans (gN (Int.natAbs_add_le a b)) (iB (a:=a.natAbs) (b:=b.natAbs) ha hb)
theorem xz (n:Nat):aa (n:Int)=ag n:=by unfold aa;rw[Int.natAbs_natCast]
theorem qO (z:Int)(dn:Nat)(q:Rat)(hq:mkRat z dn=q)(hd:dn≠0)(hz:aa z≤50000)(hl:ag dn≤50000)(p1:Option Addr)(c1:Nat)(s2:Option Addr)(d2:Nat)(W:World)(r1:RN W (.slice p1 (aa z) c1) z.natAbs)(t2:RN W (.slice s2 (ag dn) d2) dn) :
 Calls Tryz.prog 91 #[.agg #[.bool (ah z),.slice p1 (aa z) c1],.slice s2 (ag dn) d2] W fun e w'=>∃ p c s d,e=.returned (.agg #[.bool (ah q.num),.slice p (aa q.num) c,.slice s (ag q.den) d])∧RN w' (.slice p (aa q.num) c) q.num.natAbs∧RN w' (.slice s (ag q.den) d) q.den∧Below W.heap.size W w':=by
 obtain⟨hn,he⟩:=mX z dn hd;rw[hq]at hn he;obtain⟨g,hg⟩:∃ g,g=Nat.gcd z.natAbs dn:=⟨_,rfl⟩;rw[← hg]at hn he;by_cases g1:g=1
 · rw[g1]at hn he
   have e1:q.num=z:=by rw[hn];simp
   have e2:q.den=dn:=by rw[he];simp
   rw[e1,e2];exact zA z dn hz hl p1 c1 s2 d2 (by rw[← hg,g1]) W r1 t2
 · have g0:g≠0:=by rw[hg];exact Nat.ne_of_gt (Nat.gcd_pos_of_pos_right _ (by omega))
   have hy:=z6Q z g (by rw[hg];exact Nat.gcd_dvd_left _ _);rw[hn,he];by_cases gl:ag g=1
   · exact vR z dn hz hl p1 c1 s2 d2 g _ _ _ _ _ hg.symm g0 g1 gl rfl rfl rfl rfl hy W r1 t2
   · exact vS z dn hz hl p1 c1 s2 d2 g _ _ _ _ _ hg.symm g0 gl rfl rfl rfl rfl hy W r1 t2
theorem z2H (k:Int)(q:Rat)(n:Nat)(hk:(n:Int)=k)(h1:n≤2000000000)(hn:q.num=k)(he:q.den=1)  (W:World)  :
 Calls Tryz.prog 24 #[.int .i64 k] W fun e w'=>∃ p c s d,e=.returned (.agg #[.bool (ah q.num),.slice p (aa q.num) c,.slice s (ag q.den) d])∧RN w' (.slice p (aa q.num) c) q.num.natAbs∧RN w' (.slice s (ag q.den) d) q.den∧Below W.heap.size W w':=by
 refine rq k q.num q.den W (fun W=>?_) (fun W=>?_)
 · rw[hn];exact z4s k n hk (by omega) (by omega) W
 · rw[he];exact jf 1 1 rfl (by decide) W
theorem z6i (x q:Rat)(hq : -x=q)(hx:LQ x)(p1:Option Addr)(c1:Nat)(s1:Option Addr)(d1:Nat)(W:World)(r1:RN W (.slice p1 (aa x.num) c1) x.num.natAbs)(t1:RN W (.slice s1 (ag x.den) d1) x.den) :
 Calls Tryz.prog 98 #[.agg #[.bool (ah x.num),.slice p1 (aa x.num) c1,.slice s1 (ag x.den) d1]] W fun e w'=>∃ p c s d,e=.returned (.agg #[.bool (ah q.num),.slice p (aa q.num) c,.slice s (ag q.den) d])∧RN w' (.slice p (aa q.num) c) q.num.natAbs∧RN w' (.slice s (ag q.den) d) q.den∧Below W.heap.size W w':=by
 subst hq;exact z2Q x.num (-x).num x.den p1 c1 s1 d1 W (fun p c W h=>z0J x.num _ rfl (Nat.le_trans hx.1 (by decide)) p c W h) r1 t1
theorem z6k (x q:Rat)(hq:x⁻¹=q)(h0:x≠0)(hx:LQ x)(p1:Option Addr)(c1:Nat)(s1:Option Addr)(d1:Nat)(W:World)(r1:RN W (.slice p1 (aa x.num) c1) x.num.natAbs)(t1:RN W (.slice s1 (ag x.den) d1) x.den) :
 Calls Tryz.prog 95 #[.agg #[.bool (ah x.num),.slice p1 (aa x.num) c1,.slice s1 (ag x.den) d1]] W fun e w'=>∃ p c s d,e=.returned (.agg #[.bool (ah q.num),.slice p (aa q.num) c,.slice s (ag q.den) d])∧RN w' (.slice p (aa q.num) c) q.num.natAbs∧RN w' (.slice s (ag q.den) d) q.den∧Below W.heap.size W w':=by
 have hm:q.num=(if ah x.num then -(x.den:Int) else (x.den:Int))∧q.den=x.num.natAbs:=by
  rw[← hq];have hn0:x.num≠0:=fun e=>h0 (Rat.num_eq_zero.1 e);unfold ah
  rcases Int.lt_trichotomy x.num 0 with h|h|h
  · obtain⟨e1,e2⟩:=kS h
    rw[decide_eq_true h,if_pos rfl];exact⟨e1,by omega⟩
  · exact absurd h hn0
  · obtain⟨e1,e2⟩:=nW h
    rw[decide_eq_false (by omega),if_neg (by simp)];exact⟨e1,by omega⟩
 obtain⟨e1,e2⟩:=hm;rw[e2];exact z2S x.num q.num x.den p1 c1 s1 d1 W (fun s d W h=>lq (ah x.num) _ x.den q.num e1 (Nat.le_trans hx.2 (by decide)) W h) r1 t1
theorem z4t (x:Rat)(s:Int)(hs:x.num.sign=s)(p1:Option Addr)(c1:Nat)(s1:Option Addr)(d1:Nat)(W:World)(r1:RN W (.slice p1 (aa x.num) c1) x.num.natAbs)(t1:RN W (.slice s1 (ag x.den) d1) x.den) :
 CR 63 #[.agg #[.bool (ah x.num),.slice p1 (aa x.num) c1,.slice s1 (ag x.den) d1]] W (.int .i64 s):=by
 exact z0U x.num s x.den p1 c1 s1 d1 W (fun p c W h=>vI x.num s hs p c W h) r1 t1
theorem z6j (x y q:Rat)(hq:x*y=q)(hx:LQ x)(hy:LQ y)(p1:Option Addr)(c1:Nat)(s1:Option Addr)(d1:Nat)(p2:Option Addr)(c2:Nat)(s2:Option Addr)(d2:Nat)(W:World)(r1:RN W (.slice p1 (aa x.num) c1) x.num.natAbs)(t1:RN W (.slice s1 (ag x.den) d1) x.den)(r2:RN W (.slice p2 (aa y.num) c2) y.num.natAbs)(t2:RN W (.slice s2 (ag y.den) d2) y.den) :
 Calls Tryz.prog 56 #[.agg #[.bool (ah x.num),.slice p1 (aa x.num) c1,.slice s1 (ag x.den) d1],.agg #[.bool (ah y.num),.slice p2 (aa y.num) c2,.slice s2 (ag y.den) d2]] W fun e w'=>∃ p c s d,e=.returned (.agg #[.bool (ah q.num),.slice p (aa q.num) c,.slice s (ag q.den) d])∧RN w' (.slice p (aa q.num) c) q.num.natAbs∧RN w' (.slice s (ag q.den) d) q.den∧Below W.heap.size W w':=by
 obtain⟨a1,a2⟩:=hx;obtain⟨b1,b2⟩:=hy;have l1:=kE x.num y.num;have l2:=jN x.den y.den
 exact z2R x.num y.num (x.num*y.num) q.num x.den y.den (x.den*y.den) q.den p1 c1 s1 d1 p2 c2 s2 d2 W (fun p1 c1 p2 c2 W h1 h2=>z6h _ _ _ rfl (by omega) (by omega) p1 c1 p2 c2 W h1 h2)
  (fun s1 d1 s2 d2 W h1 h2=>ou _ _ _ _ (by omega) (by omega) W h1 h2)
  (fun p1 c1 s2 d2 W h1 h2=>qO _ _ q (by rw[← hq,jA]) (Nat.mul_ne_zero x.den_nz y.den_nz) (by omega) (by omega) p1 c1 s2 d2 W h1 h2) r1 t1 r2 t2
theorem z6l (x y q:Rat)(hq:x+y=q)(hx:LQ x)(hy:LQ y)(p1:Option Addr)(c1:Nat)(s1:Option Addr)(d1:Nat)(p2:Option Addr)(c2:Nat)(s2:Option Addr)(d2:Nat)(W:World)(r1:RN W (.slice p1 (aa x.num) c1) x.num.natAbs)(t1:RN W (.slice s1 (ag x.den) d1) x.den)(r2:RN W (.slice p2 (aa y.num) c2) y.num.natAbs)(t2:RN W (.slice s2 (ag y.den) d2) y.den) :
 Calls Tryz.prog 57 #[.agg #[.bool (ah x.num),.slice p1 (aa x.num) c1,.slice s1 (ag x.den) d1],.agg #[.bool (ah y.num),.slice p2 (aa y.num) c2,.slice s2 (ag y.den) d2]] W fun e w'=>∃ p c s d,e=.returned (.agg #[.bool (ah q.num),.slice p (aa q.num) c,.slice s (ag q.den) d])∧RN w' (.slice p (aa q.num) c) q.num.natAbs∧RN w' (.slice s (ag q.den) d) q.den∧Below W.heap.size W w':=by
 obtain⟨a1,a2⟩:=hx;obtain⟨b1,b2⟩:=hy;by_cases he:x.den=y.den
 · have l1:=xA a1 b1
   exact z0X x.num y.num (x.num+y.num) q.num x.den y.den q.den p1 c1 s1 d1 p2 c2 s2 d2 W (fun s1 d1 s2 d2 W h1 h2=>by
        have h:=cCmp _ _ x.den y.den (by omega) W h1 h2
        rwa [show cmpN x.den y.den=0 by rw[he];unfold cmpN;simp]at h)
    (fun p1 c1 p2 c2 W h1 h2=>z6m _ _ _ rfl (by omega) (by omega) p1 c1 p2 c2 W h1 h2)
    (fun p1 c1 s2 d2 W h1 h2=>qO _ _ q (by rw[← hq,z3R x y he]) x.den_nz (by omega) (by omega) p1 c1 s2 d2 W h1 h2) r1 t1 r2 t2
 · have l1:=kE x.num (y.den:Int)
   have l2:=kE y.num (x.den:Int);have l3:=jN x.den y.den;have l4:=jN x.num.natAbs y.den;have l5:=jN y.num.natAbs x.den;rw[xz]at l1 l2;have l6:=xA (a:=x.num*(y.den:Int)) (b:=y.num*(x.den:Int)) (K:=20000) (by omega) (by omega);have z1:aa x.num=ag x.num.natAbs:=rfl;have z2:aa y.num=ag y.num.natAbs:=rfl
   exact zq x.num y.num (x.num*(y.den:Int)) (y.num*(x.den:Int)) (x.num*(y.den:Int)+y.num*(x.den:Int)) q.num (cmpN x.den y.den) x.den y.den (x.den*y.den) q.den (x.num.natAbs*y.den) (y.num.natAbs*x.den) (fun e=>he (by unfold cmpN at e;split at e<;>first|(split at e<;>first|omega|simp at e)|simp at e))
    p1 c1 s1 d1 p2 c2 s2 d2 W (fun s1 d1 s2 d2 W h1 h2=>cCmp _ _ x.den y.den (by omega) W h1 h2)
    (fun p1 c1 s2 d2 W h1 h2=>ou _ _ _ _ (by omega) (by omega) W h1 h2) (fun s2 d2 W h=>lq _ _ _ _ (z2q x.num y.den) (by omega) W h)
    (fun p1 c1 s2 d2 W h1 h2=>ou _ _ _ _ (by omega) (by omega) W h1 h2) (fun s2 d2 W h=>lq _ _ _ _ (z2q y.num x.den) (by omega) W h)
    (fun p1 c1 p2 c2 W h1 h2=>z6m _ _ _ rfl (by omega) (by omega) p1 c1 p2 c2 W h1 h2)
    (fun s1 d1 s2 d2 W h1 h2=>ou _ _ _ _ (by omega) (by omega) W h1 h2)
    (fun p1 c1 s2 d2 W h1 h2=>qO _ _ q (by rw[← hq,jI]) (Nat.mul_ne_zero x.den_nz y.den_nz) (by omega) (by omega) p1 c1 s2 d2 W h1 h2) r1 t1 r2 t2
theorem z6Z (x y q:Rat)(hq:x-y=q)(hx:LQ x)(hy:LQ y)(p1:Option Addr)(c1:Nat)(s1:Option Addr)(d1:Nat)(p2:Option Addr)(c2:Nat)(s2:Option Addr)(d2:Nat)(W:World)(r1:RN W (.slice p1 (aa x.num) c1) x.num.natAbs)(t1:RN W (.slice s1 (ag x.den) d1) x.den)(r2:RN W (.slice p2 (aa y.num) c2) y.num.natAbs)(t2:RN W (.slice s2 (ag y.den) d2) y.den) :
 Calls Tryz.prog 101 #[.agg #[.bool (ah x.num),.slice p1 (aa x.num) c1,.slice s1 (ag x.den) d1],.agg #[.bool (ah y.num),.slice p2 (aa y.num) c2,.slice s2 (ag y.den) d2]] W fun e w'=>∃ p c s d,e=.returned (.agg #[.bool (ah q.num),.slice p (aa q.num) c,.slice s (ag q.den) d])∧RN w' (.slice p (aa q.num) c) q.num.natAbs∧RN w' (.slice s (ag q.den) d) q.den∧Below W.heap.size W w':=by
 have hny:LQ (-y):=⟨by have:=hy.1;unfold aa at *;rwa [show(-y).num = -y.num from rfl,Int.natAbs_neg],hy.2⟩
 exact z2P x.num y.num (-y).num q.num x.den y.den (-y).den q.den p1 c1 s1 d1 p2 c2 s2 d2 W (fun p1 c1 s1 d1 W h1 h2=>z6i y _ rfl hy p1 c1 s1 d1 W h1 h2)
  (fun p1 c1 s1 d1 p2 c2 s2 d2 W h1 h2 h3 h4=>z6l x (-y) q (by rw[← hq,Rat.sub_eq_add_neg]) hx hny p1 c1 s1 d1 p2 c2 s2 d2 W h1 h2 h3 h4) r1 t1 r2 t2
theorem z7a (x y q:Rat)(hq:x / y=q)(h0:y≠0)(hx:LQ x)(hy:LQ y)(p1:Option Addr)(c1:Nat)(s1:Option Addr)(d1:Nat)(p2:Option Addr)(c2:Nat)(s2:Option Addr)(d2:Nat)(W:World)(r1:RN W (.slice p1 (aa x.num) c1) x.num.natAbs)(t1:RN W (.slice s1 (ag x.den) d1) x.den)(r2:RN W (.slice p2 (aa y.num) c2) y.num.natAbs)(t2:RN W (.slice s2 (ag y.den) d2) y.den) :
 Calls Tryz.prog 100 #[.agg #[.bool (ah x.num),.slice p1 (aa x.num) c1,.slice s1 (ag x.den) d1],.agg #[.bool (ah y.num),.slice p2 (aa y.num) c2,.slice s2 (ag y.den) d2]] W fun e w'=>∃ p c s d,e=.returned (.agg #[.bool (ah q.num),.slice p (aa q.num) c,.slice s (ag q.den) d])∧RN w' (.slice p (aa q.num) c) q.num.natAbs∧RN w' (.slice s (ag q.den) d) q.den∧Below W.heap.size W w':=by
 have hny:LQ y⁻¹:=by
  have hn0:y.num≠0:=fun e=>h0 (Rat.num_eq_zero.1 e);rcases Int.lt_trichotomy y.num 0 with h|h|h
  · obtain⟨e1,e2⟩:=kS h
    exact⟨by unfold aa;rw[e1,Int.natAbs_neg,Int.natAbs_natCast];exact hy.2,by rw[show y⁻¹.den=y.num.natAbs by omega];exact hy.1⟩
  · exact absurd h hn0
  · obtain⟨e1,e2⟩:=nW h
    exact⟨by unfold aa;rw[e1,Int.natAbs_natCast];exact hy.2,by rw[show y⁻¹.den=y.num.natAbs by omega];exact hy.1⟩
 exact z2T x.num y.num y⁻¹.num q.num x.den y.den y⁻¹.den q.den p1 c1 s1 d1 p2 c2 s2 d2 W (fun p1 c1 s1 d1 W h1 h2=>z6k y _ rfl h0 hy p1 c1 s1 d1 W h1 h2)
  (fun p1 c1 s1 d1 p2 c2 s2 d2 W h1 h2 h3 h4=>z6j x y⁻¹ q (by rw[← hq,Rat.div_def]) hx hny p1 c1 s1 d1 p2 c2 s2 d2 W h1 h2 h3 h4) r1 t1 r2 t2
theorem z1Q (x y:Rat):(x.num.sign<y.num.sign→cmpQ x y = -1)∧(y.num.sign<x.num.sign→cmpQ x y=1):=by
 have hx:=x.den_pos;have hy:=y.den_pos;rw[iW x y _ _ rfl rfl];have key:∀ (a:Int) (n:Nat),0<n→(a*(n:Int)).sign=a.sign:=fun a n hn=>by rw[Int.sign_mul,Int.sign_natCast_of_ne_zero (by omega),Int.mul_one]
 have k1:=key x.num y.den hy;have k2:=key y.num x.den hx;generalize x.num*(y.den:Int)=a at *;generalize y.num*(x.den:Int)=b at *;rw[← k1,← k2];have ha:=Int.sign_trichotomy a
 have lt:a.sign<b.sign→a<b:=by
  intro h
  rcases Int.lt_trichotomy a 0 with h1|h1|h1<;>rcases Int.lt_trichotomy b 0 with h2|h2|h2 <;>
   first|omega|(rw[Int.sign_eq_neg_one_of_neg h1,Int.sign_eq_neg_one_of_neg h2]at h;omega)|(rw[Int.sign_eq_one_of_pos h1,Int.sign_eq_one_of_pos h2]at h;omega)|(rw[Int.sign_eq_one_of_pos h1,Int.sign_eq_neg_one_of_neg h2]at h;omega)|(subst h1;rw[Int.sign_zero,Int.sign_eq_neg_one_of_neg h2]at h;omega)|(subst h2;rw[Int.sign_zero,Int.sign_eq_one_of_pos h1]at h;omega)|(subst h1;subst h2;omega)
 have gt:b.sign<a.sign→b<a:=by
  intro h
  rcases Int.lt_trichotomy a 0 with h1|h1|h1<;>rcases Int.lt_trichotomy b 0 with h2|h2|h2 <;>
   first|omega|(rw[Int.sign_eq_neg_one_of_neg h1,Int.sign_eq_neg_one_of_neg h2]at h;omega)|(rw[Int.sign_eq_one_of_pos h1,Int.sign_eq_one_of_pos h2]at h;omega)|(rw[Int.sign_eq_neg_one_of_neg h1,Int.sign_eq_one_of_pos h2]at h;omega)|(subst h1;rw[Int.sign_zero,Int.sign_eq_one_of_pos h2]at h;omega)|(subst h2;rw[Int.sign_zero,Int.sign_eq_neg_one_of_neg h1]at h;omega)|(subst h1;subst h2;omega)
 constructor
 · intro h;rw[if_pos (lt h)]
 · intro h
   have:=gt h;rw[if_neg (by omega),if_pos this]
theorem zl (x y:Rat)(k:Int)(hk:cmpQ x y=k)(hx:LQ x)(hy:LQ y)(p1:Option Addr)(c1:Nat)(s1:Option Addr)(d1:Nat)(p2:Option Addr)(c2:Nat)(s2:Option Addr)(d2:Nat)(W:World)(r1:RN W (.slice p1 (aa x.num) c1) x.num.natAbs)(t1:RN W (.slice s1 (ag x.den) d1) x.den)(r2:RN W (.slice p2 (aa y.num) c2) y.num.natAbs)(t2:RN W (.slice s2 (ag y.den) d2) y.den) :
 CR 27 #[.agg #[.bool (ah x.num),.slice p1 (aa x.num) c1,.slice s1 (ag x.den) d1],.agg #[.bool (ah y.num),.slice p2 (aa y.num) c2,.slice s2 (ag y.den) d2]] W (.int .i64 k):=by
 obtain⟨a1,a2⟩:=hx;obtain⟨b1,b2⟩:=hy;have hS1:=fun p1 c1 s1 d1 W h1 h2=>z4t x _ rfl p1 c1 s1 d1 W h1 h2;have hS2:=fun p1 c1 s1 d1 W h1 h2=>z4t y _ rfl p1 c1 s1 d1 W h1 h2;obtain⟨hlt,hgt⟩:=z1Q x y;rcases Int.lt_trichotomy x.num.sign y.num.sign with h|h|h
 · rw[← hk,hlt h]
   exact z5c x.num y.num _ _ x.den y.den h p1 c1 s1 d1 p2 c2 s2 d2 W hS1 hS2 r1 t1 r2 t2
 · rw[← h]at hS2
   have l1:=kE x.num (y.den:Int);have l2:=kE y.num (x.den:Int);rw[xz]at l1 l2;have l4:=jN x.num.natAbs y.den;have l5:=jN y.num.natAbs x.den;have z1:aa x.num=ag x.num.natAbs:=rfl;have z2:aa y.num=ag y.num.natAbs:=rfl
   refine z0W x.num y.num _ (x.num*(y.den:Int)) (y.num*(x.den:Int)) k x.den y.den (x.num.natAbs*y.den) (y.num.natAbs*x.den) p1 c1 s1 d1 p2 c2 s2 d2 W hS1 hS2
    (fun p1 c1 s2 d2 W h1 h2=>ou _ _ _ _ (by omega) (by omega) W h1 h2) (fun s2 d2 W h=>lq _ _ _ _ (z2q x.num y.den) (by omega) W h)
    (fun p1 c1 s2 d2 W h1 h2=>ou _ _ _ _ (by omega) (by omega) W h1 h2) (fun s2 d2 W h=>lq _ _ _ _ (z2q y.num x.den) (by omega) W h) (fun p1 c1 p2 c2 W h1 h2=>?_) r1 t1 r2 t2
   have hc:=zCmp _ _ (x.num*(y.den:Int)) (y.num*(x.den:Int)) (show aa _≤50000 by omega) (show aa _≤50000 by omega) W (Rz.mk h1) (Rz.mk h2);rw[show cmpZ (x.num*(y.den:Int)) (y.num*(x.den:Int))=k by rw[← hk,iW x y _ _ rfl rfl];rfl]at hc;exact hc
 · rw[← hk,hgt h]
   exact z5d x.num y.num _ _ x.den y.den h p1 c1 s1 d1 p2 c2 s2 d2 W hS1 hS2 r1 t1 r2 t2
theorem sQTo (q:Rat)(s:ByteArray)(hs:Sq q=s)(hq:SmQ 9000 q)(p1:Option Addr)(c1:Nat)(s1:Option Addr)(d1:Nat)(W:World)(r1:RN W (.slice p1 (aa q.num) c1) q.num.natAbs)(t1:RN W (.slice s1 (ag q.den) d1) q.den) :
 CR 67 #[.agg #[.bool (ah q.num),.slice p1 (aa q.num) c1,.slice s1 (ag q.den) d1]] W (.string s):=by
 have l1:aa q.num≤9000:=gL hq.1 (by decide);have l2:ag q.den≤9000:=gL hq.2 (by decide);have z1:(Sn q.num.natAbs).size≤9000:=iD hq.1 (by decide);have z2:(Sn q.den).size≤9000:=iD hq.2 (by decide);have z3:(Sz q.num).size≤9001:=jZ hq.1 (by decide);have h1:=fun p c W h=>sTo q.num _ rfl (Nat.le_trans l1 (by decide)) (by omega) p c W h;have h2:=fun(s:Option Addr) (d:Nat) W h=>z2g (.slice s (ag q.den) d) q.den (Nat.le_trans l2 (by decide)) W h;subst hs;by_cases hd:q.den=1
 · unfold Sq
   rw[if_pos hd]
   exact z5b q.num q.den (Sz q.num) p1 c1 s1 d1 W h1 (fun s d W h=>by
    have:=h2 s d W h
    rwa [hd,show Sn 1=⟨#[49]⟩by decide +kernel,← hd]at this) r1 t1
 · unfold Sq
   rw[if_neg hd];refine z2O q.num q.den (Sz q.num) (Sn q.den) _ ?_ ?_ (by omega) (by omega) p1 c1 s1 d1 W h1 h2 r1 t1
   · rw[beq_eq_false_iff_ne]
     intro e;apply hd
     have e2:Sn q.den=Sn 1:=by
       apply ByteArray.ext;apply Array.ext'
       rw[toList_data]at e;rw[e];decide +kernel
     exact z4k e2
   · apply ByteArray.ext;apply Array.ext'
     simp[Sn]
