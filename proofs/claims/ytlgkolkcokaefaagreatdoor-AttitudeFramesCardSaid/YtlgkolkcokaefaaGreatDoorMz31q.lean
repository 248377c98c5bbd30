/- texts -/
import Derived.Test.YtlgkolkcokaefaaGreatDoorMz30q
open Go.Lib (hid)
namespace Go.Proofs.YtlgkolkcokaefaaGreatDoor
open Go.RowKit Go.Gb
structure QS where
 b:Bool
 a:Option Addr
 n:Nat
 c:Nat
 e:Option Addr
 m:Nat
 d:Nat
def FQ (W:World) (q:QS) (x:Rat):Prop:=q.b=ah x.num∧q.n=aa x.num∧q.m=ag x.den∧RN W (.slice q.a q.n q.c) x.num.natAbs∧RN W (.slice q.e q.m q.d) x.den
theorem FQ.below {W W':World}{q:QS}{x:Rat}(h:FQ W q x)(hb:Below W.heap.size W W'):FQ W' q x:=⟨h.1,h.2.1,h.2.2.1,h.2.2.2.1.below hb,h.2.2.2.2.below hb⟩
theorem gK {q:QS}{x:Rat}{g:Nat}{T:TypeId}(l:List Value)(i:Nat){w:World}{cs:Array Value}(h:FQ w q x)(hg:SBk w g cs T)(hn:bW cs=true)(hl:l.all bE=true):FQ (storeAll w g i l) q x:=⟨h.1,h.2.1,h.2.2.1,mo l i h.2.2.2.1 hg hn hl,mo l i h.2.2.2.2 hg hn hl⟩
abbrev QS.v (q:QS):Value:=.agg #[.bool q.b,.slice q.a q.n q.c,.slice q.e q.m q.d]
abbrev Qvv (qa qb qc:QS):Value:=.agg #[.bool qa.b,.slice qa.a qa.n qa.c,.slice qa.e qa.m qa.d,.bool qb.b,.slice qb.a qb.n qb.c,.slice qb.e qb.m qb.d,.bool qc.b,.slice qc.a qc.n qc.c,.slice qc.e qc.m qc.d]
abbrev Qff (qa qb qc qd qe qf qg qh qi:QS):Value:=.agg #[.bool qa.b,.slice qa.a qa.n qa.c,.slice qa.e qa.m qa.d,.bool qb.b,.slice qb.a qb.n qb.c,.slice qb.e qb.m qb.d,.bool qc.b,.slice qc.a qc.n qc.c,.slice qc.e qc.m qc.d,.bool qd.b,.slice qd.a qd.n qd.c,.slice qd.e qd.m qd.d,.bool qe.b,.slice qe.a qe.n qe.c,.slice qe.e qe.m qe.d,.bool qf.b,.slice qf.a qf.n qf.c,.slice qf.e qf.m qf.d,.bool qg.b,.slice qg.a qg.n qg.c,.slice qg.e qg.m qg.d,.bool qh.b,.slice qh.a qh.n qh.c,.slice qh.e qh.m qh.d,.bool qi.b,.slice qi.a qi.n qi.c,.slice qi.e qi.m qi.d]
abbrev RQ (W:World) (x:Rat):Ending→World→Prop:=fun e w'=>∃ q:QS,e=.returned (.agg #[.bool q.b,.slice q.a q.n q.c,.slice q.e q.m q.d])∧FQ w' q x∧Below W.heap.size W w'
abbrev RQb (W:World) (x:Rat) (b:Bool):Ending→World→Prop:=fun e w'=>∃ q:QS,e=.returned (.tuple #[.agg #[.bool q.b,.slice q.a q.n q.c,.slice q.e q.m q.d],.bool b])∧FQ w' q x∧Below W.heap.size W w'
abbrev Rv3 (W:World) (xa xb xc:Rat):Ending→World→Prop:=fun e w'=>∃ qa qb qc:QS,e=.returned (.agg #[.bool qa.b,.slice qa.a qa.n qa.c,.slice qa.e qa.m qa.d,.bool qb.b,.slice qb.a qb.n qb.c,.slice qb.e qb.m qb.d,.bool qc.b,.slice qc.a qc.n qc.c,.slice qc.e qc.m qc.d])∧FQ w' qa xa∧FQ w' qb xb∧FQ w' qc xc∧Below W.heap.size W w'
abbrev RQQ (W:World) (xa xb:Rat):Ending→World→Prop:=fun e w'=>∃ qa qb:QS,e=.returned (.tuple #[.agg #[.bool qa.b,.slice qa.a qa.n qa.c,.slice qa.e qa.m qa.d],.agg #[.bool qb.b,.slice qb.a qb.n qb.c,.slice qb.e qb.m qb.d]])∧FQ w' qa xa∧FQ w' qb xb∧Below W.heap.size W w'
abbrev RF (W:World) (xa xb xc xd xe xf xg xh xi:Rat):Ending→World→Prop:=fun e w'=>∃ qa qb qc qd qe qf qg qh qi:QS,e=.returned (.tuple #[.agg #[.bool qa.b,.slice qa.a qa.n qa.c,.slice qa.e qa.m qa.d,.bool qb.b,.slice qb.a qb.n qb.c,.slice qb.e qb.m qb.d,.bool qc.b,.slice qc.a qc.n qc.c,.slice qc.e qc.m qc.d,.bool qd.b,.slice qd.a qd.n qd.c,.slice qd.e qd.m qd.d,.bool qe.b,.slice qe.a qe.n qe.c,.slice qe.e qe.m qe.d,.bool qf.b,.slice qf.a qf.n qf.c,.slice qf.e qf.m qf.d,.bool qg.b,.slice qg.a qg.n qg.c,.slice qg.e qg.m qg.d,.bool qh.b,.slice qh.a qh.n qh.c,.slice qh.e qh.m qh.d,.bool qi.b,.slice qi.a qi.n qi.c,.slice qi.e qi.m qi.d],.int .i64 0])∧FQ w' qa xa∧FQ w' qb xb∧FQ w' qc xc∧FQ w' qd xd∧FQ w' qe xe∧FQ w' qf xf∧FQ w' qg xg∧FQ w' qh xh∧FQ w' qi xi∧Below W.heap.size W w'
abbrev RP (W:World) (v:Value):Ending→World→Prop:=fun e w'=>e=.returned v∧Below W.heap.size W w'
abbrev KQ1 (f:Nat) (x0:Rat) (z:Rat):Prop:=∀ (q0:QS) (W:World),FQ W q0 x0→Calls Tryz.prog f #[.agg #[.bool q0.b,.slice q0.a q0.n q0.c,.slice q0.e q0.m q0.d]] W (RQ W z)
abbrev KQ2 (f:Nat) (x0 x1:Rat) (z:Rat):Prop:=∀ (q0 q1:QS) (W:World),FQ W q0 x0→FQ W q1 x1→Calls Tryz.prog f #[.agg #[.bool q0.b,.slice q0.a q0.n q0.c,.slice q0.e q0.m q0.d],.agg #[.bool q1.b,.slice q1.a q1.n q1.c,.slice q1.e q1.m q1.d]] W (RQ W z)
abbrev KP1 (f:Nat) (x0:Rat) (v:Value):Prop:=∀ (q0:QS) (W:World),FQ W q0 x0→Calls Tryz.prog f #[.agg #[.bool q0.b,.slice q0.a q0.n q0.c,.slice q0.e q0.m q0.d]] W (RP W v)
abbrev KP2 (f:Nat) (x0 x1:Rat) (v:Value):Prop:=∀ (q0 q1:QS) (W:World),FQ W q0 x0→FQ W q1 x1→Calls Tryz.prog f #[.agg #[.bool q0.b,.slice q0.a q0.n q0.c,.slice q0.e q0.m q0.d],.agg #[.bool q1.b,.slice q1.a q1.n q1.c,.slice q1.e q1.m q1.d]] W (RP W v)
abbrev KS (f:Nat) (v0:Value) (z:Rat):Prop:=∀ (W:World),Calls Tryz.prog f #[v0] W (RQ W z)
abbrev KSb (f:Nat) (v0:Value) (z:Rat) (b:Bool):Prop:=∀ (W:World),Calls Tryz.prog f #[v0] W (RQb W z b)
abbrev KQQ (f:Nat) (x0:Rat) (y z:Rat):Prop:=∀ (q0:QS) (W:World),FQ W q0 x0→Calls Tryz.prog f #[.agg #[.bool q0.b,.slice q0.a q0.n q0.c,.slice q0.e q0.m q0.d]] W (RQQ W y z)
abbrev KOut (f:Nat) (x0a x0b x0c:Rat) (v:Value):Prop:=∀ (q0a q0b q0c:QS) (W:World),FQ W q0a x0a→FQ W q0b x0b→FQ W q0c x0c→Calls Tryz.prog f #[.agg #[.bool q0a.b,.slice q0a.a q0a.n q0a.c,.slice q0a.e q0a.m q0a.d,.bool q0b.b,.slice q0b.a q0b.n q0b.c,.slice q0b.e q0b.m q0b.d,.bool q0c.b,.slice q0c.a q0c.n q0c.c,.slice q0c.e q0c.m q0c.d]] W (RP W v)
abbrev KF (f:Nat) (v0:Value) (xa xb xc xd xe xf xg xh xi:Rat):Prop:=∀ W:World,Calls Tryz.prog f #[v0] W (RF W xa xb xc xd xe xf xg xh xi)
abbrev KPs (f:Nat) (v0 v:Value):Prop:=∀ W:World,Calls Tryz.prog f #[v0] W (RP W v)
def Rel.q (x:Rat):Rel:=⟨fun v W=>∃ q:QS,v=q.v∧FQ W q x,fun _ _ _ ⟨q,e,h⟩ hb=>⟨q,e,h.below hb⟩⟩
def Rel.qv (x y z:Rat):Rel:=⟨fun v W=>∃ q r s:QS,v=Qvv q r s∧FQ W q x∧FQ W r y∧FQ W s z,fun _ _ _ ⟨q,r,s,e,h,k,l⟩ hb=>⟨q,r,s,e,h.below hb,k.below hb,l.below hb⟩⟩
def Rel.qf (xa xb xc ya yb yc za zb zc:Rat):Rel:=⟨fun v W=>∃ qa qb qc qd qe qf qg qh qi:QS,v=Qff qa qb qc qd qe qf qg qh qi∧FQ W qa xa∧FQ W qb xb∧FQ W qc xc∧FQ W qd ya∧FQ W qe yb∧FQ W qf yc∧FQ W qg za∧FQ W qh zb∧FQ W qi zc,fun _ _ _ ⟨qa,qb,qc,qd,qe,qf,qg,qh,qi,e,h1,h2,h3,h4,h5,h6,h7,h8,h9⟩ hb=>⟨qa,qb,qc,qd,qe,qf,qg,qh,qi,e,h1.below hb,h2.below hb,h3.below hb,h4.below hb,h5.below hb,h6.below hb,h7.below hb,h8.below hb,h9.below hb⟩⟩
section
variable {ops:Array Oper} {m:Nat} {sl:Nat→Nat} {L:List Rel} {a0:Act} {P:World→Prop} {listed:Array Bool} {a:Act} {w:World}
theorem qAt (h:RInv ops m sl (RelR L) a0 P listed a w)(i d:Nat){j:Nat}{x:Rat}(hj:j∈Region.ready .any ops listed)(hw:Region.waitsFor .any ops j i=true)(hm:i<m:=by decide)(hd:sl i=d:=by rfl)(hR:L.getD i (Rel.val undef)=Rel.q x:=by rfl):∃ q:QS,a.tmps[d]? = some q.v∧Hid (FQ w q x):=by
 obtain⟨v,hv,hr⟩:=h.at hj hw hm;unfold RelR at hr
 rw[hR]at hr;obtain⟨q,rfl,hq⟩:=hr;exact⟨q,hd▸hv,hid hq⟩
theorem qAtv (h:RInv ops m sl (RelR L) a0 P listed a w)(i d:Nat){j:Nat}{x y z:Rat}(hj:j∈Region.ready .any ops listed)(hw:Region.waitsFor .any ops j i=true)(hm:i<m:=by decide)(hd:sl i=d:=by rfl)(hR:L.getD i (Rel.val undef)=Rel.qv x y z:=by rfl):∃ q r s:QS,a.tmps[d]? = some (Qvv q r s)∧Hid (FQ w q x)∧Hid (FQ w r y)∧Hid (FQ w s z):=by
 obtain⟨v,hv,hr⟩:=h.at hj hw hm;unfold RelR at hr
 rw[hR]at hr;obtain⟨q,r,s,rfl,hq,hr,hs⟩:=hr;exact⟨q,r,s,hd▸hv,hid hq,hid hr,hid hs⟩
theorem qEnd (h:RInv ops m sl (RelR L) a0 P listed a w)(hall:∀ j,j<m→listed.getD j false=true)(i d:Nat){x:Rat}(hm:i<m:=by decide)(hd:sl i=d:=by rfl)(hR:L.getD i (Rel.val undef)=Rel.q x:=by rfl):∃ q:QS,a.tmps[d]? = some q.v∧Hid (FQ w q x):=by
 obtain⟨v,hv,hr⟩:=h.slots i hm (hall i hm);unfold RelR at hr
 rw[hR]at hr;obtain⟨q,rfl,hq⟩:=hr;exact⟨q,hd▸hv,hid hq⟩
theorem z1I (h:RInv ops m sl (RelR L) a0 P listed a w)(hall:∀ j,j<m→listed.getD j false=true)(i d:Nat){x y z:Rat}(hm:i<m:=by decide)(hd:sl i=d:=by rfl)(hR:L.getD i (Rel.val undef)=Rel.qv x y z:=by rfl):∃ q r s:QS,a.tmps[d]? = some (Qvv q r s)∧Hid (FQ w q x)∧Hid (FQ w r y)∧Hid (FQ w s z):=by
 obtain⟨v,hv,hr⟩:=h.slots i hm (hall i hm);unfold RelR at hr
 rw[hR]at hr;obtain⟨q,r,s,rfl,hq,hr,hs⟩:=hr;exact⟨q,r,s,hd▸hv,hid hq,hid hr,hid hs⟩
theorem z5d (h:RInv ops m sl (RelR L) a0 P listed a w)(hall:∀ j,j<m→listed.getD j false=true)(i d:Nat){xa xb xc ya yb yc za zb zc:Rat}(hm:i<m:=by decide)(hd:sl i=d:=by rfl)(hR:L.getD i (Rel.val undef)=Rel.qf xa xb xc ya yb yc za zb zc:=by rfl):∃ qa qb qc qd qe qf qg qh qi:QS,a.tmps[d]? = some (Qff qa qb qc qd qe qf qg qh qi)∧Hid (FQ w qa xa)∧Hid (FQ w qb xb)∧Hid (FQ w qc xc)∧Hid (FQ w qd ya)∧Hid (FQ w qe yb)∧Hid (FQ w qf yc)∧Hid (FQ w qg za)∧Hid (FQ w qh zb)∧Hid (FQ w qi zc):=by
 obtain⟨v,hv,hr⟩:=h.slots i hm (hall i hm);unfold RelR at hr
 rw[hR]at hr;obtain⟨qa,qb,qc,qd,qe,qf,qg,qh,qi,rfl,h1,h2,h3,h4,h5,h6,h7,h8,h9⟩:=hr;exact⟨qa,qb,qc,qd,qe,qf,qg,qh,qi,hd▸hv,hid h1,hid h2,hid h3,hid h4,hid h5,hid h6,hid h7,hid h8,hid h9⟩
end
theorem z2Y {w:World}{g:Nat}{T:TypeId}{x0 x1:Value}(h:SBk w g #[x0,x1] T):w.cell? ⟨g,0,none⟩=some x0∧w.cell? ⟨g,1,none⟩=some x1:=⟨h.cell (i:=0) rfl,h.cell (i:=1) rfl⟩
theorem cells3 {w:World}{g:Nat}{T:TypeId}{x0 x1 x2:Value}(h:SBk w g #[x0,x1,x2] T):w.cell? ⟨g,0,none⟩=some x0∧w.cell? ⟨g,1,none⟩=some x1∧w.cell? ⟨g,2,none⟩=some x2:=⟨h.cell (i:=0) rfl,h.cell (i:=1) rfl,h.cell (i:=2) rfl⟩
theorem wW {w:World}{g:Nat}{T:TypeId}{x0 x1 x2 x3 x4 x5 x6 x7 x8:Value}(h:SBk w g #[x0,x1,x2,x3,x4,x5,x6,x7,x8] T):w.cell? ⟨g,0,none⟩=some x0∧w.cell? ⟨g,1,none⟩=some x1∧w.cell? ⟨g,2,none⟩=some x2∧w.cell? ⟨g,3,none⟩=some x3∧w.cell? ⟨g,4,none⟩=some x4∧w.cell? ⟨g,5,none⟩=some x5∧w.cell? ⟨g,6,none⟩=some x6∧w.cell? ⟨g,7,none⟩=some x7∧w.cell? ⟨g,8,none⟩=some x8:=⟨h.cell (i:=0) rfl,h.cell (i:=1) rfl,h.cell (i:=2) rfl,h.cell (i:=3) rfl,h.cell (i:=4) rfl,h.cell (i:=5) rfl,h.cell (i:=6) rfl,h.cell (i:=7) rfl,h.cell (i:=8) rfl⟩
theorem z0T {w:World}{g:Nat}{T:TypeId}{x0 x1 x2 x3 x4 x5 x6 x7 x8 x9 x10 x11 x12 x13 x14 x15 x16 x17 x18 x19 x20 x21 x22 x23 x24 x25 x26:Value}(h:SBk w g #[x0,x1,x2,x3,x4,x5,x6,x7,x8,x9,x10,x11,x12,x13,x14,x15,x16,x17,x18,x19,x20,x21,x22,x23,x24,x25,x26] T):w.cell? ⟨g,0,none⟩=some x0∧w.cell? ⟨g,1,none⟩=some x1∧w.cell? ⟨g,2,none⟩=some x2∧w.cell? ⟨g,3,none⟩=some x3∧w.cell? ⟨g,4,none⟩=some x4∧w.cell? ⟨g,5,none⟩=some x5∧w.cell? ⟨g,6,none⟩=some x6∧w.cell? ⟨g,7,none⟩=some x7∧w.cell? ⟨g,8,none⟩=some x8∧w.cell? ⟨g,9,none⟩=some x9∧w.cell? ⟨g,10,none⟩=some x10∧w.cell? ⟨g,11,none⟩=some x11∧w.cell? ⟨g,12,none⟩=some x12∧w.cell? ⟨g,13,none⟩=some x13∧w.cell? ⟨g,14,none⟩=some x14∧w.cell? ⟨g,15,none⟩=some x15∧w.cell? ⟨g,16,none⟩=some x16∧w.cell? ⟨g,17,none⟩=some x17∧w.cell? ⟨g,18,none⟩=some x18∧w.cell? ⟨g,19,none⟩=some x19∧w.cell? ⟨g,20,none⟩=some x20∧w.cell? ⟨g,21,none⟩=some x21∧w.cell? ⟨g,22,none⟩=some x22∧w.cell? ⟨g,23,none⟩=some x23∧w.cell? ⟨g,24,none⟩=some x24∧w.cell? ⟨g,25,none⟩=some x25∧w.cell? ⟨g,26,none⟩=some x26:=⟨h.cell (i:=0) rfl,h.cell (i:=1) rfl,h.cell (i:=2) rfl,h.cell (i:=3) rfl,h.cell (i:=4) rfl,h.cell (i:=5) rfl,h.cell (i:=6) rfl,h.cell (i:=7) rfl,h.cell (i:=8) rfl,h.cell (i:=9) rfl,h.cell (i:=10) rfl,h.cell (i:=11) rfl,h.cell (i:=12) rfl,h.cell (i:=13) rfl,h.cell (i:=14) rfl,h.cell (i:=15) rfl,h.cell (i:=16) rfl,h.cell (i:=17) rfl,h.cell (i:=18) rfl,h.cell (i:=19) rfl,h.cell (i:=20) rfl,h.cell (i:=21) rfl,h.cell (i:=22) rfl,h.cell (i:=23) rfl,h.cell (i:=24) rfl,h.cell (i:=25) rfl,h.cell (i:=26) rfl⟩
theorem frz2 {w:World}{g:Nat}{T:TypeId}{x0 x1:Value}(h:SBk w g #[x0,x1] T):w.frozen? ⟨g,0,none⟩=false∧w.frozen? ⟨g,1,none⟩=false:=⟨h.frozen (i:=0),h.frozen (i:=1)⟩
theorem frz3 {w:World}{g:Nat}{T:TypeId}{x0 x1 x2:Value}(h:SBk w g #[x0,x1,x2] T):w.frozen? ⟨g,0,none⟩=false∧w.frozen? ⟨g,1,none⟩=false∧w.frozen? ⟨g,2,none⟩=false:=⟨h.frozen (i:=0),h.frozen (i:=1),h.frozen (i:=2)⟩
theorem frz9 {w:World}{g:Nat}{T:TypeId}{x0 x1 x2 x3 x4 x5 x6 x7 x8:Value}(h:SBk w g #[x0,x1,x2,x3,x4,x5,x6,x7,x8] T):w.frozen? ⟨g,0,none⟩=false∧w.frozen? ⟨g,1,none⟩=false∧w.frozen? ⟨g,2,none⟩=false∧w.frozen? ⟨g,3,none⟩=false∧w.frozen? ⟨g,4,none⟩=false∧w.frozen? ⟨g,5,none⟩=false∧w.frozen? ⟨g,6,none⟩=false∧w.frozen? ⟨g,7,none⟩=false∧w.frozen? ⟨g,8,none⟩=false:=⟨h.frozen (i:=0),h.frozen (i:=1),h.frozen (i:=2),h.frozen (i:=3),h.frozen (i:=4),h.frozen (i:=5),h.frozen (i:=6),h.frozen (i:=7),h.frozen (i:=8)⟩
theorem z5j {w:World}{g:Nat}{T:TypeId}{x0 x1 x2 x3 x4 x5 x6 x7 x8 x9 x10 x11 x12 x13 x14 x15 x16 x17 x18 x19 x20 x21 x22 x23 x24 x25 x26:Value}(h:SBk w g #[x0,x1,x2,x3,x4,x5,x6,x7,x8,x9,x10,x11,x12,x13,x14,x15,x16,x17,x18,x19,x20,x21,x22,x23,x24,x25,x26] T):w.frozen? ⟨g,0,none⟩=false∧w.frozen? ⟨g,1,none⟩=false∧w.frozen? ⟨g,2,none⟩=false∧w.frozen? ⟨g,3,none⟩=false∧w.frozen? ⟨g,4,none⟩=false∧w.frozen? ⟨g,5,none⟩=false∧w.frozen? ⟨g,6,none⟩=false∧w.frozen? ⟨g,7,none⟩=false∧w.frozen? ⟨g,8,none⟩=false∧w.frozen? ⟨g,9,none⟩=false∧w.frozen? ⟨g,10,none⟩=false∧w.frozen? ⟨g,11,none⟩=false∧w.frozen? ⟨g,12,none⟩=false∧w.frozen? ⟨g,13,none⟩=false∧w.frozen? ⟨g,14,none⟩=false∧w.frozen? ⟨g,15,none⟩=false∧w.frozen? ⟨g,16,none⟩=false∧w.frozen? ⟨g,17,none⟩=false∧w.frozen? ⟨g,18,none⟩=false∧w.frozen? ⟨g,19,none⟩=false∧w.frozen? ⟨g,20,none⟩=false∧w.frozen? ⟨g,21,none⟩=false∧w.frozen? ⟨g,22,none⟩=false∧w.frozen? ⟨g,23,none⟩=false∧w.frozen? ⟨g,24,none⟩=false∧w.frozen? ⟨g,25,none⟩=false∧w.frozen? ⟨g,26,none⟩=false:=⟨h.frozen (i:=0),h.frozen (i:=1),h.frozen (i:=2),h.frozen (i:=3),h.frozen (i:=4),h.frozen (i:=5),h.frozen (i:=6),h.frozen (i:=7),h.frozen (i:=8),h.frozen (i:=9),h.frozen (i:=10),h.frozen (i:=11),h.frozen (i:=12),h.frozen (i:=13),h.frozen (i:=14),h.frozen (i:=15),h.frozen (i:=16),h.frozen (i:=17),h.frozen (i:=18),h.frozen (i:=19),h.frozen (i:=20),h.frozen (i:=21),h.frozen (i:=22),h.frozen (i:=23),h.frozen (i:=24),h.frozen (i:=25),h.frozen (i:=26)⟩
end Go.Proofs.YtlgkolkcokaefaaGreatDoor
set_option maxRecDepth 100000
set_option maxHeartbeats 20000000
open Go.Lib (hid)
namespace Go.Proofs.YtlgkolkcokaefaaGreatDoor
open Go.RowKit Go.Gb
theorem zS (n1 n2 z n:Int)(en1 en2 dn:Nat)(p1:Option Addr)(c1:Nat)(s1:Option Addr)(d1:Nat)(p2:Option Addr)(c2:Nat)(s2:Option Addr)(d2:Nat)(w:World)(h0:∀ s1 d1 s2 d2 W,RN W (.slice s1 (ag en1) d1) en1→RN W (.slice s2 (ag en2) d2) en2→CR 49 #[.slice s1 (ag en1) d1,.slice s2 (ag en2) d2] W (.int .i64 0))(h1:∀ p1 c1 p2 c2 W,RN W (.slice p1 (aa n1) c1) n1.natAbs→RN W (.slice p2 (aa n2) c2) n2.natAbs→CZ 86 #[.agg #[.bool (ah n1),.slice p1 (aa n1) c1],.agg #[.bool (ah n2),.slice p2 (aa n2) c2]] W z)(h3:∀ p1 c1 s2 d2 W,RN W (.slice p1 (aa z) c1) z.natAbs→RN W (.slice s2 (ag en1) d2) en1→CF 81 #[.agg #[.bool (ah z),.slice p1 (aa z) c1],.slice s2 (ag en1) d2] W n dn)(r1:RN w (.slice p1 (aa n1) c1) n1.natAbs)(t1:RN w (.slice s1 (ag en1) d1) en1)(r2:RN w (.slice p2 (aa n2) c2) n2.natAbs)(t2:RN w (.slice s2 (ag en2) d2) en2) :
 CF 67 #[.agg #[.bool (ah n1),.slice p1 (aa n1) c1,.slice s1 (ag en1) d1],.agg #[.bool (ah n2),.slice p2 (aa n2) c2,.slice s2 (ag en2) d2]] w n dn:=by
 obtain ⟨C0,C1,C3,R1,T1,R2,T2⟩:=bP h0 h1 h3 r1 t1 r2 t2;clear h0 h1 h3 r1 t1 r2 t2;go_enter Tryz.func67,Tryz.ntmps67
 go_upto_region 1 with fail
 refine au w [(#[.bool (ah n1),.slice p1 (aa n1) c1,.slice s1 (ag en1) d1],53),(#[.bool (ah n2),.slice p2 (aa n2) c2,.slice s2 (ag en2) d2],53),(#[.bool false,.slice none 0 0,.slice none 0 0],53)] rfl ?_;rintro W0 ⟨k1,k2,k3,hb⟩;have HB0:=hid (show Below w.heap.size w W0 from hb);obtain ⟨R1,T1,R2,T2,K1,K2,K3⟩:=bP (R1.out.below HB0.out) (T1.out.below HB0.out) (R2.out.below HB0.out) (T2.out.below HB0.out) k1 k2 k3;clear k1 k2 k3 hb;have dK12:=K1.out.cell (i:=2) rfl;have dK22:=K2.out.cell (i:=2) rfl;go_wp2_with fail
 with_reducible refine(C0.out _ _ _ _ _ T1.out T2.out).mono ?_
 rintro e W1 ⟨rfl,hb⟩;clear dK12 dK22;obtain ⟨K1,K2,K3,R1,T1,R2⟩:=bT (K1.out.below hb) (K2.out.below hb) (K3.out.below hb) (R1.out.below hb) (T1.out.below hb) (R2.out.below hb);have HB1:=hbt HB0 hb;clear hb;go_wp2_with fail
 refine aC (fun a0 a' V=>∃ u04 u05 u00 u01 u02 u03,a'=⟨putL [(13,.pointer (some ⟨w.heap.size,0,none⟩)),(14,.agg #[.bool (ah n1),.slice p1 (aa n1) c1]),(15,.pointer (some ⟨w.heap.size+1,0,none⟩)),(16,.agg #[.bool (ah n2),.slice p2 (aa n2) c2]),(17,.agg #[.bool (ah z),.slice u04 (aa z) u05]),(18,.pointer (some ⟨w.heap.size,2,none⟩)),(19,.slice s1 (ag en1) d1),(20,.agg #[.bool (ah n),.slice u00 (aa n) u01,.slice u02 (ag dn) u03])] a0.tmps,a0.defers⟩∧Below w.heap.size w V∧SBk V (w.heap.size+1+1) #[.bool (ah n),.slice u00 (aa n) u01,.slice u02 (ag dn) u03] 53∧RN V (.slice u00 (aa n) u01) (n).natAbs∧RN V (.slice u02 (ag dn) u03) (dn)) ?_ ?_
 · refine az (by kernel_rfl) 8 1 (fun i=>[13,14,15,16,17,18,19,20].getD i 0) (RelR [Rel.val (.pointer (some ⟨w.heap.size,0,none⟩)),Rel.val (.agg #[.bool (ah n1),.slice p1 (aa n1) c1]),Rel.val (.pointer (some ⟨w.heap.size+1,0,none⟩)),Rel.val (.agg #[.bool (ah n2),.slice p2 (aa n2) c2]),Rel.int z,Rel.val (.pointer (some ⟨w.heap.size,2,none⟩)),Rel.val (.slice s1 (ag en1) d1),⟨fun v W=>∃ p c s d,v=.agg #[.bool (ah n),.slice p (aa n) c,.slice s (ag dn) d]∧RN W (.slice p (aa n) c) (n).natAbs∧RN W (.slice s (ag dn) d) (dn),fun _ _ _ ⟨p,c,s,d,e,h0,h1⟩ hb=>⟨p,c,s,d,e,h0.below hb,h1.below hb⟩⟩]) (fun W=>Below W1.heap.size W1 W) (fun _ _=>True) (by kernel_rfl) (by kernel_rfl) (by kernel_rfl) trivial (Below.refl _ _).drew ?_ ?_
   · intro listed a W i hI hD hrd him
     obtain ⟨HI,HD,Hr⟩:=ai hI hD hrd;clear hI hrd hD;have y2:a.tmps[2]? = some (.pointer (some ⟨w.heap.size,0,none⟩)):=HI.out.rest 2 (by decide);have y3:a.tmps[3]? = some (.pointer (some ⟨w.heap.size+1,0,none⟩)):=HI.out.rest 3 (by decide);obtain ⟨dK10,dK11⟩:=aB (K1.out.below HI.out.world) rfl rfl;obtain ⟨dK20,dK21⟩:=aB (K2.out.below HI.out.world) rfl rfl;have dK12:=(K1.out.below HI.out.world).cell (i:=2) rfl;have X0:RV _ listed a 0 13 (.pointer (some ⟨w.heap.size,0,none⟩)):=HI.out.rh;have X2:RV _ listed a 2 15 (.pointer (some ⟨w.heap.size+1,0,none⟩)):=HI.out.rh;have X1:RV _ listed a 1 14 (.agg #[.bool (ah n1),.slice p1 (aa n1) c1]):=HI.out.rh;have X3:RV _ listed a 3 16 (.agg #[.bool (ah n2),.slice p2 (aa n2) c2]):=HI.out.rh;have X5:RV _ listed a 5 18 (.pointer (some ⟨w.heap.size,2,none⟩)):=HI.out.rh;have X6:RV _ listed a 6 19 (.slice s1 (ag en1) d1):=HI.out.rh
     match i,him,Hr with
     | 0,_,Hi =>
       refine ak rfl fun K' hK=>?_;go_simp;exact hK.out _ _ ⟨HI.out.pv Hi.out rfl,trivial⟩
     | 1,_,Hi =>
       have x0:=X0.g Hi.out (by kernel_rfl);refine ak rfl fun K' hK=>?_;go_simp;exact hK.out _ _ ⟨HI.out.pv Hi.out rfl,trivial⟩
     | 2,_,Hi =>
       refine ak rfl fun K' hK=>?_;go_simp;exact hK.out _ _ ⟨HI.out.pv Hi.out rfl,trivial⟩
     | 3,_,Hi =>
       have x2:=X2.g Hi.out (by kernel_rfl);refine ak rfl fun K' hK=>?_;go_simp;exact hK.out _ _ ⟨HI.out.pv Hi.out rfl,trivial⟩
     | 4,_,Hi =>
       have x1:=X1.g Hi.out (by kernel_rfl);have x3:=X3.g Hi.out (by kernel_rfl);refine ak rfl fun K' hK=>?_;go_simp;with_reducible refine(C1.out _ _ _ _ _ (R1.out.below HI.out.world) (R2.out.below HI.out.world)).mono ?_
       rintro e W' ⟨u04,u05,rfl,u06,hb⟩;exact hK.out _ _ ⟨HI.out.pc Hi.out hb ⟨u04,u05,rfl,u06⟩,trivial⟩
     | 5,_,Hi =>
       refine ak rfl fun K' hK=>?_;go_simp;exact hK.out _ _ ⟨HI.out.pv Hi.out rfl,trivial⟩
     | 6,_,Hi =>
       have x5:=X5.g Hi.out (by kernel_rfl);refine ak rfl fun K' hK=>?_;go_simp;exact hK.out _ _ ⟨HI.out.pv Hi.out rfl,trivial⟩
     | 7,_,Hi =>
       obtain⟨v',x4,u04,u05,e,u06⟩:=HI.out.at (i:=4) Hi.out (by kernel_rfl) (by decide);obtain rfl:=e;have x4:a.tmps[17]? = some (.agg #[.bool (ah z),.slice u04 (aa z) u05]):=x4;have u09:=hid u06;clear u06;have x6:=X6.g Hi.out (by kernel_rfl);refine ak rfl fun K' hK=>?_;go_simp;with_reducible refine(C3.out _ _ _ _ _ u09.out (T1.out.below HI.out.world)).mono ?_
       rintro e W' ⟨u00,u01,u02,u03,rfl,u07,u08,hb⟩;exact hK.out _ _ ⟨HI.out.pc Hi.out hb ⟨u00,u01,u02,u03,rfl,u07,u08⟩,trivial⟩
     | n+8,h,_=>exact absurd h (by omega)
   · intro listed a W hI hD hall
     obtain⟨v',x4,u04,u05,e,u06⟩:=hI.slots 4 (by decide) (hall 4 (by decide));obtain rfl:=e;have u09:=hid u06;clear u06;obtain⟨v',x7,u00,u01,u02,u03,e,u07,u08⟩:=hI.slots 7 (by decide) (hall 7 (by decide));obtain rfl:=e;have u0a:=hid u07;clear u07;have u0b:=hid u08;clear u08;have x7:a.tmps[20]? = some (.agg #[.bool (ah n),.slice u00 (aa n) u01,.slice u02 (ag dn) u03]):=x7;obtain ⟨HBW,HI,HA⟩:=ai hI.world hI hall;clear hI hall;obtain ⟨K3,HBX⟩:=aF (K3.out.below HBW.out) (HB1.out.trans (HBW.out.mono HB1.out.size));have RZ:=u09;have RQ:=u0a;have TQ:=u0b;have y4:a.tmps[4]? = some (.pointer (some ⟨w.heap.size+1+1,0,none⟩)):=HI.out.rest 4 (by decide);obtain ⟨dK30,dK31,dK32⟩:=aJ K3.out rfl rfl rfl;obtain ⟨fK30,fK31,fK32⟩:=bz K3.out;refine aS (t:=0) ?_;refine ak rfl fun K' hK=>?_;go_simp;refine hK.out _ _ ?_;clear hK;refine aY ?_;have s0:∀ {v':Value} {n':Nat},RN W v' n'→RN (storeAll W (w.heap.size+1+1) 0 [.bool (ah n),.slice u00 (aa n) u01,.slice u02 (ag dn) u03]) v' n':=fun h'=>aX _ h' K3.out (by simp[bW]) (by simp[bE]);exact⟨rfl,u04,u05,u00,u01,u02,u03,(HI.out.finx ⟨HI.out.sx HA.out 0,HI.out.sx HA.out 1,HI.out.sx HA.out 2,HI.out.sx HA.out 3,x4,HI.out.sx HA.out 5,HI.out.sx HA.out 6,x7,trivial⟩ rfl),(ax (l:=[.bool (ah n),.slice u00 (aa n) u01,.slice u02 (ag dn) u03]) (i:=0) (by omega) HBX.out),(bL (l:=[.bool (ah n),.slice u00 (aa n) u01,.slice u02 (ag dn) u03]) (i:=0) K3.out),(s0 RQ.out),(s0 TQ.out)⟩
 rintro a' W2 ⟨u04,u05,u00,u01,u02,u03,rfl,z0,z1,z2,z3⟩;obtain ⟨HB2,K3,RQ,TQ⟩:=aH z0 z1 z2 z3;clear z0 z1 z2 z3;simp only[putL,List.setIfInBounds_toArray,List.set_cons_zero,List.set_cons_succ];go_wp2;obtain ⟨dK30,dK31,dK32⟩:=aJ K3.out rfl rfl rfl;exact bodyPost_ret (v:=.agg #[.bool (ah n),.slice u00 (aa n) u01,.slice u02 (ag dn) u03]) (by simp[results,Tryz.results67,go_sem,dK30,dK31,dK32]) rfl ⟨_,_,_,_,rfl,RQ.out,TQ.out,HB2.out⟩
open Go.Lib (hid)
theorem z3k (n:Int)(en:Nat)(sn:ByteArray)(p1:Option Addr)(c1:Nat)(s1:Option Addr)(d1:Nat)(w:World)(h1:∀ p1 c1 W,RN W (.slice p1 (aa n) c1) n.natAbs→CR 52 #[.agg #[.bool (ah n),.slice p1 (aa n) c1]] W (.string sn))(h2:∀ s1 d1 W,RN W (.slice s1 (ag en) d1) en→CR 53 #[.slice s1 (ag en) d1] W (.string ⟨#[49]⟩))(r1:RN w (.slice p1 (aa n) c1) n.natAbs)(t1:RN w (.slice s1 (ag en) d1) en) :
 CR 27 #[.agg #[.bool (ah n),.slice p1 (aa n) c1,.slice s1 (ag en) d1]] w (.string sn):=by
 obtain ⟨C1,C2,R1,T1⟩:=aH h1 h2 r1 t1;clear h1 h2 r1 t1;go_enter Tryz.func27,Tryz.ntmps27
 go_upto_region 1 with fail
 refine au w [(#[.bool (ah n),.slice p1 (aa n) c1,.slice s1 (ag en) d1],53)] rfl ?_;rintro W0 ⟨k1,hb⟩;have HB0:=hid (show Below w.heap.size w W0 from hb);obtain ⟨R1,T1,K1⟩:=ai (R1.out.below HB0.out) (T1.out.below HB0.out) k1;clear k1 hb;obtain ⟨dK10,dK11⟩:=aB K1.out rfl rfl;go_wp2_with fail
 with_reducible refine(C1.out _ _ _ R1.out).mono ?_
 rintro e W1 ⟨rfl,hb⟩;clear dK10 dK11;have K1:=hid (K1.out.below hb);have T1:=hid (T1.out.below hb);have HB1:=hbt HB0 hb;clear hb;have dK12:=K1.out.cell (i:=2) rfl;go_wp2_with fail
 with_reducible refine(C2.out _ _ _ T1.out).mono ?_
 rintro e W2 ⟨rfl,hb⟩;clear dK12;have HB2:=hbt HB1 hb;clear hb;go_wp2;exact bodyPost_ret (v:=.string sn) (by simp[results,Tryz.results27,go_sem]) rfl ⟨rfl,HB2.out⟩
theorem z1C (n:Int)(en:Nat)(sn sd res:ByteArray)(hsd:(sd.toList==[49])=false)(hr:sn++(⟨#[47]⟩++sd)=res)(hl1:sn.size≤10000)(hl2:sd.size≤10000)(p1:Option Addr)(c1:Nat)(s1:Option Addr)(d1:Nat)(w:World)(h1:∀ p1 c1 W,RN W (.slice p1 (aa n) c1) n.natAbs→CR 52 #[.agg #[.bool (ah n),.slice p1 (aa n) c1]] W (.string sn))(h2:∀ s1 d1 W,RN W (.slice s1 (ag en) d1) en→CR 53 #[.slice s1 (ag en) d1] W (.string sd))(r1:RN w (.slice p1 (aa n) c1) n.natAbs)(t1:RN w (.slice s1 (ag en) d1) en) :
 CR 27 #[.agg #[.bool (ah n),.slice p1 (aa n) c1,.slice s1 (ag en) d1]] w (.string res):=by
 obtain ⟨C1,C2,R1,T1,HR,HL1,HL2⟩:=bP h1 h2 r1 t1 hr hl1 hl2;have k0:¬ sd.toList=[49]:=by simpa using hsd
 clear hr hl1 hl2 h1 h2 r1 t1;go_enter Tryz.func27,Tryz.ntmps27
 go_upto_region 1 with fail
 refine au w [(#[.bool (ah n),.slice p1 (aa n) c1,.slice s1 (ag en) d1],53)] rfl ?_;rintro W0 ⟨k1,hb⟩;have HB0:=hid (show Below w.heap.size w W0 from hb);obtain ⟨R1,T1,K1⟩:=ai (R1.out.below HB0.out) (T1.out.below HB0.out) k1;clear k1 hb;obtain ⟨dK10,dK11⟩:=aB K1.out rfl rfl;go_wp2_with fail
 with_reducible refine(C1.out _ _ _ R1.out).mono ?_
 rintro e W1 ⟨rfl,hb⟩;clear dK10 dK11;have K1:=hid (K1.out.below hb);have T1:=hid (T1.out.below hb);have HB1:=hbt HB0 hb;clear hb;have dK12:=K1.out.cell (i:=2) rfl;go_wp2_with fail
 with_reducible refine(C2.out _ _ _ T1.out).mono ?_
 rintro e W2 ⟨rfl,hb⟩;clear dK12;have HB2:=hbt HB1 hb;clear hb;have ha1:=run_string_add_sum (P:=Tryz.prog) W2 ⟨#[47]⟩ sd (by have:=HL2.out;have e:(⟨#[47]⟩:ByteArray).size=1:=rfl;omega);have ha2:=run_string_add_sum (P:=Tryz.prog) W2 sn (⟨#[47]⟩++sd) (by have:=HL1.out;have:=HL2.out;have e:(⟨#[47]⟩:ByteArray).size=1:=rfl;rw[ByteArray.size_append];omega);rw[HR.out]at ha2;go_wp2;exact bodyPost_ret (v:=.string res) (by simp[results,Tryz.results27,go_sem]) rfl ⟨rfl,HB2.out⟩
end Go.Proofs.YtlgkolkcokaefaaGreatDoor
