/- texts -/
import Derived.Test.YtkiklcbhglpooaaGreatDoorMz36q
open Go.Proofs.Tryz
namespace Go.Proofs.YtkiklcbhglpooaaGreatDoor
open Go.RowKit Go.Gb
structure QS where
 b:Bool
 a:Option Addr
 n:Nat
 c:Nat
 e:Option Addr
 m:Nat
 d:Nat
def FQ (W:World) (q:QS) (x:Rat):Prop:=q.b=ah x.num∧q.n=aa x.num∧q.m=ag x.den∧RN W (.slice q.a q.n q.c) x.num.natAbs∧RN W (.slice q.e q.m q.d) x.den
theorem FQ.below {W W':World}{q:QS}{x:Rat}(h:FQ W q x)(hb:Below W.heap.size W W'):FQ W' q x:=⟨h.1,h.2.1,h.2.2.1,h.2.2.2.1.below hb,h.2.2.2.2.below hb⟩
theorem bO {q:QS}{x:Rat}{g:Nat}{T:TypeId}(l:List Value)(i:Nat){w:World}{cs:Array Value}(h:FQ w q x)(hg:SBk w g cs T)(hn:bJ cs=true)(hl:l.all aW=true):FQ (storeAll w g i l) q x:=⟨h.1,h.2.1,h.2.2.1,mW l i h.2.2.2.1 hg hn hl,mW l i h.2.2.2.2 hg hn hl⟩
abbrev QS.l (q:QS):List Value:=[.bool q.b,.slice q.a q.n q.c,.slice q.e q.m q.d]
abbrev Lvv (qa qb qc:QS):List Value:=[.bool qa.b,.slice qa.a qa.n qa.c,.slice qa.e qa.m qa.d,.bool qb.b,.slice qb.a qb.n qb.c,.slice qb.e qb.m qb.d,.bool qc.b,.slice qc.a qc.n qc.c,.slice qc.e qc.m qc.d]
abbrev QS.v (q:QS):Value:=.agg #[.bool q.b,.slice q.a q.n q.c,.slice q.e q.m q.d]
abbrev Qvv (qa qb qc:QS):Value:=.agg #[.bool qa.b,.slice qa.a qa.n qa.c,.slice qa.e qa.m qa.d,.bool qb.b,.slice qb.a qb.n qb.c,.slice qb.e qb.m qb.d,.bool qc.b,.slice qc.a qc.n qc.c,.slice qc.e qc.m qc.d]
abbrev RQ (W:World) (x:Rat):Ending→World→Prop:=fun e w'=>∃ q:QS,e=.returned (.agg #[.bool q.b,.slice q.a q.n q.c,.slice q.e q.m q.d])∧FQ w' q x∧Below W.heap.size W w'
abbrev RQb (W:World) (x:Rat) (b:Bool):Ending→World→Prop:=fun e w'=>∃ q:QS,e=.returned (.tuple #[.agg #[.bool q.b,.slice q.a q.n q.c,.slice q.e q.m q.d],.bool b])∧FQ w' q x∧Below W.heap.size W w'
abbrev RF (W:World) (xa xb xc xd xe xf xg xh xi:Rat):Ending→World→Prop:=fun e w'=>∃ qa qb qc qd qe qf qg qh qi:QS,e=.returned (.tuple #[.agg #[.bool qa.b,.slice qa.a qa.n qa.c,.slice qa.e qa.m qa.d,.bool qb.b,.slice qb.a qb.n qb.c,.slice qb.e qb.m qb.d,.bool qc.b,.slice qc.a qc.n qc.c,.slice qc.e qc.m qc.d,.bool qd.b,.slice qd.a qd.n qd.c,.slice qd.e qd.m qd.d,.bool qe.b,.slice qe.a qe.n qe.c,.slice qe.e qe.m qe.d,.bool qf.b,.slice qf.a qf.n qf.c,.slice qf.e qf.m qf.d,.bool qg.b,.slice qg.a qg.n qg.c,.slice qg.e qg.m qg.d,.bool qh.b,.slice qh.a qh.n qh.c,.slice qh.e qh.m qh.d,.bool qi.b,.slice qi.a qi.n qi.c,.slice qi.e qi.m qi.d],.int .i64 0])∧FQ w' qa xa∧FQ w' qb xb∧FQ w' qc xc∧FQ w' qd xd∧FQ w' qe xe∧FQ w' qf xf∧FQ w' qg xg∧FQ w' qh xh∧FQ w' qi xi∧Below W.heap.size W w'
abbrev RQi (W:World) (x:Rat) (er:Int):Ending→World→Prop:=fun e w'=>∃ q:QS,e=.returned (.tuple #[.agg #[.bool q.b,.slice q.a q.n q.c,.slice q.e q.m q.d],.int .i64 er])∧FQ w' q x∧Below W.heap.size W w'
abbrev RP (W:World) (v:Value):Ending→World→Prop:=fun e w'=>e=.returned v∧Below W.heap.size W w'
abbrev KQ1 (f:Nat) (x0:Rat) (z:Rat):Prop:=∀ (q0:QS) (W:World),FQ W q0 x0→Calls Tryz.prog f #[.agg #[.bool q0.b,.slice q0.a q0.n q0.c,.slice q0.e q0.m q0.d]] W (RQ W z)
abbrev KQ2 (f:Nat) (x0 x1:Rat) (z:Rat):Prop:=∀ (q0 q1:QS) (W:World),FQ W q0 x0→FQ W q1 x1→Calls Tryz.prog f #[.agg #[.bool q0.b,.slice q0.a q0.n q0.c,.slice q0.e q0.m q0.d],.agg #[.bool q1.b,.slice q1.a q1.n q1.c,.slice q1.e q1.m q1.d]] W (RQ W z)
abbrev KP1 (f:Nat) (x0:Rat) (v:Value):Prop:=∀ (q0:QS) (W:World),FQ W q0 x0→Calls Tryz.prog f #[.agg #[.bool q0.b,.slice q0.a q0.n q0.c,.slice q0.e q0.m q0.d]] W (RP W v)
abbrev KP2 (f:Nat) (x0 x1:Rat) (v:Value):Prop:=∀ (q0 q1:QS) (W:World),FQ W q0 x0→FQ W q1 x1→Calls Tryz.prog f #[.agg #[.bool q0.b,.slice q0.a q0.n q0.c,.slice q0.e q0.m q0.d],.agg #[.bool q1.b,.slice q1.a q1.n q1.c,.slice q1.e q1.m q1.d]] W (RP W v)
abbrev KS (f:Nat) (v0:Value) (z:Rat):Prop:=∀ (W:World),Calls Tryz.prog f #[v0] W (RQ W z)
abbrev KSb (f:Nat) (v0:Value) (z:Rat) (b:Bool):Prop:=∀ (W:World),Calls Tryz.prog f #[v0] W (RQb W z b)
abbrev KSi (f:Nat) (v0:Value) (z:Rat) (er:Int):Prop:=∀ (W:World),Calls Tryz.prog f #[v0] W (RQi W z er)
abbrev KPs (f:Nat) (v0 v:Value):Prop:=∀ W:World,Calls Tryz.prog f #[v0] W (RP W v)
def Rel.q (x:Rat):Rel:=⟨fun v W=>∃ q:QS,v=q.v∧FQ W q x,fun _ _ _ ⟨q,e,h⟩ hb=>⟨q,e,h.below hb⟩⟩
section
variable {ops:Array Oper} {m:Nat} {sl:Nat→Nat} {L:List Rel} {a0:Act} {P:World→Prop} {w9:Array Bool} {a:Act} {w:World}
theorem qAt (h:RInv ops m sl (RelR L) a0 P w9 a w)(i d:Nat){j:Nat}{x:Rat}(hj:j∈Region.ready .any ops w9)(hw:Region.waitsFor .any ops j i=true)(hm:i<m:=by decide)(hd:sl i=d:=by rfl)(hR:L.getD i (Rel.val undef)=Rel.q x:=by rfl):∃ q:QS,a.tmps[d]? = some q.v∧Hid (FQ w q x):=by
 obtain⟨v,hv,hr⟩:=h.at hj hw hm;unfold RelR at hr
 rw[hR]at hr;obtain⟨q,rfl,hq⟩:=hr;exact⟨q,hd▸hv,Lib.hid hq⟩
theorem qEnd (h:RInv ops m sl (RelR L) a0 P w9 a w)(ww:∀ j,j<m→w9.getD j false=true)(i d:Nat){x:Rat}(hm:i<m:=by decide)(hd:sl i=d:=by rfl)(hR:L.getD i (Rel.val undef)=Rel.q x:=by rfl):∃ q:QS,a.tmps[d]? = some q.v∧Hid (FQ w q x):=by
 obtain⟨v,hv,hr⟩:=h.slots i hm (ww i hm);unfold RelR at hr
 rw[hR]at hr;obtain⟨q,rfl,hq⟩:=hr;exact⟨q,hd▸hv,Lib.hid hq⟩
end
theorem z6x {w:World}{g:Nat}{T:TypeId}{x0 x1:Value}(h:SBk w g #[x0,x1] T):w.cell? ⟨g,0,none⟩=some x0∧w.cell? ⟨g,1,none⟩=some x1:=⟨h.cell (i:=0) rfl,h.cell (i:=1) rfl⟩
theorem cells3 {w:World}{g:Nat}{T:TypeId}{x0 x1 x2:Value}(h:SBk w g #[x0,x1,x2] T):w.cell? ⟨g,0,none⟩=some x0∧w.cell? ⟨g,1,none⟩=some x1∧w.cell? ⟨g,2,none⟩=some x2:=⟨h.cell (i:=0) rfl,h.cell (i:=1) rfl,h.cell (i:=2) rfl⟩
theorem frz2 {w:World}{g:Nat}{T:TypeId}{x0 x1:Value}(h:SBk w g #[x0,x1] T):w.frozen? ⟨g,0,none⟩=false∧w.frozen? ⟨g,1,none⟩=false:=⟨h.frozen (i:=0),h.frozen (i:=1)⟩
theorem frz3 {w:World}{g:Nat}{T:TypeId}{x0 x1 x2:Value}(h:SBk w g #[x0,x1,x2] T):w.frozen? ⟨g,0,none⟩=false∧w.frozen? ⟨g,1,none⟩=false∧w.frozen? ⟨g,2,none⟩=false:=⟨h.frozen (i:=0),h.frozen (i:=1),h.frozen (i:=2)⟩
instance {W W':World}{q:QS}{x:Rat}:Gr (FQ W q x) W W' (FQ W' q x):=⟨fun h k=>k.below h⟩
end Go.Proofs.YtkiklcbhglpooaaGreatDoor
set_option maxRecDepth 100000
set_option maxHeartbeats 20000000
open Go.Lib (hid)
namespace Go.Proofs.YtkiklcbhglpooaaGreatDoor
open Go.RowKit Go.Gb
abbrev KBe (f:Nat) (x:Rat) (b:Bool):Prop:=∀ (q:QS) (W:World),FQ W q x→Calls Tryz.prog f #[.agg #[.bool q.b,.slice q.a q.n q.c,.slice q.e q.m q.d],.int .i64 (-1),.int .i64 1] W (RP W (.bool b))
theorem vH (x lo:Rat)(q1:QS)(w:World)  (h1:KS 27 (.int .i64 (-1)) lo)(h2:KP2 87 x lo (.int .i64 (-1)))(r1:FQ w q1 x) :
 CR 104 #[(QS.v q1),.int .i64 (-1),.int .i64 1] w (.bool false):=by
 dsimp only[QS.v];obtain ⟨C1,C2,R1⟩:=au h1 h2 r1;clear h1 h2 r1;go_enter func104,ntmps104
 go_upto_region 1 with fail
 refine ak w [(#[.bool q1.b,.slice q1.a q1.n q1.c,.slice q1.e q1.m q1.d],50)] rfl ?_;rintro W0 ⟨k1,hb⟩;have wm:=hid (show Below w.heap.size w W0 from hb);have R1:=hid (R1.o.below wm.o);have K1:=hid k1;clear k1 hb;go_wp2_with fail
 refine az (fun a0 a' V=>∃ (wu:QS),a'=⟨putL [(7,q1.v),(8,.int .i64 (-1)),(9,wu.v),(10,.int .i64 (-1)),(11,.bool false),(12,.bool false),(13,undef),(14,undef),(15,undef),(16,undef),(17,undef),(18,.bool false),(6,.bool false)] a0.tmps,a0.defers⟩∧Below w.heap.size w V) ?_ ?_
 · refine bK (by kernel_rfl) 13 0 (fun i=>[7,8,9,10,11,12,13,14,15,16,17,18,6].getD i 0) (RelR [Rel.val (q1.v),Rel.val (.int .i64 (-1)),Rel.q lo,Rel.val (.int .i64 (-1)),Rel.val (.bool false),Rel.val (.bool false),Rel.val (undef),Rel.val (undef),Rel.val (undef),Rel.val (undef),Rel.val (undef),Rel.val (.bool false),Rel.val (.bool false)]) (fun W=>Below W0.heap.size W0 W) (fun _ _=>True) (by kernel_rfl) (by kernel_rfl) (by kernel_rfl) trivial (Below.refl _ _).drew ?_ ?_
   · intro w9 a W i hI hD hrd him
     obtain ⟨HI,Hr⟩:=aD hI hrd;clear hI hrd hD;have y3:a.tmps[3]? = some (.pointer (some ⟨w.heap.size,0,none⟩)):=HI.o.rest 3 (by decide);have y1:a.tmps[1]? = some (.int .i64 (-1)):=HI.o.rest 1 (by decide);obtain⟨si,sj,sw⟩:=cells3 (K1.o.below HI.o.world);have X1:RV _ w9 a 1 8 (.int .i64 (-1)):=HI.o.rh;have X0:RV _ w9 a 0 7 (q1.v):=HI.o.rh;have X3:RV _ w9 a 3 10 (.int .i64 (-1)):=HI.o.rh;have X4:RV _ w9 a 4 11 (.bool false):=HI.o.rh;have X5:RV _ w9 a 5 12 (.bool false):=HI.o.rh;have X10:RV _ w9 a 10 17 (undef):=HI.o.rh;have X11:RV _ w9 a 11 18 (.bool false):=HI.o.rh
     match i,him,Hr with
     | 0,_,Hi|1,_,Hi|4,_,Hi|5,_,Hi|6,_,Hi|7,_,Hi|8,_,Hi|9,_,Hi|10,_,Hi|11,_,Hi|12,_,Hi =>
       try have x3:=X3.g Hi.o (by decide +kernel)
       try have x4:=X4.g Hi.o (by decide +kernel)
       try have x5:=X5.g Hi.o (by decide +kernel)
       try have x10:=X10.g Hi.o (by decide +kernel)
       try have x11:=X11.g Hi.o (by decide +kernel)
       refine aA rfl fun K' hK=>?_;go_simp;exact hK.o _ _ ⟨HI.o.pv Hi.o rfl,trivial⟩
     | 2,_,Hi =>
       have x1:=X1.g Hi.o (by kernel_rfl);refine aA rfl fun K' hK=>?_;go_simp;with_reducible refine(C1.o _).mono ?_
       rintro e W' ⟨wu,rfl,oV,hb⟩;exact hK.o _ _ ⟨HI.o.pc Hi.o hb ⟨wu,rfl,oV⟩,trivial⟩
     | 3,_,Hi =>
       have x0:=X0.g Hi.o (by kernel_rfl);obtain⟨wu,x2,p8⟩:=qAt HI.o 2 9 Hi.o (by kernel_rfl);refine aA rfl fun K' hK=>?_;go_simp;with_reducible refine(C2.o _ _ _ (R1.o.below HI.o.world) p8.o).mono ?_
       rintro e W' ⟨rfl,hb⟩;exact hK.o _ _ ⟨HI.o.pc Hi.o hb rfl,trivial⟩
     | n+13,h,_=>exact absurd h (by omega)
   · intro w9 a W hI hD ww
     obtain⟨wu,x2,p8⟩:=qEnd hI ww 2 9;obtain ⟨ma,HI,HA⟩:=au hI.world hI ww;clear hI ww;have mf:=hid (wm.o.trans (ma.o.mono wm.o.size));have RL:=p8;refine aV ?_;exact⟨rfl,wu,(HI.o.finx ⟨HI.o.sx HA.o 0,HI.o.sx HA.o 1,x2,HI.o.sx HA.o 3,HI.o.sx HA.o 4,HI.o.sx HA.o 5,HI.o.sx HA.o 6,HI.o.sx HA.o 7,HI.o.sx HA.o 8,HI.o.sx HA.o 9,HI.o.sx HA.o 10,HI.o.sx HA.o 11,HI.o.sx HA.o 12,trivial⟩ rfl),mf.o⟩
 rintro a' W1 ⟨wu,rfl,z0⟩;have wo:=hid z0;clear z0;simp only[putL,List.setIfInBounds_toArray,List.set_cons_zero,List.set_cons_succ];go_wp2;exact bodyPost_ret (v:=.bool false) (by simp[results,results104,go_sem]) rfl ⟨rfl,wo.o⟩
theorem vG (x lo hi:Rat)(k1 k2:Int)(b:Bool)(q1:QS)(w:World)(f1:decide (0≤k1)=true)(f2:decide (k2≤0)=b)(h1:KS 27 (.int .i64 (-1)) lo)(h2:KP2 87 x lo (.int .i64 k1))(h3:KS 27 (.int .i64 1) hi)(h4:KP2 87 x hi (.int .i64 k2))(r1:FQ w q1 x) :
 CR 104 #[(QS.v q1),.int .i64 (-1),.int .i64 1] w (.bool b):=by
 dsimp only[QS.v];obtain ⟨C1,C2,C3,C4,R1⟩:=bD h1 h2 h3 h4 r1;have g1:=f1;have g2:=f2;clear f1 f2 h1 h2 h3 h4 r1;go_enter func104,ntmps104
 go_upto_region 1 with fail
 refine ak w [(#[.bool q1.b,.slice q1.a q1.n q1.c,.slice q1.e q1.m q1.d],50)] rfl ?_;rintro W0 ⟨k1,hb⟩;have wm:=hid (show Below w.heap.size w W0 from hb);have R1:=hid (R1.o.below wm.o);have K1:=hid k1;clear k1 hb;go_wp2_with fail
 refine az (fun a0 a' V=>∃ (wu:QS) (pq:QS),a'=⟨putL [(7,q1.v),(8,.int .i64 (-1)),(9,wu.v),(10,.int .i64 k1),(11,.bool true),(12,.bool true),(13,q1.v),(14,.int .i64 1),(15,pq.v),(16,.int .i64 k2),(17,.bool b),(18,.bool b),(6,.bool b)] a0.tmps,a0.defers⟩∧Below w.heap.size w V) ?_ ?_
 · refine bK (by kernel_rfl) 13 0 (fun i=>[7,8,9,10,11,12,13,14,15,16,17,18,6].getD i 0) (RelR [Rel.val (q1.v),Rel.val (.int .i64 (-1)),Rel.q lo,Rel.val (.int .i64 k1),Rel.val (.bool true),Rel.val (.bool true),Rel.val (q1.v),Rel.val (.int .i64 1),Rel.q hi,Rel.val (.int .i64 k2),Rel.val (.bool b),Rel.val (.bool b),Rel.val (.bool b)]) (fun W=>Below W0.heap.size W0 W) (fun _ _=>True) (by kernel_rfl) (by kernel_rfl) (by kernel_rfl) trivial (Below.refl _ _).drew ?_ ?_
   · intro w9 a W i hI hD hrd him
     obtain ⟨HI,Hr⟩:=aD hI hrd;clear hI hrd hD;have y3:a.tmps[3]? = some (.pointer (some ⟨w.heap.size,0,none⟩)):=HI.o.rest 3 (by decide);have y1:a.tmps[1]? = some (.int .i64 (-1)):=HI.o.rest 1 (by decide);have y2:a.tmps[2]? = some (.int .i64 1):=HI.o.rest 2 (by decide);obtain⟨si,sj,sw⟩:=cells3 (K1.o.below HI.o.world);have X1:RV _ w9 a 1 8 (.int .i64 (-1)):=HI.o.rh;have X0:RV _ w9 a 0 7 (q1.v):=HI.o.rh;have X3:RV _ w9 a 3 10 (.int .i64 k1):=HI.o.rh;have X4:RV _ w9 a 4 11 (.bool true):=HI.o.rh;have X5:RV _ w9 a 5 12 (.bool true):=HI.o.rh;have X7:RV _ w9 a 7 14 (.int .i64 1):=HI.o.rh;have X6:RV _ w9 a 6 13 (q1.v):=HI.o.rh;have X9:RV _ w9 a 9 16 (.int .i64 k2):=HI.o.rh;have X10:RV _ w9 a 10 17 (.bool b):=HI.o.rh;have X11:RV _ w9 a 11 18 (.bool b):=HI.o.rh
     match i,him,Hr with
     | 0,_,Hi|1,_,Hi|4,_,Hi|5,_,Hi|6,_,Hi|7,_,Hi|10,_,Hi|11,_,Hi|12,_,Hi =>
       try have x3:=X3.g Hi.o (by decide +kernel)
       try have x4:=X4.g Hi.o (by decide +kernel)
       try have x5:=X5.g Hi.o (by decide +kernel)
       try have x9:=X9.g Hi.o (by decide +kernel)
       try have x10:=X10.g Hi.o (by decide +kernel)
       try have x11:=X11.g Hi.o (by decide +kernel)
       refine aA rfl fun K' hK=>?_;go_simp;exact hK.o _ _ ⟨HI.o.pv Hi.o rfl,trivial⟩
     | 2,_,Hi =>
       have x1:=X1.g Hi.o (by kernel_rfl);refine aA rfl fun K' hK=>?_;go_simp;with_reducible refine(C1.o _).mono ?_
       rintro e W' ⟨wu,rfl,oV,hb⟩;exact hK.o _ _ ⟨HI.o.pc Hi.o hb ⟨wu,rfl,oV⟩,trivial⟩
     | 3,_,Hi =>
       have x0:=X0.g Hi.o (by kernel_rfl);obtain⟨wu,x2,p8⟩:=qAt HI.o 2 9 Hi.o (by kernel_rfl);refine aA rfl fun K' hK=>?_;go_simp;with_reducible refine(C2.o _ _ _ (R1.o.below HI.o.world) p8.o).mono ?_
       rintro e W' ⟨rfl,hb⟩;exact hK.o _ _ ⟨HI.o.pc Hi.o hb rfl,trivial⟩
     | 8,_,Hi =>
       have x7:=X7.g Hi.o (by kernel_rfl);have x5:=X5.g Hi.o (by kernel_rfl);refine aA rfl fun K' hK=>?_;go_simp;with_reducible refine(C3.o _).mono ?_
       rintro e W' ⟨pq,rfl,kz,hb⟩;exact hK.o _ _ ⟨HI.o.pc Hi.o hb ⟨pq,rfl,kz⟩,trivial⟩
     | 9,_,Hi =>
       have x6:=X6.g Hi.o (by kernel_rfl);obtain⟨pq,x8,mi⟩:=qAt HI.o 8 15 Hi.o (by kernel_rfl);have x5:=X5.g Hi.o (by kernel_rfl);refine aA rfl fun K' hK=>?_;go_simp;with_reducible refine(C4.o _ _ _ (R1.o.below HI.o.world) mi.o).mono ?_
       rintro e W' ⟨rfl,hb⟩;exact hK.o _ _ ⟨HI.o.pc Hi.o hb rfl,trivial⟩
     | n+13,h,_=>exact absurd h (by omega)
   · intro w9 a W hI hD ww
     obtain⟨wu,x2,p8⟩:=qEnd hI ww 2 9;obtain⟨pq,x8,mi⟩:=qEnd hI ww 8 15;obtain ⟨ma,HI,HA⟩:=au hI.world hI ww;clear hI ww;have mf:=hid (wm.o.trans (ma.o.mono wm.o.size));have RL:=p8;have RH:=mi;refine aV ?_;exact⟨rfl,wu,pq,(HI.o.finx ⟨HI.o.sx HA.o 0,HI.o.sx HA.o 1,x2,HI.o.sx HA.o 3,HI.o.sx HA.o 4,HI.o.sx HA.o 5,HI.o.sx HA.o 6,HI.o.sx HA.o 7,x8,HI.o.sx HA.o 9,HI.o.sx HA.o 10,HI.o.sx HA.o 11,HI.o.sx HA.o 12,trivial⟩ rfl),mf.o⟩
 rintro a' W1 ⟨wu,pq,rfl,z0⟩;have wo:=hid z0;clear z0;simp only[putL,List.setIfInBounds_toArray,List.set_cons_zero,List.set_cons_succ];go_wp2;exact bodyPost_ret (v:=.bool b) (by simp[results,results104,go_sem]) rfl ⟨rfl,wo.o⟩
theorem z2x (t:ByteArray)(x:Rat)  (w:World)  (h1:KSb 28 (.string t) x false)  :
 Calls Tryz.prog 47 #[.string t] w (RQi w x (1)):=by
 have C1:=hid h1;clear h1;go_enter func47,ntmps47
 go_upto_region 1 with fail
 refine ak w [(#[.bool false,.slice none 0 0,.slice none 0 0],50)] rfl ?_;rintro W0 ⟨k1,hb⟩;have wm:=hid (show Below w.heap.size w W0 from hb);have K1:=hid k1;clear k1 hb;go_wp2_with fail
 with_reducible refine(C1.o _).mono ?_
 rintro e W1 ⟨u6,rfl,rV,hb⟩;have K1:=hid (K1.o.below hb);have wo:=hbt wm hb;have RX:=hid rV;clear hb rV;go_upto_region 2 with fail
 refine ak W1 [(#[.bool u6.b,.slice u6.a u6.n u6.c,.slice u6.e u6.m u6.d],50)] rfl ?_;have L1:=K1.o.lt;have L2:=wo.o.size;rintro W2 ⟨k2,hb⟩;have hb:Below W1.heap.size W1 W2:=hb;obtain ⟨K1,RX⟩:=aO hb K1 RX;have rM:=hbt wo hb;have K2:=hid k2;clear k2 hb;obtain ⟨pu,ol,oM⟩:=aC K2.o rfl rfl rfl;obtain ⟨si,sj,sw⟩:=aC K1.o rfl rfl rfl;obtain ⟨l6,lg,lv⟩:=bB K1.o;go_wp2;exact bodyPost_ret (v:=.tuple #[.agg #[.bool u6.b,.slice u6.a u6.n u6.c,.slice u6.e u6.m u6.d],.int .i64 1]) (by simp[results,results47,go_sem,si,sj,sw]) rfl ⟨_,rfl,(bO [.bool u6.b,.slice u6.a u6.n u6.c,.slice u6.e u6.m u6.d] 0 RX.o K1.o (by simp[bJ]) (by simp[aW])),(aj (l:=[.bool u6.b,.slice u6.a u6.n u6.c,.slice u6.e u6.m u6.d]) (i:=0) (by omega) rM.o)⟩
theorem z0i (t:ByteArray)(x:Rat)  (w:World)  (h1:KSb 28 (.string t) x true)(h2:KBe 104 x false)  :
 Calls Tryz.prog 47 #[.string t] w (RQi w x (2)):=by
 have C1:=hid h1;have C2:=hid h2;clear h1 h2;go_enter func47,ntmps47
 go_upto_region 1 with fail
 refine ak w [(#[.bool false,.slice none 0 0,.slice none 0 0],50)] rfl ?_;rintro W0 ⟨k1,hb⟩;have wm:=hid (show Below w.heap.size w W0 from hb);have K1:=hid k1;clear k1 hb;go_wp2_with fail
 with_reducible refine(C1.o _).mono ?_
 rintro e W1 ⟨u6,rfl,rV,hb⟩;have K1:=hid (K1.o.below hb);have wo:=hbt wm hb;have RX:=hid rV;clear hb rV;go_upto_region 2 with fail
 refine ak W1 [(#[.bool u6.b,.slice u6.a u6.n u6.c,.slice u6.e u6.m u6.d],50)] rfl ?_;have L1:=K1.o.lt;have L2:=wo.o.size;rintro W2 ⟨k2,hb⟩;have hb:Below W1.heap.size W1 W2:=hb;obtain ⟨K1,RX⟩:=aO hb K1 RX;have rM:=hbt wo hb;have K2:=hid k2;clear k2 hb;obtain ⟨pu,ol,oM⟩:=aC K2.o rfl rfl rfl;go_wp2_with fail
 with_reducible refine(C2.o _ _ RX.o).mono ?_
 rintro e W3 ⟨rfl,hb⟩;clear pu ol oM;obtain ⟨K1,K2,RX⟩:=bA hb K1 K2 RX;have l5:=hbt rM hb;clear hb;obtain ⟨pu,ol,oM⟩:=aC K2.o rfl rfl rfl;obtain ⟨si,sj,sw⟩:=aC K1.o rfl rfl rfl;obtain ⟨l6,lg,lv⟩:=bB K1.o;go_wp2;exact bodyPost_ret (v:=.tuple #[.agg #[.bool u6.b,.slice u6.a u6.n u6.c,.slice u6.e u6.m u6.d],.int .i64 2]) (by simp[results,results47,go_sem,si,sj,sw]) rfl ⟨_,rfl,(bO [.bool u6.b,.slice u6.a u6.n u6.c,.slice u6.e u6.m u6.d] 0 RX.o K1.o (by simp[bJ]) (by simp[aW])),(aj (l:=[.bool u6.b,.slice u6.a u6.n u6.c,.slice u6.e u6.m u6.d]) (i:=0) (by omega) l5.o)⟩
theorem z2w (t:ByteArray)(x:Rat)  (w:World)  (h1:KSb 28 (.string t) x true)(h2:KBe 104 x true)  :
 Calls Tryz.prog 47 #[.string t] w (RQi w x (0)):=by
 have C1:=hid h1;have C2:=hid h2;clear h1 h2;go_enter func47,ntmps47
 go_upto_region 1 with fail
 refine ak w [(#[.bool false,.slice none 0 0,.slice none 0 0],50)] rfl ?_;rintro W0 ⟨k1,hb⟩;have wm:=hid (show Below w.heap.size w W0 from hb);have K1:=hid k1;clear k1 hb;go_wp2_with fail
 with_reducible refine(C1.o _).mono ?_
 rintro e W1 ⟨u6,rfl,rV,hb⟩;have K1:=hid (K1.o.below hb);have wo:=hbt wm hb;have RX:=hid rV;clear hb rV;go_upto_region 2 with fail
 refine ak W1 [(#[.bool u6.b,.slice u6.a u6.n u6.c,.slice u6.e u6.m u6.d],50)] rfl ?_;have L1:=K1.o.lt;have L2:=wo.o.size;rintro W2 ⟨k2,hb⟩;have hb:Below W1.heap.size W1 W2:=hb;obtain ⟨K1,RX⟩:=aO hb K1 RX;have rM:=hbt wo hb;have K2:=hid k2;clear k2 hb;obtain ⟨pu,ol,oM⟩:=aC K2.o rfl rfl rfl;go_wp2_with fail
 with_reducible refine(C2.o _ _ RX.o).mono ?_
 rintro e W3 ⟨rfl,hb⟩;clear pu ol oM;obtain ⟨K1,K2,RX⟩:=bA hb K1 K2 RX;have l5:=hbt rM hb;clear hb;obtain ⟨pu,ol,oM⟩:=aC K2.o rfl rfl rfl;obtain ⟨si,sj,sw⟩:=aC K1.o rfl rfl rfl;obtain ⟨l6,lg,lv⟩:=bB K1.o;go_wp2;exact bodyPost_ret (v:=.tuple #[.agg #[.bool u6.b,.slice u6.a u6.n u6.c,.slice u6.e u6.m u6.d],.int .i64 0]) (by simp[results,results47,go_sem,si,sj,sw]) rfl ⟨_,rfl,(bO [.bool u6.b,.slice u6.a u6.n u6.c,.slice u6.e u6.m u6.d] 0 RX.o K1.o (by simp[bJ]) (by simp[aW])),(aj (l:=[.bool u6.b,.slice u6.a u6.n u6.c,.slice u6.e u6.m u6.d]) (i:=0) (by omega) l5.o)⟩
end Go.Proofs.YtkiklcbhglpooaaGreatDoor
namespace Go.Gb
open Go Go.RowKit
theorem SBk.row {w:World}{g:Nat}{cs:Array Value}{T:TypeId}(h:SBk w g cs T)(ds:Array Value):SBk (w.setRow g ds) g ds T:=setRow_heap w g cs ds T (0,0) h
end Go.Gb
namespace Go.Proofs.YtkiklcbhglpooaaGreatDoor
open Go.RowKit Go.Gb
set_option linter.unusedSimpArgs false
set_option linter.unusedVariables false
abbrev KI2 (f:Nat) (x y:Rat) (v:Value):Prop:=∀ (qa qb:QS) (W:World),FQ W qa x→FQ W qb y→Calls Tryz.prog f #[.agg #[.bool qa.b,.slice qa.a qa.n qa.c,.slice qa.e qa.m qa.d,.bool qb.b,.slice qb.a qb.n qb.c,.slice qb.e qb.m qb.d]] W (RP W v)
abbrev Qii (qa qb:QS):Value:=.agg #[.bool qa.b,.slice qa.a qa.n qa.c,.slice qa.e qa.m qa.d,.bool qb.b,.slice qb.a qb.n qb.c,.slice qb.e qb.m qb.d]
def Rel.qi (x y:Rat):Rel:=⟨fun v W=>∃ q r:QS,v=Qii q r∧FQ W q x∧FQ W r y,fun _ _ _ ⟨q,r,e,h,k⟩ hb=>⟨q,r,e,h.below hb,k.below hb⟩⟩
section
variable {ops:Array Oper} {m:Nat} {sl:Nat→Nat} {L:List Rel} {a0:Act} {P:World→Prop} {w9:Array Bool} {a:Act} {w:World}
theorem qAti (h:RInv ops m sl (RelR L) a0 P w9 a w)(i d:Nat){j:Nat}{x y:Rat}(hj:j∈Region.ready .any ops w9)(hw:Region.waitsFor .any ops j i=true)(hm:i<m:=by decide)(hd:sl i=d:=by rfl)(hR:L.getD i (Rel.val undef)=Rel.qi x y:=by rfl):∃ q r:QS,a.tmps[d]? = some (Qii q r)∧Hid (FQ w q x)∧Hid (FQ w r y):=by
 obtain⟨v,hv,hr⟩:=h.at hj hw hm;unfold RelR at hr
 rw[hR]at hr;obtain⟨q,r,rfl,hq,hr⟩:=hr;exact⟨q,r,hd▸hv,Lib.hid hq,Lib.hid hr⟩
theorem iO (h:RInv ops m sl (RelR L) a0 P w9 a w)(ww:∀ j,j<m→w9.getD j false=true)(i d:Nat){x y:Rat}(hm:i<m:=by decide)(hd:sl i=d:=by rfl)(hR:L.getD i (Rel.val undef)=Rel.qi x y:=by rfl):∃ q r:QS,a.tmps[d]? = some (Qii q r)∧Hid (FQ w q x)∧Hid (FQ w r y):=by
 obtain⟨v,hv,hr⟩:=h.slots i hm (ww i hm);unfold RelR at hr
 rw[hR]at hr;obtain⟨q,r,rfl,hq,hr⟩:=hr;exact⟨q,r,hd▸hv,Lib.hid hq,Lib.hid hr⟩
end
theorem kq2 {f:Nat}{x y z:Rat}(h:∀ p1 c1 s1 d1 p2 c2 s2 d2 W,RN W (.slice p1 (aa x.num) c1) x.num.natAbs→RN W (.slice s1 (ag x.den) d1) x.den→RN W (.slice p2 (aa y.num) c2) y.num.natAbs→RN W (.slice s2 (ag y.den) d2) y.den→Calls Tryz.prog f #[.agg #[.bool (ah x.num),.slice p1 (aa x.num) c1,.slice s1 (ag x.den) d1],.agg #[.bool (ah y.num),.slice p2 (aa y.num) c2,.slice s2 (ag y.den) d2]] W fun e w'=>∃ p c s d,e=.returned (.agg #[.bool (ah z.num),.slice p (aa z.num) c,.slice s (ag z.den) d])∧RN w' (.slice p (aa z.num) c) z.num.natAbs∧RN w' (.slice s (ag z.den) d) z.den∧Below W.heap.size W w'):KQ2 f x y z:=by
 rintro⟨b,a,n,c,e,m,d⟩ ⟨b',a',n',c',e',m',d'⟩ W ⟨h1,h2,h3,h4,h5⟩ ⟨k1,k2,k3,k4,k5⟩
 dsimp only at *;subst h1 h2 h3 k1 k2 k3;exact(h _ _ _ _ _ _ _ _ W h4 h5 k4 k5).mono fun _ _ ⟨p,c,s,d,he,hr,ht,hb⟩=>⟨⟨_,p,_,c,s,_,d⟩,he,⟨rfl,rfl,rfl,hr,ht⟩,hb⟩
theorem kq1 {f:Nat}{x z:Rat}(h:∀ p1 c1 s1 d1 W,RN W (.slice p1 (aa x.num) c1) x.num.natAbs→RN W (.slice s1 (ag x.den) d1) x.den→Calls Tryz.prog f #[.agg #[.bool (ah x.num),.slice p1 (aa x.num) c1,.slice s1 (ag x.den) d1]] W fun e w'=>∃ p c s d,e=.returned (.agg #[.bool (ah z.num),.slice p (aa z.num) c,.slice s (ag z.den) d])∧RN w' (.slice p (aa z.num) c) z.num.natAbs∧RN w' (.slice s (ag z.den) d) z.den∧Below W.heap.size W w'):KQ1 f x z:=by
 rintro⟨b,a,n,c,e,m,d⟩ W ⟨h1,h2,h3,h4,h5⟩
 dsimp only at *;subst h1 h2 h3;exact(h _ _ _ _ W h4 h5).mono fun _ _ ⟨p,c,s,d,he,hr,ht,hb⟩=>⟨⟨_,p,_,c,s,_,d⟩,he,⟨rfl,rfl,rfl,hr,ht⟩,hb⟩
theorem kp2 {f:Nat}{x y:Rat}{v:Value}(h:∀ p1 c1 s1 d1 p2 c2 s2 d2 W,RN W (.slice p1 (aa x.num) c1) x.num.natAbs→RN W (.slice s1 (ag x.den) d1) x.den→RN W (.slice p2 (aa y.num) c2) y.num.natAbs→RN W (.slice s2 (ag y.den) d2) y.den→Calls Tryz.prog f #[.agg #[.bool (ah x.num),.slice p1 (aa x.num) c1,.slice s1 (ag x.den) d1],.agg #[.bool (ah y.num),.slice p2 (aa y.num) c2,.slice s2 (ag y.den) d2]] W fun e w'=>e=.returned v∧Below W.heap.size W w'):KP2 f x y v:=by
 rintro⟨b,a,n,c,e,m,d⟩ ⟨b',a',n',c',e',m',d'⟩ W ⟨h1,h2,h3,h4,h5⟩ ⟨k1,k2,k3,k4,k5⟩
 dsimp only at *;subst h1 h2 h3 k1 k2 k3;exact h _ _ _ _ _ _ _ _ W h4 h5 k4 k5
theorem kp1 {f:Nat}{x:Rat}{v:Value}(h:∀ p1 c1 s1 d1 W,RN W (.slice p1 (aa x.num) c1) x.num.natAbs→RN W (.slice s1 (ag x.den) d1) x.den→Calls Tryz.prog f #[.agg #[.bool (ah x.num),.slice p1 (aa x.num) c1,.slice s1 (ag x.den) d1]] W fun e w'=>e=.returned v∧Below W.heap.size W w'):KP1 f x v:=by
 rintro⟨b,a,n,c,e,m,d⟩ W ⟨h1,h2,h3,h4,h5⟩
 dsimp only at *;subst h1 h2 h3;exact h _ _ _ _ W h4 h5
theorem ks {f:Nat}{v:Value}{z:Rat}(h:∀ W,Calls Tryz.prog f #[v] W fun e w'=>∃ p c s d,e=.returned (.agg #[.bool (ah z.num),.slice p (aa z.num) c,.slice s (ag z.den) d])∧RN w' (.slice p (aa z.num) c) z.num.natAbs∧RN w' (.slice s (ag z.den) d) z.den∧Below W.heap.size W w'):KS f v z:=fun W=>(h W).mono fun _ _ ⟨p,c,s,d,he,hr,ht,hb⟩=>⟨⟨_,p,_,c,s,_,d⟩,he,⟨rfl,rfl,rfl,hr,ht⟩,hb⟩
theorem ksb {f:Nat}{v:Value}{z:Rat}{b:Bool}(h:∀ W,Calls Tryz.prog f #[v] W fun e w'=>∃ p c s d,e=.returned (.tuple #[.agg #[.bool (ah z.num),.slice p (aa z.num) c,.slice s (ag z.den) d],.bool b])∧RN w' (.slice p (aa z.num) c) z.num.natAbs∧RN w' (.slice s (ag z.den) d) z.den∧Below W.heap.size W w'):KSb f v z b:=fun W=>(h W).mono fun _ _ ⟨p,c,s,d,he,hr,ht,hb⟩=>⟨⟨_,p,_,c,s,_,d⟩,he,⟨rfl,rfl,rfl,hr,ht⟩,hb⟩
end Go.Proofs.YtkiklcbhglpooaaGreatDoor
open Go.Lib (hid)
namespace Go.Proofs.YtkiklcbhglpooaaGreatDoor
open Go.RowKit Go.Gb
theorem z5a (n:Int)(en:Nat)(sn:ByteArray)(p1:Option Addr)(c1:Nat)(s1:Option Addr)(d1:Nat)(w:World)(h1:∀ p1 c1 W,RN W (.slice p1 (aa n) c1) n.natAbs→CR 129 #[.agg #[.bool (ah n),.slice p1 (aa n) c1]] W (.string sn))(h2:∀ s1 d1 W,RN W (.slice s1 (ag en) d1) en→CR 130 #[.slice s1 (ag en) d1] W (.string ⟨#[49]⟩))(r1:RN w (.slice p1 (aa n) c1) n.natAbs)(t1:RN w (.slice s1 (ag en) d1) en) :
 CR 81 #[.agg #[.bool (ah n),.slice p1 (aa n) c1,.slice s1 (ag en) d1]] w (.string sn):=by
 obtain ⟨C1,C2,R1,T1⟩:=aM h1 h2 r1 t1;clear h1 h2 r1 t1;go_enter func81,ntmps81
 go_upto_region 1 with fail
 refine ak w [(#[.bool (ah n),.slice p1 (aa n) c1,.slice s1 (ag en) d1],50)] rfl ?_;rintro W0 ⟨k1,hb⟩;have wm:=hid (show Below w.heap.size w W0 from hb);obtain ⟨R1,T1⟩:=aO wm.o R1 T1;have K1:=Lib.hid k1;clear k1 hb;obtain ⟨si,sj⟩:=ay K1.o rfl rfl;go_wp2_with fail
 with_reducible refine(C1.o _ _ _ R1.o).mono ?_
 rintro e W1 ⟨rfl,hb⟩;clear si sj;obtain ⟨K1,T1⟩:=aO hb K1 T1;have wo:=hbt wm hb;clear hb;have sw:=K1.o.cell (i:=2) rfl;go_wp2_with fail
 with_reducible refine(C2.o _ _ _ T1.o).mono ?_
 rintro e W2 ⟨rfl,hb⟩;clear sw;have rM:=hbt wo hb;clear hb;go_wp2;exact bodyPost_ret (v:=.string sn) (by simp[results,results81,go_sem]) rfl ⟨rfl,rM.o⟩
theorem z2U (n:Int)(en:Nat)(sn sd res:ByteArray)(hsd:(sd.toList==[49])=false)(hr:sn++(⟨#[47]⟩++sd)=res)(hl1:sn.size≤10000)(hl2:sd.size≤10000)(p1:Option Addr)(c1:Nat)(s1:Option Addr)(d1:Nat)(w:World)(h1:∀ p1 c1 W,RN W (.slice p1 (aa n) c1) n.natAbs→CR 129 #[.agg #[.bool (ah n),.slice p1 (aa n) c1]] W (.string sn))(h2:∀ s1 d1 W,RN W (.slice s1 (ag en) d1) en→CR 130 #[.slice s1 (ag en) d1] W (.string sd))(r1:RN w (.slice p1 (aa n) c1) n.natAbs)(t1:RN w (.slice s1 (ag en) d1) en) :
 CR 81 #[.agg #[.bool (ah n),.slice p1 (aa n) c1,.slice s1 (ag en) d1]] w (.string res):=by
 obtain ⟨C1,C2,R1,T1,HR,HL1,HL2⟩:=dQ h1 h2 r1 t1 hr hl1 hl2;have k0:¬ sd.toList=[49]:=by simpa using hsd
 clear hr hl1 hl2 h1 h2 r1 t1;go_enter func81,ntmps81
 go_upto_region 1 with fail
 refine ak w [(#[.bool (ah n),.slice p1 (aa n) c1,.slice s1 (ag en) d1],50)] rfl ?_;rintro W0 ⟨k1,hb⟩;have wm:=hid (show Below w.heap.size w W0 from hb);obtain ⟨R1,T1⟩:=aO wm.o R1 T1;have K1:=Lib.hid k1;clear k1 hb;obtain ⟨si,sj⟩:=ay K1.o rfl rfl;go_wp2_with fail
 with_reducible refine(C1.o _ _ _ R1.o).mono ?_
 rintro e W1 ⟨rfl,hb⟩;clear si sj;obtain ⟨K1,T1⟩:=aO hb K1 T1;have wo:=hbt wm hb;clear hb;have sw:=K1.o.cell (i:=2) rfl;go_wp2_with fail
 with_reducible refine(C2.o _ _ _ T1.o).mono ?_
 rintro e W2 ⟨rfl,hb⟩;clear sw;have rM:=hbt wo hb;clear hb;have ha1:=run_string_add_sum (P:=Tryz.prog) W2 ⟨#[47]⟩ sd (by have:=HL2.o;have e:(⟨#[47]⟩:ByteArray).size=1:=rfl;omega);have ha2:=run_string_add_sum (P:=Tryz.prog) W2 sn (⟨#[47]⟩++sd) (by have:=HL1.o;have:=HL2.o;have e:(⟨#[47]⟩:ByteArray).size=1:=rfl;rw[ByteArray.size_append];omega);rw[HR.o]at ha2;go_wp2;exact bodyPost_ret (v:=.string res) (by simp[results,results81,go_sem]) rfl ⟨rfl,rM.o⟩
