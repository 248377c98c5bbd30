/- texts -/
import Derived.Test.YtiiedknabcebdaaGreatDoorMz37q
namespace Go.Proofs.YtiiedknabcebdaaGreatDoor
open Go.RowKit Go.Gb
structure QS where
 b:Bool
 a:Option Addr
 n:Nat
 c:Nat
 e:Option Addr
 m:Nat
 d:Nat
def FQ (W:World) (q:QS) (x:Rat):Prop:=q.b=ak x.num∧q.n=ag x.num∧q.m=ah x.den∧RN W (.slice q.a q.n q.c) x.num.natAbs∧RN W (.slice q.e q.m q.d) x.den
theorem FQ.below {W W':World}{q:QS}{x:Rat}(h:FQ W q x)(hb:Below W.heap.size W W'):FQ W' q x:=⟨h.1,h.2.1,h.2.2.1,h.2.2.2.1.below hb,h.2.2.2.2.below hb⟩
theorem dB {q:QS}{x:Rat}{g:Nat}{T:TypeId}(l:List Value)(i:Nat){w:World}{cs:Array Value}(h:FQ w q x)(hg:SBk w g cs T)(hn:cu cs=true)(hl:l.all bG=true):FQ (storeAll w g i l) q x:=⟨h.1,h.2.1,h.2.2.1,mD l i h.2.2.2.1 hg hn hl,mD l i h.2.2.2.2 hg hn hl⟩
abbrev QS.l (q:QS):List Value:=[.bool q.b,.slice q.a q.n q.c,.slice q.e q.m q.d]
abbrev Lvv (qa qb qc:QS):List Value:=[.bool qa.b,.slice qa.a qa.n qa.c,.slice qa.e qa.m qa.d,.bool qb.b,.slice qb.a qb.n qb.c,.slice qb.e qb.m qb.d,.bool qc.b,.slice qc.a qc.n qc.c,.slice qc.e qc.m qc.d]
abbrev QS.v (q:QS):Value:=.agg #[.bool q.b,.slice q.a q.n q.c,.slice q.e q.m q.d]
abbrev Qvv (qa qb qc:QS):Value:=.agg #[.bool qa.b,.slice qa.a qa.n qa.c,.slice qa.e qa.m qa.d,.bool qb.b,.slice qb.a qb.n qb.c,.slice qb.e qb.m qb.d,.bool qc.b,.slice qc.a qc.n qc.c,.slice qc.e qc.m qc.d]
abbrev RQ (W:World) (x:Rat):Ending→World→Prop:=fun e w'=>∃ q:QS,e=.returned (.agg #[.bool q.b,.slice q.a q.n q.c,.slice q.e q.m q.d])∧FQ w' q x∧Below W.heap.size W w'
abbrev RQb (W:World) (x:Rat) (b:Bool):Ending→World→Prop:=fun e w'=>∃ q:QS,e=.returned (.tuple #[.agg #[.bool q.b,.slice q.a q.n q.c,.slice q.e q.m q.d],.bool b])∧FQ w' q x∧Below W.heap.size W w'
abbrev RVb (W:World) (xa xb xc:Rat) (b:Bool):Ending→World→Prop:=fun e w'=>∃ qa qb qc:QS,e=.returned (.tuple #[.agg #[.bool qa.b,.slice qa.a qa.n qa.c,.slice qa.e qa.m qa.d,.bool qb.b,.slice qb.a qb.n qb.c,.slice qb.e qb.m qb.d,.bool qc.b,.slice qc.a qc.n qc.c,.slice qc.e qc.m qc.d],.bool b])∧FQ w' qa xa∧FQ w' qb xb∧FQ w' qc xc∧Below W.heap.size W w'
abbrev RP (W:World) (v:Value):Ending→World→Prop:=fun e w'=>e=.returned v∧Below W.heap.size W w'
abbrev KQ2 (f:Nat) (x0 x1:Rat) (z:Rat):Prop:=∀ (q0 q1:QS) (W:World),FQ W q0 x0→FQ W q1 x1→Calls Tryz.prog f #[.agg #[.bool q0.b,.slice q0.a q0.n q0.c,.slice q0.e q0.m q0.d],.agg #[.bool q1.b,.slice q1.a q1.n q1.c,.slice q1.e q1.m q1.d]] W (RQ W z)
abbrev KP1 (f:Nat) (x0:Rat) (v:Value):Prop:=∀ (q0:QS) (W:World),FQ W q0 x0→Calls Tryz.prog f #[.agg #[.bool q0.b,.slice q0.a q0.n q0.c,.slice q0.e q0.m q0.d]] W (RP W v)
abbrev KP2 (f:Nat) (x0 x1:Rat) (v:Value):Prop:=∀ (q0 q1:QS) (W:World),FQ W q0 x0→FQ W q1 x1→Calls Tryz.prog f #[.agg #[.bool q0.b,.slice q0.a q0.n q0.c,.slice q0.e q0.m q0.d],.agg #[.bool q1.b,.slice q1.a q1.n q1.c,.slice q1.e q1.m q1.d]] W (RP W v)
abbrev KS (f:Nat) (v0:Value) (z:Rat):Prop:=∀ (W:World),Calls Tryz.prog f #[v0] W (RQ W z)
abbrev KSb (f:Nat) (v0:Value) (z:Rat) (b:Bool):Prop:=∀ (W:World),Calls Tryz.prog f #[v0] W (RQb W z b)
abbrev KVb (f:Nat) (v0:Value) (xa xb xc:Rat) (b:Bool):Prop:=∀ (W:World),Calls Tryz.prog f #[v0] W (RVb W xa xb xc b)
abbrev KDot (f:Nat) (x0a x0b x0c x1a x1b x1c:Rat) (z:Rat):Prop:=∀ (q0a q0b q0c q1a q1b q1c:QS) (W:World),FQ W q0a x0a→FQ W q0b x0b→FQ W q0c x0c→FQ W q1a x1a→FQ W q1b x1b→FQ W q1c x1c→Calls Tryz.prog f #[.agg #[.bool q0a.b,.slice q0a.a q0a.n q0a.c,.slice q0a.e q0a.m q0a.d,.bool q0b.b,.slice q0b.a q0b.n q0b.c,.slice q0b.e q0b.m q0b.d,.bool q0c.b,.slice q0c.a q0c.n q0c.c,.slice q0c.e q0c.m q0c.d],.agg #[.bool q1a.b,.slice q1a.a q1a.n q1a.c,.slice q1a.e q1a.m q1a.d,.bool q1b.b,.slice q1b.a q1b.n q1b.c,.slice q1b.e q1b.m q1b.d,.bool q1c.b,.slice q1c.a q1c.n q1c.c,.slice q1c.e q1c.m q1c.d]] W (RQ W z)
def Rel.q (x:Rat):Rel:=⟨fun v W=>∃ q:QS,v=q.v∧FQ W q x,fun _ _ _ ⟨q,e,h⟩ hb=>⟨q,e,h.below hb⟩⟩
section
variable {ops:Array Oper} {m:Nat} {sl:Nat→Nat} {L:List Rel} {a0:Act} {P:World→Prop} {ol:Array Bool} {a:Act} {w:World}
theorem qAt (h:RInv ops m sl (RelR L) a0 P ol a w)(i d:Nat){j:Nat}{x:Rat}(hj:j∈Region.ready .any ops ol)(hw:Region.waitsFor .any ops j i=true)(hm:i<m:=by decide)(hd:sl i=d:=by rfl)(hR:L.getD i (Rel.val undef)=Rel.q x:=by rfl):∃ q:QS,a.tmps[d]? = some q.v∧Hid (FQ w q x):=by
 obtain⟨v,hv,hr⟩:=h.at hj hw hm;unfold RelR at hr
 rw[hR]at hr;obtain⟨q,rfl,hq⟩:=hr;exact⟨q,hd▸hv,Lib.hid hq⟩
theorem qEnd (h:RInv ops m sl (RelR L) a0 P ol a w)(u0d:∀ j,j<m→ol.getD j false=true)(i d:Nat){x:Rat}(hm:i<m:=by decide)(hd:sl i=d:=by rfl)(hR:L.getD i (Rel.val undef)=Rel.q x:=by rfl):∃ q:QS,a.tmps[d]? = some q.v∧Hid (FQ w q x):=by
 obtain⟨v,hv,hr⟩:=h.slots i hm (u0d i hm);unfold RelR at hr
 rw[hR]at hr;obtain⟨q,rfl,hq⟩:=hr;exact⟨q,hd▸hv,Lib.hid hq⟩
end
theorem z4h {w:World}{g:Nat}{T:TypeId}{x0 x1:Value}(h:SBk w g #[x0,x1] T):w.cell? ⟨g,0,none⟩=some x0∧w.cell? ⟨g,1,none⟩=some x1:=⟨h.cell (i:=0) rfl,h.cell (i:=1) rfl⟩
theorem cells3 {w:World}{g:Nat}{T:TypeId}{x0 x1 x2:Value}(h:SBk w g #[x0,x1,x2] T):w.cell? ⟨g,0,none⟩=some x0∧w.cell? ⟨g,1,none⟩=some x1∧w.cell? ⟨g,2,none⟩=some x2:=⟨h.cell (i:=0) rfl,h.cell (i:=1) rfl,h.cell (i:=2) rfl⟩
theorem z2K {w:World}{g:Nat}{T:TypeId}{x0 x1 x2 x3 x4 x5 x6 x7 x8:Value}(h:SBk w g #[x0,x1,x2,x3,x4,x5,x6,x7,x8] T):w.cell? ⟨g,0,none⟩=some x0∧w.cell? ⟨g,1,none⟩=some x1∧w.cell? ⟨g,2,none⟩=some x2∧w.cell? ⟨g,3,none⟩=some x3∧w.cell? ⟨g,4,none⟩=some x4∧w.cell? ⟨g,5,none⟩=some x5∧w.cell? ⟨g,6,none⟩=some x6∧w.cell? ⟨g,7,none⟩=some x7∧w.cell? ⟨g,8,none⟩=some x8:=⟨h.cell (i:=0) rfl,h.cell (i:=1) rfl,h.cell (i:=2) rfl,h.cell (i:=3) rfl,h.cell (i:=4) rfl,h.cell (i:=5) rfl,h.cell (i:=6) rfl,h.cell (i:=7) rfl,h.cell (i:=8) rfl⟩
theorem frz2 {w:World}{g:Nat}{T:TypeId}{x0 x1:Value}(h:SBk w g #[x0,x1] T):w.frozen? ⟨g,0,none⟩=false∧w.frozen? ⟨g,1,none⟩=false:=⟨h.frozen (i:=0),h.frozen (i:=1)⟩
theorem frz3 {w:World}{g:Nat}{T:TypeId}{x0 x1 x2:Value}(h:SBk w g #[x0,x1,x2] T):w.frozen? ⟨g,0,none⟩=false∧w.frozen? ⟨g,1,none⟩=false∧w.frozen? ⟨g,2,none⟩=false:=⟨h.frozen (i:=0),h.frozen (i:=1),h.frozen (i:=2)⟩
instance {W W':World}{q:QS}{x:Rat}:Gr (FQ W q x) W W' (FQ W' q x):=⟨fun h k=>k.below h⟩
end Go.Proofs.YtiiedknabcebdaaGreatDoor
set_option maxRecDepth 100000
set_option maxHeartbeats 20000000
open Go.Lib (hid)
namespace Go.Proofs.YtiiedknabcebdaaGreatDoor
open Go.RowKit Go.Gb
theorem zC (n1 n2 z n:Int)(en1 en2 dn:Nat)(p1:Option Addr)(c1:Nat)(s1:Option Addr)(d1:Nat)(p2:Option Addr)(c2:Nat)(s2:Option Addr)(d2:Nat)(w:World)(h0:∀ s1 d1 s2 d2 W,RN W (.slice s1 (ah en1) d1) en1→RN W (.slice s2 (ah en2) d2) en2→CR 66 #[.slice s1 (ah en1) d1,.slice s2 (ah en2) d2] W (.int .i64 0))(h1:∀ p1 c1 p2 c2 W,RN W (.slice p1 (ag n1) c1) n1.natAbs→RN W (.slice p2 (ag n2) c2) n2.natAbs→CZ 72 #[.agg #[.bool (ak n1),.slice p1 (ag n1) c1],.agg #[.bool (ak n2),.slice p2 (ag n2) c2]] W z)(h3:∀ p1 c1 s2 d2 W,RN W (.slice p1 (ag z) c1) z.natAbs→RN W (.slice s2 (ah en1) d2) en1→CF 71 #[.agg #[.bool (ak z),.slice p1 (ag z) c1],.slice s2 (ah en1) d2] W n dn)(r1:RN w (.slice p1 (ag n1) c1) n1.natAbs)(t1:RN w (.slice s1 (ah en1) d1) en1)(r2:RN w (.slice p2 (ag n2) c2) n2.natAbs)(t2:RN w (.slice s2 (ah en2) d2) en2) :
 CF 47 #[.agg #[.bool (ak n1),.slice p1 (ag n1) c1,.slice s1 (ah en1) d1],.agg #[.bool (ak n2),.slice p2 (ag n2) c2,.slice s2 (ah en2) d2]] w n dn:=by
 obtain ⟨C0,C1,C3,R1,T1,R2,T2⟩:=eO h0 h1 h3 r1 t1 r2 t2;clear h0 h1 h3 r1 t1 r2 t2;go_enter Tryz.func47,Tryz.ntmps47
 go_upto_region 1 with fail
 refine ay w [(#[.bool (ak n1),.slice p1 (ag n1) c1,.slice s1 (ah en1) d1],57),(#[.bool (ak n2),.slice p2 (ag n2) c2,.slice s2 (ah en2) d2],57),(#[.bool false,.slice none 0 0,.slice none 0 0],57)] rfl ?_;rintro W0 ⟨k1,k2,k3,hb⟩;have oV:=hid (show Below w.heap.size w W0 from hb);obtain ⟨R1,T1,R2,T2⟩:=bD oV.o R1 T1 R2 T2;obtain ⟨K1,K2,K3⟩:=ax k1 k2 k3;clear k1 k2 k3 hb;have l5:=K1.o.cell (i:=2) rfl;have bg:=K2.o.cell (i:=2) rfl;go_wp2_with fail
 with_reducible refine(C0.o _ _ _ _ _ T1.o T2.o).mono ?_
 rintro e W1 ⟨rfl,hb⟩;clear l5 bg;obtain ⟨K1,K2,K3,R1,T1,R2⟩:=ek hb K1 K2 K3 R1 T1 R2;have l6:=hbt oV hb;clear hb;go_wp2_with fail
 refine aB (fun a0 a' V=>∃ kz kK ww wy wz sw,a'=⟨aZ [(13,.pointer (some ⟨w.heap.size,0,none⟩)),(14,.agg #[.bool (ak n1),.slice p1 (ag n1) c1]),(15,.pointer (some ⟨w.heap.size+1,0,none⟩)),(16,.agg #[.bool (ak n2),.slice p2 (ag n2) c2]),(17,.agg #[.bool (ak z),.slice kz (ag z) kK]),(18,.pointer (some ⟨w.heap.size,2,none⟩)),(19,.slice s1 (ah en1) d1),(20,.agg #[.bool (ak n),.slice ww (ag n) wy,.slice wz (ah dn) sw])] a0.tmps,a0.defers⟩∧Below w.heap.size w V∧SBk V (w.heap.size+1+1) #[.bool (ak n),.slice ww (ag n) wy,.slice wz (ah dn) sw] 57∧RN V (.slice ww (ag n) wy) (n).natAbs∧RN V (.slice wz (ah dn) sw) (dn)) ?_ ?_
 · refine aI 8 1 [13,14,15,16,17,18,19,20] [Rel.val (.pointer (some ⟨w.heap.size,0,none⟩)),Rel.val (.agg #[.bool (ak n1),.slice p1 (ag n1) c1]),Rel.val (.pointer (some ⟨w.heap.size+1,0,none⟩)),Rel.val (.agg #[.bool (ak n2),.slice p2 (ag n2) c2]),Rel.int z,Rel.val (.pointer (some ⟨w.heap.size,2,none⟩)),Rel.val (.slice s1 (ah en1) d1),⟨fun v W=>∃ p c s d,v=.agg #[.bool (ak n),.slice p (ag n) c,.slice s (ah dn) d]∧RN W (.slice p (ag n) c) (n).natAbs∧RN W (.slice s (ah dn) d) (dn),fun _ _ _ ⟨p,c,s,d,e,h0,h1⟩ hb=>⟨p,c,s,d,e,h0.below hb,h1.below hb⟩⟩] ?_ ?_
   · intro ol a W i HI hD Hr him
     obtain⟨y2,y3⟩:=HI.o.s2 2 3;obtain ⟨bn,bq⟩:=aO (K1.o.below HI.o.world) rfl rfl;obtain ⟨u0e,u0f⟩:=aO (K2.o.below HI.o.world) rfl rfl;have l5:=(K1.o.below HI.o.world).cell (i:=2) rfl;obtain⟨X0,X2,X1,X3,X5,X6⟩:=HI.o.g6 0 13 2 15 1 14 3 16 5 18 6 19
     match i,him,Hr with
     | 0,_,Hi|1,_,Hi|2,_,Hi|3,_,Hi =>
       try have x0:=X0.t Hi.o
       try have x2:=X2.t Hi.o
       refine av rfl fun K' hK=>?_;go_simp;exact hK.o _ _ (HI.o.pw Hi.o)
     | 4,_,Hi =>
       have x1:=X1.q Hi.o;have x3:=X3.q Hi.o;refine av rfl fun K' hK=>?_;go_simp;with_reducible refine(C1.o _ _ _ _ _ (R1.o.below HI.o.world) (R2.o.below HI.o.world)).mono ?_
       rintro e W' ⟨kz,kK,rfl,ed,hb⟩;exact hK.o _ _ ⟨HI.o.pc Hi.o hb ⟨kz,kK,rfl,ed⟩,trivial⟩
     | 5,_,Hi|6,_,Hi =>
       try have x5:=X5.t Hi.o
       refine av rfl fun K' hK=>?_;go_simp;exact hK.o _ _ (HI.o.pw Hi.o)
     | 7,_,Hi =>
       obtain⟨v',x4,kz,kK,e,ed⟩:=HI.o.at (i:=4) Hi.o (by kernel_rfl) (by decide);obtain rfl:=e;have x4:a.tmps[17]? = some (.agg #[.bool (ak z),.slice kz (ag z) kK]):=x4;have u03:=hid ed;clear ed;have x6:=X6.q Hi.o;refine av rfl fun K' hK=>?_;go_simp;with_reducible refine(C3.o _ _ _ _ _ u03.o (T1.o.below HI.o.world)).mono ?_
       rintro e W' ⟨ww,wy,wz,sw,rfl,aa,af,hb⟩;exact hK.o _ _ ⟨HI.o.pc Hi.o hb ⟨ww,wy,wz,sw,rfl,aa,af⟩,trivial⟩
     | n+8,h,_=>exact absurd h (by omega)
   · intro ol a W HI hD HA
     obtain⟨v',x4,kz,kK,e,ed⟩:=HI.o.slots 4 (by decide) (HA.o 4 (by decide));obtain rfl:=e;have u03:=hid ed;clear ed;obtain⟨v',x7,ww,wy,wz,sw,e,aa,af⟩:=HI.o.slots 7 (by decide) (HA.o 7 (by decide));obtain rfl:=e;have u0g:=hid aa;clear aa;have u0h:=hid af;clear af;have x7:a.tmps[20]? = some (.agg #[.bool (ak n),.slice ww (ag n) wy,.slice wz (ah dn) sw]):=x7;have mf:=hid HI.o.world;obtain ⟨dx,K3⟩:=aF (l6.o.trans (mf.o.mono l6.o.size)) (K3.o.below mf.o);have RZ:=u03;have RQ:=u0g;have TQ:=u0h;have y4:=HI.o.rst 4 rfl;obtain ⟨bu,bv,bM⟩:=aj K3.o rfl rfl rfl;obtain ⟨u0i,u0j,u0k⟩:=aW K3.o;refine aP (t:=0) ?_;refine av rfl fun K' hK=>?_;go_simp;refine hK.o _ _ ?_;clear hK;refine aT ?_;have s0:∀ {v':Value} {n':Nat},RN W v' n'→RN (storeAll W (w.heap.size+1+1) 0 [.bool (ak n),.slice ww (ag n) wy,.slice wz (ah dn) sw]) v' n':=fun h'=>bE _ h' K3.o (by simp[cu]) (by simp[bG]);exact⟨rfl,kz,kK,ww,wy,wz,sw,(HI.o.finx ⟨HI.o.sx HA.o 0,HI.o.sx HA.o 1,HI.o.sx HA.o 2,HI.o.sx HA.o 3,x4,HI.o.sx HA.o 5,HI.o.sx HA.o 6,x7,trivial⟩ rfl),(au (l:=[.bool (ak n),.slice ww (ag n) wy,.slice wz (ah dn) sw]) (i:=0) (by omega) dx.o),(bF (l:=[.bool (ak n),.slice ww (ag n) wy,.slice wz (ah dn) sw]) (i:=0) K3.o),(s0 RQ.o),(s0 TQ.o)⟩
 rintro a' W2 ⟨kz,kK,ww,wy,wz,sw,rfl,z0,z1,z2,z3⟩;obtain ⟨lg,K3,RQ,TQ⟩:=aQ z0 z1 z2 z3;clear z0 z1 z2 z3;simp only[aZ,List.setIfInBounds_toArray,List.set_cons_zero,List.set_cons_succ];go_wp2;obtain ⟨bu,bv,bM⟩:=aj K3.o rfl rfl rfl;exact bodyPost_ret (v:=.agg #[.bool (ak n),.slice ww (ag n) wy,.slice wz (ah dn) sw]) (by simp[results,Tryz.results47,go_sem,bu,bv,bM]) rfl ⟨_,_,_,_,rfl,RQ.o,TQ.o,lg.o⟩
open Go.Lib (hid)
theorem xK (n1 n2 x y z n k:Int)(en1 en2 en dn ua ub:Nat)(hk:k≠0)(p1:Option Addr)(c1:Nat)(s1:Option Addr)(d1:Nat)(p2:Option Addr)(c2:Nat)(s2:Option Addr)(d2:Nat)(w:World)(h0:∀ s1 d1 s2 d2 W,RN W (.slice s1 (ah en1) d1) en1→RN W (.slice s2 (ah en2) d2) en2→CR 66 #[.slice s1 (ah en1) d1,.slice s2 (ah en2) d2] W (.int .i64 k))(h1:∀ p1 c1 s2 d2 W,RN W (.slice p1 (ag n1) c1) n1.natAbs→RN W (.slice s2 (ah en2) d2) en2→CN 73 #[.slice p1 (ag n1) c1,.slice s2 (ah en2) d2] W ua)(h2:∀ s2 d2 W,RN W (.slice s2 (ah ua) d2) ua→CZ 69 #[.bool (ak n1),.slice s2 (ah ua) d2] W x)(h3:∀ p1 c1 s2 d2 W,RN W (.slice p1 (ag n2) c1) n2.natAbs→RN W (.slice s2 (ah en1) d2) en1→CN 73 #[.slice p1 (ag n2) c1,.slice s2 (ah en1) d2] W ub)(h4:∀ s2 d2 W,RN W (.slice s2 (ah ub) d2) ub→CZ 69 #[.bool (ak n2),.slice s2 (ah ub) d2] W y)(h5:∀ p1 c1 p2 c2 W,RN W (.slice p1 (ag x) c1) x.natAbs→RN W (.slice p2 (ag y) c2) y.natAbs→CZ 72 #[.agg #[.bool (ak x),.slice p1 (ag x) c1],.agg #[.bool (ak y),.slice p2 (ag y) c2]] W z)(h6:∀ s1 d1 s2 d2 W,RN W (.slice s1 (ah en1) d1) en1→RN W (.slice s2 (ah en2) d2) en2→CN 73 #[.slice s1 (ah en1) d1,.slice s2 (ah en2) d2] W en)(h7:∀ p1 c1 s2 d2 W,RN W (.slice p1 (ag z) c1) z.natAbs→RN W (.slice s2 (ah en) d2) en→CF 71 #[.agg #[.bool (ak z),.slice p1 (ag z) c1],.slice s2 (ah en) d2] W n dn)(r1:RN w (.slice p1 (ag n1) c1) n1.natAbs)(t1:RN w (.slice s1 (ah en1) d1) en1)(r2:RN w (.slice p2 (ag n2) c2) n2.natAbs)(t2:RN w (.slice s2 (ah en2) d2) en2) :
 CF 47 #[.agg #[.bool (ak n1),.slice p1 (ag n1) c1,.slice s1 (ah en1) d1],.agg #[.bool (ak n2),.slice p2 (ag n2) c2,.slice s2 (ah en2) d2]] w n dn:=by
 obtain ⟨C0,C1,C2,C3,C4,C5,C6,C7,R1⟩:=bW h0 h1 h2 h3 h4 h5 h6 h7 r1;obtain ⟨T1,R2,T2⟩:=ax t1 r2 t2;have k0:(k==0)=false:=by rw[beq_eq_false_iff_ne];exact hk
 have k1:¬ k=0:=hk;clear hk h0 h1 h2 h3 h4 h5 h6 h7 r1 t1 r2 t2;go_enter Tryz.func47,Tryz.ntmps47
 go_upto_region 1 with fail
 refine ay w [(#[.bool (ak n1),.slice p1 (ag n1) c1,.slice s1 (ah en1) d1],57),(#[.bool (ak n2),.slice p2 (ag n2) c2,.slice s2 (ah en2) d2],57),(#[.bool false,.slice none 0 0,.slice none 0 0],57)] rfl ?_;rintro W0 ⟨k1,k2,k3,hb⟩;have oV:=hid (show Below w.heap.size w W0 from hb);obtain ⟨R1,T1,R2,T2⟩:=bD oV.o R1 T1 R2 T2;obtain ⟨K1,K2,K3⟩:=ax k1 k2 k3;clear k1 k2 k3 hb;have l5:=K1.o.cell (i:=2) rfl;have bg:=K2.o.cell (i:=2) rfl;go_wp2_with fail
 with_reducible refine(C0.o _ _ _ _ _ T1.o T2.o).mono ?_
 rintro e W1 ⟨rfl,hb⟩;clear l5 bg;obtain ⟨K1,K2,K3,R1,T1,R2,T2⟩:=jI hb K1 K2 K3 R1 T1 R2 T2;have l6:=hbt oV hb;clear hb;go_wp2_with fail
 have L1:=K1.o.lt;have L2:=K2.o.lt;have L3:=K3.o.lt;have L4:=l6.o.size;refine aB (fun a0 a' V=>∃ lv ky u6 w9 oM,a'=⟨aZ [(21,.pointer (some ⟨w.heap.size,0,none⟩)),(22,.pointer (some ⟨w.heap.size,0,none⟩)),(23,.bool (ak n1)),(24,.pointer (some ⟨w.heap.size,0,none⟩)),(25,.pointer (some ⟨w.heap.size,1,none⟩)),(26,.slice p1 (ag n1) c1),(27,.pointer (some ⟨w.heap.size+1,2,none⟩)),(28,.slice s2 (ah en2) d2),(29,.slice lv (ah ua) ky),(30,.agg #[.bool (ak x),.slice u6 (ag x) w9]),(5,.pointer (some ⟨oM,0,none⟩))] a0.tmps,a0.defers⟩∧Below w.heap.size w V∧SBk V (w.heap.size) #[.bool (ak n1),.slice p1 (ag n1) c1,.slice s1 (ah en1) d1] 57∧SBk V (w.heap.size+1) #[.bool (ak n2),.slice p2 (ag n2) c2,.slice s2 (ah en2) d2] 57∧SBk V (w.heap.size+1+1) #[.bool false,.slice none 0 0,.slice none 0 0] 57∧SBk V (oM) #[.bool (ak x),.slice u6 (ag x) w9] 55∧RN V (.slice p1 (ag n1) c1) n1.natAbs∧RN V (.slice s1 (ah en1) d1) en1∧RN V (.slice p2 (ag n2) c2) n2.natAbs∧RN V (.slice s2 (ah en2) d2) en2∧RN V (.slice lv (ah ua) ky) ua∧RN V (.slice u6 (ag x) w9) x.natAbs∧W1.heap.size≤oM) ?_ ?_
 · refine aI 11 1 [21,22,23,24,25,26,27,28,29,30,5] [Rel.val (.pointer (some ⟨w.heap.size,0,none⟩)),Rel.val (.pointer (some ⟨w.heap.size,0,none⟩)),Rel.val (.bool (ak n1)),Rel.val (.pointer (some ⟨w.heap.size,0,none⟩)),Rel.val (.pointer (some ⟨w.heap.size,1,none⟩)),Rel.val (.slice p1 (ag n1) c1),Rel.val (.pointer (some ⟨w.heap.size+1,2,none⟩)),Rel.val (.slice s2 (ah en2) d2),Rel.nat ua,Rel.int x,Rel.ptr W1.heap.size (.cells #[.bool false,.slice none 0 0] 55)] ?_ ?_
   · intro ol a W i HI hD Hr him
     obtain⟨y2,y3⟩:=HI.o.s2 2 3;obtain ⟨bn,bq⟩:=aO (K1.o.below HI.o.world) rfl rfl;have bg:=(K2.o.below HI.o.world).cell (i:=2) rfl;obtain⟨X0,X1,X3,X4,X6,X5⟩:=HI.o.g6 0 21 1 22 3 24 4 25 6 27 5 26;obtain⟨X7,X2⟩:=HI.o.g2 7 28 2 23
     match i,him,Hr with
     | 0,_,Hi|1,_,Hi|2,_,Hi|3,_,Hi|4,_,Hi|5,_,Hi|6,_,Hi|7,_,Hi =>
       try have x0:=X0.t Hi.o
       try have x1:=X1.t Hi.o
       try have x3:=X3.t Hi.o
       try have x4:=X4.t Hi.o
       try have x6:=X6.t Hi.o
       refine av rfl fun K' hK=>?_;go_simp;exact hK.o _ _ (HI.o.pw Hi.o)
     | 8,_,Hi =>
       have x5:=X5.q Hi.o;have x7:=X7.q Hi.o;refine av rfl fun K' hK=>?_;go_simp;with_reducible refine(C1.o _ _ _ _ _ (R1.o.below HI.o.world) (T2.o.below HI.o.world)).mono ?_
       rintro e W' ⟨lv,ky,rfl,dz,hb⟩;exact hK.o _ _ ⟨HI.o.pc Hi.o hb ⟨lv,ky,rfl,dz⟩,trivial⟩
     | 9,_,Hi =>
       have x2:=X2.q Hi.o;obtain⟨v',x8,lv,ky,e,dz⟩:=HI.o.at (i:=8) Hi.o (by kernel_rfl) (by decide);obtain rfl:=e;have x8:a.tmps[29]? = some (.slice lv (ah ua) ky):=x8;have u04:=hid dz;clear dz;refine av rfl fun K' hK=>?_;go_simp;with_reducible refine(C2.o _ _ _ u04.o).mono ?_
       rintro e W' ⟨u6,w9,rfl,aX,hb⟩;exact hK.o _ _ ⟨HI.o.pc Hi.o hb ⟨u6,w9,rfl,aX⟩,trivial⟩
     | 10,_,Hi =>
       refine av rfl fun K' hK=>?_;go_simp;exact hK.o _ _ ⟨HI.o.pc Hi.o ((Below.refl W.heap.size W).alloc (Nat.le_refl _) (.cells #[.bool false,.slice none 0 0] 55)) ⟨W.heap.size,rfl,HI.o.world.size,SBk.new _ _ _⟩,trivial⟩
     | n+11,h,_=>exact absurd h (by omega)
   · intro ol a W HI hD HA
     obtain⟨v',x8,lv,ky,e,dz⟩:=HI.o.slots 8 (by decide) (HA.o 8 (by decide));obtain rfl:=e;have u04:=hid dz;clear dz;obtain⟨v',x9,u6,w9,e,aX⟩:=HI.o.slots 9 (by decide) (HA.o 9 (by decide));obtain rfl:=e;have u0l:=hid aX;clear aX;have x9:a.tmps[30]? = some (.agg #[.bool (ak x),.slice u6 (ag x) w9]):=x9;obtain⟨v',x10,oM,e,u08,u09⟩:=HI.o.slots 10 (by decide) (HA.o 10 (by decide));obtain rfl:=e;have bV:=hid u08;clear u08;have u0m:=hid u09;clear u09;have x10:a.tmps[5]? = some (.pointer (some ⟨oM,0,none⟩)):=x10;have mf:=hid HI.o.world;obtain ⟨K1,K2,K3,R1,T1,R2,T2⟩:=jI mf.o K1 K2 K3 R1 T1 R2 T2;have dx:=Lib.hid (l6.o.trans (mf.o.mono l6.o.size));have RA:=u04;have RX:=u0l;have K4:Hid (SBk W oM #[.bool false,.slice none 0 0] 55):=u0m;obtain ⟨u0n,u0o⟩:=aO K4.o rfl rfl;obtain ⟨u0w,u0x⟩:=bS K4.o;refine aP (t:=0) ?_;refine av rfl fun K' hK=>?_;go_simp;refine hK.o _ _ ?_;clear hK;refine aT ?_;have s0:∀ {v':Value} {n':Nat},RN W v' n'→RN (storeAll W (oM) 0 [.bool (ak x),.slice u6 (ag x) w9]) v' n':=fun h'=>bE _ h' K4.o (by simp[cu]) (by simp[bG]);have o0:∀ {g':Nat} {cs':Array Value} {T':TypeId},g'≠oM→SBk W g' cs' T'→SBk (storeAll W (oM) 0 [.bool (ak x),.slice u6 (ag x) w9]) g' cs' T':=fun hg' h'=>aJ hg' _ 0 h';exact⟨rfl,lv,ky,u6,w9,oM,(HI.o.finx ⟨HI.o.sx HA.o 0,HI.o.sx HA.o 1,HI.o.sx HA.o 2,HI.o.sx HA.o 3,HI.o.sx HA.o 4,HI.o.sx HA.o 5,HI.o.sx HA.o 6,HI.o.sx HA.o 7,x8,x9,x10,trivial⟩ rfl),(au (l:=[.bool (ak x),.slice u6 (ag x) w9]) (i:=0) (by have:=bV.o;omega) dx.o),(o0 (by have:=bV.o;omega) K1.o),(o0 (by have:=bV.o;omega) K2.o),(o0 (by have:=bV.o;omega) K3.o),(bF (l:=[.bool (ak x),.slice u6 (ag x) w9]) (i:=0) K4.o),(s0 R1.o),(s0 T1.o),(s0 R2.o),(s0 T2.o),(s0 RA.o),(s0 RX.o),bV.o⟩
 rintro a' W2 ⟨lv,ky,u6,w9,oM,rfl,z0,z1,z2,z3,z4,z5,z6,z7,z8,z9,z10,z11⟩;obtain ⟨lg,K1,K2,K3,K4,R1,T1,R2,T2⟩:=bW z0 z1 z2 z3 z4 z5 z6 z7 z8;have RA:=hid z9;have RX:=hid z10;have R10xW2:=z11;clear z0 z1 z2 z3 z4 z5 z6 z7 z8 z9 z10 z11;simp only[aZ,List.setIfInBounds_toArray,List.set_cons_zero,List.set_cons_succ];go_wp2_with fail
 have L6:=K1.o.lt;have L7:=K2.o.lt;have L8:=K3.o.lt;have L9:=K4.o.lt;have L10:=lg.o.size;refine aB (fun a0 a' V=>∃ kM kV wo wu mi,a'=⟨aZ [(31,.pointer (some ⟨w.heap.size+1,0,none⟩)),(32,.pointer (some ⟨w.heap.size+1,0,none⟩)),(33,.bool (ak n2)),(34,.pointer (some ⟨w.heap.size+1,0,none⟩)),(35,.pointer (some ⟨w.heap.size+1,1,none⟩)),(36,.slice p2 (ag n2) c2),(37,.pointer (some ⟨w.heap.size,2,none⟩)),(38,.slice s1 (ah en1) d1),(39,.slice kM (ah ub) kV),(40,.agg #[.bool (ak y),.slice wo (ag y) wu]),(6,.pointer (some ⟨mi,0,none⟩))] a0.tmps,a0.defers⟩∧Below w.heap.size w V∧SBk V (w.heap.size) #[.bool (ak n1),.slice p1 (ag n1) c1,.slice s1 (ah en1) d1] 57∧SBk V (w.heap.size+1) #[.bool (ak n2),.slice p2 (ag n2) c2,.slice s2 (ah en2) d2] 57∧SBk V (w.heap.size+1+1) #[.bool false,.slice none 0 0,.slice none 0 0] 57∧SBk V (oM) #[.bool (ak x),.slice u6 (ag x) w9] 55∧SBk V (mi) #[.bool (ak y),.slice wo (ag y) wu] 55∧RN V (.slice s1 (ah en1) d1) en1∧RN V (.slice s2 (ah en2) d2) en2∧RN V (.slice u6 (ag x) w9) x.natAbs∧RN V (.slice wo (ag y) wu) y.natAbs∧W2.heap.size≤mi) ?_ ?_
 · refine aI 11 1 [31,32,33,34,35,36,37,38,39,40,6] [Rel.val (.pointer (some ⟨w.heap.size+1,0,none⟩)),Rel.val (.pointer (some ⟨w.heap.size+1,0,none⟩)),Rel.val (.bool (ak n2)),Rel.val (.pointer (some ⟨w.heap.size+1,0,none⟩)),Rel.val (.pointer (some ⟨w.heap.size+1,1,none⟩)),Rel.val (.slice p2 (ag n2) c2),Rel.val (.pointer (some ⟨w.heap.size,2,none⟩)),Rel.val (.slice s1 (ah en1) d1),Rel.nat ub,Rel.int y,Rel.ptr W2.heap.size (.cells #[.bool false,.slice none 0 0] 55)] ?_ ?_
   · intro ol a W i HI hD Hr him
     obtain⟨y3,y2⟩:=HI.o.s2 3 2;obtain ⟨u0e,u0f⟩:=aO (K2.o.below HI.o.world) rfl rfl;have l5:=(K1.o.below HI.o.world).cell (i:=2) rfl;obtain⟨X0,X1,X3,X4,X6,X5⟩:=HI.o.g6 0 31 1 32 3 34 4 35 6 37 5 36;obtain⟨X7,X2⟩:=HI.o.g2 7 38 2 33
     match i,him,Hr with
     | 0,_,Hi|1,_,Hi|2,_,Hi|3,_,Hi|4,_,Hi|5,_,Hi|6,_,Hi|7,_,Hi =>
       try have x0:=X0.t Hi.o
       try have x1:=X1.t Hi.o
       try have x3:=X3.t Hi.o
       try have x4:=X4.t Hi.o
       try have x6:=X6.t Hi.o
       refine av rfl fun K' hK=>?_;go_simp;exact hK.o _ _ (HI.o.pw Hi.o)
     | 8,_,Hi =>
       have x5:=X5.q Hi.o;have x7:=X7.q Hi.o;refine av rfl fun K' hK=>?_;go_simp;with_reducible refine(C3.o _ _ _ _ _ (R2.o.below HI.o.world) (T1.o.below HI.o.world)).mono ?_
       rintro e W' ⟨kM,kV,rfl,dR,hb⟩;exact hK.o _ _ ⟨HI.o.pc Hi.o hb ⟨kM,kV,rfl,dR⟩,trivial⟩
     | 9,_,Hi =>
       have x2:=X2.q Hi.o;obtain⟨v',x8,kM,kV,e,dR⟩:=HI.o.at (i:=8) Hi.o (by kernel_rfl) (by decide);obtain rfl:=e;have x8:a.tmps[39]? = some (.slice kM (ah ub) kV):=x8;have u05:=hid dR;clear dR;refine av rfl fun K' hK=>?_;go_simp;with_reducible refine(C4.o _ _ _ u05.o).mono ?_
       rintro e W' ⟨wo,wu,rfl,u00,hb⟩;exact hK.o _ _ ⟨HI.o.pc Hi.o hb ⟨wo,wu,rfl,u00⟩,trivial⟩
     | 10,_,Hi =>
       refine av rfl fun K' hK=>?_;go_simp;exact hK.o _ _ ⟨HI.o.pc Hi.o ((Below.refl W.heap.size W).alloc (Nat.le_refl _) (.cells #[.bool false,.slice none 0 0] 55)) ⟨W.heap.size,rfl,HI.o.world.size,SBk.new _ _ _⟩,trivial⟩
     | n+11,h,_=>exact absurd h (by omega)
   · intro ol a W HI hD HA
     obtain⟨v',x8,kM,kV,e,dR⟩:=HI.o.slots 8 (by decide) (HA.o 8 (by decide));obtain rfl:=e;have u05:=hid dR;clear dR;obtain⟨v',x9,wo,wu,e,u00⟩:=HI.o.slots 9 (by decide) (HA.o 9 (by decide));obtain rfl:=e;have u0p:=hid u00;clear u00;have x9:a.tmps[40]? = some (.agg #[.bool (ak y),.slice wo (ag y) wu]):=x9;obtain⟨v',x10,mi,e,u0a,u0b⟩:=HI.o.slots 10 (by decide) (HA.o 10 (by decide));obtain rfl:=e;have cO:=hid u0a;clear u0a;have u0q:=hid u0b;clear u0b;have x10:a.tmps[6]? = some (.pointer (some ⟨mi,0,none⟩)):=x10;have mf:=hid HI.o.world;obtain ⟨K1,K2,K3,K4,T1,T2,RX⟩:=jI mf.o K1 K2 K3 K4 T1 T2 RX;have dx:=Lib.hid (lg.o.trans (mf.o.mono lg.o.size));have RB:=u05;have RY:=u0p;have K5:Hid (SBk W mi #[.bool false,.slice none 0 0] 55):=u0q;obtain ⟨u0r,u0s⟩:=aO K5.o rfl rfl;obtain ⟨u0y,u0z⟩:=bS K5.o;refine aP (t:=0) ?_;refine av rfl fun K' hK=>?_;go_simp;refine hK.o _ _ ?_;clear hK;refine aT ?_;have s0:∀ {v':Value} {n':Nat},RN W v' n'→RN (storeAll W (mi) 0 [.bool (ak y),.slice wo (ag y) wu]) v' n':=fun h'=>bE _ h' K5.o (by simp[cu]) (by simp[bG]);have o0:∀ {g':Nat} {cs':Array Value} {T':TypeId},g'≠mi→SBk W g' cs' T'→SBk (storeAll W (mi) 0 [.bool (ak y),.slice wo (ag y) wu]) g' cs' T':=fun hg' h'=>aJ hg' _ 0 h';exact⟨rfl,kM,kV,wo,wu,mi,(HI.o.finx ⟨HI.o.sx HA.o 0,HI.o.sx HA.o 1,HI.o.sx HA.o 2,HI.o.sx HA.o 3,HI.o.sx HA.o 4,HI.o.sx HA.o 5,HI.o.sx HA.o 6,HI.o.sx HA.o 7,x8,x9,x10,trivial⟩ rfl),(au (l:=[.bool (ak y),.slice wo (ag y) wu]) (i:=0) (by have:=cO.o;omega) dx.o),(o0 (by have:=cO.o;omega) K1.o),(o0 (by have:=cO.o;omega) K2.o),(o0 (by have:=cO.o;omega) K3.o),(o0 (by have:=cO.o;omega) K4.o),(bF (l:=[.bool (ak y),.slice wo (ag y) wu]) (i:=0) K5.o),(s0 T1.o),(s0 T2.o),(s0 RX.o),(s0 RY.o),cO.o⟩
 rintro a' W3 ⟨kM,kV,wo,wu,mi,rfl,z0,z1,z2,z3,z4,z5,z6,z7,z8,z9,z10⟩;obtain ⟨HB3,K1,K2,K3,K4,K5,T1,T2,RX⟩:=bW z0 z1 z2 z3 z4 z5 z6 z7 z8;have RY:=hid z9;have R10xW3:=z10;clear z0 z1 z2 z3 z4 z5 z6 z7 z8 z9 z10;simp only[aZ,List.setIfInBounds_toArray,List.set_cons_zero,List.set_cons_succ];go_wp2_with fail
 refine aB (fun a0 a' V=>∃ gy fq fw fQ rM rV p8 pq,a'=⟨aZ [(41,.agg #[.bool (ak x),.slice u6 (ag x) w9]),(42,.agg #[.bool (ak y),.slice wo (ag y) wu]),(43,.agg #[.bool (ak z),.slice gy (ag z) fq]),(44,.pointer (some ⟨w.heap.size,2,none⟩)),(45,.slice s1 (ah en1) d1),(46,.pointer (some ⟨w.heap.size+1,2,none⟩)),(47,.slice s2 (ah en2) d2),(48,.slice fw (ah en) fQ),(49,.agg #[.bool (ak n),.slice rM (ag n) rV,.slice p8 (ah dn) pq])] a0.tmps,a0.defers⟩∧Below w.heap.size w V∧SBk V (w.heap.size+1+1) #[.bool (ak n),.slice rM (ag n) rV,.slice p8 (ah dn) pq] 57∧RN V (.slice rM (ag n) rV) (n).natAbs∧RN V (.slice p8 (ah dn) pq) (dn)) ?_ ?_
 · refine aI 9 1 [41,42,43,44,45,46,47,48,49] [Rel.val (.agg #[.bool (ak x),.slice u6 (ag x) w9]),Rel.val (.agg #[.bool (ak y),.slice wo (ag y) wu]),Rel.int z,Rel.val (.pointer (some ⟨w.heap.size,2,none⟩)),Rel.val (.slice s1 (ah en1) d1),Rel.val (.pointer (some ⟨w.heap.size+1,2,none⟩)),Rel.val (.slice s2 (ah en2) d2),Rel.nat en,⟨fun v W=>∃ p c s d,v=.agg #[.bool (ak n),.slice p (ag n) c,.slice s (ah dn) d]∧RN W (.slice p (ag n) c) (n).natAbs∧RN W (.slice s (ah dn) d) (dn),fun _ _ _ ⟨p,c,s,d,e,h0,h1⟩ hb=>⟨p,c,s,d,e,h0.below hb,h1.below hb⟩⟩] ?_ ?_
   · intro ol a W i HI hD Hr him
     obtain⟨y5,y6,y2⟩:=HI.o.s3 5 6 2;have y3:=HI.o.rst 3 rfl;obtain ⟨u0n,u0o⟩:=aO (K4.o.below HI.o.world) rfl rfl;obtain ⟨u0r,u0s⟩:=aO (K5.o.below HI.o.world) rfl rfl;have l5:=(K1.o.below HI.o.world).cell (i:=2) rfl;have bg:=(K2.o.below HI.o.world).cell (i:=2) rfl;obtain⟨X0,X1,X3,X5,X4,X6⟩:=HI.o.g6 0 41 1 42 3 44 5 46 4 45 6 47
     match i,him,Hr with
     | 0,_,Hi|1,_,Hi =>
       refine av rfl fun K' hK=>?_;go_simp;exact hK.o _ _ (HI.o.pw Hi.o)
     | 2,_,Hi =>
       have x0:=X0.q Hi.o;have x1:=X1.q Hi.o;refine av rfl fun K' hK=>?_;go_simp;with_reducible refine(C5.o _ _ _ _ _ (RX.o.below HI.o.world) (RY.o.below HI.o.world)).mono ?_
       rintro e W' ⟨gy,fq,rfl,dX,hb⟩;exact hK.o _ _ ⟨HI.o.pc Hi.o hb ⟨gy,fq,rfl,dX⟩,trivial⟩
     | 3,_,Hi|4,_,Hi|5,_,Hi|6,_,Hi =>
       try have x3:=X3.t Hi.o
       try have x5:=X5.t Hi.o
       refine av rfl fun K' hK=>?_;go_simp;exact hK.o _ _ (HI.o.pw Hi.o)
     | 7,_,Hi =>
       have x4:=X4.q Hi.o;have x6:=X6.q Hi.o;refine av rfl fun K' hK=>?_;go_simp;with_reducible refine(C6.o _ _ _ _ _ (T1.o.below HI.o.world) (T2.o.below HI.o.world)).mono ?_
       rintro e W' ⟨fw,fQ,rfl,dY,hb⟩;exact hK.o _ _ ⟨HI.o.pc Hi.o hb ⟨fw,fQ,rfl,dY⟩,trivial⟩
     | 8,_,Hi =>
       obtain⟨v',x2,gy,fq,e,dX⟩:=HI.o.at (i:=2) Hi.o (by kernel_rfl) (by decide);obtain rfl:=e;have x2:a.tmps[43]? = some (.agg #[.bool (ak z),.slice gy (ag z) fq]):=x2;have u06:=hid dX;clear dX;obtain⟨v',x7,fw,fQ,e,dY⟩:=HI.o.at (i:=7) Hi.o (by kernel_rfl) (by decide);obtain rfl:=e;have x7:a.tmps[48]? = some (.slice fw (ah en) fQ):=x7;have u07:=hid dY;clear dY;refine av rfl fun K' hK=>?_;go_simp;with_reducible refine(C7.o _ _ _ _ _ u06.o u07.o).mono ?_
       rintro e W' ⟨rM,rV,p8,pq,rfl,u01,u02,hb⟩;exact hK.o _ _ ⟨HI.o.pc Hi.o hb ⟨rM,rV,p8,pq,rfl,u01,u02⟩,trivial⟩
     | n+9,h,_=>exact absurd h (by omega)
   · intro ol a W HI hD HA
     obtain⟨v',x2,gy,fq,e,dX⟩:=HI.o.slots 2 (by decide) (HA.o 2 (by decide));obtain rfl:=e;have u06:=hid dX;clear dX;obtain⟨v',x7,fw,fQ,e,dY⟩:=HI.o.slots 7 (by decide) (HA.o 7 (by decide));obtain rfl:=e;have u07:=hid dY;clear dY;obtain⟨v',x8,rM,rV,p8,pq,e,u01,u02⟩:=HI.o.slots 8 (by decide) (HA.o 8 (by decide));obtain rfl:=e;have u0t:=hid u01;clear u01;have u0u:=hid u02;clear u02;have x8:a.tmps[49]? = some (.agg #[.bool (ak n),.slice rM (ag n) rV,.slice p8 (ah dn) pq]):=x8;have mf:=hid HI.o.world;obtain ⟨dx,K3⟩:=aF (HB3.o.trans (mf.o.mono HB3.o.size)) (K3.o.below mf.o);have RZ:=u06;have RE:=u07;have RQ:=u0t;have TQ:=u0u;have y4:=HI.o.rst 4 rfl;obtain ⟨bu,bv,bM⟩:=aj K3.o rfl rfl rfl;obtain ⟨u0i,u0j,u0k⟩:=aW K3.o;refine aP (t:=0) ?_;refine av rfl fun K' hK=>?_;go_simp;refine hK.o _ _ ?_;clear hK;refine aT ?_;have s0:∀ {v':Value} {n':Nat},RN W v' n'→RN (storeAll W (w.heap.size+1+1) 0 [.bool (ak n),.slice rM (ag n) rV,.slice p8 (ah dn) pq]) v' n':=fun h'=>bE _ h' K3.o (by simp[cu]) (by simp[bG]);exact⟨rfl,gy,fq,fw,fQ,rM,rV,p8,pq,(HI.o.finx ⟨HI.o.sx HA.o 0,HI.o.sx HA.o 1,x2,HI.o.sx HA.o 3,HI.o.sx HA.o 4,HI.o.sx HA.o 5,HI.o.sx HA.o 6,x7,x8,trivial⟩ rfl),(au (l:=[.bool (ak n),.slice rM (ag n) rV,.slice p8 (ah dn) pq]) (i:=0) (by omega) dx.o),(bF (l:=[.bool (ak n),.slice rM (ag n) rV,.slice p8 (ah dn) pq]) (i:=0) K3.o),(s0 RQ.o),(s0 TQ.o)⟩
 rintro a' W4 ⟨gy,fq,fw,fQ,rM,rV,p8,pq,rfl,z0,z1,z2,z3⟩;obtain ⟨HB4,K3,RQ,TQ⟩:=aQ z0 z1 z2 z3;clear z0 z1 z2 z3;simp only[aZ,List.setIfInBounds_toArray,List.set_cons_zero,List.set_cons_succ];go_wp2;obtain ⟨bu,bv,bM⟩:=aj K3.o rfl rfl rfl;exact bodyPost_ret (v:=.agg #[.bool (ak n),.slice rM (ag n) rV,.slice p8 (ah dn) pq]) (by simp[results,Tryz.results47,go_sem,bu,bv,bM]) rfl ⟨_,_,_,_,rfl,RQ.o,TQ.o,HB4.o⟩
end Go.Proofs.YtiiedknabcebdaaGreatDoor
open Go.Lib (hid)
namespace Go.Proofs.YtiiedknabcebdaaGreatDoor
open Go.RowKit Go.Gb
theorem z2Y (n:Int)(en:Nat)(sn:ByteArray)(p1:Option Addr)(c1:Nat)(s1:Option Addr)(d1:Nat)(w:World)(h1:∀ p1 c1 W,RN W (.slice p1 (ag n) c1) n.natAbs→CR 50 #[.agg #[.bool (ak n),.slice p1 (ag n) c1]] W (.string sn))(h2:∀ s1 d1 W,RN W (.slice s1 (ah en) d1) en→CR 51 #[.slice s1 (ah en) d1] W (.string ⟨#[49]⟩))(r1:RN w (.slice p1 (ag n) c1) n.natAbs)(t1:RN w (.slice s1 (ah en) d1) en) :
 CR 27 #[.agg #[.bool (ak n),.slice p1 (ag n) c1,.slice s1 (ah en) d1]] w (.string sn):=by
 obtain ⟨C1,C2,R1,T1⟩:=aQ h1 h2 r1 t1;clear h1 h2 r1 t1;go_enter Tryz.func27,Tryz.ntmps27
 go_upto_region 1 with fail
 refine ay w [(#[.bool (ak n),.slice p1 (ag n) c1,.slice s1 (ah en) d1],57)] rfl ?_;rintro W0 ⟨k1,hb⟩;have oV:=hid (show Below w.heap.size w W0 from hb);obtain ⟨R1,T1⟩:=aR oV.o R1 T1;have K1:=Lib.hid k1;clear k1 hb;obtain ⟨bn,bq⟩:=aO K1.o rfl rfl;go_wp2_with fail
 with_reducible refine(C1.o _ _ _ R1.o).mono ?_
 rintro e W1 ⟨rfl,hb⟩;clear bn bq;obtain ⟨K1,T1⟩:=aR hb K1 T1;have l6:=hbt oV hb;clear hb;have l5:=K1.o.cell (i:=2) rfl;go_wp2_with fail
 with_reducible refine(C2.o _ _ _ T1.o).mono ?_
 rintro e W2 ⟨rfl,hb⟩;clear l5;have lg:=hbt l6 hb;clear hb;go_wp2;exact bodyPost_ret (v:=.string sn) (by simp[results,Tryz.results27,go_sem]) rfl ⟨rfl,lg.o⟩
theorem z1i (n:Int)(en:Nat)(sn sd res:ByteArray)(hsd:(sd.toList==[49])=false)(hr:sn++(⟨#[47]⟩++sd)=res)(hl1:sn.size≤10000)(hl2:sd.size≤10000)(p1:Option Addr)(c1:Nat)(s1:Option Addr)(d1:Nat)(w:World)(h1:∀ p1 c1 W,RN W (.slice p1 (ag n) c1) n.natAbs→CR 50 #[.agg #[.bool (ak n),.slice p1 (ag n) c1]] W (.string sn))(h2:∀ s1 d1 W,RN W (.slice s1 (ah en) d1) en→CR 51 #[.slice s1 (ah en) d1] W (.string sd))(r1:RN w (.slice p1 (ag n) c1) n.natAbs)(t1:RN w (.slice s1 (ah en) d1) en) :
 CR 27 #[.agg #[.bool (ak n),.slice p1 (ag n) c1,.slice s1 (ah en) d1]] w (.string res):=by
 obtain ⟨C1,C2,R1,T1,HR,HL1,HL2⟩:=eO h1 h2 r1 t1 hr hl1 hl2;have k0:¬ sd.toList=[49]:=by simpa using hsd
 clear hr hl1 hl2 h1 h2 r1 t1;go_enter Tryz.func27,Tryz.ntmps27
 go_upto_region 1 with fail
 refine ay w [(#[.bool (ak n),.slice p1 (ag n) c1,.slice s1 (ah en) d1],57)] rfl ?_;rintro W0 ⟨k1,hb⟩;have oV:=hid (show Below w.heap.size w W0 from hb);obtain ⟨R1,T1⟩:=aR oV.o R1 T1;have K1:=Lib.hid k1;clear k1 hb;obtain ⟨bn,bq⟩:=aO K1.o rfl rfl;go_wp2_with fail
 with_reducible refine(C1.o _ _ _ R1.o).mono ?_
 rintro e W1 ⟨rfl,hb⟩;clear bn bq;obtain ⟨K1,T1⟩:=aR hb K1 T1;have l6:=hbt oV hb;clear hb;have l5:=K1.o.cell (i:=2) rfl;go_wp2_with fail
 with_reducible refine(C2.o _ _ _ T1.o).mono ?_
 rintro e W2 ⟨rfl,hb⟩;clear l5;have lg:=hbt l6 hb;clear hb;have ha1:=run_string_add_sum (P:=Tryz.prog) W2 ⟨#[47]⟩ sd (by have:=HL2.o;have e:(⟨#[47]⟩:ByteArray).size=1:=rfl;omega);have ha2:=run_string_add_sum (P:=Tryz.prog) W2 sn (⟨#[47]⟩++sd) (by have:=HL1.o;have:=HL2.o;have e:(⟨#[47]⟩:ByteArray).size=1:=rfl;rw[ByteArray.size_append];omega);rw[HR.o]at ha2;go_wp2;exact bodyPost_ret (v:=.string res) (by simp[results,Tryz.results27,go_sem]) rfl ⟨rfl,lg.o⟩
