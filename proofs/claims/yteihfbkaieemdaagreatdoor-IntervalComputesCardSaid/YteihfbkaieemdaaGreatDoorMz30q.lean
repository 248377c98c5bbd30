/- texts -/
import Derived.Test.YteihfbkaieemdaaGreatDoorMz29q
namespace Go.Proofs.YteihfbkaieemdaaGreatDoor
open Go.RowKit Go.Gb
structure QS where
 b:Bool
 a:Option Addr
 n:Nat
 c:Nat
 e:Option Addr
 m:Nat
 d:Nat
def FQ (W:World) (q:QS) (x:Rat):Prop:=q.b=ai x.num∧q.n=ae x.num∧q.m=ag x.den∧RN W (.slice q.a q.n q.c) x.num.natAbs∧RN W (.slice q.e q.m q.d) x.den
theorem FQ.below {W W':World}{q:QS}{x:Rat}(h:FQ W q x)(hb:Below W.heap.size W W'):FQ W' q x:=⟨h.1,h.2.1,h.2.2.1,h.2.2.2.1.below hb,h.2.2.2.2.below hb⟩
theorem bT {q:QS}{x:Rat}{g:Nat}{T:TypeId}(l:List Value)(i:Nat){w:World}{cs:Array Value}(h:FQ w q x)(hg:SBk w g cs T)(hn:bQ cs=true)(hl:l.all bi=true):FQ (storeAll w g i l) q x:=⟨h.1,h.2.1,h.2.2.1,mM l i h.2.2.2.1 hg hn hl,mM l i h.2.2.2.2 hg hn hl⟩
abbrev QS.l (q:QS):List Value:=[.bool q.b,.slice q.a q.n q.c,.slice q.e q.m q.d]
abbrev QS.v (q:QS):Value:=.agg #[.bool q.b,.slice q.a q.n q.c,.slice q.e q.m q.d]
abbrev RQ (W:World) (x:Rat):Ending→World→Prop:=fun e w'=>∃ q:QS,e=.returned (.agg #[.bool q.b,.slice q.a q.n q.c,.slice q.e q.m q.d])∧FQ w' q x∧Below W.heap.size W w'
abbrev RQb (W:World) (x:Rat) (b:Bool):Ending→World→Prop:=fun e w'=>∃ q:QS,e=.returned (.tuple #[.agg #[.bool q.b,.slice q.a q.n q.c,.slice q.e q.m q.d],.bool b])∧FQ w' q x∧Below W.heap.size W w'
abbrev RP (W:World) (v:Value):Ending→World→Prop:=fun e w'=>e=.returned v∧Below W.heap.size W w'
abbrev KQ1 (f:Nat) (x0:Rat) (z:Rat):Prop:=∀ (q0:QS) (W:World),FQ W q0 x0→Calls Tryz.prog f #[.agg #[.bool q0.b,.slice q0.a q0.n q0.c,.slice q0.e q0.m q0.d]] W (RQ W z)
abbrev KQ2 (f:Nat) (x0 x1:Rat) (z:Rat):Prop:=∀ (q0 q1:QS) (W:World),FQ W q0 x0→FQ W q1 x1→Calls Tryz.prog f #[.agg #[.bool q0.b,.slice q0.a q0.n q0.c,.slice q0.e q0.m q0.d],.agg #[.bool q1.b,.slice q1.a q1.n q1.c,.slice q1.e q1.m q1.d]] W (RQ W z)
abbrev KP1 (f:Nat) (x0:Rat) (v:Value):Prop:=∀ (q0:QS) (W:World),FQ W q0 x0→Calls Tryz.prog f #[.agg #[.bool q0.b,.slice q0.a q0.n q0.c,.slice q0.e q0.m q0.d]] W (RP W v)
abbrev KP2 (f:Nat) (x0 x1:Rat) (v:Value):Prop:=∀ (q0 q1:QS) (W:World),FQ W q0 x0→FQ W q1 x1→Calls Tryz.prog f #[.agg #[.bool q0.b,.slice q0.a q0.n q0.c,.slice q0.e q0.m q0.d],.agg #[.bool q1.b,.slice q1.a q1.n q1.c,.slice q1.e q1.m q1.d]] W (RP W v)
abbrev KS (f:Nat) (v0:Value) (z:Rat):Prop:=∀ (W:World),Calls Tryz.prog f #[v0] W (RQ W z)
abbrev KSb (f:Nat) (v0:Value) (z:Rat) (b:Bool):Prop:=∀ (W:World),Calls Tryz.prog f #[v0] W (RQb W z b)
def Rel.q (x:Rat):Rel:=⟨fun v W=>∃ q:QS,v=q.v∧FQ W q x,fun _ _ _ ⟨q,e,h⟩ hb=>⟨q,e,h.below hb⟩⟩
section
variable {ops:Array Oper} {m:Nat} {sl:Nat→Nat} {L:List Rel} {a0:Act} {P:World→Prop} {rV:Array Bool} {a:Act} {w:World}
theorem qAt (h:RInv ops m sl (RelR L) a0 P rV a w)(i d:Nat){j:Nat}{x:Rat}(hj:j∈Region.ready .any ops rV)(hw:Region.waitsFor .any ops j i=true)(hm:i<m:=by decide)(hd:sl i=d:=by rfl)(hR:L.getD i (Rel.val undef)=Rel.q x:=by rfl):∃ q:QS,a.tmps[d]? = some q.v∧Hid (FQ w q x):=by
 obtain⟨v,hv,hr⟩:=h.at hj hw hm;unfold RelR at hr
 rw[hR]at hr;obtain⟨q,rfl,hq⟩:=hr;exact⟨q,hd▸hv,Lib.hid hq⟩
theorem qEnd (h:RInv ops m sl (RelR L) a0 P rV a w)(bq:∀ j,j<m→rV.getD j false=true)(i d:Nat){x:Rat}(hm:i<m:=by decide)(hd:sl i=d:=by rfl)(hR:L.getD i (Rel.val undef)=Rel.q x:=by rfl):∃ q:QS,a.tmps[d]? = some q.v∧Hid (FQ w q x):=by
 obtain⟨v,hv,hr⟩:=h.slots i hm (bq i hm);unfold RelR at hr
 rw[hR]at hr;obtain⟨q,rfl,hq⟩:=hr;exact⟨q,hd▸hv,Lib.hid hq⟩
end
theorem z4P {w:World}{g:Nat}{T:TypeId}{x0 x1:Value}(h:SBk w g #[x0,x1] T):w.cell? ⟨g,0,none⟩=some x0∧w.cell? ⟨g,1,none⟩=some x1:=⟨h.cell (i:=0) rfl,h.cell (i:=1) rfl⟩
theorem cells3 {w:World}{g:Nat}{T:TypeId}{x0 x1 x2:Value}(h:SBk w g #[x0,x1,x2] T):w.cell? ⟨g,0,none⟩=some x0∧w.cell? ⟨g,1,none⟩=some x1∧w.cell? ⟨g,2,none⟩=some x2:=⟨h.cell (i:=0) rfl,h.cell (i:=1) rfl,h.cell (i:=2) rfl⟩
theorem frz2 {w:World}{g:Nat}{T:TypeId}{x0 x1:Value}(h:SBk w g #[x0,x1] T):w.frozen? ⟨g,0,none⟩=false∧w.frozen? ⟨g,1,none⟩=false:=⟨h.frozen (i:=0),h.frozen (i:=1)⟩
instance {W W':World}{q:QS}{x:Rat}:Gr (FQ W q x) W W' (FQ W' q x):=⟨fun h k=>k.below h⟩
theorem kq2 {f:Nat}{x y z:Rat}(h:∀ p1 c1 s1 d1 p2 c2 s2 d2 W,RN W (.slice p1 (ae x.num) c1) x.num.natAbs→RN W (.slice s1 (ag x.den) d1) x.den→RN W (.slice p2 (ae y.num) c2) y.num.natAbs→RN W (.slice s2 (ag y.den) d2) y.den→Calls Tryz.prog f #[.agg #[.bool (ai x.num),.slice p1 (ae x.num) c1,.slice s1 (ag x.den) d1],.agg #[.bool (ai y.num),.slice p2 (ae y.num) c2,.slice s2 (ag y.den) d2]] W fun e w'=>∃ p c s d,e=.returned (.agg #[.bool (ai z.num),.slice p (ae z.num) c,.slice s (ag z.den) d])∧RN w' (.slice p (ae z.num) c) z.num.natAbs∧RN w' (.slice s (ag z.den) d) z.den∧Below W.heap.size W w'):KQ2 f x y z:=by
 rintro⟨b,a,n,c,e,m,d⟩ ⟨b',a',n',c',e',m',d'⟩ W ⟨h1,h2,h3,h4,h5⟩ ⟨k1,k2,k3,k4,k5⟩
 dsimp only at *;subst h1 h2 h3 k1 k2 k3;exact(h _ _ _ _ _ _ _ _ W h4 h5 k4 k5).mono fun _ _ ⟨p,c,s,d,he,hr,ht,hb⟩=>⟨⟨_,p,_,c,s,_,d⟩,he,⟨rfl,rfl,rfl,hr,ht⟩,hb⟩
theorem kq1 {f:Nat}{x z:Rat}(h:∀ p1 c1 s1 d1 W,RN W (.slice p1 (ae x.num) c1) x.num.natAbs→RN W (.slice s1 (ag x.den) d1) x.den→Calls Tryz.prog f #[.agg #[.bool (ai x.num),.slice p1 (ae x.num) c1,.slice s1 (ag x.den) d1]] W fun e w'=>∃ p c s d,e=.returned (.agg #[.bool (ai z.num),.slice p (ae z.num) c,.slice s (ag z.den) d])∧RN w' (.slice p (ae z.num) c) z.num.natAbs∧RN w' (.slice s (ag z.den) d) z.den∧Below W.heap.size W w'):KQ1 f x z:=by
 rintro⟨b,a,n,c,e,m,d⟩ W ⟨h1,h2,h3,h4,h5⟩
 dsimp only at *;subst h1 h2 h3;exact(h _ _ _ _ W h4 h5).mono fun _ _ ⟨p,c,s,d,he,hr,ht,hb⟩=>⟨⟨_,p,_,c,s,_,d⟩,he,⟨rfl,rfl,rfl,hr,ht⟩,hb⟩
theorem kp2 {f:Nat}{x y:Rat}{v:Value}(h:∀ p1 c1 s1 d1 p2 c2 s2 d2 W,RN W (.slice p1 (ae x.num) c1) x.num.natAbs→RN W (.slice s1 (ag x.den) d1) x.den→RN W (.slice p2 (ae y.num) c2) y.num.natAbs→RN W (.slice s2 (ag y.den) d2) y.den→Calls Tryz.prog f #[.agg #[.bool (ai x.num),.slice p1 (ae x.num) c1,.slice s1 (ag x.den) d1],.agg #[.bool (ai y.num),.slice p2 (ae y.num) c2,.slice s2 (ag y.den) d2]] W fun e w'=>e=.returned v∧Below W.heap.size W w'):KP2 f x y v:=by
 rintro⟨b,a,n,c,e,m,d⟩ ⟨b',a',n',c',e',m',d'⟩ W ⟨h1,h2,h3,h4,h5⟩ ⟨k1,k2,k3,k4,k5⟩
 dsimp only at *;subst h1 h2 h3 k1 k2 k3;exact h _ _ _ _ _ _ _ _ W h4 h5 k4 k5
theorem kp1 {f:Nat}{x:Rat}{v:Value}(h:∀ p1 c1 s1 d1 W,RN W (.slice p1 (ae x.num) c1) x.num.natAbs→RN W (.slice s1 (ag x.den) d1) x.den→Calls Tryz.prog f #[.agg #[.bool (ai x.num),.slice p1 (ae x.num) c1,.slice s1 (ag x.den) d1]] W fun e w'=>e=.returned v∧Below W.heap.size W w'):KP1 f x v:=by
 rintro⟨b,a,n,c,e,m,d⟩ W ⟨h1,h2,h3,h4,h5⟩
 dsimp only at *;subst h1 h2 h3;exact h _ _ _ _ W h4 h5
theorem ks {f:Nat}{v:Value}{z:Rat}(h:∀ W,Calls Tryz.prog f #[v] W fun e w'=>∃ p c s d,e=.returned (.agg #[.bool (ai z.num),.slice p (ae z.num) c,.slice s (ag z.den) d])∧RN w' (.slice p (ae z.num) c) z.num.natAbs∧RN w' (.slice s (ag z.den) d) z.den∧Below W.heap.size W w'):KS f v z:=fun W=>(h W).mono fun _ _ ⟨p,c,s,d,he,hr,ht,hb⟩=>⟨⟨_,p,_,c,s,_,d⟩,he,⟨rfl,rfl,rfl,hr,ht⟩,hb⟩
theorem ksb {f:Nat}{v:Value}{z:Rat}{b:Bool}(h:∀ W,Calls Tryz.prog f #[v] W fun e w'=>∃ p c s d,e=.returned (.tuple #[.agg #[.bool (ai z.num),.slice p (ae z.num) c,.slice s (ag z.den) d],.bool b])∧RN w' (.slice p (ae z.num) c) z.num.natAbs∧RN w' (.slice s (ag z.den) d) z.den∧Below W.heap.size W w'):KSb f v z b:=fun W=>(h W).mono fun _ _ ⟨p,c,s,d,he,hr,ht,hb⟩=>⟨⟨_,p,_,c,s,_,d⟩,he,⟨rfl,rfl,rfl,hr,ht⟩,hb⟩
end Go.Proofs.YteihfbkaieemdaaGreatDoor
set_option maxRecDepth 100000
set_option maxHeartbeats 20000000
open Go.Lib (hid)
namespace Go.Proofs.YteihfbkaieemdaaGreatDoor
open Go.RowKit Go.Gb
theorem zP (n1 n2 z n:Int)(en1 en2 dn:Nat)(p1:Option Addr)(c1:Nat)(s1:Option Addr)(d1:Nat)(p2:Option Addr)(c2:Nat)(s2:Option Addr)(d2:Nat)(w:World)(h0:∀ s1 d1 s2 d2 W,RN W (.slice s1 (ag en1) d1) en1→RN W (.slice s2 (ag en2) d2) en2→CR 101 #[.slice s1 (ag en1) d1,.slice s2 (ag en2) d2] W (.int .i64 0))(h1:∀ p1 c1 p2 c2 W,RN W (.slice p1 (ae n1) c1) n1.natAbs→RN W (.slice p2 (ae n2) c2) n2.natAbs→CZ 102 #[.agg #[.bool (ai n1),.slice p1 (ae n1) c1],.agg #[.bool (ai n2),.slice p2 (ae n2) c2]] W z)(h3:∀ p1 c1 s2 d2 W,RN W (.slice p1 (ae z) c1) z.natAbs→RN W (.slice s2 (ag en1) d2) en1→CF 72 #[.agg #[.bool (ai z),.slice p1 (ae z) c1],.slice s2 (ag en1) d2] W n dn)(r1:RN w (.slice p1 (ae n1) c1) n1.natAbs)(t1:RN w (.slice s1 (ag en1) d1) en1)(r2:RN w (.slice p2 (ae n2) c2) n2.natAbs)(t2:RN w (.slice s2 (ag en2) d2) en2) :
 CF 66 #[.agg #[.bool (ai n1),.slice p1 (ae n1) c1,.slice s1 (ag en1) d1],.agg #[.bool (ai n2),.slice p2 (ae n2) c2,.slice s2 (ag en2) d2]] w n dn:=by
 obtain ⟨C0,C1,C3,R1,T1,R2,T2⟩:=dC h0 h1 h3 r1 t1 r2 t2;clear h0 h1 h3 r1 t1 r2 t2;go_enter Tryz.func66,Tryz.ntmps66
 go_upto_region 1 with fail
 refine ay w [(#[.bool (ai n1),.slice p1 (ae n1) c1,.slice s1 (ag en1) d1],54),(#[.bool (ai n2),.slice p2 (ae n2) c2,.slice s2 (ag en2) d2],54),(#[.bool false,.slice none 0 0,.slice none 0 0],54)] rfl ?_;rintro W0 ⟨k1,k2,k3,hb⟩;have rM:=hid (show Below w.heap.size w W0 from hb);obtain ⟨R1,T1,R2,T2⟩:=bC rM.o R1 T1 R2 T2;obtain ⟨K1,K2,K3⟩:=ak k1 k2 k3;clear k1 k2 k3 hb;have mi:=K1.o.cell (i:=2) rfl;have bn:=K2.o.cell (i:=2) rfl;go_wp2_with fail
 with_reducible refine(C0.o _ _ _ _ _ T1.o T2.o).mono ?_
 rintro e W1 ⟨rfl,hb⟩;clear mi bn;obtain ⟨K1,K2,K3,R1,T1,R2⟩:=iy hb K1 K2 K3 R1 T1 R2;have p8:=hbt rM hb;clear hb;go_wp2_with fail
 refine aG (fun a0 a' V=>∃ pq ol u6 w9 wm wo,a'=⟨putL [(13,.pointer (some ⟨w.heap.size,0,none⟩)),(14,.agg #[.bool (ai n1),.slice p1 (ae n1) c1]),(15,.pointer (some ⟨w.heap.size+1,0,none⟩)),(16,.agg #[.bool (ai n2),.slice p2 (ae n2) c2]),(17,.agg #[.bool (ai z),.slice pq (ae z) ol]),(18,.pointer (some ⟨w.heap.size,2,none⟩)),(19,.slice s1 (ag en1) d1),(20,.agg #[.bool (ai n),.slice u6 (ae n) w9,.slice wm (ag dn) wo])] a0.tmps,a0.defers⟩∧Below w.heap.size w V∧SBk V (w.heap.size+1+1) #[.bool (ai n),.slice u6 (ae n) w9,.slice wm (ag dn) wo] 54∧RN V (.slice u6 (ae n) w9) (n).natAbs∧RN V (.slice wm (ag dn) wo) (dn)) ?_ ?_
 · refine bN 8 1 [13,14,15,16,17,18,19,20] [Rel.val (.pointer (some ⟨w.heap.size,0,none⟩)),Rel.val (.agg #[.bool (ai n1),.slice p1 (ae n1) c1]),Rel.val (.pointer (some ⟨w.heap.size+1,0,none⟩)),Rel.val (.agg #[.bool (ai n2),.slice p2 (ae n2) c2]),Rel.int z,Rel.val (.pointer (some ⟨w.heap.size,2,none⟩)),Rel.val (.slice s1 (ag en1) d1),⟨fun v W=>∃ p c s d,v=.agg #[.bool (ai n),.slice p (ae n) c,.slice s (ag dn) d]∧RN W (.slice p (ae n) c) (n).natAbs∧RN W (.slice s (ag dn) d) (dn),fun _ _ _ ⟨p,c,s,d,e,h0,h1⟩ hb=>⟨p,c,s,d,e,h0.below hb,h1.below hb⟩⟩] ?_ ?_
   · intro rV a W i HI hD Hr him
     obtain⟨y2,y3⟩:=HI.o.s2 2 3;obtain ⟨lv,kz⟩:=av (K1.o.below HI.o.world) rfl rfl;obtain ⟨bu,bv⟩:=av (K2.o.below HI.o.world) rfl rfl;have mi:=(K1.o.below HI.o.world).cell (i:=2) rfl;obtain⟨X0,X2,X1,X3,X5,X6⟩:=HI.o.g6 0 13 2 15 1 14 3 16 5 18 6 19
     match i,him,Hr with
     | 0,_,Hi|1,_,Hi|2,_,Hi|3,_,Hi =>
       try have x0:=X0.t Hi.o
       try have x2:=X2.t Hi.o
       refine aI rfl fun K' hK=>?_;go_simp;exact hK.o _ _ (HI.o.pw Hi.o)
     | 4,_,Hi =>
       have x1:=X1.q Hi.o;have x3:=X3.q Hi.o;refine aI rfl fun K' hK=>?_;go_simp;with_reducible refine(C1.o _ _ _ _ _ (R1.o.below HI.o.world) (R2.o.below HI.o.world)).mono ?_
       rintro e W' ⟨pq,ol,rfl,l5,hb⟩;exact hK.o _ _ ⟨HI.o.pc Hi.o hb ⟨pq,ol,rfl,l5⟩,trivial⟩
     | 5,_,Hi|6,_,Hi =>
       try have x5:=X5.t Hi.o
       refine aI rfl fun K' hK=>?_;go_simp;exact hK.o _ _ (HI.o.pw Hi.o)
     | 7,_,Hi =>
       obtain⟨v',x4,pq,ol,e,l5⟩:=HI.o.at (i:=4) Hi.o (by kernel_rfl) (by decide);obtain rfl:=e;have x4:a.tmps[17]? = some (.agg #[.bool (ai z),.slice pq (ae z) ol]):=x4;have dX:=hid l5;clear l5;have x6:=X6.q Hi.o;refine aI rfl fun K' hK=>?_;go_simp;with_reducible refine(C3.o _ _ _ _ _ dX.o (T1.o.below HI.o.world)).mono ?_
       rintro e W' ⟨u6,w9,wm,wo,rfl,fQ,ed,hb⟩;exact hK.o _ _ ⟨HI.o.pc Hi.o hb ⟨u6,w9,wm,wo,rfl,fQ,ed⟩,trivial⟩
     | n+8,h,_=>exact absurd h (by omega)
   · intro rV a W HI hD HA
     obtain⟨v',x4,pq,ol,e,l5⟩:=HI.o.slots 4 (by decide) (HA.o 4 (by decide));obtain rfl:=e;have dX:=hid l5;clear l5;obtain⟨v',x7,u6,w9,wm,wo,e,fQ,ed⟩:=HI.o.slots 7 (by decide) (HA.o 7 (by decide));obtain rfl:=e;have bM:=hid fQ;clear fQ;have bV:=hid ed;clear ed;have x7:a.tmps[20]? = some (.agg #[.bool (ai n),.slice u6 (ae n) w9,.slice wm (ag dn) wo]):=x7;have kM:=hid HI.o.world;obtain ⟨dY,K3⟩:=aB (p8.o.trans (kM.o.mono p8.o.size)) (K3.o.below kM.o);have RZ:=dX;have RQ:=bM;have TQ:=bV;have y4:=HI.o.rst 4 rfl;obtain ⟨kV,gy,gF⟩:=aQ K3.o rfl rfl rfl;obtain ⟨af,au,u00⟩:=bZ K3.o;refine aY (t:=0) ?_;refine aI rfl fun K' hK=>?_;go_simp;refine hK.o _ _ ?_;clear hK;refine bH ?_;have s0:∀ {v':Value} {n':Nat},RN W v' n'→RN (storeAll W (w.heap.size+1+1) 0 [.bool (ai n),.slice u6 (ae n) w9,.slice wm (ag dn) wo]) v' n':=fun h'=>bB _ h' K3.o (by simp[bQ]) (by simp[bi]);exact⟨rfl,pq,ol,u6,w9,wm,wo,(HI.o.finx ⟨HI.o.sx HA.o 0,HI.o.sx HA.o 1,HI.o.sx HA.o 2,HI.o.sx HA.o 3,x4,HI.o.sx HA.o 5,HI.o.sx HA.o 6,x7,trivial⟩ rfl),(ax (l:=[.bool (ai n),.slice u6 (ae n) w9,.slice wm (ag dn) wo]) (i:=0) (by omega) dY.o),(dm (l:=[.bool (ai n),.slice u6 (ae n) w9,.slice wm (ag dn) wo]) (i:=0) K3.o),(s0 RQ.o),(s0 TQ.o)⟩
 rintro a' W2 ⟨pq,ol,u6,w9,wm,wo,rfl,z0,z1,z2,z3⟩;obtain ⟨fq,K3,RQ,TQ⟩:=aJ z0 z1 z2 z3;clear z0 z1 z2 z3;simp only[putL,List.setIfInBounds_toArray,List.set_cons_zero,List.set_cons_succ];go_wp2;obtain ⟨kV,gy,gF⟩:=aQ K3.o rfl rfl rfl;exact bodyPost_ret (v:=.agg #[.bool (ai n),.slice u6 (ae n) w9,.slice wm (ag dn) wo]) (by simp[results,Tryz.results66,go_sem,kV,gy,gF]) rfl ⟨_,_,_,_,rfl,RQ.o,TQ.o,fq.o⟩
open Go.Lib (hid)
theorem z1u (n1 n2 m n:Int)(en1 en2 f dn:Nat)(p1:Option Addr)(c1:Nat)(s1:Option Addr)(d1:Nat)(p2:Option Addr)(c2:Nat)(s2:Option Addr)(d2:Nat)(w:World)(h1:∀ p1 c1 s1 d1 W,RN W (.slice p1 (ae n2) c1) n2.natAbs→RN W (.slice s1 (ag en2) d1) en2→CF 83 #[.agg #[.bool (ai n2),.slice p1 (ae n2) c1,.slice s1 (ag en2) d1]] W m f)(h2:∀ p1 c1 s1 d1 p2 c2 s2 d2 W,RN W (.slice p1 (ae n1) c1) n1.natAbs→RN W (.slice s1 (ag en1) d1) en1→RN W (.slice p2 (ae m) c2) m.natAbs→RN W (.slice s2 (ag f) d2) f→CF 66 #[.agg #[.bool (ai n1),.slice p1 (ae n1) c1,.slice s1 (ag en1) d1],.agg #[.bool (ai m),.slice p2 (ae m) c2,.slice s2 (ag f) d2]] W n dn)(r1:RN w (.slice p1 (ae n1) c1) n1.natAbs)(t1:RN w (.slice s1 (ag en1) d1) en1)(r2:RN w (.slice p2 (ae n2) c2) n2.natAbs)(t2:RN w (.slice s2 (ag en2) d2) en2) :
 CF 67 #[.agg #[.bool (ai n1),.slice p1 (ae n1) c1,.slice s1 (ag en1) d1],.agg #[.bool (ai n2),.slice p2 (ae n2) c2,.slice s2 (ag en2) d2]] w n dn:=by
 obtain ⟨C1,C2,R1,T1,R2,T2⟩:=cK h1 h2 r1 t1 r2 t2;clear h1 h2 r1 t1 r2 t2;go_enter Tryz.func67,Tryz.ntmps67
 go_upto_region 1 with fail
 refine ay w [(#[.bool (ai n1),.slice p1 (ae n1) c1,.slice s1 (ag en1) d1],54),(#[.bool (ai n2),.slice p2 (ae n2) c2,.slice s2 (ag en2) d2],54),(#[.bool false,.slice none 0 0,.slice none 0 0],54)] rfl ?_;rintro W0 ⟨k1,k2,k3,hb⟩;have rM:=hid (show Below w.heap.size w W0 from hb);obtain ⟨R1,T1,R2,T2⟩:=bC rM.o R1 T1 R2 T2;obtain ⟨K1,K2,K3⟩:=ak k1 k2 k3;clear k1 k2 k3 hb;go_wp2_with fail
 refine aG (fun a0 a' V=>∃ oM oV ma mf wu ww sw r9,a'=⟨putL [(5,.agg #[.bool (ai n1),.slice p1 (ae n1) c1,.slice s1 (ag en1) d1]),(6,.agg #[.bool (ai n2),.slice p2 (ae n2) c2,.slice s2 (ag en2) d2]),(7,.agg #[.bool (ai m),.slice oM (ae m) oV,.slice ma (ag f) mf]),(8,.agg #[.bool (ai n),.slice wu (ae n) ww,.slice sw (ag dn) r9])] a0.tmps,a0.defers⟩∧Below w.heap.size w V∧SBk V (w.heap.size+1+1) #[.bool (ai n),.slice wu (ae n) ww,.slice sw (ag dn) r9] 54∧RN V (.slice wu (ae n) ww) (n).natAbs∧RN V (.slice sw (ag dn) r9) (dn)) ?_ ?_
 · refine bN 4 1 [5,6,7,8] [Rel.val (.agg #[.bool (ai n1),.slice p1 (ae n1) c1,.slice s1 (ag en1) d1]),Rel.val (.agg #[.bool (ai n2),.slice p2 (ae n2) c2,.slice s2 (ag en2) d2]),⟨fun v W=>∃ p c s d,v=.agg #[.bool (ai m),.slice p (ae m) c,.slice s (ag f) d]∧RN W (.slice p (ae m) c) (m).natAbs∧RN W (.slice s (ag f) d) (f),fun _ _ _ ⟨p,c,s,d,e,h0,h1⟩ hb=>⟨p,c,s,d,e,h0.below hb,h1.below hb⟩⟩,⟨fun v W=>∃ p c s d,v=.agg #[.bool (ai n),.slice p (ae n) c,.slice s (ag dn) d]∧RN W (.slice p (ae n) c) (n).natAbs∧RN W (.slice s (ag dn) d) (dn),fun _ _ _ ⟨p,c,s,d,e,h0,h1⟩ hb=>⟨p,c,s,d,e,h0.below hb,h1.below hb⟩⟩] ?_ ?_
   · intro rV a W i HI hD Hr him
     obtain⟨y2,y3⟩:=HI.o.s2 2 3;obtain ⟨lv,kz,mi⟩:=aQ (K1.o.below HI.o.world) rfl rfl rfl;obtain ⟨bu,bv,bn⟩:=aQ (K2.o.below HI.o.world) rfl rfl rfl;obtain⟨X1,X0⟩:=HI.o.g2 1 6 0 5
     match i,him,Hr with
     | 0,_,Hi|1,_,Hi =>
       refine aI rfl fun K' hK=>?_;go_simp;exact hK.o _ _ (HI.o.pw Hi.o)
     | 2,_,Hi =>
       have x1:=X1.q Hi.o;refine aI rfl fun K' hK=>?_;go_simp;with_reducible refine(C1.o _ _ _ _ _ (R2.o.below HI.o.world) (T2.o.below HI.o.world)).mono ?_
       rintro e W' ⟨oM,oV,ma,mf,rfl,l6,lg,hb⟩;exact hK.o _ _ ⟨HI.o.pc Hi.o hb ⟨oM,oV,ma,mf,rfl,l6,lg⟩,trivial⟩
     | 3,_,Hi =>
       have x0:=X0.q Hi.o;obtain⟨v',x2,oM,oV,ma,mf,e,l6,lg⟩:=HI.o.at (i:=2) Hi.o (by kernel_rfl) (by decide);obtain rfl:=e;have x2:a.tmps[7]? = some (.agg #[.bool (ai m),.slice oM (ae m) oV,.slice ma (ag f) mf]):=x2;have cO:=hid l6;clear l6;have bg:=hid lg;clear lg;refine aI rfl fun K' hK=>?_;go_simp;with_reducible refine(C2.o _ _ _ _ _ _ _ _ _ (R1.o.below HI.o.world) (T1.o.below HI.o.world) cO.o bg.o).mono ?_
       rintro e W' ⟨wu,ww,sw,r9,rfl,dx,dz,hb⟩;exact hK.o _ _ ⟨HI.o.pc Hi.o hb ⟨wu,ww,sw,r9,rfl,dx,dz⟩,trivial⟩
     | n+4,h,_=>exact absurd h (by omega)
   · intro rV a W HI hD HA
     obtain⟨v',x2,oM,oV,ma,mf,e,l6,lg⟩:=HI.o.slots 2 (by decide) (HA.o 2 (by decide));obtain rfl:=e;have cO:=hid l6;clear l6;have bg:=hid lg;clear lg;obtain⟨v',x3,wu,ww,sw,r9,e,dx,dz⟩:=HI.o.slots 3 (by decide) (HA.o 3 (by decide));obtain rfl:=e;have u01:=hid dx;clear dx;have u02:=hid dz;clear dz;have x3:a.tmps[8]? = some (.agg #[.bool (ai n),.slice wu (ae n) ww,.slice sw (ag dn) r9]):=x3;have kM:=hid HI.o.world;obtain ⟨dY,K3⟩:=aB (rM.o.trans (kM.o.mono rM.o.size)) (K3.o.below kM.o);have RM:=cO;have TM:=bg;have RQ:=u01;have TQ:=u02;have y4:=HI.o.rst 4 rfl;obtain ⟨kV,gy,gF⟩:=aQ K3.o rfl rfl rfl;obtain ⟨af,au,u00⟩:=bZ K3.o;refine aY (t:=0) ?_;refine aI rfl fun K' hK=>?_;go_simp;refine hK.o _ _ ?_;clear hK;refine bH ?_;have s0:∀ {v':Value} {n':Nat},RN W v' n'→RN (storeAll W (w.heap.size+1+1) 0 [.bool (ai n),.slice wu (ae n) ww,.slice sw (ag dn) r9]) v' n':=fun h'=>bB _ h' K3.o (by simp[bQ]) (by simp[bi]);exact⟨rfl,oM,oV,ma,mf,wu,ww,sw,r9,(HI.o.finx ⟨HI.o.sx HA.o 0,HI.o.sx HA.o 1,x2,x3,trivial⟩ rfl),(ax (l:=[.bool (ai n),.slice wu (ae n) ww,.slice sw (ag dn) r9]) (i:=0) (by omega) dY.o),(dm (l:=[.bool (ai n),.slice wu (ae n) ww,.slice sw (ag dn) r9]) (i:=0) K3.o),(s0 RQ.o),(s0 TQ.o)⟩
 rintro a' W1 ⟨oM,oV,ma,mf,wu,ww,sw,r9,rfl,z0,z1,z2,z3⟩;obtain ⟨p8,K3,RQ,TQ⟩:=aJ z0 z1 z2 z3;clear z0 z1 z2 z3;simp only[putL,List.setIfInBounds_toArray,List.set_cons_zero,List.set_cons_succ];go_wp2;obtain ⟨kV,gy,gF⟩:=aQ K3.o rfl rfl rfl;exact bodyPost_ret (v:=.agg #[.bool (ai n),.slice wu (ae n) ww,.slice sw (ag dn) r9]) (by simp[results,Tryz.results67,go_sem,kV,gy,gF]) rfl ⟨_,_,_,_,rfl,RQ.o,TQ.o,p8.o⟩
end Go.Proofs.YteihfbkaieemdaaGreatDoor
open Go.Lib (hid)
namespace Go.Proofs.YteihfbkaieemdaaGreatDoor
open Go.RowKit Go.Gb
theorem z3w (n:Int)(en:Nat)(sn:ByteArray)(p1:Option Addr)(c1:Nat)(s1:Option Addr)(d1:Nat)(w:World)(h1:∀ p1 c1 W,RN W (.slice p1 (ae n) c1) n.natAbs→CR 99 #[.agg #[.bool (ai n),.slice p1 (ae n) c1]] W (.string sn))(h2:∀ s1 d1 W,RN W (.slice s1 (ag en) d1) en→CR 100 #[.slice s1 (ag en) d1] W (.string ⟨#[49]⟩))(r1:RN w (.slice p1 (ae n) c1) n.natAbs)(t1:RN w (.slice s1 (ag en) d1) en) :
 CR 65 #[.agg #[.bool (ai n),.slice p1 (ae n) c1,.slice s1 (ag en) d1]] w (.string sn):=by
 obtain ⟨C1,C2,R1,T1⟩:=aJ h1 h2 r1 t1;clear h1 h2 r1 t1;go_enter Tryz.func65,Tryz.ntmps65
 go_upto_region 1 with fail
 refine ay w [(#[.bool (ai n),.slice p1 (ae n) c1,.slice s1 (ag en) d1],54)] rfl ?_;rintro W0 ⟨k1,hb⟩;have rM:=hid (show Below w.heap.size w W0 from hb);obtain ⟨R1,T1⟩:=aU rM.o R1 T1;have K1:=Lib.hid k1;clear k1 hb;obtain ⟨lv,kz⟩:=av K1.o rfl rfl;go_wp2_with fail
 with_reducible refine(C1.o _ _ _ R1.o).mono ?_
 rintro e W1 ⟨rfl,hb⟩;clear lv kz;obtain ⟨K1,T1⟩:=aU hb K1 T1;have p8:=hbt rM hb;clear hb;have mi:=K1.o.cell (i:=2) rfl;go_wp2_with fail
 with_reducible refine(C2.o _ _ _ T1.o).mono ?_
 rintro e W2 ⟨rfl,hb⟩;clear mi;have fq:=hbt p8 hb;clear hb;go_wp2;exact bodyPost_ret (v:=.string sn) (by simp[results,Tryz.results65,go_sem]) rfl ⟨rfl,fq.o⟩
theorem z1t (n:Int)(en:Nat)(sn sd res:ByteArray)(hsd:(sd.toList==[49])=false)(hr:sn++(⟨#[47]⟩++sd)=res)(hl1:sn.size≤10000)(hl2:sd.size≤10000)(p1:Option Addr)(c1:Nat)(s1:Option Addr)(d1:Nat)(w:World)(h1:∀ p1 c1 W,RN W (.slice p1 (ae n) c1) n.natAbs→CR 99 #[.agg #[.bool (ai n),.slice p1 (ae n) c1]] W (.string sn))(h2:∀ s1 d1 W,RN W (.slice s1 (ag en) d1) en→CR 100 #[.slice s1 (ag en) d1] W (.string sd))(r1:RN w (.slice p1 (ae n) c1) n.natAbs)(t1:RN w (.slice s1 (ag en) d1) en) :
 CR 65 #[.agg #[.bool (ai n),.slice p1 (ae n) c1,.slice s1 (ag en) d1]] w (.string res):=by
 obtain ⟨C1,C2,R1,T1,HR,HL1,HL2⟩:=dC h1 h2 r1 t1 hr hl1 hl2;have k0:¬ sd.toList=[49]:=by simpa using hsd
 clear hr hl1 hl2 h1 h2 r1 t1;go_enter Tryz.func65,Tryz.ntmps65
 go_upto_region 1 with fail
 refine ay w [(#[.bool (ai n),.slice p1 (ae n) c1,.slice s1 (ag en) d1],54)] rfl ?_;rintro W0 ⟨k1,hb⟩;have rM:=hid (show Below w.heap.size w W0 from hb);obtain ⟨R1,T1⟩:=aU rM.o R1 T1;have K1:=Lib.hid k1;clear k1 hb;obtain ⟨lv,kz⟩:=av K1.o rfl rfl;go_wp2_with fail
 with_reducible refine(C1.o _ _ _ R1.o).mono ?_
 rintro e W1 ⟨rfl,hb⟩;clear lv kz;obtain ⟨K1,T1⟩:=aU hb K1 T1;have p8:=hbt rM hb;clear hb;have mi:=K1.o.cell (i:=2) rfl;go_wp2_with fail
 with_reducible refine(C2.o _ _ _ T1.o).mono ?_
 rintro e W2 ⟨rfl,hb⟩;clear mi;have fq:=hbt p8 hb;clear hb;have ha1:=run_string_add_sum (P:=Tryz.prog) W2 ⟨#[47]⟩ sd (by have:=HL2.o;have e:(⟨#[47]⟩:ByteArray).size=1:=rfl;omega);have ha2:=run_string_add_sum (P:=Tryz.prog) W2 sn (⟨#[47]⟩++sd) (by have:=HL1.o;have:=HL2.o;have e:(⟨#[47]⟩:ByteArray).size=1:=rfl;rw[ByteArray.size_append];omega);rw[HR.o]at ha2;go_wp2;exact bodyPost_ret (v:=.string res) (by simp[results,Tryz.results65,go_sem]) rfl ⟨rfl,fq.o⟩
