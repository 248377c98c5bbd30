/- texts -/
import Derived.Test.YtikihamjpenboaaGreatDoorMz30q
open Go.Proofs.Tryz
namespace Go.Proofs.YtikihamjpenboaaGreatDoor
open Go.RowKit Go.Gb
structure QS where
 b:Bool
 a:Option Addr
 n:Nat
 c:Nat
 e:Option Addr
 m:Nat
 d:Nat
def FQ (W:World) (q:QS) (x:Rat):Prop:=q.b=ah x.num∧q.n=aa x.num∧q.m=ag x.den∧RN W (.slice q.a q.n q.c) x.num.natAbs∧RN W (.slice q.e q.m q.d) x.den
theorem FQ.below {W W':World}{q:QS}{x:Rat}(h:FQ W q x)(hb:Below W.heap.size W W'):FQ W' q x:=⟨h.1,h.2.1,h.2.2.1,h.2.2.2.1.below hb,h.2.2.2.2.below hb⟩
theorem eu {q:QS}{x:Rat}{g:Nat}{T:TypeId}(l:List Value)(i:Nat){w:World}{cs:Array Value}(h:FQ w q x)(hg:SBk w g cs T)(hn:bF cs=true)(hl:l.all aY=true):FQ (storeAll w g i l) q x:=⟨h.1,h.2.1,h.2.2.1,jh l i h.2.2.2.1 hg hn hl,jh l i h.2.2.2.2 hg hn hl⟩
abbrev QS.l (q:QS):List Value:=[.bool q.b,.slice q.a q.n q.c,.slice q.e q.m q.d]
abbrev Lvv (qa qb qc:QS):List Value:=[.bool qa.b,.slice qa.a qa.n qa.c,.slice qa.e qa.m qa.d,.bool qb.b,.slice qb.a qb.n qb.c,.slice qb.e qb.m qb.d,.bool qc.b,.slice qc.a qc.n qc.c,.slice qc.e qc.m qc.d]
abbrev QS.v (q:QS):Value:=.agg #[.bool q.b,.slice q.a q.n q.c,.slice q.e q.m q.d]
abbrev RQ (W:World) (x:Rat):Ending→World→Prop:=fun e w'=>∃ q:QS,e=.returned (.agg #[.bool q.b,.slice q.a q.n q.c,.slice q.e q.m q.d])∧FQ w' q x∧Below W.heap.size W w'
abbrev RQb (W:World) (x:Rat) (b:Bool):Ending→World→Prop:=fun e w'=>∃ q:QS,e=.returned (.tuple #[.agg #[.bool q.b,.slice q.a q.n q.c,.slice q.e q.m q.d],.bool b])∧FQ w' q x∧Below W.heap.size W w'
abbrev RF (W:World) (xa xb xc xd xe xf xg xh xi:Rat):Ending→World→Prop:=fun e w'=>∃ qa qb qc qd qe qf qg qh qi:QS,e=.returned (.tuple #[.agg #[.bool qa.b,.slice qa.a qa.n qa.c,.slice qa.e qa.m qa.d,.bool qb.b,.slice qb.a qb.n qb.c,.slice qb.e qb.m qb.d,.bool qc.b,.slice qc.a qc.n qc.c,.slice qc.e qc.m qc.d,.bool qd.b,.slice qd.a qd.n qd.c,.slice qd.e qd.m qd.d,.bool qe.b,.slice qe.a qe.n qe.c,.slice qe.e qe.m qe.d,.bool qf.b,.slice qf.a qf.n qf.c,.slice qf.e qf.m qf.d,.bool qg.b,.slice qg.a qg.n qg.c,.slice qg.e qg.m qg.d,.bool qh.b,.slice qh.a qh.n qh.c,.slice qh.e qh.m qh.d,.bool qi.b,.slice qi.a qi.n qi.c,.slice qi.e qi.m qi.d],.int .i64 0])∧FQ w' qa xa∧FQ w' qb xb∧FQ w' qc xc∧FQ w' qd xd∧FQ w' qe xe∧FQ w' qf xf∧FQ w' qg xg∧FQ w' qh xh∧FQ w' qi xi∧Below W.heap.size W w'
abbrev RP (W:World) (v:Value):Ending→World→Prop:=fun e w'=>e=.returned v∧Below W.heap.size W w'
abbrev KQ2 (f:Nat) (x0 x1:Rat) (z:Rat):Prop:=∀ (q0 q1:QS) (W:World),FQ W q0 x0→FQ W q1 x1→Calls Tryz.prog f #[.agg #[.bool q0.b,.slice q0.a q0.n q0.c,.slice q0.e q0.m q0.d],.agg #[.bool q1.b,.slice q1.a q1.n q1.c,.slice q1.e q1.m q1.d]] W (RQ W z)
abbrev KP1 (f:Nat) (x0:Rat) (v:Value):Prop:=∀ (q0:QS) (W:World),FQ W q0 x0→Calls Tryz.prog f #[.agg #[.bool q0.b,.slice q0.a q0.n q0.c,.slice q0.e q0.m q0.d]] W (RP W v)
abbrev KP2 (f:Nat) (x0 x1:Rat) (v:Value):Prop:=∀ (q0 q1:QS) (W:World),FQ W q0 x0→FQ W q1 x1→Calls Tryz.prog f #[.agg #[.bool q0.b,.slice q0.a q0.n q0.c,.slice q0.e q0.m q0.d],.agg #[.bool q1.b,.slice q1.a q1.n q1.c,.slice q1.e q1.m q1.d]] W (RP W v)
abbrev KS (f:Nat) (v0:Value) (z:Rat):Prop:=∀ (W:World),Calls Tryz.prog f #[v0] W (RQ W z)
abbrev KSb (f:Nat) (v0:Value) (z:Rat) (b:Bool):Prop:=∀ (W:World),Calls Tryz.prog f #[v0] W (RQb W z b)
abbrev KPs (f:Nat) (v0 v:Value):Prop:=∀ W:World,Calls Tryz.prog f #[v0] W (RP W v)
def Rel.q (x:Rat):Rel:=⟨fun v W=>∃ q:QS,v=q.v∧FQ W q x,fun _ _ _ ⟨q,e,h⟩ hb=>⟨q,e,h.below hb⟩⟩
section
variable {ops:Array Oper} {m:Nat} {sl:Nat→Nat} {L:List Rel} {a0:Act} {P:World→Prop} {rM:Array Bool} {a:Act} {w:World}
theorem qAt (h:RInv ops m sl (RelR L) a0 P rM a w)(i d:Nat){j:Nat}{x:Rat}(hj:j∈Region.ready .any ops rM)(hw:Region.waitsFor .any ops j i=true)(hm:i<m:=by decide)(hd:sl i=d:=by rfl)(hR:L.getD i (Rel.val undef)=Rel.q x:=by rfl):∃ q:QS,a.tmps[d]? = some q.v∧Hid (FQ w q x):=by
 obtain⟨v,hv,hr⟩:=h.at hj hw hm;unfold RelR at hr
 rw[hR]at hr;obtain⟨q,rfl,hq⟩:=hr;exact⟨q,hd▸hv,Lib.hid hq⟩
theorem qEnd (h:RInv ops m sl (RelR L) a0 P rM a w)(dX:∀ j,j<m→rM.getD j false=true)(i d:Nat){x:Rat}(hm:i<m:=by decide)(hd:sl i=d:=by rfl)(hR:L.getD i (Rel.val undef)=Rel.q x:=by rfl):∃ q:QS,a.tmps[d]? = some q.v∧Hid (FQ w q x):=by
 obtain⟨v,hv,hr⟩:=h.slots i hm (dX i hm);unfold RelR at hr
 rw[hR]at hr;obtain⟨q,rfl,hq⟩:=hr;exact⟨q,hd▸hv,Lib.hid hq⟩
end
theorem z4A {w:World}{g:Nat}{T:TypeId}{x0 x1:Value}(h:SBk w g #[x0,x1] T):w.cell? ⟨g,0,none⟩=some x0∧w.cell? ⟨g,1,none⟩=some x1:=⟨h.cell (i:=0) rfl,h.cell (i:=1) rfl⟩
theorem cells3 {w:World}{g:Nat}{T:TypeId}{x0 x1 x2:Value}(h:SBk w g #[x0,x1,x2] T):w.cell? ⟨g,0,none⟩=some x0∧w.cell? ⟨g,1,none⟩=some x1∧w.cell? ⟨g,2,none⟩=some x2:=⟨h.cell (i:=0) rfl,h.cell (i:=1) rfl,h.cell (i:=2) rfl⟩
theorem frz2 {w:World}{g:Nat}{T:TypeId}{x0 x1:Value}(h:SBk w g #[x0,x1] T):w.frozen? ⟨g,0,none⟩=false∧w.frozen? ⟨g,1,none⟩=false:=⟨h.frozen (i:=0),h.frozen (i:=1)⟩
theorem frz3 {w:World}{g:Nat}{T:TypeId}{x0 x1 x2:Value}(h:SBk w g #[x0,x1,x2] T):w.frozen? ⟨g,0,none⟩=false∧w.frozen? ⟨g,1,none⟩=false∧w.frozen? ⟨g,2,none⟩=false:=⟨h.frozen (i:=0),h.frozen (i:=1),h.frozen (i:=2)⟩
instance {W W':World}{q:QS}{x:Rat}:Gr (FQ W q x) W W' (FQ W' q x):=⟨fun h k=>k.below h⟩
end Go.Proofs.YtikihamjpenboaaGreatDoor
set_option maxRecDepth 100000
set_option maxHeartbeats 20000000
open Go.Lib (hid)
namespace Go.Proofs.YtikihamjpenboaaGreatDoor
open Go.RowKit Go.Gb
theorem yU (r:Nat)(k:Int)(on:Nat)(p1:Option Addr)(c1:Nat)(w:World)(h1:∀ (p:Option Addr) (c:Nat) (W:World),RN W (.slice p (ag r) c) r→CZ 62 #[.bool false,.slice p (ag r) c] W k)(h2:∀ W:World,CN 57 #[.int .u32 1] W on)(r1:RN w (.slice p1 (ag r) c1) r) :
 CF 25 #[.slice p1 (ag r) c1] w k on:=by
 obtain ⟨C1,C2,R1⟩:=ak h1 h2 r1;clear h1 h2 r1;go_enter func25,ntmps25
 go_upto_region 1 with fail
 refine az w [(#[.bool false,.slice none 0 0,.slice none 0 0],51)] rfl ?_;rintro W0 ⟨k1,hb⟩;have u6:=hid (show Below w.heap.size w W0 from hb);have R1:=hid (R1.o.below u6.o);have K1:=hid k1;clear k1 hb;go_wp2_with fail
 with_reducible refine(C1.o _ _ _ R1.o).mono ?_
 rintro e W1 ⟨kS,kV,rfl,dx,hb⟩;have K1:=hid (K1.o.below hb);have rq:=hbt u6 hb;have RK:=hid dx;clear hb dx;go_wp2_with fail
 with_reducible refine(C2.o _).mono ?_
 rintro e W2 ⟨gy,gF,rfl,dz,hb⟩;obtain ⟨K1,RK⟩:=aH hb K1 RK;have oM:=hbt rq hb;have RO:=hid dz;clear hb dz;obtain ⟨oV,mf,ru⟩:=aP K1.o rfl rfl rfl;obtain ⟨bS,bV,af⟩:=bU K1.o;go_wp2;exact bodyPost_ret (v:=.agg #[.bool (ah k),.slice kS (aa k) kV,.slice gy (ag on) gF]) (by simp[results,results25,go_sem,oV,mf,ru]) rfl ⟨_,_,_,_,rfl,(aS [.bool (ah k),.slice kS (aa k) kV,.slice gy (ag on) gF] RK.o K1.o (by simp[bF]) (by simp[aY])),(aS [.bool (ah k),.slice kS (aa k) kV,.slice gy (ag on) gF] RO.o K1.o (by simp[bF]) (by simp[aY])),(ay (l:=[.bool (ah k),.slice kS (aa k) kV,.slice gy (ag on) gF]) (i:=0) (by omega) oM.o)⟩
open Go.Lib (hid)
theorem z0S (n1 n2 z n:Int)(en1 en2 dn:Nat)(p1:Option Addr)(c1:Nat)(s1:Option Addr)(d1:Nat)(p2:Option Addr)(c2:Nat)(s2:Option Addr)(d2:Nat)(w:World)(h0:∀ s1 d1 s2 d2 W,RN W (.slice s1 (ag en1) d1) en1→RN W (.slice s2 (ag en2) d2) en2→CR 58 #[.slice s1 (ag en1) d1,.slice s2 (ag en2) d2] W (.int .i64 0))(h1:∀ p1 c1 p2 c2 W,RN W (.slice p1 (aa n1) c1) n1.natAbs→RN W (.slice p2 (aa n2) c2) n2.natAbs→CZ 101 #[.agg #[.bool (ah n1),.slice p1 (aa n1) c1],.agg #[.bool (ah n2),.slice p2 (aa n2) c2]] W z)(h3:∀ p1 c1 s2 d2 W,RN W (.slice p1 (aa z) c1) z.natAbs→RN W (.slice s2 (ag en1) d2) en1→CF 68 #[.agg #[.bool (ah z),.slice p1 (aa z) c1],.slice s2 (ag en1) d2] W n dn)(r1:RN w (.slice p1 (aa n1) c1) n1.natAbs)(t1:RN w (.slice s1 (ag en1) d1) en1)(r2:RN w (.slice p2 (aa n2) c2) n2.natAbs)(t2:RN w (.slice s2 (ag en2) d2) en2) :
 CF 77 #[.agg #[.bool (ah n1),.slice p1 (aa n1) c1,.slice s1 (ag en1) d1],.agg #[.bool (ah n2),.slice p2 (aa n2) c2,.slice s2 (ag en2) d2]] w n dn:=by
 obtain ⟨C0,C1,C3,R1,T1,R2,T2⟩:=fK h0 h1 h3 r1 t1 r2 t2;clear h0 h1 h3 r1 t1 r2 t2;go_enter func77,ntmps77
 go_upto_region 1 with fail
 refine az w [(#[.bool (ah n1),.slice p1 (aa n1) c1,.slice s1 (ag en1) d1],51),(#[.bool (ah n2),.slice p2 (aa n2) c2,.slice s2 (ag en2) d2],51),(#[.bool false,.slice none 0 0,.slice none 0 0],51)] rfl ?_;rintro W0 ⟨k1,k2,k3,hb⟩;have u6:=hid (show Below w.heap.size w W0 from hb);obtain ⟨R1,T1,R2,T2⟩:=aW u6.o R1 T1 R2 T2;obtain ⟨K1,K2,K3⟩:=ak k1 k2 k3;clear k1 k2 k3 hb;have ru:=K1.o.cell (i:=2) rfl;have dP:=K2.o.cell (i:=2) rfl;go_wp2_with fail
 with_reducible refine(C0.o _ _ _ _ _ T1.o T2.o).mono ?_
 rintro e W1 ⟨rfl,hb⟩;clear ru dP;obtain ⟨K1,K2,K3,R1,T1,R2⟩:=yA hb K1 K2 K3 R1 T1 R2;have rq:=hbt u6 hb;clear hb;go_wp2_with fail
 refine aF (fun a0 a' V=>∃ rV p8 w9 wo wu ww,a'=⟨putL [(13,.pointer (some ⟨w.heap.size,0,none⟩)),(14,.agg #[.bool (ah n1),.slice p1 (aa n1) c1]),(15,.pointer (some ⟨w.heap.size+1,0,none⟩)),(16,.agg #[.bool (ah n2),.slice p2 (aa n2) c2]),(17,.agg #[.bool (ah z),.slice rV (aa z) p8]),(18,.pointer (some ⟨w.heap.size,2,none⟩)),(19,.slice s1 (ag en1) d1),(20,.agg #[.bool (ah n),.slice w9 (aa n) wo,.slice wu (ag dn) ww])] a0.tmps,a0.defers⟩∧Below w.heap.size w V∧SBk V (w.heap.size+1+1) #[.bool (ah n),.slice w9 (aa n) wo,.slice wu (ag dn) ww] 51∧RN V (.slice w9 (aa n) wo) (n).natAbs∧RN V (.slice wu (ag dn) ww) (dn)) ?_ ?_
 · refine aU 8 1 [13,14,15,16,17,18,19,20] [Rel.val (.pointer (some ⟨w.heap.size,0,none⟩)),Rel.val (.agg #[.bool (ah n1),.slice p1 (aa n1) c1]),Rel.val (.pointer (some ⟨w.heap.size+1,0,none⟩)),Rel.val (.agg #[.bool (ah n2),.slice p2 (aa n2) c2]),Rel.int z,Rel.val (.pointer (some ⟨w.heap.size,2,none⟩)),Rel.val (.slice s1 (ag en1) d1),⟨fun v W=>∃ p c s d,v=.agg #[.bool (ah n),.slice p (aa n) c,.slice s (ag dn) d]∧RN W (.slice p (aa n) c) (n).natAbs∧RN W (.slice s (ag dn) d) (dn),fun _ _ _ ⟨p,c,s,d,e,h0,h1⟩ hb=>⟨p,c,s,d,e,h0.below hb,h1.below hb⟩⟩] ?_ ?_
   · intro rM a W i HI hD Hr him
     obtain⟨y2,y3⟩:=HI.o.s2 2 3;obtain ⟨oV,mf⟩:=au (K1.o.below HI.o.world) rfl rfl;obtain ⟨dY,cu⟩:=au (K2.o.below HI.o.world) rfl rfl;have ru:=(K1.o.below HI.o.world).cell (i:=2) rfl;obtain⟨X0,X2,X1,X3,X5,X6⟩:=HI.o.g6 0 13 2 15 1 14 3 16 5 18 6 19
     match i,him,Hr with
     | 0,_,Hi|1,_,Hi|2,_,Hi|3,_,Hi =>
       try have x0:=X0.t Hi.o
       try have x2:=X2.t Hi.o
       refine aA rfl fun K' hK=>?_;go_simp;exact hK.o _ _ (HI.o.pw Hi.o)
     | 4,_,Hi =>
       have x1:=X1.q Hi.o;have x3:=X3.q Hi.o;refine aA rfl fun K' hK=>?_;go_simp;with_reducible refine(C1.o _ _ _ _ _ (R1.o.below HI.o.world) (R2.o.below HI.o.world)).mono ?_
       rintro e W' ⟨rV,p8,rfl,mi,hb⟩;exact hK.o _ _ ⟨HI.o.pc Hi.o hb ⟨rV,p8,rfl,mi⟩,trivial⟩
     | 5,_,Hi|6,_,Hi =>
       try have x5:=X5.t Hi.o
       refine aA rfl fun K' hK=>?_;go_simp;exact hK.o _ _ (HI.o.pw Hi.o)
     | 7,_,Hi =>
       obtain⟨v',x4,rV,p8,e,mi⟩:=HI.o.at (i:=4) Hi.o (by kernel_rfl) (by decide);obtain rfl:=e;have x4:a.tmps[17]? = some (.agg #[.bool (ah z),.slice rV (aa z) p8]):=x4;have ek:=hid mi;clear mi;have x6:=X6.q Hi.o;refine aA rfl fun K' hK=>?_;go_simp;with_reducible refine(C3.o _ _ _ _ _ ek.o (T1.o.below HI.o.world)).mono ?_
       rintro e W' ⟨w9,wo,wu,ww,rfl,fo,fq,hb⟩;exact hK.o _ _ ⟨HI.o.pc Hi.o hb ⟨w9,wo,wu,ww,rfl,fo,fq⟩,trivial⟩
     | n+8,h,_=>exact absurd h (by omega)
   · intro rM a W HI hD HA
     obtain⟨v',x4,rV,p8,e,mi⟩:=HI.o.slots 4 (by decide) (HA.o 4 (by decide));obtain rfl:=e;have ek:=hid mi;clear mi;obtain⟨v',x7,w9,wo,wu,ww,e,fo,fq⟩:=HI.o.slots 7 (by decide) (HA.o 7 (by decide));obtain rfl:=e;have cO:=hid fo;clear fo;have bg:=hid fq;clear fq;have x7:a.tmps[20]? = some (.agg #[.bool (ah n),.slice w9 (aa n) wo,.slice wu (ag dn) ww]):=x7;have lg:=hid HI.o.world;obtain ⟨eH,K3⟩:=aD (rq.o.trans (lg.o.mono rq.o.size)) (K3.o.below lg.o);have RZ:=ek;have RQ:=cO;have TQ:=bg;have y4:=HI.o.rst 4 rfl;obtain ⟨lv,kz,kM⟩:=aP K3.o rfl rfl rfl;obtain ⟨bn,bq,bu⟩:=bU K3.o;refine bz (t:=0) ?_;refine aA rfl fun K' hK=>?_;go_simp;refine hK.o _ _ ?_;clear hK;refine bi ?_;have s0:∀ {v':Value} {n':Nat},RN W v' n'→RN (storeAll W (w.heap.size+1+1) 0 [.bool (ah n),.slice w9 (aa n) wo,.slice wu (ag dn) ww]) v' n':=fun h'=>aS _ h' K3.o (by simp[bF]) (by simp[aY]);exact⟨rfl,rV,p8,w9,wo,wu,ww,(HI.o.finx ⟨HI.o.sx HA.o 0,HI.o.sx HA.o 1,HI.o.sx HA.o 2,HI.o.sx HA.o 3,x4,HI.o.sx HA.o 5,HI.o.sx HA.o 6,x7,trivial⟩ rfl),(ay (l:=[.bool (ah n),.slice w9 (aa n) wo,.slice wu (ag dn) ww]) (i:=0) (by omega) eH.o),(cK (l:=[.bool (ah n),.slice w9 (aa n) wo,.slice wu (ag dn) ww]) (i:=0) K3.o),(s0 RQ.o),(s0 TQ.o)⟩
 rintro a' W2 ⟨rV,p8,w9,wo,wu,ww,rfl,z0,z1,z2,z3⟩;obtain ⟨oM,K3,RQ,TQ⟩:=aM z0 z1 z2 z3;clear z0 z1 z2 z3;simp only[putL,List.setIfInBounds_toArray,List.set_cons_zero,List.set_cons_succ];go_wp2;obtain ⟨lv,kz,kM⟩:=aP K3.o rfl rfl rfl;exact bodyPost_ret (v:=.agg #[.bool (ah n),.slice w9 (aa n) wo,.slice wu (ag dn) ww]) (by simp[results,results77,go_sem,lv,kz,kM]) rfl ⟨_,_,_,_,rfl,RQ.o,TQ.o,oM.o⟩
end Go.Proofs.YtikihamjpenboaaGreatDoor
open Go.Lib (hid)
namespace Go.Proofs.YtikihamjpenboaaGreatDoor
open Go.RowKit Go.Gb
theorem z2R (n1 n2 m n:Int)(en1 en2 f dn:Nat)(p1:Option Addr)(c1:Nat)(s1:Option Addr)(d1:Nat)(p2:Option Addr)(c2:Nat)(s2:Option Addr)(d2:Nat)(w:World)(h1:∀ p1 c1 s1 d1 W,RN W (.slice p1 (aa n2) c1) n2.natAbs→RN W (.slice s1 (ag en2) d1) en2→CF 61 #[.agg #[.bool (ah n2),.slice p1 (aa n2) c1,.slice s1 (ag en2) d1]] W m f)(h2:∀ p1 c1 s1 d1 p2 c2 s2 d2 W,RN W (.slice p1 (aa n1) c1) n1.natAbs→RN W (.slice s1 (ag en1) d1) en1→RN W (.slice p2 (aa m) c2) m.natAbs→RN W (.slice s2 (ag f) d2) f→CF 28 #[.agg #[.bool (ah n1),.slice p1 (aa n1) c1,.slice s1 (ag en1) d1],.agg #[.bool (ah m),.slice p2 (aa m) c2,.slice s2 (ag f) d2]] W n dn)(r1:RN w (.slice p1 (aa n1) c1) n1.natAbs)(t1:RN w (.slice s1 (ag en1) d1) en1)(r2:RN w (.slice p2 (aa n2) c2) n2.natAbs)(t2:RN w (.slice s2 (ag en2) d2) en2) :
 CF 24 #[.agg #[.bool (ah n1),.slice p1 (aa n1) c1,.slice s1 (ag en1) d1],.agg #[.bool (ah n2),.slice p2 (aa n2) c2,.slice s2 (ag en2) d2]] w n dn:=by
 obtain ⟨C1,C2,R1,T1,R2,T2⟩:=cz h1 h2 r1 t1 r2 t2;clear h1 h2 r1 t1 r2 t2;go_enter func24,ntmps24
 go_upto_region 1 with fail
 refine az w [(#[.bool (ah n1),.slice p1 (aa n1) c1,.slice s1 (ag en1) d1],51),(#[.bool (ah n2),.slice p2 (aa n2) c2,.slice s2 (ag en2) d2],51),(#[.bool false,.slice none 0 0,.slice none 0 0],51)] rfl ?_;rintro W0 ⟨k1,k2,k3,hb⟩;have u6:=hid (show Below w.heap.size w W0 from hb);obtain ⟨R1,T1,R2,T2⟩:=aW u6.o R1 T1 R2 T2;obtain ⟨K1,K2,K3⟩:=ak k1 k2 k3;clear k1 k2 k3 hb;go_wp2_with fail
 refine aF (fun a0 a' V=>∃ p9 pq pu ol si sj sw r9,a'=⟨putL [(5,.agg #[.bool (ah n1),.slice p1 (aa n1) c1,.slice s1 (ag en1) d1]),(6,.agg #[.bool (ah n2),.slice p2 (aa n2) c2,.slice s2 (ag en2) d2]),(7,.agg #[.bool (ah m),.slice p9 (aa m) pq,.slice pu (ag f) ol]),(8,.agg #[.bool (ah n),.slice si (aa n) sj,.slice sw (ag dn) r9])] a0.tmps,a0.defers⟩∧Below w.heap.size w V∧SBk V (w.heap.size+1+1) #[.bool (ah n),.slice si (aa n) sj,.slice sw (ag dn) r9] 51∧RN V (.slice si (aa n) sj) (n).natAbs∧RN V (.slice sw (ag dn) r9) (dn)) ?_ ?_
 · refine aU 4 1 [5,6,7,8] [Rel.val (.agg #[.bool (ah n1),.slice p1 (aa n1) c1,.slice s1 (ag en1) d1]),Rel.val (.agg #[.bool (ah n2),.slice p2 (aa n2) c2,.slice s2 (ag en2) d2]),⟨fun v W=>∃ p c s d,v=.agg #[.bool (ah m),.slice p (aa m) c,.slice s (ag f) d]∧RN W (.slice p (aa m) c) (m).natAbs∧RN W (.slice s (ag f) d) (f),fun _ _ _ ⟨p,c,s,d,e,h0,h1⟩ hb=>⟨p,c,s,d,e,h0.below hb,h1.below hb⟩⟩,⟨fun v W=>∃ p c s d,v=.agg #[.bool (ah n),.slice p (aa n) c,.slice s (ag dn) d]∧RN W (.slice p (aa n) c) (n).natAbs∧RN W (.slice s (ag dn) d) (dn),fun _ _ _ ⟨p,c,s,d,e,h0,h1⟩ hb=>⟨p,c,s,d,e,h0.below hb,h1.below hb⟩⟩] ?_ ?_
   · intro rM a W i HI hD Hr him
     obtain⟨y2,y3⟩:=HI.o.s2 2 3;obtain ⟨oV,mf,ru⟩:=aP (K1.o.below HI.o.world) rfl rfl rfl;obtain ⟨dY,cu,dP⟩:=aP (K2.o.below HI.o.world) rfl rfl rfl;obtain⟨X1,X0⟩:=HI.o.g2 1 6 0 5
     match i,him,Hr with
     | 0,_,Hi|1,_,Hi =>
       refine aA rfl fun K' hK=>?_;go_simp;exact hK.o _ _ (HI.o.pw Hi.o)
     | 2,_,Hi =>
       have x1:=X1.q Hi.o;refine aA rfl fun K' hK=>?_;go_simp;with_reducible refine(C1.o _ _ _ _ _ (R2.o.below HI.o.world) (T2.o.below HI.o.world)).mono ?_
       rintro e W' ⟨p9,pq,pu,ol,rfl,l5,l6,hb⟩;exact hK.o _ _ ⟨HI.o.pc Hi.o hb ⟨p9,pq,pu,ol,rfl,l5,l6⟩,trivial⟩
     | 3,_,Hi =>
       have x0:=X0.q Hi.o;obtain⟨v',x2,p9,pq,pu,ol,e,l5,l6⟩:=HI.o.at (i:=2) Hi.o (by kernel_rfl) (by decide);obtain rfl:=e;have x2:a.tmps[7]? = some (.agg #[.bool (ah m),.slice p9 (aa m) pq,.slice pu (ag f) ol]):=x2;have eX:=hid l5;clear l5;have d9:=hid l6;clear l6;refine aA rfl fun K' hK=>?_;go_simp;with_reducible refine(C2.o _ _ _ _ _ _ _ _ _ (R1.o.below HI.o.world) (T1.o.below HI.o.world) eX.o d9.o).mono ?_
       rintro e W' ⟨si,sj,sw,r9,rfl,fQ,ed,hb⟩;exact hK.o _ _ ⟨HI.o.pc Hi.o hb ⟨si,sj,sw,r9,rfl,fQ,ed⟩,trivial⟩
     | n+4,h,_=>exact absurd h (by omega)
   · intro rM a W HI hD HA
     obtain⟨v',x2,p9,pq,pu,ol,e,l5,l6⟩:=HI.o.slots 2 (by decide) (HA.o 2 (by decide));obtain rfl:=e;have eX:=hid l5;clear l5;have d9:=hid l6;clear l6;obtain⟨v',x3,si,sj,sw,r9,e,fQ,ed⟩:=HI.o.slots 3 (by decide) (HA.o 3 (by decide));obtain rfl:=e;have bv:=hid fQ;clear fQ;have bM:=hid ed;clear ed;have x3:a.tmps[8]? = some (.agg #[.bool (ah n),.slice si (aa n) sj,.slice sw (ag dn) r9]):=x3;have lg:=hid HI.o.world;obtain ⟨eH,K3⟩:=aD (u6.o.trans (lg.o.mono u6.o.size)) (K3.o.below lg.o);have RM:=eX;have TM:=d9;have RQ:=bv;have TQ:=bM;have y4:=HI.o.rst 4 rfl;obtain ⟨lv,kz,kM⟩:=aP K3.o rfl rfl rfl;obtain ⟨bn,bq,bu⟩:=bU K3.o;refine bz (t:=0) ?_;refine aA rfl fun K' hK=>?_;go_simp;refine hK.o _ _ ?_;clear hK;refine bi ?_;have s0:∀ {v':Value} {n':Nat},RN W v' n'→RN (storeAll W (w.heap.size+1+1) 0 [.bool (ah n),.slice si (aa n) sj,.slice sw (ag dn) r9]) v' n':=fun h'=>aS _ h' K3.o (by simp[bF]) (by simp[aY]);exact⟨rfl,p9,pq,pu,ol,si,sj,sw,r9,(HI.o.finx ⟨HI.o.sx HA.o 0,HI.o.sx HA.o 1,x2,x3,trivial⟩ rfl),(ay (l:=[.bool (ah n),.slice si (aa n) sj,.slice sw (ag dn) r9]) (i:=0) (by omega) eH.o),(cK (l:=[.bool (ah n),.slice si (aa n) sj,.slice sw (ag dn) r9]) (i:=0) K3.o),(s0 RQ.o),(s0 TQ.o)⟩
 rintro a' W1 ⟨p9,pq,pu,ol,si,sj,sw,r9,rfl,z0,z1,z2,z3⟩;obtain ⟨rq,K3,RQ,TQ⟩:=aM z0 z1 z2 z3;clear z0 z1 z2 z3;simp only[putL,List.setIfInBounds_toArray,List.set_cons_zero,List.set_cons_succ];go_wp2;obtain ⟨lv,kz,kM⟩:=aP K3.o rfl rfl rfl;exact bodyPost_ret (v:=.agg #[.bool (ah n),.slice si (aa n) sj,.slice sw (ag dn) r9]) (by simp[results,results24,go_sem,lv,kz,kM]) rfl ⟨_,_,_,_,rfl,RQ.o,TQ.o,rq.o⟩
open Go.Lib (hid)
theorem z4V (n:Int)(en:Nat)(sn:ByteArray)(p1:Option Addr)(c1:Nat)(s1:Option Addr)(d1:Nat)(w:World)(h1:∀ p1 c1 W,RN W (.slice p1 (aa n) c1) n.natAbs→CR 70 #[.agg #[.bool (ah n),.slice p1 (aa n) c1]] W (.string sn))(h2:∀ s1 d1 W,RN W (.slice s1 (ag en) d1) en→CR 71 #[.slice s1 (ag en) d1] W (.string ⟨#[49]⟩))(r1:RN w (.slice p1 (aa n) c1) n.natAbs)(t1:RN w (.slice s1 (ag en) d1) en) :
 CR 29 #[.agg #[.bool (ah n),.slice p1 (aa n) c1,.slice s1 (ag en) d1]] w (.string sn):=by
 obtain ⟨C1,C2,R1,T1⟩:=aM h1 h2 r1 t1;clear h1 h2 r1 t1;go_enter func29,ntmps29
 go_upto_region 1 with fail
 refine az w [(#[.bool (ah n),.slice p1 (aa n) c1,.slice s1 (ag en) d1],51)] rfl ?_;rintro W0 ⟨k1,hb⟩;have u6:=hid (show Below w.heap.size w W0 from hb);obtain ⟨R1,T1⟩:=aH u6.o R1 T1;have K1:=Lib.hid k1;clear k1 hb;obtain ⟨oV,mf⟩:=au K1.o rfl rfl;go_wp2_with fail
 with_reducible refine(C1.o _ _ _ R1.o).mono ?_
 rintro e W1 ⟨rfl,hb⟩;clear oV mf;obtain ⟨K1,T1⟩:=aH hb K1 T1;have rq:=hbt u6 hb;clear hb;have ru:=K1.o.cell (i:=2) rfl;go_wp2_with fail
 with_reducible refine(C2.o _ _ _ T1.o).mono ?_
 rintro e W2 ⟨rfl,hb⟩;clear ru;have oM:=hbt rq hb;clear hb;go_wp2;exact bodyPost_ret (v:=.string sn) (by simp[results,results29,go_sem]) rfl ⟨rfl,oM.o⟩
theorem z2N (n:Int)(en:Nat)(sn sd res:ByteArray)(hsd:(sd.toList==[49])=false)(hr:sn++(⟨#[47]⟩++sd)=res)(hl1:sn.size≤10000)(hl2:sd.size≤10000)(p1:Option Addr)(c1:Nat)(s1:Option Addr)(d1:Nat)(w:World)(h1:∀ p1 c1 W,RN W (.slice p1 (aa n) c1) n.natAbs→CR 70 #[.agg #[.bool (ah n),.slice p1 (aa n) c1]] W (.string sn))(h2:∀ s1 d1 W,RN W (.slice s1 (ag en) d1) en→CR 71 #[.slice s1 (ag en) d1] W (.string sd))(r1:RN w (.slice p1 (aa n) c1) n.natAbs)(t1:RN w (.slice s1 (ag en) d1) en) :
 CR 29 #[.agg #[.bool (ah n),.slice p1 (aa n) c1,.slice s1 (ag en) d1]] w (.string res):=by
 obtain ⟨C1,C2,R1,T1,HR,HL1,HL2⟩:=fK h1 h2 r1 t1 hr hl1 hl2;have k0:¬ sd.toList=[49]:=by simpa using hsd
 clear hr hl1 hl2 h1 h2 r1 t1;go_enter func29,ntmps29
 go_upto_region 1 with fail
 refine az w [(#[.bool (ah n),.slice p1 (aa n) c1,.slice s1 (ag en) d1],51)] rfl ?_;rintro W0 ⟨k1,hb⟩;have u6:=hid (show Below w.heap.size w W0 from hb);obtain ⟨R1,T1⟩:=aH u6.o R1 T1;have K1:=Lib.hid k1;clear k1 hb;obtain ⟨oV,mf⟩:=au K1.o rfl rfl;go_wp2_with fail
 with_reducible refine(C1.o _ _ _ R1.o).mono ?_
 rintro e W1 ⟨rfl,hb⟩;clear oV mf;obtain ⟨K1,T1⟩:=aH hb K1 T1;have rq:=hbt u6 hb;clear hb;have ru:=K1.o.cell (i:=2) rfl;go_wp2_with fail
 with_reducible refine(C2.o _ _ _ T1.o).mono ?_
 rintro e W2 ⟨rfl,hb⟩;clear ru;have oM:=hbt rq hb;clear hb;have ha1:=run_string_add_sum (P:=Tryz.prog) W2 ⟨#[47]⟩ sd (by have:=HL2.o;have e:(⟨#[47]⟩:ByteArray).size=1:=rfl;omega);have ha2:=run_string_add_sum (P:=Tryz.prog) W2 sn (⟨#[47]⟩++sd) (by have:=HL1.o;have:=HL2.o;have e:(⟨#[47]⟩:ByteArray).size=1:=rfl;rw[ByteArray.size_append];omega);rw[HR.o]at ha2;go_wp2;exact bodyPost_ret (v:=.string res) (by simp[results,results29,go_sem]) rfl ⟨rfl,oM.o⟩
