/- texts -/
import Derived.Test.YtodcdibanokjjaaGreatDoorMz39q
namespace Go.Proofs.YtodcdibanokjjaaGreatDoor
open Go.RowKit Go.Gb
structure QS where
 b:Bool
 a:Option Addr
 n:Nat
 c:Nat
 e:Option Addr
 m:Nat
 d:Nat
def FQ (W:World) (q:QS) (x:Rat):Prop:=q.b=ah x.num∧q.n=aa x.num∧q.m=ag x.den∧RN W (.slice q.a q.n q.c) x.num.natAbs∧RN W (.slice q.e q.m q.d) x.den
theorem FQ.below {W W':World}{q:QS}{x:Rat}(h:FQ W q x)(hb:Below W.heap.size W W'):FQ W' q x:=⟨h.1,h.2.1,h.2.2.1,h.2.2.2.1.below hb,h.2.2.2.2.below hb⟩
theorem bZ {q:QS}{x:Rat}{g:Nat}{T:TypeId}(l:List Value)(i:Nat){w:World}{cs:Array Value}(h:FQ w q x)(hg:SBk w g cs T)(hn:bO cs=true)(hl:l.all bA=true):FQ (storeAll w g i l) q x:=⟨h.1,h.2.1,h.2.2.1,mE l i h.2.2.2.1 hg hn hl,mE l i h.2.2.2.2 hg hn hl⟩
abbrev QS.v (q:QS):Value:=.agg #[.bool q.b,.slice q.a q.n q.c,.slice q.e q.m q.d]
abbrev RQ (W:World) (x:Rat):Ending→World→Prop:=fun e w'=>∃ q:QS,e=.returned (.agg #[.bool q.b,.slice q.a q.n q.c,.slice q.e q.m q.d])∧FQ w' q x∧Below W.heap.size W w'
abbrev RQb (W:World) (x:Rat) (b:Bool):Ending→World→Prop:=fun e w'=>∃ q:QS,e=.returned (.tuple #[.agg #[.bool q.b,.slice q.a q.n q.c,.slice q.e q.m q.d],.bool b])∧FQ w' q x∧Below W.heap.size W w'
abbrev RQi (W:World) (x:Rat) (er:Int):Ending→World→Prop:=fun e w'=>∃ q:QS,e=.returned (.tuple #[.agg #[.bool q.b,.slice q.a q.n q.c,.slice q.e q.m q.d],.int .i64 er])∧FQ w' q x∧Below W.heap.size W w'
abbrev RQQi (W:World) (xa xb:Rat) (er:Int):Ending→World→Prop:=fun e w'=>∃ qa qb:QS,e=.returned (.tuple #[.agg #[.bool qa.b,.slice qa.a qa.n qa.c,.slice qa.e qa.m qa.d],.agg #[.bool qb.b,.slice qb.a qb.n qb.c,.slice qb.e qb.m qb.d],.int .i64 er])∧FQ w' qa xa∧FQ w' qb xb∧Below W.heap.size W w'
abbrev RP (W:World) (v:Value):Ending→World→Prop:=fun e w'=>e=.returned v∧Below W.heap.size W w'
abbrev KQ1 (f:Nat) (x0:Rat) (z:Rat):Prop:=∀ (q0:QS) (W:World),FQ W q0 x0→Calls Tryz.prog f #[.agg #[.bool q0.b,.slice q0.a q0.n q0.c,.slice q0.e q0.m q0.d]] W (RQ W z)
abbrev KQ2 (f:Nat) (x0 x1:Rat) (z:Rat):Prop:=∀ (q0 q1:QS) (W:World),FQ W q0 x0→FQ W q1 x1→Calls Tryz.prog f #[.agg #[.bool q0.b,.slice q0.a q0.n q0.c,.slice q0.e q0.m q0.d],.agg #[.bool q1.b,.slice q1.a q1.n q1.c,.slice q1.e q1.m q1.d]] W (RQ W z)
abbrev KP1 (f:Nat) (x0:Rat) (v:Value):Prop:=∀ (q0:QS) (W:World),FQ W q0 x0→Calls Tryz.prog f #[.agg #[.bool q0.b,.slice q0.a q0.n q0.c,.slice q0.e q0.m q0.d]] W (RP W v)
abbrev KP2 (f:Nat) (x0 x1:Rat) (v:Value):Prop:=∀ (q0 q1:QS) (W:World),FQ W q0 x0→FQ W q1 x1→Calls Tryz.prog f #[.agg #[.bool q0.b,.slice q0.a q0.n q0.c,.slice q0.e q0.m q0.d],.agg #[.bool q1.b,.slice q1.a q1.n q1.c,.slice q1.e q1.m q1.d]] W (RP W v)
abbrev KS (f:Nat) (v0:Value) (z:Rat):Prop:=∀ (W:World),Calls Tryz.prog f #[v0] W (RQ W z)
abbrev KSb (f:Nat) (v0:Value) (z:Rat) (b:Bool):Prop:=∀ (W:World),Calls Tryz.prog f #[v0] W (RQb W z b)
abbrev KSi (f:Nat) (v0:Value) (z:Rat) (er:Int):Prop:=∀ (W:World),Calls Tryz.prog f #[v0] W (RQi W z er)
abbrev KBo (f:Nat) (v0 v1:Value) (x y:Rat) (er:Int):Prop:=∀ W:World,Calls Tryz.prog f #[v0,v1] W (RQQi W x y er)
def Rel.q (x:Rat):Rel:=⟨fun v W=>∃ q:QS,v=q.v∧FQ W q x,fun _ _ _ ⟨q,e,h⟩ hb=>⟨q,e,h.below hb⟩⟩
section
variable {ops:Array Oper} {m:Nat} {sl:Nat→Nat} {L:List Rel} {a0:Act} {P:World→Prop} {listed:Array Bool} {a:Act} {w:World}
theorem qAt (h:RInv ops m sl (RelR L) a0 P listed a w)(i d:Nat){j:Nat}{x:Rat}(hj:j∈Region.ready .any ops listed)(hw:Region.waitsFor .any ops j i=true)(hm:i<m:=by decide)(hd:sl i=d:=by rfl)(hR:L.getD i (Rel.val undef)=Rel.q x:=by rfl):∃ q:QS,a.tmps[d]? = some q.v∧Hid (FQ w q x):=by
 obtain⟨v,hv,hr⟩:=h.at hj hw hm;unfold RelR at hr
 rw[hR]at hr;obtain⟨q,rfl,hq⟩:=hr;exact⟨q,hd▸hv,Lib.hid hq⟩
theorem qEnd (h:RInv ops m sl (RelR L) a0 P listed a w)(hall:∀ j,j<m→listed.getD j false=true)(i d:Nat){x:Rat}(hm:i<m:=by decide)(hd:sl i=d:=by rfl)(hR:L.getD i (Rel.val undef)=Rel.q x:=by rfl):∃ q:QS,a.tmps[d]? = some q.v∧Hid (FQ w q x):=by
 obtain⟨v,hv,hr⟩:=h.slots i hm (hall i hm);unfold RelR at hr
 rw[hR]at hr;obtain⟨q,rfl,hq⟩:=hr;exact⟨q,hd▸hv,Lib.hid hq⟩
end
theorem cells3 {w:World}{g:Nat}{T:TypeId}{x0 x1 x2:Value}(h:SBk w g #[x0,x1,x2] T):w.cell? ⟨g,0,none⟩=some x0∧w.cell? ⟨g,1,none⟩=some x1∧w.cell? ⟨g,2,none⟩=some x2:=⟨h.cell (i:=0) rfl,h.cell (i:=1) rfl,h.cell (i:=2) rfl⟩
theorem frz3 {w:World}{g:Nat}{T:TypeId}{x0 x1 x2:Value}(h:SBk w g #[x0,x1,x2] T):w.frozen? ⟨g,0,none⟩=false∧w.frozen? ⟨g,1,none⟩=false∧w.frozen? ⟨g,2,none⟩=false:=⟨h.frozen (i:=0),h.frozen (i:=1),h.frozen (i:=2)⟩
end Go.Proofs.YtodcdibanokjjaaGreatDoor
set_option maxRecDepth 100000
set_option maxHeartbeats 20000000
open Go.Lib (hid)
namespace Go.Proofs.YtodcdibanokjjaaGreatDoor
open Go.RowKit Go.Gb
theorem zS (n1 n2 z n:Int)(en1 en2 dn:Nat)(p1:Option Addr)(c1:Nat)(s1:Option Addr)(d1:Nat)(p2:Option Addr)(c2:Nat)(s2:Option Addr)(d2:Nat)(w:World)(h0:∀ s1 d1 s2 d2 W,RN W (.slice s1 (ag en1) d1) en1→RN W (.slice s2 (ag en2) d2) en2→CR 67 #[.slice s1 (ag en1) d1,.slice s2 (ag en2) d2] W (.int .i64 0))(h1:∀ p1 c1 p2 c2 W,RN W (.slice p1 (aa n1) c1) n1.natAbs→RN W (.slice p2 (aa n2) c2) n2.natAbs→CZ 68 #[.agg #[.bool (ah n1),.slice p1 (aa n1) c1],.agg #[.bool (ah n2),.slice p2 (aa n2) c2]] W z)(h3:∀ p1 c1 s2 d2 W,RN W (.slice p1 (aa z) c1) z.natAbs→RN W (.slice s2 (ag en1) d2) en1→CF 62 #[.agg #[.bool (ah z),.slice p1 (aa z) c1],.slice s2 (ag en1) d2] W n dn)(r1:RN w (.slice p1 (aa n1) c1) n1.natAbs)(t1:RN w (.slice s1 (ag en1) d1) en1)(r2:RN w (.slice p2 (aa n2) c2) n2.natAbs)(t2:RN w (.slice s2 (ag en2) d2) en2) :
 CF 39 #[.agg #[.bool (ah n1),.slice p1 (aa n1) c1,.slice s1 (ag en1) d1],.agg #[.bool (ah n2),.slice p2 (aa n2) c2,.slice s2 (ag en2) d2]] w n dn:=by
 obtain ⟨C0,C1,C3,R1,T1,R2,T2⟩:=cB h0 h1 h3 r1 t1 r2 t2;clear h0 h1 h3 r1 t1 r2 t2;go_enter Tryz.func39,Tryz.ntmps39
 go_upto_region 1 with fail
 refine ay w [(#[.bool (ah n1),.slice p1 (aa n1) c1,.slice s1 (ag en1) d1],48),(#[.bool (ah n2),.slice p2 (aa n2) c2,.slice s2 (ag en2) d2],48),(#[.bool false,.slice none 0 0,.slice none 0 0],48)] rfl ?_;rintro W0 ⟨k1,k2,k3,hb⟩;have HB0:=hid (show Below w.heap.size w W0 from hb);obtain ⟨R1,T1,R2,T2,K1,K2,K3⟩:=cB (R1.out.below HB0.out) (T1.out.below HB0.out) (R2.out.below HB0.out) (T2.out.below HB0.out) k1 k2 k3;clear k1 k2 k3 hb;have dK12:=K1.out.cell (i:=2) rfl;have dK22:=K2.out.cell (i:=2) rfl;go_wp2_with fail
 with_reducible refine(C0.out _ _ _ _ _ T1.out T2.out).mono ?_
 rintro e W1 ⟨rfl,hb⟩;clear dK12 dK22;obtain ⟨K1,K2,K3,R1,T1,R2⟩:=bU (K1.out.below hb) (K2.out.below hb) (K3.out.below hb) (R1.out.below hb) (T1.out.below hb) (R2.out.below hb);have HB1:=hbt HB0 hb;clear hb;go_wp2_with fail
 refine aC (fun a0 a' V=>∃ u0g u0h u0a u0b u0c u0d,a'=⟨putL [(13,.pointer (some ⟨w.heap.size,0,none⟩)),(14,.agg #[.bool (ah n1),.slice p1 (aa n1) c1]),(15,.pointer (some ⟨w.heap.size+1,0,none⟩)),(16,.agg #[.bool (ah n2),.slice p2 (aa n2) c2]),(17,.agg #[.bool (ah z),.slice u0g (aa z) u0h]),(18,.pointer (some ⟨w.heap.size,2,none⟩)),(19,.slice s1 (ag en1) d1),(20,.agg #[.bool (ah n),.slice u0a (aa n) u0b,.slice u0c (ag dn) u0d])] a0.tmps,a0.defers⟩∧Below w.heap.size w V∧SBk V (w.heap.size+1+1) #[.bool (ah n),.slice u0a (aa n) u0b,.slice u0c (ag dn) u0d] 48∧RN V (.slice u0a (aa n) u0b) (n).natAbs∧RN V (.slice u0c (ag dn) u0d) (dn)) ?_ ?_
 · refine aB (by kernel_rfl) 8 1 (fun i=>[13,14,15,16,17,18,19,20].getD i 0) (RelR [Rel.val (.pointer (some ⟨w.heap.size,0,none⟩)),Rel.val (.agg #[.bool (ah n1),.slice p1 (aa n1) c1]),Rel.val (.pointer (some ⟨w.heap.size+1,0,none⟩)),Rel.val (.agg #[.bool (ah n2),.slice p2 (aa n2) c2]),Rel.int z,Rel.val (.pointer (some ⟨w.heap.size,2,none⟩)),Rel.val (.slice s1 (ag en1) d1),⟨fun v W=>∃ p c s d,v=.agg #[.bool (ah n),.slice p (aa n) c,.slice s (ag dn) d]∧RN W (.slice p (aa n) c) (n).natAbs∧RN W (.slice s (ag dn) d) (dn),fun _ _ _ ⟨p,c,s,d,e,h0,h1⟩ hb=>⟨p,c,s,d,e,h0.below hb,h1.below hb⟩⟩]) (fun W=>Below W1.heap.size W1 W) (fun _ _=>True) (by kernel_rfl) (by kernel_rfl) (by kernel_rfl) trivial (Below.refl _ _).drew ?_ ?_
   · intro listed a W i hI hD hrd him
     obtain ⟨HI,HD,Hr⟩:=ai hI hD hrd;clear hI hrd hD;have y2:a.tmps[2]? = some (.pointer (some ⟨w.heap.size,0,none⟩)):=HI.out.rest 2 (by decide);have y3:a.tmps[3]? = some (.pointer (some ⟨w.heap.size+1,0,none⟩)):=HI.out.rest 3 (by decide);obtain ⟨dK10,dK11⟩:=aI (K1.out.below HI.out.world) rfl rfl;obtain ⟨dK20,dK21⟩:=aI (K2.out.below HI.out.world) rfl rfl;have dK12:=(K1.out.below HI.out.world).cell (i:=2) rfl;have X0:RV _ listed a 0 13 (.pointer (some ⟨w.heap.size,0,none⟩)):=HI.out.rh;have X2:RV _ listed a 2 15 (.pointer (some ⟨w.heap.size+1,0,none⟩)):=HI.out.rh;have X1:RV _ listed a 1 14 (.agg #[.bool (ah n1),.slice p1 (aa n1) c1]):=HI.out.rh;have X3:RV _ listed a 3 16 (.agg #[.bool (ah n2),.slice p2 (aa n2) c2]):=HI.out.rh;have X5:RV _ listed a 5 18 (.pointer (some ⟨w.heap.size,2,none⟩)):=HI.out.rh;have X6:RV _ listed a 6 19 (.slice s1 (ag en1) d1):=HI.out.rh
     match i,him,Hr with
     | 0,_,Hi =>
       refine au rfl fun K' hK=>?_;go_simp;exact hK.out _ _ ⟨HI.out.pv Hi.out rfl,trivial⟩
     | 1,_,Hi =>
       have x0:=X0.g Hi.out (by kernel_rfl);refine au rfl fun K' hK=>?_;go_simp;exact hK.out _ _ ⟨HI.out.pv Hi.out rfl,trivial⟩
     | 2,_,Hi =>
       refine au rfl fun K' hK=>?_;go_simp;exact hK.out _ _ ⟨HI.out.pv Hi.out rfl,trivial⟩
     | 3,_,Hi =>
       have x2:=X2.g Hi.out (by kernel_rfl);refine au rfl fun K' hK=>?_;go_simp;exact hK.out _ _ ⟨HI.out.pv Hi.out rfl,trivial⟩
     | 4,_,Hi =>
       have x1:=X1.g Hi.out (by kernel_rfl);have x3:=X3.g Hi.out (by kernel_rfl);refine au rfl fun K' hK=>?_;go_simp;with_reducible refine(C1.out _ _ _ _ _ (R1.out.below HI.out.world) (R2.out.below HI.out.world)).mono ?_
       rintro e W' ⟨u0g,u0h,rfl,u0i,hb⟩;exact hK.out _ _ ⟨HI.out.pc Hi.out hb ⟨u0g,u0h,rfl,u0i⟩,trivial⟩
     | 5,_,Hi =>
       refine au rfl fun K' hK=>?_;go_simp;exact hK.out _ _ ⟨HI.out.pv Hi.out rfl,trivial⟩
     | 6,_,Hi =>
       have x5:=X5.g Hi.out (by kernel_rfl);refine au rfl fun K' hK=>?_;go_simp;exact hK.out _ _ ⟨HI.out.pv Hi.out rfl,trivial⟩
     | 7,_,Hi =>
       obtain⟨v',x4,u0g,u0h,e,u0i⟩:=HI.out.at (i:=4) Hi.out (by kernel_rfl) (by decide);obtain rfl:=e;have x4:a.tmps[17]? = some (.agg #[.bool (ah z),.slice u0g (aa z) u0h]):=x4;have u0n:=hid u0i;clear u0i;have x6:=X6.g Hi.out (by kernel_rfl);refine au rfl fun K' hK=>?_;go_simp;with_reducible refine(C3.out _ _ _ _ _ u0n.out (T1.out.below HI.out.world)).mono ?_
       rintro e W' ⟨u0a,u0b,u0c,u0d,rfl,u0l,u0m,hb⟩;exact hK.out _ _ ⟨HI.out.pc Hi.out hb ⟨u0a,u0b,u0c,u0d,rfl,u0l,u0m⟩,trivial⟩
     | n+8,h,_=>exact absurd h (by omega)
   · intro listed a W hI hD hall
     obtain⟨v',x4,u0g,u0h,e,u0i⟩:=hI.slots 4 (by decide) (hall 4 (by decide));obtain rfl:=e;have u0n:=hid u0i;clear u0i;obtain⟨v',x7,u0a,u0b,u0c,u0d,e,u0l,u0m⟩:=hI.slots 7 (by decide) (hall 7 (by decide));obtain rfl:=e;have u0q:=hid u0l;clear u0l;have u0r:=hid u0m;clear u0m;have x7:a.tmps[20]? = some (.agg #[.bool (ah n),.slice u0a (aa n) u0b,.slice u0c (ag dn) u0d]):=x7;obtain ⟨HBW,HI,HA⟩:=ai hI.world hI hall;clear hI hall;obtain ⟨K3,HBX⟩:=aF (K3.out.below HBW.out) (HB1.out.trans (HBW.out.mono HB1.out.size));have RZ:=u0n;have RQ:=u0q;have TQ:=u0r;have y4:a.tmps[4]? = some (.pointer (some ⟨w.heap.size+1+1,0,none⟩)):=HI.out.rest 4 (by decide);obtain ⟨dK30,dK31,dK32⟩:=aA K3.out rfl rfl rfl;obtain ⟨fK30,fK31,fK32⟩:=aZ K3.out;refine aR (t:=0) ?_;refine au rfl fun K' hK=>?_;go_simp;refine hK.out _ _ ?_;clear hK;refine bf ?_;have s0:∀ {v':Value} {n':Nat},RN W v' n'→RN (storeAll W (w.heap.size+1+1) 0 [.bool (ah n),.slice u0a (aa n) u0b,.slice u0c (ag dn) u0d]) v' n':=fun h'=>bz _ h' K3.out (by simp[bO]) (by simp[bA]);exact⟨rfl,u0g,u0h,u0a,u0b,u0c,u0d,(HI.out.finx ⟨HI.out.sx HA.out 0,HI.out.sx HA.out 1,HI.out.sx HA.out 2,HI.out.sx HA.out 3,x4,HI.out.sx HA.out 5,HI.out.sx HA.out 6,x7,trivial⟩ rfl),(av (l:=[.bool (ah n),.slice u0a (aa n) u0b,.slice u0c (ag dn) u0d]) (i:=0) (by omega) HBX.out),(bS (l:=[.bool (ah n),.slice u0a (aa n) u0b,.slice u0c (ag dn) u0d]) (i:=0) K3.out),(s0 RQ.out),(s0 TQ.out)⟩
 rintro a' W2 ⟨u0g,u0h,u0a,u0b,u0c,u0d,rfl,z0,z1,z2,z3⟩;obtain ⟨HB2,K3,RQ,TQ⟩:=aG z0 z1 z2 z3;clear z0 z1 z2 z3;simp only[putL,List.setIfInBounds_toArray,List.set_cons_zero,List.set_cons_succ];go_wp2;obtain ⟨dK30,dK31,dK32⟩:=aA K3.out rfl rfl rfl;exact bodyPost_ret (v:=.agg #[.bool (ah n),.slice u0a (aa n) u0b,.slice u0c (ag dn) u0d]) (by simp[results,Tryz.results39,go_sem,dK30,dK31,dK32]) rfl ⟨_,_,_,_,rfl,RQ.out,TQ.out,HB2.out⟩
open Go.Lib (hid)
theorem z1M (n1 n2 m n:Int)(en1 en2 f dn:Nat)(p1:Option Addr)(c1:Nat)(s1:Option Addr)(d1:Nat)(p2:Option Addr)(c2:Nat)(s2:Option Addr)(d2:Nat)(w:World)(h1:∀ p1 c1 s1 d1 W,RN W (.slice p1 (aa n2) c1) n2.natAbs→RN W (.slice s1 (ag en2) d1) en2→CF 59 #[.agg #[.bool (ah n2),.slice p1 (aa n2) c1,.slice s1 (ag en2) d1]] W m f)(h2:∀ p1 c1 s1 d1 p2 c2 s2 d2 W,RN W (.slice p1 (aa n1) c1) n1.natAbs→RN W (.slice s1 (ag en1) d1) en1→RN W (.slice p2 (aa m) c2) m.natAbs→RN W (.slice s2 (ag f) d2) f→CF 39 #[.agg #[.bool (ah n1),.slice p1 (aa n1) c1,.slice s1 (ag en1) d1],.agg #[.bool (ah m),.slice p2 (aa m) c2,.slice s2 (ag f) d2]] W n dn)(r1:RN w (.slice p1 (aa n1) c1) n1.natAbs)(t1:RN w (.slice s1 (ag en1) d1) en1)(r2:RN w (.slice p2 (aa n2) c2) n2.natAbs)(t2:RN w (.slice s2 (ag en2) d2) en2) :
 CF 34 #[.agg #[.bool (ah n1),.slice p1 (aa n1) c1,.slice s1 (ag en1) d1],.agg #[.bool (ah n2),.slice p2 (aa n2) c2,.slice s2 (ag en2) d2]] w n dn:=by
 obtain ⟨C1,C2,R1,T1,R2,T2⟩:=bU h1 h2 r1 t1 r2 t2;clear h1 h2 r1 t1 r2 t2;go_enter Tryz.func34,Tryz.ntmps34
 go_upto_region 1 with fail
 refine ay w [(#[.bool (ah n1),.slice p1 (aa n1) c1,.slice s1 (ag en1) d1],48),(#[.bool (ah n2),.slice p2 (aa n2) c2,.slice s2 (ag en2) d2],48),(#[.bool false,.slice none 0 0,.slice none 0 0],48)] rfl ?_;rintro W0 ⟨k1,k2,k3,hb⟩;have HB0:=hid (show Below w.heap.size w W0 from hb);obtain ⟨R1,T1,R2,T2,K1,K2,K3⟩:=cB (R1.out.below HB0.out) (T1.out.below HB0.out) (R2.out.below HB0.out) (T2.out.below HB0.out) k1 k2 k3;clear k1 k2 k3 hb;go_wp2_with fail
 refine aC (fun a0 a' V=>∃ u04 u05 u06 u07 u00 u01 u02 u03,a'=⟨putL [(5,.agg #[.bool (ah n1),.slice p1 (aa n1) c1,.slice s1 (ag en1) d1]),(6,.agg #[.bool (ah n2),.slice p2 (aa n2) c2,.slice s2 (ag en2) d2]),(7,.agg #[.bool (ah m),.slice u04 (aa m) u05,.slice u06 (ag f) u07]),(8,.agg #[.bool (ah n),.slice u00 (aa n) u01,.slice u02 (ag dn) u03])] a0.tmps,a0.defers⟩∧Below w.heap.size w V∧SBk V (w.heap.size+1+1) #[.bool (ah n),.slice u00 (aa n) u01,.slice u02 (ag dn) u03] 48∧RN V (.slice u00 (aa n) u01) (n).natAbs∧RN V (.slice u02 (ag dn) u03) (dn)) ?_ ?_
 · refine aB (by kernel_rfl) 4 1 (fun i=>[5,6,7,8].getD i 0) (RelR [Rel.val (.agg #[.bool (ah n1),.slice p1 (aa n1) c1,.slice s1 (ag en1) d1]),Rel.val (.agg #[.bool (ah n2),.slice p2 (aa n2) c2,.slice s2 (ag en2) d2]),⟨fun v W=>∃ p c s d,v=.agg #[.bool (ah m),.slice p (aa m) c,.slice s (ag f) d]∧RN W (.slice p (aa m) c) (m).natAbs∧RN W (.slice s (ag f) d) (f),fun _ _ _ ⟨p,c,s,d,e,h0,h1⟩ hb=>⟨p,c,s,d,e,h0.below hb,h1.below hb⟩⟩,⟨fun v W=>∃ p c s d,v=.agg #[.bool (ah n),.slice p (aa n) c,.slice s (ag dn) d]∧RN W (.slice p (aa n) c) (n).natAbs∧RN W (.slice s (ag dn) d) (dn),fun _ _ _ ⟨p,c,s,d,e,h0,h1⟩ hb=>⟨p,c,s,d,e,h0.below hb,h1.below hb⟩⟩]) (fun W=>Below W0.heap.size W0 W) (fun _ _=>True) (by kernel_rfl) (by kernel_rfl) (by kernel_rfl) trivial (Below.refl _ _).drew ?_ ?_
   · intro listed a W i hI hD hrd him
     obtain ⟨HI,HD,Hr⟩:=ai hI hD hrd;clear hI hrd hD;have y2:a.tmps[2]? = some (.pointer (some ⟨w.heap.size,0,none⟩)):=HI.out.rest 2 (by decide);have y3:a.tmps[3]? = some (.pointer (some ⟨w.heap.size+1,0,none⟩)):=HI.out.rest 3 (by decide);obtain ⟨dK10,dK11,dK12⟩:=aA (K1.out.below HI.out.world) rfl rfl rfl;obtain ⟨dK20,dK21,dK22⟩:=aA (K2.out.below HI.out.world) rfl rfl rfl;have X1:RV _ listed a 1 6 (.agg #[.bool (ah n2),.slice p2 (aa n2) c2,.slice s2 (ag en2) d2]):=HI.out.rh;have X0:RV _ listed a 0 5 (.agg #[.bool (ah n1),.slice p1 (aa n1) c1,.slice s1 (ag en1) d1]):=HI.out.rh
     match i,him,Hr with
     | 0,_,Hi =>
       refine au rfl fun K' hK=>?_;go_simp;exact hK.out _ _ ⟨HI.out.pv Hi.out rfl,trivial⟩
     | 1,_,Hi =>
       refine au rfl fun K' hK=>?_;go_simp;exact hK.out _ _ ⟨HI.out.pv Hi.out rfl,trivial⟩
     | 2,_,Hi =>
       have x1:=X1.g Hi.out (by kernel_rfl);refine au rfl fun K' hK=>?_;go_simp;with_reducible refine(C1.out _ _ _ _ _ (R2.out.below HI.out.world) (T2.out.below HI.out.world)).mono ?_
       rintro e W' ⟨u04,u05,u06,u07,rfl,u08,u09,hb⟩;exact hK.out _ _ ⟨HI.out.pc Hi.out hb ⟨u04,u05,u06,u07,rfl,u08,u09⟩,trivial⟩
     | 3,_,Hi =>
       have x0:=X0.g Hi.out (by kernel_rfl);obtain⟨v',x2,u04,u05,u06,u07,e,u08,u09⟩:=HI.out.at (i:=2) Hi.out (by kernel_rfl) (by decide);obtain rfl:=e;have x2:a.tmps[7]? = some (.agg #[.bool (ah m),.slice u04 (aa m) u05,.slice u06 (ag f) u07]):=x2;have u0j:=hid u08;clear u08;have u0k:=hid u09;clear u09;refine au rfl fun K' hK=>?_;go_simp;with_reducible refine(C2.out _ _ _ _ _ _ _ _ _ (R1.out.below HI.out.world) (T1.out.below HI.out.world) u0j.out u0k.out).mono ?_
       rintro e W' ⟨u00,u01,u02,u03,rfl,u0e,u0f,hb⟩;exact hK.out _ _ ⟨HI.out.pc Hi.out hb ⟨u00,u01,u02,u03,rfl,u0e,u0f⟩,trivial⟩
     | n+4,h,_=>exact absurd h (by omega)
   · intro listed a W hI hD hall
     obtain⟨v',x2,u04,u05,u06,u07,e,u08,u09⟩:=hI.slots 2 (by decide) (hall 2 (by decide));obtain rfl:=e;have u0j:=hid u08;clear u08;have u0k:=hid u09;clear u09;obtain⟨v',x3,u00,u01,u02,u03,e,u0e,u0f⟩:=hI.slots 3 (by decide) (hall 3 (by decide));obtain rfl:=e;have u0o:=hid u0e;clear u0e;have u0p:=hid u0f;clear u0f;have x3:a.tmps[8]? = some (.agg #[.bool (ah n),.slice u00 (aa n) u01,.slice u02 (ag dn) u03]):=x3;obtain ⟨HBW,HI,HA⟩:=ai hI.world hI hall;clear hI hall;obtain ⟨K3,HBX⟩:=aF (K3.out.below HBW.out) (HB0.out.trans (HBW.out.mono HB0.out.size));have RM:=u0j;have TM:=u0k;have RQ:=u0o;have TQ:=u0p;have y4:a.tmps[4]? = some (.pointer (some ⟨w.heap.size+1+1,0,none⟩)):=HI.out.rest 4 (by decide);obtain ⟨dK30,dK31,dK32⟩:=aA K3.out rfl rfl rfl;obtain ⟨fK30,fK31,fK32⟩:=aZ K3.out;refine aR (t:=0) ?_;refine au rfl fun K' hK=>?_;go_simp;refine hK.out _ _ ?_;clear hK;refine bf ?_;have s0:∀ {v':Value} {n':Nat},RN W v' n'→RN (storeAll W (w.heap.size+1+1) 0 [.bool (ah n),.slice u00 (aa n) u01,.slice u02 (ag dn) u03]) v' n':=fun h'=>bz _ h' K3.out (by simp[bO]) (by simp[bA]);exact⟨rfl,u04,u05,u06,u07,u00,u01,u02,u03,(HI.out.finx ⟨HI.out.sx HA.out 0,HI.out.sx HA.out 1,x2,x3,trivial⟩ rfl),(av (l:=[.bool (ah n),.slice u00 (aa n) u01,.slice u02 (ag dn) u03]) (i:=0) (by omega) HBX.out),(bS (l:=[.bool (ah n),.slice u00 (aa n) u01,.slice u02 (ag dn) u03]) (i:=0) K3.out),(s0 RQ.out),(s0 TQ.out)⟩
 rintro a' W1 ⟨u04,u05,u06,u07,u00,u01,u02,u03,rfl,z0,z1,z2,z3⟩;obtain ⟨HB1,K3,RQ,TQ⟩:=aG z0 z1 z2 z3;clear z0 z1 z2 z3;simp only[putL,List.setIfInBounds_toArray,List.set_cons_zero,List.set_cons_succ];go_wp2;obtain ⟨dK30,dK31,dK32⟩:=aA K3.out rfl rfl rfl;exact bodyPost_ret (v:=.agg #[.bool (ah n),.slice u00 (aa n) u01,.slice u02 (ag dn) u03]) (by simp[results,Tryz.results34,go_sem,dK30,dK31,dK32]) rfl ⟨_,_,_,_,rfl,RQ.out,TQ.out,HB1.out⟩
theorem z1Q (n1 n2 m n:Int)(en1 en2 f dn:Nat)(p1:Option Addr)(c1:Nat)(s1:Option Addr)(d1:Nat)(p2:Option Addr)(c2:Nat)(s2:Option Addr)(d2:Nat)(w:World)(h1:∀ p1 c1 s1 d1 W,RN W (.slice p1 (aa n2) c1) n2.natAbs→RN W (.slice s1 (ag en2) d1) en2→CF 66 #[.agg #[.bool (ah n2),.slice p1 (aa n2) c1,.slice s1 (ag en2) d1]] W m f)(h2:∀ p1 c1 s1 d1 p2 c2 s2 d2 W,RN W (.slice p1 (aa n1) c1) n1.natAbs→RN W (.slice s1 (ag en1) d1) en1→RN W (.slice p2 (aa m) c2) m.natAbs→RN W (.slice s2 (ag f) d2) f→CF 36 #[.agg #[.bool (ah n1),.slice p1 (aa n1) c1,.slice s1 (ag en1) d1],.agg #[.bool (ah m),.slice p2 (aa m) c2,.slice s2 (ag f) d2]] W n dn)(r1:RN w (.slice p1 (aa n1) c1) n1.natAbs)(t1:RN w (.slice s1 (ag en1) d1) en1)(r2:RN w (.slice p2 (aa n2) c2) n2.natAbs)(t2:RN w (.slice s2 (ag en2) d2) en2) :
 CF 38 #[.agg #[.bool (ah n1),.slice p1 (aa n1) c1,.slice s1 (ag en1) d1],.agg #[.bool (ah n2),.slice p2 (aa n2) c2,.slice s2 (ag en2) d2]] w n dn:=by
 obtain ⟨C1,C2,R1,T1,R2,T2⟩:=bU h1 h2 r1 t1 r2 t2;clear h1 h2 r1 t1 r2 t2;go_enter Tryz.func38,Tryz.ntmps38
 go_upto_region 1 with fail
 refine ay w [(#[.bool (ah n1),.slice p1 (aa n1) c1,.slice s1 (ag en1) d1],48),(#[.bool (ah n2),.slice p2 (aa n2) c2,.slice s2 (ag en2) d2],48),(#[.bool false,.slice none 0 0,.slice none 0 0],48)] rfl ?_;rintro W0 ⟨k1,k2,k3,hb⟩;have HB0:=hid (show Below w.heap.size w W0 from hb);obtain ⟨R1,T1,R2,T2,K1,K2,K3⟩:=cB (R1.out.below HB0.out) (T1.out.below HB0.out) (R2.out.below HB0.out) (T2.out.below HB0.out) k1 k2 k3;clear k1 k2 k3 hb;go_wp2_with fail
 refine aC (fun a0 a' V=>∃ u04 u05 u06 u07 u00 u01 u02 u03,a'=⟨putL [(5,.agg #[.bool (ah n1),.slice p1 (aa n1) c1,.slice s1 (ag en1) d1]),(6,.agg #[.bool (ah n2),.slice p2 (aa n2) c2,.slice s2 (ag en2) d2]),(7,.agg #[.bool (ah m),.slice u04 (aa m) u05,.slice u06 (ag f) u07]),(8,.agg #[.bool (ah n),.slice u00 (aa n) u01,.slice u02 (ag dn) u03])] a0.tmps,a0.defers⟩∧Below w.heap.size w V∧SBk V (w.heap.size+1+1) #[.bool (ah n),.slice u00 (aa n) u01,.slice u02 (ag dn) u03] 48∧RN V (.slice u00 (aa n) u01) (n).natAbs∧RN V (.slice u02 (ag dn) u03) (dn)) ?_ ?_
 · refine aB (by kernel_rfl) 4 1 (fun i=>[5,6,7,8].getD i 0) (RelR [Rel.val (.agg #[.bool (ah n1),.slice p1 (aa n1) c1,.slice s1 (ag en1) d1]),Rel.val (.agg #[.bool (ah n2),.slice p2 (aa n2) c2,.slice s2 (ag en2) d2]),⟨fun v W=>∃ p c s d,v=.agg #[.bool (ah m),.slice p (aa m) c,.slice s (ag f) d]∧RN W (.slice p (aa m) c) (m).natAbs∧RN W (.slice s (ag f) d) (f),fun _ _ _ ⟨p,c,s,d,e,h0,h1⟩ hb=>⟨p,c,s,d,e,h0.below hb,h1.below hb⟩⟩,⟨fun v W=>∃ p c s d,v=.agg #[.bool (ah n),.slice p (aa n) c,.slice s (ag dn) d]∧RN W (.slice p (aa n) c) (n).natAbs∧RN W (.slice s (ag dn) d) (dn),fun _ _ _ ⟨p,c,s,d,e,h0,h1⟩ hb=>⟨p,c,s,d,e,h0.below hb,h1.below hb⟩⟩]) (fun W=>Below W0.heap.size W0 W) (fun _ _=>True) (by kernel_rfl) (by kernel_rfl) (by kernel_rfl) trivial (Below.refl _ _).drew ?_ ?_
   · intro listed a W i hI hD hrd him
     obtain ⟨HI,HD,Hr⟩:=ai hI hD hrd;clear hI hrd hD;have y2:a.tmps[2]? = some (.pointer (some ⟨w.heap.size,0,none⟩)):=HI.out.rest 2 (by decide);have y3:a.tmps[3]? = some (.pointer (some ⟨w.heap.size+1,0,none⟩)):=HI.out.rest 3 (by decide);obtain ⟨dK10,dK11,dK12⟩:=aA (K1.out.below HI.out.world) rfl rfl rfl;obtain ⟨dK20,dK21,dK22⟩:=aA (K2.out.below HI.out.world) rfl rfl rfl;have X1:RV _ listed a 1 6 (.agg #[.bool (ah n2),.slice p2 (aa n2) c2,.slice s2 (ag en2) d2]):=HI.out.rh;have X0:RV _ listed a 0 5 (.agg #[.bool (ah n1),.slice p1 (aa n1) c1,.slice s1 (ag en1) d1]):=HI.out.rh
     match i,him,Hr with
     | 0,_,Hi =>
       refine au rfl fun K' hK=>?_;go_simp;exact hK.out _ _ ⟨HI.out.pv Hi.out rfl,trivial⟩
     | 1,_,Hi =>
       refine au rfl fun K' hK=>?_;go_simp;exact hK.out _ _ ⟨HI.out.pv Hi.out rfl,trivial⟩
     | 2,_,Hi =>
       have x1:=X1.g Hi.out (by kernel_rfl);refine au rfl fun K' hK=>?_;go_simp;with_reducible refine(C1.out _ _ _ _ _ (R2.out.below HI.out.world) (T2.out.below HI.out.world)).mono ?_
       rintro e W' ⟨u04,u05,u06,u07,rfl,u08,u09,hb⟩;exact hK.out _ _ ⟨HI.out.pc Hi.out hb ⟨u04,u05,u06,u07,rfl,u08,u09⟩,trivial⟩
     | 3,_,Hi =>
       have x0:=X0.g Hi.out (by kernel_rfl);obtain⟨v',x2,u04,u05,u06,u07,e,u08,u09⟩:=HI.out.at (i:=2) Hi.out (by kernel_rfl) (by decide);obtain rfl:=e;have x2:a.tmps[7]? = some (.agg #[.bool (ah m),.slice u04 (aa m) u05,.slice u06 (ag f) u07]):=x2;have u0j:=hid u08;clear u08;have u0k:=hid u09;clear u09;refine au rfl fun K' hK=>?_;go_simp;with_reducible refine(C2.out _ _ _ _ _ _ _ _ _ (R1.out.below HI.out.world) (T1.out.below HI.out.world) u0j.out u0k.out).mono ?_
       rintro e W' ⟨u00,u01,u02,u03,rfl,u0e,u0f,hb⟩;exact hK.out _ _ ⟨HI.out.pc Hi.out hb ⟨u00,u01,u02,u03,rfl,u0e,u0f⟩,trivial⟩
     | n+4,h,_=>exact absurd h (by omega)
   · intro listed a W hI hD hall
     obtain⟨v',x2,u04,u05,u06,u07,e,u08,u09⟩:=hI.slots 2 (by decide) (hall 2 (by decide));obtain rfl:=e;have u0j:=hid u08;clear u08;have u0k:=hid u09;clear u09;obtain⟨v',x3,u00,u01,u02,u03,e,u0e,u0f⟩:=hI.slots 3 (by decide) (hall 3 (by decide));obtain rfl:=e;have u0o:=hid u0e;clear u0e;have u0p:=hid u0f;clear u0f;have x3:a.tmps[8]? = some (.agg #[.bool (ah n),.slice u00 (aa n) u01,.slice u02 (ag dn) u03]):=x3;obtain ⟨HBW,HI,HA⟩:=ai hI.world hI hall;clear hI hall;obtain ⟨K3,HBX⟩:=aF (K3.out.below HBW.out) (HB0.out.trans (HBW.out.mono HB0.out.size));have RM:=u0j;have TM:=u0k;have RQ:=u0o;have TQ:=u0p;have y4:a.tmps[4]? = some (.pointer (some ⟨w.heap.size+1+1,0,none⟩)):=HI.out.rest 4 (by decide);obtain ⟨dK30,dK31,dK32⟩:=aA K3.out rfl rfl rfl;obtain ⟨fK30,fK31,fK32⟩:=aZ K3.out;refine aR (t:=0) ?_;refine au rfl fun K' hK=>?_;go_simp;refine hK.out _ _ ?_;clear hK;refine bf ?_;have s0:∀ {v':Value} {n':Nat},RN W v' n'→RN (storeAll W (w.heap.size+1+1) 0 [.bool (ah n),.slice u00 (aa n) u01,.slice u02 (ag dn) u03]) v' n':=fun h'=>bz _ h' K3.out (by simp[bO]) (by simp[bA]);exact⟨rfl,u04,u05,u06,u07,u00,u01,u02,u03,(HI.out.finx ⟨HI.out.sx HA.out 0,HI.out.sx HA.out 1,x2,x3,trivial⟩ rfl),(av (l:=[.bool (ah n),.slice u00 (aa n) u01,.slice u02 (ag dn) u03]) (i:=0) (by omega) HBX.out),(bS (l:=[.bool (ah n),.slice u00 (aa n) u01,.slice u02 (ag dn) u03]) (i:=0) K3.out),(s0 RQ.out),(s0 TQ.out)⟩
 rintro a' W1 ⟨u04,u05,u06,u07,u00,u01,u02,u03,rfl,z0,z1,z2,z3⟩;obtain ⟨HB1,K3,RQ,TQ⟩:=aG z0 z1 z2 z3;clear z0 z1 z2 z3;simp only[putL,List.setIfInBounds_toArray,List.set_cons_zero,List.set_cons_succ];go_wp2;obtain ⟨dK30,dK31,dK32⟩:=aA K3.out rfl rfl rfl;exact bodyPost_ret (v:=.agg #[.bool (ah n),.slice u00 (aa n) u01,.slice u02 (ag dn) u03]) (by simp[results,Tryz.results38,go_sem,dK30,dK31,dK32]) rfl ⟨_,_,_,_,rfl,RQ.out,TQ.out,HB1.out⟩
end Go.Proofs.YtodcdibanokjjaaGreatDoor
