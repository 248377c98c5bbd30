/- texts -/
import Derived.Test.YtlgkolkcokaefaaGreatDoorMz39q
import Derived.Test.YtlgkolkcokaefaaGreatDoorJd
import Derived.Test.YtlgkolkcokaefaaGreatDoorJc
import Derived.Test.YtlgkolkcokaefaaGreatDoorJb
import Derived.Test.YtlgkolkcokaefaaGreatDoorJa
import Derived.Test.YtlgkolkcokaefaaGreatDoorMz46q
namespace Go.Proofs.YtlgkolkcokaefaaGreatDoor
open Go.RowKit Go.Gb
theorem kq2 {f:Nat}{x y z:Rat}(h:∀ p1 c1 s1 d1 p2 c2 s2 d2 W,RN W (.slice p1 (aa x.num) c1) x.num.natAbs→RN W (.slice s1 (ag x.den) d1) x.den→RN W (.slice p2 (aa y.num) c2) y.num.natAbs→RN W (.slice s2 (ag y.den) d2) y.den→Calls Tryz.prog f #[.agg #[.bool (ai x.num),.slice p1 (aa x.num) c1,.slice s1 (ag x.den) d1],.agg #[.bool (ai y.num),.slice p2 (aa y.num) c2,.slice s2 (ag y.den) d2]] W fun e w'=>∃ p c s d,e=.returned (.agg #[.bool (ai z.num),.slice p (aa z.num) c,.slice s (ag z.den) d])∧RN w' (.slice p (aa z.num) c) z.num.natAbs∧RN w' (.slice s (ag z.den) d) z.den∧Below W.heap.size W w'):KQ2 f x y z:=by
 rintro⟨b,a,n,c,e,m,d⟩ ⟨b',a',n',c',e',m',d'⟩ W ⟨h1,h2,h3,h4,h5⟩ ⟨k1,k2,k3,k4,k5⟩
 dsimp only at *;subst h1 h2 h3 k1 k2 k3;exact(h _ _ _ _ _ _ _ _ W h4 h5 k4 k5).mono fun _ _ ⟨p,c,s,d,he,hr,ht,hb⟩=>⟨⟨_,p,_,c,s,_,d⟩,he,⟨rfl,rfl,rfl,hr,ht⟩,hb⟩
theorem kp2 {f:Nat}{x y:Rat}{v:Value}(h:∀ p1 c1 s1 d1 p2 c2 s2 d2 W,RN W (.slice p1 (aa x.num) c1) x.num.natAbs→RN W (.slice s1 (ag x.den) d1) x.den→RN W (.slice p2 (aa y.num) c2) y.num.natAbs→RN W (.slice s2 (ag y.den) d2) y.den→Calls Tryz.prog f #[.agg #[.bool (ai x.num),.slice p1 (aa x.num) c1,.slice s1 (ag x.den) d1],.agg #[.bool (ai y.num),.slice p2 (aa y.num) c2,.slice s2 (ag y.den) d2]] W fun e w'=>e=.returned v∧Below W.heap.size W w'):KP2 f x y v:=by
 rintro⟨b,a,n,c,e,m,d⟩ ⟨b',a',n',c',e',m',d'⟩ W ⟨h1,h2,h3,h4,h5⟩ ⟨k1,k2,k3,k4,k5⟩
 dsimp only at *;subst h1 h2 h3 k1 k2 k3;exact h _ _ _ _ _ _ _ _ W h4 h5 k4 k5
theorem kp1 {f:Nat}{x:Rat}{v:Value}(h:∀ p1 c1 s1 d1 W,RN W (.slice p1 (aa x.num) c1) x.num.natAbs→RN W (.slice s1 (ag x.den) d1) x.den→Calls Tryz.prog f #[.agg #[.bool (ai x.num),.slice p1 (aa x.num) c1,.slice s1 (ag x.den) d1]] W fun e w'=>e=.returned v∧Below W.heap.size W w'):KP1 f x v:=by
 rintro⟨b,a,n,c,e,m,d⟩ W ⟨h1,h2,h3,h4,h5⟩
 dsimp only at *;subst h1 h2 h3;exact h _ _ _ _ W h4 h5
theorem ks {f:Nat}{v:Value}{z:Rat}(h:∀ W,Calls Tryz.prog f #[v] W fun e w'=>∃ p c s d,e=.returned (.agg #[.bool (ai z.num),.slice p (aa z.num) c,.slice s (ag z.den) d])∧RN w' (.slice p (aa z.num) c) z.num.natAbs∧RN w' (.slice s (ag z.den) d) z.den∧Below W.heap.size W w'):KS f v z:=fun W=>(h W).mono fun _ _ ⟨p,c,s,d,he,hr,ht,hb⟩=>⟨⟨_,p,_,c,s,_,d⟩,he,⟨rfl,rfl,rfl,hr,ht⟩,hb⟩
theorem ksb {f:Nat}{v:Value}{z:Rat}{b:Bool}(h:∀ W,Calls Tryz.prog f #[v] W fun e w'=>∃ p c s d,e=.returned (.tuple #[.agg #[.bool (ai z.num),.slice p (aa z.num) c,.slice s (ag z.den) d],.bool b])∧RN w' (.slice p (aa z.num) c) z.num.natAbs∧RN w' (.slice s (ag z.den) d) z.den∧Below W.heap.size W w'):KSb f v z b:=fun W=>(h W).mono fun _ _ ⟨p,c,s,d,he,hr,ht,hb⟩=>⟨⟨_,p,_,c,s,_,d⟩,he,⟨rfl,rfl,rfl,hr,ht⟩,hb⟩
theorem z4e {q:Rat}{k:Nat}(h:SmQ k q)(h0:0<k)(hk:k≤10000):LQ q:=⟨Nat.le_trans (gD h.1 h0) hk,Nat.le_trans (gD h.2 h0) hk⟩
theorem zm (a:ByteArray)(ha:a.size≤900):∃ q:Rat,∀ W,Calls Tryz.prog 26 #[.string a] W fun e w'=>∃ p c s d,e=.returned (.tuple #[.agg #[.bool (ai q.num),.slice p (aa q.num) c,.slice s (ag q.den) d],.bool (vldQ a.data.toList)])∧RN w' (.slice p (aa q.num) c) q.num.natAbs∧RN w' (.slice s (ag q.den) d) q.den∧Below W.heap.size W w':=by
 cases h:vldQ a.data.toList with
 | false=>exact⟨0,fun W=>z1u a h ha W⟩
 | true =>
   have e:=z3l h;obtain⟨q,hq⟩:∃ q,q=qval a.data.toList:=⟨_,rfl⟩;rw[← hq]at e;subst e;exact⟨q,fun W=>z4S q (zf ha (by decide)) (by omega) W⟩
theorem jlq {q:Rat}{k:Nat}(h:SmQ k q)(hk:k+1≤10000):LQ q:=z4e (h.mono (Nat.le_succ k)) (Nat.succ_pos k) hk
theorem o7 {x:Rat}{k:Nat}(hx:SmQ k x)(hk:k≤900):KSb 26 (.string (Sq x)) x true:=ksb (fun W=>z2U x (hx.mono hk) (by have:=yT (hx.mono hk) (by decide);omega) W)
theorem ji (a:ByteArray)(ha:a.size≤900):∃ x,KSb 26 (.string a) x (vldQ a.data.toList):=by
 obtain⟨x,hx⟩:=zm a ha;exact⟨x,ksb hx⟩
theorem jTo {x:Rat}{k:Nat}(hx:SmQ k x)(hk:k≤9000):KP1 27 x (.string (Sq x)):=kp1 (sQTo x _ rfl (hx.mono hk))
theorem jMul {x y:Rat}{k l:Nat}(hx:SmQ k x)(hy:SmQ l y)(hk:k≤9000)(hl:l≤9000):KQ2 61 x y (x*y):=kq2 (z4h x y _ rfl (jlq hx (by omega)) (jlq hy (by omega)))
theorem jAdd {x y:Rat}{k l:Nat}(hx:SmQ k x)(hy:SmQ l y)(hk:k≤9000)(hl:l≤9000):KQ2 67 x y (x+y):=kq2 (z4j x y _ rfl (jlq hx (by omega)) (jlq hy (by omega)))
theorem jSub {x y:Rat}{k l:Nat}(hx:SmQ k x)(hy:SmQ l y)(hk:k≤9000)(hl:l≤9000):KQ2 54 x y (x-y):=kq2 (z4N x y _ rfl (jlq hx (by omega)) (jlq hy (by omega)))
theorem jN {x:Rat}{k:Nat}(hx:SmQ k x)(hk:k≤900):KS 35 (.string (Sq x)) x:=fun W=>z3Z _ x true W (o7 hx hk)
theorem jN0:KS 35 (.string ⟨#[48]⟩) 0:=by have h:=jN hs0 (by decide);rwa [hq0]at h
theorem jN1:KS 35 (.string ⟨#[49]⟩) 1:=by have h:=jN hs1 (by decide);rwa [hq1]at h
theorem jNh:KS 35 (.string ⟨#[49,47,50]⟩) (1 / 2):=by have h:=jN hsh (by decide);rwa [hqh]at h
theorem jNeg {x:Rat}{k:Nat}(hx:SmQ k x)(hk:k≤9000):KQ1 28 x (0-x):=fun q1 W h=>z1e x 0 (0-x) q1 W jN0 (jSub hs0 hx (by decide) hk) h
theorem z4n (x y:Rat):decide (cmpQ x y<0)=decide (x<y):=by
 rcases oP x y with⟨h2,e⟩|⟨h2,e⟩|⟨h2,e⟩<;>rw[e]
 · exact(decide_eq_true (by grind)).symm
 · exact(decide_eq_false (by grind)).symm
 · exact(decide_eq_false (by grind)).symm
theorem z3w {x y:Rat}{k l:Nat}{b:Bool}(hb:decide (x<y)=b)(hx:SmQ k x)(hy:SmQ l y)(hk:k≤9000)(hl:l≤9000):KP2 79 x y (.bool b) :=
 fun q1 q2 W h1 h2=>yI x y (cmpQ x y) b q1 q2 W (by rw[z4n,hb]) (kp2 (z4R x y _ rfl (jlq hx (by omega)) (jlq hy (by omega)))) h1 h2
theorem jOut {x m:Rat}{k l:Nat}{b:Bool}(hb:decide (x<0-m∨m<x)=b)(hx:SmQ k x)(hm:SmQ l m)(hk:k≤4000)(hl:l≤4000):KP2 59 x m (.bool b):=by
 intro q1 q2 W h1 h2;have hn:=hs0.sub hm;by_cases c:x<0-m
 · obtain rfl:b=true:=by rw[← hb];exact decide_eq_true (Or.inl c)
   exact z1d x m (0-m) q1 q2 W (jNeg hm (by omega)) (z3w (decide_eq_true c) hx hn (by omega) (by omega)) h1 h2
 · exact z3h x m (0-m) b q1 q2 W (jNeg hm (by omega)) (z3w (decide_eq_false c) hx hn (by omega) (by omega)) (z3w (by rw[← hb];exact decide_eq_decide.2 ⟨Or.inr,fun h=>h.resolve_left c⟩) hm hx (by omega) (by omega)) h1 h2
theorem z2Y {x:Rat}{k:Nat}(hx:SmQ k x)(hk:k≤900):KQQ 60 x (cosQ x) (sinQ x):=by
 intro q W h;have s:=hx.mul hx;have m:=hs1.sub s;have p:=hs1.add s;have d:=hx.add hx;refine wZ x 1 (x*x) (1+x*x) (1-x*x) (cosQ x) (x+x) (sinQ x) q W jN1 (jMul hx hx (by omega) (by omega)) (jAdd hs1 s (by decide) (by omega)) (jSub hs1 s (by decide) (by omega)) (kq2 (z4i _ _ _ rfl (qX x) (jlq m (by omega)) (jlq p (by omega)))) (jAdd hx hx (by omega) (by omega)) (kq2 (z4i _ _ _ ?_ (qX x) (jlq d (by omega)) (jlq p (by omega)))) h;unfold sinQ
 rw[show x+x=2*x by grind]
theorem uq {p:Rat}{b:Bool}(hb:decide (¬ (-1≤p∧p≤1))=b):decide (p<0-1∨1<p)=b:=by
 rw[← hb];exact decide_eq_decide.2 (by grind)
theorem zY {p:Rat}{b:Bool}(hb:decide (¬ (-(1:Rat) / 2≤p∧p≤1 / 2))=b):decide (p<0-1 / 2∨1 / 2<p)=b:=by
 rw[← hb];exact decide_eq_decide.2 (by grind)
theorem z2Z {p q:Rat}(hp:SmQ 40 p)(hq:SmQ 40 q)(h:InA p q):KF 32 (.agg #[.string (Sq p),.string (Sq q)]) (cosQ q) (0-sinQ p*sinQ q) (cosQ p*sinQ q) 0 (cosQ p) (sinQ p) (0-sinQ q) (0-sinQ p*cosQ q) (cosQ p*cosQ q):=by
 intro W;have cp:=(rA hp).1;have sp:=(rA hp).2;have cq:=(rA hq).1;have sq:=(rA hq).2;exact yL _ _ p q 1 (1 / 2) (cosQ p) (sinQ p) (cosQ q) (sinQ q) (sinQ p*sinQ q) (0-sinQ p*sinQ q) (cosQ p*sinQ q) 0 (0-sinQ q) (sinQ p*cosQ q) (0-sinQ p*cosQ q) (cosQ p*cosQ q) W (o7 hp (by decide)) (o7 hq (by decide)) jN1 (jOut (uq (decide_eq_false (fun k=>k h.1))) hp hs1 (by decide) (by decide)) jNh (jOut (zY (decide_eq_false (fun k=>k h.2))) hq hsh (by decide) (by decide)) (z2Y hp (by decide)) (z2Y hq (by decide)) (jMul sp sq (by decide) (by decide)) (jNeg (sp.mul sq) (by decide)) (jMul cp sq (by decide) (by decide)) jN0 (jNeg sq (by decide)) (jMul sp cq (by decide) (by decide)) (jNeg (sp.mul cq) (by decide)) (jMul cp cq (by decide) (by decide))
theorem oK {a b:ByteArray}(h:(vldQ a.data.toList&&vldQ b.data.toList)=false)(ha:a.size≤900)(hb:b.size≤900):KPs 32 (.agg #[.string a,.string b]) (.tuple #[.agg bY,.int .i64 1]):=by
 intro W;obtain⟨x,h1⟩:=ji a ha;obtain⟨y,h2⟩:=ji b hb
 cases va:vldQ a.data.toList with
 | false =>
   rw[va]at h1;exact yN a b x y _ W h1 h2
 | true =>
   rw[va,Bool.true_and]at h;rw[va]at h1;rw[h]at h2;exact yM a b x y W h1 h2
theorem oJ {p q:Rat}(hp:SmQ 40 p)(hq:SmQ 40 q)(h:¬ InA p q):KPs 32 (.agg #[.string (Sq p),.string (Sq q)]) (.tuple #[.agg bY,.int .i64 2]):=by
 intro W;by_cases h1 : -1≤p∧p≤1
 · exact yJ _ _ p q 1 (1 / 2) W (o7 hp (by decide)) (o7 hq (by decide)) jN1 (jOut (uq (decide_eq_false (fun k=>k h1))) hp hs1 (by decide) (by decide)) jNh (jOut (zY (decide_eq_true (fun k=>h ⟨h1,k⟩))) hq hsh (by decide) (by decide))
 · exact yK _ _ p q 1 W (o7 hp (by decide)) (o7 hq (by decide)) jN1 (jOut (uq (decide_eq_true h1)) hp hs1 (by decide) (by decide))
theorem jVec {x y z:Rat}{k:Nat}(hx:SmQ k x)(hy:SmQ k y)(hz:SmQ k z)(hk:k≤900):KVb 24 (.agg #[.string (Sq x),.string (Sq y),.string (Sq z)]) x y z true:=fun W=>vH _ _ _ x y z true true true W (o7 hx hk) (o7 hy hk) (o7 hz hk)
theorem z1Q {a b c:ByteArray}(h:(vldQ a.data.toList&&vldQ b.data.toList&&vldQ c.data.toList)=false)(ha:a.size≤900)(hb:b.size≤900)(hc:c.size≤900):∃ x y z,KVb 24 (.agg #[.string a,.string b,.string c]) x y z false:=by
 obtain⟨x,h1⟩:=ji a ha;obtain⟨y,h2⟩:=ji b hb;obtain⟨z,h3⟩:=ji c hc;refine⟨x,y,z,fun W=>?_⟩;have k:=vH a b c x y z _ _ _ W h1 h2 h3;rwa [h]at k
theorem ow {a b c x y z:Rat}{k l:Nat}(ha:SmQ k a)(hb:SmQ k b)(hc:SmQ k c)(hx:SmQ l x)(hy:SmQ l y)(hz:SmQ l z):SmQ (k+l+(k+l)+1+(k+l)+1) (dotR a b c x y z):=((ha.mul hx).add (hb.mul hy)).add (hc.mul hz)
theorem jDot {a b c x y z:Rat}{k l:Nat}(ha:SmQ k a)(hb:SmQ k b)(hc:SmQ k c)(hx:SmQ l x)(hy:SmQ l y)(hz:SmQ l z)(hk:k≤1000)(hl:l≤1000):KDot 41 a b c x y z (dotR a b c x y z) :=
 fun q1 q2 q3 q4 q5 q6 W h1 h2 h3 h4 h5 h6=>z1f a b c x y z (a*x) (b*y) (c*z) (a*x+b*y) (dotR a b c x y z) q1 q2 q3 q4 q5 q6 W (jMul ha hx (by omega) (by omega)) (jMul hb hy (by omega) (by omega)) (jAdd (ha.mul hx) (hb.mul hy) (by omega) (by omega)) (jMul hc hz (by omega) (by omega)) (jAdd ((ha.mul hx).add (hb.mul hy)) (hc.mul hz) (by omega) (by omega)) h1 h2 h3 h4 h5 h6
theorem zW {c x y z:Rat}{k l:Nat}(hc:SmQ k c)(hx:SmQ l x)(hy:SmQ l y)(hz:SmQ l z)(hk:k≤1000)(hl:l≤1000):KTi 66 c x y z (c*x) (c*y) (c*z) :=
 fun q1 q2 q3 q4 W h1 h2 h3 h4=>wY c x y z (c*x) (c*y) (c*z) q1 q2 q3 q4 W (jMul hc hx (by omega) (by omega)) (jMul hc hy (by omega) (by omega)) (jMul hc hz (by omega) (by omega)) h1 h2 h3 h4
theorem z4o {a b c x y z:Rat}{k l:Nat}(ha:SmQ k a)(hb:SmQ k b)(hc:SmQ k c)(hx:SmQ l x)(hy:SmQ l y)(hz:SmQ l z)(hk:k≤5000)(hl:l≤5000):KPl 65 a b c x y z (a+x) (b+y) (c+z) :=
 fun q1 q2 q3 q4 q5 q6 W h1 h2 h3 h4 h5 h6=>yG a b c x y z (a+x) (b+y) (c+z) q1 q2 q3 q4 q5 q6 W (jAdd ha hx (by omega) (by omega)) (jAdd hb hy (by omega) (by omega)) (jAdd hc hz (by omega) (by omega)) h1 h2 h3 h4 h5 h6
theorem z4p {x y z:Rat}{k:Nat}(hx:SmQ k x)(hy:SmQ k y)(hz:SmQ k z)(hk:k≤9000):KOut 33 x y z (.agg #[.string (Sq x),.string (Sq y),.string (Sq z)]) :=
 fun q1 q2 q3 W h1 h2 h3=>yH x y z _ _ _ q1 q2 q3 W (jTo hx hk) (jTo hy hk) (jTo hz hk) h1 h2 h3
theorem z3v {xa xb xc ya yb yc za zb zc va vb vc:Rat}{k l:Nat}(hxa:SmQ k xa)(hxb:SmQ k xb)(hxc:SmQ k xc)(hya:SmQ k ya)(hyb:SmQ k yb)(hyc:SmQ k yc)(hza:SmQ k za)(hzb:SmQ k zb)(hzc:SmQ k zc)(hva:SmQ l va)(hvb:SmQ l vb)(hvc:SmQ l vc)(hk:k≤1000)(hl:l≤1000):KFr 38 xa xb xc ya yb yc za zb zc va vb vc (dotR xa xb xc va vb vc) (dotR ya yb yc va vb vc) (dotR za zb zc va vb vc) :=
 fun q0 q1 q2 q3 q4 q5 q6 q7 q8 q9 q10 q11 W r0 r1 r2 r3 r4 r5 r6 r7 r8 r9 r10 r11=>tV xa xb xc ya yb yc za zb zc va vb vc (dotR xa xb xc va vb vc) (dotR ya yb yc va vb vc) (dotR za zb zc va vb vc) q0 q1 q2 q3 q4 q5 q6 q7 q8 q9 q10 q11 W (jDot hxa hxb hxc hva hvb hvc hk hl) (jDot hya hyb hyc hva hvb hvc hk hl) (jDot hza hzb hzc hva hvb hvc hk hl) r0 r1 r2 r3 r4 r5 r6 r7 r8 r9 r10 r11
theorem zX {xa xb xc ya yb yc za zb zc va vb vc:Rat}{k l:Nat}(hxa:SmQ k xa)(hxb:SmQ k xb)(hxc:SmQ k xc)(hya:SmQ k ya)(hyb:SmQ k yb)(hyc:SmQ k yc)(hza:SmQ k za)(hzb:SmQ k zb)(hzc:SmQ k zc)(hva:SmQ l va)(hvb:SmQ l vb)(hvc:SmQ l vc)(hk:k≤1000)(hl:l≤1000):KFr 40 xa xb xc ya yb yc za zb zc va vb vc (va*xa+vb*ya+vc*za) (va*xb+vb*yb+vc*zb) (va*xc+vb*yc+vc*zc) :=
 fun q0 q1 q2 q3 q4 q5 q6 q7 q8 q9 q10 q11 W r0 r1 r2 r3 r4 r5 r6 r7 r8 r9 r10 r11=>pG xa xb xc ya yb yc za zb zc va vb vc (va*xa) (va*xb) (va*xc) (vb*ya) (vb*yb) (vb*yc) (vc*za) (vc*zb) (vc*zc) (va*xa+vb*ya) (va*xb+vb*yb) (va*xc+vb*yc) (va*xa+vb*ya+vc*za) (va*xb+vb*yb+vc*zb) (va*xc+vb*yc+vc*zc) q0 q1 q2 q3 q4 q5 q6 q7 q8 q9 q10 q11 W (zW hva hxa hxb hxc hl hk) (zW hvb hya hyb hyc hl hk) (z4o (hva.mul hxa) (hva.mul hxb) (hva.mul hxc) (hvb.mul hya) (hvb.mul hyb) (hvb.mul hyc) (by omega) (by omega)) (zW hvc hza hzb hzc hl hk) (z4o ((hva.mul hxa).add (hvb.mul hya)) ((hva.mul hxb).add (hvb.mul hyb)) ((hva.mul hxc).add (hvb.mul hyc)) (hvc.mul hza) (hvc.mul hzb) (hvc.mul hzc) (by omega) (by omega)) r0 r1 r2 r3 r4 r5 r6 r7 r8 r9 r10 r11
theorem z1R {p q x y z:Rat}(hp:SmQ 40 p)(hq:SmQ 40 q)(hx:SmQ 40 x)(hy:SmQ 40 y)(hz:SmQ 40 z)(h:InA p q)(w:World):CV w 21 #[.agg #[.string (Sq p),.string (Sq q)],.agg #[.string (Sq x),.string (Sq y),.string (Sq z)]] (.tuple #[.agg #[.string (Sq (dotR (cosQ q) (0-sinQ p*sinQ q) (cosQ p*sinQ q) x y z)),.string (Sq (dotR 0 (cosQ p) (sinQ p) x y z)),.string (Sq (dotR (0-sinQ q) (0-sinQ p*cosQ q) (cosQ p*cosQ q) x y z))],.int .i64 0]):=by
 obtain⟨s1,s2,s3,s4,s5,s6,s7,s8,s9⟩:=mW hp hq;exact fun W _=>z1b _ _ _ _ _ x y z (cosQ q) (0-sinQ p*sinQ q) (cosQ p*sinQ q) 0 (cosQ p) (sinQ p) (0-sinQ q) (0-sinQ p*cosQ q) (cosQ p*cosQ q) _ _ _ _ _ _ W (jVec hx hy hz (by decide)) (z2Z hp hq h) (z3v s1 s2 s3 s4 s5 s6 s7 s8 s9 hx hy hz (by decide) (by decide)) (z4p (k:=700) ((ow s1 s2 s3 hx hy hz).mono (by omega)) ((ow s4 s5 s6 hx hy hz).mono (by omega)) ((ow s7 s8 s9 hx hy hz).mono (by omega))  (by omega))
theorem z1S {p q x y z:Rat}(hp:SmQ 40 p)(hq:SmQ 40 q)(hx:SmQ 40 x)(hy:SmQ 40 y)(hz:SmQ 40 z)(h:InA p q)(w:World):CV w 23 #[.agg #[.string (Sq p),.string (Sq q)],.agg #[.string (Sq x),.string (Sq y),.string (Sq z)]] (.tuple #[.agg #[.string (Sq (dotR (cosQ q) 0 (0-sinQ q) x y z)),.string (Sq (dotR (0-sinQ p*sinQ q) (cosQ p) (0-sinQ p*cosQ q) x y z)),.string (Sq (dotR (cosQ p*sinQ q) (sinQ p) (cosQ p*cosQ q) x y z))],.int .i64 0]):=by
 obtain⟨s1,s2,s3,s4,s5,s6,s7,s8,s9⟩:=mW hp hq;have e:∀ a b c:Rat,x*a+y*b+z*c=dotR a b c x y z:=fun a b c=>by unfold dotR;grind
 have k:=zX s1 s2 s3 s4 s5 s6 s7 s8 s9 hx hy hz (by decide) (by decide);rw[e,e,e]at k;exact fun W _=>z1g _ _ _ _ _ x y z (cosQ q) (0-sinQ p*sinQ q) (cosQ p*sinQ q) 0 (cosQ p) (sinQ p) (0-sinQ q) (0-sinQ p*cosQ q) (cosQ p*cosQ q) _ _ _ _ _ _ W (jVec hx hy hz (by decide)) (z2Z hp hq h) k (z4p (k:=700) ((ow s1 s4 s7 hx hy hz).mono (by omega)) ((ow s2 s5 s8 hx hy hz).mono (by omega)) ((ow s3 s6 s9 hx hy hz).mono (by omega))  (by omega))
def FarA (p q:ByteArray):Prop:=∃ mp mq:Rat,p=Sq mp∧SmQ 40 mp∧q=Sq mq∧SmQ 40 mq∧¬ InA mp mq
theorem z4z (p q x y z:ByteArray)(hp:p.size≤40)(hq:q.size≤40)(hx:x.size≤40)(hy:y.size≤40)(hz:z.size≤40)(w:World)(hla:La w):(∃ er:Int,(er=1∧((vldQ p.data.toList&&vldQ q.data.toList)=false∨(vldQ x.data.toList&&vldQ y.data.toList&&vldQ z.data.toList)=false)∨er=2∧((vldQ p.data.toList&&vldQ q.data.toList)=true∧(vldQ x.data.toList&&vldQ y.data.toList&&vldQ z.data.toList)=true∧FarA p q))∧Ch3 w (p) (q) (x) (y) (z) er)∨(∃ mp mq mx my mz:Rat,(p=Sq mp∧SmQ 40 mp∧q=Sq mq∧SmQ 40 mq∧x=Sq mx∧SmQ 40 mx∧y=Sq my∧SmQ 40 my∧z=Sq mz∧SmQ 40 mz)∧InA mp mq∧Ch3 w (p) (q) (x) (y) (z) 0):=by
 have n2:=uR (sD (a:=p) (by omega) w hla) (sD (a:=q) (by omega) w hla);have n5:=z0N (sD (a:=x) (by omega) w hla) (sD (a:=y) (by omega) w hla) (sD (a:=z) (by omega) w hla)
 cases e2:vldQ p.data.toList&&vldQ q.data.toList with
 | false =>
   rw[e2]at n2;refine Or.inl ⟨1,Or.inl ⟨rfl,Or.inl rfl⟩,?_⟩;exact fun g W hW k=>(z3B g _ _ _ _ _ W (dZ n2 hW) k).at
 | true =>
   rw[e2]at n2
   cases e3:vldQ x.data.toList&&vldQ y.data.toList&&vldQ z.data.toList with
   | false =>
     rw[e3]at n5;refine Or.inl ⟨1,Or.inl ⟨rfl,Or.inr rfl⟩,?_⟩;exact fun g W hW k=>(z3A g _ _ _ _ _ W (dZ n2 hW) (fK n5 hW) k).at
   | true =>
     rw[e3]at n5;have v2:=e2;have v3:=e3;simp only[Bool.and_eq_true]at e2 e3;obtain⟨mp,rfl,sp⟩:=(hform (k:=40) (by decide) p hp).resolve_left (by rw[e2.1];decide);obtain⟨mq,rfl,sq⟩:=(hform (k:=40) (by decide) q hq).resolve_left (by rw[e2.2];decide);obtain⟨mx,rfl,sx⟩:=(hform (k:=40) (by decide) x hx).resolve_left (by rw[e3.1.1];decide);obtain⟨my,rfl,sy⟩:=(hform (k:=40) (by decide) y hy).resolve_left (by rw[e3.1.2];decide);obtain⟨mz,rfl,sz⟩:=(hform (k:=40) (by decide) z hz).resolve_left (by rw[e3.2];decide);by_cases r1 : -1≤mp∧mp≤1
     · have f1:=hfh (decide_eq_true r1) (sp.fit (by decide)) w hla
       by_cases r2 : -(1:Rat) / 2≤mq∧mq≤1 / 2
       · have f2:=hft (decide_eq_true r2) (sq.fit (by decide)) w hla
         refine Or.inr ⟨mp,mq,mx,my,mz,⟨rfl,sp,rfl,sq,rfl,sx,rfl,sy,rfl,sz⟩,⟨r1,r2⟩,?_⟩;exact fun g W hW k=>(z0g g _ _ _ _ _ W (f1.mono hW) (f2.mono hW) (dZ n2 hW) (fK n5 hW) k).at
       · have f2:=hft (decide_eq_false r2) (sq.fit (by decide)) w hla
         refine Or.inl ⟨2,Or.inr ⟨rfl,rfl,rfl,mp,mq,rfl,sp,rfl,sq,fun k=>r2 k.2⟩,?_⟩;exact fun g W hW k=>(z3y g _ _ _ _ _ W (f1.mono hW) (f2.mono hW) (dZ n2 hW) (fK n5 hW) k).at
     · have f1:=hfh (decide_eq_false r1) (sp.fit (by decide)) w hla
       refine Or.inl ⟨2,Or.inr ⟨rfl,rfl,rfl,mp,mq,rfl,sp,rfl,sq,fun k=>r1 k.1⟩,?_⟩;exact fun g W hW k=>(z3z g _ _ _ _ _ W (f1.mono hW) (dZ n2 hW) (fK n5 hW) k).at
