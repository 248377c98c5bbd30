/- texts -/
import Derived.Test.YtnpkghpfmieboaaGreatDoorMz43q
set_option maxRecDepth 100000
set_option maxHeartbeats 20000000
open Go.Lib (hid)
namespace Go.Proofs.YtnpkghpfmieboaaGreatDoor
open Go.RowKit Go.Gb
theorem z4V (n1 n2 n3 c x:ByteArray)(sl:Value)(w₀:World)  (kc:decide ((c.size:Int)≤20)=false) :
 CV w₀ 5 #[.agg #[.string n1,.string n2,.string n3,.string c],.string x,sl] (.bool false):=by
 intro w hw;clear hw;go_enter Tryz.func5,Tryz.ntmps5
 go_upto_region 1 with fail
 refine ak w [(#[.string n1,.string n2,.string n3,.string c],26)] rfl ?_;rintro W0 ⟨k1,hb⟩;have u6:=hid (show Below w.heap.size w W0 from hb);have K1:=hid k1;clear k1 hb;have w9:=K1.o.cell (i:=3) rfl;go_wp2;exact bodyPost_ret (v:=.bool false) (by simp[results,Tryz.results5,go_sem]) rfl ⟨rfl,u6.o⟩
theorem z4S (n1 n2 n3 c x:ByteArray)(sl:Value)(w₀:World)  (kc:decide ((c.size:Int)≤20)=true)(kx:decide ((x.size:Int)≤20)=false) :
 CV w₀ 5 #[.agg #[.string n1,.string n2,.string n3,.string c],.string x,sl] (.bool false):=by
 intro w hw;clear hw;go_enter Tryz.func5,Tryz.ntmps5
 go_upto_region 1 with fail
 refine ak w [(#[.string n1,.string n2,.string n3,.string c],26)] rfl ?_;rintro W0 ⟨k1,hb⟩;have u6:=hid (show Below w.heap.size w W0 from hb);have K1:=hid k1;clear k1 hb;have w9:=K1.o.cell (i:=3) rfl;go_wp2;exact bodyPost_ret (v:=.bool false) (by simp[results,Tryz.results5,go_sem]) rfl ⟨rfl,u6.o⟩
theorem z4T (n1 n2 n3 c x:ByteArray)(sl:Value)(w₀:World)  (kc:decide ((c.size:Int)≤20)=true)(kx:decide ((x.size:Int)≤20)=true)(hn:decide (n1.size≤20∧n2.size≤20∧n3.size≤20)=false) :
 CV w₀ 5 #[.agg #[.string n1,.string n2,.string n3,.string c],.string x,sl] (.bool false):=by
 intro w hw;have HN:=hid hn;clear hn hw;go_enter Tryz.func5,Tryz.ntmps5
 go_upto_region 1 with fail
 refine ak w [(#[.string n1,.string n2,.string n3,.string c],26)] rfl ?_;rintro W0 ⟨k1,hb⟩;have u6:=hid (show Below w.heap.size w W0 from hb);have K1:=hid k1;clear k1 hb;have w9:=K1.o.cell (i:=3) rfl;obtain ⟨wu,ww,wy⟩:=ah K1.o rfl rfl rfl;go_wp2_with fail
 have hb:=jH W0 (.cells #[.string n1,.string n2,.string n3] 24);have k2:=SBk.new W0 #[.string n1,.string n2,.string n3] 24;generalize W0.alloc (.cells #[.string n1,.string n2,.string n3] 24)=W1 at *;have wz:=hbt u6 hb;have K2:=hid k2;clear k2 hb;with_reducible refine((uE _ n1 n2 n3 false HN.o _ K2.o).at).mono ?_
 rintro e W2 ⟨rfl,hb⟩;clear w9 wu ww wy;have wo:=hbt wz hb;clear hb;go_wp2;exact bodyPost_ret (v:=.bool false) (by simp[results,Tryz.results5,go_sem]) rfl ⟨rfl,wo.o⟩
theorem z4U (n1 n2 n3 c x:ByteArray)(sl:Value)(b:Bool)(w₀:World)(h1:CV w₀ 21 #[sl] (.bool b))(kc:decide ((c.size:Int)≤20)=true)(kx:decide ((x.size:Int)≤20)=true)(hn:decide (n1.size≤20∧n2.size≤20∧n3.size≤20)=true) :
 CV w₀ 5 #[.agg #[.string n1,.string n2,.string n3,.string c],.string x,sl] (.bool b):=by
 intro w hw;have C1:=hid (h1.mono hw);have HN:=hid hn;clear hn h1 hw;go_enter Tryz.func5,Tryz.ntmps5
 go_upto_region 1 with fail
 refine ak w [(#[.string n1,.string n2,.string n3,.string c],26)] rfl ?_;rintro W0 ⟨k1,hb⟩;have u6:=hid (show Below w.heap.size w W0 from hb);have K1:=hid k1;clear k1 hb;have w9:=K1.o.cell (i:=3) rfl;obtain ⟨wu,ww,wy⟩:=ah K1.o rfl rfl rfl;go_wp2_with fail
 have hb:=jH W0 (.cells #[.string n1,.string n2,.string n3] 24);have k2:=SBk.new W0 #[.string n1,.string n2,.string n3] 24;generalize W0.alloc (.cells #[.string n1,.string n2,.string n3] 24)=W1 at *;have wz:=hbt u6 hb;have K2:=hid k2;clear k2 hb;with_reducible refine((uE _ n1 n2 n3 true HN.o _ K2.o).at).mono ?_
 rintro e W2 ⟨rfl,hb⟩;clear w9 wu ww wy;have wo:=hbt wz hb;clear hb;go_wp2_with fail
 with_reducible refine(C1.o _ wo.o).mono ?_
 rintro e W3 ⟨rfl,hb⟩;have si:=hbt wo hb;clear hb;go_wp2;exact bodyPost_ret (v:=.bool b) (by simp[results,Tryz.results5,go_sem]) rfl ⟨rfl,si.o⟩
theorem lfew (n1 n2 n3 c x:ByteArray)(sl:Value)(b2 b:Bool)(w:World)(h:CV w 21 #[sl] (.bool b2))(hb:(decide (c.size≤20∧x.size≤20∧n1.size≤20∧n2.size≤20∧n3.size≤20)&&b2)=b) :
 CV w 5 #[.agg #[.string n1,.string n2,.string n3,.string c],.string x,sl] (.bool b):=by
 by_cases hc:c.size≤20
 · have kc:decide ((c.size:Int)≤20)=true:=decide_eq_true (by omega)
   by_cases hx:x.size≤20
   · have kx:decide ((x.size:Int)≤20)=true:=decide_eq_true (by omega)
     by_cases hn:n1.size≤20∧n2.size≤20∧n3.size≤20
     · have e:decide (c.size≤20∧x.size≤20∧n1.size≤20∧n2.size≤20∧n3.size≤20)=true:=decide_eq_true ⟨hc,hx,hn⟩
       rw[e,Bool.true_and]at hb;subst hb;exact z4U n1 n2 n3 c x sl b2 w h kc kx (decide_eq_true hn)
     · have e:decide (c.size≤20∧x.size≤20∧n1.size≤20∧n2.size≤20∧n3.size≤20)=false:=decide_eq_false (fun h=>hn h.2.2)
       rw[e,Bool.false_and]at hb;subst hb;exact z4T n1 n2 n3 c x sl w kc kx (decide_eq_false hn)
   · have e:decide (c.size≤20∧x.size≤20∧n1.size≤20∧n2.size≤20∧n3.size≤20)=false:=decide_eq_false (fun h=>hx h.2.1)
     rw[e,Bool.false_and]at hb;subst hb;exact z4S n1 n2 n3 c x sl w kc (decide_eq_false (by omega))
 · have e:decide (c.size≤20∧x.size≤20∧n1.size≤20∧n2.size≤20∧n3.size≤20)=false:=decide_eq_false (fun h=>hc h.1)
   rw[e,Bool.false_and]at hb;subst hb;exact z4V n1 n2 n3 c x sl w (decide_eq_false (by omega))
theorem kq2 {f:Nat}{x y z:Rat}(h:∀ p1 c1 s1 d1 p2 c2 s2 d2 W,RN W (.slice p1 (ae x.num) c1) x.num.natAbs→RN W (.slice s1 (ag x.den) d1) x.den→RN W (.slice p2 (ae y.num) c2) y.num.natAbs→RN W (.slice s2 (ag y.den) d2) y.den→Calls Tryz.prog f #[.agg #[.bool (ai x.num),.slice p1 (ae x.num) c1,.slice s1 (ag x.den) d1],.agg #[.bool (ai y.num),.slice p2 (ae y.num) c2,.slice s2 (ag y.den) d2]] W fun e w'=>∃ p c s d,e=.returned (.agg #[.bool (ai z.num),.slice p (ae z.num) c,.slice s (ag z.den) d])∧RN w' (.slice p (ae z.num) c) z.num.natAbs∧RN w' (.slice s (ag z.den) d) z.den∧Below W.heap.size W w'):KQ2 f x y z:=by
 rintro⟨b,a,n,c,e,m,d⟩ ⟨b',a',n',c',e',m',d'⟩ W ⟨h1,h2,h3,h4,h5⟩ ⟨k1,k2,k3,k4,k5⟩
 dsimp only at *;subst h1 h2 h3 k1 k2 k3;exact(h _ _ _ _ _ _ _ _ W h4 h5 k4 k5).mono fun _ _ ⟨p,c,s,d,he,hr,ht,hb⟩=>⟨⟨_,p,_,c,s,_,d⟩,he,⟨rfl,rfl,rfl,hr,ht⟩,hb⟩
theorem kp1 {f:Nat}{x:Rat}{v:Value}(h:∀ p1 c1 s1 d1 W,RN W (.slice p1 (ae x.num) c1) x.num.natAbs→RN W (.slice s1 (ag x.den) d1) x.den→Calls Tryz.prog f #[.agg #[.bool (ai x.num),.slice p1 (ae x.num) c1,.slice s1 (ag x.den) d1]] W fun e w'=>e=.returned v∧Below W.heap.size W w'):KP1 f x v:=by
 rintro⟨b,a,n,c,e,m,d⟩ W ⟨h1,h2,h3,h4,h5⟩
 dsimp only at *;subst h1 h2 h3;exact h _ _ _ _ W h4 h5
theorem ks {f:Nat}{v:Value}{z:Rat}(h:∀ W,Calls Tryz.prog f #[v] W fun e w'=>∃ p c s d,e=.returned (.agg #[.bool (ai z.num),.slice p (ae z.num) c,.slice s (ag z.den) d])∧RN w' (.slice p (ae z.num) c) z.num.natAbs∧RN w' (.slice s (ag z.den) d) z.den∧Below W.heap.size W w'):KS f v z:=fun W=>(h W).mono fun _ _ ⟨p,c,s,d,he,hr,ht,hb⟩=>⟨⟨_,p,_,c,s,_,d⟩,he,⟨rfl,rfl,rfl,hr,ht⟩,hb⟩
theorem ksb {f:Nat}{v:Value}{z:Rat}{b:Bool}(h:∀ W,Calls Tryz.prog f #[v] W fun e w'=>∃ p c s d,e=.returned (.tuple #[.agg #[.bool (ai z.num),.slice p (ae z.num) c,.slice s (ag z.den) d],.bool b])∧RN w' (.slice p (ae z.num) c) z.num.natAbs∧RN w' (.slice s (ag z.den) d) z.den∧Below W.heap.size W w'):KSb f v z b:=fun W=>(h W).mono fun _ _ ⟨p,c,s,d,he,hr,ht,hb⟩=>⟨⟨_,p,_,c,s,_,d⟩,he,⟨rfl,rfl,rfl,hr,ht⟩,hb⟩
theorem dlq {q:Rat}{k:Nat}(h:SmQ k q)(hk:k+1≤10000):LQ q:=z4H (h.mono (Nat.le_succ k)) (Nat.succ_pos k) hk
theorem zn {x:Rat}{k:Nat}(hx:SmQ k x)(hk:k≤900):KSb 51 (.string (Sq x)) x true:=ksb (fun W=>z3m x (hx.mono hk) (by have:=vB (hx.mono hk) (by decide);omega) W)
theorem lq (a:ByteArray)(ha:a.size≤900):∃ x,KSb 51 (.string a) x (vldQ a.data.toList):=by
 obtain⟨x,hx⟩:=z0e a ha;exact⟨x,ksb hx⟩
theorem eTo {x:Rat}{k:Nat}(hx:SmQ k x)(hk:k≤9000):KP1 40 x (.string (Sq x)):=kp1 (sQTo x _ rfl (hx.mono hk))
theorem eMul {x y:Rat}{k l:Nat}(hx:SmQ k x)(hy:SmQ l y)(hk:k≤9000)(hl:l≤9000):KQ2 58 x y (x*y):=kq2 (z4L x y _ rfl (dlq hx (by omega)) (dlq hy (by omega)))
theorem eAdd {x y:Rat}{k l:Nat}(hx:SmQ k x)(hy:SmQ l y)(hk:k≤9000)(hl:l≤9000):KQ2 61 x y (x+y):=kq2 (z4M x y _ rfl (dlq hx (by omega)) (dlq hy (by omega)))
theorem eSub {x y:Rat}{k l:Nat}(hx:SmQ k x)(hy:SmQ l y)(hk:k≤9000)(hl:l≤9000):KQ2 53 x y (x-y):=kq2 (z5w x y _ rfl (dlq hx (by omega)) (dlq hy (by omega)))
theorem fVec {x y z:Rat}{k:Nat}(hx:SmQ k x)(hy:SmQ k y)(hz:SmQ k z)(hk:k≤900):KVb 25 (.agg #[.string (Sq x),.string (Sq y),.string (Sq z)]) x y z true:=fun W=>uI _ _ _ x y z true true true W (zn hx hk) (zn hy hk) (zn hz hk)
theorem lm {a b c:ByteArray}(ha:a.size≤20)(hb:b.size≤20)(hc:c.size≤20):∃ x y z,KVb 25 (.agg #[.string a,.string b,.string c]) x y z (vldQ a.data.toList&&vldQ b.data.toList&&vldQ c.data.toList):=by
 obtain⟨x,h1⟩:=lq a (by omega);obtain⟨y,h2⟩:=lq b (by omega);obtain⟨z,h3⟩:=lq c (by omega);exact⟨x,y,z,fun W=>uI a b c x y z _ _ _ W h1 h2 h3⟩
theorem z5O {xa xb xc ya yb yc:Rat}{k l:Nat}(hxa:SmQ k xa)(hxb:SmQ k xb)(hxc:SmQ k xc)(hya:SmQ l ya)(hyb:SmQ l yb)(hyc:SmQ l yc)(hk:k≤1000)(hl:l≤1000):KPl 64 xa xb xc ya yb yc (xa+ya) (xb+yb) (xc+yc) :=
 fun q0 q1 q2 q3 q4 q5 W r0 r1 r2 r3 r4 r5=>z19 xa xb xc ya yb yc _ _ _ q0 q1 q2 q3 q4 q5 W (eAdd hxa hya (by omega) (by omega)) (eAdd hxb hyb (by omega) (by omega)) (eAdd hxc hyc (by omega) (by omega)) r0 r1 r2 r3 r4 r5
theorem z0T {xa xb xc ya yb yc:Rat}{k l:Nat}(hxa:SmQ k xa)(hxb:SmQ k xb)(hxc:SmQ k xc)(hya:SmQ l ya)(hyb:SmQ l yb)(hyc:SmQ l yc)(hk:k≤1000)(hl:l≤1000):KPl 37 xa xb xc ya yb yc (xa-ya) (xb-yb) (xc-yc) :=
 fun q0 q1 q2 q3 q4 q5 W r0 r1 r2 r3 r4 r5=>zy xa xb xc ya yb yc _ _ _ q0 q1 q2 q3 q4 q5 W (eSub hxa hya (by omega) (by omega)) (eSub hxb hyb (by omega) (by omega)) (eSub hxc hyc (by omega) (by omega)) r0 r1 r2 r3 r4 r5
theorem z4Z {xa xb xc c:Rat}{k l:Nat}(hxa:SmQ k xa)(hxb:SmQ k xb)(hxc:SmQ k xc)(hc:SmQ l c)(hk:k≤1000)(hl:l≤1000):KTj 65 xa xb xc c (xa*c) (xb*c) (xc*c) :=
 fun q0 q1 q2 q3 W r0 r1 r2 r3=>zu xa xb xc c _ _ _ q0 q1 q2 q3 W (eMul hxa hc (by omega) (by omega)) (eMul hxb hc (by omega) (by omega)) (eMul hxc hc (by omega) (by omega)) r0 r1 r2 r3
theorem z3r {xa xb xc ya yb yc:Rat}{k l:Nat}(hxa:SmQ k xa)(hxb:SmQ k xb)(hxc:SmQ k xc)(hya:SmQ l ya)(hyb:SmQ l yb)(hyc:SmQ l yc)(hk:k≤1000)(hl:l≤1000):KDot 41 xa xb xc ya yb yc (xa*ya+xb*yb+xc*yc):=by
 intro q0 q1 q2 q3 q4 q5 W r0 r1 r2 r3 r4 r5;have e:xa*ya+xb*yb+xc*yc=xa*ya+(xb*yb+xc*yc):=by grind
 rw[e];exact zA xa xb xc ya yb yc _ _ _ _ _ q0 q1 q2 q3 q4 q5 W (eMul hxa hya (by omega) (by omega)) (eMul hxb hyb (by omega) (by omega)) (eMul hxc hyc (by omega) (by omega)) (eAdd (hxb.mul hyb) (hxc.mul hyc) (by omega) (by omega)) (eAdd (hxa.mul hya) ((hxb.mul hyb).add (hxc.mul hyc)) (by omega) (by omega)) r0 r1 r2 r3 r4 r5
theorem z5a {xa xb xc ya yb yc:Rat}{k l:Nat}(hxa:SmQ k xa)(hxb:SmQ k xb)(hxc:SmQ k xc)(hya:SmQ l ya)(hyb:SmQ l yb)(hyc:SmQ l yc)(hk:k≤1000)(hl:l≤1000):KPl 36 xa xb xc ya yb yc (xb*yc-xc*yb) (xc*ya-xa*yc) (xa*yb-xb*ya) :=
 fun q0 q1 q2 q3 q4 q5 W r0 r1 r2 r3 r4 r5=>zx xa xb xc ya yb yc _ _ _ _ _ _ _ _ _ q0 q1 q2 q3 q4 q5 W (eMul hxb hyc (by omega) (by omega)) (eMul hxc hyb (by omega) (by omega)) (eSub (hxb.mul hyc) (hxc.mul hyb) (by omega) (by omega)) (eMul hxc hya (by omega) (by omega)) (eMul hxa hyc (by omega) (by omega)) (eSub (hxc.mul hya) (hxa.mul hyc) (by omega) (by omega)) (eMul hxa hyb (by omega) (by omega)) (eMul hxb hya (by omega) (by omega)) (eSub (hxa.mul hyb) (hxb.mul hya) (by omega) (by omega)) r0 r1 r2 r3 r4 r5
theorem fTo {x y z:Rat}{k:Nat}(hx:SmQ k x)(hy:SmQ k y)(hz:SmQ k z)(hk:k≤9000):KOut 39 x y z (.agg #[.string (Sq x),.string (Sq y),.string (Sq z)]) :=
 fun q1 q2 q3 W h1 h2 h3=>z4e x y z _ _ _ q1 q2 q3 W (eTo hx hk) (eTo hy hk) (eTo hz hk) h1 h2 h3
theorem z2B {xa xb xc ya yb yc:Rat}(hxa:SmQ 20 xa)(hxb:SmQ 20 xb)(hxc:SmQ 20 xc)(hya:SmQ 20 ya)(hyb:SmQ 20 yb)(hyc:SmQ 20 yc):KVV 35 (.agg #[.string (Sq xa),.string (Sq xb),.string (Sq xc)]) (.agg #[.string (Sq ya),.string (Sq yb),.string (Sq yc)]) xa xb xc ya yb yc 0:=fun W=>z4j _ _ _ _ _ _ xa xb xc ya yb yc W (fVec hxa hxb hxc (by decide)) (fVec hya hyb hyc (by decide))
theorem iX {x y z u v t:ByteArray}(hx:x.size≤20)(hy:y.size≤20)(hz:z.size≤20)(hu:u.size≤20)(hv:v.size≤20)(ht:t.size≤20)(h:(vldQ x.data.toList&&vldQ y.data.toList&&vldQ z.data.toList)=false∨(vldQ u.data.toList&&vldQ v.data.toList&&vldQ t.data.toList)=false):∃ xa xb xc ya yb yc,KVV 35 (.agg #[.string x,.string y,.string z]) (.agg #[.string u,.string v,.string t]) xa xb xc ya yb yc 1:=by
 obtain⟨xa,xb,xc,h1⟩:=lm hx hy hz;obtain⟨ya,yb,yc,h2⟩:=lm hu hv ht;refine⟨xa,xb,xc,ya,yb,yc,fun W=>z4i _ _ _ _ _ _ _ _ _ _ _ _ _ _ W h1 h2 ?_⟩;rcases h with h|h
 · exact Or.inl h
 · rw[h]
   cases (vldQ x.data.toList&&vldQ y.data.toList&&vldQ z.data.toList) with
   | false=>exact Or.inl rfl
   | true=>exact Or.inr ⟨rfl,rfl⟩
