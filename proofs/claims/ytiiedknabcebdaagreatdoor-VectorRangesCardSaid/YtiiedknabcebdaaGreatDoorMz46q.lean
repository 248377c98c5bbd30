/- texts -/
import Derived.Test.YtiiedknabcebdaaGreatDoorMz44q
open Go.Proofs.Tryz
set_option maxRecDepth 100000
set_option maxHeartbeats 20000000
open Go.Lib (hid)
namespace Go.Proofs.YtiiedknabcebdaaGreatDoor
open Go.RowKit Go.Gb
theorem z4b (n1 n2 n3 c x:ByteArray)(sl:Value)(w₀:World)  (kc:decide ((c.size:Int)≤20)=false) :
 CV w₀ 6 #[.agg #[.string n1,.string n2,.string n3,.string c],.string x,sl] (.bool false):=by
 intro w hw;clear hw;go_enter func6,ntmps6
 go_upto_region 1 with fail
 refine ay w [(#[.string n1,.string n2,.string n3,.string c],30)] rfl ?_;rintro W0 ⟨k1,hb⟩;have u6:=hid (show Below w.heap.size w W0 from hb);have K1:=hid k1;clear k1 hb;have mi:=K1.o.cell (i:=3) rfl;go_wp2;exact bodyPost_ret (v:=.bool false) (by simp[results,results6,go_sem]) rfl ⟨rfl,u6.o⟩
theorem z3Y (n1 n2 n3 c x:ByteArray)(sl:Value)(w₀:World)  (kc:decide ((c.size:Int)≤20)=true)(kx:decide ((x.size:Int)≤20)=false) :
 CV w₀ 6 #[.agg #[.string n1,.string n2,.string n3,.string c],.string x,sl] (.bool false):=by
 intro w hw;clear hw;go_enter func6,ntmps6
 go_upto_region 1 with fail
 refine ay w [(#[.string n1,.string n2,.string n3,.string c],30)] rfl ?_;rintro W0 ⟨k1,hb⟩;have u6:=hid (show Below w.heap.size w W0 from hb);have K1:=hid k1;clear k1 hb;have mi:=K1.o.cell (i:=3) rfl;go_wp2;exact bodyPost_ret (v:=.bool false) (by simp[results,results6,go_sem]) rfl ⟨rfl,u6.o⟩
theorem z3Z (n1 n2 n3 c x:ByteArray)(sl:Value)(w₀:World)  (kc:decide ((c.size:Int)≤20)=true)(kx:decide ((x.size:Int)≤20)=true)(hn:decide (n1.size≤20∧n2.size≤20∧n3.size≤20)=false) :
 CV w₀ 6 #[.agg #[.string n1,.string n2,.string n3,.string c],.string x,sl] (.bool false):=by
 intro w hw;have HN:=hid hn;clear hn hw;go_enter func6,ntmps6
 go_upto_region 1 with fail
 refine ay w [(#[.string n1,.string n2,.string n3,.string c],30)] rfl ?_;rintro W0 ⟨k1,hb⟩;have u6:=hid (show Below w.heap.size w W0 from hb);have K1:=hid k1;clear k1 hb;have mi:=K1.o.cell (i:=3) rfl;obtain ⟨wu,ww,wy⟩:=aj K1.o rfl rfl rfl;go_wp2_with fail
 have hb:=gW W0 (.cells #[.string n1,.string n2,.string n3] 25);have k2:=SBk.new W0 #[.string n1,.string n2,.string n3] 25;generalize W0.alloc (.cells #[.string n1,.string n2,.string n3] 25)=W1 at *;have w9:=hbt u6 hb;have K2:=hid k2;clear k2 hb;with_reducible refine((iP _ n1 n2 n3 false HN.o _ K2.o).at).mono ?_
 rintro e W2 ⟨rfl,hb⟩;clear mi wu ww wy;have rV:=hbt w9 hb;clear hb;go_wp2;exact bodyPost_ret (v:=.bool false) (by simp[results,results6,go_sem]) rfl ⟨rfl,rV.o⟩
theorem z4a (n1 n2 n3 c x:ByteArray)(sl:Value)(b:Bool)(w₀:World)(h1:CV w₀ 5 #[sl] (.bool b))(kc:decide ((c.size:Int)≤20)=true)(kx:decide ((x.size:Int)≤20)=true)(hn:decide (n1.size≤20∧n2.size≤20∧n3.size≤20)=true) :
 CV w₀ 6 #[.agg #[.string n1,.string n2,.string n3,.string c],.string x,sl] (.bool b):=by
 intro w hw;have C1:=hid (h1.mono hw);have HN:=hid hn;clear hn h1 hw;go_enter func6,ntmps6
 go_upto_region 1 with fail
 refine ay w [(#[.string n1,.string n2,.string n3,.string c],30)] rfl ?_;rintro W0 ⟨k1,hb⟩;have u6:=hid (show Below w.heap.size w W0 from hb);have K1:=hid k1;clear k1 hb;have mi:=K1.o.cell (i:=3) rfl;obtain ⟨wu,ww,wy⟩:=aj K1.o rfl rfl rfl;go_wp2_with fail
 have hb:=gW W0 (.cells #[.string n1,.string n2,.string n3] 25);have k2:=SBk.new W0 #[.string n1,.string n2,.string n3] 25;generalize W0.alloc (.cells #[.string n1,.string n2,.string n3] 25)=W1 at *;have w9:=hbt u6 hb;have K2:=hid k2;clear k2 hb;with_reducible refine((iP _ n1 n2 n3 true HN.o _ K2.o).at).mono ?_
 rintro e W2 ⟨rfl,hb⟩;clear mi wu ww wy;have rV:=hbt w9 hb;clear hb;go_wp2_with fail
 with_reducible refine(C1.o _ rV.o).mono ?_
 rintro e W3 ⟨rfl,hb⟩;have ol:=hbt rV hb;clear hb;go_wp2;exact bodyPost_ret (v:=.bool b) (by simp[results,results6,go_sem]) rfl ⟨rfl,ol.o⟩
theorem lfew (n1 n2 n3 c x:ByteArray)(sl:Value)(b2 b:Bool)(w:World)(h:CV w 5 #[sl] (.bool b2))(hb:(decide (c.size≤20∧x.size≤20∧n1.size≤20∧n2.size≤20∧n3.size≤20)&&b2)=b) :
 CV w 6 #[.agg #[.string n1,.string n2,.string n3,.string c],.string x,sl] (.bool b):=by
 by_cases hc:c.size≤20
 · have kc:decide ((c.size:Int)≤20)=true:=decide_eq_true (by omega)
   by_cases hx:x.size≤20
   · have kx:decide ((x.size:Int)≤20)=true:=decide_eq_true (by omega)
     by_cases hn:n1.size≤20∧n2.size≤20∧n3.size≤20
     · have e:decide (c.size≤20∧x.size≤20∧n1.size≤20∧n2.size≤20∧n3.size≤20)=true:=decide_eq_true ⟨hc,hx,hn⟩
       rw[e,Bool.true_and]at hb;subst hb;exact z4a n1 n2 n3 c x sl b2 w h kc kx (decide_eq_true hn)
     · have e:decide (c.size≤20∧x.size≤20∧n1.size≤20∧n2.size≤20∧n3.size≤20)=false:=decide_eq_false (fun h=>hn h.2.2)
       rw[e,Bool.false_and]at hb;subst hb;exact z3Z n1 n2 n3 c x sl w kc kx (decide_eq_false hn)
   · have e:decide (c.size≤20∧x.size≤20∧n1.size≤20∧n2.size≤20∧n3.size≤20)=false:=decide_eq_false (fun h=>hx h.2.1)
     rw[e,Bool.false_and]at hb;subst hb;exact z3Y n1 n2 n3 c x sl w kc (decide_eq_false (by omega))
 · have e:decide (c.size≤20∧x.size≤20∧n1.size≤20∧n2.size≤20∧n3.size≤20)=false:=decide_eq_false (fun h=>hc h.1)
   rw[e,Bool.false_and]at hb;subst hb;exact z4b n1 n2 n3 c x sl w (decide_eq_false (by omega))
theorem kq2 {f:Nat}{x y z:Rat}(h:∀ p1 c1 s1 d1 p2 c2 s2 d2 W,RN W (.slice p1 (ag x.num) c1) x.num.natAbs→RN W (.slice s1 (ah x.den) d1) x.den→RN W (.slice p2 (ag y.num) c2) y.num.natAbs→RN W (.slice s2 (ah y.den) d2) y.den→Calls Tryz.prog f #[.agg #[.bool (ak x.num),.slice p1 (ag x.num) c1,.slice s1 (ah x.den) d1],.agg #[.bool (ak y.num),.slice p2 (ag y.num) c2,.slice s2 (ah y.den) d2]] W fun e w'=>∃ p c s d,e=.returned (.agg #[.bool (ak z.num),.slice p (ag z.num) c,.slice s (ah z.den) d])∧RN w' (.slice p (ag z.num) c) z.num.natAbs∧RN w' (.slice s (ah z.den) d) z.den∧Below W.heap.size W w'):KQ2 f x y z:=by
 rintro⟨b,a,n,c,e,m,d⟩ ⟨b',a',n',c',e',m',d'⟩ W ⟨h1,h2,h3,h4,h5⟩ ⟨k1,k2,k3,k4,k5⟩
 dsimp only at *;subst h1 h2 h3 k1 k2 k3;exact(h _ _ _ _ _ _ _ _ W h4 h5 k4 k5).mono fun _ _ ⟨p,c,s,d,he,hr,ht,hb⟩=>⟨⟨_,p,_,c,s,_,d⟩,he,⟨rfl,rfl,rfl,hr,ht⟩,hb⟩
theorem kp2 {f:Nat}{x y:Rat}{v:Value}(h:∀ p1 c1 s1 d1 p2 c2 s2 d2 W,RN W (.slice p1 (ag x.num) c1) x.num.natAbs→RN W (.slice s1 (ah x.den) d1) x.den→RN W (.slice p2 (ag y.num) c2) y.num.natAbs→RN W (.slice s2 (ah y.den) d2) y.den→Calls Tryz.prog f #[.agg #[.bool (ak x.num),.slice p1 (ag x.num) c1,.slice s1 (ah x.den) d1],.agg #[.bool (ak y.num),.slice p2 (ag y.num) c2,.slice s2 (ah y.den) d2]] W fun e w'=>e=.returned v∧Below W.heap.size W w'):KP2 f x y v:=by
 rintro⟨b,a,n,c,e,m,d⟩ ⟨b',a',n',c',e',m',d'⟩ W ⟨h1,h2,h3,h4,h5⟩ ⟨k1,k2,k3,k4,k5⟩
 dsimp only at *;subst h1 h2 h3 k1 k2 k3;exact h _ _ _ _ _ _ _ _ W h4 h5 k4 k5
theorem kp1 {f:Nat}{x:Rat}{v:Value}(h:∀ p1 c1 s1 d1 W,RN W (.slice p1 (ag x.num) c1) x.num.natAbs→RN W (.slice s1 (ah x.den) d1) x.den→Calls Tryz.prog f #[.agg #[.bool (ak x.num),.slice p1 (ag x.num) c1,.slice s1 (ah x.den) d1]] W fun e w'=>e=.returned v∧Below W.heap.size W w'):KP1 f x v:=by
 rintro⟨b,a,n,c,e,m,d⟩ W ⟨h1,h2,h3,h4,h5⟩
 dsimp only at *;subst h1 h2 h3;exact h _ _ _ _ W h4 h5
theorem ks {f:Nat}{v:Value}{z:Rat}(h:∀ W,Calls Tryz.prog f #[v] W fun e w'=>∃ p c s d,e=.returned (.agg #[.bool (ak z.num),.slice p (ag z.num) c,.slice s (ah z.den) d])∧RN w' (.slice p (ag z.num) c) z.num.natAbs∧RN w' (.slice s (ah z.den) d) z.den∧Below W.heap.size W w'):KS f v z:=fun W=>(h W).mono fun _ _ ⟨p,c,s,d,he,hr,ht,hb⟩=>⟨⟨_,p,_,c,s,_,d⟩,he,⟨rfl,rfl,rfl,hr,ht⟩,hb⟩
theorem ksb {f:Nat}{v:Value}{z:Rat}{b:Bool}(h:∀ W,Calls Tryz.prog f #[v] W fun e w'=>∃ p c s d,e=.returned (.tuple #[.agg #[.bool (ak z.num),.slice p (ag z.num) c,.slice s (ah z.den) d],.bool b])∧RN w' (.slice p (ag z.num) c) z.num.natAbs∧RN w' (.slice s (ah z.den) d) z.den∧Below W.heap.size W w'):KSb f v z b:=fun W=>(h W).mono fun _ _ ⟨p,c,s,d,he,hr,ht,hb⟩=>⟨⟨_,p,_,c,s,_,d⟩,he,⟨rfl,rfl,rfl,hr,ht⟩,hb⟩
theorem z3N {q:Rat}{k:Nat}(h:SmQ k q)(h0:0<k)(hk:k≤10000):LQ q:=⟨Nat.le_trans (gL h.1 h0) hk,Nat.le_trans (gL h.2 h0) hk⟩
theorem zl (a:ByteArray)(ha:a.size≤900):∃ q:Rat,∀ W,Calls Tryz.prog 44 #[.string a] W fun e w'=>∃ p c s d,e=.returned (.tuple #[.agg #[.bool (ak q.num),.slice p (ag q.num) c,.slice s (ah q.den) d],.bool (vldQ a.data.toList)])∧RN w' (.slice p (ag q.num) c) q.num.natAbs∧RN w' (.slice s (ah q.den) d) q.den∧Below W.heap.size W w':=by
 cases h:vldQ a.data.toList with
 | false=>exact⟨0,fun W=>z1c a h ha W⟩
 | true =>
   have e:=z2V h;obtain⟨q,hq⟩:∃ q,q=qval a.data.toList:=⟨_,rfl⟩;rw[← hq]at e;subst e;exact⟨q,fun W=>z4D q (zf ha (by decide)) (by omega) W⟩
theorem dlq {q:Rat}{k:Nat}(h:SmQ k q)(hk:k+1≤10000):LQ q:=z3N (h.mono (Nat.le_succ k)) (Nat.succ_pos k) hk
theorem z3m {x:Rat}{k:Nat}(hx:SmQ k x)(hk:k≤900):KSb 44 (.string (Sq x)) x true:=ksb (fun W=>z2B x (hx.mono hk) (by have:=u7 (hx.mono hk) (by decide);omega) W)
theorem nJ (a:ByteArray)(ha:a.size≤900):∃ x,KSb 44 (.string a) x (vldQ a.data.toList):=by
 obtain⟨x,hx⟩:=zl a ha;exact⟨x,ksb hx⟩
theorem eTo {x:Rat}{k:Nat}(hx:SmQ k x)(hk:k≤9000):KP1 27 x (.string (Sq x)):=kp1 (sQTo x _ rfl (hx.mono hk))
theorem eMul {x y:Rat}{k l:Nat}(hx:SmQ k x)(hy:SmQ l y)(hk:k≤9000)(hl:l≤9000):KQ2 48 x y (x*y):=kq2 (z4B x y _ rfl (dlq hx (by omega)) (dlq hy (by omega)))
theorem eAdd {x y:Rat}{k l:Nat}(hx:SmQ k x)(hy:SmQ l y)(hk:k≤9000)(hl:l≤9000):KQ2 47 x y (x+y):=kq2 (z4C x y _ rfl (dlq hx (by omega)) (dlq hy (by omega)))
theorem fVec {x y z:Rat}{k:Nat}(hx:SmQ k x)(hy:SmQ k y)(hz:SmQ k z)(hk:k≤900):KVb 22 (.agg #[.string (Sq x),.string (Sq y),.string (Sq z)]) x y z true:=fun W=>sM _ _ _ x y z true true true W (z3m hx hk) (z3m hy hk) (z3m hz hk)
theorem z1I {a b c:ByteArray}(ha:a.size≤20)(hb:b.size≤20)(hc:c.size≤20):∃ x y z,KVb 22 (.agg #[.string a,.string b,.string c]) x y z (vldQ a.data.toList&&vldQ b.data.toList&&vldQ c.data.toList):=by
 obtain⟨x,h1⟩:=nJ a (by omega);obtain⟨y,h2⟩:=nJ b (by omega);obtain⟨z,h3⟩:=nJ c (by omega);exact⟨x,y,z,fun W=>sM a b c x y z _ _ _ W h1 h2 h3⟩
theorem z4e {xa xb xc ya yb yc:Rat}{k l:Nat}(hxa:SmQ k xa)(hxb:SmQ k xb)(hxc:SmQ k xc)(hya:SmQ l ya)(hyb:SmQ l yb)(hyc:SmQ l yc)(hk:k≤1000)(hl:l≤1000):KDot 24 xa xb xc ya yb yc (xa*ya+xb*yb+xc*yc):=by
 intro q0 q1 q2 q3 q4 q5 W r0 r1 r2 r3 r4 r5;have e:xa*ya+xb*yb+xc*yc=xa*ya+(xb*yb+xc*yc):=by grind
 rw[e];exact yf xa xb xc ya yb yc _ _ _ _ _ q0 q1 q2 q3 q4 q5 W (eMul hxa hya (by omega) (by omega)) (eMul hxb hyb (by omega) (by omega)) (eMul hxc hyc (by omega) (by omega)) (eAdd (hxb.mul hyb) (hxc.mul hyc) (by omega) (by omega)) (eAdd (hxa.mul hya) ((hxb.mul hyb).add (hxc.mul hyc)) (by omega) (by omega)) r0 r1 r2 r3 r4 r5
end Go.Proofs.YtiiedknabcebdaaGreatDoor
open Go.Lib (hid)
namespace Go.Proofs.YtiiedknabcebdaaGreatDoor
open Go.RowKit Go.Gb
theorem z1R (xa ya:Rat)(k:Int)(q1:QS)(q2:QS)(w:World)(hk:decide (k≤0)=true)(h1:KP2 49 xa ya (.int .i64 k))(r1:FQ w q1 xa)(r2:FQ w q2 ya) :
 Calls Tryz.prog 25 #[(QS.v q1),(QS.v q2)] w (RQ w xa):=by
 dsimp only[QS.v];obtain ⟨C1,R1,R2⟩:=ax h1 r1 r2;have hkk:=hk;clear hk h1 r1 r2;go_enter func25,ntmps25
 go_upto_region 1 with fail
 refine ay w [(#[.bool q1.b,.slice q1.a q1.n q1.c,.slice q1.e q1.m q1.d],57),(#[.bool q2.b,.slice q2.a q2.n q2.c,.slice q2.e q2.m q2.d],57),(#[.bool false,.slice none 0 0,.slice none 0 0],57)] rfl ?_;rintro W0 ⟨k1,k2,k3,hb⟩;have u6:=hid (show Below w.heap.size w W0 from hb);obtain ⟨R1,R2⟩:=aR u6.o R1 R2;obtain ⟨K1,K2,K3⟩:=ax k1 k2 k3;clear k1 k2 k3 hb;obtain ⟨wu,ww,wy⟩:=aj K1.o rfl rfl rfl;obtain ⟨wz,sw,p8⟩:=aj K2.o rfl rfl rfl;go_wp2_with fail
 with_reducible refine(C1.o _ _ _ R1.o R2.o).mono ?_
 rintro e W1 ⟨rfl,hb⟩;clear wu ww wy wz sw p8;obtain ⟨K1,K3,R1⟩:=bA hb K1 K3 R1;have w9:=hbt u6 hb;clear hb;obtain ⟨wu,ww,wy⟩:=aj K1.o rfl rfl rfl;obtain ⟨rM,wo,oM⟩:=aj K3.o rfl rfl rfl;obtain ⟨oV,pq,lg⟩:=aW K3.o;go_wp2;exact bodyPost_ret (v:=.agg #[.bool q1.b,.slice q1.a q1.n q1.c,.slice q1.e q1.m q1.d]) (by simp[results,results25,go_sem,rM,wo,oM]) rfl ⟨_,rfl,(dB [.bool q1.b,.slice q1.a q1.n q1.c,.slice q1.e q1.m q1.d] 0 R1.o K3.o (by simp[cu]) (by simp[bG])),(au (l:=[.bool q1.b,.slice q1.a q1.n q1.c,.slice q1.e q1.m q1.d]) (i:=0) (by omega) w9.o)⟩
theorem z1S (xa ya:Rat)(k:Int)(q1:QS)(q2:QS)(w:World)(hk:decide (k≤0)=false)(h1:KP2 49 xa ya (.int .i64 k))(r1:FQ w q1 xa)(r2:FQ w q2 ya) :
 Calls Tryz.prog 25 #[(QS.v q1),(QS.v q2)] w (RQ w ya):=by
 dsimp only[QS.v];obtain ⟨C1,R1,R2⟩:=ax h1 r1 r2;have hkk:=hk;clear hk h1 r1 r2;go_enter func25,ntmps25
 go_upto_region 1 with fail
 refine ay w [(#[.bool q1.b,.slice q1.a q1.n q1.c,.slice q1.e q1.m q1.d],57),(#[.bool q2.b,.slice q2.a q2.n q2.c,.slice q2.e q2.m q2.d],57),(#[.bool false,.slice none 0 0,.slice none 0 0],57)] rfl ?_;rintro W0 ⟨k1,k2,k3,hb⟩;have u6:=hid (show Below w.heap.size w W0 from hb);obtain ⟨R1,R2⟩:=aR u6.o R1 R2;obtain ⟨K1,K2,K3⟩:=ax k1 k2 k3;clear k1 k2 k3 hb;obtain ⟨wu,ww,wy⟩:=aj K1.o rfl rfl rfl;obtain ⟨wz,sw,p8⟩:=aj K2.o rfl rfl rfl;go_wp2_with fail
 with_reducible refine(C1.o _ _ _ R1.o R2.o).mono ?_
 rintro e W1 ⟨rfl,hb⟩;clear wu ww wy wz sw p8;obtain ⟨K2,K3,R2⟩:=bA hb K2 K3 R2;have w9:=hbt u6 hb;clear hb;obtain ⟨wz,sw,p8⟩:=aj K2.o rfl rfl rfl;obtain ⟨rM,wo,oM⟩:=aj K3.o rfl rfl rfl;obtain ⟨oV,pq,lg⟩:=aW K3.o;go_wp2;exact bodyPost_ret (v:=.agg #[.bool q2.b,.slice q2.a q2.n q2.c,.slice q2.e q2.m q2.d]) (by simp[results,results25,go_sem,rM,wo,oM]) rfl ⟨_,rfl,(dB [.bool q2.b,.slice q2.a q2.n q2.c,.slice q2.e q2.m q2.d] 0 R2.o K3.o (by simp[cu]) (by simp[bG])),(au (l:=[.bool q2.b,.slice q2.a q2.n q2.c,.slice q2.e q2.m q2.d]) (i:=0) (by omega) w9.o)⟩
theorem z4f {x y z:Rat}{k l:Nat}(hx:SmQ k x)(hy:SmQ l y)(hk:k≤9000)(hl:l≤9000)(h:(if cmpQ x y≤0 then x else y)=z):KQ2 25 x y z:=by
 intro q0 q1 W r0 r1;have C:=kp2 (z3S x y _ rfl (dlq hx (by omega)) (dlq hy (by omega)));by_cases hc:cmpQ x y≤0
 · rw[if_pos hc]at h
   subst h;exact z1R x y _ q0 q1 W (decide_eq_true hc) C r0 r1
 · rw[if_neg hc]at h
   subst h;exact z1S x y _ q0 q1 W (decide_eq_false hc) C r0 r1
theorem z3o (xa ya:Rat)(k:Int)(q1:QS)(q2:QS)(w:World)(hk:decide (0≤k)=true)(h1:KP2 49 xa ya (.int .i64 k))(r1:FQ w q1 xa)(r2:FQ w q2 ya) :
 Calls Tryz.prog 26 #[(QS.v q1),(QS.v q2)] w (RQ w xa):=by
 dsimp only[QS.v];obtain ⟨C1,R1,R2⟩:=ax h1 r1 r2;have hkk:=hk;clear hk h1 r1 r2;go_enter func26,ntmps26
 go_upto_region 1 with fail
 refine ay w [(#[.bool q1.b,.slice q1.a q1.n q1.c,.slice q1.e q1.m q1.d],57),(#[.bool q2.b,.slice q2.a q2.n q2.c,.slice q2.e q2.m q2.d],57),(#[.bool false,.slice none 0 0,.slice none 0 0],57)] rfl ?_;rintro W0 ⟨k1,k2,k3,hb⟩;have u6:=hid (show Below w.heap.size w W0 from hb);obtain ⟨R1,R2⟩:=aR u6.o R1 R2;obtain ⟨K1,K2,K3⟩:=ax k1 k2 k3;clear k1 k2 k3 hb;obtain ⟨wu,ww,wy⟩:=aj K1.o rfl rfl rfl;obtain ⟨wz,sw,p8⟩:=aj K2.o rfl rfl rfl;go_wp2_with fail
 with_reducible refine(C1.o _ _ _ R1.o R2.o).mono ?_
 rintro e W1 ⟨rfl,hb⟩;clear wu ww wy wz sw p8;obtain ⟨K1,K3,R1⟩:=bA hb K1 K3 R1;have w9:=hbt u6 hb;clear hb;obtain ⟨wu,ww,wy⟩:=aj K1.o rfl rfl rfl;obtain ⟨rM,wo,oM⟩:=aj K3.o rfl rfl rfl;obtain ⟨oV,pq,lg⟩:=aW K3.o;go_wp2;exact bodyPost_ret (v:=.agg #[.bool q1.b,.slice q1.a q1.n q1.c,.slice q1.e q1.m q1.d]) (by simp[results,results26,go_sem,rM,wo,oM]) rfl ⟨_,rfl,(dB [.bool q1.b,.slice q1.a q1.n q1.c,.slice q1.e q1.m q1.d] 0 R1.o K3.o (by simp[cu]) (by simp[bG])),(au (l:=[.bool q1.b,.slice q1.a q1.n q1.c,.slice q1.e q1.m q1.d]) (i:=0) (by omega) w9.o)⟩
theorem z3p (xa ya:Rat)(k:Int)(q1:QS)(q2:QS)(w:World)(hk:decide (0≤k)=false)(h1:KP2 49 xa ya (.int .i64 k))(r1:FQ w q1 xa)(r2:FQ w q2 ya) :
 Calls Tryz.prog 26 #[(QS.v q1),(QS.v q2)] w (RQ w ya):=by
 dsimp only[QS.v];obtain ⟨C1,R1,R2⟩:=ax h1 r1 r2;have hkk:=hk;clear hk h1 r1 r2;go_enter func26,ntmps26
 go_upto_region 1 with fail
 refine ay w [(#[.bool q1.b,.slice q1.a q1.n q1.c,.slice q1.e q1.m q1.d],57),(#[.bool q2.b,.slice q2.a q2.n q2.c,.slice q2.e q2.m q2.d],57),(#[.bool false,.slice none 0 0,.slice none 0 0],57)] rfl ?_;rintro W0 ⟨k1,k2,k3,hb⟩;have u6:=hid (show Below w.heap.size w W0 from hb);obtain ⟨R1,R2⟩:=aR u6.o R1 R2;obtain ⟨K1,K2,K3⟩:=ax k1 k2 k3;clear k1 k2 k3 hb;obtain ⟨wu,ww,wy⟩:=aj K1.o rfl rfl rfl;obtain ⟨wz,sw,p8⟩:=aj K2.o rfl rfl rfl;go_wp2_with fail
 with_reducible refine(C1.o _ _ _ R1.o R2.o).mono ?_
 rintro e W1 ⟨rfl,hb⟩;clear wu ww wy wz sw p8;obtain ⟨K2,K3,R2⟩:=bA hb K2 K3 R2;have w9:=hbt u6 hb;clear hb;obtain ⟨wz,sw,p8⟩:=aj K2.o rfl rfl rfl;obtain ⟨rM,wo,oM⟩:=aj K3.o rfl rfl rfl;obtain ⟨oV,pq,lg⟩:=aW K3.o;go_wp2;exact bodyPost_ret (v:=.agg #[.bool q2.b,.slice q2.a q2.n q2.c,.slice q2.e q2.m q2.d]) (by simp[results,results26,go_sem,rM,wo,oM]) rfl ⟨_,rfl,(dB [.bool q2.b,.slice q2.a q2.n q2.c,.slice q2.e q2.m q2.d] 0 R2.o K3.o (by simp[cu]) (by simp[bG])),(au (l:=[.bool q2.b,.slice q2.a q2.n q2.c,.slice q2.e q2.m q2.d]) (i:=0) (by omega) w9.o)⟩
theorem z4S {x y z:Rat}{k l:Nat}(hx:SmQ k x)(hy:SmQ l y)(hk:k≤9000)(hl:l≤9000)(h:(if 0≤cmpQ x y then x else y)=z):KQ2 26 x y z:=by
 intro q0 q1 W r0 r1;have C:=kp2 (z3S x y _ rfl (dlq hx (by omega)) (dlq hy (by omega)));by_cases hc:0≤cmpQ x y
 · rw[if_pos hc]at h
   subst h;exact z3o x y _ q0 q1 W (decide_eq_true hc) C r0 r1
 · rw[if_neg hc]at h
   subst h;exact z3p x y _ q0 q1 W (decide_eq_false hc) C r0 r1
open Go.Lib (hid)
def mnR (d:Nat→Rat):Nat→Rat
 | 0=>d 0
 | m+1=>if cmpQ (d (m+1)) (mnR d m)<0 then d (m+1) else mnR d m
def mxR (d:Nat→Rat):Nat→Rat
 | 0=>d 0
 | m+1=>if 0<cmpQ (d (m+1)) (mxR d m) then d (m+1) else mxR d m
theorem qi {d:Nat→Rat}{P:Rat→Prop}:∀ m,(∀ j,j≤m→P (d j))→P (mnR d m)
 | 0,h=>h 0 (Nat.le_refl 0)
 | m+1,h=>by
   unfold mnR
   split
   · exact h _ (Nat.le_refl _)
   · exact qi m (fun j hj=>h j (by omega))
theorem qg {d:Nat→Rat}{P:Rat→Prop}:∀ m,(∀ j,j≤m→P (d j))→P (mxR d m)
 | 0,h=>h 0 (Nat.le_refl 0)
 | m+1,h=>by
   unfold mxR
   split
   · exact h _ (Nat.le_refl _)
   · exact qg m (fun j hj=>h j (by omega))
def tlo (d:Nat→Rat):Nat→ByteArray
 | 0=>⟨#[]⟩
 | m+1=>Sq (mnR d m)
def thi (d:Nat→Rat):Nat→ByteArray
 | 0=>⟨#[]⟩
 | m+1=>Sq (mxR d m)
def dR (D:Nat→Option Rat) (i:Nat):Rat:=(D i).getD 0
def ecR:Option Rat→Int
 | some _=>0
 | none=>1
def RgV (D:Nat→Option Rat) (n:Nat):Value:=if (List.range n).all (fun i=>(D i).isSome) then .tuple #[.agg #[.string (tlo (dR D) n),.string (thi (dR D) n)],.int .i64 0] else .tuple #[.agg #[.string ⟨#[]⟩,.string ⟨#[]⟩],.int .i64 1]
theorem z0u {D:Nat→Option Rat}{n i:Nat}(hi:i<n)(h:D i=none):RgV D n=.tuple #[.agg #[.string ⟨#[]⟩,.string ⟨#[]⟩],.int .i64 1]:=by
 unfold RgV
 rw[if_neg];rw[List.all_eq_true];intro h2;have:=h2 i (List.mem_range.2 hi);rw[h]at this;cases this
theorem z0t {D:Nat→Option Rat}{n:Nat}(h:∀ j,j<n→(D j).isSome=true):RgV D n=.tuple #[.agg #[.string (tlo (dR D) n),.string (thi (dR D) n)],.int .i64 0]:=by
 unfold RgV
 rw[if_pos];rw[List.all_eq_true];intro j hj;exact h j (List.mem_range.1 hj)
theorem vO (d:Nat→Rat){i:Nat}(h:0<i):tlo d i=Sq (mnR d (i-1))∧tlo d (i+1)=Sq (if cmpQ (d i) (mnR d (i-1))<0 then d i else mnR d (i-1)):=by
 obtain⟨m,rfl⟩:∃ m,i=m+1:=⟨i-1,by omega⟩;exact⟨rfl,rfl⟩
theorem vP (d:Nat→Rat){i:Nat}(h:0<i):thi d i=Sq (mxR d (i-1))∧thi d (i+1)=Sq (if 0<cmpQ (d i) (mxR d (i-1)) then d i else mxR d (i-1)):=by
 obtain⟨m,rfl⟩:∃ m,i=m+1:=⟨i-1,by omega⟩;exact⟨rfl,rfl⟩
theorem z2G {i:Nat}(h:0<i):((i:Int)==0)=false∧decide ((i:Int)=0)=false∧decide (i=0)=false∧¬ (i:Int)=0∧¬ i=0:=by
 refine⟨by simp;omega,by simp;omega,by simp;omega,by omega,by omega⟩
theorem z0P (a:Option Addr)(n c:Nat)(o1 o2 o3:ByteArray)(hn:n=0)(w:World):CR 7 #[.slice a n c,.agg #[.string o1,.string o2,.string o3]] w (.tuple #[.agg #[.string ⟨#[]⟩,.string ⟨#[]⟩],.int .i64 9]):=by
 have e0:(n:Int)=0:=by omega
 clear hn;go_enter func7,ntmps7
 go_upto_region 1 with fail
 refine ay w [(#[.string o1,.string o2,.string o3],25),(#[.string ⟨#[]⟩,.string ⟨#[]⟩],32)] rfl ?_;rintro W0 ⟨k1,k2,hb⟩;have u6:=hid (show Below w.heap.size w W0 from hb);have K2:=hid k2;clear k1 k2 hb;obtain ⟨wz,sw⟩:=aO K2.o rfl rfl;obtain ⟨lv,ky⟩:=bS K2.o;go_wp2;exact bodyPost_ret (v:=.tuple #[.agg #[.string ⟨#[]⟩,.string ⟨#[]⟩],.int .i64 9]) (by simp[results,results7,go_sem,wz,sw]) rfl ⟨rfl,au (l:=[.string ⟨#[]⟩,.string ⟨#[]⟩]) (i:=0) (by omega) u6.o⟩
theorem xk (a:Option Addr)(n c:Nat)(o1 o2 o3:ByteArray)(hn:1536<n)(w:World):CR 7 #[.slice a n c,.agg #[.string o1,.string o2,.string o3]] w (.tuple #[.agg #[.string ⟨#[]⟩,.string ⟨#[]⟩],.int .i64 8]):=by
 have e0:¬ (n:Int)=0:=by omega
 have e1:(1536:Int)<(n:Int):=by omega
 clear hn;go_enter func7,ntmps7
 go_upto_region 1 with fail
 refine ay w [(#[.string o1,.string o2,.string o3],25),(#[.string ⟨#[]⟩,.string ⟨#[]⟩],32)] rfl ?_;rintro W0 ⟨k1,k2,hb⟩;have u6:=hid (show Below w.heap.size w W0 from hb);have K2:=hid k2;clear k1 k2 hb;obtain ⟨wz,sw⟩:=aO K2.o rfl rfl;obtain ⟨lv,ky⟩:=bS K2.o;go_wp2;exact bodyPost_ret (v:=.tuple #[.agg #[.string ⟨#[]⟩,.string ⟨#[]⟩],.int .i64 8]) (by simp[results,results7,go_sem,wz,sw]) rfl ⟨rfl,au (l:=[.string ⟨#[]⟩,.string ⟨#[]⟩]) (i:=0) (by omega) u6.o⟩
theorem xm (g o n c:Nat)(X:Nat→ByteArray)(o1 o2 o3:ByteArray)(D:Nat→Option Rat)(v:Value)(hv:RgV D n=v)(hn1:1≤n)(hn2:n≤1536)(w:World)(hla:La w)(hl:LV w g o n X)
 (hd:∀ i,i<n→CV w 15 #[.agg #[.string (X (i*3)),.string (X (i*3+1)),.string (X (i*3+2))],.agg #[.string o1,.string o2,.string o3]] (.tuple #[.string (Tt (D i)),.int .i64 (ecR (D i))])) (hf:∀ i q,i<n→D i=some q→FitQ q) :
 Calls Tryz.prog 7 #[.slice (some ⟨g,o,none⟩) n c,.agg #[.string o1,.string o2,.string o3]] w fun e w'=>e=.returned v∧Below w.heap.size w w':=by
 obtain ⟨HL,HD,HF,HV⟩:=aQ hl hd hf hv;have ne0:¬ (n:Int)=0:=by omega
 have ne1:¬ (1536:Int)<(n:Int):=by omega
 have HO:=hid (show ∀ x y:Rat,FitQ x→FitQ y→CV w 21 #[.string (Sq x),.string (Sq y)] (.int .i64 (cmpQ x y)) from fun x y hx hy=>zO rfl hx hy w hla);clear hl hd hf hla hv;go_enter func7,ntmps7
 go_upto_region 1 with fail
 refine ay w [(#[.string o1,.string o2,.string o3],25),(#[.string ⟨#[]⟩,.string ⟨#[]⟩],32)] rfl ?_;rintro W0 ⟨k1,k2,hb⟩;have u6:=hid (show Below w.heap.size w W0 from hb);have K1:=hid k1;have K2:=hid k2;clear k1 k2 hb;go_upto_region 6 with fail
 refine ay W0 [(#[.string ⟨#[]⟩,.string ⟨#[]⟩],32)] rfl ?_;have L1:=K1.o.lt;have L2:=K2.o.lt;have L3:=u6.o.size;rintro W1 ⟨k3,hb⟩;have hb:Below W0.heap.size W0 W1:=hb;obtain ⟨K1,K2⟩:=aR hb K1 K2;have w9:=hbt u6 hb;have K3:=hid k3;clear k3 hb;go_wp2;go_loopw [21] (fun ii wr=>∃ i:Nat,i≤n∧ii=.int .i64 (i:Int)∧Hid (∀ j,j<i→(D j).isSome=true)∧Hid (Below w.heap.size w wr)∧Hid (SBk wr (w.heap.size) #[.string o1,.string o2,.string o3] 25)∧Hid (SBk wr (w.heap.size+1) #[.string ⟨#[]⟩,.string ⟨#[]⟩] 32)∧Hid (SBk wr (W0.heap.size) #[.string (tlo (dR D) i),.string (thi (dR D) i)] 32)) (fun ii _=>n-(intOf ii).toNat)
 case atStart=>exact⟨0,by omega,rfl,hid (fun j hj=>by omega),w9,K1,K2,K3⟩
 case round =>
  obtain⟨i,hin,rfl,HA,w9,K1,K2,K3⟩:=hrel;have hi0:(0:Int)≤(i:Int):=by omega
  have wi:IntKind.i64.wrap ((i:Int)+1)=(i:Int)+1:=IntWalk.i64_in _ (by omega);by_cases hlt:i<n
  · have hlt1:(i:Int)<(n:Int):=by omega
    have CD:=hid (HD.o i hlt);obtain⟨c0,c1,c2⟩:=(HL.o.below w9.o).at hlt;generalize X (i*3)=x1 at *;generalize X (i*3+1)=x2 at *;generalize X (i*3+2)=x3 at *;go_upto_region 9 with fail
    refine ay wr [(#[.string x1,.string x2,.string x3],25)] rfl ?_;have L4:=K3.o.lt;have L5:=w9.o.size;rintro W2 ⟨k4,hb⟩;have hb:Below wr.heap.size wr W2:=hb;obtain ⟨K1,K2,K3⟩:=bA hb K1 K2 K3;have rV:=hbt w9 hb;have K4:=hid k4;clear k4 hb c0 c1 c2
    cases hDi:D i with
    | none =>
      rw[hDi]at CD;simp only[Tt,ecR]at CD;obtain rfl:v=.tuple #[.agg #[.string ⟨#[]⟩,.string ⟨#[]⟩],.int .i64 1]:=by rw[← HV.o];exact z0u hlt hDi
      clear HV;obtain ⟨kz,kK,kM⟩:=aj K4.o rfl rfl rfl;obtain ⟨wu,ww,wy⟩:=aj K1.o rfl rfl rfl;go_wp2_with fail
      with_reducible refine(CD.o _ rV.o).mono ?_
      rintro e W3 ⟨rfl,hb⟩;clear kz kK kM wu ww wy;obtain ⟨K1,K2,K3⟩:=bA hb K1 K2 K3;have ol:=hbt rV hb;clear hb;obtain ⟨wz,sw⟩:=aO K2.o rfl rfl;obtain ⟨lv,ky⟩:=bS K2.o;go_wp2;exact bodyPost_ret (v:=.tuple #[.agg #[.string ⟨#[]⟩,.string ⟨#[]⟩],.int .i64 1]) (by simp[results,results7,go_sem,wz,sw]) rfl ⟨rfl,au (l:=[.string ⟨#[]⟩,.string ⟨#[]⟩]) (i:=0) (by omega) ol.o⟩
    | some q =>
      rw[hDi]at CD;simp only[Tt,ecR]at CD;have FQi:=hid (HF.o i q hlt hDi);have eq:dR D i=q:=by simp[dR,hDi]
      have HA1:=hid (show ∀ j,j<i+1→(D j).isSome=true from fun j hj=>by
       by_cases h:j=i
       · rw[h,hDi];rfl
       · exact HA.o j (by omega))
      obtain ⟨kz,kK,kM⟩:=aj K4.o rfl rfl rfl;obtain ⟨wu,ww,wy⟩:=aj K1.o rfl rfl rfl;go_wp2_with fail
      with_reducible refine(CD.o _ rV.o).mono ?_
      rintro e W3 ⟨rfl,hb⟩;clear kz kK kM wu ww wy;obtain ⟨K1,K2,K3⟩:=bA hb K1 K2 K3;have ol:=hbt rV hb;clear hb;rcases Nat.eq_zero_or_pos i with hz|hpos
      · have y0:((i:Int)==0)=true:=by simp[hz]
        have y1:decide ((i:Int)=0)=true:=by simp[hz]
        have y2:decide (i=0)=true:=by simp[hz]
        have TL:=hid (show tlo (dR D) (i+1)=Sq q by subst hz;exact congrArg Sq eq);have TH:=hid (show thi (dR D) (i+1)=Sq q by subst hz;exact congrArg Sq eq);have yz:i=0:=hz;clear hz;generalize tlo (dR D) i=lo at *;generalize thi (dR D) i=hi at *;have rM:=K3.o.cell (i:=0) rfl;have oV:=K3.o.frozen (i:=0);go_upto_region 14 with fail
        clear rM oV
        refine iW (fun V=>Below w.heap.size w V∧SBk V (w.heap.size) #[.string o1,.string o2,.string o3] 25∧SBk V (w.heap.size+1) #[.string ⟨#[]⟩,.string ⟨#[]⟩] 32∧SBk V (W0.heap.size) #[.string (Sq q),.string (hi)] 32) (by
         have o0:∀ {g':Nat} {cs':Array Value} {T':TypeId},g'≠W0.heap.size→SBk W3 g' cs' T'→SBk (storeAll W3 (W0.heap.size) 0 [.string (Sq q)]) g' cs' T':=fun hg' h'=>aJ hg' _ 0 h'
         exact⟨(au (l:=[.string (Sq q)]) (i:=0) (by omega) ol.o),(o0 (by omega) K1.o),(o0 (by omega) K2.o),(bF (l:=[.string (Sq q)]) (i:=0) K3.o)⟩) ?_
        rintro W4 ⟨hb,z1,z2,z3⟩;obtain ⟨l5,K1,K2,K3⟩:=aQ hb z1 z2 z3;clear hb z1 z2 z3;have wo:=K3.o.cell (i:=1) rfl;have pq:=K3.o.frozen (i:=1);go_upto_region 16 with fail
        clear wo pq
        refine iW (fun V=>Below w.heap.size w V∧SBk V (w.heap.size) #[.string o1,.string o2,.string o3] 25∧SBk V (w.heap.size+1) #[.string ⟨#[]⟩,.string ⟨#[]⟩] 32∧SBk V (W0.heap.size) #[.string (Sq q),.string (Sq q)] 32) (by
         have o0:∀ {g':Nat} {cs':Array Value} {T':TypeId},g'≠W0.heap.size→SBk W4 g' cs' T'→SBk (storeAll W4 (W0.heap.size) 1 [.string (Sq q)]) g' cs' T':=fun hg' h'=>aJ hg' _ 1 h'
         exact⟨(au (l:=[.string (Sq q)]) (i:=1) (by omega) l5.o),(o0 (by omega) K1.o),(o0 (by omega) K2.o),(bF (l:=[.string (Sq q)]) (i:=1) K3.o)⟩) ?_
        rintro W5 ⟨hb,z1,z2,z3⟩;obtain ⟨mf,K1,K2,K3⟩:=aQ hb z1 z2 z3;clear hb z1 z2 z3;go_wp2;go_roundw
        case rel=>exact⟨i+1,by omega,by go_num,HA1,mf,K1,K2,by rw[TL.o,TH.o];exact K3⟩
        case measure=>simp[intOf];omega
      · obtain⟨y0,y1,y2,y3,y4⟩:=z2G hpos
        have fd:∀ j,j≤i-1→FitQ (dR D j):=fun j hj=>by
         obtain⟨r,hr⟩:=Option.isSome_iff_exists.1 (HA.o j (by omega));have:=HF.o j r (by omega) hr;simpa [dR,hr] using this
        obtain ⟨FX,FY⟩:=aF (qi (i-1) fd) (qg (i-1) fd);obtain⟨t0,t1⟩:=vO (dR D) hpos;obtain⟨u0,u1⟩:=vP (dR D) hpos;rw[eq]at t1 u1;rw[t0,u0]at K3;obtain ⟨TL,TH⟩:=aF t1 u1;clear t0 t1 u0 u1 fd;generalize mnR (dR D) (i-1)=x at *;generalize mxR (dR D) (i-1)=y at *;obtain ⟨C1,C2⟩:=aF (HO.o q x FQi.o FX.o) (HO.o q y FQi.o FY.o);clear FX FY;generalize cmpQ q x=k1 at *;generalize cmpQ q y=k2 at *;have rM:=K3.o.cell (i:=0) rfl;go_wp2_with fail
        with_reducible refine(C1.o _ ol.o).mono ?_
        rintro e W4 ⟨rfl,hb⟩;clear rM;obtain ⟨K1,K2,K3⟩:=bA hb K1 K2 K3;have l5:=hbt ol hb;clear hb;by_cases b1:k1<0
        · rw[if_pos b1]at TL
          have rM:=K3.o.cell (i:=0) rfl;have oV:=K3.o.frozen (i:=0);go_upto_region 14 with fail
          clear rM oV
          refine iW (fun V=>Below w.heap.size w V∧SBk V (w.heap.size) #[.string o1,.string o2,.string o3] 25∧SBk V (w.heap.size+1) #[.string ⟨#[]⟩,.string ⟨#[]⟩] 32∧SBk V (W0.heap.size) #[.string (Sq q),.string (Sq y)] 32) (by
           have o0:∀ {g':Nat} {cs':Array Value} {T':TypeId},g'≠W0.heap.size→SBk W4 g' cs' T'→SBk (storeAll W4 (W0.heap.size) 0 [.string (Sq q)]) g' cs' T':=fun hg' h'=>aJ hg' _ 0 h'
           exact⟨(au (l:=[.string (Sq q)]) (i:=0) (by omega) l5.o),(o0 (by omega) K1.o),(o0 (by omega) K2.o),(bF (l:=[.string (Sq q)]) (i:=0) K3.o)⟩) ?_
          rintro W5 ⟨hb,z1,z2,z3⟩;obtain ⟨mf,K1,K2,K3⟩:=aQ hb z1 z2 z3;clear hb z1 z2 z3;have wo:=K3.o.cell (i:=1) rfl;go_wp2_with fail
          with_reducible refine(C2.o _ mf.o).mono ?_
          rintro e W6 ⟨rfl,hb⟩;clear wo;obtain ⟨K1,K2,K3⟩:=bA hb K1 K2 K3;have l6:=hbt mf hb;clear hb;by_cases b2:0<k2
          · rw[if_pos b2]at TH
            have wo:=K3.o.cell (i:=1) rfl;have pq:=K3.o.frozen (i:=1);go_upto_region 16 with fail
            clear wo pq
            refine iW (fun V=>Below w.heap.size w V∧SBk V (w.heap.size) #[.string o1,.string o2,.string o3] 25∧SBk V (w.heap.size+1) #[.string ⟨#[]⟩,.string ⟨#[]⟩] 32∧SBk V (W0.heap.size) #[.string (Sq q),.string (Sq q)] 32) (by
             have o0:∀ {g':Nat} {cs':Array Value} {T':TypeId},g'≠W0.heap.size→SBk W6 g' cs' T'→SBk (storeAll W6 (W0.heap.size) 1 [.string (Sq q)]) g' cs' T':=fun hg' h'=>aJ hg' _ 1 h'
             exact⟨(au (l:=[.string (Sq q)]) (i:=1) (by omega) l6.o),(o0 (by omega) K1.o),(o0 (by omega) K2.o),(bF (l:=[.string (Sq q)]) (i:=1) K3.o)⟩) ?_
            rintro W7 ⟨hb,z1,z2,z3⟩;obtain ⟨kV,K1,K2,K3⟩:=aQ hb z1 z2 z3;clear hb z1 z2 z3;go_wp2;go_roundw
            case rel=>exact⟨i+1,by omega,by go_num,HA1,kV,K1,K2,by rw[TL.o,TH.o];exact K3⟩
            case measure=>simp[intOf];omega
          · rw[if_neg b2]at TH
            go_wp2;go_roundw
            case rel=>exact⟨i+1,by omega,by go_num,HA1,l6,K1,K2,by rw[TL.o,TH.o];exact K3⟩
            case measure=>simp[intOf];omega
        · rw[if_neg b1]at TL
          have wo:=K3.o.cell (i:=1) rfl;go_wp2_with fail
          with_reducible refine(C2.o _ l5.o).mono ?_
          rintro e W5 ⟨rfl,hb⟩;clear wo;obtain ⟨K1,K2,K3⟩:=bA hb K1 K2 K3;have mf:=hbt l5 hb;clear hb;by_cases b2:0<k2
          · rw[if_pos b2]at TH
            have wo:=K3.o.cell (i:=1) rfl;have pq:=K3.o.frozen (i:=1);go_upto_region 16 with fail
            clear wo pq
            refine iW (fun V=>Below w.heap.size w V∧SBk V (w.heap.size) #[.string o1,.string o2,.string o3] 25∧SBk V (w.heap.size+1) #[.string ⟨#[]⟩,.string ⟨#[]⟩] 32∧SBk V (W0.heap.size) #[.string (Sq x),.string (Sq q)] 32) (by
             have o0:∀ {g':Nat} {cs':Array Value} {T':TypeId},g'≠W0.heap.size→SBk W5 g' cs' T'→SBk (storeAll W5 (W0.heap.size) 1 [.string (Sq q)]) g' cs' T':=fun hg' h'=>aJ hg' _ 1 h'
             exact⟨(au (l:=[.string (Sq q)]) (i:=1) (by omega) mf.o),(o0 (by omega) K1.o),(o0 (by omega) K2.o),(bF (l:=[.string (Sq q)]) (i:=1) K3.o)⟩) ?_
            rintro W6 ⟨hb,z1,z2,z3⟩;obtain ⟨l6,K1,K2,K3⟩:=aQ hb z1 z2 z3;clear hb z1 z2 z3;go_wp2;go_roundw
            case rel=>exact⟨i+1,by omega,by go_num,HA1,l6,K1,K2,by rw[TL.o,TH.o];exact K3⟩
            case measure=>simp[intOf];omega
          · rw[if_neg b2]at TH
            go_wp2;go_roundw
            case rel=>exact⟨i+1,by omega,by go_num,HA1,mf,K1,K2,by rw[TL.o,TH.o];exact K3⟩
            case measure=>simp[intOf];omega
  · have hge:decide ((i:Int)<(n:Int))=false:=by rw[decide_eq_false_iff_not];omega
    obtain rfl:i=n:=by omega
    have hv:=HV.o;rw[z0t HA.o]at hv;clear HV;generalize tlo (dR D) i=lo at *;generalize thi (dR D) i=hi at *;subst hv;obtain ⟨rM,wo⟩:=aO K3.o rfl rfl;obtain ⟨wz,sw⟩:=aO K2.o rfl rfl;obtain ⟨lv,ky⟩:=bS K2.o;go_wp2;exact bodyPost_ret (v:=.tuple #[.agg #[.string lo,.string hi],.int .i64 0]) (by simp[results,results7,go_sem,wz,sw]) rfl ⟨rfl,au (l:=[.string lo,.string hi]) (i:=0) (by omega) w9.o⟩
