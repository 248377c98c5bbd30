/- texts -/
import Derived.Test.YtodcdibanokjjaaGreatDoorMz48q
import Derived.Test.YtodcdibanokjjaaGreatDoorYb
open Go.Proofs.Tryz
namespace Go.Proofs.YtodcdibanokjjaaGreatDoor
open Go.RowKit Go.Gb
theorem z4X (g:Nat)(a:ByteArray)(w:World)(hab:20<a.size)(hc:w.cell? ⟨g,0,none⟩=some (.string a)) :
 Calls Tryz.prog 5 #[.slice (some ⟨g,0,none⟩) 1 1] w fun e w'=>e=.returned (.bool true)∧w=w':=by
 have c0:=hc;clear hc;have ka:(20:Int)<(a.size:Int):=by omega
 clear hab;go_enter func5,ntmps5
 go_wp2;refine wp_loop_rounds 2 ?_;rw[rounds_succ];go_wp2;go_ret
 exact⟨rfl,rfl⟩
theorem z1Y (g:Nat)(a b:ByteArray)(w:World)(ha:a.size≤20)(hb:b.size≤20)(hc:w.cell? ⟨g,0,none⟩=some (.string a)∧w.cell? ⟨g,1,none⟩=some (.string b)) :
 Calls Tryz.prog 5 #[.slice (some ⟨g,0,none⟩) 2 2] w fun e w'=>e=.returned (.bool false)∧w=w':=by
 obtain⟨c0,c1⟩:=hc;have ka:¬ (20:Int)<(a.size:Int):=by omega
 have kb:¬ (20:Int)<(b.size:Int):=by omega
 go_enter func5,ntmps5
 go_wp2;refine wp_loop_rounds 3 ?_;rw[rounds_succ];go_wp2;rw[rounds_succ];go_wp2;rw[rounds_succ];go_wp2;go_ret
 exact⟨rfl,rfl⟩
theorem z06 (g:Nat)(a b:ByteArray)(w:World)(hab:20<a.size∨20<b.size)(hc:w.cell? ⟨g,0,none⟩=some (.string a)∧w.cell? ⟨g,1,none⟩=some (.string b)) :
 Calls Tryz.prog 5 #[.slice (some ⟨g,0,none⟩) 2 2] w fun e w'=>e=.returned (.bool true)∧w=w':=by
 obtain⟨c0,c1⟩:=hc;by_cases ha:20<a.size
 · have ka:(20:Int)<(a.size:Int):=by omega
   clear hab;go_enter func5,ntmps5
   go_wp2;refine wp_loop_rounds 3 ?_;rw[rounds_succ];go_wp2;go_ret
   exact⟨rfl,rfl⟩
 · have ka:¬ (20:Int)<(a.size:Int):=by omega
   have kb:(20:Int)<(b.size:Int):=by omega
   clear hab;go_enter func5,ntmps5
   go_wp2;refine wp_loop_rounds 3 ?_;rw[rounds_succ];go_wp2;rw[rounds_succ];go_wp2;go_ret
   exact⟨rfl,rfl⟩
theorem lgx2 (g:Nat)(a b:ByteArray)(bb:Bool)(w:World)(hb:decide (20<a.size∨20<b.size)=bb)(k:SBk w g #[.string a,.string b] 22) :
 CR 5 #[.slice (some ⟨g,0,none⟩) 2 2] w (.bool bb):=by
 have hc:=(show w.cell? ⟨g,0,none⟩=some (.string a)∧w.cell? ⟨g,1,none⟩=some (.string b) from⟨k.cell (i:=0) rfl,k.cell (i:=1) rfl⟩)
 cases bb with
 | false =>
   have h:=of_decide_eq_false hb;exact(z1Y g a b w (by omega) (by omega) hc).mono (by rintro e w' ⟨rfl,rfl⟩;exact⟨rfl,Below.refl _ _⟩)
 | true=>exact(z06 g a b w (of_decide_eq_true hb) hc).mono (by rintro e w' ⟨rfl,rfl⟩;exact⟨rfl,Below.refl _ _⟩)
theorem z0i (x:ByteArray)(h:x.size≤20):vldQ x.data.toList=false∨∃ q,x=Sq q∧SmQ 20 q:=by
 cases hv:vldQ x.data.toList with
 | false=>exact Or.inl rfl
 | true =>
   have hq:=z4K hv;refine Or.inr ⟨_,hq,z3i ?_ (by decide)⟩;rwa [← hq]
end Go.Proofs.YtodcdibanokjjaaGreatDoor
set_option maxRecDepth 100000
set_option maxHeartbeats 20000000
open Go.Lib (hid)
namespace Go.Proofs.YtodcdibanokjjaaGreatDoor
open Go.RowKit Go.Gb
theorem wV (s t:ByteArray)(w₀:World)  (hla:La w₀)(fl:decide (20<s.size∨20<t.size)=true) :
 CV w₀ 3 #[.string s,.string t] (.bool true):=by
 intro w hw;have HT:=hid (hla.on hw);have FL:=hid fl;clear hla fl hw;go_enter func3,ntmps3
 have HB0:=hid (Below.refl w.heap.size w);go_wp2_with fail
 with_reducible refine((jT _ (HT.out.on HB0.out)).at).mono ?_
 rintro e W1 ⟨rfl,hb⟩;have HB1:=hbt HB0 hb;clear hb;go_wp2_with fail
 have hb:=d9 W1 (.cells #[.string s,.string t] 22);have k1:=SBk.new W1 #[.string s,.string t] 22;generalize W1.alloc (.cells #[.string s,.string t] 22)=W2 at *;have HB2:=hbt HB1 hb;have K1:=hid k1;clear k1 hb;with_reducible refine((lgx2 _ s t true _ FL.out K1.out)).mono ?_
 rintro e W3 ⟨rfl,hb⟩;have HB3:=hbt HB2 hb;clear hb;go_wp2_with fail
 with_reducible refine((jT _ (HT.out.on HB3.out)).at).mono ?_
 rintro e W4 ⟨rfl,hb⟩;have HB4:=hbt HB3 hb;clear hb;go_wp2;exact bodyPost_ret (v:=.bool true) (by simp[results,results3,go_sem]) rfl ⟨rfl,HB4.out⟩
theorem yK (s t a c x:ByteArray)(ea ec ex:Int)(bv:Bool)(w₀:World)(h1:CV w₀ 6 #[.string s] (.tuple #[.string a,.int .i64 ea]))(h2:CV w₀ 7 #[.string s] (.tuple #[.string a,.int .i64 ea]))(h3:CV w₀ 8 #[.string s] (.tuple #[.string c,.int .i64 ec]))(h4:CV w₀ 9 #[.string s] (.tuple #[.string c,.int .i64 ec]))(h5:CV w₀ 10 #[.string s,.string t] (.tuple #[.string x,.int .i64 ex]))(h6:CV w₀ 11 #[.string s,.string t] (.tuple #[.string x,.int .i64 ex]))(h7:CV w₀ 12 #[.string s] (.bool bv))(h8:CV w₀ 13 #[.string s] (.bool bv))(hla:La w₀)(fl:decide (20<s.size∨20<t.size)=false) :
 CV w₀ 3 #[.string s,.string t] (.bool true):=by
 intro w hw;obtain ⟨C1,C2,C3,C4,C5,C6,C7,C8,HT,FL⟩:=gD (h1.mono hw) (h2.mono hw) (h3.mono hw) (h4.mono hw) (h5.mono hw) (h6.mono hw) (h7.mono hw) (h8.mono hw) (hla.on hw) fl;clear hla fl h1 h2 h3 h4 h5 h6 h7 h8 hw;go_enter func3,ntmps3
 have HB0:=hid (Below.refl w.heap.size w);go_wp2_with fail
 with_reducible refine((jT _ (HT.out.on HB0.out)).at).mono ?_
 rintro e W1 ⟨rfl,hb⟩;have HB1:=hbt HB0 hb;clear hb;go_wp2_with fail
 have hb:=d9 W1 (.cells #[.string s,.string t] 22);have k1:=SBk.new W1 #[.string s,.string t] 22;generalize W1.alloc (.cells #[.string s,.string t] 22)=W2 at *;have HB2:=hbt HB1 hb;have K1:=hid k1;clear k1 hb;with_reducible refine((lgx2 _ s t false _ FL.out K1.out)).mono ?_
 rintro e W3 ⟨rfl,hb⟩;have HB3:=hbt HB2 hb;clear hb;go_wp2_with fail
 with_reducible refine(C1.out _ HB3.out).mono ?_
 rintro e W4 ⟨rfl,hb⟩;have HB4:=hbt HB3 hb;clear hb;go_wp2_with fail
 with_reducible refine(C2.out _ HB4.out).mono ?_
 rintro e W5 ⟨rfl,hb⟩;have HB5:=hbt HB4 hb;clear hb;go_wp2_with fail
 with_reducible refine(C3.out _ HB5.out).mono ?_
 rintro e W6 ⟨rfl,hb⟩;have HB6:=hbt HB5 hb;clear hb;go_wp2_with fail
 with_reducible refine(C4.out _ HB6.out).mono ?_
 rintro e W7 ⟨rfl,hb⟩;have HB7:=hbt HB6 hb;clear hb;go_wp2_with fail
 with_reducible refine(C5.out _ HB7.out).mono ?_
 rintro e W8 ⟨rfl,hb⟩;have HB8:=hbt HB7 hb;clear hb;go_wp2_with fail
 with_reducible refine(C6.out _ HB8.out).mono ?_
 rintro e W9 ⟨rfl,hb⟩;have HB9:=hbt HB8 hb;clear hb;go_wp2_with fail
 with_reducible refine(C7.out _ HB9.out).mono ?_
 rintro e W10 ⟨rfl,hb⟩;have HB10:=hbt HB9 hb;clear hb;go_wp2_with fail
 with_reducible refine(C8.out _ HB10.out).mono ?_
 rintro e W11 ⟨rfl,hb⟩;have HB11:=hbt HB10 hb;clear hb;go_wp2;exact bodyPost_ret (v:=.bool true) (by simp[results,results3,go_sem]) rfl ⟨rfl,HB11.out⟩
theorem kq2 {f:Nat}{x y z:Rat}(h:∀ p1 c1 s1 d1 p2 c2 s2 d2 W,RN W (.slice p1 (aa x.num) c1) x.num.natAbs→RN W (.slice s1 (ag x.den) d1) x.den→RN W (.slice p2 (aa y.num) c2) y.num.natAbs→RN W (.slice s2 (ag y.den) d2) y.den→Calls Tryz.prog f #[.agg #[.bool (ah x.num),.slice p1 (aa x.num) c1,.slice s1 (ag x.den) d1],.agg #[.bool (ah y.num),.slice p2 (aa y.num) c2,.slice s2 (ag y.den) d2]] W fun e w'=>∃ p c s d,e=.returned (.agg #[.bool (ah z.num),.slice p (aa z.num) c,.slice s (ag z.den) d])∧RN w' (.slice p (aa z.num) c) z.num.natAbs∧RN w' (.slice s (ag z.den) d) z.den∧Below W.heap.size W w'):KQ2 f x y z:=by
 rintro⟨b,a,n,c,e,m,d⟩ ⟨b',a',n',c',e',m',d'⟩ W ⟨h1,h2,h3,h4,h5⟩ ⟨k1,k2,k3,k4,k5⟩
 dsimp only at *;subst h1 h2 h3 k1 k2 k3;exact(h _ _ _ _ _ _ _ _ W h4 h5 k4 k5).mono fun _ _ ⟨p,c,s,d,he,hr,ht,hb⟩=>⟨⟨_,p,_,c,s,_,d⟩,he,⟨rfl,rfl,rfl,hr,ht⟩,hb⟩
theorem kp2 {f:Nat}{x y:Rat}{v:Value}(h:∀ p1 c1 s1 d1 p2 c2 s2 d2 W,RN W (.slice p1 (aa x.num) c1) x.num.natAbs→RN W (.slice s1 (ag x.den) d1) x.den→RN W (.slice p2 (aa y.num) c2) y.num.natAbs→RN W (.slice s2 (ag y.den) d2) y.den→Calls Tryz.prog f #[.agg #[.bool (ah x.num),.slice p1 (aa x.num) c1,.slice s1 (ag x.den) d1],.agg #[.bool (ah y.num),.slice p2 (aa y.num) c2,.slice s2 (ag y.den) d2]] W fun e w'=>e=.returned v∧Below W.heap.size W w'):KP2 f x y v:=by
 rintro⟨b,a,n,c,e,m,d⟩ ⟨b',a',n',c',e',m',d'⟩ W ⟨h1,h2,h3,h4,h5⟩ ⟨k1,k2,k3,k4,k5⟩
 dsimp only at *;subst h1 h2 h3 k1 k2 k3;exact h _ _ _ _ _ _ _ _ W h4 h5 k4 k5
theorem kp1 {f:Nat}{x:Rat}{v:Value}(h:∀ p1 c1 s1 d1 W,RN W (.slice p1 (aa x.num) c1) x.num.natAbs→RN W (.slice s1 (ag x.den) d1) x.den→Calls Tryz.prog f #[.agg #[.bool (ah x.num),.slice p1 (aa x.num) c1,.slice s1 (ag x.den) d1]] W fun e w'=>e=.returned v∧Below W.heap.size W w'):KP1 f x v:=by
 rintro⟨b,a,n,c,e,m,d⟩ W ⟨h1,h2,h3,h4,h5⟩
 dsimp only at *;subst h1 h2 h3;exact h _ _ _ _ W h4 h5
theorem ks {f:Nat}{v:Value}{z:Rat}(h:∀ W,Calls Tryz.prog f #[v] W fun e w'=>∃ p c s d,e=.returned (.agg #[.bool (ah z.num),.slice p (aa z.num) c,.slice s (ag z.den) d])∧RN w' (.slice p (aa z.num) c) z.num.natAbs∧RN w' (.slice s (ag z.den) d) z.den∧Below W.heap.size W w'):KS f v z:=fun W=>(h W).mono fun _ _ ⟨p,c,s,d,he,hr,ht,hb⟩=>⟨⟨_,p,_,c,s,_,d⟩,he,⟨rfl,rfl,rfl,hr,ht⟩,hb⟩
theorem ksb {f:Nat}{v:Value}{z:Rat}{b:Bool}(h:∀ W,Calls Tryz.prog f #[v] W fun e w'=>∃ p c s d,e=.returned (.tuple #[.agg #[.bool (ah z.num),.slice p (aa z.num) c,.slice s (ag z.den) d],.bool b])∧RN w' (.slice p (aa z.num) c) z.num.natAbs∧RN w' (.slice s (ag z.den) d) z.den∧Below W.heap.size W w'):KSb f v z b:=fun W=>(h W).mono fun _ _ ⟨p,c,s,d,he,hr,ht,hb⟩=>⟨⟨_,p,_,c,s,_,d⟩,he,⟨rfl,rfl,rfl,hr,ht⟩,hb⟩
theorem ylq {q:Rat}{k:Nat}(h:SmQ k q)(hk:k+1≤10000):LQ q:=z4M (h.mono (Nat.le_succ k)) (Nat.succ_pos k) hk
theorem ys1:SmQ 1 (1:Rat):=⟨by unfold Sm;decide,by unfold Sm;decide⟩
theorem ys2:SmQ 1 (2:Rat):=⟨by unfold Sm;decide,by unfold Sm;decide⟩
theorem ysn:SmQ 1 (-1:Rat):=⟨by unfold Sm;decide,by unfold Sm;decide⟩
theorem yI1:KS 35 (.int .i64 1) 1:=ks (fun W=>z3L 1 1 1 rfl (by decide) rfl rfl W)
theorem yI2:KS 35 (.int .i64 2) 2:=ks (fun W=>z3L 2 2 2 rfl (by decide) rfl rfl W)
theorem yIn:KS 35 (.int .i64 (-1)) (-1):=by
 have g:∀ q:Rat,q.num = -1→q.den=1→KS 35 (.int .i64 (-1)) q:=fun q hn he=>ks (fun W=>by
  refine vY (-1) q.num q.den W (fun W=>?_) (fun W=>?_)
  · rw[hn];exact xC W
  · rw[he];exact lL 1 1 rfl (by decide) W)
 exact g (-1) rfl rfl
theorem z1j {x:Rat}{k:Nat}(hx:SmQ k x)(hk:k≤900):KSb 54 (.string (Sq x)) x true:=ksb (fun W=>z3m x (hx.mono hk) (by have:=zg (hx.mono hk) (by decide);omega) W)
theorem mV (a:ByteArray)(ha:a.size≤900):∃ x,KSb 54 (.string a) x (vldQ a.data.toList):=by
 obtain⟨x,hx⟩:=zG a ha;exact⟨x,ksb hx⟩
theorem yTo {x:Rat}{k:Nat}(hx:SmQ k x)(hk:k≤9000):KP1 28 x (.string (Sq x)):=kp1 (sQTo x _ rfl (hx.mono hk))
theorem z5a {x y:Rat}(h:y≤x):decide (0≤cmpQ x y)=true:=by
 rcases eZ x y with⟨h2,e⟩|⟨h2,e⟩|⟨h2,e⟩
 · grind
 · rw[e];rfl
 · rw[e];rfl
theorem z4Y (x y:Rat):decide (cmpQ x y≤0)=decide (x≤y):=by
 rcases eZ x y with⟨h2,e⟩|⟨h2,e⟩|⟨h2,e⟩<;>rw[e]
 · exact(decide_eq_true (by grind)).symm
 · exact(decide_eq_true (by grind)).symm
 · exact(decide_eq_false (by grind)).symm
theorem gL {x:Rat}{k:Nat}{b:Bool}(hb:decide (-1≤x∧x≤1)=b)(hx:SmQ k x)(hk:k+1≤10000):KBe 33 x b:=by
 intro q W h;have lx:=ylq hx hk;have ln:=ylq ysn (by decide);have l1:=ylq ys1 (by decide);by_cases h1 : -1≤x
 · refine tN x (-1) 1 (cmpQ x (-1)) (cmpQ x 1) b q W (z5a h1) ?_ yIn (kp2 (z3N x (-1) _ rfl lx ln)) yI1 (kp2 (z3N x 1 _ rfl lx l1)) h
   rw[z4Y,← hb];exact decide_eq_decide.2 ⟨fun h2=>⟨h1,h2⟩,fun h2=>h2.2⟩
 · obtain rfl:b=false:=by rw[← hb];exact decide_eq_false (fun h2=>h1 h2.1)
   exact tO x (-1) q W yIn (kp2 (z3N x (-1) _ (uK (by grind)) lx ln)) h
theorem yP {a:ByteArray}(hv:vldQ a.data.toList=false)(ha:a.size≤900):∃ x,KSi 27 (.string a) x 1:=by
 obtain⟨x,hx⟩:=mV a ha;rw[hv]at hx;exact⟨x,fun W=>z1h a x W hx⟩
theorem yO {x:Rat}{k:Nat}(h:¬ (-1≤x∧x≤1))(hx:SmQ k x)(hk:k≤900):KSi 27 (.string (Sq x)) x 2:=fun W=>yN _ x W (z1j hx hk) (gL (decide_eq_false h) hx (by omega))
theorem z1i {x:Rat}{k:Nat}(h : -1≤x∧x≤1)(hx:SmQ k x)(hk:k≤900):KSi 27 (.string (Sq x)) x 0:=fun W=>z1g _ x W (z1j hx hk) (gL (decide_eq_true h) hx (by omega))
theorem yCos {x:Rat}{k:Nat}(hx:SmQ k x)(hk:k≤900):KQ1 29 x (cosQ x):=by
 intro q W h;have s:=hx.mul hx;have m:=ys1.sub s;have p:=ys1.add s;exact z1k x (x*x) 1 (1-x*x) (1+x*x) (cosQ x) q W (kq2 (zD x x _ rfl (ylq hx (by omega)) (ylq hx (by omega)))) yI1 (kq2 (z4S 1 (x*x) _ rfl (ylq ys1 (by decide)) (ylq s (by omega)))) (kq2 (z1D 1 (x*x) _ rfl (ylq ys1 (by decide)) (ylq s (by omega)))) (kq2 (z3M _ _ _ rfl (oH x) (ylq m (by omega)) (ylq p (by omega)))) h
theorem ySin {x:Rat}{k:Nat}(hx:SmQ k x)(hk:k≤900):KQ1 30 x (sinQ x):=by
 intro q W h;have s:=hx.mul hx;have m:=ys2.mul hx;have p:=ys1.add s;exact z1f x (x*x) 1 2 (2*x) (1+x*x) (sinQ x) q W yI2 (kq2 (zD 2 x _ rfl (ylq ys2 (by decide)) (ylq hx (by omega)))) yI1 (kq2 (zD x x _ rfl (ylq hx (by omega)) (ylq hx (by omega)))) (kq2 (z1D 1 (x*x) _ rfl (ylq ys1 (by decide)) (ylq s (by omega)))) (kq2 (z3M _ _ _ rfl (oH x) (ylq m (by omega)) (ylq p (by omega)))) h
theorem z5s {x y:Rat}{k:Nat}(hx:SmQ k x)(hy:SmQ k y)(hk:k≤900):KBo 32 (.string (Sq x)) (.string (Sq y)) x y 0:=fun W=>z1l _ _ x y W (z1j hx hk) (z1j hy hk)
theorem qR {a b:ByteArray}(h:(vldQ a.data.toList&&vldQ b.data.toList)=false)(ha:a.size≤900)(hb:b.size≤900):∃ x y,KBo 32 (.string a) (.string b) x y 1:=by
 obtain⟨x,h1⟩:=mV a ha;obtain⟨y,h2⟩:=mV b hb;refine⟨x,y,fun W=>?_⟩
 cases va:vldQ a.data.toList with
 | false =>
   rw[va]at h1;exact z1o a b x y _ W h1 h2
 | true =>
   rw[va,Bool.true_and]at h;rw[va]at h1;rw[h]at h2;exact z1m a b x y W h1 h2
theorem yL (s:ByteArray)(hs:s.size≤20)(w:World)(hl:La w):∃ a ea c ec bv,CV w 6 #[.string s] (.tuple #[.string a,.int .i64 ea])∧CV w 7 #[.string s] (.tuple #[.string a,.int .i64 ea])∧CV w 8 #[.string s] (.tuple #[.string c,.int .i64 ec])∧CV w 9 #[.string s] (.tuple #[.string c,.int .i64 ec])∧CV w 12 #[.string s] (.bool bv)∧CV w 13 #[.string s] (.bool bv):=by
 rcases z0i s hs with hv|⟨q,rfl,hq⟩
 · have k:=z4e hv (by omega) w hl
   obtain⟨x,hr⟩:=yP hv (by omega);exact⟨_,_,_,_,_,z4u s w k,fun W _=>wZ s x W hr,z4q s w k,fun W _=>z1e s x W hr,z0R hv (by omega) w hl,fun W _=>z1a s x W hr⟩
 · by_cases hr : -1≤q∧q≤1
   · have r:=z1i hr hq (by decide)
     have sc:=z4O hq;have ss:=z4N hq;exact⟨_,_,_,_,_,z3B hq (by decide) hr w hl,fun W _=>wX _ _ q (cosQ q) W r (yCos hq (by decide)) (yTo sc (by decide)),z3A hq (by decide) hr w hl,fun W _=>z1c _ _ q (sinQ q) W r (ySin hq (by decide)) (yTo ss (by decide)),dS (decide_eq_true hr) (hq.fit (by decide)) w hl,fun W _=>z1b _ q W r⟩
   · have k:=z4d hr (hq.fit (by decide)) w hl
     have r:=yO hr hq (by decide);exact⟨_,_,_,_,_,z4t _ w k,fun W _=>wY _ q W r,z4p _ w k,fun W _=>z1d _ q W r,dS (decide_eq_false hr) (hq.fit (by decide)) w hl,fun W _=>z19 _ q W r⟩
theorem yJ (s t:ByteArray)(hs:s.size≤20)(ht:t.size≤20)(w:World)(hl:La w):∃ x ex,CV w 10 #[.string s,.string t] (.tuple #[.string x,.int .i64 ex])∧CV w 11 #[.string s,.string t] (.tuple #[.string x,.int .i64 ex]):=by
 rcases z0i s hs with hv|⟨p,rfl,hp⟩
 · obtain⟨x,y,hb⟩:=qR (a:=s) (b:=t) (by rw[hv];rfl) (by omega) (by omega)
   exact⟨_,_,z0I _ _ w (z2E hv (by omega) w hl),fun W _=>z3c s t x y W hb⟩
 · have fp:=hp.fit (by decide)
   rcases z0i t ht with hu|⟨q,rfl,hq⟩
   · obtain⟨x,y,hb⟩:=qR (a:=Sq p) (b:=t) (by rw[hu,Bool.and_false]) (by omega) (by omega)
     exact⟨_,_,z0I _ _ w (z2D fp hu (by omega) w hl),fun W _=>z3c _ t x y W hb⟩
   · have fq:=hq.fit (by decide)
     have B:=z5s hp hq (by decide);by_cases h1 : -1≤p∧p≤1
     · have b1:=gL (decide_eq_true h1) hp (by decide)
       by_cases h2 : -1≤q∧q≤1
       · have b2:=gL (decide_eq_true h2) hq (by decide)
         have pm:=hp.mul hq;have pd:=ys1.sub pm;have pa:=hp.add hq;have M:=kq2 (zD p q _ rfl (ylq hp (by decide)) (ylq hq (by decide)));have D:=kq2 (z4S 1 (p*q) _ rfl (ylq ys1 (by decide)) (ylq pm (by decide)));have SG:=kp1 (zC (1-p*q) _ rfl);by_cases h0:1-p*q=0
         · rw[show((1-p*q).num.sign)=0 by rw[h0];rfl]at SG
           exact⟨_,_,lN hp hq (by decide) h1 h2 (fun h=>h.1 h0) w hl,fun W _=>yM _ _ p q 1 (p*q) (1-p*q) W B b1 b2 yI1 M D SG⟩
         · have hk:(((1-p*q).num.sign)==0)=false:=beq_eq_false_iff_ne.2 (fun h=>h0 (Rat.num_eq_zero.1 (Int.sign_eq_zero_iff_zero.1 h)))
           have A:=kq2 (z1D p q _ rfl (ylq hp (by decide)) (ylq hq (by decide)));have Q:=kq2 (z3M (p+q) (1-p*q) (sumQ p q) rfl h0 (ylq pa (by decide)) (ylq pd (by decide)));have su:=zq hp hq h0;by_cases h3 : -1≤sumQ p q∧sumQ p q≤1
           · exact⟨_,_,z3y hp hq (by decide) h1 h2 h0 h3 w hl,fun W _=>z3E _ _ p q 1 (p*q) (1-p*q) (p+q) (sumQ p q) _ _ W hk B b1 b2 yI1 M D SG A Q (gL (decide_eq_true h3) su (by decide)) (yTo su (by decide))⟩
           · exact⟨_,_,lN hp hq (by decide) h1 h2 (fun h=>h3 h.2) w hl,fun W _=>wW _ _ p q 1 (p*q) (1-p*q) (p+q) (sumQ p q) _ W hk B b1 b2 yI1 M D SG A Q (gL (decide_eq_false h3) su (by decide))⟩
       · exact⟨_,_,z0H _ _ w (z2B h1 h2 fp fq w hl),fun W _=>z3F _ _ p q W B b1 (gL (decide_eq_false h2) hq (by decide))⟩
     · exact⟨_,_,z0H _ _ w (z2C h1 fp fq w hl),fun W _=>z3G _ _ p q W B (gL (decide_eq_false h1) hp (by decide))⟩
theorem qL (s t:ByteArray)(w:World)(hl:La w) :
 CR 3 #[.string s,.string t] w (.bool true):=by
 by_cases h20:20<s.size∨20<t.size
 · exact(wV s t w hl (decide_eq_true h20)).at
 · have hf:decide (20<s.size∨20<t.size)=false:=decide_eq_false h20
   obtain⟨a,ea,c,ec,bv,k1,k2,k3,k4,k7,k8⟩:=yL s (by omega) w hl;obtain⟨x,ex,k5,k6⟩:=yJ s t (by omega) (by omega) w hl;exact(yK s t a c x ea ec ex bv w k1 k2 k3 k4 k5 k6 k7 k8 hl hf).at
end Go.Proofs.YtodcdibanokjjaaGreatDoor
