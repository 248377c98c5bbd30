/- texts -/
import Derived.Test.YtlgkolkcokaefaaGreatDoorMz38q
import Derived.Test.YtlgkolkcokaefaaGreatDoorJd
import Derived.Test.YtlgkolkcokaefaaGreatDoorJc
import Derived.Test.YtlgkolkcokaefaaGreatDoorJa
import Derived.Test.YtlgkolkcokaefaaGreatDoorMz46q
namespace Go.Proofs.YtlgkolkcokaefaaGreatDoor
open Go.RowKit Go.Gb
theorem kq2 {f:Nat}{x y z:Rat}(h:∀ p1 c1 s1 d1 p2 c2 s2 d2 W,RN W (.slice p1 (aa x.num) c1) x.num.natAbs→RN W (.slice s1 (ag x.den) d1) x.den→RN W (.slice p2 (aa y.num) c2) y.num.natAbs→RN W (.slice s2 (ag y.den) d2) y.den→Calls Tryz.prog f #[.agg #[.bool (ah x.num),.slice p1 (aa x.num) c1,.slice s1 (ag x.den) d1],.agg #[.bool (ah y.num),.slice p2 (aa y.num) c2,.slice s2 (ag y.den) d2]] W fun e w'=>∃ p c s d,e=.returned (.agg #[.bool (ah z.num),.slice p (aa z.num) c,.slice s (ag z.den) d])∧RN w' (.slice p (aa z.num) c) z.num.natAbs∧RN w' (.slice s (ag z.den) d) z.den∧Below W.heap.size W w'):KQ2 f x y z:=by
 rintro⟨b,a,n,c,e,m,d⟩ ⟨b',a',n',c',e',m',d'⟩ W ⟨h1,h2,h3,h4,h5⟩ ⟨k1,k2,k3,k4,k5⟩
 dsimp only at *;subst h1 h2 h3 k1 k2 k3;exact(h _ _ _ _ _ _ _ _ W h4 h5 k4 k5).mono fun _ _ ⟨p,c,s,d,he,hr,ht,hb⟩=>⟨⟨_,p,_,c,s,_,d⟩,he,⟨rfl,rfl,rfl,hr,ht⟩,hb⟩
theorem kp2 {f:Nat}{x y:Rat}{v:Value}(h:∀ p1 c1 s1 d1 p2 c2 s2 d2 W,RN W (.slice p1 (aa x.num) c1) x.num.natAbs→RN W (.slice s1 (ag x.den) d1) x.den→RN W (.slice p2 (aa y.num) c2) y.num.natAbs→RN W (.slice s2 (ag y.den) d2) y.den→Calls Tryz.prog f #[.agg #[.bool (ah x.num),.slice p1 (aa x.num) c1,.slice s1 (ag x.den) d1],.agg #[.bool (ah y.num),.slice p2 (aa y.num) c2,.slice s2 (ag y.den) d2]] W fun e w'=>e=.returned v∧Below W.heap.size W w'):KP2 f x y v:=by
 rintro⟨b,a,n,c,e,m,d⟩ ⟨b',a',n',c',e',m',d'⟩ W ⟨h1,h2,h3,h4,h5⟩ ⟨k1,k2,k3,k4,k5⟩
 dsimp only at *;subst h1 h2 h3 k1 k2 k3;exact h _ _ _ _ _ _ _ _ W h4 h5 k4 k5
theorem kp1 {f:Nat}{x:Rat}{v:Value}(h:∀ p1 c1 s1 d1 W,RN W (.slice p1 (aa x.num) c1) x.num.natAbs→RN W (.slice s1 (ag x.den) d1) x.den→Calls Tryz.prog f #[.agg #[.bool (ah x.num),.slice p1 (aa x.num) c1,.slice s1 (ag x.den) d1]] W fun e w'=>e=.returned v∧Below W.heap.size W w'):KP1 f x v:=by
 rintro⟨b,a,n,c,e,m,d⟩ W ⟨h1,h2,h3,h4,h5⟩
 dsimp only at *;subst h1 h2 h3;exact h _ _ _ _ W h4 h5
theorem ks {f:Nat}{v:Value}{z:Rat}(h:∀ W,Calls Tryz.prog f #[v] W fun e w'=>∃ p c s d,e=.returned (.agg #[.bool (ah z.num),.slice p (aa z.num) c,.slice s (ag z.den) d])∧RN w' (.slice p (aa z.num) c) z.num.natAbs∧RN w' (.slice s (ag z.den) d) z.den∧Below W.heap.size W w'):KS f v z:=fun W=>(h W).mono fun _ _ ⟨p,c,s,d,he,hr,ht,hb⟩=>⟨⟨_,p,_,c,s,_,d⟩,he,⟨rfl,rfl,rfl,hr,ht⟩,hb⟩
theorem ksb {f:Nat}{v:Value}{z:Rat}{b:Bool}(h:∀ W,Calls Tryz.prog f #[v] W fun e w'=>∃ p c s d,e=.returned (.tuple #[.agg #[.bool (ah z.num),.slice p (aa z.num) c,.slice s (ag z.den) d],.bool b])∧RN w' (.slice p (aa z.num) c) z.num.natAbs∧RN w' (.slice s (ag z.den) d) z.den∧Below W.heap.size W w'):KSb f v z b:=fun W=>(h W).mono fun _ _ ⟨p,c,s,d,he,hr,ht,hb⟩=>⟨⟨_,p,_,c,s,_,d⟩,he,⟨rfl,rfl,rfl,hr,ht⟩,hb⟩
theorem di {f:FuncId}{args:Array Value}{w:World}{v:Value}(h:Calls Tryz.prog f args w fun e w'=>e=.returned v∧w=w'):Calls Tryz.prog f args w fun e w'=>e=.returned v∧Below w.heap.size w w':=by
 refine h.mono ?_;rintro e w' ⟨rfl,rfl⟩;exact⟨rfl,Below.refl _ _⟩
theorem uS {s:ByteArray}{k:Nat}(h:k<s.size):s[k]=s.data.toList[k]'(by rw[aG];exact h):=(fe s k h).symm
theorem rE (s:ByteArray)(hn:(47:UInt8)∉s.data.toList)(hs:s.size≤2000)(W:World) :
 CR 42 #[.string s] W (.tuple #[.string s,.string ⟨#[49]⟩,.bool false]) :=
 di (z1u s (fun k h e=>hn (by rw[← e,uS h];exact List.getElem_mem _)) (by unfold maxLen;omega) W)
theorem oz (s:ByteArray)(x y:List UInt8)(hl:s.data.toList=x++47 :: y)(hn:(47:UInt8)∉x)(hs:s.size≤2000)(W:World) :
 CR 42 #[.string s] W (.tuple #[.string ⟨x.toArray⟩,.string ⟨y.toArray⟩,.bool true]):=by
 have hsz:s.size=x.length+(y.length+1):=by rw[← aG,hl];simp
 have hxs:(⟨x.toArray⟩:ByteArray).size=x.length:=by show x.toArray.size=_;simp
 refine zt s ⟨x.toArray⟩ ⟨y.toArray⟩ (by omega) ?_ ?_ ?_ ?_ (by unfold maxLen;omega) W
 · intro k hk h2 e
   apply hn
   rw[← e,uS h2];simp only[hl];rw[List.getElem_append_left (by omega)];exact List.getElem_mem _
 · rw[uS (by omega)]
   simp only[hl,hxs];rw[List.getElem_append_right (Nat.le_refl _)];simp
 · apply ByteArray.ext;apply Array.ext'
   rw[fw,hl,hxs];simp
 · apply ByteArray.ext;apply Array.ext'
   rw[fw,hl,hxs,hsz];simp;exact List.take_of_length_le (by omega)
theorem z2Q (q:Rat)(hq:SmQ 900 q)(hs:(Sq q).size≤2000)(W:World) :
 Calls Tryz.prog 26 #[.string (Sq q)] W fun e w'=>∃ p c s d,e=.returned (.tuple #[.agg #[.bool (ah q.num),.slice p (aa q.num) c,.slice s (ag q.den) d],.bool true])∧RN w' (.slice p (aa q.num) c) q.num.natAbs∧RN w' (.slice s (ag q.den) d) q.den∧Below W.heap.size W w':=by
 have fn:FitZ q.num:=by unfold FitZ Fit;exact Sm.mono hq.1 (by decide)
 have z1:(Sz q.num).size≤901:=jK hq.1 (by decide);have z2:(Sn q.den).size≤900:=gZ hq.2 (by decide);have hR:=fun W=>xL (z4a q.num fn W);by_cases hd:q.den=1
 · rw[iW hd]at hs ⊢
   rw[hd];refine z2a (Sz q.num) (Sz q.num) ⟨#[49]⟩ q.num 1 W (fun W=>rE _ (z1m 47 (by decide) (by decide) _) hs W) (fun W=>di (tY q.num (by omega) W)) (fun W=>di ?_) hR (fun W=>?_)
   · exact fM ⟨#[49]⟩ W (by decide)
   · exact mW (jr ⟨#[49]⟩ (by decide) (by decide) W)
 · have hn0:q.num≠0:=by
    intro e;have:=q.reduced;rw[e]at this;unfold Nat.Coprime at this
    rw[Int.natAbs_zero,Nat.gcd_zero_left]at this;exact hd this
   have hd1:1<q.den:=by have:=q.den_pos;omega
   have lz:aa q.num≤900:=fZ hq.1 (by decide);have ln:ag q.den≤900:=fZ hq.2 (by decide);have e0:Sn q.den=⟨(Lib.decDigits q.den).toArray⟩:=rfl;have e1:(⟨(Sz q.num).data.toList.toArray⟩:ByteArray)=Sz q.num:=by simp
   have hsp:=fun W=>oz (Sq q) _ _ (gL hd) (z1m 47 (by decide) (by decide) _) hs W;rw[e1,← e0]at hsp
   refine z0x (Sq q) (Sz q.num) (Sn q.den) q.num 1 q.num.sign q.den 1 1 (by decide) (fun e=>hn0 (Int.sign_eq_zero_iff_zero.1 e)) W hsp (fun W=>di (tY q.num (by omega) W)) (fun W=>di ?_) hR (fun W=>?_)
    (fun W=>qH 1 1 rfl (by decide) W) (fun s1 d1 s2 d2 W h1 h2=>?_) (fun p c W h=>uj q.num _ rfl p c W h) (fun p1 c1 s2 d2 W h1 h2=>?_) (fun s1 d1 s2 d2 W h1 h2=>?_)
   · have h:=fM (Sn q.den) W (by unfold maxLen;omega)
     rwa [dU]at h
   · have h:=mW (jr (Sn q.den) (by rw[bS];exact iP _) (by omega) W)
     rwa [bO]at h
   · have h:=cCmp (.slice s1 (ag q.den) d1) (.slice s2 (ag 1) d2) q.den 1 (by omega) W h1 h2
     rwa [show cmpN q.den 1=1 by unfold cmpN;rw[if_neg (by omega),if_pos hd1]]at h
   · exact nL _ _ _ _ 1 q.reduced (Nat.le_trans lz (by decide)) (by omega) W h1 h2
   · have h:=cCmp (.slice s1 (ag 1) d1) (.slice s2 (ag 1) d2) 1 1 (by rw[q8];decide) W h1 h2
     rwa [show cmpN 1 1=0 by decide]at h
theorem z4Z (q:Rat)(hq:SmQ 900 q)(hs:(Sq q).size≤1000)(W:World) :
 Calls Tryz.prog 26 #[.string (Sq q)] W fun e w'=>∃ p c s d,e=.returned (.tuple #[.agg #[.bool (ah q.num),.slice p (aa q.num) c,.slice s (ag q.den) d],.bool true])∧RN w' (.slice p (aa q.num) c) q.num.natAbs∧RN w' (.slice s (ag q.den) d) q.den∧Below W.heap.size W w':=z2Q q hq (by omega) W
theorem z1x (a:ByteArray)(hv:vldQ a.data.toList=false)(hs:a.size≤900)(W:World) :
 Calls Tryz.prog 26 #[.string a] W fun e w'=>∃ p c s d,e=.returned (.tuple #[.agg #[.bool (ah (0:Rat).num),.slice p (aa (0:Rat).num) c,.slice s (ag (0:Rat).den) d],.bool false])∧RN w' (.slice p (aa (0:Rat).num) c) (0:Rat).num.natAbs∧RN w' (.slice s (ag (0:Rat).den) d) (0:Rat).den∧Below W.heap.size W w':=by
 have hI:=fun W=>z4X 0 0 0 rfl (by decide) rfl rfl W;rcases nG 47 a.data.toList with⟨h47,e⟩|⟨x,y,h47,el,e⟩
 · unfold vldQ at hv
   rw[e]at hv;simp only[Bool.false_eq_true,if_false]at hv;exact sN a a ⟨#[49]⟩ _ _ false W (fun W=>rE a h47 (by omega) W) (fun W=>di (oh a hv (by omega) W)) hI
 · have hlen:x.length+(y.length+1)=a.size:=by rw[← aG,el];simp
   have hsp:=fun W=>oz a x y el h47 (by omega) W;have sx:(⟨x.toArray⟩:ByteArray).size≤1000:=by show x.toArray.size≤1000;simp;omega
   have sy:(⟨y.toArray⟩:ByteArray).size≤900:=by show y.toArray.size≤900;simp;omega
   unfold vldQ at hv
   rw[e]at hv;simp only[if_true]at hv
   cases hx:vldZ x with
   | false=>exact sN a ⟨x.toArray⟩ ⟨y.toArray⟩ _ _ true W hsp (fun W=>di (oh ⟨x.toArray⟩ (by simpa using hx) sx W)) hI
   | true =>
     obtain⟨z,hz⟩:∃ z,z=zval x:=⟨_,rfl⟩;have ex:(⟨x.toArray⟩:ByteArray)=Sz z:=by rw[hz];have:=zk (a:=⟨x.toArray⟩) (by simpa using hx);simpa using this
     have sx2:(Sz z).size≤900:=by rw[← ex];show x.toArray.size≤900;simp;omega
     rw[ex]at hsp sx;have hVx:=fun W=>di (tY z sx W)
     cases hy:vld y with
     | false =>
       refine z0y a (Sz z) ⟨y.toArray⟩ _ _ true W hsp hVx (fun W=>di ?_) hI;have h:=fM ⟨y.toArray⟩ W (by unfold maxLen;omega);rwa [show vld (⟨y.toArray⟩:ByteArray).data.toList=false by simpa using hy]at h
     | true =>
       obtain⟨n,hn⟩:∃ n,n=aK y:=⟨_,rfl⟩;have ey:(⟨y.toArray⟩:ByteArray)=Sn n:=by rw[hn];have:=z4T (a:=⟨y.toArray⟩) (by simpa using hy);simpa using this
       have yl:y=Lib.decDigits n:=by
        have:=congrArg (fun b:ByteArray=>b.data.toList) ey;simpa [bS] using this
       rw[ey]at hsp sy
       have hVy:CQ 44 #[.string (Sn n)] (.bool true):=fun W=>di (by
        have h:=fM (Sn n) W (by unfold maxLen;omega)
        rwa [dU]at h)
       have kz:Sm 900 z.natAbs:=iX sx2;have kn:Sm 900 n:=by have:=Sm.of (a:=Sn n) (dU n) sy;rwa [bO]at this
       have lz:aa z≤900:=fZ kz (by decide);have ln:ag n≤900:=fZ kn (by decide);have hR:=fun W=>xL (z4a z (by unfold FitZ Fit;exact Sm.mono kz (by decide)) W)
       have hF:∀ W,CN 47 #[.string (Sn n)] W n:=fun W=>by
        have h:=mW (jr (Sn n) (by rw[bS];exact iP _) (by omega) W);rwa [bO]at h
       have hO:=fun W=>qH 1 1 rfl (by decide) W;have hC:=fun(s1:Option Addr) (d1:Nat) (s2:Option Addr) (d2:Nat) W h1 h2=>cCmp (.slice s1 (ag n) d1) (.slice s2 (ag 1) d2) n 1 (by omega) W h1 h2;have hS:=fun p c W h=>uj z _ rfl p c W h;by_cases n1:n≤1
       · exact yu a (Sz z) (Sn n) z (cmpN n 1) _ n 1 _ (by unfold cmpN;split<;>first|(split<;>omega)|omega) W hsp hVx hVy hR hF hO hC hI
       · have hk:0<cmpN n 1:=by unfold cmpN;rw[if_neg (by omega),if_pos (by omega)];decide
         by_cases z0:z=0
         · subst z0
           exact z0w a (Sz 0) (Sn n) 0 (cmpN n 1) _ n 1 _ hk W hsp hVx hVy hR hF hO hC hS hI
         · have hsg:z.sign≠0:=fun e=>z0 (Int.sign_eq_zero_iff_zero.1 e)
           have hG:=fun(p1:Option Addr) (c1:Nat) (s2:Option Addr) (d2:Nat) W h1 h2=>nL (.slice p1 (aa z) c1) (.slice s2 (ag n) d2) z.natAbs n _ rfl (Nat.le_trans lz (by decide)) (by omega) W h1 h2;have lg:ag (Nat.gcd z.natAbs n)≤900:=Nat.le_trans (iY (Nat.gcd_le_right _ (by omega))) ln;by_cases g1:Nat.gcd z.natAbs n=1
           · exfalso
             have:vldP x y=true:=by
              unfold vldP
              rw[hx,yl,pE,mg,← hz]
              have e1:(Lib.decDigits n==[49])=false:=by
                rw[beq_eq_false_iff_ne];intro e
                have e2:Sn n=Sn 1:=by
                 apply ByteArray.ext;apply Array.ext'
                 rw[bS,e];decide +kernel
                have:=z2N e2;omega
              rw[e1];simp[g1]
              omega
             rw[this]at hv;cases hv
           · refine uE a (Sz z) (Sn n) z (cmpN n 1) (cmpN (Nat.gcd z.natAbs n) 1) _ _ n 1 (Nat.gcd z.natAbs n) _ hk hsg ?_ W hsp hVx hVy hR hF hO hC hS hG (fun s1 d1 s2 d2 W h1 h2=>cCmp _ _ _ _ (by omega) W h1 h2) hI
             unfold cmpN
             split
             · decide
             · split
               · decide
               · omega
theorem z4l {q:Rat}{k:Nat}(h:SmQ k q)(h0:0<k)(hk:k≤10000):LQ q:=⟨Nat.le_trans (fZ h.1 h0) hk,Nat.le_trans (fZ h.2 h0) hk⟩
theorem zH (a:ByteArray)(ha:a.size≤900):∃ q:Rat,∀ W,Calls Tryz.prog 26 #[.string a] W fun e w'=>∃ p c s d,e=.returned (.tuple #[.agg #[.bool (ah q.num),.slice p (aa q.num) c,.slice s (ag q.den) d],.bool (vldQ a.data.toList)])∧RN w' (.slice p (aa q.num) c) q.num.natAbs∧RN w' (.slice s (ag q.den) d) q.den∧Below W.heap.size W w':=by
 cases h:vldQ a.data.toList with
 | false=>exact⟨0,fun W=>z1x a h ha W⟩
 | true =>
   have e:=z3h h;obtain⟨q,hq⟩:∃ q,q=qval a.data.toList:=⟨_,rfl⟩;rw[← hq]at e;subst e;exact⟨q,fun W=>z4Z q (zA ha (by decide)) (by omega) W⟩
theorem jlq {q:Rat}{k:Nat}(h:SmQ k q)(hk:k+1≤10000):LQ q:=z4l (h.mono (Nat.le_succ k)) (Nat.succ_pos k) hk
theorem sD {x:Rat}{k:Nat}(hx:SmQ k x)(hk:k≤900):KSb 26 (.string (Sq x)) x true:=ksb (fun W=>z2Q x (hx.mono hk) (by have:=zn (hx.mono hk) (by decide);omega) W)
theorem kF (a:ByteArray)(ha:a.size≤900):∃ x,KSb 26 (.string a) x (vldQ a.data.toList):=by
 obtain⟨x,hx⟩:=zH a ha;exact⟨x,ksb hx⟩
theorem jTo {x:Rat}{k:Nat}(hx:SmQ k x)(hk:k≤9000):KP1 27 x (.string (Sq x)):=kp1 (sQTo x _ rfl (hx.mono hk))
theorem jMul {x y:Rat}{k l:Nat}(hx:SmQ k x)(hy:SmQ l y)(hk:k≤9000)(hl:l≤9000):KQ2 61 x y (x*y):=kq2 (z4o x y _ rfl (jlq hx (by omega)) (jlq hy (by omega)))
theorem jAdd {x y:Rat}{k l:Nat}(hx:SmQ k x)(hy:SmQ l y)(hk:k≤9000)(hl:l≤9000):KQ2 67 x y (x+y):=kq2 (z4q x y _ rfl (jlq hx (by omega)) (jlq hy (by omega)))
theorem jSub {x y:Rat}{k l:Nat}(hx:SmQ k x)(hy:SmQ l y)(hk:k≤9000)(hl:l≤9000):KQ2 54 x y (x-y):=kq2 (z4U x y _ rfl (jlq hx (by omega)) (jlq hy (by omega)))
theorem jN {x:Rat}{k:Nat}(hx:SmQ k x)(hk:k≤900):KS 35 (.string (Sq x)) x:=fun W=>z4g _ x true W (sD hx hk)
theorem jN0:KS 35 (.string ⟨#[48]⟩) 0:=by have h:=jN hs0 (by decide);rwa [hq0]at h
theorem jN1:KS 35 (.string ⟨#[49]⟩) 1:=by have h:=jN hs1 (by decide);rwa [hq1]at h
theorem jNh:KS 35 (.string ⟨#[49,47,50]⟩) (1 / 2):=by have h:=jN hsh (by decide);rwa [hqh]at h
theorem jNeg {x:Rat}{k:Nat}(hx:SmQ k x)(hk:k≤9000):KQ1 28 x (0-x):=fun q1 W h=>z1l x 0 (0-x) q1 W jN0 (jSub hs0 hx (by decide) hk) h
theorem z4u (x y:Rat):decide (cmpQ x y<0)=decide (x<y):=by
 rcases oO x y with⟨h2,e⟩|⟨h2,e⟩|⟨h2,e⟩<;>rw[e]
 · exact(decide_eq_true (by grind)).symm
 · exact(decide_eq_false (by grind)).symm
 · exact(decide_eq_false (by grind)).symm
theorem z3r {x y:Rat}{k l:Nat}{b:Bool}(hb:decide (x<y)=b)(hx:SmQ k x)(hy:SmQ l y)(hk:k≤9000)(hl:l≤9000):KP2 79 x y (.bool b) :=
 fun q1 q2 W h1 h2=>yX x y (cmpQ x y) b q1 q2 W (by rw[z4u,hb]) (kp2 (z4Y x y _ rfl (jlq hx (by omega)) (jlq hy (by omega)))) h1 h2
theorem jOut {x m:Rat}{k l:Nat}{b:Bool}(hb:decide (x<0-m∨m<x)=b)(hx:SmQ k x)(hm:SmQ l m)(hk:k≤4000)(hl:l≤4000):KP2 59 x m (.bool b):=by
 intro q1 q2 W h1 h2;have hn:=hs0.sub hm;by_cases c:x<0-m
 · obtain rfl:b=true:=by rw[← hb];exact decide_eq_true (Or.inl c)
   exact z1k x m (0-m) q1 q2 W (jNeg hm (by omega)) (z3r (decide_eq_true c) hx hn (by omega) (by omega)) h1 h2
 · exact z3d x m (0-m) b q1 q2 W (jNeg hm (by omega)) (z3r (decide_eq_false c) hx hn (by omega) (by omega)) (z3r (by rw[← hb];exact decide_eq_decide.2 ⟨Or.inr,fun h=>h.resolve_left c⟩) hm hx (by omega) (by omega)) h1 h2
theorem z2U {x:Rat}{k:Nat}(hx:SmQ k x)(hk:k≤900):KQQ 60 x (cosQ x) (sinQ x):=by
 intro q W h;have s:=hx.mul hx;have m:=hs1.sub s;have p:=hs1.add s;have d:=hx.add hx;refine xA x 1 (x*x) (1+x*x) (1-x*x) (cosQ x) (x+x) (sinQ x) q W jN1 (jMul hx hx (by omega) (by omega)) (jAdd hs1 s (by decide) (by omega)) (jSub hs1 s (by decide) (by omega)) (kq2 (z4p _ _ _ rfl (qW x) (jlq m (by omega)) (jlq p (by omega)))) (jAdd hx hx (by omega) (by omega)) (kq2 (z4p _ _ _ ?_ (qW x) (jlq d (by omega)) (jlq p (by omega)))) h;unfold sinQ
 rw[show x+x=2*x by grind]
theorem uw {p:Rat}{b:Bool}(hb:decide (¬ (-1≤p∧p≤1))=b):decide (p<0-1∨1<p)=b:=by
 rw[← hb];exact decide_eq_decide.2 (by grind)
theorem z09 {p:Rat}{b:Bool}(hb:decide (¬ (-(1:Rat) / 2≤p∧p≤1 / 2))=b):decide (p<0-1 / 2∨1 / 2<p)=b:=by
 rw[← hb];exact decide_eq_decide.2 (by grind)
theorem z0a {p q:Rat}(hp:SmQ 40 p)(hq:SmQ 40 q)(h:InA p q):KF 32 (.agg #[.string (Sq p),.string (Sq q)]) (cosQ q) (0-sinQ p*sinQ q) (cosQ p*sinQ q) 0 (cosQ p) (sinQ p) (0-sinQ q) (0-sinQ p*cosQ q) (cosQ p*cosQ q):=by
 intro W;have cp:=(rA hp).1;have sp:=(rA hp).2;have cq:=(rA hq).1;have sq:=(rA hq).2;exact ze _ _ p q 1 (1 / 2) (cosQ p) (sinQ p) (cosQ q) (sinQ q) (sinQ p*sinQ q) (0-sinQ p*sinQ q) (cosQ p*sinQ q) 0 (0-sinQ q) (sinQ p*cosQ q) (0-sinQ p*cosQ q) (cosQ p*cosQ q) W (sD hp (by decide)) (sD hq (by decide)) jN1 (jOut (uw (decide_eq_false (fun k=>k h.1))) hp hs1 (by decide) (by decide)) jNh (jOut (z09 (decide_eq_false (fun k=>k h.2))) hq hsh (by decide) (by decide)) (z2U hp (by decide)) (z2U hq (by decide)) (jMul sp sq (by decide) (by decide)) (jNeg (sp.mul sq) (by decide)) (jMul cp sq (by decide) (by decide)) jN0 (jNeg sq (by decide)) (jMul sp cq (by decide) (by decide)) (jNeg (sp.mul cq) (by decide)) (jMul cp cq (by decide) (by decide))
theorem oJ {a b:ByteArray}(h:(vldQ a.data.toList&&vldQ b.data.toList)=false)(ha:a.size≤900)(hb:b.size≤900):KPs 32 (.agg #[.string a,.string b]) (.tuple #[.agg bQ,.int .i64 1]):=by
 intro W;obtain⟨x,h1⟩:=kF a ha;obtain⟨y,h2⟩:=kF b hb
 cases va:vldQ a.data.toList with
 | false =>
   rw[va]at h1;exact zg a b x y _ W h1 h2
 | true =>
   rw[va,Bool.true_and]at h;rw[va]at h1;rw[h]at h2;exact zf a b x y W h1 h2
theorem oI {p q:Rat}(hp:SmQ 40 p)(hq:SmQ 40 q)(h:¬ InA p q):KPs 32 (.agg #[.string (Sq p),.string (Sq q)]) (.tuple #[.agg bQ,.int .i64 2]):=by
 intro W;by_cases h1 : -1≤p∧p≤1
 · exact yY _ _ p q 1 (1 / 2) W (sD hp (by decide)) (sD hq (by decide)) jN1 (jOut (uw (decide_eq_false (fun k=>k h1))) hp hs1 (by decide) (by decide)) jNh (jOut (z09 (decide_eq_true (fun k=>h ⟨h1,k⟩))) hq hsh (by decide) (by decide))
 · exact yZ _ _ p q 1 W (sD hp (by decide)) (sD hq (by decide)) jN1 (jOut (uw (decide_eq_true h1)) hp hs1 (by decide) (by decide))
theorem z1T {x y z:Rat}{k:Nat}(hx:SmQ k x)(hy:SmQ k y)(hz:SmQ k z)(hk:k≤9000):KOut 33 x y z (.agg #[.string (Sq x),.string (Sq y),.string (Sq z)]) :=
 fun q1 q2 q3 W h1 h2 h3=>yV x y z _ _ _ q1 q2 q3 W (jTo hx hk) (jTo hy hk) (jTo hz hk) h1 h2 h3
theorem sF {p q:Rat}(hp:SmQ 40 p)(hq:SmQ 40 q)(h:InA p q)(w:World):CV w 18 #[.agg #[.string (Sq p),.string (Sq q)]] (.int .i64 0):=fun W _=>zh _ _ (cosQ q) (0-sinQ p*sinQ q) (cosQ p*sinQ q) 0 (cosQ p) (sinQ p) (0-sinQ q) (0-sinQ p*cosQ q) (cosQ p*cosQ q) W (z0a hp hq h)
theorem z4v {p q:Rat}(hp:SmQ 40 p)(hq:SmQ 40 q)(h:InA p q)(w:World):CV w 12 #[.agg #[.string (Sq p),.string (Sq q)]] (.tuple #[.agg #[.string (Sq (cosQ q)),.string (Sq (0-sinQ p*sinQ q)),.string (Sq (cosQ p*sinQ q)),.string (Sq (0)),.string (Sq (cosQ p)),.string (Sq (sinQ p)),.string (Sq (0-sinQ q)),.string (Sq (0-sinQ p*cosQ q)),.string (Sq (cosQ p*cosQ q))],.int .i64 0]):=by
 obtain⟨s1,s2,s3,s4,s5,s6,s7,s8,s9⟩:=uf hp hq;exact fun W _=>z4d _ _ (cosQ q) (0-sinQ p*sinQ q) (cosQ p*sinQ q) 0 (cosQ p) (sinQ p) (0-sinQ q) (0-sinQ p*cosQ q) (cosQ p*cosQ q) _ _ _ _ _ _ _ _ _ W (z0a hp hq h) (z1T s1 s2 s3 (by decide)) (z1T s4 s5 s6 (by decide)) (z1T s7 s8 s9 (by decide))
theorem xY {p q:Rat}(hp:SmQ 40 p)(hq:SmQ 40 q)(h:InA p q)(w:World):CV w 16 #[.agg #[.string (Sq p),.string (Sq q)]] (.tuple #[.agg #[.string (Sq (0-p)),.string (Sq q)],.int .i64 0]) :=
 fun W _=>xB _ _ p (0-p) _ W (fun W=>(sF hp hq h W) W (Below.refl _ _)) (jN hp (by decide)) (jNeg hp (by decide)) (jTo (hs0.sub hp) (by decide))
theorem z08 {p q x:Rat}(hp:SmQ 40 p)(hq:SmQ 40 q)(hx:SmQ 40 x)(h:InA p q)(w:World):CV w 14 #[.agg #[.string (Sq p),.string (Sq q)],.string (Sq x)] (.tuple #[.agg #[.string (Sq (0-sinQ q)),.string (Sq (0-sinQ p*cosQ q)),.string (Sq (cosQ p*cosQ q)),.string (Sq x)],.int .i64 0]):=by
 obtain⟨s1,s2,s3,s4,s5,s6,s7,s8,s9⟩:=uf hp hq;exact fun W _=>yR _ _ _ x (cosQ q) (0-sinQ p*sinQ q) (cosQ p*sinQ q) 0 (cosQ p) (sinQ p) (0-sinQ q) (0-sinQ p*cosQ q) (cosQ p*cosQ q) _ _ _ W (sD hx (by decide)) (z0a hp hq h) (z1T s7 s8 s9 (by decide))
def FarA (p q:ByteArray):Prop:=∃ mp mq:Rat,p=Sq mp∧SmQ 40 mp∧q=Sq mq∧SmQ 40 mq∧¬ InA mp mq
theorem z4F (p q:ByteArray)(hp:p.size≤40)(hq:q.size≤40)(w:World)(hla:La w):(∃ er:Int,(er=1∧((vldQ p.data.toList&&vldQ q.data.toList)=false)∨er=2∧((vldQ p.data.toList&&vldQ q.data.toList)=true∧FarA p q))∧CV w 29 #[.agg #[.string (p),.string (q)],.slice none 0 0] (.int .i64 er))∨(∃ mp mq:Rat,(p=Sq mp∧SmQ 40 mp∧q=Sq mq∧SmQ 40 mq)∧InA mp mq∧CV w 29 #[.agg #[.string (p),.string (q)],.slice none 0 0] (.int .i64 0)):=by
 have n2:=qJ (sH (a:=p) (by omega) w hla) (sH (a:=q) (by omega) w hla)
 cases e2:vldQ p.data.toList&&vldQ q.data.toList with
 | false =>
   rw[e2]at n2;refine Or.inl ⟨1,Or.inl ⟨rfl,rfl⟩,?_⟩;exact(z3D _ _ w n2)
 | true =>
   rw[e2]at n2;have v2:=e2;simp only[Bool.and_eq_true]at e2;obtain⟨mp,rfl,sp⟩:=(hform (k:=40) (by decide) p hp).resolve_left (by rw[e2.1];decide);obtain⟨mq,rfl,sq⟩:=(hform (k:=40) (by decide) q hq).resolve_left (by rw[e2.2];decide);by_cases r1 : -1≤mp∧mp≤1
   · have f1:=hfh (decide_eq_true r1) (sp.fit (by decide)) w hla
     by_cases r2 : -(1:Rat) / 2≤mq∧mq≤1 / 2
     · have f2:=hft (decide_eq_true r2) (sq.fit (by decide)) w hla
       refine Or.inr ⟨mp,mq,⟨rfl,sp,rfl,sq⟩,⟨r1,r2⟩,?_⟩;exact(z0p _ _ w f1 f2 n2)
     · have f2:=hft (decide_eq_false r2) (sq.fit (by decide)) w hla
       refine Or.inl ⟨2,Or.inr ⟨rfl,rfl,mp,mq,rfl,sp,rfl,sq,fun k=>r2 k.2⟩,?_⟩;exact(z3B _ _ w f1 f2 n2)
   · have f1:=hfh (decide_eq_false r1) (sp.fit (by decide)) w hla
     refine Or.inl ⟨2,Or.inr ⟨rfl,rfl,mp,mq,rfl,sp,rfl,sq,fun k=>r1 k.1⟩,?_⟩;exact(z3C _ _ w f1 n2)
theorem z4E (p q x:ByteArray)(hp:p.size≤40)(hq:q.size≤40)(hx:x.size≤40)(w:World)(hla:La w):(∃ er:Int,(er=1∧((vldQ p.data.toList&&vldQ q.data.toList)=false∨(vldQ x.data.toList)=false)∨er=2∧((vldQ p.data.toList&&vldQ q.data.toList)=true∧(vldQ x.data.toList)=true∧FarA p q))∧Ch1 w (p) (q) (x) er)∨(∃ mp mq mx:Rat,(p=Sq mp∧SmQ 40 mp∧q=Sq mq∧SmQ 40 mq∧x=Sq mx∧SmQ 40 mx)∧InA mp mq∧Ch1 w (p) (q) (x) 0):=by
 have n2:=qJ (sH (a:=p) (by omega) w hla) (sH (a:=q) (by omega) w hla);have n3:=z3Q (sH (a:=x) (by omega) w hla)
 cases e2:vldQ p.data.toList&&vldQ q.data.toList with
 | false =>
   rw[e2]at n2;refine Or.inl ⟨1,Or.inl ⟨rfl,Or.inl rfl⟩,?_⟩;exact fun g W hW k=>(z3A g _ _ _ W (dA n2 hW) k).at
 | true =>
   rw[e2]at n2
   cases e3:vldQ x.data.toList with
   | false =>
     rw[e3]at n3;refine Or.inl ⟨1,Or.inl ⟨rfl,Or.inr rfl⟩,?_⟩;exact fun g W hW k=>(z3z g _ _ _ W (dA n2 hW) (gX n3 hW) k).at
   | true =>
     rw[e3]at n3;have v2:=e2;have v3:=e3;simp only[Bool.and_eq_true]at e2 e3;obtain⟨mp,rfl,sp⟩:=(hform (k:=40) (by decide) p hp).resolve_left (by rw[e2.1];decide);obtain⟨mq,rfl,sq⟩:=(hform (k:=40) (by decide) q hq).resolve_left (by rw[e2.2];decide);obtain⟨mx,rfl,sx⟩:=(hform (k:=40) (by decide) x hx).resolve_left (by rw[e3];decide);by_cases r1 : -1≤mp∧mp≤1
     · have f1:=hfh (decide_eq_true r1) (sp.fit (by decide)) w hla
       by_cases r2 : -(1:Rat) / 2≤mq∧mq≤1 / 2
       · have f2:=hft (decide_eq_true r2) (sq.fit (by decide)) w hla
         refine Or.inr ⟨mp,mq,mx,⟨rfl,sp,rfl,sq,rfl,sx⟩,⟨r1,r2⟩,?_⟩;exact fun g W hW k=>(z3y g _ _ _ W (f1.mono hW) (f2.mono hW) (dA n2 hW) (gX n3 hW) k).at
       · have f2:=hft (decide_eq_false r2) (sq.fit (by decide)) w hla
         refine Or.inl ⟨2,Or.inr ⟨rfl,rfl,rfl,mp,mq,rfl,sp,rfl,sq,fun k=>r2 k.2⟩,?_⟩;exact fun g W hW k=>(z3w g _ _ _ W (f1.mono hW) (f2.mono hW) (dA n2 hW) (gX n3 hW) k).at
     · have f1:=hfh (decide_eq_false r1) (sp.fit (by decide)) w hla
       refine Or.inl ⟨2,Or.inr ⟨rfl,rfl,rfl,mp,mq,rfl,sp,rfl,sq,fun k=>r1 k.1⟩,?_⟩;exact fun g W hW k=>(z3x g _ _ _ W (f1.mono hW) (dA n2 hW) (gX n3 hW) k).at
end Go.Proofs.YtlgkolkcokaefaaGreatDoor
