/- texts -/
import Derived.Test.YtcchkjpdchcjpaaGreatDoorSl
import Derived.Test.YtcchkjpdchcjpaaGreatDoorSq
namespace Go.Proofs.YtcchkjpdchcjpaaGreatDoor
open Go.RowKit Go.Gb
def LQ (q:Rat):Prop:=ag q.num≤10000∧ai q.den≤10000
theorem z_abs (z:Int):z=if av z then -(z.natAbs:Int) else (z.natAbs:Int):=by
 unfold av
 by_cases h:z<0
 · rw[decide_eq_true h,if_pos rfl];omega
 · rw[decide_eq_false h,if_neg (by simp)];omega
theorem z5e (z:Int)(g:Nat)(hg:g∣z.natAbs):z / (g:Int)=if av z then -((z.natAbs / g:Nat):Int) else ((z.natAbs / g:Nat):Int):=by
 have hd:(g:Int)∣(z.natAbs:Int):=Int.natCast_dvd_natCast.2 hg;unfold av
 by_cases h:z<0
 · rw[decide_eq_true h,if_pos rfl]
   have e:z = -(z.natAbs:Int):=by omega
   conv=>lhs;rw[e]
   rw[Int.neg_ediv_of_dvd hd,Int.natCast_ediv]
 · rw[decide_eq_false h,if_neg (by simp),Int.natCast_ediv]
   congr 1
   omega
theorem z4n (z:Int)(n:Nat):z*(n:Int)=if av z then -((z.natAbs*n:Nat):Int) else ((z.natAbs*n:Nat):Int):=by
 rw[Int.natCast_mul];unfold av
 by_cases h:z<0
 · rw[decide_eq_true h,if_pos rfl,← Int.neg_mul];congr 1;omega
 · rw[decide_eq_false h,if_neg (by simp)];congr 1;omega
theorem q8 (a b:Int):ag (a*b)≤ag a+ag b:=by
 unfold ag ai;rw[Int.natAbs_mul];exact iA _ _
theorem qU (a b:Nat):ai (a*b)≤ai a+ai b:=iA a b
theorem z1e (n:Nat):ag (n:Int)=ai n:=by unfold ag;rw[Int.natAbs_natCast]
theorem z3r (z:Int)(dn:Nat)(q:Rat)(hq:mkRat z dn=q)(hd:dn≠0)(hz:ag z≤50000)(hl:ai dn≤50000)(p1:Option Addr)(c1:Nat)(s2:Option Addr)(d2:Nat)(W:World)(r1:RN W (.slice p1 (ag z) c1) z.natAbs)(t2:RN W (.slice s2 (ai dn) d2) dn) :
 Calls Tryz.prog 51 #[.agg #[.bool (av z),.slice p1 (ag z) c1],.slice s2 (ai dn) d2] W fun e w'=>∃ p c s d,e=.returned (.agg #[.bool (av q.num),.slice p (ag q.num) c,.slice s (ai q.den) d])∧RN w' (.slice p (ag q.num) c) q.num.natAbs∧RN w' (.slice s (ai q.den) d) q.den∧Below W.heap.size W w':=by
 obtain⟨hn,he⟩:=jH z dn hd;rw[hq]at hn he;obtain⟨g,hg⟩:∃ g,g=Nat.gcd z.natAbs dn:=⟨_,rfl⟩;rw[← hg]at hn he;by_cases g1:g=1
 · rw[g1]at hn he
   have e1:q.num=z:=by rw[hn];simp
   have e2:q.den=dn:=by rw[he];simp
   rw[e1,e2];exact yF z dn hz hl p1 c1 s2 d2 (by rw[← hg,g1]) W r1 t2
 · have g0:g≠0:=by rw[hg];exact Nat.ne_of_gt (Nat.gcd_pos_of_pos_right _ (by omega))
   have hy:=z5e z g (by rw[hg];exact Nat.gcd_dvd_left _ _);rw[hn,he];by_cases gl:ai g=1
   · exact uW z dn hz hl p1 c1 s2 d2 g _ _ _ _ _ hg.symm g0 g1 gl rfl rfl rfl rfl hy W r1 t2
   · exact uX z dn hz hl p1 c1 s2 d2 g _ _ _ _ _ hg.symm g0 gl rfl rfl rfl rfl hy W r1 t2
theorem z3q (k:Int)(q:Rat)(n:Nat)(hk:(n:Int)=k)(h1:n≤1000000)(hn:q.num=k)(he:q.den=1)  (W:World)  :
 Calls Tryz.prog 23 #[.int .i64 k] W fun e w'=>∃ p c s d,e=.returned (.agg #[.bool (av q.num),.slice p (ag q.num) c,.slice s (ai q.den) d])∧RN w' (.slice p (ag q.num) c) q.num.natAbs∧RN w' (.slice s (ai q.den) d) q.den∧Below W.heap.size W w':=by
 refine wV k q.num q.den W (fun W=>?_) (fun W=>?_)
 · rw[hn];exact z4A k n hk (by omega) (by omega) W
 · rw[he];exact lL 1 1 rfl (by decide) W
theorem zV (x:Rat)(s:Int)(hs:x.num.sign=s)(p1:Option Addr)(c1:Nat)(s1:Option Addr)(d1:Nat)(W:World)(r1:RN W (.slice p1 (ag x.num) c1) x.num.natAbs)(t1:RN W (.slice s1 (ai x.den) d1) x.den) :
 CR 19 #[.agg #[.bool (av x.num),.slice p1 (ag x.num) c1,.slice s1 (ai x.den) d1]] W (.int .i64 s):=by
 exact z06 x.num s x.den p1 c1 s1 d1 W (fun p c W h=>uJ x.num s hs p c W h) r1 t1
theorem z5m (x y q:Rat)(hq:x*y=q)(hx:LQ x)(hy:LQ y)(p1:Option Addr)(c1:Nat)(s1:Option Addr)(d1:Nat)(p2:Option Addr)(c2:Nat)(s2:Option Addr)(d2:Nat)(W:World)(r1:RN W (.slice p1 (ag x.num) c1) x.num.natAbs)(t1:RN W (.slice s1 (ai x.den) d1) x.den)(r2:RN W (.slice p2 (ag y.num) c2) y.num.natAbs)(t2:RN W (.slice s2 (ai y.den) d2) y.den) :
 Calls Tryz.prog 22 #[.agg #[.bool (av x.num),.slice p1 (ag x.num) c1,.slice s1 (ai x.den) d1],.agg #[.bool (av y.num),.slice p2 (ag y.num) c2,.slice s2 (ai y.den) d2]] W fun e w'=>∃ p c s d,e=.returned (.agg #[.bool (av q.num),.slice p (ag q.num) c,.slice s (ai q.den) d])∧RN w' (.slice p (ag q.num) c) q.num.natAbs∧RN w' (.slice s (ai q.den) d) q.den∧Below W.heap.size W w':=by
 obtain⟨a1,a2⟩:=hx;obtain⟨b1,b2⟩:=hy;have l1:=q8 x.num y.num;have l2:=qU x.den y.den
 exact z1G x.num y.num (x.num*y.num) q.num x.den y.den (x.den*y.den) q.den p1 c1 s1 d1 p2 c2 s2 d2 W (fun p1 c1 p2 c2 W h1 h2=>z4z _ _ _ rfl (by omega) (by omega) p1 c1 p2 c2 W h1 h2)
  (fun s1 d1 s2 d2 W h1 h2=>xG _ _ _ _ (by omega) (by omega) W h1 h2)
  (fun p1 c1 s2 d2 W h1 h2=>z3r _ _ q (by rw[← hq,jq]) (Nat.mul_ne_zero x.den_nz y.den_nz) (by omega) (by omega) p1 c1 s2 d2 W h1 h2) r1 t1 r2 t2
theorem ug (x y:Rat):(x.num.sign<y.num.sign→aP x y = -1)∧(y.num.sign<x.num.sign→aP x y=1):=by
 have hx:=x.den_pos;have hy:=y.den_pos;rw[iU x y _ _ rfl rfl];have key:∀ (a:Int) (n:Nat),0<n→(a*(n:Int)).sign=a.sign:=fun a n hn=>by rw[Int.sign_mul,Int.sign_natCast_of_ne_zero (by omega),Int.mul_one]
 have k1:=key x.num y.den hy;have k2:=key y.num x.den hx;generalize x.num*(y.den:Int)=a at *;generalize y.num*(x.den:Int)=b at *;rw[← k1,← k2];have ha:=Int.sign_trichotomy a
 have lt:a.sign<b.sign→a<b:=by
  intro h
  rcases Int.lt_trichotomy a 0 with h1|h1|h1<;>rcases Int.lt_trichotomy b 0 with h2|h2|h2 <;>
   first|omega|(rw[Int.sign_eq_neg_one_of_neg h1,Int.sign_eq_neg_one_of_neg h2]at h;omega)|(rw[Int.sign_eq_one_of_pos h1,Int.sign_eq_one_of_pos h2]at h;omega)|(rw[Int.sign_eq_one_of_pos h1,Int.sign_eq_neg_one_of_neg h2]at h;omega)|(subst h1;rw[Int.sign_zero,Int.sign_eq_neg_one_of_neg h2]at h;omega)|(subst h2;rw[Int.sign_zero,Int.sign_eq_one_of_pos h1]at h;omega)|(subst h1;subst h2;omega)
 have gt:b.sign<a.sign→b<a:=by
  intro h
  rcases Int.lt_trichotomy a 0 with h1|h1|h1<;>rcases Int.lt_trichotomy b 0 with h2|h2|h2 <;>
   first|omega|(rw[Int.sign_eq_neg_one_of_neg h1,Int.sign_eq_neg_one_of_neg h2]at h;omega)|(rw[Int.sign_eq_one_of_pos h1,Int.sign_eq_one_of_pos h2]at h;omega)|(rw[Int.sign_eq_neg_one_of_neg h1,Int.sign_eq_one_of_pos h2]at h;omega)|(subst h1;rw[Int.sign_zero,Int.sign_eq_one_of_pos h2]at h;omega)|(subst h2;rw[Int.sign_zero,Int.sign_eq_neg_one_of_neg h1]at h;omega)|(subst h1;subst h2;omega)
 constructor
 · intro h;rw[if_pos (lt h)]
 · intro h
   have:=gt h;rw[if_neg (by omega),if_pos this]
theorem z5n (x y:Rat)(k:Int)(hk:aP x y=k)(hx:LQ x)(hy:LQ y)(p1:Option Addr)(c1:Nat)(s1:Option Addr)(d1:Nat)(p2:Option Addr)(c2:Nat)(s2:Option Addr)(d2:Nat)(W:World)(r1:RN W (.slice p1 (ag x.num) c1) x.num.natAbs)(t1:RN W (.slice s1 (ai x.den) d1) x.den)(r2:RN W (.slice p2 (ag y.num) c2) y.num.natAbs)(t2:RN W (.slice s2 (ai y.den) d2) y.den) :
 CR 24 #[.agg #[.bool (av x.num),.slice p1 (ag x.num) c1,.slice s1 (ai x.den) d1],.agg #[.bool (av y.num),.slice p2 (ag y.num) c2,.slice s2 (ai y.den) d2]] W (.int .i64 k):=by
 obtain⟨a1,a2⟩:=hx;obtain⟨b1,b2⟩:=hy;have hS1:=fun p1 c1 s1 d1 W h1 h2=>zV x _ rfl p1 c1 s1 d1 W h1 h2;have hS2:=fun p1 c1 s1 d1 W h1 h2=>zV y _ rfl p1 c1 s1 d1 W h1 h2;obtain⟨hlt,hgt⟩:=ug x y;rcases Int.lt_trichotomy x.num.sign y.num.sign with h|h|h
 · rw[← hk,hlt h]
   exact z3z x.num y.num _ _ x.den y.den h p1 c1 s1 d1 p2 c2 s2 d2 W hS1 hS2 r1 t1 r2 t2
 · rw[← h]at hS2
   have l1:=q8 x.num (y.den:Int);have l2:=q8 y.num (x.den:Int);rw[z1e]at l1 l2;have l4:=qU x.num.natAbs y.den;have l5:=qU y.num.natAbs x.den;have z1:ag x.num=ai x.num.natAbs:=rfl;have z2:ag y.num=ai y.num.natAbs:=rfl
   refine z07 x.num y.num _ (x.num*(y.den:Int)) (y.num*(x.den:Int)) k x.den y.den (x.num.natAbs*y.den) (y.num.natAbs*x.den) p1 c1 s1 d1 p2 c2 s2 d2 W hS1 hS2
    (fun p1 c1 s2 d2 W h1 h2=>xG _ _ _ _ (by omega) (by omega) W h1 h2) (fun s2 d2 W h=>oG _ _ _ _ (z4n x.num y.den) (by omega) W h)
    (fun p1 c1 s2 d2 W h1 h2=>xG _ _ _ _ (by omega) (by omega) W h1 h2) (fun s2 d2 W h=>oG _ _ _ _ (z4n y.num x.den) (by omega) W h) (fun p1 c1 p2 c2 W h1 h2=>?_) r1 t1 r2 t2
   have hc:=zCmp _ _ (x.num*(y.den:Int)) (y.num*(x.den:Int)) (show ag _≤50000 by omega) (show ag _≤50000 by omega) W (Rz.mk h1) (Rz.mk h2);rw[show cmpZ (x.num*(y.den:Int)) (y.num*(x.den:Int))=k by rw[← hk,iU x y _ _ rfl rfl];rfl]at hc;exact hc
 · rw[← hk,hgt h]
   exact z3A x.num y.num _ _ x.den y.den h p1 c1 s1 d1 p2 c2 s2 d2 W hS1 hS2 r1 t1 r2 t2
theorem dF {f:FuncId}{args:Array Value}{w:World}{v:Value}(h:Calls Tryz.prog f args w fun e w'=>e=.returned v∧w=w'):Calls Tryz.prog f args w fun e w'=>e=.returned v∧Below w.heap.size w w':=by
 refine h.mono ?_;rintro e w' ⟨rfl,rfl⟩;exact⟨rfl,Below.refl _ _⟩
theorem vL {s:ByteArray}{k:Nat}(h:k<s.size):s[k]=s.data.toList[k]'(by rw[aF];exact h):=(fM s k h).symm
theorem sH (s:ByteArray)(hn:(47:UInt8)∉s.data.toList)(hs:s.size≤2000)(W:World) :
 CR 41 #[.string s] W (.tuple #[.string s,.string ⟨#[49]⟩,.bool false]) :=
 dF (z1s s (fun k h e=>hn (by rw[← e,vL h];exact List.getElem_mem _)) (by unfold maxLen;omega) W)
theorem oW (s:ByteArray)(x y:List UInt8)(hl:s.data.toList=x++47 :: y)(hn:(47:UInt8)∉x)(hs:s.size≤2000)(W:World) :
 CR 41 #[.string s] W (.tuple #[.string ⟨x.toArray⟩,.string ⟨y.toArray⟩,.bool true]):=by
 have hsz:s.size=x.length+(y.length+1):=by rw[← aF,hl];simp
 have hxs:(⟨x.toArray⟩:ByteArray).size=x.length:=by show x.toArray.size=_;simp
 refine zJ s ⟨x.toArray⟩ ⟨y.toArray⟩ (by omega) ?_ ?_ ?_ ?_ (by unfold maxLen;omega) W
 · intro k hk h2 e
   apply hn
   rw[← e,vL h2];simp only[hl];rw[List.getElem_append_left (by omega)];exact List.getElem_mem _
 · rw[vL (by omega)]
   simp only[hl,hxs];rw[List.getElem_append_right (Nat.le_refl _)];simp
 · apply ByteArray.ext;apply Array.ext'
   rw[fP,hl,hxs];simp
 · apply ByteArray.ext;apply Array.ext'
   rw[fP,hl,hxs,hsz];simp;exact List.take_of_length_le (by omega)
theorem z2V (q:Rat)(hq:SmQ 900 q)(hs:(Sq q).size≤2000)(W:World) :
 Calls Tryz.prog 18 #[.string (Sq q)] W fun e w'=>∃ p c s d,e=.returned (.tuple #[.agg #[.bool (av q.num),.slice p (ag q.num) c,.slice s (ai q.den) d],.bool true])∧RN w' (.slice p (ag q.num) c) q.num.natAbs∧RN w' (.slice s (ai q.den) d) q.den∧Below W.heap.size W w':=by
 have fn:FitZ q.num:=by unfold FitZ Fit;exact Sm.mono hq.1 (by decide)
 have z1:(Sz q.num).size≤901:=l8 hq.1 (by decide);have z2:(Sn q.den).size≤900:=gL hq.2 (by decide);have hR:=fun W=>z1z (z4p q.num fn W);by_cases hd:q.den=1
 · rw[jh hd]at hs ⊢
   rw[hd];refine z2p (Sz q.num) (Sz q.num) ⟨#[49]⟩ q.num 1 W (fun W=>sH _ (z1p 47 (by decide) (by decide) _) hs W) (fun W=>dF (uC q.num (by omega) W)) (fun W=>dF ?_) hR (fun W=>?_)
   · exact gD ⟨#[49]⟩ W (by decide)
   · exact nz (jE ⟨#[49]⟩ (by decide) (by decide) W)
 · have hn0:q.num≠0:=by
    intro e;have:=q.reduced;rw[e]at this;unfold Nat.Coprime at this
    rw[Int.natAbs_zero,Nat.gcd_zero_left]at this;exact hd this
   have hd1:1<q.den:=by have:=q.den_pos;omega
   have lz:ag q.num≤900:=iY hq.1 (by decide);have ln:ai q.den≤900:=iY hq.2 (by decide);have e0:Sn q.den=⟨(Lib.decDigits q.den).toArray⟩:=rfl;have e1:(⟨(Sz q.num).data.toList.toArray⟩:ByteArray)=Sz q.num:=by simp
   have hsp:=fun W=>oW (Sq q) _ _ (ib hd) (z1p 47 (by decide) (by decide) _) hs W;rw[e1,← e0]at hsp
   refine z0F (Sq q) (Sz q.num) (Sn q.den) q.num 1 q.num.sign q.den 1 1 (by decide) (fun e=>hn0 (Int.sign_eq_zero_iff_zero.1 e)) W hsp (fun W=>dF (uC q.num (by omega) W)) (fun W=>dF ?_) hR (fun W=>?_)
    (fun W=>lL 1 1 rfl (by decide) W) (fun s1 d1 s2 d2 W h1 h2=>?_) (fun p c W h=>uJ q.num _ rfl p c W h) (fun p1 c1 s2 d2 W h1 h2=>?_) (fun s1 d1 s2 d2 W h1 h2=>?_)
   · have h:=gD (Sn q.den) W (by unfold maxLen;omega)
     rwa [eu]at h
   · have h:=nz (jE (Sn q.den) (by rw[bS];exact jb _) (by omega) W)
     rwa [bT]at h
   · have h:=cCmp (.slice s1 (ai q.den) d1) (.slice s2 (ai 1) d2) q.den 1 (by omega) W h1 h2
     rwa [show cmpN q.den 1=1 by unfold cmpN;rw[if_neg (by omega),if_pos hd1]]at h
   · exact nY _ _ _ _ 1 q.reduced (Nat.le_trans lz (by decide)) (by omega) W h1 h2
   · have h:=cCmp (.slice s1 (ai 1) d1) (.slice s2 (ai 1) d2) 1 1 (by rw[mF];decide) W h1 h2
     rwa [show cmpN 1 1=0 by decide]at h
theorem z5o (q:Rat)(hq:SmQ 900 q)(hs:(Sq q).size≤1000)(W:World) :
 Calls Tryz.prog 18 #[.string (Sq q)] W fun e w'=>∃ p c s d,e=.returned (.tuple #[.agg #[.bool (av q.num),.slice p (ag q.num) c,.slice s (ai q.den) d],.bool true])∧RN w' (.slice p (ag q.num) c) q.num.natAbs∧RN w' (.slice s (ai q.den) d) q.den∧Below W.heap.size W w':=z2V q hq (by omega) W
theorem z1y (a:ByteArray)(hv:vldQ a.data.toList=false)(hs:a.size≤900)(W:World) :
 Calls Tryz.prog 18 #[.string a] W fun e w'=>∃ p c s d,e=.returned (.tuple #[.agg #[.bool (av (0:Rat).num),.slice p (ag (0:Rat).num) c,.slice s (ai (0:Rat).den) d],.bool false])∧RN w' (.slice p (ag (0:Rat).num) c) (0:Rat).num.natAbs∧RN w' (.slice s (ai (0:Rat).den) d) (0:Rat).den∧Below W.heap.size W w':=by
 have hI:=fun W=>z3q 0 0 0 rfl (by decide) rfl rfl W;rcases nT 47 a.data.toList with⟨h47,e⟩|⟨x,y,h47,el,e⟩
 · unfold vldQ at hv
   rw[e]at hv;simp only[Bool.false_eq_true,if_false]at hv;exact tO a a ⟨#[49]⟩ _ _ false W (fun W=>sH a h47 (by omega) W) (fun W=>dF (oK a hv (by omega) W)) hI
 · have hlen:x.length+(y.length+1)=a.size:=by rw[← aF,el];simp
   have hsp:=fun W=>oW a x y el h47 (by omega) W;have sx:(⟨x.toArray⟩:ByteArray).size≤1000:=by show x.toArray.size≤1000;simp;omega
   have sy:(⟨y.toArray⟩:ByteArray).size≤900:=by show y.toArray.size≤900;simp;omega
   unfold vldQ at hv
   rw[e]at hv;simp only[if_true]at hv
   cases hx:vldZ x with
   | false=>exact tO a ⟨x.toArray⟩ ⟨y.toArray⟩ _ _ true W hsp (fun W=>dF (oK ⟨x.toArray⟩ (by simpa using hx) sx W)) hI
   | true =>
     obtain⟨z,hz⟩:∃ z,z=zval x:=⟨_,rfl⟩;have ex:(⟨x.toArray⟩:ByteArray)=Sz z:=by rw[hz];have:=zA (a:=⟨x.toArray⟩) (by simpa using hx);simpa using this
     have sx2:(Sz z).size≤900:=by rw[← ex];show x.toArray.size≤900;simp;omega
     rw[ex]at hsp sx;have hVx:=fun W=>dF (uC z sx W)
     cases hy:vld y with
     | false =>
       refine z0G a (Sz z) ⟨y.toArray⟩ _ _ true W hsp hVx (fun W=>dF ?_) hI;have h:=gD ⟨y.toArray⟩ W (by unfold maxLen;omega);rwa [show vld (⟨y.toArray⟩:ByteArray).data.toList=false by simpa using hy]at h
     | true =>
       obtain⟨n,hn⟩:∃ n,n=aL y:=⟨_,rfl⟩;have ey:(⟨y.toArray⟩:ByteArray)=Sn n:=by rw[hn];have:=z5j (a:=⟨y.toArray⟩) (by simpa using hy);simpa using this
       have yl:y=Lib.decDigits n:=by
        have:=congrArg (fun b:ByteArray=>b.data.toList) ey;simpa [bS] using this
       rw[ey]at hsp sy
       have hVy:CQ 43 #[.string (Sn n)] (.bool true):=fun W=>dF (by
        have h:=gD (Sn n) W (by unfold maxLen;omega)
        rwa [eu]at h)
       have kz:Sm 900 z.natAbs:=ji sx2;have kn:Sm 900 n:=by have:=Sm.of (a:=Sn n) (eu n) sy;rwa [bT]at this
       have lz:ag z≤900:=iY kz (by decide);have ln:ai n≤900:=iY kn (by decide);have hR:=fun W=>z1z (z4p z (by unfold FitZ Fit;exact Sm.mono kz (by decide)) W)
       have hF:∀ W,CN 45 #[.string (Sn n)] W n:=fun W=>by
        have h:=nz (jE (Sn n) (by rw[bS];exact jb _) (by omega) W);rwa [bT]at h
       have hO:=fun W=>lL 1 1 rfl (by decide) W;have hC:=fun(s1:Option Addr) (d1:Nat) (s2:Option Addr) (d2:Nat) W h1 h2=>cCmp (.slice s1 (ai n) d1) (.slice s2 (ai 1) d2) n 1 (by omega) W h1 h2;have hS:=fun p c W h=>uJ z _ rfl p c W h;by_cases n1:n≤1
       · exact yK a (Sz z) (Sn n) z (cmpN n 1) _ n 1 _ (by unfold cmpN;split<;>first|(split<;>omega)|omega) W hsp hVx hVy hR hF hO hC hI
       · have hk:0<cmpN n 1:=by unfold cmpN;rw[if_neg (by omega),if_pos (by omega)];decide
         by_cases z0:z=0
         · subst z0
           exact z0E a (Sz 0) (Sn n) 0 (cmpN n 1) _ n 1 _ hk W hsp hVx hVy hR hF hO hC hS hI
         · have hsg:z.sign≠0:=fun e=>z0 (Int.sign_eq_zero_iff_zero.1 e)
           have hG:=fun(p1:Option Addr) (c1:Nat) (s2:Option Addr) (d2:Nat) W h1 h2=>nY (.slice p1 (ag z) c1) (.slice s2 (ai n) d2) z.natAbs n _ rfl (Nat.le_trans lz (by decide)) (by omega) W h1 h2;have lg:ai (Nat.gcd z.natAbs n)≤900:=Nat.le_trans (kH (Nat.gcd_le_right _ (by omega))) ln;by_cases g1:Nat.gcd z.natAbs n=1
           · exfalso
             have:vldP x y=true:=by
              unfold vldP
              rw[hx,yl,qj,mq,← hz]
              have e1:(Lib.decDigits n==[49])=false:=by
                rw[beq_eq_false_iff_ne];intro e
                have e2:Sn n=Sn 1:=by
                 apply ByteArray.ext;apply Array.ext'
                 rw[bS,e];decide +kernel
                have:=z4w e2;omega
              rw[e1];simp[g1]
              omega
             rw[this]at hv;cases hv
           · refine vv a (Sz z) (Sn n) z (cmpN n 1) (cmpN (Nat.gcd z.natAbs n) 1) _ _ n 1 (Nat.gcd z.natAbs n) _ hk hsg ?_ W hsp hVx hVy hR hF hO hC hS hG (fun s1 d1 s2 d2 W h1 h2=>cCmp _ _ _ _ (by omega) W h1 h2) hI
             unfold cmpN
             split
             · decide
             · split
               · decide
               · omega
