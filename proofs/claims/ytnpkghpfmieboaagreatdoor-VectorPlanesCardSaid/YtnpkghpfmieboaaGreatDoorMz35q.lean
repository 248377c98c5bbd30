/- texts -/
import Derived.Test.YtnpkghpfmieboaaGreatDoorMz34q
import Derived.Test.YtnpkghpfmieboaaGreatDoorMz33q
namespace Go.Proofs.YtnpkghpfmieboaaGreatDoor
open Go.RowKit Go.Gb
def LQ (q:Rat):Prop:=ae q.num≤10000∧ag q.den≤10000
theorem z_abs (z:Int):z=if ai z then -(z.natAbs:Int) else (z.natAbs:Int):=by
 unfold ai
 by_cases h:z<0
 · rw[decide_eq_true h,if_pos rfl];omega
 · rw[decide_eq_false h,if_neg (by simp)];omega
theorem z5o (z:Int)(g:Nat)(hg:g∣z.natAbs):z / (g:Int)=if ai z then -((z.natAbs / g:Nat):Int) else ((z.natAbs / g:Nat):Int):=by
 have hd:(g:Int)∣(z.natAbs:Int):=Int.natCast_dvd_natCast.2 hg;unfold ai
 by_cases h:z<0
 · rw[decide_eq_true h,if_pos rfl]
   have e:z = -(z.natAbs:Int):=by omega
   conv=>lhs;rw[e]
   rw[Int.neg_ediv_of_dvd hd,Int.natCast_ediv]
 · rw[decide_eq_false h,if_neg (by simp),Int.natCast_ediv]
   congr 1
   omega
theorem z4z (z:Int)(n:Nat):z*(n:Int)=if ai z then -((z.natAbs*n:Nat):Int) else ((z.natAbs*n:Nat):Int):=by
 rw[Int.natCast_mul];unfold ai
 by_cases h:z<0
 · rw[decide_eq_true h,if_pos rfl,← Int.neg_mul];congr 1;omega
 · rw[decide_eq_false h,if_neg (by simp)];congr 1;omega
theorem z2V (x y:Rat)(h:x.den=y.den):x+y=mkRat (x.num+y.num) x.den:=by
 rw[jJ,← h,← Int.add_mul,Rat.mkRat_mul_right x.den_nz]
theorem qJ (a b:Int):ae (a*b)≤ae a+ae b:=by
 unfold ae ag;rw[Int.natAbs_mul];exact iD _ _
theorem nI (a b:Nat):ag (a*b)≤ag a+ag b:=iD a b
theorem xu {a b:Int}{K:Nat}(ha:ae a≤K)(hb:ae b≤K):ae (a+b)≤K+1 :=
 Nat.le_trans (jw (Int.natAbs_add_le a b)) (iE (a:=a.natAbs) (b:=b.natAbs) ha hb)
theorem z1v (n:Nat):ae (n:Int)=ag n:=by unfold ae;rw[Int.natAbs_natCast]
theorem vJ (z:Int)(dn:Nat)(q:Rat)(hq:mkRat z dn=q)(hd:dn≠0)(hz:ae z≤50000)(hl:ag dn≤50000)(p1:Option Addr)(c1:Nat)(s2:Option Addr)(d2:Nat)(W:World)(r1:RN W (.slice p1 (ae z) c1) z.natAbs)(t2:RN W (.slice s2 (ag dn) d2) dn) :
 Calls Tryz.prog 82 #[.agg #[.bool (ai z),.slice p1 (ae z) c1],.slice s2 (ag dn) d2] W fun e w'=>∃ p c s d,e=.returned (.agg #[.bool (ai q.num),.slice p (ae q.num) c,.slice s (ag q.den) d])∧RN w' (.slice p (ae q.num) c) q.num.natAbs∧RN w' (.slice s (ag q.den) d) q.den∧Below W.heap.size W w':=by
 obtain⟨hn,he⟩:=nJ z dn hd;rw[hq]at hn he;obtain⟨g,hg⟩:∃ g,g=Nat.gcd z.natAbs dn:=⟨_,rfl⟩;rw[← hg]at hn he;by_cases g1:g=1
 · rw[g1]at hn he
   have e1:q.num=z:=by rw[hn];simp
   have e2:q.den=dn:=by rw[he];simp
   rw[e1,e2];exact zh z dn hz hl p1 c1 s2 d2 (by rw[← hg,g1]) W r1 t2
 · have g0:g≠0:=by rw[hg];exact Nat.ne_of_gt (Nat.gcd_pos_of_pos_right _ (by omega))
   have hy:=z5o z g (by rw[hg];exact Nat.gcd_dvd_left _ _);rw[hn,he];by_cases gl:ag g=1
   · exact vQ z dn hz hl p1 c1 s2 d2 g _ _ _ _ _ hg.symm g0 g1 gl rfl rfl rfl rfl hy W r1 t2
   · exact vR z dn hz hl p1 c1 s2 d2 g _ _ _ _ _ hg.symm g0 gl rfl rfl rfl rfl hy W r1 t2
theorem z5z (k:Int)(q:Rat)(n:Nat)(hk:(n:Int)=k)(h1:n≤1000000)(hn:q.num=k)(he:q.den=1)  (W:World)  :
 Calls Tryz.prog 73 #[.int .i64 k] W fun e w'=>∃ p c s d,e=.returned (.agg #[.bool (ai q.num),.slice p (ae q.num) c,.slice s (ag q.den) d])∧RN w' (.slice p (ae q.num) c) q.num.natAbs∧RN w' (.slice s (ag q.den) d) q.den∧Below W.heap.size W w':=by
 refine z2h k q.num q.den W (fun W=>?_) (fun W=>?_)
 · rw[hn];exact z4J k n hk (by omega) (by omega) W
 · rw[he];exact sN 1 1 rfl (by decide) W
theorem z5x (x q:Rat)(hq : -x=q)(hx:LQ x)(p1:Option Addr)(c1:Nat)(s1:Option Addr)(d1:Nat)(W:World)(r1:RN W (.slice p1 (ae x.num) c1) x.num.natAbs)(t1:RN W (.slice s1 (ag x.den) d1) x.den) :
 Calls Tryz.prog 79 #[.agg #[.bool (ai x.num),.slice p1 (ae x.num) c1,.slice s1 (ag x.den) d1]] W fun e w'=>∃ p c s d,e=.returned (.agg #[.bool (ai q.num),.slice p (ae q.num) c,.slice s (ag q.den) d])∧RN w' (.slice p (ae q.num) c) q.num.natAbs∧RN w' (.slice s (ag q.den) d) q.den∧Below W.heap.size W w':=by
 subst hq;exact z2e x.num (-x).num x.den p1 c1 s1 d1 W (fun p c W h=>z0d x.num _ rfl (Nat.le_trans hx.1 (by decide)) p c W h) r1 t1
theorem z5y (x q:Rat)(hq:x⁻¹=q)(h0:x≠0)(hx:LQ x)(p1:Option Addr)(c1:Nat)(s1:Option Addr)(d1:Nat)(W:World)(r1:RN W (.slice p1 (ae x.num) c1) x.num.natAbs)(t1:RN W (.slice s1 (ag x.den) d1) x.den) :
 Calls Tryz.prog 87 #[.agg #[.bool (ai x.num),.slice p1 (ae x.num) c1,.slice s1 (ag x.den) d1]] W fun e w'=>∃ p c s d,e=.returned (.agg #[.bool (ai q.num),.slice p (ae q.num) c,.slice s (ag q.den) d])∧RN w' (.slice p (ae q.num) c) q.num.natAbs∧RN w' (.slice s (ag q.den) d) q.den∧Below W.heap.size W w':=by
 have hm:q.num=(if ai x.num then -(x.den:Int) else (x.den:Int))∧q.den=x.num.natAbs:=by
  rw[← hq];have hn0:x.num≠0:=fun e=>h0 (Rat.num_eq_zero.1 e);unfold ai
  rcases Int.lt_trichotomy x.num 0 with h|h|h
  · obtain⟨e1,e2⟩:=l7 h
    rw[decide_eq_true h,if_pos rfl];exact⟨e1,by omega⟩
  · exact absurd h hn0
  · obtain⟨e1,e2⟩:=oD h
    rw[decide_eq_false (by omega),if_neg (by simp)];exact⟨e1,by omega⟩
 obtain⟨e1,e2⟩:=hm;rw[e2];exact z2g x.num q.num x.den p1 c1 s1 d1 W (fun s d W h=>pU (ai x.num) _ x.den q.num e1 (Nat.le_trans hx.2 (by decide)) W h) r1 t1
theorem z4K (x:Rat)(s:Int)(hs:x.num.sign=s)(p1:Option Addr)(c1:Nat)(s1:Option Addr)(d1:Nat)(W:World)(r1:RN W (.slice p1 (ae x.num) c1) x.num.natAbs)(t1:RN W (.slice s1 (ag x.den) d1) x.den) :
 CR 26 #[.agg #[.bool (ai x.num),.slice p1 (ae x.num) c1,.slice s1 (ag x.den) d1]] W (.int .i64 s):=by
 exact z0m x.num s x.den p1 c1 s1 d1 W (fun p c W h=>vI x.num s hs p c W h) r1 t1
theorem z4L (x y q:Rat)(hq:x*y=q)(hx:LQ x)(hy:LQ y)(p1:Option Addr)(c1:Nat)(s1:Option Addr)(d1:Nat)(p2:Option Addr)(c2:Nat)(s2:Option Addr)(d2:Nat)(W:World)(r1:RN W (.slice p1 (ae x.num) c1) x.num.natAbs)(t1:RN W (.slice s1 (ag x.den) d1) x.den)(r2:RN W (.slice p2 (ae y.num) c2) y.num.natAbs)(t2:RN W (.slice s2 (ag y.den) d2) y.den) :
 Calls Tryz.prog 58 #[.agg #[.bool (ai x.num),.slice p1 (ae x.num) c1,.slice s1 (ag x.den) d1],.agg #[.bool (ai y.num),.slice p2 (ae y.num) c2,.slice s2 (ag y.den) d2]] W fun e w'=>∃ p c s d,e=.returned (.agg #[.bool (ai q.num),.slice p (ae q.num) c,.slice s (ag q.den) d])∧RN w' (.slice p (ae q.num) c) q.num.natAbs∧RN w' (.slice s (ag q.den) d) q.den∧Below W.heap.size W w':=by
 obtain⟨a1,a2⟩:=hx;obtain⟨b1,b2⟩:=hy;have l1:=qJ x.num y.num;have l2:=nI x.den y.den
 exact z2f x.num y.num (x.num*y.num) q.num x.den y.den (x.den*y.den) q.den p1 c1 s1 d1 p2 c2 s2 d2 W (fun p1 c1 p2 c2 W h1 h2=>z4I _ _ _ rfl (by omega) (by omega) p1 c1 p2 c2 W h1 h2)
  (fun s1 d1 s2 d2 W h1 h2=>uM _ _ _ _ (by omega) (by omega) W h1 h2)
  (fun p1 c1 s2 d2 W h1 h2=>vJ _ _ q (by rw[← hq,jA]) (Nat.mul_ne_zero x.den_nz y.den_nz) (by omega) (by omega) p1 c1 s2 d2 W h1 h2) r1 t1 r2 t2
theorem z4M (x y q:Rat)(hq:x+y=q)(hx:LQ x)(hy:LQ y)(p1:Option Addr)(c1:Nat)(s1:Option Addr)(d1:Nat)(p2:Option Addr)(c2:Nat)(s2:Option Addr)(d2:Nat)(W:World)(r1:RN W (.slice p1 (ae x.num) c1) x.num.natAbs)(t1:RN W (.slice s1 (ag x.den) d1) x.den)(r2:RN W (.slice p2 (ae y.num) c2) y.num.natAbs)(t2:RN W (.slice s2 (ag y.den) d2) y.den) :
 Calls Tryz.prog 61 #[.agg #[.bool (ai x.num),.slice p1 (ae x.num) c1,.slice s1 (ag x.den) d1],.agg #[.bool (ai y.num),.slice p2 (ae y.num) c2,.slice s2 (ag y.den) d2]] W fun e w'=>∃ p c s d,e=.returned (.agg #[.bool (ai q.num),.slice p (ae q.num) c,.slice s (ag q.den) d])∧RN w' (.slice p (ae q.num) c) q.num.natAbs∧RN w' (.slice s (ag q.den) d) q.den∧Below W.heap.size W w':=by
 obtain⟨a1,a2⟩:=hx;obtain⟨b1,b2⟩:=hy;by_cases he:x.den=y.den
 · have l1:=xu a1 b1
   exact z0n x.num y.num (x.num+y.num) q.num x.den y.den q.den p1 c1 s1 d1 p2 c2 s2 d2 W (fun s1 d1 s2 d2 W h1 h2=>by
        have h:=cCmp _ _ x.den y.den (by omega) W h1 h2
        rwa [show cmpN x.den y.den=0 by rw[he];unfold cmpN;simp]at h)
    (fun p1 c1 p2 c2 W h1 h2=>z4N _ _ _ rfl (by omega) (by omega) p1 c1 p2 c2 W h1 h2)
    (fun p1 c1 s2 d2 W h1 h2=>vJ _ _ q (by rw[← hq,z2V x y he]) x.den_nz (by omega) (by omega) p1 c1 s2 d2 W h1 h2) r1 t1 r2 t2
 · have l1:=qJ x.num (y.den:Int)
   have l2:=qJ y.num (x.den:Int);have l3:=nI x.den y.den;have l4:=nI x.num.natAbs y.den;have l5:=nI y.num.natAbs x.den;rw[z1v]at l1 l2;have l6:=xu (a:=x.num*(y.den:Int)) (b:=y.num*(x.den:Int)) (K:=20000) (by omega) (by omega);have z1:ae x.num=ag x.num.natAbs:=rfl;have z2:ae y.num=ag y.num.natAbs:=rfl
   exact yX x.num y.num (x.num*(y.den:Int)) (y.num*(x.den:Int)) (x.num*(y.den:Int)+y.num*(x.den:Int)) q.num (cmpN x.den y.den) x.den y.den (x.den*y.den) q.den (x.num.natAbs*y.den) (y.num.natAbs*x.den) (fun e=>he (by unfold cmpN at e;split at e<;>first|(split at e<;>first|omega|simp at e)|simp at e))
    p1 c1 s1 d1 p2 c2 s2 d2 W (fun s1 d1 s2 d2 W h1 h2=>cCmp _ _ x.den y.den (by omega) W h1 h2)
    (fun p1 c1 s2 d2 W h1 h2=>uM _ _ _ _ (by omega) (by omega) W h1 h2) (fun s2 d2 W h=>pU _ _ _ _ (z4z x.num y.den) (by omega) W h)
    (fun p1 c1 s2 d2 W h1 h2=>uM _ _ _ _ (by omega) (by omega) W h1 h2) (fun s2 d2 W h=>pU _ _ _ _ (z4z y.num x.den) (by omega) W h)
    (fun p1 c1 p2 c2 W h1 h2=>z4N _ _ _ rfl (by omega) (by omega) p1 c1 p2 c2 W h1 h2)
    (fun s1 d1 s2 d2 W h1 h2=>uM _ _ _ _ (by omega) (by omega) W h1 h2)
    (fun p1 c1 s2 d2 W h1 h2=>vJ _ _ q (by rw[← hq,jJ]) (Nat.mul_ne_zero x.den_nz y.den_nz) (by omega) (by omega) p1 c1 s2 d2 W h1 h2) r1 t1 r2 t2
theorem z5w (x y q:Rat)(hq:x-y=q)(hx:LQ x)(hy:LQ y)(p1:Option Addr)(c1:Nat)(s1:Option Addr)(d1:Nat)(p2:Option Addr)(c2:Nat)(s2:Option Addr)(d2:Nat)(W:World)(r1:RN W (.slice p1 (ae x.num) c1) x.num.natAbs)(t1:RN W (.slice s1 (ag x.den) d1) x.den)(r2:RN W (.slice p2 (ae y.num) c2) y.num.natAbs)(t2:RN W (.slice s2 (ag y.den) d2) y.den) :
 Calls Tryz.prog 53 #[.agg #[.bool (ai x.num),.slice p1 (ae x.num) c1,.slice s1 (ag x.den) d1],.agg #[.bool (ai y.num),.slice p2 (ae y.num) c2,.slice s2 (ag y.den) d2]] W fun e w'=>∃ p c s d,e=.returned (.agg #[.bool (ai q.num),.slice p (ae q.num) c,.slice s (ag q.den) d])∧RN w' (.slice p (ae q.num) c) q.num.natAbs∧RN w' (.slice s (ag q.den) d) q.den∧Below W.heap.size W w':=by
 have hny:LQ (-y):=⟨by have:=hy.1;unfold ae at *;rwa [show(-y).num = -y.num from rfl,Int.natAbs_neg],hy.2⟩
 exact z2d x.num y.num (-y).num q.num x.den y.den (-y).den q.den p1 c1 s1 d1 p2 c2 s2 d2 W (fun p1 c1 s1 d1 W h1 h2=>z5x y _ rfl hy p1 c1 s1 d1 W h1 h2)
  (fun p1 c1 s1 d1 p2 c2 s2 d2 W h1 h2 h3 h4=>z4M x (-y) q (by rw[← hq,Rat.sub_eq_add_neg]) hx hny p1 c1 s1 d1 p2 c2 s2 d2 W h1 h2 h3 h4) r1 t1 r2 t2
theorem z5A (x y q:Rat)(hq:x / y=q)(h0:y≠0)(hx:LQ x)(hy:LQ y)(p1:Option Addr)(c1:Nat)(s1:Option Addr)(d1:Nat)(p2:Option Addr)(c2:Nat)(s2:Option Addr)(d2:Nat)(W:World)(r1:RN W (.slice p1 (ae x.num) c1) x.num.natAbs)(t1:RN W (.slice s1 (ag x.den) d1) x.den)(r2:RN W (.slice p2 (ae y.num) c2) y.num.natAbs)(t2:RN W (.slice s2 (ag y.den) d2) y.den) :
 Calls Tryz.prog 66 #[.agg #[.bool (ai x.num),.slice p1 (ae x.num) c1,.slice s1 (ag x.den) d1],.agg #[.bool (ai y.num),.slice p2 (ae y.num) c2,.slice s2 (ag y.den) d2]] W fun e w'=>∃ p c s d,e=.returned (.agg #[.bool (ai q.num),.slice p (ae q.num) c,.slice s (ag q.den) d])∧RN w' (.slice p (ae q.num) c) q.num.natAbs∧RN w' (.slice s (ag q.den) d) q.den∧Below W.heap.size W w':=by
 have hny:LQ y⁻¹:=by
  have hn0:y.num≠0:=fun e=>h0 (Rat.num_eq_zero.1 e);rcases Int.lt_trichotomy y.num 0 with h|h|h
  · obtain⟨e1,e2⟩:=l7 h
    exact⟨by unfold ae;rw[e1,Int.natAbs_neg,Int.natAbs_natCast];exact hy.2,by rw[show y⁻¹.den=y.num.natAbs by omega];exact hy.1⟩
  · exact absurd h hn0
  · obtain⟨e1,e2⟩:=oD h
    exact⟨by unfold ae;rw[e1,Int.natAbs_natCast];exact hy.2,by rw[show y⁻¹.den=y.num.natAbs by omega];exact hy.1⟩
 exact z2i x.num y.num y⁻¹.num q.num x.den y.den y⁻¹.den q.den p1 c1 s1 d1 p2 c2 s2 d2 W (fun p1 c1 s1 d1 W h1 h2=>z5y y _ rfl h0 hy p1 c1 s1 d1 W h1 h2)
  (fun p1 c1 s1 d1 p2 c2 s2 d2 W h1 h2 h3 h4=>z4L x y⁻¹ q (by rw[← hq,Rat.div_def]) hx hny p1 c1 s1 d1 p2 c2 s2 d2 W h1 h2 h3 h4) r1 t1 r2 t2
theorem z1e (x y:Rat):(x.num.sign<y.num.sign→cmpQ x y = -1)∧(y.num.sign<x.num.sign→cmpQ x y=1):=by
 have hx:=x.den_pos;have hy:=y.den_pos;rw[jT x y _ _ rfl rfl];have key:∀ (a:Int) (n:Nat),0<n→(a*(n:Int)).sign=a.sign:=fun a n hn=>by rw[Int.sign_mul,Int.sign_natCast_of_ne_zero (by omega),Int.mul_one]
 have k1:=key x.num y.den hy;have k2:=key y.num x.den hx;generalize x.num*(y.den:Int)=a at *;generalize y.num*(x.den:Int)=b at *;rw[← k1,← k2];have ha:=Int.sign_trichotomy a
 have lt:a.sign<b.sign→a<b:=by
  intro h
  rcases Int.lt_trichotomy a 0 with h1|h1|h1<;>rcases Int.lt_trichotomy b 0 with h2|h2|h2 <;>
   first|omega|(rw[Int.sign_eq_neg_one_of_neg h1,Int.sign_eq_neg_one_of_neg h2]at h;omega)|(rw[Int.sign_eq_one_of_pos h1,Int.sign_eq_one_of_pos h2]at h;omega)|(rw[Int.sign_eq_one_of_pos h1,Int.sign_eq_neg_one_of_neg h2]at h;omega)|(subst h1;rw[Int.sign_zero,Int.sign_eq_neg_one_of_neg h2]at h;omega)|(subst h2;rw[Int.sign_zero,Int.sign_eq_one_of_pos h1]at h;omega)|(subst h1;subst h2;omega)
 have gt:b.sign<a.sign→b<a:=by
  intro h
  rcases Int.lt_trichotomy a 0 with h1|h1|h1<;>rcases Int.lt_trichotomy b 0 with h2|h2|h2 <;>
   first|omega|(rw[Int.sign_eq_neg_one_of_neg h1,Int.sign_eq_neg_one_of_neg h2]at h;omega)|(rw[Int.sign_eq_one_of_pos h1,Int.sign_eq_one_of_pos h2]at h;omega)|(rw[Int.sign_eq_neg_one_of_neg h1,Int.sign_eq_one_of_pos h2]at h;omega)|(subst h1;rw[Int.sign_zero,Int.sign_eq_one_of_pos h2]at h;omega)|(subst h2;rw[Int.sign_zero,Int.sign_eq_neg_one_of_neg h1]at h;omega)|(subst h1;subst h2;omega)
 constructor
 · intro h;rw[if_pos (lt h)]
 · intro h
   have:=gt h;rw[if_neg (by omega),if_pos this]
theorem sQTo (q:Rat)(s:ByteArray)(hs:Sq q=s)(hq:SmQ 9000 q)(p1:Option Addr)(c1:Nat)(s1:Option Addr)(d1:Nat)(W:World)(r1:RN W (.slice p1 (ae q.num) c1) q.num.natAbs)(t1:RN W (.slice s1 (ag q.den) d1) q.den) :
 CR 40 #[.agg #[.bool (ai q.num),.slice p1 (ae q.num) c1,.slice s1 (ag q.den) d1]] W (.string s):=by
 have l1:ae q.num≤9000:=gU hq.1 (by decide);have l2:ag q.den≤9000:=gU hq.2 (by decide);have z1:(Sn q.num.natAbs).size≤9000:=iH hq.1 (by decide);have z2:(Sn q.den).size≤9000:=iH hq.2 (by decide);have z3:(Sz q.num).size≤9001:=jZ hq.1 (by decide);have h1:=fun p c W h=>sTo q.num _ rfl (Nat.le_trans l1 (by decide)) (by omega) p c W h;have h2:=fun(s:Option Addr) (d:Nat) W h=>z1k (.slice s (ag q.den) d) q.den (Nat.le_trans l2 (by decide)) W h;subst hs;by_cases hd:q.den=1
 · unfold Sq
   rw[if_pos hd]
   exact z3M q.num q.den (Sz q.num) p1 c1 s1 d1 W h1 (fun s d W h=>by
    have:=h2 s d W h
    rwa [hd,show Sn 1=⟨#[49]⟩by decide +kernel,← hd]at this) r1 t1
 · unfold Sq
   rw[if_neg hd];refine z2c q.num q.den (Sz q.num) (Sn q.den) _ ?_ ?_ (by omega) (by omega) p1 c1 s1 d1 W h1 h2 r1 t1
   · rw[beq_eq_false_iff_ne]
     intro e;apply hd
     have e2:Sn q.den=Sn 1:=by
       apply ByteArray.ext;apply Array.ext'
       rw[toList_data]at e;rw[e];decide +kernel
     exact z3j e2
   · apply ByteArray.ext;apply Array.ext'
     simp[Sn]
theorem dJ {f:FuncId}{args:Array Value}{w:World}{v:Value}(h:Calls Tryz.prog f args w fun e w'=>e=.returned v∧w=w'):Calls Tryz.prog f args w fun e w'=>e=.returned v∧Below w.heap.size w w':=by
 refine h.mono ?_;rintro e w' ⟨rfl,rfl⟩;exact⟨rfl,Below.refl _ _⟩
theorem wP {s:ByteArray}{k:Nat}(h:k<s.size):s[k]=s.data.toList[k]'(by rw[aG];exact h):=(fP s k h).symm
theorem tZ (s:ByteArray)(hn:(47:UInt8)∉s.data.toList)(hs:s.size≤2000)(W:World) :
 CR 70 #[.string s] W (.tuple #[.string s,.string ⟨#[49]⟩,.bool false]) :=
 dJ (z1U s (fun k h e=>hn (by rw[← e,wP h];exact List.getElem_mem _)) (by unfold maxLen;omega) W)
theorem ql (s:ByteArray)(x y:List UInt8)(hl:s.data.toList=x++47 :: y)(hn:(47:UInt8)∉x)(hs:s.size≤2000)(W:World) :
 CR 70 #[.string s] W (.tuple #[.string ⟨x.toArray⟩,.string ⟨y.toArray⟩,.bool true]):=by
 have hsz:s.size=x.length+(y.length+1):=by rw[← aG,hl];simp
 have hxs:(⟨x.toArray⟩:ByteArray).size=x.length:=by show x.toArray.size=_;simp
 refine z03 s ⟨x.toArray⟩ ⟨y.toArray⟩ (by omega) ?_ ?_ ?_ ?_ (by unfold maxLen;omega) W
 · intro k hk h2 e
   apply hn
   rw[← e,wP h2];simp only[hl];rw[List.getElem_append_left (by omega)];exact List.getElem_mem _
 · rw[wP (by omega)]
   simp only[hl,hxs];rw[List.getElem_append_right (Nat.le_refl _)];simp
 · apply ByteArray.ext;apply Array.ext'
   rw[gp,hl,hxs];simp
 · apply ByteArray.ext;apply Array.ext'
   rw[gp,hl,hxs,hsz];simp;exact List.take_of_length_le (by omega)
theorem z3m (q:Rat)(hq:SmQ 900 q)(hs:(Sq q).size≤2000)(W:World) :
 Calls Tryz.prog 51 #[.string (Sq q)] W fun e w'=>∃ p c s d,e=.returned (.tuple #[.agg #[.bool (ai q.num),.slice p (ae q.num) c,.slice s (ag q.den) d],.bool true])∧RN w' (.slice p (ae q.num) c) q.num.natAbs∧RN w' (.slice s (ag q.den) d) q.den∧Below W.heap.size W w':=by
 have fn:FitZ q.num:=by unfold FitZ Fit;exact Sm.mono hq.1 (by decide)
 have z1:(Sz q.num).size≤901:=jZ hq.1 (by decide);have z2:(Sn q.den).size≤900:=iH hq.2 (by decide);have hR:=fun W=>yT (z4B q.num fn W);by_cases hd:q.den=1
 · rw[ji hd]at hs ⊢
   rw[hd];refine z2u (Sz q.num) (Sz q.num) ⟨#[49]⟩ q.num 1 W (fun W=>tZ _ (z1N 47 (by decide) (by decide) _) hs W) (fun W=>dJ (vg q.num (by omega) W)) (fun W=>dJ ?_) hR (fun W=>?_)
   · exact gL ⟨#[49]⟩ W (by decide)
   · exact oh (jL ⟨#[49]⟩ (by decide) (by decide) W)
 · have hn0:q.num≠0:=by
    intro e;have:=q.reduced;rw[e]at this;unfold Nat.Coprime at this
    rw[Int.natAbs_zero,Nat.gcd_zero_left]at this;exact hd this
   have hd1:1<q.den:=by have:=q.den_pos;omega
   have lz:ae q.num≤900:=gU hq.1 (by decide);have ln:ag q.den≤900:=gU hq.2 (by decide);have e0:Sn q.den=⟨(Lib.decDigits q.den).toArray⟩:=rfl;have e1:(⟨(Sz q.num).data.toList.toArray⟩:ByteArray)=Sz q.num:=by simp
   have hsp:=fun W=>ql (Sq q) _ _ (ik hd) (z1N 47 (by decide) (by decide) _) hs W;rw[e1,← e0]at hsp
   refine z0K (Sq q) (Sz q.num) (Sn q.den) q.num 1 q.num.sign q.den 1 1 (by decide) (fun e=>hn0 (Int.sign_eq_zero_iff_zero.1 e)) W hsp (fun W=>dJ (vg q.num (by omega) W)) (fun W=>dJ ?_) hR (fun W=>?_)
    (fun W=>sN 1 1 rfl (by decide) W) (fun s1 d1 s2 d2 W h1 h2=>?_) (fun p c W h=>vI q.num _ rfl p c W h) (fun p1 c1 s2 d2 W h1 h2=>?_) (fun s1 d1 s2 d2 W h1 h2=>?_)
   · have h:=gL (Sn q.den) W (by unfold maxLen;omega)
     rwa [eQ]at h
   · have h:=oh (jL (Sn q.den) (by rw[dh];exact jg _) (by omega) W)
     rwa [cB]at h
   · have h:=cCmp (.slice s1 (ag q.den) d1) (.slice s2 (ag 1) d2) q.den 1 (by omega) W h1 h2
     rwa [show cmpN q.den 1=1 by unfold cmpN;rw[if_neg (by omega),if_pos hd1]]at h
   · exact oW _ _ _ _ 1 q.reduced (Nat.le_trans lz (by decide)) (by omega) W h1 h2
   · have h:=cCmp (.slice s1 (ag 1) d1) (.slice s2 (ag 1) d2) 1 1 (by rw[rH];decide) W h1 h2
     rwa [show cmpN 1 1=0 by decide]at h
theorem z5B (q:Rat)(hq:SmQ 900 q)(hs:(Sq q).size≤1000)(W:World) :
 Calls Tryz.prog 51 #[.string (Sq q)] W fun e w'=>∃ p c s d,e=.returned (.tuple #[.agg #[.bool (ai q.num),.slice p (ae q.num) c,.slice s (ag q.den) d],.bool true])∧RN w' (.slice p (ae q.num) c) q.num.natAbs∧RN w' (.slice s (ag q.den) d) q.den∧Below W.heap.size W w':=z3m q hq (by omega) W
theorem z1W (a:ByteArray)(hv:vldQ a.data.toList=false)(hs:a.size≤900)(W:World) :
 Calls Tryz.prog 51 #[.string a] W fun e w'=>∃ p c s d,e=.returned (.tuple #[.agg #[.bool (ai (0:Rat).num),.slice p (ae (0:Rat).num) c,.slice s (ag (0:Rat).den) d],.bool false])∧RN w' (.slice p (ae (0:Rat).num) c) (0:Rat).num.natAbs∧RN w' (.slice s (ag (0:Rat).den) d) (0:Rat).den∧Below W.heap.size W w':=by
 have hI:=fun W=>z5z 0 0 0 rfl (by decide) rfl rfl W;rcases oO 47 a.data.toList with⟨h47,e⟩|⟨x,y,h47,el,e⟩
 · unfold vldQ at hv
   rw[e]at hv;simp only[Bool.false_eq_true,if_false]at hv;exact uz a a ⟨#[49]⟩ _ _ false W (fun W=>tZ a h47 (by omega) W) (fun W=>dJ (pY a hv (by omega) W)) hI
 · have hlen:x.length+(y.length+1)=a.size:=by rw[← aG,el];simp
   have hsp:=fun W=>ql a x y el h47 (by omega) W;have sx:(⟨x.toArray⟩:ByteArray).size≤1000:=by show x.toArray.size≤1000;simp;omega
   have sy:(⟨y.toArray⟩:ByteArray).size≤900:=by show y.toArray.size≤900;simp;omega
   unfold vldQ at hv
   rw[e]at hv;simp only[if_true]at hv
   cases hx:vldZ x with
   | false=>exact uz a ⟨x.toArray⟩ ⟨y.toArray⟩ _ _ true W hsp (fun W=>dJ (pY ⟨x.toArray⟩ (by simpa using hx) sx W)) hI
   | true =>
     obtain⟨z,hz⟩:∃ z,z=zval x:=⟨_,rfl⟩;have ex:(⟨x.toArray⟩:ByteArray)=Sz z:=by rw[hz];have:=zY (a:=⟨x.toArray⟩) (by simpa using hx);simpa using this
     have sx2:(Sz z).size≤900:=by rw[← ex];show x.toArray.size≤900;simp;omega
     rw[ex]at hsp sx;have hVx:=fun W=>dJ (vg z sx W)
     cases hy:vld y with
     | false =>
       refine z0L a (Sz z) ⟨y.toArray⟩ _ _ true W hsp hVx (fun W=>dJ ?_) hI;have h:=gL ⟨y.toArray⟩ W (by unfold maxLen;omega);rwa [show vld (⟨y.toArray⟩:ByteArray).data.toList=false by simpa using hy]at h
     | true =>
       obtain⟨n,hn⟩:∃ n,n=aJ y:=⟨_,rfl⟩;have ey:(⟨y.toArray⟩:ByteArray)=Sn n:=by rw[hn];have:=z5v (a:=⟨y.toArray⟩) (by simpa using hy);simpa using this
       have yl:y=Lib.decDigits n:=by
        have:=congrArg (fun b:ByteArray=>b.data.toList) ey;simpa [dh] using this
       rw[ey]at hsp sy
       have hVy:CQ 72 #[.string (Sn n)] (.bool true):=fun W=>dJ (by
        have h:=gL (Sn n) W (by unfold maxLen;omega)
        rwa [eQ]at h)
       have kz:Sm 900 z.natAbs:=jq sx2;have kn:Sm 900 n:=by have:=Sm.of (a:=Sn n) (eQ n) sy;rwa [cB]at this
       have lz:ae z≤900:=gU kz (by decide);have ln:ag n≤900:=gU kn (by decide);have hR:=fun W=>yT (z4B z (by unfold FitZ Fit;exact Sm.mono kz (by decide)) W)
       have hF:∀ W,CN 75 #[.string (Sn n)] W n:=fun W=>by
        have h:=oh (jL (Sn n) (by rw[dh];exact jg _) (by omega) W);rwa [cB]at h
       have hO:=fun W=>sN 1 1 rfl (by decide) W;have hC:=fun(s1:Option Addr) (d1:Nat) (s2:Option Addr) (d2:Nat) W h1 h2=>cCmp (.slice s1 (ag n) d1) (.slice s2 (ag 1) d2) n 1 (by omega) W h1 h2;have hS:=fun p c W h=>vI z _ rfl p c W h;by_cases n1:n≤1
       · exact zl a (Sz z) (Sn n) z (cmpN n 1) _ n 1 _ (by unfold cmpN;split<;>first|(split<;>omega)|omega) W hsp hVx hVy hR hF hO hC hI
       · have hk:0<cmpN n 1:=by unfold cmpN;rw[if_neg (by omega),if_pos (by omega)];decide
         by_cases z0:z=0
         · subst z0
           exact z0J a (Sz 0) (Sn n) 0 (cmpN n 1) _ n 1 _ hk W hsp hVx hVy hR hF hO hC hS hI
         · have hsg:z.sign≠0:=fun e=>z0 (Int.sign_eq_zero_iff_zero.1 e)
           have hG:=fun(p1:Option Addr) (c1:Nat) (s2:Option Addr) (d2:Nat) W h1 h2=>oW (.slice p1 (ae z) c1) (.slice s2 (ag n) d2) z.natAbs n _ rfl (Nat.le_trans lz (by decide)) (by omega) W h1 h2;have lg:ag (Nat.gcd z.natAbs n)≤900:=Nat.le_trans (jw (Nat.gcd_le_right _ (by omega))) ln;by_cases g1:Nat.gcd z.natAbs n=1
           · exfalso
             have:vldP x y=true:=by
              unfold vldP
              rw[hx,yl,nE,kF,← hz]
              have e1:(Lib.decDigits n==[49])=false:=by
                rw[beq_eq_false_iff_ne];intro e
                have e2:Sn n=Sn 1:=by
                 apply ByteArray.ext;apply Array.ext'
                 rw[dh,e];decide +kernel
                have:=z3j e2;omega
              rw[e1];simp[g1]
              omega
             rw[this]at hv;cases hv
           · refine vY a (Sz z) (Sn n) z (cmpN n 1) (cmpN (Nat.gcd z.natAbs n) 1) _ _ n 1 (Nat.gcd z.natAbs n) _ hk hsg ?_ W hsp hVx hVy hR hF hO hC hS hG (fun s1 d1 s2 d2 W h1 h2=>cCmp _ _ _ _ (by omega) W h1 h2) hI
             unfold cmpN
             split
             · decide
             · split
               · decide
               · omega
