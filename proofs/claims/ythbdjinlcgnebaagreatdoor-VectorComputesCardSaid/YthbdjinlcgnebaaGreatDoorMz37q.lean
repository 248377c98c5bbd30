/- texts -/
import Derived.Test.YthbdjinlcgnebaaGreatDoorMz35q
import Derived.Test.YthbdjinlcgnebaaGreatDoorMz36q
namespace Go.Proofs.YthbdjinlcgnebaaGreatDoor
open Go.RowKit Go.Gb
def LQ (q:Rat):Prop:=ah q.num≤10000∧ai q.den≤10000
theorem z_abs (z:Int):z=if au z then -(z.natAbs:Int) else (z.natAbs:Int):=by
 unfold au
 by_cases h:z<0
 · rw[decide_eq_true h,if_pos rfl];omega
 · rw[decide_eq_false h,if_neg (by simp)];omega
theorem z4E (z:Int)(g:Nat)(hg:g∣z.natAbs):z / (g:Int)=if au z then -((z.natAbs / g:Nat):Int) else ((z.natAbs / g:Nat):Int):=by
 have hd:(g:Int)∣(z.natAbs:Int):=Int.natCast_dvd_natCast.2 hg;unfold au
 by_cases h:z<0
 · rw[decide_eq_true h,if_pos rfl]
   have e:z = -(z.natAbs:Int):=by omega
   conv=>lhs;rw[e]
   rw[Int.neg_ediv_of_dvd hd,Int.natCast_ediv]
 · rw[decide_eq_false h,if_neg (by simp),Int.natCast_ediv]
   congr 1
   omega
theorem z3O (z:Int)(n:Nat):z*(n:Int)=if au z then -((z.natAbs*n:Nat):Int) else ((z.natAbs*n:Nat):Int):=by
 rw[Int.natCast_mul];unfold au
 by_cases h:z<0
 · rw[decide_eq_true h,if_pos rfl,← Int.neg_mul];congr 1;omega
 · rw[decide_eq_false h,if_neg (by simp)];congr 1;omega
theorem z2k (x y:Rat)(h:x.den=y.den):x+y=mkRat (x.num+y.num) x.den:=by
 rw[jv,← h,← Int.add_mul,Rat.mkRat_mul_right x.den_nz]
theorem pE (a b:Int):ah (a*b)≤ah a+ah b:=by
 unfold ah ai;rw[Int.natAbs_mul];exact il _ _
theorem mH (a b:Nat):ai (a*b)≤ai a+ai b:=il a b
theorem vP {a b:Int}{K:Nat}(ha:ah a≤K)(hb:ah b≤K):ah (a+b)≤K+1 :=
 Nat.le_trans (je (Int.natAbs_add_le a b)) (iq (a:=a.natAbs) (b:=b.natAbs) ha hb)
theorem z0R (n:Nat):ah (n:Int)=ai n:=by unfold ah;rw[Int.natAbs_natCast]
theorem uu (z:Int)(dn:Nat)(q:Rat)(hq:mkRat z dn=q)(hd:dn≠0)(hz:ah z≤50000)(hl:ai dn≤50000)(p1:Option Addr)(c1:Nat)(s2:Option Addr)(d2:Nat)(W:World)(r1:RN W (.slice p1 (ah z) c1) z.natAbs)(t2:RN W (.slice s2 (ai dn) d2) dn) :
 Calls Tryz.prog 77 #[.agg #[.bool (au z),.slice p1 (ah z) c1],.slice s2 (ai dn) d2] W fun e w'=>∃ p c s d,e=.returned (.agg #[.bool (au q.num),.slice p (ah q.num) c,.slice s (ai q.den) d])∧RN w' (.slice p (ah q.num) c) q.num.natAbs∧RN w' (.slice s (ai q.den) d) q.den∧Below W.heap.size W w':=by
 obtain⟨hn,he⟩:=mI z dn hd;rw[hq]at hn he;obtain⟨g,hg⟩:∃ g,g=Nat.gcd z.natAbs dn:=⟨_,rfl⟩;rw[← hg]at hn he;by_cases g1:g=1
 · rw[g1]at hn he
   have e1:q.num=z:=by rw[hn];simp
   have e2:q.den=dn:=by rw[he];simp
   rw[e1,e2];exact xZ z dn hz hl p1 c1 s2 d2 (by rw[← hg,g1]) W r1 t2
 · have g0:g≠0:=by rw[hg];exact Nat.ne_of_gt (Nat.gcd_pos_of_pos_right _ (by omega))
   have hy:=z4E z g (by rw[hg];exact Nat.gcd_dvd_left _ _);rw[hn,he];by_cases gl:ai g=1
   · exact uC z dn hz hl p1 c1 s2 d2 g _ _ _ _ _ hg.symm g0 g1 gl rfl rfl rfl rfl hy W r1 t2
   · exact uD z dn hz hl p1 c1 s2 d2 g _ _ _ _ _ hg.symm g0 gl rfl rfl rfl rfl hy W r1 t2
theorem z4M (k:Int)(q:Rat)(n:Nat)(hk:(n:Int)=k)(h1:n≤1000000)(hn:q.num=k)(he:q.den=1)  (W:World)  :
 Calls Tryz.prog 62 #[.int .i64 k] W fun e w'=>∃ p c s d,e=.returned (.agg #[.bool (au q.num),.slice p (ah q.num) c,.slice s (ai q.den) d])∧RN w' (.slice p (ah q.num) c) q.num.natAbs∧RN w' (.slice s (ai q.den) d) q.den∧Below W.heap.size W w':=by
 refine z1v k q.num q.den W (fun W=>?_) (fun W=>?_)
 · rw[hn];exact z4a k n hk (by omega) (by omega) W
 · rw[he];exact qV 1 1 rfl (by decide) W
theorem z4K (x q:Rat)(hq : -x=q)(hx:LQ x)(p1:Option Addr)(c1:Nat)(s1:Option Addr)(d1:Nat)(W:World)(r1:RN W (.slice p1 (ah x.num) c1) x.num.natAbs)(t1:RN W (.slice s1 (ai x.den) d1) x.den) :
 Calls Tryz.prog 81 #[.agg #[.bool (au x.num),.slice p1 (ah x.num) c1,.slice s1 (ai x.den) d1]] W fun e w'=>∃ p c s d,e=.returned (.agg #[.bool (au q.num),.slice p (ah q.num) c,.slice s (ai q.den) d])∧RN w' (.slice p (ah q.num) c) q.num.natAbs∧RN w' (.slice s (ai q.den) d) q.den∧Below W.heap.size W w':=by
 subst hq;exact z1t x.num (-x).num x.den p1 c1 s1 d1 W (fun p c W h=>zF x.num _ rfl (Nat.le_trans hx.1 (by decide)) p c W h) r1 t1
theorem z4L (x y q:Rat)(hq:x*y=q)(hx:LQ x)(hy:LQ y)(p1:Option Addr)(c1:Nat)(s1:Option Addr)(d1:Nat)(p2:Option Addr)(c2:Nat)(s2:Option Addr)(d2:Nat)(W:World)(r1:RN W (.slice p1 (ah x.num) c1) x.num.natAbs)(t1:RN W (.slice s1 (ai x.den) d1) x.den)(r2:RN W (.slice p2 (ah y.num) c2) y.num.natAbs)(t2:RN W (.slice s2 (ai y.den) d2) y.den) :
 Calls Tryz.prog 69 #[.agg #[.bool (au x.num),.slice p1 (ah x.num) c1,.slice s1 (ai x.den) d1],.agg #[.bool (au y.num),.slice p2 (ah y.num) c2,.slice s2 (ai y.den) d2]] W fun e w'=>∃ p c s d,e=.returned (.agg #[.bool (au q.num),.slice p (ah q.num) c,.slice s (ai q.den) d])∧RN w' (.slice p (ah q.num) c) q.num.natAbs∧RN w' (.slice s (ai q.den) d) q.den∧Below W.heap.size W w':=by
 obtain⟨a1,a2⟩:=hx;obtain⟨b1,b2⟩:=hy;have l1:=pE x.num y.num;have l2:=mH x.den y.den
 exact z1u x.num y.num (x.num*y.num) q.num x.den y.den (x.den*y.den) q.den p1 c1 s1 d1 p2 c2 s2 d2 W (fun p1 c1 p2 c2 W h1 h2=>z3Z _ _ _ rfl (by omega) (by omega) p1 c1 p2 c2 W h1 h2)
  (fun s1 d1 s2 d2 W h1 h2=>tu _ _ _ _ (by omega) (by omega) W h1 h2)
  (fun p1 c1 s2 d2 W h1 h2=>uu _ _ q (by rw[← hq,jg]) (Nat.mul_ne_zero x.den_nz y.den_nz) (by omega) (by omega) p1 c1 s2 d2 W h1 h2) r1 t1 r2 t2
theorem z4b (x y q:Rat)(hq:x+y=q)(hx:LQ x)(hy:LQ y)(p1:Option Addr)(c1:Nat)(s1:Option Addr)(d1:Nat)(p2:Option Addr)(c2:Nat)(s2:Option Addr)(d2:Nat)(W:World)(r1:RN W (.slice p1 (ah x.num) c1) x.num.natAbs)(t1:RN W (.slice s1 (ai x.den) d1) x.den)(r2:RN W (.slice p2 (ah y.num) c2) y.num.natAbs)(t2:RN W (.slice s2 (ai y.den) d2) y.den) :
 Calls Tryz.prog 55 #[.agg #[.bool (au x.num),.slice p1 (ah x.num) c1,.slice s1 (ai x.den) d1],.agg #[.bool (au y.num),.slice p2 (ah y.num) c2,.slice s2 (ai y.den) d2]] W fun e w'=>∃ p c s d,e=.returned (.agg #[.bool (au q.num),.slice p (ah q.num) c,.slice s (ai q.den) d])∧RN w' (.slice p (ah q.num) c) q.num.natAbs∧RN w' (.slice s (ai q.den) d) q.den∧Below W.heap.size W w':=by
 obtain⟨a1,a2⟩:=hx;obtain⟨b1,b2⟩:=hy;by_cases he:x.den=y.den
 · have l1:=vP a1 b1
   exact zQ x.num y.num (x.num+y.num) q.num x.den y.den q.den p1 c1 s1 d1 p2 c2 s2 d2 W (fun s1 d1 s2 d2 W h1 h2=>by
        have h:=cCmp _ _ x.den y.den (by omega) W h1 h2
        rwa [show cmpN x.den y.den=0 by rw[he];unfold cmpN;simp]at h)
    (fun p1 c1 p2 c2 W h1 h2=>z4c _ _ _ rfl (by omega) (by omega) p1 c1 p2 c2 W h1 h2)
    (fun p1 c1 s2 d2 W h1 h2=>uu _ _ q (by rw[← hq,z2k x y he]) x.den_nz (by omega) (by omega) p1 c1 s2 d2 W h1 h2) r1 t1 r2 t2
 · have l1:=pE x.num (y.den:Int)
   have l2:=pE y.num (x.den:Int);have l3:=mH x.den y.den;have l4:=mH x.num.natAbs y.den;have l5:=mH y.num.natAbs x.den;rw[z0R]at l1 l2;have l6:=vP (a:=x.num*(y.den:Int)) (b:=y.num*(x.den:Int)) (K:=20000) (by omega) (by omega);have z1:ah x.num=ai x.num.natAbs:=rfl;have z2:ah y.num=ai y.num.natAbs:=rfl
   exact xR x.num y.num (x.num*(y.den:Int)) (y.num*(x.den:Int)) (x.num*(y.den:Int)+y.num*(x.den:Int)) q.num (cmpN x.den y.den) x.den y.den (x.den*y.den) q.den (x.num.natAbs*y.den) (y.num.natAbs*x.den) (fun e=>he (by unfold cmpN at e;split at e<;>first|(split at e<;>first|omega|simp at e)|simp at e))
    p1 c1 s1 d1 p2 c2 s2 d2 W (fun s1 d1 s2 d2 W h1 h2=>cCmp _ _ x.den y.den (by omega) W h1 h2)
    (fun p1 c1 s2 d2 W h1 h2=>tu _ _ _ _ (by omega) (by omega) W h1 h2) (fun s2 d2 W h=>qW _ _ _ _ (z3O x.num y.den) (by omega) W h)
    (fun p1 c1 s2 d2 W h1 h2=>tu _ _ _ _ (by omega) (by omega) W h1 h2) (fun s2 d2 W h=>qW _ _ _ _ (z3O y.num x.den) (by omega) W h)
    (fun p1 c1 p2 c2 W h1 h2=>z4c _ _ _ rfl (by omega) (by omega) p1 c1 p2 c2 W h1 h2)
    (fun s1 d1 s2 d2 W h1 h2=>tu _ _ _ _ (by omega) (by omega) W h1 h2)
    (fun p1 c1 s2 d2 W h1 h2=>uu _ _ q (by rw[← hq,jv]) (Nat.mul_ne_zero x.den_nz y.den_nz) (by omega) (by omega) p1 c1 s2 d2 W h1 h2) r1 t1 r2 t2
theorem z4J (x y q:Rat)(hq:x-y=q)(hx:LQ x)(hy:LQ y)(p1:Option Addr)(c1:Nat)(s1:Option Addr)(d1:Nat)(p2:Option Addr)(c2:Nat)(s2:Option Addr)(d2:Nat)(W:World)(r1:RN W (.slice p1 (ah x.num) c1) x.num.natAbs)(t1:RN W (.slice s1 (ai x.den) d1) x.den)(r2:RN W (.slice p2 (ah y.num) c2) y.num.natAbs)(t2:RN W (.slice s2 (ai y.den) d2) y.den) :
 Calls Tryz.prog 57 #[.agg #[.bool (au x.num),.slice p1 (ah x.num) c1,.slice s1 (ai x.den) d1],.agg #[.bool (au y.num),.slice p2 (ah y.num) c2,.slice s2 (ai y.den) d2]] W fun e w'=>∃ p c s d,e=.returned (.agg #[.bool (au q.num),.slice p (ah q.num) c,.slice s (ai q.den) d])∧RN w' (.slice p (ah q.num) c) q.num.natAbs∧RN w' (.slice s (ai q.den) d) q.den∧Below W.heap.size W w':=by
 have hny:LQ (-y):=⟨by have:=hy.1;unfold ah at *;rwa [show(-y).num = -y.num from rfl,Int.natAbs_neg],hy.2⟩
 exact z1s x.num y.num (-y).num q.num x.den y.den (-y).den q.den p1 c1 s1 d1 p2 c2 s2 d2 W (fun p1 c1 s1 d1 W h1 h2=>z4K y _ rfl hy p1 c1 s1 d1 W h1 h2)
  (fun p1 c1 s1 d1 p2 c2 s2 d2 W h1 h2 h3 h4=>z4b x (-y) q (by rw[← hq,Rat.sub_eq_add_neg]) hx hny p1 c1 s1 d1 p2 c2 s2 d2 W h1 h2 h3 h4) r1 t1 r2 t2
theorem sQTo (q:Rat)(s:ByteArray)(hs:Sq q=s)(hq:SmQ 9000 q)(p1:Option Addr)(c1:Nat)(s1:Option Addr)(d1:Nat)(W:World)(r1:RN W (.slice p1 (ah q.num) c1) q.num.natAbs)(t1:RN W (.slice s1 (ai q.den) d1) q.den) :
 CR 41 #[.agg #[.bool (au q.num),.slice p1 (ah q.num) c1,.slice s1 (ai q.den) d1]] W (.string s):=by
 have l1:ah q.num≤9000:=gL hq.1 (by decide);have l2:ai q.den≤9000:=gL hq.2 (by decide);have z1:(Sn q.num.natAbs).size≤9000:=iA hq.1 (by decide);have z2:(Sn q.den).size≤9000:=iA hq.2 (by decide);have z3:(Sz q.num).size≤9001:=jP hq.1 (by decide);have h1:=fun p c W h=>sTo q.num _ rfl (Nat.le_trans l1 (by decide)) (by omega) p c W h;have h2:=fun(s:Option Addr) (d:Nat) W h=>z0H (.slice s (ai q.den) d) q.den (Nat.le_trans l2 (by decide)) W h;subst hs;by_cases hd:q.den=1
 · unfold Sq
   rw[if_pos hd]
   exact z3h q.num q.den (Sz q.num) p1 c1 s1 d1 W h1 (fun s d W h=>by
    have:=h2 s d W h
    rwa [hd,show Sn 1=⟨#[49]⟩by decide +kernel,← hd]at this) r1 t1
 · unfold Sq
   rw[if_neg hd];refine z1r q.num q.den (Sz q.num) (Sn q.den) _ ?_ ?_ (by omega) (by omega) p1 c1 s1 d1 W h1 h2 r1 t1
   · rw[beq_eq_false_iff_ne]
     intro e;apply hd
     have e2:Sn q.den=Sn 1:=by
       apply ByteArray.ext;apply Array.ext'
       rw[toList_data]at e;rw[e];decide +kernel
     exact z2B e2
   · apply ByteArray.ext;apply Array.ext'
     simp[Sn]
theorem dE {f:FuncId}{args:Array Value}{w:World}{v:Value}(h:Calls Tryz.prog f args w fun e w'=>e=.returned v∧w=w'):Calls Tryz.prog f args w fun e w'=>e=.returned v∧Below w.heap.size w w':=by
 refine h.mono ?_;rintro e w' ⟨rfl,rfl⟩;exact⟨rfl,Below.refl _ _⟩
theorem vk {s:ByteArray}{k:Nat}(h:k<s.size):s[k]=s.data.toList[k]'(by rw[aG];exact h):=(fJ s k h).symm
theorem rT (s:ByteArray)(hn:(47:UInt8)∉s.data.toList)(hs:s.size≤2000)(W:World) :
 CR 59 #[.string s] W (.tuple #[.string s,.string ⟨#[49]⟩,.bool false]) :=
 dE (z1i s (fun k h e=>hn (by rw[← e,vk h];exact List.getElem_mem _)) (by unfold maxLen;omega) W)
theorem oH (s:ByteArray)(x y:List UInt8)(hl:s.data.toList=x++47 :: y)(hn:(47:UInt8)∉x)(hs:s.size≤2000)(W:World) :
 CR 59 #[.string s] W (.tuple #[.string ⟨x.toArray⟩,.string ⟨y.toArray⟩,.bool true]):=by
 have hsz:s.size=x.length+(y.length+1):=by rw[← aG,hl];simp
 have hxs:(⟨x.toArray⟩:ByteArray).size=x.length:=by show x.toArray.size=_;simp
 refine zn s ⟨x.toArray⟩ ⟨y.toArray⟩ (by omega) ?_ ?_ ?_ ?_ (by unfold maxLen;omega) W
 · intro k hk h2 e
   apply hn
   rw[← e,vk h2];simp only[hl];rw[List.getElem_append_left (by omega)];exact List.getElem_mem _
 · rw[vk (by omega)]
   simp only[hl,hxs];rw[List.getElem_append_right (Nat.le_refl _)];simp
 · apply ByteArray.ext;apply Array.ext'
   rw[fT,hl,hxs];simp
 · apply ByteArray.ext;apply Array.ext'
   rw[fT,hl,hxs,hsz];simp;exact List.take_of_length_le (by omega)
theorem z2E (q:Rat)(hq:SmQ 900 q)(hs:(Sq q).size≤2000)(W:World) :
 Calls Tryz.prog 37 #[.string (Sq q)] W fun e w'=>∃ p c s d,e=.returned (.tuple #[.agg #[.bool (au q.num),.slice p (ah q.num) c,.slice s (ai q.den) d],.bool true])∧RN w' (.slice p (ah q.num) c) q.num.natAbs∧RN w' (.slice s (ai q.den) d) q.den∧Below W.heap.size W w':=by
 have fn:FitZ q.num:=by unfold FitZ Fit;exact Sm.mono hq.1 (by decide)
 have z1:(Sz q.num).size≤901:=jP hq.1 (by decide);have z2:(Sn q.den).size≤900:=iA hq.2 (by decide);have hR:=fun W=>xO (z3Q q.num fn W);by_cases hd:q.den=1
 · rw[iY hd]at hs ⊢
   rw[hd];refine z1G (Sz q.num) (Sz q.num) ⟨#[49]⟩ q.num 1 W (fun W=>rT _ (z1b 47 (by decide) (by decide) _) hs W) (fun W=>dE (u7 q.num (by omega) W)) (fun W=>dE ?_) hR (fun W=>?_)
   · exact gF ⟨#[49]⟩ W (by decide)
   · exact nC (jy ⟨#[49]⟩ (by decide) (by decide) W)
 · have hn0:q.num≠0:=by
    intro e;have:=q.reduced;rw[e]at this;unfold Nat.Coprime at this
    rw[Int.natAbs_zero,Nat.gcd_zero_left]at this;exact hd this
   have hd1:1<q.den:=by have:=q.den_pos;omega
   have lz:ah q.num≤900:=gL hq.1 (by decide);have ln:ai q.den≤900:=gL hq.2 (by decide);have e0:Sn q.den=⟨(Lib.decDigits q.den).toArray⟩:=rfl;have e1:(⟨(Sz q.num).data.toList.toArray⟩:ByteArray)=Sz q.num:=by simp
   have hsp:=fun W=>oH (Sq q) _ _ (gX hd) (z1b 47 (by decide) (by decide) _) hs W;rw[e1,← e0]at hsp
   refine z0g (Sq q) (Sz q.num) (Sn q.den) q.num 1 q.num.sign q.den 1 1 (by decide) (fun e=>hn0 (Int.sign_eq_zero_iff_zero.1 e)) W hsp (fun W=>dE (u7 q.num (by omega) W)) (fun W=>dE ?_) hR (fun W=>?_)
    (fun W=>qV 1 1 rfl (by decide) W) (fun s1 d1 s2 d2 W h1 h2=>?_) (fun p c W h=>zD q.num _ rfl p c W h) (fun p1 c1 s2 d2 W h1 h2=>?_) (fun s1 d1 s2 d2 W h1 h2=>?_)
   · have h:=gF (Sn q.den) W (by unfold maxLen;omega)
     rwa [eD]at h
   · have h:=nC (jy (Sn q.den) (by rw[cz];exact iV _) (by omega) W)
     rwa [bY]at h
   · have h:=cCmp (.slice s1 (ai q.den) d1) (.slice s2 (ai 1) d2) q.den 1 (by omega) W h1 h2
     rwa [show cmpN q.den 1=1 by unfold cmpN;rw[if_neg (by omega),if_pos hd1]]at h
   · exact nU _ _ _ _ 1 q.reduced (Nat.le_trans lz (by decide)) (by omega) W h1 h2
   · have h:=cCmp (.slice s1 (ai 1) d1) (.slice s2 (ai 1) d2) 1 1 (by rw[qA];decide) W h1 h2
     rwa [show cmpN 1 1=0 by decide]at h
theorem z4N (q:Rat)(hq:SmQ 900 q)(hs:(Sq q).size≤1000)(W:World) :
 Calls Tryz.prog 37 #[.string (Sq q)] W fun e w'=>∃ p c s d,e=.returned (.tuple #[.agg #[.bool (au q.num),.slice p (ah q.num) c,.slice s (ai q.den) d],.bool true])∧RN w' (.slice p (ah q.num) c) q.num.natAbs∧RN w' (.slice s (ai q.den) d) q.den∧Below W.heap.size W w':=z2E q hq (by omega) W
theorem z1k (a:ByteArray)(hv:vldQ a.data.toList=false)(hs:a.size≤900)(W:World) :
 Calls Tryz.prog 37 #[.string a] W fun e w'=>∃ p c s d,e=.returned (.tuple #[.agg #[.bool (au (0:Rat).num),.slice p (ah (0:Rat).num) c,.slice s (ai (0:Rat).den) d],.bool false])∧RN w' (.slice p (ah (0:Rat).num) c) (0:Rat).num.natAbs∧RN w' (.slice s (ai (0:Rat).den) d) (0:Rat).den∧Below W.heap.size W w':=by
 have hI:=fun W=>z4M 0 0 0 rfl (by decide) rfl rfl W;rcases nR 47 a.data.toList with⟨h47,e⟩|⟨x,y,h47,el,e⟩
 · unfold vldQ at hv
   rw[e]at hv;simp only[Bool.false_eq_true,if_false]at hv;exact sK a a ⟨#[49]⟩ _ _ false W (fun W=>rT a h47 (by omega) W) (fun W=>dE (oo a hv (by omega) W)) hI
 · have hlen:x.length+(y.length+1)=a.size:=by rw[← aG,el];simp
   have hsp:=fun W=>oH a x y el h47 (by omega) W;have sx:(⟨x.toArray⟩:ByteArray).size≤1000:=by show x.toArray.size≤1000;simp;omega
   have sy:(⟨y.toArray⟩:ByteArray).size≤900:=by show y.toArray.size≤900;simp;omega
   unfold vldQ at hv
   rw[e]at hv;simp only[if_true]at hv
   cases hx:vldZ x with
   | false=>exact sK a ⟨x.toArray⟩ ⟨y.toArray⟩ _ _ true W hsp (fun W=>dE (oo ⟨x.toArray⟩ (by simpa using hx) sx W)) hI
   | true =>
     obtain⟨z,hz⟩:∃ z,z=zval x:=⟨_,rfl⟩;have ex:(⟨x.toArray⟩:ByteArray)=Sz z:=by rw[hz];have:=zh (a:=⟨x.toArray⟩) (by simpa using hx);simpa using this
     have sx2:(Sz z).size≤900:=by rw[← ex];show x.toArray.size≤900;simp;omega
     rw[ex]at hsp sx;have hVx:=fun W=>dE (u7 z sx W)
     cases hy:vld y with
     | false =>
       refine z0h a (Sz z) ⟨y.toArray⟩ _ _ true W hsp hVx (fun W=>dE ?_) hI;have h:=gF ⟨y.toArray⟩ W (by unfold maxLen;omega);rwa [show vld (⟨y.toArray⟩:ByteArray).data.toList=false by simpa using hy]at h
     | true =>
       obtain⟨n,hn⟩:∃ n,n=aI y:=⟨_,rfl⟩;have ey:(⟨y.toArray⟩:ByteArray)=Sn n:=by rw[hn];have:=z4I (a:=⟨y.toArray⟩) (by simpa using hy);simpa using this
       have yl:y=Lib.decDigits n:=by
        have:=congrArg (fun b:ByteArray=>b.data.toList) ey;simpa [cz] using this
       rw[ey]at hsp sy
       have hVy:CQ 61 #[.string (Sn n)] (.bool true):=fun W=>dE (by
        have h:=gF (Sn n) W (by unfold maxLen;omega)
        rwa [eD]at h)
       have kz:Sm 900 z.natAbs:=jd sx2;have kn:Sm 900 n:=by have:=Sm.of (a:=Sn n) (eD n) sy;rwa [bY]at this
       have lz:ah z≤900:=gL kz (by decide);have ln:ai n≤900:=gL kn (by decide);have hR:=fun W=>xO (z3Q z (by unfold FitZ Fit;exact Sm.mono kz (by decide)) W)
       have hF:∀ W,CN 64 #[.string (Sn n)] W n:=fun W=>by
        have h:=nC (jy (Sn n) (by rw[cz];exact iV _) (by omega) W);rwa [bY]at h
       have hO:=fun W=>qV 1 1 rfl (by decide) W;have hC:=fun(s1:Option Addr) (d1:Nat) (s2:Option Addr) (d2:Nat) W h1 h2=>cCmp (.slice s1 (ai n) d1) (.slice s2 (ai 1) d2) n 1 (by omega) W h1 h2;have hS:=fun p c W h=>zD z _ rfl p c W h;by_cases n1:n≤1
       · exact yh a (Sz z) (Sn n) z (cmpN n 1) _ n 1 _ (by unfold cmpN;split<;>first|(split<;>omega)|omega) W hsp hVx hVy hR hF hO hC hI
       · have hk:0<cmpN n 1:=by unfold cmpN;rw[if_neg (by omega),if_pos (by omega)];decide
         by_cases z0:z=0
         · subst z0
           exact z0f a (Sz 0) (Sn n) 0 (cmpN n 1) _ n 1 _ hk W hsp hVx hVy hR hF hO hC hS hI
         · have hsg:z.sign≠0:=fun e=>z0 (Int.sign_eq_zero_iff_zero.1 e)
           have hG:=fun(p1:Option Addr) (c1:Nat) (s2:Option Addr) (d2:Nat) W h1 h2=>nU (.slice p1 (ah z) c1) (.slice s2 (ai n) d2) z.natAbs n _ rfl (Nat.le_trans lz (by decide)) (by omega) W h1 h2;have lg:ai (Nat.gcd z.natAbs n)≤900:=Nat.le_trans (je (Nat.gcd_le_right _ (by omega))) ln;by_cases g1:Nat.gcd z.natAbs n=1
           · exfalso
             have:vldP x y=true:=by
              unfold vldP
              rw[hx,yl,mF,jW,← hz]
              have e1:(Lib.decDigits n==[49])=false:=by
                rw[beq_eq_false_iff_ne];intro e
                have e2:Sn n=Sn 1:=by
                 apply ByteArray.ext;apply Array.ext'
                 rw[cz,e];decide +kernel
                have:=z2B e2;omega
              rw[e1];simp[g1]
              omega
             rw[this]at hv;cases hv
           · refine uK a (Sz z) (Sn n) z (cmpN n 1) (cmpN (Nat.gcd z.natAbs n) 1) _ _ n 1 (Nat.gcd z.natAbs n) _ hk hsg ?_ W hsp hVx hVy hR hF hO hC hS hG (fun s1 d1 s2 d2 W h1 h2=>cCmp _ _ _ _ (by omega) W h1 h2) hI
             unfold cmpN
             split
             · decide
             · split
               · decide
               · omega
