/- Texts of this proof, one behind the other. -/
import Derived.Test.YtmigpoiajkihhaaGreatDoorMz45q
import Derived.Test.YtmigpoiajkihhaaGreatDoorMz50q
import Derived.Test.YtmigpoiajkihhaaGreatDoorSs
import Derived.Test.YtmigpoiajkihhaaGreatDoorSu
import Derived.Test.YtmigpoiajkihhaaGreatDoorSv
namespace Go.Proofs.YtmigpoiajkihhaaGreatDoor
open Go.RowKit Go.Gb
theorem z0X {f:FuncId}{args:Array Value}{w:World}{v:Value}(h:Calls Tryz.prog f args w fun e w'=>e=.returned v∧w=w'):Calls Tryz.prog f args w fun e w'=>e=.returned v∧Below w.heap.size w w':=by
 refine h.mono ?_
 rintro e w' ⟨rfl,rfl⟩
 exact⟨rfl,Below.refl _ _⟩
theorem z9H {s:ByteArray}{k:Nat}(h:k<s.size):s[k]=s.data.toList[k]'(by rw[z04];exact h):=(z1K s k h).symm
theorem z8e (s:ByteArray)(hn:(47:UInt8)∉s.data.toList)(hs:s.size≤1000)(W:World) :
 CR 43 #[.string s] W (.tuple #[.string s,.string ⟨#[49]⟩,.bool false]) :=
 z0X (zd9 s (fun k h e=>hn (by rw[← e,z9H h];exact List.getElem_mem _)) (by unfold maxLen;omega) W)
theorem z6x (s:ByteArray)(x y:List UInt8)(hl:s.data.toList=x++47 :: y)(hn:(47:UInt8)∉x)(hs:s.size≤1000)(W:World) :
 CR 43 #[.string s] W (.tuple #[.string ⟨x.toArray⟩,.string ⟨y.toArray⟩,.bool true]):=by
 have hsz:s.size=x.length+(y.length+1):=by rw[← z04,hl];simp
 have hxs:(⟨x.toArray⟩:ByteArray).size=x.length:=by show x.toArray.size=_;simp
 refine zbw s ⟨x.toArray⟩ ⟨y.toArray⟩ (by omega) ?_ ?_ ?_ ?_ (by unfold maxLen;omega) W
 · intro k hk h2 e
   apply hn
   rw[← e,z9H h2]
   simp only[hl]
   rw[List.getElem_append_left (by omega)]
   exact List.getElem_mem _
 · rw[z9H (by omega)]
   simp only[hl,hxs]
   rw[List.getElem_append_right (Nat.le_refl _)]
   simp
 · apply ByteArray.ext;apply Array.ext'
   rw[z1R,hl,hxs];simp
 · apply ByteArray.ext;apply Array.ext'
   rw[z1R,hl,hxs,hsz];simp
   exact List.take_of_length_le (by omega)
theorem zeH (q:Rat)(hq:SmQ 900 q)(hs:(Sq q).size≤1000)(W:World) :
 Calls Tryz.prog 44 #[.string (Sq q)] W fun e w'=>∃ p c s d,e=.returned (.tuple #[.agg #[.bool (zneg q.num),.slice p (zlen q.num) c,.slice s (nlen q.den) d],.bool true])∧RN w' (.slice p (zlen q.num) c) q.num.natAbs∧RN w' (.slice s (nlen q.den) d) q.den∧Below W.heap.size W w':=by
 have fn:FitZ q.num:=by unfold FitZ Fit;exact Sm.mono hq.1 (by decide)
 have z1:(Sz q.num).size≤901:=z3P hq.1 (by decide)
 have z2:(Sn q.den).size≤900:=z2H hq.2 (by decide)
 have hR:=fun W=>zaN (zfj q.num fn W)
 by_cases hd:q.den=1
 · rw[z3m hd]at hs ⊢
   rw[hd]
   refine zdL (Sz q.num) (Sz q.num) ⟨#[49]⟩ q.num 1 W (fun W=>z8e _ (zd1 47 (by decide) (by decide) _) hs W) (fun W=>z0X (z90 q.num (by omega) W)) (fun W=>z0X ?_) hR (fun W=>?_)
   · exact z2f ⟨#[49]⟩ W (by decide)
   · exact z5E (z3z ⟨#[49]⟩ (by decide) (by decide) W)
 · have hn0:q.num≠0:=by
    intro e
    have:=q.reduced
    rw[e]at this
    unfold Nat.Coprime at this
    rw[Int.natAbs_zero,Nat.gcd_zero_left]at this
    exact hd this
   have hd1:1<q.den:=by have:=q.den_pos;omega
   have lz:zlen q.num≤900:=z2l hq.1 (by decide)
   have ln:nlen q.den≤900:=z2l hq.2 (by decide)
   have e0:Sn q.den=⟨(Lib.decDigits q.den).toArray⟩:=rfl
   have e1:(⟨(Sz q.num).data.toList.toArray⟩:ByteArray)=Sz q.num:=by simp
   have hsp:=fun W=>z6x (Sq q) _ _ (z2y hd) (zd1 47 (by decide) (by decide) _) hs W
   rw[e1,← e0]at hsp
   refine zck (Sq q) (Sz q.num) (Sn q.den) q.num 1 q.num.sign q.den 1 1 (by decide) (fun e=>hn0 (Int.sign_eq_zero_iff_zero.1 e)) W hsp (fun W=>z0X (z90 q.num (by omega) W)) (fun W=>z0X ?_) hR (fun W=>?_)
    (fun W=>z4T 1 1 rfl (by decide) W) (fun s1 d1 s2 d2 W h1 h2=>?_) (fun p c W h=>z9c q.num _ rfl p c W h) (fun p1 c1 s2 d2 W h1 h2=>?_) (fun s1 d1 s2 d2 W h1 h2=>?_)
   · have h:=z2f (Sn q.den) W (by unfold maxLen;omega)
     rwa [z1r]at h
   · have h:=z5E (z3z (Sn q.den) (by rw[z0K];exact z3c _) (by omega) W)
     rwa [z0I]at h
   · have h:=cCmp (.slice s1 (nlen q.den) d1) (.slice s2 (nlen 1) d2) q.den 1 (by omega) W h1 h2
     rwa [show cmpN q.den 1=1 by unfold cmpN;rw[if_neg (by omega),if_pos hd1]]at h
   · exact z5W _ _ _ _ 1 q.reduced (Nat.le_trans lz (by decide)) (by omega) W h1 h2
   · have h:=cCmp (.slice s1 (nlen 1) d1) (.slice s2 (nlen 1) d2) 1 1 (by rw[z4h];decide) W h1 h2
     rwa [show cmpN 1 1=0 by decide]at h
theorem zdc (a:ByteArray)(hv:vldQ a.data.toList=false)(hs:a.size≤900)(W:World) :
 Calls Tryz.prog 44 #[.string a] W fun e w'=>∃ p c s d,e=.returned (.tuple #[.agg #[.bool (zneg (0:Rat).num),.slice p (zlen (0:Rat).num) c,.slice s (nlen (0:Rat).den) d],.bool false])∧RN w' (.slice p (zlen (0:Rat).num) c) (0:Rat).num.natAbs∧RN w' (.slice s (nlen (0:Rat).den) d) (0:Rat).den∧Below W.heap.size W w':=by
 have hI:=fun W=>zfw 0 0 0 rfl (by decide) rfl rfl W
 rcases z5R 47 a.data.toList with⟨h47,e⟩|⟨x,y,h47,el,e⟩
 · unfold vldQ at hv
   rw[e]at hv
   simp only[Bool.false_eq_true,if_false]at hv
   exact z8z a a ⟨#[49]⟩ _ _ false W (fun W=>z8e a h47 (by omega) W) (fun W=>z0X (z6t a hv (by omega) W)) hI
 · have hlen:x.length+(y.length+1)=a.size:=by rw[← z04,el];simp
   have hsp:=fun W=>z6x a x y el h47 (by omega) W
   have sx:(⟨x.toArray⟩:ByteArray).size≤1000:=by show x.toArray.size≤1000;simp;omega
   have sy:(⟨y.toArray⟩:ByteArray).size≤900:=by show y.toArray.size≤900;simp;omega
   unfold vldQ at hv
   rw[e]at hv
   simp only[if_true]at hv
   cases hx:vldZ x with
   | false=>exact z8z a ⟨x.toArray⟩ ⟨y.toArray⟩ _ _ true W hsp (fun W=>z0X (z6t ⟨x.toArray⟩ (by simpa using hx) sx W)) hI
   | true =>
     obtain⟨z,hz⟩:∃ z,z=zval x:=⟨_,rfl⟩
     have ex:(⟨x.toArray⟩:ByteArray)=Sz z:=by rw[hz];have:=zbr (a:=⟨x.toArray⟩) (by simpa using hx);simpa using this
     have sx2:(Sz z).size≤900:=by rw[← ex];show x.toArray.size≤900;simp;omega
     rw[ex]at hsp sx
     have hVx:=fun W=>z0X (z90 z sx W)
     cases hy:vld y with
     | false =>
       refine zcl a (Sz z) ⟨y.toArray⟩ _ _ true W hsp hVx (fun W=>z0X ?_) hI
       have h:=z2f ⟨y.toArray⟩ W (by unfold maxLen;omega)
       rwa [show vld (⟨y.toArray⟩:ByteArray).data.toList=false by simpa using hy]at h
     | true =>
       obtain⟨n,hn⟩:∃ n,n=dval y:=⟨_,rfl⟩
       have ey:(⟨y.toArray⟩:ByteArray)=Sn n:=by rw[hn];have:=zg5 (a:=⟨y.toArray⟩) (by simpa using hy);simpa using this
       have yl:y=Lib.decDigits n:=by
        have:=congrArg (fun b:ByteArray=>b.data.toList) ey
        simpa [z0K] using this
       rw[ey]at hsp sy
       have hVy:CQ 80 #[.string (Sn n)] (.bool true):=fun W=>z0X (by
        have h:=z2f (Sn n) W (by unfold maxLen;omega)
        rwa [z1r]at h)
       have kz:Sm 900 z.natAbs:=z3n sx2
       have kn:Sm 900 n:=by have:=Sm.of (a:=Sn n) (z1r n) sy;rwa [z0I]at this
       have lz:zlen z≤900:=z2l kz (by decide)
       have ln:nlen n≤900:=z2l kn (by decide)
       have hR:=fun W=>zaN (zfj z (by unfold FitZ Fit;exact Sm.mono kz (by decide)) W)
       have hF:∀ W,CN 70 #[.string (Sn n)] W n:=fun W=>by
        have h:=z5E (z3z (Sn n) (by rw[z0K];exact z3c _) (by omega) W)
        rwa [z0I]at h
       have hO:=fun W=>z4T 1 1 rfl (by decide) W
       have hC:=fun(s1:Option Addr) (d1:Nat) (s2:Option Addr) (d2:Nat) W h1 h2=>cCmp (.slice s1 (nlen n) d1) (.slice s2 (nlen 1) d2) n 1 (by omega) W h1 h2
       have hS:=fun p c W h=>z9c z _ rfl p c W h
       by_cases n1:n≤1
       · exact zb3 a (Sz z) (Sn n) z (cmpN n 1) _ n 1 _ (by unfold cmpN;split<;>first|(split<;>omega)|omega) W hsp hVx hVy hR hF hO hC hI
       · have hk:0<cmpN n 1:=by unfold cmpN;rw[if_neg (by omega),if_pos (by omega)];decide
         by_cases z0:z=0
         · subst z0
           exact zcj a (Sz 0) (Sn n) 0 (cmpN n 1) _ n 1 _ hk W hsp hVx hVy hR hF hO hC hS hI
         · have hsg:z.sign≠0:=fun e=>z0 (Int.sign_eq_zero_iff_zero.1 e)
           have hG:=fun(p1:Option Addr) (c1:Nat) (s2:Option Addr) (d2:Nat) W h1 h2=>z5W (.slice p1 (zlen z) c1) (.slice s2 (nlen n) d2) z.natAbs n _ rfl (Nat.le_trans lz (by decide)) (by omega) W h1 h2
           have lg:nlen (Nat.gcd z.natAbs n)≤900:=Nat.le_trans (z1N (Nat.gcd_le_right _ (by omega))) ln
           by_cases g1:Nat.gcd z.natAbs n=1
           · exfalso
             have:vldP x y=true:=by
              unfold vldP
              rw[hx,yl,z6S,z5g,← hz]
              have e1:(Lib.decDigits n==[49])=false:=by
                rw[beq_eq_false_iff_ne]
                intro e
                have e2:Sn n=Sn 1:=by
                 apply ByteArray.ext;apply Array.ext'
                 rw[z0K,e];decide +kernel
                have:=zek e2
                omega
              rw[e1]
              simp[g1]
              omega
             rw[this]at hv
             cases hv
           · refine z9s a (Sz z) (Sn n) z (cmpN n 1) (cmpN (Nat.gcd z.natAbs n) 1) _ _ n 1 (Nat.gcd z.natAbs n) _ hk hsg ?_ W hsp hVx hVy hR hF hO hC hS hG (fun s1 d1 s2 d2 W h1 h2=>cCmp _ _ _ _ (by omega) W h1 h2) hI
             unfold cmpN
             split
             · decide
             · split
               · decide
               · omega
theorem z1u {q:Rat}{k:Nat}(h:SmQ k q)(h0:0<k)(hk:k≤10000):LQ q:=⟨Nat.le_trans (z2l h.1 h0) hk,Nat.le_trans (z2l h.2 h0) hk⟩
theorem z8f (a:ByteArray)(ha:a.size≤900):∃ q:Rat,∀ W,Calls Tryz.prog 44 #[.string a] W fun e w'=>∃ p c s d,e=.returned (.tuple #[.agg #[.bool (zneg q.num),.slice p (zlen q.num) c,.slice s (nlen q.den) d],.bool (vldQ a.data.toList)])∧RN w' (.slice p (zlen q.num) c) q.num.natAbs∧RN w' (.slice s (nlen q.den) d) q.den∧Below W.heap.size W w':=by
 cases h:vldQ a.data.toList with
 | false=>exact⟨0,fun W=>zdc a h ha W⟩
 | true =>
   have e:=zd8 h
   obtain⟨q,hq⟩:∃ q,q=qval a.data.toList:=⟨_,rfl⟩
   rw[← hq]at e
   subst e
   exact⟨q,fun W=>zeH q (z3M ha (by decide)) (by omega) W⟩
theorem za8 (x y:Rat)(hx:SmQ 900 x)(hy:SmQ 900 y)(sx:(Sq x).size≤1000)(sy:(Sq y).size≤1000)(W:World):Calls Tryz.prog 47 #[.string (Sq x),.string (Sq y)] W fun e w'=>∃ p c s d p' c' s' d',e=.returned (.tuple #[.agg #[.bool (zneg x.num),.slice p (zlen x.num) c,.slice s (nlen x.den) d],.agg #[.bool (zneg y.num),.slice p' (zlen y.num) c',.slice s' (nlen y.den) d'],.int .i64 0])∧RN w' (.slice p (zlen x.num) c) x.num.natAbs∧RN w' (.slice s (nlen x.den) d) x.den∧RN w' (.slice p' (zlen y.num) c') y.num.natAbs∧RN w' (.slice s' (nlen y.den) d') y.den∧Below W.heap.size W w' :=
 ze0 (Sq x) (Sq y) x.num y.num x.den y.den W (fun W=>zeH x hx sx W) (fun W=>zeH y hy sy W)
theorem zbF (a b:ByteArray)(h:(vldQ a.data.toList&&vldQ b.data.toList)=false)(ha:a.size≤900)(hb:b.size≤900):∃ x y:Rat,∀ W,Calls Tryz.prog 47 #[.string a,.string b] W fun e w'=>∃ p c s d p' c' s' d',e=.returned (.tuple #[.agg #[.bool (zneg x.num),.slice p (zlen x.num) c,.slice s (nlen x.den) d],.agg #[.bool (zneg y.num),.slice p' (zlen y.num) c',.slice s' (nlen y.den) d'],.int .i64 1])∧RN w' (.slice p (zlen x.num) c) x.num.natAbs∧RN w' (.slice s (nlen x.den) d) x.den∧RN w' (.slice p' (zlen y.num) c') y.num.natAbs∧RN w' (.slice s' (nlen y.den) d') y.den∧Below W.heap.size W w':=by
 obtain⟨x,h1⟩:=z8f a ha
 obtain⟨y,h2⟩:=z8f b hb
 refine⟨x,y,fun W=>?_⟩
 cases va:vldQ a.data.toList with
 | false =>
   rw[va]at h1
   exact ze2 a b x.num y.num x.den y.den _ W h1 h2
 | true =>
   rw[va,Bool.true_and]at h
   rw[va]at h1
   rw[h]at h2
   exact ze1 a b x.num y.num x.den y.den W h1 h2
theorem z4S {x y:Rat}(h:x≤y):cmpQ x y≤0:=by
 rcases z3K x y with⟨_,e⟩|⟨_,e⟩|⟨h',e⟩
 · omega
 · omega
 · exact absurd h (Rat.not_le.2 h')
theorem z99 {z:Int}(h:z≤0):z.sign≤0:=by
 rcases Int.lt_or_le z 0 with h1|h1
 · rw[Int.sign_eq_neg_one_of_neg h1];decide
 · have:z=0:=by omega
   subst this;decide
theorem z9a {z:Int}(h:0≤z):0≤z.sign:=by
 rcases Int.lt_or_le 0 z with h1|h1
 · rw[Int.sign_eq_one_of_pos h1];decide
 · have:z=0:=by omega
   subst this;decide
theorem z4a {k:Nat}{a b:Rat}(ha:0<a.num)(hb:0<b.num)(hab:a≤b)(h:SmQ k a):SmQ k (z0G a b):=by
 obtain⟨_,_,_,h1,_,h2,_⟩:=z2m ha hb hab
 exact⟨Sm.le h.1 h1,Sm.le h.2 h2⟩
theorem zfr (x:Rat)(z:Int)(hz:x.num / (x.den:Int)=z)(hx:LQ x)(p1:Option Addr)(c1:Nat)(s1:Option Addr)(d1:Nat)(W:World)(r1:RN W (.slice p1 (zlen x.num) c1) x.num.natAbs)(t1:RN W (.slice s1 (nlen x.den) d1) x.den) :
 CZ 57 #[.agg #[.bool (zneg x.num),.slice p1 (zlen x.num) c1,.slice s1 (nlen x.den) d1]] W z :=
 zbm x.num (x.den:Int) z (x.num%(x.den:Int)) x.den p1 c1 s1 d1 W (fun s d W h=>z3d false _ x.den _ (by simp) (Nat.le_trans hx.2 (by decide)) W h) (fun p1 c1 p2 c2 W h1 h2=>zg6 x.num (x.den:Int) z _ hz rfl (by have:=x.den_pos;omega) (Nat.le_trans hx.1 (by decide)) (by rw[z6M];exact Nat.le_trans hx.2 (by decide)) p1 c1 p2 c2 W h1 h2) r1 t1
theorem zgl {k:Nat}{x:Rat}(hx:Sm k x.num.natAbs):Sm k (x.num / (x.den:Int)).natAbs:=Sm.le hx (Int.natAbs_ediv_le_natAbs _ _)
theorem zfQ {k:Nat}{a:Rat}(h:SmQ k a)(h0:0<k):SmQ k (flR a):=⟨zgl h.1,(show Sm 1 1 by simp[Sm]).mono h0⟩
theorem zc5:SmQ 1 1:=⟨by show Sm 1 1;simp[Sm],by show Sm 1 1;simp[Sm]⟩
theorem zfu (k:Nat):∀ (a b:Rat),a.den+b.den≤k→0<a.num→0<b.num→a≤b→SmQ 900 a→SmQ 900 b→∀ (p1:Option Addr) (c1:Nat) (s1:Option Addr) (d1:Nat) (p2:Option Addr) (c2:Nat) (s2:Option Addr) (d2:Nat) (W:World),RN W (.slice p1 (zlen a.num) c1) a.num.natAbs→RN W (.slice s1 (nlen a.den) d1) a.den→RN W (.slice p2 (zlen b.num) c2) b.num.natAbs→RN W (.slice s2 (nlen b.den) d2) b.den →
 Calls Tryz.prog 74 #[.agg #[.bool (zneg a.num),.slice p1 (zlen a.num) c1,.slice s1 (nlen a.den) d1],.agg #[.bool (zneg b.num),.slice p2 (zlen b.num) c2,.slice s2 (nlen b.den) d2]] W fun e w'=>∃ p c s d,e=.returned (.agg #[.bool (zneg (z0G a b).num),.slice p (zlen (z0G a b).num) c,.slice s (nlen (z0G a b).den) d])∧RN w' (.slice p (zlen (z0G a b).num) c) (z0G a b).num.natAbs∧RN w' (.slice s (nlen (z0G a b).den) d) (z0G a b).den∧Below W.heap.size W w':=by
 induction k with
 | zero=>intro a b hk;have:=a.den_pos;omega
 | succ k ih =>
   intro a b hk ha hb hab sa sb p1 c1 s1 d1 p2 c2 s2 d2 W r1 t1 r2 t2
   have la:LQ a:=z1u sa (by decide) (by decide)
   have lb:LQ b:=z1u sb (by decide) (by decide)
   have sf:=zfQ sa (by decide)
   have lf:LQ (flR a):=z1u sf (by decide) (by decide)
   have hW:∀ p1 c1 s1 d1 W,RN W (.slice p1 (zlen a.num) c1) a.num.natAbs→RN W (.slice s1 (nlen a.den) d1) a.den→Calls Tryz.prog 57 #[.agg #[.bool (zneg a.num),.slice p1 (zlen a.num) c1,.slice s1 (nlen a.den) d1]] W fun e w'=>∃ p c,e=.returned (.agg #[.bool (zneg (flR a).num),.slice p (zlen (flR a).num) c])∧RN w' (.slice p (zlen (flR a).num) c) (flR a).num.natAbs∧Below W.heap.size W w':=fun p1 c1 s1 d1 W h1 h2=>zfr a _ rfl la p1 c1 s1 d1 W h1 h2
   have hO:∀ W,Calls Tryz.prog 63 #[.int .u32 1] W fun e w'=>∃ p c,e=.returned (.slice p (nlen (flR a).den) c)∧RN w' (.slice p (nlen (flR a).den) c) (flR a).den∧Below W.heap.size W w':=fun W=>z4T 1 1 rfl (by decide) W
   by_cases h0:flR a=a
   · have hC:∀ p1 c1 s1 d1 p2 c2 s2 d2 W,RN W (.slice p1 (zlen (flR a).num) c1) (flR a).num.natAbs→RN W (.slice s1 (nlen (flR a).den) d1) (flR a).den→RN W (.slice p2 (zlen a.num) c2) a.num.natAbs→RN W (.slice s2 (nlen a.den) d2) a.den→CR 48 #[.agg #[.bool (zneg (flR a).num),.slice p1 (zlen (flR a).num) c1,.slice s1 (nlen (flR a).den) d1],.agg #[.bool (zneg a.num),.slice p2 (zlen a.num) c2,.slice s2 (nlen a.den) d2]] W (.int .i64 0):=fun p1 c1 s1 d1 p2 c2 s2 d2 W h1 h2 h3 h4=>z9d (flR a) a 0 (z8J.2 h0) lf la p1 c1 s1 d1 p2 c2 s2 d2 W h1 h2 h3 h4
     rw[zaJ ha h0]
     exact z7b a.num b.num (flR a).num a.den b.den (flR a).den p1 c1 s1 d1 p2 c2 s2 d2 W hW hO hC r1 t1 r2 t2
   · have hk0:cmpQ (flR a) a≠0:=fun e=>h0 (z8J.1 e)
     have l1:LQ (1:Rat):=z1u zc5 (by decide) (by decide)
     have lg:LQ (flR a+1):=z1u (sf.add zc5) (by decide) (by decide)
     have hC:∀ p1 c1 s1 d1 p2 c2 s2 d2 W,RN W (.slice p1 (zlen (flR a).num) c1) (flR a).num.natAbs→RN W (.slice s1 (nlen (flR a).den) d1) (flR a).den→RN W (.slice p2 (zlen a.num) c2) a.num.natAbs→RN W (.slice s2 (nlen a.den) d2) a.den→CR 48 #[.agg #[.bool (zneg (flR a).num),.slice p1 (zlen (flR a).num) c1,.slice s1 (nlen (flR a).den) d1],.agg #[.bool (zneg a.num),.slice p2 (zlen a.num) c2,.slice s2 (nlen a.den) d2]] W (.int .i64 (cmpQ (flR a) a)):=fun p1 c1 s1 d1 p2 c2 s2 d2 W h1 h2 h3 h4=>z9d (flR a) a _ rfl lf la p1 c1 s1 d1 p2 c2 s2 d2 W h1 h2 h3 h4
     have hI:∀ W,Calls Tryz.prog 84 #[.int .i64 1] W fun e w'=>∃ p c s d,e=.returned (.agg #[.bool (zneg (1:Rat).num),.slice p (zlen (1:Rat).num) c,.slice s (nlen (1:Rat).den) d])∧RN w' (.slice p (zlen (1:Rat).num) c) (1:Rat).num.natAbs∧RN w' (.slice s (nlen (1:Rat).den) d) (1:Rat).den∧Below W.heap.size W w':=fun W=>zfw 1 1 1 rfl (by decide) rfl rfl W
     have hA:∀ p1 c1 s1 d1 p2 c2 s2 d2 W,RN W (.slice p1 (zlen (flR a).num) c1) (flR a).num.natAbs→RN W (.slice s1 (nlen (flR a).den) d1) (flR a).den→RN W (.slice p2 (zlen (1:Rat).num) c2) (1:Rat).num.natAbs→RN W (.slice s2 (nlen (1:Rat).den) d2) (1:Rat).den→Calls Tryz.prog 50 #[.agg #[.bool (zneg (flR a).num),.slice p1 (zlen (flR a).num) c1,.slice s1 (nlen (flR a).den) d1],.agg #[.bool (zneg (1:Rat).num),.slice p2 (zlen (1:Rat).num) c2,.slice s2 (nlen (1:Rat).den) d2]] W fun e w'=>∃ p c s d,e=.returned (.agg #[.bool (zneg (flR a+1).num),.slice p (zlen (flR a+1).num) c,.slice s (nlen (flR a+1).den) d])∧RN w' (.slice p (zlen (flR a+1).num) c) (flR a+1).num.natAbs∧RN w' (.slice s (nlen (flR a+1).den) d) (flR a+1).den∧Below W.heap.size W w':=fun p1 c1 s1 d1 p2 c2 s2 d2 W h1 h2 h3 h4=>zeG (flR a) 1 _ rfl lf l1 p1 c1 s1 d1 p2 c2 s2 d2 W h1 h2 h3 h4
     have hD:∀ p1 c1 s1 d1 p2 c2 s2 d2 W,RN W (.slice p1 (zlen (flR a+1).num) c1) (flR a+1).num.natAbs→RN W (.slice s1 (nlen (flR a+1).den) d1) (flR a+1).den→RN W (.slice p2 (zlen b.num) c2) b.num.natAbs→RN W (.slice s2 (nlen b.den) d2) b.den→CR 48 #[.agg #[.bool (zneg (flR a+1).num),.slice p1 (zlen (flR a+1).num) c1,.slice s1 (nlen (flR a+1).den) d1],.agg #[.bool (zneg b.num),.slice p2 (zlen b.num) c2,.slice s2 (nlen b.den) d2]] W (.int .i64 (cmpQ (flR a+1) b)):=fun p1 c1 s1 d1 p2 c2 s2 d2 W h1 h2 h3 h4=>z9d (flR a+1) b _ rfl lg lb p1 c1 s1 d1 p2 c2 s2 d2 W h1 h2 h3 h4
     by_cases h2:flR a+1≤b
     · rw[zaI ha hb hab h0 h2]
       exact z7a a.num b.num (flR a).num (cmpQ (flR a) a) (cmpQ (flR a+1) b) (1:Rat).num (flR a+1).num a.den b.den (flR a).den (1:Rat).den (flR a+1).den hk0 (by
        rcases z3K (flR a+1) b with⟨h,e⟩|⟨h,e⟩|⟨h,e⟩
        · omega
        · omega
        · exact absurd h2 (Rat.not_le.2 h)) p1 c1 s1 d1 p2 c2 s2 d2 W hW hO hC hI hA hD r1 t1 r2 t2
     · obtain⟨h3,hf,q1,q2,v1,v2,u1,u2,hle,n1,n2⟩:=z8i ha hb hab h0 h2
       have m1:=Nat.mod_lt a.num.natAbs a.den_pos
       have m2:=Nat.mod_lt b.num.natAbs b.den_pos
       have b0:b-flR a≠0:=fun e=>n1 (Rat.num_eq_zero.2 e)
       have a0:a-flR a≠0:=fun e=>n2 (Rat.num_eq_zero.2 e)
       have lbf:LQ (b-flR a):=z1u (sb.sub sf) (by decide) (by decide)
       have laf:LQ (a-flR a):=z1u (sa.sub sf) (by decide) (by decide)
       have sbi:SmQ 900 (b-flR a)⁻¹:=⟨by rw[v1,Int.natAbs_natCast];exact sb.2,by rw[v2];exact Sm.le sb.2 (by omega)⟩
       have sai:SmQ 900 (a-flR a)⁻¹:=⟨by rw[u1,Int.natAbs_natCast];exact sa.2,by rw[u2];exact Sm.le sa.2 (by omega)⟩
       have pb:0<(b-flR a)⁻¹.num:=by rw[v1];have:=b.den_pos;omega
       have pa:0<(a-flR a)⁻¹.num:=by rw[u1];have:=a.den_pos;omega
       have ss:=z4a pb pa hle sbi
       have ls:LQ (z0G (b-flR a)⁻¹ (a-flR a)⁻¹):=z1u ss (by decide) (by decide)
       have sp:=(z2m pb pa hle).2.2.1
       have s0:z0G (b-flR a)⁻¹ (a-flR a)⁻¹≠0:=fun e=>by rw[e]at sp;exact absurd sp (by decide)
       have li:LQ (z0G (b-flR a)⁻¹ (a-flR a)⁻¹)⁻¹:=z1u (ss.inv s0) (by decide) (by decide)
       have hrec:=zbB ha hb hab h0 h2
       exact z8b a.num b.num (flR a).num (cmpQ (flR a) a) (cmpQ (flR a+1) b) (1:Rat).num (flR a+1).num (b-flR a).num (b-flR a)⁻¹.num (a-flR a).num (a-flR a)⁻¹.num (z0G (b-flR a)⁻¹ (a-flR a)⁻¹).num (z0G (b-flR a)⁻¹ (a-flR a)⁻¹)⁻¹.num (z0G a b).num
        a.den b.den (flR a).den (1:Rat).den (flR a+1).den (b-flR a).den (b-flR a)⁻¹.den (a-flR a).den (a-flR a)⁻¹.den (z0G (b-flR a)⁻¹ (a-flR a)⁻¹).den (z0G (b-flR a)⁻¹ (a-flR a)⁻¹)⁻¹.den (z0G a b).den hk0 (by
         rcases z3K (flR a+1) b with⟨h,e⟩|⟨h,e⟩|⟨h,e⟩
         · exact absurd (Rat.le_of_lt h) h2
         · exact absurd (by rw[h];exact Rat.le_refl) h2
         · omega) p1 c1 s1 d1 p2 c2 s2 d2 W hW hO hC hI hA hD
        (fun p1 c1 s1 d1 p2 c2 s2 d2 W h1 h2 h3 h4=>zfv b (flR a) _ rfl lb lf p1 c1 s1 d1 p2 c2 s2 d2 W h1 h2 h3 h4) (fun p1 c1 s1 d1 W h1 h2=>zeF (b-flR a) _ rfl b0 lbf p1 c1 s1 d1 W h1 h2) (fun p1 c1 s1 d1 p2 c2 s2 d2 W h1 h2 h3 h4=>zfv a (flR a) _ rfl la lf p1 c1 s1 d1 p2 c2 s2 d2 W h1 h2 h3 h4) (fun p1 c1 s1 d1 W h1 h2=>zeF (a-flR a) _ rfl a0 laf p1 c1 s1 d1 W h1 h2)
        (fun p1 c1 s1 d1 p2 c2 s2 d2 W h1 h2 h3 h4=>ih (b-flR a)⁻¹ (a-flR a)⁻¹ (by omega) pb pa hle sbi sai p1 c1 s1 d1 p2 c2 s2 d2 W h1 h2 h3 h4)
        (fun p1 c1 s1 d1 W h1 h2=>zeF (z0G (b-flR a)⁻¹ (a-flR a)⁻¹) _ rfl s0 ls p1 c1 s1 d1 W h1 h2) (fun p1 c1 s1 d1 p2 c2 s2 d2 W h1 h2 h3 h4=>zeG (flR a) (z0G (b-flR a)⁻¹ (a-flR a)⁻¹)⁻¹ (z0G a b) hrec.symm lf li p1 c1 s1 d1 p2 c2 s2 d2 W h1 h2 h3 h4) r1 t1 r2 t2
theorem z5b (x y:Rat)(h:y<x)(hx:SmQ 900 x)(hy:SmQ 900 y)(sx:(Sq x).size≤1000)(sy:(Sq y).size≤1000)(W:World) :
 CR 32 #[.string (Sq x),.string (Sq y)] W (.tuple #[.string ⟨#[]⟩,.int .i64 5]) :=
 z6q (Sq x) (Sq y) x.num y.num x.den y.den (cmpQ x y) (by rw[z9F h];decide) W (fun W=>za8 x y hx hy sx sy W) (fun p1 c1 s1 d1 p2 c2 s2 d2 W h1 h2 h3 h4=>z9d x y _ rfl (z1u hx (by decide) (by decide)) (z1u hy (by decide) (by decide)) p1 c1 s1 d1 p2 c2 s2 d2 W h1 h2 h3 h4)
theorem z5u (x y:Rat)(h:x≤y)(h1:x.num≤0)(h2:0≤y.num)(hx:SmQ 900 x)(hy:SmQ 900 y)(sx:(Sq x).size≤1000)(sy:(Sq y).size≤1000)(W:World) :
 CR 32 #[.string (Sq x),.string (Sq y)] W (.tuple #[.string ⟨#[48]⟩,.int .i64 0]) :=
 z7O (Sq x) (Sq y) x.num y.num x.den y.den (cmpQ x y) x.num.sign y.num.sign (z4S h) (z99 h1) (z9a h2) W (fun W=>za8 x y hx hy sx sy W) (fun p1 c1 s1 d1 p2 c2 s2 d2 W h1 h2 h3 h4=>z9d x y _ rfl (z1u hx (by decide) (by decide)) (z1u hy (by decide) (by decide)) p1 c1 s1 d1 p2 c2 s2 d2 W h1 h2 h3 h4) (fun p1 c1 s1 d1 W h1 h2=>z5x x _ rfl p1 c1 s1 d1 W h1 h2) (fun p1 c1 s1 d1 W h1 h2=>z5x y _ rfl p1 c1 s1 d1 W h1 h2)
theorem z6h (x y:Rat)(h:x≤y)(hp1:0<x.num)(hp2:0<y.num)(hx:SmQ 900 x)(hy:SmQ 900 y)(sx:(Sq x).size≤1000)(sy:(Sq y).size≤1000)(W:World) :
 CR 32 #[.string (Sq x),.string (Sq y)] W (.tuple #[.string (Sq (z0G x y)),.int .i64 0]) :=
 z8V (Sq x) (Sq y) x.num y.num x.den y.den (cmpQ x y) x.num.sign (z0G x y).num (z0G x y).den (Sq (z0G x y)) (z4S h) (by rw[Int.sign_eq_one_of_pos hp1];decide) W (fun W=>za8 x y hx hy sx sy W) (fun p1 c1 s1 d1 p2 c2 s2 d2 W h1 h2 h3 h4=>z9d x y _ rfl (z1u hx (by decide) (by decide)) (z1u hy (by decide) (by decide)) p1 c1 s1 d1 p2 c2 s2 d2 W h1 h2 h3 h4) (fun p1 c1 s1 d1 W h1 h2=>z5x x _ rfl p1 c1 s1 d1 W h1 h2)
  (fun p1 c1 s1 d1 p2 c2 s2 d2 W h1 h2 h3 h4=>zfu _ x y (Nat.le_refl _) hp1 hp2 h hx hy p1 c1 s1 d1 p2 c2 s2 d2 W h1 h2 h3 h4) (fun p1 c1 s1 d1 W h1 h2=>sQTo (z0G x y) _ rfl (SmQ.mono (z4a hp1 hp2 h hx) (by decide)) p1 c1 s1 d1 W h1 h2)
theorem z6i (x y:Rat)(h:x≤y)(h1:x.num<0)(h2:y.num<0)(hx:SmQ 900 x)(hy:SmQ 900 y)(sx:(Sq x).size≤1000)(sy:(Sq y).size≤1000)(W:World) :
 CR 32 #[.string (Sq x),.string (Sq y)] W (.tuple #[.string (Sq (-(z0G (-y) (-x)))),.int .i64 0]):=by
 have hn : -y ≤ -x:=Rat.neg_le_neg h
 have hq1:0<(-y).num:=by show 0 < -y.num;omega
 have hq2:0<(-x).num:=by show 0 < -x.num;omega
 have ss:=z4a hq1 hq2 hn hy.neg
 have ls:LQ (z0G (-y) (-x)):=z1u ss (by decide) (by decide)
 exact z8W (Sq x) (Sq y) x.num y.num x.den y.den (cmpQ x y) x.num.sign y.num.sign (-x).num (-y).num (z0G (-y) (-x)).num (-(z0G (-y) (-x))).num (-x).den (-y).den (z0G (-y) (-x)).den (-(z0G (-y) (-x))).den (Sq (-(z0G (-y) (-x)))) (z4S h) (z99 (by omega)) (by rw[Int.sign_eq_neg_one_of_neg h2];decide) W (fun W=>za8 x y hx hy sx sy W) (fun p1 c1 s1 d1 p2 c2 s2 d2 W h1 h2 h3 h4=>z9d x y _ rfl (z1u hx (by decide) (by decide)) (z1u hy (by decide) (by decide)) p1 c1 s1 d1 p2 c2 s2 d2 W h1 h2 h3 h4) (fun p1 c1 s1 d1 W h1 h2=>z5x x _ rfl p1 c1 s1 d1 W h1 h2) (fun p1 c1 s1 d1 W h1 h2=>z5x y _ rfl p1 c1 s1 d1 W h1 h2)
  (fun p1 c1 s1 d1 W h1 h2=>zdb y _ rfl (z1u hy (by decide) (by decide)) p1 c1 s1 d1 W h1 h2) (fun p1 c1 s1 d1 W h1 h2=>zdb x _ rfl (z1u hx (by decide) (by decide)) p1 c1 s1 d1 W h1 h2)
  (fun p1 c1 s1 d1 p2 c2 s2 d2 W h1 h2 h3 h4=>zfu _ (-y) (-x) (Nat.le_refl _) hq1 hq2 hn hy.neg hx.neg p1 c1 s1 d1 p2 c2 s2 d2 W h1 h2 h3 h4) (fun p1 c1 s1 d1 W h1 h2=>zdb (z0G (-y) (-x)) _ rfl ls p1 c1 s1 d1 W h1 h2) (fun p1 c1 s1 d1 W h1 h2=>sQTo (-(z0G (-y) (-x))) _ rfl (SmQ.mono ss.neg (by decide)) p1 c1 s1 d1 W h1 h2)
theorem z6U (a b:ByteArray)(h:(vldQ a.data.toList&&vldQ b.data.toList)=false)(ha:a.size≤900)(hb:b.size≤900)(W:World) :
 CR 32 #[.string a,.string b] W (.tuple #[.string ⟨#[]⟩,.int .i64 1]):=by
 obtain⟨x,y,hB⟩:=zbF a b h ha hb
 exact z9N a b x.num y.num x.den y.den W hB
theorem z6z (a:ByteArray)(ha:a.size≤900)(w:World)(hl:La w) :
 Calls Tryz.prog 42 #[.string a] w fun e w'=>(∃ s b:ByteArray,e=.returned (.tuple #[.agg #[.string s,.string b],.bool (vldQ a.data.toList)]))∧Below w.heap.size w w':=by
 cases h:vldQ a.data.toList with
 | false=>exact zar a h ha w hl
 | true =>
   have e:=zd8 h
   obtain⟨q,hq⟩:∃ q,q=qval a.data.toList:=⟨_,rfl⟩
   rw[← hq]at e
   subst e
   refine(z1Q q ((z3M ha (by decide)).fit (by decide)) w hl).mono ?_
   rintro e w' ⟨rfl,hb⟩
   exact⟨⟨_,_,rfl⟩,hb⟩
theorem zdo (a b:ByteArray)(h:(vldQ a.data.toList&&vldQ b.data.toList)=false)(ha:a.size≤900)(hb:b.size≤900)(w:World)(hl:La w) :
 Calls Tryz.prog 45 #[.string a,.string b] w fun e w'=>∃ s b t c:ByteArray,e=.returned (.tuple #[.agg #[.string s,.string b],.agg #[.string t,.string c],.bool false])∧Below w.heap.size w w':=by
 refine(z7y a b _ _ w hl (fun W hW=>z6z a ha W hW) (fun W hW=>z6z b hb W hW)).mono ?_
 rintro e w' ⟨⟨s,u,t,c,rfl⟩,hB⟩
 rw[h]
 exact⟨s,u,t,c,rfl,hB⟩
end Go.Proofs.YtmigpoiajkihhaaGreatDoor
