/- Texts of this proof, one behind the other. -/
import Derived.Test.YtmigpoiajkihhaaGreatDoorMz45q
import Derived.Test.YtmigpoiajkihhaaGreatDoorMz50q
import Derived.Test.YtmigpoiajkihhaaGreatDoorSs
import Derived.Test.YtmigpoiajkihhaaGreatDoorSu
import Derived.Test.YtmigpoiajkihhaaGreatDoorSv
namespace Go.Proofs.YtmigpoiajkihhaaGreatDoor
open Go.RowKit Go.Gb
theorem cZ {f:FuncId}{args:Array Value}{w:World}{v:Value}(h:Calls Tryz.prog f args w fun e w'=>e=.returned v∧w=w'):Calls Tryz.prog f args w fun e w'=>e=.returned v∧Below w.heap.size w w':=by
 refine h.mono ?_
 rintro e w' ⟨rfl,rfl⟩
 exact⟨rfl,Below.refl _ _⟩
theorem vz {s:ByteArray}{k:Nat}(h:k<s.size):s[k]=s.data.toList[k]'(by rw[ax];exact h):=(eY s k h).symm
theorem rO (s:ByteArray)(hn:(47:UInt8)∉s.data.toList)(hs:s.size≤1000)(W:World) :
 CR 43 #[.string s] W (.tuple #[.string s,.string ⟨#[49]⟩,.bool false]) :=
 cZ (z0J s (fun k h e=>hn (by rw[← e,vz h];exact List.getElem_mem _)) (by unfold maxLen;omega) W)
theorem oq (s:ByteArray)(x y:List UInt8)(hl:s.data.toList=x++47 :: y)(hn:(47:UInt8)∉x)(hs:s.size≤1000)(W:World) :
 CR 43 #[.string s] W (.tuple #[.string ⟨x.toArray⟩,.string ⟨y.toArray⟩,.bool true]):=by
 have hsz:s.size=x.length+(y.length+1):=by rw[← ax,hl];simp
 have hxs:(⟨x.toArray⟩:ByteArray).size=x.length:=by show x.toArray.size=_;simp
 refine yL s ⟨x.toArray⟩ ⟨y.toArray⟩ (by omega) ?_ ?_ ?_ ?_ (by unfold maxLen;omega) W
 · intro k hk h2 e
   apply hn
   rw[← e,vz h2]
   simp only[hl]
   rw[List.getElem_append_left (by omega)]
   exact List.getElem_mem _
 · rw[vz (by omega)]
   simp only[hl,hxs]
   rw[List.getElem_append_right (Nat.le_refl _)]
   simp
 · apply ByteArray.ext;apply Array.ext'
   rw[fB,hl,hxs];simp
 · apply ByteArray.ext;apply Array.ext'
   rw[fB,hl,hxs,hsz];simp
   exact List.take_of_length_le (by omega)
theorem z2A (q:Rat)(hq:SmQ 900 q)(hs:(Sq q).size≤1000)(W:World) :
 Calls Tryz.prog 44 #[.string (Sq q)] W fun e w'=>∃ p c s d,e=.returned (.tuple #[.agg #[.bool (ag q.num),.slice p (aa q.num) c,.slice s (ae q.den) d],.bool true])∧RN w' (.slice p (aa q.num) c) q.num.natAbs∧RN w' (.slice s (ae q.den) d) q.den∧Below W.heap.size W w':=by
 have fn:FitZ q.num:=by unfold FitZ Fit;exact Sm.mono hq.1 (by decide)
 have z1:(Sz q.num).size≤901:=jH hq.1 (by decide)
 have z2:(Sn q.den).size≤900:=gY hq.2 (by decide)
 have hR:=fun W=>xC (z3m q.num fn W)
 by_cases hd:q.den=1
 · rw[iW hd]at hs ⊢
   rw[hd]
   refine z1s (Sz q.num) (Sz q.num) ⟨#[49]⟩ q.num 1 W (fun W=>rO _ (z0B 47 (by decide) (by decide) _) hs W) (fun W=>cZ (uk q.num (by omega) W)) (fun W=>cZ ?_) hR (fun W=>?_)
   · exact fT ⟨#[49]⟩ W (by decide)
   · exact mU (jk ⟨#[49]⟩ (by decide) (by decide) W)
 · have hn0:q.num≠0:=by
    intro e
    have:=q.reduced
    rw[e]at this
    unfold Nat.Coprime at this
    rw[Int.natAbs_zero,Nat.gcd_zero_left]at this
    exact hd this
   have hd1:1<q.den:=by have:=q.den_pos;omega
   have lz:aa q.num≤900:=gq hq.1 (by decide)
   have ln:ae q.den≤900:=gq hq.2 (by decide)
   have e0:Sn q.den=⟨(Lib.decDigits q.den).toArray⟩:=rfl
   have e1:(⟨(Sz q.num).data.toList.toArray⟩:ByteArray)=Sz q.num:=by simp
   have hsp:=fun W=>oq (Sq q) _ _ (gM hd) (z0B 47 (by decide) (by decide) _) hs W
   rw[e1,← e0]at hsp
   refine zU (Sq q) (Sz q.num) (Sn q.den) q.num 1 q.num.sign q.den 1 1 (by decide) (fun e=>hn0 (Int.sign_eq_zero_iff_zero.1 e)) W hsp (fun W=>cZ (uk q.num (by omega) W)) (fun W=>cZ ?_) hR (fun W=>?_)
    (fun W=>lC 1 1 rfl (by decide) W) (fun s1 d1 s2 d2 W h1 h2=>?_) (fun p c W h=>uA q.num _ rfl p c W h) (fun p1 c1 s2 d2 W h1 h2=>?_) (fun s1 d1 s2 d2 W h1 h2=>?_)
   · have h:=fT (Sn q.den) W (by unfold maxLen;omega)
     rwa [dR]at h
   · have h:=mU (jk (Sn q.den) (by rw[bO];exact iL _) (by omega) W)
     rwa [bL]at h
   · have h:=cCmp (.slice s1 (ae q.den) d1) (.slice s2 (ae 1) d2) q.den 1 (by omega) W h1 h2
     rwa [show cmpN q.den 1=1 by unfold cmpN;rw[if_neg (by omega),if_pos hd1]]at h
   · exact nI _ _ _ _ 1 q.reduced (Nat.le_trans lz (by decide)) (by omega) W h1 h2
   · have h:=cCmp (.slice s1 (ae 1) d1) (.slice s2 (ae 1) d2) 1 1 (by rw[jZ];decide) W h1 h2
     rwa [show cmpN 1 1=0 by decide]at h
theorem z0M (a:ByteArray)(hv:vldQ a.data.toList=false)(hs:a.size≤900)(W:World) :
 Calls Tryz.prog 44 #[.string a] W fun e w'=>∃ p c s d,e=.returned (.tuple #[.agg #[.bool (ag (0:Rat).num),.slice p (aa (0:Rat).num) c,.slice s (ae (0:Rat).den) d],.bool false])∧RN w' (.slice p (aa (0:Rat).num) c) (0:Rat).num.natAbs∧RN w' (.slice s (ae (0:Rat).den) d) (0:Rat).den∧Below W.heap.size W w':=by
 have hI:=fun W=>z3z 0 0 0 rfl (by decide) rfl rfl W
 rcases nC 47 a.data.toList with⟨h47,e⟩|⟨x,y,h47,el,e⟩
 · unfold vldQ at hv
   rw[e]at hv
   simp only[Bool.false_eq_true,if_false]at hv
   exact sS a a ⟨#[49]⟩ _ _ false W (fun W=>rO a h47 (by omega) W) (fun W=>cZ (og a hv (by omega) W)) hI
 · have hlen:x.length+(y.length+1)=a.size:=by rw[← ax,el];simp
   have hsp:=fun W=>oq a x y el h47 (by omega) W
   have sx:(⟨x.toArray⟩:ByteArray).size≤1000:=by show x.toArray.size≤1000;simp;omega
   have sy:(⟨y.toArray⟩:ByteArray).size≤900:=by show y.toArray.size≤900;simp;omega
   unfold vldQ at hv
   rw[e]at hv
   simp only[if_true]at hv
   cases hx:vldZ x with
   | false=>exact sS a ⟨x.toArray⟩ ⟨y.toArray⟩ _ _ true W hsp (fun W=>cZ (og ⟨x.toArray⟩ (by simpa using hx) sx W)) hI
   | true =>
     obtain⟨z,hz⟩:∃ z,z=zval x:=⟨_,rfl⟩
     have ex:(⟨x.toArray⟩:ByteArray)=Sz z:=by rw[hz];have:=yG (a:=⟨x.toArray⟩) (by simpa using hx);simpa using this
     have sx2:(Sz z).size≤900:=by rw[← ex];show x.toArray.size≤900;simp;omega
     rw[ex]at hsp sx
     have hVx:=fun W=>cZ (uk z sx W)
     cases hy:vld y with
     | false =>
       refine zV a (Sz z) ⟨y.toArray⟩ _ _ true W hsp hVx (fun W=>cZ ?_) hI
       have h:=fT ⟨y.toArray⟩ W (by unfold maxLen;omega)
       rwa [show vld (⟨y.toArray⟩:ByteArray).data.toList=false by simpa using hy]at h
     | true =>
       obtain⟨n,hn⟩:∃ n,n=aB y:=⟨_,rfl⟩
       have ey:(⟨y.toArray⟩:ByteArray)=Sn n:=by rw[hn];have:=z4i (a:=⟨y.toArray⟩) (by simpa using hy);simpa using this
       have yl:y=Lib.decDigits n:=by
        have:=congrArg (fun b:ByteArray=>b.data.toList) ey
        simpa [bO] using this
       rw[ey]at hsp sy
       have hVy:CQ 80 #[.string (Sn n)] (.bool true):=fun W=>cZ (by
        have h:=fT (Sn n) W (by unfold maxLen;omega)
        rwa [dR]at h)
       have kz:Sm 900 z.natAbs:=iX sx2
       have kn:Sm 900 n:=by have:=Sm.of (a:=Sn n) (dR n) sy;rwa [bL]at this
       have lz:aa z≤900:=gq kz (by decide)
       have ln:ae n≤900:=gq kn (by decide)
       have hR:=fun W=>xC (z3m z (by unfold FitZ Fit;exact Sm.mono kz (by decide)) W)
       have hF:∀ W,CN 70 #[.string (Sn n)] W n:=fun W=>by
        have h:=mU (jk (Sn n) (by rw[bO];exact iL _) (by omega) W)
        rwa [bL]at h
       have hO:=fun W=>lC 1 1 rfl (by decide) W
       have hC:=fun(s1:Option Addr) (d1:Nat) (s2:Option Addr) (d2:Nat) W h1 h2=>cCmp (.slice s1 (ae n) d1) (.slice s2 (ae 1) d2) n 1 (by omega) W h1 h2
       have hS:=fun p c W h=>uA z _ rfl p c W h
       by_cases n1:n≤1
       · exact xU a (Sz z) (Sn n) z (cmpN n 1) _ n 1 _ (by unfold cmpN;split<;>first|(split<;>omega)|omega) W hsp hVx hVy hR hF hO hC hI
       · have hk:0<cmpN n 1:=by unfold cmpN;rw[if_neg (by omega),if_pos (by omega)];decide
         by_cases z0:z=0
         · subst z0
           exact zT a (Sz 0) (Sn n) 0 (cmpN n 1) _ n 1 _ hk W hsp hVx hVy hR hF hO hC hS hI
         · have hsg:z.sign≠0:=fun e=>z0 (Int.sign_eq_zero_iff_zero.1 e)
           have hG:=fun(p1:Option Addr) (c1:Nat) (s2:Option Addr) (d2:Nat) W h1 h2=>nI (.slice p1 (aa z) c1) (.slice s2 (ae n) d2) z.natAbs n _ rfl (Nat.le_trans lz (by decide)) (by omega) W h1 h2
           have lg:ae (Nat.gcd z.natAbs n)≤900:=Nat.le_trans (fo (Nat.gcd_le_right _ (by omega))) ln
           by_cases g1:Nat.gcd z.natAbs n=1
           · exfalso
             have:vldP x y=true:=by
              unfold vldP
              rw[hx,yl,pz,lT,← hz]
              have e1:(Lib.decDigits n==[49])=false:=by
                rw[beq_eq_false_iff_ne]
                intro e
                have e2:Sn n=Sn 1:=by
                 apply ByteArray.ext;apply Array.ext'
                 rw[bO,e];decide +kernel
                have:=z2c e2
                omega
              rw[e1]
              simp[g1]
              omega
             rw[this]at hv
             cases hv
           · refine uQ a (Sz z) (Sn n) z (cmpN n 1) (cmpN (Nat.gcd z.natAbs n) 1) _ _ n 1 (Nat.gcd z.natAbs n) _ hk hsg ?_ W hsp hVx hVy hR hF hO hC hS hG (fun s1 d1 s2 d2 W h1 h2=>cCmp _ _ _ _ (by omega) W h1 h2) hI
             unfold cmpN
             split
             · decide
             · split
               · decide
               · omega
theorem dV {q:Rat}{k:Nat}(h:SmQ k q)(h0:0<k)(hk:k≤10000):LQ q:=⟨Nat.le_trans (gq h.1 h0) hk,Nat.le_trans (gq h.2 h0) hk⟩
theorem rP (a:ByteArray)(ha:a.size≤900):∃ q:Rat,∀ W,Calls Tryz.prog 44 #[.string a] W fun e w'=>∃ p c s d,e=.returned (.tuple #[.agg #[.bool (ag q.num),.slice p (aa q.num) c,.slice s (ae q.den) d],.bool (vldQ a.data.toList)])∧RN w' (.slice p (aa q.num) c) q.num.natAbs∧RN w' (.slice s (ae q.den) d) q.den∧Below W.heap.size W w':=by
 cases h:vldQ a.data.toList with
 | false=>exact⟨0,fun W=>z0M a h ha W⟩
 | true =>
   have e:=z0I h
   obtain⟨q,hq⟩:∃ q,q=qval a.data.toList:=⟨_,rfl⟩
   rw[← hq]at e
   subst e
   exact⟨q,fun W=>z2A q (jE ha (by decide)) (by omega) W⟩
theorem wB (x y:Rat)(hx:SmQ 900 x)(hy:SmQ 900 y)(sx:(Sq x).size≤1000)(sy:(Sq y).size≤1000)(W:World):Calls Tryz.prog 47 #[.string (Sq x),.string (Sq y)] W fun e w'=>∃ p c s d p' c' s' d',e=.returned (.tuple #[.agg #[.bool (ag x.num),.slice p (aa x.num) c,.slice s (ae x.den) d],.agg #[.bool (ag y.num),.slice p' (aa y.num) c',.slice s' (ae y.den) d'],.int .i64 0])∧RN w' (.slice p (aa x.num) c) x.num.natAbs∧RN w' (.slice s (ae x.den) d) x.den∧RN w' (.slice p' (aa y.num) c') y.num.natAbs∧RN w' (.slice s' (ae y.den) d') y.den∧Below W.heap.size W w' :=
 z1H (Sq x) (Sq y) x.num y.num x.den y.den W (fun W=>z2A x hx sx W) (fun W=>z2A y hy sy W)
theorem yU (a b:ByteArray)(h:(vldQ a.data.toList&&vldQ b.data.toList)=false)(ha:a.size≤900)(hb:b.size≤900):∃ x y:Rat,∀ W,Calls Tryz.prog 47 #[.string a,.string b] W fun e w'=>∃ p c s d p' c' s' d',e=.returned (.tuple #[.agg #[.bool (ag x.num),.slice p (aa x.num) c,.slice s (ae x.den) d],.agg #[.bool (ag y.num),.slice p' (aa y.num) c',.slice s' (ae y.den) d'],.int .i64 1])∧RN w' (.slice p (aa x.num) c) x.num.natAbs∧RN w' (.slice s (ae x.den) d) x.den∧RN w' (.slice p' (aa y.num) c') y.num.natAbs∧RN w' (.slice s' (ae y.den) d') y.den∧Below W.heap.size W w':=by
 obtain⟨x,h1⟩:=rP a ha
 obtain⟨y,h2⟩:=rP b hb
 refine⟨x,y,fun W=>?_⟩
 cases va:vldQ a.data.toList with
 | false =>
   rw[va]at h1
   exact z1J a b x.num y.num x.den y.den _ W h1 h2
 | true =>
   rw[va,Bool.true_and]at h
   rw[va]at h1
   rw[h]at h2
   exact z1I a b x.num y.num x.den y.den W h1 h2
theorem lw {x y:Rat}(h:x≤y):cmpQ x y≤0:=by
 rcases jC x y with⟨_,e⟩|⟨_,e⟩|⟨h',e⟩
 · omega
 · omega
 · exact absurd h (Rat.not_le.2 h')
theorem uw {z:Int}(h:z≤0):z.sign≤0:=by
 rcases Int.lt_or_le z 0 with h1|h1
 · rw[Int.sign_eq_neg_one_of_neg h1];decide
 · have:z=0:=by omega
   subst this;decide
theorem uy {z:Int}(h:0≤z):0≤z.sign:=by
 rcases Int.lt_or_le 0 z with h1|h1
 · rw[Int.sign_eq_one_of_pos h1];decide
 · have:z=0:=by omega
   subst this;decide
theorem jS {k:Nat}{a b:Rat}(ha:0<a.num)(hb:0<b.num)(hab:a≤b)(h:SmQ k a):SmQ k (bJ a b):=by
 obtain⟨_,_,_,h1,_,h2,_⟩:=gu ha hb hab
 exact⟨Sm.le h.1 h1,Sm.le h.2 h2⟩
theorem z3u (x:Rat)(z:Int)(hz:x.num / (x.den:Int)=z)(hx:LQ x)(p1:Option Addr)(c1:Nat)(s1:Option Addr)(d1:Nat)(W:World)(r1:RN W (.slice p1 (aa x.num) c1) x.num.natAbs)(t1:RN W (.slice s1 (ae x.den) d1) x.den) :
 CZ 57 #[.agg #[.bool (ag x.num),.slice p1 (aa x.num) c1,.slice s1 (ae x.den) d1]] W z :=
 yB x.num (x.den:Int) z (x.num%(x.den:Int)) x.den p1 c1 s1 d1 W (fun s d W h=>iM false _ x.den _ (by simp) (Nat.le_trans hx.2 (by decide)) W h) (fun p1 c1 p2 c2 W h1 h2=>z4j x.num (x.den:Int) z _ hz rfl (by have:=x.den_pos;omega) (Nat.le_trans hx.1 (by decide)) (by rw[oP];exact Nat.le_trans hx.2 (by decide)) p1 c1 p2 c2 W h1 h2) r1 t1
theorem z4y {k:Nat}{x:Rat}(hx:Sm k x.num.natAbs):Sm k (x.num / (x.den:Int)).natAbs:=Sm.le hx (Int.natAbs_ediv_le_natAbs _ _)
theorem z3T {k:Nat}{a:Rat}(h:SmQ k a)(h0:0<k):SmQ k (flR a):=⟨z4y h.1,(show Sm 1 1 by simp[Sm]).mono h0⟩
theorem zF:SmQ 1 1:=⟨by show Sm 1 1;simp[Sm],by show Sm 1 1;simp[Sm]⟩
theorem z3x (k:Nat):∀ (a b:Rat),a.den+b.den≤k→0<a.num→0<b.num→a≤b→SmQ 900 a→SmQ 900 b→∀ (p1:Option Addr) (c1:Nat) (s1:Option Addr) (d1:Nat) (p2:Option Addr) (c2:Nat) (s2:Option Addr) (d2:Nat) (W:World),RN W (.slice p1 (aa a.num) c1) a.num.natAbs→RN W (.slice s1 (ae a.den) d1) a.den→RN W (.slice p2 (aa b.num) c2) b.num.natAbs→RN W (.slice s2 (ae b.den) d2) b.den →
 Calls Tryz.prog 74 #[.agg #[.bool (ag a.num),.slice p1 (aa a.num) c1,.slice s1 (ae a.den) d1],.agg #[.bool (ag b.num),.slice p2 (aa b.num) c2,.slice s2 (ae b.den) d2]] W fun e w'=>∃ p c s d,e=.returned (.agg #[.bool (ag (bJ a b).num),.slice p (aa (bJ a b).num) c,.slice s (ae (bJ a b).den) d])∧RN w' (.slice p (aa (bJ a b).num) c) (bJ a b).num.natAbs∧RN w' (.slice s (ae (bJ a b).den) d) (bJ a b).den∧Below W.heap.size W w':=by
 induction k with
 | zero=>intro a b hk;have:=a.den_pos;omega
 | succ k ih =>
   intro a b hk ha hb hab sa sb p1 c1 s1 d1 p2 c2 s2 d2 W r1 t1 r2 t2
   have la:LQ a:=dV sa (by decide) (by decide)
   have lb:LQ b:=dV sb (by decide) (by decide)
   have sf:=z3T sa (by decide)
   have lf:LQ (flR a):=dV sf (by decide) (by decide)
   have hW:∀ p1 c1 s1 d1 W,RN W (.slice p1 (aa a.num) c1) a.num.natAbs→RN W (.slice s1 (ae a.den) d1) a.den→Calls Tryz.prog 57 #[.agg #[.bool (ag a.num),.slice p1 (aa a.num) c1,.slice s1 (ae a.den) d1]] W fun e w'=>∃ p c,e=.returned (.agg #[.bool (ag (flR a).num),.slice p (aa (flR a).num) c])∧RN w' (.slice p (aa (flR a).num) c) (flR a).num.natAbs∧Below W.heap.size W w':=fun p1 c1 s1 d1 W h1 h2=>z3u a _ rfl la p1 c1 s1 d1 W h1 h2
   have hO:∀ W,Calls Tryz.prog 63 #[.int .u32 1] W fun e w'=>∃ p c,e=.returned (.slice p (ae (flR a).den) c)∧RN w' (.slice p (ae (flR a).den) c) (flR a).den∧Below W.heap.size W w':=fun W=>lC 1 1 rfl (by decide) W
   by_cases h0:flR a=a
   · have hC:∀ p1 c1 s1 d1 p2 c2 s2 d2 W,RN W (.slice p1 (aa (flR a).num) c1) (flR a).num.natAbs→RN W (.slice s1 (ae (flR a).den) d1) (flR a).den→RN W (.slice p2 (aa a.num) c2) a.num.natAbs→RN W (.slice s2 (ae a.den) d2) a.den→CR 48 #[.agg #[.bool (ag (flR a).num),.slice p1 (aa (flR a).num) c1,.slice s1 (ae (flR a).den) d1],.agg #[.bool (ag a.num),.slice p2 (aa a.num) c2,.slice s2 (ae a.den) d2]] W (.int .i64 0):=fun p1 c1 s1 d1 p2 c2 s2 d2 W h1 h2 h3 h4=>uB (flR a) a 0 (tJ.2 h0) lf la p1 c1 s1 d1 p2 c2 s2 d2 W h1 h2 h3 h4
     rw[xy ha h0]
     exact pQ a.num b.num (flR a).num a.den b.den (flR a).den p1 c1 s1 d1 p2 c2 s2 d2 W hW hO hC r1 t1 r2 t2
   · have hk0:cmpQ (flR a) a≠0:=fun e=>h0 (tJ.1 e)
     have l1:LQ (1:Rat):=dV zF (by decide) (by decide)
     have lg:LQ (flR a+1):=dV (sf.add zF) (by decide) (by decide)
     have hC:∀ p1 c1 s1 d1 p2 c2 s2 d2 W,RN W (.slice p1 (aa (flR a).num) c1) (flR a).num.natAbs→RN W (.slice s1 (ae (flR a).den) d1) (flR a).den→RN W (.slice p2 (aa a.num) c2) a.num.natAbs→RN W (.slice s2 (ae a.den) d2) a.den→CR 48 #[.agg #[.bool (ag (flR a).num),.slice p1 (aa (flR a).num) c1,.slice s1 (ae (flR a).den) d1],.agg #[.bool (ag a.num),.slice p2 (aa a.num) c2,.slice s2 (ae a.den) d2]] W (.int .i64 (cmpQ (flR a) a)):=fun p1 c1 s1 d1 p2 c2 s2 d2 W h1 h2 h3 h4=>uB (flR a) a _ rfl lf la p1 c1 s1 d1 p2 c2 s2 d2 W h1 h2 h3 h4
     have hI:∀ W,Calls Tryz.prog 84 #[.int .i64 1] W fun e w'=>∃ p c s d,e=.returned (.agg #[.bool (ag (1:Rat).num),.slice p (aa (1:Rat).num) c,.slice s (ae (1:Rat).den) d])∧RN w' (.slice p (aa (1:Rat).num) c) (1:Rat).num.natAbs∧RN w' (.slice s (ae (1:Rat).den) d) (1:Rat).den∧Below W.heap.size W w':=fun W=>z3z 1 1 1 rfl (by decide) rfl rfl W
     have hA:∀ p1 c1 s1 d1 p2 c2 s2 d2 W,RN W (.slice p1 (aa (flR a).num) c1) (flR a).num.natAbs→RN W (.slice s1 (ae (flR a).den) d1) (flR a).den→RN W (.slice p2 (aa (1:Rat).num) c2) (1:Rat).num.natAbs→RN W (.slice s2 (ae (1:Rat).den) d2) (1:Rat).den→Calls Tryz.prog 50 #[.agg #[.bool (ag (flR a).num),.slice p1 (aa (flR a).num) c1,.slice s1 (ae (flR a).den) d1],.agg #[.bool (ag (1:Rat).num),.slice p2 (aa (1:Rat).num) c2,.slice s2 (ae (1:Rat).den) d2]] W fun e w'=>∃ p c s d,e=.returned (.agg #[.bool (ag (flR a+1).num),.slice p (aa (flR a+1).num) c,.slice s (ae (flR a+1).den) d])∧RN w' (.slice p (aa (flR a+1).num) c) (flR a+1).num.natAbs∧RN w' (.slice s (ae (flR a+1).den) d) (flR a+1).den∧Below W.heap.size W w':=fun p1 c1 s1 d1 p2 c2 s2 d2 W h1 h2 h3 h4=>z2z (flR a) 1 _ rfl lf l1 p1 c1 s1 d1 p2 c2 s2 d2 W h1 h2 h3 h4
     have hD:∀ p1 c1 s1 d1 p2 c2 s2 d2 W,RN W (.slice p1 (aa (flR a+1).num) c1) (flR a+1).num.natAbs→RN W (.slice s1 (ae (flR a+1).den) d1) (flR a+1).den→RN W (.slice p2 (aa b.num) c2) b.num.natAbs→RN W (.slice s2 (ae b.den) d2) b.den→CR 48 #[.agg #[.bool (ag (flR a+1).num),.slice p1 (aa (flR a+1).num) c1,.slice s1 (ae (flR a+1).den) d1],.agg #[.bool (ag b.num),.slice p2 (aa b.num) c2,.slice s2 (ae b.den) d2]] W (.int .i64 (cmpQ (flR a+1) b)):=fun p1 c1 s1 d1 p2 c2 s2 d2 W h1 h2 h3 h4=>uB (flR a+1) b _ rfl lg lb p1 c1 s1 d1 p2 c2 s2 d2 W h1 h2 h3 h4
     by_cases h2:flR a+1≤b
     · rw[xw ha hb hab h0 h2]
       exact pO a.num b.num (flR a).num (cmpQ (flR a) a) (cmpQ (flR a+1) b) (1:Rat).num (flR a+1).num a.den b.den (flR a).den (1:Rat).den (flR a+1).den hk0 (by
        rcases jC (flR a+1) b with⟨h,e⟩|⟨h,e⟩|⟨h,e⟩
        · omega
        · omega
        · exact absurd h2 (Rat.not_le.2 h)) p1 c1 s1 d1 p2 c2 s2 d2 W hW hO hC hI hA hD r1 t1 r2 t2
     · obtain⟨h3,hf,q1,q2,v1,v2,u1,u2,hle,n1,n2⟩:=rT ha hb hab h0 h2
       have m1:=Nat.mod_lt a.num.natAbs a.den_pos
       have m2:=Nat.mod_lt b.num.natAbs b.den_pos
       have b0:b-flR a≠0:=fun e=>n1 (Rat.num_eq_zero.2 e)
       have a0:a-flR a≠0:=fun e=>n2 (Rat.num_eq_zero.2 e)
       have lbf:LQ (b-flR a):=dV (sb.sub sf) (by decide) (by decide)
       have laf:LQ (a-flR a):=dV (sa.sub sf) (by decide) (by decide)
       have sbi:SmQ 900 (b-flR a)⁻¹:=⟨by rw[v1,Int.natAbs_natCast];exact sb.2,by rw[v2];exact Sm.le sb.2 (by omega)⟩
       have sai:SmQ 900 (a-flR a)⁻¹:=⟨by rw[u1,Int.natAbs_natCast];exact sa.2,by rw[u2];exact Sm.le sa.2 (by omega)⟩
       have pb:0<(b-flR a)⁻¹.num:=by rw[v1];have:=b.den_pos;omega
       have pa:0<(a-flR a)⁻¹.num:=by rw[u1];have:=a.den_pos;omega
       have ss:=jS pb pa hle sbi
       have ls:LQ (bJ (b-flR a)⁻¹ (a-flR a)⁻¹):=dV ss (by decide) (by decide)
       have sp:=(gu pb pa hle).2.2.1
       have s0:bJ (b-flR a)⁻¹ (a-flR a)⁻¹≠0:=fun e=>by rw[e]at sp;exact absurd sp (by decide)
       have li:LQ (bJ (b-flR a)⁻¹ (a-flR a)⁻¹)⁻¹:=dV (ss.inv s0) (by decide) (by decide)
       have hrec:=yQ ha hb hab h0 h2
       exact rG a.num b.num (flR a).num (cmpQ (flR a) a) (cmpQ (flR a+1) b) (1:Rat).num (flR a+1).num (b-flR a).num (b-flR a)⁻¹.num (a-flR a).num (a-flR a)⁻¹.num (bJ (b-flR a)⁻¹ (a-flR a)⁻¹).num (bJ (b-flR a)⁻¹ (a-flR a)⁻¹)⁻¹.num (bJ a b).num
        a.den b.den (flR a).den (1:Rat).den (flR a+1).den (b-flR a).den (b-flR a)⁻¹.den (a-flR a).den (a-flR a)⁻¹.den (bJ (b-flR a)⁻¹ (a-flR a)⁻¹).den (bJ (b-flR a)⁻¹ (a-flR a)⁻¹)⁻¹.den (bJ a b).den hk0 (by
         rcases jC (flR a+1) b with⟨h,e⟩|⟨h,e⟩|⟨h,e⟩
         · exact absurd (Rat.le_of_lt h) h2
         · exact absurd (by rw[h];exact Rat.le_refl) h2
         · omega) p1 c1 s1 d1 p2 c2 s2 d2 W hW hO hC hI hA hD
        (fun p1 c1 s1 d1 p2 c2 s2 d2 W h1 h2 h3 h4=>z3y b (flR a) _ rfl lb lf p1 c1 s1 d1 p2 c2 s2 d2 W h1 h2 h3 h4) (fun p1 c1 s1 d1 W h1 h2=>z2y (b-flR a) _ rfl b0 lbf p1 c1 s1 d1 W h1 h2) (fun p1 c1 s1 d1 p2 c2 s2 d2 W h1 h2 h3 h4=>z3y a (flR a) _ rfl la lf p1 c1 s1 d1 p2 c2 s2 d2 W h1 h2 h3 h4) (fun p1 c1 s1 d1 W h1 h2=>z2y (a-flR a) _ rfl a0 laf p1 c1 s1 d1 W h1 h2)
        (fun p1 c1 s1 d1 p2 c2 s2 d2 W h1 h2 h3 h4=>ih (b-flR a)⁻¹ (a-flR a)⁻¹ (by omega) pb pa hle sbi sai p1 c1 s1 d1 p2 c2 s2 d2 W h1 h2 h3 h4)
        (fun p1 c1 s1 d1 W h1 h2=>z2y (bJ (b-flR a)⁻¹ (a-flR a)⁻¹) _ rfl s0 ls p1 c1 s1 d1 W h1 h2) (fun p1 c1 s1 d1 p2 c2 s2 d2 W h1 h2 h3 h4=>z2z (flR a) (bJ (b-flR a)⁻¹ (a-flR a)⁻¹)⁻¹ (bJ a b) hrec.symm lf li p1 c1 s1 d1 p2 c2 s2 d2 W h1 h2 h3 h4) r1 t1 r2 t2
theorem lL (x y:Rat)(h:y<x)(hx:SmQ 900 x)(hy:SmQ 900 y)(sx:(Sq x).size≤1000)(sy:(Sq y).size≤1000)(W:World) :
 CR 32 #[.string (Sq x),.string (Sq y)] W (.tuple #[.string ⟨#[]⟩,.int .i64 5]) :=
 o7 (Sq x) (Sq y) x.num y.num x.den y.den (cmpQ x y) (by rw[vo h];decide) W (fun W=>wB x y hx hy sx sy W) (fun p1 c1 s1 d1 p2 c2 s2 d2 W h1 h2 h3 h4=>uB x y _ rfl (dV hx (by decide) (by decide)) (dV hy (by decide) (by decide)) p1 c1 s1 d1 p2 c2 s2 d2 W h1 h2 h3 h4)
theorem mF (x y:Rat)(h:x≤y)(h1:x.num≤0)(h2:0≤y.num)(hx:SmQ 900 x)(hy:SmQ 900 y)(sx:(Sq x).size≤1000)(sy:(Sq y).size≤1000)(W:World) :
 CR 32 #[.string (Sq x),.string (Sq y)] W (.tuple #[.string ⟨#[48]⟩,.int .i64 0]) :=
 qR (Sq x) (Sq y) x.num y.num x.den y.den (cmpQ x y) x.num.sign y.num.sign (lw h) (uw h1) (uy h2) W (fun W=>wB x y hx hy sx sy W) (fun p1 c1 s1 d1 p2 c2 s2 d2 W h1 h2 h3 h4=>uB x y _ rfl (dV hx (by decide) (by decide)) (dV hy (by decide) (by decide)) p1 c1 s1 d1 p2 c2 s2 d2 W h1 h2 h3 h4) (fun p1 c1 s1 d1 W h1 h2=>mI x _ rfl p1 c1 s1 d1 W h1 h2) (fun p1 c1 s1 d1 W h1 h2=>mI y _ rfl p1 c1 s1 d1 W h1 h2)
theorem nT (x y:Rat)(h:x≤y)(hp1:0<x.num)(hp2:0<y.num)(hx:SmQ 900 x)(hy:SmQ 900 y)(sx:(Sq x).size≤1000)(sy:(Sq y).size≤1000)(W:World) :
 CR 32 #[.string (Sq x),.string (Sq y)] W (.tuple #[.string (Sq (bJ x y)),.int .i64 0]) :=
 uf (Sq x) (Sq y) x.num y.num x.den y.den (cmpQ x y) x.num.sign (bJ x y).num (bJ x y).den (Sq (bJ x y)) (lw h) (by rw[Int.sign_eq_one_of_pos hp1];decide) W (fun W=>wB x y hx hy sx sy W) (fun p1 c1 s1 d1 p2 c2 s2 d2 W h1 h2 h3 h4=>uB x y _ rfl (dV hx (by decide) (by decide)) (dV hy (by decide) (by decide)) p1 c1 s1 d1 p2 c2 s2 d2 W h1 h2 h3 h4) (fun p1 c1 s1 d1 W h1 h2=>mI x _ rfl p1 c1 s1 d1 W h1 h2)
  (fun p1 c1 s1 d1 p2 c2 s2 d2 W h1 h2 h3 h4=>z3x _ x y (Nat.le_refl _) hp1 hp2 h hx hy p1 c1 s1 d1 p2 c2 s2 d2 W h1 h2 h3 h4) (fun p1 c1 s1 d1 W h1 h2=>sQTo (bJ x y) _ rfl (SmQ.mono (jS hp1 hp2 h hx) (by decide)) p1 c1 s1 d1 W h1 h2)
theorem nU (x y:Rat)(h:x≤y)(h1:x.num<0)(h2:y.num<0)(hx:SmQ 900 x)(hy:SmQ 900 y)(sx:(Sq x).size≤1000)(sy:(Sq y).size≤1000)(W:World) :
 CR 32 #[.string (Sq x),.string (Sq y)] W (.tuple #[.string (Sq (-(bJ (-y) (-x)))),.int .i64 0]):=by
 have hn : -y ≤ -x:=Rat.neg_le_neg h
 have hq1:0<(-y).num:=by show 0 < -y.num;omega
 have hq2:0<(-x).num:=by show 0 < -x.num;omega
 have ss:=jS hq1 hq2 hn hy.neg
 have ls:LQ (bJ (-y) (-x)):=dV ss (by decide) (by decide)
 exact ug (Sq x) (Sq y) x.num y.num x.den y.den (cmpQ x y) x.num.sign y.num.sign (-x).num (-y).num (bJ (-y) (-x)).num (-(bJ (-y) (-x))).num (-x).den (-y).den (bJ (-y) (-x)).den (-(bJ (-y) (-x))).den (Sq (-(bJ (-y) (-x)))) (lw h) (uw (by omega)) (by rw[Int.sign_eq_neg_one_of_neg h2];decide) W (fun W=>wB x y hx hy sx sy W) (fun p1 c1 s1 d1 p2 c2 s2 d2 W h1 h2 h3 h4=>uB x y _ rfl (dV hx (by decide) (by decide)) (dV hy (by decide) (by decide)) p1 c1 s1 d1 p2 c2 s2 d2 W h1 h2 h3 h4) (fun p1 c1 s1 d1 W h1 h2=>mI x _ rfl p1 c1 s1 d1 W h1 h2) (fun p1 c1 s1 d1 W h1 h2=>mI y _ rfl p1 c1 s1 d1 W h1 h2)
  (fun p1 c1 s1 d1 W h1 h2=>z0L y _ rfl (dV hy (by decide) (by decide)) p1 c1 s1 d1 W h1 h2) (fun p1 c1 s1 d1 W h1 h2=>z0L x _ rfl (dV hx (by decide) (by decide)) p1 c1 s1 d1 W h1 h2)
  (fun p1 c1 s1 d1 p2 c2 s2 d2 W h1 h2 h3 h4=>z3x _ (-y) (-x) (Nat.le_refl _) hq1 hq2 hn hy.neg hx.neg p1 c1 s1 d1 p2 c2 s2 d2 W h1 h2 h3 h4) (fun p1 c1 s1 d1 W h1 h2=>z0L (bJ (-y) (-x)) _ rfl ls p1 c1 s1 d1 W h1 h2) (fun p1 c1 s1 d1 W h1 h2=>sQTo (-(bJ (-y) (-x))) _ rfl (SmQ.mono ss.neg (by decide)) p1 c1 s1 d1 W h1 h2)
theorem pF (a b:ByteArray)(h:(vldQ a.data.toList&&vldQ b.data.toList)=false)(ha:a.size≤900)(hb:b.size≤900)(W:World) :
 CR 32 #[.string a,.string b] W (.tuple #[.string ⟨#[]⟩,.int .i64 1]):=by
 obtain⟨x,y,hB⟩:=yU a b h ha hb
 exact vG a b x.num y.num x.den y.den W hB
theorem ow (a:ByteArray)(ha:a.size≤900)(w:World)(hl:La w) :
 Calls Tryz.prog 42 #[.string a] w fun e w'=>(∃ s b:ByteArray,e=.returned (.tuple #[.agg #[.string s,.string b],.bool (vldQ a.data.toList)]))∧Below w.heap.size w w':=by
 cases h:vldQ a.data.toList with
 | false=>exact wS a h ha w hl
 | true =>
   have e:=z0I h
   obtain⟨q,hq⟩:∃ q,q=qval a.data.toList:=⟨_,rfl⟩
   rw[← hq]at e
   subst e
   refine(fA q ((jE ha (by decide)).fit (by decide)) w hl).mono ?_
   rintro e w' ⟨rfl,hb⟩
   exact⟨⟨_,_,rfl⟩,hb⟩
theorem z0Y (a b:ByteArray)(h:(vldQ a.data.toList&&vldQ b.data.toList)=false)(ha:a.size≤900)(hb:b.size≤900)(w:World)(hl:La w) :
 Calls Tryz.prog 45 #[.string a,.string b] w fun e w'=>∃ s b t c:ByteArray,e=.returned (.tuple #[.agg #[.string s,.string b],.agg #[.string t,.string c],.bool false])∧Below w.heap.size w w':=by
 refine(qB a b _ _ w hl (fun W hW=>ow a ha W hW) (fun W hW=>ow b hb W hW)).mono ?_
 rintro e w' ⟨⟨s,u,t,c,rfl⟩,hB⟩
 rw[h]
 exact⟨s,u,t,c,rfl,hB⟩
end Go.Proofs.YtmigpoiajkihhaaGreatDoor
