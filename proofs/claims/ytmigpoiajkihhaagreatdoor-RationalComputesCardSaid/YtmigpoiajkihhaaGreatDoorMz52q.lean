/- Texts of this proof, one behind the other. -/
import Derived.Test.YtmigpoiajkihhaaGreatDoorMz45q
import Derived.Test.YtmigpoiajkihhaaGreatDoorMz51q
import Derived.Test.YtmigpoiajkihhaaGreatDoorSs
namespace Go.Proofs.YtmigpoiajkihhaaGreatDoor
open Go.RowKit Go.Gb
theorem quiet_below {f:FuncId}{args:Array Value}{w:World}{v:Value}(h:Calls Tryz.prog f args w fun e w'=>e=.returned v∧w=w'):Calls Tryz.prog f args w fun e w'=>e=.returned v∧Below w.heap.size w w':=by
 refine h.mono ?_
 rintro e w' ⟨rfl,rfl⟩
 exact⟨rfl,Below.refl _ _⟩
theorem at_list {s:ByteArray}{k:Nat}(h:k<s.size):s[k]=s.data.toList[k]'(by rw[size_list];exact h):=(get_list s k h).symm
theorem sSplit_no (s:ByteArray)(hn:(47:UInt8)∉s.data.toList)(hs:s.size≤1000)(W:World) :
 CR 43 #[.string s] W (.tuple #[.string s,.string ⟨#[49]⟩,.bool false]) :=
 quiet_below (split_no s (fun k h e=>hn (by rw[← e,at_list h];exact List.getElem_mem _)) (by unfold maxLen;omega) W)
theorem sSplit_yes (s:ByteArray)(x y:List UInt8)(hl:s.data.toList=x++47 :: y)(hn:(47:UInt8)∉x)(hs:s.size≤1000)(W:World) :
 CR 43 #[.string s] W (.tuple #[.string ⟨x.toArray⟩,.string ⟨y.toArray⟩,.bool true]):=by
 have hsz:s.size=x.length+(y.length+1):=by rw[← size_list,hl];simp
 have hxs:(⟨x.toArray⟩:ByteArray).size=x.length:=by show x.toArray.size=_;simp
 refine split_yes s ⟨x.toArray⟩ ⟨y.toArray⟩ (by omega) ?_ ?_ ?_ ?_ (by unfold maxLen;omega) W
 · intro k hk h2 e
   apply hn
   rw[← e,at_list h2]
   simp only[hl]
   rw[List.getElem_append_left (by omega)]
   exact List.getElem_mem _
 · rw[at_list (by omega)]
   simp only[hl,hxs]
   rw[List.getElem_append_right (Nat.le_refl _)]
   simp
 · apply ByteArray.ext;apply Array.ext'
   rw[extract_list,hl,hxs];simp
 · apply ByteArray.ext;apply Array.ext'
   rw[extract_list,hl,hxs,hsz];simp
   exact List.take_of_length_le (by omega)
theorem sFrom (q:Rat)(hq:SmQ 900 q)(hs:(Sq q).size≤1000)(W:World) :
 Calls Tryz.prog 44 #[.string (Sq q)] W fun e w'=>∃ p c s d,e=.returned (.tuple #[.agg #[.bool (zneg q.num),.slice p (zlen q.num) c,.slice s (nlen q.den) d],.bool true])∧RN w' (.slice p (zlen q.num) c) q.num.natAbs∧RN w' (.slice s (nlen q.den) d) q.den∧Below W.heap.size W w':=by
 have fn:FitZ q.num:=by unfold FitZ Fit;exact Sm.mono hq.1 (by decide)
 have z1:(Sz q.num).size≤901:=sz_size hq.1 (by decide)
 have z2:(Sn q.den).size≤900:=sn_size hq.2 (by decide)
 have hR:=fun W=>rz_sh (zRead q.num fn W)
 by_cases hd:q.den=1
 · rw[sq_int hd]at hs ⊢
   rw[hd]
   refine from_int (Sz q.num) (Sz q.num) ⟨#[49]⟩ q.num 1 W (fun W=>sSplit_no _ (sz_no 47 (by decide) (by decide) _) hs W) (fun W=>quiet_below (zrValid q.num (by omega) W)) (fun W=>quiet_below ?_) hR (fun W=>?_)
   · exact RValid_any ⟨#[49]⟩ W (by decide)
   · exact own_rn (RFrom_any ⟨#[49]⟩ (by decide) (by decide) W)
 · have hn0:q.num≠0:=by
    intro e
    have:=q.reduced
    rw[e]at this
    unfold Nat.Coprime at this
    rw[Int.natAbs_zero,Nat.gcd_zero_left]at this
    exact hd this
   have hd1:1<q.den:=by have:=q.den_pos;omega
   have lz:zlen q.num≤900:=sm_digs hq.1 (by decide)
   have ln:nlen q.den≤900:=sm_digs hq.2 (by decide)
   have e0:Sn q.den=⟨(Lib.decDigits q.den).toArray⟩:=rfl
   have e1:(⟨(Sz q.num).data.toList.toArray⟩:ByteArray)=Sz q.num:=by simp
   have hsp:=fun W=>sSplit_yes (Sq q) _ _ (sq_frac_list hd) (sz_no 47 (by decide) (by decide) _) hs W
   rw[e1,← e0]at hsp
   refine from_frac (Sq q) (Sz q.num) (Sn q.den) q.num 1 q.num.sign q.den 1 1 (by decide) (fun e=>hn0 (Int.sign_eq_zero_iff_zero.1 e)) W hsp (fun W=>quiet_below (zrValid q.num (by omega) W)) (fun W=>quiet_below ?_) hR (fun W=>?_)
    (fun W=>cSmallL 1 1 rfl (by decide) W) (fun s1 d1 s2 d2 W h1 h2=>?_) (fun p c W h=>sSignum q.num _ rfl p c W h) (fun p1 c1 s2 d2 W h1 h2=>?_) (fun s1 d1 s2 d2 W h1 h2=>?_)
   · have h:=RValid_any (Sn q.den) W (by unfold maxLen;omega)
     rwa [sn_vld]at h
   · have h:=own_rn (RFrom_any (Sn q.den) (by rw[sn_list];exact dec_all _) (by omega) W)
     rwa [sn_dval]at h
   · have h:=cCmp (.slice s1 (nlen q.den) d1) (.slice s2 (nlen 1) d2) q.den 1 (by omega) W h1 h2
     rwa [show cmpN q.den 1=1 by unfold cmpN;rw[if_neg (by omega),if_pos hd1]]at h
   · exact cCommon _ _ _ _ 1 q.reduced (Nat.le_trans lz (by decide)) (by omega) W h1 h2
   · have h:=cCmp (.slice s1 (nlen 1) d1) (.slice s2 (nlen 1) d2) 1 1 (by rw[nlen_one];decide) W h1 h2
     rwa [show cmpN 1 1=0 by decide]at h
theorem sFrom_no (a:ByteArray)(hv:vldQ a.data.toList=false)(hs:a.size≤900)(W:World) :
 Calls Tryz.prog 44 #[.string a] W fun e w'=>∃ p c s d,e=.returned (.tuple #[.agg #[.bool (zneg (0:Rat).num),.slice p (zlen (0:Rat).num) c,.slice s (nlen (0:Rat).den) d],.bool false])∧RN w' (.slice p (zlen (0:Rat).num) c) (0:Rat).num.natAbs∧RN w' (.slice s (nlen (0:Rat).den) d) (0:Rat).den∧Below W.heap.size W w':=by
 have hI:=fun W=>sQInt 0 0 0 rfl (by decide) rfl rfl W
 rcases cut_parts 47 a.data.toList with⟨h47,e⟩|⟨x,y,h47,el,e⟩
 · unfold vldQ at hv
   rw[e]at hv
   simp only[Bool.false_eq_true,if_false]at hv
   exact from_badP a a ⟨#[49]⟩ _ _ false W (fun W=>sSplit_no a h47 (by omega) W) (fun W=>quiet_below (zrValid_no a hv (by omega) W)) hI
 · have hlen:x.length+(y.length+1)=a.size:=by rw[← size_list,el];simp
   have hsp:=fun W=>sSplit_yes a x y el h47 (by omega) W
   have sx:(⟨x.toArray⟩:ByteArray).size≤1000:=by show x.toArray.size≤1000;simp;omega
   have sy:(⟨y.toArray⟩:ByteArray).size≤900:=by show y.toArray.size≤900;simp;omega
   unfold vldQ at hv
   rw[e]at hv
   simp only[if_true]at hv
   cases hx:vldZ x with
   | false=>exact from_badP a ⟨x.toArray⟩ ⟨y.toArray⟩ _ _ true W hsp (fun W=>quiet_below (zrValid_no ⟨x.toArray⟩ (by simpa using hx) sx W)) hI
   | true =>
     obtain⟨z,hz⟩:∃ z,z=zval x:=⟨_,rfl⟩
     have ex:(⟨x.toArray⟩:ByteArray)=Sz z:=by rw[hz];have:=sz_of (a:=⟨x.toArray⟩) (by simpa using hx);simpa using this
     have sx2:(Sz z).size≤900:=by rw[← ex];show x.toArray.size≤900;simp;omega
     rw[ex]at hsp sx
     have hVx:=fun W=>quiet_below (zrValid z sx W)
     cases hy:vld y with
     | false =>
       refine from_badD a (Sz z) ⟨y.toArray⟩ _ _ true W hsp hVx (fun W=>quiet_below ?_) hI
       have h:=RValid_any ⟨y.toArray⟩ W (by unfold maxLen;omega)
       rwa [show vld (⟨y.toArray⟩:ByteArray).data.toList=false by simpa using hy]at h
     | true =>
       obtain⟨n,hn⟩:∃ n,n=dval y:=⟨_,rfl⟩
       have ey:(⟨y.toArray⟩:ByteArray)=Sn n:=by rw[hn];have:=sn_of (a:=⟨y.toArray⟩) (by simpa using hy);simpa using this
       have yl:y=Lib.decDigits n:=by
        have:=congrArg (fun b:ByteArray=>b.data.toList) ey
        simpa [sn_list] using this
       rw[ey]at hsp sy
       have hVy:CQ 80 #[.string (Sn n)] (.bool true):=fun W=>quiet_below (by
        have h:=RValid_any (Sn n) W (by unfold maxLen;omega)
        rwa [sn_vld]at h)
       have kz:Sm 900 z.natAbs:=smz_of' sx2
       have kn:Sm 900 n:=by have:=Sm.of (a:=Sn n) (sn_vld n) sy;rwa [sn_dval]at this
       have lz:zlen z≤900:=sm_digs kz (by decide)
       have ln:nlen n≤900:=sm_digs kn (by decide)
       have hR:=fun W=>rz_sh (zRead z (by unfold FitZ Fit;exact Sm.mono kz (by decide)) W)
       have hF:∀ W,CN 70 #[.string (Sn n)] W n:=fun W=>by
        have h:=own_rn (RFrom_any (Sn n) (by rw[sn_list];exact dec_all _) (by omega) W)
        rwa [sn_dval]at h
       have hO:=fun W=>cSmallL 1 1 rfl (by decide) W
       have hC:=fun(s1:Option Addr) (d1:Nat) (s2:Option Addr) (d2:Nat) W h1 h2=>cCmp (.slice s1 (nlen n) d1) (.slice s2 (nlen 1) d2) n 1 (by omega) W h1 h2
       have hS:=fun p c W h=>sSignum z _ rfl p c W h
       by_cases n1:n≤1
       · exact from_small a (Sz z) (Sn n) z (cmpN n 1) _ n 1 _ (by unfold cmpN;split<;>first|(split<;>omega)|omega) W hsp hVx hVy hR hF hO hC hI
       · have hk:0<cmpN n 1:=by unfold cmpN;rw[if_neg (by omega),if_pos (by omega)];decide
         by_cases z0:z=0
         · subst z0
           exact from_zero a (Sz 0) (Sn n) 0 (cmpN n 1) _ n 1 _ hk W hsp hVx hVy hR hF hO hC hS hI
         · have hsg:z.sign≠0:=fun e=>z0 (Int.sign_eq_zero_iff_zero.1 e)
           have hG:=fun(p1:Option Addr) (c1:Nat) (s2:Option Addr) (d2:Nat) W h1 h2=>cCommon (.slice p1 (zlen z) c1) (.slice s2 (nlen n) d2) z.natAbs n _ rfl (Nat.le_trans lz (by decide)) (by omega) W h1 h2
           have lg:nlen (Nat.gcd z.natAbs n)≤900:=Nat.le_trans (nlen_mono (Nat.gcd_le_right _ (by omega))) ln
           by_cases g1:Nat.gcd z.natAbs n=1
           · exfalso
             have:vldP x y=true:=by
              unfold vldP
              rw[hx,yl,vldZ_nat,zval_nat,← hz]
              have e1:(Lib.decDigits n==[49])=false:=by
                rw[beq_eq_false_iff_ne]
                intro e
                have e2:Sn n=Sn 1:=by
                 apply ByteArray.ext;apply Array.ext'
                 rw[sn_list,e];decide +kernel
                have:=sn_inj e2
                omega
              rw[e1]
              simp[g1]
              omega
             rw[this]at hv
             cases hv
           · refine from_shared a (Sz z) (Sn n) z (cmpN n 1) (cmpN (Nat.gcd z.natAbs n) 1) _ _ n 1 (Nat.gcd z.natAbs n) _ hk hsg ?_ W hsp hVx hVy hR hF hO hC hS hG (fun s1 d1 s2 d2 W h1 h2=>cCmp _ _ _ _ (by omega) W h1 h2) hI
             unfold cmpN
             split
             · decide
             · split
               · decide
               · omega
open Go.RowKit Go.Gb
theorem smq_lq {q:Rat}{k:Nat}(h:SmQ k q)(h0:0<k)(hk:k≤10000):LQ q:=⟨Nat.le_trans (sm_digs h.1 h0) hk,Nat.le_trans (sm_digs h.2 h0) hk⟩
theorem sFrom_any (a:ByteArray)(ha:a.size≤900):∃ q:Rat,∀ W,Calls Tryz.prog 44 #[.string a] W fun e w'=>∃ p c s d,e=.returned (.tuple #[.agg #[.bool (zneg q.num),.slice p (zlen q.num) c,.slice s (nlen q.den) d],.bool (vldQ a.data.toList)])∧RN w' (.slice p (zlen q.num) c) q.num.natAbs∧RN w' (.slice s (nlen q.den) d) q.den∧Below W.heap.size W w':=by
 cases h:vldQ a.data.toList with
 | false=>exact⟨0,fun W=>sFrom_no a h ha W⟩
 | true =>
   have e:=sq_of h
   obtain⟨q,hq⟩:∃ q,q=qval a.data.toList:=⟨_,rfl⟩
   rw[← hq]at e
   subst e
   exact⟨q,fun W=>sFrom q (smq_of ha (by decide)) (by omega) W⟩
theorem sQBoth (x y:Rat)(hx:SmQ 900 x)(hy:SmQ 900 y)(sx:(Sq x).size≤1000)(sy:(Sq y).size≤1000)(W:World):Calls Tryz.prog 47 #[.string (Sq x),.string (Sq y)] W fun e w'=>∃ p c s d p' c' s' d',e=.returned (.tuple #[.agg #[.bool (zneg x.num),.slice p (zlen x.num) c,.slice s (nlen x.den) d],.agg #[.bool (zneg y.num),.slice p' (zlen y.num) c',.slice s' (nlen y.den) d'],.int .i64 0])∧RN w' (.slice p (zlen x.num) c) x.num.natAbs∧RN w' (.slice s (nlen x.den) d) x.den∧RN w' (.slice p' (zlen y.num) c') y.num.natAbs∧RN w' (.slice s' (nlen y.den) d') y.den∧Below W.heap.size W w' :=
 both_yes (Sq x) (Sq y) x.num y.num x.den y.den W (fun W=>sFrom x hx sx W) (fun W=>sFrom y hy sy W)
theorem sQBoth_no (a b:ByteArray)(h:(vldQ a.data.toList&&vldQ b.data.toList)=false)(ha:a.size≤900)(hb:b.size≤900):∃ x y:Rat,∀ W,Calls Tryz.prog 47 #[.string a,.string b] W fun e w'=>∃ p c s d p' c' s' d',e=.returned (.tuple #[.agg #[.bool (zneg x.num),.slice p (zlen x.num) c,.slice s (nlen x.den) d],.agg #[.bool (zneg y.num),.slice p' (zlen y.num) c',.slice s' (nlen y.den) d'],.int .i64 1])∧RN w' (.slice p (zlen x.num) c) x.num.natAbs∧RN w' (.slice s (nlen x.den) d) x.den∧RN w' (.slice p' (zlen y.num) c') y.num.natAbs∧RN w' (.slice s' (nlen y.den) d') y.den∧Below W.heap.size W w':=by
 obtain⟨x,h1⟩:=sFrom_any a ha
 obtain⟨y,h2⟩:=sFrom_any b hb
 refine⟨x,y,fun W=>?_⟩
 cases va:vldQ a.data.toList with
 | false =>
   rw[va]at h1
   exact both_no1 a b x.num y.num x.den y.den _ W h1 h2
 | true =>
   rw[va,Bool.true_and]at h
   rw[va]at h1
   rw[h]at h2
   exact both_no2 a b x.num y.num x.den y.den W h1 h2
theorem srCompare (x y:Rat)(k:Int)(hk:cmpQ x y=k)(hx:SmQ 900 x)(hy:SmQ 900 y)(sx:(Sq x).size≤1000)(sy:(Sq y).size≤1000)(W:World) :
 CR 16 #[.string (Sq x),.string (Sq y)] W (.tuple #[.int .i64 k,.int .i64 0]) :=
 compare_yes (Sq x) (Sq y) x.num y.num x.den y.den k W (fun W=>sQBoth x y hx hy sx sy W) (fun p1 c1 s1 d1 p2 c2 s2 d2 W h1 h2 h3 h4=>sQCmp x y k hk (smq_lq hx (by decide) (by decide)) (smq_lq hy (by decide) (by decide)) p1 c1 s1 d1 p2 c2 s2 d2 W h1 h2 h3 h4)
theorem srSum (x y z:Rat)(hz:x+y=z)(hx:SmQ 900 x)(hy:SmQ 900 y)(sx:(Sq x).size≤1000)(sy:(Sq y).size≤1000)(W:World) :
 CR 18 #[.string (Sq x),.string (Sq y)] W (.tuple #[.string (Sq z),.int .i64 0]) :=
 sum_yes (Sq x) (Sq y) x.num y.num x.den y.den z.num z.den (Sq z) W (fun W=>sQBoth x y hx hy sx sy W) (fun p1 c1 s1 d1 p2 c2 s2 d2 W h1 h2 h3 h4=>sQAdd x y z hz (smq_lq hx (by decide) (by decide)) (smq_lq hy (by decide) (by decide)) p1 c1 s1 d1 p2 c2 s2 d2 W h1 h2 h3 h4) (fun p1 c1 s1 d1 W h1 h2=>sQTo z _ rfl (by rw[← hz];exact SmQ.mono (hx.add hy) (by decide)) p1 c1 s1 d1 W h1 h2)
theorem srDifference (x y z:Rat)(hz:x-y=z)(hx:SmQ 900 x)(hy:SmQ 900 y)(sx:(Sq x).size≤1000)(sy:(Sq y).size≤1000)(W:World) :
 CR 20 #[.string (Sq x),.string (Sq y)] W (.tuple #[.string (Sq z),.int .i64 0]) :=
 difference_yes (Sq x) (Sq y) x.num y.num x.den y.den z.num z.den (Sq z) W (fun W=>sQBoth x y hx hy sx sy W) (fun p1 c1 s1 d1 p2 c2 s2 d2 W h1 h2 h3 h4=>sQSub x y z hz (smq_lq hx (by decide) (by decide)) (smq_lq hy (by decide) (by decide)) p1 c1 s1 d1 p2 c2 s2 d2 W h1 h2 h3 h4) (fun p1 c1 s1 d1 W h1 h2=>sQTo z _ rfl (by rw[← hz];exact SmQ.mono (hx.sub hy) (by decide)) p1 c1 s1 d1 W h1 h2)
theorem srProduct (x y z:Rat)(hz:x*y=z)(hx:SmQ 900 x)(hy:SmQ 900 y)(sx:(Sq x).size≤1000)(sy:(Sq y).size≤1000)(W:World) :
 CR 22 #[.string (Sq x),.string (Sq y)] W (.tuple #[.string (Sq z),.int .i64 0]) :=
 product_yes (Sq x) (Sq y) x.num y.num x.den y.den z.num z.den (Sq z) W (fun W=>sQBoth x y hx hy sx sy W) (fun p1 c1 s1 d1 p2 c2 s2 d2 W h1 h2 h3 h4=>sQMul x y z hz (smq_lq hx (by decide) (by decide)) (smq_lq hy (by decide) (by decide)) p1 c1 s1 d1 p2 c2 s2 d2 W h1 h2 h3 h4) (fun p1 c1 s1 d1 W h1 h2=>sQTo z _ rfl (by rw[← hz];exact SmQ.mono (hx.mul hy) (by decide)) p1 c1 s1 d1 W h1 h2)
theorem srQuotient (x y z:Rat)(hz:x / y=z)(h0:y≠0)(hx:SmQ 900 x)(hy:SmQ 900 y)(sx:(Sq x).size≤1000)(sy:(Sq y).size≤1000)(W:World) :
 CR 24 #[.string (Sq x),.string (Sq y)] W (.tuple #[.string (Sq z),.int .i64 0]) :=
 quotient_yes (Sq x) (Sq y) x.num y.num x.den y.den z.num y.num.sign z.den (Sq z) (fun e=>h0 (Rat.num_eq_zero.1 (Int.sign_eq_zero_iff_zero.1 e))) W (fun W=>sQBoth x y hx hy sx sy W) (fun p1 c1 s1 d1 W h1 h2=>sQSign y _ rfl p1 c1 s1 d1 W h1 h2) (fun p1 c1 s1 d1 p2 c2 s2 d2 W h1 h2 h3 h4=>sQDiv x y z hz h0 (smq_lq hx (by decide) (by decide)) (smq_lq hy (by decide) (by decide)) p1 c1 s1 d1 p2 c2 s2 d2 W h1 h2 h3 h4) (fun p1 c1 s1 d1 W h1 h2=>sQTo z _ rfl (by rw[← hz];exact SmQ.mono (hx.div hy h0) (by decide)) p1 c1 s1 d1 W h1 h2)
theorem srQuotient_zero (x y:Rat)(h0:y=0)(hx:SmQ 900 x)(hy:SmQ 900 y)(sx:(Sq x).size≤1000)(sy:(Sq y).size≤1000)(W:World) :
 CR 24 #[.string (Sq x),.string (Sq y)] W (.tuple #[.string ⟨#[]⟩,.int .i64 16]) :=
 quotient_zero (Sq x) (Sq y) x.num y.num x.den y.den W (fun W=>sQBoth x y hx hy sx sy W) (fun p1 c1 s1 d1 W h1 h2=>sQSign y _ (by rw[h0];rfl) p1 c1 s1 d1 W h1 h2)
theorem srCompare_no (a b:ByteArray)(h:(vldQ a.data.toList&&vldQ b.data.toList)=false)(ha:a.size≤900)(hb:b.size≤900)(W:World) :
 CR 16 #[.string a,.string b] W (.tuple #[.int .i64 0,.int .i64 1]):=by
 obtain⟨x,y,hB⟩:=sQBoth_no a b h ha hb
 exact compare_no a b x.num y.num x.den y.den W hB
theorem srSum_no (a b:ByteArray)(h:(vldQ a.data.toList&&vldQ b.data.toList)=false)(ha:a.size≤900)(hb:b.size≤900)(W:World) :
 CR 18 #[.string a,.string b] W (.tuple #[.string ⟨#[]⟩,.int .i64 1]):=by
 obtain⟨x,y,hB⟩:=sQBoth_no a b h ha hb
 exact sum_no a b x.num y.num x.den y.den W hB
theorem srDifference_no (a b:ByteArray)(h:(vldQ a.data.toList&&vldQ b.data.toList)=false)(ha:a.size≤900)(hb:b.size≤900)(W:World) :
 CR 20 #[.string a,.string b] W (.tuple #[.string ⟨#[]⟩,.int .i64 1]):=by
 obtain⟨x,y,hB⟩:=sQBoth_no a b h ha hb
 exact difference_no a b x.num y.num x.den y.den W hB
theorem srProduct_no (a b:ByteArray)(h:(vldQ a.data.toList&&vldQ b.data.toList)=false)(ha:a.size≤900)(hb:b.size≤900)(W:World) :
 CR 22 #[.string a,.string b] W (.tuple #[.string ⟨#[]⟩,.int .i64 1]):=by
 obtain⟨x,y,hB⟩:=sQBoth_no a b h ha hb
 exact product_no a b x.num y.num x.den y.den W hB
theorem srQuotient_no (a b:ByteArray)(h:(vldQ a.data.toList&&vldQ b.data.toList)=false)(ha:a.size≤900)(hb:b.size≤900)(W:World) :
 CR 24 #[.string a,.string b] W (.tuple #[.string ⟨#[]⟩,.int .i64 1]):=by
 obtain⟨x,y,hB⟩:=sQBoth_no a b h ha hb
 exact quotient_no a b x.num y.num x.den y.den W hB
end Go.Proofs.YtmigpoiajkihhaaGreatDoor
set_option maxRecDepth 100000
set_option maxHeartbeats 20000000
open Go.Lib (hid)
namespace Go.Proofs.YtmigpoiajkihhaaGreatDoor
open Go.RowKit Go.Gb
theorem qcom_long (a b:ByteArray)(hab:60<a.size∨60<b.size)(w:World)(hl:La w) :
 CR 4 #[.string a,.string b] w (.bool true):=by
 have HT:=hid hl
 clear hl
 have HL:=hid hab
 clear hab
 go_enter Tryz.func4,Tryz.ntmps4
 go_wp2_with fail
 refine(qawake _ HT.out).mono ?_
 rintro e w1 ⟨rfl,hb1⟩
 have HB1:=hid (hb1.alloc hb1.size (.cells #[.string a,.string b] 22))
 have hc:=strs_cells2 w1 a b
 have HLo:=hid (long2_yes w1.heap.size a b _ HL.out hc)
 clear hb1 hc
 go_wp2_with fail
 refine HLo.out.mono ?_
 rintro e w' ⟨rfl,rfl⟩
 go_wp2_with fail
 refine(qawake _ (HT.out.on HB1.out)).mono ?_
 rintro e w2 ⟨rfl,hb⟩
 have HB2:=hbt HB1 hb
 clear hb
 go_wp2
 go_ret
 exact⟨rfl,HB2.out⟩
theorem qcom_no (a b:ByteArray)(ha:a.size≤60)(hb:b.size≤60)(hv:(vldQ a.data.toList&&vldQ b.data.toList)=false)(w:World)(hl:La w) :
 CR 4 #[.string a,.string b] w (.bool true):=by
 have HT:=hid hl
 clear hl
 have Hla:=hid ha
 have Hma:=hid (show a.size≤900 by omega)
 have Hlb:=hid hb
 have Hmb:=hid (show b.size≤900 by omega)
 clear ha hb
 have HV:=hid hv
 clear hv
 go_enter Tryz.func4,Tryz.ntmps4
 go_wp2_with fail
 refine(qawake _ HT.out).mono ?_
 rintro e w1 ⟨rfl,hb1⟩
 have HB1:=hid (hb1.alloc hb1.size (.cells #[.string a,.string b] 22))
 have hc:=strs_cells2 w1 a b
 have HLo:=hid (long2_no w1.heap.size a b _ Hla.out Hlb.out hc)
 clear hb1 hc
 go_wp2_with fail
 refine HLo.out.mono ?_
 rintro e w' ⟨rfl,rfl⟩
 go_wp2_with fail
 refine(qCompare_no a b HV.out Hma.out Hmb.out _ (HT.out.on HB1.out)).mono ?_
 rintro e w2 ⟨rfl,hb⟩
 have HB2:=hbt HB1 hb
 clear hb
 go_wp2_with fail
 refine(srCompare_no a b HV.out Hma.out Hmb.out _).mono ?_
 rintro e w3 ⟨rfl,hb⟩
 have HB3:=hbt HB2 hb
 clear hb
 go_wp2_with fail
 refine(qAdd_no a b HV.out Hma.out Hmb.out _ (HT.out.on HB3.out)).mono ?_
 rintro e w4 ⟨rfl,hb⟩
 have HB4:=hbt HB3 hb
 clear hb
 go_wp2_with fail
 refine(srSum_no a b HV.out Hma.out Hmb.out _).mono ?_
 rintro e w5 ⟨rfl,hb⟩
 have HB5:=hbt HB4 hb
 clear hb
 go_wp2_with fail
 refine(qSub_no a b HV.out Hma.out Hmb.out _ (HT.out.on HB5.out)).mono ?_
 rintro e w6 ⟨rfl,hb⟩
 have HB6:=hbt HB5 hb
 clear hb
 go_wp2_with fail
 refine(srDifference_no a b HV.out Hma.out Hmb.out _).mono ?_
 rintro e w7 ⟨rfl,hb⟩
 have HB7:=hbt HB6 hb
 clear hb
 go_wp2_with fail
 refine(qMul_no a b HV.out Hma.out Hmb.out _ (HT.out.on HB7.out)).mono ?_
 rintro e w8 ⟨rfl,hb⟩
 have HB8:=hbt HB7 hb
 clear hb
 go_wp2_with fail
 refine(srProduct_no a b HV.out Hma.out Hmb.out _).mono ?_
 rintro e w9 ⟨rfl,hb⟩
 have HB9:=hbt HB8 hb
 clear hb
 go_wp2_with fail
 refine(qDiv_no a b HV.out Hma.out Hmb.out _ (HT.out.on HB9.out)).mono ?_
 rintro e w10 ⟨rfl,hb⟩
 have HB10:=hbt HB9 hb
 clear hb
 go_wp2_with fail
 refine(srQuotient_no a b HV.out Hma.out Hmb.out _).mono ?_
 rintro e w11 ⟨rfl,hb⟩
 have HB11:=hbt HB10 hb
 clear hb
 go_wp2
 go_ret
 exact⟨rfl,HB11.out⟩
theorem qcom_zero (x y:Rat)(sa:(Sq x).size≤60)(sb:(Sq y).size≤60)(h0:y=0)(w:World)(hl:La w) :
 CR 4 #[.string (Sq x),.string (Sq y)] w (.bool true):=by
 have HT:=hid hl
 clear hl
 have SA:=hid sa
 have SB:=hid sb
 have kx:SmQ 900 x:=(smq_of sa (by decide)).mono (by decide)
 have ky:SmQ 900 y:=(smq_of sb (by decide)).mono (by decide)
 have mx:(Sq x).size≤1000:=by omega
 have my:(Sq y).size≤1000:=by omega
 clear sa sb
 obtain⟨c,hc⟩:∃ c,cmpQ x y=c:=⟨_,rfl⟩
 have C1:=hid (fun(W:World) (T:La W)=>qCompare x y c hc kx ky W T)
 have C2:=hid (fun(W:World)=>srCompare x y c hc kx ky mx my W)
 have C3:=hid (fun(W:World) (T:La W)=>qAdd x y _ rfl kx ky W T)
 have C4:=hid (fun(W:World)=>srSum x y _ rfl kx ky mx my W)
 have C5:=hid (fun(W:World) (T:La W)=>qSub x y _ rfl kx ky W T)
 have C6:=hid (fun(W:World)=>srDifference x y _ rfl kx ky mx my W)
 have C7:=hid (fun(W:World) (T:La W)=>qMul x y _ rfl kx ky W T)
 have C8:=hid (fun(W:World)=>srProduct x y _ rfl kx ky mx my W)
 have C9:=hid (fun(W:World) (T:La W)=>qDiv_zero x kx W T)
 have C10:=hid (fun(W:World)=>srQuotient_zero x y h0 kx ky mx my W)
 subst h0
 have e0:Sq 0=⟨#[48]⟩:=q_0
 clear hc kx ky mx my
 generalize Sq (x+0)=s3 at *
 generalize Sq (x-0)=s5 at *
 generalize Sq (x*0)=s7 at *
 rw[e0]at C1 C2 C3 C4 C5 C6 C7 C8 C10 SB ⊢
 clear e0
 generalize Sq x=a at *
 go_enter Tryz.func4,Tryz.ntmps4
 go_wp2_with fail
 refine(qawake _ HT.out).mono ?_
 rintro e w1 ⟨rfl,hb1⟩
 have HB1:=hid (hb1.alloc hb1.size (.cells #[.string a,.string ⟨#[48]⟩] 22))
 have hc:=strs_cells2 w1 a ⟨#[48]⟩
 have HLo:=hid (long2_no w1.heap.size a ⟨#[48]⟩ _ SA.out SB.out hc)
 clear hb1 hc
 go_wp2_with fail
 refine HLo.out.mono ?_
 rintro e w' ⟨rfl,rfl⟩
 go_wp2_with fail
 refine(C1.out _ (HT.out.on HB1.out)).mono ?_
 rintro e w2 ⟨rfl,hb⟩
 have HB2:=hbt HB1 hb
 clear hb
 go_wp2_with fail
 refine(C2.out _).mono ?_
 rintro e w3 ⟨rfl,hb⟩
 have HB3:=hbt HB2 hb
 clear hb
 go_wp2_with fail
 refine(C3.out _ (HT.out.on HB3.out)).mono ?_
 rintro e w4 ⟨rfl,hb⟩
 have HB4:=hbt HB3 hb
 clear hb
 go_wp2_with fail
 refine(C4.out _).mono ?_
 rintro e w5 ⟨rfl,hb⟩
 have HB5:=hbt HB4 hb
 clear hb
 go_wp2_with fail
 refine(C5.out _ (HT.out.on HB5.out)).mono ?_
 rintro e w6 ⟨rfl,hb⟩
 have HB6:=hbt HB5 hb
 clear hb
 go_wp2_with fail
 refine(C6.out _).mono ?_
 rintro e w7 ⟨rfl,hb⟩
 have HB7:=hbt HB6 hb
 clear hb
 go_wp2_with fail
 refine(C7.out _ (HT.out.on HB7.out)).mono ?_
 rintro e w8 ⟨rfl,hb⟩
 have HB8:=hbt HB7 hb
 clear hb
 go_wp2_with fail
 refine(C8.out _).mono ?_
 rintro e w9 ⟨rfl,hb⟩
 have HB9:=hbt HB8 hb
 clear hb
 go_wp2_with fail
 refine(C9.out _ (HT.out.on HB9.out)).mono ?_
 rintro e w10 ⟨rfl,hb⟩
 have HB10:=hbt HB9 hb
 clear hb
 go_wp2_with fail
 refine(C10.out _).mono ?_
 rintro e w11 ⟨rfl,hb⟩
 have HB11:=hbt HB10 hb
 clear hb
 go_wp2
 go_ret
 exact⟨rfl,HB11.out⟩
theorem qcom_yes (x y:Rat)(sa:(Sq x).size≤60)(sb:(Sq y).size≤60)(h0:y≠0)(w:World)(hl:La w) :
 CR 4 #[.string (Sq x),.string (Sq y)] w (.bool true):=by
 have HT:=hid hl
 clear hl
 have SA:=hid sa
 have SB:=hid sb
 have kx:SmQ 900 x:=(smq_of sa (by decide)).mono (by decide)
 have ky:SmQ 900 y:=(smq_of sb (by decide)).mono (by decide)
 have mx:(Sq x).size≤1000:=by omega
 have my:(Sq y).size≤1000:=by omega
 clear sa sb
 obtain⟨c,hc⟩:∃ c,cmpQ x y=c:=⟨_,rfl⟩
 have C1:=hid (fun(W:World) (T:La W)=>qCompare x y c hc kx ky W T)
 have C2:=hid (fun(W:World)=>srCompare x y c hc kx ky mx my W)
 have C3:=hid (fun(W:World) (T:La W)=>qAdd x y _ rfl kx ky W T)
 have C4:=hid (fun(W:World)=>srSum x y _ rfl kx ky mx my W)
 have C5:=hid (fun(W:World) (T:La W)=>qSub x y _ rfl kx ky W T)
 have C6:=hid (fun(W:World)=>srDifference x y _ rfl kx ky mx my W)
 have C7:=hid (fun(W:World) (T:La W)=>qMul x y _ rfl kx ky W T)
 have C8:=hid (fun(W:World)=>srProduct x y _ rfl kx ky mx my W)
 have C9:=hid (fun(W:World) (T:La W)=>qDiv x y _ rfl kx ky h0 W T)
 have C10:=hid (fun(W:World)=>srQuotient x y _ rfl h0 kx ky mx my W)
 clear h0
 generalize Sq (x / y)=s9 at *
 clear hc kx ky mx my
 generalize Sq (x+y)=s3 at *
 generalize Sq (x-y)=s5 at *
 generalize Sq (x*y)=s7 at *
 generalize Sq x=a at *
 generalize Sq y=b at *
 go_enter Tryz.func4,Tryz.ntmps4
 go_wp2_with fail
 refine(qawake _ HT.out).mono ?_
 rintro e w1 ⟨rfl,hb1⟩
 have HB1:=hid (hb1.alloc hb1.size (.cells #[.string a,.string b] 22))
 have hc:=strs_cells2 w1 a b
 have HLo:=hid (long2_no w1.heap.size a b _ SA.out SB.out hc)
 clear hb1 hc
 go_wp2_with fail
 refine HLo.out.mono ?_
 rintro e w' ⟨rfl,rfl⟩
 go_wp2_with fail
 refine(C1.out _ (HT.out.on HB1.out)).mono ?_
 rintro e w2 ⟨rfl,hb⟩
 have HB2:=hbt HB1 hb
 clear hb
 go_wp2_with fail
 refine(C2.out _).mono ?_
 rintro e w3 ⟨rfl,hb⟩
 have HB3:=hbt HB2 hb
 clear hb
 go_wp2_with fail
 refine(C3.out _ (HT.out.on HB3.out)).mono ?_
 rintro e w4 ⟨rfl,hb⟩
 have HB4:=hbt HB3 hb
 clear hb
 go_wp2_with fail
 refine(C4.out _).mono ?_
 rintro e w5 ⟨rfl,hb⟩
 have HB5:=hbt HB4 hb
 clear hb
 go_wp2_with fail
 refine(C5.out _ (HT.out.on HB5.out)).mono ?_
 rintro e w6 ⟨rfl,hb⟩
 have HB6:=hbt HB5 hb
 clear hb
 go_wp2_with fail
 refine(C6.out _).mono ?_
 rintro e w7 ⟨rfl,hb⟩
 have HB7:=hbt HB6 hb
 clear hb
 go_wp2_with fail
 refine(C7.out _ (HT.out.on HB7.out)).mono ?_
 rintro e w8 ⟨rfl,hb⟩
 have HB8:=hbt HB7 hb
 clear hb
 go_wp2_with fail
 refine(C8.out _).mono ?_
 rintro e w9 ⟨rfl,hb⟩
 have HB9:=hbt HB8 hb
 clear hb
 go_wp2_with fail
 refine(C9.out _ (HT.out.on HB9.out)).mono ?_
 rintro e w10 ⟨rfl,hb⟩
 have HB10:=hbt HB9 hb
 clear hb
 go_wp2_with fail
 refine(C10.out _).mono ?_
 rintro e w11 ⟨rfl,hb⟩
 have HB11:=hbt HB10 hb
 clear hb
 go_wp2
 go_ret
 exact⟨rfl,HB11.out⟩
theorem qcom_any (a b:ByteArray)(w:World)(hl:La w) :
 CR 4 #[.string a,.string b] w (.bool true):=by
 by_cases hab:60<a.size∨60<b.size
 · exact qcom_long a b hab w hl
 · have ha:a.size≤60:=by omega
   have hb:b.size≤60:=by omega
   cases hv:(vldQ a.data.toList&&vldQ b.data.toList) with
   | false=>exact qcom_no a b ha hb hv w hl
   | true =>
     have hv':=hv
     rw[Bool.and_eq_true]at hv'
     have ea:=sq_of hv'.1
     have eb:=sq_of hv'.2
     generalize qval a.data.toList=x at ea
     generalize qval b.data.toList=y at eb
     subst ea
     subst eb
     by_cases h0:y=0
     · exact qcom_zero x y ha hb h0 w hl
     · exact qcom_yes x y ha hb h0 w hl
end Go.Proofs.YtmigpoiajkihhaaGreatDoor
