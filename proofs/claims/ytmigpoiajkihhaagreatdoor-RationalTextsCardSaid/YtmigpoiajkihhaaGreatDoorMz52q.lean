/- Texts of this proof, one behind the other. -/
import Derived.Test.YtmigpoiajkihhaaGreatDoorMz39q
import Derived.Test.YtmigpoiajkihhaaGreatDoorMz1q
import Derived.Test.YtmigpoiajkihhaaGreatDoorTc
import Derived.Test.YtmigpoiajkihhaaGreatDoorTe
import Derived.Test.YtmigpoiajkihhaaGreatDoorMz50q
import Derived.Test.YtmigpoiajkihhaaGreatDoorTd
import Derived.Test.YtmigpoiajkihhaaGreatDoorMz12q
import Derived.Test.YtmigpoiajkihhaaGreatDoorMz32q
/- garboardref03: Decimal, Parse in numbers. -/
namespace Go.Proofs.YtmigpoiajkihhaaGreatDoor
open Go.RowKit Go.Gb
theorem floor_mk (a:Int) (b:Nat) (hb:b≠0):(mkRat a b).num / ((mkRat a b).den:Int)=a / (b:Int):=by
 obtain ⟨h1,h2⟩:=mk_parts a b hb
 have hg:0<Nat.gcd a.natAbs b:=Nat.gcd_pos_of_pos_right _ (by omega)
 have d1:((Nat.gcd a.natAbs b:Nat):Int)∣a:=Int.ofNat_dvd_left.2 (Nat.gcd_dvd_left _ _)
 have d2:Nat.gcd a.natAbs b∣b:=Nat.gcd_dvd_right _ _
 rw [h1,h2]
 obtain ⟨x,hx⟩:=d1
 obtain ⟨y,hy⟩:=d2
 generalize Nat.gcd a.natAbs b=g at *
 have e1:a / (g:Int)=x:=by rw [hx];exact Int.mul_ediv_cancel_left _ (by omega)
 have e2:b / g=y:=by rw [hy];exact Nat.mul_div_cancel_left _ hg
 rw [e1,e2]
 have e3:(b:Int)=(g:Int) * (y:Int):=by rw [hy,Int.natCast_mul]
 rw [hx,e3,Int.mul_ediv_mul_of_pos _ _ (by omega)]
def absR (x:Rat):Rat:=⟨(x.num.natAbs:Int),x.den,x.den_nz,by rw [Int.natAbs_natCast];exact x.reduced⟩
def natR (n:Nat):Rat:=⟨(n:Int),1,by decide,by unfold Nat.Coprime;exact Nat.gcd_one_right _⟩
theorem dec_floor (x:Rat) (p:Nat):(absR x * natR p+1 / 2).num / ((absR x * natR p+1 / 2).den:Int)=((x.num.natAbs * p:Nat) * 2+(x.den:Int)) / ((x.den:Int) * 2):=by
 have h2:(1 / 2:Rat)=mkRat 1 2:=by decide +kernel
 have e1:absR x * natR p=mkRat ((x.num.natAbs * p:Nat):Int) x.den:=by
  rw [mul_small]
  show mkRat ((x.num.natAbs:Int) * (p:Int)) (x.den * 1)=_
  rw [Nat.mul_one,Int.natCast_mul]
 rw [e1,h2,Rat.mkRat_add_mkRat _ _ x.den_nz (by decide),floor_mk _ _ (by have:=x.den_pos;omega)]
 congr 1
 · rw [Int.one_mul];rfl
theorem near_abs (x:Rat) (p:Nat) (z:Int) (hz:(absR x * natR p+1 / 2).num / ((absR x * natR p+1 / 2).den:Int)=z):0≤z∧nearZ (x.num * (p:Int)) (x.den:Int)=(if zneg x.num=true∧0<p then -z else z):=by
 rw [dec_floor] at hz
 have hd:=x.den_pos
 have z0:0≤z:=by rw [← hz];exact Int.ediv_nonneg (by omega) (by omega)
 refine ⟨z0,?_⟩
 unfold nearZ zneg
 have ea:(x.num * (p:Int)).natAbs=x.num.natAbs * p:=by rw [Int.natAbs_mul,Int.natAbs_natCast]
 rw [ea,hz]
 by_cases h:x.num * (p:Int)<0
 · rw [if_pos h]
   have h1:x.num<0:=by
    rcases Int.lt_or_le x.num 0 with k|k
    · exact k
    · have:=Int.mul_nonneg k (show (0:Int)≤(p:Int) by omega);omega
   have h3:0<p:=by
    apply Nat.pos_of_ne_zero
    rintro rfl
    simp at h
   rw [if_pos ⟨decide_eq_true h1,h3⟩]
 · rw [if_neg h,if_neg]
   rintro ⟨k1,k2⟩
   have k1:=of_decide_eq_true k1
   exact h (Int.mul_neg_of_neg_of_pos k1 (by omega))
theorem padS_pad (n m:Nat) (k:Nat) (hk:k=n+1 - (Sn m).size):(padS k (Sn m)).data.toList=padL (Lib.decDigits m) n:=by
 have e:(Sn m).size=(Lib.decDigits m).length:=by rw [← size_list,sn_list]
 subst hk
 unfold padS padL
 rw [mk_list,sn_list,e]
theorem bodyT_eq (m n:Nat):bodyT (Sn m) n=if n=0 then Sn m else pointB (Lib.decDigits m) n:=by
 unfold bodyT
 by_cases h:n=0
 · rw [if_pos h,if_pos h]
   have e:1 - (Sn m).size=0:=by
    have:(Sn m).size=(Lib.decDigits m).length:=by rw [← size_list,sn_list]
    have h2:=dec_ne_nil m
    have:0<(Lib.decDigits m).length:=List.length_pos_iff.2 h2
    omega
   rw [e,padS_zero]
 · rw [if_neg h,if_neg h]
   have hp:=padS_pad n m _ rfl
   have hs:(padS (n+1 - (Sn m).size) (Sn m)).size=(padL (Lib.decDigits m) n).length:=by rw [← size_list,hp]
   apply ByteArray.ext;apply Array.ext'
   rw [ByteArray.data_append,ByteArray.data_append,Array.toList_append,Array.toList_append,extract_list,extract_list,hp,hs]
   unfold pointB pointL
   simp only [List.drop_zero,Nat.sub_zero,List.append_assoc,List.cons_append,List.nil_append]
   congr 2
   rw [List.take_of_length_le]
   rw [List.length_drop];omega
theorem decT_eq (neg:Bool) (z:Int) (n:Nat) (hz:0≤z):decT neg (zlen z) (Sn z.natAbs) n=decB (if neg=true then -z else z) n:=by
 have hl:0<zlen z↔z≠0:=by
  constructor
  · intro h e
    rw [e] at h
    exact absurd h (by decide +kernel)
  · intro h
    apply Nat.pos_of_ne_zero
    intro e
    have h1:digs z.natAbs=[]:=List.length_eq_zero_iff.1 e
    have h2:=wval_digs z.natAbs
    rw [h1] at h2
    have:(z.natAbs:Nat)=0:=by rw [← h2];rfl
    omega
 obtain ⟨m,rfl⟩:∃ m:Nat,z=(m:Int):=⟨z.natAbs,by omega⟩
 rw [Int.natAbs_natCast]
 unfold decT decB
 rw [bodyT_eq]
 by_cases hn:n=0
 · rw [if_pos hn,if_pos hn]
   cases neg with
   | false=>rw [if_neg (by simp)];exact (sz_nat m).symm
   | true =>
     by_cases h0:m=0
     · subst h0
       rw [if_neg (by rw [hl];simp)]
       decide +kernel
     · rw [if_pos ⟨rfl,hl.2 (by omega)⟩,if_pos rfl,sz_neg h0]
       apply ByteArray.ext;apply Array.ext'
       simp [Sn]
 · rw [if_neg hn,if_neg hn]
   cases neg with
   | false =>
     rw [if_neg (by simp),if_neg (by simp),if_neg (by first|omega|(simp;done)|(simp;omega))]
     simp
   | true =>
     by_cases h0:m=0
     · subst h0
       rw [if_neg (by rw [hl];simp),if_pos rfl,if_neg (by decide)]
       rfl
     · rw [if_pos ⟨rfl,hl.2 (by omega)⟩,if_pos rfl,if_pos (by omega),Int.natAbs_neg,Int.natAbs_natCast,minus_point]
theorem srDecimal (x:Rat) (n:Nat) (hn:n≤64) (hx:SmQ 900 x) (sx:(Sq x).size≤1000) (W:World) :
 CR 28 #[.string (Sq x),.int .i64 (n:Int)] W (.tuple #[.string (decB (nearZ (x.num * ((10 ^ n:Nat):Int)) (x.den:Int)) n),.int .i64 0]):=by
 obtain ⟨p,hp⟩:∃ p,p=10 ^ n:=⟨_,rfl⟩
 have hp0:0<p:=by rw [hp];exact Nat.pow_pos (by decide)
 have sp:Sm 65 p:=by have h:=sm_pow10 n 65 (by omega);rw [Int.natAbs_natCast,← hp] at h;exact h
 obtain ⟨z,hz⟩:∃ z,(absR x * natR p+1 / 2).num / ((absR x * natR p+1 / 2).den:Int)=z:=⟨_,rfl⟩
 obtain ⟨z0,hnear⟩:=near_abs x p z hz
 have sa:SmQ 900 (absR x):=⟨by show Sm 900 ((x.num.natAbs:Int)).natAbs;rw [Int.natAbs_natCast];exact hx.1,hx.2⟩
 have sn:SmQ 65 (natR p):=⟨by show Sm 65 ((p:Int)).natAbs;rw [Int.natAbs_natCast];exact sp,Sm.mono (k:=1) (show Sm 1 1 by simp [Sm]) (by decide)⟩
 have sh:SmQ 1 (1 / 2:Rat):=⟨by unfold Sm;decide +kernel,by unfold Sm;decide +kernel⟩
 have sm:=sa.mul sn
 have ss:=sm.add sh
 have lx:LQ (absR x):=smq_lq sa (by decide) (by decide)
 have lp:LQ (natR p):=smq_lq sn (by decide) (by decide)
 have lm:LQ (absR x * natR p):=smq_lq sm (by decide) (by decide)
 have lh:LQ (1 / 2:Rat):=smq_lq sh (by decide) (by decide)
 have ls:LQ (absR x * natR p+1 / 2):=smq_lq ss (by decide) (by decide)
 have szz:=fl_sm ss.1
 rw [hz] at szz
 have lz:zlen z≤10000:=Nat.le_trans (sm_digs szz (by decide)) (by decide)
 have zs:(Sn z.natAbs).size≤100000:=Nat.le_trans (sn_size szz (by decide)) (by decide)
 have lnum:nlen x.num.natAbs≤900:=sm_digs hx.1 (by decide)
 have lpp:nlen p≤65:=sm_digs sp (by decide)
 have l10:(digs 10).length≤1000:=by decide +kernel
 rw [← hp]
 refine rdec_raw (Sq x) (Sn z.natAbs) x.num (absR x).num (natR p).num (absR x * natR p).num (1 / 2:Rat).num (absR x * natR p+1 / 2).num z x.den n 10 p 1 (absR x * natR p).den (1 / 2:Rat).den (absR x * natR p+1 / 2).den _ hn zs ?_ W
  (fun W=>sFrom x hx sx W) (fun W=>cSmallL 10 10 rfl (by decide) W) (fun s d W h=>?_) (fun p1 c1 W h=>cMake false _ x.num.natAbs _ (by rfl) (by omega) W h)
  (fun s d W h=>cMake false _ p _ (by rfl) (by omega) W h) (fun W=>cSmallL 1 1 rfl (by decide) W)
  (fun p1 c1 s1 d1 p2 c2 s2 d2 W h1 h2 h3 h4=>sQMul (absR x) (natR p) _ rfl lx lp p1 c1 s1 d1 p2 c2 s2 d2 W h1 h2 h3 h4) (fun W=>?_) (fun p1 c1 s1 d1 p2 c2 s2 d2 W h1 h2 h3 h4=>sQAdd (absR x * natR p) (1 / 2) _ rfl lm lh p1 c1 s1 d1 p2 c2 s2 d2 W h1 h2 h3 h4)
  (fun p1 c1 s1 d1 W h1 h2=>sWhole (absR x * natR p+1 / 2) z hz ls p1 c1 s1 d1 W h1 h2) (fun p1 c1 W h=>RTo_any (.slice p1 (zlen z) c1) z.natAbs lz W h)
 · rw [decT_eq _ _ _ z0,hnear]
   congr 1
   by_cases hneg:zneg x.num=true
   · rw [if_pos ⟨hneg,hp0⟩,if_pos hneg]
   · rw [if_neg (fun h=>hneg h.1),if_neg hneg]
 · have h:=own_rn (RPower_any (.slice s (nlen 10) d) 10 n hn l10 W h)
   rwa [← hp] at h
 · refine frac_raw 1 2 1 (1 / 2:Rat).num 2 (1 / 2:Rat).den (by decide) W (fun W=>sSmall 1 1 rfl (by decide) (by decide) W) (fun W=>cSmallL 2 2 rfl (by decide) W) (fun p1 c1 s2 d2 W h1 h2=>?_)
   exact sLowest 1 2 (1 / 2) (by decide +kernel) (by decide) (by decide +kernel) (by decide +kernel) p1 c1 s2 d2 W h1 h2
theorem srDecimal_range (x:Rat) (n:Int) (hn:n<0∨64<n) (hx:SmQ 900 x) (sx:(Sq x).size≤1000) (W:World) :
 CR 28 #[.string (Sq x),.int .i64 n] W (.tuple #[.string ⟨#[]⟩,.int .i64 2]):=by
 rcases hn with hn|hn
 · exact rdec_neg (Sq x) n x.num x.den hn W (fun W=>sFrom x hx sx W)
 · exact rdec_big (Sq x) n x.num x.den hn W (fun W=>sFrom x hx sx W)
theorem srDecimal_no (a:ByteArray) (n:Int) (h:vldQ a.data.toList=false) (ha:a.size≤900) (W:World) :
 CR 28 #[.string a,.int .i64 n] W (.tuple #[.string ⟨#[]⟩,.int .i64 1]):=rdec_no a n _ _ W (fun W=>sFrom_no a h ha W)
theorem srParse_valid (a:ByteArray) (h:vldQ a.data.toList=true) (ha:a.size≤900) (W:World) :
 CR 30 #[.string a] W (.tuple #[.string a,.int .i64 0]):=rparse_valid a W (fun W=>by have:=srValid a ha W;rwa [h] at this)
theorem cut_sign (l:List UInt8):(⟨(45 :: l).toArray⟩:ByteArray).extract 1 (⟨(45 :: l).toArray⟩:ByteArray).size=⟨l.toArray⟩:=by
 apply ByteArray.ext;apply Array.ext'
 rw [extract_list,mk_list,dl_size]
 simp
theorem srParse_dec (a b:List UInt8) (sg:Bool) (hd:DecForm a b) (s:ByteArray) (hs:s=⟨((if sg=true then [45] else []) ++ (a ++ 46 :: b)).toArray⟩) (h60:s.size≤60) (W:World) :
 CR 30 #[.string s] W (.tuple #[.string (Sq (Rat.divInt (if sg=true then -(dval (a ++ b):Int) else (dval (a ++ b):Int)) ((10 ^ b.length:Nat):Int))),.int .i64 0]):=by
 have hscan:=scan_yes hd
 have hd':=hd
 obtain ⟨hn1,hn2,hd1,hd2⟩:=hd
 have hsz:s.size=(if sg=true then 1 else 0)+(a.length+(b.length+1)):=by
  rw [hs,size_mk]
  cases sg <;> simp <;> omega
 have hla:a.length≤60:=by omega
 have hlb:b.length≤60:=by omega
 have hlab:a.length+b.length≤60:=by omega
 have hall:(a ++ b).all isD=true:=by rw [List.all_append,hd1,hd2];rfl
 have hv:vldQ s.data.toList=false:=by
  rw [hs,mk_list]
  refine vldQ_no46 (by cases sg <;> simp) ?_
  have no47:∀ l:List UInt8,l.all isD=true→(47:UInt8) ∉ l:=fun l h hm=>absurd (List.all_eq_true.1 h 47 hm) (by decide)
  have k1:=no47 a hd1
  have k2:=no47 b hd2
  cases sg <;> simp [k1,k2]
 have h1:CQ 14 #[.string s] (.bool false):=fun W=>by have h:=srValid s (by omega) W;rwa [hv] at h
 obtain ⟨v,hv0⟩:∃ v,v=dval (a ++ b):=⟨_,rfl⟩
 have sv:Sm 60 v:=by
  have:=dval_lt (a ++ b) hall
  rw [hv0]
  refine Nat.lt_of_lt_of_le this (Nat.pow_le_pow_right (by decide) (by rw [List.length_append];exact hlab))
 obtain ⟨z,hz⟩:∃ z:Int,z=(if sg=true then -(v:Int) else (v:Int)):=⟨_,rfl⟩
 obtain ⟨p,hp⟩:∃ p,p=10 ^ b.length:=⟨_,rfl⟩
 have hp0:0<p:=by rw [hp];exact Nat.pow_pos (by decide)
 have sp:Sm 65 p:=by have h:=sm_pow10 b.length 65 (by omega);rw [Int.natAbs_natCast,← hp] at h;exact h
 rw [← hv0,← hz,← hp]
 obtain ⟨q,hq⟩:∃ q,Rat.divInt z (p:Int)=q:=⟨_,rfl⟩
 rw [hq]
 have hqm:mkRat z p=q:=by rw [← hq,Rat.divInt_ofNat]
 have zv:z.natAbs=v:=by rw [hz];split <;> simp
 have lz:zlen z≤60:=by unfold zlen;rw [zv];exact sm_digs sv (by decide)
 have lv:nlen v≤60:=sm_digs sv (by decide)
 have lp:nlen p≤65:=sm_digs sp (by decide)
 have sq:SmQ 65 q:=by rw [← hqm];exact smq_mk (by omega) (by rw [zv];exact sv.mono (by decide)) sp
 have l10:(digs 10).length≤1000:=by decide +kernel
 have hF:∀ W,CN 70 #[.string ⟨(a ++ b).toArray⟩] W v:=fun W=>by
  have h:=own_rn (RFrom_any ⟨(a ++ b).toArray⟩ (by rw [mk_list];exact hall) (by rw [size_mk,List.length_append];omega) W)
  rwa [mk_list,← hv0] at h
 have hP:∀ (s:Option Addr) (d:Nat) W,RN W (.slice s (nlen 10) d) 10→Calls Tryz.prog 62 #[.slice s (nlen 10) d,.int .i64 (b.length:Int)] W fun e w'=>∃ p' c',e=.returned (.slice p' (nlen p) c')∧RN w' (.slice p' (nlen p) c') p∧Below W.heap.size W w':=fun s d W h=>by
  have h:=own_rn (RPower_any (.slice s (nlen 10) d) 10 b.length (by omega) l10 W h)
  rwa [← hp] at h
 have hL:=fun (p1:Option Addr) (c1:Nat) (s2:Option Addr) (d2:Nat) W h1 h2=>sLowest z p q hqm (by omega) (by omega) (by omega) p1 c1 s2 d2 W h1 h2
 have hT:=fun p1 c1 s1 d1 W h1 h2=>sQTo q _ rfl (SmQ.mono sq (by decide)) p1 c1 s1 d1 W h1 h2
 cases sg with
 | false =>
   have e0:s=⟨(a ++ 46 :: b).toArray⟩:=by rw [hs];rfl
   subst e0
   refine rparse_plain_yes _ (Sq q) (a ++ b) b.length z q.num v 10 p q.den (by omega) (fun h0=>?_) (by rw [mk_list,dl_size];exact hscan) W h1 hF (fun s d W h=>cMake false _ v z (by first|exact hz|(rw [hz];done)|(rw [hz];rfl)) (by omega) W h) (fun W=>cSmallL 10 10 rfl (by decide) W) hP hL hT
   intro e
   have h2:(⟨(a ++ 46 :: b).toArray⟩:ByteArray).data.toList[0]'(by rw [size_list];exact h0)=45:=by rw [← at_list h0];exact e
   cases a with
   | nil=>exact hn1 rfl
   | cons c u =>
     have h3:c=45:=by simpa using h2
     subst h3
     exact digits_no45 hd1 (.head _)
 | true =>
   have e0:s=⟨(45 :: (a ++ 46 :: b)).toArray⟩:=by rw [hs];rfl
   subst e0
   have h0:0<(⟨(45 :: (a ++ 46 :: b)).toArray⟩:ByteArray).size:=by omega
   refine rparse_neg_yes _ ⟨(a ++ 46 :: b).toArray⟩ (Sq q) (a ++ b) b.length z q.num v 10 p q.den (by rw [dl_size];simp;omega) ⟨h0,?_,cut_sign _⟩ (by rw [mk_list,dl_size];exact hscan) W h1 hF (fun s d W h=>cMake true _ v z (by first|exact hz|(rw [hz];done)|(rw [hz];rfl)) (by omega) W h) (fun W=>cSmallL 10 10 rfl (by decide) W) hP hL hT
   rw [at_list h0]
   rfl
theorem srParse_bad (s:ByteArray) (l:List UInt8) (sg:Bool) (hs:s=⟨((if sg=true then [45] else []) ++ l).toArray⟩) (hsg:sg=false→∀ t,l≠45 :: t) (hv:vldQ s.data.toList=false) (h60:s.size≤60) (hno:∀ a b,l=a ++ 46 :: b→¬ DecForm a b) (W:World) :
 CR 30 #[.string s] W (.tuple #[.string ⟨#[]⟩,.int .i64 3]):=by
 have h1:CQ 14 #[.string s] (.bool false):=fun W=>by have h:=srValid s (by omega) W;rwa [hv] at h
 have hres:∀ d p,scan l.length l 0 [] 0 false≠some (d,p,true):=by
  intro d p e
  rcases scan_no hno with h|⟨d',p',h⟩
  · rw [h] at e;cases e
  · rw [h] at e
    injection e with e
    injection e with _ e
    injection e with _ e
    cases e
 cases sg with
 | false =>
   have e0:s=⟨l.toArray⟩:=by rw [hs];rfl
   subst e0
   refine rparse_plain_no _ _ (by omega) (fun h0=>?_) (by rw [mk_list,dl_size]) hres W h1
   intro e
   have h2:(⟨l.toArray⟩:ByteArray).data.toList[0]'(by rw [size_list];exact h0)=45:=by rw [← at_list h0];exact e
   cases l with
   | nil=>exact absurd h0 (by decide)
   | cons c u =>
     have h3:c=45:=by simpa using h2
     subst h3
     exact hsg rfl u rfl
 | true =>
   have e0:s=⟨(45 :: l).toArray⟩:=by rw [hs];rfl
   subst e0
   have hsz:(⟨(45 :: l).toArray⟩:ByteArray).size=l.length+1:=by rw [dl_size];simp
   have h0:0<(⟨(45 :: l).toArray⟩:ByteArray).size:=by omega
   refine rparse_neg_no _ ⟨l.toArray⟩ _ (by rw [dl_size];omega) ⟨h0,?_,cut_sign _⟩ (by rw [mk_list,dl_size]) hres W h1
   rw [at_list h0]
   rfl
end Go.Proofs.YtmigpoiajkihhaaGreatDoor
/- garboardlaw03.RationalTexts returns true, for any number, places and text: walks. -/
open Go.Lib (hid)
namespace Go.Proofs.YtmigpoiajkihhaaGreatDoor
set_option maxRecDepth 100000
set_option maxHeartbeats 20000000
open Go.RowKit Go.Gb
theorem qtext_long (a t:ByteArray) (n:Int) (hab:60<a.size∨60<t.size) (w:World) (hl:La w) :
 CR 5 #[.string a,.int .i64 n,.string t] w (.bool true):=by
 have HT:=hid hl
 clear hl
 have HL:=hid hab
 clear hab
 go_enter Tryz.func5,Tryz.ntmps5
 go_wp2_with fail
 refine (qawake _ HT.out).mono ?_
 rintro e w1 ⟨rfl,hb1⟩
 have HB1:=hid (hb1.alloc hb1.size (.cells #[.string a,.string t] 22))
 have hc:=strs_cells2 w1 a t
 have HLo:=hid (long2_yes w1.heap.size a t _ HL.out hc)
 clear hb1 hc
 go_wp2_with fail
 refine HLo.out.mono ?_
 rintro e w' ⟨rfl,rfl⟩
 go_wp2_with fail
 refine (qawake _ (HT.out.on HB1.out)).mono ?_
 rintro e w2 ⟨rfl,hb⟩
 have HB2:=hid (HB1.out.trans (hb.mono HB1.out.size))
 clear hb
 go_wp2
 go_ret
 exact ⟨rfl,HB2.out⟩
theorem qtext_walk (a t x s u:ByteArray) (n e1 e2 e3:Int) (ha:a.size≤60) (ht:t.size≤60)
 (h1:CL 25 #[.string a] (.tuple #[.string x,.int .i64 e1])) (h2:CQ 26 #[.string a] (.tuple #[.string x,.int .i64 e1]))
 (h3:CL 27 #[.string a,.int .i64 n] (.tuple #[.string s,.int .i64 e2])) (h4:CQ 28 #[.string a,.int .i64 n] (.tuple #[.string s,.int .i64 e2]))
 (h5:CL 29 #[.string t] (.tuple #[.string u,.int .i64 e3])) (h6:CQ 30 #[.string t] (.tuple #[.string u,.int .i64 e3])) (w:World) (hl:La w) :
 CR 5 #[.string a,.int .i64 n,.string t] w (.bool true):=by
 have HT:=hid hl
 clear hl
 have C1:=hid h1
 have C2:=hid h2
 have C3:=hid h3
 have C4:=hid h4
 have C5:=hid h5
 have C6:=hid h6
 have SA:=hid ha
 have SB:=hid ht
 clear ha ht h1 h2 h3 h4 h5 h6
 go_enter Tryz.func5,Tryz.ntmps5
 go_wp2_with fail
 refine (qawake _ HT.out).mono ?_
 rintro e w1 ⟨rfl,hb1⟩
 have HB1:=hid (hb1.alloc hb1.size (.cells #[.string a,.string t] 22))
 have hc:=strs_cells2 w1 a t
 have HLo:=hid (long2_no w1.heap.size a t _ SA.out SB.out hc)
 clear hb1 hc
 go_wp2_with fail
 refine HLo.out.mono ?_
 rintro e w' ⟨rfl,rfl⟩
 go_wp2_with fail
 refine (C1.out _ (HT.out.on HB1.out)).mono ?_
 rintro e w2 ⟨rfl,hb⟩
 have HB2:=hid (HB1.out.trans (hb.mono HB1.out.size))
 clear hb
 go_wp2_with fail
 refine (C2.out _).mono ?_
 rintro e w3 ⟨rfl,hb⟩
 have HB3:=hid (HB2.out.trans (hb.mono HB2.out.size))
 clear hb
 go_wp2_with fail
 refine (C3.out _ (HT.out.on HB3.out)).mono ?_
 rintro e w4 ⟨rfl,hb⟩
 have HB4:=hid (HB3.out.trans (hb.mono HB3.out.size))
 clear hb
 go_wp2_with fail
 refine (C4.out _).mono ?_
 rintro e w5 ⟨rfl,hb⟩
 have HB5:=hid (HB4.out.trans (hb.mono HB4.out.size))
 clear hb
 go_wp2_with fail
 refine (C5.out _ (HT.out.on HB5.out)).mono ?_
 rintro e w6 ⟨rfl,hb⟩
 have HB6:=hid (HB5.out.trans (hb.mono HB5.out.size))
 clear hb
 go_wp2_with fail
 refine (C6.out _).mono ?_
 rintro e w7 ⟨rfl,hb⟩
 have HB7:=hid (HB6.out.trans (hb.mono HB6.out.size))
 clear hb
 go_wp2
 go_ret
 exact ⟨rfl,HB7.out⟩
theorem text_floor (a:ByteArray) (ha:a.size≤60):∃ (x:ByteArray) (r:Int),(CL 25 #[.string a] (.tuple #[.string x,.int .i64 r]))∧(CQ 26 #[.string a] (.tuple #[.string x,.int .i64 r])):=by
 cases va:vldQ a.data.toList with
 | false=>exact ⟨_,_,fun W hW=>qfloor_no a va (by omega) W hW,fun W=>srFloor_no a va (by omega) W⟩
 | true =>
   have ea:=sq_of va
   generalize qval a.data.toList=x at ea
   subst ea
   have kx:SmQ 900 x:=(smq_of ha (by decide)).mono (by decide)
   exact ⟨_,_,fun W hW=>qfloor x kx W hW,fun W=>srFloor x kx (by omega) W⟩
theorem text_decimal (a:ByteArray) (n:Int) (ha:a.size≤60):∃ (x:ByteArray) (r:Int),(CL 27 #[.string a,.int .i64 n] (.tuple #[.string x,.int .i64 r]))∧(CQ 28 #[.string a,.int .i64 n] (.tuple #[.string x,.int .i64 r])):=by
 cases va:vldQ a.data.toList with
 | false=>exact ⟨_,_,fun W hW=>decimal_no a n va (by omega) W hW,fun W=>srDecimal_no a n va (by omega) W⟩
 | true =>
   have ea:=sq_of va
   generalize qval a.data.toList=x at ea
   subst ea
   have kx:SmQ 900 x:=(smq_of ha (by decide)).mono (by decide)
   by_cases hn:n<0∨64<n
   · exact ⟨_,_,fun W hW=>qDecimal_range x n hn kx W hW,fun W=>srDecimal_range x n hn kx (by omega) W⟩
   · obtain ⟨m,rfl⟩:∃ m:Nat,n=(m:Int):=⟨n.toNat,by omega⟩
     exact ⟨_,_,fun W hW=>qDecimal x m (by omega) kx W hW,fun W=>srDecimal x m (by omega) kx (by omega) W⟩
theorem text_parse (t:ByteArray) (ht:t.size≤60):∃ (x:ByteArray) (r:Int),(CL 29 #[.string t] (.tuple #[.string x,.int .i64 r]))∧(CQ 30 #[.string t] (.tuple #[.string x,.int .i64 r])):=by
 cases vt:vldQ t.data.toList with
 | true =>
   have et:=sq_of vt
   obtain ⟨x,hx⟩:∃ x,x=qval t.data.toList:=⟨_,rfl⟩
   rw [← hx] at et
   have kx:SmQ 900 x:=by rw [et] at ht;exact (smq_of ht (by decide)).mono (by decide)
   refine ⟨t,0,fun W hW=>?_,fun W=>srParse_valid t vt (by omega) W⟩
   have h:=qvalid_yes x kx W hW
   rw [← et] at h
   exact parse_valid t W h
 | false =>
   have hsplit:∃ (sg:Bool) (l:List UInt8),t=⟨((if sg=true then [45] else []) ++ l).toArray⟩∧(sg=false→∀ u,l≠45 :: u):=by
    by_cases h:∃ u,t.data.toList=45 :: u
    · obtain ⟨u,hu⟩:=h
      refine ⟨true,u,?_,fun h=>by cases h⟩
      apply ByteArray.ext;apply Array.ext'
      rw [mk_list,hu];rfl
    · refine ⟨false,t.data.toList,?_,fun _ u hu=>h ⟨u,hu⟩⟩
      apply ByteArray.ext;apply Array.ext'
      rw [mk_list];rfl
   obtain ⟨sg,l,el,hsg⟩:=hsplit
   have hlen:l.length≤60:=by
    have h:t.size=(if sg=true then [45] else []:List UInt8).length+l.length:=by rw [el,size_mk,List.length_append]
    omega
   rcases form_cases l with ⟨a,b,e,hd⟩|hno
   · subst e
     exact ⟨_,_,fun W hW=>qParse_dec a b sg hd t el ht W hW,fun W=>srParse_dec a b sg hd t el ht W⟩
   · refine ⟨_,_,fun W hW=>qParse_bad t l sg vt (by omega) (by omega) hno W hW (fun W=>?_),fun W=>srParse_bad t l sg el hsg vt ht hno W⟩
     cases sg with
     | true=>rw [el];exact calls_same (cut_neg l W)
     | false =>
       have e0:t=⟨l.toArray⟩:=by rw [el];rfl
       rw [e0]
       exact calls_same (cut_not _ (fun u hu=>by rw [mk_list] at hu;exact hsg rfl u hu) W)
theorem qtext_any (a:ByteArray) (n:Int) (t:ByteArray) (w:World) (hl:La w) :
 CR 5 #[.string a,.int .i64 n,.string t] w (.bool true):=by
 by_cases hab:60<a.size∨60<t.size
 · exact qtext_long a t n hab w hl
 · have ha:a.size≤60:=by omega
   have ht:t.size≤60:=by omega
   obtain ⟨x,e1,h1,h2⟩:=text_floor a ha
   obtain ⟨s,e2,h3,h4⟩:=text_decimal a n ha
   obtain ⟨u,e3,h5,h6⟩:=text_parse t ht
   exact qtext_walk a t x s u n e1 e2 e3 ha ht h1 h2 h3 h4 h5 h6 w hl
theorem qtext_wf (a:ByteArray) (n:Int) (t:ByteArray) (_:(Lit.int .i64 n).wf=true) (w:World) (hl:La w) :
 CR 5 #[.string a,.int .i64 n,.string t] w (.bool true):=qtext_any a n t w hl
end Go.Proofs.YtmigpoiajkihhaaGreatDoor
