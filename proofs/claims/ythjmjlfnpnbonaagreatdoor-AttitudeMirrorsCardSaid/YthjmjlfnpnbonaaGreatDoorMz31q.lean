/- Texts of this proof, one behind the other. -/
import Derived.Test.YthjmjlfnpnbonaaGreatDoorMz25q
namespace Go.Proofs.YthjmjlfnpnbonaaGreatDoor
open Go.RowKit Go.Gb
theorem index_hit (c:UInt8)(a b:List UInt8)(h:c∉a):Lib.index (a++c :: b) [c]=a.length:=by
 refine Lib.index_first (by simp) ?_ ?_
 · simp[Lib.occAt,List.isPrefixOf]
 · intro j hj
   unfold Lib.occAt
   rw[List.drop_append_of_le_length (by omega)]
   cases hd:a.drop j with
   | nil=>exact absurd (List.drop_eq_nil_iff.1 hd) (by omega)
   | cons x t =>
     have hx:x∈a:=List.mem_of_mem_drop (hd▸List.mem_cons_self)
     have h1:¬ c=x:=by rintro rfl;exact h hx
     simp[List.isPrefixOf,h1]
theorem index_miss (c:UInt8):∀ l:List UInt8,c∉l→Lib.index l [c] = -1
 | [],_=>rfl
 | x :: l,h=>by
   have h1:¬ c=x:=by rintro rfl;exact h List.mem_cons_self
   have h2:=index_miss c l (fun hm=>h (List.mem_cons_of_mem _ hm))
   unfold Lib.index
   rw[h2]
   simp[List.isPrefixOf,h1]
theorem cut_hit (c:UInt8)(a b:List UInt8)(h:c∉a):Lib.cut (a++c :: b) [c]=(a,b,true):=by
 unfold Lib.cut
 rw[index_hit c a b h,if_pos (by omega)]
 simp
theorem cut_miss (c:UInt8)(l:List UInt8)(h:c∉l):Lib.cut l [c]=(l,[],false):=by
 unfold Lib.cut
 rw[index_miss c l h]
 rfl
theorem cut_parts (c:UInt8)(l:List UInt8):(c∉l∧Lib.cut l [c]=(l,[],false))∨∃ a b,c∉a∧l=a++c :: b∧Lib.cut l [c]=(a,b,true):=by
 by_cases h:c∈l
 · obtain⟨a,b,e,hn⟩:=List.eq_append_cons_of_mem h
   exact Or.inr ⟨a,b,hn,e,by rw[e];exact cut_hit c a b hn⟩
 · exact Or.inl ⟨h,cut_miss c l h⟩
theorem dec_no (c:UInt8)(hc:isD c=false)(n:Nat):c∉Lib.decDigits n:=by
 intro h
 have:=List.all_eq_true.1 (dec_all n) c h
 rw[hc]at this;cases this
theorem sz_no (c:UInt8)(hc:isD c=false)(h45:c≠45)(z:Int):c∉(Sz z).data.toList:=by
 rcases int_cases z with⟨n,hn,rfl⟩|rfl|⟨n,hn,rfl⟩
 · rw[sz_neg hn]
   intro h
   rcases List.mem_cons.1 h with h|h
   · exact h45 h
   · exact dec_no c hc n h
 · rw[show Sz 0=Sn 0 from sz_nat 0,sn_list];exact dec_no c hc 0
 · rw[sz_nat,sn_list];exact dec_no c hc n
def Sq (q:Rat):ByteArray:=if q.den=1 then Sz q.num else ⟨((Sz q.num).data.toList++47 :: Lib.decDigits q.den).toArray⟩
theorem sq_int {q:Rat}(h:q.den=1):Sq q=Sz q.num:=by unfold Sq;rw[if_pos h]
theorem sq_frac {q:Rat}(h:q.den≠1):Sq q=⟨((Sz q.num).data.toList++47 :: Lib.decDigits q.den).toArray⟩:=by unfold Sq;rw[if_neg h]
theorem sq_frac_list {q:Rat}(h:q.den≠1):(Sq q).data.toList=(Sz q.num).data.toList++47 :: Lib.decDigits q.den:=by rw[sq_frac h]
theorem sq_ofInt (z:Int):Sq (Rat.ofInt z)=Sz z:=sq_int rfl
theorem cut_frac {q:Rat}(h:q.den≠1):Lib.cut (Sq q).data.toList [47]=((Sz q.num).data.toList,Lib.decDigits q.den,true):=by
 rw[sq_frac_list h]
 exact cut_hit 47 _ _ (sz_no 47 (by decide) (by decide) _)
theorem cut_int (z:Int):Lib.cut (Sz z).data.toList [47]=((Sz z).data.toList,[],false):=cut_miss 47 _ (sz_no 47 (by decide) (by decide) _)
def vldP (n d:List UInt8):Bool:=vldZ n&&vldZ d && !(d==[49])&&decide (1≤zval d)&&(Nat.gcd (zval n).natAbs (zval d).natAbs==1)
def vldQ (l:List UInt8):Bool:=if (Lib.cut l [47]).2.2 then vldP (Lib.cut l [47]).1 (Lib.cut l [47]).2.1 else vldZ l
def qval (l:List UInt8):Rat:=if (Lib.cut l [47]).2.2 then mkRat (zval (Lib.cut l [47]).1) (zval (Lib.cut l [47]).2.1).toNat else Rat.ofInt (zval l)
theorem szl_of {l:List UInt8}(h:vldZ l=true):(Sz (zval l)).data.toList=l:=by
 have h1:=sz_of (a:=⟨l.toArray⟩) (by simpa using h)
 have h2:=congrArg (fun b:ByteArray=>b.data.toList) h1
 simpa using h2.symm
theorem dec_of_z {l:List UInt8}(h:vldZ l=true)(h1:1≤zval l):l=Lib.decDigits (zval l).toNat:=by
 have h2:=szl_of h
 obtain⟨n,hn⟩:∃ n:Nat,zval l=n:=⟨(zval l).toNat,by omega⟩
 rw[hn,sz_nat,sn_list]at h2
 rw[hn,Int.toNat_natCast,h2]
theorem mk_coprime (z:Int)(n:Nat)(hn:n≠0)(hg:Nat.gcd z.natAbs n=1):(mkRat z n).num=z∧(mkRat z n).den=n:=by
 have h:=mk_parts z n hn
 rw[hg]at h
 simpa using h
theorem sq_of {a:ByteArray}(h:vldQ a.data.toList=true):a=Sq (qval a.data.toList):=by
 cases a with
 | mk d =>
   simp only at h ⊢
   obtain⟨l,rfl⟩:∃ l:List UInt8,d=l.toArray:=⟨d.toList,rfl⟩
   simp only at h ⊢
   rcases cut_parts 47 l with⟨_,e⟩|⟨x,y,_,el,e⟩
   · unfold vldQ at h
     unfold qval
     rw[e]at h ⊢
     simp only[Bool.false_eq_true,if_false]at h ⊢
     rw[sq_ofInt]
     have h2:=sz_of (a:=⟨l.toArray⟩) (by simpa using h)
     simpa using h2
   · unfold vldQ at h
     unfold qval
     rw[e]at h ⊢
     simp only[if_true]at h ⊢
     unfold vldP at h
     simp only[Bool.and_eq_true,decide_eq_true_eq,Bool.not_eq_true',beq_iff_eq]at h
     obtain⟨⟨⟨⟨h1,h2⟩,h3⟩,h4⟩,h5⟩:=h
     have hy:=dec_of_z h2 h4
     have hx:=szl_of h1
     obtain⟨m,hm⟩:∃ m:Nat,zval y=m:=⟨(zval y).toNat,by omega⟩
     rw[hm]at h4 h5 hy ⊢
     rw[Int.toNat_natCast]at hy ⊢
     rw[Int.natAbs_natCast]at h5
     obtain⟨p1,p2⟩:=mk_coprime (zval x) m (by omega) h5
     have hm1:m≠1:=by
        intro h6
        subst h6
        rw[Lib.decDigits_one (by decide)]at hy
        rw[hy]at h3
        simp at h3
     rw[sq_frac (by rw[p2];exact hm1),p1,p2,hx,← hy,el]
theorem sq_val (q:Rat):qval (Sq q).data.toList=q:=by
 unfold qval
 by_cases h:q.den=1
 · rw[sq_int h,cut_int]
   simp only[Bool.false_eq_true,if_false]
   rw[sz_val]
   exact Rat.ext rfl h.symm
 · rw[cut_frac h]
   simp only[if_true]
   rw[sz_val,zval_nat,Int.toNat_natCast]
   exact Rat.mkRat_self q
theorem sq_list (q:Rat):(Sq q).toList=(Sq q).data.toList:=toList_data _
theorem sq_neq {x y:Rat}(h:x≠y):((Sq x).toList==(Sq y).toList)=false:=by
 rw[beq_eq_false_iff_ne,sq_list,sq_list]
 intro h2
 apply h
 rw[← sq_val x,← sq_val y,h2]
def SmQ (k:Nat) (q:Rat):Prop:=Sm k q.num.natAbs∧Sm k q.den
def FitQ (q:Rat):Prop:=SmQ 900 q
theorem SmQ.mono {k l:Nat}{q:Rat}(h:SmQ k q)(hkl:k≤l):SmQ l q:=⟨h.1.mono hkl,h.2.mono hkl⟩
theorem SmQ.fit {k:Nat}{q:Rat}(h:SmQ k q)(hk:k≤900):FitQ q:=SmQ.mono h hk
theorem SmQ.neg {k:Nat}{q:Rat}(h:SmQ k q):SmQ k (-q):=by
 obtain⟨e1,e2⟩:=neg_parts q
 unfold SmQ
 rw[e1,e2,Int.natAbs_neg]
 exact h
theorem mk_le (z:Int)(n:Nat)(hn:n≠0):(mkRat z n).num.natAbs≤z.natAbs∧(mkRat z n).den≤n:=by
 obtain⟨e1,e2⟩:=mk_parts z n hn
 rw[e1,e2]
 exact⟨Int.natAbs_ediv_le_natAbs _ _,Nat.div_le_self _ _⟩
theorem smq_mk {k:Nat}{z:Int}{n:Nat}(hn:n≠0)(h1:Sm k z.natAbs)(h2:Sm k n):SmQ k (mkRat z n):=by
 obtain⟨e1,e2⟩:=mk_le z n hn
 exact⟨h1.le e1,h2.le e2⟩
theorem den_mul_nz (x y:Rat):x.den*y.den≠0:=Nat.mul_ne_zero x.den_nz y.den_nz
theorem SmQ.add {k l:Nat}{x y:Rat}(hx:SmQ k x)(hy:SmQ l y):SmQ (k+l+1) (x+y):=by
 rw[add_small]
 refine smq_mk (den_mul_nz x y) ?_ ((hx.2.mul hy.2).mono (by omega))
 refine Sm.le ?_ (Int.natAbs_add_le _ _)
 rw[Int.natAbs_mul,Int.natAbs_mul,Int.natAbs_natCast,Int.natAbs_natCast]
 exact Sm.add (hx.1.mul hy.2) ((hy.1.mul hx.2).mono (by omega))
theorem SmQ.sub {k l:Nat}{x y:Rat}(hx:SmQ k x)(hy:SmQ l y):SmQ (k+l+1) (x-y):=by
 rw[Rat.sub_eq_add_neg];exact hx.add hy.neg
theorem SmQ.mul {k l:Nat}{x y:Rat}(hx:SmQ k x)(hy:SmQ l y):SmQ (k+l) (x*y):=by
 rw[mul_small]
 refine smq_mk (den_mul_nz x y) ?_ (hx.2.mul hy.2)
 rw[Int.natAbs_mul]
 exact hx.1.mul hy.1
theorem SmQ.inv {k:Nat}{x:Rat}(hx:SmQ k x)(h0:x≠0):SmQ k x⁻¹:=by
 have hn:x.num≠0:=fun h=>h0 (Rat.num_eq_zero.1 h)
 rcases Int.lt_or_gt_of_ne hn with h|h
 · obtain⟨e1,e2⟩:=inv_neg' h
   unfold SmQ
   rw[e1,Int.natAbs_neg,Int.natAbs_natCast,show(x⁻¹).den=x.num.natAbs by omega]
   exact⟨hx.2,hx.1⟩
 · obtain⟨e1,e2⟩:=inv_pos h
   unfold SmQ
   rw[e1,Int.natAbs_natCast,show(x⁻¹).den=x.num.natAbs by omega]
   exact⟨hx.2,hx.1⟩
theorem SmQ.div {k l:Nat}{x y:Rat}(hx:SmQ k x)(hy:SmQ l y)(h0:y≠0):SmQ (k+l) (x / y):=by
 rw[Rat.div_def];exact hx.mul (hy.inv h0)
theorem smz_of' {z:Int}{k:Nat}(h:(Sz z).size≤k):Sm k z.natAbs:=by
 rcases int_cases z with⟨n,hn,rfl⟩|rfl|⟨n,hn,rfl⟩
 · rw[Int.natAbs_neg,Int.natAbs_natCast]
   rw[sz_neg hn]at h
   have h1:=Sm.of (a:=Sn n) (k:=k) (sn_vld n) (by
    have h2:(Sn n).size=(Lib.decDigits n).length:=by rw[← size_list,sn_list]
    have h3:(⟨(45 :: Lib.decDigits n).toArray⟩:ByteArray).size=(Lib.decDigits n).length+1:=by simp[ByteArray.size]
    omega)
   rwa [sn_dval]at h1
 · rw[show Sz 0=Sn 0 from sz_nat 0]at h
   have h1:=Sm.of (a:=Sn 0) (k:=k) (sn_vld 0) h
   rwa [sn_dval]at h1
 · rw[Int.natAbs_natCast]
   rw[sz_nat]at h
   have h1:=Sm.of (a:=Sn n) (k:=k) (sn_vld n) h
   rwa [sn_dval]at h1
theorem smq_of {q:Rat}{k:Nat}(h:(Sq q).size≤k)(hk:0<k):SmQ k q:=by
 by_cases h1:q.den=1
 · rw[sq_int h1]at h
   refine⟨smz_of' h,?_⟩
   rw[h1]
   exact Nat.one_lt_pow (by omega) (by decide)
 · have h2:(Sq q).size=(Sz q.num).size+1+(Sn q.den).size:=by
    rw[← size_list,sq_frac_list h1,← size_list,← size_list,sn_list]
    simp;omega
   refine⟨smz_of' (by omega),?_⟩
   have h3:=Sm.of (a:=Sn q.den) (k:=k) (sn_vld _) (by omega)
   rwa [sn_dval]at h3
theorem sz_size {z:Int}{k:Nat}(h:Sm k z.natAbs)(hk:0<k):(Sz z).size≤k+1:=by
 rcases int_cases z with⟨n,hn,rfl⟩|rfl|⟨n,hn,rfl⟩
 · rw[Int.natAbs_neg,Int.natAbs_natCast]at h
   have h1:=sn_size h hk
   have h2:(Sn n).size=(Lib.decDigits n).length:=by rw[← size_list,sn_list]
   have h3:(Sz (-(n:Int))).size=(Lib.decDigits n).length+1:=by rw[sz_neg hn];simp[ByteArray.size]
   omega
 · have h1:=sn_size h hk
   rw[show Sz 0=Sn 0 from sz_nat 0]
   simp at h1
   omega
 · rw[Int.natAbs_natCast]at h
   have h1:=sn_size h hk
   rw[sz_nat];omega
theorem sq_size {q:Rat}{k:Nat}(h:SmQ k q)(hk:0<k):(Sq q).size≤k+1+1+k:=by
 have h1:=sz_size h.1 hk
 have h2:=sn_size h.2 hk
 by_cases h3:q.den=1
 · rw[sq_int h3];omega
 · have h4:(Sq q).size=(Sz q.num).size+1+(Sn q.den).size:=by
    rw[← size_list,sq_frac_list h3,← size_list,← size_list,sn_list]
    simp;omega
   omega
theorem parseI_nat {n:Nat}(h:n<10^18):Lib.parseIntB 64 (Lib.decDigits n)=.ok (n:Int):=by
 have hl:(Lib.decDigits n).length≤18:=dec_len 18 n h (by decide)
 have hp:=parse_num (Lib.decDigits n) (vld_dec n) (by omega)
 rw[dval_dec]at hp
 obtain⟨c,t,hd,hc⟩:=head_dig (n:=n)
 have hD:isD c=true:=List.all_eq_true.1 (dec_all n) c (by rw[hd];exact List.mem_cons_self)
 have hD':=(isD_iff c).1 hD
 rw[hd]at hp ⊢
 unfold Lib.parseIntB
 have h1:¬ c.toNat=43:=by omega
 have h2:¬ c.toNat=45:=by omega
 simp only[h1,h2,or_self,if_false,hp]
 have h3:¬ (2^(64-1)≤n):=by
  have:(10:Nat)^18<2^(64-1):=by decide
  omega
 simp[h3]
theorem parseI_neg {n:Nat}(h:n<10^18):Lib.parseIntB 64 (45 :: Lib.decDigits n)=.ok (-(n:Int)):=by
 have hl:(Lib.decDigits n).length≤18:=dec_len 18 n h (by decide)
 have hp:=parse_num (Lib.decDigits n) (vld_dec n) (by omega)
 rw[dval_dec]at hp
 unfold Lib.parseIntB
 have e:(45:UInt8).toNat=45:=rfl
 simp only[e,or_true,if_true,hp]
 have h3:¬ (2^(64-1)<n):=by
  have:(10:Nat)^18<2^(64-1):=by decide
  omega
 simp[h3]
theorem parseI_z {z:Int}(h:(Sz z).size≤18):Lib.parseIntB 64 (Sz z).data.toList=.ok z:=by
 have hs:=smz_of' h
 rcases int_cases z with⟨n,hn,rfl⟩|rfl|⟨n,hn,rfl⟩
 · rw[Int.natAbs_neg,Int.natAbs_natCast]at hs
   rw[sz_neg hn]
   exact parseI_neg hs
 · rw[show Sz 0=Sn 0 from sz_nat 0,sn_list]
   exact parseI_nat (by decide)
 · rw[Int.natAbs_natCast]at hs
   rw[sz_nat,sn_list]
   exact parseI_nat hs
theorem itoa_sz (z:Int):(⟨(Lib.itoa z).toArray⟩:ByteArray)=Sz z:=by
 unfold Lib.itoa Sz
 split
 · rfl
 · unfold Sn
   rw[show z.toNat=z.natAbs by omega]
end Go.Proofs.YthjmjlfnpnbonaaGreatDoor
namespace Go.Gb
def Ten (s:Nat):Prop:=∃ k,k≤9∧s=10^k
theorem Ten.one:Ten 1:=⟨0,by omega,rfl⟩
theorem Ten.pos {s:Nat}(h:Ten s):0<s:=by
 obtain⟨k,_,rfl⟩:=h
 exact Nat.pow_pos (by decide)
theorem Ten.room {s:Nat}(h:Ten s):∃ t,0<t∧BB=s*t:=by
 obtain⟨k,hk,rfl⟩:=h
 refine⟨10^(9-k),Nat.pow_pos (by decide),?_⟩
 rw[← Nat.pow_add,show k+(9-k)=9 by omega,BB_eq]
theorem Ten.step {s h:Nat}(hs:Ten s)(h0:1≤h)(hlt:h*s*10<BB):Ten (s*10):=by
 obtain⟨k,hk,rfl⟩:=hs
 refine⟨k+1,?_,by rw[Nat.pow_succ]⟩
 rcases Nat.lt_or_ge k 9 with h9|h9
 · omega
 · obtain rfl:k=9:=by omega
   have h1:1*10^9≤h*10^9:=Nat.mul_le_mul_right _ h0
   rw[BB_eq]at hlt
   omega
theorem Made.even {a b c d u v f s:Nat}(h:Made a b c d false u v f s):(a:Int)*(u:Int) + -(b:Int)*(v:Int)=(f:Int) ∧ -(c:Int)*(u:Int)+(d:Int)*(v:Int)=(s:Int):=by
 obtain⟨e1,e2⟩:=h.1 rfl
 have f1:(a:Int)*(u:Int)=(b:Int)*(v:Int)+(f:Int):=by exact_mod_cast e1
 have f2:(d:Int)*(v:Int)=(c:Int)*(u:Int)+(s:Int):=by exact_mod_cast e2
 rw[Int.neg_mul,Int.neg_mul]
 omega
theorem Made.odd {a b c d u v f s:Nat}(h:Made a b c d true u v f s) : -(a:Int)*(u:Int)+(b:Int)*(v:Int)=(f:Int)∧(c:Int)*(u:Int) + -(d:Int)*(v:Int)=(s:Int):=by
 obtain⟨e1,e2⟩:=h.2 rfl
 have f1:(b:Int)*(v:Int)=(a:Int)*(u:Int)+(f:Int):=by exact_mod_cast e1
 have f2:(c:Int)*(u:Int)=(d:Int)*(v:Int)+(s:Int):=by exact_mod_cast e2
 rw[Int.neg_mul,Int.neg_mul]
 omega
structure Keeps (I:Nat→Nat→Nat→Nat→Bool→Prop):Prop where
 div:∀ F S P Q n,S≠0→I F S P Q n→I S (F%S) Q (P+F / S*Q) (!n)
 app:∀ F S P Q n a b c d o f s,F≠0→b≠0→Made a b c d o F S f s→Dtm a b c d o→Fac a b c d→s≤f→I F S P Q n→I f s (a*P+b*Q) (c*P+d*Q) (n != o)
 len:∀ F S P Q n,I F S P Q n→(digs F).length≤80000∧(digs S).length≤80000∧(digs P).length≤80000∧(digs Q).length≤80000
def CmI (N F S P Q:Nat) (_:Bool):Prop:=F+S≤N∧P=0∧Q=0
theorem Made.sum {a b c d u v f s:Nat}{o:Bool}(h:Made a b c d o u v f s)(hd:Dtm a b c d o)(hs:Fac a b c d)(hb:b≠0)(hu:u≠0)(hfs:s≤f){N:Nat}(hN:u+v≤N):f+s≤N:=by
 have:=h.less hd hs hb hu hfs;omega
theorem CmI.keeps {N:Nat}(hN:(digs N).length≤80000):Keeps (CmI N):=by
 refine⟨?_,?_,?_⟩
 · rintro F S P Q n hS ⟨h1,rfl,rfl⟩
   have h2:=Nat.mod_le F S
   exact⟨by omega,rfl,by simp⟩
 · rintro F S P Q n a b c d o f s hF hb hm hd hf hsf ⟨h1,rfl,rfl⟩
   exact⟨hm.sum hd hf hb hF hsf h1,by simp,by simp⟩
 · rintro F S P Q n ⟨h1,rfl,rfl⟩
   have l1:=digs_length_mono (show F≤N by omega)
   have l2:=digs_length_mono (show S≤N by omega)
   rw[digs_zero]
   simp only[List.length_nil]
   omega
end Go.Gb
set_option maxRecDepth 100000
set_option maxHeartbeats 20000000
open Go.Lib (hid)
namespace Go.Proofs.YthjmjlfnpnbonaaGreatDoor
open Go.RowKit Go.Gb
def lenV:Value→Nat | .slice _ n _=>n|_=>0
def Padded (xs ys:List Nat):Prop:=∃ k,ys=xs++List.replicate k 0
theorem Padded.start (xs:List Nat):Padded xs xs:=⟨0,by simp⟩
theorem Padded.step {xs ys:List Nat}(h:Padded xs ys):Padded xs (ys++[0]):=by
 obtain⟨k,rfl⟩:=h
 exact⟨k+1,by rw[List.append_assoc,repl_snoc]⟩
theorem Padded.fin {xs ys:List Nat}(h:Padded xs ys):ys=xs++List.replicate (ys.length-xs.length) 0:=by
 obtain⟨k,rfl⟩:=h
 rw[List.length_append,List.length_replicate,Nat.add_sub_cancel_left]
theorem pad_any (B:Nat)(v:Value)(xs:List Nat)(n:Nat)(hn:n≤100000)(hx:xs.length≤n)(w:World)(h:Own .u64 110 B w v xs)(hB:B≤w.heap.size) :
 Calls Tryz.prog 236 #[v,.int .i64 (n:Int)] w fun e w'=>∃ u,e=.returned u∧Own .u64 110 B w' u (xs++List.replicate (n-xs.length) 0)∧NewOr w v u∧Kp (At v) w w':=by
 obtain⟨i0,hi,hz0,hz1,hz2⟩:=info_parts Tryz.info110
 obtain⟨a0,c0,rfl⟩:=rd_form h.rd
 have HO:=hid h
 have HB:=hid hB
 clear h hB
 go_enter Tryz.func236,Tryz.ntmps236
 go_wp2
 go_loopw [0] (fun x wr=>∃ (a:Option Addr) (c:Nat) (ys:List Nat),x=.slice a ys.length c∧ys.length≤n∧Hid (Padded xs ys)∧Hid (Own .u64 110 B wr (.slice a ys.length c) ys)∧Hid (NewOr w (.slice a0 xs.length c0) (.slice a ys.length c))∧Hid (Kp (At (.slice a0 xs.length c0)) w wr)) (fun x _=>n-lenV x)
 case atStart=>exact⟨a0,c0,xs,rfl,hx,Padded.start xs,HO.out,NewOr.refl _ _,Kp.refl _ _⟩
 case round =>
  obtain⟨a,c,ys,rfl,hl,hp,ho,hno,hk⟩:=hrel
  by_cases hlt:ys.length<n
  · have hsz:=hk.out.size
    have hBw:=HB.out
    go_wp2_with (at_builtin;refine wpList_append_at _ rfl _ _ 174 rfl B 110 i0 (.int .u64 0) Tryz.underlying174 hi hz0 hz1 hz2 rfl _ ys.length (cls .u64 ys) rfl (World.ownsRow.alloc ho.out _) ⟨wr.heap.size,0,none⟩ 1 (.int .u64 0) rfl (cells_one _ _ _ 0 _ rfl) rfl (by omega) (by simp;omega) ?_)
    intro v' w1 hown' hgrow hnew
    have ho1:Own .u64 110 B w1 v' (ys++[0]):=by
        unfold Own
        rw[cls_append,List.length_append]
        exact hown'
    obtain⟨a',c',rfl⟩:=rd_form ho1.rd
    have HO1:=hid ho1
    have HN1:=hid (hno.out.trans hnew (by simp;omega))
    have HK1:=hid ((hk.out.alloc (.cells #[.int .u64 0] 110)).grown hgrow (fun g hg hlt=>by
        rcases hno.out g hg with h1|h1
        · exact h1
        · omega))
    clear ho1 hown' hgrow hnew
    go_wp2
    go_roundw
    case rel=>exact⟨a',c',ys++[0],rfl,by simp;omega,hp.out.step,HO1,HN1,HK1⟩
    case measure=>simp[lenV];omega
  · have hfin:=hp.out.fin
    rw[show ys.length-xs.length=n-xs.length by omega]at hfin
    have HF:=hid hfin
    clear hfin
    go_wp2
    go_ret
    refine⟨_,rfl,?_,hno.out,hk.out⟩
    rw[← HF.out]
    exact ho.out
theorem split_any (s:Int)(h0:0≤s+3000000000000000000)(h1:s+3000000000000000000<6000000000000000000)(w:World) :
 Calls Tryz.prog 237 #[.int .i64 s] w fun e w'=>e=.returned (.tuple #[.int .u64 ((s+3000000000000000000)%1000000000),.int .i64 ((s+3000000000000000000) / 1000000000-3000000000)])∧w=w':=by
 obtain⟨t,ht⟩:∃ t,t=s+3000000000000000000:=⟨_,rfl⟩
 have e1:IntKind.i64.wrap (s+3000000000000000000)=t:=by rw[ht];exact IntWalk.i64_in _ (by omega)
 rw[← ht]at h0 h1 ⊢
 have HT:=hid ht
 clear ht
 go_enter Tryz.func237,Tryz.ntmps237
 go_wp2
 go_ret2
 exact⟨rfl,rfl⟩
theorem appendCarry_any (B:Nat)(v:Value)(xs:List Nat)(k:Nat)(hk3:k≤3000000000)(hx:xs.length≤100000)(w:World)(h:Own .u64 110 B w v xs)(hB:B≤w.heap.size) :
 Calls Tryz.prog 238 #[v,.int .i64 (k:Int)] w fun e w'=>∃ u,e=.returned u∧Own .u64 110 B w' u (xs++digs k)∧NewOr w v u∧Kp (At v) w w':=by
 obtain⟨i0,hi,hz0,hz1,hz2⟩:=info_parts Tryz.info110
 obtain⟨a0,c0,rfl⟩:=rd_form h.rd
 have hdl:(digs k).length≤2:=digs_length_le (by rw[BB_eq];omega)
 have HD:=hid hdl
 have HO:=hid h
 have HB:=hid hB
 clear h hB hdl
 go_enter Tryz.func238,Tryz.ntmps238
 go_wp2
 go_loopw [0,1] (fun x kk wr=>∃ (a:Option Addr) (c m:Nat) (ys:List Nat),x=.slice a ys.length c∧kk=.int .i64 (m:Int)∧m≤3000000000∧Hid (ys++digs m=xs++digs k)∧Hid (Own .u64 110 B wr (.slice a ys.length c) ys)∧Hid (NewOr w (.slice a0 xs.length c0) (.slice a ys.length c))∧Hid (Kp (At (.slice a0 xs.length c0)) w wr)) (fun _ kk _=>(intOf kk).toNat)
 case atStart=>exact⟨a0,c0,k,xs,rfl,rfl,hk3,rfl,HO.out,NewOr.refl _ _,Kp.refl _ _⟩
 case round =>
  obtain⟨a,c,m,ys,rfl,rfl,hm,he,ho,hno,hk⟩:=hrel
  have hyl:ys.length≤100002:=by
   have e:=congrArg List.length he.out
   rw[List.length_append,List.length_append]at e
   have:=HD.out
   omega
  by_cases hlt:0<m
  · have hsz:=hk.out.size
    have hBw:=HB.out
    have hdm:=digs_pos (n:=m) (by omega)
    rw[BB_eq]at hdm
    have HM:=hid hdm
    obtain⟨r,hr⟩:∃ r:Nat,r=m%1000000000:=⟨_,rfl⟩
    obtain⟨q,hq⟩:∃ q:Nat,q=m / 1000000000:=⟨_,rfl⟩
    have e1:(m:Int)%1000000000=(r:Int):=by omega
    have e2:(m:Int) / 1000000000=(q:Int):=by omega
    have HR:=hid hr
    have HQ:=hid hq
    have hq3:q≤3000000000:=by omega
    have hqm:=hid (show q<m by omega)
    have hr9:r<1000000000:=by omega
    clear hdm hr hq
    go_wp2_with (at_builtin;refine wpList_append_at _ rfl _ _ 174 rfl B 110 i0 (.int .u64 0) Tryz.underlying174 hi hz0 hz1 hz2 rfl _ ys.length (cls .u64 ys) rfl (World.ownsRow.alloc ho.out _) ⟨wr.heap.size,0,none⟩ 1 (.int .u64 (r:Int)) rfl (cells_one _ _ _ 0 _ rfl) rfl (by omega) (by simp;omega) ?_)
    intro v' w1 hown' hgrow hnew
    have ho1:Own .u64 110 B w1 v' (ys++[r]):=by
        unfold Own
        rw[cls_append,List.length_append]
        exact hown'
    obtain⟨a',c',rfl⟩:=rd_form ho1.rd
    have HO1:=hid ho1
    have HN1:=hid (hno.out.trans hnew (by simp;omega))
    have HK1:=hid ((hk.out.alloc (.cells #[.int .u64 (r:Int)] 110)).grown hgrow (fun g hg hlt=>by
        rcases hno.out g hg with h1|h1
        · exact h1
        · omega))
    clear ho1 hown' hgrow hnew
    go_wp2
    go_roundw
    case rel=>exact⟨a',c',q,ys++[r],rfl,rfl,hq3,by rw[List.append_assoc,List.singleton_append,HR.out,HQ.out,← HM.out];exact he.out,HO1,HN1,HK1⟩
    case measure=>simp[intOf];have:=hqm.out;omega
  · obtain rfl:m=0:=by omega
    have hfin:=he.out
    rw[digs_zero,List.append_nil]at hfin
    have HF:=hid hfin
    clear hfin
    go_wp2
    go_ret
    refine⟨_,rfl,?_,hno.out,hk.out⟩
    rw[← HF.out]
    exact ho.out
theorem trim_take {xs:List Nat}(hB:∀ x∈xs,x<BB):xs.take (digs (wval xs)).length=digs (wval xs)∧(digs (wval xs)).length≤xs.length:=by
 have hlen:(digs (wval xs)).length≤xs.length:=digs_length_le (wval_lt xs hB)
 refine⟨?_,hlen⟩
 have key:∀ (n:Nat),Zs xs n→digs (wval xs)=xs.take (digs (wval xs)).length:=by
  intro n
  induction n with
  | zero=>intro hz;have e:=digs_take hz.1 hB hz.2 (Or.inl rfl);have:=hz.fin hB (Or.inl rfl);rw[← this];exact e
  | succ n ih =>
    intro hz
    by_cases h0:xs.getD n 0=0
    · exact ih (by have:=hz.step (by simpa using h0);simpa using this)
    · have e:=digs_take hz.1 hB hz.2 (Or.inr (by simpa using h0))
      have:=hz.fin hB (Or.inr (by simpa using h0))
      rw[← this];exact e
 exact(key _ (Zs.start xs)).symm
theorem Trim_at (B:Nat)(v:Value)(xs:List Nat)(hB:∀ x∈xs,x<BB)(w:World)(h:Own .u64 110 B w v xs) :
 Calls Tryz.prog 191 #[v] w fun e w'=>∃ v',e=.returned v'∧Own .u64 110 B w v' (digs (wval xs))∧(∀ g,At v' g→At v g)∧w=w':=by
 have hd:=trim_take hB
 have h0:=h
 obtain⟨h1,h2⟩:=h
 rcases h2 with⟨rfl,h3⟩|⟨g,cap,cur,rfl,hg,hh,hn,hc,hs,ht⟩
 · obtain rfl:xs=[]:=List.length_eq_zero_iff.1 h3
   have hz:digs (wval [])=[]:=by unfold wval;exact digs_zero
   rw[hz]
   clear hd hB h0 hz
   go_enter Tryz.func191,Tryz.ntmps191
   go_wp2
   refine wp_loop_rounds 1 ?_
   rw[rounds_succ]
   go_wp2
   go_ret
   exact⟨_,rfl,Own.nil _ _ _ _,fun _ h=>h,rfl⟩
 · have hrd:∀ i,i<xs.length→w.cell? ⟨g,0+i,none⟩=some (.int .u64 ((xs.getD i 0:Nat):Int)):=by
    rcases h0.rd with⟨hv,_⟩|⟨b,o,c,hv,_,_,_,h5⟩
    · injection hv with hv;cases hv
    · injection hv with e1 e2 e3
      injection e1 with e1
      injection e1 with e4 e5 e6
      subst e4 e5 e3
      exact h5
   refine(Trim_some g 0 cap xs hB hn hc w hrd).mono fun e w' ⟨he,hw⟩=>⟨_,he,?_,fun k hk=>(by rw[at_some]at hk ⊢;exact hk),hw⟩
   have:=h0.take (digs (wval xs)).length hd.2
   rwa [hd.1]at this
end Go.Proofs.YthjmjlfnpnbonaaGreatDoor
