/- Texts of this proof, one behind the other. -/
import Derived.Lib.ItoaNum
namespace Go.Gb
open Go.Lib
def BB:Nat:=1000000000
theorem BB_eq:BB=1000000000:=rfl
theorem BB_pos:0<BB:=by decide
theorem BB_one:1<BB:=by decide
attribute [irreducible] BB
def isD (c:UInt8):Bool:=decide (48≤c.toNat∧c.toNat≤57)
def dval (l:List UInt8):Nat:=l.foldl (fun n c=>n*10+(c.toNat-48)) 0
def vld (l:List UInt8):Bool:=decide (l≠[])&&l.all isD&&(decide (l.length=1) || decide (l.headD 0≠48))
theorem isD_iff (c:UInt8):isD c=true↔48≤c.toNat∧c.toNat≤57:=by simp[isD]
theorem foldl_dec (l:List UInt8):∀ a:Nat,l.foldl (fun n c=>n*10+(c.toNat-48)) a=a*10^l.length+dval l:=by
 unfold dval
 induction l with
 | nil=>intro a;simp
 | cons c l ih =>
   intro a
   simp only[List.foldl_cons,List.length_cons]
   rw[ih,ih (0*10+(c.toNat-48)),Nat.pow_succ,Nat.add_mul,Nat.zero_mul,Nat.zero_add,Nat.mul_assoc,Nat.mul_comm 10 (10^l.length),Nat.add_assoc]
theorem dval_append (l m:List UInt8):dval (l++m)=dval l*10^m.length+dval m:=by
 show(l++m).foldl _ 0=_
 rw[List.foldl_append,foldl_dec];rfl
theorem dval_one (c:UInt8):dval [c]=c.toNat-48:=by simp[dval]
theorem dval_snoc (l:List UInt8)(c:UInt8):dval (l++[c])=dval l*10+(c.toNat-48):=by
 rw[dval_append,dval_one];simp
theorem dval_cons (c:UInt8)(l:List UInt8):dval (c :: l)=(c.toNat-48)*10^l.length+dval l:=by
 have:=dval_append [c] l
 rw[dval_one]at this
 simpa using this
theorem dig_toNat {d:Nat}(h:d<10):(UInt8.ofNat (48+d)).toNat=48+d:=by
 simp;omega
theorem dval_lt (l:List UInt8)(h:l.all isD=true):dval l<10^l.length:=by
 induction l with
 | nil=>simp[dval]
 | cons c l ih =>
   simp only[List.all_cons,Bool.and_eq_true]at h
   have hc:=(isD_iff c).1 h.1
   have hl:=ih h.2
   rw[dval_cons,List.length_cons,Nat.pow_succ]
   have h1:(c.toNat-48)*10^l.length≤9*10^l.length:=Nat.mul_le_mul_right _ (by omega)
   omega
theorem dval_dec (n:Nat):dval (decDigits n)=n:=by
 induction n using Nat.strongRecOn with
 | _ u ih =>
   by_cases h:u<10
   · rw[decDigits,dif_pos h,dval_one,dig_toNat h];omega
   · rw[decDigits,dif_neg h,dval_snoc,ih (u / 10) (by omega),dig_toNat (Nat.mod_lt _ (by decide))];omega
theorem dec_ne_nil (n:Nat):decDigits n≠[]:=by
 intro h
 have h1:=decDigits_length n
 have h2:=nDigits_pos n
 rw[h]at h1;simp at h1;omega
theorem dec_all (n:Nat):(decDigits n).all isD=true:=by
 induction n using Nat.strongRecOn with
 | _ u ih =>
   by_cases h:u<10
   · rw[decDigits,dif_pos h];simp only[List.all_cons,List.all_nil,Bool.and_true]
     rw[isD_iff,dig_toNat h];omega
   · rw[decDigits,dif_neg h,List.all_append,ih (u / 10) (by omega)]
     simp only[List.all_cons,List.all_nil,Bool.and_true,Bool.true_and]
     rw[isD_iff,dig_toNat (Nat.mod_lt _ (by decide))];omega
theorem dec_head (n:Nat)(h0:0<n):((decDigits n).headD 0).toNat≠48:=by
 induction n using Nat.strongRecOn with
 | _ u ih =>
   by_cases h:u<10
   · rw[decDigits,dif_pos h];simp only[List.headD_cons];rw[dig_toNat h];omega
   · rw[decDigits,dif_neg h]
     have hh:=ih (u / 10) (by omega) (by omega)
     have hn:=dec_ne_nil (u / 10)
     cases hd:decDigits (u / 10) with
     | nil=>exact absurd hd hn
     | cons c l=>rw[hd]at hh;simpa using hh
theorem vld_iff (l:List UInt8):vld l=true↔l≠[]∧l.all isD=true∧(l.length=1∨(l.headD 0).toNat≠48):=by
 unfold vld
 simp only[Bool.and_eq_true,Bool.or_eq_true,decide_eq_true_eq,and_assoc]
 have:(l.headD 0≠48)↔((l.headD 0).toNat≠48):=by
  constructor
  · intro h h2;apply h;apply UInt8.toNat_inj.1;simpa using h2
  · intro h h2;apply h;rw[h2];rfl
 rw[this]
theorem vld_dec (n:Nat):vld (decDigits n)=true:=by
 rw[vld_iff]
 refine⟨dec_ne_nil n,dec_all n,?_⟩
 by_cases h:0<n
 · exact Or.inr (dec_head n h)
 · left;obtain rfl:n=0:=by omega
   rw[decDigits,dif_pos (by decide)];rfl
theorem dec_dval_pos (l:List UInt8)(hne:l≠[])(hall:l.all isD=true)(hh:(l.headD 0).toNat≠48):0<dval l∧decDigits (dval l)=l:=by
 generalize hn:l.length=n
 induction n generalizing l with
 | zero=>exact absurd (List.length_eq_zero_iff.1 hn) hne
 | succ n ih =>
   obtain⟨m,c,rfl⟩:∃ m c,l=m++[c]:=⟨l.dropLast,l.getLast hne,(List.dropLast_concat_getLast hne).symm⟩
   rw[List.all_append]at hall
   simp only[List.all_cons,List.all_nil,Bool.and_true,Bool.and_eq_true]at hall
   have hc:=(isD_iff c).1 hall.2
   have hcc:UInt8.ofNat (48+(c.toNat-48))=c:=by
    apply UInt8.toNat_inj.1;rw[dig_toNat (by omega)];omega
   by_cases hm:m=[]
   · subst hm
     simp only[List.nil_append,List.headD_cons]at hh ⊢
     rw[dval_one]
     refine⟨by omega,?_⟩
     rw[decDigits,dif_pos (by omega),hcc]
   · have hhm:(m.headD 0).toNat≠48:=by
        cases m with
        | nil=>exact absurd rfl hm
        | cons a m=>simpa using hh
     obtain⟨h1,h2⟩:=ih m hm hall.1 hhm (by simpa using hn)
     rw[dval_snoc]
     refine⟨by omega,?_⟩
     rw[decDigits,dif_neg (by omega)]
     rw[show(dval m*10+(c.toNat-48)) / 10=dval m by omega,show(dval m*10+(c.toNat-48))%10=c.toNat-48 by omega,h2,hcc]
theorem dec_dval (l:List UInt8)(h:vld l=true):decDigits (dval l)=l:=by
 obtain⟨h1,h2,h3⟩:=(vld_iff l).1 h
 by_cases hh:(l.headD 0).toNat≠48
 · exact(dec_dval_pos l h1 h2 hh).2
 · rcases h3 with h3|h3
   · match l,h3 with
     | [c],_ =>
       simp only[List.headD_cons]at hh
       rw[dval_one]
       have:c.toNat=48:=by omega
       rw[this,decDigits,dif_pos (by decide)]
       congr 1;apply UInt8.toNat_inj.1;rw[this];rfl
   · exact absurd h3 hh
theorem dec_inj {a b:Nat}(h:decDigits a=decDigits b):a=b:=by rw[← dval_dec a,← dval_dec b,h]
theorem dval_lt_of_len {l m:List UInt8}(hl:vld l=true)(hm:vld m=true)(h:l.length<m.length):dval l<dval m:=by
 obtain⟨l1,l2,_⟩:=(vld_iff l).1 hl
 obtain⟨m1,m2,m3⟩:=(vld_iff m).1 hm
 have hlt:=dval_lt l l2
 have hl0:0<l.length:=List.length_pos_iff.2 l1
 have hh:(m.headD 0).toNat≠48:=by
  rcases m3 with h3|h3
  · omega
  · exact h3
 cases m with
 | nil=>simp at h
 | cons c m =>
   simp only[List.headD_cons]at hh
   simp only[List.all_cons,Bool.and_eq_true]at m2
   have hc:=(isD_iff c).1 m2.1
   rw[dval_cons]
   have h1:1*10^m.length≤(c.toNat-48)*10^m.length:=Nat.mul_le_mul_right _ (by omega)
   have h2:10^l.length≤10^m.length:=Nat.pow_le_pow_right (by decide) (by simp at h;omega)
   omega
theorem dval_lex {p:List UInt8}{x y:UInt8}{l m:List UInt8}(hl:l.length=m.length)(al:(l.all isD)=true)(hx:isD x=true)(hy:isD y=true)(h:x.toNat<y.toNat) :
 dval (p++x :: l)<dval (p++y :: m):=by
 rw[dval_append,dval_append,dval_cons,dval_cons]
 simp only[List.length_cons,hl]
 have h1:=dval_lt l al
 rw[hl]at h1
 have hx':=(isD_iff x).1 hx
 have hy':=(isD_iff y).1 hy
 have h2:(x.toNat-48+1)*10^m.length≤(y.toNat-48)*10^m.length:=Nat.mul_le_mul_right _ (by omega)
 rw[Nat.add_mul]at h2
 omega
def digs (n:Nat):List Nat:=if _h:n=0 then [] else n%BB :: digs (n / BB)
termination_by n
decreasing_by exact Nat.div_lt_self (by omega) BB_one
def wval:List Nat→Nat
 | []=>0
 | w :: ws=>w+BB*wval ws
theorem digs_zero:digs 0=[]:=by rw[digs];simp
theorem digs_pos {n:Nat}(h:n≠0):digs n=n%BB :: digs (n / BB):=by rw[digs,dif_neg h]
theorem digs_cons {w n:Nat}(hw:w<BB)(h:w≠0∨n≠0):digs (w+BB*n)=w :: digs n:=by
 have hB:0<BB:=BB_pos
 rw[digs_pos]
 · rw[Nat.add_mul_mod_self_left,Nat.mod_eq_of_lt hw,Nat.add_mul_div_left _ _ hB,Nat.div_eq_of_lt hw,Nat.zero_add]
 · rcases h with h|h
   · omega
   · intro h2
     have:BB*n=0:=by omega
     rcases Nat.mul_eq_zero.1 this with h3|h3
     · exact absurd h3 (by have:=BB_pos;omega)
     · exact h h3
theorem wval_digs (n:Nat):wval (digs n)=n:=by
 induction n using Nat.strongRecOn with
 | _ n ih =>
   by_cases h:n=0
   · subst h;rw[digs_zero];rfl
   · rw[digs_pos h,wval,ih (n / BB) (Nat.div_lt_self (by omega) BB_one)]
     exact Nat.mod_add_div n BB
theorem digs_lt (n:Nat):∀ w∈digs n,w<BB:=by
 induction n using Nat.strongRecOn with
 | _ n ih =>
   by_cases h:n=0
   · subst h;rw[digs_zero];simp
   · rw[digs_pos h]
     intro w hw
     rcases List.mem_cons.1 hw with hw|hw
     · rw[hw];exact Nat.mod_lt _ BB_pos
     · exact ih (n / BB) (Nat.div_lt_self (by omega) BB_one) w hw
theorem wval_append (l m:List Nat):wval (l++m)=wval l+BB^l.length*wval m:=by
 induction l with
 | nil=>simp[wval]
 | cons w l ih=>simp only[List.cons_append,wval,ih,List.length_cons,Nat.pow_succ,Nat.mul_add,Nat.add_assoc];rw[← Nat.mul_assoc BB,Nat.mul_comm BB (BB^l.length)]
theorem wval_snoc (l:List Nat)(w:Nat):wval (l++[w])=wval l+BB^l.length*w:=by
 rw[wval_append];simp[wval]
theorem wval_lt (l:List Nat)(h:∀ w∈l,w<BB):wval l<BB^l.length:=by
 induction l with
 | nil=>simp[wval]
 | cons w l ih =>
   have hw:=h w (by simp)
   have hl:=ih (fun x hx=>h x (by simp[hx]))
   simp only[wval,List.length_cons,Nat.pow_succ]
   have:BB*(wval l+1)≤BB*BB^l.length:=Nat.mul_le_mul_left _ hl
   rw[Nat.mul_comm (BB^l.length)]
   rw[Nat.mul_add]at this
   omega
theorem digs_wval (l:List Nat)(h:∀ w∈l,w<BB)(hl:∀ (hne:l≠[]),l.getLast hne≠0):digs (wval l)=l:=by
 induction l with
 | nil=>exact digs_zero
 | cons w l ih =>
   have hw:=h w (by simp)
   by_cases hn:l=[]
   · subst hn
     have h0:w≠0:=by simpa using hl (by simp)
     have:=digs_cons (n:=0) hw (Or.inl h0)
     rw[digs_zero]at this
     simpa [wval] using this
   · have ih':=ih (fun x hx=>h x (by simp[hx])) (fun hne=>by have:=hl (by simp);rwa [List.getLast_cons hne]at this)
     have h0:wval l≠0:=by
        intro h0;rw[h0,digs_zero]at ih';exact hn ih'.symm
     rw[wval,digs_cons hw (Or.inr h0),ih']
theorem wval_zeros (l:List Nat)(k:Nat):wval (l++List.replicate k 0)=wval l:=by
 rw[wval_append]
 have:wval (List.replicate k 0)=0:=by
  induction k with
  | zero=>rfl
  | succ k ih=>rw[List.replicate_succ,wval,ih];rfl
 rw[this];simp
theorem digs_length_le {n k:Nat}(h:n<BB^k):(digs n).length≤k:=by
 induction k generalizing n with
 | zero=>obtain rfl:n=0:=by simpa using h
         rw[digs_zero];simp
 | succ k ih =>
   by_cases h0:n=0
   · subst h0;rw[digs_zero];simp
   · rw[digs_pos h0,List.length_cons]
     have:n / BB<BB^k:=by rw[Nat.div_lt_iff_lt_mul BB_pos];rwa [Nat.pow_succ]at h
     have:=ih this
     omega
theorem lt_pow_digs (n:Nat):n<BB^(digs n).length:=by
 have:=wval_lt (digs n) (digs_lt n)
 rwa [wval_digs]at this
theorem digs_last (n:Nat)(hne:digs n≠[]):(digs n).getLast hne≠0:=by
 induction n using Nat.strongRecOn with
 | _ n ih =>
   by_cases h:n=0
   · subst h;exact absurd digs_zero hne
   · have hlt:n / BB<n:=Nat.div_lt_self (by omega) BB_one
     by_cases h1:digs (n / BB)=[]
     · have h2:n / BB=0:=by have:=wval_digs (n / BB);rw[h1]at this;exact this.symm
       have h3:digs n=[n%BB]:=by rw[digs_pos h,h1]
       simp only[h3,List.getLast_singleton]
       have:=Nat.mod_add_div n BB
       rw[h2]at this
       omega
     · have h3:digs n=n%BB :: digs (n / BB):=digs_pos h
       have h4:=ih (n / BB) hlt h1
       simp only[h3,List.getLast_cons h1]
       exact h4
theorem digs_length_mono {a b:Nat}(h:a≤b):(digs a).length≤(digs b).length :=
 digs_length_le (Nat.lt_of_le_of_lt h (lt_pow_digs b))
theorem lt_of_digs_length {a b:Nat}(h:(digs a).length<(digs b).length):a<b:=by
 refine Nat.lt_of_not_le fun h2=>?_
 have:=digs_length_mono h2
 omega
def pad9 (w:Nat):List UInt8:=(List.range 9).map fun t=>UInt8.ofNat (48+w / 10^(8-t)%10)
theorem pad9_length (w:Nat):(pad9 w).length=9:=by simp[pad9]
theorem dec_snoc_digits (v:Nat)(hv:0<v):∀ (k w:Nat),w<10^k→decDigits (v*10^k+w)=decDigits v++(List.range k).map fun t=>UInt8.ofNat (48+w / 10^(k-1-t)%10)
 | 0,w,h=>by obtain rfl:w=0:=by simpa using h
             simp
 | k+1,w,h=>by
   have hp:1≤10^k:=Nat.one_le_pow _ _ (by decide)
   have e1:v*10^(k+1)+w=(v*10^k+w / 10)*10+w%10:=by
    rw[Nat.pow_succ,← Nat.mul_assoc,Nat.add_mul];omega
   have hw:w / 10<10^k:=by rw[Nat.pow_succ]at h;omega
   have hge:1≤v*10^k:=Nat.mul_pos hv hp
   rw[e1,decDigits,dif_neg (by omega),show((v*10^k+w / 10)*10+w%10) / 10=v*10^k+w / 10 by omega,show((v*10^k+w / 10)*10+w%10)%10=w%10 by omega,
    dec_snoc_digits v hv k (w / 10) hw,List.range_succ,List.map_append,List.append_assoc]
   congr 1
   congr 1
   · refine List.map_congr_left fun t ht=>?_
     have ht':t<k:=List.mem_range.1 ht
     rw[show k+1-1-t=(k-1-t)+1 by omega,Nat.pow_succ,Nat.mul_comm,Nat.div_div_eq_div_mul]
   · simp
theorem dec_word {v w:Nat}(hv:0<v)(hw:w<BB):decDigits (w+BB*v)=decDigits v++pad9 w:=by
 have hB:=BB_eq
 have:=dec_snoc_digits v hv 9 w (by omega)
 rw[show w+BB*v=v*10^9+w by rw[hB];omega,this]
 rfl
end Go.Gb
namespace Go.Gb
open Go
def ldig (v m:Nat):List UInt8:=(List.range m).map fun t=>UInt8.ofNat (48+v / 10^t%10)
theorem ldig_length (v m:Nat):(ldig v m).length=m:=by simp[ldig]
theorem ldig_succ (v m:Nat):ldig v (m+1)=ldig v m++[UInt8.ofNat (48+v / 10^m%10)]:=by
 unfold ldig
 rw[List.range_succ]
 simp
theorem ldig_cons (v m:Nat):ldig v (m+1)=UInt8.ofNat (48+v%10) :: ldig (v / 10) m:=by
 unfold ldig
 rw[List.range_succ_eq_map]
 simp only[List.map_cons,List.map_map,Nat.pow_zero,Nat.div_one]
 congr 1
 apply List.map_congr_left
 intro t _
 simp only[Function.comp,Nat.div_div_eq_div_mul,Nat.pow_succ,Nat.mul_comm]
theorem ldig_reverse:∀ (m v:Nat),10^m≤v→v<10^(m+1)→(ldig v (m+1)).reverse=Lib.decDigits v
 | 0,v,h1,h2=>by
   rw[ldig_cons]
   have hv:v<10:=by simpa using h2
   have h0:1≤v:=by simpa using h1
   rw[Nat.mod_eq_of_lt hv]
   rw[Lib.decDigits,dif_pos hv]
   simp[ldig]
 | m+1,v,h1,h2=>by
   rw[ldig_cons,List.reverse_cons,ldig_reverse m (v / 10) (by rw[Nat.le_div_iff_mul_le (by decide)];rw[Nat.pow_succ]at h1;exact h1) (by rw[Nat.div_lt_iff_lt_mul (by decide)];rw[Nat.pow_succ]at h2;exact h2)]
   have hv:¬ v<10:=by
    have:10≤10^(m+1):=by
     rw[Nat.pow_succ]
     have:=Nat.one_le_pow m 10 (by decide)
     omega
    omega
   conv=>rhs;rw[Lib.decDigits,dif_neg hv]
theorem word_digit {xs:List Nat}(hx:∀ x∈xs,x<BB){i k:Nat}(hi:i<xs.length)(hk:k<9):wval xs / 10^(9*i+k)%10=xs.getD i 0 / 10^k%10:=by
 have hsplit:xs=xs.take i++(xs.getD i 0 :: xs.drop (i+1)):=by
  conv=>lhs;rw[← List.take_append_drop i xs]
  congr 1
  rw[List.drop_eq_getElem_cons hi]
  simp[List.getD,hi]
 have hlen:(xs.take i).length=i:=by simp;omega
 have hlt:=wval_lt (xs.take i) (fun x h=>hx x (List.mem_of_mem_take h))
 rw[hlen]at hlt
 have hv:wval xs=wval (xs.take i)+BB^i*(xs.getD i 0+BB*wval (xs.drop (i+1))):=by
  conv=>lhs;rw[hsplit]
  rw[wval_append,hlen]
  rfl
 have hB:BB^i=10^(9*i):=by rw[Nat.pow_mul,show BB=10^9 from by rw[BB_eq]]
 rw[hv,Nat.pow_add,← hB,← Nat.div_div_eq_div_mul,Nat.add_mul_div_left _ _ (Nat.pow_pos BB_pos),Nat.div_eq_of_lt hlt,Nat.zero_add]
 obtain⟨e,he⟩:∃ e,BB=10^k*(10*e):=⟨10^(8-k),by
  rw[show(10:Nat)*10^(8-k)=10^(9-k) by rw[← Nat.pow_succ'];congr 1;omega,← Nat.pow_add,show k+(9-k)=9 by omega,BB_eq]⟩
 rw[he,Nat.mul_assoc,Nat.mul_assoc,Nat.add_mul_div_left _ _ (Nat.pow_pos (by decide)),Nat.add_mul_mod_self_left]
end Go.Gb
namespace Go.Gb
open Go
def swp (L:List UInt8) (i:Nat):List UInt8:=(List.range L.length).map fun j=>if j<i∨L.length<j+1+i then L.getD (L.length-1-j) 0 else L.getD j 0
theorem swp_length (L:List UInt8)(i:Nat):(swp L i).length=L.length:=by simp[swp]
theorem swp_get (L:List UInt8)(i:Nat){j:Nat}(hj:j<L.length):(swp L i).getD j 0=if j<i∨L.length<j+1+i then L.getD (L.length-1-j) 0 else L.getD j 0:=by
 unfold swp
 simp[List.getD,hj]
theorem getD_ext {A B:List UInt8}(h:A.length=B.length)(hg:∀ j,j<A.length→A.getD j 0=B.getD j 0):A=B:=by
 apply List.ext_getElem h
 intro j h1 h2
 have:=hg j h1
 simpa [List.getD,h1,h2] using this
theorem swp_zero (L:List UInt8):swp L 0=L:=by
 refine getD_ext (swp_length L 0) (fun j hj=>?_)
 rw[swp_length]at hj
 rw[swp_get L 0 hj,if_neg (by omega)]
theorem swp_done (L:List UInt8)(i:Nat)(h:L.length≤2*i+1):swp L i=L.reverse:=by
 refine getD_ext (by rw[swp_length,List.length_reverse]) (fun j hj=>?_)
 rw[swp_length]at hj
 rw[swp_get L i hj]
 have hr:L.reverse.getD j 0=L.getD (L.length-1-j) 0:=by
  have h2:L.length-1-j<L.length:=by omega
  simp[List.getD,hj,h2]
 rw[hr]
 split
 · rfl
 · rename_i hn
   rw[show L.length-1-j=j by omega]
theorem swp_low (L:List UInt8)(i:Nat)(h:2*i+1<L.length):(swp L i).getD i 0=L.getD i 0:=by
 rw[swp_get L i (by omega),if_neg (by omega)]
theorem swp_high (L:List UInt8)(i:Nat)(h:2*i+1<L.length):(swp L i).getD (L.length-1-i) 0=L.getD (L.length-1-i) 0:=by
 rw[swp_get L i (by omega),if_neg (by omega)]
theorem swp_succ (L:List UInt8)(i:Nat)(h:2*i+1<L.length):((swp L i).set i (L.getD (L.length-1-i) 0)).set (L.length-1-i) (L.getD i 0)=swp L (i+1):=by
 refine getD_ext (by simp[swp_length]) (fun j hj=>?_)
 simp[swp_length]at hj
 have hs:∀ (A:List UInt8) (m:Nat) (v:UInt8),j<A.length→(A.set m v).getD j 0=if m=j then v else A.getD j 0:=by
  intro A m v hA
  by_cases hm:m=j
  · subst hm;simp[List.getD,hA]
  · simp[List.getD,hm]
 rw[hs _ _ _ (by simp[swp_length,hj]),hs _ _ _ (by simp[swp_length,hj]),swp_get L i hj,swp_get L (i+1) hj]
 by_cases h1:L.length-1-i=j
 · rw[if_pos h1,if_pos (by omega),← h1,show L.length-1-(L.length-1-i)=i by omega]
 · rw[if_neg h1]
   by_cases h2:i=j
   · subst h2
     rw[if_pos rfl,if_pos (by omega)]
   · rw[if_neg h2]
     by_cases h3:j<i∨L.length<j+1+i
     · rw[if_pos h3,if_pos (by omega)]
     · rw[if_neg h3,if_neg (by omega)]
end Go.Gb
namespace Go.Gb
open Go.Lib
theorem getD_of_lt {xs:List Nat}{i:Nat}(h:i<xs.length):xs.getD i 0=xs[i]:=by simp[List.getD,h]
theorem mem_getD {xs:List Nat}{i:Nat}(h:i<xs.length):xs.getD i 0∈xs:=by rw[getD_of_lt h];exact List.getElem_mem h
theorem all_getD {xs:List Nat}{M:Nat}(h:∀ i,i<xs.length→xs.getD i 0<M):∀ w∈xs,w<M:=by
 intro w hw
 obtain⟨i,hi,rfl⟩:=List.mem_iff_getElem.1 hw
 have:=h i hi
 rwa [getD_of_lt hi]at this
theorem take_snocD {xs:List Nat}{i:Nat}(h:i<xs.length):xs.take (i+1)=xs.take i++[xs.getD i 0]:=by
 rw[List.take_succ_eq_append_getElem h,getD_of_lt h]
theorem drop_consD {xs:List Nat}{i:Nat}(h:i<xs.length):xs.drop i=xs.getD i 0 :: xs.drop (i+1):=by
 rw[List.drop_eq_getElem_cons h,getD_of_lt h]
theorem wval_take_succ {xs:List Nat}{i:Nat}(h:i<xs.length):wval (xs.take (i+1))=wval (xs.take i)+BB^i*xs.getD i 0:=by
 rw[take_snocD h,wval_snoc,List.length_take,Nat.min_eq_left (by omega)]
theorem wval_drop {xs:List Nat}{i:Nat}(h:i<xs.length):wval (xs.drop i)=xs.getD i 0+BB*wval (xs.drop (i+1)):=by
 rw[drop_consD h,wval]
theorem wval_split (xs:List Nat)(i:Nat)(h:i≤xs.length):wval xs=wval (xs.take i)+BB^i*wval (xs.drop i):=by
 have:=wval_append (xs.take i) (xs.drop i)
 rwa [List.take_append_drop,List.length_take,Nat.min_eq_left h]at this
theorem getD_set {xs:List Nat}{i j v:Nat}:(xs.set i v).getD j 0=if i=j∧j<xs.length then v else xs.getD j 0:=by
 simp only[List.getD,List.getElem?_set]
 by_cases h:i=j
 · subst h
   by_cases h2:i<xs.length
   · simp[h2]
   · simp[h2]
 · simp[h]
theorem wval_set {xs:List Nat}{i v:Nat}(h:i<xs.length):wval (xs.set i v)+BB^i*xs.getD i 0=wval xs+BB^i*v:=by
 have h1:=wval_split (xs.set i v) i (by simp;omega)
 have h2:=wval_split xs i (by omega)
 have h3:i<(xs.set i v).length:=by simpa using h
 rw[wval_drop h3]at h1
 rw[wval_drop h]at h2
 have e1:(xs.set i v).take i=xs.take i:=by rw[List.take_set_of_le (Nat.le_refl _)]
 have e2:(xs.set i v).drop (i+1)=xs.drop (i+1):=by rw[List.drop_set_of_lt (by omega)]
 have e3:(xs.set i v).getD i 0=v:=by rw[getD_set];simp[h]
 rw[e1,e2,e3,Nat.mul_add]at h1
 rw[Nat.mul_add]at h2
 omega
theorem wval_zero {xs:List Nat}(h:∀ i,i<xs.length→xs.getD i 0=0):wval xs=0:=by
 induction xs with
 | nil=>rfl
 | cons w xs ih =>
   have h0:=h 0 (by simp)
   simp at h0
   have:=ih (fun i hi=>by have:=h (i+1) (by simpa using hi);simpa using this)
   rw[wval,h0,this];rfl
theorem wval_drop_zero {xs:List Nat}{n:Nat}(h:∀ i,n≤i→i<xs.length→xs.getD i 0=0):wval (xs.drop n)=0:=by
 refine wval_zero fun i hi=>?_
 have:=h (n+i) (by omega) (by simp at hi;omega)
 simpa [List.getD] using this
theorem digs_take {xs:List Nat}{n:Nat}(hn:n≤xs.length)(hB:∀ w∈xs,w<BB)(hz:∀ i,n≤i→i<xs.length→xs.getD i 0=0)(hl:n=0∨xs.getD (n-1) 0≠0):digs (wval xs)=xs.take n:=by
 have h1:=wval_split xs n hn
 rw[wval_drop_zero hz,Nat.mul_zero,Nat.add_zero]at h1
 rw[h1]
 refine digs_wval _ (fun w hw=>hB w (List.mem_of_mem_take hw)) fun hne=>?_
 have hn0:n≠0:=by intro h;subst h;simp at hne
 have h2:(xs.take n).getLast hne=xs.getD (n-1) 0:=by
  rw[List.getLast_eq_getElem,getD_of_lt (by omega)]
  simp[Nat.min_eq_left hn]
 rw[h2]
 rcases hl with hl|hl
 · exact absurd hl hn0
 · exact hl
theorem lt_of_word {xs ys:List Nat}{i:Nat}(hl:xs.length=ys.length)(hi:i<xs.length)(hx:∀ w∈xs,w<BB)(he:∀ j,i<j→j<xs.length→xs.getD j 0=ys.getD j 0)(h:xs.getD i 0<ys.getD i 0):wval xs<wval ys:=by
 have h1:=wval_split xs (i+1) (by omega)
 have h2:=wval_split ys (i+1) (by omega)
 have e:xs.drop (i+1)=ys.drop (i+1):=by
  apply List.ext_getElem (by simp[hl])
  intro k hk1 hk2
  simp at hk1 hk2 ⊢
  have:=he (i+1+k) (by omega) (by omega)
  rwa [getD_of_lt (by omega),getD_of_lt (by omega)]at this
 rw[wval_take_succ hi]at h1
 rw[wval_take_succ (by omega),← e]at h2
 have h3:=wval_lt (xs.take i) (fun w hw=>hx w (List.mem_of_mem_take hw))
 rw[List.length_take,Nat.min_eq_left (by omega)]at h3
 have h4:BB^i*(xs.getD i 0+1)≤BB^i*ys.getD i 0:=Nat.mul_le_mul_left _ (by omega)
 rw[Nat.mul_add]at h4
 omega
theorem eq_of_words {xs ys:List Nat}(hl:xs.length=ys.length)(he:∀ j,j<xs.length→xs.getD j 0=ys.getD j 0):xs=ys:=by
 apply List.ext_getElem hl
 intro k hk1 hk2
 have:=he k hk1
 rwa [getD_of_lt hk1,getD_of_lt hk2]at this
theorem wval_le_of_len {xs:List Nat}{n:Nat}(h:∀ w∈xs,w<BB)(hl:xs.length≤n):wval xs<BB^n :=
 Nat.lt_of_lt_of_le (wval_lt xs h) (Nat.pow_le_pow_right BB_pos hl)
def SumInv (x y os:List Nat) (i c:Nat):Prop:=os.length=i∧(∀ w∈os,w<BB)∧c≤1∧wval os+BB^i*c=wval (x.take i)+wval (y.take i)
theorem SumInv.start (x y:List Nat):SumInv x y [] 0 0:=⟨rfl,by simp,by omega,by simp[wval]⟩
theorem take_succ_any (y:List Nat)(i:Nat):wval (y.take (i+1))=wval (y.take i)+BB^i*y.getD i 0:=by
 by_cases h:i<y.length
 · exact wval_take_succ h
 · rw[List.take_of_length_le (by omega),List.take_of_length_le (by omega)]
   simp[List.getD,List.getElem?_eq_none (show y.length≤i by omega)]
theorem SumInv.small {x y os:List Nat}{i c:Nat}(h:SumInv x y os i c)(hs:x.getD i 0+y.getD i 0+c<BB):SumInv x y (os++[x.getD i 0+y.getD i 0+c]) (i+1) 0:=by
 obtain⟨h1,h2,h3,h4⟩:=h
 refine⟨by simp[h1],?_,by omega,?_⟩
 · intro w hw
   rcases List.mem_append.1 hw with hw|hw
   · exact h2 w hw
   · have hw:=List.mem_singleton.1 hw;omega
 · rw[wval_snoc,h1,take_succ_any,take_succ_any,Nat.mul_add,Nat.mul_add,Nat.mul_zero];omega
theorem SumInv.big {x y os:List Nat}{i c:Nat}(h:SumInv x y os i c)(hx:x.getD i 0<BB)(hy:y.getD i 0<BB)(hs:BB≤x.getD i 0+y.getD i 0+c):SumInv x y (os++[x.getD i 0+y.getD i 0+c-BB]) (i+1) 1:=by
 obtain⟨h1,h2,h3,h4⟩:=h
 refine⟨by simp[h1],?_,by omega,?_⟩
 · intro w hw
   rcases List.mem_append.1 hw with hw|hw
   · exact h2 w hw
   · have hw:=List.mem_singleton.1 hw;omega
 · rw[wval_snoc,h1,take_succ_any,take_succ_any,Nat.mul_one,Nat.pow_succ]
   have e:BB^i*(x.getD i 0+y.getD i 0+c-BB)+BB^i*BB=BB^i*(x.getD i 0+y.getD i 0+c):=by rw[← Nat.mul_add,show x.getD i 0+y.getD i 0+c-BB+BB=x.getD i 0+y.getD i 0+c by omega]
   rw[Nat.mul_add,Nat.mul_add]at e
   omega
theorem SumInv.done {x y os:List Nat}{c:Nat}(h:SumInv x y os x.length c)(hl:y.length≤x.length):wval (os++[c])=wval x+wval y∧∀ w∈os++[c],w<BB:=by
 obtain⟨h1,h2,h3,h4⟩:=h
 rw[List.take_of_length_le (Nat.le_refl _),List.take_of_length_le hl]at h4
 refine⟨by rw[wval_snoc,h1];exact h4,fun w hw=>?_⟩
 rcases List.mem_append.1 hw with hw|hw
 · exact h2 w hw
 · have hw:=List.mem_singleton.1 hw;have:=BB_one;omega
def DifInv (x y os:List Nat) (i c:Nat):Prop:=os.length=i∧(∀ w∈os,w<BB)∧c≤1∧wval os+wval (y.take i)=wval (x.take i)+BB^i*c
theorem DifInv.start (x y:List Nat):DifInv x y [] 0 0:=⟨rfl,by simp,by omega,by simp[wval]⟩
theorem DifInv.small {x y os:List Nat}{i c:Nat}(h:DifInv x y os i c)(hx:x.getD i 0<BB)(hs:y.getD i 0+c≤x.getD i 0):DifInv x y (os++[x.getD i 0-(y.getD i 0+c)]) (i+1) 0:=by
 obtain⟨h1,h2,h3,h4⟩:=h
 refine⟨by simp[h1],?_,by omega,?_⟩
 · intro w hw
   rcases List.mem_append.1 hw with hw|hw
   · exact h2 w hw
   · have hw:=List.mem_singleton.1 hw;omega
 · rw[wval_snoc,h1,take_succ_any,take_succ_any,Nat.mul_zero]
   have e:BB^i*(x.getD i 0-(y.getD i 0+c))+BB^i*(y.getD i 0+c)=BB^i*x.getD i 0:=by rw[← Nat.mul_add,show x.getD i 0-(y.getD i 0+c)+(y.getD i 0+c)=x.getD i 0 by omega]
   rw[Nat.mul_add (BB^i) (y.getD i 0)]at e
   omega
theorem DifInv.big {x y os:List Nat}{i c:Nat}(h:DifInv x y os i c)(hy:y.getD i 0<BB)(hs:x.getD i 0<y.getD i 0+c):DifInv x y (os++[x.getD i 0+BB-(y.getD i 0+c)]) (i+1) 1:=by
 obtain⟨h1,h2,h3,h4⟩:=h
 refine⟨by simp[h1],?_,by omega,?_⟩
 · intro w hw
   rcases List.mem_append.1 hw with hw|hw
   · exact h2 w hw
   · have hw:=List.mem_singleton.1 hw;omega
 · rw[wval_snoc,h1,take_succ_any,take_succ_any,Nat.mul_one,Nat.pow_succ]
   have e:BB^i*(x.getD i 0+BB-(y.getD i 0+c))+BB^i*(y.getD i 0+c)=BB^i*(x.getD i 0+BB):=by rw[← Nat.mul_add,show x.getD i 0+BB-(y.getD i 0+c)+(y.getD i 0+c)=x.getD i 0+BB by omega]
   rw[Nat.mul_add (BB^i) (y.getD i 0),Nat.mul_add]at e
   omega
theorem DifInv.done {x y os:List Nat}{c:Nat}(h:DifInv x y os x.length c)(hl:y.length≤x.length)(hle:wval y≤wval x):wval os=wval x-wval y∧∀ w∈os,w<BB:=by
 obtain⟨h1,h2,h3,h4⟩:=h
 rw[List.take_of_length_le (Nat.le_refl _),List.take_of_length_le hl]at h4
 refine⟨?_,h2⟩
 have hlt:=wval_lt os h2
 rw[h1]at hlt
 have:c=0:=by
  rcases Nat.eq_zero_or_pos c with h|h
  · exact h
  · obtain rfl:c=1:=by omega
    omega
 subst this
 omega
theorem div_step {X Y r d:Nat}(w:Nat)(h:X=Y*d+r)(hr:r<d):w+BB*X=(BB*Y+(r*BB+w) / d)*d+(r*BB+w)%d∧(r*BB+w)%d<d:=by
 have hd:0<d:=by omega
 refine⟨?_,Nat.mod_lt _ hd⟩
 have:=Nat.div_add_mod (r*BB+w) d
 rw[Nat.add_mul,Nat.add_assoc,Nat.mul_comm ((r*BB+w) / d) d,this,h,Nat.mul_add,Nat.mul_assoc,Nat.mul_comm BB r]
 omega
theorem div_word_lt {r w d:Nat}(hr:r<d)(hw:w<BB):(r*BB+w) / d<BB:=by
 rw[Nat.div_lt_iff_lt_mul (by omega)]
 have h:(r+1)*BB≤d*BB:=Nat.mul_le_mul_right _ hr
 rw[Nat.add_mul,Nat.mul_comm d]at h
 omega
end Go.Gb
namespace Go.Gb
open Go.Lib
def MM (r:Nat):Nat:=999999999+r*999999998000000001
theorem MM_le {r:Nat}(h:r≤18):MM r≤17999999965000000017:=by unfold MM;omega
def CarInv (xs ys:List Nat) (i c:Nat):Prop:=ys.length=i∧(∀ w∈ys,w<BB)∧c≤18000000000∧wval ys+BB^i*c=wval (xs.take i)
theorem CarInv.start (xs:List Nat):CarInv xs [] 0 0:=⟨rfl,by simp,by omega,by simp[wval]⟩
theorem CarInv.step {xs ys:List Nat}{i c:Nat}(h:CarInv xs ys i c)(hi:i<xs.length)(hx:xs.getD i 0≤MM 18):CarInv xs (ys++[(xs.getD i 0+c)%BB]) (i+1) ((xs.getD i 0+c) / BB)∧xs.getD i 0+c≤18446744073709551615:=by
 obtain⟨h1,h2,h3,h4⟩:=h
 have hM:=MM_le (r:=18) (by omega)
 have hB:=BB_eq
 refine⟨⟨by simp[h1],?_,?_,?_⟩,by omega⟩
 · intro w hw
   rcases List.mem_append.1 hw with hw|hw
   · exact h2 w hw
   · have hw:=List.mem_singleton.1 hw;rw[hw];exact Nat.mod_lt _ BB_pos
 · rw[hB];omega
 · rw[wval_snoc,h1,wval_take_succ hi,Nat.pow_succ,Nat.mul_assoc,Nat.add_assoc,← Nat.mul_add,Nat.mod_add_div,Nat.mul_add];omega
theorem CarInv.done {xs ys:List Nat}{c:Nat}(h:CarInv xs ys xs.length c):ys.length=xs.length∧(∀ w∈ys,w<BB)∧wval ys+BB^xs.length*c=wval xs:=by
 obtain⟨h1,h2,h3,h4⟩:=h
 rw[List.take_of_length_le (Nat.le_refl _)]at h4
 exact⟨h1,h2,h4⟩
theorem word_mul {a b:Nat}(ha:a<BB)(hb:b<BB):a*b≤999999998000000001:=by
 have h:a*b≤999999999*999999999:=Nat.mul_le_mul (by have:=BB_eq;omega) (by have:=BB_eq;omega)
 omega
def MulInv (x y os:List Nat) (i:Nat):Prop :=
 os.length=x.length+y.length∧wval os=wval (x.take i)*wval y∧(∀ j,j<os.length→os.getD j 0≤MM (i%18))∧∀ j,j<i-i%18→os.getD j 0<BB
def RowInv (x y os:List Nat) (i k:Nat):Prop :=
 os.length=x.length+y.length∧wval os=wval (x.take i)*wval y+BB^i*(x.getD i 0*wval (y.take k))∧(∀ j,j<os.length→os.getD j 0≤MM (i%18+1))∧(∀ j,i+k≤j→j<os.length→os.getD j 0≤MM (i%18))∧∀ j,j<i-i%18→os.getD j 0<BB
theorem MulInv.start (x y:List Nat):MulInv x y (List.replicate (x.length+y.length) 0) 0:=by
 refine⟨by simp,?_,?_,by intro j hj;omega⟩
 · have:=wval_zeros [] (x.length+y.length)
   simp only[List.nil_append]at this
   rw[this];simp[wval]
 · intro j hj
   rw[getD_of_lt hj];simp
theorem MulInv.row {x y os:List Nat}{i:Nat}(h:MulInv x y os i):RowInv x y os i 0:=by
 obtain⟨h1,h2,h3,h4⟩:=h
 refine⟨h1,by simp[h2,wval],fun j hj=>Nat.le_trans (h3 j hj) (by unfold MM;omega),fun j _ hj=>h3 j hj,h4⟩
theorem RowInv.step {x y os:List Nat}{i k:Nat}(h:RowInv x y os i k)(hi:i<x.length)(hk:k<y.length)(hx:∀ w∈x,w<BB)(hy:∀ w∈y,w<BB) :
 RowInv x y (os.set (i+k) (os.getD (i+k) 0+x.getD i 0*y.getD k 0)) i (k+1)∧os.getD (i+k) 0+x.getD i 0*y.getD k 0≤MM 18:=by
 obtain⟨h1,h2,h3,h4,h5⟩:=h
 have hp:=word_mul (hx _ (mem_getD hi)) (hy _ (mem_getD hk))
 have hc:=h4 (i+k) (Nat.le_refl _) (by omega)
 have hr:i%18<18:=Nat.mod_lt _ (by decide)
 have hM:MM (i%18+1)=MM (i%18)+999999998000000001:=by unfold MM;omega
 refine⟨⟨by simp[h1],?_,?_,?_,?_⟩,?_⟩
 · have hs:=wval_set (xs:=os) (i:=i+k) (v:=os.getD (i+k) 0+x.getD i 0*y.getD k 0) (by omega)
   rw[Nat.mul_add,h2]at hs
   rw[wval_take_succ hk]
   have e:BB^(i+k)*(x.getD i 0*y.getD k 0)=BB^i*(x.getD i 0*(BB^k*y.getD k 0)):=by
    rw[Nat.pow_add,Nat.mul_assoc,Nat.mul_left_comm (BB^k)]
   rw[e]at hs
   rw[Nat.mul_add (x.getD i 0),Nat.mul_add (BB^i)]
   omega
 · intro j hj
   simp only[List.length_set]at hj
   rw[getD_set]
   split
   · omega
   · exact h3 j hj
 · intro j hj1 hj
   simp only[List.length_set]at hj
   rw[getD_set,if_neg (by omega)]
   exact h4 j (by omega) hj
 · intro j hj
   rw[getD_set,if_neg (by omega)]
   exact h5 j hj
 · have:MM (i%18+1)≤MM 18:=by unfold MM;omega
   omega
theorem RowInv.next {x y os:List Nat}{i:Nat}(h:RowInv x y os i y.length)(hi:i<x.length)(hr:i%18≠17):MulInv x y os (i+1):=by
 obtain⟨h1,h2,h3,h4,h5⟩:=h
 rw[List.take_of_length_le (Nat.le_refl _)]at h2
 have e:(i+1)%18=i%18+1:=by omega
 refine⟨h1,?_,by rw[e];exact h3,fun j hj=>h5 j (by omega)⟩
 rw[h2,wval_take_succ hi,Nat.add_mul,Nat.mul_assoc]
theorem RowInv.carried {x y os ys:List Nat}{i c:Nat}(h:RowInv x y os i y.length)(hi:i<x.length)(hr:i%18=17)(hx:∀ w∈x,w<BB)(hy:∀ w∈y,w<BB)
 (hl:ys.length=os.length-(i-17)) (hb:∀ w∈ys,w<BB) (hv:wval ys+BB^ys.length*c=wval (os.drop (i-17))):MulInv x y (os.take (i-17)++ys) (i+1):=by
 obtain⟨h1,h2,h3,h4,h5⟩:=h
 rw[List.take_of_length_le (Nat.le_refl _)]at h2
 have e:(i+1)%18=0:=by omega
 have ht:(os.take (i-17)).length=i-17:=by rw[List.length_take,Nat.min_eq_left (by omega)]
 have hlt:∀ w∈os.take (i-17)++ys,w<BB:=by
  intro w hw
  rcases List.mem_append.1 hw with hw|hw
  · refine all_getD (M:=BB) (fun j hj=>?_) w hw
    rw[ht]at hj
    have:=h5 j (by omega)
    rw[getD_of_lt (by rw[ht];exact hj)]
    rw[getD_of_lt (by omega)]at this
    simpa using this
  · exact hb w hw
 have hlen:(os.take (i-17)++ys).length=x.length+y.length:=by rw[List.length_append,ht,hl,← h1];omega
 have hval:wval os=wval (x.take (i+1))*wval y:=by rw[h2,wval_take_succ hi,Nat.add_mul,Nat.mul_assoc]
 have hsp:=wval_split os (i-17) (by omega)
 have hc0:c=0:=by
  rcases Nat.eq_zero_or_pos c with h|h
  · exact h
  · exfalso
    have hX:wval (x.take (i+1))<BB^x.length:=wval_le_of_len (fun w hw=>hx w (List.mem_of_mem_take hw)) (by rw[List.length_take];omega)
    have hY:=wval_lt y hy
    have hXY:wval os<BB^x.length*BB^y.length:=by
        rw[hval]
        rcases Nat.eq_zero_or_pos (wval y) with h0|h0
        · rw[h0,Nat.mul_zero];exact Nat.mul_pos (Nat.pow_pos BB_pos) (Nat.pow_pos BB_pos)
        · exact Nat.mul_lt_mul_of_lt_of_le hX (Nat.le_of_lt hY) (by omega)
    rw[← Nat.pow_add,← h1]at hXY
    have h6:BB^os.length=BB^(i-17)*BB^ys.length:=by rw[← Nat.pow_add];congr 1;omega
    have h7:BB^(i-17)*(BB^ys.length*1)≤BB^(i-17)*wval (os.drop (i-17)):=Nat.mul_le_mul_left _ (by rw[← hv];exact Nat.le_trans (Nat.mul_le_mul_left _ h) (Nat.le_add_left _ _))
    rw[Nat.mul_one,← h6]at h7
    omega
 refine⟨hlen,?_,?_,?_⟩
 · rw[wval_append,ht,← hval,hsp,← hv,hc0,Nat.mul_zero,Nat.add_zero]
 · intro j hj
   have:=hlt _ (mem_getD hj)
   unfold MM;have:=BB_eq;omega
 · intro j hj
   exact hlt _ (mem_getD (by rw[hlen];omega))
theorem MulInv.done {x y os ys:List Nat}{c:Nat}(h:MulInv x y os x.length)(hx:∀ w∈x,w<BB)(hy:∀ w∈y,w<BB)(hv:wval ys+BB^os.length*c=wval os):wval ys=wval x*wval y:=by
 obtain⟨h1,h2,h3,h4⟩:=h
 rw[List.take_of_length_le (Nat.le_refl _)]at h2
 have hX:=wval_lt x hx
 have hY:=wval_lt y hy
 have hXY:wval os<BB^os.length:=by
  rw[h2,h1,Nat.pow_add]
  rcases Nat.eq_zero_or_pos (wval y) with h0|h0
  · rw[h0,Nat.mul_zero];exact Nat.mul_pos (Nat.pow_pos BB_pos) (Nat.pow_pos BB_pos)
  · exact Nat.mul_lt_mul_of_lt_of_le hX (Nat.le_of_lt hY) (by omega)
 have hc0:c=0:=by
  rcases Nat.eq_zero_or_pos c with h|h
  · exact h
  · have:BB^os.length*1≤BB^os.length*c:=Nat.mul_le_mul_left _ h
    omega
 rw[hc0]at hv
 omega
theorem guess_right {U V T3 V2 P g:Nat}(hP:0<P)(hV:V2*P≤V)(hV':V<(V2+1)*P)(hU:T3*P≤U)(hg:g*V2≤T3)(hgV:g≤V2):g≤U / V+1:=by
 rcases Nat.eq_zero_or_pos g with h0|h0
 · rw[h0];exact Nat.zero_le _
 have hV0:0<V:=Nat.lt_of_lt_of_le (Nat.mul_pos (by omega) hP) hV
 have h1:g*V<g*((V2+1)*P):=Nat.mul_lt_mul_of_pos_left hV' h0
 have h2:g*((V2+1)*P)=g*V2*P+g*P:=by rw[Nat.add_mul,Nat.one_mul,Nat.mul_add,Nat.mul_assoc]
 have h3:g*V2*P≤T3*P:=Nat.mul_le_mul_right _ hg
 have h4:g*P≤V2*P:=Nat.mul_le_mul_right _ hgV
 have h5:g*V<U+V:=by omega
 have h6:(g-1)*V≤U:=by
  have:g*V=(g-1)*V+V:=by
   conv=>lhs;rw[show g=(g-1)+1 by omega,Nat.add_mul,Nat.one_mul]
  omega
 have h7:=(Nat.le_div_iff_mul_le hV0).2 h6
 generalize U / V=q at *
 omega
theorem quo_le {U V T3 V2 P:Nat}(hV0:0<V2)(hV:V2*P≤V)(hU:U<(T3+1)*P):U / V≤T3 / V2:=by
 rw[Nat.le_div_iff_mul_le hV0]
 have h1:U / V*V≤U:=Nat.div_mul_le_self U V
 have h2:U / V*(V2*P)≤U / V*V:=Nat.mul_le_mul_left _ hV
 have h3:U / V*V2*P<(T3+1)*P:=by rw[Nat.mul_assoc];omega
 have h4:=Nat.lt_of_mul_lt_mul_right h3
 omega
end Go.Gb
namespace Go.Gb
def EuInv (x0 y0 x y a b c d:Nat) (o:Bool):Prop :=
 x0=d*x+b*y∧y0=c*x+a*y∧Nat.gcd x y=Nat.gcd x0 y0∧(o=true→b*y0=a*x0+x∧c*x0=d*y0+y)∧(o=false→a*x0=b*y0+x∧d*y0=c*x0+y)
theorem EuInv.start (x y:Nat):EuInv x y x y 1 0 0 1 false:=by
 refine⟨by omega,by omega,rfl,?_,?_⟩
 · intro h;cases h
 · intro _;constructor<;>omega
theorem EuInv.step {x0 y0 x y a b c d:Nat}{o:Bool}(h:EuInv x0 y0 x y a b c d o):EuInv x0 y0 y (x%y) c d (a+x / y*c) (b+x / y*d) (!o):=by
 obtain⟨h1,h2,h3,h4,h5⟩:=h
 have hx:=Nat.div_add_mod x y
 generalize x / y=q at *
 have h6:Nat.gcd y (x%y)=Nat.gcd x0 y0:=by rw[← h3,Nat.gcd_comm y,← Nat.gcd_rec,Nat.gcd_comm]
 generalize x%y=r at *
 refine⟨?_,?_,h6,fun ho=>?_,fun ho=>?_⟩
 · grind
 · grind
 · have:=h5 (by cases o<;>simp_all)
   grind
 · have:=h4 (by cases o<;>simp_all)
   grind
theorem EuInv.bound {x0 y0 x y a b c d:Nat}{o:Bool}(h:EuInv x0 y0 x y a b c d o)(hx:0<x):d≤x0∧c≤y0:=by
 obtain⟨h1,h2,_⟩:=h
 have g1:d*1≤d*x:=Nat.mul_le_mul_left _ hx
 have g2:c*1≤c*x:=Nat.mul_le_mul_left _ hx
 omega
end Go.Gb
