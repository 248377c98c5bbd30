/- texts -/
import Derived.Test.YtlgkolkcokaefaaGreatDoorProg
import Derived.Shelf.Small.Strs
import Derived.Shelf.Small.Wraps
import Derived.Shelf.Strconv.Itoa3
import Derived.Shelf.Pu.ParseUintPublic10
import Derived.Shelf.Strconv.AppendInt10
open Go.Proofs.Tryz
namespace Go.Gb
open Go.Lib
def BB:Nat:=1000000000
theorem aJ:BB=1000000000:=rfl
theorem bH:0<BB:=by decide
theorem nW:1<BB:=by decide
attribute [irreducible] BB
def isD (c:UInt8):Bool:=decide (48≤c.toNat∧c.toNat≤57)
def aK (l:List UInt8):Nat:=l.foldl (fun n c=>n*10+(c.toNat-48)) 0
def vld (l:List UInt8):Bool:=decide (l≠[])&&l.all isD&&(decide (l.length=1) || decide (l.headD 0≠48))
theorem eQ (c:UInt8):isD c=true↔48≤c.toNat∧c.toNat≤57:=by simp[isD]
theorem z0s (l:List UInt8):∀ a:Nat,l.foldl (fun n c=>n*10+(c.toNat-48)) a=a*10^l.length+aK l:=by
 unfold aK
 induction l with
 | nil=>intro a;simp
 | cons c l ih =>
   intro a;simp only[List.foldl_cons,List.length_cons];rw[ih,ih (0*10+(c.toNat-48)),Nat.pow_succ,Nat.add_mul,Nat.zero_mul,Nat.zero_add,Nat.mul_assoc,Nat.mul_comm 10 (10^l.length),Nat.add_assoc]
theorem gJ (l m:List UInt8):aK (l++m)=aK l*10^m.length+aK m:=by
 show(l++m).foldl _ 0=_
 rw[List.foldl_append,z0s];rfl
theorem kN (c:UInt8):aK [c]=c.toNat-48:=by simp[aK]
theorem kL (l:List UInt8)(c:UInt8):aK (l++[c])=aK l*10+(c.toNat-48):=by
 rw[gJ,kN];simp
theorem kP (c:UInt8)(l:List UInt8):aK (c :: l)=(c.toNat-48)*10^l.length+aK l:=by
 have:=gJ [c] l;rw[kN]at this;simpa using this
theorem fA {d:Nat}(h:d<10):(UInt8.ofNat (48+d)).toNat=48+d:=by
 simp;omega
theorem gI (l:List UInt8)(h:l.all isD=true):aK l<10^l.length:=by
 induction l with
 | nil=>simp[aK]
 | cons c l ih =>
   simp only[List.all_cons,Bool.and_eq_true]at h;have hc:=(eQ c).1 h.1;have hl:=ih h.2;rw[kP,List.length_cons,Nat.pow_succ];have h1:(c.toNat-48)*10^l.length≤9*10^l.length:=Nat.mul_le_mul_right _ (by omega);omega
theorem fH (n:Nat):aK (decDigits n)=n:=by
 induction n using Nat.strongRecOn with
 | _ u ih =>
   by_cases h:u<10
   · rw[decDigits,dif_pos h,kN,fA h];omega
   · rw[decDigits,dif_neg h,kL,ih (u / 10) (by omega),fA (Nat.mod_lt _ (by decide))];omega
theorem iI (n:Nat):decDigits n≠[]:=by
 intro h;have h1:=decDigits_length n;have h2:=nDigits_pos n;rw[h]at h1;simp at h1;omega
theorem iR (n:Nat):(decDigits n).all isD=true:=by
 induction n using Nat.strongRecOn with
 | _ u ih =>
   by_cases h:u<10
   · rw[decDigits,dif_pos h];simp only[List.all_cons,List.all_nil,Bool.and_true]
     rw[eQ,fA h];omega
   · rw[decDigits,dif_neg h,List.all_append,ih (u / 10) (by omega)]
     simp only[List.all_cons,List.all_nil,Bool.and_true,Bool.true_and];rw[eQ,fA (Nat.mod_lt _ (by decide))];omega
theorem z2s (n:Nat)(h0:0<n):((decDigits n).headD 0).toNat≠48:=by
 induction n using Nat.strongRecOn with
 | _ u ih =>
   by_cases h:u<10
   · rw[decDigits,dif_pos h];simp only[List.headD_cons];rw[fA h];omega
   · rw[decDigits,dif_neg h]
     have hh:=ih (u / 10) (by omega) (by omega);have hn:=iI (u / 10)
     cases hd:decDigits (u / 10) with
     | nil=>exact absurd hd hn
     | cons c l=>rw[hd]at hh;simpa using hh
theorem gm (l:List UInt8):vld l=true↔l≠[]∧l.all isD=true∧(l.length=1∨(l.headD 0).toNat≠48):=by
 unfold vld
 simp only[Bool.and_eq_true,Bool.or_eq_true,decide_eq_true_eq,and_assoc]
 have:(l.headD 0≠48)↔((l.headD 0).toNat≠48):=by
  constructor
  · intro h h2;apply h;apply UInt8.toNat_inj.1;simpa using h2
  · intro h h2;apply h;rw[h2];rfl
 rw[this]
theorem mR (n:Nat):vld (decDigits n)=true:=by
 rw[gm];refine⟨iI n,iR n,?_⟩;by_cases h:0<n
 · exact Or.inr (z2s n h)
 · left;obtain rfl:n=0:=by omega
   rw[decDigits,dif_pos (by decide)];rfl
theorem sP (l:List UInt8)(hne:l≠[])(hall:l.all isD=true)(hh:(l.headD 0).toNat≠48):0<aK l∧decDigits (aK l)=l:=by
 generalize hn:l.length=n
 induction n generalizing l with
 | zero=>exact absurd (List.length_eq_zero_iff.1 hn) hne
 | succ n ih =>
   obtain⟨m,c,rfl⟩:∃ m c,l=m++[c]:=⟨l.dropLast,l.getLast hne,(List.dropLast_concat_getLast hne).symm⟩;rw[List.all_append]at hall;simp only[List.all_cons,List.all_nil,Bool.and_true,Bool.and_eq_true]at hall;have hc:=(eQ c).1 hall.2
   have hcc:UInt8.ofNat (48+(c.toNat-48))=c:=by
    apply UInt8.toNat_inj.1;rw[fA (by omega)];omega
   by_cases hm:m=[]
   · subst hm
     simp only[List.nil_append,List.headD_cons]at hh ⊢;rw[kN];refine⟨by omega,?_⟩;rw[decDigits,dif_pos (by omega),hcc]
   · have hhm:(m.headD 0).toNat≠48:=by
        cases m with
        | nil=>exact absurd rfl hm
        | cons a m=>simpa using hh
     obtain⟨h1,h2⟩:=ih m hm hall.1 hhm (by simpa using hn);rw[kL];refine⟨by omega,?_⟩;rw[decDigits,dif_neg (by omega)];rw[show(aK m*10+(c.toNat-48)) / 10=aK m by omega,show(aK m*10+(c.toNat-48))%10=c.toNat-48 by omega,h2,hcc]
theorem jF (l:List UInt8)(h:vld l=true):decDigits (aK l)=l:=by
 obtain⟨h1,h2,h3⟩:=(gm l).1 h;by_cases hh:(l.headD 0).toNat≠48
 · exact(sP l h1 h2 hh).2
 · rcases h3 with h3|h3
   · match l,h3 with
     | [c],_ =>
       simp only[List.headD_cons]at hh;rw[kN];have:c.toNat=48:=by omega
       rw[this,decDigits,dif_pos (by decide)];congr 1;apply UInt8.toNat_inj.1;rw[this];rfl
   · exact absurd h3 hh
theorem z3I {a b:Nat}(h:decDigits a=decDigits b):a=b:=by rw[← fH a,← fH b,h]
theorem dW {l m:List UInt8}(hl:vld l=true)(hm:vld m=true)(h:l.length<m.length):aK l<aK m:=by
 obtain⟨l1,l2,_⟩:=(gm l).1 hl;obtain⟨m1,m2,m3⟩:=(gm m).1 hm;have hlt:=gI l l2;have hl0:0<l.length:=List.length_pos_iff.2 l1
 have hh:(m.headD 0).toNat≠48:=by
  rcases m3 with h3|h3
  · omega
  · exact h3
 cases m with
 | nil=>simp at h
 | cons c m =>
   simp only[List.headD_cons]at hh;simp only[List.all_cons,Bool.and_eq_true]at m2;have hc:=(eQ c).1 m2.1;rw[kP];have h1:1*10^m.length≤(c.toNat-48)*10^m.length:=Nat.mul_le_mul_right _ (by omega);have h2:10^l.length≤10^m.length:=Nat.pow_le_pow_right (by decide) (by simp at h;omega);omega
theorem wO {p:List UInt8}{x y:UInt8}{l m:List UInt8}(hl:l.length=m.length)(al:(l.all isD)=true)(hx:isD x=true)(hy:isD y=true)(h:x.toNat<y.toNat) :
 aK (p++x :: l)<aK (p++y :: m):=by
 rw[gJ,gJ,kP,kP];simp only[List.length_cons,hl];have h1:=gI l al;rw[hl]at h1;have hx':=(eQ x).1 hx;have hy':=(eQ y).1 hy;have h2:(x.toNat-48+1)*10^m.length≤(y.toNat-48)*10^m.length:=Nat.mul_le_mul_right _ (by omega);rw[Nat.add_mul]at h2;omega
def ae (n:Nat):List Nat:=if _h:n=0 then [] else n%BB :: ae (n / BB)
termination_by n
decreasing_by exact Nat.div_lt_self (by omega) nW
def aj:List Nat→Nat
 | []=>0
 | w :: ws=>w+BB*aj ws
theorem aP:ae 0=[]:=by rw[ae];simp
theorem bI {n:Nat}(h:n≠0):ae n=n%BB :: ae (n / BB):=by rw[ae,dif_neg h]
theorem kS {w n:Nat}(hw:w<BB)(h:w≠0∨n≠0):ae (w+BB*n)=w :: ae n:=by
 have hB:0<BB:=bH;rw[bI]
 · rw[Nat.add_mul_mod_self_left,Nat.mod_eq_of_lt hw,Nat.add_mul_div_left _ _ hB,Nat.div_eq_of_lt hw,Nat.zero_add]
 · rcases h with h|h
   · omega
   · intro h2
     have:BB*n=0:=by omega
     rcases Nat.mul_eq_zero.1 this with h3|h3
     · exact absurd h3 (by have:=bH;omega)
     · exact h h3
theorem aB (n:Nat):aj (ae n)=n:=by
 induction n using Nat.strongRecOn with
 | _ n ih =>
   by_cases h:n=0
   · subst h;rw[aP];rfl
   · rw[bI h,aj,ih (n / BB) (Nat.div_lt_self (by omega) nW)]
     exact Nat.mod_add_div n BB
theorem aQ (n:Nat):∀ w∈ae n,w<BB:=by
 induction n using Nat.strongRecOn with
 | _ n ih =>
   by_cases h:n=0
   · subst h;rw[aP];simp
   · rw[bI h]
     intro w hw;rcases List.mem_cons.1 hw with hw|hw
     · rw[hw];exact Nat.mod_lt _ bH
     · exact ih (n / BB) (Nat.div_lt_self (by omega) nW) w hw
theorem dN (l m:List Nat):aj (l++m)=aj l+BB^l.length*aj m:=by
 induction l with
 | nil=>simp[aj]
 | cons w l ih=>simp only[List.cons_append,aj,ih,List.length_cons,Nat.pow_succ,Nat.mul_add,Nat.add_assoc];rw[← Nat.mul_assoc BB,Nat.mul_comm BB (BB^l.length)]
theorem dA (l:List Nat)(w:Nat):aj (l++[w])=aj l+BB^l.length*w:=by
 rw[dN];simp[aj]
theorem dJ (l:List Nat)(h:∀ w∈l,w<BB):aj l<BB^l.length:=by
 induction l with
 | nil=>simp[aj]
 | cons w l ih =>
   have hw:=h w (by simp);have hl:=ih (fun x hx=>h x (by simp[hx]));simp only[aj,List.length_cons,Nat.pow_succ];have:BB*(aj l+1)≤BB*BB^l.length:=Nat.mul_le_mul_left _ hl;rw[Nat.mul_comm (BB^l.length)];rw[Nat.mul_add]at this;omega
theorem z0y (l:List Nat)(h:∀ w∈l,w<BB)(hl:∀ (hne:l≠[]),l.getLast hne≠0):ae (aj l)=l:=by
 induction l with
 | nil=>exact aP
 | cons w l ih =>
   have hw:=h w (by simp);by_cases hn:l=[]
   · subst hn
     have h0:w≠0:=by simpa using hl (by simp)
     have:=kS (n:=0) hw (Or.inl h0);rw[aP]at this;simpa [aj] using this
   · have ih':=ih (fun x hx=>h x (by simp[hx])) (fun hne=>by have:=hl (by simp);rwa [List.getLast_cons hne]at this)
     have h0:aj l≠0:=by
        intro h0;rw[h0,aP]at ih';exact hn ih'.symm
     rw[aj,kS hw (Or.inr h0),ih']
theorem ek (l:List Nat)(k:Nat):aj (l++List.replicate k 0)=aj l:=by
 rw[dN]
 have:aj (List.replicate k 0)=0:=by
  induction k with
  | zero=>rfl
  | succ k ih=>rw[List.replicate_succ,aj,ih];rfl
 rw[this];simp
theorem bG {n k:Nat}(h:n<BB^k):(ae n).length≤k:=by
 induction k generalizing n with
 | zero=>obtain rfl:n=0:=by simpa using h
         rw[aP];simp
 | succ k ih =>
   by_cases h0:n=0
   · subst h0;rw[aP];simp
   · rw[bI h0,List.length_cons]
     have:n / BB<BB^k:=by rw[Nat.div_lt_iff_lt_mul bH];rwa [Nat.pow_succ]at h
     have:=ih this;omega
theorem dm (n:Nat):n<BB^(ae n).length:=by
 have:=dJ (ae n) (aQ n);rwa [aB]at this
theorem kQ (n:Nat)(hne:ae n≠[]):(ae n).getLast hne≠0:=by
 induction n using Nat.strongRecOn with
 | _ n ih =>
   by_cases h:n=0
   · subst h;exact absurd aP hne
   · have hlt:n / BB<n:=Nat.div_lt_self (by omega) nW
     by_cases h1:ae (n / BB)=[]
     · have h2:n / BB=0:=by have:=aB (n / BB);rw[h1]at this;exact this.symm
       have h3:ae n=[n%BB]:=by rw[bI h,h1]
       simp only[h3,List.getLast_singleton];have:=Nat.mod_add_div n BB;rw[h2]at this;omega
     · have h3:ae n=n%BB :: ae (n / BB):=bI h
       have h4:=ih (n / BB) hlt h1;simp only[h3,List.getLast_cons h1];exact h4
theorem aN {a b:Nat}(h:a≤b):(ae a).length≤(ae b).length :=
 bG (Nat.lt_of_le_of_lt h (dm b))
theorem dP {a b:Nat}(h:(ae a).length<(ae b).length):a<b:=by
 refine Nat.lt_of_not_le fun h2=>?_;have:=aN h2;omega
def pad9 (w:Nat):List UInt8:=(List.range 9).map fun t=>UInt8.ofNat (48+w / 10^(8-t)%10)
theorem jR (w:Nat):(pad9 w).length=9:=by simp[pad9]
theorem jm (v:Nat)(hv:0<v):∀ (k w:Nat),w<10^k→decDigits (v*10^k+w)=decDigits v++(List.range k).map fun t=>UInt8.ofNat (48+w / 10^(k-1-t)%10)
 | 0,w,h=>by obtain rfl:w=0:=by simpa using h
             simp
 | k+1,w,h=>by
   have hp:1≤10^k:=Nat.one_le_pow _ _ (by decide)
   have e1:v*10^(k+1)+w=(v*10^k+w / 10)*10+w%10:=by
    rw[Nat.pow_succ,← Nat.mul_assoc,Nat.add_mul];omega
   have hw:w / 10<10^k:=by rw[Nat.pow_succ]at h;omega
   have hge:1≤v*10^k:=Nat.mul_pos hv hp
   rw[e1,decDigits,dif_neg (by omega),show((v*10^k+w / 10)*10+w%10) / 10=v*10^k+w / 10 by omega,show((v*10^k+w / 10)*10+w%10)%10=w%10 by omega,
    jm v hv k (w / 10) hw,List.range_succ,List.map_append,List.append_assoc]
   congr 1
   congr 1
   · refine List.map_congr_left fun t ht=>?_
     have ht':t<k:=List.mem_range.1 ht;rw[show k+1-1-t=(k-1-t)+1 by omega,Nat.pow_succ,Nat.mul_comm,Nat.div_div_eq_div_mul]
   · simp
theorem z2q {v w:Nat}(hv:0<v)(hw:w<BB):decDigits (w+BB*v)=decDigits v++pad9 w:=by
 have hB:=aJ;have:=jm v hv 9 w (by omega);rw[show w+BB*v=v*10^9+w by rw[hB];omega,this];rfl
theorem bO {xs:List Nat}{i:Nat}(h:i<xs.length):xs.getD i 0=xs[i]:=by simp[List.getD,h]
theorem aW {xs:List Nat}{i:Nat}(h:i<xs.length):xs.getD i 0∈xs:=by rw[bO h];exact List.getElem_mem h
theorem z2C {xs:List Nat}{M:Nat}(h:∀ i,i<xs.length→xs.getD i 0<M):∀ w∈xs,w<M:=by
 intro w hw;obtain⟨i,hi,rfl⟩:=List.mem_iff_getElem.1 hw;have:=h i hi;rwa [bO hi]at this
theorem xu {xs:List Nat}{i:Nat}(h:i<xs.length):xs.take (i+1)=xs.take i++[xs.getD i 0]:=by
 rw[List.take_succ_eq_append_getElem h,bO h]
theorem eB {xs:List Nat}{i:Nat}(h:i<xs.length):xs.drop i=xs.getD i 0 :: xs.drop (i+1):=by
 rw[List.drop_eq_getElem_cons h,bO h]
theorem df {xs:List Nat}{i:Nat}(h:i<xs.length):aj (xs.take (i+1))=aj (xs.take i)+BB^i*xs.getD i 0:=by
 rw[xu h,dA,List.length_take,Nat.min_eq_left (by omega)]
theorem fe {xs:List Nat}{i:Nat}(h:i<xs.length):aj (xs.drop i)=xs.getD i 0+BB*aj (xs.drop (i+1)):=by
 rw[eB h,aj]
theorem cu (xs:List Nat)(i:Nat)(h:i≤xs.length):aj xs=aj (xs.take i)+BB^i*aj (xs.drop i):=by
 have:=dN (xs.take i) (xs.drop i);rwa [List.take_append_drop,List.length_take,Nat.min_eq_left h]at this
theorem kJ {xs:List Nat}{i j v:Nat}:(xs.set i v).getD j 0=if i=j∧j<xs.length then v else xs.getD j 0:=by
 simp only[List.getD,List.getElem?_set];by_cases h:i=j
 · subst h
   by_cases h2:i<xs.length
   · simp[h2]
   · simp[h2]
 · simp[h]
theorem p9 {xs:List Nat}{i v:Nat}(h:i<xs.length):aj (xs.set i v)+BB^i*xs.getD i 0=aj xs+BB^i*v:=by
 have h1:=cu (xs.set i v) i (by simp;omega);have h2:=cu xs i (by omega);have h3:i<(xs.set i v).length:=by simpa using h
 rw[fe h3]at h1;rw[fe h]at h2;have e1:(xs.set i v).take i=xs.take i:=by rw[List.take_set_of_le (Nat.le_refl _)]
 have e2:(xs.set i v).drop (i+1)=xs.drop (i+1):=by rw[List.drop_set_of_lt (by omega)]
 have e3:(xs.set i v).getD i 0=v:=by rw[kJ];simp[h]
 rw[e1,e2,e3,Nat.mul_add]at h1;rw[Nat.mul_add]at h2;omega
theorem yC {xs:List Nat}(h:∀ i,i<xs.length→xs.getD i 0=0):aj xs=0:=by
 induction xs with
 | nil=>rfl
 | cons w xs ih =>
   have h0:=h 0 (by simp);simp at h0
   have:=ih (fun i hi=>by have:=h (i+1) (by simpa using hi);simpa using this);rw[aj,h0,this];rfl
theorem nX {xs:List Nat}{n:Nat}(h:∀ i,n≤i→i<xs.length→xs.getD i 0=0):aj (xs.drop n)=0:=by
 refine yC fun i hi=>?_;have:=h (n+i) (by omega) (by simp at hi;omega);simpa [List.getD] using this
theorem gK {xs:List Nat}{n:Nat}(hn:n≤xs.length)(hB:∀ w∈xs,w<BB)(hz:∀ i,n≤i→i<xs.length→xs.getD i 0=0)(hl:n=0∨xs.getD (n-1) 0≠0):ae (aj xs)=xs.take n:=by
 have h1:=cu xs n hn;rw[nX hz,Nat.mul_zero,Nat.add_zero]at h1;rw[h1];refine z0y _ (fun w hw=>hB w (List.mem_of_mem_take hw)) fun hne=>?_;have hn0:n≠0:=by intro h;subst h;simp at hne
 have h2:(xs.take n).getLast hne=xs.getD (n-1) 0:=by
  rw[List.getLast_eq_getElem,bO (by omega)];simp[Nat.min_eq_left hn]
 rw[h2];rcases hl with hl|hl
 · exact absurd hl hn0
 · exact hl
theorem jC {xs ys:List Nat}{i:Nat}(hl:xs.length=ys.length)(hi:i<xs.length)(hx:∀ w∈xs,w<BB)(he:∀ j,i<j→j<xs.length→xs.getD j 0=ys.getD j 0)(h:xs.getD i 0<ys.getD i 0):aj xs<aj ys:=by
 have h1:=cu xs (i+1) (by omega);have h2:=cu ys (i+1) (by omega)
 have e:xs.drop (i+1)=ys.drop (i+1):=by
  apply List.ext_getElem (by simp[hl])
  intro k hk1 hk2;simp at hk1 hk2 ⊢
  have:=he (i+1+k) (by omega) (by omega);rwa [bO (by omega),bO (by omega)]at this
 rw[df hi]at h1;rw[df (by omega),← e]at h2;have h3:=dJ (xs.take i) (fun w hw=>hx w (List.mem_of_mem_take hw));rw[List.length_take,Nat.min_eq_left (by omega)]at h3;have h4:BB^i*(xs.getD i 0+1)≤BB^i*ys.getD i 0:=Nat.mul_le_mul_left _ (by omega);rw[Nat.mul_add]at h4;omega
theorem nJ {xs ys:List Nat}(hl:xs.length=ys.length)(he:∀ j,j<xs.length→xs.getD j 0=ys.getD j 0):xs=ys:=by
 apply List.ext_getElem hl
 intro k hk1 hk2;have:=he k hk1;rwa [bO hk1,bO hk2]at this
theorem bP {xs:List Nat}{n:Nat}(h:∀ w∈xs,w<BB)(hl:xs.length≤n):aj xs<BB^n :=
 Nat.lt_of_lt_of_le (dJ xs h) (Nat.pow_le_pow_right bH hl)
def bZ (x y os:List Nat) (i c:Nat):Prop:=os.length=i∧(∀ w∈os,w<BB)∧c≤1∧aj os+BB^i*c=aj (x.take i)+aj (y.take i)
theorem bZ.start (x y:List Nat):bZ x y [] 0 0:=⟨rfl,by simp,by omega,by simp[aj]⟩
theorem aL (y:List Nat)(i:Nat):aj (y.take (i+1))=aj (y.take i)+BB^i*y.getD i 0:=by
 by_cases h:i<y.length
 · exact df h
 · rw[List.take_of_length_le (by omega),List.take_of_length_le (by omega)]
   simp[List.getD,List.getElem?_eq_none (show y.length≤i by omega)]
theorem bZ.small {x y os:List Nat}{i c:Nat}(h:bZ x y os i c)(hs:x.getD i 0+y.getD i 0+c<BB):bZ x y (os++[x.getD i 0+y.getD i 0+c]) (i+1) 0:=by
 obtain⟨h1,h2,h3,h4⟩:=h;refine⟨by simp[h1],?_,by omega,?_⟩
 · intro w hw
   rcases List.mem_append.1 hw with hw|hw
   · exact h2 w hw
   · have hw:=List.mem_singleton.1 hw;omega
 · rw[dA,h1,aL,aL,Nat.mul_add,Nat.mul_add,Nat.mul_zero];omega
theorem bZ.big {x y os:List Nat}{i c:Nat}(h:bZ x y os i c)(hx:x.getD i 0<BB)(hy:y.getD i 0<BB)(hs:BB≤x.getD i 0+y.getD i 0+c):bZ x y (os++[x.getD i 0+y.getD i 0+c-BB]) (i+1) 1:=by
 obtain⟨h1,h2,h3,h4⟩:=h;refine⟨by simp[h1],?_,by omega,?_⟩
 · intro w hw
   rcases List.mem_append.1 hw with hw|hw
   · exact h2 w hw
   · have hw:=List.mem_singleton.1 hw;omega
 · rw[dA,h1,aL,aL,Nat.mul_one,Nat.pow_succ]
   have e:BB^i*(x.getD i 0+y.getD i 0+c-BB)+BB^i*BB=BB^i*(x.getD i 0+y.getD i 0+c):=by rw[← Nat.mul_add,show x.getD i 0+y.getD i 0+c-BB+BB=x.getD i 0+y.getD i 0+c by omega]
   rw[Nat.mul_add,Nat.mul_add]at e;omega
theorem bZ.done {x y os:List Nat}{c:Nat}(h:bZ x y os x.length c)(hl:y.length≤x.length):aj (os++[c])=aj x+aj y∧∀ w∈os++[c],w<BB:=by
 obtain⟨h1,h2,h3,h4⟩:=h;rw[List.take_of_length_le (Nat.le_refl _),List.take_of_length_le hl]at h4;refine⟨by rw[dA,h1];exact h4,fun w hw=>?_⟩;rcases List.mem_append.1 hw with hw|hw
 · exact h2 w hw
 · have hw:=List.mem_singleton.1 hw;have:=nW;omega
def dR (x y os:List Nat) (i c:Nat):Prop:=os.length=i∧(∀ w∈os,w<BB)∧c≤1∧aj os+aj (y.take i)=aj (x.take i)+BB^i*c
theorem dR.start (x y:List Nat):dR x y [] 0 0:=⟨rfl,by simp,by omega,by simp[aj]⟩
theorem dR.small {x y os:List Nat}{i c:Nat}(h:dR x y os i c)(hx:x.getD i 0<BB)(hs:y.getD i 0+c≤x.getD i 0):dR x y (os++[x.getD i 0-(y.getD i 0+c)]) (i+1) 0:=by
 obtain⟨h1,h2,h3,h4⟩:=h;refine⟨by simp[h1],?_,by omega,?_⟩
 · intro w hw
   rcases List.mem_append.1 hw with hw|hw
   · exact h2 w hw
   · have hw:=List.mem_singleton.1 hw;omega
 · rw[dA,h1,aL,aL,Nat.mul_zero]
   have e:BB^i*(x.getD i 0-(y.getD i 0+c))+BB^i*(y.getD i 0+c)=BB^i*x.getD i 0:=by rw[← Nat.mul_add,show x.getD i 0-(y.getD i 0+c)+(y.getD i 0+c)=x.getD i 0 by omega]
   rw[Nat.mul_add (BB^i) (y.getD i 0)]at e;omega
theorem dR.big {x y os:List Nat}{i c:Nat}(h:dR x y os i c)(hy:y.getD i 0<BB)(hs:x.getD i 0<y.getD i 0+c):dR x y (os++[x.getD i 0+BB-(y.getD i 0+c)]) (i+1) 1:=by
 obtain⟨h1,h2,h3,h4⟩:=h;refine⟨by simp[h1],?_,by omega,?_⟩
 · intro w hw
   rcases List.mem_append.1 hw with hw|hw
   · exact h2 w hw
   · have hw:=List.mem_singleton.1 hw;omega
 · rw[dA,h1,aL,aL,Nat.mul_one,Nat.pow_succ]
   have e:BB^i*(x.getD i 0+BB-(y.getD i 0+c))+BB^i*(y.getD i 0+c)=BB^i*(x.getD i 0+BB):=by rw[← Nat.mul_add,show x.getD i 0+BB-(y.getD i 0+c)+(y.getD i 0+c)=x.getD i 0+BB by omega]
   rw[Nat.mul_add (BB^i) (y.getD i 0),Nat.mul_add]at e;omega
theorem dR.done {x y os:List Nat}{c:Nat}(h:dR x y os x.length c)(hl:y.length≤x.length)(hle:aj y≤aj x):aj os=aj x-aj y∧∀ w∈os,w<BB:=by
 obtain⟨h1,h2,h3,h4⟩:=h;rw[List.take_of_length_le (Nat.le_refl _),List.take_of_length_le hl]at h4;refine⟨?_,h2⟩;have hlt:=dJ os h2;rw[h1]at hlt
 have:c=0:=by
  rcases Nat.eq_zero_or_pos c with h|h
  · exact h
  · obtain rfl:c=1:=by omega
    omega
 subst this;omega
theorem z2m {X Y r d:Nat}(w:Nat)(h:X=Y*d+r)(hr:r<d):w+BB*X=(BB*Y+(r*BB+w) / d)*d+(r*BB+w)%d∧(r*BB+w)%d<d:=by
 have hd:0<d:=by omega
 refine⟨?_,Nat.mod_lt _ hd⟩;have:=Nat.div_add_mod (r*BB+w) d;rw[Nat.add_mul,Nat.add_assoc,Nat.mul_comm ((r*BB+w) / d) d,this,h,Nat.mul_add,Nat.mul_assoc,Nat.mul_comm BB r];omega
theorem nK {r w d:Nat}(hr:r<d)(hw:w<BB):(r*BB+w) / d<BB:=by
 rw[Nat.div_lt_iff_lt_mul (by omega)];have h:(r+1)*BB≤d*BB:=Nat.mul_le_mul_right _ hr;rw[Nat.add_mul,Nat.mul_comm d]at h;omega
end Go.Gb
namespace Go.Proofs
open Go.Shelf
def Tryz.lays213_ren:Go.Shelf.Ren:=⟨fun|213=>247|265=>252|n=>n,fun|9=>9|3=>3|n=>n,fun|n=>n⟩
def Tryz.lays106_ren:Go.Shelf.Ren:=⟨fun|106=>239|213=>247|265=>252|n=>n,fun|9=>9|3=>3|n=>n,fun|n=>n⟩
theorem Tryz.lays106:Go.Proofs.Lays.n106 Tryz.prog Tryz.lays106_ren:={
 mixed:=by kernel_rfl
 f106:=func239.trans (congrArg some (by kernel_rfl))
 f213:=func247.trans (congrArg some (by kernel_rfl))
 f265:=func252.trans (congrArg some (by kernel_rfl))
 t3:=underlying3
 a3:=isAgg3
 z3:=sizeOf3
 v3:=zeroValue3
 t9:=underlying9
 a9:=isAgg9
 z9:=sizeOf9
 v9:=zeroValue9 }
open Go.RowKit in
theorem Tryz.strings_Compare (a b:ByteArray)(w:World) :
 Calls Tryz.prog 239 #[.string a,.string b] w fun e w'=>e=.returned (.int .i64 (Lib.compareBytes a.data.toList b.data.toList))∧w'=w:=Any.strings_Compare Tryz.lays106 a b w
def Tryz.lays210_ren:Go.Shelf.Ren:=⟨fun|210=>154|206=>182|n=>n,fun|9=>9|4=>4|3=>3|n=>n,fun|n=>n⟩
def Tryz.lays103_ren:Go.Shelf.Ren:=⟨fun|103=>136|210=>154|206=>182|n=>n,fun|9=>9|4=>4|24=>166|3=>3|n=>n,fun|n=>n⟩
theorem Tryz.lays103:Go.Proofs.Lays.n103 Tryz.prog Tryz.lays103_ren:={
 mixed:=by kernel_rfl
 f103:=func136.trans (congrArg some (by kernel_rfl))
 f206:=func182.trans (congrArg some (by kernel_rfl))
 f210:=func154.trans (congrArg some (by kernel_rfl))
 t3:=underlying3
 a3:=isAgg3
 z3:=sizeOf3
 v3:=zeroValue3
 t4:=underlying4
 a4:=isAgg4
 z4:=sizeOf4
 v4:=zeroValue4
 t9:=underlying9
 a9:=isAgg9
 z9:=sizeOf9
 v9:=zeroValue9
 t24:=underlying166
 a24:=isAgg166
 z24:=sizeOf166
 v24:=zeroValue166 }
open Go.RowKit in
theorem Tryz.strings_CutPrefix (s p:ByteArray)(w:World) :
 Calls Tryz.prog 136 #[.string s,.string p] w fun e w'=>e=.returned (.tuple #[.string ⟨(Lib.trimPrefix s.data.toList p.data.toList).toArray⟩,.bool (Lib.hasPrefix s.data.toList p.data.toList)])∧w'=w:=Any.strings_CutPrefix Tryz.lays103 s p w
def Tryz.lays215_ren:Go.Shelf.Ren:=⟨fun|215=>223|n=>n,fun|3=>3|4=>4|n=>n,fun|n=>n⟩
def Tryz.lays122_ren:Go.Shelf.Ren:=⟨fun|122=>198|215=>223|n=>n,fun|3=>3|4=>4|n=>n,fun|n=>n⟩
theorem Tryz.lays122:Go.Proofs.Lays.n122 Tryz.prog Tryz.lays122_ren:={
 mixed:=by kernel_rfl
 f122:=func198.trans (congrArg some (by kernel_rfl))
 f215:=func223.trans (congrArg some (by kernel_rfl))
 t3:=underlying3
 a3:=isAgg3
 z3:=sizeOf3
 v3:=zeroValue3
 t4:=underlying4
 a4:=isAgg4
 z4:=sizeOf4
 v4:=zeroValue4 }
open Go.RowKit in
theorem Tryz.cmp_Compare_int (x y:Int)(w:World) :
 Calls Tryz.prog 198 #[.int .i64 x,.int .i64 y] w fun e w'=>e=.returned (.int .i64 (Lib.compareInt x y))∧w'=w:=Any.cmp_Compare_int Tryz.lays122 x y w
def Tryz.lays283_ren:Go.Shelf.Ren:=⟨fun|283=>176|n=>n,fun|3=>3|9=>9|4=>4|n=>n,fun|n=>n⟩
theorem Tryz.lays283:Go.Proofs.Lays.n283 Tryz.prog Tryz.lays283_ren:={
 mixed:=by kernel_rfl
 f283:=func176.trans (congrArg some (by kernel_rfl))
 t3:=underlying3
 a3:=isAgg3
 z3:=sizeOf3
 v3:=zeroValue3
 t4:=underlying4
 a4:=isAgg4
 z4:=sizeOf4
 v4:=zeroValue4
 t9:=underlying9
 a9:=isAgg9
 z9:=sizeOf9
 v9:=zeroValue9 }
open Go.Lib in
theorem Tryz.internal_strconv_small (i:Nat)(h:i<100)(w:World) :
 Calls Tryz.prog 176 #[.int .i64 i] w fun e w'=>e=.returned (.string ⟨(Lib.decDigits i).toArray⟩)∧w'=w:=Any.internal_strconv_small Tryz.lays283 i h w
def Tryz.laysM284_ren:Go.Shelf.Ren:=⟨fun|284=>177|129=>209|317=>208|318=>210|n=>n,fun|53=>110|3=>3|212=>237|0=>0|4=>4|46=>186|5=>5|9=>9|n=>n,fun|17=>2|n=>n⟩
theorem Tryz.laysM284:Go.Proofs.LaysM.n284 Tryz.prog Tryz.laysM284_ren:={
 mixed:=by kernel_rfl
 f129:=func209.trans (congrArg some (by kernel_rfl))
 f284:=func177.trans (congrArg some (by kernel_rfl))
 f317:=func208.trans (congrArg some (by kernel_rfl))
 f318:=func210.trans (congrArg some (by kernel_rfl))
 t0:=underlying0
 a0:=isAgg0
 z0:=sizeOf0
 v0:=zeroValue0
 t3:=underlying3
 a3:=isAgg3
 z3:=sizeOf3
 v3:=zeroValue3
 t4:=underlying4
 a4:=isAgg4
 z4:=sizeOf4
 v4:=zeroValue4
 t5:=underlying5
 a5:=isAgg5
 z5:=sizeOf5
 v5:=zeroValue5
 t9:=underlying9
 a9:=isAgg9
 z9:=sizeOf9
 v9:=zeroValue9
 t46:=underlying186
 a46:=isAgg186
 z46:=sizeOf186
 v46:=zeroValue186
 t53:=underlying110
 a53:=isAgg110
 z53:=sizeOf110
 v53:=zeroValue110
 t212:=underlying237
 a212:=isAgg237
 z212:=sizeOf237
 v212:=zeroValue237
 g17:=by kernel_rfl
 i0:=by kernel_rfl
 i3:=by kernel_rfl
 i4:=by kernel_rfl
 i5:=by kernel_rfl
 i9:=by kernel_rfl
 i46:=by kernel_rfl
 i53:=by kernel_rfl
 i212:=by kernel_rfl
 m17:=by kernel_rfl }
open Go.Lib in
theorem Tryz.internal_strconv_numDigits (u:Nat)(h1:1≤u)(h2:u<18446744073709551616)(w:World)(htab:Lib.TabIs Tryz.prog w "internal/strconv.uint64pow10" .u64 Lib.pow10Tab) :
 Calls Tryz.prog 177 #[.int .u64 u] w fun e w'=>e=.returned (.int .i64 (Lib.nDigits u))∧w'=w:=Any.internal_strconv_numDigits Tryz.laysM284 u h1 h2 w htab
def Tryz.lays285_ren:Go.Shelf.Ren:=⟨fun|285=>178|n=>n,fun|37=>115|53=>110|3=>3|4=>4|51=>89|9=>9|5=>5|0=>0|n=>n,fun|n=>n⟩
theorem Tryz.lays285:Go.Proofs.Lays.n285 Tryz.prog Tryz.lays285_ren:={
 mixed:=by kernel_rfl
 f285:=func178.trans (congrArg some (by kernel_rfl))
 t0:=underlying0
 a0:=isAgg0
 z0:=sizeOf0
 v0:=zeroValue0
 t3:=underlying3
 a3:=isAgg3
 z3:=sizeOf3
 v3:=zeroValue3
 t4:=underlying4
 a4:=isAgg4
 z4:=sizeOf4
 v4:=zeroValue4
 t5:=underlying5
 a5:=isAgg5
 z5:=sizeOf5
 v5:=zeroValue5
 t9:=underlying9
 a9:=isAgg9
 z9:=sizeOf9
 v9:=zeroValue9
 t37:=underlying115
 a37:=isAgg115
 z37:=sizeOf115
 v37:=zeroValue115
 t51:=underlying89
 a51:=isAgg89
 z51:=sizeOf89
 v51:=zeroValue89
 t53:=underlying110
 a53:=isAgg110
 z53:=sizeOf110
 v53:=zeroValue110 }
open Go.RowKit Go.Sort Go.Lib in
theorem Tryz.internal_strconv_formatBase10 (blk off cap:Nat)(u:Nat)(d:Array UInt8)(w:World)(hH:Holds (fun(b:UInt8)=>Value.int .u8 (b.toNat:Int)) w blk off d)(hu:u<10^d.size)(hu64:u<18446744073709551616)(hsz:d.size<4611686018427387904) :
 Calls Tryz.prog 178 #[.slice (some ⟨blk,off,none⟩) d.size cap,.int .u64 u] w fun e w' =>
  e=.returned (.tuple #[])∧∃ (n v':Nat) (dk:Array UInt8),w'=(putRow (fun(b:UInt8)=>Value.int .u8 (b.toNat:Int)) w blk off dk).drewN n∧FmtInv d.size u 0 v' dk:=Any.internal_strconv_formatBase10 Tryz.lays285 blk off cap u d w hH hu hu64 hsz
def Tryz.laysM246_ren:Go.Shelf.Ren:=⟨fun|246=>149|283=>176|284=>177|285=>178|286=>179|129=>209|317=>208|318=>210|319=>211|320=>212|337=>230|338=>231|n=>n,fun|2=>2|3=>3|9=>9|4=>4|171=>211|0=>0|53=>110|37=>115|5=>5|173=>214|212=>237|51=>89|20=>20|213=>238|46=>186|232=>264|233=>265|n=>n,fun|17=>2|18=>5|19=>6|n=>n⟩
def Tryz.laysPu14_ren:Go.Shelf.Ren:=⟨fun|14=>241|16=>183|17=>156|19=>213|20=>214|21=>184|22=>185|23=>186|24=>187|25=>215|27=>217|26=>216|28=>232|29=>149|30=>176|31=>177|32=>178|33=>179|35=>209|34=>208|36=>210|37=>211|38=>212|39=>230|40=>231|n=>n,fun|9=>9|3=>3|22=>110|24=>170|25=>219|4=>4|34=>218|5=>5|36=>186|37=>115|0=>0|39=>221|21=>21|44=>243|47=>252|50=>255|48=>253|2=>2|52=>211|55=>214|59=>237|60=>89|20=>20|61=>238|65=>264|66=>265|67=>208|n=>n,fun|0=>3|1=>4|2=>2|3=>5|4=>6|n=>n⟩
theorem Tryz.laysPu14:Go.Proofs.LaysPu.n14 Tryz.prog Tryz.laysPu14_ren:={
 mixed:=by kernel_rfl
 f14:=func241.trans (congrArg some (by kernel_rfl))
 f16:=func183.trans (congrArg some (by kernel_rfl))
 f17:=func156.trans (congrArg some (by kernel_rfl))
 f19:=func213.trans (congrArg some (by kernel_rfl))
 f20:=func214.trans (congrArg some (by kernel_rfl))
 f21:=func184.trans (congrArg some (by kernel_rfl))
 f22:=func185.trans (congrArg some (by kernel_rfl))
 f23:=func186.trans (congrArg some (by kernel_rfl))
 f24:=func187.trans (congrArg some (by kernel_rfl))
 f25:=func215.trans (congrArg some (by kernel_rfl))
 f26:=func216.trans (congrArg some (by kernel_rfl))
 f27:=func217.trans (congrArg some (by kernel_rfl))
 f28:=func232.trans (congrArg some (by kernel_rfl))
 f29:=func149.trans (congrArg some (by kernel_rfl))
 f30:=func176.trans (congrArg some (by kernel_rfl))
 f31:=func177.trans (congrArg some (by kernel_rfl))
 f32:=func178.trans (congrArg some (by kernel_rfl))
 f33:=func179.trans (congrArg some (by kernel_rfl))
 f34:=func208.trans (congrArg some (by kernel_rfl))
 f35:=func209.trans (congrArg some (by kernel_rfl))
 f36:=func210.trans (congrArg some (by kernel_rfl))
 f37:=func211.trans (congrArg some (by kernel_rfl))
 f38:=func212.trans (congrArg some (by kernel_rfl))
 f39:=func230.trans (congrArg some (by kernel_rfl))
 f40:=func231.trans (congrArg some (by kernel_rfl))
 t0:=underlying0
 a0:=isAgg0
 z0:=sizeOf0
 v0:=zeroValue0
 i0:=by kernel_rfl
 t2:=underlying2
 a2:=isAgg2
 z2:=sizeOf2
 v2:=zeroValue2
 i2:=by kernel_rfl
 t3:=underlying3
 a3:=isAgg3
 z3:=sizeOf3
 v3:=zeroValue3
 i3:=by kernel_rfl
 t4:=underlying4
 a4:=isAgg4
 z4:=sizeOf4
 v4:=zeroValue4
 i4:=by kernel_rfl
 t5:=underlying5
 a5:=isAgg5
 z5:=sizeOf5
 v5:=zeroValue5
 i5:=by kernel_rfl
 t9:=underlying9
 a9:=isAgg9
 z9:=sizeOf9
 v9:=zeroValue9
 i9:=by kernel_rfl
 t20:=underlying20
 a20:=isAgg20
 z20:=sizeOf20
 v20:=zeroValue20
 i20:=by kernel_rfl
 t21:=underlying21
 a21:=isAgg21
 z21:=sizeOf21
 v21:=zeroValue21
 i21:=by kernel_rfl
 t22:=underlying110
 a22:=isAgg110
 z22:=sizeOf110
 v22:=zeroValue110
 i22:=by kernel_rfl
 t24:=underlying170
 a24:=isAgg170
 z24:=sizeOf170
 v24:=zeroValue170
 i24:=by kernel_rfl
 t25:=underlying219
 a25:=isAgg219
 z25:=sizeOf219
 v25:=zeroValue219
 i25:=by kernel_rfl
 t34:=underlying218
 a34:=isAgg218
 z34:=sizeOf218
 v34:=zeroValue218
 i34:=by kernel_rfl
 c34:=by kernel_rfl
 t36:=underlying186
 a36:=isAgg186
 z36:=sizeOf186
 v36:=zeroValue186
 i36:=by kernel_rfl
 t37:=underlying115
 a37:=isAgg115
 z37:=sizeOf115
 v37:=zeroValue115
 i37:=by kernel_rfl
 t39:=underlying221
 a39:=isAgg221
 z39:=sizeOf221
 v39:=zeroValue221
 i39:=by kernel_rfl
 t44:=underlying243
 a44:=isAgg243
 z44:=sizeOf243
 v44:=zeroValue243
 i44:=by kernel_rfl
 t47:=underlying252
 a47:=isAgg252
 z47:=sizeOf252
 v47:=zeroValue252
 i47:=by kernel_rfl
 t48:=underlying253
 a48:=isAgg253
 z48:=sizeOf253
 v48:=zeroValue253
 i48:=by kernel_rfl
 t50:=underlying255
 a50:=isAgg255
 z50:=sizeOf255
 v50:=zeroValue255
 i50:=by kernel_rfl
 t52:=underlying211
 a52:=isAgg211
 z52:=sizeOf211
 v52:=zeroValue211
 i52:=by kernel_rfl
 t55:=underlying214
 a55:=isAgg214
 z55:=sizeOf214
 v55:=zeroValue214
 i55:=by kernel_rfl
 t59:=underlying237
 a59:=isAgg237
 z59:=sizeOf237
 v59:=zeroValue237
 i59:=by kernel_rfl
 t60:=underlying89
 a60:=isAgg89
 z60:=sizeOf89
 v60:=zeroValue89
 i60:=by kernel_rfl
 t61:=underlying238
 a61:=isAgg238
 z61:=sizeOf238
 t65:=underlying264
 a65:=isAgg264
 z65:=sizeOf264
 v65:=zeroValue264
 i65:=by kernel_rfl
 t66:=underlying265
 a66:=isAgg265
 z66:=sizeOf265
 v66:=zeroValue265
 i66:=by kernel_rfl
 t67:=underlying208
 a67:=isAgg208
 z67:=sizeOf208
 v67:=zeroValue208
 i67:=by kernel_rfl
 g0:=by kernel_rfl
 m0:=by kernel_rfl
 g1:=by kernel_rfl
 m1:=by kernel_rfl
 g2:=by kernel_rfl
 m2:=by kernel_rfl
 g3:=by kernel_rfl
 m3:=by kernel_rfl
 g4:=by kernel_rfl
 m4:=by kernel_rfl }
open Go.RowKit in
theorem Tryz.strconv_ParseUint_10_at64_ok (s:ByteArray)(hmax:s.size≤9223372036854775806)(u:Nat)(h:Lib.parseUintB 64 s.data.toList=.ok u)(w:World) :
 Calls Tryz.prog 241 #[.string s,.int .i64 10,.int .i64 64] w fun e w'=>e=.returned (.tuple #[.int .u64 u,.nilIface])∧(w'=w∨w'=Lib.bytesWorld w 5 s):=Any.strconv_ParseUint_10_at64_ok Tryz.laysPu14 s hmax u h w
def Tryz.laysM288_ren:Go.Shelf.Ren:=⟨fun|288=>188|283=>176|284=>177|285=>178|286=>179|129=>209|317=>208|318=>210|319=>211|320=>212|337=>230|338=>231|n=>n,fun|37=>115|53=>110|3=>3|4=>4|9=>9|171=>211|0=>0|173=>214|212=>237|51=>89|5=>5|20=>20|213=>238|46=>186|232=>264|233=>265|n=>n,fun|17=>2|18=>5|19=>6|n=>n⟩
theorem Tryz.laysM288:Go.Proofs.LaysM.n288 Tryz.prog Tryz.laysM288_ren:={
 mixed:=by kernel_rfl
 f129:=func209.trans (congrArg some (by kernel_rfl))
 f283:=func176.trans (congrArg some (by kernel_rfl))
 f284:=func177.trans (congrArg some (by kernel_rfl))
 f285:=func178.trans (congrArg some (by kernel_rfl))
 f286:=func179.trans (congrArg some (by kernel_rfl))
 f288:=func188.trans (congrArg some (by kernel_rfl))
 f317:=func208.trans (congrArg some (by kernel_rfl))
 f318:=func210.trans (congrArg some (by kernel_rfl))
 f319:=func211.trans (congrArg some (by kernel_rfl))
 f320:=func212.trans (congrArg some (by kernel_rfl))
 f337:=func230.trans (congrArg some (by kernel_rfl))
 f338:=func231.trans (congrArg some (by kernel_rfl))
 t0:=underlying0
 a0:=isAgg0
 z0:=sizeOf0
 v0:=zeroValue0
 t3:=underlying3
 a3:=isAgg3
 z3:=sizeOf3
 v3:=zeroValue3
 t4:=underlying4
 a4:=isAgg4
 z4:=sizeOf4
 v4:=zeroValue4
 t5:=underlying5
 a5:=isAgg5
 z5:=sizeOf5
 v5:=zeroValue5
 t9:=underlying9
 a9:=isAgg9
 z9:=sizeOf9
 v9:=zeroValue9
 t20:=underlying20
 a20:=isAgg20
 z20:=sizeOf20
 v20:=zeroValue20
 t37:=underlying115
 a37:=isAgg115
 z37:=sizeOf115
 v37:=zeroValue115
 t46:=underlying186
 a46:=isAgg186
 z46:=sizeOf186
 v46:=zeroValue186
 t51:=underlying89
 a51:=isAgg89
 z51:=sizeOf89
 v51:=zeroValue89
 t53:=underlying110
 a53:=isAgg110
 z53:=sizeOf110
 v53:=zeroValue110
 t171:=underlying211
 a171:=isAgg211
 z171:=sizeOf211
 v171:=zeroValue211
 t173:=underlying214
 a173:=isAgg214
 z173:=sizeOf214
 v173:=zeroValue214
 t212:=underlying237
 a212:=isAgg237
 z212:=sizeOf237
 v212:=zeroValue237
 t213:=underlying238
 a213:=isAgg238
 z213:=sizeOf238
 t232:=underlying264
 a232:=isAgg264
 z232:=sizeOf264
 v232:=zeroValue264
 t233:=underlying265
 a233:=isAgg265
 z233:=sizeOf265
 v233:=zeroValue265
 g17:=by kernel_rfl
 g18:=by kernel_rfl
 g19:=by kernel_rfl
 i0:=by kernel_rfl
 i3:=by kernel_rfl
 i4:=by kernel_rfl
 i5:=by kernel_rfl
 i9:=by kernel_rfl
 i20:=by kernel_rfl
 i37:=by kernel_rfl
 i46:=by kernel_rfl
 i51:=by kernel_rfl
 i53:=by kernel_rfl
 i171:=by kernel_rfl
 i173:=by kernel_rfl
 i212:=by kernel_rfl
 i232:=by kernel_rfl
 i233:=by kernel_rfl
 m17:=by kernel_rfl
 m18:=by kernel_rfl
 m19:=by kernel_rfl }
open Go.RowKit Go.Sort Go.Lib in
theorem Tryz.internal_strconv_AppendUint_10_small (B n u:Nat)(hu:u<100)(sv:Value)(xs:List Value)(w:World)(hown:w.ownsRow B 5 1 sv n xs)(hBw:B≤w.heap.size)(hlim:n+20≤140737488355328) :
 Calls Tryz.prog 188 #[sv,.int .u64 u,.int .i64 10] w fun e w'=>∃ v',e=.returned v'∧w'.ownsRow B 5 1 v' (n+(Lib.decDigits u).length) (xs++Lib.byteCells (Lib.decDigits u))∧Below B w w'∧Lib.OthersKept 5 none w w':=Any.internal_strconv_AppendUint_10_small Tryz.laysM288 B n u hu sv xs w hown hBw hlim
open Go.RowKit Go.Sort Go.Lib in
theorem Tryz.internal_strconv_AppendUint_10_big (B n u:Nat)(hu:100≤u)(hu64:u<18446744073709551616)(sv:Value)(xs:List Value)(w:World)(hown:w.ownsRow B 5 1 sv n xs)(hBw:B≤w.heap.size)(hlim:n+20≤140737488355328)(htab:Lib.TabIs Tryz.prog w "internal/strconv.uint64pow10" .u64 Lib.pow10Tab) :
 Calls Tryz.prog 188 #[sv,.int .u64 u,.int .i64 10] w fun e w'=>∃ v',e=.returned v'∧w'.ownsRow B 5 1 v' (n+(Lib.decDigits u).length) (xs++Lib.byteCells (Lib.decDigits u))∧Below B w w'∧Lib.OthersKept 5 none w w':=Any.internal_strconv_AppendUint_10_big Tryz.laysM288 B n u hu hu64 sv xs w hown hBw hlim htab
def Tryz.lays101_ren:Go.Shelf.Ren:=⟨fun|101=>166|208=>197|206=>182|n=>n,fun|9=>9|4=>4|3=>3|n=>n,fun|n=>n⟩
theorem Tryz.lays101:Go.Proofs.Lays.n101 Tryz.prog Tryz.lays101_ren:={
 mixed:=by kernel_rfl
 f101:=func166.trans (congrArg some (by kernel_rfl))
 f206:=func182.trans (congrArg some (by kernel_rfl))
 f208:=func197.trans (congrArg some (by kernel_rfl))
 t3:=underlying3
 a3:=isAgg3
 z3:=sizeOf3
 v3:=zeroValue3
 t4:=underlying4
 a4:=isAgg4
 z4:=sizeOf4
 v4:=zeroValue4
 t9:=underlying9
 a9:=isAgg9
 z9:=sizeOf9
 v9:=zeroValue9 }
open Go.RowKit Go.Lib in
theorem Tryz.strings_TrimPrefix (s p:ByteArray)(w:World) :
 Calls Tryz.prog 166 #[.string s,.string p] w fun e w'=>e=.returned (.string ⟨(Lib.trimPrefix s.data.toList p.data.toList).toArray⟩)∧w'=w:=Any.strings_TrimPrefix Tryz.lays101 s p w
