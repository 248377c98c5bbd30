/- texts -/
import Derived.Lib.ItoaNum
namespace Go.Gb
open Go.Lib
def BB:Nat:=1000000000
theorem aG:BB=1000000000:=rfl
theorem bK:0<BB:=by decide
theorem o9:1<BB:=by decide
attribute [irreducible] BB
def isD (c:UInt8):Bool:=decide (48≤c.toNat∧c.toNat≤57)
def aL (l:List UInt8):Nat:=l.foldl (fun n c=>n*10+(c.toNat-48)) 0
def vld (l:List UInt8):Bool:=decide (l≠[])&&l.all isD&&(decide (l.length=1) || decide (l.headD 0≠48))
theorem fE (c:UInt8):isD c=true↔48≤c.toNat∧c.toNat≤57:=by simp[isD]
theorem z0J (l:List UInt8):∀ a:Nat,l.foldl (fun n c=>n*10+(c.toNat-48)) a=a*10^l.length+aL l:=by
 unfold aL
 induction l with
 | nil=>intro a;simp
 | cons c l ih =>
   intro a;simp only[List.foldl_cons,List.length_cons];rw[ih,ih (0*10+(c.toNat-48)),Nat.pow_succ,Nat.add_mul,Nat.zero_mul,Nat.zero_add,Nat.mul_assoc,Nat.mul_comm 10 (10^l.length),Nat.add_assoc]
theorem gT (l m:List UInt8):aL (l++m)=aL l*10^m.length+aL m:=by
 show(l++m).foldl _ 0=_
 rw[List.foldl_append,z0J];rfl
theorem kP (c:UInt8):aL [c]=c.toNat-48:=by simp[aL]
theorem kN (l:List UInt8)(c:UInt8):aL (l++[c])=aL l*10+(c.toNat-48):=by
 rw[gT,kP];simp
theorem kQ (c:UInt8)(l:List UInt8):aL (c :: l)=(c.toNat-48)*10^l.length+aL l:=by
 have:=gT [c] l;rw[kP]at this;simpa using this
theorem gV {d:Nat}(h:d<10):(UInt8.ofNat (48+d)).toNat=48+d:=by
 simp;omega
theorem gQ (l:List UInt8)(h:l.all isD=true):aL l<10^l.length:=by
 induction l with
 | nil=>simp[aL]
 | cons c l ih =>
   simp only[List.all_cons,Bool.and_eq_true]at h;have hc:=(fE c).1 h.1;have hl:=ih h.2;rw[kQ,List.length_cons,Nat.pow_succ];have h1:(c.toNat-48)*10^l.length≤9*10^l.length:=Nat.mul_le_mul_right _ (by omega);omega
theorem gp (n:Nat):aL (decDigits n)=n:=by
 induction n using Nat.strongRecOn with
 | _ u ih =>
   by_cases h:u<10
   · rw[decDigits,dif_pos h,kP,gV h];omega
   · rw[decDigits,dif_neg h,kN,ih (u / 10) (by omega),gV (Nat.mod_lt _ (by decide))];omega
theorem iT (n:Nat):decDigits n≠[]:=by
 intro h;have h1:=decDigits_length n;have h2:=nDigits_pos n;rw[h]at h1;simp at h1;omega
theorem jb (n:Nat):(decDigits n).all isD=true:=by
 induction n using Nat.strongRecOn with
 | _ u ih =>
   by_cases h:u<10
   · rw[decDigits,dif_pos h];simp only[List.all_cons,List.all_nil,Bool.and_true]
     rw[fE,gV h];omega
   · rw[decDigits,dif_neg h,List.all_append,ih (u / 10) (by omega)]
     simp only[List.all_cons,List.all_nil,Bool.and_true,Bool.true_and];rw[fE,gV (Nat.mod_lt _ (by decide))];omega
theorem z2A (n:Nat)(h0:0<n):((decDigits n).headD 0).toNat≠48:=by
 induction n using Nat.strongRecOn with
 | _ u ih =>
   by_cases h:u<10
   · rw[decDigits,dif_pos h];simp only[List.headD_cons];rw[gV h];omega
   · rw[decDigits,dif_neg h]
     have hh:=ih (u / 10) (by omega) (by omega);have hn:=iT (u / 10)
     cases hd:decDigits (u / 10) with
     | nil=>exact absurd hd hn
     | cons c l=>rw[hd]at hh;simpa using hh
theorem gJ (l:List UInt8):vld l=true↔l≠[]∧l.all isD=true∧(l.length=1∨(l.headD 0).toNat≠48):=by
 unfold vld
 simp only[Bool.and_eq_true,Bool.or_eq_true,decide_eq_true_eq,and_assoc]
 have:(l.headD 0≠48)↔((l.headD 0).toNat≠48):=by
  constructor
  · intro h h2;apply h;apply UInt8.toNat_inj.1;simpa using h2
  · intro h h2;apply h;rw[h2];rfl
 rw[this]
theorem mV (n:Nat):vld (decDigits n)=true:=by
 rw[gJ];refine⟨iT n,jb n,?_⟩;by_cases h:0<n
 · exact Or.inr (z2A n h)
 · left;obtain rfl:n=0:=by omega
   rw[decDigits,dif_pos (by decide)];rfl
theorem tZ (l:List UInt8)(hne:l≠[])(u6:l.all isD=true)(hh:(l.headD 0).toNat≠48):0<aL l∧decDigits (aL l)=l:=by
 generalize hn:l.length=n
 induction n generalizing l with
 | zero=>exact absurd (List.length_eq_zero_iff.1 hn) hne
 | succ n ih =>
   obtain⟨m,c,rfl⟩:∃ m c,l=m++[c]:=⟨l.dropLast,l.getLast hne,(List.dropLast_concat_getLast hne).symm⟩;rw[List.all_append]at u6;simp only[List.all_cons,List.all_nil,Bool.and_true,Bool.and_eq_true]at u6;have hc:=(fE c).1 u6.2
   have hcc:UInt8.ofNat (48+(c.toNat-48))=c:=by
    apply UInt8.toNat_inj.1;rw[gV (by omega)];omega
   by_cases hm:m=[]
   · subst hm
     simp only[List.nil_append,List.headD_cons]at hh ⊢;rw[kP];refine⟨by omega,?_⟩;rw[decDigits,dif_pos (by omega),hcc]
   · have hhm:(m.headD 0).toNat≠48:=by
        cases m with
        | nil=>exact absurd rfl hm
        | cons a m=>simpa using hh
     obtain⟨h1,h2⟩:=ih m hm u6.1 hhm (by simpa using hn);rw[kN];refine⟨by omega,?_⟩;rw[decDigits,dif_neg (by omega)];rw[show(aL m*10+(c.toNat-48)) / 10=aL m by omega,show(aL m*10+(c.toNat-48))%10=c.toNat-48 by omega,h2,hcc]
theorem jN (l:List UInt8)(h:vld l=true):decDigits (aL l)=l:=by
 obtain⟨h1,h2,h3⟩:=(gJ l).1 h;by_cases hh:(l.headD 0).toNat≠48
 · exact(tZ l h1 h2 hh).2
 · rcases h3 with h3|h3
   · match l,h3 with
     | [c],_ =>
       simp only[List.headD_cons]at hh;rw[kP];have:c.toNat=48:=by omega
       rw[this,decDigits,dif_pos (by decide)];congr 1;apply UInt8.toNat_inj.1;rw[this];rfl
   · exact absurd h3 hh
theorem z3Z {a b:Nat}(h:decDigits a=decDigits b):a=b:=by rw[← gp a,← gp b,h]
theorem eG {l m:List UInt8}(hl:vld l=true)(hm:vld m=true)(h:l.length<m.length):aL l<aL m:=by
 obtain⟨l1,l2,_⟩:=(gJ l).1 hl;obtain⟨m1,m2,m3⟩:=(gJ m).1 hm;have hlt:=gQ l l2;have hl0:0<l.length:=List.length_pos_iff.2 l1
 have hh:(m.headD 0).toNat≠48:=by
  rcases m3 with h3|h3
  · omega
  · exact h3
 cases m with
 | nil=>simp at h
 | cons c m =>
   simp only[List.headD_cons]at hh;simp only[List.all_cons,Bool.and_eq_true]at m2;have hc:=(fE c).1 m2.1;rw[kQ];have h1:1*10^m.length≤(c.toNat-48)*10^m.length:=Nat.mul_le_mul_right _ (by omega);have h2:10^l.length≤10^m.length:=Nat.pow_le_pow_right (by decide) (by simp at h;omega);omega
theorem xB {p:List UInt8}{x y:UInt8}{l m:List UInt8}(hl:l.length=m.length)(al:(l.all isD)=true)(hx:isD x=true)(hy:isD y=true)(h:x.toNat<y.toNat) :
 aL (p++x :: l)<aL (p++y :: m):=by
 rw[gT,gT,kQ,kQ];simp only[List.length_cons,hl];have h1:=gQ l al;rw[hl]at h1;have hx':=(fE x).1 hx;have hy':=(fE y).1 hy;have h2:(x.toNat-48+1)*10^m.length≤(y.toNat-48)*10^m.length:=Nat.mul_le_mul_right _ (by omega);rw[Nat.add_mul]at h2;omega
def aa (n:Nat):List Nat:=if _h:n=0 then [] else n%BB :: aa (n / BB)
termination_by n
decreasing_by exact Nat.div_lt_self (by omega) o9
def ah:List Nat→Nat
 | []=>0
 | w :: ws=>w+BB*ah ws
theorem aR:aa 0=[]:=by rw[aa];simp
theorem bL {n:Nat}(h:n≠0):aa n=n%BB :: aa (n / BB):=by rw[aa,dif_neg h]
theorem kT {w n:Nat}(hw:w<BB)(h:w≠0∨n≠0):aa (w+BB*n)=w :: aa n:=by
 have hB:0<BB:=bK;rw[bL]
 · rw[Nat.add_mul_mod_self_left,Nat.mod_eq_of_lt hw,Nat.add_mul_div_left _ _ hB,Nat.div_eq_of_lt hw,Nat.zero_add]
 · rcases h with h|h
   · omega
   · intro h2
     have:BB*n=0:=by omega
     rcases Nat.mul_eq_zero.1 this with h3|h3
     · exact absurd h3 (by have:=bK;omega)
     · exact h h3
theorem aB (n:Nat):ah (aa n)=n:=by
 induction n using Nat.strongRecOn with
 | _ n ih =>
   by_cases h:n=0
   · subst h;rw[aR];rfl
   · rw[bL h,ah,ih (n / BB) (Nat.div_lt_self (by omega) o9)]
     exact Nat.mod_add_div n BB
theorem aS (n:Nat):∀ w∈aa n,w<BB:=by
 induction n using Nat.strongRecOn with
 | _ n ih =>
   by_cases h:n=0
   · subst h;rw[aR];simp
   · rw[bL h]
     intro w hw;rcases List.mem_cons.1 hw with hw|hw
     · rw[hw];exact Nat.mod_lt _ bK
     · exact ih (n / BB) (Nat.div_lt_self (by omega) o9) w hw
theorem eP (l m:List Nat):ah (l++m)=ah l+BB^l.length*ah m:=by
 induction l with
 | nil=>simp[ah]
 | cons w l ih=>simp only[List.cons_append,ah,ih,List.length_cons,Nat.pow_succ,Nat.mul_add,Nat.add_assoc];rw[← Nat.mul_assoc BB,Nat.mul_comm BB (BB^l.length)]
theorem dI (l:List Nat)(w:Nat):ah (l++[w])=ah l+BB^l.length*w:=by
 rw[eP];simp[ah]
theorem eD (l:List Nat)(h:∀ w∈l,w<BB):ah l<BB^l.length:=by
 induction l with
 | nil=>simp[ah]
 | cons w l ih =>
   have hw:=h w (by simp);have hl:=ih (fun x hx=>h x (by simp[hx]));simp only[ah,List.length_cons,Nat.pow_succ];have:BB*(ah l+1)≤BB*BB^l.length:=Nat.mul_le_mul_left _ hl;rw[Nat.mul_comm (BB^l.length)];rw[Nat.mul_add]at this;omega
theorem z0R (l:List Nat)(h:∀ w∈l,w<BB)(hl:∀ (hne:l≠[]),l.getLast hne≠0):aa (ah l)=l:=by
 induction l with
 | nil=>exact aR
 | cons w l ih =>
   have hw:=h w (by simp);by_cases hn:l=[]
   · subst hn
     have h0:w≠0:=by simpa using hl (by simp)
     have:=kT (n:=0) hw (Or.inl h0);rw[aR]at this;simpa [ah] using this
   · have ih':=ih (fun x hx=>h x (by simp[hx])) (fun hne=>by have:=hl (by simp);rwa [List.getLast_cons hne]at this)
     have h0:ah l≠0:=by
        intro h0;rw[h0,aR]at ih';exact hn ih'.symm
     rw[ah,kT hw (Or.inr h0),ih']
theorem eT (l:List Nat)(k:Nat):ah (l++List.replicate k 0)=ah l:=by
 rw[eP]
 have:ah (List.replicate k 0)=0:=by
  induction k with
  | zero=>rfl
  | succ k ih=>rw[List.replicate_succ,ah,ih];rfl
 rw[this];simp
theorem bF {n k:Nat}(h:n<BB^k):(aa n).length≤k:=by
 induction k generalizing n with
 | zero=>obtain rfl:n=0:=by simpa using h
         rw[aR];simp
 | succ k ih =>
   by_cases h0:n=0
   · subst h0;rw[aR];simp
   · rw[bL h0,List.length_cons]
     have:n / BB<BB^k:=by rw[Nat.div_lt_iff_lt_mul bK];rwa [Nat.pow_succ]at h
     have:=ih this;omega
theorem dG (n:Nat):n<BB^(aa n).length:=by
 have:=eD (aa n) (aS n);rwa [aB]at this
theorem nS (n:Nat)(hne:aa n≠[]):(aa n).getLast hne≠0:=by
 induction n using Nat.strongRecOn with
 | _ n ih =>
   by_cases h:n=0
   · subst h;exact absurd aR hne
   · have hlt:n / BB<n:=Nat.div_lt_self (by omega) o9
     by_cases h1:aa (n / BB)=[]
     · have h2:n / BB=0:=by have:=aB (n / BB);rw[h1]at this;exact this.symm
       have h3:aa n=[n%BB]:=by rw[bL h,h1]
       simp only[h3,List.getLast_singleton];have:=Nat.mod_add_div n BB;rw[h2]at this;omega
     · have h3:aa n=n%BB :: aa (n / BB):=bL h
       have h4:=ih (n / BB) hlt h1;simp only[h3,List.getLast_cons h1];exact h4
theorem aO {a b:Nat}(h:a≤b):(aa a).length≤(aa b).length :=
 bF (Nat.lt_of_le_of_lt h (dG b))
theorem dW {a b:Nat}(h:(aa a).length<(aa b).length):a<b:=by
 refine Nat.lt_of_not_le fun h2=>?_;have:=aO h2;omega
def pad9 (w:Nat):List UInt8:=(List.range 9).map fun t=>UInt8.ofNat (48+w / 10^(8-t)%10)
theorem jV (w:Nat):(pad9 w).length=9:=by simp[pad9]
theorem fF (v:Nat)(hv:0<v):∀ (k w:Nat),w<10^k→decDigits (v*10^k+w)=decDigits v++(List.range k).map fun t=>UInt8.ofNat (48+w / 10^(k-1-t)%10)
 | 0,w,h=>by obtain rfl:w=0:=by simpa using h
             simp
 | k+1,w,h=>by
   have hp:1≤10^k:=Nat.one_le_pow _ _ (by decide)
   have e1:v*10^(k+1)+w=(v*10^k+w / 10)*10+w%10:=by
    rw[Nat.pow_succ,← Nat.mul_assoc,Nat.add_mul];omega
   have hw:w / 10<10^k:=by rw[Nat.pow_succ]at h;omega
   have hge:1≤v*10^k:=Nat.mul_pos hv hp
   rw[e1,decDigits,dif_neg (by omega),show((v*10^k+w / 10)*10+w%10) / 10=v*10^k+w / 10 by omega,show((v*10^k+w / 10)*10+w%10)%10=w%10 by omega,
    fF v hv k (w / 10) hw,List.range_succ,List.map_append,List.append_assoc]
   congr 1
   congr 1
   · refine List.map_congr_left fun t ht=>?_
     have ht':t<k:=List.mem_range.1 ht;rw[show k+1-1-t=(k-1-t)+1 by omega,Nat.pow_succ,Nat.mul_comm,Nat.div_div_eq_div_mul]
   · simp
theorem z2y {v w:Nat}(hv:0<v)(hw:w<BB):decDigits (w+BB*v)=decDigits v++pad9 w:=by
 have hB:=aG;have:=fF v hv 9 w (by omega);rw[show w+BB*v=v*10^9+w by rw[hB];omega,this];rfl
theorem bW {xs:List Nat}{i:Nat}(h:i<xs.length):xs.getD i 0=xs[i]:=by simp[List.getD,h]
theorem aX {xs:List Nat}{i:Nat}(h:i<xs.length):xs.getD i 0∈xs:=by rw[bW h];exact List.getElem_mem h
theorem z2G {xs:List Nat}{M:Nat}(h:∀ i,i<xs.length→xs.getD i 0<M):∀ w∈xs,w<M:=by
 intro w hw;obtain⟨i,hi,rfl⟩:=List.mem_iff_getElem.1 hw;have:=h i hi;rwa [bW hi]at this
theorem xO {xs:List Nat}{i:Nat}(h:i<xs.length):xs.take (i+1)=xs.take i++[xs.getD i 0]:=by
 rw[List.take_succ_eq_append_getElem h,bW h]
theorem eZ {xs:List Nat}{i:Nat}(h:i<xs.length):xs.drop i=xs.getD i 0 :: xs.drop (i+1):=by
 rw[List.drop_eq_getElem_cons h,bW h]
theorem dE {xs:List Nat}{i:Nat}(h:i<xs.length):ah (xs.take (i+1))=ah (xs.take i)+BB^i*xs.getD i 0:=by
 rw[xO h,dI,List.length_take,Nat.min_eq_left (by omega)]
theorem gI {xs:List Nat}{i:Nat}(h:i<xs.length):ah (xs.drop i)=xs.getD i 0+BB*ah (xs.drop (i+1)):=by
 rw[eZ h,ah]
theorem dB (xs:List Nat)(i:Nat)(h:i≤xs.length):ah xs=ah (xs.take i)+BB^i*ah (xs.drop i):=by
 have:=eP (xs.take i) (xs.drop i);rwa [List.take_append_drop,List.length_take,Nat.min_eq_left h]at this
theorem kK {xs:List Nat}{i j v:Nat}:(xs.set i v).getD j 0=if i=j∧j<xs.length then v else xs.getD j 0:=by
 simp only[List.getD,List.getElem?_set];by_cases h:i=j
 · subst h
   by_cases h2:i<xs.length
   · simp[h2]
   · simp[h2]
 · simp[h]
theorem q9 {xs:List Nat}{i v:Nat}(h:i<xs.length):ah (xs.set i v)+BB^i*xs.getD i 0=ah xs+BB^i*v:=by
 have h1:=dB (xs.set i v) i (by simp;omega);have h2:=dB xs i (by omega);have h3:i<(xs.set i v).length:=by simpa using h
 rw[gI h3]at h1;rw[gI h]at h2;have e1:(xs.set i v).take i=xs.take i:=by rw[List.take_set_of_le (Nat.le_refl _)]
 have e2:(xs.set i v).drop (i+1)=xs.drop (i+1):=by rw[List.drop_set_of_lt (by omega)]
 have e3:(xs.set i v).getD i 0=v:=by rw[kK];simp[h]
 rw[e1,e2,e3,Nat.mul_add]at h1;rw[Nat.mul_add]at h2;omega
theorem zq {xs:List Nat}(h:∀ i,i<xs.length→xs.getD i 0=0):ah xs=0:=by
 induction xs with
 | nil=>rfl
 | cons w xs ih =>
   have h0:=h 0 (by simp);simp at h0
   have:=ih (fun i hi=>by have:=h (i+1) (by simpa using hi);simpa using this);rw[ah,h0,this];rfl
theorem og {xs:List Nat}{n:Nat}(h:∀ i,n≤i→i<xs.length→xs.getD i 0=0):ah (xs.drop n)=0:=by
 refine zq fun i hi=>?_;have:=h (n+i) (by omega) (by simp at hi;omega);simpa [List.getD] using this
theorem gU {xs:List Nat}{n:Nat}(hn:n≤xs.length)(hB:∀ w∈xs,w<BB)(hz:∀ i,n≤i→i<xs.length→xs.getD i 0=0)(hl:n=0∨xs.getD (n-1) 0≠0):aa (ah xs)=xs.take n:=by
 have h1:=dB xs n hn;rw[og hz,Nat.mul_zero,Nat.add_zero]at h1;rw[h1];refine z0R _ (fun w hw=>hB w (List.mem_of_mem_take hw)) fun hne=>?_;have hn0:n≠0:=by intro h;subst h;simp at hne
 have h2:(xs.take n).getLast hne=xs.getD (n-1) 0:=by
  rw[List.getLast_eq_getElem,bW (by omega)];simp[Nat.min_eq_left hn]
 rw[h2];rcases hl with hl|hl
 · exact absurd hl hn0
 · exact hl
theorem jI {xs ys:List Nat}{i:Nat}(hl:xs.length=ys.length)(hi:i<xs.length)(hx:∀ w∈xs,w<BB)(he:∀ j,i<j→j<xs.length→xs.getD j 0=ys.getD j 0)(h:xs.getD i 0<ys.getD i 0):ah xs<ah ys:=by
 have h1:=dB xs (i+1) (by omega);have h2:=dB ys (i+1) (by omega)
 have e:xs.drop (i+1)=ys.drop (i+1):=by
  apply List.ext_getElem (by simp[hl])
  intro k hk1 hk2;simp at hk1 hk2 ⊢
  have:=he (i+1+k) (by omega) (by omega);rwa [bW (by omega),bW (by omega)]at this
 rw[dE hi]at h1;rw[dE (by omega),← e]at h2;have h3:=eD (xs.take i) (fun w hw=>hx w (List.mem_of_mem_take hw));rw[List.length_take,Nat.min_eq_left (by omega)]at h3;have h4:BB^i*(xs.getD i 0+1)≤BB^i*ys.getD i 0:=Nat.mul_le_mul_left _ (by omega);rw[Nat.mul_add]at h4;omega
theorem nP {xs ys:List Nat}(hl:xs.length=ys.length)(he:∀ j,j<xs.length→xs.getD j 0=ys.getD j 0):xs=ys:=by
 apply List.ext_getElem hl
 intro k hk1 hk2;have:=he k hk1;rwa [bW hk1,bW hk2]at this
theorem bR {xs:List Nat}{n:Nat}(h:∀ w∈xs,w<BB)(hl:xs.length≤n):ah xs<BB^n :=
 Nat.lt_of_lt_of_le (eD xs h) (Nat.pow_le_pow_right bK hl)
def dh (x y os:List Nat) (i c:Nat):Prop:=os.length=i∧(∀ w∈os,w<BB)∧c≤1∧ah os+BB^i*c=ah (x.take i)+ah (y.take i)
theorem dh.start (x y:List Nat):dh x y [] 0 0:=⟨rfl,by simp,by omega,by simp[ah]⟩
theorem aM (y:List Nat)(i:Nat):ah (y.take (i+1))=ah (y.take i)+BB^i*y.getD i 0:=by
 by_cases h:i<y.length
 · exact dE h
 · rw[List.take_of_length_le (by omega),List.take_of_length_le (by omega)]
   simp[List.getD,List.getElem?_eq_none (show y.length≤i by omega)]
theorem dh.small {x y os:List Nat}{i c:Nat}(h:dh x y os i c)(hs:x.getD i 0+y.getD i 0+c<BB):dh x y (os++[x.getD i 0+y.getD i 0+c]) (i+1) 0:=by
 obtain⟨h1,h2,h3,h4⟩:=h;refine⟨by simp[h1],?_,by omega,?_⟩
 · intro w hw
   rcases List.mem_append.1 hw with hw|hw
   · exact h2 w hw
   · have hw:=List.mem_singleton.1 hw;omega
 · rw[dI,h1,aM,aM,Nat.mul_add,Nat.mul_add,Nat.mul_zero];omega
theorem dh.big {x y os:List Nat}{i c:Nat}(h:dh x y os i c)(hx:x.getD i 0<BB)(hy:y.getD i 0<BB)(hs:BB≤x.getD i 0+y.getD i 0+c):dh x y (os++[x.getD i 0+y.getD i 0+c-BB]) (i+1) 1:=by
 obtain⟨h1,h2,h3,h4⟩:=h;refine⟨by simp[h1],?_,by omega,?_⟩
 · intro w hw
   rcases List.mem_append.1 hw with hw|hw
   · exact h2 w hw
   · have hw:=List.mem_singleton.1 hw;omega
 · rw[dI,h1,aM,aM,Nat.mul_one,Nat.pow_succ]
   have e:BB^i*(x.getD i 0+y.getD i 0+c-BB)+BB^i*BB=BB^i*(x.getD i 0+y.getD i 0+c):=by rw[← Nat.mul_add,show x.getD i 0+y.getD i 0+c-BB+BB=x.getD i 0+y.getD i 0+c by omega]
   rw[Nat.mul_add,Nat.mul_add]at e;omega
theorem dh.done {x y os:List Nat}{c:Nat}(h:dh x y os x.length c)(hl:y.length≤x.length):ah (os++[c])=ah x+ah y∧∀ w∈os++[c],w<BB:=by
 obtain⟨h1,h2,h3,h4⟩:=h;rw[List.take_of_length_le (Nat.le_refl _),List.take_of_length_le hl]at h4;refine⟨by rw[dI,h1];exact h4,fun w hw=>?_⟩;rcases List.mem_append.1 hw with hw|hw
 · exact h2 w hw
 · have hw:=List.mem_singleton.1 hw;have:=o9;omega
def eB (x y os:List Nat) (i c:Nat):Prop:=os.length=i∧(∀ w∈os,w<BB)∧c≤1∧ah os+ah (y.take i)=ah (x.take i)+BB^i*c
theorem eB.start (x y:List Nat):eB x y [] 0 0:=⟨rfl,by simp,by omega,by simp[ah]⟩
theorem eB.small {x y os:List Nat}{i c:Nat}(h:eB x y os i c)(hx:x.getD i 0<BB)(hs:y.getD i 0+c≤x.getD i 0):eB x y (os++[x.getD i 0-(y.getD i 0+c)]) (i+1) 0:=by
 obtain⟨h1,h2,h3,h4⟩:=h;refine⟨by simp[h1],?_,by omega,?_⟩
 · intro w hw
   rcases List.mem_append.1 hw with hw|hw
   · exact h2 w hw
   · have hw:=List.mem_singleton.1 hw;omega
 · rw[dI,h1,aM,aM,Nat.mul_zero]
   have e:BB^i*(x.getD i 0-(y.getD i 0+c))+BB^i*(y.getD i 0+c)=BB^i*x.getD i 0:=by rw[← Nat.mul_add,show x.getD i 0-(y.getD i 0+c)+(y.getD i 0+c)=x.getD i 0 by omega]
   rw[Nat.mul_add (BB^i) (y.getD i 0)]at e;omega
theorem eB.big {x y os:List Nat}{i c:Nat}(h:eB x y os i c)(hy:y.getD i 0<BB)(hs:x.getD i 0<y.getD i 0+c):eB x y (os++[x.getD i 0+BB-(y.getD i 0+c)]) (i+1) 1:=by
 obtain⟨h1,h2,h3,h4⟩:=h;refine⟨by simp[h1],?_,by omega,?_⟩
 · intro w hw
   rcases List.mem_append.1 hw with hw|hw
   · exact h2 w hw
   · have hw:=List.mem_singleton.1 hw;omega
 · rw[dI,h1,aM,aM,Nat.mul_one,Nat.pow_succ]
   have e:BB^i*(x.getD i 0+BB-(y.getD i 0+c))+BB^i*(y.getD i 0+c)=BB^i*(x.getD i 0+BB):=by rw[← Nat.mul_add,show x.getD i 0+BB-(y.getD i 0+c)+(y.getD i 0+c)=x.getD i 0+BB by omega]
   rw[Nat.mul_add (BB^i) (y.getD i 0),Nat.mul_add]at e;omega
theorem eB.done {x y os:List Nat}{c:Nat}(h:eB x y os x.length c)(hl:y.length≤x.length)(hle:ah y≤ah x):ah os=ah x-ah y∧∀ w∈os,w<BB:=by
 obtain⟨h1,h2,h3,h4⟩:=h;rw[List.take_of_length_le (Nat.le_refl _),List.take_of_length_le hl]at h4;refine⟨?_,h2⟩;have hlt:=eD os h2;rw[h1]at hlt
 have:c=0:=by
  rcases Nat.eq_zero_or_pos c with h|h
  · exact h
  · obtain rfl:c=1:=by omega
    omega
 subst this;omega
theorem z2w {X Y r d:Nat}(w:Nat)(h:X=Y*d+r)(hr:r<d):w+BB*X=(BB*Y+(r*BB+w) / d)*d+(r*BB+w)%d∧(r*BB+w)%d<d:=by
 have hd:0<d:=by omega
 refine⟨?_,Nat.mod_lt _ hd⟩;have:=Nat.div_add_mod (r*BB+w) d;rw[Nat.add_mul,Nat.add_assoc,Nat.mul_comm ((r*BB+w) / d) d,this,h,Nat.mul_add,Nat.mul_assoc,Nat.mul_comm BB r];omega
theorem nR {r w d:Nat}(hr:r<d)(hw:w<BB):(r*BB+w) / d<BB:=by
 rw[Nat.div_lt_iff_lt_mul (by omega)];have h:(r+1)*BB≤d*BB:=Nat.mul_le_mul_right _ hr;rw[Nat.add_mul,Nat.mul_comm d]at h;omega
