/- texts -/
import Derived.Test.YtkiklcbhglpooaaGreatDoorRows
import Derived.Below
import Derived.Lib.ItoaNum
namespace Go.Proofs.YtkiklcbhglpooaaGreatDoor
open Go.RowKit
abbrev CQ (f : FuncId) (args : Array Value) (v : Value) : Prop := ∀ W, Calls Tryz.prog f args W fun e w' => e = .returned v ∧ Below W.heap.size W w'
abbrev CR (f : FuncId) (args : Array Value) (w : World) (v : Value) : Prop := Calls Tryz.prog f args w fun e w' => e = .returned v ∧ Below w.heap.size w w'
end Go.Proofs.YtkiklcbhglpooaaGreatDoor
namespace Go.Gb
open Go.Lib
def BB:Nat:=1000000000
theorem aD:BB=1000000000:=rfl
theorem bE:0<BB:=by decide
theorem oz:1<BB:=by decide
attribute [irreducible] BB
def isD (c:UInt8):Bool:=decide (48≤c.toNat∧c.toNat≤57)
def aH (l:List UInt8):Nat:=l.foldl (fun n c=>n*10+(c.toNat-48)) 0
def vld (l:List UInt8):Bool:=decide (l≠[])&&l.all isD&&(decide (l.length=1) || decide (l.headD 0≠48))
theorem fI (c:UInt8):isD c=true↔48≤c.toNat∧c.toNat≤57:=by simp[isD]
theorem z1f (l:List UInt8):∀ a:Nat,l.foldl (fun n c=>n*10+(c.toNat-48)) a=a*10^l.length+aH l:=by
 unfold aH
 induction l with
 | nil=>intro a;simp
 | cons c l ih =>
   intro a;simp only[List.foldl_cons,List.length_cons];rw[ih,ih (0*10+(c.toNat-48)),Nat.pow_succ,Nat.add_mul,Nat.zero_mul,Nat.zero_add,Nat.mul_assoc,Nat.mul_comm 10 (10^l.length),Nat.add_assoc]
theorem iq (l m:List UInt8):aH (l++m)=aH l*10^m.length+aH m:=by
 show(l++m).foldl _ 0=_
 rw[List.foldl_append,z1f];rfl
theorem lm (c:UInt8):aH [c]=c.toNat-48:=by simp[aH]
theorem ll (l:List UInt8)(c:UInt8):aH (l++[c])=aH l*10+(c.toNat-48):=by
 rw[iq,lm];simp
theorem lq (c:UInt8)(l:List UInt8):aH (c :: l)=(c.toNat-48)*10^l.length+aH l:=by
 have:=iq [c] l;rw[lm]at this;simpa using this
theorem gD {d:Nat}(h:d<10):(UInt8.ofNat (48+d)).toNat=48+d:=by
 simp;omega
theorem il (l:List UInt8)(h:l.all isD=true):aH l<10^l.length:=by
 induction l with
 | nil=>simp[aH]
 | cons c l ih =>
   simp only[List.all_cons,Bool.and_eq_true]at h;have hc:=(fI c).1 h.1;have hl:=ih h.2;rw[lq,List.length_cons,Nat.pow_succ];have h1:(c.toNat-48)*10^l.length≤9*10^l.length:=Nat.mul_le_mul_right _ (by omega);omega
theorem gM (n:Nat):aH (decDigits n)=n:=by
 induction n using Nat.strongRecOn with
 | _ u ih =>
   by_cases h:u<10
   · rw[decDigits,dif_pos h,lm,gD h];omega
   · rw[decDigits,dif_neg h,ll,ih (u / 10) (by omega),gD (Nat.mod_lt _ (by decide))];omega
theorem iZ (n:Nat):decDigits n≠[]:=by
 intro h;have h1:=decDigits_length n;have h2:=nDigits_pos n;rw[h]at h1;simp at h1;omega
theorem jl (n:Nat):(decDigits n).all isD=true:=by
 induction n using Nat.strongRecOn with
 | _ u ih =>
   by_cases h:u<10
   · rw[decDigits,dif_pos h];simp only[List.all_cons,List.all_nil,Bool.and_true]
     rw[fI,gD h];omega
   · rw[decDigits,dif_neg h,List.all_append,ih (u / 10) (by omega)]
     simp only[List.all_cons,List.all_nil,Bool.and_true,Bool.true_and];rw[fI,gD (Nat.mod_lt _ (by decide))];omega
theorem z3l (n:Nat)(h0:0<n):((decDigits n).headD 0).toNat≠48:=by
 induction n using Nat.strongRecOn with
 | _ u ih =>
   by_cases h:u<10
   · rw[decDigits,dif_pos h];simp only[List.headD_cons];rw[gD h];omega
   · rw[decDigits,dif_neg h]
     have hh:=ih (u / 10) (by omega) (by omega);have hn:=iZ (u / 10)
     cases hd:decDigits (u / 10) with
     | nil=>exact absurd hd hn
     | cons c l=>rw[hd]at hh;simpa using hh
theorem gZ (l:List UInt8):vld l=true↔l≠[]∧l.all isD=true∧(l.length=1∨(l.headD 0).toNat≠48):=by
 unfold vld
 simp only[Bool.and_eq_true,Bool.or_eq_true,decide_eq_true_eq,and_assoc]
 have:(l.headD 0≠48)↔((l.headD 0).toNat≠48):=by
  constructor
  · intro h h2;apply h;apply UInt8.toNat_inj.1;simpa using h2
  · intro h h2;apply h;rw[h2];rfl
 rw[this]
theorem nz (n:Nat):vld (decDigits n)=true:=by
 rw[gZ];refine⟨iZ n,jl n,?_⟩;by_cases h:0<n
 · exact Or.inr (z3l n h)
 · left;obtain rfl:n=0:=by omega
   rw[decDigits,dif_pos (by decide)];rfl
theorem uF (l:List UInt8)(hne:l≠[])(u6:l.all isD=true)(hh:(l.headD 0).toNat≠48):0<aH l∧decDigits (aH l)=l:=by
 generalize hn:l.length=n
 induction n generalizing l with
 | zero=>exact absurd (List.length_eq_zero_iff.1 hn) hne
 | succ n ih =>
   obtain⟨m,c,rfl⟩:∃ m c,l=m++[c]:=⟨l.dropLast,l.getLast hne,(List.dropLast_concat_getLast hne).symm⟩;rw[List.all_append]at u6;simp only[List.all_cons,List.all_nil,Bool.and_true,Bool.and_eq_true]at u6;have hc:=(fI c).1 u6.2
   have hcc:UInt8.ofNat (48+(c.toNat-48))=c:=by
    apply UInt8.toNat_inj.1;rw[gD (by omega)];omega
   by_cases hm:m=[]
   · subst hm
     simp only[List.nil_append,List.headD_cons]at hh ⊢;rw[lm];refine⟨by omega,?_⟩;rw[decDigits,dif_pos (by omega),hcc]
   · have hhm:(m.headD 0).toNat≠48:=by
        cases m with
        | nil=>exact absurd rfl hm
        | cons a m=>simpa using hh
     obtain⟨h1,h2⟩:=ih m hm u6.1 hhm (by simpa using hn);rw[ll];refine⟨by omega,?_⟩;rw[decDigits,dif_neg (by omega)];rw[show(aH m*10+(c.toNat-48)) / 10=aH m by omega,show(aH m*10+(c.toNat-48))%10=c.toNat-48 by omega,h2,hcc]
theorem jZ (l:List UInt8)(h:vld l=true):decDigits (aH l)=l:=by
 obtain⟨h1,h2,h3⟩:=(gZ l).1 h;by_cases hh:(l.headD 0).toNat≠48
 · exact(uF l h1 h2 hh).2
 · rcases h3 with h3|h3
   · match l,h3 with
     | [c],_ =>
       simp only[List.headD_cons]at hh;rw[lm];have:c.toNat=48:=by omega
       rw[this,decDigits,dif_pos (by decide)];congr 1;apply UInt8.toNat_inj.1;rw[this];rfl
   · exact absurd h3 hh
theorem z4L {a b:Nat}(h:decDigits a=decDigits b):a=b:=by rw[← gM a,← gM b,h]
theorem eU {l m:List UInt8}(hl:vld l=true)(hm:vld m=true)(h:l.length<m.length):aH l<aH m:=by
 obtain⟨l1,l2,_⟩:=(gZ l).1 hl;obtain⟨m1,m2,m3⟩:=(gZ m).1 hm;have hlt:=il l l2;have hl0:0<l.length:=List.length_pos_iff.2 l1
 have hh:(m.headD 0).toNat≠48:=by
  rcases m3 with h3|h3
  · omega
  · exact h3
 cases m with
 | nil=>simp at h
 | cons c m =>
   simp only[List.headD_cons]at hh;simp only[List.all_cons,Bool.and_eq_true]at m2;have hc:=(fI c).1 m2.1;rw[lq];have h1:1*10^m.length≤(c.toNat-48)*10^m.length:=Nat.mul_le_mul_right _ (by omega);have h2:10^l.length≤10^m.length:=Nat.pow_le_pow_right (by decide) (by simp at h;omega);omega
theorem xV {p:List UInt8}{x y:UInt8}{l m:List UInt8}(hl:l.length=m.length)(al:(l.all isD)=true)(hx:isD x=true)(hy:isD y=true)(h:x.toNat<y.toNat) :
 aH (p++x :: l)<aH (p++y :: m):=by
 rw[iq,iq,lq,lq];simp only[List.length_cons,hl];have h1:=il l al;rw[hl]at h1;have hx':=(fI x).1 hx;have hy':=(fI y).1 hy;have h2:(x.toNat-48+1)*10^m.length≤(y.toNat-48)*10^m.length:=Nat.mul_le_mul_right _ (by omega);rw[Nat.add_mul]at h2;omega
def ag (n:Nat):List Nat:=if _h:n=0 then [] else n%BB :: ag (n / BB)
termination_by n
decreasing_by exact Nat.div_lt_self (by omega) oz
def aj:List Nat→Nat
 | []=>0
 | w :: ws=>w+BB*aj ws
theorem aN:ag 0=[]:=by rw[ag];simp
theorem bG {n:Nat}(h:n≠0):ag n=n%BB :: ag (n / BB):=by rw[ag,dif_neg h]
theorem jI {w n:Nat}(hw:w<BB)(h:w≠0∨n≠0):ag (w+BB*n)=w :: ag n:=by
 have hB:0<BB:=bE;rw[bG]
 · rw[Nat.add_mul_mod_self_left,Nat.mod_eq_of_lt hw,Nat.add_mul_div_left _ _ hB,Nat.div_eq_of_lt hw,Nat.zero_add]
 · rcases h with h|h
   · omega
   · intro h2
     have:BB*n=0:=by omega
     rcases Nat.mul_eq_zero.1 this with h3|h3
     · exact absurd h3 (by have:=bE;omega)
     · exact h h3
theorem ax (n:Nat):aj (ag n)=n:=by
 induction n using Nat.strongRecOn with
 | _ n ih =>
   by_cases h:n=0
   · subst h;rw[aN];rfl
   · rw[bG h,aj,ih (n / BB) (Nat.div_lt_self (by omega) oz)]
     exact Nat.mod_add_div n BB
theorem aQ (n:Nat):∀ w∈ag n,w<BB:=by
 induction n using Nat.strongRecOn with
 | _ n ih =>
   by_cases h:n=0
   · subst h;rw[aN];simp
   · rw[bG h]
     intro w hw;rcases List.mem_cons.1 hw with hw|hw
     · rw[hw];exact Nat.mod_lt _ bE
     · exact ih (n / BB) (Nat.div_lt_self (by omega) oz) w hw
theorem eB (l m:List Nat):aj (l++m)=aj l+BB^l.length*aj m:=by
 induction l with
 | nil=>simp[aj]
 | cons w l ih=>simp only[List.cons_append,aj,ih,List.length_cons,Nat.pow_succ,Nat.mul_add,Nat.add_assoc];rw[← Nat.mul_assoc BB,Nat.mul_comm BB (BB^l.length)]
theorem dL (l:List Nat)(w:Nat):aj (l++[w])=aj l+BB^l.length*w:=by
 rw[eB];simp[aj]
theorem dW (l:List Nat)(h:∀ w∈l,w<BB):aj l<BB^l.length:=by
 induction l with
 | nil=>simp[aj]
 | cons w l ih =>
   have hw:=h w (by simp);have hl:=ih (fun x hx=>h x (by simp[hx]));simp only[aj,List.length_cons,Nat.pow_succ];have:BB*(aj l+1)≤BB*BB^l.length:=Nat.mul_le_mul_left _ hl;rw[Nat.mul_comm (BB^l.length)];rw[Nat.mul_add]at this;omega
theorem z1o (l:List Nat)(h:∀ w∈l,w<BB)(hl:∀ (hne:l≠[]),l.getLast hne≠0):ag (aj l)=l:=by
 induction l with
 | nil=>exact aN
 | cons w l ih =>
   have hw:=h w (by simp);by_cases hn:l=[]
   · subst hn
     have h0:w≠0:=by simpa using hl (by simp)
     have:=jI (n:=0) hw (Or.inl h0);rw[aN]at this;simpa [aj] using this
   · have ih':=ih (fun x hx=>h x (by simp[hx])) (fun hne=>by have:=hl (by simp);rwa [List.getLast_cons hne]at this)
     have h0:aj l≠0:=by
        intro h0;rw[h0,aN]at ih';exact hn ih'.symm
     rw[aj,jI hw (Or.inr h0),ih']
theorem fe (l:List Nat)(k:Nat):aj (l++List.replicate k 0)=aj l:=by
 rw[eB]
 have:aj (List.replicate k 0)=0:=by
  induction k with
  | zero=>rfl
  | succ k ih=>rw[List.replicate_succ,aj,ih];rfl
 rw[this];simp
theorem bH {n k:Nat}(h:n<BB^k):(ag n).length≤k:=by
 induction k generalizing n with
 | zero=>obtain rfl:n=0:=by simpa using h
         rw[aN];simp
 | succ k ih =>
   by_cases h0:n=0
   · subst h0;rw[aN];simp
   · rw[bG h0,List.length_cons]
     have:n / BB<BB^k:=by rw[Nat.div_lt_iff_lt_mul bE];rwa [Nat.pow_succ]at h
     have:=ih this;omega
theorem dJ (n:Nat):n<BB^(ag n).length:=by
 have:=dW (ag n) (aQ n);rwa [ax]at this
theorem lw (n:Nat)(hne:ag n≠[]):(ag n).getLast hne≠0:=by
 induction n using Nat.strongRecOn with
 | _ n ih =>
   by_cases h:n=0
   · subst h;exact absurd aN hne
   · have hlt:n / BB<n:=Nat.div_lt_self (by omega) oz
     by_cases h1:ag (n / BB)=[]
     · have h2:n / BB=0:=by have:=ax (n / BB);rw[h1]at this;exact this.symm
       have h3:ag n=[n%BB]:=by rw[bG h,h1]
       simp only[h3,List.getLast_singleton];have:=Nat.mod_add_div n BB;rw[h2]at this;omega
     · have h3:ag n=n%BB :: ag (n / BB):=bG h
       have h4:=ih (n / BB) hlt h1;simp only[h3,List.getLast_cons h1];exact h4
theorem aL {a b:Nat}(h:a≤b):(ag a).length≤(ag b).length :=
 bH (Nat.lt_of_le_of_lt h (dJ b))
theorem eG {a b:Nat}(h:(ag a).length<(ag b).length):a<b:=by
 refine Nat.lt_of_not_le fun h2=>?_;have:=aL h2;omega
def pad9 (w:Nat):List UInt8:=(List.range 9).map fun t=>UInt8.ofNat (48+w / 10^(8-t)%10)
theorem kD (w:Nat):(pad9 w).length=9:=by simp[pad9]
theorem fK (v:Nat)(hv:0<v):∀ (k w:Nat),w<10^k→decDigits (v*10^k+w)=decDigits v++(List.range k).map fun t=>UInt8.ofNat (48+w / 10^(k-1-t)%10)
 | 0,w,h=>by obtain rfl:w=0:=by simpa using h
             simp
 | k+1,w,h=>by
   have hp:1≤10^k:=Nat.one_le_pow _ _ (by decide)
   have e1:v*10^(k+1)+w=(v*10^k+w / 10)*10+w%10:=by
    rw[Nat.pow_succ,← Nat.mul_assoc,Nat.add_mul];omega
   have hw:w / 10<10^k:=by rw[Nat.pow_succ]at h;omega
   have hge:1≤v*10^k:=Nat.mul_pos hv hp
   rw[e1,decDigits,dif_neg (by omega),show((v*10^k+w / 10)*10+w%10) / 10=v*10^k+w / 10 by omega,show((v*10^k+w / 10)*10+w%10)%10=w%10 by omega,
    fK v hv k (w / 10) hw,List.range_succ,List.map_append,List.append_assoc]
   congr 1
   congr 1
   · refine List.map_congr_left fun t ht=>?_
     have ht':t<k:=List.mem_range.1 ht;rw[show k+1-1-t=(k-1-t)+1 by omega,Nat.pow_succ,Nat.mul_comm,Nat.div_div_eq_div_mul]
   · simp
theorem z3j {v w:Nat}(hv:0<v)(hw:w<BB):decDigits (w+BB*v)=decDigits v++pad9 w:=by
 have hB:=aD;have:=fK v hv 9 w (by omega);rw[show w+BB*v=v*10^9+w by rw[hB];omega,this];rfl
theorem bO {xs:List Nat}{i:Nat}(h:i<xs.length):xs.getD i 0=xs[i]:=by simp[List.getD,h]
theorem aV {xs:List Nat}{i:Nat}(h:i<xs.length):xs.getD i 0∈xs:=by rw[bO h];exact List.getElem_mem h
theorem z3t {xs:List Nat}{M:Nat}(h:∀ i,i<xs.length→xs.getD i 0<M):∀ w∈xs,w<M:=by
 intro w hw;obtain⟨i,hi,rfl⟩:=List.mem_iff_getElem.1 hw;have:=h i hi;rwa [bO hi]at this
theorem yt {xs:List Nat}{i:Nat}(h:i<xs.length):xs.take (i+1)=xs.take i++[xs.getD i 0]:=by
 rw[List.take_succ_eq_append_getElem h,bO h]
theorem fw {xs:List Nat}{i:Nat}(h:i<xs.length):xs.drop i=xs.getD i 0 :: xs.drop (i+1):=by
 rw[List.drop_eq_getElem_cons h,bO h]
theorem dH {xs:List Nat}{i:Nat}(h:i<xs.length):aj (xs.take (i+1))=aj (xs.take i)+BB^i*xs.getD i 0:=by
 rw[yt h,dL,List.length_take,Nat.min_eq_left (by omega)]
theorem gq {xs:List Nat}{i:Nat}(h:i<xs.length):aj (xs.drop i)=xs.getD i 0+BB*aj (xs.drop (i+1)):=by
 rw[fw h,aj]
theorem dB (xs:List Nat)(i:Nat)(h:i≤xs.length):aj xs=aj (xs.take i)+BB^i*aj (xs.drop i):=by
 have:=eB (xs.take i) (xs.drop i);rwa [List.take_append_drop,List.length_take,Nat.min_eq_left h]at this
theorem lc {xs:List Nat}{i j v:Nat}:(xs.set i v).getD j 0=if i=j∧j<xs.length then v else xs.getD j 0:=by
 simp only[List.getD,List.getElem?_set];by_cases h:i=j
 · subst h
   by_cases h2:i<xs.length
   · simp[h2]
   · simp[h2]
 · simp[h]
theorem qG {xs:List Nat}{i v:Nat}(h:i<xs.length):aj (xs.set i v)+BB^i*xs.getD i 0=aj xs+BB^i*v:=by
 have h1:=dB (xs.set i v) i (by simp;omega);have h2:=dB xs i (by omega);have h3:i<(xs.set i v).length:=by simpa using h
 rw[gq h3]at h1;rw[gq h]at h2;have e1:(xs.set i v).take i=xs.take i:=by rw[List.take_set_of_le (Nat.le_refl _)]
 have e2:(xs.set i v).drop (i+1)=xs.drop (i+1):=by rw[List.drop_set_of_lt (by omega)]
 have e3:(xs.set i v).getD i 0=v:=by rw[lc];simp[h]
 rw[e1,e2,e3,Nat.mul_add]at h1;rw[Nat.mul_add]at h2;omega
theorem zP {xs:List Nat}(h:∀ i,i<xs.length→xs.getD i 0=0):aj xs=0:=by
 induction xs with
 | nil=>rfl
 | cons w xs ih =>
   have h0:=h 0 (by simp);simp at h0
   have:=ih (fun i hi=>by have:=h (i+1) (by simpa using hi);simpa using this);rw[aj,h0,this];rfl
theorem oC {xs:List Nat}{n:Nat}(h:∀ i,n≤i→i<xs.length→xs.getD i 0=0):aj (xs.drop n)=0:=by
 refine zP fun i hi=>?_;have:=h (n+i) (by omega) (by simp at hi;omega);simpa [List.getD] using this
theorem iw {xs:List Nat}{n:Nat}(hn:n≤xs.length)(hB:∀ w∈xs,w<BB)(hz:∀ i,n≤i→i<xs.length→xs.getD i 0=0)(hl:n=0∨xs.getD (n-1) 0≠0):ag (aj xs)=xs.take n:=by
 have h1:=dB xs n hn;rw[oC hz,Nat.mul_zero,Nat.add_zero]at h1;rw[h1];refine z1o _ (fun w hw=>hB w (List.mem_of_mem_take hw)) fun hne=>?_;have hn0:n≠0:=by intro h;subst h;simp at hne
 have h2:(xs.take n).getLast hne=xs.getD (n-1) 0:=by
  rw[List.getLast_eq_getElem,bO (by omega)];simp[Nat.min_eq_left hn]
 rw[h2];rcases hl with hl|hl
 · exact absurd hl hn0
 · exact hl
theorem jT {xs ys:List Nat}{i:Nat}(hl:xs.length=ys.length)(hi:i<xs.length)(hx:∀ w∈xs,w<BB)(he:∀ j,i<j→j<xs.length→xs.getD j 0=ys.getD j 0)(h:xs.getD i 0<ys.getD i 0):aj xs<aj ys:=by
 have h1:=dB xs (i+1) (by omega);have h2:=dB ys (i+1) (by omega)
 have e:xs.drop (i+1)=ys.drop (i+1):=by
  apply List.ext_getElem (by simp[hl])
  intro k hk1 hk2;simp at hk1 hk2 ⊢
  have:=he (i+1+k) (by omega) (by omega);rwa [bO (by omega),bO (by omega)]at this
 rw[dH hi]at h1;rw[dH (by omega),← e]at h2;have h3:=dW (xs.take i) (fun w hw=>hx w (List.mem_of_mem_take hw));rw[List.length_take,Nat.min_eq_left (by omega)]at h3;have h4:BB^i*(xs.getD i 0+1)≤BB^i*ys.getD i 0:=Nat.mul_le_mul_left _ (by omega);rw[Nat.mul_add]at h4;omega
theorem nX {xs ys:List Nat}(hl:xs.length=ys.length)(he:∀ j,j<xs.length→xs.getD j 0=ys.getD j 0):xs=ys:=by
 apply List.ext_getElem hl
 intro k hk1 hk2;have:=he k hk1;rwa [bO hk1,bO hk2]at this
theorem bP {xs:List Nat}{n:Nat}(h:∀ w∈xs,w<BB)(hl:xs.length≤n):aj xs<BB^n :=
 Nat.lt_of_lt_of_le (dW xs h) (Nat.pow_le_pow_right bE hl)
def dA (x y os:List Nat) (i c:Nat):Prop:=os.length=i∧(∀ w∈os,w<BB)∧c≤1∧aj os+BB^i*c=aj (x.take i)+aj (y.take i)
theorem dA.start (x y:List Nat):dA x y [] 0 0:=⟨rfl,by simp,by omega,by simp[aj]⟩
theorem aI (y:List Nat)(i:Nat):aj (y.take (i+1))=aj (y.take i)+BB^i*y.getD i 0:=by
 by_cases h:i<y.length
 · exact dH h
 · rw[List.take_of_length_le (by omega),List.take_of_length_le (by omega)]
   simp[List.getD,List.getElem?_eq_none (show y.length≤i by omega)]
theorem dA.small {x y os:List Nat}{i c:Nat}(h:dA x y os i c)(hs:x.getD i 0+y.getD i 0+c<BB):dA x y (os++[x.getD i 0+y.getD i 0+c]) (i+1) 0:=by
 obtain⟨h1,h2,h3,h4⟩:=h;refine⟨by simp[h1],?_,by omega,?_⟩
 · intro w hw
   rcases List.mem_append.1 hw with hw|hw
   · exact h2 w hw
   · have hw:=List.mem_singleton.1 hw;omega
 · rw[dL,h1,aI,aI,Nat.mul_add,Nat.mul_add,Nat.mul_zero];omega
theorem dA.big {x y os:List Nat}{i c:Nat}(h:dA x y os i c)(hx:x.getD i 0<BB)(hy:y.getD i 0<BB)(hs:BB≤x.getD i 0+y.getD i 0+c):dA x y (os++[x.getD i 0+y.getD i 0+c-BB]) (i+1) 1:=by
 obtain⟨h1,h2,h3,h4⟩:=h;refine⟨by simp[h1],?_,by omega,?_⟩
 · intro w hw
   rcases List.mem_append.1 hw with hw|hw
   · exact h2 w hw
   · have hw:=List.mem_singleton.1 hw;omega
 · rw[dL,h1,aI,aI,Nat.mul_one,Nat.pow_succ]
   have e:BB^i*(x.getD i 0+y.getD i 0+c-BB)+BB^i*BB=BB^i*(x.getD i 0+y.getD i 0+c):=by rw[← Nat.mul_add,show x.getD i 0+y.getD i 0+c-BB+BB=x.getD i 0+y.getD i 0+c by omega]
   rw[Nat.mul_add,Nat.mul_add]at e;omega
theorem dA.done {x y os:List Nat}{c:Nat}(h:dA x y os x.length c)(hl:y.length≤x.length):aj (os++[c])=aj x+aj y∧∀ w∈os++[c],w<BB:=by
 obtain⟨h1,h2,h3,h4⟩:=h;rw[List.take_of_length_le (Nat.le_refl _),List.take_of_length_le hl]at h4;refine⟨by rw[dL,h1];exact h4,fun w hw=>?_⟩;rcases List.mem_append.1 hw with hw|hw
 · exact h2 w hw
 · have hw:=List.mem_singleton.1 hw;have:=oz;omega
def eQ (x y os:List Nat) (i c:Nat):Prop:=os.length=i∧(∀ w∈os,w<BB)∧c≤1∧aj os+aj (y.take i)=aj (x.take i)+BB^i*c
theorem eQ.start (x y:List Nat):eQ x y [] 0 0:=⟨rfl,by simp,by omega,by simp[aj]⟩
theorem eQ.small {x y os:List Nat}{i c:Nat}(h:eQ x y os i c)(hx:x.getD i 0<BB)(hs:y.getD i 0+c≤x.getD i 0):eQ x y (os++[x.getD i 0-(y.getD i 0+c)]) (i+1) 0:=by
 obtain⟨h1,h2,h3,h4⟩:=h;refine⟨by simp[h1],?_,by omega,?_⟩
 · intro w hw
   rcases List.mem_append.1 hw with hw|hw
   · exact h2 w hw
   · have hw:=List.mem_singleton.1 hw;omega
 · rw[dL,h1,aI,aI,Nat.mul_zero]
   have e:BB^i*(x.getD i 0-(y.getD i 0+c))+BB^i*(y.getD i 0+c)=BB^i*x.getD i 0:=by rw[← Nat.mul_add,show x.getD i 0-(y.getD i 0+c)+(y.getD i 0+c)=x.getD i 0 by omega]
   rw[Nat.mul_add (BB^i) (y.getD i 0)]at e;omega
theorem eQ.big {x y os:List Nat}{i c:Nat}(h:eQ x y os i c)(hy:y.getD i 0<BB)(hs:x.getD i 0<y.getD i 0+c):eQ x y (os++[x.getD i 0+BB-(y.getD i 0+c)]) (i+1) 1:=by
 obtain⟨h1,h2,h3,h4⟩:=h;refine⟨by simp[h1],?_,by omega,?_⟩
 · intro w hw
   rcases List.mem_append.1 hw with hw|hw
   · exact h2 w hw
   · have hw:=List.mem_singleton.1 hw;omega
 · rw[dL,h1,aI,aI,Nat.mul_one,Nat.pow_succ]
   have e:BB^i*(x.getD i 0+BB-(y.getD i 0+c))+BB^i*(y.getD i 0+c)=BB^i*(x.getD i 0+BB):=by rw[← Nat.mul_add,show x.getD i 0+BB-(y.getD i 0+c)+(y.getD i 0+c)=x.getD i 0+BB by omega]
   rw[Nat.mul_add (BB^i) (y.getD i 0),Nat.mul_add]at e;omega
theorem eQ.done {x y os:List Nat}{c:Nat}(h:eQ x y os x.length c)(hl:y.length≤x.length)(hle:aj y≤aj x):aj os=aj x-aj y∧∀ w∈os,w<BB:=by
 obtain⟨h1,h2,h3,h4⟩:=h;rw[List.take_of_length_le (Nat.le_refl _),List.take_of_length_le hl]at h4;refine⟨?_,h2⟩;have hlt:=dW os h2;rw[h1]at hlt
 have:c=0:=by
  rcases Nat.eq_zero_or_pos c with h|h
  · exact h
  · obtain rfl:c=1:=by omega
    omega
 subst this;omega
theorem z3g {X Y r d:Nat}(w:Nat)(h:X=Y*d+r)(hr:r<d):w+BB*X=(BB*Y+(r*BB+w) / d)*d+(r*BB+w)%d∧(r*BB+w)%d<d:=by
 have hd:0<d:=by omega
 refine⟨?_,Nat.mod_lt _ hd⟩;have:=Nat.div_add_mod (r*BB+w) d;rw[Nat.add_mul,Nat.add_assoc,Nat.mul_comm ((r*BB+w) / d) d,this,h,Nat.mul_add,Nat.mul_assoc,Nat.mul_comm BB r];omega
theorem nY {r w d:Nat}(hr:r<d)(hw:w<BB):(r*BB+w) / d<BB:=by
 rw[Nat.div_lt_iff_lt_mul (by omega)];have h:(r+1)*BB≤d*BB:=Nat.mul_le_mul_right _ hr;rw[Nat.add_mul,Nat.mul_comm d]at h;omega
def MM (r:Nat):Nat:=999999999+r*999999998000000001
theorem z5N {r:Nat}(h:r≤18):MM r≤17999999965000000017:=by unfold MM;omega
def lL (xs ys:List Nat) (i c:Nat):Prop:=ys.length=i∧(∀ w∈ys,w<BB)∧c≤18000000000∧aj ys+BB^i*c=aj (xs.take i)
theorem lL.start (xs:List Nat):lL xs [] 0 0:=⟨rfl,by simp,by omega,by simp[aj]⟩
theorem lL.step {xs ys:List Nat}{i c:Nat}(h:lL xs ys i c)(hi:i<xs.length)(hx:xs.getD i 0≤MM 18):lL xs (ys++[(xs.getD i 0+c)%BB]) (i+1) ((xs.getD i 0+c) / BB)∧xs.getD i 0+c≤18446744073709551615:=by
 obtain⟨h1,h2,h3,h4⟩:=h;have hM:=z5N (r:=18) (by omega);have hB:=aD;refine⟨⟨by simp[h1],?_,?_,?_⟩,by omega⟩
 · intro w hw
   rcases List.mem_append.1 hw with hw|hw
   · exact h2 w hw
   · have hw:=List.mem_singleton.1 hw;rw[hw];exact Nat.mod_lt _ bE
 · rw[hB];omega
 · rw[dL,h1,dH hi,Nat.pow_succ,Nat.mul_assoc,Nat.add_assoc,← Nat.mul_add,Nat.mod_add_div,Nat.mul_add];omega
theorem lL.done {xs ys:List Nat}{c:Nat}(h:lL xs ys xs.length c):ys.length=xs.length∧(∀ w∈ys,w<BB)∧aj ys+BB^xs.length*c=aj xs:=by
 obtain⟨h1,h2,h3,h4⟩:=h;rw[List.take_of_length_le (Nat.le_refl _)]at h4;exact⟨h1,h2,h4⟩
theorem qH {a b:Nat}(ha:a<BB)(hb:b<BB):a*b≤999999998000000001:=by
 have h:a*b≤999999999*999999999:=Nat.mul_le_mul (by have:=aD;omega) (by have:=aD;omega);omega
def jo (x y os:List Nat) (i:Nat):Prop :=
 os.length=x.length+y.length∧aj os=aj (x.take i)*aj y∧(∀ j,j<os.length→os.getD j 0≤MM (i%18))∧∀ j,j<i-i%18→os.getD j 0<BB
def kw (x y os:List Nat) (i k:Nat):Prop :=
 os.length=x.length+y.length∧aj os=aj (x.take i)*aj y+BB^i*(x.getD i 0*aj (y.take k))∧(∀ j,j<os.length→os.getD j 0≤MM (i%18+1))∧(∀ j,i+k≤j→j<os.length→os.getD j 0≤MM (i%18))∧∀ j,j<i-i%18→os.getD j 0<BB
theorem jo.start (x y:List Nat):jo x y (List.replicate (x.length+y.length) 0) 0:=by
 refine⟨by simp,?_,?_,by intro j hj;omega⟩
 · have:=fe [] (x.length+y.length)
   simp only[List.nil_append]at this;rw[this];simp[aj]
 · intro j hj
   rw[bO hj];simp
theorem jo.row {x y os:List Nat}{i:Nat}(h:jo x y os i):kw x y os i 0:=by
 obtain⟨h1,h2,h3,h4⟩:=h;refine⟨h1,by simp[h2,aj],fun j hj=>Nat.le_trans (h3 j hj) (by unfold MM;omega),fun j _ hj=>h3 j hj,h4⟩
theorem kw.step {x y os:List Nat}{i k:Nat}(h:kw x y os i k)(hi:i<x.length)(hk:k<y.length)(hx:∀ w∈x,w<BB)(hy:∀ w∈y,w<BB) :
 kw x y (os.set (i+k) (os.getD (i+k) 0+x.getD i 0*y.getD k 0)) i (k+1)∧os.getD (i+k) 0+x.getD i 0*y.getD k 0≤MM 18:=by
 obtain⟨h1,h2,h3,h4,h5⟩:=h;have hp:=qH (hx _ (aV hi)) (hy _ (aV hk));have hc:=h4 (i+k) (Nat.le_refl _) (by omega);have hr:i%18<18:=Nat.mod_lt _ (by decide);have hM:MM (i%18+1)=MM (i%18)+999999998000000001:=by unfold MM;omega
 refine⟨⟨by simp[h1],?_,?_,?_,?_⟩,?_⟩
 · have hs:=qG (xs:=os) (i:=i+k) (v:=os.getD (i+k) 0+x.getD i 0*y.getD k 0) (by omega)
   rw[Nat.mul_add,h2]at hs;rw[dH hk]
   have e:BB^(i+k)*(x.getD i 0*y.getD k 0)=BB^i*(x.getD i 0*(BB^k*y.getD k 0)):=by
    rw[Nat.pow_add,Nat.mul_assoc,Nat.mul_left_comm (BB^k)]
   rw[e]at hs;rw[Nat.mul_add (x.getD i 0),Nat.mul_add (BB^i)];omega
 · intro j hj
   simp only[List.length_set]at hj;rw[lc];split
   · omega
   · exact h3 j hj
 · intro j hj1 hj
   simp only[List.length_set]at hj;rw[lc,if_neg (by omega)];exact h4 j (by omega) hj
 · intro j hj
   rw[lc,if_neg (by omega)];exact h5 j hj
 · have:MM (i%18+1)≤MM 18:=by unfold MM;omega
   omega
theorem kw.next {x y os:List Nat}{i:Nat}(h:kw x y os i y.length)(hi:i<x.length)(hr:i%18≠17):jo x y os (i+1):=by
 obtain⟨h1,h2,h3,h4,h5⟩:=h;rw[List.take_of_length_le (Nat.le_refl _)]at h2;have e:(i+1)%18=i%18+1:=by omega
 refine⟨h1,?_,by rw[e];exact h3,fun j hj=>h5 j (by omega)⟩;rw[h2,dH hi,Nat.add_mul,Nat.mul_assoc]
theorem kw.carried {x y os ys:List Nat}{i c:Nat}(h:kw x y os i y.length)(hi:i<x.length)(hr:i%18=17)(hx:∀ w∈x,w<BB)(hy:∀ w∈y,w<BB)
 (hl:ys.length=os.length-(i-17)) (hb:∀ w∈ys,w<BB) (hv:aj ys+BB^ys.length*c=aj (os.drop (i-17))):jo x y (os.take (i-17)++ys) (i+1):=by
 obtain⟨h1,h2,h3,h4,h5⟩:=h;rw[List.take_of_length_le (Nat.le_refl _)]at h2;have e:(i+1)%18=0:=by omega
 have ht:(os.take (i-17)).length=i-17:=by rw[List.length_take,Nat.min_eq_left (by omega)]
 have hlt:∀ w∈os.take (i-17)++ys,w<BB:=by
  intro w hw;rcases List.mem_append.1 hw with hw|hw
  · refine z3t (M:=BB) (fun j hj=>?_) w hw
    rw[ht]at hj;have:=h5 j (by omega);rw[bO (by rw[ht];exact hj)];rw[bO (by omega)]at this;simpa using this
  · exact hb w hw
 have hlen:(os.take (i-17)++ys).length=x.length+y.length:=by rw[List.length_append,ht,hl,← h1];omega
 have hval:aj os=aj (x.take (i+1))*aj y:=by rw[h2,dH hi,Nat.add_mul,Nat.mul_assoc]
 have hsp:=dB os (i-17) (by omega)
 have hc0:c=0:=by
  rcases Nat.eq_zero_or_pos c with h|h
  · exact h
  · exfalso
    have hX:aj (x.take (i+1))<BB^x.length:=bP (fun w hw=>hx w (List.mem_of_mem_take hw)) (by rw[List.length_take];omega);have hY:=dW y hy
    have hXY:aj os<BB^x.length*BB^y.length:=by
        rw[hval];rcases Nat.eq_zero_or_pos (aj y) with h0|h0
        · rw[h0,Nat.mul_zero];exact Nat.mul_pos (Nat.pow_pos bE) (Nat.pow_pos bE)
        · exact Nat.mul_lt_mul_of_lt_of_le hX (Nat.le_of_lt hY) (by omega)
    rw[← Nat.pow_add,← h1]at hXY;have h6:BB^os.length=BB^(i-17)*BB^ys.length:=by rw[← Nat.pow_add];congr 1;omega
    have h7:BB^(i-17)*(BB^ys.length*1)≤BB^(i-17)*aj (os.drop (i-17)):=Nat.mul_le_mul_left _ (by rw[← hv];exact Nat.le_trans (Nat.mul_le_mul_left _ h) (Nat.le_add_left _ _));rw[Nat.mul_one,← h6]at h7;omega
 refine⟨hlen,?_,?_,?_⟩
 · rw[eB,ht,← hval,hsp,← hv,hc0,Nat.mul_zero,Nat.add_zero]
 · intro j hj
   have:=hlt _ (aV hj);unfold MM;have:=aD;omega
 · intro j hj
   exact hlt _ (aV (by rw[hlen];omega))
theorem jo.done {x y os ys:List Nat}{c:Nat}(h:jo x y os x.length)(hx:∀ w∈x,w<BB)(hy:∀ w∈y,w<BB)(hv:aj ys+BB^os.length*c=aj os):aj ys=aj x*aj y:=by
 obtain⟨h1,h2,h3,h4⟩:=h;rw[List.take_of_length_le (Nat.le_refl _)]at h2;have hX:=dW x hx;have hY:=dW y hy
 have hXY:aj os<BB^os.length:=by
  rw[h2,h1,Nat.pow_add];rcases Nat.eq_zero_or_pos (aj y) with h0|h0
  · rw[h0,Nat.mul_zero];exact Nat.mul_pos (Nat.pow_pos bE) (Nat.pow_pos bE)
  · exact Nat.mul_lt_mul_of_lt_of_le hX (Nat.le_of_lt hY) (by omega)
 have hc0:c=0:=by
  rcases Nat.eq_zero_or_pos c with h|h
  · exact h
  · have:BB^os.length*1≤BB^os.length*c:=Nat.mul_le_mul_left _ h
    omega
 rw[hc0]at hv;omega
theorem vO {U V T3 V2 P g:Nat}(hP:0<P)(hV:V2*P≤V)(hV':V<(V2+1)*P)(hU:T3*P≤U)(hg:g*V2≤T3)(hgV:g≤V2):g≤U / V+1:=by
 rcases Nat.eq_zero_or_pos g with h0|h0
 · rw[h0];exact Nat.zero_le _
 have hV0:0<V:=Nat.lt_of_lt_of_le (Nat.mul_pos (by omega) hP) hV;have h1:g*V<g*((V2+1)*P):=Nat.mul_lt_mul_of_pos_left hV' h0;have h2:g*((V2+1)*P)=g*V2*P+g*P:=by rw[Nat.add_mul,Nat.one_mul,Nat.mul_add,Nat.mul_assoc]
 have h3:g*V2*P≤T3*P:=Nat.mul_le_mul_right _ hg;have h4:g*P≤V2*P:=Nat.mul_le_mul_right _ hgV;have h5:g*V<U+V:=by omega
 have h6:(g-1)*V≤U:=by
  have:g*V=(g-1)*V+V:=by
   conv=>lhs;rw[show g=(g-1)+1 by omega,Nat.add_mul,Nat.one_mul]
  omega
 have h7:=(Nat.le_div_iff_mul_le hV0).2 h6;generalize U / V=q at *;omega
theorem quo_le {U V T3 V2 P:Nat}(hV0:0<V2)(hV:V2*P≤V)(hU:U<(T3+1)*P):U / V≤T3 / V2:=by
 rw[Nat.le_div_iff_mul_le hV0];have h1:U / V*V≤U:=Nat.div_mul_le_self U V;have h2:U / V*(V2*P)≤U / V*V:=Nat.mul_le_mul_left _ hV;have h3:U / V*V2*P<(T3+1)*P:=by rw[Nat.mul_assoc];omega
 have h4:=Nat.lt_of_mul_lt_mul_right h3;omega
end Go.Gb
namespace Go.Gb
def nO (n g:Int):Int:=(g+n / g) / 2
theorem vF {n g:Int}(hg:1≤g)(h:g≤nO n g):g*g≤n:=by
 unfold nO at h
 have h1:g≤n / g:=by omega
 exact(Int.le_ediv_iff_mul_le (by omega)).1 h1
theorem yV {n g:Int}(hn:1≤n)(hg:1≤g):1≤nO n g:=by
 unfold nO
 have h0:0≤n / g:=Int.ediv_nonneg (by omega) (by omega);rcases Int.lt_or_le g 2 with h|h
 · have:g=1:=by omega
   subst this;rw[Int.ediv_one];omega
 · omega
theorem vG {n g:Int}(hg:1≤g):n<(nO n g+1)*(nO n g+1):=by
 obtain⟨s,hs⟩:∃ s,nO n g=s:=⟨_,rfl⟩;obtain⟨a,ha⟩:∃ a,n / g=a:=⟨_,rfl⟩
 have h1:g+a≤2*s+1:=by
  unfold nO at hs
  rw[ha]at hs;omega
 have h2:n<g*(a+1):=by
  rw[← ha,Int.mul_comm];exact Int.lt_ediv_add_one_mul_self n (by omega)
 rw[hs]
 have h3:0≤(g-(a+1))*(g-(a+1)):=by
  rcases Int.le_total 0 (g-(a+1)) with h|h
  · exact Int.mul_nonneg h h
  · have:=Int.mul_nonneg (show 0≤(a+1)-g by omega) (show 0≤(a+1)-g by omega)
    grind
 rcases Int.lt_or_le (a+1) 0 with hneg|hpos
 · have h5:0≤(s+1)*(s+1):=by
    rcases Int.le_total 0 (s+1) with h|h
    · exact Int.mul_nonneg h h
    · have:=Int.mul_nonneg (show 0 ≤ -(s+1) by omega) (show 0 ≤ -(s+1) by omega)
      grind
   have h6:0≤g*(-(a+1)):=Int.mul_nonneg (by omega) (by omega);grind
 · have h4:0≤(2*(s+1)-(g+a+1))*(2*(s+1)+(g+a+1)):=Int.mul_nonneg (by omega) (by omega)
   grind
theorem qw (n g:Int)(hg:0<g):((n:Rat) / (g:Rat)).num / (((n:Rat) / (g:Rat)).den:Int)=n / g:=by
 obtain⟨q,hq⟩:∃ q:Rat,q=(n:Rat) / (g:Rat):=⟨_,rfl⟩;rw[← hq]
 have e2:q.num*g=n*(q.den:Int):=by
  have h:Rat.divInt q.num (q.den:Int)=Rat.divInt n g:=by rw[Rat.num_divInt_den,hq,Rat.divInt_eq_div]
  exact(Rat.divInt_eq_divInt_iff (by have:=q.den_nz;omega) (by omega)).1 h
 have hd:(0:Int)<(q.den:Int):=by have:=q.den_nz;omega
 rw[← Int.mul_ediv_mul_of_pos_left q.num (q.den:Int) hg,e2,Int.mul_comm n,Int.mul_ediv_mul_of_pos _ _ hd]
end Go.Gb
namespace Go.Gb
open Lib
theorem zt (n k:Nat)(h:0<n / 10^k):(decDigits n).take ((decDigits n).length-k)=decDigits (n / 10^k):=by
 have e:=fK (n / 10^k) h k (n%10^k) (Nat.mod_lt _ (Nat.pow_pos (by decide)));rw[Nat.mul_comm,Nat.div_add_mod]at e;rw[e];simp
theorem z1p (v k:Nat)(h:0<v):decDigits (v*10^k)=decDigits v++List.replicate k 48:=by
 have e:=fK v h k 0 (Nat.pow_pos (by decide));rw[Nat.add_zero]at e;rw[e];congr 1
 apply List.ext_getElem
 · simp
 · intro i h1 h2
   simp
theorem vP {n k s:Nat}(hs:n / 10^(k+k)<(s+1)*(s+1)):n<((s+1)*10^k+1)*((s+1)*10^k+1):=by
 have h1:n<(s+1)*(s+1)*(10^k*10^k):=by
  rw[← Nat.pow_add];exact(Nat.div_lt_iff_lt_mul (Nat.pow_pos (by decide))).1 hs
 have h2:(s+1)*(s+1)*(10^k*10^k)=(s+1)*10^k*((s+1)*10^k):=by
  rw[Nat.mul_mul_mul_comm]
 rw[h2]at h1;exact Nat.lt_of_lt_of_le h1 (Nat.mul_le_mul (Nat.le_succ _) (Nat.le_succ _))
end Go.Gb
namespace Go.Gb
open Go
def ldig (v m:Nat):List UInt8:=(List.range m).map fun t=>UInt8.ofNat (48+v / 10^t%10)
theorem jk (v m:Nat):(ldig v m).length=m:=by simp[ldig]
theorem z0U (v m:Nat):ldig v (m+1)=ldig v m++[UInt8.ofNat (48+v / 10^m%10)]:=by
 unfold ldig
 rw[List.range_succ];simp
theorem um (v m:Nat):ldig v (m+1)=UInt8.ofNat (48+v%10) :: ldig (v / 10) m:=by
 unfold ldig
 rw[List.range_succ_eq_map];simp only[List.map_cons,List.map_map,Nat.pow_zero,Nat.div_one];congr 1
 apply List.map_congr_left
 intro t _;simp only[Function.comp,Nat.div_div_eq_div_mul,Nat.pow_succ,Nat.mul_comm]
theorem mK:∀ (m v:Nat),10^m≤v→v<10^(m+1)→(ldig v (m+1)).reverse=Lib.decDigits v
 | 0,v,h1,h2=>by
   rw[um];have hv:v<10:=by simpa using h2
   have h0:1≤v:=by simpa using h1
   rw[Nat.mod_eq_of_lt hv];rw[Lib.decDigits,dif_pos hv];simp[ldig]
 | m+1,v,h1,h2=>by
   rw[um,List.reverse_cons,mK m (v / 10) (by rw[Nat.le_div_iff_mul_le (by decide)];rw[Nat.pow_succ]at h1;exact h1) (by rw[Nat.div_lt_iff_lt_mul (by decide)];rw[Nat.pow_succ]at h2;exact h2)]
   have hv:¬ v<10:=by
    have:10≤10^(m+1):=by
     rw[Nat.pow_succ];have:=Nat.one_le_pow m 10 (by decide);omega
    omega
   conv=>rhs;rw[Lib.decDigits,dif_neg hv]
theorem yj {xs:List Nat}(hx:∀ x∈xs,x<BB){i k:Nat}(hi:i<xs.length)(hk:k<9):aj xs / 10^(9*i+k)%10=xs.getD i 0 / 10^k%10:=by
 have hsplit:xs=xs.take i++(xs.getD i 0 :: xs.drop (i+1)):=by
  conv=>lhs;rw[← List.take_append_drop i xs]
  congr 1
  rw[List.drop_eq_getElem_cons hi];simp[List.getD,hi]
 have hlen:(xs.take i).length=i:=by simp;omega
 have hlt:=dW (xs.take i) (fun x h=>hx x (List.mem_of_mem_take h));rw[hlen]at hlt
 have hv:aj xs=aj (xs.take i)+BB^i*(xs.getD i 0+BB*aj (xs.drop (i+1))):=by
  conv=>lhs;rw[hsplit]
  rw[eB,hlen];rfl
 have hB:BB^i=10^(9*i):=by rw[Nat.pow_mul,show BB=10^9 from by rw[aD]]
 rw[hv,Nat.pow_add,← hB,← Nat.div_div_eq_div_mul,Nat.add_mul_div_left _ _ (Nat.pow_pos bE),Nat.div_eq_of_lt hlt,Nat.zero_add]
 obtain⟨e,he⟩:∃ e,BB=10^k*(10*e):=⟨10^(8-k),by
  rw[show(10:Nat)*10^(8-k)=10^(9-k) by rw[← Nat.pow_succ'];congr 1;omega,← Nat.pow_add,show k+(9-k)=9 by omega,aD]⟩
 rw[he,Nat.mul_assoc,Nat.mul_assoc,Nat.add_mul_div_left _ _ (Nat.pow_pos (by decide)),Nat.add_mul_mod_self_left]
def swp (L:List UInt8) (i:Nat):List UInt8:=(List.range L.length).map fun j=>if j<i∨L.length<j+1+i then L.getD (L.length-1-j) 0 else L.getD j 0
theorem dU (L:List UInt8)(i:Nat):(swp L i).length=L.length:=by simp[swp]
theorem swp_get (L:List UInt8)(i:Nat){j:Nat}(hj:j<L.length):(swp L i).getD j 0=if j<i∨L.length<j+1+i then L.getD (L.length-1-j) 0 else L.getD j 0:=by
 unfold swp
 simp[List.getD,hj]
theorem rT {A B:List UInt8}(h:A.length=B.length)(hg:∀ j,j<A.length→A.getD j 0=B.getD j 0):A=B:=by
 apply List.ext_getElem h
 intro j h1 h2;have:=hg j h1;simpa [List.getD,h1,h2] using this
theorem z1X (L:List UInt8):swp L 0=L:=by
 refine rT (dU L 0) (fun j hj=>?_);rw[dU]at hj;rw[swp_get L 0 hj,if_neg (by omega)]
theorem z2a (L:List UInt8)(i:Nat)(h:L.length≤2*i+1):swp L i=L.reverse:=by
 refine rT (by rw[dU,List.length_reverse]) (fun j hj=>?_);rw[dU]at hj;rw[swp_get L i hj]
 have hr:L.reverse.getD j 0=L.getD (L.length-1-j) 0:=by
  have h2:L.length-1-j<L.length:=by omega
  simp[List.getD,hj,h2]
 rw[hr];split
 · rfl
 · rename_i hn
   rw[show L.length-1-j=j by omega]
theorem z4j (L:List UInt8)(i:Nat)(h:2*i+1<L.length):(swp L i).getD i 0=L.getD i 0:=by
 rw[swp_get L i (by omega),if_neg (by omega)]
theorem z1Z (L:List UInt8)(i:Nat)(h:2*i+1<L.length):(swp L i).getD (L.length-1-i) 0=L.getD (L.length-1-i) 0:=by
 rw[swp_get L i (by omega),if_neg (by omega)]
theorem z1Y (L:List UInt8)(i:Nat)(h:2*i+1<L.length):((swp L i).set i (L.getD (L.length-1-i) 0)).set (L.length-1-i) (L.getD i 0)=swp L (i+1):=by
 refine rT (by simp[dU]) (fun j hj=>?_);simp[dU]at hj
 have hs:∀ (A:List UInt8) (m:Nat) (v:UInt8),j<A.length→(A.set m v).getD j 0=if m=j then v else A.getD j 0:=by
  intro A m v hA;by_cases hm:m=j
  · subst hm;simp[List.getD,hA]
  · simp[List.getD,hm]
 rw[hs _ _ _ (by simp[dU,hj]),hs _ _ _ (by simp[dU,hj]),swp_get L i hj,swp_get L (i+1) hj];by_cases h1:L.length-1-i=j
 · rw[if_pos h1,if_pos (by omega),← h1,show L.length-1-(L.length-1-i)=i by omega]
 · rw[if_neg h1]
   by_cases h2:i=j
   · subst h2
     rw[if_pos rfl,if_pos (by omega)]
   · rw[if_neg h2]
     by_cases h3:j<i∨L.length<j+1+i
     · rw[if_pos h3,if_pos (by omega)]
     · rw[if_neg h3,if_neg (by omega)]
