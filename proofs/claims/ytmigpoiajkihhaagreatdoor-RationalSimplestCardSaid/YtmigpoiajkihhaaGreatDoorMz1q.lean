/- Texts of this proof, one behind the other. -/
import Derived.Lib.Hide
import Derived.Test.YtmigpoiajkihhaaGreatDoorRows
import Derived.Lib.ItoaNum
import Derived.OneCell
namespace Go.Proofs.YtmigpoiajkihhaaGreatDoor
open Go.RowKit
theorem hbt {w a b : World} (h : Hid (Below w.heap.size w a)) (k : Below a.heap.size a b) : Hid (Below w.heap.size w b) := Lib.hid (h.out.trans (k.mono h.out.size))
open Go.RowKit
abbrev CQ (f : FuncId) (args : Array Value) (v : Value) : Prop := ∀ W, Calls Tryz.prog f args W fun e w' => e = .returned v ∧ Below W.heap.size W w'
abbrev CR (f : FuncId) (args : Array Value) (w : World) (v : Value) : Prop := Calls Tryz.prog f args w fun e w' => e = .returned v ∧ Below w.heap.size w w'
end Go.Proofs.YtmigpoiajkihhaaGreatDoor
namespace Go.Gb
open Go.Lib
def BB:Nat:=1000000000
theorem aA:BB=1000000000:=rfl
theorem bC:0<BB:=by decide
theorem nO:1<BB:=by decide
attribute [irreducible] BB
def isD (c:UInt8):Bool:=decide (48≤c.toNat∧c.toNat≤57)
def aB (l:List UInt8):Nat:=l.foldl (fun n c=>n*10+(c.toNat-48)) 0
def vld (l:List UInt8):Bool:=decide (l≠[])&&l.all isD&&(decide (l.length=1) || decide (l.headD 0≠48))
theorem eH (c:UInt8):isD c=true↔48≤c.toNat∧c.toNat≤57:=by simp[isD]
theorem zY (l:List UInt8):∀ a:Nat,l.foldl (fun n c=>n*10+(c.toNat-48)) a=a*10^l.length+aB l:=by
 unfold aB
 induction l with
 | nil=>intro a;simp
 | cons c l ih =>
   intro a
   simp only[List.foldl_cons,List.length_cons]
   rw[ih,ih (0*10+(c.toNat-48)),Nat.pow_succ,Nat.add_mul,Nat.zero_mul,Nat.zero_add,Nat.mul_assoc,Nat.mul_comm 10 (10^l.length),Nat.add_assoc]
theorem gG (l m:List UInt8):aB (l++m)=aB l*10^m.length+aB m:=by
 show(l++m).foldl _ 0=_
 rw[List.foldl_append,zY];rfl
theorem kE (c:UInt8):aB [c]=c.toNat-48:=by simp[aB]
theorem kD (l:List UInt8)(c:UInt8):aB (l++[c])=aB l*10+(c.toNat-48):=by
 rw[gG,kE];simp
theorem kF (c:UInt8)(l:List UInt8):aB (c :: l)=(c.toNat-48)*10^l.length+aB l:=by
 have:=gG [c] l
 rw[kE]at this
 simpa using this
theorem fD {d:Nat}(h:d<10):(UInt8.ofNat (48+d)).toNat=48+d:=by
 simp;omega
theorem gF (l:List UInt8)(h:l.all isD=true):aB l<10^l.length:=by
 induction l with
 | nil=>simp[aB]
 | cons c l ih =>
   simp only[List.all_cons,Bool.and_eq_true]at h
   have hc:=(eH c).1 h.1
   have hl:=ih h.2
   rw[kF,List.length_cons,Nat.pow_succ]
   have h1:(c.toNat-48)*10^l.length≤9*10^l.length:=Nat.mul_le_mul_right _ (by omega)
   omega
theorem fJ (n:Nat):aB (decDigits n)=n:=by
 induction n using Nat.strongRecOn with
 | _ u ih =>
   by_cases h:u<10
   · rw[decDigits,dif_pos h,kE,fD h];omega
   · rw[decDigits,dif_neg h,kD,ih (u / 10) (by omega),fD (Nat.mod_lt _ (by decide))];omega
theorem iA (n:Nat):decDigits n≠[]:=by
 intro h
 have h1:=decDigits_length n
 have h2:=nDigits_pos n
 rw[h]at h1;simp at h1;omega
theorem iL (n:Nat):(decDigits n).all isD=true:=by
 induction n using Nat.strongRecOn with
 | _ u ih =>
   by_cases h:u<10
   · rw[decDigits,dif_pos h];simp only[List.all_cons,List.all_nil,Bool.and_true]
     rw[eH,fD h];omega
   · rw[decDigits,dif_neg h,List.all_append,ih (u / 10) (by omega)]
     simp only[List.all_cons,List.all_nil,Bool.and_true,Bool.true_and]
     rw[eH,fD (Nat.mod_lt _ (by decide))];omega
theorem z1A (n:Nat)(h0:0<n):((decDigits n).headD 0).toNat≠48:=by
 induction n using Nat.strongRecOn with
 | _ u ih =>
   by_cases h:u<10
   · rw[decDigits,dif_pos h];simp only[List.headD_cons];rw[fD h];omega
   · rw[decDigits,dif_neg h]
     have hh:=ih (u / 10) (by omega) (by omega)
     have hn:=iA (u / 10)
     cases hd:decDigits (u / 10) with
     | nil=>exact absurd hd hn
     | cons c l=>rw[hd]at hh;simpa using hh
theorem gm (l:List UInt8):vld l=true↔l≠[]∧l.all isD=true∧(l.length=1∨(l.headD 0).toNat≠48):=by
 unfold vld
 simp only[Bool.and_eq_true,Bool.or_eq_true,decide_eq_true_eq,and_assoc]
 have:(l.headD 0≠48)↔((l.headD 0).toNat≠48):=by
  constructor
  · intro h h2;apply h;apply UInt8.toNat_inj.1;simpa using h2
  · intro h h2;apply h;rw[h2];rfl
 rw[this]
theorem mq (n:Nat):vld (decDigits n)=true:=by
 rw[gm]
 refine⟨iA n,iL n,?_⟩
 by_cases h:0<n
 · exact Or.inr (z1A n h)
 · left;obtain rfl:n=0:=by omega
   rw[decDigits,dif_pos (by decide)];rfl
theorem tC (l:List UInt8)(hne:l≠[])(hall:l.all isD=true)(hh:(l.headD 0).toNat≠48):0<aB l∧decDigits (aB l)=l:=by
 generalize hn:l.length=n
 induction n generalizing l with
 | zero=>exact absurd (List.length_eq_zero_iff.1 hn) hne
 | succ n ih =>
   obtain⟨m,c,rfl⟩:∃ m c,l=m++[c]:=⟨l.dropLast,l.getLast hne,(List.dropLast_concat_getLast hne).symm⟩
   rw[List.all_append]at hall
   simp only[List.all_cons,List.all_nil,Bool.and_true,Bool.and_eq_true]at hall
   have hc:=(eH c).1 hall.2
   have hcc:UInt8.ofNat (48+(c.toNat-48))=c:=by
    apply UInt8.toNat_inj.1;rw[fD (by omega)];omega
   by_cases hm:m=[]
   · subst hm
     simp only[List.nil_append,List.headD_cons]at hh ⊢
     rw[kE]
     refine⟨by omega,?_⟩
     rw[decDigits,dif_pos (by omega),hcc]
   · have hhm:(m.headD 0).toNat≠48:=by
        cases m with
        | nil=>exact absurd rfl hm
        | cons a m=>simpa using hh
     obtain⟨h1,h2⟩:=ih m hm hall.1 hhm (by simpa using hn)
     rw[kD]
     refine⟨by omega,?_⟩
     rw[decDigits,dif_neg (by omega)]
     rw[show(aB m*10+(c.toNat-48)) / 10=aB m by omega,show(aB m*10+(c.toNat-48))%10=c.toNat-48 by omega,h2,hcc]
theorem jB (l:List UInt8)(h:vld l=true):decDigits (aB l)=l:=by
 obtain⟨h1,h2,h3⟩:=(gm l).1 h
 by_cases hh:(l.headD 0).toNat≠48
 · exact(tC l h1 h2 hh).2
 · rcases h3 with h3|h3
   · match l,h3 with
     | [c],_ =>
       simp only[List.headD_cons]at hh
       rw[kE]
       have:c.toNat=48:=by omega
       rw[this,decDigits,dif_pos (by decide)]
       congr 1;apply UInt8.toNat_inj.1;rw[this];rfl
   · exact absurd h3 hh
theorem z2Y {a b:Nat}(h:decDigits a=decDigits b):a=b:=by rw[← fJ a,← fJ b,h]
theorem dS {l m:List UInt8}(hl:vld l=true)(hm:vld m=true)(h:l.length<m.length):aB l<aB m:=by
 obtain⟨l1,l2,_⟩:=(gm l).1 hl
 obtain⟨m1,m2,m3⟩:=(gm m).1 hm
 have hlt:=gF l l2
 have hl0:0<l.length:=List.length_pos_iff.2 l1
 have hh:(m.headD 0).toNat≠48:=by
  rcases m3 with h3|h3
  · omega
  · exact h3
 cases m with
 | nil=>simp at h
 | cons c m =>
   simp only[List.headD_cons]at hh
   simp only[List.all_cons,Bool.and_eq_true]at m2
   have hc:=(eH c).1 m2.1
   rw[kF]
   have h1:1*10^m.length≤(c.toNat-48)*10^m.length:=Nat.mul_le_mul_right _ (by omega)
   have h2:10^l.length≤10^m.length:=Nat.pow_le_pow_right (by decide) (by simp at h;omega)
   omega
theorem wV {p:List UInt8}{x y:UInt8}{l m:List UInt8}(hl:l.length=m.length)(al:(l.all isD)=true)(hx:isD x=true)(hy:isD y=true)(h:x.toNat<y.toNat) :
 aB (p++x :: l)<aB (p++y :: m):=by
 rw[gG,gG,kF,kF]
 simp only[List.length_cons,hl]
 have h1:=gF l al
 rw[hl]at h1
 have hx':=(eH x).1 hx
 have hy':=(eH y).1 hy
 have h2:(x.toNat-48+1)*10^m.length≤(y.toNat-48)*10^m.length:=Nat.mul_le_mul_right _ (by omega)
 rw[Nat.add_mul]at h2
 omega
def ah (n:Nat):List Nat:=if _h:n=0 then [] else n%BB :: ah (n / BB)
termination_by n
decreasing_by exact Nat.div_lt_self (by omega) nO
def ai:List Nat→Nat
 | []=>0
 | w :: ws=>w+BB*ai ws
theorem aL:ah 0=[]:=by rw[ah];simp
theorem bA {n:Nat}(h:n≠0):ah n=n%BB :: ah (n / BB):=by rw[ah,dif_neg h]
theorem kI {w n:Nat}(hw:w<BB)(h:w≠0∨n≠0):ah (w+BB*n)=w :: ah n:=by
 have hB:0<BB:=bC
 rw[bA]
 · rw[Nat.add_mul_mod_self_left,Nat.mod_eq_of_lt hw,Nat.add_mul_div_left _ _ hB,Nat.div_eq_of_lt hw,Nat.zero_add]
 · rcases h with h|h
   · omega
   · intro h2
     have:BB*n=0:=by omega
     rcases Nat.mul_eq_zero.1 this with h3|h3
     · exact absurd h3 (by have:=bC;omega)
     · exact h h3
theorem ak (n:Nat):ai (ah n)=n:=by
 induction n using Nat.strongRecOn with
 | _ n ih =>
   by_cases h:n=0
   · subst h;rw[aL];rfl
   · rw[bA h,ai,ih (n / BB) (Nat.div_lt_self (by omega) nO)]
     exact Nat.mod_add_div n BB
theorem aN (n:Nat):∀ w∈ah n,w<BB:=by
 induction n using Nat.strongRecOn with
 | _ n ih =>
   by_cases h:n=0
   · subst h;rw[aL];simp
   · rw[bA h]
     intro w hw
     rcases List.mem_cons.1 hw with hw|hw
     · rw[hw];exact Nat.mod_lt _ bC
     · exact ih (n / BB) (Nat.div_lt_self (by omega) nO) w hw
theorem dJ (l m:List Nat):ai (l++m)=ai l+BB^l.length*ai m:=by
 induction l with
 | nil=>simp[ai]
 | cons w l ih=>simp only[List.cons_append,ai,ih,List.length_cons,Nat.pow_succ,Nat.mul_add,Nat.add_assoc];rw[← Nat.mul_assoc BB,Nat.mul_comm BB (BB^l.length)]
theorem df (l:List Nat)(w:Nat):ai (l++[w])=ai l+BB^l.length*w:=by
 rw[dJ];simp[ai]
theorem dG (l:List Nat)(h:∀ w∈l,w<BB):ai l<BB^l.length:=by
 induction l with
 | nil=>simp[ai]
 | cons w l ih =>
   have hw:=h w (by simp)
   have hl:=ih (fun x hx=>h x (by simp[hx]))
   simp only[ai,List.length_cons,Nat.pow_succ]
   have:BB*(ai l+1)≤BB*BB^l.length:=Nat.mul_le_mul_left _ hl
   rw[Nat.mul_comm (BB^l.length)]
   rw[Nat.mul_add]at this
   omega
theorem z05 (l:List Nat)(h:∀ w∈l,w<BB)(hl:∀ (hne:l≠[]),l.getLast hne≠0):ah (ai l)=l:=by
 induction l with
 | nil=>exact aL
 | cons w l ih =>
   have hw:=h w (by simp)
   by_cases hn:l=[]
   · subst hn
     have h0:w≠0:=by simpa using hl (by simp)
     have:=kI (n:=0) hw (Or.inl h0)
     rw[aL]at this
     simpa [ai] using this
   · have ih':=ih (fun x hx=>h x (by simp[hx])) (fun hne=>by have:=hl (by simp);rwa [List.getLast_cons hne]at this)
     have h0:ai l≠0:=by
        intro h0;rw[h0,aL]at ih';exact hn ih'.symm
     rw[ai,kI hw (Or.inr h0),ih']
theorem dU (l:List Nat)(k:Nat):ai (l++List.replicate k 0)=ai l:=by
 rw[dJ]
 have:ai (List.replicate k 0)=0:=by
  induction k with
  | zero=>rfl
  | succ k ih=>rw[List.replicate_succ,ai,ih];rfl
 rw[this];simp
theorem bB {n k:Nat}(h:n<BB^k):(ah n).length≤k:=by
 induction k generalizing n with
 | zero=>obtain rfl:n=0:=by simpa using h
         rw[aL];simp
 | succ k ih =>
   by_cases h0:n=0
   · subst h0;rw[aL];simp
   · rw[bA h0,List.length_cons]
     have:n / BB<BB^k:=by rw[Nat.div_lt_iff_lt_mul bC];rwa [Nat.pow_succ]at h
     have:=ih this
     omega
theorem d9 (n:Nat):n<BB^(ah n).length:=by
 have:=dG (ah n) (aN n)
 rwa [ak]at this
theorem kG (n:Nat)(hne:ah n≠[]):(ah n).getLast hne≠0:=by
 induction n using Nat.strongRecOn with
 | _ n ih =>
   by_cases h:n=0
   · subst h;exact absurd aL hne
   · have hlt:n / BB<n:=Nat.div_lt_self (by omega) nO
     by_cases h1:ah (n / BB)=[]
     · have h2:n / BB=0:=by have:=ak (n / BB);rw[h1]at this;exact this.symm
       have h3:ah n=[n%BB]:=by rw[bA h,h1]
       simp only[h3,List.getLast_singleton]
       have:=Nat.mod_add_div n BB
       rw[h2]at this
       omega
     · have h3:ah n=n%BB :: ah (n / BB):=bA h
       have h4:=ih (n / BB) hlt h1
       simp only[h3,List.getLast_cons h1]
       exact h4
theorem aJ {a b:Nat}(h:a≤b):(ah a).length≤(ah b).length :=
 bB (Nat.lt_of_le_of_lt h (d9 b))
theorem dN {a b:Nat}(h:(ah a).length<(ah b).length):a<b:=by
 refine Nat.lt_of_not_le fun h2=>?_
 have:=aJ h2
 omega
def pad9 (w:Nat):List UInt8:=(List.range 9).map fun t=>UInt8.ofNat (48+w / 10^(8-t)%10)
theorem jI (w:Nat):(pad9 w).length=9:=by simp[pad9]
theorem je (v:Nat)(hv:0<v):∀ (k w:Nat),w<10^k→decDigits (v*10^k+w)=decDigits v++(List.range k).map fun t=>UInt8.ofNat (48+w / 10^(k-1-t)%10)
 | 0,w,h=>by obtain rfl:w=0:=by simpa using h
             simp
 | k+1,w,h=>by
   have hp:1≤10^k:=Nat.one_le_pow _ _ (by decide)
   have e1:v*10^(k+1)+w=(v*10^k+w / 10)*10+w%10:=by
    rw[Nat.pow_succ,← Nat.mul_assoc,Nat.add_mul];omega
   have hw:w / 10<10^k:=by rw[Nat.pow_succ]at h;omega
   have hge:1≤v*10^k:=Nat.mul_pos hv hp
   rw[e1,decDigits,dif_neg (by omega),show((v*10^k+w / 10)*10+w%10) / 10=v*10^k+w / 10 by omega,show((v*10^k+w / 10)*10+w%10)%10=w%10 by omega,
    je v hv k (w / 10) hw,List.range_succ,List.map_append,List.append_assoc]
   congr 1
   congr 1
   · refine List.map_congr_left fun t ht=>?_
     have ht':t<k:=List.mem_range.1 ht
     rw[show k+1-1-t=(k-1-t)+1 by omega,Nat.pow_succ,Nat.mul_comm,Nat.div_div_eq_div_mul]
   · simp
theorem z1y {v w:Nat}(hv:0<v)(hw:w<BB):decDigits (w+BB*v)=decDigits v++pad9 w:=by
 have hB:=aA
 have:=je v hv 9 w (by omega)
 rw[show w+BB*v=v*10^9+w by rw[hB];omega,this]
 rfl
end Go.Gb
namespace Go.Gb
open Go.Lib
theorem bH {xs:List Nat}{i:Nat}(h:i<xs.length):xs.getD i 0=xs[i]:=by simp[List.getD,h]
theorem aQ {xs:List Nat}{i:Nat}(h:i<xs.length):xs.getD i 0∈xs:=by rw[bH h];exact List.getElem_mem h
theorem z1L {xs:List Nat}{M:Nat}(h:∀ i,i<xs.length→xs.getD i 0<M):∀ w∈xs,w<M:=by
 intro w hw
 obtain⟨i,hi,rfl⟩:=List.mem_iff_getElem.1 hw
 have:=h i hi
 rwa [bH hi]at this
theorem xn {xs:List Nat}{i:Nat}(h:i<xs.length):xs.take (i+1)=xs.take i++[xs.getD i 0]:=by
 rw[List.take_succ_eq_append_getElem h,bH h]
theorem dZ {xs:List Nat}{i:Nat}(h:i<xs.length):xs.drop i=xs.getD i 0 :: xs.drop (i+1):=by
 rw[List.drop_eq_getElem_cons h,bH h]
theorem cK {xs:List Nat}{i:Nat}(h:i<xs.length):ai (xs.take (i+1))=ai (xs.take i)+BB^i*xs.getD i 0:=by
 rw[xn h,df,List.length_take,Nat.min_eq_left (by omega)]
theorem fe {xs:List Nat}{i:Nat}(h:i<xs.length):ai (xs.drop i)=xs.getD i 0+BB*ai (xs.drop (i+1)):=by
 rw[dZ h,ai]
theorem bW (xs:List Nat)(i:Nat)(h:i≤xs.length):ai xs=ai (xs.take i)+BB^i*ai (xs.drop i):=by
 have:=dJ (xs.take i) (xs.drop i)
 rwa [List.take_append_drop,List.length_take,Nat.min_eq_left h]at this
theorem kw {xs:List Nat}{i j v:Nat}:(xs.set i v).getD j 0=if i=j∧j<xs.length then v else xs.getD j 0:=by
 simp only[List.getD,List.getElem?_set]
 by_cases h:i=j
 · subst h
   by_cases h2:i<xs.length
   · simp[h2]
   · simp[h2]
 · simp[h]
theorem oU {xs:List Nat}{i v:Nat}(h:i<xs.length):ai (xs.set i v)+BB^i*xs.getD i 0=ai xs+BB^i*v:=by
 have h1:=bW (xs.set i v) i (by simp;omega)
 have h2:=bW xs i (by omega)
 have h3:i<(xs.set i v).length:=by simpa using h
 rw[fe h3]at h1
 rw[fe h]at h2
 have e1:(xs.set i v).take i=xs.take i:=by rw[List.take_set_of_le (Nat.le_refl _)]
 have e2:(xs.set i v).drop (i+1)=xs.drop (i+1):=by rw[List.drop_set_of_lt (by omega)]
 have e3:(xs.set i v).getD i 0=v:=by rw[kw];simp[h]
 rw[e1,e2,e3,Nat.mul_add]at h1
 rw[Nat.mul_add]at h2
 omega
theorem yA {xs:List Nat}(h:∀ i,i<xs.length→xs.getD i 0=0):ai xs=0:=by
 induction xs with
 | nil=>rfl
 | cons w xs ih =>
   have h0:=h 0 (by simp)
   simp at h0
   have:=ih (fun i hi=>by have:=h (i+1) (by simpa using hi);simpa using this)
   rw[ai,h0,this];rfl
theorem nP {xs:List Nat}{n:Nat}(h:∀ i,n≤i→i<xs.length→xs.getD i 0=0):ai (xs.drop n)=0:=by
 refine yA fun i hi=>?_
 have:=h (n+i) (by omega) (by simp at hi;omega)
 simpa [List.getD] using this
theorem gH {xs:List Nat}{n:Nat}(hn:n≤xs.length)(hB:∀ w∈xs,w<BB)(hz:∀ i,n≤i→i<xs.length→xs.getD i 0=0)(hl:n=0∨xs.getD (n-1) 0≠0):ah (ai xs)=xs.take n:=by
 have h1:=bW xs n hn
 rw[nP hz,Nat.mul_zero,Nat.add_zero]at h1
 rw[h1]
 refine z05 _ (fun w hw=>hB w (List.mem_of_mem_take hw)) fun hne=>?_
 have hn0:n≠0:=by intro h;subst h;simp at hne
 have h2:(xs.take n).getLast hne=xs.getD (n-1) 0:=by
  rw[List.getLast_eq_getElem,bH (by omega)]
  simp[Nat.min_eq_left hn]
 rw[h2]
 rcases hl with hl|hl
 · exact absurd hl hn0
 · exact hl
theorem jr {xs ys:List Nat}{i:Nat}(hl:xs.length=ys.length)(hi:i<xs.length)(hx:∀ w∈xs,w<BB)(he:∀ j,i<j→j<xs.length→xs.getD j 0=ys.getD j 0)(h:xs.getD i 0<ys.getD i 0):ai xs<ai ys:=by
 have h1:=bW xs (i+1) (by omega)
 have h2:=bW ys (i+1) (by omega)
 have e:xs.drop (i+1)=ys.drop (i+1):=by
  apply List.ext_getElem (by simp[hl])
  intro k hk1 hk2
  simp at hk1 hk2 ⊢
  have:=he (i+1+k) (by omega) (by omega)
  rwa [bH (by omega),bH (by omega)]at this
 rw[cK hi]at h1
 rw[cK (by omega),← e]at h2
 have h3:=dG (xs.take i) (fun w hw=>hx w (List.mem_of_mem_take hw))
 rw[List.length_take,Nat.min_eq_left (by omega)]at h3
 have h4:BB^i*(xs.getD i 0+1)≤BB^i*ys.getD i 0:=Nat.mul_le_mul_left _ (by omega)
 rw[Nat.mul_add]at h4
 omega
theorem ny {xs ys:List Nat}(hl:xs.length=ys.length)(he:∀ j,j<xs.length→xs.getD j 0=ys.getD j 0):xs=ys:=by
 apply List.ext_getElem hl
 intro k hk1 hk2
 have:=he k hk1
 rwa [bH hk1,bH hk2]at this
theorem bI {xs:List Nat}{n:Nat}(h:∀ w∈xs,w<BB)(hl:xs.length≤n):ai xs<BB^n :=
 Nat.lt_of_lt_of_le (dG xs h) (Nat.pow_le_pow_right bC hl)
def bU (x y os:List Nat) (i c:Nat):Prop:=os.length=i∧(∀ w∈os,w<BB)∧c≤1∧ai os+BB^i*c=ai (x.take i)+ai (y.take i)
theorem bU.start (x y:List Nat):bU x y [] 0 0:=⟨rfl,by simp,by omega,by simp[ai]⟩
theorem aC (y:List Nat)(i:Nat):ai (y.take (i+1))=ai (y.take i)+BB^i*y.getD i 0:=by
 by_cases h:i<y.length
 · exact cK h
 · rw[List.take_of_length_le (by omega),List.take_of_length_le (by omega)]
   simp[List.getD,List.getElem?_eq_none (show y.length≤i by omega)]
theorem bU.small {x y os:List Nat}{i c:Nat}(h:bU x y os i c)(hs:x.getD i 0+y.getD i 0+c<BB):bU x y (os++[x.getD i 0+y.getD i 0+c]) (i+1) 0:=by
 obtain⟨h1,h2,h3,h4⟩:=h
 refine⟨by simp[h1],?_,by omega,?_⟩
 · intro w hw
   rcases List.mem_append.1 hw with hw|hw
   · exact h2 w hw
   · have hw:=List.mem_singleton.1 hw;omega
 · rw[df,h1,aC,aC,Nat.mul_add,Nat.mul_add,Nat.mul_zero];omega
theorem bU.big {x y os:List Nat}{i c:Nat}(h:bU x y os i c)(hx:x.getD i 0<BB)(hy:y.getD i 0<BB)(hs:BB≤x.getD i 0+y.getD i 0+c):bU x y (os++[x.getD i 0+y.getD i 0+c-BB]) (i+1) 1:=by
 obtain⟨h1,h2,h3,h4⟩:=h
 refine⟨by simp[h1],?_,by omega,?_⟩
 · intro w hw
   rcases List.mem_append.1 hw with hw|hw
   · exact h2 w hw
   · have hw:=List.mem_singleton.1 hw;omega
 · rw[df,h1,aC,aC,Nat.mul_one,Nat.pow_succ]
   have e:BB^i*(x.getD i 0+y.getD i 0+c-BB)+BB^i*BB=BB^i*(x.getD i 0+y.getD i 0+c):=by rw[← Nat.mul_add,show x.getD i 0+y.getD i 0+c-BB+BB=x.getD i 0+y.getD i 0+c by omega]
   rw[Nat.mul_add,Nat.mul_add]at e
   omega
theorem bU.done {x y os:List Nat}{c:Nat}(h:bU x y os x.length c)(hl:y.length≤x.length):ai (os++[c])=ai x+ai y∧∀ w∈os++[c],w<BB:=by
 obtain⟨h1,h2,h3,h4⟩:=h
 rw[List.take_of_length_le (Nat.le_refl _),List.take_of_length_le hl]at h4
 refine⟨by rw[df,h1];exact h4,fun w hw=>?_⟩
 rcases List.mem_append.1 hw with hw|hw
 · exact h2 w hw
 · have hw:=List.mem_singleton.1 hw;have:=nO;omega
def dQ (x y os:List Nat) (i c:Nat):Prop:=os.length=i∧(∀ w∈os,w<BB)∧c≤1∧ai os+ai (y.take i)=ai (x.take i)+BB^i*c
theorem dQ.start (x y:List Nat):dQ x y [] 0 0:=⟨rfl,by simp,by omega,by simp[ai]⟩
theorem dQ.small {x y os:List Nat}{i c:Nat}(h:dQ x y os i c)(hx:x.getD i 0<BB)(hs:y.getD i 0+c≤x.getD i 0):dQ x y (os++[x.getD i 0-(y.getD i 0+c)]) (i+1) 0:=by
 obtain⟨h1,h2,h3,h4⟩:=h
 refine⟨by simp[h1],?_,by omega,?_⟩
 · intro w hw
   rcases List.mem_append.1 hw with hw|hw
   · exact h2 w hw
   · have hw:=List.mem_singleton.1 hw;omega
 · rw[df,h1,aC,aC,Nat.mul_zero]
   have e:BB^i*(x.getD i 0-(y.getD i 0+c))+BB^i*(y.getD i 0+c)=BB^i*x.getD i 0:=by rw[← Nat.mul_add,show x.getD i 0-(y.getD i 0+c)+(y.getD i 0+c)=x.getD i 0 by omega]
   rw[Nat.mul_add (BB^i) (y.getD i 0)]at e
   omega
theorem dQ.big {x y os:List Nat}{i c:Nat}(h:dQ x y os i c)(hy:y.getD i 0<BB)(hs:x.getD i 0<y.getD i 0+c):dQ x y (os++[x.getD i 0+BB-(y.getD i 0+c)]) (i+1) 1:=by
 obtain⟨h1,h2,h3,h4⟩:=h
 refine⟨by simp[h1],?_,by omega,?_⟩
 · intro w hw
   rcases List.mem_append.1 hw with hw|hw
   · exact h2 w hw
   · have hw:=List.mem_singleton.1 hw;omega
 · rw[df,h1,aC,aC,Nat.mul_one,Nat.pow_succ]
   have e:BB^i*(x.getD i 0+BB-(y.getD i 0+c))+BB^i*(y.getD i 0+c)=BB^i*(x.getD i 0+BB):=by rw[← Nat.mul_add,show x.getD i 0+BB-(y.getD i 0+c)+(y.getD i 0+c)=x.getD i 0+BB by omega]
   rw[Nat.mul_add (BB^i) (y.getD i 0),Nat.mul_add]at e
   omega
theorem dQ.done {x y os:List Nat}{c:Nat}(h:dQ x y os x.length c)(hl:y.length≤x.length)(hle:ai y≤ai x):ai os=ai x-ai y∧∀ w∈os,w<BB:=by
 obtain⟨h1,h2,h3,h4⟩:=h
 rw[List.take_of_length_le (Nat.le_refl _),List.take_of_length_le hl]at h4
 refine⟨?_,h2⟩
 have hlt:=dG os h2
 rw[h1]at hlt
 have:c=0:=by
  rcases Nat.eq_zero_or_pos c with h|h
  · exact h
  · obtain rfl:c=1:=by omega
    omega
 subst this
 omega
theorem z1v {X Y r d:Nat}(w:Nat)(h:X=Y*d+r)(hr:r<d):w+BB*X=(BB*Y+(r*BB+w) / d)*d+(r*BB+w)%d∧(r*BB+w)%d<d:=by
 have hd:0<d:=by omega
 refine⟨?_,Nat.mod_lt _ hd⟩
 have:=Nat.div_add_mod (r*BB+w) d
 rw[Nat.add_mul,Nat.add_assoc,Nat.mul_comm ((r*BB+w) / d) d,this,h,Nat.mul_add,Nat.mul_assoc,Nat.mul_comm BB r]
 omega
theorem nz {r w d:Nat}(hr:r<d)(hw:w<BB):(r*BB+w) / d<BB:=by
 rw[Nat.div_lt_iff_lt_mul (by omega)]
 have h:(r+1)*BB≤d*BB:=Nat.mul_le_mul_right _ hr
 rw[Nat.add_mul,Nat.mul_comm d]at h
 omega
end Go.Gb
namespace Go.Gb
open Go.Lib
def MM (r:Nat):Nat:=999999999+r*999999998000000001
theorem z4a {r:Nat}(h:r≤18):MM r≤17999999965000000017:=by unfold MM;omega
def kQ (xs ys:List Nat) (i c:Nat):Prop:=ys.length=i∧(∀ w∈ys,w<BB)∧c≤18000000000∧ai ys+BB^i*c=ai (xs.take i)
theorem kQ.start (xs:List Nat):kQ xs [] 0 0:=⟨rfl,by simp,by omega,by simp[ai]⟩
theorem kQ.step {xs ys:List Nat}{i c:Nat}(h:kQ xs ys i c)(hi:i<xs.length)(hx:xs.getD i 0≤MM 18):kQ xs (ys++[(xs.getD i 0+c)%BB]) (i+1) ((xs.getD i 0+c) / BB)∧xs.getD i 0+c≤18446744073709551615:=by
 obtain⟨h1,h2,h3,h4⟩:=h
 have hM:=z4a (r:=18) (by omega)
 have hB:=aA
 refine⟨⟨by simp[h1],?_,?_,?_⟩,by omega⟩
 · intro w hw
   rcases List.mem_append.1 hw with hw|hw
   · exact h2 w hw
   · have hw:=List.mem_singleton.1 hw;rw[hw];exact Nat.mod_lt _ bC
 · rw[hB];omega
 · rw[df,h1,cK hi,Nat.pow_succ,Nat.mul_assoc,Nat.add_assoc,← Nat.mul_add,Nat.mod_add_div,Nat.mul_add];omega
theorem kQ.done {xs ys:List Nat}{c:Nat}(h:kQ xs ys xs.length c):ys.length=xs.length∧(∀ w∈ys,w<BB)∧ai ys+BB^xs.length*c=ai xs:=by
 obtain⟨h1,h2,h3,h4⟩:=h
 rw[List.take_of_length_le (Nat.le_refl _)]at h4
 exact⟨h1,h2,h4⟩
theorem oW {a b:Nat}(ha:a<BB)(hb:b<BB):a*b≤999999998000000001:=by
 have h:a*b≤999999999*999999999:=Nat.mul_le_mul (by have:=aA;omega) (by have:=aA;omega)
 omega
def iP (x y os:List Nat) (i:Nat):Prop :=
 os.length=x.length+y.length∧ai os=ai (x.take i)*ai y∧(∀ j,j<os.length→os.getD j 0≤MM (i%18))∧∀ j,j<i-i%18→os.getD j 0<BB
def jG (x y os:List Nat) (i k:Nat):Prop :=
 os.length=x.length+y.length∧ai os=ai (x.take i)*ai y+BB^i*(x.getD i 0*ai (y.take k))∧(∀ j,j<os.length→os.getD j 0≤MM (i%18+1))∧(∀ j,i+k≤j→j<os.length→os.getD j 0≤MM (i%18))∧∀ j,j<i-i%18→os.getD j 0<BB
theorem iP.start (x y:List Nat):iP x y (List.replicate (x.length+y.length) 0) 0:=by
 refine⟨by simp,?_,?_,by intro j hj;omega⟩
 · have:=dU [] (x.length+y.length)
   simp only[List.nil_append]at this
   rw[this];simp[ai]
 · intro j hj
   rw[bH hj];simp
theorem iP.row {x y os:List Nat}{i:Nat}(h:iP x y os i):jG x y os i 0:=by
 obtain⟨h1,h2,h3,h4⟩:=h
 refine⟨h1,by simp[h2,ai],fun j hj=>Nat.le_trans (h3 j hj) (by unfold MM;omega),fun j _ hj=>h3 j hj,h4⟩
theorem jG.step {x y os:List Nat}{i k:Nat}(h:jG x y os i k)(hi:i<x.length)(hk:k<y.length)(hx:∀ w∈x,w<BB)(hy:∀ w∈y,w<BB) :
 jG x y (os.set (i+k) (os.getD (i+k) 0+x.getD i 0*y.getD k 0)) i (k+1)∧os.getD (i+k) 0+x.getD i 0*y.getD k 0≤MM 18:=by
 obtain⟨h1,h2,h3,h4,h5⟩:=h
 have hp:=oW (hx _ (aQ hi)) (hy _ (aQ hk))
 have hc:=h4 (i+k) (Nat.le_refl _) (by omega)
 have hr:i%18<18:=Nat.mod_lt _ (by decide)
 have hM:MM (i%18+1)=MM (i%18)+999999998000000001:=by unfold MM;omega
 refine⟨⟨by simp[h1],?_,?_,?_,?_⟩,?_⟩
 · have hs:=oU (xs:=os) (i:=i+k) (v:=os.getD (i+k) 0+x.getD i 0*y.getD k 0) (by omega)
   rw[Nat.mul_add,h2]at hs
   rw[cK hk]
   have e:BB^(i+k)*(x.getD i 0*y.getD k 0)=BB^i*(x.getD i 0*(BB^k*y.getD k 0)):=by
    rw[Nat.pow_add,Nat.mul_assoc,Nat.mul_left_comm (BB^k)]
   rw[e]at hs
   rw[Nat.mul_add (x.getD i 0),Nat.mul_add (BB^i)]
   omega
 · intro j hj
   simp only[List.length_set]at hj
   rw[kw]
   split
   · omega
   · exact h3 j hj
 · intro j hj1 hj
   simp only[List.length_set]at hj
   rw[kw,if_neg (by omega)]
   exact h4 j (by omega) hj
 · intro j hj
   rw[kw,if_neg (by omega)]
   exact h5 j hj
 · have:MM (i%18+1)≤MM 18:=by unfold MM;omega
   omega
theorem jG.next {x y os:List Nat}{i:Nat}(h:jG x y os i y.length)(hi:i<x.length)(hr:i%18≠17):iP x y os (i+1):=by
 obtain⟨h1,h2,h3,h4,h5⟩:=h
 rw[List.take_of_length_le (Nat.le_refl _)]at h2
 have e:(i+1)%18=i%18+1:=by omega
 refine⟨h1,?_,by rw[e];exact h3,fun j hj=>h5 j (by omega)⟩
 rw[h2,cK hi,Nat.add_mul,Nat.mul_assoc]
theorem jG.carried {x y os ys:List Nat}{i c:Nat}(h:jG x y os i y.length)(hi:i<x.length)(hr:i%18=17)(hx:∀ w∈x,w<BB)(hy:∀ w∈y,w<BB)
 (hl:ys.length=os.length-(i-17)) (hb:∀ w∈ys,w<BB) (hv:ai ys+BB^ys.length*c=ai (os.drop (i-17))):iP x y (os.take (i-17)++ys) (i+1):=by
 obtain⟨h1,h2,h3,h4,h5⟩:=h
 rw[List.take_of_length_le (Nat.le_refl _)]at h2
 have e:(i+1)%18=0:=by omega
 have ht:(os.take (i-17)).length=i-17:=by rw[List.length_take,Nat.min_eq_left (by omega)]
 have hlt:∀ w∈os.take (i-17)++ys,w<BB:=by
  intro w hw
  rcases List.mem_append.1 hw with hw|hw
  · refine z1L (M:=BB) (fun j hj=>?_) w hw
    rw[ht]at hj
    have:=h5 j (by omega)
    rw[bH (by rw[ht];exact hj)]
    rw[bH (by omega)]at this
    simpa using this
  · exact hb w hw
 have hlen:(os.take (i-17)++ys).length=x.length+y.length:=by rw[List.length_append,ht,hl,← h1];omega
 have hval:ai os=ai (x.take (i+1))*ai y:=by rw[h2,cK hi,Nat.add_mul,Nat.mul_assoc]
 have hsp:=bW os (i-17) (by omega)
 have hc0:c=0:=by
  rcases Nat.eq_zero_or_pos c with h|h
  · exact h
  · exfalso
    have hX:ai (x.take (i+1))<BB^x.length:=bI (fun w hw=>hx w (List.mem_of_mem_take hw)) (by rw[List.length_take];omega)
    have hY:=dG y hy
    have hXY:ai os<BB^x.length*BB^y.length:=by
        rw[hval]
        rcases Nat.eq_zero_or_pos (ai y) with h0|h0
        · rw[h0,Nat.mul_zero];exact Nat.mul_pos (Nat.pow_pos bC) (Nat.pow_pos bC)
        · exact Nat.mul_lt_mul_of_lt_of_le hX (Nat.le_of_lt hY) (by omega)
    rw[← Nat.pow_add,← h1]at hXY
    have h6:BB^os.length=BB^(i-17)*BB^ys.length:=by rw[← Nat.pow_add];congr 1;omega
    have h7:BB^(i-17)*(BB^ys.length*1)≤BB^(i-17)*ai (os.drop (i-17)):=Nat.mul_le_mul_left _ (by rw[← hv];exact Nat.le_trans (Nat.mul_le_mul_left _ h) (Nat.le_add_left _ _))
    rw[Nat.mul_one,← h6]at h7
    omega
 refine⟨hlen,?_,?_,?_⟩
 · rw[dJ,ht,← hval,hsp,← hv,hc0,Nat.mul_zero,Nat.add_zero]
 · intro j hj
   have:=hlt _ (aQ hj)
   unfold MM;have:=aA;omega
 · intro j hj
   exact hlt _ (aQ (by rw[hlen];omega))
theorem iP.done {x y os ys:List Nat}{c:Nat}(h:iP x y os x.length)(hx:∀ w∈x,w<BB)(hy:∀ w∈y,w<BB)(hv:ai ys+BB^os.length*c=ai os):ai ys=ai x*ai y:=by
 obtain⟨h1,h2,h3,h4⟩:=h
 rw[List.take_of_length_le (Nat.le_refl _)]at h2
 have hX:=dG x hx
 have hY:=dG y hy
 have hXY:ai os<BB^os.length:=by
  rw[h2,h1,Nat.pow_add]
  rcases Nat.eq_zero_or_pos (ai y) with h0|h0
  · rw[h0,Nat.mul_zero];exact Nat.mul_pos (Nat.pow_pos bC) (Nat.pow_pos bC)
  · exact Nat.mul_lt_mul_of_lt_of_le hX (Nat.le_of_lt hY) (by omega)
 have hc0:c=0:=by
  rcases Nat.eq_zero_or_pos c with h|h
  · exact h
  · have:BB^os.length*1≤BB^os.length*c:=Nat.mul_le_mul_left _ h
    omega
 rw[hc0]at hv
 omega
theorem uN {U V T3 V2 P g:Nat}(hP:0<P)(hV:V2*P≤V)(hV':V<(V2+1)*P)(hU:T3*P≤U)(hg:g*V2≤T3)(hgV:g≤V2):g≤U / V+1:=by
 rcases Nat.eq_zero_or_pos g with h0|h0
 · rw[h0];exact Nat.zero_le _
 have hV0:0<V:=Nat.lt_of_lt_of_le (Nat.mul_pos (by omega) hP) hV
 have h1:g*V<g*((V2+1)*P):=Nat.mul_lt_mul_of_pos_left hV' h0
 have h2:g*((V2+1)*P)=g*V2*P+g*P:=by rw[Nat.add_mul,Nat.one_mul,Nat.mul_add,Nat.mul_assoc]
 have h3:g*V2*P≤T3*P:=Nat.mul_le_mul_right _ hg
 have h4:g*P≤V2*P:=Nat.mul_le_mul_right _ hgV
 have h5:g*V<U+V:=by omega
 have h6:(g-1)*V≤U:=by
  have:g*V=(g-1)*V+V:=by
   conv=>lhs;rw[show g=(g-1)+1 by omega,Nat.add_mul,Nat.one_mul]
  omega
 have h7:=(Nat.le_div_iff_mul_le hV0).2 h6
 generalize U / V=q at *
 omega
theorem quo_le {U V T3 V2 P:Nat}(hV0:0<V2)(hV:V2*P≤V)(hU:U<(T3+1)*P):U / V≤T3 / V2:=by
 rw[Nat.le_div_iff_mul_le hV0]
 have h1:U / V*V≤U:=Nat.div_mul_le_self U V
 have h2:U / V*(V2*P)≤U / V*V:=Nat.mul_le_mul_left _ hV
 have h3:U / V*V2*P<(T3+1)*P:=by rw[Nat.mul_assoc];omega
 have h4:=Nat.lt_of_mul_lt_mul_right h3
 omega
end Go.Gb
namespace Go.Gb
open Go.RowKit
def cls (k:IntKind) (xs:List Nat):List Value:=xs.map fun(n:Nat)=>Value.int k (n:Int)
theorem dO (k:IntKind)(xs:List Nat):(cls k xs).length=xs.length:=by simp[cls]
theorem bN (k:IntKind)(xs ys:List Nat):cls k (xs++ys)=cls k xs++cls k ys:=by simp[cls]
theorem jf {k:IntKind}{xs:List Nat}{i:Nat}(h:i<xs.length):(cls k xs)[i]? = some (Value.int k ((xs.getD i 0:Nat):Int)):=by
 simp[cls,List.getD,h]
theorem qJ (k:IntKind)(xs:List Nat)(i v:Nat):cls k (xs.set i v)=(cls k xs).set i (Value.int k (v:Int)):=by simp[cls,List.map_set]
theorem lV (k:IntKind)(xs:List Nat)(n:Nat):cls k (xs.take n)=(cls k xs).take n:=by simp[cls,List.map_take]
def Rd (k:IntKind) (w:World) (v:Value) (xs:List Nat):Prop :=
 (v=.slice none 0 0∧xs=[]) ∨
 ∃ b o c,v=.slice (some ⟨b,o,none⟩) xs.length c∧xs.length≤c∧c≤maxLen∧b<w.heap.size∧∀ i,i<xs.length→w.cell? ⟨b,o+i,none⟩=some (.int k ((xs.getD i 0:Nat):Int))
theorem Rd.below {k:IntKind}{w w':World}{v:Value}{xs:List Nat}(h:Rd k w v xs)(hb:Below w.heap.size w w'):Rd k w' v xs:=by
 rcases h with h|⟨b,o,c,h1,h2,h3,h4,h5⟩
 · exact Or.inl h
 · exact Or.inr ⟨b,o,c,h1,h2,h3,Nat.lt_of_lt_of_le h4 hb.size,fun i hi=>(hb.cell (p:=⟨b,o+i,none⟩) h4).trans (h5 i hi)⟩
def Own (k:IntKind) (T:TypeId) (B:Nat) (w:World) (v:Value) (xs:List Nat):Prop:=w.ownsRow B T 1 v xs.length (cls k xs)
theorem Own.rd {k:IntKind}{T:TypeId}{B:Nat}{w:World}{v:Value}{xs:List Nat}(h:Own k T B w v xs):Rd k w v xs:=by
 obtain⟨h1,h2⟩:=h
 rcases h2 with⟨h2,h3⟩|⟨g,cap,cur,hv,hg,hh,hn,hc,hs,ht⟩
 · exact Or.inl ⟨h2,List.length_eq_zero_iff.1 h3⟩
 · refine Or.inr ⟨g,0,cap,hv,hn,hc,(Array.getElem?_eq_some_iff.1 hh).1,fun i hi=>?_⟩
   have h4:=jf (k:=k) hi
   rw[← ht,Nat.mul_one,List.getElem?_take,if_pos hi]at h4
   simp only[World.cell?,hh,Nat.zero_add]
   simpa using h4
theorem Own.nil (k:IntKind)(T:TypeId)(B:Nat)(w:World):Own k T B w (.slice none 0 0) []:=World.ownsRow_nil w B T 1
theorem Own.mono {k:IntKind}{T:TypeId}{B B':Nat}{w:World}{v:Value}{xs:List Nat}(h:Own k T B w v xs)(hB:B'≤B):Own k T B' w v xs:=by
 obtain⟨h1,h2⟩:=h
 refine⟨h1,?_⟩
 rcases h2 with h2|⟨g,cap,cur,hv,hg,r⟩
 · exact Or.inl h2
 · exact Or.inr ⟨g,cap,cur,hv,by omega,r⟩
theorem Own.below {k:IntKind}{T:TypeId}{B:Nat}{w w':World}{v:Value}{xs:List Nat}(h:Own k T B w v xs)(hb:Below w.heap.size w w'):Own k T B w' v xs:=by
 obtain⟨h1,h2⟩:=h
 refine⟨h1,?_⟩
 rcases h2 with h2|⟨g,cap,cur,hv,hg,hh,r⟩
 · exact Or.inl h2
 · exact Or.inr ⟨g,cap,cur,hv,hg,by rw[hb.block g (Array.getElem?_eq_some_iff.1 hh).1];exact hh,r⟩
theorem Own.take {k:IntKind}{T:TypeId}{B:Nat}{w:World}{a:Option Addr}{n c:Nat}{xs:List Nat}(h:Own k T B w (.slice a n c) xs)(m:Nat)(hm:m≤xs.length):Own k T B w (.slice a m c) (xs.take m):=by
 obtain⟨h1,h2⟩:=h
 refine⟨by simp[cls],?_⟩
 rcases h2 with⟨h2,h3⟩|⟨g,cap,cur,hv,hg,hh,hn,hc,hs,ht⟩
 · injection h2 with e1 e2 e3
   subst e1 e2 e3
   obtain rfl:m=0:=by omega
   left;simp
 · injection hv with e1 e2 e3
   subst e1 e2 e3
   refine Or.inr ⟨g,c,cur,by simp[Nat.min_eq_left hm],hg,hh,by simp;omega,hc,hs,?_⟩
   rw[lV,← ht,List.take_take,List.length_take,Nat.mul_one,Nat.mul_one,Nat.min_eq_left hm]
end Go.Gb
