/- texts -/
import Derived.Test.YteihfbkaieemdaaGreatDoorMz0q
import Derived.Test.YteihfbkaieemdaaGreatDoorRows
import Derived.OneCell
import Derived.Test.YteihfbkaieemdaaGreatDoorShelf
import Derived.WalkSpells
import Derived.WalkLawsBesides
import Derived.Lib.BufferOwn
open Go.Proofs.Tryz
namespace Go.Gb
open Go
def ldig (v m:Nat):List UInt8:=(List.range m).map fun t=>UInt8.ofNat (48+v / 10^t%10)
theorem ji (v m:Nat):(ldig v m).length=m:=by simp[ldig]
theorem z0i (v m:Nat):ldig v (m+1)=ldig v m++[UInt8.ofNat (48+v / 10^m%10)]:=by
 unfold ldig
 rw[List.range_succ];simp
theorem tK (v m:Nat):ldig v (m+1)=UInt8.ofNat (48+v%10) :: ldig (v / 10) m:=by
 unfold ldig
 rw[List.range_succ_eq_map];simp only[List.map_cons,List.map_map,Nat.pow_zero,Nat.div_one];congr 1
 apply List.map_congr_left
 intro t _;simp only[Function.comp,Nat.div_div_eq_div_mul,Nat.pow_succ,Nat.mul_comm]
theorem mF:∀ (m v:Nat),10^m≤v→v<10^(m+1)→(ldig v (m+1)).reverse=Lib.decDigits v
 | 0,v,h1,h2=>by
   rw[tK];have hv:v<10:=by simpa using h2
   have h0:1≤v:=by simpa using h1
   rw[Nat.mod_eq_of_lt hv];rw[Lib.decDigits,dif_pos hv];simp[ldig]
 | m+1,v,h1,h2=>by
   rw[tK,List.reverse_cons,mF m (v / 10) (by rw[Nat.le_div_iff_mul_le (by decide)];rw[Nat.pow_succ]at h1;exact h1) (by rw[Nat.div_lt_iff_lt_mul (by decide)];rw[Nat.pow_succ]at h2;exact h2)]
   have hv:¬ v<10:=by
    have:10≤10^(m+1):=by
     rw[Nat.pow_succ];have:=Nat.one_le_pow m 10 (by decide);omega
    omega
   conv=>rhs;rw[Lib.decDigits,dif_neg hv]
theorem xV {xs:List Nat}(hx:∀ x∈xs,x<BB){i k:Nat}(hi:i<xs.length)(hk:k<9):aj xs / 10^(9*i+k)%10=xs.getD i 0 / 10^k%10:=by
 have hsplit:xs=xs.take i++(xs.getD i 0 :: xs.drop (i+1)):=by
  conv=>lhs;rw[← List.take_append_drop i xs]
  congr 1
  rw[List.drop_eq_getElem_cons hi];simp[List.getD,hi]
 have hlen:(xs.take i).length=i:=by simp;omega
 have hlt:=eB (xs.take i) (fun x h=>hx x (List.mem_of_mem_take h));rw[hlen]at hlt
 have hv:aj xs=aj (xs.take i)+BB^i*(xs.getD i 0+BB*aj (xs.drop (i+1))):=by
  conv=>lhs;rw[hsplit]
  rw[eH,hlen];rfl
 have hB:BB^i=10^(9*i):=by rw[Nat.pow_mul,show BB=10^9 from by rw[aG]]
 rw[hv,Nat.pow_add,← hB,← Nat.div_div_eq_div_mul,Nat.add_mul_div_left _ _ (Nat.pow_pos bP),Nat.div_eq_of_lt hlt,Nat.zero_add]
 obtain⟨e,he⟩:∃ e,BB=10^k*(10*e):=⟨10^(8-k),by
  rw[show(10:Nat)*10^(8-k)=10^(9-k) by rw[← Nat.pow_succ'];congr 1;omega,← Nat.pow_add,show k+(9-k)=9 by omega,aG]⟩
 rw[he,Nat.mul_assoc,Nat.mul_assoc,Nat.add_mul_div_left _ _ (Nat.pow_pos (by decide)),Nat.add_mul_mod_self_left]
def swp (L:List UInt8) (i:Nat):List UInt8:=(List.range L.length).map fun j=>if j<i∨L.length<j+1+i then L.getD (L.length-1-j) 0 else L.getD j 0
theorem ek (L:List UInt8)(i:Nat):(swp L i).length=L.length:=by simp[swp]
theorem swp_get (L:List UInt8)(i:Nat){j:Nat}(hj:j<L.length):(swp L i).getD j 0=if j<i∨L.length<j+1+i then L.getD (L.length-1-j) 0 else L.getD j 0:=by
 unfold swp
 simp[List.getD,hj]
theorem qZ {A B:List UInt8}(h:A.length=B.length)(hg:∀ j,j<A.length→A.getD j 0=B.getD j 0):A=B:=by
 apply List.ext_getElem h
 intro j h1 h2;have:=hg j h1;simpa [List.getD,h1,h2] using this
theorem z1v (L:List UInt8):swp L 0=L:=by
 refine qZ (ek L 0) (fun j hj=>?_);rw[ek]at hj;rw[swp_get L 0 hj,if_neg (by omega)]
theorem z1y (L:List UInt8)(i:Nat)(h:L.length≤2*i+1):swp L i=L.reverse:=by
 refine qZ (by rw[ek,List.length_reverse]) (fun j hj=>?_);rw[ek]at hj;rw[swp_get L i hj]
 have hr:L.reverse.getD j 0=L.getD (L.length-1-j) 0:=by
  have h2:L.length-1-j<L.length:=by omega
  simp[List.getD,hj,h2]
 rw[hr];split
 · rfl
 · rename_i hn
   rw[show L.length-1-j=j by omega]
theorem z3M (L:List UInt8)(i:Nat)(h:2*i+1<L.length):(swp L i).getD i 0=L.getD i 0:=by
 rw[swp_get L i (by omega),if_neg (by omega)]
theorem z1x (L:List UInt8)(i:Nat)(h:2*i+1<L.length):(swp L i).getD (L.length-1-i) 0=L.getD (L.length-1-i) 0:=by
 rw[swp_get L i (by omega),if_neg (by omega)]
theorem z1w (L:List UInt8)(i:Nat)(h:2*i+1<L.length):((swp L i).set i (L.getD (L.length-1-i) 0)).set (L.length-1-i) (L.getD i 0)=swp L (i+1):=by
 refine qZ (by simp[ek]) (fun j hj=>?_);simp[ek]at hj
 have hs:∀ (A:List UInt8) (m:Nat) (v:UInt8),j<A.length→(A.set m v).getD j 0=if m=j then v else A.getD j 0:=by
  intro A m v hA;by_cases hm:m=j
  · subst hm;simp[List.getD,hA]
  · simp[List.getD,hm]
 rw[hs _ _ _ (by simp[ek,hj]),hs _ _ _ (by simp[ek,hj]),swp_get L i hj,swp_get L (i+1) hj];by_cases h1:L.length-1-i=j
 · rw[if_pos h1,if_pos (by omega),← h1,show L.length-1-(L.length-1-i)=i by omega]
 · rw[if_neg h1]
   by_cases h2:i=j
   · subst h2
     rw[if_pos rfl,if_pos (by omega)]
   · rw[if_neg h2]
     by_cases h3:j<i∨L.length<j+1+i
     · rw[if_pos h3,if_pos (by omega)]
     · rw[if_neg h3,if_neg (by omega)]
end Go.Gb
namespace Go.Gb
open Go.Lib
def MM (r:Nat):Nat:=999999999+r*999999998000000001
theorem z5m {r:Nat}(h:r≤18):MM r≤17999999965000000017:=by unfold MM;omega
def lG (xs ys:List Nat) (i c:Nat):Prop:=ys.length=i∧(∀ w∈ys,w<BB)∧c≤18000000000∧aj ys+BB^i*c=aj (xs.take i)
theorem lG.start (xs:List Nat):lG xs [] 0 0:=⟨rfl,by simp,by omega,by simp[aj]⟩
theorem lG.step {xs ys:List Nat}{i c:Nat}(h:lG xs ys i c)(hi:i<xs.length)(hx:xs.getD i 0≤MM 18):lG xs (ys++[(xs.getD i 0+c)%BB]) (i+1) ((xs.getD i 0+c) / BB)∧xs.getD i 0+c≤18446744073709551615:=by
 obtain⟨h1,h2,h3,h4⟩:=h;have hM:=z5m (r:=18) (by omega);have hB:=aG;refine⟨⟨by simp[h1],?_,?_,?_⟩,by omega⟩
 · intro w hw
   rcases List.mem_append.1 hw with hw|hw
   · exact h2 w hw
   · have hw:=List.mem_singleton.1 hw;rw[hw];exact Nat.mod_lt _ bP
 · rw[hB];omega
 · rw[dP,h1,dL hi,Nat.pow_succ,Nat.mul_assoc,Nat.add_assoc,← Nat.mul_add,Nat.mod_add_div,Nat.mul_add];omega
theorem lG.done {xs ys:List Nat}{c:Nat}(h:lG xs ys xs.length c):ys.length=xs.length∧(∀ w∈ys,w<BB)∧aj ys+BB^xs.length*c=aj xs:=by
 obtain⟨h1,h2,h3,h4⟩:=h;rw[List.take_of_length_le (Nat.le_refl _)]at h4;exact⟨h1,h2,h4⟩
theorem qo {a b:Nat}(ha:a<BB)(hb:b<BB):a*b≤999999998000000001:=by
 have h:a*b≤999999999*999999999:=Nat.mul_le_mul (by have:=aG;omega) (by have:=aG;omega);omega
def jm (x y os:List Nat) (i:Nat):Prop :=
 os.length=x.length+y.length∧aj os=aj (x.take i)*aj y∧(∀ j,j<os.length→os.getD j 0≤MM (i%18))∧∀ j,j<i-i%18→os.getD j 0<BB
def kr (x y os:List Nat) (i k:Nat):Prop :=
 os.length=x.length+y.length∧aj os=aj (x.take i)*aj y+BB^i*(x.getD i 0*aj (y.take k))∧(∀ j,j<os.length→os.getD j 0≤MM (i%18+1))∧(∀ j,i+k≤j→j<os.length→os.getD j 0≤MM (i%18))∧∀ j,j<i-i%18→os.getD j 0<BB
theorem jm.start (x y:List Nat):jm x y (List.replicate (x.length+y.length) 0) 0:=by
 refine⟨by simp,?_,?_,by intro j hj;omega⟩
 · have:=fB [] (x.length+y.length)
   simp only[List.nil_append]at this;rw[this];simp[aj]
 · intro j hj
   rw[bW hj];simp
theorem jm.row {x y os:List Nat}{i:Nat}(h:jm x y os i):kr x y os i 0:=by
 obtain⟨h1,h2,h3,h4⟩:=h;refine⟨h1,by simp[h2,aj],fun j hj=>Nat.le_trans (h3 j hj) (by unfold MM;omega),fun j _ hj=>h3 j hj,h4⟩
theorem kr.step {x y os:List Nat}{i k:Nat}(h:kr x y os i k)(hi:i<x.length)(hk:k<y.length)(hx:∀ w∈x,w<BB)(hy:∀ w∈y,w<BB) :
 kr x y (os.set (i+k) (os.getD (i+k) 0+x.getD i 0*y.getD k 0)) i (k+1)∧os.getD (i+k) 0+x.getD i 0*y.getD k 0≤MM 18:=by
 obtain⟨h1,h2,h3,h4,h5⟩:=h;have hp:=qo (hx _ (bf hi)) (hy _ (bf hk));have hc:=h4 (i+k) (Nat.le_refl _) (by omega);have hr:i%18<18:=Nat.mod_lt _ (by decide);have hM:MM (i%18+1)=MM (i%18)+999999998000000001:=by unfold MM;omega
 refine⟨⟨by simp[h1],?_,?_,?_,?_⟩,?_⟩
 · have hs:=qm (xs:=os) (i:=i+k) (v:=os.getD (i+k) 0+x.getD i 0*y.getD k 0) (by omega)
   rw[Nat.mul_add,h2]at hs;rw[dL hk]
   have e:BB^(i+k)*(x.getD i 0*y.getD k 0)=BB^i*(x.getD i 0*(BB^k*y.getD k 0)):=by
    rw[Nat.pow_add,Nat.mul_assoc,Nat.mul_left_comm (BB^k)]
   rw[e]at hs;rw[Nat.mul_add (x.getD i 0),Nat.mul_add (BB^i)];omega
 · intro j hj
   simp only[List.length_set]at hj;rw[kZ];split
   · omega
   · exact h3 j hj
 · intro j hj1 hj
   simp only[List.length_set]at hj;rw[kZ,if_neg (by omega)];exact h4 j (by omega) hj
 · intro j hj
   rw[kZ,if_neg (by omega)];exact h5 j hj
 · have:MM (i%18+1)≤MM 18:=by unfold MM;omega
   omega
theorem kr.next {x y os:List Nat}{i:Nat}(h:kr x y os i y.length)(hi:i<x.length)(hr:i%18≠17):jm x y os (i+1):=by
 obtain⟨h1,h2,h3,h4,h5⟩:=h;rw[List.take_of_length_le (Nat.le_refl _)]at h2;have e:(i+1)%18=i%18+1:=by omega
 refine⟨h1,?_,by rw[e];exact h3,fun j hj=>h5 j (by omega)⟩;rw[h2,dL hi,Nat.add_mul,Nat.mul_assoc]
theorem kr.carried {x y os ys:List Nat}{i c:Nat}(h:kr x y os i y.length)(hi:i<x.length)(hr:i%18=17)(hx:∀ w∈x,w<BB)(hy:∀ w∈y,w<BB)
 (hl:ys.length=os.length-(i-17)) (hb:∀ w∈ys,w<BB) (hv:aj ys+BB^ys.length*c=aj (os.drop (i-17))):jm x y (os.take (i-17)++ys) (i+1):=by
 obtain⟨h1,h2,h3,h4,h5⟩:=h;rw[List.take_of_length_le (Nat.le_refl _)]at h2;have e:(i+1)%18=0:=by omega
 have ht:(os.take (i-17)).length=i-17:=by rw[List.length_take,Nat.min_eq_left (by omega)]
 have hlt:∀ w∈os.take (i-17)++ys,w<BB:=by
  intro w hw;rcases List.mem_append.1 hw with hw|hw
  · refine z2V (M:=BB) (fun j hj=>?_) w hw
    rw[ht]at hj;have:=h5 j (by omega);rw[bW (by rw[ht];exact hj)];rw[bW (by omega)]at this;simpa using this
  · exact hb w hw
 have hlen:(os.take (i-17)++ys).length=x.length+y.length:=by rw[List.length_append,ht,hl,← h1];omega
 have hval:aj os=aj (x.take (i+1))*aj y:=by rw[h2,dL hi,Nat.add_mul,Nat.mul_assoc]
 have hsp:=dE os (i-17) (by omega)
 have hc0:c=0:=by
  rcases Nat.eq_zero_or_pos c with h|h
  · exact h
  · exfalso
    have hX:aj (x.take (i+1))<BB^x.length:=bX (fun w hw=>hx w (List.mem_of_mem_take hw)) (by rw[List.length_take];omega);have hY:=eB y hy
    have hXY:aj os<BB^x.length*BB^y.length:=by
        rw[hval];rcases Nat.eq_zero_or_pos (aj y) with h0|h0
        · rw[h0,Nat.mul_zero];exact Nat.mul_pos (Nat.pow_pos bP) (Nat.pow_pos bP)
        · exact Nat.mul_lt_mul_of_lt_of_le hX (Nat.le_of_lt hY) (by omega)
    rw[← Nat.pow_add,← h1]at hXY;have h6:BB^os.length=BB^(i-17)*BB^ys.length:=by rw[← Nat.pow_add];congr 1;omega
    have h7:BB^(i-17)*(BB^ys.length*1)≤BB^(i-17)*aj (os.drop (i-17)):=Nat.mul_le_mul_left _ (by rw[← hv];exact Nat.le_trans (Nat.mul_le_mul_left _ h) (Nat.le_add_left _ _));rw[Nat.mul_one,← h6]at h7;omega
 refine⟨hlen,?_,?_,?_⟩
 · rw[eH,ht,← hval,hsp,← hv,hc0,Nat.mul_zero,Nat.add_zero]
 · intro j hj
   have:=hlt _ (bf hj);unfold MM;have:=aG;omega
 · intro j hj
   exact hlt _ (bf (by rw[hlen];omega))
theorem jm.done {x y os ys:List Nat}{c:Nat}(h:jm x y os x.length)(hx:∀ w∈x,w<BB)(hy:∀ w∈y,w<BB)(hv:aj ys+BB^os.length*c=aj os):aj ys=aj x*aj y:=by
 obtain⟨h1,h2,h3,h4⟩:=h;rw[List.take_of_length_le (Nat.le_refl _)]at h2;have hX:=eB x hx;have hY:=eB y hy
 have hXY:aj os<BB^os.length:=by
  rw[h2,h1,Nat.pow_add];rcases Nat.eq_zero_or_pos (aj y) with h0|h0
  · rw[h0,Nat.mul_zero];exact Nat.mul_pos (Nat.pow_pos bP) (Nat.pow_pos bP)
  · exact Nat.mul_lt_mul_of_lt_of_le hX (Nat.le_of_lt hY) (by omega)
 have hc0:c=0:=by
  rcases Nat.eq_zero_or_pos c with h|h
  · exact h
  · have:BB^os.length*1≤BB^os.length*c:=Nat.mul_le_mul_left _ h
    omega
 rw[hc0]at hv;omega
theorem vw {U V T3 V2 P g:Nat}(hP:0<P)(hV:V2*P≤V)(hV':V<(V2+1)*P)(hU:T3*P≤U)(hg:g*V2≤T3)(hgV:g≤V2):g≤U / V+1:=by
 rcases Nat.eq_zero_or_pos g with h0|h0
 · rw[h0];exact Nat.zero_le _
 have hV0:0<V:=Nat.lt_of_lt_of_le (Nat.mul_pos (by omega) hP) hV;have h1:g*V<g*((V2+1)*P):=Nat.mul_lt_mul_of_pos_left hV' h0;have h2:g*((V2+1)*P)=g*V2*P+g*P:=by rw[Nat.add_mul,Nat.one_mul,Nat.mul_add,Nat.mul_assoc]
 have h3:g*V2*P≤T3*P:=Nat.mul_le_mul_right _ hg;have h4:g*P≤V2*P:=Nat.mul_le_mul_right _ hgV;have h5:g*V<U+V:=by omega
 have h6:(g-1)*V≤U:=by
  have:g*V=(g-1)*V+V:=by
   conv=>lhs;rw[show g=(g-1)+1 by omega,Nat.add_mul,Nat.one_mul]
  omega
 have h7:=(Nat.le_div_iff_mul_le hV0).2 h6;generalize U / V=q at *;omega
theorem quo_le {U V T3 V2 P:Nat}(hV0:0<V2)(hV:V2*P≤V)(hU:U<(T3+1)*P):U / V≤T3 / V2:=by
 rw[Nat.le_div_iff_mul_le hV0];have h1:U / V*V≤U:=Nat.div_mul_le_self U V;have h2:U / V*(V2*P)≤U / V*V:=Nat.mul_le_mul_left _ hV;have h3:U / V*V2*P<(T3+1)*P:=by rw[Nat.mul_assoc];omega
 have h4:=Nat.lt_of_mul_lt_mul_right h3;omega
end Go.Gb
namespace Go.Gb
def iQ (x0 y0 x y a b c d:Nat) (o:Bool):Prop :=
 x0=d*x+b*y∧y0=c*x+a*y∧Nat.gcd x y=Nat.gcd x0 y0∧(o=true→b*y0=a*x0+x∧c*x0=d*y0+y)∧(o=false→a*x0=b*y0+x∧d*y0=c*x0+y)
theorem iQ.start (x y:Nat):iQ x y x y 1 0 0 1 false:=by
 refine⟨by omega,by omega,rfl,?_,?_⟩
 · intro h;cases h
 · intro _;constructor<;>omega
theorem iQ.step {x0 y0 x y a b c d:Nat}{o:Bool}(h:iQ x0 y0 x y a b c d o):iQ x0 y0 y (x%y) c d (a+x / y*c) (b+x / y*d) (!o):=by
 obtain⟨h1,h2,h3,h4,h5⟩:=h;have hx:=Nat.div_add_mod x y;generalize x / y=q at *;have h6:Nat.gcd y (x%y)=Nat.gcd x0 y0:=by rw[← h3,Nat.gcd_comm y,← Nat.gcd_rec,Nat.gcd_comm]
 generalize x%y=r at *;refine⟨?_,?_,h6,fun ho=>?_,fun ho=>?_⟩
 · grind
 · grind
 · have:=h5 (by cases o<;>simp_all)
   grind
 · have:=h4 (by cases o<;>simp_all)
   grind
theorem iQ.bound {x0 y0 x y a b c d:Nat}{o:Bool}(h:iQ x0 y0 x y a b c d o)(hx:0<x):d≤x0∧c≤y0:=by
 obtain⟨h1,h2,_⟩:=h;have g1:d*1≤d*x:=Nat.mul_le_mul_left _ hx;have g2:c*1≤c*x:=Nat.mul_le_mul_left _ hx;omega
end Go.Gb
namespace Go.Proofs.YteihfbkaieemdaaGreatDoor
open Go.RowKit
abbrev CQ (f : FuncId) (args : Array Value) (v : Value) : Prop := ∀ W, Calls Tryz.prog f args W fun e w' => e = .returned v ∧ Below W.heap.size W w'
abbrev CR (f : FuncId) (args : Array Value) (w : World) (v : Value) : Prop := Calls Tryz.prog f args w fun e w' => e = .returned v ∧ Below w.heap.size w w'
end Go.Proofs.YteihfbkaieemdaaGreatDoor
namespace Go.Gb
open Go.RowKit
def cls (k:IntKind) (xs:List Nat):List Value:=xs.map fun(n:Nat)=>Value.int k (n:Int)
theorem eU (k:IntKind)(xs:List Nat):(cls k xs).length=xs.length:=by simp[cls]
theorem df (k:IntKind)(xs ys:List Nat):cls k (xs++ys)=cls k xs++cls k ys:=by simp[cls]
theorem jI {k:IntKind}{xs:List Nat}{i:Nat}(h:i<xs.length):(cls k xs)[i]? = some (Value.int k ((xs.getD i 0:Nat):Int)):=by
 simp[cls,List.getD,h]
theorem rH (k:IntKind)(xs:List Nat)(i v:Nat):cls k (xs.set i v)=(cls k xs).set i (Value.int k (v:Int)):=by simp[cls,List.map_set]
theorem mW (k:IntKind)(xs:List Nat)(n:Nat):cls k (xs.take n)=(cls k xs).take n:=by simp[cls,List.map_take]
def Rd (k:IntKind) (w:World) (v:Value) (xs:List Nat):Prop :=
 (v=.slice none 0 0∧xs=[]) ∨
 ∃ b o c,v=.slice (some ⟨b,o,none⟩) xs.length c∧xs.length≤c∧c≤maxLen∧b<w.heap.size∧∀ i,i<xs.length→w.cell? ⟨b,o+i,none⟩=some (.int k ((xs.getD i 0:Nat):Int))
theorem Rd.below {k:IntKind}{w w':World}{v:Value}{xs:List Nat}(h:Rd k w v xs)(hb:Below w.heap.size w w'):Rd k w' v xs:=by
 rcases h with h|⟨b,o,c,h1,h2,h3,h4,h5⟩
 · exact Or.inl h
 · exact Or.inr ⟨b,o,c,h1,h2,h3,Nat.lt_of_lt_of_le h4 hb.size,fun i hi=>(hb.cell (p:=⟨b,o+i,none⟩) h4).trans (h5 i hi)⟩
def Own (k:IntKind) (T:TypeId) (B:Nat) (w:World) (v:Value) (xs:List Nat):Prop:=w.ownsRow B T 1 v xs.length (cls k xs)
theorem Own.rd {k:IntKind}{T:TypeId}{B:Nat}{w:World}{v:Value}{xs:List Nat}(h:Own k T B w v xs):Rd k w v xs:=by
 obtain⟨h1,h2⟩:=h;rcases h2 with⟨h2,h3⟩|⟨g,cap,cur,hv,hg,hh,hn,hc,hs,ht⟩
 · exact Or.inl ⟨h2,List.length_eq_zero_iff.1 h3⟩
 · refine Or.inr ⟨g,0,cap,hv,hn,hc,(Array.getElem?_eq_some_iff.1 hh).1,fun i hi=>?_⟩
   have h4:=jI (k:=k) hi;rw[← ht,Nat.mul_one,List.getElem?_take,if_pos hi]at h4;simp only[World.cell?,hh,Nat.zero_add];simpa using h4
theorem Own.nil (k:IntKind)(T:TypeId)(B:Nat)(w:World):Own k T B w (.slice none 0 0) []:=World.ownsRow_nil w B T 1
theorem Own.mono {k:IntKind}{T:TypeId}{B B':Nat}{w:World}{v:Value}{xs:List Nat}(h:Own k T B w v xs)(hB:B'≤B):Own k T B' w v xs:=by
 obtain⟨h1,h2⟩:=h;refine⟨h1,?_⟩;rcases h2 with h2|⟨g,cap,cur,hv,hg,r⟩
 · exact Or.inl h2
 · exact Or.inr ⟨g,cap,cur,hv,by omega,r⟩
theorem Own.below {k:IntKind}{T:TypeId}{B:Nat}{w w':World}{v:Value}{xs:List Nat}(h:Own k T B w v xs)(hb:Below w.heap.size w w'):Own k T B w' v xs:=by
 obtain⟨h1,h2⟩:=h;refine⟨h1,?_⟩;rcases h2 with h2|⟨g,cap,cur,hv,hg,hh,r⟩
 · exact Or.inl h2
 · exact Or.inr ⟨g,cap,cur,hv,hg,by rw[hb.block g (Array.getElem?_eq_some_iff.1 hh).1];exact hh,r⟩
theorem Own.take {k:IntKind}{T:TypeId}{B:Nat}{w:World}{a:Option Addr}{n c:Nat}{xs:List Nat}(h:Own k T B w (.slice a n c) xs)(m:Nat)(hm:m≤xs.length):Own k T B w (.slice a m c) (xs.take m):=by
 obtain⟨h1,h2⟩:=h;refine⟨by simp[cls],?_⟩;rcases h2 with⟨h2,h3⟩|⟨g,cap,cur,hv,hg,hh,hn,hc,hs,ht⟩
 · injection h2 with e1 e2 e3
   subst e1 e2 e3;obtain rfl:m=0:=by omega
   left;simp
 · injection hv with e1 e2 e3
   subst e1 e2 e3;refine Or.inr ⟨g,c,cur,by simp[Nat.min_eq_left hm],hg,hh,by simp;omega,hc,hs,?_⟩;rw[mW,← ht,List.take_take,List.length_take,Nat.mul_one,Nat.mul_one,Nat.min_eq_left hm]
instance {W W':World}{i:IntKind}{v:Value}{l:List Nat}:Gr (Rd i W v l) W W' (Rd i W' v l):=⟨fun h k=>k.below h⟩
end Go.Gb
set_option maxRecDepth 100000
set_option maxHeartbeats 20000000
open Go.Lib (hid)
namespace Go.Proofs.YteihfbkaieemdaaGreatDoor
open Go.RowKit Go.Gb
theorem dF {a b:Bool}(h:a=b):Ending.returned (.bool a)=.returned (.bool b):=by rw[h]
theorem aF (s:ByteArray):s.data.toList.length=s.size:=rfl
theorem gm (s:ByteArray)(k:Nat)(h:k<s.size):s.data.toList[k]'(by rw[aF];exact h)=s[k]:=rfl
theorem qQ {s:ByteArray}(h:s.size=0):s.data.toList=[]:=List.length_eq_zero_iff.1 (by rw[aF];exact h)
theorem toList_data (s:ByteArray):s.toList=s.data.toList:=ByteArray.toList_eq s
def alld (s:ByteArray) (k:Nat):Prop:=(s.data.toList.take k).all isD=true
theorem lw (s:ByteArray):alld s 0:=by unfold alld;simp
theorem lC {s:ByteArray}{k:Nat}(h:alld s k)(hk:k<s.size)(h1:48≤(s[k].toNat:Int))(h2:(s[k].toNat:Int)≤57):alld s (k+1):=by
 unfold alld at *
 rw[List.take_succ_eq_append_getElem (by rw[aF];exact hk),List.all_append,h];simp only[List.all_cons,List.all_nil,Bool.and_true,Bool.true_and];rw[fK,gm s k hk];omega
theorem uL {s:ByteArray}(h0:0<s.size)(h:alld s s.size)(hc:s.size=1∨¬ (s[0].toNat:Int)=48):vld s.data.toList=true:=by
 unfold alld at h
 rw[List.take_of_length_le (by rw[aF];exact Nat.le_refl _)]at h;rw[gY];refine⟨by intro h2;rw[← aF,h2]at h0;simp at h0,h,?_⟩;rcases hc with hc|hc
 · exact Or.inl (by rw[aF];exact hc)
 · right
   have e:s.data.toList.headD 0=s[0]:=by
    cases hl:s.data.toList with
    | nil=>rw[← aF,hl]at h0;simp at h0
    | cons c l=>have:=gm s 0 h0;simp only[hl,List.getElem_cons_zero]at this;simp[this]
   rw[e];omega
theorem qw {s:ByteArray}{k:Nat}(hk:k<s.size)(h:(s[k].toNat:Int)<48∨57<(s[k].toNat:Int)):vld s.data.toList=false:=by
 cases hv:vld s.data.toList with
 | false=>rfl
 | true =>
   obtain⟨_,h2,_⟩:=(gY _).1 hv;have:=List.all_eq_true.1 h2 (s.data.toList[k]'(by rw[aF];exact hk)) (List.getElem_mem _);rw[fK,gm s k hk]at this;omega
theorem wL {s:ByteArray}(h0:1<s.size)(h:(s[0].toNat:Int)=48):vld s.data.toList=false:=by
 cases hv:vld s.data.toList with
 | false=>rfl
 | true =>
   obtain⟨_,_,h3⟩:=(gY _).1 hv;rw[aF]at h3
   have e:s.data.toList.headD 0=s[0]:=by
    cases hl:s.data.toList with
    | nil=>rw[← aF,hl]at h0;simp at h0
    | cons c l=>have:=gm s 0 (by omega);simp only[hl,List.getElem_cons_zero]at this;simp[this]
   rw[e]at h3;omega
theorem uF (s:ByteArray)(w:World)(hs:s.size≤maxLen) :
 Calls Tryz.prog 170 #[.string s] w fun e w'=>e=.returned (.bool (vld s.data.toList))∧w=w':=by
 unfold maxLen at hs
 by_cases h0:s.size=0
 · have hE:s.toList=[]:=by rw[toList_data];exact qQ h0
   go_enter func170,ntmps170
   go_wp2;go_ret
   exact⟨dF (by rw[qQ h0];rfl),rfl⟩
 · have h0:0<s.size:=by omega
   have hE2:¬ s.toList=[]:=by rw[toList_data];intro h;rw[← aF,h]at h0;simp at h0
   have hE1:s.toList.isEmpty=false:=by simpa using hE2
   by_cases hc:(s[0].toNat:Int)=48∧1<s.size
   · obtain⟨hc1,hc2⟩:=hc
     have hb:((s[0].toNat:Int)==48)=true:=by simpa using hc1
     have hfin:=hid (wL hc2 hc1);clear hc1;go_enter func170,ntmps170
     go_wp2;go_ret
     exact⟨dF hfin.o.symm,rfl⟩
   · have hc':=hid (show s.size=1∨¬ (s[0].toNat:Int)=48 by omega)
     have hl:((s[0].toNat:Int)==48)=true∧s.size≤1∨((s[0].toNat:Int)==48)=false:=by
        by_cases hb:(s[0].toNat:Int)=48
        · exact Or.inl ⟨by simpa using hb,by omega⟩
        · exact Or.inr (by simpa using hb)
     clear hc;rcases hl with⟨hb,hl⟩|hb
     all_goals
        go_enter func170,ntmps170
        go_wp2;go_loop [18,3] (fun i _=>∃ k:Nat,k≤s.size∧i=.int .i64 k∧alld s k) (fun i _=>s.size-(intOf i).toNat)
        case atStart=>exact⟨0,Nat.zero_le _,rfl,lw s⟩
        case round =>
         obtain⟨k,hk,rfl,ha⟩:=hrel;go_wp2
         all_goals first
          | (go_round
             case rel=>exact⟨k+1,by omega,by go_num,lC ha (by assumption) (by omega) (by omega)⟩
             case measure=>simp[intOf];omega)
          | (have hlt:k<s.size:=by assumption
             go_ret
             exact⟨dF (qw hlt (by omega)).symm,rfl⟩)
          | (obtain rfl:k=s.size:=by omega
             go_ret
             exact⟨dF (uL h0 ha hc'.o).symm,rfl⟩)
theorem bU (s:ByteArray)(hv:vld s.data.toList=true)(hs:s.size≤maxLen)(w:World) :
 Calls Tryz.prog 170 #[.string s] w fun e w'=>e=.returned (.bool true)∧w=w' :=
 (uF s w hs).mono fun e w' ⟨h1,h2⟩=>⟨by rw[h1,hv],h2⟩
theorem xU (s:ByteArray)(hv:vld s.data.toList=false)(hs:s.size≤maxLen)(w:World) :
 Calls Tryz.prog 170 #[.string s] w fun e w'=>e=.returned (.bool false)∧w=w' :=
 (uF s w hs).mono fun e w' ⟨h1,h2⟩=>⟨by rw[h1,hv],h2⟩
def cmpN (m n:Nat):Int:=if m<n then -1 else if n<m then 1 else 0
theorem gI {m n:Nat}(h:m<n):cmpN m n = -1:=by unfold cmpN;rw[if_pos h]
theorem iP {m n:Nat}(h:n<m):cmpN m n=1:=by unfold cmpN;rw[if_neg (by omega),if_pos h]
theorem rG (m:Nat):cmpN m m=0:=by unfold cmpN;rw[if_neg (by omega),if_neg (by omega)]
theorem lW {l m:List UInt8}(hl:l.length=m.length):∀ (p:List UInt8),(l.all isD)=true→(m.all isD)=true→Lib.compareBytes l m=cmpN (aI (p++l)) (aI (p++m)):=by
 induction l generalizing m with
 | nil =>
   intro p _ _;have:m=[]:=List.length_eq_zero_iff.1 (by simpa using hl.symm);subst this;rw[rG];rfl
 | cons a l ih =>
   intro p h1 h2
   cases m with
   | nil=>simp at hl
   | cons b m =>
     simp only[List.all_cons,Bool.and_eq_true]at h1 h2;have hlm:l.length=m.length:=by simpa using hl
     unfold Lib.compareBytes
     by_cases hab:a<b
     · rw[if_pos hab,gI (xL hlm h1.2 h1.1 h2.1 (UInt8.lt_iff_toNat_lt.1 hab))]
     · by_cases hba:b<a
       · rw[if_neg hab,if_pos hba,iP (xL hlm.symm h2.2 h2.1 h1.1 (UInt8.lt_iff_toNat_lt.1 hba))]
       · have e:a=b:=by
          apply UInt8.toNat_inj.1
          rw[UInt8.lt_iff_toNat_lt]at hab hba;omega
         subst e;rw[if_neg hab,if_neg hba,ih hlm (p++[a]) h1.2 h2.2];simp
theorem mM {l m:List UInt8}(h1:vld l=true)(h2:vld m=true)(hl:l.length=m.length):Lib.compareBytes l m=cmpN (aI l) (aI m):=by
 have:=lW hl [] ((gY _).1 h1).2.1 ((gY _).1 h2).2.1;simpa using this
theorem dQ {k:IntKind}{a b:Int}(h:a=b):Ending.returned (.int k a)=.returned (.int k b):=by rw[h]
theorem iy (a b:ByteArray)(ha:vld a.data.toList=true)(hb:vld b.data.toList=true)(w:World) :
 Calls Tryz.prog 221 #[.string a,.string b] w fun e w'=>e=.returned (.int .i64 (cmpN (aI a.data.toList) (aI b.data.toList)))∧w=w':=by
 have hlt:=hid (fun h=>fo ha hb h);have hgt:=hid (fun h=>fo hb ha h);have heq:=hid (fun h=>mM ha hb h);clear ha hb;rcases Nat.lt_trichotomy a.size b.size with h|h|h
 · go_enter func221,ntmps221
   go_wp2_with fail
   go_ret
   exact⟨dQ (gI (hlt.o h)).symm,rfl⟩
 · have h1:¬ a.size<b.size:=by omega
   have h2:¬ b.size<a.size:=by omega
   have H:=hid h;clear h;go_enter func221,ntmps221
   go_wp2_with (go_at_call 239;refine(Tryz.strings_Compare _ _ _).mono ?_;rintro e w' ⟨rfl,rfl⟩)
   go_ret
   exact⟨dQ (heq.o H.o),rfl⟩
 · have h1:¬ a.size<b.size:=by omega
   go_enter func221,ntmps221
   go_wp2_with fail
   go_ret
   exact⟨dQ (iP (hgt.o h)).symm,rfl⟩
theorem wH (a b:ByteArray)(ha:vld a.data.toList=true)(hb:vld b.data.toList=true)(hsa:a.size≤maxLen)(hsb:b.size≤maxLen)(w:World) :
 Calls Tryz.prog 201 #[.string a,.string b] w fun e w'=>e=.returned (.tuple #[.int .i64 (cmpN (aI a.data.toList) (aI b.data.toList)),.int .i64 0])∧w=w':=by
 have HA:=hid ha;have HB:=hid hb;clear ha hb;go_enter func201,ntmps201
 go_wp2_with fail
 refine(bU a HA.o hsa _).mono ?_;rintro e w' ⟨rfl,rfl⟩;go_wp2_with fail
 refine(bU b HB.o hsb _).mono ?_;rintro e w' ⟨rfl,rfl⟩;go_wp2_with fail
 refine(iy a b HA.o HB.o _).mono ?_;rintro e w' ⟨rfl,rfl⟩;go_wp2;go_ret2
 exact⟨rfl,rfl⟩
end Go.Proofs.YteihfbkaieemdaaGreatDoor
open Go.Lib (hid)
namespace Go.Proofs.YteihfbkaieemdaaGreatDoor
open Go.RowKit Go.Gb Go.Lib Go.Sort
def Tb (w:World):Prop:=Lib.TabIs Tryz.prog w "internal/strconv.uint64pow10" .u64 Lib.pow10Tab
theorem Tb.on {w w':World}(h:Tb w)(hb:Below w.heap.size w w'):Tb w':=Lib.tabBelow_of_tabIs h w' hb
theorem z3Q {a b:List UInt8}(h:a=b):Ending.returned (.string ⟨a.toArray⟩)=.returned (.string ⟨b.toArray⟩):=by rw[h]
theorem z4o (u:Nat)(hu64:u<18446744073709551616)(w:World)(htab:Tb w) :
 CR 251 #[.int .u64 u,.int .i64 10] w (.string ⟨(Lib.decDigits u).toArray⟩):=by
 by_cases hs:u<100
 · clear hu64
   go_enter func251,ntmps251
   go_wp2_with (go_at_call 140;refine(Tryz.internal_strconv_small u hs _).mono ?_;rintro e w' ⟨rfl,rfl⟩)
   go_ret
   exact⟨rfl,Below.refl _ _⟩
 · have hu1:1≤u:=by omega
   have hnd20:Lib.nDigits u≤20:=by have:=Lib.numDigits_eq u hu1 hu64;split at this<;>omega
   have hal:Tryz.prog.arrayLen 154=24:=by kernel_rfl
   have hsl1:∀ W,(Instr.sliceAt 154 (.pointer (some ⟨w.heap.size,0,none⟩)) none (some (.int .i64 (Lib.nDigits u:Int))) none).run Tryz.prog W=.ok (.slice (some ⟨w.heap.size,0,none⟩) (Lib.nDigits u) 24) W:=fun W=>by
    rw[run_sliceAt_array_h W 154 ⟨w.heap.size,0,none⟩ (by simp[Program.arrayLen,Program.elem,underlying154]) .i64 (Lib.nDigits u:Int) (by omega) (by rw[hal];omega)];go_simp
   have hH0:=Lib.holds_zero0 w 154 (Lib.nDigits u) (by omega);have hfmt:=Tryz.internal_strconv_formatBase10 w.heap.size 0 24 u (Array.replicate (Lib.nDigits u) 0) (w.alloc (.cells Lib.zeros24 154)) hH0 (by rw[Array.size_replicate];exact Lib.lt_pow_nDigits u) hu64 (by rw[Array.size_replicate];omega);rw[Array.size_replicate]at hfmt;obtain ⟨HH0,HU,HT⟩:=ak hH0 hu64 htab;clear hH0 hal hu64 htab;go_enter func251,ntmps251
   go_wp2_with (go_at_call 141;refine(Tryz.internal_strconv_numDigits u hu1 HU.o _ (Lib.tabIs_alloc HT.o _)).mono ?_;rintro e w' ⟨rfl,rfl⟩)
   refine hfmt.mono ?_;rintro e w' ⟨rfl,k,v',dk,rfl,hF⟩
   have hcv:(convert 148 9 (.slice (some ⟨w.heap.size,0,none⟩) (Lib.nDigits u) 24)).run Tryz.prog ((putRow (fun(b:UInt8)=>Value.int .u8 (b.toNat:Int)) (w.alloc (.cells Lib.zeros24 154)) w.heap.size 0 dk).drewN k)=.ok (.string ⟨(Lib.decDigits u).toArray⟩) ((putRow (fun(b:UInt8)=>Value.int .u8 (b.toNat:Int)) (w.alloc (.cells Lib.zeros24 154)) w.heap.size 0 dk).drewN k):=by
    have h:=run_convert_bytes_back (P:=Tryz.prog) ((putRow (fun(b:UInt8)=>Value.int .u8 (b.toNat:Int)) (w.alloc (.cells Lib.zeros24 154)) w.heap.size 0 dk).drewN k) 148 9 5 ⟨w.heap.size,0,none⟩ 24 (Lib.decDigits u) underlying148 underlying5 underlying9 (fun j hj=>by
        rw[Lib.row_is_numeral hF j hj,Lib.add_plain,World.cell?_drewN]
        exact cell?_putRow (fun(b:UInt8)=>Value.int .u8 (b.toNat:Int)) _ w.heap.size 0 _ dk HH0.o (by rw[hF.size,Array.size_replicate]) j (by rw[hF.size];rw[Lib.decDigits_length]at hj;exact hj))
    rw[Lib.decDigits_length]at h;exact h
   have hb:Below w.heap.size w ((putRow (fun(b:UInt8)=>Value.int .u8 (b.toNat:Int)) (w.alloc (.cells Lib.zeros24 154)) w.heap.size 0 dk).drewN k):=by
    obtain⟨os,eo⟩:=Lib.fin_at w (.cells Lib.zeros24 154) dk k 0;rw[eo];exact Lib.below_grow _ w (Nat.le_refl _) k os
   go_wp2;go_ret
   exact⟨rfl,hb⟩
theorem oO (u:Nat)(hu64:u<18446744073709551616)(w:World)(htab:Tb w) :
 CR 241 #[.int .u64 u,.int .i64 10] w (.string ⟨(Lib.decDigits u).toArray⟩):=by
 have HU:=hid hu64;clear hu64;go_enter func241,ntmps241
 go_wp2_with fail
 refine(z4o u HU.o _ htab).mono ?_;rintro e w' ⟨rfl,hb⟩;go_wp2;go_ret
 exact⟨rfl,hb⟩
theorem nk (u:Nat)(hu64:u<18446744073709551616)(w:World)(htab:Tb w) :
 CR 223 #[.int .u64 u] w (.string ⟨(Lib.decDigits u).toArray⟩):=by
 have HU:=hid hu64;clear hu64;go_enter func223,ntmps223
 go_wp2_with fail
 refine(oO u HU.o _ htab).mono ?_;rintro e w' ⟨rfl,hb⟩;go_wp2;go_ret
 exact⟨rfl,hb⟩
theorem tq (l:List UInt8):∀ acc:Nat,l.all isD=true→(acc+1)*10^l.length≤10000000000000000000→Lib.parseUintM 18446744073709551615 acc l=.ok (l.foldl (fun n c=>n*10+(c.toNat-48)) acc):=by
 induction l with
 | nil=>intro acc _ _;rfl
 | cons c l ih =>
   intro acc h hb;simp only[List.all_cons,Bool.and_eq_true]at h;have hc:=(fK c).1 h.1;have hp:1≤10^l.length:=Nat.one_le_pow _ _ (by decide);rw[List.length_cons,Nat.pow_succ,Nat.mul_comm (10^l.length),← Nat.mul_assoc]at hb;have h1:(acc+1)*10*1≤(acc+1)*10*10^l.length:=Nat.mul_le_mul_left _ hp;have h2:(acc*10+(c.toNat-48)+1)*10^l.length≤(acc+1)*10*10^l.length:=Nat.mul_le_mul_right _ (by omega);rw[Lib.parseUintM,if_pos hc,if_neg (by omega),if_neg (by omega),ih _ h.2 (by omega)];rfl
theorem nE (l:List UInt8)(h:vld l=true)(hl:l.length≤19):Lib.parseUintB 64 l=.ok (aI l):=by
 obtain⟨h1,h2,_⟩:=(gY l).1 h;unfold Lib.parseUintB
 rw[if_neg h1];have hp:10^l.length≤10^19:=Nat.pow_le_pow_right (by decide) hl;exact tq l 0 h2 (by omega)
theorem iE (s:ByteArray)(hv:vld s.data.toList=true)(hl:s.size≤19)(w:World) :
 CR 222 #[.string s] w (.int .u64 (aI s.data.toList:Nat)):=by
 have HP:=hid (nE s.data.toList hv (by rw[aF];exact hl));clear hv;have HM:=hid (show s.size≤9223372036854775806 by omega);go_enter func222,ntmps222
 go_wp2_with fail
 refine(Tryz.strconv_ParseUint_10_at64_ok s HM.o _ HP.o _).mono ?_;rintro e w' ⟨rfl,hw⟩
 have hb:Below w.heap.size w w':=by
  rcases hw with rfl|rfl
  · exact Below.refl _ _
  · exact Lib.bytesWorld_below w _ s
 clear hw;go_wp2;go_ret
 exact⟨rfl,hb⟩
theorem oP (B n u:Nat)(hu64:u<18446744073709551616)(sv:Value)(xs:List Value)(w:World)(hown:w.ownsRow B 5 1 sv n xs)(hBw:B≤w.heap.size)(hlim:n≤1000000)(htab:Tb w) :
 Calls Tryz.prog 178 #[sv,.int .u64 u,.int .i64 10] w fun e w'=>∃ v',e=.returned v'∧w'.ownsRow B 5 1 v' (n+(Lib.decDigits u).length) (xs++Lib.byteCells (Lib.decDigits u))∧Below B w w':=by
 have hc:Calls Tryz.prog 203 #[sv,.int .u64 u,.int .i64 10] w fun e w'=>∃ v',e=.returned v'∧w'.ownsRow B 5 1 v' (n+(Lib.decDigits u).length) (xs++Lib.byteCells (Lib.decDigits u))∧Below B w w':=by
  by_cases hs:u<100
  · exact(Tryz.internal_strconv_AppendUint_10_small B n u hs sv xs w hown hBw (by omega)).mono fun e w' ⟨v',h1,h2,h3,_⟩=>⟨v',h1,h2,h3⟩
  · exact(Tryz.internal_strconv_AppendUint_10_big B n u (by omega) hu64 sv xs w hown hBw (by omega) htab).mono fun e w' ⟨v',h1,h2,h3,_⟩=>⟨v',h1,h2,h3⟩
 clear hu64 hown htab;go_enter func178,ntmps178
 go_wp2_with fail
 refine hc.mono ?_;rintro e w' ⟨v',rfl,hown',hb⟩;go_wp2;go_ret
 exact⟨v',rfl,hown',hb⟩
end Go.Proofs.YteihfbkaieemdaaGreatDoor
open Go.Lib (hid)
namespace Go.Proofs.YteihfbkaieemdaaGreatDoor
open Go.RowKit Go.Gb
theorem Tryz.info131:(Tryz.prog.info? 131).map (fun i=>(i.zero,i.size,i.bytes))=some (some (.int .u64 0),1,8):=by kernel_rfl
theorem kL {a:Option Addr}{n m c:Nat}(h:n=m):Ending.returned (.slice a n c)=.returned (.slice a m c):=by rw[h]
theorem oJ {s:ByteArray}{k:Nat}(hk:k<s.size)(h:s.data.toList.all isD=true) :
 aI (s.data.toList.take (k+1))=aI (s.data.toList.take k)*10+(s[k].toNat-48)∧48≤s[k].toNat∧s[k].toNat≤57:=by
 have h1:=List.all_eq_true.1 h (s.data.toList[k]'(by rw[aF];exact hk)) (List.getElem_mem _);rw[fK,gm s k hk]at h1;rw[List.take_succ_eq_append_getElem (by rw[aF];exact hk),l7,gm s k hk];exact⟨rfl,h1⟩
theorem uk {s:ByteArray}(h:s.data.toList.all isD=true){k:Nat}(hk:k≤8):aI (s.data.toList.take k)<100000000:=by
 have h1:=il (s.data.toList.take k) (by
  rw[List.all_eq_true]at h ⊢
  exact fun c hc=>h c (List.mem_of_mem_take hc))
 have h2:10^(s.data.toList.take k).length≤10^8:=Nat.pow_le_pow_right (by decide) (by rw[List.length_take];omega);omega
theorem zl (s:ByteArray)(h:s.data.toList.all isD=true)(hl:s.size≤9)(w:World) :
 Calls Tryz.prog 211 #[.string s] w fun e w'=>e=.returned (.int .u64 ((aI s.data.toList:Nat):Int))∧w=w':=by
 have H:=hid h;clear h;go_enter func211,ntmps211
 go_wp2;go_loop [3,7,4] (fun n i _=>∃ (k m:Nat),k≤s.size∧i=.int .i64 k∧n=.int .u64 (m:Int)∧Hid (m=aI (s.data.toList.take k))) (fun _ i _=>s.size-(intOf i).toNat)
 case atStart=>exact⟨0,0,Nat.zero_le _,rfl,rfl,rfl⟩
 case round =>
  obtain⟨k,m,hk,rfl,rfl,hm⟩:=hrel;by_cases hlt:k<s.size
  · obtain⟨h1,h2,h3⟩:=oJ hlt H.o
    have h4:m<100000000:=by rw[hm.o];exact uk H.o (by omega)
    have H1:=hid h1;clear h1;go_wp2;go_round
    case rel=>exact⟨k+1,m*10+(s[k].toNat-48),by omega,by go_num,by congr 1;omega,by have:=hm.o;subst this;exact H1.o.symm⟩
    case measure=>simp[intOf];omega
  · have hk':k=s.size:=by omega
    have HK:=hid hk';clear hk';go_wp2;go_ret
    refine⟨dQ ?_,rfl⟩;rw[hm.o,HK.o,List.take_of_length_le (by rw[aF];exact Nat.le_refl _)]
def Zs (xs:List Nat) (n:Nat):Prop:=n≤xs.length∧∀ i,n≤i→i<xs.length→xs.getD i 0=0
theorem Zs.start (xs:List Nat):Zs xs xs.length:=⟨Nat.le_refl _,fun i h1 h2=>by omega⟩
theorem Zs.step {xs:List Nat}{n:Nat}(h:Zs xs n)(h0:xs.getD (n-1) 0=0):Zs xs (n-1):=by
 refine⟨by have:=h.1;omega,fun i h1 h2=>?_⟩;by_cases hi:n≤i
 · exact h.2 i hi h2
 · obtain rfl:i=n-1:=by omega
   exact h0
theorem Zs.fin {xs:List Nat}{n:Nat}(h:Zs xs n)(hB:∀ x∈xs,x<BB)(hl:n=0∨xs.getD (n-1) 0≠0):n=(ae (aj xs)).length:=by
 rw[iw h.1 hB h.2 hl,List.length_take,Nat.min_eq_left h.1]
theorem og (b o c:Nat)(xs:List Nat)(hB:∀ x∈xs,x<BB)(hxc:xs.length≤c)(hcm:c≤maxLen)(w:World)
 (hc:∀ i,i<xs.length→w.cell? ⟨b,o+i,none⟩=some (.int .u64 ((xs.getD i 0:Nat):Int))) :
 Calls Tryz.prog 206 #[.slice (some ⟨b,o,none⟩) xs.length c] w fun e w'=>e=.returned (.slice (some ⟨b,o,none⟩) (ae (aj xs)).length c)∧w=w':=by
 unfold maxLen at hcm
 have HC:=hid hc;have HB:=hid hB;clear hc hB;go_enter func206,ntmps206
 go_wp2;go_loop [0] (fun x=>∃ n:Nat,n≤c∧x=.slice (some ⟨b,o,none⟩) n c∧Zs xs n) (fun x=>match x with | .slice _ n _=>n|_=>0)
 case atStart=>exact⟨xs.length,hxc,rfl,Zs.start xs⟩
 case round =>
  obtain⟨n,hn,rfl,hz⟩:=hrel;by_cases h0:n=0
  · have HF:=hid (hz.fin HB.o (Or.inl h0))
    subst h0;go_wp2;go_ret
    exact⟨kL HF.o,rfl⟩
  · have hp:0<n:=by omega
    have hcell:=HC.o (n-1) (by have:=hz.1;omega);by_cases hd:xs.getD (n-1) 0=0
    · rw[hd]at hcell
      have hz':=hz.step hd;clear hd;go_wp2;go_round
      case rel=>exact⟨n-1,by omega,rfl,hz'⟩
      case measure=>simp;omega
    · have HF:=hid (hz.fin HB.o (Or.inr hd))
      obtain⟨d,hdd⟩:∃ d,d=xs.getD (n-1) 0:=⟨_,rfl⟩;rw[← hdd]at hcell hd;have hb:((d:Int)==0)=false:=by simpa using hd
      have hd':0<d:=by omega
      clear hd hdd;go_wp2;go_ret
      exact⟨kL HF.o,rfl⟩
theorem fP (k:TypeId)(B:Nat)(v:Value)(xs:List Nat)(hB:∀ x∈xs,x<BB)(w:World)(h:Own .u64 k B w v xs) :
 Calls Tryz.prog 206 #[v] w fun e w'=>∃ v',e=.returned v'∧Own .u64 k B w v' (ae (aj xs))∧w=w':=by
 have hd:xs.take (ae (aj xs)).length=ae (aj xs)∧(ae (aj xs)).length≤xs.length:=by
  have hlen:(ae (aj xs)).length≤xs.length:=bO (eB xs hB);refine⟨?_,hlen⟩;generalize hm:(ae (aj xs)).length=m at hlen
  have key:∀ (n:Nat),Zs xs n→ae (aj xs)=xs.take (ae (aj xs)).length:=by
   intro n
   induction n with
   | zero=>intro hz;have e:=iw hz.1 hB hz.2 (Or.inl rfl);have:=hz.fin hB (Or.inl rfl);rw[← this];exact e
   | succ n ih =>
     intro hz;by_cases h0:xs.getD n 0=0
     · exact ih (by have:=hz.step (by simpa using h0);simpa using this)
     · have e:=iw hz.1 hB hz.2 (Or.inr (by simpa using h0))
       have:=hz.fin hB (Or.inr (by simpa using h0));rw[← this];exact e
  rw[← hm];exact(key _ (Zs.start xs)).symm
 have h0:=h;obtain⟨h1,h2⟩:=h;rcases h2 with⟨rfl,h3⟩|⟨g,cap,cur,rfl,hg,hh,hn,hc,hs,ht⟩
 · obtain rfl:xs=[]:=List.length_eq_zero_iff.1 h3
   have hz:ae (aj [])=[]:=by unfold aj;exact aT
   rw[hz];clear hd hB h0 hz;go_enter func206,ntmps206
   go_wp2;refine wp_loop_rounds 1 ?_;rw[rounds_succ];go_wp2;go_ret
   exact⟨_,rfl,Own.nil _ _ _ _,rfl⟩
 · have hrd:∀ i,i<xs.length→w.cell? ⟨g,0+i,none⟩=some (.int .u64 ((xs.getD i 0:Nat):Int)):=by
    rcases h0.rd with⟨hv,_⟩|⟨b,o,c,hv,_,_,_,h5⟩
    · injection hv with hv;cases hv
    · injection hv with e1 e2 e3
      injection e1 with e1
      injection e1 with e4 e5 e6
      subst e4 e5 e3;exact h5
   refine(og g 0 cap xs hB hn hc w hrd).mono fun e w' ⟨he,hw⟩=>⟨_,he,?_,hw⟩;have:=h0.take (ae (aj xs)).length hd.2;rwa [hd.1]at this
def Blk (w:World) (g:Nat) (zs:List Nat):Prop:=w.heap[g]? = some (.cells (cls .u64 zs).toArray 131 (0,0))
theorem Blk.lt {w:World}{g:Nat}{zs:List Nat}(h:Blk w g zs):g<w.heap.size:=(Array.getElem?_eq_some_iff.1 h).1
theorem Blk.cell {w:World}{g:Nat}{zs:List Nat}(h:Blk w g zs){i:Nat}(hi:i<zs.length):w.cell? ⟨g,i,none⟩=some (.int .u64 ((zs.getD i 0:Nat):Int)):=by
 unfold Blk at h
 have:=jI (k:=.u64) hi;simp only[World.cell?,h];simpa using this
theorem Blk.free {w:World}{g:Nat}{zs:List Nat}(h:Blk w g zs)(i:Nat):w.frozen? ⟨g,i,none⟩=false:=by
 unfold Blk at h
 simp only[World.frozen?,h];simp
theorem Blk.set {w:World}{g:Nat}{zs:List Nat}(h:Blk w g zs)(i v:Nat):Blk (w.setCell ⟨g,i,none⟩ (.int .u64 ((v:Nat):Int))) g (zs.set i v):=by
 unfold Blk at *
 simp only[World.setCell,Array.getElem?_modify,h];simp[rH]
theorem Blk.grown {w w':World}{g:Nat}{zs:List Nat}(h:Blk w g zs){row:Option Nat}(hg:w.grownBy w' row)(hne:row≠some g):Blk w' g zs:=by
 unfold Blk at *
 rw[hg.block g (Array.getElem?_eq_some_iff.1 h).1 (fun e=>hne e.symm)];exact h
theorem Blk.below {w w':World}{g:Nat}{zs:List Nat}(h:Blk w g zs)(hb:Below w.heap.size w w'):Blk w' g zs:=by
 unfold Blk at *
 rw[hb.block g (Array.getElem?_eq_some_iff.1 h).1];exact h
theorem Blk.own {w:World}{g B:Nat}{zs:List Nat}(h:Blk w g zs)(hB:B≤g)(hm:zs.length≤maxLen)(n:Nat)(hn:n≤zs.length):Own .u64 131 B w (.slice (some ⟨g,0,none⟩) n zs.length) (zs.take n):=by
 refine⟨by simp[cls],Or.inr ⟨g,zs.length,(cls .u64 zs).toArray,?_,hB,h,?_,hm,by simp[cls],?_⟩⟩
 · rw[List.length_take,Nat.min_eq_left hn]
 · rw[List.length_take];omega
 · rw[mW,List.length_take,Nat.mul_one,Nat.min_eq_left hn]
theorem Blk.of_made {w:World}{B g n:Nat}{xs:List Value}{zs:List Nat}(h:w.ownsRow B 131 1 (.slice (some ⟨g,0,none⟩) n n) n xs)(hx:xs=cls .u64 zs):Blk w g zs:=by
 obtain⟨h1,h2⟩:=h;rcases h2 with⟨h2,_⟩|⟨g',cap,cur,hv,hg,hh,hn,hc,hs,ht⟩
 · cases h2
 · injection hv with e1 e2 e3
   injection e1 with e1
   injection e1 with e4 e5 e6
   subst e4 e3;unfold Blk
   rw[hh];rw[Nat.mul_one]at ht hs;rw[List.take_of_length_le (by simpa using Nat.le_of_eq hs)]at ht;congr 2
   rw[← hx,← ht]
theorem set_mid (pre ys r:List Nat)(x v:Nat):(pre++(ys++(x :: r))).set (pre.length+ys.length) v=pre++((ys++[v])++r):=by
 simp
theorem nR (pre ys r:List Nat)(x:Nat):(pre++(ys++(x :: r))).getD (pre.length+ys.length) 0=x:=by
 simp[List.getD]
set_option maxHeartbeats 1000000 in
theorem iA (g c:Nat)(pre xs post:List Nat)(hM:∀ i,i<xs.length→xs.getD i 0≤MM 18)(hl:xs.length≤1000000)(w:World)(hb:Blk w g (pre++(xs++post))) :
 Calls Tryz.prog 244 #[.slice (some ⟨g,pre.length,none⟩) xs.length c] w fun e w'=>e=.returned (.tuple #[])∧(∃ (ys:List Nat) (k:Nat),ys.length=xs.length∧(∀ y∈ys,y<BB)∧aj ys+BB^xs.length*k=aj xs∧Blk w' g (pre++(ys++post)))∧w.grownBy w' (some g):=by
 have HM:=hid hM;have HB:=hid hb;clear hM hb;go_enter func244,ntmps244
 go_wp2;go_loopw [2,3,4,7] (fun cc _ _ ii wr=>∃ (i k:Nat) (ys:List Nat),i≤xs.length∧ii=.int .i64 i∧cc=.int .u64 (k:Int)∧lG xs ys i k∧Hid (Blk wr g (pre++(ys++(xs.drop i++post))))∧Hid (w.grownBy wr (some g))) (fun _ _ _ ii _=>xs.length-(intOf ii).toNat)
 case atStart=>exact⟨0,0,[],Nat.zero_le _,rfl,rfl,lG.start xs,HB,World.grownBy.refl _ _⟩
 case round =>
  obtain⟨i,k,ys,hi,rfl,rfl,hc,hB,hG⟩:=hrel;by_cases hlt:i<xs.length
  · obtain⟨hc',hbd⟩:=hc.step hlt (HM.o i hlt)
    have hx0:=hid hc.1;have hdr:=fD hlt;have hB':=hB.o;rw[hdr,List.cons_append]at hB';have hyl:ys.length=i:=hc.1;have hcell:=hB'.cell (i:=pre.length+ys.length) (by simp);have hfree:=hB'.free (pre.length+ys.length);have hset:=hB'.set (pre.length+ys.length) ((xs.getD i 0+k)%BB);rw[nR]at hcell;rw[set_mid]at hset;rw[hyl]at hcell hfree hset;obtain ⟨HS,hG',HC⟩:=ak hset (Lib.grownBy_setB hG.o (pre.length+i) (.int .u64 (((xs.getD i 0+k)%BB:Nat):Int))) hc';clear hset hdr hB' hyl hc';generalize xs.getD i 0=x at *;have hmod:((x:Int)+(k:Int))%1000000000=(((x+k)%BB:Nat):Int):=by rw[aG];omega
    have hdiv:((x:Int)+(k:Int)) / 1000000000=(((x+k) / BB:Nat):Int):=by rw[aG];omega
    obtain ⟨HMd,HDv⟩:=aB hmod hdiv;clear hmod hdiv;go_wp2;go_roundw
    case rel=>exact⟨i+1,(x+k) / BB,ys++[(x+k)%BB],by omega,by go_num,by rw[HDv.o],HC.o,by rw[HMd.o];exact HS.o,by rw[HMd.o];exact hG'.o⟩
    case measure=>simp[intOf];omega
  · have hi':i=xs.length:=by omega
    have hfin:=hc;rw[hi']at hfin;have hfin:=hfin.done;have hB':=hB.o;rw[hi',List.drop_of_length_le (Nat.le_refl _),List.nil_append]at hB';obtain ⟨HF,HB'⟩:=aB hfin hB';clear hfin hB' hi';go_wp2;go_end0
    obtain⟨h1,h2,h3⟩:=HF.o;exact⟨rfl,⟨ys,k,h1,h2,h3,HB'.o⟩,hG.o⟩
instance {W W':World}{g:Nat}{l:List Nat}:Gr (Blk W g l) W W' (Blk W' g l):=⟨fun h k=>k.below h⟩
end Go.Proofs.YteihfbkaieemdaaGreatDoor
namespace Go.Gb
open Go Go.RowKit
section
variable {P:Program} {ops:Array Oper} {Q:Exit→Act→World→Prop}
structure RInv (ops:Array Oper) (m:Nat) (sl:Nat→Nat) (R:Nat→Value→World→Prop) (a0:Act) (W:World→Prop) (u6:Array Bool) (a:Act) (w:World):Prop where
 closed:Closed .any ops u6
 size:u6.size=ops.size
 slots:∀ i,i<m→u6.getD i false=true→∃ v,a.tmps[sl i]? = some v∧R i v w
 rest:∀ d,(∀ i,i<m→sl i≠d)→a.tmps[d]? = a0.tmps[d]?
 tsize:a.tmps.size=a0.tmps.size
 defers:a.defers=a0.defers
 world:W w
variable {m:Nat} {sl:Nat→Nat} {R:Nat→Value→World→Prop} {a a0:Act} {W:World→Prop} {u6:Array Bool} {w w':World}
theorem RInv.start (h:W w):RInv ops m sl R a W (Array.replicate ops.size false) a w :=
 ⟨nY _,by simp,fun i _ hi=>by
  exfalso
  simp only[Array.getD_eq_getD_getElem?,Array.getElem?_replicate]at hi
  split at hi<;>simp at hi,fun _ _=>rfl,rfl,rfl,h⟩
theorem RInv.put {i d:Nat}{v:Value}(h:RInv ops m sl R a0 W u6 a w)(hi:i∈Region.ready .any ops u6)(hm:i<m)(hd:d=sl i)(hlo:d<a0.tmps.size)
 (hinj:∀ j,j<m→sl j=d→j=i) (hv:R i v w') (hR:∀ j u,R j u w→R j u w') (hW:W w'):RInv ops m sl R a0 W (u6.setIfInBounds i true) (a.put (some d) v) w':=by
 subst hd;have hp:(a.put (some (sl i)) v).tmps=a.tmps.setIfInBounds (sl i) v:=rfl;have hts:=h.tsize;refine⟨h.closed.set hi,by simpa using h.size,fun j hj hl=>?_,fun e he=>?_,by rw[hp];simpa using hts,h.defers,hW⟩
 · rw[hp]
   by_cases hji:j=i
   · subst hji
     exact⟨v,by rw[Array.getElem?_setIfInBounds_self_of_lt (by omega)],hv⟩
   · rw[Array.getElem?_setIfInBounds_ne (fun e=>hji (hinj j hj e.symm))]
     rcases iO hl with h2|h2
     · exact absurd h2 hji
     · obtain⟨u,h3,h4⟩:=h.slots j hj h2
       exact⟨u,h3,hR j u h4⟩
 · rw[hp,Array.getElem?_setIfInBounds_ne (he i hm)]
   exact h.rest e he
theorem RInv.at {i j:Nat}(h:RInv ops m sl R a0 W u6 a w)(hj:j∈Region.ready .any ops u6)(hw:Region.waitsFor .any ops j i=true)(hm:i<m) :
 ∃ v,a.tmps[sl i]? = some v∧R i v w:=h.slots i hm (jf hj hw)
def putL:List (Nat × Value)→Array Value→Array Value
 | [],t=>t
 | p :: ps,t=>putL ps (t.setIfInBounds p.1 p.2)
theorem uU:∀ (L:List (Nat × Value)) (t T:Array Value),T.size=t.size→(∀ p,p∈L→T[p.1]? = some p.2)→(∀ d,(∀ p,p∈L→p.1≠d)→T[d]? = t[d]?)→T=putL L t
 | [],t,T,_,_,h=>Array.ext_getElem? fun d=>h d (fun _ hp=>by cases hp)
 | p :: ps,t,T,hs,h1,h2=>by
   refine uU ps _ T (by simpa using hs) (fun q hq=>h1 q (List.mem_cons_of_mem _ hq)) (fun d hd=>?_);have hp:=h1 p List.mem_cons_self;by_cases hpd:p.1=d
   · subst hpd
     have hlt:p.1<T.size:=(Array.getElem?_eq_some_iff.1 hp).1;rw[hp,Array.getElem?_setIfInBounds_self_of_lt (by omega)]
   · rw[Array.getElem?_setIfInBounds_ne hpd]
     exact h2 d (fun q hq=>by
       rcases List.mem_cons.1 hq with rfl|hq
       · exact hpd
       · exact hd q hq)
theorem RInv.fin (h:RInv ops m sl R a0 W u6 a w)(L:List (Nat × Value))(h1:∀ p,p∈L→a.tmps[p.1]? = some p.2)(h2:∀ d,(∀ p,p∈L→p.1≠d)→∀ i,i<m→sl i≠d):a=⟨putL L a0.tmps,a0.defers⟩:=by
 have ht:=uU L a0.tmps a.tmps h.tsize h1 (fun d hd=>h.rest d (h2 d hd));have hd:=h.defers;cases a
 simp only at ht hd;rw[ht,hd]
def lastB (ops:Array Oper) (m:Nat):Bool:=(List.range m).all fun j=>(List.range (m+1)).any fun k=>decide (j<k)&&Region.waitsFor .any ops k j
theorem xD (hl:lastB ops m=true)(hc:Closed .any ops u6)(hr:m∈Region.ready .any ops u6):∀ n j,n+j=m→0<n→u6.getD j false=true:=by
 intro n
 induction n using Nat.strongRecOn with
 | _ n ih =>
   intro j hj hn;have h1:=List.all_eq_true.1 hl j (List.mem_range.2 (by omega));obtain⟨k,hk,h2⟩:=List.any_eq_true.1 h1;have hk:=List.mem_range.1 hk;rw[Bool.and_eq_true,decide_eq_true_iff]at h2;by_cases hkm:k=m
   · subst hkm;exact jf hr h2.2
   · exact hc k j (ih (m-k) (by omega) k (by omega) (by omega)) h2.2
theorem getD_set_ne {u6:Array Bool}{i j:Nat}(h:j≠i):(u6.setIfInBounds i true).getD j false=u6.getD j false:=by
 simp only[Array.getD_eq_getD_getElem?];rw[Array.getElem?_setIfInBounds_ne (Ne.symm h)]
theorem dW {u6:Array Bool}{i:Nat}(h:i<u6.size):(u6.setIfInBounds i true).getD i false=true:=by
 simp only[Array.getD_eq_getD_getElem?];rw[Array.getElem?_setIfInBounds_self_of_lt h];rfl
theorem ou {id:Nat}{a:Act}{w:World}(hm:P.follows .mixedOrders=true)(m:Nat)(sl:Nat→Nat)(R:Nat→Value→World→Prop)(W:World→Prop)(hs:ops.size=m+1)(hb:vS .any ops=true)(hl:lastB ops m=true)
 (hstart:W w.drew)
 (hstep:∀ u6 a' w i,RInv ops m sl R a W u6 a' w→i∈Region.ready .any ops u6→i<m→wpOp P ops Q i (fun a' w'=>RInv ops m sl R a W (u6.setIfInBounds i true) a' w') a' w)
 (hlast:∀ u6 a' w,RInv ops m sl R a W u6 a' w→(∀ j,j<m→u6.getD j false=true)→wpOp P ops Q m (fun a' w'=>Q .normal a' w') a' w):(Code.region id ops true).wp P Q a w:=by
 refine gJ hm (fun u6 a' w=>(u6.getD m false=false∧RInv ops m sl R a W u6 a' w)∨(u6.size=ops.size∧(∀ j,j<ops.size→u6.getD j false=true)∧Q .normal a' w)) (Or.inl ⟨?_,RInv.start hstart⟩) ?_ ?_
 · simp only[Array.getD_eq_getD_getElem?,Array.getElem?_replicate]
   split<;>rfl
 · rintro u6 a' w i (⟨h1,h2⟩|⟨_,h1,_⟩) hi
   · have hlt:=fV hi
     by_cases him:i=m
     · subst him
       have w9:=xD hl h2.closed hi;refine wpOp_mono (fun a2 w2 h=>Or.inr ⟨by simpa using h2.size,fun j hj=>?_,h⟩) (hlast u6 a' w h2 (fun j hj=>w9 (i-j) j (by omega) (by omega)));by_cases hji:j=i
       · subst hji;exact dW (by have:=h2.size;omega)
       · rw[getD_set_ne hji];exact w9 (i-j) j (by omega) (by omega)
     · exact wpOp_mono (fun a2 w2 h=>Or.inl ⟨by rw[getD_set_ne (Ne.symm him)];exact h1,h⟩) (hstep u6 a' w i h2 hi (by omega))
   · have:=kN hi
     rw[h1 i (fV hi)]at this;cases this
 · rintro u6 a' w (⟨h1,h2⟩|⟨_,_,h3⟩) hr
   · have:=gT h2.size hb hr m (by omega)
     rw[this]at h1;cases h1
   · exact h3
end
inductive Slot where
 | val (v:Value)
 | row (cs:List Value)
 | ptr (cs:List Value)
def Slot.Ok (b:Nat) (v:Value) (W:World):Slot→Prop
 | .val u=>v=u
 | .row cs=>∃ g,v=.slice (some ⟨g,0,none⟩) cs.length cs.length∧b≤g∧g<W.heap.size∧∀ i x,cs[i]? = some x→W.cell? ⟨g,i,none⟩=some x
 | .ptr cs=>∃ g,v=.pointer (some ⟨g,0,none⟩)∧b≤g∧g<W.heap.size∧(∀ i x,cs[i]? = some x→W.cell? ⟨g,i,none⟩=some x)∧(∀ i x,cs[i]? = some x→W.frozen? ⟨g,i,none⟩=false)
theorem Slot.Ok.mono {b:Nat}{v:Value}{W W':World}{s:Slot}(h:s.Ok b v W)(hb:Below W.heap.size W W'):s.Ok b v W':=by
 cases s with
 | val u=>exact h
 | row cs =>
   obtain⟨g,h1,h2,h3,h4⟩:=h;exact⟨g,h1,h2,Nat.lt_of_lt_of_le h3 hb.size,fun i x hx=>(hb.cell (p:=⟨g,i,none⟩) h3).trans (h4 i x hx)⟩
 | ptr cs =>
   obtain⟨g,h1,h2,h3,h4,h5⟩:=h;exact⟨g,h1,h2,Nat.lt_of_lt_of_le h3 hb.size,fun i x hx=>(hb.cell (p:=⟨g,i,none⟩) h3).trans (h4 i x hx),fun i x hx=>(hb.frozen (p:=⟨g,i,none⟩) h3).trans (h5 i x hx)⟩
def SlR (b:Nat) (L:List Slot) (i:Nat) (v:Value) (W:World):Prop:=(L.getD i (.val undef)).Ok b v W
theorem SlR.mono {b:Nat}{L:List Slot}{W W':World}(hb:Below W.heap.size W W')(i:Nat)(v:Value)(h:SlR b L i v W):SlR b L i v W':=Slot.Ok.mono h hb
