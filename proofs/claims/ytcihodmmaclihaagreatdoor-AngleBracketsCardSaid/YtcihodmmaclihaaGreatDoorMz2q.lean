/- Texts of this proof, one behind the other. -/
import Derived.Test.YtcihodmmaclihaaGreatDoorMz1q
import Derived.OneCell
import Derived.Test.YtcihodmmaclihaaGreatDoorMz0q
namespace Go.Gb
open Go.Lib
def MM (r:Nat):Nat:=999999999+r*999999998000000001
theorem MM_le {r:Nat}(h:r≤18):MM r≤17999999965000000017:=by unfold MM;omega
def CarInv (xs ys:List Nat) (i c:Nat):Prop:=ys.length=i∧(∀ w∈ys,w<BB)∧c≤18000000000∧wval ys+BB^i*c=wval (xs.take i)
theorem CarInv.start (xs:List Nat):CarInv xs [] 0 0:=⟨rfl,by simp,by omega,by simp[wval]⟩
theorem CarInv.step {xs ys:List Nat}{i c:Nat}(h:CarInv xs ys i c)(hi:i<xs.length)(hx:xs.getD i 0≤MM 18):CarInv xs (ys++[(xs.getD i 0+c)%BB]) (i+1) ((xs.getD i 0+c) / BB)∧xs.getD i 0+c≤18446744073709551615:=by
 obtain⟨h1,h2,h3,h4⟩:=h
 have hM:=MM_le (r:=18) (by omega)
 have hB:=BB_eq
 refine⟨⟨by simp[h1],?_,?_,?_⟩,by omega⟩
 · intro w hw
   rcases List.mem_append.1 hw with hw|hw
   · exact h2 w hw
   · have hw:=List.mem_singleton.1 hw;rw[hw];exact Nat.mod_lt _ BB_pos
 · rw[hB];omega
 · rw[wval_snoc,h1,wval_take_succ hi,Nat.pow_succ,Nat.mul_assoc,Nat.add_assoc,← Nat.mul_add,Nat.mod_add_div,Nat.mul_add];omega
theorem CarInv.done {xs ys:List Nat}{c:Nat}(h:CarInv xs ys xs.length c):ys.length=xs.length∧(∀ w∈ys,w<BB)∧wval ys+BB^xs.length*c=wval xs:=by
 obtain⟨h1,h2,h3,h4⟩:=h
 rw[List.take_of_length_le (Nat.le_refl _)]at h4
 exact⟨h1,h2,h4⟩
theorem word_mul {a b:Nat}(ha:a<BB)(hb:b<BB):a*b≤999999998000000001:=by
 have h:a*b≤999999999*999999999:=Nat.mul_le_mul (by have:=BB_eq;omega) (by have:=BB_eq;omega)
 omega
def MulInv (x y os:List Nat) (i:Nat):Prop :=
 os.length=x.length+y.length∧wval os=wval (x.take i)*wval y∧(∀ j,j<os.length→os.getD j 0≤MM (i%18))∧∀ j,j<i-i%18→os.getD j 0<BB
def RowInv (x y os:List Nat) (i k:Nat):Prop :=
 os.length=x.length+y.length∧wval os=wval (x.take i)*wval y+BB^i*(x.getD i 0*wval (y.take k))∧(∀ j,j<os.length→os.getD j 0≤MM (i%18+1))∧(∀ j,i+k≤j→j<os.length→os.getD j 0≤MM (i%18))∧∀ j,j<i-i%18→os.getD j 0<BB
theorem MulInv.start (x y:List Nat):MulInv x y (List.replicate (x.length+y.length) 0) 0:=by
 refine⟨by simp,?_,?_,by intro j hj;omega⟩
 · have:=wval_zeros [] (x.length+y.length)
   simp only[List.nil_append]at this
   rw[this];simp[wval]
 · intro j hj
   rw[getD_of_lt hj];simp
theorem MulInv.row {x y os:List Nat}{i:Nat}(h:MulInv x y os i):RowInv x y os i 0:=by
 obtain⟨h1,h2,h3,h4⟩:=h
 refine⟨h1,by simp[h2,wval],fun j hj=>Nat.le_trans (h3 j hj) (by unfold MM;omega),fun j _ hj=>h3 j hj,h4⟩
theorem RowInv.step {x y os:List Nat}{i k:Nat}(h:RowInv x y os i k)(hi:i<x.length)(hk:k<y.length)(hx:∀ w∈x,w<BB)(hy:∀ w∈y,w<BB) :
 RowInv x y (os.set (i+k) (os.getD (i+k) 0+x.getD i 0*y.getD k 0)) i (k+1)∧os.getD (i+k) 0+x.getD i 0*y.getD k 0≤MM 18:=by
 obtain⟨h1,h2,h3,h4,h5⟩:=h
 have hp:=word_mul (hx _ (mem_getD hi)) (hy _ (mem_getD hk))
 have hc:=h4 (i+k) (Nat.le_refl _) (by omega)
 have hr:i%18<18:=Nat.mod_lt _ (by decide)
 have hM:MM (i%18+1)=MM (i%18)+999999998000000001:=by unfold MM;omega
 refine⟨⟨by simp[h1],?_,?_,?_,?_⟩,?_⟩
 · have hs:=wval_set (xs:=os) (i:=i+k) (v:=os.getD (i+k) 0+x.getD i 0*y.getD k 0) (by omega)
   rw[Nat.mul_add,h2]at hs
   rw[wval_take_succ hk]
   have e:BB^(i+k)*(x.getD i 0*y.getD k 0)=BB^i*(x.getD i 0*(BB^k*y.getD k 0)):=by
    rw[Nat.pow_add,Nat.mul_assoc,Nat.mul_left_comm (BB^k)]
   rw[e]at hs
   rw[Nat.mul_add (x.getD i 0),Nat.mul_add (BB^i)]
   omega
 · intro j hj
   simp only[List.length_set]at hj
   rw[getD_set]
   split
   · omega
   · exact h3 j hj
 · intro j hj1 hj
   simp only[List.length_set]at hj
   rw[getD_set,if_neg (by omega)]
   exact h4 j (by omega) hj
 · intro j hj
   rw[getD_set,if_neg (by omega)]
   exact h5 j hj
 · have:MM (i%18+1)≤MM 18:=by unfold MM;omega
   omega
theorem RowInv.next {x y os:List Nat}{i:Nat}(h:RowInv x y os i y.length)(hi:i<x.length)(hr:i%18≠17):MulInv x y os (i+1):=by
 obtain⟨h1,h2,h3,h4,h5⟩:=h
 rw[List.take_of_length_le (Nat.le_refl _)]at h2
 have e:(i+1)%18=i%18+1:=by omega
 refine⟨h1,?_,by rw[e];exact h3,fun j hj=>h5 j (by omega)⟩
 rw[h2,wval_take_succ hi,Nat.add_mul,Nat.mul_assoc]
theorem RowInv.carried {x y os ys:List Nat}{i c:Nat}(h:RowInv x y os i y.length)(hi:i<x.length)(hr:i%18=17)(hx:∀ w∈x,w<BB)(hy:∀ w∈y,w<BB)
 (hl:ys.length=os.length-(i-17)) (hb:∀ w∈ys,w<BB) (hv:wval ys+BB^ys.length*c=wval (os.drop (i-17))):MulInv x y (os.take (i-17)++ys) (i+1):=by
 obtain⟨h1,h2,h3,h4,h5⟩:=h
 rw[List.take_of_length_le (Nat.le_refl _)]at h2
 have e:(i+1)%18=0:=by omega
 have ht:(os.take (i-17)).length=i-17:=by rw[List.length_take,Nat.min_eq_left (by omega)]
 have hlt:∀ w∈os.take (i-17)++ys,w<BB:=by
  intro w hw
  rcases List.mem_append.1 hw with hw|hw
  · refine all_getD (M:=BB) (fun j hj=>?_) w hw
    rw[ht]at hj
    have:=h5 j (by omega)
    rw[getD_of_lt (by rw[ht];exact hj)]
    rw[getD_of_lt (by omega)]at this
    simpa using this
  · exact hb w hw
 have hlen:(os.take (i-17)++ys).length=x.length+y.length:=by rw[List.length_append,ht,hl,← h1];omega
 have hval:wval os=wval (x.take (i+1))*wval y:=by rw[h2,wval_take_succ hi,Nat.add_mul,Nat.mul_assoc]
 have hsp:=wval_split os (i-17) (by omega)
 have hc0:c=0:=by
  rcases Nat.eq_zero_or_pos c with h|h
  · exact h
  · exfalso
    have hX:wval (x.take (i+1))<BB^x.length:=wval_le_of_len (fun w hw=>hx w (List.mem_of_mem_take hw)) (by rw[List.length_take];omega)
    have hY:=wval_lt y hy
    have hXY:wval os<BB^x.length*BB^y.length:=by
        rw[hval]
        rcases Nat.eq_zero_or_pos (wval y) with h0|h0
        · rw[h0,Nat.mul_zero];exact Nat.mul_pos (Nat.pow_pos BB_pos) (Nat.pow_pos BB_pos)
        · exact Nat.mul_lt_mul_of_lt_of_le hX (Nat.le_of_lt hY) (by omega)
    rw[← Nat.pow_add,← h1]at hXY
    have h6:BB^os.length=BB^(i-17)*BB^ys.length:=by rw[← Nat.pow_add];congr 1;omega
    have h7:BB^(i-17)*(BB^ys.length*1)≤BB^(i-17)*wval (os.drop (i-17)):=Nat.mul_le_mul_left _ (by rw[← hv];exact Nat.le_trans (Nat.mul_le_mul_left _ h) (Nat.le_add_left _ _))
    rw[Nat.mul_one,← h6]at h7
    omega
 refine⟨hlen,?_,?_,?_⟩
 · rw[wval_append,ht,← hval,hsp,← hv,hc0,Nat.mul_zero,Nat.add_zero]
 · intro j hj
   have:=hlt _ (mem_getD hj)
   unfold MM;have:=BB_eq;omega
 · intro j hj
   exact hlt _ (mem_getD (by rw[hlen];omega))
theorem MulInv.done {x y os ys:List Nat}{c:Nat}(h:MulInv x y os x.length)(hx:∀ w∈x,w<BB)(hy:∀ w∈y,w<BB)(hv:wval ys+BB^os.length*c=wval os):wval ys=wval x*wval y:=by
 obtain⟨h1,h2,h3,h4⟩:=h
 rw[List.take_of_length_le (Nat.le_refl _)]at h2
 have hX:=wval_lt x hx
 have hY:=wval_lt y hy
 have hXY:wval os<BB^os.length:=by
  rw[h2,h1,Nat.pow_add]
  rcases Nat.eq_zero_or_pos (wval y) with h0|h0
  · rw[h0,Nat.mul_zero];exact Nat.mul_pos (Nat.pow_pos BB_pos) (Nat.pow_pos BB_pos)
  · exact Nat.mul_lt_mul_of_lt_of_le hX (Nat.le_of_lt hY) (by omega)
 have hc0:c=0:=by
  rcases Nat.eq_zero_or_pos c with h|h
  · exact h
  · have:BB^os.length*1≤BB^os.length*c:=Nat.mul_le_mul_left _ h
    omega
 rw[hc0]at hv
 omega
theorem guess_right {U V T3 V2 P g:Nat}(hP:0<P)(hV:V2*P≤V)(hV':V<(V2+1)*P)(hU:T3*P≤U)(hg:g*V2≤T3)(hgV:g≤V2):g≤U / V+1:=by
 rcases Nat.eq_zero_or_pos g with h0|h0
 · rw[h0];exact Nat.zero_le _
 have hV0:0<V:=Nat.lt_of_lt_of_le (Nat.mul_pos (by omega) hP) hV
 have h1:g*V<g*((V2+1)*P):=Nat.mul_lt_mul_of_pos_left hV' h0
 have h2:g*((V2+1)*P)=g*V2*P+g*P:=by rw[Nat.add_mul,Nat.one_mul,Nat.mul_add,Nat.mul_assoc]
 have h3:g*V2*P≤T3*P:=Nat.mul_le_mul_right _ hg
 have h4:g*P≤V2*P:=Nat.mul_le_mul_right _ hgV
 have h5:g*V<U+V:=by omega
 have h6:(g-1)*V≤U:=by
  have:g*V=(g-1)*V+V:=by
   conv=>lhs;rw[show g=(g-1)+1 by omega,Nat.add_mul,Nat.one_mul]
  omega
 have h7:=(Nat.le_div_iff_mul_le hV0).2 h6
 generalize U / V=q at *
 omega
theorem quo_le {U V T3 V2 P:Nat}(hV0:0<V2)(hV:V2*P≤V)(hU:U<(T3+1)*P):U / V≤T3 / V2:=by
 rw[Nat.le_div_iff_mul_le hV0]
 have h1:U / V*V≤U:=Nat.div_mul_le_self U V
 have h2:U / V*(V2*P)≤U / V*V:=Nat.mul_le_mul_left _ hV
 have h3:U / V*V2*P<(T3+1)*P:=by rw[Nat.mul_assoc];omega
 have h4:=Nat.lt_of_mul_lt_mul_right h3
 omega
end Go.Gb
namespace Go.Gb
def EuInv (x0 y0 x y a b c d:Nat) (o:Bool):Prop :=
 x0=d*x+b*y∧y0=c*x+a*y∧Nat.gcd x y=Nat.gcd x0 y0∧(o=true→b*y0=a*x0+x∧c*x0=d*y0+y)∧(o=false→a*x0=b*y0+x∧d*y0=c*x0+y)
theorem EuInv.start (x y:Nat):EuInv x y x y 1 0 0 1 false:=by
 refine⟨by omega,by omega,rfl,?_,?_⟩
 · intro h;cases h
 · intro _;constructor<;>omega
theorem EuInv.step {x0 y0 x y a b c d:Nat}{o:Bool}(h:EuInv x0 y0 x y a b c d o):EuInv x0 y0 y (x%y) c d (a+x / y*c) (b+x / y*d) (!o):=by
 obtain⟨h1,h2,h3,h4,h5⟩:=h
 have hx:=Nat.div_add_mod x y
 generalize x / y=q at *
 have h6:Nat.gcd y (x%y)=Nat.gcd x0 y0:=by rw[← h3,Nat.gcd_comm y,← Nat.gcd_rec,Nat.gcd_comm]
 generalize x%y=r at *
 refine⟨?_,?_,h6,fun ho=>?_,fun ho=>?_⟩
 · grind
 · grind
 · have:=h5 (by cases o<;>simp_all)
   grind
 · have:=h4 (by cases o<;>simp_all)
   grind
theorem EuInv.bound {x0 y0 x y a b c d:Nat}{o:Bool}(h:EuInv x0 y0 x y a b c d o)(hx:0<x):d≤x0∧c≤y0:=by
 obtain⟨h1,h2,_⟩:=h
 have g1:d*1≤d*x:=Nat.mul_le_mul_left _ hx
 have g2:c*1≤c*x:=Nat.mul_le_mul_left _ hx
 omega
end Go.Gb
namespace Go.Gb
open Go.RowKit
def cls (k:IntKind) (xs:List Nat):List Value:=xs.map fun(n:Nat)=>Value.int k (n:Int)
theorem cls_length (k:IntKind)(xs:List Nat):(cls k xs).length=xs.length:=by simp[cls]
theorem cls_append (k:IntKind)(xs ys:List Nat):cls k (xs++ys)=cls k xs++cls k ys:=by simp[cls]
theorem cls_get {k:IntKind}{xs:List Nat}{i:Nat}(h:i<xs.length):(cls k xs)[i]? = some (Value.int k ((xs.getD i 0:Nat):Int)):=by
 simp[cls,List.getD,h]
theorem cls_set (k:IntKind)(xs:List Nat)(i v:Nat):cls k (xs.set i v)=(cls k xs).set i (Value.int k (v:Int)):=by simp[cls,List.map_set]
theorem cls_take (k:IntKind)(xs:List Nat)(n:Nat):cls k (xs.take n)=(cls k xs).take n:=by simp[cls,List.map_take]
def Rd (k:IntKind) (w:World) (v:Value) (xs:List Nat):Prop :=
 (v=.slice none 0 0∧xs=[]) ∨
 ∃ b o c,v=.slice (some ⟨b,o,none⟩) xs.length c∧xs.length≤c∧c≤maxLen∧b<w.heap.size∧∀ i,i<xs.length→w.cell? ⟨b,o+i,none⟩=some (.int k ((xs.getD i 0:Nat):Int))
theorem Rd.below {k:IntKind}{w w':World}{v:Value}{xs:List Nat}(h:Rd k w v xs)(hb:Below w.heap.size w w'):Rd k w' v xs:=by
 rcases h with h|⟨b,o,c,h1,h2,h3,h4,h5⟩
 · exact Or.inl h
 · exact Or.inr ⟨b,o,c,h1,h2,h3,Nat.lt_of_lt_of_le h4 hb.size,fun i hi=>(hb.cell (p:=⟨b,o+i,none⟩) h4).trans (h5 i hi)⟩
def Own (k:IntKind) (T:TypeId) (B:Nat) (w:World) (v:Value) (xs:List Nat):Prop:=w.ownsRow B T 1 v xs.length (cls k xs)
theorem Own.rd {k:IntKind}{T:TypeId}{B:Nat}{w:World}{v:Value}{xs:List Nat}(h:Own k T B w v xs):Rd k w v xs:=by
 obtain⟨h1,h2⟩:=h
 rcases h2 with⟨h2,h3⟩|⟨g,cap,cur,hv,hg,hh,hn,hc,hs,ht⟩
 · exact Or.inl ⟨h2,List.length_eq_zero_iff.1 h3⟩
 · refine Or.inr ⟨g,0,cap,hv,hn,hc,(Array.getElem?_eq_some_iff.1 hh).1,fun i hi=>?_⟩
   have h4:=cls_get (k:=k) hi
   rw[← ht,Nat.mul_one,List.getElem?_take,if_pos hi]at h4
   simp only[World.cell?,hh,Nat.zero_add]
   simpa using h4
theorem Own.nil (k:IntKind)(T:TypeId)(B:Nat)(w:World):Own k T B w (.slice none 0 0) []:=World.ownsRow_nil w B T 1
theorem Own.mono {k:IntKind}{T:TypeId}{B B':Nat}{w:World}{v:Value}{xs:List Nat}(h:Own k T B w v xs)(hB:B'≤B):Own k T B' w v xs:=by
 obtain⟨h1,h2⟩:=h
 refine⟨h1,?_⟩
 rcases h2 with h2|⟨g,cap,cur,hv,hg,r⟩
 · exact Or.inl h2
 · exact Or.inr ⟨g,cap,cur,hv,by omega,r⟩
theorem Own.below {k:IntKind}{T:TypeId}{B:Nat}{w w':World}{v:Value}{xs:List Nat}(h:Own k T B w v xs)(hb:Below w.heap.size w w'):Own k T B w' v xs:=by
 obtain⟨h1,h2⟩:=h
 refine⟨h1,?_⟩
 rcases h2 with h2|⟨g,cap,cur,hv,hg,hh,r⟩
 · exact Or.inl h2
 · exact Or.inr ⟨g,cap,cur,hv,hg,by rw[hb.block g (Array.getElem?_eq_some_iff.1 hh).1];exact hh,r⟩
theorem Own.take {k:IntKind}{T:TypeId}{B:Nat}{w:World}{a:Option Addr}{n c:Nat}{xs:List Nat}(h:Own k T B w (.slice a n c) xs)(m:Nat)(hm:m≤xs.length):Own k T B w (.slice a m c) (xs.take m):=by
 obtain⟨h1,h2⟩:=h
 refine⟨by simp[cls],?_⟩
 rcases h2 with⟨h2,h3⟩|⟨g,cap,cur,hv,hg,hh,hn,hc,hs,ht⟩
 · injection h2 with e1 e2 e3
   subst e1 e2 e3
   obtain rfl:m=0:=by omega
   left;simp
 · injection hv with e1 e2 e3
   subst e1 e2 e3
   refine Or.inr ⟨g,c,cur,by simp[Nat.min_eq_left hm],hg,hh,by simp;omega,hc,hs,?_⟩
   rw[cls_take,← ht,List.take_take,List.length_take,Nat.mul_one,Nat.mul_one,Nat.min_eq_left hm]
end Go.Gb
namespace Go.Gb
open Go Go.RowKit
section
variable {P:Program} {ops:Array Oper} {Q:Exit→Act→World→Prop}
variable {m:Nat} {sl:Nat→Nat} {R:Nat→Value→World→Prop} {a a0:Act} {W:World→Prop} {listed:Array Bool} {w w':World}
def tailWp (P:Program) (ops:Array Oper) (Q:Exit→Act→World→Prop):Nat→Nat→Act→World→Prop
 | 0,_,a,w=>Q .normal a w
 | t+1,k,a,w=>wpOp P ops Q k (fun a' w'=>tailWp P ops Q t (k+1) a' w') a w
theorem tail_succ {t k:Nat}(h:wpOp P ops Q k (fun a' w'=>tailWp P ops Q t (k+1) a' w') a w):tailWp P ops Q (t+1) k a w:=h
theorem tail_nil {k:Nat}(h:Q .normal a w):tailWp P ops Q 0 k a w:=h
def tailB (ops:Array Oper) (m t:Nat):Bool:=(List.range t).all fun i=>lastB ops (m+i)
theorem tail_all {m t k:Nat}(ht:tailB ops m t=true)(hk:m≤k)(hkt:k<m+t)(hc:Closed .any ops listed)(hr:k∈Region.ready .any ops listed):∀ j,j<k→listed.getD j false=true:=by
 have h1:=List.all_eq_true.1 ht (k-m) (List.mem_range.2 (by omega))
 rw[show m+(k-m)=k by omega]at h1
 intro j hj
 exact last_all h1 hc hr (k-j) j (by omega) (by omega)
theorem wp_region_tail {id:Nat}{a:Act}{w:World}(hm:P.follows .mixedOrders=true)(m t:Nat)(sl:Nat→Nat)(R:Nat→Value→World→Prop)(W:World→Prop)(hs:ops.size=m+t)(hb:backB .any ops=true)(ht:tailB ops m t=true)
 (hstart:W w.drew)
 (hstep:∀ listed a' w i,RInv ops m sl R a W listed a' w→i∈Region.ready .any ops listed→i<m→wpOp P ops Q i (fun a' w'=>RInv ops m sl R a W (listed.setIfInBounds i true) a' w') a' w)
 (hlast:∀ listed a' w,RInv ops m sl R a W listed a' w→(∀ j,j<m→listed.getD j false=true)→tailWp P ops Q t m a' w):(Code.region id ops true).wp P Q a w:=by
 refine wp_region_inv hm (fun listed a' w=>((∀ j,m≤j→listed.getD j false=false)∧RInv ops m sl R a W listed a' w)∨(∃ k,k≤t∧listed.size=ops.size∧Closed .any ops listed∧(∀ j,j<m+k→listed.getD j false=true)∧(∀ j,m+k≤j→listed.getD j false=false)∧tailWp P ops Q (t-k) (m+k) a' w)) (Or.inl ⟨?_,RInv.start hstart⟩) ?_ ?_
 · intro j _
   simp only[Array.getD_eq_getD_getElem?,Array.getElem?_replicate]
   split<;>rfl
 · rintro listed a' w i (⟨h1,h2⟩|⟨k,hk,hsz,hc,h1,h2,h3⟩) hi
   · have hlt:=ready_lt hi
     by_cases him:i<m
     · refine wpOp_mono (fun a2 w2 h=>Or.inl ⟨fun j hj=>?_,h⟩) (hstep listed a' w i h2 hi him)
       rw[getD_set_ne (by omega)];exact h1 j hj
     · have hall:=tail_all ht (by omega) (by omega) h2.closed hi
       have hie:i=m:=by
        rcases Nat.lt_or_ge m i with h|h
        · have:=hall m h;rw[h1 m (Nat.le_refl _)]at this;cases this
        · omega
       subst hie
       obtain⟨t',rfl⟩:∃ t',t=t'+1:=⟨t-1,by omega⟩
       have hz:=h2.size
       refine wpOp_mono (fun a2 w2 h=>Or.inr ⟨1,by omega,by simpa using hz,h2.closed.set hi,fun j hj=>?_,fun j hj=>?_,by simpa using h⟩) (hlast listed a' w h2 hall)
       · by_cases hji:j=i
         · subst hji;exact getD_set_eq (by omega)
         · rw[getD_set_ne hji];exact hall j (by omega)
       · rw[getD_set_ne (by omega)];exact h1 j (by omega)
   · have hlt:=ready_lt hi
     have hun:=ready_un' hi
     have hge:m+k≤i:=by
        rcases Nat.lt_or_ge i (m+k) with h|h
        · rw[h1 i h]at hun;cases hun
        · exact h
     have hall:=tail_all ht (by omega) (by omega) hc hi
     have hie:i=m+k:=by
        rcases Nat.lt_or_ge (m+k) i with h|h
        · have:=hall _ h;rw[h2 _ (Nat.le_refl _)]at this;cases this
        · omega
     subst hie
     obtain⟨t',ht'⟩:∃ t',t-k=t'+1:=⟨t-k-1,by omega⟩
     rw[ht']at h3
     refine wpOp_mono (fun a2 w2 h=>Or.inr ⟨k+1,by omega,by simpa using hsz,hc.set hi,fun j hj=>?_,fun j hj=>?_,by rw[show t-(k+1)=t' by omega];exact h⟩) h3
     · by_cases hji:j=m+k
       · subst hji;exact getD_set_eq (by omega)
       · rw[getD_set_ne hji];exact hall j (by omega)
     · rw[getD_set_ne (by omega)];exact h2 j (by omega)
 · rintro listed a' w (⟨h1,h2⟩|⟨k,hk,hsz,hc,h1,h2,h3⟩) hr
   · have hall:=all_listed h2.size hb hr
     have ht0:t=0:=by
        rcases Nat.eq_zero_or_pos t with h|h
        · exact h
        · have:=hall m (by omega);rw[h1 m (Nat.le_refl _)]at this;cases this
     subst ht0
     exact hlast listed a' w h2 (fun j hj=>hall j (by omega))
   · have hall:=all_listed hsz hb hr
     have hkt:k=t:=by
        rcases Nat.lt_or_ge k t with h|h
        · have:=hall (m+k) (by omega);rw[h2 _ (Nat.le_refl _)]at this;cases this
        · omega
     subst hkt
     rw[Nat.sub_self]at h3
     exact h3
end
section
variable {P:Program} {ops:Array Oper} {Q:Exit→Act→World→Prop}
variable {m:Nat} {sl:Nat→Nat} {R:Nat→Value→World→Prop} {a a0:Act} {W:World→Prop} {listed:Array Bool} {w w':World}
theorem wp_region_tail_d {id:Nat}{a:Act}{w:World}(hm:P.follows .mixedOrders=true)(m t:Nat)(sl:Nat→Nat)(R:Nat→Value→World→Prop)(W:World→Prop)(D:Array Bool→Act→Prop)(hs:ops.size=m+t)(hb:backB .any ops=true)(ht:tailB ops m t=true)
 (hD:D (Array.replicate ops.size false) a) (hstart:W w.drew)
 (hstep:∀ listed a' w k,RInv ops m sl R a W listed a' w→D listed a'→k∈Region.ready .any ops listed→k<m→wpOp P ops Q k (fun a' w'=>RInv ops m sl R a W (listed.setIfInBounds k true) a' w'∧D (listed.setIfInBounds k true) a') a' w)
 (hlast:∀ listed a' w,RInv ops m sl R a W listed a' w→D listed a'→(∀ j,j<m→listed.getD j false=true)→tailWp P ops Q t m a' w):(Code.region id ops true).wp P Q a w:=by
 refine wp_region_inv hm (fun listed a' w=>((∀ j,m≤j→listed.getD j false=false)∧RInv ops m sl R a W listed a' w∧D listed a')∨(∃ k,k≤t∧listed.size=ops.size∧Closed .any ops listed∧(∀ j,j<m+k→listed.getD j false=true)∧(∀ j,m+k≤j→listed.getD j false=false)∧tailWp P ops Q (t-k) (m+k) a' w)) (Or.inl ⟨?_,RInv.start hstart,hD⟩) ?_ ?_
 · intro j _
   simp only[Array.getD_eq_getD_getElem?,Array.getElem?_replicate]
   split<;>rfl
 · rintro listed a' w i (⟨h1,h2,h0⟩|⟨k,hk,hsz,hc,h1,h2,h3⟩) hi
   · have hlt:=ready_lt hi
     by_cases him:i<m
     · refine wpOp_mono (fun a2 w2 h=>Or.inl ⟨fun j hj=>?_,h⟩) (hstep listed a' w i h2 h0 hi him)
       rw[getD_set_ne (by omega)];exact h1 j hj
     · have hall:=tail_all ht (by omega) (by omega) h2.closed hi
       have hie:i=m:=by
        rcases Nat.lt_or_ge m i with h|h
        · have:=hall m h;rw[h1 m (Nat.le_refl _)]at this;cases this
        · omega
       subst hie
       obtain⟨t',rfl⟩:∃ t',t=t'+1:=⟨t-1,by omega⟩
       have hz:=h2.size
       refine wpOp_mono (fun a2 w2 h=>Or.inr ⟨1,by omega,by simpa using hz,h2.closed.set hi,fun j hj=>?_,fun j hj=>?_,by simpa using h⟩) (hlast listed a' w h2 h0 hall)
       · by_cases hji:j=i
         · subst hji;exact getD_set_eq (by omega)
         · rw[getD_set_ne hji];exact hall j (by omega)
       · rw[getD_set_ne (by omega)];exact h1 j (by omega)
   · have hlt:=ready_lt hi
     have hun:=ready_un' hi
     have hge:m+k≤i:=by
        rcases Nat.lt_or_ge i (m+k) with h|h
        · rw[h1 i h]at hun;cases hun
        · exact h
     have hall:=tail_all ht (by omega) (by omega) hc hi
     have hie:i=m+k:=by
        rcases Nat.lt_or_ge (m+k) i with h|h
        · have:=hall _ h;rw[h2 _ (Nat.le_refl _)]at this;cases this
        · omega
     subst hie
     obtain⟨t',ht'⟩:∃ t',t-k=t'+1:=⟨t-k-1,by omega⟩
     rw[ht']at h3
     refine wpOp_mono (fun a2 w2 h=>Or.inr ⟨k+1,by omega,by simpa using hsz,hc.set hi,fun j hj=>?_,fun j hj=>?_,by rw[show t-(k+1)=t' by omega];exact h⟩) h3
     · by_cases hji:j=m+k
       · subst hji;exact getD_set_eq (by omega)
       · rw[getD_set_ne hji];exact hall j (by omega)
     · rw[getD_set_ne (by omega)];exact h2 j (by omega)
 · rintro listed a' w (⟨h1,h2,h0⟩|⟨k,hk,hsz,hc,h1,h2,h3⟩) hr
   · have hall:=all_listed h2.size hb hr
     have ht0:t=0:=by
        rcases Nat.eq_zero_or_pos t with h|h
        · exact h
        · have:=hall m (by omega);rw[h1 m (Nat.le_refl _)]at this;cases this
     subst ht0
     exact hlast listed a' w h2 h0 (fun j hj=>hall j (by omega))
   · have hall:=all_listed hsz hb hr
     have hkt:k=t:=by
        rcases Nat.lt_or_ge k t with h|h
        · have:=hall (m+k) (by omega);rw[h2 _ (Nat.le_refl _)]at this;cases this
        · omega
     subst hkt
     rw[Nat.sub_self]at h3
     exact h3
theorem wp_region_post {id:Nat}{ops:Array Oper}{b:Bool}{Q:Exit→Act→World→Prop}{a:Act}{w:World}(F:Act→Act→World→Prop)(h1:(Code.region id ops b).wp P (fun e a' w'=>e=.normal∧F a a' w') a w)(h2:∀ a' w',F a a' w'→Q .normal a' w'):(Code.region id ops b).wp P Q a w :=
 Code.wp_mono (fun e a' w' ⟨he,h⟩=>by subst he;exact h2 a' w' h) h1
end
structure Rel where
 R:Value→World→Prop
 mono:∀ v W W',R v W→Below W.heap.size W W'→R v W'
def Rel.val (u:Value):Rel:=⟨fun v _=>v=u,fun _ _ _ h _=>h⟩
def RelR (L:List Rel) (i:Nat) (v:Value) (W:World):Prop:=(L.getD i (Rel.val undef)).R v W
theorem RelR.mono {L:List Rel}{W W':World}(hb:Below W.heap.size W W')(i:Nat)(v:Value)(h:RelR L i v W):RelR L i v W':=(L.getD i (Rel.val undef)).mono v W W' h hb
end Go.Gb
