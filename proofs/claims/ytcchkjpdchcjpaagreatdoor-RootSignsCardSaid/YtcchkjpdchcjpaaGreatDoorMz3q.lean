/- texts -/
import Derived.Test.YtcchkjpdchcjpaaGreatDoorMz1q
import Derived.Test.YtcchkjpdchcjpaaGreatDoorRows
import Derived.OneCell
import Derived.Test.YtcchkjpdchcjpaaGreatDoorMz0q
namespace Go.Gb
open Go.Lib
def MM (r:Nat):Nat:=999999999+r*999999998000000001
theorem z4X {r:Nat}(h:r≤18):MM r≤17999999965000000017:=by unfold MM;omega
def l7 (xs ys:List Nat) (i c:Nat):Prop:=ys.length=i∧(∀ w∈ys,w<BB)∧c≤18000000000∧ah ys+BB^i*c=ah (xs.take i)
theorem l7.start (xs:List Nat):l7 xs [] 0 0:=⟨rfl,by simp,by omega,by simp[ah]⟩
theorem l7.step {xs ys:List Nat}{i c:Nat}(h:l7 xs ys i c)(hi:i<xs.length)(hx:xs.getD i 0≤MM 18):l7 xs (ys++[(xs.getD i 0+c)%BB]) (i+1) ((xs.getD i 0+c) / BB)∧xs.getD i 0+c≤18446744073709551615:=by
 obtain⟨h1,h2,h3,h4⟩:=h;have hM:=z4X (r:=18) (by omega);have hB:=aG;refine⟨⟨by simp[h1],?_,?_,?_⟩,by omega⟩
 · intro w hw
   rcases List.mem_append.1 hw with hw|hw
   · exact h2 w hw
   · have hw:=List.mem_singleton.1 hw;rw[hw];exact Nat.mod_lt _ bK
 · rw[hB];omega
 · rw[dI,h1,dE hi,Nat.pow_succ,Nat.mul_assoc,Nat.add_assoc,← Nat.mul_add,Nat.mod_add_div,Nat.mul_add];omega
theorem l7.done {xs ys:List Nat}{c:Nat}(h:l7 xs ys xs.length c):ys.length=xs.length∧(∀ w∈ys,w<BB)∧ah ys+BB^xs.length*c=ah xs:=by
 obtain⟨h1,h2,h3,h4⟩:=h;rw[List.take_of_length_le (Nat.le_refl _)]at h4;exact⟨h1,h2,h4⟩
theorem qf {a b:Nat}(ha:a<BB)(hb:b<BB):a*b≤999999998000000001:=by
 have h:a*b≤999999999*999999999:=Nat.mul_le_mul (by have:=aG;omega) (by have:=aG;omega);omega
def je (x y os:List Nat) (i:Nat):Prop :=
 os.length=x.length+y.length∧ah os=ah (x.take i)*ah y∧(∀ j,j<os.length→os.getD j 0≤MM (i%18))∧∀ j,j<i-i%18→os.getD j 0<BB
def jT (x y os:List Nat) (i k:Nat):Prop :=
 os.length=x.length+y.length∧ah os=ah (x.take i)*ah y+BB^i*(x.getD i 0*ah (y.take k))∧(∀ j,j<os.length→os.getD j 0≤MM (i%18+1))∧(∀ j,i+k≤j→j<os.length→os.getD j 0≤MM (i%18))∧∀ j,j<i-i%18→os.getD j 0<BB
theorem je.start (x y:List Nat):je x y (List.replicate (x.length+y.length) 0) 0:=by
 refine⟨by simp,?_,?_,by intro j hj;omega⟩
 · have:=eT [] (x.length+y.length)
   simp only[List.nil_append]at this;rw[this];simp[ah]
 · intro j hj
   rw[bW hj];simp
theorem je.row {x y os:List Nat}{i:Nat}(h:je x y os i):jT x y os i 0:=by
 obtain⟨h1,h2,h3,h4⟩:=h;refine⟨h1,by simp[h2,ah],fun j hj=>Nat.le_trans (h3 j hj) (by unfold MM;omega),fun j _ hj=>h3 j hj,h4⟩
theorem jT.step {x y os:List Nat}{i k:Nat}(h:jT x y os i k)(hi:i<x.length)(hk:k<y.length)(hx:∀ w∈x,w<BB)(hy:∀ w∈y,w<BB) :
 jT x y (os.set (i+k) (os.getD (i+k) 0+x.getD i 0*y.getD k 0)) i (k+1)∧os.getD (i+k) 0+x.getD i 0*y.getD k 0≤MM 18:=by
 obtain⟨h1,h2,h3,h4,h5⟩:=h;have hp:=qf (hx _ (aX hi)) (hy _ (aX hk));have hc:=h4 (i+k) (Nat.le_refl _) (by omega);have hr:i%18<18:=Nat.mod_lt _ (by decide);have hM:MM (i%18+1)=MM (i%18)+999999998000000001:=by unfold MM;omega
 refine⟨⟨by simp[h1],?_,?_,?_,?_⟩,?_⟩
 · have hs:=q9 (xs:=os) (i:=i+k) (v:=os.getD (i+k) 0+x.getD i 0*y.getD k 0) (by omega)
   rw[Nat.mul_add,h2]at hs;rw[dE hk]
   have e:BB^(i+k)*(x.getD i 0*y.getD k 0)=BB^i*(x.getD i 0*(BB^k*y.getD k 0)):=by
    rw[Nat.pow_add,Nat.mul_assoc,Nat.mul_left_comm (BB^k)]
   rw[e]at hs;rw[Nat.mul_add (x.getD i 0),Nat.mul_add (BB^i)];omega
 · intro j hj
   simp only[List.length_set]at hj;rw[kK];split
   · omega
   · exact h3 j hj
 · intro j hj1 hj
   simp only[List.length_set]at hj;rw[kK,if_neg (by omega)];exact h4 j (by omega) hj
 · intro j hj
   rw[kK,if_neg (by omega)];exact h5 j hj
 · have:MM (i%18+1)≤MM 18:=by unfold MM;omega
   omega
theorem jT.next {x y os:List Nat}{i:Nat}(h:jT x y os i y.length)(hi:i<x.length)(hr:i%18≠17):je x y os (i+1):=by
 obtain⟨h1,h2,h3,h4,h5⟩:=h;rw[List.take_of_length_le (Nat.le_refl _)]at h2;have e:(i+1)%18=i%18+1:=by omega
 refine⟨h1,?_,by rw[e];exact h3,fun j hj=>h5 j (by omega)⟩;rw[h2,dE hi,Nat.add_mul,Nat.mul_assoc]
theorem jT.carried {x y os ys:List Nat}{i c:Nat}(h:jT x y os i y.length)(hi:i<x.length)(hr:i%18=17)(hx:∀ w∈x,w<BB)(hy:∀ w∈y,w<BB)
 (hl:ys.length=os.length-(i-17)) (hb:∀ w∈ys,w<BB) (hv:ah ys+BB^ys.length*c=ah (os.drop (i-17))):je x y (os.take (i-17)++ys) (i+1):=by
 obtain⟨h1,h2,h3,h4,h5⟩:=h;rw[List.take_of_length_le (Nat.le_refl _)]at h2;have e:(i+1)%18=0:=by omega
 have ht:(os.take (i-17)).length=i-17:=by rw[List.length_take,Nat.min_eq_left (by omega)]
 have hlt:∀ w∈os.take (i-17)++ys,w<BB:=by
  intro w hw;rcases List.mem_append.1 hw with hw|hw
  · refine z2G (M:=BB) (fun j hj=>?_) w hw
    rw[ht]at hj;have:=h5 j (by omega);rw[bW (by rw[ht];exact hj)];rw[bW (by omega)]at this;simpa using this
  · exact hb w hw
 have hlen:(os.take (i-17)++ys).length=x.length+y.length:=by rw[List.length_append,ht,hl,← h1];omega
 have hval:ah os=ah (x.take (i+1))*ah y:=by rw[h2,dE hi,Nat.add_mul,Nat.mul_assoc]
 have hsp:=dB os (i-17) (by omega)
 have hc0:c=0:=by
  rcases Nat.eq_zero_or_pos c with h|h
  · exact h
  · exfalso
    have hX:ah (x.take (i+1))<BB^x.length:=bR (fun w hw=>hx w (List.mem_of_mem_take hw)) (by rw[List.length_take];omega);have hY:=eD y hy
    have hXY:ah os<BB^x.length*BB^y.length:=by
        rw[hval];rcases Nat.eq_zero_or_pos (ah y) with h0|h0
        · rw[h0,Nat.mul_zero];exact Nat.mul_pos (Nat.pow_pos bK) (Nat.pow_pos bK)
        · exact Nat.mul_lt_mul_of_lt_of_le hX (Nat.le_of_lt hY) (by omega)
    rw[← Nat.pow_add,← h1]at hXY;have h6:BB^os.length=BB^(i-17)*BB^ys.length:=by rw[← Nat.pow_add];congr 1;omega
    have h7:BB^(i-17)*(BB^ys.length*1)≤BB^(i-17)*ah (os.drop (i-17)):=Nat.mul_le_mul_left _ (by rw[← hv];exact Nat.le_trans (Nat.mul_le_mul_left _ h) (Nat.le_add_left _ _));rw[Nat.mul_one,← h6]at h7;omega
 refine⟨hlen,?_,?_,?_⟩
 · rw[eP,ht,← hval,hsp,← hv,hc0,Nat.mul_zero,Nat.add_zero]
 · intro j hj
   have:=hlt _ (aX hj);unfold MM;have:=aG;omega
 · intro j hj
   exact hlt _ (aX (by rw[hlen];omega))
theorem je.done {x y os ys:List Nat}{c:Nat}(h:je x y os x.length)(hx:∀ w∈x,w<BB)(hy:∀ w∈y,w<BB)(hv:ah ys+BB^os.length*c=ah os):ah ys=ah x*ah y:=by
 obtain⟨h1,h2,h3,h4⟩:=h;rw[List.take_of_length_le (Nat.le_refl _)]at h2;have hX:=eD x hx;have hY:=eD y hy
 have hXY:ah os<BB^os.length:=by
  rw[h2,h1,Nat.pow_add];rcases Nat.eq_zero_or_pos (ah y) with h0|h0
  · rw[h0,Nat.mul_zero];exact Nat.mul_pos (Nat.pow_pos bK) (Nat.pow_pos bK)
  · exact Nat.mul_lt_mul_of_lt_of_le hX (Nat.le_of_lt hY) (by omega)
 have hc0:c=0:=by
  rcases Nat.eq_zero_or_pos c with h|h
  · exact h
  · have:BB^os.length*1≤BB^os.length*c:=Nat.mul_le_mul_left _ h
    omega
 rw[hc0]at hv;omega
theorem ve {U V T3 V2 P g:Nat}(hP:0<P)(hV:V2*P≤V)(hV':V<(V2+1)*P)(hU:T3*P≤U)(hg:g*V2≤T3)(hgV:g≤V2):g≤U / V+1:=by
 rcases Nat.eq_zero_or_pos g with h0|h0
 · rw[h0];exact Nat.zero_le _
 have hV0:0<V:=Nat.lt_of_lt_of_le (Nat.mul_pos (by omega) hP) hV;have h1:g*V<g*((V2+1)*P):=Nat.mul_lt_mul_of_pos_left hV' h0;have h2:g*((V2+1)*P)=g*V2*P+g*P:=by rw[Nat.add_mul,Nat.one_mul,Nat.mul_add,Nat.mul_assoc]
 have h3:g*V2*P≤T3*P:=Nat.mul_le_mul_right _ hg;have h4:g*P≤V2*P:=Nat.mul_le_mul_right _ hgV;have h5:g*V<U+V:=by omega
 have h6:(g-1)*V≤U:=by
  have:g*V=(g-1)*V+V:=by
   conv=>lhs;rw[show g=(g-1)+1 by omega,Nat.add_mul,Nat.one_mul]
  omega
 have h7:=(Nat.le_div_iff_mul_le hV0).2 h6;generalize U / V=q at *;omega
theorem quo_le {U V T3 V2 P:Nat}(hV0:0<V2)(hV:V2*P≤V)(hU:U<(T3+1)*P):U / V≤T3 / V2:=by
 rw[Nat.le_div_iff_mul_le hV0];have h1:U / V*V≤U:=Nat.div_mul_le_self U V;have h2:U / V*(V2*P)≤U / V*V:=Nat.mul_le_mul_left _ hV;have h3:U / V*V2*P<(T3+1)*P:=by rw[Nat.mul_assoc];omega
 have h4:=Nat.lt_of_mul_lt_mul_right h3;omega
end Go.Gb
namespace Go.Gb
def iG (x0 y0 x y a b c d:Nat) (o:Bool):Prop :=
 x0=d*x+b*y∧y0=c*x+a*y∧Nat.gcd x y=Nat.gcd x0 y0∧(o=true→b*y0=a*x0+x∧c*x0=d*y0+y)∧(o=false→a*x0=b*y0+x∧d*y0=c*x0+y)
theorem iG.start (x y:Nat):iG x y x y 1 0 0 1 false:=by
 refine⟨by omega,by omega,rfl,?_,?_⟩
 · intro h;cases h
 · intro _;constructor<;>omega
theorem iG.step {x0 y0 x y a b c d:Nat}{o:Bool}(h:iG x0 y0 x y a b c d o):iG x0 y0 y (x%y) c d (a+x / y*c) (b+x / y*d) (!o):=by
 obtain⟨h1,h2,h3,h4,h5⟩:=h;have hx:=Nat.div_add_mod x y;generalize x / y=q at *;have h6:Nat.gcd y (x%y)=Nat.gcd x0 y0:=by rw[← h3,Nat.gcd_comm y,← Nat.gcd_rec,Nat.gcd_comm]
 generalize x%y=r at *;refine⟨?_,?_,h6,fun ho=>?_,fun ho=>?_⟩
 · grind
 · grind
 · have:=h5 (by cases o<;>simp_all)
   grind
 · have:=h4 (by cases o<;>simp_all)
   grind
theorem iG.bound {x0 y0 x y a b c d:Nat}{o:Bool}(h:iG x0 y0 x y a b c d o)(hx:0<x):d≤x0∧c≤y0:=by
 obtain⟨h1,h2,_⟩:=h;have g1:d*1≤d*x:=Nat.mul_le_mul_left _ hx;have g2:c*1≤c*x:=Nat.mul_le_mul_left _ hx;omega
end Go.Gb
namespace Go.Proofs.YtcchkjpdchcjpaaGreatDoor
open Go.RowKit
abbrev CQ (f : FuncId) (args : Array Value) (v : Value) : Prop := ∀ W, Calls Tryz.prog f args W fun e w' => e = .returned v ∧ Below W.heap.size W w'
abbrev CR (f : FuncId) (args : Array Value) (w : World) (v : Value) : Prop := Calls Tryz.prog f args w fun e w' => e = .returned v ∧ Below w.heap.size w w'
end Go.Proofs.YtcchkjpdchcjpaaGreatDoor
namespace Go.Gb
open Go.RowKit
def cls (k:IntKind) (xs:List Nat):List Value:=xs.map fun(n:Nat)=>Value.int k (n:Int)
theorem dZ (k:IntKind)(xs:List Nat):(cls k xs).length=xs.length:=by simp[cls]
theorem cu (k:IntKind)(xs ys:List Nat):cls k (xs++ys)=cls k xs++cls k ys:=by simp[cls]
theorem jA {k:IntKind}{xs:List Nat}{i:Nat}(h:i<xs.length):(cls k xs)[i]? = some (Value.int k ((xs.getD i 0:Nat):Int)):=by
 simp[cls,List.getD,h]
theorem rF (k:IntKind)(xs:List Nat)(i v:Nat):cls k (xs.set i v)=(cls k xs).set i (Value.int k (v:Int)):=by simp[cls,List.map_set]
theorem mI (k:IntKind)(xs:List Nat)(n:Nat):cls k (xs.take n)=(cls k xs).take n:=by simp[cls,List.map_take]
def Rd (k:IntKind) (w:World) (v:Value) (xs:List Nat):Prop :=
 (v=.slice none 0 0∧xs=[]) ∨
 ∃ b o c,v=.slice (some ⟨b,o,none⟩) xs.length c∧xs.length≤c∧c≤maxLen∧b<w.heap.size∧∀ i,i<xs.length→w.cell? ⟨b,o+i,none⟩=some (.int k ((xs.getD i 0:Nat):Int))
theorem Rd.below {k:IntKind}{w w':World}{v:Value}{xs:List Nat}(h:Rd k w v xs)(hb:Below w.heap.size w w'):Rd k w' v xs:=by
 rcases h with h|⟨b,o,c,h1,h2,h3,h4,h5⟩
 · exact Or.inl h
 · exact Or.inr ⟨b,o,c,h1,h2,h3,Nat.lt_of_lt_of_le h4 hb.size,fun i hi=>(hb.cell (p:=⟨b,o+i,none⟩) h4).trans (h5 i hi)⟩
def Own (k:IntKind) (T:TypeId) (B:Nat) (w:World) (v:Value) (xs:List Nat):Prop:=w.ownsRow B T 1 v xs.length (cls k xs)
theorem Own.rd {k:IntKind}{T:TypeId}{B:Nat}{w:World}{v:Value}{xs:List Nat}(h:Own k T B w v xs):Rd k w v xs:=by
 obtain⟨h1,h2⟩:=h;rcases h2 with⟨h2,h3⟩|⟨g,cap,cur,hv,hg,hh,hn,hc,hs,ht⟩
 · exact Or.inl ⟨h2,List.length_eq_zero_iff.1 h3⟩
 · refine Or.inr ⟨g,0,cap,hv,hn,hc,(Array.getElem?_eq_some_iff.1 hh).1,fun i hi=>?_⟩
   have h4:=jA (k:=k) hi;rw[← ht,Nat.mul_one,List.getElem?_take,if_pos hi]at h4;simp only[World.cell?,hh,Nat.zero_add];simpa using h4
theorem Own.nil (k:IntKind)(T:TypeId)(B:Nat)(w:World):Own k T B w (.slice none 0 0) []:=World.ownsRow_nil w B T 1
theorem Own.mono {k:IntKind}{T:TypeId}{B B':Nat}{w:World}{v:Value}{xs:List Nat}(h:Own k T B w v xs)(hB:B'≤B):Own k T B' w v xs:=by
 obtain⟨h1,h2⟩:=h;refine⟨h1,?_⟩;rcases h2 with h2|⟨g,cap,cur,hv,hg,r⟩
 · exact Or.inl h2
 · exact Or.inr ⟨g,cap,cur,hv,by omega,r⟩
theorem Own.below {k:IntKind}{T:TypeId}{B:Nat}{w w':World}{v:Value}{xs:List Nat}(h:Own k T B w v xs)(hb:Below w.heap.size w w'):Own k T B w' v xs:=by
 obtain⟨h1,h2⟩:=h;refine⟨h1,?_⟩;rcases h2 with h2|⟨g,cap,cur,hv,hg,hh,r⟩
 · exact Or.inl h2
 · exact Or.inr ⟨g,cap,cur,hv,hg,by rw[hb.block g (Array.getElem?_eq_some_iff.1 hh).1];exact hh,r⟩
theorem Own.take {k:IntKind}{T:TypeId}{B:Nat}{w:World}{a:Option Addr}{n c:Nat}{xs:List Nat}(h:Own k T B w (.slice a n c) xs)(m:Nat)(hm:m≤xs.length):Own k T B w (.slice a m c) (xs.take m):=by
 obtain⟨h1,h2⟩:=h;refine⟨by simp[cls],?_⟩;rcases h2 with⟨h2,h3⟩|⟨g,cap,cur,hv,hg,hh,hn,hc,hs,ht⟩
 · injection h2 with e1 e2 e3
   subst e1 e2 e3;obtain rfl:m=0:=by omega
   left;simp
 · injection hv with e1 e2 e3
   subst e1 e2 e3;refine Or.inr ⟨g,c,cur,by simp[Nat.min_eq_left hm],hg,hh,by simp;omega,hc,hs,?_⟩;rw[mI,← ht,List.take_take,List.length_take,Nat.mul_one,Nat.mul_one,Nat.min_eq_left hm]
instance {W W':World}{i:IntKind}{v:Value}{l:List Nat}:Gr (Rd i W v l) W W' (Rd i W' v l):=⟨fun h k=>k.below h⟩
end Go.Gb
namespace Go.Gb
open Go Go.RowKit
section
variable {P:Program} {ops:Array Oper} {Q:Exit→Act→World→Prop}
structure RInv (ops:Array Oper) (m:Nat) (sl:Nat→Nat) (R:Nat→Value→World→Prop) (a0:Act) (W:World→Prop) (u6:Array Bool) (a:Act) (w:World):Prop where
 closed:Closed .any ops u6
 size:u6.size=ops.size
 slots:∀ i,i<m→u6.getD i false=true→∃ v,a.tmps[sl i]? = some v∧R i v w
 rest:∀ d,(∀ i,i<m→sl i≠d)→a.tmps[d]? = a0.tmps[d]?
 tsize:a.tmps.size=a0.tmps.size
 defers:a.defers=a0.defers
 world:W w
variable {m:Nat} {sl:Nat→Nat} {R:Nat→Value→World→Prop} {a a0:Act} {W:World→Prop} {u6:Array Bool} {w w':World}
theorem RInv.start (h:W w):RInv ops m sl R a W (Array.replicate ops.size false) a w :=
 ⟨nW _,by simp,fun i _ hi=>by
  exfalso
  simp only[Array.getD_eq_getD_getElem?,Array.getElem?_replicate]at hi
  split at hi<;>simp at hi,fun _ _=>rfl,rfl,rfl,h⟩
theorem RInv.put {i d:Nat}{v:Value}(h:RInv ops m sl R a0 W u6 a w)(hi:i∈Region.ready .any ops u6)(hm:i<m)(hd:d=sl i)(hlo:d<a0.tmps.size)
 (hinj:∀ j,j<m→sl j=d→j=i) (hv:R i v w') (hR:∀ j u,R j u w→R j u w') (hW:W w'):RInv ops m sl R a0 W (u6.setIfInBounds i true) (a.put (some d) v) w':=by
 subst hd;have hp:(a.put (some (sl i)) v).tmps=a.tmps.setIfInBounds (sl i) v:=rfl;have hts:=h.tsize;refine⟨h.closed.set hi,by simpa using h.size,fun j hj hl=>?_,fun e he=>?_,by rw[hp];simpa using hts,h.defers,hW⟩
 · rw[hp]
   by_cases hji:j=i
   · subst hji
     exact⟨v,by rw[Array.getElem?_setIfInBounds_self_of_lt (by omega)],hv⟩
   · rw[Array.getElem?_setIfInBounds_ne (fun e=>hji (hinj j hj e.symm))]
     rcases jR hl with h2|h2
     · exact absurd h2 hji
     · obtain⟨u,h3,h4⟩:=h.slots j hj h2
       exact⟨u,h3,hR j u h4⟩
 · rw[hp,Array.getElem?_setIfInBounds_ne (he i hm)]
   exact h.rest e he
theorem RInv.at {i j:Nat}(h:RInv ops m sl R a0 W u6 a w)(hj:j∈Region.ready .any ops u6)(hw:Region.waitsFor .any ops j i=true)(hm:i<m) :
 ∃ v,a.tmps[sl i]? = some v∧R i v w:=h.slots i hm (j6 hj hw)
def putL:List (Nat × Value)→Array Value→Array Value
 | [],t=>t
 | p :: ps,t=>putL ps (t.setIfInBounds p.1 p.2)
theorem uM:∀ (L:List (Nat × Value)) (t T:Array Value),T.size=t.size→(∀ p,p∈L→T[p.1]? = some p.2)→(∀ d,(∀ p,p∈L→p.1≠d)→T[d]? = t[d]?)→T=putL L t
 | [],t,T,_,_,h=>Array.ext_getElem? fun d=>h d (fun _ hp=>by cases hp)
 | p :: ps,t,T,hs,h1,h2=>by
   refine uM ps _ T (by simpa using hs) (fun q hq=>h1 q (List.mem_cons_of_mem _ hq)) (fun d hd=>?_);have hp:=h1 p List.mem_cons_self;by_cases hpd:p.1=d
   · subst hpd
     have hlt:p.1<T.size:=(Array.getElem?_eq_some_iff.1 hp).1;rw[hp,Array.getElem?_setIfInBounds_self_of_lt (by omega)]
   · rw[Array.getElem?_setIfInBounds_ne hpd]
     exact h2 d (fun q hq=>by
       rcases List.mem_cons.1 hq with rfl|hq
       · exact hpd
       · exact hd q hq)
theorem RInv.fin (h:RInv ops m sl R a0 W u6 a w)(L:List (Nat × Value))(h1:∀ p,p∈L→a.tmps[p.1]? = some p.2)(h2:∀ d,(∀ p,p∈L→p.1≠d)→∀ i,i<m→sl i≠d):a=⟨putL L a0.tmps,a0.defers⟩:=by
 have ht:=uM L a0.tmps a.tmps h.tsize h1 (fun d hd=>h.rest d (h2 d hd));have hd:=h.defers;cases a
 simp only at ht hd;rw[ht,hd]
def lastB (ops:Array Oper) (m:Nat):Bool:=(List.range m).all fun j=>(List.range (m+1)).any fun k=>decide (j<k)&&Region.waitsFor .any ops k j
theorem z2k (hl:lastB ops m=true)(hc:Closed .any ops u6)(hr:m∈Region.ready .any ops u6):∀ n j,n+j=m→0<n→u6.getD j false=true:=by
 intro n
 induction n using Nat.strongRecOn with
 | _ n ih =>
   intro j hj hn;have h1:=List.all_eq_true.1 hl j (List.mem_range.2 (by omega));obtain⟨k,hk,h2⟩:=List.any_eq_true.1 h1;have hk:=List.mem_range.1 hk;rw[Bool.and_eq_true,decide_eq_true_iff]at h2;by_cases hkm:k=m
   · subst hkm;exact j6 hr h2.2
   · exact hc k j (ih (m-k) (by omega) k (by omega) (by omega)) h2.2
theorem getD_set_ne {u6:Array Bool}{i j:Nat}(h:j≠i):(u6.setIfInBounds i true).getD j false=u6.getD j false:=by
 simp only[Array.getD_eq_getD_getElem?];rw[Array.getElem?_setIfInBounds_ne (Ne.symm h)]
theorem dS {u6:Array Bool}{i:Nat}(h:i<u6.size):(u6.setIfInBounds i true).getD i false=true:=by
 simp only[Array.getD_eq_getD_getElem?];rw[Array.getElem?_setIfInBounds_self_of_lt h];rfl
end
inductive Slot where
 | val (v:Value)
 | row (cs:List Value)
 | ptr (cs:List Value)
def Slot.Ok (b:Nat) (v:Value) (W:World):Slot→Prop
 | .val u=>v=u
 | .row cs=>∃ g,v=.slice (some ⟨g,0,none⟩) cs.length cs.length∧b≤g∧g<W.heap.size∧∀ i x,cs[i]? = some x→W.cell? ⟨g,i,none⟩=some x
 | .ptr cs=>∃ g,v=.pointer (some ⟨g,0,none⟩)∧b≤g∧g<W.heap.size∧(∀ i x,cs[i]? = some x→W.cell? ⟨g,i,none⟩=some x)∧(∀ i x,cs[i]? = some x→W.frozen? ⟨g,i,none⟩=false)
theorem Slot.Ok.mono {b:Nat}{v:Value}{W W':World}{s:Slot}(h:s.Ok b v W)(hb:Below W.heap.size W W'):s.Ok b v W':=by
 cases s with
 | val u=>exact h
 | row cs =>
   obtain⟨g,h1,h2,h3,h4⟩:=h;exact⟨g,h1,h2,Nat.lt_of_lt_of_le h3 hb.size,fun i x hx=>(hb.cell (p:=⟨g,i,none⟩) h3).trans (h4 i x hx)⟩
 | ptr cs =>
   obtain⟨g,h1,h2,h3,h4,h5⟩:=h;exact⟨g,h1,h2,Nat.lt_of_lt_of_le h3 hb.size,fun i x hx=>(hb.cell (p:=⟨g,i,none⟩) h3).trans (h4 i x hx),fun i x hx=>(hb.frozen (p:=⟨g,i,none⟩) h3).trans (h5 i x hx)⟩
def SlR (b:Nat) (L:List Slot) (i:Nat) (v:Value) (W:World):Prop:=(L.getD i (.val undef)).Ok b v W
theorem SlR.mono {b:Nat}{L:List Slot}{W W':World}(hb:Below W.heap.size W W')(i:Nat)(v:Value)(h:SlR b L i v W):SlR b L i v W':=Slot.Ok.mono h hb
end Go.Gb
namespace Go.Gb
def nG (n g:Int):Int:=(g+n / g) / 2
theorem uS {n g:Int}(hg:1≤g)(h:g≤nG n g):g*g≤n:=by
 unfold nG at h
 have h1:g≤n / g:=by omega
 exact(Int.le_ediv_iff_mul_le (by omega)).1 h1
theorem yD {n g:Int}(hn:1≤n)(hg:1≤g):1≤nG n g:=by
 unfold nG
 have h0:0≤n / g:=Int.ediv_nonneg (by omega) (by omega);rcases Int.lt_or_le g 2 with h|h
 · have:g=1:=by omega
   subst this;rw[Int.ediv_one];omega
 · omega
theorem uT {n g:Int}(hg:1≤g):n<(nG n g+1)*(nG n g+1):=by
 obtain⟨s,hs⟩:∃ s,nG n g=s:=⟨_,rfl⟩;obtain⟨a,ha⟩:∃ a,n / g=a:=⟨_,rfl⟩
 have h1:g+a≤2*s+1:=by
  unfold nG at hs
  rw[ha]at hs;omega
 have h2:n<g*(a+1):=by
  rw[← ha,Int.mul_comm];exact Int.lt_ediv_add_one_mul_self n (by omega)
 rw[hs]
 have h3:0≤(g-(a+1))*(g-(a+1)):=by
  rcases Int.le_total 0 (g-(a+1)) with h|h
  · exact Int.mul_nonneg h h
  · have:=Int.mul_nonneg (show 0≤(a+1)-g by omega) (show 0≤(a+1)-g by omega)
    grind
 rcases Int.lt_or_le (a+1) 0 with hneg|hpos
 · have h5:0≤(s+1)*(s+1):=by
    rcases Int.le_total 0 (s+1) with h|h
    · exact Int.mul_nonneg h h
    · have:=Int.mul_nonneg (show 0 ≤ -(s+1) by omega) (show 0 ≤ -(s+1) by omega)
      grind
   have h6:0≤g*(-(a+1)):=Int.mul_nonneg (by omega) (by omega);grind
 · have h4:0≤(2*(s+1)-(g+a+1))*(2*(s+1)+(g+a+1)):=Int.mul_nonneg (by omega) (by omega)
   grind
theorem pO (n g:Int)(hg:0<g):((n:Rat) / (g:Rat)).num / (((n:Rat) / (g:Rat)).den:Int)=n / g:=by
 obtain⟨q,hq⟩:∃ q:Rat,q=(n:Rat) / (g:Rat):=⟨_,rfl⟩;rw[← hq]
 have e2:q.num*g=n*(q.den:Int):=by
  have h:Rat.divInt q.num (q.den:Int)=Rat.divInt n g:=by rw[Rat.num_divInt_den,hq,Rat.divInt_eq_div]
  exact(Rat.divInt_eq_divInt_iff (by have:=q.den_nz;omega) (by omega)).1 h
 have hd:(0:Int)<(q.den:Int):=by have:=q.den_nz;omega
 rw[← Int.mul_ediv_mul_of_pos_left q.num (q.den:Int) hg,e2,Int.mul_comm n,Int.mul_ediv_mul_of_pos _ _ hd]
end Go.Gb
namespace Go.Gb
open Lib
theorem yQ (n k:Nat)(h:0<n / 10^k):(decDigits n).take ((decDigits n).length-k)=decDigits (n / 10^k):=by
 have e:=fF (n / 10^k) h k (n%10^k) (Nat.mod_lt _ (Nat.pow_pos (by decide)));rw[Nat.mul_comm,Nat.div_add_mod]at e;rw[e];simp
theorem z0S (v k:Nat)(h:0<v):decDigits (v*10^k)=decDigits v++List.replicate k 48:=by
 have e:=fF v h k 0 (Nat.pow_pos (by decide));rw[Nat.add_zero]at e;rw[e];congr 1
 apply List.ext_getElem
 · simp
 · intro i h1 h2
   simp
theorem vg {n k s:Nat}(hs:n / 10^(k+k)<(s+1)*(s+1)):n<((s+1)*10^k+1)*((s+1)*10^k+1):=by
 have h1:n<(s+1)*(s+1)*(10^k*10^k):=by
  rw[← Nat.pow_add];exact(Nat.div_lt_iff_lt_mul (Nat.pow_pos (by decide))).1 hs
 have h2:(s+1)*(s+1)*(10^k*10^k)=(s+1)*10^k*((s+1)*10^k):=by
  rw[Nat.mul_mul_mul_comm]
 rw[h2]at h1;exact Nat.lt_of_lt_of_le h1 (Nat.mul_le_mul (Nat.le_succ _) (Nat.le_succ _))
end Go.Gb
namespace Go.Gb
theorem z3t {a b c d:Rat}(h1:0≤a)(h2:a≤b)(h3:0≤c)(h4:c≤d):a*c≤b*d:=by
 have e1:=Rat.mul_nonneg (show 0≤b-a by grind) h3;have e2:=Rat.mul_nonneg (show 0≤b by grind) (show 0≤d-c by grind);grind
theorem z4B {a b:Rat}(h1:0≤a)(h2:a≤b):a*a≤b*b:=z3t h1 h2 h1 h2
theorem xV {a b:Rat}(hb:0≤b)(h:a*a<b*b):a<b:=by
 rcases Rat.le_total (a:=b) (b:=a) with h1|h1
 · have:=z4B hb h1;grind
 · rcases Rat.le_iff_lt_or_eq.1 h1 with h2|h2
   · exact h2
   · subst h2;grind
def rk (s:Rat):Nat:=isq s.floor.toNat
theorem z3u {s:Rat}(hs:0≤s):((rk s:Nat):Rat)*((rk s:Nat):Rat)≤s∧s<(((rk s:Nat):Rat)+1)*(((rk s:Nat):Rat)+1):=by
 have h0:0≤s.floor:=Rat.le_floor_iff.2 (by simpa using hs);obtain⟨f,hf⟩:∃ f:Nat,s.floor=(f:Int):=⟨s.floor.toNat,by omega⟩;have⟨g1,g2⟩:=jJ f;have e:rk s=isq f:=by unfold rk;rw[hf];rfl
 rw[e];have l1:((f:Int):Rat)≤s:=by rw[← hf];exact Rat.floor_le _
 have l2:s<((f:Int):Rat)+1:=by
  have:=Rat.lt_floor_add_one s;rw[hf]at this;simpa using this
 have c1:((isq f*isq f:Nat):Rat)≤((f:Nat):Rat):=Rat.natCast_le_natCast.2 g1;have c2:(((f+1:Nat)):Rat)≤(((isq f+1)*(isq f+1):Nat):Rat):=Rat.natCast_le_natCast.2 g2;have fc:((f:Int):Rat)=((f:Nat):Rat):=rfl;rw[Rat.natCast_mul]at c1 c2;rw[Rat.natCast_add,Rat.natCast_add]at c2;rw[fc]at l1 l2;constructor
 · grind
 · have:((1:Nat):Rat)=1:=rfl
   grind
theorem eQ (k:Nat):(0:Rat)≤((k:Nat):Rat):=by exact_mod_cast (Rat.natCast_le_natCast.2 (Nat.zero_le k):((0:Nat):Rat)≤((k:Nat):Rat))
theorem qD {a b:Nat}:((a:Nat):Rat)≤((b:Nat):Rat)↔a≤b:=Rat.natCast_le_natCast
theorem z01 {a b:Nat}:((a:Nat):Rat)<((b:Nat):Rat)↔a<b:=Rat.natCast_lt_natCast
theorem qC {k:Nat}(h:1≤k):(0:Rat)<((k:Nat):Rat):=by
 have:=(z01 (a:=0) (b:=k)).2 h;simpa using this
theorem gB {a b c:Rat}(hc:0<c)(h:a≤b):a / c≤b / c:=by
 rw[Rat.div_def,Rat.div_def];have:=Rat.mul_nonneg (show 0≤b-a by grind) (show 0≤c⁻¹ from Rat.le_of_lt (Rat.inv_pos.2 hc));grind
def eK (x:Rat) (n:Nat):Nat:=rk (x*((n:Rat)*(n:Rat)))
def eX (x:Rat) (n:Nat):Bool:=decide ((eK x n:Rat)*(eK x n:Rat)=x*((n:Rat)*(n:Rat)))
def eH (x:Rat) (n:Nat):Nat:=if eX x n then eK x n else eK x n+1
theorem nQ {x:Rat}{n:Nat}(hx:0≤x):(eK x n:Rat)*(eK x n:Rat)≤x*((n:Rat)*(n:Rat))∧x*((n:Rat)*(n:Rat))<((eK x n:Rat)+1)*((eK x n:Rat)+1) :=
 z3u (Rat.mul_nonneg hx (Rat.mul_nonneg (eQ n) (eQ n)))
theorem z0M {x:Rat}{n:Nat}(hx:0≤x):x*((n:Rat)*(n:Rat))≤(eH x n:Rat)*(eH x n:Rat)∧(eX x n=false→(eH x n:Rat)=(eK x n:Rat)+1∧(eK x n:Rat)*(eK x n:Rat)<x*((n:Rat)*(n:Rat))∧x*((n:Rat)*(n:Rat))<(eH x n:Rat)*(eH x n:Rat))∧(eX x n=true→eH x n=eK x n∧(eK x n:Rat)*(eK x n:Rat)=x*((n:Rat)*(n:Rat))):=by
 have⟨h1,h2⟩:=nQ (n:=n) hx
 cases h:eX x n with
 | true =>
   have e:eH x n=eK x n:=by unfold eH;rw[h];rfl
   have e2:=of_decide_eq_true h;rw[e];exact⟨by grind,(fun h=>by cases h),fun _=>⟨rfl,e2⟩⟩
 | false =>
   have e:eH x n=eK x n+1:=by unfold eH;rw[h];rfl
   have e2:=of_decide_eq_false h;have e3:((eH x n:Nat):Rat)=(eK x n:Rat)+1:=by rw[e,Rat.natCast_add];rfl
   rw[e3];exact⟨by grind,(fun _=>⟨rfl,by grind,h2⟩),fun h=>by cases h⟩
theorem lW {a b:Nat}(h:(a:Rat)*(a:Rat)<(b:Rat)*(b:Rat)):a<b:=z01.1 (xV (eQ b) h)
theorem z4P {x:Rat}{n m:Nat}(hx:0≤x)(h:(m:Rat)*(m:Rat)≤x*((n:Rat)*(n:Rat))):m≤eK x n:=by
 have⟨_,h2⟩:=nQ (n:=n) hx;have e:((eK x n+1:Nat):Rat)=(eK x n:Rat)+1:=by rw[Rat.natCast_add];rfl
 rw[← e]at h2;have:=lW (a:=m) (b:=eK x n+1) (by grind);omega
theorem greater {x y:Rat}{d:Nat}(hx:0≤x)(hxy:x≤y)(hd:1≤d):(eK x d:Rat) / (d:Rat)≤(eK y d:Rat) / (d:Rat)∧(eH x d:Rat) / (d:Rat)≤(eH y d:Rat) / (d:Rat):=by
 have hy:0≤y:=by grind
 have hp:=qC hd;have hdd:=Rat.mul_nonneg (Rat.le_of_lt hp) (Rat.le_of_lt hp)
 have hS:x*((d:Rat)*(d:Rat))≤y*((d:Rat)*(d:Rat)):=by
  have:=Rat.mul_nonneg (show 0≤y-x by grind) hdd;grind
 have⟨a1,a2⟩:=nQ (n:=d) hx;have⟨c1,c2,c3⟩:=z0M (n:=d) hx;have⟨b1,b2,b3⟩:=z0M (n:=d) hy;have k1:eK x d≤eK y d:=z4P hy (by grind)
 have k2:eH x d≤eH y d:=by
  cases hX:eX x d with
  | true =>
    have⟨e1,_⟩:=c3 hX;rw[e1];have:eK y d≤eH y d:=by unfold eH;split<;>omega
    omega
  | false =>
    have⟨_,e2,_⟩:=c2 hX;have h1:eK x d<eH y d:=lW (by grind);have h2:eH x d=eK x d+1:=by unfold eH;rw[hX];rfl
    omega
 exact⟨gB hp (qD.2 k1),gB hp (qD.2 k2)⟩
