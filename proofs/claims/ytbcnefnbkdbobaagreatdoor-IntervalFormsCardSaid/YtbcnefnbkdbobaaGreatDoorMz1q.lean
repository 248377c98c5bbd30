/- texts -/
import Derived.Lib.Hide
import Derived.Test.YtbcnefnbkdbobaaGreatDoorMz0q
import Derived.OneCell
import Derived.StillTail
import Derived.WalkKit
import Derived.Carry
namespace Go.RowKit
theorem Hid.o {p:Prop}(h:Hid p):p:=h
end Go.RowKit
namespace Go.Gb
open Go.RowKit
class Gr (p:Prop)(W W':World)(q:outParam Prop):Prop where g:Below W.heap.size W W'→p→q
theorem aI {A B:Prop} (a:A) (b:B):RowKit.Hid A∧RowKit.Hid B:=⟨a,b⟩
theorem av {A B C:Prop} (a:A) (b:B) (c:C):RowKit.Hid A∧RowKit.Hid B∧RowKit.Hid C:=⟨a,b,c⟩
theorem aP {A B C D:Prop} (a:A) (b:B) (c:C) (d:D):RowKit.Hid A∧RowKit.Hid B∧RowKit.Hid C∧RowKit.Hid D:=⟨a,b,c,d⟩
theorem bA {A B C D E:Prop} (a:A) (b:B) (c:C) (d:D) (e:E):RowKit.Hid A∧RowKit.Hid B∧RowKit.Hid C∧RowKit.Hid D∧RowKit.Hid E:=⟨a,b,c,d,e⟩
theorem bX {A B C D E F:Prop} (a:A) (b:B) (c:C) (d:D) (e:E) (f:F):RowKit.Hid A∧RowKit.Hid B∧RowKit.Hid C∧RowKit.Hid D∧RowKit.Hid E∧RowKit.Hid F:=⟨a,b,c,d,e,f⟩
theorem dP {A B C D E F G:Prop} (a:A) (b:B) (c:C) (d:D) (e:E) (f:F) (g:G):RowKit.Hid A∧RowKit.Hid B∧RowKit.Hid C∧RowKit.Hid D∧RowKit.Hid E∧RowKit.Hid F∧RowKit.Hid G:=⟨a,b,c,d,e,f,g⟩
theorem gQ {A B C D E F G H:Prop} (a:A) (b:B) (c:C) (d:D) (e:E) (f:F) (g:G) (h:H):RowKit.Hid A∧RowKit.Hid B∧RowKit.Hid C∧RowKit.Hid D∧RowKit.Hid E∧RowKit.Hid F∧RowKit.Hid G∧RowKit.Hid H:=⟨a,b,c,d,e,f,g,h⟩
theorem cz {A B C D E F G H I:Prop} (a:A) (b:B) (c:C) (d:D) (e:E) (f:F) (g:G) (h:H) (i:I):RowKit.Hid A∧RowKit.Hid B∧RowKit.Hid C∧RowKit.Hid D∧RowKit.Hid E∧RowKit.Hid F∧RowKit.Hid G∧RowKit.Hid H∧RowKit.Hid I:=⟨a,b,c,d,e,f,g,h,i⟩
theorem bG {W W':World} {p0 q0 p1 q1:Prop} (h:Below W.heap.size W W') (a0:Hid p0) (a1:Hid p1) [i0:Gr p0 W W' q0] [i1:Gr p1 W W' q1]:Hid q0∧Hid q1:=⟨i0.g h a0,i1.g h a1⟩
theorem df {W W':World} {p0 q0 p1 q1 p2 q2:Prop} (h:Below W.heap.size W W') (a0:Hid p0) (a1:Hid p1) (a2:Hid p2) [i0:Gr p0 W W' q0] [i1:Gr p1 W W' q1] [i2:Gr p2 W W' q2]:Hid q0∧Hid q1∧Hid q2:=⟨i0.g h a0,i1.g h a1,i2.g h a2⟩
theorem cB {W W':World} {p0 q0 p1 q1 p2 q2 p3 q3:Prop} (h:Below W.heap.size W W') (a0:Hid p0) (a1:Hid p1) (a2:Hid p2) (a3:Hid p3) [i0:Gr p0 W W' q0] [i1:Gr p1 W W' q1] [i2:Gr p2 W W' q2] [i3:Gr p3 W W' q3]:Hid q0∧Hid q1∧Hid q2∧Hid q3:=⟨i0.g h a0,i1.g h a1,i2.g h a2,i3.g h a3⟩
theorem iM {W W':World} {p0 q0 p1 q1 p2 q2 p3 q3 p4 q4:Prop} (h:Below W.heap.size W W') (a0:Hid p0) (a1:Hid p1) (a2:Hid p2) (a3:Hid p3) (a4:Hid p4) [i0:Gr p0 W W' q0] [i1:Gr p1 W W' q1] [i2:Gr p2 W W' q2] [i3:Gr p3 W W' q3] [i4:Gr p4 W W' q4]:Hid q0∧Hid q1∧Hid q2∧Hid q3∧Hid q4:=⟨i0.g h a0,i1.g h a1,i2.g h a2,i3.g h a3,i4.g h a4⟩
theorem z0E {W W':World} {p0 q0 p1 q1 p2 q2 p3 q3 p4 q4 p5 q5:Prop} (h:Below W.heap.size W W') (a0:Hid p0) (a1:Hid p1) (a2:Hid p2) (a3:Hid p3) (a4:Hid p4) (a5:Hid p5) [i0:Gr p0 W W' q0] [i1:Gr p1 W W' q1] [i2:Gr p2 W W' q2] [i3:Gr p3 W W' q3] [i4:Gr p4 W W' q4] [i5:Gr p5 W W' q5]:Hid q0∧Hid q1∧Hid q2∧Hid q3∧Hid q4∧Hid q5:=⟨i0.g h a0,i1.g h a1,i2.g h a2,i3.g h a3,i4.g h a4,i5.g h a5⟩
end Go.Gb
namespace Go.Gb
open Go.Lib
def MM (r:Nat):Nat:=999999999+r*999999998000000001
theorem z2O {r:Nat}(h:r≤18):MM r≤17999999965000000017:=by unfold MM;omega
def kI (xs ys:List Nat) (i c:Nat):Prop:=ys.length=i∧(∀ w∈ys,w<BB)∧c≤18000000000∧ag ys+BB^i*c=ag (xs.take i)
theorem kI.start (xs:List Nat):kI xs [] 0 0:=⟨rfl,by simp,by omega,by simp[ag]⟩
theorem kI.step {xs ys:List Nat}{i c:Nat}(h:kI xs ys i c)(hi:i<xs.length)(hx:xs.getD i 0≤MM 18):kI xs (ys++[(xs.getD i 0+c)%BB]) (i+1) ((xs.getD i 0+c) / BB)∧xs.getD i 0+c≤18446744073709551615:=by
 obtain⟨h1,h2,h3,h4⟩:=h;have hM:=z2O (r:=18) (by omega);have hB:=aC;refine⟨⟨by simp[h1],?_,?_,?_⟩,by omega⟩
 · intro w hw
   rcases List.mem_append.1 hw with hw|hw
   · exact h2 w hw
   · have hw:=List.mem_singleton.1 hw;rw[hw];exact Nat.mod_lt _ bD
 · rw[hB];omega
 · rw[dC,h1,di hi,Nat.pow_succ,Nat.mul_assoc,Nat.add_assoc,← Nat.mul_add,Nat.mod_add_div,Nat.mul_add];omega
theorem kI.done {xs ys:List Nat}{c:Nat}(h:kI xs ys xs.length c):ys.length=xs.length∧(∀ w∈ys,w<BB)∧ag ys+BB^xs.length*c=ag xs:=by
 obtain⟨h1,h2,h3,h4⟩:=h;rw[List.take_of_length_le (Nat.le_refl _)]at h4;exact⟨h1,h2,h4⟩
theorem oG {a b:Nat}(ha:a<BB)(hb:b<BB):a*b≤999999998000000001:=by
 have h:a*b≤999999999*999999999:=Nat.mul_le_mul (by have:=aC;omega) (by have:=aC;omega);omega
def iP (x y os:List Nat) (i:Nat):Prop :=
 os.length=x.length+y.length∧ag os=ag (x.take i)*ag y∧(∀ j,j<os.length→os.getD j 0≤MM (i%18))∧∀ j,j<i-i%18→os.getD j 0<BB
def jD (x y os:List Nat) (i k:Nat):Prop :=
 os.length=x.length+y.length∧ag os=ag (x.take i)*ag y+BB^i*(x.getD i 0*ag (y.take k))∧(∀ j,j<os.length→os.getD j 0≤MM (i%18+1))∧(∀ j,i+k≤j→j<os.length→os.getD j 0≤MM (i%18))∧∀ j,j<i-i%18→os.getD j 0<BB
theorem iP.start (x y:List Nat):iP x y (List.replicate (x.length+y.length) 0) 0:=by
 refine⟨by simp,?_,?_,by intro j hj;omega⟩
 · have:=ek [] (x.length+y.length)
   simp only[List.nil_append]at this;rw[this];simp[ag]
 · intro j hj
   rw[bN hj];simp
theorem iP.row {x y os:List Nat}{i:Nat}(h:iP x y os i):jD x y os i 0:=by
 obtain⟨h1,h2,h3,h4⟩:=h;refine⟨h1,by simp[h2,ag],fun j hj=>Nat.le_trans (h3 j hj) (by unfold MM;omega),fun j _ hj=>h3 j hj,h4⟩
theorem jD.step {x y os:List Nat}{i k:Nat}(h:jD x y os i k)(hi:i<x.length)(hk:k<y.length)(hx:∀ w∈x,w<BB)(hy:∀ w∈y,w<BB) :
 jD x y (os.set (i+k) (os.getD (i+k) 0+x.getD i 0*y.getD k 0)) i (k+1)∧os.getD (i+k) 0+x.getD i 0*y.getD k 0≤MM 18:=by
 obtain⟨h1,h2,h3,h4,h5⟩:=h;have hp:=oG (hx _ (aU hi)) (hy _ (aU hk));have hc:=h4 (i+k) (Nat.le_refl _) (by omega);have hr:i%18<18:=Nat.mod_lt _ (by decide);have hM:MM (i%18+1)=MM (i%18)+999999998000000001:=by unfold MM;omega
 refine⟨⟨by simp[h1],?_,?_,?_,?_⟩,?_⟩
 · have hs:=oF (xs:=os) (i:=i+k) (v:=os.getD (i+k) 0+x.getD i 0*y.getD k 0) (by omega)
   rw[Nat.mul_add,h2]at hs;rw[di hk]
   have e:BB^(i+k)*(x.getD i 0*y.getD k 0)=BB^i*(x.getD i 0*(BB^k*y.getD k 0)):=by
    rw[Nat.pow_add,Nat.mul_assoc,Nat.mul_left_comm (BB^k)]
   rw[e]at hs;rw[Nat.mul_add (x.getD i 0),Nat.mul_add (BB^i)];omega
 · intro j hj
   simp only[List.length_set]at hj;rw[kg];split
   · omega
   · exact h3 j hj
 · intro j hj1 hj
   simp only[List.length_set]at hj;rw[kg,if_neg (by omega)];exact h4 j (by omega) hj
 · intro j hj
   rw[kg,if_neg (by omega)];exact h5 j hj
 · have:MM (i%18+1)≤MM 18:=by unfold MM;omega
   omega
theorem jD.next {x y os:List Nat}{i:Nat}(h:jD x y os i y.length)(hi:i<x.length)(hr:i%18≠17):iP x y os (i+1):=by
 obtain⟨h1,h2,h3,h4,h5⟩:=h;rw[List.take_of_length_le (Nat.le_refl _)]at h2;have e:(i+1)%18=i%18+1:=by omega
 refine⟨h1,?_,by rw[e];exact h3,fun j hj=>h5 j (by omega)⟩;rw[h2,di hi,Nat.add_mul,Nat.mul_assoc]
theorem jD.carried {x y os ys:List Nat}{i c:Nat}(h:jD x y os i y.length)(hi:i<x.length)(hr:i%18=17)(hx:∀ w∈x,w<BB)(hy:∀ w∈y,w<BB)
 (hl:ys.length=os.length-(i-17)) (hb:∀ w∈ys,w<BB) (hv:ag ys+BB^ys.length*c=ag (os.drop (i-17))):iP x y (os.take (i-17)++ys) (i+1):=by
 obtain⟨h1,h2,h3,h4,h5⟩:=h;rw[List.take_of_length_le (Nat.le_refl _)]at h2;have e:(i+1)%18=0:=by omega
 have ht:(os.take (i-17)).length=i-17:=by rw[List.length_take,Nat.min_eq_left (by omega)]
 have hlt:∀ w∈os.take (i-17)++ys,w<BB:=by
  intro w hw;rcases List.mem_append.1 hw with hw|hw
  · refine z10 (M:=BB) (fun j hj=>?_) w hw
    rw[ht]at hj;have:=h5 j (by omega);rw[bN (by rw[ht];exact hj)];rw[bN (by omega)]at this;simpa using this
  · exact hb w hw
 have hlen:(os.take (i-17)++ys).length=x.length+y.length:=by rw[List.length_append,ht,hl,← h1];omega
 have hval:ag os=ag (x.take (i+1))*ag y:=by rw[h2,di hi,Nat.add_mul,Nat.mul_assoc]
 have hsp:=cZ os (i-17) (by omega)
 have hc0:c=0:=by
  rcases Nat.eq_zero_or_pos c with h|h
  · exact h
  · exfalso
    have hX:ag (x.take (i+1))<BB^x.length:=bJ (fun w hw=>hx w (List.mem_of_mem_take hw)) (by rw[List.length_take];omega);have hY:=dS y hy
    have hXY:ag os<BB^x.length*BB^y.length:=by
        rw[hval];rcases Nat.eq_zero_or_pos (ag y) with h0|h0
        · rw[h0,Nat.mul_zero];exact Nat.mul_pos (Nat.pow_pos bD) (Nat.pow_pos bD)
        · exact Nat.mul_lt_mul_of_lt_of_le hX (Nat.le_of_lt hY) (by omega)
    rw[← Nat.pow_add,← h1]at hXY;have h6:BB^os.length=BB^(i-17)*BB^ys.length:=by rw[← Nat.pow_add];congr 1;omega
    have h7:BB^(i-17)*(BB^ys.length*1)≤BB^(i-17)*ag (os.drop (i-17)):=Nat.mul_le_mul_left _ (by rw[← hv];exact Nat.le_trans (Nat.mul_le_mul_left _ h) (Nat.le_add_left _ _));rw[Nat.mul_one,← h6]at h7;omega
 refine⟨hlen,?_,?_,?_⟩
 · rw[dZ,ht,← hval,hsp,← hv,hc0,Nat.mul_zero,Nat.add_zero]
 · intro j hj
   have:=hlt _ (aU hj);unfold MM;have:=aC;omega
 · intro j hj
   exact hlt _ (aU (by rw[hlen];omega))
theorem iP.done {x y os ys:List Nat}{c:Nat}(h:iP x y os x.length)(hx:∀ w∈x,w<BB)(hy:∀ w∈y,w<BB)(hv:ag ys+BB^os.length*c=ag os):ag ys=ag x*ag y:=by
 obtain⟨h1,h2,h3,h4⟩:=h;rw[List.take_of_length_le (Nat.le_refl _)]at h2;have hX:=dS x hx;have hY:=dS y hy
 have hXY:ag os<BB^os.length:=by
  rw[h2,h1,Nat.pow_add];rcases Nat.eq_zero_or_pos (ag y) with h0|h0
  · rw[h0,Nat.mul_zero];exact Nat.mul_pos (Nat.pow_pos bD) (Nat.pow_pos bD)
  · exact Nat.mul_lt_mul_of_lt_of_le hX (Nat.le_of_lt hY) (by omega)
 have hc0:c=0:=by
  rcases Nat.eq_zero_or_pos c with h|h
  · exact h
  · have:BB^os.length*1≤BB^os.length*c:=Nat.mul_le_mul_left _ h
    omega
 rw[hc0]at hv;omega
theorem tJ {U V T3 V2 P g:Nat}(hP:0<P)(hV:V2*P≤V)(hV':V<(V2+1)*P)(hU:T3*P≤U)(hg:g*V2≤T3)(hgV:g≤V2):g≤U / V+1:=by
 rcases Nat.eq_zero_or_pos g with h0|h0
 · rw[h0];exact Nat.zero_le _
 have hV0:0<V:=Nat.lt_of_lt_of_le (Nat.mul_pos (by omega) hP) hV;have h1:g*V<g*((V2+1)*P):=Nat.mul_lt_mul_of_pos_left hV' h0;have h2:g*((V2+1)*P)=g*V2*P+g*P:=by rw[Nat.add_mul,Nat.one_mul,Nat.mul_add,Nat.mul_assoc]
 have h3:g*V2*P≤T3*P:=Nat.mul_le_mul_right _ hg;have h4:g*P≤V2*P:=Nat.mul_le_mul_right _ hgV;have h5:g*V<U+V:=by omega
 have h6:(g-1)*V≤U:=by
  have:g*V=(g-1)*V+V:=by
   conv=>lhs;rw[show g=(g-1)+1 by omega,Nat.add_mul,Nat.one_mul]
  omega
 have h7:=(Nat.le_div_iff_mul_le hV0).2 h6;generalize U / V=q at *;omega
theorem quo_le {U V T3 V2 P:Nat}(hV0:0<V2)(hV:V2*P≤V)(hU:U<(T3+1)*P):U / V≤T3 / V2:=by
 rw[Nat.le_div_iff_mul_le hV0];have h1:U / V*V≤U:=Nat.div_mul_le_self U V;have h2:U / V*(V2*P)≤U / V*V:=Nat.mul_le_mul_left _ hV;have h3:U / V*V2*P<(T3+1)*P:=by rw[Nat.mul_assoc];omega
 have h4:=Nat.lt_of_mul_lt_mul_right h3;omega
end Go.Gb
namespace Go.Gb
def ib (x0 y0 x y a b c d:Nat) (o:Bool):Prop :=
 x0=d*x+b*y∧y0=c*x+a*y∧Nat.gcd x y=Nat.gcd x0 y0∧(o=true→b*y0=a*x0+x∧c*x0=d*y0+y)∧(o=false→a*x0=b*y0+x∧d*y0=c*x0+y)
theorem ib.start (x y:Nat):ib x y x y 1 0 0 1 false:=by
 refine⟨by omega,by omega,rfl,?_,?_⟩
 · intro h;cases h
 · intro _;constructor<;>omega
theorem ib.step {x0 y0 x y a b c d:Nat}{o:Bool}(h:ib x0 y0 x y a b c d o):ib x0 y0 y (x%y) c d (a+x / y*c) (b+x / y*d) (!o):=by
 obtain⟨h1,h2,h3,h4,h5⟩:=h;have hx:=Nat.div_add_mod x y;generalize x / y=q at *;have h6:Nat.gcd y (x%y)=Nat.gcd x0 y0:=by rw[← h3,Nat.gcd_comm y,← Nat.gcd_rec,Nat.gcd_comm]
 generalize x%y=r at *;refine⟨?_,?_,h6,fun ho=>?_,fun ho=>?_⟩
 · grind
 · grind
 · have:=h5 (by cases o<;>simp_all)
   grind
 · have:=h4 (by cases o<;>simp_all)
   grind
theorem ib.bound {x0 y0 x y a b c d:Nat}{o:Bool}(h:ib x0 y0 x y a b c d o)(hx:0<x):d≤x0∧c≤y0:=by
 obtain⟨h1,h2,_⟩:=h;have g1:d*1≤d*x:=Nat.mul_le_mul_left _ hx;have g2:c*1≤c*x:=Nat.mul_le_mul_left _ hx;omega
end Go.Gb
namespace Go.Proofs.YtbcnefnbkdbobaaGreatDoor
open Go.RowKit
theorem hbt {w a b : World} (h : Hid (Below w.heap.size w a)) (k : Below a.heap.size a b) : Hid (Below w.heap.size w b) := Lib.hid (h.out.trans (k.mono h.out.size))
end Go.Proofs.YtbcnefnbkdbobaaGreatDoor
namespace Go.Gb
open Go.RowKit
def cls (k:IntKind) (xs:List Nat):List Value:=xs.map fun(n:Nat)=>Value.int k (n:Int)
theorem dQ (k:IntKind)(xs:List Nat):(cls k xs).length=xs.length:=by simp[cls]
theorem bQ (k:IntKind)(xs ys:List Nat):cls k (xs++ys)=cls k xs++cls k ys:=by simp[cls]
theorem jf {k:IntKind}{xs:List Nat}{i:Nat}(h:i<xs.length):(cls k xs)[i]? = some (Value.int k ((xs.getD i 0:Nat):Int)):=by
 simp[cls,List.getD,h]
theorem qd (k:IntKind)(xs:List Nat)(i v:Nat):cls k (xs.set i v)=(cls k xs).set i (Value.int k (v:Int)):=by simp[cls,List.map_set]
theorem lN (k:IntKind)(xs:List Nat)(n:Nat):cls k (xs.take n)=(cls k xs).take n:=by simp[cls,List.map_take]
def Rd (k:IntKind) (w:World) (v:Value) (xs:List Nat):Prop :=
 (v=.slice none 0 0∧xs=[]) ∨
 ∃ b o c,v=.slice (some ⟨b,o,none⟩) xs.length c∧xs.length≤c∧c≤maxLen∧b<w.heap.size∧∀ i,i<xs.length→w.cell? ⟨b,o+i,none⟩=some (.int k ((xs.getD i 0:Nat):Int))
theorem Rd.below {k:IntKind}{w w':World}{v:Value}{xs:List Nat}(h:Rd k w v xs)(hb:Below w.heap.size w w'):Rd k w' v xs:=by
 rcases h with h|⟨b,o,c,h1,h2,h3,h4,h5⟩
 · exact Or.inl h
 · exact Or.inr ⟨b,o,c,h1,h2,h3,Nat.lt_of_lt_of_le h4 hb.size,fun i hi=>(hb.cell (p:=⟨b,o+i,none⟩) h4).trans (h5 i hi)⟩
def Own (k:IntKind) (T:TypeId) (B:Nat) (w:World) (v:Value) (xs:List Nat):Prop:=w.ownsRow B T 1 v xs.length (cls k xs)
theorem Own.rd {k:IntKind}{T:TypeId}{B:Nat}{w:World}{v:Value}{xs:List Nat}(h:Own k T B w v xs):Rd k w v xs:=by
 obtain⟨h1,h2⟩:=h;rcases h2 with⟨h2,h3⟩|⟨g,cap,cur,hv,hg,hh,hn,hc,hs,ht⟩
 · exact Or.inl ⟨h2,List.length_eq_zero_iff.1 h3⟩
 · refine Or.inr ⟨g,0,cap,hv,hn,hc,(Array.getElem?_eq_some_iff.1 hh).1,fun i hi=>?_⟩
   have h4:=jf (k:=k) hi;rw[← ht,Nat.mul_one,List.getElem?_take,if_pos hi]at h4;simp only[World.cell?,hh,Nat.zero_add];simpa using h4
theorem Own.nil (k:IntKind)(T:TypeId)(B:Nat)(w:World):Own k T B w (.slice none 0 0) []:=World.ownsRow_nil w B T 1
theorem Own.mono {k:IntKind}{T:TypeId}{B B':Nat}{w:World}{v:Value}{xs:List Nat}(h:Own k T B w v xs)(hB:B'≤B):Own k T B' w v xs:=by
 obtain⟨h1,h2⟩:=h;refine⟨h1,?_⟩;rcases h2 with h2|⟨g,cap,cur,hv,hg,r⟩
 · exact Or.inl h2
 · exact Or.inr ⟨g,cap,cur,hv,by omega,r⟩
theorem Own.below {k:IntKind}{T:TypeId}{B:Nat}{w w':World}{v:Value}{xs:List Nat}(h:Own k T B w v xs)(hb:Below w.heap.size w w'):Own k T B w' v xs:=by
 obtain⟨h1,h2⟩:=h;refine⟨h1,?_⟩;rcases h2 with h2|⟨g,cap,cur,hv,hg,hh,r⟩
 · exact Or.inl h2
 · exact Or.inr ⟨g,cap,cur,hv,hg,by rw[hb.block g (Array.getElem?_eq_some_iff.1 hh).1];exact hh,r⟩
theorem Own.take {k:IntKind}{T:TypeId}{B:Nat}{w:World}{a:Option Addr}{n c:Nat}{xs:List Nat}(h:Own k T B w (.slice a n c) xs)(m:Nat)(hm:m≤xs.length):Own k T B w (.slice a m c) (xs.take m):=by
 obtain⟨h1,h2⟩:=h;refine⟨by simp[cls],?_⟩;rcases h2 with⟨h2,h3⟩|⟨g,cap,cur,hv,hg,hh,hn,hc,hs,ht⟩
 · injection h2 with e1 e2 e3
   subst e1 e2 e3;obtain rfl:m=0:=by omega
   left;simp
 · injection hv with e1 e2 e3
   subst e1 e2 e3;refine Or.inr ⟨g,c,cur,by simp[Nat.min_eq_left hm],hg,hh,by simp;omega,hc,hs,?_⟩;rw[lN,← ht,List.take_take,List.length_take,Nat.mul_one,Nat.mul_one,Nat.min_eq_left hm]
instance {W W':World}{i:IntKind}{v:Value}{l:List Nat}:Gr (Rd i W v l) W W' (Rd i W' v l):=⟨fun h k=>k.below h⟩
end Go.Gb
namespace Go.Gb
open Go
section
variable {P:Program} {ops:Array Oper} {Q:Exit→Act→World→Prop} {md:Region.Mode}
def Closed (md:Region.Mode) (ops:Array Oper) (u6:Array Bool):Prop:=∀ j i,u6.getD j false=true→Region.waitsFor md ops j i=true→u6.getD i false=true
theorem z02 {j i:Nat}{o:Oper}(ho:ops[j]? = some o)(h:Region.waitsFor md ops j i=true):∃ e∈o.after,Region.binds md e=true∧e.on=i:=by
 obtain⟨o',ho',e,he,hb⟩:=Region.waitsFor_spec h;obtain rfl:o'=o:=Option.some.inj (ho'.symm.trans ho);exact⟨e,he,hb⟩
theorem jE {u6:Array Bool}{j i:Nat}(hj:j∈Region.ready md ops u6)(h:Region.waitsFor md ops j i=true):u6.getD i false=true:=by
 obtain⟨_,o,ho,w9⟩:=mem_ready.1 hj;obtain⟨e,he,hb,rfl⟩:=z02 ho h;exact w9 e he hb
theorem lM {u6:Array Bool}{j:Nat}(hj:j∈Region.ready md ops u6):u6.getD j true=false:=(mem_ready.1 hj).1
theorem fF {u6:Array Bool}{j:Nat}(hj:j∈Region.ready md ops u6):j<ops.size:=by
 obtain⟨_,o,ho,_⟩:=mem_ready.1 hj;exact(Array.getElem?_eq_some_iff.1 ho).1
theorem gX {u6:Array Bool}{i j:Nat}(h:(u6.setIfInBounds i true).getD j false=true):j=i∨u6.getD j false=true:=by
 by_cases hij:j=i
 · exact Or.inl hij
 · right
   simp only[Array.getD_eq_getD_getElem?]at h ⊢;rwa [Array.getElem?_setIfInBounds_ne (Ne.symm hij)]at h
theorem jZ {u6:Array Bool}{i j:Nat}(h:u6.getD j false=true):(u6.setIfInBounds i true).getD j false=true:=by
 simp only[Array.getD_eq_getD_getElem?]at h ⊢;by_cases hij:i=j
 · subst hij
   rw[Array.getElem?_setIfInBounds_self];split
   · rfl
   · rename_i hlt
     rw[Array.getElem?_eq_none (by omega)]at h;exact h
 · rw[Array.getElem?_setIfInBounds_ne hij];exact h
theorem Closed.set {u6:Array Bool}{i:Nat}(h:Closed md ops u6)(hi:i∈Region.ready md ops u6):Closed md ops (u6.setIfInBounds i true):=by
 intro j k hj hw;rcases gX hj with rfl|hj
 · exact jZ (jE hi hw)
 · exact jZ (h j k hj hw)
theorem uk (n:Nat):Closed md ops (Array.replicate n false):=by
 intro j i hj _;exfalso
 simp only[Array.getD_eq_getD_getElem?,Array.getElem?_replicate]at hj;split at hj<;>simp at hj
theorem qp (I:Array Bool→Act→World→Prop)
 (hstep:∀ u6 a w i,I u6 a w→i∈Region.ready md ops u6→wpOp P ops Q i (fun a' w'=>I (u6.setIfInBounds i true) a' w') a w)
 (hend:∀ u6 a w,I u6 a w→Region.ready md ops u6=[]→Q .normal a w) :
 ∀ (n:Nat) (U:List Nat) (u6:Array Bool) (a:Act) (w:World),U.length=n→U.Nodup→(∀ i,i∈U↔(i<ops.size∧u6.getD i true=false))→u6.size=ops.size→I u6 a w→wpAny P md ops Q n u6 a w
 | 0,U,u6,a,w,hn,_,hU,_,hI=>by
   have h0:Region.ready md ops u6=[]:=by
    apply List.eq_nil_iff_forall_not_mem.2
    intro i hi;have hm:=(hU i).2 ⟨fF hi,lM hi⟩;rw[List.length_eq_zero_iff.1 hn]at hm;cases hm
   exact⟨h0,hend u6 a w hI h0⟩
 | n+1,U,u6,a,w,hn,hd,hU,hs,hI=>by
   refine⟨fun h0=>hend u6 a w hI h0,fun i hi=>?_⟩;refine wpOp_mono (fun a' w' hI'=>?_) (hstep u6 a w i hI hi);have hm:=(hU i).2 ⟨fF hi,lM hi⟩;refine qp I hstep hend n (U.erase i) _ a' w' (by rw[List.length_erase_of_mem hm,hn];rfl) (hd.erase i) (fun j=>?_) (by simpa using hs) hI';rw[hd.mem_erase_iff,hU j];simp only[Array.getD_eq_getD_getElem?];by_cases hij:j=i
   · subst hij
     rw[Array.getElem?_setIfInBounds_self_of_lt (by rw[hs];exact fF hi)];simp
   · rw[Array.getElem?_setIfInBounds_ne (Ne.symm hij)]
     simp[hij]
theorem iH {id:Nat}{a:Act}{w:World}(hm:P.follows .mixedOrders=true)(I:Array Bool→Act→World→Prop)
 (hstart:I (Array.replicate ops.size false) a w.drew)
 (hstep:∀ u6 a w i,I u6 a w→i∈Region.ready .any ops u6→wpOp P ops Q i (fun a' w'=>I (u6.setIfInBounds i true) a' w') a w)
 (hend:∀ u6 a w,I u6 a w→Region.ready .any ops u6=[]→Q .normal a w):(Code.region id ops true).wp P Q a w:=by
 refine wp_region_any hm ?_;refine qp I hstep hend ops.size (List.range ops.size) _ a _ (by simp) List.nodup_range (fun i=>?_) (by simp) hstart;rw[List.mem_range];simp only[Array.getD_eq_getD_getElem?,Array.getElem?_replicate];constructor
 · intro h;exact⟨h,by rw[if_pos h];rfl⟩
 · intro h;exact h.1
def wU (md:Region.Mode) (ops:Array Oper):Bool:=(List.range ops.size).all fun j=>match ops[j]? with
 | some o=>o.after.all fun e => !Region.binds md e || decide (e.on<j)
 | none=>true
theorem z2g (hb:wU md ops=true){j i:Nat}(h:Region.waitsFor md ops j i=true):i<j:=by
 obtain⟨o,ho,e,he,hbi,rfl⟩:=Region.waitsFor_spec h;have hj:j<ops.size:=(Array.getElem?_eq_some_iff.1 ho).1;have h1:=List.all_eq_true.1 hb j (List.mem_range.2 hj);rw[ho]at h1;simp only at h1;have h2:=Array.all_eq_true'.1 h1 e he;rw[hbi]at h2;simpa using h2
theorem iF {u6:Array Bool}(hs:u6.size=ops.size)(hb:wU md ops=true)(h:Region.ready md ops u6=[]):∀ j,j<ops.size→u6.getD j false=true:=by
 intro j
 induction j using Nat.strongRecOn with
 | _ j ih =>
   intro hj
   cases hl:u6.getD j true with
   | true =>
     simp only[Array.getD_eq_getD_getElem?]at hl ⊢;have hlt:j<u6.size:=by omega
     rw[Array.getElem?_eq_getElem hlt]at hl ⊢;exact hl
   | false =>
     exfalso
     obtain⟨o,ho⟩:∃ o,ops[j]? = some o:=⟨ops[j],Array.getElem?_eq_getElem hj⟩
     have hr:j∈Region.ready md ops u6:=by
       refine mem_ready.2 ⟨hl,o,ho,fun e he hbi=>?_⟩
       have hw:Region.waitsFor md ops j e.on=true:=by
        unfold Region.waitsFor
        rw[ho];simp only;refine Array.any_eq_true'.2 ⟨e,he,?_⟩;simp[hbi]
       have h1:=z2g hb hw;exact ih e.on h1 (by omega)
     rw[h]at hr;cases hr
theorem mD {u6:Array Bool}{j:Nat}(hj:j∈Region.ready md ops u6):u6.getD j false=false:=by
 have h:=lM hj;simp only[Array.getD_eq_getD_getElem?]at h ⊢
 cases hc:u6[j]? with
 | none=>rw[hc]at h;simp at h
 | some b=>rw[hc]at h;simpa using h
end
end Go.Gb
namespace Go.Gb
theorem jV (num:Int)(den:Nat)(hd:den≠0):(mkRat num den).num=num / ((Nat.gcd num.natAbs den:Nat):Int)∧(mkRat num den).den=den / Nat.gcd num.natAbs den:=by
 rw[← Rat.normalize_eq_mkRat hd,Rat.normalize_eq hd];exact⟨rfl,rfl⟩
theorem zK (X Y:Rat)(g more rest:Nat)(num:Int)(hg:g=Nat.gcd X.den Y.den)(hm:more=Y.den / g)(hnum:num=X.num*(more:Int)+Y.num*((X.den / g:Nat):Int))(hr:rest=Nat.gcd num.natAbs g) :
 (X+Y).num=num / (rest:Int)∧(X+Y).den=X.den / rest*more:=by
 have hY:=Y.den_nz;have hX:=X.den_nz;have hg0:0<g:=by rw[hg];exact Nat.gcd_pos_of_pos_left _ (by omega)
 have dX:g∣X.den:=by rw[hg];exact Nat.gcd_dvd_left _ _
 have dY:g∣Y.den:=by rw[hg];exact Nat.gcd_dvd_right _ _
 have hr0:0<rest:=by rw[hr];exact Nat.gcd_pos_of_pos_right _ hg0
 have drg:rest∣g:=by rw[hr];exact Nat.gcd_dvd_right _ _
 have hden:X.den / g*Y.den / rest=X.den / rest*more:=by
  obtain⟨p,hp⟩:=dX;obtain⟨q,hq⟩:=dY;obtain⟨t,ht⟩:=drg;rw[hm,hp,hq,Nat.mul_div_cancel_left _ hg0,Nat.mul_div_cancel_left _ hg0];have e3:p*(g*q)=rest*(t*p*q):=by rw[ht];ac_rfl
  have e4:g*p=rest*(t*p):=by rw[ht];ac_rfl
  rw[e3,e4,Nat.mul_div_cancel_left _ hr0,Nat.mul_div_cancel_left _ hr0]
 have h:X+Y=Rat.add X Y:=rfl;rw[h];subst hg hm hr;unfold Rat.add
 simp only;split
 · rename_i h1
   rw[h1,Nat.div_one,Nat.div_one]at hnum;simp only;rw[h1,Nat.gcd_one_right,Nat.div_one,Nat.div_one];exact⟨by rw[hnum];simp,rfl⟩
 · rw[Rat.maybeNormalize_eq]
   simp only[Int.divExact_eq_ediv,← hnum];exact⟨trivial,hden⟩
theorem yD (X Y:Rat)(g1 g2:Nat)(h1:g1=Nat.gcd X.num.natAbs Y.den)(h2:g2=Nat.gcd Y.num.natAbs X.den) :
 (X*Y).num=X.num / (g1:Int)*(Y.num / (g2:Int))∧(X*Y).den=X.den / g2*(Y.den / g1):=by
 subst h1 h2;have h:X*Y=Rat.mul X Y:=rfl;rw[h];unfold Rat.mul
 simp only[Int.divExact_eq_ediv,Nat.divExact_eq_div];exact⟨trivial,trivial⟩
theorem yC (X:Rat):(-X).num = -X.num∧(-X).den=X.den:=⟨rfl,rfl⟩
theorem tF {X:Rat}(h:0<X.num):(X⁻¹).num=(X.den:Int)∧((X⁻¹).den:Int)=X.num:=by
 have e:X⁻¹=Rat.inv X:=rfl;rw[e];unfold Rat.inv
 rw[dif_neg (by omega),dif_pos h];exact⟨rfl,by simp only;omega⟩
theorem pM {X:Rat}(h:X.num<0):(X⁻¹).num = -(X.den:Int)∧((X⁻¹).den:Int) = -X.num:=by
 have e:X⁻¹=Rat.inv X:=rfl;rw[e];unfold Rat.inv
 rw[dif_pos h];exact⟨rfl,by simp only;omega⟩
theorem nu (X Y:Rat):X+Y=mkRat (X.num*(Y.den:Int)+Y.num*(X.den:Int)) (X.den*Y.den):=by
 have h1:=X.den_nz;have h2:=Y.den_nz;rw[Rat.add_def,Rat.normalize_eq_mkRat]
theorem jU (X Y:Rat):X*Y=mkRat (X.num*Y.num) (X.den*Y.den):=by
 rw[Rat.mul_def,Rat.normalize_eq_mkRat]
theorem xH (X Y:Rat):X-Y=mkRat (X.num*(Y.den:Int)-Y.num*(X.den:Int)) (X.den*Y.den):=by
 rw[Rat.sub_eq_add_neg,nu];show mkRat (X.num*(Y.den:Int) + -Y.num*(X.den:Int)) (X.den*Y.den)=_
 rw[Int.neg_mul];congr 1
theorem pV (X Y:Rat)(h:0<Y.num):X / Y=mkRat (X.num*(Y.den:Int)) (X.den*Y.num.toNat):=by
 obtain⟨e1,e2⟩:=tF h;rw[Rat.div_def,jU,e1];congr 2
 omega
theorem pW (X Y:Rat)(h:Y.num<0):X / Y=mkRat (-(X.num*(Y.den:Int))) (X.den*(-Y.num).toNat):=by
 obtain⟨e1,e2⟩:=pM h;rw[Rat.div_def,jU,e1,Int.mul_neg];congr 2
 omega
def cmpQ (x y:Rat):Int:=if x<y then -1 else if y<x then 1 else 0
theorem zD {x y:Rat}(h:x<y):cmpQ x y = -1:=by unfold cmpQ;rw[if_pos h]
theorem ng {x y:Rat}(h:y<x):cmpQ x y=1:=by
 unfold cmpQ;rw[if_neg (by grind),if_pos h]
theorem zF (x:Rat):cmpQ x x=0:=by
 unfold cmpQ;rw[if_neg (by grind),if_neg (by grind)]
theorem iE (X Y:Rat)(a b:Int)(ha:a=X.num*(Y.den:Int))(hb:b=Y.num*(X.den:Int)):cmpQ X Y=if a<b then -1 else if b<a then 1 else 0:=by
 unfold cmpQ
 simp only[Rat.lt_iff,← ha,← hb]
theorem fM (x y:Rat):(x<y∧cmpQ x y = -1)∨(x=y∧cmpQ x y=0)∨(y<x∧cmpQ x y=1):=by
 by_cases h1:x<y
 · exact Or.inl ⟨h1,zD h1⟩
 · by_cases h2:y<x
   · exact Or.inr (Or.inr ⟨h2,ng h2⟩)
   · have:x=y:=by grind
     subst this;exact Or.inr (Or.inl ⟨rfl,zF x⟩)
end Go.Gb
namespace Go.Gb
open Go Go.MapKept Go.RowKit
structure PutAt (b:Nat) (es:Array MapEntry) (clock:Nat) (w w':World):Prop where
 below:Below b w w'
 size:w'.heap.size=w.heap.size
 here:w'.heap[b]? = some (.map es clock)
theorem j5 {P:Program}(w:World)(t k e:TypeId)(d:TypeDesc)(ht:P.underlying t=some (.map k e))(hd:P.underlying k=some d)(b:Nat)(es:Array MapEntry)(clock:Nat)
 (hb:w.heap[b]? = some (.map es clock)) (key val:Value) (hk:IsKey d key) (hf:Instr.findNow d key es.toList 0=some none) :
 ∃ w',(Instr.mapUpdate t (.map (some b)) key val).run P w=.ok () w'∧PutAt b (es.push ⟨key,val,clock⟩) (clock+1) w w':=by
 have hrun:(Instr.mapUpdate t (.map (some b)) key val).run P w=.ok () { w with heap:=w.heap.setIfInBounds b (.map (es.push ⟨key,val,clock⟩) (clock+1)) }:=by
  simp[Instr.mapUpdate,run_underlying ht,MapKept.run_getObj_map hb,MapKept.run_checkKey hd hk,MapKept.run_findKey hd hf,MapKept.run_setObj_map _ hb,Result.andThen]
 refine⟨_,hrun,?_⟩
 have hlt:b<w.heap.size:=by
  rcases Nat.lt_or_ge b w.heap.size with h|h
  · exact h
  · rw[Array.getElem?_eq_none h]at hb;cases hb
 refine⟨⟨rfl,rfl,rfl,by simp,fun i hi=>?_⟩,by simp,?_⟩
 · show(w.heap.setIfInBounds b _)[i]? = w.heap[i]?
   rw[Array.getElem?_setIfInBounds_ne (by omega)]
 · show(w.heap.setIfInBounds b _)[b]? = _
   rw[Array.getElem?_setIfInBounds_self_of_lt hlt]
theorem yH {P:Program}(w:World)(t k e:TypeId)(d:TypeDesc)(ht:P.underlying t=some (.map k e))(hd:P.underlying k=some d)(b:Nat)(es:Array MapEntry)(clock:Nat)
 (hb:w.heap[b]? = some (.map es clock)) (key:Value) (hk:IsKey d key) (i:Nat) (val:Value) (hf:Instr.findNow d key es.toList 0=some (some (i,val))) :
 (Instr.lookup t (.map (some b)) key false).run P w=.ok val w:=by
 simp[Instr.lookup,run_underlying ht,MapKept.run_getObj_map hb,MapKept.run_checkKey hd hk,MapKept.run_findKey hd hf,Result.andThen]
