/- texts -/
import Derived.Test.YtoaeaiiabelhkaaGreatDoorMz0q
import Derived.OneCell
import Derived.Test.YtoaeaiiabelhkaaGreatDoorRows
namespace Go.Gb
open Go Go.RowKit
section
variable {P:Program} {ops:Array Oper} {Q:Exit→Act→World→Prop}
structure RInv (ops:Array Oper) (m:Nat) (sl:Nat→Nat) (R:Nat→Value→World→Prop) (a0:Act) (W:World→Prop) (u6:Array Bool) (a:Act) (w:World):Prop where
 closed:Closed .any ops u6
 size:u6.size=ops.size
 slots:∀ i,i<m→u6.getD i false=true→∃ v,a.tmps[sl i]? = some v∧R i v w
 rest:∀ d,(∀ i,i<m→sl i≠d)→a.tmps[d]? = a0.tmps[d]?
 tsize:a.tmps.size=a0.tmps.size
 defers:a.defers=a0.defers
 world:W w
variable {m:Nat} {sl:Nat→Nat} {R:Nat→Value→World→Prop} {a a0:Act} {W:World→Prop} {u6:Array Bool} {w w':World}
theorem RInv.start (h:W w):RInv ops m sl R a W (Array.replicate ops.size false) a w :=
 ⟨wL _,by simp,fun i _ hi=>by
  exfalso
  simp only[Array.getD_eq_getD_getElem?,Array.getElem?_replicate]at hi
  split at hi<;>simp at hi,fun _ _=>rfl,rfl,rfl,h⟩
theorem RInv.put {i d:Nat}{v:Value}(h:RInv ops m sl R a0 W u6 a w)(hi:i∈Region.ready .any ops u6)(hm:i<m)(hd:d=sl i)(hlo:d<a0.tmps.size)
 (hinj:∀ j,j<m→sl j=d→j=i) (hv:R i v w') (hR:∀ j u,R j u w→R j u w') (hW:W w'):RInv ops m sl R a0 W (u6.setIfInBounds i true) (a.put (some d) v) w':=by
 subst hd;have hp:(a.put (some (sl i)) v).tmps=a.tmps.setIfInBounds (sl i) v:=rfl;have hts:=h.tsize;refine⟨h.closed.set hi,by simpa using h.size,fun j hj hl=>?_,fun e he=>?_,by rw[hp];simpa using hts,h.defers,hW⟩
 · rw[hp]
   by_cases hji:j=i
   · subst hji
     exact⟨v,by rw[Array.getElem?_setIfInBounds_self_of_lt (by omega)],hv⟩
   · rw[Array.getElem?_setIfInBounds_ne (fun e=>hji (hinj j hj e.symm))]
     rcases jW hl with h2|h2
     · exact absurd h2 hji
     · obtain⟨u,h3,h4⟩:=h.slots j hj h2
       exact⟨u,h3,hR j u h4⟩
 · rw[hp,Array.getElem?_setIfInBounds_ne (he i hm)]
   exact h.rest e he
theorem RInv.at {i j:Nat}(h:RInv ops m sl R a0 W u6 a w)(hj:j∈Region.ready .any ops u6)(hw:Region.waitsFor .any ops j i=true)(hm:i<m) :
 ∃ v,a.tmps[sl i]? = some v∧R i v w:=h.slots i hm (ko hj hw)
def putL:List (Nat × Value)→Array Value→Array Value
 | [],t=>t
 | p :: ps,t=>putL ps (t.setIfInBounds p.1 p.2)
theorem z0Y:∀ (L:List (Nat × Value)) (t T:Array Value),T.size=t.size→(∀ p,p∈L→T[p.1]? = some p.2)→(∀ d,(∀ p,p∈L→p.1≠d)→T[d]? = t[d]?)→T=putL L t
 | [],t,T,_,_,h=>Array.ext_getElem? fun d=>h d (fun _ hp=>by cases hp)
 | p :: ps,t,T,hs,h1,h2=>by
   refine z0Y ps _ T (by simpa using hs) (fun q hq=>h1 q (List.mem_cons_of_mem _ hq)) (fun d hd=>?_);have hp:=h1 p List.mem_cons_self;by_cases hpd:p.1=d
   · subst hpd
     have hlt:p.1<T.size:=(Array.getElem?_eq_some_iff.1 hp).1;rw[hp,Array.getElem?_setIfInBounds_self_of_lt (by omega)]
   · rw[Array.getElem?_setIfInBounds_ne hpd]
     exact h2 d (fun q hq=>by
       rcases List.mem_cons.1 hq with rfl|hq
       · exact hpd
       · exact hd q hq)
theorem RInv.fin (h:RInv ops m sl R a0 W u6 a w)(L:List (Nat × Value))(h1:∀ p,p∈L→a.tmps[p.1]? = some p.2)(h2:∀ d,(∀ p,p∈L→p.1≠d)→∀ i,i<m→sl i≠d):a=⟨putL L a0.tmps,a0.defers⟩:=by
 have ht:=z0Y L a0.tmps a.tmps h.tsize h1 (fun d hd=>h.rest d (h2 d hd));have hd:=h.defers;cases a
 simp only at ht hd;rw[ht,hd]
def lastB (ops:Array Oper) (m:Nat):Bool:=(List.range m).all fun j=>(List.range (m+1)).any fun k=>decide (j<k)&&Region.waitsFor .any ops k j
theorem z3c (hl:lastB ops m=true)(hc:Closed .any ops u6)(hr:m∈Region.ready .any ops u6):∀ n j,n+j=m→0<n→u6.getD j false=true:=by
 intro n
 induction n using Nat.strongRecOn with
 | _ n ih =>
   intro j hj hn;have h1:=List.all_eq_true.1 hl j (List.mem_range.2 (by omega));obtain⟨k,hk,h2⟩:=List.any_eq_true.1 h1;have hk:=List.mem_range.1 hk;rw[Bool.and_eq_true,decide_eq_true_iff]at h2;by_cases hkm:k=m
   · subst hkm;exact ko hr h2.2
   · exact hc k j (ih (m-k) (by omega) k (by omega) (by omega)) h2.2
theorem getD_set_ne {u6:Array Bool}{i j:Nat}(h:j≠i):(u6.setIfInBounds i true).getD j false=u6.getD j false:=by
 simp only[Array.getD_eq_getD_getElem?];rw[Array.getElem?_setIfInBounds_ne (Ne.symm h)]
theorem o5 {u6:Array Bool}{i:Nat}(h:i<u6.size):(u6.setIfInBounds i true).getD i false=true:=by
 simp only[Array.getD_eq_getD_getElem?];rw[Array.getElem?_setIfInBounds_self_of_lt h];rfl
end
inductive Slot where
 | val (v:Value)
 | row (cs:List Value)
 | ptr (cs:List Value)
def Slot.Ok (b:Nat) (v:Value) (W:World):Slot→Prop
 | .val u=>v=u
 | .row cs=>∃ g,v=.slice (some ⟨g,0,none⟩) cs.length cs.length∧b≤g∧g<W.heap.size∧∀ i x,cs[i]? = some x→W.cell? ⟨g,i,none⟩=some x
 | .ptr cs=>∃ g,v=.pointer (some ⟨g,0,none⟩)∧b≤g∧g<W.heap.size∧(∀ i x,cs[i]? = some x→W.cell? ⟨g,i,none⟩=some x)∧(∀ i x,cs[i]? = some x→W.frozen? ⟨g,i,none⟩=false)
theorem Slot.Ok.mono {b:Nat}{v:Value}{W W':World}{s:Slot}(h:s.Ok b v W)(hb:Below W.heap.size W W'):s.Ok b v W':=by
 cases s with
 | val u=>exact h
 | row cs =>
   obtain⟨g,h1,h2,h3,h4⟩:=h;exact⟨g,h1,h2,Nat.lt_of_lt_of_le h3 hb.size,fun i x hx=>(hb.cell (p:=⟨g,i,none⟩) h3).trans (h4 i x hx)⟩
 | ptr cs =>
   obtain⟨g,h1,h2,h3,h4,h5⟩:=h;exact⟨g,h1,h2,Nat.lt_of_lt_of_le h3 hb.size,fun i x hx=>(hb.cell (p:=⟨g,i,none⟩) h3).trans (h4 i x hx),fun i x hx=>(hb.frozen (p:=⟨g,i,none⟩) h3).trans (h5 i x hx)⟩
def SlR (b:Nat) (L:List Slot) (i:Nat) (v:Value) (W:World):Prop:=(L.getD i (.val undef)).Ok b v W
theorem SlR.mono {b:Nat}{L:List Slot}{W W':World}(hb:Below W.heap.size W W')(i:Nat)(v:Value)(h:SlR b L i v W):SlR b L i v W':=Slot.Ok.mono h hb
end Go.Gb
namespace Go.Gb
open Go.Lib
def MM (r:Nat):Nat:=999999999+r*999999998000000001
theorem z6M {r:Nat}(h:r≤18):MM r≤17999999965000000017:=by unfold MM;omega
def lG (xs ys:List Nat) (i c:Nat):Prop:=ys.length=i∧(∀ w∈ys,w<BB)∧c≤18000000000∧ai ys+BB^i*c=ai (xs.take i)
theorem lG.start (xs:List Nat):lG xs [] 0 0:=⟨rfl,by simp,by omega,by simp[ai]⟩
theorem lG.step {xs ys:List Nat}{i c:Nat}(h:lG xs ys i c)(hi:i<xs.length)(hx:xs.getD i 0≤MM 18):lG xs (ys++[(xs.getD i 0+c)%BB]) (i+1) ((xs.getD i 0+c) / BB)∧xs.getD i 0+c≤18446744073709551615:=by
 obtain⟨h1,h2,h3,h4⟩:=h;have hM:=z6M (r:=18) (by omega);have hB:=aG;refine⟨⟨by simp[h1],?_,?_,?_⟩,by omega⟩
 · intro w hw
   rcases List.mem_append.1 hw with hw|hw
   · exact h2 w hw
   · have hw:=List.mem_singleton.1 hw;rw[hw];exact Nat.mod_lt _ bN
 · rw[hB];omega
 · rw[dI,h1,dE hi,Nat.pow_succ,Nat.mul_assoc,Nat.add_assoc,← Nat.mul_add,Nat.mod_add_div,Nat.mul_add];omega
theorem lG.done {xs ys:List Nat}{c:Nat}(h:lG xs ys xs.length c):ys.length=xs.length∧(∀ w∈ys,w<BB)∧ai ys+BB^xs.length*c=ai xs:=by
 obtain⟨h1,h2,h3,h4⟩:=h;rw[List.take_of_length_le (Nat.le_refl _)]at h4;exact⟨h1,h2,h4⟩
theorem qG {a b:Nat}(ha:a<BB)(hb:b<BB):a*b≤999999998000000001:=by
 have h:a*b≤999999999*999999999:=Nat.mul_le_mul (by have:=aG;omega) (by have:=aG;omega);omega
def jl (x y os:List Nat) (i:Nat):Prop :=
 os.length=x.length+y.length∧ai os=ai (x.take i)*ai y∧(∀ j,j<os.length→os.getD j 0≤MM (i%18))∧∀ j,j<i-i%18→os.getD j 0<BB
def jY (x y os:List Nat) (i k:Nat):Prop :=
 os.length=x.length+y.length∧ai os=ai (x.take i)*ai y+BB^i*(x.getD i 0*ai (y.take k))∧(∀ j,j<os.length→os.getD j 0≤MM (i%18+1))∧(∀ j,i+k≤j→j<os.length→os.getD j 0≤MM (i%18))∧∀ j,j<i-i%18→os.getD j 0<BB
theorem jl.start (x y:List Nat):jl x y (List.replicate (x.length+y.length) 0) 0:=by
 refine⟨by simp,?_,?_,by intro j hj;omega⟩
 · have:=eQ [] (x.length+y.length)
   simp only[List.nil_append]at this;rw[this];simp[ai]
 · intro j hj
   rw[bU hj];simp
theorem jl.row {x y os:List Nat}{i:Nat}(h:jl x y os i):jY x y os i 0:=by
 obtain⟨h1,h2,h3,h4⟩:=h;refine⟨h1,by simp[h2,ai],fun j hj=>Nat.le_trans (h3 j hj) (by unfold MM;omega),fun j _ hj=>h3 j hj,h4⟩
theorem jY.step {x y os:List Nat}{i k:Nat}(h:jY x y os i k)(hi:i<x.length)(hk:k<y.length)(hx:∀ w∈x,w<BB)(hy:∀ w∈y,w<BB) :
 jY x y (os.set (i+k) (os.getD (i+k) 0+x.getD i 0*y.getD k 0)) i (k+1)∧os.getD (i+k) 0+x.getD i 0*y.getD k 0≤MM 18:=by
 obtain⟨h1,h2,h3,h4,h5⟩:=h;have hp:=qG (hx _ (bf hi)) (hy _ (bf hk));have hc:=h4 (i+k) (Nat.le_refl _) (by omega);have hr:i%18<18:=Nat.mod_lt _ (by decide);have hM:MM (i%18+1)=MM (i%18)+999999998000000001:=by unfold MM;omega
 refine⟨⟨by simp[h1],?_,?_,?_,?_⟩,?_⟩
 · have hs:=qE (xs:=os) (i:=i+k) (v:=os.getD (i+k) 0+x.getD i 0*y.getD k 0) (by omega)
   rw[Nat.mul_add,h2]at hs;rw[dE hk]
   have e:BB^(i+k)*(x.getD i 0*y.getD k 0)=BB^i*(x.getD i 0*(BB^k*y.getD k 0)):=by
    rw[Nat.pow_add,Nat.mul_assoc,Nat.mul_left_comm (BB^k)]
   rw[e]at hs;rw[Nat.mul_add (x.getD i 0),Nat.mul_add (BB^i)];omega
 · intro j hj
   simp only[List.length_set]at hj;rw[kX];split
   · omega
   · exact h3 j hj
 · intro j hj1 hj
   simp only[List.length_set]at hj;rw[kX,if_neg (by omega)];exact h4 j (by omega) hj
 · intro j hj
   rw[kX,if_neg (by omega)];exact h5 j hj
 · have:MM (i%18+1)≤MM 18:=by unfold MM;omega
   omega
theorem jY.next {x y os:List Nat}{i:Nat}(h:jY x y os i y.length)(hi:i<x.length)(hr:i%18≠17):jl x y os (i+1):=by
 obtain⟨h1,h2,h3,h4,h5⟩:=h;rw[List.take_of_length_le (Nat.le_refl _)]at h2;have e:(i+1)%18=i%18+1:=by omega
 refine⟨h1,?_,by rw[e];exact h3,fun j hj=>h5 j (by omega)⟩;rw[h2,dE hi,Nat.add_mul,Nat.mul_assoc]
theorem jY.carried {x y os ys:List Nat}{i c:Nat}(h:jY x y os i y.length)(hi:i<x.length)(hr:i%18=17)(hx:∀ w∈x,w<BB)(hy:∀ w∈y,w<BB)
 (hl:ys.length=os.length-(i-17)) (hb:∀ w∈ys,w<BB) (hv:ai ys+BB^ys.length*c=ai (os.drop (i-17))):jl x y (os.take (i-17)++ys) (i+1):=by
 obtain⟨h1,h2,h3,h4,h5⟩:=h;rw[List.take_of_length_le (Nat.le_refl _)]at h2;have e:(i+1)%18=0:=by omega
 have ht:(os.take (i-17)).length=i-17:=by rw[List.length_take,Nat.min_eq_left (by omega)]
 have hlt:∀ w∈os.take (i-17)++ys,w<BB:=by
  intro w hw;rcases List.mem_append.1 hw with hw|hw
  · refine z3O (M:=BB) (fun j hj=>?_) w hw
    rw[ht]at hj;have:=h5 j (by omega);rw[bU (by rw[ht];exact hj)];rw[bU (by omega)]at this;simpa using this
  · exact hb w hw
 have hlen:(os.take (i-17)++ys).length=x.length+y.length:=by rw[List.length_append,ht,hl,← h1];omega
 have hval:ai os=ai (x.take (i+1))*ai y:=by rw[h2,dE hi,Nat.add_mul,Nat.mul_assoc]
 have hsp:=dw os (i-17) (by omega)
 have hc0:c=0:=by
  rcases Nat.eq_zero_or_pos c with h|h
  · exact h
  · exfalso
    have hX:ai (x.take (i+1))<BB^x.length:=bW (fun w hw=>hx w (List.mem_of_mem_take hw)) (by rw[List.length_take];omega);have hY:=dS y hy
    have hXY:ai os<BB^x.length*BB^y.length:=by
        rw[hval];rcases Nat.eq_zero_or_pos (ai y) with h0|h0
        · rw[h0,Nat.mul_zero];exact Nat.mul_pos (Nat.pow_pos bN) (Nat.pow_pos bN)
        · exact Nat.mul_lt_mul_of_lt_of_le hX (Nat.le_of_lt hY) (by omega)
    rw[← Nat.pow_add,← h1]at hXY;have h6:BB^os.length=BB^(i-17)*BB^ys.length:=by rw[← Nat.pow_add];congr 1;omega
    have h7:BB^(i-17)*(BB^ys.length*1)≤BB^(i-17)*ai (os.drop (i-17)):=Nat.mul_le_mul_left _ (by rw[← hv];exact Nat.le_trans (Nat.mul_le_mul_left _ h) (Nat.le_add_left _ _));rw[Nat.mul_one,← h6]at h7;omega
 refine⟨hlen,?_,?_,?_⟩
 · rw[dW,ht,← hval,hsp,← hv,hc0,Nat.mul_zero,Nat.add_zero]
 · intro j hj
   have:=hlt _ (bf hj);unfold MM;have:=aG;omega
 · intro j hj
   exact hlt _ (bf (by rw[hlen];omega))
theorem jl.done {x y os ys:List Nat}{c:Nat}(h:jl x y os x.length)(hx:∀ w∈x,w<BB)(hy:∀ w∈y,w<BB)(hv:ai ys+BB^os.length*c=ai os):ai ys=ai x*ai y:=by
 obtain⟨h1,h2,h3,h4⟩:=h;rw[List.take_of_length_le (Nat.le_refl _)]at h2;have hX:=dS x hx;have hY:=dS y hy
 have hXY:ai os<BB^os.length:=by
  rw[h2,h1,Nat.pow_add];rcases Nat.eq_zero_or_pos (ai y) with h0|h0
  · rw[h0,Nat.mul_zero];exact Nat.mul_pos (Nat.pow_pos bN) (Nat.pow_pos bN)
  · exact Nat.mul_lt_mul_of_lt_of_le hX (Nat.le_of_lt hY) (by omega)
 have hc0:c=0:=by
  rcases Nat.eq_zero_or_pos c with h|h
  · exact h
  · have:BB^os.length*1≤BB^os.length*c:=Nat.mul_le_mul_left _ h
    omega
 rw[hc0]at hv;omega
theorem vU {U V T3 V2 P g:Nat}(hP:0<P)(hV:V2*P≤V)(hV':V<(V2+1)*P)(hU:T3*P≤U)(hg:g*V2≤T3)(hgV:g≤V2):g≤U / V+1:=by
 rcases Nat.eq_zero_or_pos g with h0|h0
 · rw[h0];exact Nat.zero_le _
 have hV0:0<V:=Nat.lt_of_lt_of_le (Nat.mul_pos (by omega) hP) hV;have h1:g*V<g*((V2+1)*P):=Nat.mul_lt_mul_of_pos_left hV' h0;have h2:g*((V2+1)*P)=g*V2*P+g*P:=by rw[Nat.add_mul,Nat.one_mul,Nat.mul_add,Nat.mul_assoc]
 have h3:g*V2*P≤T3*P:=Nat.mul_le_mul_right _ hg;have h4:g*P≤V2*P:=Nat.mul_le_mul_right _ hgV;have h5:g*V<U+V:=by omega
 have h6:(g-1)*V≤U:=by
  have:g*V=(g-1)*V+V:=by
   conv=>lhs;rw[show g=(g-1)+1 by omega,Nat.add_mul,Nat.one_mul]
  omega
 have h7:=(Nat.le_div_iff_mul_le hV0).2 h6;generalize U / V=q at *;omega
theorem quo_le {U V T3 V2 P:Nat}(hV0:0<V2)(hV:V2*P≤V)(hU:U<(T3+1)*P):U / V≤T3 / V2:=by
 rw[Nat.le_div_iff_mul_le hV0];have h1:U / V*V≤U:=Nat.div_mul_le_self U V;have h2:U / V*(V2*P)≤U / V*V:=Nat.mul_le_mul_left _ hV;have h3:U / V*V2*P<(T3+1)*P:=by rw[Nat.mul_assoc];omega
 have h4:=Nat.lt_of_mul_lt_mul_right h3;omega
end Go.Gb
namespace Go.Gb
def iI (x0 y0 x y a b c d:Nat) (o:Bool):Prop :=
 x0=d*x+b*y∧y0=c*x+a*y∧Nat.gcd x y=Nat.gcd x0 y0∧(o=true→b*y0=a*x0+x∧c*x0=d*y0+y)∧(o=false→a*x0=b*y0+x∧d*y0=c*x0+y)
theorem iI.start (x y:Nat):iI x y x y 1 0 0 1 false:=by
 refine⟨by omega,by omega,rfl,?_,?_⟩
 · intro h;cases h
 · intro _;constructor<;>omega
theorem iI.step {x0 y0 x y a b c d:Nat}{o:Bool}(h:iI x0 y0 x y a b c d o):iI x0 y0 y (x%y) c d (a+x / y*c) (b+x / y*d) (!o):=by
 obtain⟨h1,h2,h3,h4,h5⟩:=h;have hx:=Nat.div_add_mod x y;generalize x / y=q at *;have h6:Nat.gcd y (x%y)=Nat.gcd x0 y0:=by rw[← h3,Nat.gcd_comm y,← Nat.gcd_rec,Nat.gcd_comm]
 generalize x%y=r at *;refine⟨?_,?_,h6,fun ho=>?_,fun ho=>?_⟩
 · grind
 · grind
 · have:=h5 (by cases o<;>simp_all)
   grind
 · have:=h4 (by cases o<;>simp_all)
   grind
theorem iI.bound {x0 y0 x y a b c d:Nat}{o:Bool}(h:iI x0 y0 x y a b c d o)(hx:0<x):d≤x0∧c≤y0:=by
 obtain⟨h1,h2,_⟩:=h;have g1:d*1≤d*x:=Nat.mul_le_mul_left _ hx;have g2:c*1≤c*x:=Nat.mul_le_mul_left _ hx;omega
end Go.Gb
namespace Go.Gb
open Go.RowKit
def cls (k:IntKind) (xs:List Nat):List Value:=xs.map fun(n:Nat)=>Value.int k (n:Int)
theorem eD (k:IntKind)(xs:List Nat):(cls k xs).length=xs.length:=by simp[cls]
theorem cB (k:IntKind)(xs ys:List Nat):cls k (xs++ys)=cls k xs++cls k ys:=by simp[cls]
theorem jF {k:IntKind}{xs:List Nat}{i:Nat}(h:i<xs.length):(cls k xs)[i]? = some (Value.int k ((xs.getD i 0:Nat):Int)):=by
 simp[cls,List.getD,h]
theorem rZ (k:IntKind)(xs:List Nat)(i v:Nat):cls k (xs.set i v)=(cls k xs).set i (Value.int k (v:Int)):=by simp[cls,List.map_set]
theorem mZ (k:IntKind)(xs:List Nat)(n:Nat):cls k (xs.take n)=(cls k xs).take n:=by simp[cls,List.map_take]
def Rd (k:IntKind) (w:World) (v:Value) (xs:List Nat):Prop :=
 (v=.slice none 0 0∧xs=[]) ∨
 ∃ b o c,v=.slice (some ⟨b,o,none⟩) xs.length c∧xs.length≤c∧c≤maxLen∧b<w.heap.size∧∀ i,i<xs.length→w.cell? ⟨b,o+i,none⟩=some (.int k ((xs.getD i 0:Nat):Int))
theorem Rd.below {k:IntKind}{w w':World}{v:Value}{xs:List Nat}(h:Rd k w v xs)(hb:Below w.heap.size w w'):Rd k w' v xs:=by
 rcases h with h|⟨b,o,c,h1,h2,h3,h4,h5⟩
 · exact Or.inl h
 · exact Or.inr ⟨b,o,c,h1,h2,h3,Nat.lt_of_lt_of_le h4 hb.size,fun i hi=>(hb.cell (p:=⟨b,o+i,none⟩) h4).trans (h5 i hi)⟩
def Own (k:IntKind) (T:TypeId) (B:Nat) (w:World) (v:Value) (xs:List Nat):Prop:=w.ownsRow B T 1 v xs.length (cls k xs)
theorem Own.rd {k:IntKind}{T:TypeId}{B:Nat}{w:World}{v:Value}{xs:List Nat}(h:Own k T B w v xs):Rd k w v xs:=by
 obtain⟨h1,h2⟩:=h;rcases h2 with⟨h2,h3⟩|⟨g,cap,cur,hv,hg,hh,hn,hc,hs,ht⟩
 · exact Or.inl ⟨h2,List.length_eq_zero_iff.1 h3⟩
 · refine Or.inr ⟨g,0,cap,hv,hn,hc,(Array.getElem?_eq_some_iff.1 hh).1,fun i hi=>?_⟩
   have h4:=jF (k:=k) hi;rw[← ht,Nat.mul_one,List.getElem?_take,if_pos hi]at h4;simp only[World.cell?,hh,Nat.zero_add];simpa using h4
theorem Own.nil (k:IntKind)(T:TypeId)(B:Nat)(w:World):Own k T B w (.slice none 0 0) []:=World.ownsRow_nil w B T 1
theorem Own.mono {k:IntKind}{T:TypeId}{B B':Nat}{w:World}{v:Value}{xs:List Nat}(h:Own k T B w v xs)(hB:B'≤B):Own k T B' w v xs:=by
 obtain⟨h1,h2⟩:=h;refine⟨h1,?_⟩;rcases h2 with h2|⟨g,cap,cur,hv,hg,r⟩
 · exact Or.inl h2
 · exact Or.inr ⟨g,cap,cur,hv,by omega,r⟩
theorem Own.below {k:IntKind}{T:TypeId}{B:Nat}{w w':World}{v:Value}{xs:List Nat}(h:Own k T B w v xs)(hb:Below w.heap.size w w'):Own k T B w' v xs:=by
 obtain⟨h1,h2⟩:=h;refine⟨h1,?_⟩;rcases h2 with h2|⟨g,cap,cur,hv,hg,hh,r⟩
 · exact Or.inl h2
 · exact Or.inr ⟨g,cap,cur,hv,hg,by rw[hb.block g (Array.getElem?_eq_some_iff.1 hh).1];exact hh,r⟩
theorem Own.take {k:IntKind}{T:TypeId}{B:Nat}{w:World}{a:Option Addr}{n c:Nat}{xs:List Nat}(h:Own k T B w (.slice a n c) xs)(m:Nat)(hm:m≤xs.length):Own k T B w (.slice a m c) (xs.take m):=by
 obtain⟨h1,h2⟩:=h;refine⟨by simp[cls],?_⟩;rcases h2 with⟨h2,h3⟩|⟨g,cap,cur,hv,hg,hh,hn,hc,hs,ht⟩
 · injection h2 with e1 e2 e3
   subst e1 e2 e3;obtain rfl:m=0:=by omega
   left;simp
 · injection hv with e1 e2 e3
   subst e1 e2 e3;refine Or.inr ⟨g,c,cur,by simp[Nat.min_eq_left hm],hg,hh,by simp;omega,hc,hs,?_⟩;rw[mZ,← ht,List.take_take,List.length_take,Nat.mul_one,Nat.mul_one,Nat.min_eq_left hm]
instance {W W':World}{i:IntKind}{v:Value}{l:List Nat}:Gr (Rd i W v l) W W' (Rd i W' v l):=⟨fun h k=>k.below h⟩
end Go.Gb
namespace Go.Proofs.YtoaeaiiabelhkaaGreatDoor
open Go.RowKit
abbrev CQ (f : FuncId) (args : Array Value) (v : Value) : Prop := ∀ W, Calls Tryz.prog f args W fun e w' => e = .returned v ∧ Below W.heap.size W w'
abbrev CR (f : FuncId) (args : Array Value) (w : World) (v : Value) : Prop := Calls Tryz.prog f args w fun e w' => e = .returned v ∧ Below w.heap.size w w'
end Go.Proofs.YtoaeaiiabelhkaaGreatDoor
namespace Go.Gb
theorem mX (num:Int)(den:Nat)(hd:den≠0):(mkRat num den).num=num / ((Nat.gcd num.natAbs den:Nat):Int)∧(mkRat num den).den=den / Nat.gcd num.natAbs den:=by
 rw[← Rat.normalize_eq_mkRat hd,Rat.normalize_eq hd];exact⟨rfl,rfl⟩
theorem z2d (X Y:Rat)(g more rest:Nat)(num:Int)(hg:g=Nat.gcd X.den Y.den)(hm:more=Y.den / g)(hnum:num=X.num*(more:Int)+Y.num*((X.den / g:Nat):Int))(hr:rest=Nat.gcd num.natAbs g) :
 (X+Y).num=num / (rest:Int)∧(X+Y).den=X.den / rest*more:=by
 have hY:=Y.den_nz;have hX:=X.den_nz;have hg0:0<g:=by rw[hg];exact Nat.gcd_pos_of_pos_left _ (by omega)
 have dX:g∣X.den:=by rw[hg];exact Nat.gcd_dvd_left _ _
 have dY:g∣Y.den:=by rw[hg];exact Nat.gcd_dvd_right _ _
 have hr0:0<rest:=by rw[hr];exact Nat.gcd_pos_of_pos_right _ hg0
 have drg:rest∣g:=by rw[hr];exact Nat.gcd_dvd_right _ _
 have hden:X.den / g*Y.den / rest=X.den / rest*more:=by
  obtain⟨p,hp⟩:=dX;obtain⟨q,hq⟩:=dY;obtain⟨t,ht⟩:=drg;rw[hm,hp,hq,Nat.mul_div_cancel_left _ hg0,Nat.mul_div_cancel_left _ hg0];have e3:p*(g*q)=rest*(t*p*q):=by rw[ht];ac_rfl
  have e4:g*p=rest*(t*p):=by rw[ht];ac_rfl
  rw[e3,e4,Nat.mul_div_cancel_left _ hr0,Nat.mul_div_cancel_left _ hr0]
 have h:X+Y=Rat.add X Y:=rfl;rw[h];subst hg hm hr;unfold Rat.add
 simp only;split
 · rename_i h1
   rw[h1,Nat.div_one,Nat.div_one]at hnum;simp only;rw[h1,Nat.gcd_one_right,Nat.div_one,Nat.div_one];exact⟨by rw[hnum];simp,rfl⟩
 · rw[Rat.maybeNormalize_eq]
   simp only[Int.divExact_eq_ediv,← hnum];exact⟨trivial,hden⟩
theorem z1b (X Y:Rat)(g1 g2:Nat)(h1:g1=Nat.gcd X.num.natAbs Y.den)(h2:g2=Nat.gcd Y.num.natAbs X.den) :
 (X*Y).num=X.num / (g1:Int)*(Y.num / (g2:Int))∧(X*Y).den=X.den / g2*(Y.den / g1):=by
 subst h1 h2;have h:X*Y=Rat.mul X Y:=rfl;rw[h];unfold Rat.mul
 simp only[Int.divExact_eq_ediv,Nat.divExact_eq_div];exact⟨trivial,trivial⟩
theorem z1a (X:Rat):(-X).num = -X.num∧(-X).den=X.den:=⟨rfl,rfl⟩
theorem nW {X:Rat}(h:0<X.num):(X⁻¹).num=(X.den:Int)∧((X⁻¹).den:Int)=X.num:=by
 have e:X⁻¹=Rat.inv X:=rfl;rw[e];unfold Rat.inv
 rw[dif_neg (by omega),dif_pos h];exact⟨rfl,by simp only;omega⟩
theorem kS {X:Rat}(h:X.num<0):(X⁻¹).num = -(X.den:Int)∧((X⁻¹).den:Int) = -X.num:=by
 have e:X⁻¹=Rat.inv X:=rfl;rw[e];unfold Rat.inv
 rw[dif_pos h];exact⟨rfl,by simp only;omega⟩
theorem jI (X Y:Rat):X+Y=mkRat (X.num*(Y.den:Int)+Y.num*(X.den:Int)) (X.den*Y.den):=by
 have h1:=X.den_nz;have h2:=Y.den_nz;rw[Rat.add_def,Rat.normalize_eq_mkRat]
theorem jA (X Y:Rat):X*Y=mkRat (X.num*Y.num) (X.den*Y.den):=by
 rw[Rat.mul_def,Rat.normalize_eq_mkRat]
theorem z0s (X Y:Rat):X-Y=mkRat (X.num*(Y.den:Int)-Y.num*(X.den:Int)) (X.den*Y.den):=by
 rw[Rat.sub_eq_add_neg,jI];show mkRat (X.num*(Y.den:Int) + -Y.num*(X.den:Int)) (X.den*Y.den)=_
 rw[Int.neg_mul];congr 1
theorem rR (X Y:Rat)(h:0<Y.num):X / Y=mkRat (X.num*(Y.den:Int)) (X.den*Y.num.toNat):=by
 obtain⟨e1,e2⟩:=nW h;rw[Rat.div_def,jA,e1];congr 2
 omega
theorem rT (X Y:Rat)(h:Y.num<0):X / Y=mkRat (-(X.num*(Y.den:Int))) (X.den*(-Y.num).toNat):=by
 obtain⟨e1,e2⟩:=kS h;rw[Rat.div_def,jA,e1,Int.mul_neg];congr 2
 omega
def cmpQ (x y:Rat):Int:=if x<y then -1 else if y<x then 1 else 0
theorem oo {x y:Rat}(h:x<y):cmpQ x y = -1:=by unfold cmpQ;rw[if_pos h]
theorem mh {x y:Rat}(h:y<x):cmpQ x y=1:=by
 unfold cmpQ;rw[if_neg (by grind),if_pos h]
theorem z1R (x:Rat):cmpQ x x=0:=by
 unfold cmpQ;rw[if_neg (by grind),if_neg (by grind)]
theorem iW (X Y:Rat)(a b:Int)(ha:a=X.num*(Y.den:Int))(hb:b=Y.num*(X.den:Int)):cmpQ X Y=if a<b then -1 else if b<a then 1 else 0:=by
 unfold cmpQ
 simp only[Rat.lt_iff,← ha,← hb]
theorem cz (x y:Rat):(x<y∧cmpQ x y = -1)∨(x=y∧cmpQ x y=0)∨(y<x∧cmpQ x y=1):=by
 by_cases h1:x<y
 · exact Or.inl ⟨h1,oo h1⟩
 · by_cases h2:y<x
   · exact Or.inr (Or.inr ⟨h2,mh h2⟩)
   · have:x=y:=by grind
     subst this;exact Or.inr (Or.inl ⟨rfl,z1R x⟩)
end Go.Gb
namespace Go.Gb
open Go
def ldig (v m:Nat):List UInt8:=(List.range m).map fun t=>UInt8.ofNat (48+v / 10^t%10)
theorem jb (v m:Nat):(ldig v m).length=m:=by simp[ldig]
theorem z1j (v m:Nat):ldig v (m+1)=ldig v m++[UInt8.ofNat (48+v / 10^m%10)]:=by
 unfold ldig
 rw[List.range_succ];simp
theorem uk (v m:Nat):ldig v (m+1)=UInt8.ofNat (48+v%10) :: ldig (v / 10) m:=by
 unfold ldig
 rw[List.range_succ_eq_map];simp only[List.map_cons,List.map_map,Nat.pow_zero,Nat.div_one];congr 1
 apply List.map_congr_left
 intro t _;simp only[Function.comp,Nat.div_div_eq_div_mul,Nat.pow_succ,Nat.mul_comm]
theorem mI:∀ (m v:Nat),10^m≤v→v<10^(m+1)→(ldig v (m+1)).reverse=Lib.decDigits v
 | 0,v,h1,h2=>by
   rw[uk];have hv:v<10:=by simpa using h2
   have h0:1≤v:=by simpa using h1
   rw[Nat.mod_eq_of_lt hv];rw[Lib.decDigits,dif_pos hv];simp[ldig]
 | m+1,v,h1,h2=>by
   rw[uk,List.reverse_cons,mI m (v / 10) (by rw[Nat.le_div_iff_mul_le (by decide)];rw[Nat.pow_succ]at h1;exact h1) (by rw[Nat.div_lt_iff_lt_mul (by decide)];rw[Nat.pow_succ]at h2;exact h2)]
   have hv:¬ v<10:=by
    have:10≤10^(m+1):=by
     rw[Nat.pow_succ];have:=Nat.one_le_pow m 10 (by decide);omega
    omega
   conv=>rhs;rw[Lib.decDigits,dif_neg hv]
theorem yS {xs:List Nat}(hx:∀ x∈xs,x<BB){i k:Nat}(hi:i<xs.length)(hk:k<9):ai xs / 10^(9*i+k)%10=xs.getD i 0 / 10^k%10:=by
 have hsplit:xs=xs.take i++(xs.getD i 0 :: xs.drop (i+1)):=by
  conv=>lhs;rw[← List.take_append_drop i xs]
  congr 1
  rw[List.drop_eq_getElem_cons hi];simp[List.getD,hi]
 have hlen:(xs.take i).length=i:=by simp;omega
 have hlt:=dS (xs.take i) (fun x h=>hx x (List.mem_of_mem_take h));rw[hlen]at hlt
 have hv:ai xs=ai (xs.take i)+BB^i*(xs.getD i 0+BB*ai (xs.drop (i+1))):=by
  conv=>lhs;rw[hsplit]
  rw[dW,hlen];rfl
 have hB:BB^i=10^(9*i):=by rw[Nat.pow_mul,show BB=10^9 from by rw[aG]]
 rw[hv,Nat.pow_add,← hB,← Nat.div_div_eq_div_mul,Nat.add_mul_div_left _ _ (Nat.pow_pos bN),Nat.div_eq_of_lt hlt,Nat.zero_add]
 obtain⟨e,he⟩:∃ e,BB=10^k*(10*e):=⟨10^(8-k),by
  rw[show(10:Nat)*10^(8-k)=10^(9-k) by rw[← Nat.pow_succ'];congr 1;omega,← Nat.pow_add,show k+(9-k)=9 by omega,aG]⟩
 rw[he,Nat.mul_assoc,Nat.mul_assoc,Nat.add_mul_div_left _ _ (Nat.pow_pos (by decide)),Nat.add_mul_mod_self_left]
def swp (L:List UInt8) (i:Nat):List UInt8:=(List.range L.length).map fun j=>if j<i∨L.length<j+1+i then L.getD (L.length-1-j) 0 else L.getD j 0
theorem dR (L:List UInt8)(i:Nat):(swp L i).length=L.length:=by simp[swp]
theorem swp_get (L:List UInt8)(i:Nat){j:Nat}(hj:j<L.length):(swp L i).getD j 0=if j<i∨L.length<j+1+i then L.getD (L.length-1-j) 0 else L.getD j 0:=by
 unfold swp
 simp[List.getD,hj]
theorem rJ {A B:List UInt8}(h:A.length=B.length)(hg:∀ j,j<A.length→A.getD j 0=B.getD j 0):A=B:=by
 apply List.ext_getElem h
 intro j h1 h2;have:=hg j h1;simpa [List.getD,h1,h2] using this
theorem z2A (L:List UInt8):swp L 0=L:=by
 refine rJ (dR L 0) (fun j hj=>?_);rw[dR]at hj;rw[swp_get L 0 hj,if_neg (by omega)]
theorem z2D (L:List UInt8)(i:Nat)(h:L.length≤2*i+1):swp L i=L.reverse:=by
 refine rJ (by rw[dR,List.length_reverse]) (fun j hj=>?_);rw[dR]at hj;rw[swp_get L i hj]
 have hr:L.reverse.getD j 0=L.getD (L.length-1-j) 0:=by
  have h2:L.length-1-j<L.length:=by omega
  simp[List.getD,hj,h2]
 rw[hr];split
 · rfl
 · rename_i hn
   rw[show L.length-1-j=j by omega]
theorem z4T (L:List UInt8)(i:Nat)(h:2*i+1<L.length):(swp L i).getD i 0=L.getD i 0:=by
 rw[swp_get L i (by omega),if_neg (by omega)]
theorem z2C (L:List UInt8)(i:Nat)(h:2*i+1<L.length):(swp L i).getD (L.length-1-i) 0=L.getD (L.length-1-i) 0:=by
 rw[swp_get L i (by omega),if_neg (by omega)]
theorem z2B (L:List UInt8)(i:Nat)(h:2*i+1<L.length):((swp L i).set i (L.getD (L.length-1-i) 0)).set (L.length-1-i) (L.getD i 0)=swp L (i+1):=by
 refine rJ (by simp[dR]) (fun j hj=>?_);simp[dR]at hj
 have hs:∀ (A:List UInt8) (m:Nat) (v:UInt8),j<A.length→(A.set m v).getD j 0=if m=j then v else A.getD j 0:=by
  intro A m v hA;by_cases hm:m=j
  · subst hm;simp[List.getD,hA]
  · simp[List.getD,hm]
 rw[hs _ _ _ (by simp[dR,hj]),hs _ _ _ (by simp[dR,hj]),swp_get L i hj,swp_get L (i+1) hj];by_cases h1:L.length-1-i=j
 · rw[if_pos h1,if_pos (by omega),← h1,show L.length-1-(L.length-1-i)=i by omega]
 · rw[if_neg h1]
   by_cases h2:i=j
   · subst h2
     rw[if_pos rfl,if_pos (by omega)]
   · rw[if_neg h2]
     by_cases h3:j<i∨L.length<j+1+i
     · rw[if_pos h3,if_pos (by omega)]
     · rw[if_neg h3,if_neg (by omega)]
