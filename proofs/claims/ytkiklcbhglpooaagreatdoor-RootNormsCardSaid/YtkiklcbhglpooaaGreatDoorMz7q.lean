/- texts -/
import Derived.Test.YtkiklcbhglpooaaGreatDoorMz3q
import Derived.Lib.BufferOwn
import Derived.Test.YtkiklcbhglpooaaGreatDoorMz6q
namespace Go.Gb
theorem jS (num:Int)(den:Nat)(hd:den≠0):(mkRat num den).num=num / ((Nat.gcd num.natAbs den:Nat):Int)∧(mkRat num den).den=den / Nat.gcd num.natAbs den:=by
 rw[← Rat.normalize_eq_mkRat hd,Rat.normalize_eq hd];exact⟨rfl,rfl⟩
theorem z1C (X Y:Rat)(g more rest:Nat)(num:Int)(hg:g=Nat.gcd X.den Y.den)(hm:more=Y.den / g)(hnum:num=X.num*(more:Int)+Y.num*((X.den / g:Nat):Int))(hr:rest=Nat.gcd num.natAbs g) :
 (X+Y).num=num / (rest:Int)∧(X+Y).den=X.den / rest*more:=by
 have hY:=Y.den_nz;have hX:=X.den_nz;have hg0:0<g:=by rw[hg];exact Nat.gcd_pos_of_pos_left _ (by omega)
 have dX:g∣X.den:=by rw[hg];exact Nat.gcd_dvd_left _ _
 have dY:g∣Y.den:=by rw[hg];exact Nat.gcd_dvd_right _ _
 have hr0:0<rest:=by rw[hr];exact Nat.gcd_pos_of_pos_right _ hg0
 have drg:rest∣g:=by rw[hr];exact Nat.gcd_dvd_right _ _
 have hden:X.den / g*Y.den / rest=X.den / rest*more:=by
  obtain⟨p,hp⟩:=dX;obtain⟨q,hq⟩:=dY;obtain⟨t,ht⟩:=drg;rw[hm,hp,hq,Nat.mul_div_cancel_left _ hg0,Nat.mul_div_cancel_left _ hg0];have e3:p*(g*q)=rest*(t*p*q):=by rw[ht];ac_rfl
  have e4:g*p=rest*(t*p):=by rw[ht];ac_rfl
  rw[e3,e4,Nat.mul_div_cancel_left _ hr0,Nat.mul_div_cancel_left _ hr0]
 have h:X+Y=Rat.add X Y:=rfl;rw[h];subst hg hm hr;unfold Rat.add
 simp only;split
 · rename_i h1
   rw[h1,Nat.div_one,Nat.div_one]at hnum;simp only;rw[h1,Nat.gcd_one_right,Nat.div_one,Nat.div_one];exact⟨by rw[hnum];simp,rfl⟩
 · rw[Rat.maybeNormalize_eq]
   simp only[Int.divExact_eq_ediv,← hnum];exact⟨trivial,hden⟩
theorem z0M (X Y:Rat)(g1 g2:Nat)(h1:g1=Nat.gcd X.num.natAbs Y.den)(h2:g2=Nat.gcd Y.num.natAbs X.den) :
 (X*Y).num=X.num / (g1:Int)*(Y.num / (g2:Int))∧(X*Y).den=X.den / g2*(Y.den / g1):=by
 subst h1 h2;have h:X*Y=Rat.mul X Y:=rfl;rw[h];unfold Rat.mul
 simp only[Int.divExact_eq_ediv,Nat.divExact_eq_div];exact⟨trivial,trivial⟩
theorem z0K (X:Rat):(-X).num = -X.num∧(-X).den=X.den:=⟨rfl,rfl⟩
theorem inv_pos {X:Rat}(h:0<X.num):(X⁻¹).num=(X.den:Int)∧((X⁻¹).den:Int)=X.num:=by
 have e:X⁻¹=Rat.inv X:=rfl;rw[e];unfold Rat.inv
 rw[dif_neg (by omega),dif_pos h];exact⟨rfl,by simp only;omega⟩
theorem l8 {X:Rat}(h:X.num<0):(X⁻¹).num = -(X.den:Int)∧((X⁻¹).den:Int) = -X.num:=by
 have e:X⁻¹=Rat.inv X:=rfl;rw[e];unfold Rat.inv
 rw[dif_pos h];exact⟨rfl,by simp only;omega⟩
theorem jM (X Y:Rat):X+Y=mkRat (X.num*(Y.den:Int)+Y.num*(X.den:Int)) (X.den*Y.den):=by
 have h1:=X.den_nz;have h2:=Y.den_nz;rw[Rat.add_def,Rat.normalize_eq_mkRat]
theorem jD (X Y:Rat):X*Y=mkRat (X.num*Y.num) (X.den*Y.den):=by
 rw[Rat.mul_def,Rat.normalize_eq_mkRat]
theorem zW (X Y:Rat):X-Y=mkRat (X.num*(Y.den:Int)-Y.num*(X.den:Int)) (X.den*Y.den):=by
 rw[Rat.sub_eq_add_neg,jM];show mkRat (X.num*(Y.den:Int) + -Y.num*(X.den:Int)) (X.den*Y.den)=_
 rw[Int.neg_mul];congr 1
theorem rW (X Y:Rat)(h:0<Y.num):X / Y=mkRat (X.num*(Y.den:Int)) (X.den*Y.num.toNat):=by
 obtain⟨e1,e2⟩:=inv_pos h;rw[Rat.div_def,jD,e1];congr 2
 omega
theorem rX (X Y:Rat)(h:Y.num<0):X / Y=mkRat (-(X.num*(Y.den:Int))) (X.den*(-Y.num).toNat):=by
 obtain⟨e1,e2⟩:=l8 h;rw[Rat.div_def,jD,e1,Int.mul_neg];congr 2
 omega
def cmpQ (x y:Rat):Int:=if x<y then -1 else if y<x then 1 else 0
theorem z4O {x y:Rat}(h:x<y):cmpQ x y = -1:=by unfold cmpQ;rw[if_pos h]
theorem z4P {x y:Rat}(h:y<x):cmpQ x y=1:=by
 unfold cmpQ;rw[if_neg (by grind),if_pos h]
theorem z1x (x:Rat):cmpQ x x=0:=by
 unfold cmpQ;rw[if_neg (by grind),if_neg (by grind)]
theorem j5 (X Y:Rat)(a b:Int)(ha:a=X.num*(Y.den:Int))(hb:b=Y.num*(X.den:Int)):cmpQ X Y=if a<b then -1 else if b<a then 1 else 0:=by
 unfold cmpQ
 simp only[Rat.lt_iff,← ha,← hb]
theorem j6 (x y:Rat):(x<y∧cmpQ x y = -1)∨(x=y∧cmpQ x y=0)∨(y<x∧cmpQ x y=1):=by
 by_cases h1:x<y
 · exact Or.inl ⟨h1,z4O h1⟩
 · by_cases h2:y<x
   · exact Or.inr (Or.inr ⟨h2,z4P h2⟩)
   · have:x=y:=by grind
     subst this;exact Or.inr (Or.inl ⟨rfl,z1x x⟩)
theorem uI {x y:Rat}:cmpQ x y=0↔x=y:=by
 rcases j6 x y with⟨h,e⟩|⟨h,e⟩|⟨h,e⟩<;>rw[e]
 · exact⟨fun h=>(by cases h),fun e=>(by subst e;exact absurd h Rat.lt_irrefl)⟩
 · exact⟨fun _=>h,fun _=>rfl⟩
 · exact⟨fun h=>(by cases h),fun e=>(by subst e;exact absurd h Rat.lt_irrefl)⟩
end Go.Gb
namespace Go.Gb
open Go.RowKit
structure Kp (S:Nat→Prop) (w w':World):Prop where
 os:w'.os=w.os
 tape:w'.tape=w.tape
 output:w'.output=w.output
 size:w.heap.size≤w'.heap.size
 block:∀ k,k<w.heap.size→¬ S k→w'.heap[k]? = w.heap[k]?
theorem Kp.refl (S:Nat→Prop)(w:World):Kp S w w:=⟨rfl,rfl,rfl,Nat.le_refl _,fun _ _ _=>rfl⟩
theorem Kp.trans {S S':Nat→Prop}{a b c:World}(h:Kp S a b)(k:Kp S' b c)(hs:∀ g,g<a.heap.size→S' g→S g):Kp S a c :=
 ⟨k.os.trans h.os,k.tape.trans h.tape,k.output.trans h.output,Nat.le_trans h.size k.size,fun i hi hn=>(k.block i (Nat.lt_of_lt_of_le hi h.size) (fun h'=>hn (hs i hi h'))).trans (h.block i hi hn)⟩
theorem Kp.mono {S S':Nat→Prop}{a b:World}(h:Kp S a b)(hs:∀ g,S g→S' g):Kp S' a b:=⟨h.os,h.tape,h.output,h.size,fun i hi hn=>h.block i hi (fun h'=>hn (hs i h'))⟩
theorem Kp.of_below {S:Nat→Prop}{a b:World}(h:Below a.heap.size a b):Kp S a b:=⟨h.os,h.tape,h.output,h.size,fun i hi _=>h.block i hi⟩
theorem Kp.below_more {S:Nat→Prop}{a b c:World}(h:Kp S a b)(k:Below b.heap.size b c):Kp S a c:=h.trans (Kp.of_below (S:=fun _=>False) k) (fun _ _ h=>h.elim)
theorem Kp.drew {S:Nat→Prop}{a b:World}(h:Kp S a b):Kp S a b.drew:=⟨h.os,h.tape,h.output,h.size,h.block⟩
theorem Kp.drewN {S:Nat→Prop}{a b:World}(h:Kp S a b)(n:Nat):Kp S a (b.drewN n):=⟨h.os,h.tape,h.output,h.size,h.block⟩
theorem Kp.alloc {S:Nat→Prop}{a b:World}(h:Kp S a b)(o:Obj):Kp S a (b.alloc o):=h.below_more ((Below.refl _ b).alloc (Nat.le_refl _) o)
theorem Kp.grown {S:Nat→Prop}{a b c:World}{row:Option Nat}(h:Kp S a b)(k:b.grownBy c row)(hr:∀ g,row=some g→g<a.heap.size→S g):Kp S a c :=
 ⟨k.os.trans h.os,k.tape.trans h.tape,k.output.trans h.output,Nat.le_trans h.size k.size,fun i hi hn=>(k.block i (Nat.lt_of_lt_of_le hi h.size) (fun h'=>hn (hr i h'.symm hi))).trans (h.block i hi hn)⟩
theorem Kp.set {S:Nat→Prop}{a b:World}(h:Kp S a b){p:Addr}(hp:p.block<a.heap.size→S p.block)(u:Value):Kp S a (b.setCell p u) :=
 ⟨h.os,h.tape,h.output,by simp[World.setCell];exact h.size,fun i hi hn=>(Below.heap_setCell _ _ _ _ (fun e=>hn (by subst e;exact hp hi))).trans (h.block i hi hn)⟩
theorem Kp.below {S:Nat→Prop}{a b:World}{B:Nat}(h:Kp S a b)(hB:B≤a.heap.size)(hS:∀ g,S g→B≤g):Below B a b :=
 ⟨h.os,h.tape,h.output,h.size,fun k hk=>h.block k (Nat.lt_of_lt_of_le hk hB) (fun h'=>by have:=hS k h';omega)⟩
theorem Kp.cell {S:Nat→Prop}{w w':World}(h:Kp S w w'){b o:Nat}(hb:b<w.heap.size)(hn:¬ S b):w'.cell? ⟨b,o,none⟩=w.cell? ⟨b,o,none⟩:=World.cell?_of_block (w:=w) (h.block b hb hn)
theorem Kp.frozen {S:Nat→Prop}{w w':World}(h:Kp S w w'){b o:Nat}(hb:b<w.heap.size)(hn:¬ S b):w'.frozen? ⟨b,o,none⟩=w.frozen? ⟨b,o,none⟩:=World.frozen?_of_block (w:=w) (h.block b hb hn)
theorem eY {w:World}{o:Obj}{b k:Nat}(h:b<w.heap.size):(w.alloc o).cell? ⟨b,k,none⟩=w.cell? ⟨b,k,none⟩:=((Below.refl w.heap.size w).alloc (Nat.le_refl _) o).cell (p:=⟨b,k,none⟩) h
theorem ny {w:World}{p:Addr}:w.drew.cell? p=w.cell? p:=rfl
theorem zR {w:World}{v:Value}{b c i k:Nat}(h:c≠b):(w.setCell ⟨b,i,none⟩ v).cell? ⟨c,k,none⟩=w.cell? ⟨c,k,none⟩:=World.cell?_of_block (w:=w) (Below.heap_setCell w ⟨b,i,none⟩ v c h)
theorem pE {w:World}{cs:Array Value}{T:TypeId}{g k:Nat}(h:g=w.heap.size):(w.alloc (.cells cs T)).cell? ⟨g,k,none⟩=cs[k]? := by subst h;unfold World.cell?;simp only[heap_alloc_new];simp
theorem z3F {w:World}{cs:Array Value}{T:TypeId}{g k:Nat}(h:g=w.heap.size):(w.alloc (.cells cs T)).frozen? ⟨g,k,none⟩=false:=by subst h;unfold World.frozen?;simp only[heap_alloc_new];simp
theorem wbc {W w1:World}(hb:Below W.heap.size W w1):(∀ b o,b<W.heap.size→w1.cell? ⟨b,o,none⟩=W.cell? ⟨b,o,none⟩)∧(∀ b o,b<W.heap.size→w1.frozen? ⟨b,o,none⟩=W.frozen? ⟨b,o,none⟩) :=
 ⟨fun b o h=>hb.cell (p:=⟨b,o,none⟩) h,fun b o h=>hb.frozen (p:=⟨b,o,none⟩) h⟩
def At (v:Value) (g:Nat):Prop:=v.ownBlock=some g
theorem at_nil (n m g:Nat):¬ At (.slice none n m) g:=by simp[At,Value.ownBlock]
theorem fV {b o:Nat}{n c g:Nat}:At (.slice (some ⟨b,o,none⟩) n c) g↔b=g:=by simp[At,Value.ownBlock]
def Apt (v u:Value):Prop:=∀ g,At v g→¬ At u g
theorem Apt.symm {v u:Value}(h:Apt v u):Apt u v:=fun g h1 h2=>h g h2 h1
theorem Apt.nil_left (n m:Nat)(v:Value):Apt (.slice none n m) v:=fun _ h=>(at_nil _ _ _ h).elim
theorem Apt.nil_right (n m:Nat)(v:Value):Apt v (.slice none n m):=(Apt.nil_left n m v).symm
def gG (w:World) (v u:Value):Prop:=∀ g,At u g→At v g∨w.heap.size≤g
theorem gG.refl (w:World)(v:Value):gG w v v:=fun _ h=>Or.inl h
theorem gG.trans {w w':World}{v u t:Value}(h:gG w v u)(k:gG w' u t)(hs:w.heap.size≤w'.heap.size):gG w v t:=fun g hg=>by
 rcases k g hg with h1|h1
 · exact h g h1
 · right;omega
def z5O (w:World) (u:Value):Prop:=∀ g,At u g→w.heap.size≤g
theorem Own.at {k:IntKind}{T:TypeId}{B:Nat}{w:World}{v:Value}{xs:List Nat}(h:Own k T B w v xs){g:Nat}(hg:At v g):B≤g∧g<w.heap.size:=World.ownsRow.lt h g hg
theorem Own.fresh {k:IntKind}{T:TypeId}{w w0:World}{v:Value}{xs:List Nat}(h:Own k T w0.heap.size w v xs):z5O w0 v:=fun _ hg=>(h.at hg).1
theorem Own.kp {k:IntKind}{T:TypeId}{B:Nat}{w w':World}{v:Value}{xs:List Nat}{S:Nat→Prop}(h:Own k T B w v xs)(hk:Kp S w w')(hn:∀ g,At v g→¬ S g):Own k T B w' v xs:=by
 obtain⟨h1,h2⟩:=h;refine⟨h1,?_⟩;rcases h2 with h2|⟨g,cap,cur,hv,hg,hh,r⟩
 · exact Or.inl h2
 · exact Or.inr ⟨g,cap,cur,hv,hg,by rw[hk.block g (Array.getElem?_eq_some_iff.1 hh).1 (hn g (by rw[hv];exact fV.2 rfl))];exact hh,r⟩
theorem Apt.newOr {w:World}{v u t:Value}(h:Apt v t)(hn:gG w v u)(ht:∀ g,At t g→g<w.heap.size):Apt u t:=fun g h1 h2=>by
 rcases hn g h1 with h3|h3
 · exact h g h3 h2
 · have:=ht g h2;omega
theorem Apt.fresh {w:World}{u t:Value}(hn:z5O w u)(ht:∀ g,At t g→g<w.heap.size):Apt u t:=fun g h1 h2=>by
 have:=ht g h2;have:=hn g h1;omega
section
variable {P:Program} (w:World)
theorem uL (base:Nat)(t ty e:TypeId)(i:TypeInfo)(z:Value)(ht:P.underlying t=some (.slice e))(hi:P.info? e=some i)(hz:i.zero=some z)
 (v:Value) (n:Nat) (xs:List Value) (hown:w.ownsRow base e i.size v n xs)
 (a:Addr) (m c:Nat) (news:List Value) (hm0:0<m) (hl:news.length=m*i.size) (hnews:∀ j u,news[j]? = some u→w.cell? (a.add j)=some u) (h1:∀ u∈news,u.oneCell'=true)
 (h63:n+m≤maxLen) (hbytes:(n+m)*i.bytes≤140737488355328) {v':Value} {w':World}
 (hr:(Builtin.append_ #[t,t] ty #[v,.slice (some a) m c]).run P w=.ok v' w'):gG w v v':=by
 have hsmall:n+m≤9223372036854775807:=by simp only[maxLen]at h63;omega
 have new:∀ (u:Value) (l k:Nat),.slice (some ⟨w.heap.size,0,none⟩) l k=v'→gG w u v':=by
  rintro u l k rfl g hg;rw[fV]at hg;exact Or.inr (Nat.le_of_eq hg)
 rcases hown.2 with⟨rfl,rfl⟩|⟨g,cap,cur,rfl,hbg,hg,hnc,hcm,hcs,htake⟩
 · rw[run_append_nil (P:=P) w t ty e i z ht hi hz a m c news hl hnews hm0 (by omega) (by rw[Nat.zero_add]at hbytes;omega)]at hr
   injection hr with e1 e2
   exact new _ _ _ e1
 · by_cases hroom:n+m≤cap
   · rw[run_append_room (P:=P) w t ty e i ht hi g n cap cur hg a m c news hl hnews h1 hroom (by rw[hl,hcs,← Nat.add_mul];exact Nat.mul_le_mul_right _ hroom)]at hr
     injection hr with e1 e2
     subst e1;intro k hk;rw[fV]at hk;exact Or.inl (fV.2 hk)
   · rw[run_append_grow (P:=P) w t ty e i z ht hi hz ⟨g,0,none⟩ n cap xs hown.1 (hown.cells (g:=g) rfl) a m c news hl hnews (by omega) (by omega) (growslice_fits (by omega) hbytes)]at hr
     injection hr with e1 e2
     exact new _ _ _ e1
theorem jm {ops:Array Oper}{rest:List Oper}{o:Oper}{a:Act}{Q:Exit→Act→World→Prop}(hgd:o.guard=none)(s x:Operand)(t:TypeId)
 (ho:o.op=.call { callee:=.builtin .append,args:=#[s,x],argTypes:=#[t,t] })
 (base:Nat) (e:TypeId) (i:TypeInfo) (z:Value) (ht:P.underlying t=some (.slice e)) (hi:P.info? e=some i) (hz:i.zero=some z)
 (hsize:i.size=1) (hby:i.bytes=8) (hzs:z.cells.size=1)
 (v:Value) (n:Nat) (xs:List Value) (hs:a.eval s=v) (hown:w.ownsRow base e 1 v n xs)
 (ad:Addr) (c:Nat) (u:Value) (hx:a.eval x=.slice (some ad) 1 c) (hnews:w.cell? (ad.add 0)=some u) (h1:u.oneCell'=true)
 (h63:n≤1000000) (hbase:base≤w.heap.size)
 (h:∀ v' w',w'.ownsRow base e 1 v' (n+1) (xs++[u])→w.grownBy w' v.ownBlock→gG w v v'→wpList P ops Q rest (a.put o.dst v') w'):wpList P ops Q (o :: rest) a w:=by
 refine wpList_plain hgd fun K hK=>?_
 have hn:∀ j u',[u][j]? = some u'→w.cell? (ad.add j)=some u':=by
  intro j u' hj
  match j,hj with
  | 0,hj=>simp at hj;subst hj;exact hnews
 have hu:∀ u'∈[u],u'.oneCell'=true:=by intro u' hu';simp at hu';subst hu';exact h1
 have hm:n+1≤maxLen:=by unfold maxLen;omega
 obtain⟨v',w',hr,h2,h3,_⟩:=run_append_own (P:=P) w base t o.type e i z 1 8 ht hi hz hsize hby hzs (by omega) v n xs hown ad 1 c [u] rfl hn hu hm (by omega) hbase;have hp:=uL w base t o.type e i z ht hi hz v n xs (by rw[hsize];exact hown) ad 1 c [u] (by omega) (by rw[hsize];rfl) hn hu hm (by rw[hby];omega) hr;unfold Oper.wp execOp
 simp only[ho,resolve,invoke,builtin,Sem.run_bind,Sem.run_pure,Result.andThen_ok,List.map_toArray,List.map_cons,List.map_nil,hs,hx,hr];exact hK _ _ (h v' w' h2 h3 hp)
end
end Go.Gb
namespace Go.Gb
open Go Go.RowKit
section
variable {P:Program} {ops:Array Oper} {Q:Exit→Act→World→Prop}
variable {m:Nat} {sl:Nat→Nat} {R:Nat→Value→World→Prop} {a a0:Act} {W:World→Prop} {u6:Array Bool} {w w':World}
def iQ (P:Program) (ops:Array Oper) (Q:Exit→Act→World→Prop):Nat→Nat→Act→World→Prop
 | 0,_,a,w=>Q .normal a w
 | t+1,k,a,w=>wpOp P ops Q k (fun a' w'=>iQ P ops Q t (k+1) a' w') a w
theorem bJ {t k:Nat}(h:wpOp P ops Q k (fun a' w'=>iQ P ops Q t (k+1) a' w') a w):iQ P ops Q (t+1) k a w:=h
theorem bF {k:Nat}(h:Q .normal a w):iQ P ops Q 0 k a w:=h
def zU (ops:Array Oper) (m t:Nat):Bool:=(List.range t).all fun i=>lastB ops (m+i)
theorem kN {m t k:Nat}(ht:zU ops m t=true)(hk:m≤k)(hkt:k<m+t)(hc:Closed .any ops u6)(hr:k∈Region.ready .any ops u6):∀ j,j<k→u6.getD j false=true:=by
 have h1:=List.all_eq_true.1 ht (k-m) (List.mem_range.2 (by omega));rw[show m+(k-m)=k by omega]at h1;intro j hj;exact z2S h1 hc hr (k-j) j (by omega) (by omega)
theorem oD {id:Nat}{a:Act}{w:World}(hm:P.follows .mixedOrders=true)(m t:Nat)(sl:Nat→Nat)(R:Nat→Value→World→Prop)(W:World→Prop)(hs:ops.size=m+t)(hb:zu .any ops=true)(ht:zU ops m t=true)
 (hstart:W w.drew)
 (hstep:∀ u6 a' w i,RInv ops m sl R a W u6 a' w→i∈Region.ready .any ops u6→i<m→wpOp P ops Q i (fun a' w'=>RInv ops m sl R a W (u6.setIfInBounds i true) a' w') a' w)
 (hlast:∀ u6 a' w,RInv ops m sl R a W u6 a' w→(∀ j,j<m→u6.getD j false=true)→iQ P ops Q t m a' w):(Code.region id ops true).wp P Q a w:=by
 refine je hm (fun u6 a' w=>((∀ j,m≤j→u6.getD j false=false)∧RInv ops m sl R a W u6 a' w)∨(∃ k,k≤t∧u6.size=ops.size∧Closed .any ops u6∧(∀ j,j<m+k→u6.getD j false=true)∧(∀ j,m+k≤j→u6.getD j false=false)∧iQ P ops Q (t-k) (m+k) a' w)) (Or.inl ⟨?_,RInv.start hstart⟩) ?_ ?_
 · intro j _
   simp only[Array.getD_eq_getD_getElem?,Array.getElem?_replicate];split<;>rfl
 · rintro u6 a' w i (⟨h1,h2⟩|⟨k,hk,hsz,hc,h1,h2,h3⟩) hi
   · have hlt:=iE hi
     by_cases him:i<m
     · refine wpOp_mono (fun a2 w2 h=>Or.inl ⟨fun j hj=>?_,h⟩) (hstep u6 a' w i h2 hi him)
       rw[getD_set_ne (by omega)];exact h1 j hj
     · have w9:=kN ht (by omega) (by omega) h2.closed hi
       have hie:i=m:=by
        rcases Nat.lt_or_ge m i with h|h
        · have:=w9 m h;rw[h1 m (Nat.le_refl _)]at this;cases this
        · omega
       subst hie;obtain⟨t',rfl⟩:∃ t',t=t'+1:=⟨t-1,by omega⟩;have hz:=h2.size;refine wpOp_mono (fun a2 w2 h=>Or.inr ⟨1,by omega,by simpa using hz,h2.closed.set hi,fun j hj=>?_,fun j hj=>?_,by simpa using h⟩) (hlast u6 a' w h2 w9)
       · by_cases hji:j=i
         · subst hji;exact eD (by omega)
         · rw[getD_set_ne hji];exact w9 j (by omega)
       · rw[getD_set_ne (by omega)];exact h1 j (by omega)
   · have hlt:=iE hi
     have hun:=nI hi
     have hge:m+k≤i:=by
        rcases Nat.lt_or_ge i (m+k) with h|h
        · rw[h1 i h]at hun;cases hun
        · exact h
     have w9:=kN ht (by omega) (by omega) hc hi
     have hie:i=m+k:=by
        rcases Nat.lt_or_ge (m+k) i with h|h
        · have:=w9 _ h;rw[h2 _ (Nat.le_refl _)]at this;cases this
        · omega
     subst hie;obtain⟨t',ht'⟩:∃ t',t-k=t'+1:=⟨t-k-1,by omega⟩;rw[ht']at h3;refine wpOp_mono (fun a2 w2 h=>Or.inr ⟨k+1,by omega,by simpa using hsz,hc.set hi,fun j hj=>?_,fun j hj=>?_,by rw[show t-(k+1)=t' by omega];exact h⟩) h3
     · by_cases hji:j=m+k
       · subst hji;exact eD (by omega)
       · rw[getD_set_ne hji];exact w9 j (by omega)
     · rw[getD_set_ne (by omega)];exact h2 j (by omega)
 · rintro u6 a' w (⟨h1,h2⟩|⟨k,hk,hsz,hc,h1,h2,h3⟩) hr
   · have w9:=jb h2.size hb hr
     have ht0:t=0:=by
        rcases Nat.eq_zero_or_pos t with h|h
        · exact h
        · have:=w9 m (by omega);rw[h1 m (Nat.le_refl _)]at this;cases this
     subst ht0;exact hlast u6 a' w h2 (fun j hj=>w9 j (by omega))
   · have w9:=jb hsz hb hr
     have hkt:k=t:=by
        rcases Nat.lt_or_ge k t with h|h
        · have:=w9 (m+k) (by omega);rw[h2 _ (Nat.le_refl _)]at this;cases this
        · omega
     subst hkt;rw[Nat.sub_self]at h3;exact h3
end
section
variable {P:Program} {ops:Array Oper} {Q:Exit→Act→World→Prop}
variable {m:Nat} {sl:Nat→Nat} {R:Nat→Value→World→Prop} {a a0:Act} {W:World→Prop} {u6:Array Bool} {w w':World}
def Dst (i j:Nat) (sl:Nat→Nat) (u6:Array Bool) (a:Act):Prop:=u6.getD i false=true→u6.getD j false=true→a.tmps[sl i]? ≠ a.tmps[sl j]?
theorem Dst.start {i j n:Nat}{sl:Nat→Nat}{a:Act}:Dst i j sl (Array.replicate n false) a:=by
 intro h;exfalso
 simp only[Array.getD_eq_getD_getElem?,Array.getElem?_replicate]at h;split at h<;>simp at h
theorem xJ {a:Act}{d:Nat}{v:Value}(h:d<a.tmps.size):(a.put (some d) v).tmps[d]? = some v:=by
 show(a.tmps.setIfInBounds d v)[d]? = some v
 rw[Array.getElem?_setIfInBounds_self_of_lt h]
theorem iH {a:Act}{d e:Nat}{v:Value}(h:d≠e):(a.put (some d) v).tmps[e]? = a.tmps[e]? := by
 show(a.tmps.setIfInBounds d v)[e]? = a.tmps[e]?
 rw[Array.getElem?_setIfInBounds_ne h]
theorem RInv.fin_put {sd:Nat}{v:Value}(h:RInv ops m sl R a0 W u6 a w)(L:List (Nat × Value))(h1:∀ p,p∈L→(a.put (some sd) v).tmps[p.1]? = some p.2)(h2:∀ e,(∀ p,p∈L→p.1≠e)→(∀ i,i<m→sl i≠e)∧sd≠e):a.put (some sd) v=⟨putL L a0.tmps,a0.defers⟩:=by
 have hsz:(a.put (some sd) v).tmps.size=a0.tmps.size:=by
  show(a.tmps.setIfInBounds sd v).size=_
  rw[Array.size_setIfInBounds,h.tsize]
 have ht:=vz L a0.tmps (a.put (some sd) v).tmps hsz h1 (fun e he=>by
  rw[iH (h2 e he).2]
  exact h.rest e (h2 e he).1)
 have hd:(a.put (some sd) v).defers=a0.defers:=h.defers;have e:a.put (some sd) v=⟨(a.put (some sd) v).tmps,(a.put (some sd) v).defers⟩:=rfl;rw[e,ht,hd]
theorem Dst.put {i j k d:Nat}{v:Value}(h:Dst i j sl u6 a)(hi:k≠i)(hj:k≠j)(hd:d=sl k)(si:sl k≠sl i)(sj:sl k≠sl j):Dst i j sl (u6.setIfInBounds k true) (a.put (some d) v):=by
 subst hd;intro h1 h2;rw[getD_set_ne (Ne.symm hi)]at h1;rw[getD_set_ne (Ne.symm hj)]at h2;show(a.tmps.setIfInBounds (sl k) v)[sl i]? ≠ (a.tmps.setIfInBounds (sl k) v)[sl j]?
 rw[Array.getElem?_setIfInBounds_ne si,Array.getElem?_setIfInBounds_ne sj];exact h h1 h2
theorem Dst.left {i j d:Nat}{v:Value}(hij:j≠i)(hd:d=sl i)(sj:sl i≠sl j)(hlt:d<a.tmps.size)(h:u6.getD j false=true→a.tmps[sl j]? ≠ some v):Dst i j sl (u6.setIfInBounds i true) (a.put (some d) v):=by
 subst hd;intro _ h2;rw[getD_set_ne hij]at h2;show(a.tmps.setIfInBounds (sl i) v)[sl i]? ≠ (a.tmps.setIfInBounds (sl i) v)[sl j]?
 rw[Array.getElem?_setIfInBounds_ne sj,Array.getElem?_setIfInBounds_self_of_lt hlt];exact Ne.symm (h h2)
theorem Dst.right {i j d:Nat}{v:Value}(hij:i≠j)(hd:d=sl j)(sj:sl j≠sl i)(hlt:d<a.tmps.size)(h:u6.getD i false=true→a.tmps[sl i]? ≠ some v):Dst i j sl (u6.setIfInBounds j true) (a.put (some d) v):=by
 subst hd;intro h1 _;rw[getD_set_ne hij]at h1;show(a.tmps.setIfInBounds (sl j) v)[sl i]? ≠ (a.tmps.setIfInBounds (sl j) v)[sl j]?
 rw[Array.getElem?_setIfInBounds_ne sj,Array.getElem?_setIfInBounds_self_of_lt hlt];exact h h1
theorem RInv.fresh {i b:Nat}{o:Obj}(h:RInv ops m sl R a0 W u6 a w)(hi:i<m)(hR:∀ v w,R i v w→∃ g,v=.pointer (some ⟨g,0,none⟩)∧b≤g∧w.heap[g]? = some o):u6.getD i false=true→a.tmps[sl i]? ≠ some (.pointer (some ⟨w.heap.size,0,none⟩)):=by
 intro hl e;obtain⟨v,h1,h2⟩:=h.slots i hi hl;obtain⟨g,rfl,_,h3⟩:=hR v w h2;rw[h1]at e;have hg:=(Array.getElem?_eq_some_iff.1 h3).1;injection e with e
 injection e with e
 injection e with e
 injection e with e
 omega
theorem dh {id:Nat}{a:Act}{w:World}(hm:P.follows .mixedOrders=true)(m t:Nat)(sl:Nat→Nat)(R:Nat→Value→World→Prop)(W:World→Prop)(D:Array Bool→Act→Prop)(hs:ops.size=m+t)(hb:zu .any ops=true)(ht:zU ops m t=true)
 (hD:D (Array.replicate ops.size false) a) (hstart:W w.drew)
 (hstep:∀ u6 a' w k,RInv ops m sl R a W u6 a' w→D u6 a'→k∈Region.ready .any ops u6→k<m→wpOp P ops Q k (fun a' w'=>RInv ops m sl R a W (u6.setIfInBounds k true) a' w'∧D (u6.setIfInBounds k true) a') a' w)
 (hlast:∀ u6 a' w,RInv ops m sl R a W u6 a' w→D u6 a'→(∀ j,j<m→u6.getD j false=true)→iQ P ops Q t m a' w):(Code.region id ops true).wp P Q a w:=by
 refine je hm (fun u6 a' w=>((∀ j,m≤j→u6.getD j false=false)∧RInv ops m sl R a W u6 a' w∧D u6 a')∨(∃ k,k≤t∧u6.size=ops.size∧Closed .any ops u6∧(∀ j,j<m+k→u6.getD j false=true)∧(∀ j,m+k≤j→u6.getD j false=false)∧iQ P ops Q (t-k) (m+k) a' w)) (Or.inl ⟨?_,RInv.start hstart,hD⟩) ?_ ?_
 · intro j _
   simp only[Array.getD_eq_getD_getElem?,Array.getElem?_replicate];split<;>rfl
 · rintro u6 a' w i (⟨h1,h2,h0⟩|⟨k,hk,hsz,hc,h1,h2,h3⟩) hi
   · have hlt:=iE hi
     by_cases him:i<m
     · refine wpOp_mono (fun a2 w2 h=>Or.inl ⟨fun j hj=>?_,h⟩) (hstep u6 a' w i h2 h0 hi him)
       rw[getD_set_ne (by omega)];exact h1 j hj
     · have w9:=kN ht (by omega) (by omega) h2.closed hi
       have hie:i=m:=by
        rcases Nat.lt_or_ge m i with h|h
        · have:=w9 m h;rw[h1 m (Nat.le_refl _)]at this;cases this
        · omega
       subst hie;obtain⟨t',rfl⟩:∃ t',t=t'+1:=⟨t-1,by omega⟩;have hz:=h2.size;refine wpOp_mono (fun a2 w2 h=>Or.inr ⟨1,by omega,by simpa using hz,h2.closed.set hi,fun j hj=>?_,fun j hj=>?_,by simpa using h⟩) (hlast u6 a' w h2 h0 w9)
       · by_cases hji:j=i
         · subst hji;exact eD (by omega)
         · rw[getD_set_ne hji];exact w9 j (by omega)
       · rw[getD_set_ne (by omega)];exact h1 j (by omega)
   · have hlt:=iE hi
     have hun:=nI hi
     have hge:m+k≤i:=by
        rcases Nat.lt_or_ge i (m+k) with h|h
        · rw[h1 i h]at hun;cases hun
        · exact h
     have w9:=kN ht (by omega) (by omega) hc hi
     have hie:i=m+k:=by
        rcases Nat.lt_or_ge (m+k) i with h|h
        · have:=w9 _ h;rw[h2 _ (Nat.le_refl _)]at this;cases this
        · omega
     subst hie;obtain⟨t',ht'⟩:∃ t',t-k=t'+1:=⟨t-k-1,by omega⟩;rw[ht']at h3;refine wpOp_mono (fun a2 w2 h=>Or.inr ⟨k+1,by omega,by simpa using hsz,hc.set hi,fun j hj=>?_,fun j hj=>?_,by rw[show t-(k+1)=t' by omega];exact h⟩) h3
     · by_cases hji:j=m+k
       · subst hji;exact eD (by omega)
       · rw[getD_set_ne hji];exact w9 j (by omega)
     · rw[getD_set_ne (by omega)];exact h2 j (by omega)
 · rintro u6 a' w (⟨h1,h2,h0⟩|⟨k,hk,hsz,hc,h1,h2,h3⟩) hr
   · have w9:=jb h2.size hb hr
     have ht0:t=0:=by
        rcases Nat.eq_zero_or_pos t with h|h
        · exact h
        · have:=w9 m (by omega);rw[h1 m (Nat.le_refl _)]at this;cases this
     subst ht0;exact hlast u6 a' w h2 h0 (fun j hj=>w9 j (by omega))
   · have w9:=jb hsz hb hr
     have hkt:k=t:=by
        rcases Nat.lt_or_ge k t with h|h
        · have:=w9 (m+k) (by omega);rw[h2 _ (Nat.le_refl _)]at this;cases this
        · omega
     subst hkt;rw[Nat.sub_self]at h3;exact h3
def butB (ops:Array Oper) (m d:Nat):Bool:=(List.range m).all fun j=>j==d || (List.range (m+1)).any fun k=>decide (j<k)&&(k != d)&&Region.waitsFor .any ops k j
theorem z4Q {m d:Nat}(hl:butB ops m d=true)(hdm:d<m)(hc:Closed .any ops u6)(hr:m∈Region.ready .any ops u6):∀ n j,n+j=m→0<n→j≠d→u6.getD j false=true:=by
 intro n
 induction n using Nat.strongRecOn with
 | _ n ih =>
   intro j hj hn hjd;have h1:=List.all_eq_true.1 hl j (List.mem_range.2 (by omega));rw[Bool.or_eq_true]at h1;rcases h1 with h1|h1
   · exact absurd (by simpa using h1) hjd
   · obtain⟨k,hk,h2⟩:=List.any_eq_true.1 h1
     have hk:=List.mem_range.1 hk;rw[Bool.and_eq_true,Bool.and_eq_true,decide_eq_true_iff]at h2;have hkd:k≠d:=by simpa using h2.1.2
     by_cases hkm:k=m
     · subst hkm;exact ji hr h2.2
     · exact hc k j (ih (m-k) (by omega) k (by omega) (by omega) hkd) h2.2
theorem oF {id:Nat}{a:Act}{w:World}(hm:P.follows .mixedOrders=true)(m t d:Nat)(sl:Nat→Nat)(R:Nat→Value→World→Prop)(W:World→Prop)(D:Array Bool→Act→Prop)(hdm:d<m)(ht0:0<t)(hs:ops.size=m+(t+1))(hb:zu .any ops=true)(hbut:butB ops m d=true)(hlb:zU ops (m+1) t=true)
 (hD:D (Array.replicate ops.size false) a) (hstart:W w.drew)
 (hstep:∀ u6 a' w k,RInv ops m sl R a W u6 a' w→D u6 a'→k∈Region.ready .any ops u6→k<m→wpOp P ops Q k (fun a' w'=>RInv ops m sl R a W (u6.setIfInBounds k true) a' w'∧D (u6.setIfInBounds k true) a') a' w)
 (hlast:∀ u6 a' w,RInv ops m sl R a W u6 a' w→D u6 a'→(∀ j,j<m→u6.getD j false=true)→iQ P ops Q (t+1) m a' w)
 (hswap:∀ u6 a' w,RInv ops m sl R a W u6 a' w→D u6 a'→(∀ j,j<m→j≠d→u6.getD j false=true)→wpOp P ops Q m (fun a' w'=>wpOp P ops Q d (fun a' w'=>iQ P ops Q t (m+1) a' w') a' w') a' w):(Code.region id ops true).wp P Q a w:=by
 refine je hm (fun u6 a' w=>u6.size=ops.size∧Closed .any ops u6∧(
  ((∀ j,m≤j→u6.getD j false=false)∧RInv ops m sl R a W u6 a' w∧D u6 a') ∨
  ((∀ j,j<m→j≠d→u6.getD j false=true)∧u6.getD m false=true∧u6.getD d false=false∧(∀ j,m+1≤j→u6.getD j false=false)∧wpOp P ops Q d (fun a' w'=>iQ P ops Q t (m+1) a' w') a' w) ∨
  (∃ k,k≤t∧(∀ j,j<m+1+k→u6.getD j false=true)∧(∀ j,m+1+k≤j→u6.getD j false=false)∧iQ P ops Q (t-k) (m+1+k) a' w))) ⟨by simp,o8 _,Or.inl ⟨?_,RInv.start hstart,hD⟩⟩ ?_ ?_
 · intro j _
   simp only[Array.getD_eq_getD_getElem?,Array.getElem?_replicate];split<;>rfl
 · rintro u6 a' w i ⟨hsz,hc,h⟩ hi
   have hlt:=iE hi;have hun:=nI hi;have hsz':(u6.setIfInBounds i true).size=ops.size:=by simpa using hsz
   have hc':=hc.set hi;have last:m+1≤i→∀ j,j<i→u6.getD j false=true:=fun e=>kN hlb e (by omega) hc hi;rcases h with⟨h1,h2,h0⟩|⟨h1,h2,h3,h4,h5⟩|⟨k,hk,h1,h2,h3⟩
   · by_cases him:i<m
     · refine wpOp_mono (fun a2 w2 h=>⟨hsz',hc',Or.inl ⟨fun j hj=>?_,h⟩⟩) (hstep u6 a' w i h2 h0 hi him)
       rw[getD_set_ne (by omega)];exact h1 j hj
     · have hie:i=m:=by
        rcases Nat.lt_or_ge m i with h|h
        · have:=last (by omega) m (by omega);rw[h1 m (Nat.le_refl _)]at this;cases this
        · omega
       subst hie;have w9:∀ j,j<i→j≠d→u6.getD j false=true:=fun j hj hjd=>z4Q hbut hdm hc hi (i-j) j (by omega) (by omega) hjd;by_cases hd:u6.getD d false=true
       · refine wpOp_mono (fun a2 w2 h=>⟨hsz',hc',Or.inr (Or.inr ⟨0,by omega,fun j hj=>?_,fun j hj=>?_,by simpa using h⟩)⟩) (hlast u6 a' w h2 h0 (fun j hj=>by
          by_cases hjd:j=d
          · subst hjd;exact hd
          · exact w9 j hj hjd))
         · by_cases hji:j=i
           · subst hji;exact eD (by omega)
           · rw[getD_set_ne hji]
             by_cases hjd:j=d
             · subst hjd;exact hd
             · exact w9 j (by omega) hjd
         · rw[getD_set_ne (by omega)];exact h1 _ (by omega)
       · refine wpOp_mono (fun a2 w2 h=>⟨hsz',hc',Or.inr (Or.inl ⟨fun j hj hjd=>?_,eD (by omega),?_,fun j hj=>?_,h⟩)⟩) (hswap u6 a' w h2 h0 w9)
         · rw[getD_set_ne (by omega)];exact w9 j hj hjd
         · rw[getD_set_ne (by omega)];simpa using hd
         · rw[getD_set_ne (by omega)];exact h1 _ (by omega)
   · have hie:i=d:=by
        by_cases e:m+1≤i
        · have:=last e d (by omega);rw[h3]at this;cases this
        · by_cases e2:i=m
          · subst e2;rw[h2]at hun;cases hun
          · by_cases e3:i=d
            · exact e3
            · rw[h1 i (by omega) e3]at hun;cases hun
     subst hie;refine wpOp_mono (fun a2 w2 h=>⟨hsz',hc',Or.inr (Or.inr ⟨0,by omega,fun j hj=>?_,fun j hj=>?_,by simpa using h⟩)⟩) h5
     · by_cases hji:j=i
       · subst hji;exact eD (by omega)
       · rw[getD_set_ne hji]
         by_cases hjm:j=m
         · subst hjm;exact h2
         · exact h1 j (by omega) hji
     · rw[getD_set_ne (by omega)];exact h4 j (by omega)
   · have hge:m+1+k≤i:=by
        rcases Nat.lt_or_ge i (m+1+k) with h|h
        · rw[h1 i h]at hun;cases hun
        · exact h
     have hie:i=m+1+k:=by
        rcases Nat.lt_or_ge (m+1+k) i with h|h
        · have:=last (by omega) _ h;rw[h2 _ (Nat.le_refl _)]at this;cases this
        · omega
     subst hie;obtain⟨t',ht'⟩:∃ t',t-k=t'+1:=⟨t-k-1,by omega⟩;rw[ht']at h3;refine wpOp_mono (fun a2 w2 h=>⟨hsz',hc',Or.inr (Or.inr ⟨k+1,by omega,fun j hj=>?_,fun j hj=>?_,by rw[show t-(k+1)=t' by omega];exact h⟩)⟩) h3
     · by_cases hji:j=m+1+k
       · subst hji;exact eD (by omega)
       · rw[getD_set_ne hji];exact h1 j (by omega)
     · rw[getD_set_ne (by omega)];exact h2 j (by omega)
 · rintro u6 a' w ⟨hsz,hc,h⟩ hr
   have w9:=jb hsz hb hr;rcases h with⟨h1,h2,h0⟩|⟨h1,h2,h3,h4,h5⟩|⟨k,hk,h1,h2,h3⟩
   · have:=w9 m (by omega);rw[h1 m (Nat.le_refl _)]at this;cases this
   · have:=w9 d (by omega);rw[h3]at this;cases this
   · have hkt:k=t:=by
        rcases Nat.lt_or_ge k t with h|h
        · have:=w9 (m+1+k) (by omega);rw[h2 _ (Nat.le_refl _)]at this;cases this
        · omega
     subst hkt;rw[Nat.sub_self]at h3;exact h3
theorem aK {id:Nat}{ops:Array Oper}{b:Bool}{Q:Exit→Act→World→Prop}{a:Act}{w:World}(F:Act→Act→World→Prop)(h1:(Code.region id ops b).wp P (fun e a' w'=>e=.normal∧F a a' w') a w)(h2:∀ a' w',F a a' w'→Q .normal a' w'):(Code.region id ops b).wp P Q a w :=
 Code.wp_mono (fun e a' w' ⟨he,h⟩=>by subst he;exact h2 a' w' h) h1
end
structure Rel where
 R:Value→World→Prop
 mono:∀ v W W',R v W→Below W.heap.size W W'→R v W'
def Rel.val (u:Value):Rel:=⟨fun v _=>v=u,fun _ _ _ h _=>h⟩
def Rel.ptr (b:Nat) (o:Obj):Rel:=⟨fun v W=>∃ g,v=.pointer (some ⟨g,0,none⟩)∧b≤g∧W.heap[g]? = some o,fun _ W W' ⟨g,e,h,k⟩ hb=>⟨g,e,h,by rw[hb.block g (Array.getElem?_eq_some_iff.1 k).1];exact k⟩⟩
def RelR (L:List Rel) (i:Nat) (v:Value) (W:World):Prop:=(L.getD i (Rel.val undef)).R v W
theorem RelR.mono {L:List Rel}{W W':World}(hb:Below W.heap.size W W')(i:Nat)(v:Value)(h:RelR L i v W):RelR L i v W':=(L.getD i (Rel.val undef)).mono v W W' h hb
