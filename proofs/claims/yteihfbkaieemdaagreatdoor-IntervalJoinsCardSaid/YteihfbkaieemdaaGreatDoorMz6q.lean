/- texts -/
import Derived.Test.YteihfbkaieemdaaGreatDoorMz3q
import Derived.Test.YteihfbkaieemdaaGreatDoorCards
import Derived.Test.YteihfbkaieemdaaGreatDoorTie
import Derived.ProofKit
import Derived.LaidMore
import Derived.OpenShut
namespace Go.Gb
open Go.RowKit
structure Kp (S:Nat→Prop) (w w':World):Prop where
 os:w'.os=w.os
 tape:w'.tape=w.tape
 output:w'.output=w.output
 size:w.heap.size≤w'.heap.size
 block:∀ k,k<w.heap.size→¬ S k→w'.heap[k]? = w.heap[k]?
theorem Kp.refl (S:Nat→Prop)(w:World):Kp S w w:=⟨rfl,rfl,rfl,Nat.le_refl _,fun _ _ _=>rfl⟩
theorem Kp.trans {S S':Nat→Prop}{a b c:World}(h:Kp S a b)(k:Kp S' b c)(hs:∀ g,g<a.heap.size→S' g→S g):Kp S a c :=
 ⟨k.os.trans h.os,k.tape.trans h.tape,k.output.trans h.output,Nat.le_trans h.size k.size,fun i hi hn=>(k.block i (Nat.lt_of_lt_of_le hi h.size) (fun h'=>hn (hs i hi h'))).trans (h.block i hi hn)⟩
theorem Kp.mono {S S':Nat→Prop}{a b:World}(h:Kp S a b)(hs:∀ g,S g→S' g):Kp S' a b:=⟨h.os,h.tape,h.output,h.size,fun i hi hn=>h.block i hi (fun h'=>hn (hs i h'))⟩
theorem Kp.of_below {S:Nat→Prop}{a b:World}(h:Below a.heap.size a b):Kp S a b:=⟨h.os,h.tape,h.output,h.size,fun i hi _=>h.block i hi⟩
theorem Kp.below_more {S:Nat→Prop}{a b c:World}(h:Kp S a b)(k:Below b.heap.size b c):Kp S a c:=h.trans (Kp.of_below (S:=fun _=>False) k) (fun _ _ h=>h.elim)
theorem Kp.drew {S:Nat→Prop}{a b:World}(h:Kp S a b):Kp S a b.drew:=⟨h.os,h.tape,h.output,h.size,h.block⟩
theorem Kp.drewN {S:Nat→Prop}{a b:World}(h:Kp S a b)(n:Nat):Kp S a (b.drewN n):=⟨h.os,h.tape,h.output,h.size,h.block⟩
theorem Kp.alloc {S:Nat→Prop}{a b:World}(h:Kp S a b)(o:Obj):Kp S a (b.alloc o):=h.below_more ((Below.refl _ b).alloc (Nat.le_refl _) o)
theorem Kp.grown {S:Nat→Prop}{a b c:World}{row:Option Nat}(h:Kp S a b)(k:b.grownBy c row)(hr:∀ g,row=some g→g<a.heap.size→S g):Kp S a c :=
 ⟨k.os.trans h.os,k.tape.trans h.tape,k.output.trans h.output,Nat.le_trans h.size k.size,fun i hi hn=>(k.block i (Nat.lt_of_lt_of_le hi h.size) (fun h'=>hn (hr i h'.symm hi))).trans (h.block i hi hn)⟩
theorem Kp.set {S:Nat→Prop}{a b:World}(h:Kp S a b){p:Addr}(hp:p.block<a.heap.size→S p.block)(u:Value):Kp S a (b.setCell p u) :=
 ⟨h.os,h.tape,h.output,by simp[World.setCell];exact h.size,fun i hi hn=>(Below.heap_setCell _ _ _ _ (fun e=>hn (by subst e;exact hp hi))).trans (h.block i hi hn)⟩
theorem Kp.below {S:Nat→Prop}{a b:World}{B:Nat}(h:Kp S a b)(hB:B≤a.heap.size)(hS:∀ g,S g→B≤g):Below B a b :=
 ⟨h.os,h.tape,h.output,h.size,fun k hk=>h.block k (Nat.lt_of_lt_of_le hk hB) (fun h'=>by have:=hS k h';omega)⟩
theorem Kp.frozen {S:Nat→Prop}{w w':World}(h:Kp S w w'){b o:Nat}(hb:b<w.heap.size)(hn:¬ S b):w'.frozen? ⟨b,o,none⟩=w.frozen? ⟨b,o,none⟩:=World.frozen?_of_block (w:=w) (h.block b hb hn)
theorem fF {w:World}{o:Obj}{b k:Nat}(h:b<w.heap.size):(w.alloc o).cell? ⟨b,k,none⟩=w.cell? ⟨b,k,none⟩:=((Below.refl w.heap.size w).alloc (Nat.le_refl _) o).cell (p:=⟨b,k,none⟩) h
theorem nu {w:World}{p:Addr}:w.drew.cell? p=w.cell? p:=rfl
theorem zi {w:World}{v:Value}{b c i k:Nat}(h:c≠b):(w.setCell ⟨b,i,none⟩ v).cell? ⟨c,k,none⟩=w.cell? ⟨c,k,none⟩:=World.cell?_of_block (w:=w) (Below.heap_setCell w ⟨b,i,none⟩ v c h)
theorem oU {w:World}{cs:Array Value}{T:TypeId}{g k:Nat}(h:g=w.heap.size):(w.alloc (.cells cs T)).cell? ⟨g,k,none⟩=cs[k]? := by subst h;unfold World.cell?;simp only[heap_alloc_new];simp
theorem z3g {w:World}{cs:Array Value}{T:TypeId}{g k:Nat}(h:g=w.heap.size):(w.alloc (.cells cs T)).frozen? ⟨g,k,none⟩=false:=by subst h;unfold World.frozen?;simp only[heap_alloc_new];simp
theorem wbc {W w1:World}(hb:Below W.heap.size W w1):(∀ b o,b<W.heap.size→w1.cell? ⟨b,o,none⟩=W.cell? ⟨b,o,none⟩)∧(∀ b o,b<W.heap.size→w1.frozen? ⟨b,o,none⟩=W.frozen? ⟨b,o,none⟩) :=
 ⟨fun b o h=>hb.cell (p:=⟨b,o,none⟩) h,fun b o h=>hb.frozen (p:=⟨b,o,none⟩) h⟩
def At (v:Value) (g:Nat):Prop:=v.ownBlock=some g
theorem at_nil (n m g:Nat):¬ At (.slice none n m) g:=by simp[At,Value.ownBlock]
theorem fU {b o:Nat}{n c g:Nat}:At (.slice (some ⟨b,o,none⟩) n c) g↔b=g:=by simp[At,Value.ownBlock]
def Apt (v u:Value):Prop:=∀ g,At v g→¬ At u g
theorem Apt.symm {v u:Value}(h:Apt v u):Apt u v:=fun g h1 h2=>h g h2 h1
theorem Apt.nil_left (n m:Nat)(v:Value):Apt (.slice none n m) v:=fun _ h=>(at_nil _ _ _ h).elim
theorem Apt.nil_right (n m:Nat)(v:Value):Apt v (.slice none n m):=(Apt.nil_left n m v).symm
def gD (w:World) (v u:Value):Prop:=∀ g,At u g→At v g∨w.heap.size≤g
theorem gD.refl (w:World)(v:Value):gD w v v:=fun _ h=>Or.inl h
theorem gD.trans {w w':World}{v u t:Value}(h:gD w v u)(k:gD w' u t)(hs:w.heap.size≤w'.heap.size):gD w v t:=fun g hg=>by
 rcases k g hg with h1|h1
 · exact h g h1
 · right;omega
def z5n (w:World) (u:Value):Prop:=∀ g,At u g→w.heap.size≤g
theorem Own.at {k:IntKind}{T:TypeId}{B:Nat}{w:World}{v:Value}{xs:List Nat}(h:Own k T B w v xs){g:Nat}(hg:At v g):B≤g∧g<w.heap.size:=World.ownsRow.lt h g hg
theorem Own.fresh {k:IntKind}{T:TypeId}{w w0:World}{v:Value}{xs:List Nat}(h:Own k T w0.heap.size w v xs):z5n w0 v:=fun _ hg=>(h.at hg).1
theorem Own.kp {k:IntKind}{T:TypeId}{B:Nat}{w w':World}{v:Value}{xs:List Nat}{S:Nat→Prop}(h:Own k T B w v xs)(hk:Kp S w w')(hn:∀ g,At v g→¬ S g):Own k T B w' v xs:=by
 obtain⟨h1,h2⟩:=h;refine⟨h1,?_⟩;rcases h2 with h2|⟨g,cap,cur,hv,hg,hh,r⟩
 · exact Or.inl h2
 · exact Or.inr ⟨g,cap,cur,hv,hg,by rw[hk.block g (Array.getElem?_eq_some_iff.1 hh).1 (hn g (by rw[hv];exact fU.2 rfl))];exact hh,r⟩
theorem Apt.newOr {w:World}{v u t:Value}(h:Apt v t)(hn:gD w v u)(ht:∀ g,At t g→g<w.heap.size):Apt u t:=fun g h1 h2=>by
 rcases hn g h1 with h3|h3
 · exact h g h3 h2
 · have:=ht g h2;omega
theorem Apt.fresh {w:World}{u t:Value}(hn:z5n w u)(ht:∀ g,At t g→g<w.heap.size):Apt u t:=fun g h1 h2=>by
 have:=ht g h2;have:=hn g h1;omega
section
variable {P:Program} (w:World)
theorem uy (base:Nat)(t ty e:TypeId)(i:TypeInfo)(z:Value)(ht:P.underlying t=some (.slice e))(hi:P.info? e=some i)(hz:i.zero=some z)
 (v:Value) (n:Nat) (xs:List Value) (hown:w.ownsRow base e i.size v n xs)
 (a:Addr) (m c:Nat) (news:List Value) (hm0:0<m) (hl:news.length=m*i.size) (hnews:∀ j u,news[j]? = some u→w.cell? (a.add j)=some u) (h1:∀ u∈news,u.oneCell'=true)
 (h63:n+m≤maxLen) (hbytes:(n+m)*i.bytes≤140737488355328) {v':Value} {w':World}
 (hr:(Builtin.append_ #[t,t] ty #[v,.slice (some a) m c]).run P w=.ok v' w'):gD w v v':=by
 have hsmall:n+m≤9223372036854775807:=by simp only[maxLen]at h63;omega
 have new:∀ (u:Value) (l k:Nat),.slice (some ⟨w.heap.size,0,none⟩) l k=v'→gD w u v':=by
  rintro u l k rfl g hg;rw[fU]at hg;exact Or.inr (Nat.le_of_eq hg)
 rcases hown.2 with⟨rfl,rfl⟩|⟨g,cap,cur,rfl,hbg,hg,hnc,hcm,hcs,htake⟩
 · rw[run_append_nil (P:=P) w t ty e i z ht hi hz a m c news hl hnews hm0 (by omega) (by rw[Nat.zero_add]at hbytes;omega)]at hr
   injection hr with e1 e2
   exact new _ _ _ e1
 · by_cases hroom:n+m≤cap
   · rw[run_append_room (P:=P) w t ty e i ht hi g n cap cur hg a m c news hl hnews h1 hroom (by rw[hl,hcs,← Nat.add_mul];exact Nat.mul_le_mul_right _ hroom)]at hr
     injection hr with e1 e2
     subst e1;intro k hk;rw[fU]at hk;exact Or.inl (fU.2 hk)
   · rw[run_append_grow (P:=P) w t ty e i z ht hi hz ⟨g,0,none⟩ n cap xs hown.1 (hown.cells (g:=g) rfl) a m c news hl hnews (by omega) (by omega) (growslice_fits (by omega) hbytes)]at hr
     injection hr with e1 e2
     exact new _ _ _ e1
theorem jl {ops:Array Oper}{rest:List Oper}{o:Oper}{a:Act}{Q:Exit→Act→World→Prop}(hgd:o.guard=none)(s x:Operand)(t:TypeId)
 (ho:o.op=.call { callee:=.builtin .append,args:=#[s,x],argTypes:=#[t,t] })
 (base:Nat) (e:TypeId) (i:TypeInfo) (z:Value) (ht:P.underlying t=some (.slice e)) (hi:P.info? e=some i) (hz:i.zero=some z)
 (hsize:i.size=1) (hby:i.bytes=8) (hzs:z.cells.size=1)
 (v:Value) (n:Nat) (xs:List Value) (hs:a.eval s=v) (hown:w.ownsRow base e 1 v n xs)
 (ad:Addr) (c:Nat) (u:Value) (hx:a.eval x=.slice (some ad) 1 c) (hnews:w.cell? (ad.add 0)=some u) (h1:u.oneCell'=true)
 (h63:n≤1000000) (hbase:base≤w.heap.size)
 (h:∀ v' w',w'.ownsRow base e 1 v' (n+1) (xs++[u])→w.grownBy w' v.ownBlock→gD w v v'→wpList P ops Q rest (a.put o.dst v') w'):wpList P ops Q (o :: rest) a w:=by
 refine wpList_plain hgd fun K hK=>?_
 have hn:∀ j u',[u][j]? = some u'→w.cell? (ad.add j)=some u':=by
  intro j u' hj
  match j,hj with
  | 0,hj=>simp at hj;subst hj;exact hnews
 have hu:∀ u'∈[u],u'.oneCell'=true:=by intro u' hu';simp at hu';subst hu';exact h1
 have hm:n+1≤maxLen:=by unfold maxLen;omega
 obtain⟨v',w',hr,h2,h3,_⟩:=run_append_own (P:=P) w base t o.type e i z 1 8 ht hi hz hsize hby hzs (by omega) v n xs hown ad 1 c [u] rfl hn hu hm (by omega) hbase;have hp:=uy w base t o.type e i z ht hi hz v n xs (by rw[hsize];exact hown) ad 1 c [u] (by omega) (by rw[hsize];rfl) hn hu hm (by rw[hby];omega) hr;unfold Oper.wp execOp
 simp only[ho,resolve,invoke,builtin,Sem.run_bind,Sem.run_pure,Result.andThen_ok,List.map_toArray,List.map_cons,List.map_nil,hs,hx,hr];exact hK _ _ (h v' w' h2 h3 hp)
end
end Go.Gb
namespace Go.Gb
open Go Go.RowKit
section
variable {P:Program} {ops:Array Oper} {Q:Exit→Act→World→Prop}
variable {m:Nat} {sl:Nat→Nat} {R:Nat→Value→World→Prop} {a a0:Act} {W:World→Prop} {u6:Array Bool} {w w':World}
def iT (P:Program) (ops:Array Oper) (Q:Exit→Act→World→Prop):Nat→Nat→Act→World→Prop
 | 0,_,a,w=>Q .normal a w
 | t+1,k,a,w=>wpOp P ops Q k (fun a' w'=>iT P ops Q t (k+1) a' w') a w
theorem aY {t k:Nat}(h:wpOp P ops Q k (fun a' w'=>iT P ops Q t (k+1) a' w') a w):iT P ops Q (t+1) k a w:=h
theorem bQ {k:Nat}(h:Q .normal a w):iT P ops Q 0 k a w:=h
def zn (ops:Array Oper) (m t:Nat):Bool:=(List.range t).all fun i=>lastB ops (m+i)
theorem kG {m t k:Nat}(ht:zn ops m t=true)(hk:m≤k)(hkt:k<m+t)(hc:Closed .any ops u6)(hr:k∈Region.ready .any ops u6):∀ j,j<k→u6.getD j false=true:=by
 have h1:=List.all_eq_true.1 ht (k-m) (List.mem_range.2 (by omega));rw[show m+(k-m)=k by omega]at h1;intro j hj;exact xD h1 hc hr (k-j) j (by omega) (by omega)
theorem oq {id:Nat}{a:Act}{w:World}(hm:P.follows .mixedOrders=true)(m t:Nat)(sl:Nat→Nat)(R:Nat→Value→World→Prop)(W:World→Prop)(hs:ops.size=m+t)(hb:vS .any ops=true)(ht:zn ops m t=true)
 (hstart:W w.drew)
 (hstep:∀ u6 a' w i,RInv ops m sl R a W u6 a' w→i∈Region.ready .any ops u6→i<m→wpOp P ops Q i (fun a' w'=>RInv ops m sl R a W (u6.setIfInBounds i true) a' w') a' w)
 (hlast:∀ u6 a' w,RInv ops m sl R a W u6 a' w→(∀ j,j<m→u6.getD j false=true)→iT P ops Q t m a' w):(Code.region id ops true).wp P Q a w:=by
 refine gJ hm (fun u6 a' w=>((∀ j,m≤j→u6.getD j false=false)∧RInv ops m sl R a W u6 a' w)∨(∃ k,k≤t∧u6.size=ops.size∧Closed .any ops u6∧(∀ j,j<m+k→u6.getD j false=true)∧(∀ j,m+k≤j→u6.getD j false=false)∧iT P ops Q (t-k) (m+k) a' w)) (Or.inl ⟨?_,RInv.start hstart⟩) ?_ ?_
 · intro j _
   simp only[Array.getD_eq_getD_getElem?,Array.getElem?_replicate];split<;>rfl
 · rintro u6 a' w i (⟨h1,h2⟩|⟨k,hk,hsz,hc,h1,h2,h3⟩) hi
   · have hlt:=fV hi
     by_cases him:i<m
     · refine wpOp_mono (fun a2 w2 h=>Or.inl ⟨fun j hj=>?_,h⟩) (hstep u6 a' w i h2 hi him)
       rw[getD_set_ne (by omega)];exact h1 j hj
     · have w9:=kG ht (by omega) (by omega) h2.closed hi
       have hie:i=m:=by
        rcases Nat.lt_or_ge m i with h|h
        · have:=w9 m h;rw[h1 m (Nat.le_refl _)]at this;cases this
        · omega
       subst hie;obtain⟨t',rfl⟩:∃ t',t=t'+1:=⟨t-1,by omega⟩;have hz:=h2.size;refine wpOp_mono (fun a2 w2 h=>Or.inr ⟨1,by omega,by simpa using hz,h2.closed.set hi,fun j hj=>?_,fun j hj=>?_,by simpa using h⟩) (hlast u6 a' w h2 w9)
       · by_cases hji:j=i
         · subst hji;exact dW (by omega)
         · rw[getD_set_ne hji];exact w9 j (by omega)
       · rw[getD_set_ne (by omega)];exact h1 j (by omega)
   · have hlt:=fV hi
     have hun:=kN hi
     have hge:m+k≤i:=by
        rcases Nat.lt_or_ge i (m+k) with h|h
        · rw[h1 i h]at hun;cases hun
        · exact h
     have w9:=kG ht (by omega) (by omega) hc hi
     have hie:i=m+k:=by
        rcases Nat.lt_or_ge (m+k) i with h|h
        · have:=w9 _ h;rw[h2 _ (Nat.le_refl _)]at this;cases this
        · omega
     subst hie;obtain⟨t',ht'⟩:∃ t',t-k=t'+1:=⟨t-k-1,by omega⟩;rw[ht']at h3;refine wpOp_mono (fun a2 w2 h=>Or.inr ⟨k+1,by omega,by simpa using hsz,hc.set hi,fun j hj=>?_,fun j hj=>?_,by rw[show t-(k+1)=t' by omega];exact h⟩) h3
     · by_cases hji:j=m+k
       · subst hji;exact dW (by omega)
       · rw[getD_set_ne hji];exact w9 j (by omega)
     · rw[getD_set_ne (by omega)];exact h2 j (by omega)
 · rintro u6 a' w (⟨h1,h2⟩|⟨k,hk,hsz,hc,h1,h2,h3⟩) hr
   · have w9:=gT h2.size hb hr
     have ht0:t=0:=by
        rcases Nat.eq_zero_or_pos t with h|h
        · exact h
        · have:=w9 m (by omega);rw[h1 m (Nat.le_refl _)]at this;cases this
     subst ht0;exact hlast u6 a' w h2 (fun j hj=>w9 j (by omega))
   · have w9:=gT hsz hb hr
     have hkt:k=t:=by
        rcases Nat.lt_or_ge k t with h|h
        · have:=w9 (m+k) (by omega);rw[h2 _ (Nat.le_refl _)]at this;cases this
        · omega
     subst hkt;rw[Nat.sub_self]at h3;exact h3
end
section
variable {P:Program} {ops:Array Oper} {Q:Exit→Act→World→Prop}
variable {m:Nat} {sl:Nat→Nat} {R:Nat→Value→World→Prop} {a a0:Act} {W:World→Prop} {u6:Array Bool} {w w':World}
def Dst (i j:Nat) (sl:Nat→Nat) (u6:Array Bool) (a:Act):Prop:=u6.getD i false=true→u6.getD j false=true→a.tmps[sl i]? ≠ a.tmps[sl j]?
theorem Dst.start {i j n:Nat}{sl:Nat→Nat}{a:Act}:Dst i j sl (Array.replicate n false) a:=by
 intro h;exfalso
 simp only[Array.getD_eq_getD_getElem?,Array.getElem?_replicate]at h;split at h<;>simp at h
theorem jP {a:Act}{d:Nat}{v:Value}(h:d<a.tmps.size):(a.put (some d) v).tmps[d]? = some v:=by
 show(a.tmps.setIfInBounds d v)[d]? = some v
 rw[Array.getElem?_setIfInBounds_self_of_lt h]
theorem dw {a:Act}{d e:Nat}{v:Value}(h:d≠e):(a.put (some d) v).tmps[e]? = a.tmps[e]? := by
 show(a.tmps.setIfInBounds d v)[e]? = a.tmps[e]?
 rw[Array.getElem?_setIfInBounds_ne h]
theorem RInv.fin_put {sd:Nat}{v:Value}(h:RInv ops m sl R a0 W u6 a w)(L:List (Nat × Value))(h1:∀ p,p∈L→(a.put (some sd) v).tmps[p.1]? = some p.2)(h2:∀ e,(∀ p,p∈L→p.1≠e)→(∀ i,i<m→sl i≠e)∧sd≠e):a.put (some sd) v=⟨putL L a0.tmps,a0.defers⟩:=by
 have hsz:(a.put (some sd) v).tmps.size=a0.tmps.size:=by
  show(a.tmps.setIfInBounds sd v).size=_
  rw[Array.size_setIfInBounds,h.tsize]
 have ht:=uU L a0.tmps (a.put (some sd) v).tmps hsz h1 (fun e he=>by
  rw[dw (h2 e he).2]
  exact h.rest e (h2 e he).1)
 have hd:(a.put (some sd) v).defers=a0.defers:=h.defers;have e:a.put (some sd) v=⟨(a.put (some sd) v).tmps,(a.put (some sd) v).defers⟩:=rfl;rw[e,ht,hd]
theorem Dst.put {i j k d:Nat}{v:Value}(h:Dst i j sl u6 a)(hi:k≠i)(hj:k≠j)(hd:d=sl k)(si:sl k≠sl i)(sj:sl k≠sl j):Dst i j sl (u6.setIfInBounds k true) (a.put (some d) v):=by
 subst hd;intro h1 h2;rw[getD_set_ne (Ne.symm hi)]at h1;rw[getD_set_ne (Ne.symm hj)]at h2;show(a.tmps.setIfInBounds (sl k) v)[sl i]? ≠ (a.tmps.setIfInBounds (sl k) v)[sl j]?
 rw[Array.getElem?_setIfInBounds_ne si,Array.getElem?_setIfInBounds_ne sj];exact h h1 h2
theorem Dst.left {i j d:Nat}{v:Value}(hij:j≠i)(hd:d=sl i)(sj:sl i≠sl j)(hlt:d<a.tmps.size)(h:u6.getD j false=true→a.tmps[sl j]? ≠ some v):Dst i j sl (u6.setIfInBounds i true) (a.put (some d) v):=by
 subst hd;intro _ h2;rw[getD_set_ne hij]at h2;show(a.tmps.setIfInBounds (sl i) v)[sl i]? ≠ (a.tmps.setIfInBounds (sl i) v)[sl j]?
 rw[Array.getElem?_setIfInBounds_ne sj,Array.getElem?_setIfInBounds_self_of_lt hlt];exact Ne.symm (h h2)
theorem Dst.right {i j d:Nat}{v:Value}(hij:i≠j)(hd:d=sl j)(sj:sl j≠sl i)(hlt:d<a.tmps.size)(h:u6.getD i false=true→a.tmps[sl i]? ≠ some v):Dst i j sl (u6.setIfInBounds j true) (a.put (some d) v):=by
 subst hd;intro h1 _;rw[getD_set_ne hij]at h1;show(a.tmps.setIfInBounds (sl j) v)[sl i]? ≠ (a.tmps.setIfInBounds (sl j) v)[sl j]?
 rw[Array.getElem?_setIfInBounds_ne sj,Array.getElem?_setIfInBounds_self_of_lt hlt];exact h h1
theorem RInv.fresh {i b:Nat}{o:Obj}(h:RInv ops m sl R a0 W u6 a w)(hi:i<m)(hR:∀ v w,R i v w→∃ g,v=.pointer (some ⟨g,0,none⟩)∧b≤g∧w.heap[g]? = some o):u6.getD i false=true→a.tmps[sl i]? ≠ some (.pointer (some ⟨w.heap.size,0,none⟩)):=by
 intro hl e;obtain⟨v,h1,h2⟩:=h.slots i hi hl;obtain⟨g,rfl,_,h3⟩:=hR v w h2;rw[h1]at e;have hg:=(Array.getElem?_eq_some_iff.1 h3).1;injection e with e
 injection e with e
 injection e with e
 injection e with e
 omega
theorem fu {id:Nat}{a:Act}{w:World}(hm:P.follows .mixedOrders=true)(m t:Nat)(sl:Nat→Nat)(R:Nat→Value→World→Prop)(W:World→Prop)(D:Array Bool→Act→Prop)(hs:ops.size=m+t)(hb:vS .any ops=true)(ht:zn ops m t=true)
 (hD:D (Array.replicate ops.size false) a) (hstart:W w.drew)
 (hstep:∀ u6 a' w k,RInv ops m sl R a W u6 a' w→D u6 a'→k∈Region.ready .any ops u6→k<m→wpOp P ops Q k (fun a' w'=>RInv ops m sl R a W (u6.setIfInBounds k true) a' w'∧D (u6.setIfInBounds k true) a') a' w)
 (hlast:∀ u6 a' w,RInv ops m sl R a W u6 a' w→D u6 a'→(∀ j,j<m→u6.getD j false=true)→iT P ops Q t m a' w):(Code.region id ops true).wp P Q a w:=by
 refine gJ hm (fun u6 a' w=>((∀ j,m≤j→u6.getD j false=false)∧RInv ops m sl R a W u6 a' w∧D u6 a')∨(∃ k,k≤t∧u6.size=ops.size∧Closed .any ops u6∧(∀ j,j<m+k→u6.getD j false=true)∧(∀ j,m+k≤j→u6.getD j false=false)∧iT P ops Q (t-k) (m+k) a' w)) (Or.inl ⟨?_,RInv.start hstart,hD⟩) ?_ ?_
 · intro j _
   simp only[Array.getD_eq_getD_getElem?,Array.getElem?_replicate];split<;>rfl
 · rintro u6 a' w i (⟨h1,h2,h0⟩|⟨k,hk,hsz,hc,h1,h2,h3⟩) hi
   · have hlt:=fV hi
     by_cases him:i<m
     · refine wpOp_mono (fun a2 w2 h=>Or.inl ⟨fun j hj=>?_,h⟩) (hstep u6 a' w i h2 h0 hi him)
       rw[getD_set_ne (by omega)];exact h1 j hj
     · have w9:=kG ht (by omega) (by omega) h2.closed hi
       have hie:i=m:=by
        rcases Nat.lt_or_ge m i with h|h
        · have:=w9 m h;rw[h1 m (Nat.le_refl _)]at this;cases this
        · omega
       subst hie;obtain⟨t',rfl⟩:∃ t',t=t'+1:=⟨t-1,by omega⟩;have hz:=h2.size;refine wpOp_mono (fun a2 w2 h=>Or.inr ⟨1,by omega,by simpa using hz,h2.closed.set hi,fun j hj=>?_,fun j hj=>?_,by simpa using h⟩) (hlast u6 a' w h2 h0 w9)
       · by_cases hji:j=i
         · subst hji;exact dW (by omega)
         · rw[getD_set_ne hji];exact w9 j (by omega)
       · rw[getD_set_ne (by omega)];exact h1 j (by omega)
   · have hlt:=fV hi
     have hun:=kN hi
     have hge:m+k≤i:=by
        rcases Nat.lt_or_ge i (m+k) with h|h
        · rw[h1 i h]at hun;cases hun
        · exact h
     have w9:=kG ht (by omega) (by omega) hc hi
     have hie:i=m+k:=by
        rcases Nat.lt_or_ge (m+k) i with h|h
        · have:=w9 _ h;rw[h2 _ (Nat.le_refl _)]at this;cases this
        · omega
     subst hie;obtain⟨t',ht'⟩:∃ t',t-k=t'+1:=⟨t-k-1,by omega⟩;rw[ht']at h3;refine wpOp_mono (fun a2 w2 h=>Or.inr ⟨k+1,by omega,by simpa using hsz,hc.set hi,fun j hj=>?_,fun j hj=>?_,by rw[show t-(k+1)=t' by omega];exact h⟩) h3
     · by_cases hji:j=m+k
       · subst hji;exact dW (by omega)
       · rw[getD_set_ne hji];exact w9 j (by omega)
     · rw[getD_set_ne (by omega)];exact h2 j (by omega)
 · rintro u6 a' w (⟨h1,h2,h0⟩|⟨k,hk,hsz,hc,h1,h2,h3⟩) hr
   · have w9:=gT h2.size hb hr
     have ht0:t=0:=by
        rcases Nat.eq_zero_or_pos t with h|h
        · exact h
        · have:=w9 m (by omega);rw[h1 m (Nat.le_refl _)]at this;cases this
     subst ht0;exact hlast u6 a' w h2 h0 (fun j hj=>w9 j (by omega))
   · have w9:=gT hsz hb hr
     have hkt:k=t:=by
        rcases Nat.lt_or_ge k t with h|h
        · have:=w9 (m+k) (by omega);rw[h2 _ (Nat.le_refl _)]at this;cases this
        · omega
     subst hkt;rw[Nat.sub_self]at h3;exact h3
def butB (ops:Array Oper) (m d:Nat):Bool:=(List.range m).all fun j=>j==d || (List.range (m+1)).any fun k=>decide (j<k)&&(k != d)&&Region.waitsFor .any ops k j
theorem z4t {m d:Nat}(hl:butB ops m d=true)(hdm:d<m)(hc:Closed .any ops u6)(hr:m∈Region.ready .any ops u6):∀ n j,n+j=m→0<n→j≠d→u6.getD j false=true:=by
 intro n
 induction n using Nat.strongRecOn with
 | _ n ih =>
   intro j hj hn hjd;have h1:=List.all_eq_true.1 hl j (List.mem_range.2 (by omega));rw[Bool.or_eq_true]at h1;rcases h1 with h1|h1
   · exact absurd (by simpa using h1) hjd
   · obtain⟨k,hk,h2⟩:=List.any_eq_true.1 h1
     have hk:=List.mem_range.1 hk;rw[Bool.and_eq_true,Bool.and_eq_true,decide_eq_true_iff]at h2;have hkd:k≠d:=by simpa using h2.1.2
     by_cases hkm:k=m
     · subst hkm;exact jf hr h2.2
     · exact hc k j (ih (m-k) (by omega) k (by omega) (by omega) hkd) h2.2
theorem iM {id:Nat}{a:Act}{w:World}(hm:P.follows .mixedOrders=true)(m t d:Nat)(sl:Nat→Nat)(R:Nat→Value→World→Prop)(W:World→Prop)(D:Array Bool→Act→Prop)(hdm:d<m)(ht0:0<t)(hs:ops.size=m+(t+1))(hb:vS .any ops=true)(hbut:butB ops m d=true)(hlb:zn ops (m+1) t=true)
 (hD:D (Array.replicate ops.size false) a) (hstart:W w.drew)
 (hstep:∀ u6 a' w k,RInv ops m sl R a W u6 a' w→D u6 a'→k∈Region.ready .any ops u6→k<m→wpOp P ops Q k (fun a' w'=>RInv ops m sl R a W (u6.setIfInBounds k true) a' w'∧D (u6.setIfInBounds k true) a') a' w)
 (hlast:∀ u6 a' w,RInv ops m sl R a W u6 a' w→D u6 a'→(∀ j,j<m→u6.getD j false=true)→iT P ops Q (t+1) m a' w)
 (hswap:∀ u6 a' w,RInv ops m sl R a W u6 a' w→D u6 a'→(∀ j,j<m→j≠d→u6.getD j false=true)→wpOp P ops Q m (fun a' w'=>wpOp P ops Q d (fun a' w'=>iT P ops Q t (m+1) a' w') a' w') a' w):(Code.region id ops true).wp P Q a w:=by
 refine gJ hm (fun u6 a' w=>u6.size=ops.size∧Closed .any ops u6∧(
  ((∀ j,m≤j→u6.getD j false=false)∧RInv ops m sl R a W u6 a' w∧D u6 a') ∨
  ((∀ j,j<m→j≠d→u6.getD j false=true)∧u6.getD m false=true∧u6.getD d false=false∧(∀ j,m+1≤j→u6.getD j false=false)∧wpOp P ops Q d (fun a' w'=>iT P ops Q t (m+1) a' w') a' w) ∨
  (∃ k,k≤t∧(∀ j,j<m+1+k→u6.getD j false=true)∧(∀ j,m+1+k≤j→u6.getD j false=false)∧iT P ops Q (t-k) (m+1+k) a' w))) ⟨by simp,nY _,Or.inl ⟨?_,RInv.start hstart,hD⟩⟩ ?_ ?_
 · intro j _
   simp only[Array.getD_eq_getD_getElem?,Array.getElem?_replicate];split<;>rfl
 · rintro u6 a' w i ⟨hsz,hc,h⟩ hi
   have hlt:=fV hi;have hun:=kN hi;have hsz':(u6.setIfInBounds i true).size=ops.size:=by simpa using hsz
   have hc':=hc.set hi;have last:m+1≤i→∀ j,j<i→u6.getD j false=true:=fun e=>kG hlb e (by omega) hc hi;rcases h with⟨h1,h2,h0⟩|⟨h1,h2,h3,h4,h5⟩|⟨k,hk,h1,h2,h3⟩
   · by_cases him:i<m
     · refine wpOp_mono (fun a2 w2 h=>⟨hsz',hc',Or.inl ⟨fun j hj=>?_,h⟩⟩) (hstep u6 a' w i h2 h0 hi him)
       rw[getD_set_ne (by omega)];exact h1 j hj
     · have hie:i=m:=by
        rcases Nat.lt_or_ge m i with h|h
        · have:=last (by omega) m (by omega);rw[h1 m (Nat.le_refl _)]at this;cases this
        · omega
       subst hie;have w9:∀ j,j<i→j≠d→u6.getD j false=true:=fun j hj hjd=>z4t hbut hdm hc hi (i-j) j (by omega) (by omega) hjd;by_cases hd:u6.getD d false=true
       · refine wpOp_mono (fun a2 w2 h=>⟨hsz',hc',Or.inr (Or.inr ⟨0,by omega,fun j hj=>?_,fun j hj=>?_,by simpa using h⟩)⟩) (hlast u6 a' w h2 h0 (fun j hj=>by
          by_cases hjd:j=d
          · subst hjd;exact hd
          · exact w9 j hj hjd))
         · by_cases hji:j=i
           · subst hji;exact dW (by omega)
           · rw[getD_set_ne hji]
             by_cases hjd:j=d
             · subst hjd;exact hd
             · exact w9 j (by omega) hjd
         · rw[getD_set_ne (by omega)];exact h1 _ (by omega)
       · refine wpOp_mono (fun a2 w2 h=>⟨hsz',hc',Or.inr (Or.inl ⟨fun j hj hjd=>?_,dW (by omega),?_,fun j hj=>?_,h⟩)⟩) (hswap u6 a' w h2 h0 w9)
         · rw[getD_set_ne (by omega)];exact w9 j hj hjd
         · rw[getD_set_ne (by omega)];simpa using hd
         · rw[getD_set_ne (by omega)];exact h1 _ (by omega)
   · have hie:i=d:=by
        by_cases e:m+1≤i
        · have:=last e d (by omega);rw[h3]at this;cases this
        · by_cases e2:i=m
          · subst e2;rw[h2]at hun;cases hun
          · by_cases e3:i=d
            · exact e3
            · rw[h1 i (by omega) e3]at hun;cases hun
     subst hie;refine wpOp_mono (fun a2 w2 h=>⟨hsz',hc',Or.inr (Or.inr ⟨0,by omega,fun j hj=>?_,fun j hj=>?_,by simpa using h⟩)⟩) h5
     · by_cases hji:j=i
       · subst hji;exact dW (by omega)
       · rw[getD_set_ne hji]
         by_cases hjm:j=m
         · subst hjm;exact h2
         · exact h1 j (by omega) hji
     · rw[getD_set_ne (by omega)];exact h4 j (by omega)
   · have hge:m+1+k≤i:=by
        rcases Nat.lt_or_ge i (m+1+k) with h|h
        · rw[h1 i h]at hun;cases hun
        · exact h
     have hie:i=m+1+k:=by
        rcases Nat.lt_or_ge (m+1+k) i with h|h
        · have:=last (by omega) _ h;rw[h2 _ (Nat.le_refl _)]at this;cases this
        · omega
     subst hie;obtain⟨t',ht'⟩:∃ t',t-k=t'+1:=⟨t-k-1,by omega⟩;rw[ht']at h3;refine wpOp_mono (fun a2 w2 h=>⟨hsz',hc',Or.inr (Or.inr ⟨k+1,by omega,fun j hj=>?_,fun j hj=>?_,by rw[show t-(k+1)=t' by omega];exact h⟩)⟩) h3
     · by_cases hji:j=m+1+k
       · subst hji;exact dW (by omega)
       · rw[getD_set_ne hji];exact h1 j (by omega)
     · rw[getD_set_ne (by omega)];exact h2 j (by omega)
 · rintro u6 a' w ⟨hsz,hc,h⟩ hr
   have w9:=gT hsz hb hr;rcases h with⟨h1,h2,h0⟩|⟨h1,h2,h3,h4,h5⟩|⟨k,hk,h1,h2,h3⟩
   · have:=w9 m (by omega);rw[h1 m (Nat.le_refl _)]at this;cases this
   · have:=w9 d (by omega);rw[h3]at this;cases this
   · have hkt:k=t:=by
        rcases Nat.lt_or_ge k t with h|h
        · have:=w9 (m+1+k) (by omega);rw[h2 _ (Nat.le_refl _)]at this;cases this
        · omega
     subst hkt;rw[Nat.sub_self]at h3;exact h3
theorem aN {id:Nat}{ops:Array Oper}{b:Bool}{Q:Exit→Act→World→Prop}{a:Act}{w:World}(F:Act→Act→World→Prop)(h1:(Code.region id ops b).wp P (fun e a' w'=>e=.normal∧F a a' w') a w)(h2:∀ a' w',F a a' w'→Q .normal a' w'):(Code.region id ops b).wp P Q a w :=
 Code.wp_mono (fun e a' w' ⟨he,h⟩=>by subst he;exact h2 a' w' h) h1
end
structure Rel where
 R:Value→World→Prop
 mono:∀ v W W',R v W→Below W.heap.size W W'→R v W'
def Rel.val (u:Value):Rel:=⟨fun v _=>v=u,fun _ _ _ h _=>h⟩
def Rel.ptr (b:Nat) (o:Obj):Rel:=⟨fun v W=>∃ g,v=.pointer (some ⟨g,0,none⟩)∧b≤g∧W.heap[g]? = some o,fun _ W W' ⟨g,e,h,k⟩ hb=>⟨g,e,h,by rw[hb.block g (Array.getElem?_eq_some_iff.1 k).1];exact k⟩⟩
def RelR (L:List Rel) (i:Nat) (v:Value) (W:World):Prop:=(L.getD i (Rel.val undef)).R v W
theorem RelR.mono {L:List Rel}{W W':World}(hb:Below W.heap.size W W')(i:Nat)(v:Value)(h:RelR L i v W):RelR L i v W':=(L.getD i (Rel.val undef)).mono v W W' h hb
end Go.Gb
namespace Go.Gb
open Go Go.RowKit
def SBk (w:World) (g:Nat) (cs:Array Value) (T:TypeId):Prop:=w.heap[g]? = some (.cells cs T (0,0))
theorem SBk.lt {w:World}{g:Nat}{cs:Array Value}{T:TypeId}(h:SBk w g cs T):g<w.heap.size:=(Array.getElem?_eq_some_iff.1 h).1
theorem SBk.cell {w:World}{g i:Nat}{cs:Array Value}{T:TypeId}{v:Value}(h:SBk w g cs T)(hi:cs[i]? = some v):w.cell? ⟨g,i,none⟩=some v:=by
 unfold SBk at h;simp[World.cell?,h,hi]
theorem SBk.frozen {w:World}{g i:Nat}{cs:Array Value}{T:TypeId}(h:SBk w g cs T):w.frozen? ⟨g,i,none⟩=false:=by
 unfold SBk at h;simp[World.frozen?,h]
theorem SBk.below {w w':World}{g:Nat}{cs:Array Value}{T:TypeId}(h:SBk w g cs T)(hb:Below w.heap.size w w'):SBk w' g cs T:=by
 unfold SBk;rw[hb.block g h.lt];exact h
theorem SBk.new (w:World)(cs:Array Value)(T:TypeId):SBk (w.alloc (.cells cs T)) w.heap.size cs T:=heap_alloc_new _ _
theorem SBk.set {w:World}{g i:Nat}{cs:Array Value}{T:TypeId}(h:SBk w g cs T)(v:Value):SBk (w.setCell ⟨g,i,none⟩ v) g (cs.setIfInBounds i v) T:=by
 unfold SBk at *
 simp only[World.setCell,Array.getElem?_modify,h];simp
theorem SBk.off {w:World}{g g' i:Nat}{cs:Array Value}{T:TypeId}(h:SBk w g cs T)(hg:g≠g')(v:Value):SBk (w.setCell ⟨g',i,none⟩ v) g cs T:=by
 unfold SBk at *
 rw[← h];exact Below.heap_setCell w ⟨g',i,none⟩ v g hg
def bL (cs:Array Value):Bool:=cs.all fun v=>match v with | .int _ _=>false|_=>true
theorem z06 {cs:Array Value}(h:bL cs=true){i:Nat}{k:IntKind}{n:Int}:cs[i]? ≠ some (.int k n):=by
 intro e;have:=Array.all_eq_true'.1 h _ (Array.mem_of_getElem? e);simp at this
theorem Rd.set {w:World}{v:Value}{xs:List Nat}{k:IntKind}{g:Nat}{cs:Array Value}{T:TypeId}(h:Rd k w v xs)(hg:SBk w g cs T)(hn:bL cs=true)(i:Nat)(u:Value):Rd k (w.setCell ⟨g,i,none⟩ u) v xs:=by
 rcases h with h|⟨b',o,c',h1,h2,h3,h4,h5⟩
 · exact Or.inl h
 · refine Or.inr ⟨b',o,c',h1,h2,h3,by simpa [World.setCell] using h4,fun j hj=>?_⟩
   have h6:=h5 j hj
   have hne:b'≠g:=by
    intro e;subst e;unfold SBk at hg
    simp only[World.cell?,hg]at h6;exact z06 hn (by simpa using h6)
   exact(zi hne).trans h6
theorem z1j {P:Program}{c:Code}{Q:Exit→Act→World→Prop}{a:Act}{w:World}(I:World→Prop)(h:I w)(k:∀ W,I W→c.wp P Q a W):c.wp P Q a w:=k w h
def Bx (w:World):List (Array Value × TypeId)→World→Prop
 | [],W=>W=w
 | (cs,T) :: l,W=>Bx (w.alloc (.cells cs T)) l W
def BxI (w:World) (n:Nat):List (Array Value × TypeId)→World→Prop
 | [],W=>Below w.heap.size w W
 | (cs,T) :: l,W=>SBk W n cs T∧BxI w (n+1) l W
theorem uu (w0:World):∀ (l:List (Array Value × TypeId)) (w W:World) (n:Nat),w.heap.size=n→Below w0.heap.size w0 w→Bx w l W→Below w.heap.size w W∧BxI w0 n l W
 | [],w,W,n,hn,hb,h=>by
   obtain rfl:W=w:=h;exact⟨Below.refl _ _,hb⟩
 | (cs,T) :: l,w,W,n,hn,hb,h=>by
   have h1:=uu w0 l (w.alloc (.cells cs T)) W (n+1) (by simp[hn]) (hb.alloc hb.size _) h;have h2:Below w.heap.size w W:=((Below.refl w.heap.size w).alloc (Nat.le_refl _) (.cells cs T)).trans (h1.1.mono (by simp));refine⟨h2,?_,h1.2⟩;subst hn;exact(SBk.new w cs T).below h1.1
theorem boxes (w:World)(l:List (Array Value × TypeId))(W:World)(h:Bx w l W):BxI w w.heap.size l W:=(uu w l w W _ rfl (Below.refl _ _) h).2
theorem az {P:Program}{c:Code}{Q:Exit→Act→World→Prop}{a:Act}{W:World}(w:World)(l:List (Array Value × TypeId))(h:Bx w l W)(k:∀ W,BxI w w.heap.size l W→c.wp P Q a W):c.wp P Q a W:=k W (boxes w l W h)
theorem dC (b:Bool)(p:Option Addr)(n c:Nat):bL #[.bool b,.slice p n c]=true:=by simp[bL]
theorem jQ {w:World}{g g':Nat}{cs:Array Value}{T:TypeId}(h:SBk w g cs T)(hg:g≠g')(x y:Value):SBk ((w.setCell ⟨g',0,none⟩ x).setCell ⟨g',1,none⟩ y) g cs T:=(h.off hg x).off hg y
theorem gQ {B g:Nat}{a w:World}(h:Below B a w)(hg:B≤g)(x y:Value):Below B a ((w.setCell ⟨g,0,none⟩ x).setCell ⟨g,1,none⟩ y):=(h.setCell (p:=⟨g,0,none⟩) hg x).setCell (p:=⟨g,1,none⟩) hg y
theorem gH {w:World}{v:Value}{xs:List Nat}{k:IntKind}{g:Nat}{a b:Value}{T:TypeId}(h:Rd k w v xs)(hg:SBk w g #[a,b] T)(hn:bL #[a,b]=true)(x y:Value)(hx:bL #[x,b]=true):Rd k ((w.setCell ⟨g,0,none⟩ x).setCell ⟨g,1,none⟩ y) v xs:=by
 have h1:SBk (w.setCell ⟨g,0,none⟩ x) g #[x,b] T:=hg.set x;exact(h.set hg hn 0 x).set h1 hx 1 y
def storeAll (w:World) (g:Nat):Nat→List Value→World
 | _,[]=>w
 | i,x :: l=>storeAll (w.setCell ⟨g,i,none⟩ x) g (i+1) l
def wS (cs:Array Value):Nat→List Value→Array Value
 | _,[]=>cs
 | i,x :: l=>wS (cs.setIfInBounds i x) (i+1) l
def bA:Value→Bool
 | .int _ _=>false
 | _=>true
theorem z05 {cs:Array Value}(h:bL cs=true){x:Value}(hx:bA x=true)(i:Nat):bL (cs.setIfInBounds i x)=true:=by
 unfold bL at *
 refine Array.all_eq_true'.2 fun y hy=>?_;rcases Array.mem_or_eq_of_mem_setIfInBounds hy with hy|rfl
 · exact Array.all_eq_true'.1 h y hy
 · cases y<;>first|rfl|cases hx
theorem mP {k:IntKind}{v:Value}{xs:List Nat}{g:Nat}{T:TypeId}:∀ (l:List Value) (i:Nat) {w:World} {cs:Array Value},Rd k w v xs→SBk w g cs T→bL cs=true→l.all bA=true→Rd k (storeAll w g i l) v xs
 | [],_,_,_,h,_,_,_=>h
 | x :: l,i,_,_,h,hg,hn,hl=>by
   rw[List.all_cons,Bool.and_eq_true]at hl;exact mP l (i+1) (h.set hg hn i x) (hg.set x) (z05 hn hl.1 i) hl.2
theorem dm {g:Nat}{T:TypeId}:∀ (l:List Value) (i:Nat) {w:World} {cs:Array Value},SBk w g cs T→SBk (storeAll w g i l) g (wS cs i l) T
 | [],_,_,_,h=>h
 | x :: l,i,_,_,h=>dm l (i+1) (h.set x)
theorem aZ {g g':Nat}{cs:Array Value}{T:TypeId}(hg:g≠g'):∀ (l:List Value) (i:Nat) {w:World},SBk w g cs T→SBk (storeAll w g' i l) g cs T
 | [],_,_,h=>h
 | x :: l,i,_,h=>aZ hg l (i+1) (h.off hg x)
theorem ay {B g:Nat}{a:World}(hg:B≤g):∀ (l:List Value) (i:Nat) {w:World},Below B a w→Below B a (storeAll w g i l)
 | [],_,_,h=>h
 | x :: l,i,_,h=>ay hg l (i+1) (h.setCell (p:=⟨g,i,none⟩) hg x)
instance {W W':World}{g:Nat}{c:Array Value}{T:TypeId}:Gr (SBk W g c T) W W' (SBk W' g c T):=⟨fun h k=>k.below h⟩
theorem av {w:World} {g:Nat} {cs:Array Value} {T:TypeId} {x0 x1:Value} (h:SBk w g cs T) (h0:cs[0]?=some x0) (h1:cs[1]?=some x1):w.cell? ⟨g,0,none⟩=some x0∧w.cell? ⟨g,1,none⟩=some x1:=⟨h.cell h0,h.cell h1⟩
theorem bF {w:World} {g:Nat} {cs:Array Value} {T:TypeId} (h:SBk w g cs T):w.frozen? ⟨g,0,none⟩=false∧w.frozen? ⟨g,1,none⟩=false:=⟨h.frozen,h.frozen⟩
theorem aS {w:World} {g:Nat} {cs:Array Value} {T:TypeId} {x0 x1 x2:Value} (h:SBk w g cs T) (h0:cs[0]?=some x0) (h1:cs[1]?=some x1) (h2:cs[2]?=some x2):w.cell? ⟨g,0,none⟩=some x0∧w.cell? ⟨g,1,none⟩=some x1∧w.cell? ⟨g,2,none⟩=some x2:=⟨h.cell h0,h.cell h1,h.cell h2⟩
theorem cB {w:World} {g:Nat} {cs:Array Value} {T:TypeId} (h:SBk w g cs T):w.frozen? ⟨g,0,none⟩=false∧w.frozen? ⟨g,1,none⟩=false∧w.frozen? ⟨g,2,none⟩=false:=⟨h.frozen,h.frozen,h.frozen⟩
theorem bG {w:World} {g:Nat} {cs:Array Value} {T:TypeId} {x0 x1 x2 x3 x4 x5:Value} (h:SBk w g cs T) (h0:cs[0]?=some x0) (h1:cs[1]?=some x1) (h2:cs[2]?=some x2) (h3:cs[3]?=some x3) (h4:cs[4]?=some x4) (h5:cs[5]?=some x5):w.cell? ⟨g,0,none⟩=some x0∧w.cell? ⟨g,1,none⟩=some x1∧w.cell? ⟨g,2,none⟩=some x2∧w.cell? ⟨g,3,none⟩=some x3∧w.cell? ⟨g,4,none⟩=some x4∧w.cell? ⟨g,5,none⟩=some x5:=⟨h.cell h0,h.cell h1,h.cell h2,h.cell h3,h.cell h4,h.cell h5⟩
theorem dZ {w:World} {g:Nat} {cs:Array Value} {T:TypeId} (h:SBk w g cs T):w.frozen? ⟨g,0,none⟩=false∧w.frozen? ⟨g,1,none⟩=false∧w.frozen? ⟨g,2,none⟩=false∧w.frozen? ⟨g,3,none⟩=false∧w.frozen? ⟨g,4,none⟩=false∧w.frozen? ⟨g,5,none⟩=false:=⟨h.frozen,h.frozen,h.frozen,h.frozen,h.frozen,h.frozen⟩
end Go.Gb
namespace Go.Gb
theorem jR (num:Int)(den:Nat)(hd:den≠0):(mkRat num den).num=num / ((Nat.gcd num.natAbs den:Nat):Int)∧(mkRat num den).den=den / Nat.gcd num.natAbs den:=by
 rw[← Rat.normalize_eq_mkRat hd,Rat.normalize_eq hd];exact⟨rfl,rfl⟩
theorem z13 (X Y:Rat)(g more rest:Nat)(num:Int)(hg:g=Nat.gcd X.den Y.den)(hm:more=Y.den / g)(hnum:num=X.num*(more:Int)+Y.num*((X.den / g:Nat):Int))(hr:rest=Nat.gcd num.natAbs g) :
 (X+Y).num=num / (rest:Int)∧(X+Y).den=X.den / rest*more:=by
 have hY:=Y.den_nz;have hX:=X.den_nz;have hg0:0<g:=by rw[hg];exact Nat.gcd_pos_of_pos_left _ (by omega)
 have dX:g∣X.den:=by rw[hg];exact Nat.gcd_dvd_left _ _
 have dY:g∣Y.den:=by rw[hg];exact Nat.gcd_dvd_right _ _
 have hr0:0<rest:=by rw[hr];exact Nat.gcd_pos_of_pos_right _ hg0
 have drg:rest∣g:=by rw[hr];exact Nat.gcd_dvd_right _ _
 have hden:X.den / g*Y.den / rest=X.den / rest*more:=by
  obtain⟨p,hp⟩:=dX;obtain⟨q,hq⟩:=dY;obtain⟨t,ht⟩:=drg;rw[hm,hp,hq,Nat.mul_div_cancel_left _ hg0,Nat.mul_div_cancel_left _ hg0];have e3:p*(g*q)=rest*(t*p*q):=by rw[ht];ac_rfl
  have e4:g*p=rest*(t*p):=by rw[ht];ac_rfl
  rw[e3,e4,Nat.mul_div_cancel_left _ hr0,Nat.mul_div_cancel_left _ hr0]
 have h:X+Y=Rat.add X Y:=rfl;rw[h];subst hg hm hr;unfold Rat.add
 simp only;split
 · rename_i h1
   rw[h1,Nat.div_one,Nat.div_one]at hnum;simp only;rw[h1,Nat.gcd_one_right,Nat.div_one,Nat.div_one];exact⟨by rw[hnum];simp,rfl⟩
 · rw[Rat.maybeNormalize_eq]
   simp only[Int.divExact_eq_ediv,← hnum];exact⟨trivial,hden⟩
theorem z09 (X Y:Rat)(g1 g2:Nat)(h1:g1=Nat.gcd X.num.natAbs Y.den)(h2:g2=Nat.gcd Y.num.natAbs X.den) :
 (X*Y).num=X.num / (g1:Int)*(Y.num / (g2:Int))∧(X*Y).den=X.den / g2*(Y.den / g1):=by
 subst h1 h2;have h:X*Y=Rat.mul X Y:=rfl;rw[h];unfold Rat.mul
 simp only[Int.divExact_eq_ediv,Nat.divExact_eq_div];exact⟨trivial,trivial⟩
theorem z08 (X:Rat):(-X).num = -X.num∧(-X).den=X.den:=⟨rfl,rfl⟩
theorem nN {X:Rat}(h:0<X.num):(X⁻¹).num=(X.den:Int)∧((X⁻¹).den:Int)=X.num:=by
 have e:X⁻¹=Rat.inv X:=rfl;rw[e];unfold Rat.inv
 rw[dif_neg (by omega),dif_pos h];exact⟨rfl,by simp only;omega⟩
theorem kU {X:Rat}(h:X.num<0):(X⁻¹).num = -(X.den:Int)∧((X⁻¹).den:Int) = -X.num:=by
 have e:X⁻¹=Rat.inv X:=rfl;rw[e];unfold Rat.inv
 rw[dif_pos h];exact⟨rfl,by simp only;omega⟩
theorem o7 (X Y:Rat):X+Y=mkRat (X.num*(Y.den:Int)+Y.num*(X.den:Int)) (X.den*Y.den):=by
 have h1:=X.den_nz;have h2:=Y.den_nz;rw[Rat.add_def,Rat.normalize_eq_mkRat]
theorem jC (X Y:Rat):X*Y=mkRat (X.num*Y.num) (X.den*Y.den):=by
 rw[Rat.mul_def,Rat.normalize_eq_mkRat]
theorem zq (X Y:Rat):X-Y=mkRat (X.num*(Y.den:Int)-Y.num*(X.den:Int)) (X.den*Y.den):=by
 rw[Rat.sub_eq_add_neg,o7];show mkRat (X.num*(Y.den:Int) + -Y.num*(X.den:Int)) (X.den*Y.den)=_
 rw[Int.neg_mul];congr 1
theorem rA (X Y:Rat)(h:0<Y.num):X / Y=mkRat (X.num*(Y.den:Int)) (X.den*Y.num.toNat):=by
 obtain⟨e1,e2⟩:=nN h;rw[Rat.div_def,jC,e1];congr 2
 omega
theorem rC (X Y:Rat)(h:Y.num<0):X / Y=mkRat (-(X.num*(Y.den:Int))) (X.den*(-Y.num).toNat):=by
 obtain⟨e1,e2⟩:=kU h;rw[Rat.div_def,jC,e1,Int.mul_neg];congr 2
 omega
def cmpQ (x y:Rat):Int:=if x<y then -1 else if y<x then 1 else 0
theorem z0W {x y:Rat}(h:x<y):cmpQ x y = -1:=by unfold cmpQ;rw[if_pos h]
theorem lZ {x y:Rat}(h:y<x):cmpQ x y=1:=by
 unfold cmpQ;rw[if_neg (by grind),if_pos h]
theorem z0X (x:Rat):cmpQ x x=0:=by
 unfold cmpQ;rw[if_neg (by grind),if_neg (by grind)]
theorem jb (X Y:Rat)(a b:Int)(ha:a=X.num*(Y.den:Int))(hb:b=Y.num*(X.den:Int)):cmpQ X Y=if a<b then -1 else if b<a then 1 else 0:=by
 unfold cmpQ
 simp only[Rat.lt_iff,← ha,← hb]
theorem eT (x y:Rat):(x<y∧cmpQ x y = -1)∨(x=y∧cmpQ x y=0)∨(y<x∧cmpQ x y=1):=by
 by_cases h1:x<y
 · exact Or.inl ⟨h1,z0W h1⟩
 · by_cases h2:y<x
   · exact Or.inr (Or.inr ⟨h2,lZ h2⟩)
   · have:x=y:=by grind
     subst this;exact Or.inr (Or.inl ⟨rfl,z0X x⟩)
end Go.Gb
namespace Go.Gb
open Go Go.RowKit
theorem bY {w:World}{g:Nat}{T:TypeId}{x0 x1 x2 x3 x4 x5 a b c d e f:Value}(h:SBk w g #[x0,x1,x2,x3,x4,x5] T):SBk (storeAll w g 0 [a,b,c,d,e,f]) g #[a,b,c,d,e,f] T:=by
 have:=dm [a,b,c,d,e,f] 0 h;simpa [wS] using this
theorem iC (w:World)(g:Nat)(a b c d e f:Value):storeAll w g 0 [a,b,c,d,e,f]=(((((w.setCell ⟨g,0,none⟩ a).setCell ⟨g,1,none⟩ b).setCell ⟨g,2,none⟩ c).setCell ⟨g,3,none⟩ d).setCell ⟨g,4,none⟩ e).setCell ⟨g,5,none⟩ f:=rfl
theorem uN {w:World}{g:Nat}{T:TypeId}{x0 x1 a b:Value}(h:SBk w g #[x0,x1] T):SBk (storeAll w g 0 [a,b]) g #[a,b] T:=by
 have:=dm [a,b] 0 h;simpa [wS] using this
theorem yf (w:World)(g:Nat)(a b:Value):storeAll w g 0 [a,b]=(w.setCell ⟨g,0,none⟩ a).setCell ⟨g,1,none⟩ b:=rfl
theorem jL (W:World)(o:Obj):Below W.heap.size W (W.alloc o):=(Below.refl W.heap.size W).alloc (Nat.le_refl _) o
theorem sZ (s:Nat)(v:Value):∀ (L:List (Nat × Value)) (t:Array Value),putL (L++[(s,v)]) t=(putL L t).setIfInBounds s v
 | [],_=>rfl
 | p :: L,t=>sZ s v L (t.setIfInBounds p.1 p.2)
theorem jg {a:Act}{L L':List (Nat × Value)}{t:Array Value}{b:Act}{s:Nat}{v:Value}(h:a=⟨putL L t,b.defers⟩)(hL:L++[(s,v)]=L'):(⟨a.tmps.setIfInBounds s v,a.defers⟩:Act)=⟨putL L' t,b.defers⟩:=by
 subst hL;rw[sZ,h]
theorem SBk.row {w:World}{g:Nat}{cs:Array Value}{T:TypeId}(h:SBk w g cs T)(ds:Array Value):SBk (w.setRow g ds) g ds T:=setRow_heap w g cs ds T (0,0) h
theorem o6 {n g:Nat}{w W:World}(h:Below n w W)(ds:Array Value)(hg:n≤g):Below n w (W.setRow g ds) :=
 h.trans ⟨rfl,rfl,rfl,by simp,fun k hk=>setRow_other W g k ds (by omega)⟩
theorem setRow_self {w:World}{g:Nat}{cur:Array Value}{T:TypeId}(h:SBk w g cur T):w.setRow g cur=w:=by
 have hh:(w.setRow g cur).heap=w.heap:=by
  apply Array.ext_getElem?
  intro k;by_cases hk:k=g
  · subst hk
    rw[setRow_heap w k cur cur T (0,0) h];exact h.symm
  · exact setRow_other w g k cur hk
 unfold World.setRow at hh ⊢
 simp only at hh;rw[hh]
theorem iV {g:Nat}{T:TypeId}:∀ (vs:List Value) (i:Nat) (cur:Array Value) (w:World),SBk w g cur T→i+vs.length=cur.size→storeAll w g i vs=w.setRow g (cur.toList.take i++vs).toArray
 | [],i,cur,w,h,hl=>by
   have:(cur.toList.take i++([]:List Value)).toArray=cur:=by
    rw[List.append_nil,List.take_of_length_le (by simp at hl ⊢;omega)]
   rw[this];exact(setRow_self h).symm
 | v :: vs,i,cur,w,h,hl=>by
   have h1:w.setCell ⟨g,i,none⟩ v=w.setRow g (cur.setIfInBounds i v):=setCell_eq_setRow w g i cur T (0,0) v h;rw[storeAll,h1,iV vs (i+1) (cur.setIfInBounds i v) _ (SBk.row h _) (by simp at hl ⊢;omega),setRow_setRow];congr 2
   have hi:i<cur.size:=by simp at hl;omega
   have:((cur.setIfInBounds i v).toList.take (i+1))=cur.toList.take i++[v]:=by
     rw[Array.toList_setIfInBounds,List.take_add_one,List.getElem?_set_self (by simpa using hi),List.take_set_of_le (Nat.le_refl i)];rfl
   rw[this,List.append_assoc];rfl
theorem jy {w:World}{g:Nat}{cur:Array Value}{T:TypeId}{vs:List Value}(h:SBk w g cur T)(hl:cur.size=vs.length):storeAll w g 0 vs=w.setRow g vs.toArray:=by
 have:=iV vs 0 cur w h (by omega);simpa using this
def z3f (P:Program) (ty:TypeId) (n:Nat):Bool:=(match P.underlying ty with|some (.struct _)=>true|some (.array _ _)=>true|_=>false)&&decide ((P.info? ty).map (·.size)=some n)
theorem jV {a:Act}{t:Tmp}{v:Value}(h:a.tmps[t]? = some v):a.eval (.tmp t)=v:=by
 simp[Act.eval,h]
theorem nO {P:Program}{T:TypeId}{cs:Array Value}(n:Nat)(hn:cs.size=n)(hc:z3f P T n=true):(P.info? T).map (·.size)=some cs.size:=by
 unfold z3f at hc
 rw[Bool.and_eq_true,decide_eq_true_eq]at hc;rw[hn,hc.2]
end Go.Gb
namespace Go.Proofs.YteihfbkaieemdaaGreatDoor
open Go.ChangeShapes Go.WideShapes Go.ChangeAt Go.WideMaps Go.WideElems Go.RowKit
theorem own:ownKnob Tryz.prog.godebug=none:=by kernel_rfl
theorem gTab:Tryz.prog.globalNamed "internal/strconv.uint64pow10" = some 1:=by kernel_rfl
theorem z2t:(Tryz.prog.globals[1]?).map (·.type)=some 185:=by kernel_rfl
theorem z2T:Tryz.prog.cellsOf 185=20:=by kernel_rfl
theorem z2S:Tryz.prog.cellsOf 131=1:=by kernel_rfl
def z5q:List (String × DataW Unit):=[("math/bits.deBruijn32tab",Rows.laid_math_bits_deBruijn32tab),("math/bits.deBruijn64tab",Rows.laid_math_bits_deBruijn64tab),("internal/strconv.uint64pow10",Rows.laid_internal_strconv_uint64pow10),("strconv.ErrRange",Rows.laid_strconv_ErrRange),("strconv.ErrSyntax",Rows.laid_strconv_ErrSyntax)]
end Go.Proofs.YteihfbkaieemdaaGreatDoor
namespace Go.Proofs.YteihfbkaieemdaaGreatDoor
open Go.ChangeShapes Go.WideShapes Go.ChangeAt Go.WideMaps Go.WideElems Go.RowKit Go.Gb
open Go.ChangeMaps (open_string shut_string)
