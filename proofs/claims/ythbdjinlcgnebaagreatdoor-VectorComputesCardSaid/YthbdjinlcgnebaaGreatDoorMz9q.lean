/- texts -/
import Derived.Test.YthbdjinlcgnebaaGreatDoorMz6q
import Derived.Test.YthbdjinlcgnebaaGreatDoorCards
import Derived.Test.YthbdjinlcgnebaaGreatDoorTie
import Derived.Test.YthbdjinlcgnebaaGreatDoorMz5q
import Derived.ProofKit
import Derived.LaidMore
import Derived.OpenShut
namespace Go.Gb
open Go Go.RowKit
section
variable {P:Program} {ops:Array Oper} {Q:Exit→Act→World→Prop}
variable {m:Nat} {sl:Nat→Nat} {R:Nat→Value→World→Prop} {a a0:Act} {W:World→Prop} {u6:Array Bool} {w w':World}
def iX (P:Program) (ops:Array Oper) (Q:Exit→Act→World→Prop):Nat→Nat→Act→World→Prop
 | 0,_,a,w=>Q .normal a w
 | t+1,k,a,w=>wpOp P ops Q k (fun a' w'=>iX P ops Q t (k+1) a' w') a w
theorem aL {t k:Nat}(h:wpOp P ops Q k (fun a' w'=>iX P ops Q t (k+1) a' w') a w):iX P ops Q (t+1) k a w:=h
theorem aR {k:Nat}(h:Q .normal a w):iX P ops Q 0 k a w:=h
def z1a (ops:Array Oper) (m t:Nat):Bool:=(List.range t).all fun i=>lastB ops (m+i)
theorem jZ {m t k:Nat}(ht:z1a ops m t=true)(hk:m≤k)(hkt:k<m+t)(hc:Closed .any ops u6)(hr:k∈Region.ready .any ops u6):∀ j,j<k→u6.getD j false=true:=by
 have h1:=List.all_eq_true.1 ht (k-m) (List.mem_range.2 (by omega));rw[show m+(k-m)=k by omega]at h1;intro j hj;exact z1E h1 hc hr (k-j) j (by omega) (by omega)
theorem z0P {id:Nat}{a:Act}{w:World}(hm:P.follows .mixedOrders=true)(m t:Nat)(sl:Nat→Nat)(R:Nat→Value→World→Prop)(W:World→Prop)(hs:ops.size=m+t)(hb:z0D .any ops=true)(ht:z1a ops m t=true)
 (hstart:W w.drew)
 (hstep:∀ u6 a' w i,RInv ops m sl R a W u6 a' w→i∈Region.ready .any ops u6→i<m→wpOp P ops Q i (fun a' w'=>RInv ops m sl R a W (u6.setIfInBounds i true) a' w') a' w)
 (hlast:∀ u6 a' w,RInv ops m sl R a W u6 a' w→(∀ j,j<m→u6.getD j false=true)→iX P ops Q t m a' w):(Code.region id ops true).wp P Q a w:=by
 refine iO hm (fun u6 a' w=>((∀ j,m≤j→u6.getD j false=false)∧RInv ops m sl R a W u6 a' w)∨(∃ k,k≤t∧u6.size=ops.size∧Closed .any ops u6∧(∀ j,j<m+k→u6.getD j false=true)∧(∀ j,m+k≤j→u6.getD j false=false)∧iX P ops Q (t-k) (m+k) a' w)) (Or.inl ⟨?_,RInv.start hstart⟩) ?_ ?_
 · intro j _
   simp only[Array.getD_eq_getD_getElem?,Array.getElem?_replicate];split<;>rfl
 · rintro u6 a' w i (⟨h1,h2⟩|⟨k,hk,hsz,hc,h1,h2,h3⟩) hi
   · have hlt:=gY hi
     by_cases him:i<m
     · refine wpOp_mono (fun a2 w2 h=>Or.inl ⟨fun j hj=>?_,h⟩) (hstep u6 a' w i h2 hi him)
       rw[getD_set_ne (by omega)];exact h1 j hj
     · have w9:=jZ ht (by omega) (by omega) h2.closed hi
       have hie:i=m:=by
        rcases Nat.lt_or_ge m i with h|h
        · have:=w9 m h;rw[h1 m (Nat.le_refl _)]at this;cases this
        · omega
       subst hie;obtain⟨t',rfl⟩:∃ t',t=t'+1:=⟨t-1,by omega⟩;have hz:=h2.size;refine wpOp_mono (fun a2 w2 h=>Or.inr ⟨1,by omega,by simpa using hz,h2.closed.set hi,fun j hj=>?_,fun j hj=>?_,by simpa using h⟩) (hlast u6 a' w h2 w9)
       · by_cases hji:j=i
         · subst hji;exact dU (by omega)
         · rw[getD_set_ne hji];exact w9 j (by omega)
       · rw[getD_set_ne (by omega)];exact h1 j (by omega)
   · have hlt:=gY hi
     have hun:=nz hi
     have hge:m+k≤i:=by
        rcases Nat.lt_or_ge i (m+k) with h|h
        · rw[h1 i h]at hun;cases hun
        · exact h
     have w9:=jZ ht (by omega) (by omega) hc hi
     have hie:i=m+k:=by
        rcases Nat.lt_or_ge (m+k) i with h|h
        · have:=w9 _ h;rw[h2 _ (Nat.le_refl _)]at this;cases this
        · omega
     subst hie;obtain⟨t',ht'⟩:∃ t',t-k=t'+1:=⟨t-k-1,by omega⟩;rw[ht']at h3;refine wpOp_mono (fun a2 w2 h=>Or.inr ⟨k+1,by omega,by simpa using hsz,hc.set hi,fun j hj=>?_,fun j hj=>?_,by rw[show t-(k+1)=t' by omega];exact h⟩) h3
     · by_cases hji:j=m+k
       · subst hji;exact dU (by omega)
       · rw[getD_set_ne hji];exact w9 j (by omega)
     · rw[getD_set_ne (by omega)];exact h2 j (by omega)
 · rintro u6 a' w (⟨h1,h2⟩|⟨k,hk,hsz,hc,h1,h2,h3⟩) hr
   · have w9:=iM h2.size hb hr
     have ht0:t=0:=by
        rcases Nat.eq_zero_or_pos t with h|h
        · exact h
        · have:=w9 m (by omega);rw[h1 m (Nat.le_refl _)]at this;cases this
     subst ht0;exact hlast u6 a' w h2 (fun j hj=>w9 j (by omega))
   · have w9:=iM hsz hb hr
     have hkt:k=t:=by
        rcases Nat.lt_or_ge k t with h|h
        · have:=w9 (m+k) (by omega);rw[h2 _ (Nat.le_refl _)]at this;cases this
        · omega
     subst hkt;rw[Nat.sub_self]at h3;exact h3
end
section
variable {P:Program} {ops:Array Oper} {Q:Exit→Act→World→Prop}
variable {m:Nat} {sl:Nat→Nat} {R:Nat→Value→World→Prop} {a a0:Act} {W:World→Prop} {u6:Array Bool} {w w':World}
theorem jC {a:Act}{d:Nat}{v:Value}(h:d<a.tmps.size):(a.put (some d) v).tmps[d]? = some v:=by
 show(a.tmps.setIfInBounds d v)[d]? = some v
 rw[Array.getElem?_setIfInBounds_self_of_lt h]
theorem gp {a:Act}{d e:Nat}{v:Value}(h:d≠e):(a.put (some d) v).tmps[e]? = a.tmps[e]? := by
 show(a.tmps.setIfInBounds d v)[e]? = a.tmps[e]?
 rw[Array.getElem?_setIfInBounds_ne h]
theorem RInv.fin_put {sd:Nat}{v:Value}(h:RInv ops m sl R a0 W u6 a w)(L:List (Nat × Value))(h1:∀ p,p∈L→(a.put (some sd) v).tmps[p.1]? = some p.2)(h2:∀ e,(∀ p,p∈L→p.1≠e)→(∀ i,i<m→sl i≠e)∧sd≠e):a.put (some sd) v=⟨aV L a0.tmps,a0.defers⟩:=by
 have hsz:(a.put (some sd) v).tmps.size=a0.tmps.size:=by
  show(a.tmps.setIfInBounds sd v).size=_
  rw[Array.size_setIfInBounds,h.tsize]
 have ht:=uy L a0.tmps (a.put (some sd) v).tmps hsz h1 (fun e he=>by
  rw[gp (h2 e he).2]
  exact h.rest e (h2 e he).1)
 have hd:(a.put (some sd) v).defers=a0.defers:=h.defers;have e:a.put (some sd) v=⟨(a.put (some sd) v).tmps,(a.put (some sd) v).defers⟩:=rfl;rw[e,ht,hd]
theorem ay {id:Nat}{a:Act}{w:World}(hm:P.follows .mixedOrders=true)(m t:Nat)(sl:Nat→Nat)(R:Nat→Value→World→Prop)(W:World→Prop)(D:Array Bool→Act→Prop)(hs:ops.size=m+t)(hb:z0D .any ops=true)(ht:z1a ops m t=true)
 (hD:D (Array.replicate ops.size false) a) (hstart:W w.drew)
 (hstep:∀ u6 a' w k,RInv ops m sl R a W u6 a' w→D u6 a'→k∈Region.ready .any ops u6→k<m→wpOp P ops Q k (fun a' w'=>RInv ops m sl R a W (u6.setIfInBounds k true) a' w'∧D (u6.setIfInBounds k true) a') a' w)
 (hlast:∀ u6 a' w,RInv ops m sl R a W u6 a' w→D u6 a'→(∀ j,j<m→u6.getD j false=true)→iX P ops Q t m a' w):(Code.region id ops true).wp P Q a w:=by
 refine iO hm (fun u6 a' w=>((∀ j,m≤j→u6.getD j false=false)∧RInv ops m sl R a W u6 a' w∧D u6 a')∨(∃ k,k≤t∧u6.size=ops.size∧Closed .any ops u6∧(∀ j,j<m+k→u6.getD j false=true)∧(∀ j,m+k≤j→u6.getD j false=false)∧iX P ops Q (t-k) (m+k) a' w)) (Or.inl ⟨?_,RInv.start hstart,hD⟩) ?_ ?_
 · intro j _
   simp only[Array.getD_eq_getD_getElem?,Array.getElem?_replicate];split<;>rfl
 · rintro u6 a' w i (⟨h1,h2,h0⟩|⟨k,hk,hsz,hc,h1,h2,h3⟩) hi
   · have hlt:=gY hi
     by_cases him:i<m
     · refine wpOp_mono (fun a2 w2 h=>Or.inl ⟨fun j hj=>?_,h⟩) (hstep u6 a' w i h2 h0 hi him)
       rw[getD_set_ne (by omega)];exact h1 j hj
     · have w9:=jZ ht (by omega) (by omega) h2.closed hi
       have hie:i=m:=by
        rcases Nat.lt_or_ge m i with h|h
        · have:=w9 m h;rw[h1 m (Nat.le_refl _)]at this;cases this
        · omega
       subst hie;obtain⟨t',rfl⟩:∃ t',t=t'+1:=⟨t-1,by omega⟩;have hz:=h2.size;refine wpOp_mono (fun a2 w2 h=>Or.inr ⟨1,by omega,by simpa using hz,h2.closed.set hi,fun j hj=>?_,fun j hj=>?_,by simpa using h⟩) (hlast u6 a' w h2 h0 w9)
       · by_cases hji:j=i
         · subst hji;exact dU (by omega)
         · rw[getD_set_ne hji];exact w9 j (by omega)
       · rw[getD_set_ne (by omega)];exact h1 j (by omega)
   · have hlt:=gY hi
     have hun:=nz hi
     have hge:m+k≤i:=by
        rcases Nat.lt_or_ge i (m+k) with h|h
        · rw[h1 i h]at hun;cases hun
        · exact h
     have w9:=jZ ht (by omega) (by omega) hc hi
     have hie:i=m+k:=by
        rcases Nat.lt_or_ge (m+k) i with h|h
        · have:=w9 _ h;rw[h2 _ (Nat.le_refl _)]at this;cases this
        · omega
     subst hie;obtain⟨t',ht'⟩:∃ t',t-k=t'+1:=⟨t-k-1,by omega⟩;rw[ht']at h3;refine wpOp_mono (fun a2 w2 h=>Or.inr ⟨k+1,by omega,by simpa using hsz,hc.set hi,fun j hj=>?_,fun j hj=>?_,by rw[show t-(k+1)=t' by omega];exact h⟩) h3
     · by_cases hji:j=m+k
       · subst hji;exact dU (by omega)
       · rw[getD_set_ne hji];exact w9 j (by omega)
     · rw[getD_set_ne (by omega)];exact h2 j (by omega)
 · rintro u6 a' w (⟨h1,h2,h0⟩|⟨k,hk,hsz,hc,h1,h2,h3⟩) hr
   · have w9:=iM h2.size hb hr
     have ht0:t=0:=by
        rcases Nat.eq_zero_or_pos t with h|h
        · exact h
        · have:=w9 m (by omega);rw[h1 m (Nat.le_refl _)]at this;cases this
     subst ht0;exact hlast u6 a' w h2 h0 (fun j hj=>w9 j (by omega))
   · have w9:=iM hsz hb hr
     have hkt:k=t:=by
        rcases Nat.lt_or_ge k t with h|h
        · have:=w9 (m+k) (by omega);rw[h2 _ (Nat.le_refl _)]at this;cases this
        · omega
     subst hkt;rw[Nat.sub_self]at h3;exact h3
def butB (ops:Array Oper) (m d:Nat):Bool:=(List.range m).all fun j=>j==d || (List.range (m+1)).any fun k=>decide (j<k)&&(k != d)&&Region.waitsFor .any ops k j
theorem z3C {m d:Nat}(hl:butB ops m d=true)(hdm:d<m)(hc:Closed .any ops u6)(hr:m∈Region.ready .any ops u6):∀ n j,n+j=m→0<n→j≠d→u6.getD j false=true:=by
 intro n
 induction n using Nat.strongRecOn with
 | _ n ih =>
   intro j hj hn hjd;have h1:=List.all_eq_true.1 hl j (List.mem_range.2 (by omega));rw[Bool.or_eq_true]at h1;rcases h1 with h1|h1
   · exact absurd (by simpa using h1) hjd
   · obtain⟨k,hk,h2⟩:=List.any_eq_true.1 h1
     have hk:=List.mem_range.1 hk;rw[Bool.and_eq_true,Bool.and_eq_true,decide_eq_true_iff]at h2;have hkd:k≠d:=by simpa using h2.1.2
     by_cases hkm:k=m
     · subst hkm;exact iQ hr h2.2
     · exact hc k j (ih (m-k) (by omega) k (by omega) (by omega) hkd) h2.2
theorem iy {id:Nat}{a:Act}{w:World}(hm:P.follows .mixedOrders=true)(m t d:Nat)(sl:Nat→Nat)(R:Nat→Value→World→Prop)(W:World→Prop)(D:Array Bool→Act→Prop)(hdm:d<m)(ht0:0<t)(hs:ops.size=m+(t+1))(hb:z0D .any ops=true)(hbut:butB ops m d=true)(hlb:z1a ops (m+1) t=true)
 (hD:D (Array.replicate ops.size false) a) (hstart:W w.drew)
 (hstep:∀ u6 a' w k,RInv ops m sl R a W u6 a' w→D u6 a'→k∈Region.ready .any ops u6→k<m→wpOp P ops Q k (fun a' w'=>RInv ops m sl R a W (u6.setIfInBounds k true) a' w'∧D (u6.setIfInBounds k true) a') a' w)
 (hlast:∀ u6 a' w,RInv ops m sl R a W u6 a' w→D u6 a'→(∀ j,j<m→u6.getD j false=true)→iX P ops Q (t+1) m a' w)
 (hswap:∀ u6 a' w,RInv ops m sl R a W u6 a' w→D u6 a'→(∀ j,j<m→j≠d→u6.getD j false=true)→wpOp P ops Q m (fun a' w'=>wpOp P ops Q d (fun a' w'=>iX P ops Q t (m+1) a' w') a' w') a' w):(Code.region id ops true).wp P Q a w:=by
 refine iO hm (fun u6 a' w=>u6.size=ops.size∧Closed .any ops u6∧(
  ((∀ j,m≤j→u6.getD j false=false)∧RInv ops m sl R a W u6 a' w∧D u6 a') ∨
  ((∀ j,j<m→j≠d→u6.getD j false=true)∧u6.getD m false=true∧u6.getD d false=false∧(∀ j,m+1≤j→u6.getD j false=false)∧wpOp P ops Q d (fun a' w'=>iX P ops Q t (m+1) a' w') a' w) ∨
  (∃ k,k≤t∧(∀ j,j<m+1+k→u6.getD j false=true)∧(∀ j,m+1+k≤j→u6.getD j false=false)∧iX P ops Q (t-k) (m+1+k) a' w))) ⟨by simp,nS _,Or.inl ⟨?_,RInv.start hstart,hD⟩⟩ ?_ ?_
 · intro j _
   simp only[Array.getD_eq_getD_getElem?,Array.getElem?_replicate];split<;>rfl
 · rintro u6 a' w i ⟨hsz,hc,h⟩ hi
   have hlt:=gY hi;have hun:=nz hi;have hsz':(u6.setIfInBounds i true).size=ops.size:=by simpa using hsz
   have hc':=hc.set hi;have last:m+1≤i→∀ j,j<i→u6.getD j false=true:=fun e=>jZ hlb e (by omega) hc hi;rcases h with⟨h1,h2,h0⟩|⟨h1,h2,h3,h4,h5⟩|⟨k,hk,h1,h2,h3⟩
   · by_cases him:i<m
     · refine wpOp_mono (fun a2 w2 h=>⟨hsz',hc',Or.inl ⟨fun j hj=>?_,h⟩⟩) (hstep u6 a' w i h2 h0 hi him)
       rw[getD_set_ne (by omega)];exact h1 j hj
     · have hie:i=m:=by
        rcases Nat.lt_or_ge m i with h|h
        · have:=last (by omega) m (by omega);rw[h1 m (Nat.le_refl _)]at this;cases this
        · omega
       subst hie;have w9:∀ j,j<i→j≠d→u6.getD j false=true:=fun j hj hjd=>z3C hbut hdm hc hi (i-j) j (by omega) (by omega) hjd;by_cases hd:u6.getD d false=true
       · refine wpOp_mono (fun a2 w2 h=>⟨hsz',hc',Or.inr (Or.inr ⟨0,by omega,fun j hj=>?_,fun j hj=>?_,by simpa using h⟩)⟩) (hlast u6 a' w h2 h0 (fun j hj=>by
          by_cases hjd:j=d
          · subst hjd;exact hd
          · exact w9 j hj hjd))
         · by_cases hji:j=i
           · subst hji;exact dU (by omega)
           · rw[getD_set_ne hji]
             by_cases hjd:j=d
             · subst hjd;exact hd
             · exact w9 j (by omega) hjd
         · rw[getD_set_ne (by omega)];exact h1 _ (by omega)
       · refine wpOp_mono (fun a2 w2 h=>⟨hsz',hc',Or.inr (Or.inl ⟨fun j hj hjd=>?_,dU (by omega),?_,fun j hj=>?_,h⟩)⟩) (hswap u6 a' w h2 h0 w9)
         · rw[getD_set_ne (by omega)];exact w9 j hj hjd
         · rw[getD_set_ne (by omega)];simpa using hd
         · rw[getD_set_ne (by omega)];exact h1 _ (by omega)
   · have hie:i=d:=by
        by_cases e:m+1≤i
        · have:=last e d (by omega);rw[h3]at this;cases this
        · by_cases e2:i=m
          · subst e2;rw[h2]at hun;cases hun
          · by_cases e3:i=d
            · exact e3
            · rw[h1 i (by omega) e3]at hun;cases hun
     subst hie;refine wpOp_mono (fun a2 w2 h=>⟨hsz',hc',Or.inr (Or.inr ⟨0,by omega,fun j hj=>?_,fun j hj=>?_,by simpa using h⟩)⟩) h5
     · by_cases hji:j=i
       · subst hji;exact dU (by omega)
       · rw[getD_set_ne hji]
         by_cases hjm:j=m
         · subst hjm;exact h2
         · exact h1 j (by omega) hji
     · rw[getD_set_ne (by omega)];exact h4 j (by omega)
   · have hge:m+1+k≤i:=by
        rcases Nat.lt_or_ge i (m+1+k) with h|h
        · rw[h1 i h]at hun;cases hun
        · exact h
     have hie:i=m+1+k:=by
        rcases Nat.lt_or_ge (m+1+k) i with h|h
        · have:=last (by omega) _ h;rw[h2 _ (Nat.le_refl _)]at this;cases this
        · omega
     subst hie;obtain⟨t',ht'⟩:∃ t',t-k=t'+1:=⟨t-k-1,by omega⟩;rw[ht']at h3;refine wpOp_mono (fun a2 w2 h=>⟨hsz',hc',Or.inr (Or.inr ⟨k+1,by omega,fun j hj=>?_,fun j hj=>?_,by rw[show t-(k+1)=t' by omega];exact h⟩)⟩) h3
     · by_cases hji:j=m+1+k
       · subst hji;exact dU (by omega)
       · rw[getD_set_ne hji];exact h1 j (by omega)
     · rw[getD_set_ne (by omega)];exact h2 j (by omega)
 · rintro u6 a' w ⟨hsz,hc,h⟩ hr
   have w9:=iM hsz hb hr;rcases h with⟨h1,h2,h0⟩|⟨h1,h2,h3,h4,h5⟩|⟨k,hk,h1,h2,h3⟩
   · have:=w9 m (by omega);rw[h1 m (Nat.le_refl _)]at this;cases this
   · have:=w9 d (by omega);rw[h3]at this;cases this
   · have hkt:k=t:=by
        rcases Nat.lt_or_ge k t with h|h
        · have:=w9 (m+1+k) (by omega);rw[h2 _ (Nat.le_refl _)]at this;cases this
        · omega
     subst hkt;rw[Nat.sub_self]at h3;exact h3
theorem aB {id:Nat}{ops:Array Oper}{b:Bool}{Q:Exit→Act→World→Prop}{a:Act}{w:World}(F:Act→Act→World→Prop)(h1:(Code.region id ops b).wp P (fun e a' w'=>e=.normal∧F a a' w') a w)(h2:∀ a' w',F a a' w'→Q .normal a' w'):(Code.region id ops b).wp P Q a w :=
 Code.wp_mono (fun e a' w' ⟨he,h⟩=>by subst he;exact h2 a' w' h) h1
end
structure Rel where
 R:Value→World→Prop
 mono:∀ v W W',R v W→Below W.heap.size W W'→R v W'
def Rel.val (u:Value):Rel:=⟨fun v _=>v=u,fun _ _ _ h _=>h⟩
def Rel.ptr (b:Nat) (o:Obj):Rel:=⟨fun v W=>∃ g,v=.pointer (some ⟨g,0,none⟩)∧b≤g∧W.heap[g]? = some o,fun _ W W' ⟨g,e,h,k⟩ hb=>⟨g,e,h,by rw[hb.block g (Array.getElem?_eq_some_iff.1 k).1];exact k⟩⟩
def RelR (L:List Rel) (i:Nat) (v:Value) (W:World):Prop:=(L.getD i (Rel.val undef)).R v W
theorem RelR.mono {L:List Rel}{W W':World}(hb:Below W.heap.size W W')(i:Nat)(v:Value)(h:RelR L i v W):RelR L i v W':=(L.getD i (Rel.val undef)).mono v W W' h hb
end Go.Gb
namespace Go.Gb
open Go Go.RowKit
section
variable {P:Program} {ops:Array Oper} {Q:Exit→Act→World→Prop}
variable {m:Nat} {sl:Nat→Nat} {R:Nat→Value→World→Prop} {a a0:Act} {W:World→Prop} {u6:Array Bool} {w w':World}
theorem ax {i:Nat}{o:Oper}{K:Act→World→Prop}(ho:ops[i]? = some o)
 (h:∀ K':Act→World→Prop,Hid (∀ a w,K a w→K' a w)→if Region.wanted o (yielded ops a.tmps)=true then Oper.wp P o a w K' Q else K' (a.put o.dst undef) w):wpOp P ops Q i K a w :=
 wpOp_step ho (fun K' hK=>h K' (Lib.hid hK))
theorem RInv.pv {i d:Nat}{v:Value}(h:RInv ops m sl R a0 W u6 a w)(hi:i∈Region.ready .any ops u6)(hv:R i v w)(hm:i<m:=by decide)(hd:d=sl i:=by rfl)(hlo:d<a0.tmps.size:=by simp)
 (hinj:∀ j,j<m→sl j=d→j=i:=by decide):RInv ops m sl R a0 W (u6.setIfInBounds i true) (a.put (some d) v) w:=h.put hi hm hd hlo hinj hv (fun _ _ k=>k) h.world
theorem RInv.pc {L:List Rel}{w0:World}{i d:Nat}{v:Value}(h:RInv ops m sl (RelR L) a0 (fun W=>Below w0.heap.size w0 W) u6 a w)(hi:i∈Region.ready .any ops u6)(hb:Below w.heap.size w w')(hv:RelR L i v w')(hm:i<m:=by decide)(hd:d=sl i:=by rfl)(hlo:d<a0.tmps.size:=by simp)
 (hinj:∀ j,j<m→sl j=d→j=i:=by decide):RInv ops m sl (RelR L) a0 (fun W=>Below w0.heap.size w0 W) (u6.setIfInBounds i true) (a.put (some d) v) w' :=
 h.put hi hm hd hlo hinj hv (fun j u k=>RelR.mono hb j u k) (h.world.trans (hb.mono h.world.size))
theorem RInv.rv {i j:Nat}{c:Value}(h:RInv ops m sl R a0 W u6 a w)(hj:j∈Region.ready .any ops u6)(hw:Region.waitsFor .any ops j i=true)(hm:i<m)(hR:∀ v,R i v w→v=c):a.tmps[sl i]? = some c:=by
 obtain⟨v,h1,h2⟩:=h.at hj hw hm;rw[h1,hR v h2]
def RV (ops:Array Oper) (u6:Array Bool) (a:Act) (j d:Nat) (c:Value):Prop:=∀ i,i∈Region.ready .any ops u6→Region.waitsFor .any ops i j=true→a.tmps[d]? = some c
theorem RV.g {j d i:Nat}{c:Value}(h:RV ops u6 a j d c)(hi:i∈Region.ready .any ops u6)(hw:Region.waitsFor .any ops i j=true):a.tmps[d]? = some c:=h i hi hw
theorem RInv.rh {j d:Nat}{c:Value}(h:RInv ops m sl R a0 W u6 a w)(hm:j<m:=by decide)(hd:sl j=d:=by rfl)(hR:∀ v,R j v w→v=c:=by exact fun _ h=>h):RV ops u6 a j d c:=by
 subst hd;exact fun i hi hw=>h.rv hi hw hm hR
theorem RInv.sx {c:Value}(h:RInv ops m sl R a0 W u6 a w)(w9:∀ j,j<m→u6.getD j false=true)(i:Nat){d:Nat}(hm:i<m:=by decide)(hd:sl i=d:=by rfl)(hR:∀ v,R i v w→v=c:=by exact fun _ h=>h):a.tmps[d]? = some c:=by
 subst hd;obtain⟨v,h1,h2⟩:=h.slots i hm (w9 i hm);rw[h1,hR v h2]
theorem RInv.sy {c:Value}{q:Nat}(h:RInv ops m sl R a0 W u6 a w)(w9:∀ j,j<m→j≠q→u6.getD j false=true)(i:Nat){d:Nat}(hm:i<m:=by decide)(hq:i≠q:=by decide)(hd:sl i=d:=by rfl)(hR:∀ v,R i v w→v=c:=by exact fun _ h=>h):a.tmps[d]? = some c:=by
 subst hd;obtain⟨v,h1,h2⟩:=h.slots i hm (w9 i hm hq);rw[h1,hR v h2]
def AllT:List (Nat × Value)→Array Value→Prop
 | [],_=>True
 | p :: t,T=>T[p.1]? = some p.2∧AllT t T
theorem AllT.mem:∀ {L:List (Nat × Value)} {T:Array Value},AllT L T→∀ p,p∈L→T[p.1]? = some p.2
 | _ :: _,_,h,p,hp=>by
   rcases List.mem_cons.1 hp with rfl|hp
   · exact h.1
   · exact AllT.mem h.2 p hp
def cov (m:Nat) (sl:Nat→Nat) (L:List (Nat × Value)):Bool:=(List.range m).all fun i=>L.any fun p=>p.1==sl i
theorem xm {L:List (Nat × Value)}(h:cov m sl L=true)(d:Nat)(hd:∀ p,p∈L→p.1≠d):∀ i,i<m→sl i≠d:=by
 intro i hi e;have h1:=List.all_eq_true.1 h i (List.mem_range.2 hi);obtain⟨p,hp,h2⟩:=List.any_eq_true.1 h1;exact hd p hp ((beq_iff_eq.1 h2).trans e)
theorem RInv.finx {L:List (Nat × Value)}(h:RInv ops m sl R a0 W u6 a w)(h1:AllT L a.tmps)(h2:cov m sl L=true):a=⟨aV L a0.tmps,a0.defers⟩:=h.fin L h1.mem (xm h2)
theorem RInv.finp {sd:Nat}{v:Value}(h:RInv ops m sl R a0 W u6 a w)(L:List (Nat × Value))(h1:AllT L (a.put (some sd) v).tmps)(h2:(cov m sl L&&L.any fun p=>p.1==sd)=true):a.put (some sd) v=⟨aV L a0.tmps,a0.defers⟩:=by
 rw[Bool.and_eq_true]at h2;refine h.fin_put L h1.mem (fun e he=>⟨xm h2.1 e he,fun k=>?_⟩);obtain⟨p,hp,h3⟩:=List.any_eq_true.1 h2.2;exact he p hp ((beq_iff_eq.1 h3).trans k)
end
end Go.Gb
namespace Go.Gb
open Go Go.RowKit
def SBk (w:World) (g:Nat) (cs:Array Value) (T:TypeId):Prop:=w.heap[g]? = some (.cells cs T (0,0))
theorem SBk.lt {w:World}{g:Nat}{cs:Array Value}{T:TypeId}(h:SBk w g cs T):g<w.heap.size:=(Array.getElem?_eq_some_iff.1 h).1
theorem SBk.cell {w:World}{g i:Nat}{cs:Array Value}{T:TypeId}{v:Value}(h:SBk w g cs T)(hi:cs[i]? = some v):w.cell? ⟨g,i,none⟩=some v:=by
 unfold SBk at h;simp[World.cell?,h,hi]
theorem SBk.frozen {w:World}{g i:Nat}{cs:Array Value}{T:TypeId}(h:SBk w g cs T):w.frozen? ⟨g,i,none⟩=false:=by
 unfold SBk at h;simp[World.frozen?,h]
theorem SBk.below {w w':World}{g:Nat}{cs:Array Value}{T:TypeId}(h:SBk w g cs T)(hb:Below w.heap.size w w'):SBk w' g cs T:=by
 unfold SBk;rw[hb.block g h.lt];exact h
theorem SBk.new (w:World)(cs:Array Value)(T:TypeId):SBk (w.alloc (.cells cs T)) w.heap.size cs T:=heap_alloc_new _ _
theorem SBk.set {w:World}{g i:Nat}{cs:Array Value}{T:TypeId}(h:SBk w g cs T)(v:Value):SBk (w.setCell ⟨g,i,none⟩ v) g (cs.setIfInBounds i v) T:=by
 unfold SBk at *
 simp only[World.setCell,Array.getElem?_modify,h];simp
theorem SBk.off {w:World}{g g' i:Nat}{cs:Array Value}{T:TypeId}(h:SBk w g cs T)(hg:g≠g')(v:Value):SBk (w.setCell ⟨g',i,none⟩ v) g cs T:=by
 unfold SBk at *
 rw[← h];exact Below.heap_setCell w ⟨g',i,none⟩ v g hg
def bZ (cs:Array Value):Bool:=cs.all fun v=>match v with | .int _ _=>false|_=>true
theorem z00 {cs:Array Value}(h:bZ cs=true){i:Nat}{k:IntKind}{n:Int}:cs[i]? ≠ some (.int k n):=by
 intro e;have:=Array.all_eq_true'.1 h _ (Array.mem_of_getElem? e);simp at this
theorem Rd.set {w:World}{v:Value}{xs:List Nat}{k:IntKind}{g:Nat}{cs:Array Value}{T:TypeId}(h:Rd k w v xs)(hg:SBk w g cs T)(hn:bZ cs=true)(i:Nat)(u:Value):Rd k (w.setCell ⟨g,i,none⟩ u) v xs:=by
 rcases h with h|⟨b',o,c',h1,h2,h3,h4,h5⟩
 · exact Or.inl h
 · refine Or.inr ⟨b',o,c',h1,h2,h3,by simpa [World.setCell] using h4,fun j hj=>?_⟩
   have h6:=h5 j hj
   have hne:b'≠g:=by
    intro e;subst e;unfold SBk at hg
    simp only[World.cell?,hg]at h6;exact z00 hn (by simpa using h6)
   exact(z2X hne).trans h6
theorem vQ {P:Program}{c:Code}{Q:Exit→Act→World→Prop}{a:Act}{w:World}(I:World→Prop)(h:I w)(k:∀ W,I W→c.wp P Q a W):c.wp P Q a w:=k w h
def Bx (w:World):List (Array Value × TypeId)→World→Prop
 | [],W=>W=w
 | (cs,T) :: l,W=>Bx (w.alloc (.cells cs T)) l W
def BxI (w:World) (n:Nat):List (Array Value × TypeId)→World→Prop
 | [],W=>Below w.heap.size w W
 | (cs,T) :: l,W=>SBk W n cs T∧BxI w (n+1) l W
theorem tC (w0:World):∀ (l:List (Array Value × TypeId)) (w W:World) (n:Nat),w.heap.size=n→Below w0.heap.size w0 w→Bx w l W→Below w.heap.size w W∧BxI w0 n l W
 | [],w,W,n,hn,hb,h=>by
   obtain rfl:W=w:=h;exact⟨Below.refl _ _,hb⟩
 | (cs,T) :: l,w,W,n,hn,hb,h=>by
   have h1:=tC w0 l (w.alloc (.cells cs T)) W (n+1) (by simp[hn]) (hb.alloc hb.size _) h;have h2:Below w.heap.size w W:=((Below.refl w.heap.size w).alloc (Nat.le_refl _) (.cells cs T)).trans (h1.1.mono (by simp));refine⟨h2,?_,h1.2⟩;subst hn;exact(SBk.new w cs T).below h1.1
theorem boxes (w:World)(l:List (Array Value × TypeId))(W:World)(h:Bx w l W):BxI w w.heap.size l W:=(tC w l w W _ rfl (Below.refl _ _) h).2
theorem ak {P:Program}{c:Code}{Q:Exit→Act→World→Prop}{a:Act}{W:World}(w:World)(l:List (Array Value × TypeId))(h:Bx w l W)(k:∀ W,BxI w w.heap.size l W→c.wp P Q a W):c.wp P Q a W:=k W (boxes w l W h)
def storeAll (w:World) (g:Nat):Nat→List Value→World
 | _,[]=>w
 | i,x :: l=>storeAll (w.setCell ⟨g,i,none⟩ x) g (i+1) l
def rR (cs:Array Value):Nat→List Value→Array Value
 | _,[]=>cs
 | i,x :: l=>rR (cs.setIfInBounds i x) (i+1) l
def bD:Value→Bool
 | .int _ _=>false
 | _=>true
theorem zZ {cs:Array Value}(h:bZ cs=true){x:Value}(hx:bD x=true)(i:Nat):bZ (cs.setIfInBounds i x)=true:=by
 unfold bZ at *
 refine Array.all_eq_true'.2 fun y hy=>?_;rcases Array.mem_or_eq_of_mem_setIfInBounds hy with hy|rfl
 · exact Array.all_eq_true'.1 h y hy
 · cases y<;>first|rfl|cases hx
theorem mG {k:IntKind}{v:Value}{xs:List Nat}{g:Nat}{T:TypeId}:∀ (l:List Value) (i:Nat) {w:World} {cs:Array Value},Rd k w v xs→SBk w g cs T→bZ cs=true→l.all bD=true→Rd k (storeAll w g i l) v xs
 | [],_,_,_,h,_,_,_=>h
 | x :: l,i,_,_,h,hg,hn,hl=>by
   rw[List.all_cons,Bool.and_eq_true]at hl;exact mG l (i+1) (h.set hg hn i x) (hg.set x) (zZ hn hl.1 i) hl.2
theorem bO {g:Nat}{T:TypeId}:∀ (l:List Value) (i:Nat) {w:World} {cs:Array Value},SBk w g cs T→SBk (storeAll w g i l) g (rR cs i l) T
 | [],_,_,_,h=>h
 | x :: l,i,_,_,h=>bO l (i+1) (h.set x)
theorem bf {g g':Nat}{cs:Array Value}{T:TypeId}(hg:g≠g'):∀ (l:List Value) (i:Nat) {w:World},SBk w g cs T→SBk (storeAll w g' i l) g cs T
 | [],_,_,h=>h
 | x :: l,i,_,h=>bf hg l (i+1) (h.off hg x)
theorem av {B g:Nat}{a:World}(hg:B≤g):∀ (l:List Value) (i:Nat) {w:World},Below B a w→Below B a (storeAll w g i l)
 | [],_,_,h=>h
 | x :: l,i,_,h=>av hg l (i+1) (h.setCell (p:=⟨g,i,none⟩) hg x)
instance {W W':World}{g:Nat}{c:Array Value}{T:TypeId}:Gr (SBk W g c T) W W' (SBk W' g c T):=⟨fun h k=>k.below h⟩
theorem bH {w:World} {g:Nat} {cs:Array Value} {T:TypeId} {x0 x1:Value} (h:SBk w g cs T) (h0:cs[0]?=some x0) (h1:cs[1]?=some x1):w.cell? ⟨g,0,none⟩=some x0∧w.cell? ⟨g,1,none⟩=some x1:=⟨h.cell h0,h.cell h1⟩
theorem fP {w:World} {g:Nat} {cs:Array Value} {T:TypeId} (h:SBk w g cs T):w.frozen? ⟨g,0,none⟩=false∧w.frozen? ⟨g,1,none⟩=false:=⟨h.frozen,h.frozen⟩
theorem ag {w:World} {g:Nat} {cs:Array Value} {T:TypeId} {x0 x1 x2:Value} (h:SBk w g cs T) (h0:cs[0]?=some x0) (h1:cs[1]?=some x1) (h2:cs[2]?=some x2):w.cell? ⟨g,0,none⟩=some x0∧w.cell? ⟨g,1,none⟩=some x1∧w.cell? ⟨g,2,none⟩=some x2:=⟨h.cell h0,h.cell h1,h.cell h2⟩
theorem aN {w:World} {g:Nat} {cs:Array Value} {T:TypeId} (h:SBk w g cs T):w.frozen? ⟨g,0,none⟩=false∧w.frozen? ⟨g,1,none⟩=false∧w.frozen? ⟨g,2,none⟩=false:=⟨h.frozen,h.frozen,h.frozen⟩
theorem gz {w:World} {g:Nat} {cs:Array Value} {T:TypeId} {x0 x1 x2 x3:Value} (h:SBk w g cs T) (h0:cs[0]?=some x0) (h1:cs[1]?=some x1) (h2:cs[2]?=some x2) (h3:cs[3]?=some x3):w.cell? ⟨g,0,none⟩=some x0∧w.cell? ⟨g,1,none⟩=some x1∧w.cell? ⟨g,2,none⟩=some x2∧w.cell? ⟨g,3,none⟩=some x3:=⟨h.cell h0,h.cell h1,h.cell h2,h.cell h3⟩
theorem nN {w:World} {g:Nat} {cs:Array Value} {T:TypeId} (h:SBk w g cs T):w.frozen? ⟨g,0,none⟩=false∧w.frozen? ⟨g,1,none⟩=false∧w.frozen? ⟨g,2,none⟩=false∧w.frozen? ⟨g,3,none⟩=false:=⟨h.frozen,h.frozen,h.frozen,h.frozen⟩
theorem bC {w:World} {g:Nat} {cs:Array Value} {T:TypeId} {x0 x1 x2 x3 x4 x5 x6 x7 x8:Value} (h:SBk w g cs T) (h0:cs[0]?=some x0) (h1:cs[1]?=some x1) (h2:cs[2]?=some x2) (h3:cs[3]?=some x3) (h4:cs[4]?=some x4) (h5:cs[5]?=some x5) (h6:cs[6]?=some x6) (h7:cs[7]?=some x7) (h8:cs[8]?=some x8):w.cell? ⟨g,0,none⟩=some x0∧w.cell? ⟨g,1,none⟩=some x1∧w.cell? ⟨g,2,none⟩=some x2∧w.cell? ⟨g,3,none⟩=some x3∧w.cell? ⟨g,4,none⟩=some x4∧w.cell? ⟨g,5,none⟩=some x5∧w.cell? ⟨g,6,none⟩=some x6∧w.cell? ⟨g,7,none⟩=some x7∧w.cell? ⟨g,8,none⟩=some x8:=⟨h.cell h0,h.cell h1,h.cell h2,h.cell h3,h.cell h4,h.cell h5,h.cell h6,h.cell h7,h.cell h8⟩
theorem fC {w:World} {g:Nat} {cs:Array Value} {T:TypeId} (h:SBk w g cs T):w.frozen? ⟨g,0,none⟩=false∧w.frozen? ⟨g,1,none⟩=false∧w.frozen? ⟨g,2,none⟩=false∧w.frozen? ⟨g,3,none⟩=false∧w.frozen? ⟨g,4,none⟩=false∧w.frozen? ⟨g,5,none⟩=false∧w.frozen? ⟨g,6,none⟩=false∧w.frozen? ⟨g,7,none⟩=false∧w.frozen? ⟨g,8,none⟩=false:=⟨h.frozen,h.frozen,h.frozen,h.frozen,h.frozen,h.frozen,h.frozen,h.frozen,h.frozen⟩
end Go.Gb
namespace Go.Gb
def Ten (s:Nat):Prop:=∃ k,k≤9∧s=10^k
theorem Ten.one:Ten 1:=⟨0,by omega,rfl⟩
theorem Ten.pos {s:Nat}(h:Ten s):0<s:=by
 obtain⟨k,_,rfl⟩:=h;exact Nat.pow_pos (by decide)
theorem Ten.room {s:Nat}(h:Ten s):∃ t,0<t∧BB=s*t:=by
 obtain⟨k,hk,rfl⟩:=h;refine⟨10^(9-k),Nat.pow_pos (by decide),?_⟩;rw[← Nat.pow_add,show k+(9-k)=9 by omega,aH]
theorem Ten.step {s h:Nat}(hs:Ten s)(h0:1≤h)(hlt:h*s*10<BB):Ten (s*10):=by
 obtain⟨k,hk,rfl⟩:=hs;refine⟨k+1,?_,by rw[Nat.pow_succ]⟩;rcases Nat.lt_or_ge k 9 with h9|h9
 · omega
 · obtain rfl:k=9:=by omega
   have h1:1*10^9≤h*10^9:=Nat.mul_le_mul_right _ h0;rw[aH]at hlt;omega
theorem Made.even {a b c d u v f s:Nat}(h:Made a b c d false u v f s):(a:Int)*(u:Int) + -(b:Int)*(v:Int)=(f:Int) ∧ -(c:Int)*(u:Int)+(d:Int)*(v:Int)=(s:Int):=by
 obtain⟨e1,e2⟩:=h.1 rfl;have f1:(a:Int)*(u:Int)=(b:Int)*(v:Int)+(f:Int):=by exact_mod_cast e1
 have f2:(d:Int)*(v:Int)=(c:Int)*(u:Int)+(s:Int):=by exact_mod_cast e2
 rw[Int.neg_mul,Int.neg_mul];omega
theorem Made.odd {a b c d u v f s:Nat}(h:Made a b c d true u v f s) : -(a:Int)*(u:Int)+(b:Int)*(v:Int)=(f:Int)∧(c:Int)*(u:Int) + -(d:Int)*(v:Int)=(s:Int):=by
 obtain⟨e1,e2⟩:=h.2 rfl;have f1:(b:Int)*(v:Int)=(a:Int)*(u:Int)+(f:Int):=by exact_mod_cast e1
 have f2:(c:Int)*(u:Int)=(d:Int)*(v:Int)+(s:Int):=by exact_mod_cast e2
 rw[Int.neg_mul,Int.neg_mul];omega
structure Keeps (I:Nat→Nat→Nat→Nat→Bool→Prop):Prop where
 div:∀ F S P Q n,S≠0→I F S P Q n→I S (F%S) Q (P+F / S*Q) (!n)
 app:∀ F S P Q n a b c d o f s,F≠0→b≠0→Made a b c d o F S f s→Dtm a b c d o→Fac a b c d→s≤f→I F S P Q n→I f s (a*P+b*Q) (c*P+d*Q) (n != o)
 len:∀ F S P Q n,I F S P Q n→(aa F).length≤80000∧(aa S).length≤80000∧(aa P).length≤80000∧(aa Q).length≤80000
def CmI (N F S P Q:Nat) (_:Bool):Prop:=F+S≤N∧P=0∧Q=0
theorem Made.sum {a b c d u v f s:Nat}{o:Bool}(h:Made a b c d o u v f s)(hd:Dtm a b c d o)(hs:Fac a b c d)(hb:b≠0)(hu:u≠0)(hfs:s≤f){N:Nat}(hN:u+v≤N):f+s≤N:=by
 have:=h.less hd hs hb hu hfs;omega
theorem CmI.keeps {N:Nat}(hN:(aa N).length≤80000):Keeps (CmI N):=by
 refine⟨?_,?_,?_⟩
 · rintro F S P Q n hS ⟨h1,rfl,rfl⟩
   have h2:=Nat.mod_le F S;exact⟨by omega,rfl,by simp⟩
 · rintro F S P Q n a b c d o f s hF hb hm hd hf hsf ⟨h1,rfl,rfl⟩
   exact⟨hm.sum hd hf hb hF hsf h1,by simp,by simp⟩
 · rintro F S P Q n ⟨h1,rfl,rfl⟩
   have l1:=aM (show F≤N by omega);have l2:=aM (show S≤N by omega);rw[aS];simp only[List.length_nil];omega
end Go.Gb
namespace Go.Gb
open Go Go.RowKit
theorem dK {w:World}{g:Nat}{T:TypeId}{x0 x1 x2 a b c:Value}(h:SBk w g #[x0,x1,x2] T):SBk (storeAll w g 0 [a,b,c]) g #[a,b,c] T:=by
 have:=bO [a,b,c] 0 h;simpa [rR] using this
theorem dW (w:World)(g:Nat)(a b c:Value):storeAll w g 0 [a,b,c]=((w.setCell ⟨g,0,none⟩ a).setCell ⟨g,1,none⟩ b).setCell ⟨g,2,none⟩ c:=rfl
theorem nu {w:World}{g:Nat}{T:TypeId}{x0 x1 x2 x3 a b c d:Value}(h:SBk w g #[x0,x1,x2,x3] T):SBk (storeAll w g 0 [a,b,c,d]) g #[a,b,c,d] T:=by
 have:=bO [a,b,c,d] 0 h;simpa [rR] using this
theorem oD (w:World)(g:Nat)(a b c d:Value):storeAll w g 0 [a,b,c,d]=(((w.setCell ⟨g,0,none⟩ a).setCell ⟨g,1,none⟩ b).setCell ⟨g,2,none⟩ c).setCell ⟨g,3,none⟩ d:=rfl
theorem jq (W:World)(o:Obj):Below W.heap.size W (W.alloc o):=(Below.refl W.heap.size W).alloc (Nat.le_refl _) o
theorem sj (s:Nat)(v:Value):∀ (L:List (Nat × Value)) (t:Array Value),aV (L++[(s,v)]) t=(aV L t).setIfInBounds s v
 | [],_=>rfl
 | p :: L,t=>sj s v L (t.setIfInBounds p.1 p.2)
theorem fI {a:Act}{L L':List (Nat × Value)}{t:Array Value}{b:Act}{s:Nat}{v:Value}(h:a=⟨aV L t,b.defers⟩)(hL:L++[(s,v)]=L'):(⟨a.tmps.setIfInBounds s v,a.defers⟩:Act)=⟨aV L' t,b.defers⟩:=by
 subst hL;rw[sj,h]
end Go.Gb
namespace Go.Gb
open Go
theorem vR {xs:List Nat}(hx:∀ x∈xs,x<BB){i:Nat}(hi:xs.length=i+1)(k:Nat):aj xs / 10^(9*i+k)=xs.getD i 0 / 10^k:=by
 have h1:=dh xs i (by omega)
 have h2:aj (xs.drop i)=xs.getD i 0:=by
  rw[fM (by omega),List.drop_of_length_le (by omega)];simp[aj]
 have hlt:=j6 xs hx i;have hB:BB^i=10^(9*i):=by rw[Nat.pow_mul,show BB=10^9 from by rw[aH]]
 rw[h2]at h1;rw[h1,Nat.pow_add,← hB,← Nat.div_div_eq_div_mul,Nat.add_mul_div_left _ _ (Nat.pow_pos bL),Nat.div_eq_of_lt hlt,Nat.zero_add]
def TOut (xs:List Nat) (bs:List UInt8) (i:Nat):Prop :=
 (i<xs.length∧bs=ldig (aj xs) (9*i))∨(i=xs.length∧∃ m,bs=ldig (aj xs) (m+1)∧10^m≤aj xs∧aj xs<10^(m+1))
def TIn (xs:List Nat) (bs:List UInt8) (i k q:Nat):Prop :=
 k≤9∧q=xs.getD i 0 / 10^k∧bs=ldig (aj xs) (9*i+k)∧(k=0∨i+1<xs.length∨xs.getD i 0 / 10^(k-1)≠0)
theorem TOut.zero {xs:List Nat}(h:0<xs.length):TOut xs [] 0:=Or.inl ⟨h,rfl⟩
theorem TIn.start {xs:List Nat}{bs:List UInt8}{i:Nat}(h:TOut xs bs i)(hi:i<xs.length):TIn xs bs i 0 (xs.getD i 0):=by
 rcases h with⟨_,h⟩|⟨h,_⟩
 · exact⟨by omega,by simp,h,Or.inl rfl⟩
 · omega
theorem TIn.len {xs:List Nat}{bs:List UInt8}{i k q:Nat}(h:TIn xs bs i k q):bs.length=9*i+k:=by rw[h.2.2.1,iU]
theorem TIn.lt {xs:List Nat}{bs:List UInt8}{i k q:Nat}(h:TIn xs bs i k q)(hi:i<xs.length)(hx:∀ x∈xs,x<BB):q<1000000000:=by
 have h1:=hx _ (aX hi);rw[aH]at h1;rw[h.2.1];exact Nat.lt_of_le_of_lt (Nat.div_le_self _ _) h1
theorem TIn.step {xs:List Nat}{bs:List UInt8}{i k q:Nat}(h:TIn xs bs i k q)(hi:i<xs.length)(hx:∀ x∈xs,x<BB)(hk:k<9)(hg:i+1<xs.length∨0<q) :
 TIn xs (bs++[UInt8.ofNat (48+q%10)]) i (k+1) (q / 10):=by
 obtain⟨h1,h2,h3,h4⟩:=h;refine⟨by omega,?_,?_,?_⟩
 · rw[h2,Nat.div_div_eq_div_mul,Nat.pow_succ]
 · rw[h3,h2,← xz hx hi hk,← z0b]
   rfl
 · rcases hg with hg|hg
   · exact Or.inr (Or.inl hg)
   · right;right
     rw[Nat.add_sub_cancel,← h2];omega
theorem TIn.done {xs:List Nat}{bs:List UInt8}{i k q:Nat}(h:TIn xs bs i k q)(hi:i<xs.length)(hx:∀ x∈xs,x<BB)(hl:xs.getD (xs.length-1) 0≠0)(hg:k=9∨(i+1=xs.length∧q=0)):TOut xs bs (i+1):=by
 obtain⟨h1,h2,h3,h4⟩:=h;by_cases hlt:i+1<xs.length
 · obtain rfl:k=9:=by omega
   exact Or.inl ⟨hlt,by rw[h3,Nat.mul_add]⟩
 · have hi1:xs.length=i+1:=by omega
   have hw:=hx _ (aX hi);rw[aH]at hw;rw[show xs.length-1=i by omega]at hl
   have hq0:q=0:=by
    rcases hg with hg|hg
    · rw[h2,hg,Nat.div_eq_of_lt (by omega)]
    · exact hg.2
   obtain⟨j,rfl⟩:∃ j,k=j+1:=by
    refine⟨k-1,?_⟩;rcases Nat.eq_zero_or_pos k with h0|h0
    · rw[h0,Nat.pow_zero,Nat.div_one]at h2
      omega
    · omega
   have h5:xs.getD i 0 / 10^j≠0:=by
    rcases h4 with h4|h4|h4
    · omega
    · omega
    · rwa [Nat.add_sub_cancel]at h4
   have e1:=vR hx hi1 j;have e2:=vR hx hi1 (j+1);rw[← h2,hq0]at e2;refine Or.inr ⟨hi1.symm,9*i+j,h3,?_,?_⟩
   · rcases Nat.lt_or_ge (aj xs) (10^(9*i+j)) with h|h
     · rw[Nat.div_eq_of_lt h]at e1
       exact absurd e1.symm h5
     · exact h
   · rcases Nat.lt_or_ge (aj xs) (10^(9*i+(j+1))) with h|h
     · exact h
     · have:=Nat.div_pos h (Nat.pow_pos (by decide))
       omega
theorem TOut.done {xs:List Nat}{bs:List UInt8}(h:TOut xs bs xs.length):bs.reverse=Lib.decDigits (aj xs)∧0<bs.length:=by
 rcases h with⟨h,_⟩|⟨_,m,h1,h2,h3⟩
 · omega
 · rw[h1]
   exact⟨mg m _ h2 h3,by rw[iU];omega⟩
theorem TOut.len {xs:List Nat}{bs:List UInt8}{i:Nat}(h:TOut xs bs i)(hx:∀ x∈xs,x<BB):bs.length≤9*xs.length:=by
 rcases h with⟨h,e⟩|⟨_,m,h1,h2,h3⟩
 · rw[e,iU];omega
 · rw[h1,iU]
   have h4:=dP xs hx;rw[show BB=10^9 from by rw[aH],← Nat.pow_mul]at h4;have h5:10^m<10^(9*xs.length):=by omega
   have:=(Nat.pow_lt_pow_iff_right (by decide:1<10)).1 h5;omega
end Go.Gb
namespace Go.Gb
open Go Go.RowKit
theorem cZ {w:World}{g:Nat}{T:TypeId}{x0 x1 x2 x3 x4 x5 x6 x7 x8 a b c d e f h i j:Value}(hk:SBk w g #[x0,x1,x2,x3,x4,x5,x6,x7,x8] T):SBk (storeAll w g 0 [a,b,c,d,e,f,h,i,j]) g #[a,b,c,d,e,f,h,i,j] T:=by
 have:=bO [a,b,c,d,e,f,h,i,j] 0 hk;simpa [rR] using this
theorem jA (w:World)(g:Nat)(a b c d e f h i j:Value):storeAll w g 0 [a,b,c,d,e,f,h,i,j]=((((((((w.setCell ⟨g,0,none⟩ a).setCell ⟨g,1,none⟩ b).setCell ⟨g,2,none⟩ c).setCell ⟨g,3,none⟩ d).setCell ⟨g,4,none⟩ e).setCell ⟨g,5,none⟩ f).setCell ⟨g,6,none⟩ h).setCell ⟨g,7,none⟩ i).setCell ⟨g,8,none⟩ j:=rfl
end Go.Gb
namespace Go.Proofs.YthbdjinlcgnebaaGreatDoor
open Go.ChangeShapes Go.WideShapes Go.ChangeAt Go.WideMaps Go.WideElems Go.RowKit
theorem own:ownKnob Tryz.prog.godebug=none:=by kernel_rfl
theorem gTab:Tryz.prog.globalNamed "internal/strconv.uint64pow10" = some 2:=by kernel_rfl
theorem wW:(Tryz.prog.globals[2]?).map (·.type)=some 224:=by kernel_rfl
theorem xq:Tryz.prog.cellsOf 224=20:=by kernel_rfl
theorem xn:Tryz.prog.cellsOf 115=1:=by kernel_rfl
def wT:List (String × DataW Unit):=[("math/bits.deBruijn32tab",Rows.laid_math_bits_deBruijn32tab),("math/bits.deBruijn64tab",Rows.laid_math_bits_deBruijn64tab),("internal/strconv.uint64pow10",Rows.laid_internal_strconv_uint64pow10),("strconv.ErrRange",Rows.laid_strconv_ErrRange),("strconv.ErrSyntax",Rows.laid_strconv_ErrSyntax)]
theorem z3L {W:World}(h:laidMetH Tryz.prog wT W):Tb W:=by
 rw[MakeChecks.laidMetH_plain _ _ _ (by kernel_rfl)]at h;obtain⟨ps,⟨g0,t0,cs0,f0,p0,q0,hg0,ht0,hv0,hd0,⟨g1,t1,cs1,f1,p1,q1,hg1,ht1,hv1,hd1,⟨g2,t2,cs2,f2,p2,q2,hg2,ht2,hv2,hd2,_,_⟩,_⟩,_⟩,_,_⟩:=h;obtain rfl:=Option.some.inj (gTab.symm.trans hg2);obtain rfl:=Option.some.inj (wW.symm.trans ht2);unfold Tb Lib.TabIs
 rw[hv2];congr 1
 apply Array.ext'
 rw[Lib.cells_of_tab (k:=.u64) (zs:=Lib.pow10Tab) Tryz.underlying224 Tryz.underlying115 xn xq hd2]
theorem z4D (os:Os)(args:Array Value):laidMetH Tryz.prog wT ((World.doorLaid Tryz.prog 4000 os).forCall (fun _ _=>0) ⟨#[],args,[]⟩).memory:=by
 rw[MakeChecks.laidMetH_plain _ _ _ (by kernel_rfl)];exact laidMet_of_run' 8 (by kernel_rfl) (by kernel_rfl)
end Go.Proofs.YthbdjinlcgnebaaGreatDoor
namespace Go.Proofs.YthbdjinlcgnebaaGreatDoor
open Go.ChangeShapes Go.WideShapes Go.ChangeAt Go.WideMaps Go.WideElems Go.RowKit Go.Gb
open Go.ChangeMaps (open_string shut_string)
theorem xS {H:Type}{enc:TypeId × Value→H}{P:Program}{f:Func}{s:ChangeSpec}{apart fresh handsOn again:Bool}{W W':World}{args:Array Value}{v:Value}{ds gs:List (DataW H)}
 (hW:DataW.Whole enc P f.params.toList s.vars apart W args.toList ds gs [])
 (hres:∀ (b:Nat) (sp:Nat→Bool) (hd:Bool),DataW.TrodAll enc P W' b sp hd f.resultTypes.toList (v.resultList f.resultTypes.size) (s.fn H (ds++gs)).results [])
 (hargs:∀ sp:Nat→Bool,DataW.TrodAll enc P W' 0 sp true f.params.toList args.toList (s.fn H (ds++gs)).args [])
 (hvars:∀ sp:Nat→Bool,DataW.TrodVars enc P W' sp s.vars (s.fn H (ds++gs)).vars [])
 (hk:W.keptBut W' (fun _=>False))
 (hok:∀ (j:Nat) (t:TypeId) (r:Value),f.resultTypes[j]? = some t→(v.resultList f.resultTypes.size)[j]? = some r→Value.okWide P W' .any 0 t r) :
 s.post enc P f apart fresh handsOn again W args v W':=by
 refine⟨ds,gs,[],[],[],[],hW,hres _ _ _,hargs _,hvars _,World.keptBut_mono (fun p hp=>hp.elim) hk,fun _=>?_⟩;refine⟨hok,_,_,([]++[])++[],⟨[]++[],[],trodAll_append (hargs _) (hres _ _ _),hvars _,rfl,?_,?_⟩,?_⟩
 · intro b off hp
   simp at hp
 · intro ha
   simp
 · intro p hp _
   simp at hp
