/- A region that draws its order: its first operations lay slots of which relations hold, in any order; its last ones come up one behind the other. No program is mentioned. -/
import Derived.Test.YtklfllmfcckgjaaGreatDoorMz0q
import Derived.Test.YtklfllmfcckgjaaGreatDoorMz2q
namespace Go.Gb
open Go Go.RowKit
section
variable {P:Program} {ops:Array Oper} {Q:Exit→Act→World→Prop}
variable {m:Nat} {sl:Nat→Nat} {R:Nat→Value→World→Prop} {a a0:Act} {W:World→Prop} {listed:Array Bool} {w w':World}
def tailWp (P:Program) (ops:Array Oper) (Q:Exit→Act→World→Prop):Nat→Nat→Act→World→Prop
 | 0,_,a,w=>Q .normal a w
 | t+1,k,a,w=>wpOp P ops Q k (fun a' w'=>tailWp P ops Q t (k+1) a' w') a w
theorem tail_succ {t k:Nat}(h:wpOp P ops Q k (fun a' w'=>tailWp P ops Q t (k+1) a' w') a w):tailWp P ops Q (t+1) k a w:=h
theorem tail_nil {k:Nat}(h:Q .normal a w):tailWp P ops Q 0 k a w:=h
def tailB (ops:Array Oper) (m t:Nat):Bool:=(List.range t).all fun i=>lastB ops (m+i)
theorem tail_all {m t k:Nat}(ht:tailB ops m t=true)(hk:m≤k)(hkt:k<m+t)(hc:Closed .any ops listed)(hr:k∈Region.ready .any ops listed):∀ j,j<k→listed.getD j false=true:=by
 have h1:=List.all_eq_true.1 ht (k-m) (List.mem_range.2 (by omega))
 rw[show m+(k-m)=k by omega]at h1
 intro j hj
 exact last_all h1 hc hr (k-j) j (by omega) (by omega)
theorem wp_region_tail {id:Nat}{a:Act}{w:World}(hm:P.follows .mixedOrders=true)(m t:Nat)(sl:Nat→Nat)(R:Nat→Value→World→Prop)(W:World→Prop)(hs:ops.size=m+t)(hb:backB .any ops=true)(ht:tailB ops m t=true)
 (hstart:W w.drew)
 (hstep:∀ listed a' w i,RInv ops m sl R a W listed a' w→i∈Region.ready .any ops listed→i<m→wpOp P ops Q i (fun a' w'=>RInv ops m sl R a W (listed.setIfInBounds i true) a' w') a' w)
 (hlast:∀ listed a' w,RInv ops m sl R a W listed a' w→(∀ j,j<m→listed.getD j false=true)→tailWp P ops Q t m a' w):(Code.region id ops true).wp P Q a w:=by
 refine wp_region_inv hm (fun listed a' w=>((∀ j,m≤j→listed.getD j false=false)∧RInv ops m sl R a W listed a' w)∨(∃ k,k≤t∧listed.size=ops.size∧Closed .any ops listed∧(∀ j,j<m+k→listed.getD j false=true)∧(∀ j,m+k≤j→listed.getD j false=false)∧tailWp P ops Q (t-k) (m+k) a' w)) (Or.inl ⟨?_,RInv.start hstart⟩) ?_ ?_
 · intro j _
   simp only[Array.getD_eq_getD_getElem?,Array.getElem?_replicate]
   split<;>rfl
 · rintro listed a' w i (⟨h1,h2⟩|⟨k,hk,hsz,hc,h1,h2,h3⟩) hi
   · have hlt:=ready_lt hi
     by_cases him:i<m
     · refine wpOp_mono (fun a2 w2 h=>Or.inl ⟨fun j hj=>?_,h⟩) (hstep listed a' w i h2 hi him)
       rw[getD_set_ne (by omega)];exact h1 j hj
     · have hall:=tail_all ht (by omega) (by omega) h2.closed hi
       have hie:i=m:=by
        rcases Nat.lt_or_ge m i with h|h
        · have:=hall m h;rw[h1 m (Nat.le_refl _)]at this;cases this
        · omega
       subst hie
       obtain⟨t',rfl⟩:∃ t',t=t'+1:=⟨t-1,by omega⟩
       have hz:=h2.size
       refine wpOp_mono (fun a2 w2 h=>Or.inr ⟨1,by omega,by simpa using hz,h2.closed.set hi,fun j hj=>?_,fun j hj=>?_,by simpa using h⟩) (hlast listed a' w h2 hall)
       · by_cases hji:j=i
         · subst hji;exact getD_set_eq (by omega)
         · rw[getD_set_ne hji];exact hall j (by omega)
       · rw[getD_set_ne (by omega)];exact h1 j (by omega)
   · have hlt:=ready_lt hi
     have hun:=ready_un' hi
     have hge:m+k≤i:=by
        rcases Nat.lt_or_ge i (m+k) with h|h
        · rw[h1 i h]at hun;cases hun
        · exact h
     have hall:=tail_all ht (by omega) (by omega) hc hi
     have hie:i=m+k:=by
        rcases Nat.lt_or_ge (m+k) i with h|h
        · have:=hall _ h;rw[h2 _ (Nat.le_refl _)]at this;cases this
        · omega
     subst hie
     obtain⟨t',ht'⟩:∃ t',t-k=t'+1:=⟨t-k-1,by omega⟩
     rw[ht']at h3
     refine wpOp_mono (fun a2 w2 h=>Or.inr ⟨k+1,by omega,by simpa using hsz,hc.set hi,fun j hj=>?_,fun j hj=>?_,by rw[show t-(k+1)=t' by omega];exact h⟩) h3
     · by_cases hji:j=m+k
       · subst hji;exact getD_set_eq (by omega)
       · rw[getD_set_ne hji];exact hall j (by omega)
     · rw[getD_set_ne (by omega)];exact h2 j (by omega)
 · rintro listed a' w (⟨h1,h2⟩|⟨k,hk,hsz,hc,h1,h2,h3⟩) hr
   · have hall:=all_listed h2.size hb hr
     have ht0:t=0:=by
        rcases Nat.eq_zero_or_pos t with h|h
        · exact h
        · have:=hall m (by omega);rw[h1 m (Nat.le_refl _)]at this;cases this
     subst ht0
     exact hlast listed a' w h2 (fun j hj=>hall j (by omega))
   · have hall:=all_listed hsz hb hr
     have hkt:k=t:=by
        rcases Nat.lt_or_ge k t with h|h
        · have:=hall (m+k) (by omega);rw[h2 _ (Nat.le_refl _)]at this;cases this
        · omega
     subst hkt
     rw[Nat.sub_self]at h3
     exact h3
end
section
variable {P:Program} {ops:Array Oper} {Q:Exit→Act→World→Prop}
variable {m:Nat} {sl:Nat→Nat} {R:Nat→Value→World→Prop} {a a0:Act} {W:World→Prop} {listed:Array Bool} {w w':World}
theorem put_same {a:Act}{d:Nat}{v:Value}(h:d<a.tmps.size):(a.put (some d) v).tmps[d]? = some v:=by
 show(a.tmps.setIfInBounds d v)[d]? = some v
 rw[Array.getElem?_setIfInBounds_self_of_lt h]
theorem put_ne {a:Act}{d e:Nat}{v:Value}(h:d≠e):(a.put (some d) v).tmps[e]? = a.tmps[e]? := by
 show(a.tmps.setIfInBounds d v)[e]? = a.tmps[e]?
 rw[Array.getElem?_setIfInBounds_ne h]
theorem RInv.fin_put {sd:Nat}{v:Value}(h:RInv ops m sl R a0 W listed a w)(L:List (Nat × Value))(h1:∀ p,p∈L→(a.put (some sd) v).tmps[p.1]? = some p.2)(h2:∀ e,(∀ p,p∈L→p.1≠e)→(∀ i,i<m→sl i≠e)∧sd≠e):a.put (some sd) v=⟨putL L a0.tmps,a0.defers⟩:=by
 have hsz:(a.put (some sd) v).tmps.size=a0.tmps.size:=by
  show(a.tmps.setIfInBounds sd v).size=_
  rw[Array.size_setIfInBounds,h.tsize]
 have ht:=putL_eq L a0.tmps (a.put (some sd) v).tmps hsz h1 (fun e he=>by
  rw[put_ne (h2 e he).2]
  exact h.rest e (h2 e he).1)
 have hd:(a.put (some sd) v).defers=a0.defers:=h.defers
 have e:a.put (some sd) v=⟨(a.put (some sd) v).tmps,(a.put (some sd) v).defers⟩:=rfl
 rw[e,ht,hd]
theorem wp_region_tail_d {id:Nat}{a:Act}{w:World}(hm:P.follows .mixedOrders=true)(m t:Nat)(sl:Nat→Nat)(R:Nat→Value→World→Prop)(W:World→Prop)(D:Array Bool→Act→Prop)(hs:ops.size=m+t)(hb:backB .any ops=true)(ht:tailB ops m t=true)
 (hD:D (Array.replicate ops.size false) a) (hstart:W w.drew)
 (hstep:∀ listed a' w k,RInv ops m sl R a W listed a' w→D listed a'→k∈Region.ready .any ops listed→k<m→wpOp P ops Q k (fun a' w'=>RInv ops m sl R a W (listed.setIfInBounds k true) a' w'∧D (listed.setIfInBounds k true) a') a' w)
 (hlast:∀ listed a' w,RInv ops m sl R a W listed a' w→D listed a'→(∀ j,j<m→listed.getD j false=true)→tailWp P ops Q t m a' w):(Code.region id ops true).wp P Q a w:=by
 refine wp_region_inv hm (fun listed a' w=>((∀ j,m≤j→listed.getD j false=false)∧RInv ops m sl R a W listed a' w∧D listed a')∨(∃ k,k≤t∧listed.size=ops.size∧Closed .any ops listed∧(∀ j,j<m+k→listed.getD j false=true)∧(∀ j,m+k≤j→listed.getD j false=false)∧tailWp P ops Q (t-k) (m+k) a' w)) (Or.inl ⟨?_,RInv.start hstart,hD⟩) ?_ ?_
 · intro j _
   simp only[Array.getD_eq_getD_getElem?,Array.getElem?_replicate]
   split<;>rfl
 · rintro listed a' w i (⟨h1,h2,h0⟩|⟨k,hk,hsz,hc,h1,h2,h3⟩) hi
   · have hlt:=ready_lt hi
     by_cases him:i<m
     · refine wpOp_mono (fun a2 w2 h=>Or.inl ⟨fun j hj=>?_,h⟩) (hstep listed a' w i h2 h0 hi him)
       rw[getD_set_ne (by omega)];exact h1 j hj
     · have hall:=tail_all ht (by omega) (by omega) h2.closed hi
       have hie:i=m:=by
        rcases Nat.lt_or_ge m i with h|h
        · have:=hall m h;rw[h1 m (Nat.le_refl _)]at this;cases this
        · omega
       subst hie
       obtain⟨t',rfl⟩:∃ t',t=t'+1:=⟨t-1,by omega⟩
       have hz:=h2.size
       refine wpOp_mono (fun a2 w2 h=>Or.inr ⟨1,by omega,by simpa using hz,h2.closed.set hi,fun j hj=>?_,fun j hj=>?_,by simpa using h⟩) (hlast listed a' w h2 h0 hall)
       · by_cases hji:j=i
         · subst hji;exact getD_set_eq (by omega)
         · rw[getD_set_ne hji];exact hall j (by omega)
       · rw[getD_set_ne (by omega)];exact h1 j (by omega)
   · have hlt:=ready_lt hi
     have hun:=ready_un' hi
     have hge:m+k≤i:=by
        rcases Nat.lt_or_ge i (m+k) with h|h
        · rw[h1 i h]at hun;cases hun
        · exact h
     have hall:=tail_all ht (by omega) (by omega) hc hi
     have hie:i=m+k:=by
        rcases Nat.lt_or_ge (m+k) i with h|h
        · have:=hall _ h;rw[h2 _ (Nat.le_refl _)]at this;cases this
        · omega
     subst hie
     obtain⟨t',ht'⟩:∃ t',t-k=t'+1:=⟨t-k-1,by omega⟩
     rw[ht']at h3
     refine wpOp_mono (fun a2 w2 h=>Or.inr ⟨k+1,by omega,by simpa using hsz,hc.set hi,fun j hj=>?_,fun j hj=>?_,by rw[show t-(k+1)=t' by omega];exact h⟩) h3
     · by_cases hji:j=m+k
       · subst hji;exact getD_set_eq (by omega)
       · rw[getD_set_ne hji];exact hall j (by omega)
     · rw[getD_set_ne (by omega)];exact h2 j (by omega)
 · rintro listed a' w (⟨h1,h2,h0⟩|⟨k,hk,hsz,hc,h1,h2,h3⟩) hr
   · have hall:=all_listed h2.size hb hr
     have ht0:t=0:=by
        rcases Nat.eq_zero_or_pos t with h|h
        · exact h
        · have:=hall m (by omega);rw[h1 m (Nat.le_refl _)]at this;cases this
     subst ht0
     exact hlast listed a' w h2 h0 (fun j hj=>hall j (by omega))
   · have hall:=all_listed hsz hb hr
     have hkt:k=t:=by
        rcases Nat.lt_or_ge k t with h|h
        · have:=hall (m+k) (by omega);rw[h2 _ (Nat.le_refl _)]at this;cases this
        · omega
     subst hkt
     rw[Nat.sub_self]at h3
     exact h3
def butB (ops:Array Oper) (m d:Nat):Bool:=(List.range m).all fun j=>j==d || (List.range (m+1)).any fun k=>decide (j<k)&&(k != d)&&Region.waitsFor .any ops k j
theorem but_all {m d:Nat}(hl:butB ops m d=true)(hdm:d<m)(hc:Closed .any ops listed)(hr:m∈Region.ready .any ops listed):∀ n j,n+j=m→0<n→j≠d→listed.getD j false=true:=by
 intro n
 induction n using Nat.strongRecOn with
 | _ n ih =>
   intro j hj hn hjd
   have h1:=List.all_eq_true.1 hl j (List.mem_range.2 (by omega))
   rw[Bool.or_eq_true]at h1
   rcases h1 with h1|h1
   · exact absurd (by simpa using h1) hjd
   · obtain⟨k,hk,h2⟩:=List.any_eq_true.1 h1
     have hk:=List.mem_range.1 hk
     rw[Bool.and_eq_true,Bool.and_eq_true,decide_eq_true_iff]at h2
     have hkd:k≠d:=by simpa using h2.1.2
     by_cases hkm:k=m
     · subst hkm;exact ready_waits hr h2.2
     · exact hc k j (ih (m-k) (by omega) k (by omega) (by omega) hkd) h2.2
theorem wp_region_swap {id:Nat}{a:Act}{w:World}(hm:P.follows .mixedOrders=true)(m t d:Nat)(sl:Nat→Nat)(R:Nat→Value→World→Prop)(W:World→Prop)(D:Array Bool→Act→Prop)(hdm:d<m)(ht0:0<t)(hs:ops.size=m+(t+1))(hb:backB .any ops=true)(hbut:butB ops m d=true)(hlb:tailB ops (m+1) t=true)
 (hD:D (Array.replicate ops.size false) a) (hstart:W w.drew)
 (hstep:∀ listed a' w k,RInv ops m sl R a W listed a' w→D listed a'→k∈Region.ready .any ops listed→k<m→wpOp P ops Q k (fun a' w'=>RInv ops m sl R a W (listed.setIfInBounds k true) a' w'∧D (listed.setIfInBounds k true) a') a' w)
 (hlast:∀ listed a' w,RInv ops m sl R a W listed a' w→D listed a'→(∀ j,j<m→listed.getD j false=true)→tailWp P ops Q (t+1) m a' w)
 (hswap:∀ listed a' w,RInv ops m sl R a W listed a' w→D listed a'→(∀ j,j<m→j≠d→listed.getD j false=true)→wpOp P ops Q m (fun a' w'=>wpOp P ops Q d (fun a' w'=>tailWp P ops Q t (m+1) a' w') a' w') a' w):(Code.region id ops true).wp P Q a w:=by
 refine wp_region_inv hm (fun listed a' w=>listed.size=ops.size∧Closed .any ops listed∧(
  ((∀ j,m≤j→listed.getD j false=false)∧RInv ops m sl R a W listed a' w∧D listed a') ∨
  ((∀ j,j<m→j≠d→listed.getD j false=true)∧listed.getD m false=true∧listed.getD d false=false∧(∀ j,m+1≤j→listed.getD j false=false)∧wpOp P ops Q d (fun a' w'=>tailWp P ops Q t (m+1) a' w') a' w) ∨
  (∃ k,k≤t∧(∀ j,j<m+1+k→listed.getD j false=true)∧(∀ j,m+1+k≤j→listed.getD j false=false)∧tailWp P ops Q (t-k) (m+1+k) a' w))) ⟨by simp,closed_none _,Or.inl ⟨?_,RInv.start hstart,hD⟩⟩ ?_ ?_
 · intro j _
   simp only[Array.getD_eq_getD_getElem?,Array.getElem?_replicate]
   split<;>rfl
 · rintro listed a' w i ⟨hsz,hc,h⟩ hi
   have hlt:=ready_lt hi
   have hun:=ready_un' hi
   have hsz':(listed.setIfInBounds i true).size=ops.size:=by simpa using hsz
   have hc':=hc.set hi
   have last:m+1≤i→∀ j,j<i→listed.getD j false=true:=fun e=>tail_all hlb e (by omega) hc hi
   rcases h with⟨h1,h2,h0⟩|⟨h1,h2,h3,h4,h5⟩|⟨k,hk,h1,h2,h3⟩
   · by_cases him:i<m
     · refine wpOp_mono (fun a2 w2 h=>⟨hsz',hc',Or.inl ⟨fun j hj=>?_,h⟩⟩) (hstep listed a' w i h2 h0 hi him)
       rw[getD_set_ne (by omega)];exact h1 j hj
     · have hie:i=m:=by
        rcases Nat.lt_or_ge m i with h|h
        · have:=last (by omega) m (by omega);rw[h1 m (Nat.le_refl _)]at this;cases this
        · omega
       subst hie
       have hall:∀ j,j<i→j≠d→listed.getD j false=true:=fun j hj hjd=>but_all hbut hdm hc hi (i-j) j (by omega) (by omega) hjd
       by_cases hd:listed.getD d false=true
       · refine wpOp_mono (fun a2 w2 h=>⟨hsz',hc',Or.inr (Or.inr ⟨0,by omega,fun j hj=>?_,fun j hj=>?_,by simpa using h⟩)⟩) (hlast listed a' w h2 h0 (fun j hj=>by
          by_cases hjd:j=d
          · subst hjd;exact hd
          · exact hall j hj hjd))
         · by_cases hji:j=i
           · subst hji;exact getD_set_eq (by omega)
           · rw[getD_set_ne hji]
             by_cases hjd:j=d
             · subst hjd;exact hd
             · exact hall j (by omega) hjd
         · rw[getD_set_ne (by omega)];exact h1 _ (by omega)
       · refine wpOp_mono (fun a2 w2 h=>⟨hsz',hc',Or.inr (Or.inl ⟨fun j hj hjd=>?_,getD_set_eq (by omega),?_,fun j hj=>?_,h⟩)⟩) (hswap listed a' w h2 h0 hall)
         · rw[getD_set_ne (by omega)];exact hall j hj hjd
         · rw[getD_set_ne (by omega)];simpa using hd
         · rw[getD_set_ne (by omega)];exact h1 _ (by omega)
   · have hie:i=d:=by
        by_cases e:m+1≤i
        · have:=last e d (by omega);rw[h3]at this;cases this
        · by_cases e2:i=m
          · subst e2;rw[h2]at hun;cases hun
          · by_cases e3:i=d
            · exact e3
            · rw[h1 i (by omega) e3]at hun;cases hun
     subst hie
     refine wpOp_mono (fun a2 w2 h=>⟨hsz',hc',Or.inr (Or.inr ⟨0,by omega,fun j hj=>?_,fun j hj=>?_,by simpa using h⟩)⟩) h5
     · by_cases hji:j=i
       · subst hji;exact getD_set_eq (by omega)
       · rw[getD_set_ne hji]
         by_cases hjm:j=m
         · subst hjm;exact h2
         · exact h1 j (by omega) hji
     · rw[getD_set_ne (by omega)];exact h4 j (by omega)
   · have hge:m+1+k≤i:=by
        rcases Nat.lt_or_ge i (m+1+k) with h|h
        · rw[h1 i h]at hun;cases hun
        · exact h
     have hie:i=m+1+k:=by
        rcases Nat.lt_or_ge (m+1+k) i with h|h
        · have:=last (by omega) _ h;rw[h2 _ (Nat.le_refl _)]at this;cases this
        · omega
     subst hie
     obtain⟨t',ht'⟩:∃ t',t-k=t'+1:=⟨t-k-1,by omega⟩
     rw[ht']at h3
     refine wpOp_mono (fun a2 w2 h=>⟨hsz',hc',Or.inr (Or.inr ⟨k+1,by omega,fun j hj=>?_,fun j hj=>?_,by rw[show t-(k+1)=t' by omega];exact h⟩)⟩) h3
     · by_cases hji:j=m+1+k
       · subst hji;exact getD_set_eq (by omega)
       · rw[getD_set_ne hji];exact h1 j (by omega)
     · rw[getD_set_ne (by omega)];exact h2 j (by omega)
 · rintro listed a' w ⟨hsz,hc,h⟩ hr
   have hall:=all_listed hsz hb hr
   rcases h with⟨h1,h2,h0⟩|⟨h1,h2,h3,h4,h5⟩|⟨k,hk,h1,h2,h3⟩
   · have:=hall m (by omega);rw[h1 m (Nat.le_refl _)]at this;cases this
   · have:=hall d (by omega);rw[h3]at this;cases this
   · have hkt:k=t:=by
        rcases Nat.lt_or_ge k t with h|h
        · have:=hall (m+1+k) (by omega);rw[h2 _ (Nat.le_refl _)]at this;cases this
        · omega
     subst hkt
     rw[Nat.sub_self]at h3
     exact h3
theorem wp_region_post {id:Nat}{ops:Array Oper}{b:Bool}{Q:Exit→Act→World→Prop}{a:Act}{w:World}(F:Act→Act→World→Prop)(h1:(Code.region id ops b).wp P (fun e a' w'=>e=.normal∧F a a' w') a w)(h2:∀ a' w',F a a' w'→Q .normal a' w'):(Code.region id ops b).wp P Q a w :=
 Code.wp_mono (fun e a' w' ⟨he,h⟩=>by subst he;exact h2 a' w' h) h1
end
structure Rel where
 R:Value→World→Prop
 mono:∀ v W W',R v W→Below W.heap.size W W'→R v W'
def Rel.val (u:Value):Rel:=⟨fun v _=>v=u,fun _ _ _ h _=>h⟩
def Rel.ptr (b:Nat) (o:Obj):Rel:=⟨fun v W=>∃ g,v=.pointer (some ⟨g,0,none⟩)∧b≤g∧W.heap[g]? = some o,fun _ W W' ⟨g,e,h,k⟩ hb=>⟨g,e,h,by rw[hb.block g (Array.getElem?_eq_some_iff.1 k).1];exact k⟩⟩
def RelR (L:List Rel) (i:Nat) (v:Value) (W:World):Prop:=(L.getD i (Rel.val undef)).R v W
theorem RelR.mono {L:List Rel}{W W':World}(hb:Below W.heap.size W W')(i:Nat)(v:Value)(h:RelR L i v W):RelR L i v W':=(L.getD i (Rel.val undef)).mono v W W' h hb
end Go.Gb
