/- texts -/
import Derived.Test.YtiiedknabcebdaaGreatDoorMz4q
namespace Go.Gb
open Go Go.RowKit
section
variable {P:Program} {ops:Array Oper} {Q:Exit→Act→World→Prop}
variable {m:Nat} {sl:Nat→Nat} {R:Nat→Value→World→Prop} {a a0:Act} {W:World→Prop} {u6:Array Bool} {w w':World}
def iH (P:Program) (ops:Array Oper) (Q:Exit→Act→World→Prop):Nat→Nat→Act→World→Prop
 | 0,_,a,w=>Q .normal a w
 | t+1,k,a,w=>wpOp P ops Q k (fun a' w'=>iH P ops Q t (k+1) a' w') a w
theorem aP {t k:Nat}(h:wpOp P ops Q k (fun a' w'=>iH P ops Q t (k+1) a' w') a w):iH P ops Q (t+1) k a w:=h
theorem aT {k:Nat}(h:Q .normal a w):iH P ops Q 0 k a w:=h
def yP (ops:Array Oper) (m t:Nat):Bool:=(List.range t).all fun i=>lastB ops (m+i)
theorem ko {m t k:Nat}(ht:yP ops m t=true)(hk:m≤k)(hkt:k<m+t)(hc:Closed .any ops u6)(hr:k∈Region.ready .any ops u6):∀ j,j<k→u6.getD j false=true:=by
 have h1:=List.all_eq_true.1 ht (k-m) (List.mem_range.2 (by omega));rw[show m+(k-m)=k by omega]at h1;intro j hj;exact z1x h1 hc hr (k-j) j (by omega) (by omega)
theorem z0D {id:Nat}{a:Act}{w:World}(hm:P.follows .mixedOrders=true)(m t:Nat)(sl:Nat→Nat)(R:Nat→Value→World→Prop)(W:World→Prop)(hs:ops.size=m+t)(hb:yg .any ops=true)(ht:yP ops m t=true)
 (hstart:W w.drew)
 (hstep:∀ u6 a' w i,RInv ops m sl R a W u6 a' w→i∈Region.ready .any ops u6→i<m→wpOp P ops Q i (fun a' w'=>RInv ops m sl R a W (u6.setIfInBounds i true) a' w') a' w)
 (hlast:∀ u6 a' w,RInv ops m sl R a W u6 a' w→(∀ j,j<m→u6.getD j false=true)→iH P ops Q t m a' w):(Code.region id ops true).wp P Q a w:=by
 refine iX hm (fun u6 a' w=>((∀ j,m≤j→u6.getD j false=false)∧RInv ops m sl R a W u6 a' w)∨(∃ k,k≤t∧u6.size=ops.size∧Closed .any ops u6∧(∀ j,j<m+k→u6.getD j false=true)∧(∀ j,m+k≤j→u6.getD j false=false)∧iH P ops Q (t-k) (m+k) a' w)) (Or.inl ⟨?_,RInv.start hstart⟩) ?_ ?_
 · intro j _
   simp only[Array.getD_eq_getD_getElem?,Array.getElem?_replicate];split<;>rfl
 · rintro u6 a' w i (⟨h1,h2⟩|⟨k,hk,hsz,hc,h1,h2,h3⟩) hi
   · have hlt:=ib hi
     by_cases him:i<m
     · refine wpOp_mono (fun a2 w2 h=>Or.inl ⟨fun j hj=>?_,h⟩) (hstep u6 a' w i h2 hi him)
       rw[getD_set_ne (by omega)];exact h1 j hj
     · have w9:=ko ht (by omega) (by omega) h2.closed hi
       have hie:i=m:=by
        rcases Nat.lt_or_ge m i with h|h
        · have:=w9 m h;rw[h1 m (Nat.le_refl _)]at this;cases this
        · omega
       subst hie;obtain⟨t',rfl⟩:∃ t',t=t'+1:=⟨t-1,by omega⟩;have hz:=h2.size;refine wpOp_mono (fun a2 w2 h=>Or.inr ⟨1,by omega,by simpa using hz,h2.closed.set hi,fun j hj=>?_,fun j hj=>?_,by simpa using h⟩) (hlast u6 a' w h2 w9)
       · by_cases hji:j=i
         · subst hji;exact dV (by omega)
         · rw[getD_set_ne hji];exact w9 j (by omega)
       · rw[getD_set_ne (by omega)];exact h1 j (by omega)
   · have hlt:=ib hi
     have hun:=mY hi
     have hge:m+k≤i:=by
        rcases Nat.lt_or_ge i (m+k) with h|h
        · rw[h1 i h]at hun;cases hun
        · exact h
     have w9:=ko ht (by omega) (by omega) hc hi
     have hie:i=m+k:=by
        rcases Nat.lt_or_ge (m+k) i with h|h
        · have:=w9 _ h;rw[h2 _ (Nat.le_refl _)]at this;cases this
        · omega
     subst hie;obtain⟨t',ht'⟩:∃ t',t-k=t'+1:=⟨t-k-1,by omega⟩;rw[ht']at h3;refine wpOp_mono (fun a2 w2 h=>Or.inr ⟨k+1,by omega,by simpa using hsz,hc.set hi,fun j hj=>?_,fun j hj=>?_,by rw[show t-(k+1)=t' by omega];exact h⟩) h3
     · by_cases hji:j=m+k
       · subst hji;exact dV (by omega)
       · rw[getD_set_ne hji];exact w9 j (by omega)
     · rw[getD_set_ne (by omega)];exact h2 j (by omega)
 · rintro u6 a' w (⟨h1,h2⟩|⟨k,hk,hsz,hc,h1,h2,h3⟩) hr
   · have w9:=iU h2.size hb hr
     have ht0:t=0:=by
        rcases Nat.eq_zero_or_pos t with h|h
        · exact h
        · have:=w9 m (by omega);rw[h1 m (Nat.le_refl _)]at this;cases this
     subst ht0;exact hlast u6 a' w h2 (fun j hj=>w9 j (by omega))
   · have w9:=iU hsz hb hr
     have hkt:k=t:=by
        rcases Nat.lt_or_ge k t with h|h
        · have:=w9 (m+k) (by omega);rw[h2 _ (Nat.le_refl _)]at this;cases this
        · omega
     subst hkt;rw[Nat.sub_self]at h3;exact h3
end
section
variable {P:Program} {ops:Array Oper} {Q:Exit→Act→World→Prop}
variable {m:Nat} {sl:Nat→Nat} {R:Nat→Value→World→Prop} {a a0:Act} {W:World→Prop} {u6:Array Bool} {w w':World}
theorem ik {a:Act}{d:Nat}{v:Value}(h:d<a.tmps.size):(a.put (some d) v).tmps[d]? = some v:=by
 show(a.tmps.setIfInBounds d v)[d]? = some v
 rw[Array.getElem?_setIfInBounds_self_of_lt h]
theorem dm {a:Act}{d e:Nat}{v:Value}(h:d≠e):(a.put (some d) v).tmps[e]? = a.tmps[e]? := by
 show(a.tmps.setIfInBounds d v)[e]? = a.tmps[e]?
 rw[Array.getElem?_setIfInBounds_ne h]
theorem RInv.fin_put {sd:Nat}{v:Value}(h:RInv ops m sl R a0 W u6 a w)(L:List (Nat × Value))(h1:∀ p,p∈L→(a.put (some sd) v).tmps[p.1]? = some p.2)(h2:∀ e,(∀ p,p∈L→p.1≠e)→(∀ i,i<m→sl i≠e)∧sd≠e):a.put (some sd) v=⟨aZ L a0.tmps,a0.defers⟩:=by
 have hsz:(a.put (some sd) v).tmps.size=a0.tmps.size:=by
  show(a.tmps.setIfInBounds sd v).size=_
  rw[Array.size_setIfInBounds,h.tsize]
 have ht:=uq L a0.tmps (a.put (some sd) v).tmps hsz h1 (fun e he=>by
  rw[dm (h2 e he).2]
  exact h.rest e (h2 e he).1)
 have hd:(a.put (some sd) v).defers=a0.defers:=h.defers;have e:a.put (some sd) v=⟨(a.put (some sd) v).tmps,(a.put (some sd) v).defers⟩:=rfl;rw[e,ht,hd]
theorem eH {id:Nat}{a:Act}{w:World}(hm:P.follows .mixedOrders=true)(m t:Nat)(sl:Nat→Nat)(R:Nat→Value→World→Prop)(W:World→Prop)(D:Array Bool→Act→Prop)(hs:ops.size=m+t)(hb:yg .any ops=true)(ht:yP ops m t=true)
 (hD:D (Array.replicate ops.size false) a) (hstart:W w.drew)
 (hstep:∀ u6 a' w k,RInv ops m sl R a W u6 a' w→D u6 a'→k∈Region.ready .any ops u6→k<m→wpOp P ops Q k (fun a' w'=>RInv ops m sl R a W (u6.setIfInBounds k true) a' w'∧D (u6.setIfInBounds k true) a') a' w)
 (hlast:∀ u6 a' w,RInv ops m sl R a W u6 a' w→D u6 a'→(∀ j,j<m→u6.getD j false=true)→iH P ops Q t m a' w):(Code.region id ops true).wp P Q a w:=by
 refine iX hm (fun u6 a' w=>((∀ j,m≤j→u6.getD j false=false)∧RInv ops m sl R a W u6 a' w∧D u6 a')∨(∃ k,k≤t∧u6.size=ops.size∧Closed .any ops u6∧(∀ j,j<m+k→u6.getD j false=true)∧(∀ j,m+k≤j→u6.getD j false=false)∧iH P ops Q (t-k) (m+k) a' w)) (Or.inl ⟨?_,RInv.start hstart,hD⟩) ?_ ?_
 · intro j _
   simp only[Array.getD_eq_getD_getElem?,Array.getElem?_replicate];split<;>rfl
 · rintro u6 a' w i (⟨h1,h2,h0⟩|⟨k,hk,hsz,hc,h1,h2,h3⟩) hi
   · have hlt:=ib hi
     by_cases him:i<m
     · refine wpOp_mono (fun a2 w2 h=>Or.inl ⟨fun j hj=>?_,h⟩) (hstep u6 a' w i h2 h0 hi him)
       rw[getD_set_ne (by omega)];exact h1 j hj
     · have w9:=ko ht (by omega) (by omega) h2.closed hi
       have hie:i=m:=by
        rcases Nat.lt_or_ge m i with h|h
        · have:=w9 m h;rw[h1 m (Nat.le_refl _)]at this;cases this
        · omega
       subst hie;obtain⟨t',rfl⟩:∃ t',t=t'+1:=⟨t-1,by omega⟩;have hz:=h2.size;refine wpOp_mono (fun a2 w2 h=>Or.inr ⟨1,by omega,by simpa using hz,h2.closed.set hi,fun j hj=>?_,fun j hj=>?_,by simpa using h⟩) (hlast u6 a' w h2 h0 w9)
       · by_cases hji:j=i
         · subst hji;exact dV (by omega)
         · rw[getD_set_ne hji];exact w9 j (by omega)
       · rw[getD_set_ne (by omega)];exact h1 j (by omega)
   · have hlt:=ib hi
     have hun:=mY hi
     have hge:m+k≤i:=by
        rcases Nat.lt_or_ge i (m+k) with h|h
        · rw[h1 i h]at hun;cases hun
        · exact h
     have w9:=ko ht (by omega) (by omega) hc hi
     have hie:i=m+k:=by
        rcases Nat.lt_or_ge (m+k) i with h|h
        · have:=w9 _ h;rw[h2 _ (Nat.le_refl _)]at this;cases this
        · omega
     subst hie;obtain⟨t',ht'⟩:∃ t',t-k=t'+1:=⟨t-k-1,by omega⟩;rw[ht']at h3;refine wpOp_mono (fun a2 w2 h=>Or.inr ⟨k+1,by omega,by simpa using hsz,hc.set hi,fun j hj=>?_,fun j hj=>?_,by rw[show t-(k+1)=t' by omega];exact h⟩) h3
     · by_cases hji:j=m+k
       · subst hji;exact dV (by omega)
       · rw[getD_set_ne hji];exact w9 j (by omega)
     · rw[getD_set_ne (by omega)];exact h2 j (by omega)
 · rintro u6 a' w (⟨h1,h2,h0⟩|⟨k,hk,hsz,hc,h1,h2,h3⟩) hr
   · have w9:=iU h2.size hb hr
     have ht0:t=0:=by
        rcases Nat.eq_zero_or_pos t with h|h
        · exact h
        · have:=w9 m (by omega);rw[h1 m (Nat.le_refl _)]at this;cases this
     subst ht0;exact hlast u6 a' w h2 h0 (fun j hj=>w9 j (by omega))
   · have w9:=iU hsz hb hr
     have hkt:k=t:=by
        rcases Nat.lt_or_ge k t with h|h
        · have:=w9 (m+k) (by omega);rw[h2 _ (Nat.le_refl _)]at this;cases this
        · omega
     subst hkt;rw[Nat.sub_self]at h3;exact h3
def butB (ops:Array Oper) (m d:Nat):Bool:=(List.range m).all fun j=>j==d || (List.range (m+1)).any fun k=>decide (j<k)&&(k != d)&&Region.waitsFor .any ops k j
theorem z3r {m d:Nat}(hl:butB ops m d=true)(hdm:d<m)(hc:Closed .any ops u6)(hr:m∈Region.ready .any ops u6):∀ n j,n+j=m→0<n→j≠d→u6.getD j false=true:=by
 intro n
 induction n using Nat.strongRecOn with
 | _ n ih =>
   intro j hj hn hjd;have h1:=List.all_eq_true.1 hl j (List.mem_range.2 (by omega));rw[Bool.or_eq_true]at h1;rcases h1 with h1|h1
   · exact absurd (by simpa using h1) hjd
   · obtain⟨k,hk,h2⟩:=List.any_eq_true.1 h1
     have hk:=List.mem_range.1 hk;rw[Bool.and_eq_true,Bool.and_eq_true,decide_eq_true_iff]at h2;have hkd:k≠d:=by simpa using h2.1.2
     by_cases hkm:k=m
     · subst hkm;exact j5 hr h2.2
     · exact hc k j (ih (m-k) (by omega) k (by omega) (by omega) hkd) h2.2
theorem fG {id:Nat}{a:Act}{w:World}(hm:P.follows .mixedOrders=true)(m t d:Nat)(sl:Nat→Nat)(R:Nat→Value→World→Prop)(W:World→Prop)(D:Array Bool→Act→Prop)(hdm:d<m)(ht0:0<t)(hs:ops.size=m+(t+1))(hb:yg .any ops=true)(hbut:butB ops m d=true)(hlb:yP ops (m+1) t=true)
 (hD:D (Array.replicate ops.size false) a) (hstart:W w.drew)
 (hstep:∀ u6 a' w k,RInv ops m sl R a W u6 a' w→D u6 a'→k∈Region.ready .any ops u6→k<m→wpOp P ops Q k (fun a' w'=>RInv ops m sl R a W (u6.setIfInBounds k true) a' w'∧D (u6.setIfInBounds k true) a') a' w)
 (hlast:∀ u6 a' w,RInv ops m sl R a W u6 a' w→D u6 a'→(∀ j,j<m→u6.getD j false=true)→iH P ops Q (t+1) m a' w)
 (hswap:∀ u6 a' w,RInv ops m sl R a W u6 a' w→D u6 a'→(∀ j,j<m→j≠d→u6.getD j false=true)→wpOp P ops Q m (fun a' w'=>wpOp P ops Q d (fun a' w'=>iH P ops Q t (m+1) a' w') a' w') a' w):(Code.region id ops true).wp P Q a w:=by
 refine iX hm (fun u6 a' w=>u6.size=ops.size∧Closed .any ops u6∧(
  ((∀ j,m≤j→u6.getD j false=false)∧RInv ops m sl R a W u6 a' w∧D u6 a') ∨
  ((∀ j,j<m→j≠d→u6.getD j false=true)∧u6.getD m false=true∧u6.getD d false=false∧(∀ j,m+1≤j→u6.getD j false=false)∧wpOp P ops Q d (fun a' w'=>iH P ops Q t (m+1) a' w') a' w) ∨
  (∃ k,k≤t∧(∀ j,j<m+1+k→u6.getD j false=true)∧(∀ j,m+1+k≤j→u6.getD j false=false)∧iH P ops Q (t-k) (m+1+k) a' w))) ⟨by simp,nO _,Or.inl ⟨?_,RInv.start hstart,hD⟩⟩ ?_ ?_
 · intro j _
   simp only[Array.getD_eq_getD_getElem?,Array.getElem?_replicate];split<;>rfl
 · rintro u6 a' w i ⟨hsz,hc,h⟩ hi
   have hlt:=ib hi;have hun:=mY hi;have hsz':(u6.setIfInBounds i true).size=ops.size:=by simpa using hsz
   have hc':=hc.set hi;have last:m+1≤i→∀ j,j<i→u6.getD j false=true:=fun e=>ko hlb e (by omega) hc hi;rcases h with⟨h1,h2,h0⟩|⟨h1,h2,h3,h4,h5⟩|⟨k,hk,h1,h2,h3⟩
   · by_cases him:i<m
     · refine wpOp_mono (fun a2 w2 h=>⟨hsz',hc',Or.inl ⟨fun j hj=>?_,h⟩⟩) (hstep u6 a' w i h2 h0 hi him)
       rw[getD_set_ne (by omega)];exact h1 j hj
     · have hie:i=m:=by
        rcases Nat.lt_or_ge m i with h|h
        · have:=last (by omega) m (by omega);rw[h1 m (Nat.le_refl _)]at this;cases this
        · omega
       subst hie;have w9:∀ j,j<i→j≠d→u6.getD j false=true:=fun j hj hjd=>z3r hbut hdm hc hi (i-j) j (by omega) (by omega) hjd;by_cases hd:u6.getD d false=true
       · refine wpOp_mono (fun a2 w2 h=>⟨hsz',hc',Or.inr (Or.inr ⟨0,by omega,fun j hj=>?_,fun j hj=>?_,by simpa using h⟩)⟩) (hlast u6 a' w h2 h0 (fun j hj=>by
          by_cases hjd:j=d
          · subst hjd;exact hd
          · exact w9 j hj hjd))
         · by_cases hji:j=i
           · subst hji;exact dV (by omega)
           · rw[getD_set_ne hji]
             by_cases hjd:j=d
             · subst hjd;exact hd
             · exact w9 j (by omega) hjd
         · rw[getD_set_ne (by omega)];exact h1 _ (by omega)
       · refine wpOp_mono (fun a2 w2 h=>⟨hsz',hc',Or.inr (Or.inl ⟨fun j hj hjd=>?_,dV (by omega),?_,fun j hj=>?_,h⟩)⟩) (hswap u6 a' w h2 h0 w9)
         · rw[getD_set_ne (by omega)];exact w9 j hj hjd
         · rw[getD_set_ne (by omega)];simpa using hd
         · rw[getD_set_ne (by omega)];exact h1 _ (by omega)
   · have hie:i=d:=by
        by_cases e:m+1≤i
        · have:=last e d (by omega);rw[h3]at this;cases this
        · by_cases e2:i=m
          · subst e2;rw[h2]at hun;cases hun
          · by_cases e3:i=d
            · exact e3
            · rw[h1 i (by omega) e3]at hun;cases hun
     subst hie;refine wpOp_mono (fun a2 w2 h=>⟨hsz',hc',Or.inr (Or.inr ⟨0,by omega,fun j hj=>?_,fun j hj=>?_,by simpa using h⟩)⟩) h5
     · by_cases hji:j=i
       · subst hji;exact dV (by omega)
       · rw[getD_set_ne hji]
         by_cases hjm:j=m
         · subst hjm;exact h2
         · exact h1 j (by omega) hji
     · rw[getD_set_ne (by omega)];exact h4 j (by omega)
   · have hge:m+1+k≤i:=by
        rcases Nat.lt_or_ge i (m+1+k) with h|h
        · rw[h1 i h]at hun;cases hun
        · exact h
     have hie:i=m+1+k:=by
        rcases Nat.lt_or_ge (m+1+k) i with h|h
        · have:=last (by omega) _ h;rw[h2 _ (Nat.le_refl _)]at this;cases this
        · omega
     subst hie;obtain⟨t',ht'⟩:∃ t',t-k=t'+1:=⟨t-k-1,by omega⟩;rw[ht']at h3;refine wpOp_mono (fun a2 w2 h=>⟨hsz',hc',Or.inr (Or.inr ⟨k+1,by omega,fun j hj=>?_,fun j hj=>?_,by rw[show t-(k+1)=t' by omega];exact h⟩)⟩) h3
     · by_cases hji:j=m+1+k
       · subst hji;exact dV (by omega)
       · rw[getD_set_ne hji];exact h1 j (by omega)
     · rw[getD_set_ne (by omega)];exact h2 j (by omega)
 · rintro u6 a' w ⟨hsz,hc,h⟩ hr
   have w9:=iU hsz hb hr;rcases h with⟨h1,h2,h0⟩|⟨h1,h2,h3,h4,h5⟩|⟨k,hk,h1,h2,h3⟩
   · have:=w9 m (by omega);rw[h1 m (Nat.le_refl _)]at this;cases this
   · have:=w9 d (by omega);rw[h3]at this;cases this
   · have hkt:k=t:=by
        rcases Nat.lt_or_ge k t with h|h
        · have:=w9 (m+1+k) (by omega);rw[h2 _ (Nat.le_refl _)]at this;cases this
        · omega
     subst hkt;rw[Nat.sub_self]at h3;exact h3
theorem aB {id:Nat}{ops:Array Oper}{b:Bool}{Q:Exit→Act→World→Prop}{a:Act}{w:World}(F:Act→Act→World→Prop)(h1:(Code.region id ops b).wp P (fun e a' w'=>e=.normal∧F a a' w') a w)(h2:∀ a' w',F a a' w'→Q .normal a' w'):(Code.region id ops b).wp P Q a w :=
 Code.wp_mono (fun e a' w' ⟨he,h⟩=>by subst he;exact h2 a' w' h) h1
end
structure Rel where
 R:Value→World→Prop
 mono:∀ v W W',R v W→Below W.heap.size W W'→R v W'
def Rel.val (u:Value):Rel:=⟨fun v _=>v=u,fun _ _ _ h _=>h⟩
def Rel.ptr (b:Nat) (o:Obj):Rel:=⟨fun v W=>∃ g,v=.pointer (some ⟨g,0,none⟩)∧b≤g∧W.heap[g]? = some o,fun _ W W' ⟨g,e,h,k⟩ hb=>⟨g,e,h,by rw[hb.block g (Array.getElem?_eq_some_iff.1 k).1];exact k⟩⟩
def RelR (L:List Rel) (i:Nat) (v:Value) (W:World):Prop:=(L.getD i (Rel.val undef)).R v W
theorem RelR.mono {L:List Rel}{W W':World}(hb:Below W.heap.size W W')(i:Nat)(v:Value)(h:RelR L i v W):RelR L i v W':=(L.getD i (Rel.val undef)).mono v W W' h hb
end Go.Gb
namespace Go.Gb
open Go Go.RowKit
section
variable {P:Program} {ops:Array Oper} {Q:Exit→Act→World→Prop}
variable {m:Nat} {sl:Nat→Nat} {R:Nat→Value→World→Prop} {a a0:Act} {W:World→Prop} {u6:Array Bool} {w w':World}
theorem av {i:Nat}{o:Oper}{K:Act→World→Prop}(ho:ops[i]? = some o)
 (h:∀ K':Act→World→Prop,Hid (∀ a w,K a w→K' a w)→if Region.wanted o (yielded ops a.tmps)=true then Oper.wp P o a w K' Q else K' (a.put o.dst undef) w):wpOp P ops Q i K a w :=
 wpOp_step ho (fun K' hK=>h K' (Lib.hid hK))
theorem RInv.pv {i d:Nat}{v:Value}(h:RInv ops m sl R a0 W u6 a w)(hi:i∈Region.ready .any ops u6)(hv:R i v w)(hm:i<m:=by decide)(hd:d=sl i:=by rfl)(hlo:d<a0.tmps.size:=by simp)
 (hinj:∀ j,j<m→sl j=d→j=i:=by decide):RInv ops m sl R a0 W (u6.setIfInBounds i true) (a.put (some d) v) w:=h.put hi hm hd hlo hinj hv (fun _ _ k=>k) h.world
theorem RInv.pc {L:List Rel}{w0:World}{i d:Nat}{v:Value}(h:RInv ops m sl (RelR L) a0 (fun W=>Below w0.heap.size w0 W) u6 a w)(hi:i∈Region.ready .any ops u6)(hb:Below w.heap.size w w')(hv:RelR L i v w')(hm:i<m:=by decide)(hd:d=sl i:=by rfl)(hlo:d<a0.tmps.size:=by simp)
 (hinj:∀ j,j<m→sl j=d→j=i:=by decide):RInv ops m sl (RelR L) a0 (fun W=>Below w0.heap.size w0 W) (u6.setIfInBounds i true) (a.put (some d) v) w' :=
 h.put hi hm hd hlo hinj hv (fun j u k=>RelR.mono hb j u k) (h.world.trans (hb.mono h.world.size))
theorem RInv.rv {i j:Nat}{c:Value}(h:RInv ops m sl R a0 W u6 a w)(hj:j∈Region.ready .any ops u6)(hw:Region.waitsFor .any ops j i=true)(hm:i<m)(hR:∀ v,R i v w→v=c):a.tmps[sl i]? = some c:=by
 obtain⟨v,h1,h2⟩:=h.at hj hw hm;rw[h1,hR v h2]
def RV (ops:Array Oper) (u6:Array Bool) (a:Act) (j d:Nat) (c:Value):Prop:=∀ i,i∈Region.ready .any ops u6→Region.waitsFor .any ops i j=true→a.tmps[d]? = some c
theorem RV.g {j d i:Nat}{c:Value}(h:RV ops u6 a j d c)(hi:i∈Region.ready .any ops u6)(hw:Region.waitsFor .any ops i j=true):a.tmps[d]? = some c:=h i hi hw
theorem RInv.rh {j d:Nat}{c:Value}(h:RInv ops m sl R a0 W u6 a w)(hm:j<m:=by decide)(hd:sl j=d:=by rfl)(hR:∀ v,R j v w→v=c:=by exact fun _ h=>h):RV ops u6 a j d c:=by
 subst hd;exact fun i hi hw=>h.rv hi hw hm hR
theorem RInv.sx {c:Value}(h:RInv ops m sl R a0 W u6 a w)(w9:∀ j,j<m→u6.getD j false=true)(i:Nat){d:Nat}(hm:i<m:=by decide)(hd:sl i=d:=by rfl)(hR:∀ v,R i v w→v=c:=by exact fun _ h=>h):a.tmps[d]? = some c:=by
 subst hd;obtain⟨v,h1,h2⟩:=h.slots i hm (w9 i hm);rw[h1,hR v h2]
theorem RInv.sy {c:Value}{q:Nat}(h:RInv ops m sl R a0 W u6 a w)(w9:∀ j,j<m→j≠q→u6.getD j false=true)(i:Nat){d:Nat}(hm:i<m:=by decide)(hq:i≠q:=by decide)(hd:sl i=d:=by rfl)(hR:∀ v,R i v w→v=c:=by exact fun _ h=>h):a.tmps[d]? = some c:=by
 subst hd;obtain⟨v,h1,h2⟩:=h.slots i hm (w9 i hm hq);rw[h1,hR v h2]
def AllT:List (Nat × Value)→Array Value→Prop
 | [],_=>True
 | p :: t,T=>T[p.1]? = some p.2∧AllT t T
theorem AllT.mem:∀ {L:List (Nat × Value)} {T:Array Value},AllT L T→∀ p,p∈L→T[p.1]? = some p.2
 | _ :: _,_,h,p,hp=>by
   rcases List.mem_cons.1 hp with rfl|hp
   · exact h.1
   · exact AllT.mem h.2 p hp
def cov (m:Nat) (sl:Nat→Nat) (L:List (Nat × Value)):Bool:=(List.range m).all fun i=>L.any fun p=>p.1==sl i
theorem wU {L:List (Nat × Value)}(h:cov m sl L=true)(d:Nat)(hd:∀ p,p∈L→p.1≠d):∀ i,i<m→sl i≠d:=by
 intro i hi e;have h1:=List.all_eq_true.1 h i (List.mem_range.2 hi);obtain⟨p,hp,h2⟩:=List.any_eq_true.1 h1;exact hd p hp ((beq_iff_eq.1 h2).trans e)
theorem RInv.finx {L:List (Nat × Value)}(h:RInv ops m sl R a0 W u6 a w)(h1:AllT L a.tmps)(h2:cov m sl L=true):a=⟨aZ L a0.tmps,a0.defers⟩:=h.fin L h1.mem (wU h2)
theorem RInv.finp {sd:Nat}{v:Value}(h:RInv ops m sl R a0 W u6 a w)(L:List (Nat × Value))(h1:AllT L (a.put (some sd) v).tmps)(h2:(cov m sl L&&L.any fun p=>p.1==sd)=true):a.put (some sd) v=⟨aZ L a0.tmps,a0.defers⟩:=by
 rw[Bool.and_eq_true]at h2;refine h.fin_put L h1.mem (fun e he=>⟨wU h2.1 e he,fun k=>?_⟩);obtain⟨p,hp,h3⟩:=List.any_eq_true.1 h2.2;exact he p hp ((beq_iff_eq.1 h3).trans k)
end
theorem RInv.rst {ops:Array Oper}{m:Nat}{sl:Nat→Nat}{R:Nat→Value→World→Prop}{a0 a:Act}{W:World→Prop}{u6:Array Bool}{w:World}{c:Value}(h:RInv ops m sl R a0 W u6 a w)(d:Nat)(h0:a0.tmps[d]? = some c)(hd:∀ i,i<m→sl i≠d:=by decide):a.tmps[d]? = some c:=(h.rest d hd).trans h0
theorem RInv.rg {ops:Array Oper}{m:Nat}{sl:Nat→Nat}{L:List Rel}{a0 a:Act}{W:World→Prop}{u6:Array Bool}{w:World}{c:Value}(h:RInv ops m sl (RelR L) a0 W u6 a w)(j d:Nat)(hL:L.getD j (Rel.val undef)=Rel.val c)(hm:j<m:=by decide)(hd:sl j=d:=by rfl):RV ops u6 a j d c:=h.rh hm hd (fun v k=>by unfold RelR at k;rw[hL]at k;exact k)
theorem RInv.g2 {ops:Array Oper}{m:Nat}{sl:Nat→Nat}{L:List Rel}{a0 a:Act}{W:World→Prop}{u6:Array Bool}{w:World}{c0 c1:Value}(h:RInv ops m sl (RelR L) a0 W u6 a w)(j0 d0 j1 d1:Nat)(l0:L.getD j0 (Rel.val undef)=Rel.val c0:=by rfl)(m0:j0<m:=by decide)(e0:sl j0=d0:=by rfl)(l1:L.getD j1 (Rel.val undef)=Rel.val c1:=by rfl)(m1:j1<m:=by decide)(e1:sl j1=d1:=by rfl):RV ops u6 a j0 d0 c0∧RV ops u6 a j1 d1 c1:=⟨h.rg j0 d0 l0 m0 e0,h.rg j1 d1 l1 m1 e1⟩
theorem RInv.g3 {ops:Array Oper}{m:Nat}{sl:Nat→Nat}{L:List Rel}{a0 a:Act}{W:World→Prop}{u6:Array Bool}{w:World}{c0 c1 c2:Value}(h:RInv ops m sl (RelR L) a0 W u6 a w)(j0 d0 j1 d1 j2 d2:Nat)(l0:L.getD j0 (Rel.val undef)=Rel.val c0:=by rfl)(m0:j0<m:=by decide)(e0:sl j0=d0:=by rfl)(l1:L.getD j1 (Rel.val undef)=Rel.val c1:=by rfl)(m1:j1<m:=by decide)(e1:sl j1=d1:=by rfl)(l2:L.getD j2 (Rel.val undef)=Rel.val c2:=by rfl)(m2:j2<m:=by decide)(e2:sl j2=d2:=by rfl):RV ops u6 a j0 d0 c0∧RV ops u6 a j1 d1 c1∧RV ops u6 a j2 d2 c2:=⟨h.rg j0 d0 l0 m0 e0,h.rg j1 d1 l1 m1 e1,h.rg j2 d2 l2 m2 e2⟩
theorem RInv.g6 {ops:Array Oper}{m:Nat}{sl:Nat→Nat}{L:List Rel}{a0 a:Act}{W:World→Prop}{u6:Array Bool}{w:World}{c0 c1 c2 c3 c4 c5:Value}(h:RInv ops m sl (RelR L) a0 W u6 a w)(j0 d0 j1 d1 j2 d2 j3 d3 j4 d4 j5 d5:Nat)(l0:L.getD j0 (Rel.val undef)=Rel.val c0:=by rfl)(m0:j0<m:=by decide)(e0:sl j0=d0:=by rfl)(l1:L.getD j1 (Rel.val undef)=Rel.val c1:=by rfl)(m1:j1<m:=by decide)(e1:sl j1=d1:=by rfl)(l2:L.getD j2 (Rel.val undef)=Rel.val c2:=by rfl)(m2:j2<m:=by decide)(e2:sl j2=d2:=by rfl)(l3:L.getD j3 (Rel.val undef)=Rel.val c3:=by rfl)(m3:j3<m:=by decide)(e3:sl j3=d3:=by rfl)(l4:L.getD j4 (Rel.val undef)=Rel.val c4:=by rfl)(m4:j4<m:=by decide)(e4:sl j4=d4:=by rfl)(l5:L.getD j5 (Rel.val undef)=Rel.val c5:=by rfl)(m5:j5<m:=by decide)(e5:sl j5=d5:=by rfl):RV ops u6 a j0 d0 c0∧RV ops u6 a j1 d1 c1∧RV ops u6 a j2 d2 c2∧RV ops u6 a j3 d3 c3∧RV ops u6 a j4 d4 c4∧RV ops u6 a j5 d5 c5:=⟨h.rg j0 d0 l0 m0 e0,h.rg j1 d1 l1 m1 e1,h.rg j2 d2 l2 m2 e2,h.rg j3 d3 l3 m3 e3,h.rg j4 d4 l4 m4 e4,h.rg j5 d5 l5 m5 e5⟩
theorem RInv.s2 {ops:Array Oper}{m:Nat}{sl:Nat→Nat}{R:Nat→Value→World→Prop}{a0 a:Act}{W:World→Prop}{u6:Array Bool}{w:World}{c0 c1:Value}(h:RInv ops m sl R a0 W u6 a w)(d0 d1:Nat)(k0:a0.tmps[d0]? = some c0:=by rfl)(e0:∀ i,i<m→sl i≠d0:=by decide)(k1:a0.tmps[d1]? = some c1:=by rfl)(e1:∀ i,i<m→sl i≠d1:=by decide):a.tmps[d0]? = some c0∧a.tmps[d1]? = some c1:=⟨h.rst d0 k0 e0,h.rst d1 k1 e1⟩
theorem RInv.s3 {ops:Array Oper}{m:Nat}{sl:Nat→Nat}{R:Nat→Value→World→Prop}{a0 a:Act}{W:World→Prop}{u6:Array Bool}{w:World}{c0 c1 c2:Value}(h:RInv ops m sl R a0 W u6 a w)(d0 d1 d2:Nat)(k0:a0.tmps[d0]? = some c0:=by rfl)(e0:∀ i,i<m→sl i≠d0:=by decide)(k1:a0.tmps[d1]? = some c1:=by rfl)(e1:∀ i,i<m→sl i≠d1:=by decide)(k2:a0.tmps[d2]? = some c2:=by rfl)(e2:∀ i,i<m→sl i≠d2:=by decide):a.tmps[d0]? = some c0∧a.tmps[d1]? = some c1∧a.tmps[d2]? = some c2:=⟨h.rst d0 k0 e0,h.rst d1 k1 e1,h.rst d2 k2 e2⟩
theorem RInv.s6 {ops:Array Oper}{m:Nat}{sl:Nat→Nat}{R:Nat→Value→World→Prop}{a0 a:Act}{W:World→Prop}{u6:Array Bool}{w:World}{c0 c1 c2 c3 c4 c5:Value}(h:RInv ops m sl R a0 W u6 a w)(d0 d1 d2 d3 d4 d5:Nat)(k0:a0.tmps[d0]? = some c0:=by rfl)(e0:∀ i,i<m→sl i≠d0:=by decide)(k1:a0.tmps[d1]? = some c1:=by rfl)(e1:∀ i,i<m→sl i≠d1:=by decide)(k2:a0.tmps[d2]? = some c2:=by rfl)(e2:∀ i,i<m→sl i≠d2:=by decide)(k3:a0.tmps[d3]? = some c3:=by rfl)(e3:∀ i,i<m→sl i≠d3:=by decide)(k4:a0.tmps[d4]? = some c4:=by rfl)(e4:∀ i,i<m→sl i≠d4:=by decide)(k5:a0.tmps[d5]? = some c5:=by rfl)(e5:∀ i,i<m→sl i≠d5:=by decide):a.tmps[d0]? = some c0∧a.tmps[d1]? = some c1∧a.tmps[d2]? = some c2∧a.tmps[d3]? = some c3∧a.tmps[d4]? = some c4∧a.tmps[d5]? = some c5:=⟨h.rst d0 k0 e0,h.rst d1 k1 e1,h.rst d2 k2 e2,h.rst d3 k3 e3,h.rst d4 k4 e4,h.rst d5 k5 e5⟩
theorem RV.q {ops:Array Oper}{u6:Array Bool}{a:Act}{j d i:Nat}{c:Value}(h:RV ops u6 a j d c)(hi:i∈Region.ready .any ops u6)(hw:Region.waitsFor .any ops i j=true:=by kernel_rfl):a.tmps[d]? = some c:=h i hi hw
theorem RV.t {ops:Array Oper}{u6:Array Bool}{a:Act}{j d i:Nat}{c:Value}(h:RV ops u6 a j d c)(hi:i∈Region.ready .any ops u6)(hw:Region.waitsFor .any ops i j=true:=by decide +kernel):a.tmps[d]? = some c:=h i hi hw
theorem RInv.pw {ops:Array Oper}{m:Nat}{sl:Nat→Nat}{R:Nat→Value→World→Prop}{a0 a:Act}{W:World→Prop}{u6:Array Bool}{w:World}{i d:Nat}{v:Value}(h:RInv ops m sl R a0 W u6 a w)(hi:i∈Region.ready .any ops u6)(hv:R i v w:=by rfl)(hm:i<m:=by decide)(hd:d=sl i:=by rfl)(hlo:d<a0.tmps.size:=by simp)(hinj:∀ j,j<m→sl j=d→j=i:=by decide):RInv ops m sl R a0 W (u6.setIfInBounds i true) (a.put (some d) v) w∧True:=⟨h.pv hi hv hm hd hlo hinj,trivial⟩
theorem aI {P:Program}{ops:Array Oper}{Q:Exit→Act→World→Prop}{id:Nat}{a:Act}{w:World}(m t:Nat)(sl:List Nat)(L:List Rel)
 (hstep:∀ u6 a' w' k,Hid (RInv ops m (fun i=>sl.getD i 0) (RelR L) a (fun W=>Below w.heap.size w W) u6 a' w')→True→Hid (k∈Region.ready .any ops u6)→k<m→wpOp P ops Q k (fun a' w'=>RInv ops m (fun i=>sl.getD i 0) (RelR L) a (fun W=>Below w.heap.size w W) (u6.setIfInBounds k true) a' w'∧True) a' w')
 (hlast:∀ u6 a' w',Hid (RInv ops m (fun i=>sl.getD i 0) (RelR L) a (fun W=>Below w.heap.size w W) u6 a' w')→True→Hid (∀ j,j<m→u6.getD j false=true)→iH P ops Q t m a' w')
 (hm:P.follows .mixedOrders=true:=by kernel_rfl) (hs:ops.size=m+t:=by kernel_rfl) (hb:yg .any ops=true:=by kernel_rfl) (ht:yP ops m t=true:=by kernel_rfl):(Code.region id ops true).wp P Q a w :=
 eH hm m t _ _ _ (fun _ _=>True) hs hb ht trivial (Below.refl _ _).drew hstep hlast
end Go.Gb
namespace Go.Gb
def Ten (s:Nat):Prop:=∃ k,k≤9∧s=10^k
theorem Ten.one:Ten 1:=⟨0,by omega,rfl⟩
theorem Ten.pos {s:Nat}(h:Ten s):0<s:=by
 obtain⟨k,_,rfl⟩:=h;exact Nat.pow_pos (by decide)
theorem Ten.room {s:Nat}(h:Ten s):∃ t,0<t∧BB=s*t:=by
 obtain⟨k,hk,rfl⟩:=h;refine⟨10^(9-k),Nat.pow_pos (by decide),?_⟩;rw[← Nat.pow_add,show k+(9-k)=9 by omega,aH]
theorem Ten.step {s h:Nat}(hs:Ten s)(h0:1≤h)(hlt:h*s*10<BB):Ten (s*10):=by
 obtain⟨k,hk,rfl⟩:=hs;refine⟨k+1,?_,by rw[Nat.pow_succ]⟩;rcases Nat.lt_or_ge k 9 with h9|h9
 · omega
 · obtain rfl:k=9:=by omega
   have h1:1*10^9≤h*10^9:=Nat.mul_le_mul_right _ h0;rw[aH]at hlt;omega
theorem Made.even {a b c d u v f s:Nat}(h:Made a b c d false u v f s):(a:Int)*(u:Int) + -(b:Int)*(v:Int)=(f:Int) ∧ -(c:Int)*(u:Int)+(d:Int)*(v:Int)=(s:Int):=by
 obtain⟨e1,e2⟩:=h.1 rfl;have f1:(a:Int)*(u:Int)=(b:Int)*(v:Int)+(f:Int):=by exact_mod_cast e1
 have f2:(d:Int)*(v:Int)=(c:Int)*(u:Int)+(s:Int):=by exact_mod_cast e2
 rw[Int.neg_mul,Int.neg_mul];omega
theorem Made.odd {a b c d u v f s:Nat}(h:Made a b c d true u v f s) : -(a:Int)*(u:Int)+(b:Int)*(v:Int)=(f:Int)∧(c:Int)*(u:Int) + -(d:Int)*(v:Int)=(s:Int):=by
 obtain⟨e1,e2⟩:=h.2 rfl;have f1:(b:Int)*(v:Int)=(a:Int)*(u:Int)+(f:Int):=by exact_mod_cast e1
 have f2:(c:Int)*(u:Int)=(d:Int)*(v:Int)+(s:Int):=by exact_mod_cast e2
 rw[Int.neg_mul,Int.neg_mul];omega
structure Keeps (I:Nat→Nat→Nat→Nat→Bool→Prop):Prop where
 div:∀ F S P Q n,S≠0→I F S P Q n→I S (F%S) Q (P+F / S*Q) (!n)
 app:∀ F S P Q n a b c d o f s,F≠0→b≠0→Made a b c d o F S f s→Dtm a b c d o→Fac a b c d→s≤f→I F S P Q n→I f s (a*P+b*Q) (c*P+d*Q) (n != o)
 len:∀ F S P Q n,I F S P Q n→(ae F).length≤80000∧(ae S).length≤80000∧(ae P).length≤80000∧(ae Q).length≤80000
def CmI (N F S P Q:Nat) (_:Bool):Prop:=F+S≤N∧P=0∧Q=0
theorem Made.sum {a b c d u v f s:Nat}{o:Bool}(h:Made a b c d o u v f s)(hd:Dtm a b c d o)(hs:Fac a b c d)(hb:b≠0)(hu:u≠0)(hfs:s≤f){N:Nat}(hN:u+v≤N):f+s≤N:=by
 have:=h.less hd hs hb hu hfs;omega
theorem CmI.keeps {N:Nat}(hN:(ae N).length≤80000):Keeps (CmI N):=by
 refine⟨?_,?_,?_⟩
 · rintro F S P Q n hS ⟨h1,rfl,rfl⟩
   have h2:=Nat.mod_le F S;exact⟨by omega,rfl,by simp⟩
 · rintro F S P Q n a b c d o f s hF hb hm hd hf hsf ⟨h1,rfl,rfl⟩
   exact⟨hm.sum hd hf hb hF hsf h1,by simp,by simp⟩
 · rintro F S P Q n ⟨h1,rfl,rfl⟩
   have l1:=aN (show F≤N by omega);have l2:=aN (show S≤N by omega);rw[aS];simp only[List.length_nil];omega
end Go.Gb
namespace Go.Gb
open Go
theorem vJ {xs:List Nat}(hx:∀ x∈xs,x<BB){i:Nat}(hi:xs.length=i+1)(k:Nat):ai xs / 10^(9*i+k)=xs.getD i 0 / 10^k:=by
 have h1:=dh xs i (by omega)
 have h2:ai (xs.drop i)=xs.getD i 0:=by
  rw[fJ (by omega),List.drop_of_length_le (by omega)];simp[ai]
 have hlt:=jg xs hx i;have hB:BB^i=10^(9*i):=by rw[Nat.pow_mul,show BB=10^9 from by rw[aH]]
 rw[h2]at h1;rw[h1,Nat.pow_add,← hB,← Nat.div_div_eq_div_mul,Nat.add_mul_div_left _ _ (Nat.pow_pos bN),Nat.div_eq_of_lt hlt,Nat.zero_add]
def TOut (xs:List Nat) (bs:List UInt8) (i:Nat):Prop :=
 (i<xs.length∧bs=ldig (ai xs) (9*i))∨(i=xs.length∧∃ m,bs=ldig (ai xs) (m+1)∧10^m≤ai xs∧ai xs<10^(m+1))
def TIn (xs:List Nat) (bs:List UInt8) (i k q:Nat):Prop :=
 k≤9∧q=xs.getD i 0 / 10^k∧bs=ldig (ai xs) (9*i+k)∧(k=0∨i+1<xs.length∨xs.getD i 0 / 10^(k-1)≠0)
theorem TOut.zero {xs:List Nat}(h:0<xs.length):TOut xs [] 0:=Or.inl ⟨h,rfl⟩
theorem TIn.start {xs:List Nat}{bs:List UInt8}{i:Nat}(h:TOut xs bs i)(hi:i<xs.length):TIn xs bs i 0 (xs.getD i 0):=by
 rcases h with⟨_,h⟩|⟨h,_⟩
 · exact⟨by omega,by simp,h,Or.inl rfl⟩
 · omega
theorem TIn.len {xs:List Nat}{bs:List UInt8}{i k q:Nat}(h:TIn xs bs i k q):bs.length=9*i+k:=by rw[h.2.2.1,jb]
theorem TIn.lt {xs:List Nat}{bs:List UInt8}{i k q:Nat}(h:TIn xs bs i k q)(hi:i<xs.length)(hx:∀ x∈xs,x<BB):q<1000000000:=by
 have h1:=hx _ (bi hi);rw[aH]at h1;rw[h.2.1];exact Nat.lt_of_le_of_lt (Nat.div_le_self _ _) h1
theorem TIn.step {xs:List Nat}{bs:List UInt8}{i k q:Nat}(h:TIn xs bs i k q)(hi:i<xs.length)(hx:∀ x∈xs,x<BB)(hk:k<9)(hg:i+1<xs.length∨0<q) :
 TIn xs (bs++[UInt8.ofNat (48+q%10)]) i (k+1) (q / 10):=by
 obtain⟨h1,h2,h3,h4⟩:=h;refine⟨by omega,?_,?_,?_⟩
 · rw[h2,Nat.div_div_eq_div_mul,Nat.pow_succ]
 · rw[h3,h2,← xe hx hi hk,← z00]
   rfl
 · rcases hg with hg|hg
   · exact Or.inr (Or.inl hg)
   · right;right
     rw[Nat.add_sub_cancel,← h2];omega
theorem TIn.done {xs:List Nat}{bs:List UInt8}{i k q:Nat}(h:TIn xs bs i k q)(hi:i<xs.length)(hx:∀ x∈xs,x<BB)(hl:xs.getD (xs.length-1) 0≠0)(hg:k=9∨(i+1=xs.length∧q=0)):TOut xs bs (i+1):=by
 obtain⟨h1,h2,h3,h4⟩:=h;by_cases hlt:i+1<xs.length
 · obtain rfl:k=9:=by omega
   exact Or.inl ⟨hlt,by rw[h3,Nat.mul_add]⟩
 · have hi1:xs.length=i+1:=by omega
   have hw:=hx _ (bi hi);rw[aH]at hw;rw[show xs.length-1=i by omega]at hl
   have hq0:q=0:=by
    rcases hg with hg|hg
    · rw[h2,hg,Nat.div_eq_of_lt (by omega)]
    · exact hg.2
   obtain⟨j,rfl⟩:∃ j,k=j+1:=by
    refine⟨k-1,?_⟩;rcases Nat.eq_zero_or_pos k with h0|h0
    · rw[h0,Nat.pow_zero,Nat.div_one]at h2
      omega
    · omega
   have h5:xs.getD i 0 / 10^j≠0:=by
    rcases h4 with h4|h4|h4
    · omega
    · omega
    · rwa [Nat.add_sub_cancel]at h4
   have e1:=vJ hx hi1 j;have e2:=vJ hx hi1 (j+1);rw[← h2,hq0]at e2;refine Or.inr ⟨hi1.symm,9*i+j,h3,?_,?_⟩
   · rcases Nat.lt_or_ge (ai xs) (10^(9*i+j)) with h|h
     · rw[Nat.div_eq_of_lt h]at e1
       exact absurd e1.symm h5
     · exact h
   · rcases Nat.lt_or_ge (ai xs) (10^(9*i+(j+1))) with h|h
     · exact h
     · have:=Nat.div_pos h (Nat.pow_pos (by decide))
       omega
theorem TOut.done {xs:List Nat}{bs:List UInt8}(h:TOut xs bs xs.length):bs.reverse=Lib.decDigits (ai xs)∧0<bs.length:=by
 rcases h with⟨h,_⟩|⟨_,m,h1,h2,h3⟩
 · omega
 · rw[h1]
   exact⟨lZ m _ h2 h3,by rw[jb];omega⟩
theorem TOut.len {xs:List Nat}{bs:List UInt8}{i:Nat}(h:TOut xs bs i)(hx:∀ x∈xs,x<BB):bs.length≤9*xs.length:=by
 rcases h with⟨h,e⟩|⟨_,m,h1,h2,h3⟩
 · rw[e,jb];omega
 · rw[h1,jb]
   have h4:=dO xs hx;rw[show BB=10^9 from by rw[aH],← Nat.pow_mul]at h4;have h5:10^m<10^(9*xs.length):=by omega
   have:=(Nat.pow_lt_pow_iff_right (by decide:1<10)).1 h5;omega
