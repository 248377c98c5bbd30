/- texts -/
import Derived.StillTail
import Derived.Test.YtikihamjpenboaaGreatDoorMz3q
namespace Go.Gb
open Go
section
variable {P:Program} {ops:Array Oper} {Q:Exit→Act→World→Prop} {md:Region.Mode}
def Closed (md:Region.Mode) (ops:Array Oper) (u6:Array Bool):Prop:=∀ j i,u6.getD j false=true→Region.waitsFor md ops j i=true→u6.getD i false=true
theorem z2w {j i:Nat}{o:Oper}(ho:ops[j]? = some o)(h:Region.waitsFor md ops j i=true):∃ e∈o.after,Region.binds md e=true∧e.on=i:=by
 obtain⟨o',ho',e,he,hb⟩:=Region.waitsFor_spec h;obtain rfl:o'=o:=Option.some.inj (ho'.symm.trans ho);exact⟨e,he,hb⟩
theorem jl {u6:Array Bool}{j i:Nat}(hj:j∈Region.ready md ops u6)(h:Region.waitsFor md ops j i=true):u6.getD i false=true:=by
 obtain⟨_,o,ho,w9⟩:=mem_ready.1 hj;obtain⟨e,he,hb,rfl⟩:=z2w ho h;exact w9 e he hb
theorem nE {u6:Array Bool}{j:Nat}(hj:j∈Region.ready md ops u6):u6.getD j true=false:=(mem_ready.1 hj).1
theorem iE {u6:Array Bool}{j:Nat}(hj:j∈Region.ready md ops u6):j<ops.size:=by
 obtain⟨_,o,ho,_⟩:=mem_ready.1 hj;exact(Array.getElem?_eq_some_iff.1 ho).1
theorem iN {u6:Array Bool}{i j:Nat}(h:(u6.setIfInBounds i true).getD j false=true):j=i∨u6.getD j false=true:=by
 by_cases hij:j=i
 · exact Or.inl hij
 · right
   simp only[Array.getD_eq_getD_getElem?]at h ⊢;rwa [Array.getElem?_setIfInBounds_ne (Ne.symm hij)]at h
theorem lw {u6:Array Bool}{i j:Nat}(h:u6.getD j false=true):(u6.setIfInBounds i true).getD j false=true:=by
 simp only[Array.getD_eq_getD_getElem?]at h ⊢;by_cases hij:i=j
 · subst hij
   rw[Array.getElem?_setIfInBounds_self];split
   · rfl
   · rename_i hlt
     rw[Array.getElem?_eq_none (by omega)]at h;exact h
 · rw[Array.getElem?_setIfInBounds_ne hij];exact h
theorem Closed.set {u6:Array Bool}{i:Nat}(h:Closed md ops u6)(hi:i∈Region.ready md ops u6):Closed md ops (u6.setIfInBounds i true):=by
 intro j k hj hw;rcases iN hj with rfl|hj
 · exact lw (jl hi hw)
 · exact lw (h j k hj hw)
theorem oK (n:Nat):Closed md ops (Array.replicate n false):=by
 intro j i hj _;exfalso
 simp only[Array.getD_eq_getD_getElem?,Array.getElem?_replicate]at hj;split at hj<;>simp at hj
theorem tL (I:Array Bool→Act→World→Prop)
 (hstep:∀ u6 a w i,I u6 a w→i∈Region.ready md ops u6→wpOp P ops Q i (fun a' w'=>I (u6.setIfInBounds i true) a' w') a w)
 (hend:∀ u6 a w,I u6 a w→Region.ready md ops u6=[]→Q .normal a w) :
 ∀ (n:Nat) (U:List Nat) (u6:Array Bool) (a:Act) (w:World),U.length=n→U.Nodup→(∀ i,i∈U↔(i<ops.size∧u6.getD i true=false))→u6.size=ops.size→I u6 a w→wpAny P md ops Q n u6 a w
 | 0,U,u6,a,w,hn,_,hU,_,hI=>by
   have h0:Region.ready md ops u6=[]:=by
    apply List.eq_nil_iff_forall_not_mem.2
    intro i hi;have hm:=(hU i).2 ⟨iE hi,nE hi⟩;rw[List.length_eq_zero_iff.1 hn]at hm;cases hm
   exact⟨h0,hend u6 a w hI h0⟩
 | n+1,U,u6,a,w,hn,hd,hU,hs,hI=>by
   refine⟨fun h0=>hend u6 a w hI h0,fun i hi=>?_⟩;refine wpOp_mono (fun a' w' hI'=>?_) (hstep u6 a w i hI hi);have hm:=(hU i).2 ⟨iE hi,nE hi⟩;refine tL I hstep hend n (U.erase i) _ a' w' (by rw[List.length_erase_of_mem hm,hn];rfl) (hd.erase i) (fun j=>?_) (by simpa using hs) hI';rw[hd.mem_erase_iff,hU j];simp only[Array.getD_eq_getD_getElem?];by_cases hij:j=i
   · subst hij
     rw[Array.getElem?_setIfInBounds_self_of_lt (by rw[hs];exact iE hi)];simp
   · rw[Array.getElem?_setIfInBounds_ne (Ne.symm hij)]
     simp[hij]
theorem jg {id:Nat}{a:Act}{w:World}(hm:P.follows .mixedOrders=true)(I:Array Bool→Act→World→Prop)
 (hstart:I (Array.replicate ops.size false) a w.drew)
 (hstep:∀ u6 a w i,I u6 a w→i∈Region.ready .any ops u6→wpOp P ops Q i (fun a' w'=>I (u6.setIfInBounds i true) a' w') a w)
 (hend:∀ u6 a w,I u6 a w→Region.ready .any ops u6=[]→Q .normal a w):(Code.region id ops true).wp P Q a w:=by
 refine wp_region_any hm ?_;refine tL I hstep hend ops.size (List.range ops.size) _ a _ (by simp) List.nodup_range (fun i=>?_) (by simp) hstart;rw[List.mem_range];simp only[Array.getD_eq_getD_getElem?,Array.getElem?_replicate];constructor
 · intro h;exact⟨h,by rw[if_pos h];rfl⟩
 · intro h;exact h.1
def zV (md:Region.Mode) (ops:Array Oper):Bool:=(List.range ops.size).all fun j=>match ops[j]? with
 | some o=>o.after.all fun e => !Region.binds md e || decide (e.on<j)
 | none=>true
theorem z5u (hb:zV md ops=true){j i:Nat}(h:Region.waitsFor md ops j i=true):i<j:=by
 obtain⟨o,ho,e,he,hbi,rfl⟩:=Region.waitsFor_spec h;have hj:j<ops.size:=(Array.getElem?_eq_some_iff.1 ho).1;have h1:=List.all_eq_true.1 hb j (List.mem_range.2 hj);rw[ho]at h1;simp only at h1;have h2:=Array.all_eq_true'.1 h1 e he;rw[hbi]at h2;simpa using h2
theorem jd {u6:Array Bool}(hs:u6.size=ops.size)(hb:zV md ops=true)(h:Region.ready md ops u6=[]):∀ j,j<ops.size→u6.getD j false=true:=by
 intro j
 induction j using Nat.strongRecOn with
 | _ j ih =>
   intro hj
   cases hl:u6.getD j true with
   | true =>
     simp only[Array.getD_eq_getD_getElem?]at hl ⊢;have hlt:j<u6.size:=by omega
     rw[Array.getElem?_eq_getElem hlt]at hl ⊢;exact hl
   | false =>
     exfalso
     obtain⟨o,ho⟩:∃ o,ops[j]? = some o:=⟨ops[j],Array.getElem?_eq_getElem hj⟩
     have hr:j∈Region.ready md ops u6:=by
       refine mem_ready.2 ⟨hl,o,ho,fun e he hbi=>?_⟩
       have hw:Region.waitsFor md ops j e.on=true:=by
        unfold Region.waitsFor
        rw[ho];simp only;refine Array.any_eq_true'.2 ⟨e,he,?_⟩;simp[hbi]
       have h1:=z5u hb hw;exact ih e.on h1 (by omega)
     rw[h]at hr;cases hr
theorem nX {u6:Array Bool}{j:Nat}(hj:j∈Region.ready md ops u6):u6.getD j false=false:=by
 have h:=nE hj;simp only[Array.getD_eq_getD_getElem?]at h ⊢
 cases hc:u6[j]? with
 | none=>rw[hc]at h;simp at h
 | some b=>rw[hc]at h;simpa using h
end
end Go.Gb
namespace Go.Gb
open Go Go.RowKit
section
variable {P:Program} {ops:Array Oper} {Q:Exit→Act→World→Prop}
structure RInv (ops:Array Oper) (m:Nat) (sl:Nat→Nat) (R:Nat→Value→World→Prop) (a0:Act) (W:World→Prop) (u6:Array Bool) (a:Act) (w:World):Prop where
 closed:Closed .any ops u6
 size:u6.size=ops.size
 slots:∀ i,i<m→u6.getD i false=true→∃ v,a.tmps[sl i]? = some v∧R i v w
 rest:∀ d,(∀ i,i<m→sl i≠d)→a.tmps[d]? = a0.tmps[d]?
 tsize:a.tmps.size=a0.tmps.size
 defers:a.defers=a0.defers
 world:W w
variable {m:Nat} {sl:Nat→Nat} {R:Nat→Value→World→Prop} {a a0:Act} {W:World→Prop} {u6:Array Bool} {w w':World}
theorem RInv.start (h:W w):RInv ops m sl R a W (Array.replicate ops.size false) a w :=
 ⟨oK _,by simp,fun i _ hi=>by
  exfalso
  simp only[Array.getD_eq_getD_getElem?,Array.getElem?_replicate]at hi
  split at hi<;>simp at hi,fun _ _=>rfl,rfl,rfl,h⟩
theorem RInv.put {i d:Nat}{v:Value}(h:RInv ops m sl R a0 W u6 a w)(hi:i∈Region.ready .any ops u6)(hm:i<m)(hd:d=sl i)(hlo:d<a0.tmps.size)
 (hinj:∀ j,j<m→sl j=d→j=i) (hv:R i v w') (hR:∀ j u,R j u w→R j u w') (hW:W w'):RInv ops m sl R a0 W (u6.setIfInBounds i true) (a.put (some d) v) w':=by
 subst hd;have hp:(a.put (some (sl i)) v).tmps=a.tmps.setIfInBounds (sl i) v:=rfl;have hts:=h.tsize;refine⟨h.closed.set hi,by simpa using h.size,fun j hj hl=>?_,fun e he=>?_,by rw[hp];simpa using hts,h.defers,hW⟩
 · rw[hp]
   by_cases hji:j=i
   · subst hji
     exact⟨v,by rw[Array.getElem?_setIfInBounds_self_of_lt (by omega)],hv⟩
   · rw[Array.getElem?_setIfInBounds_ne (fun e=>hji (hinj j hj e.symm))]
     rcases iN hl with h2|h2
     · exact absurd h2 hji
     · obtain⟨u,h3,h4⟩:=h.slots j hj h2
       exact⟨u,h3,hR j u h4⟩
 · rw[hp,Array.getElem?_setIfInBounds_ne (he i hm)]
   exact h.rest e he
theorem RInv.at {i j:Nat}(h:RInv ops m sl R a0 W u6 a w)(hj:j∈Region.ready .any ops u6)(hw:Region.waitsFor .any ops j i=true)(hm:i<m) :
 ∃ v,a.tmps[sl i]? = some v∧R i v w:=h.slots i hm (jl hj hw)
def putL:List (Nat × Value)→Array Value→Array Value
 | [],t=>t
 | p :: ps,t=>putL ps (t.setIfInBounds p.1 p.2)
theorem vQ:∀ (L:List (Nat × Value)) (t T:Array Value),T.size=t.size→(∀ p,p∈L→T[p.1]? = some p.2)→(∀ d,(∀ p,p∈L→p.1≠d)→T[d]? = t[d]?)→T=putL L t
 | [],t,T,_,_,h=>Array.ext_getElem? fun d=>h d (fun _ hp=>by cases hp)
 | p :: ps,t,T,hs,h1,h2=>by
   refine vQ ps _ T (by simpa using hs) (fun q hq=>h1 q (List.mem_cons_of_mem _ hq)) (fun d hd=>?_);have hp:=h1 p List.mem_cons_self;by_cases hpd:p.1=d
   · subst hpd
     have hlt:p.1<T.size:=(Array.getElem?_eq_some_iff.1 hp).1;rw[hp,Array.getElem?_setIfInBounds_self_of_lt (by omega)]
   · rw[Array.getElem?_setIfInBounds_ne hpd]
     exact h2 d (fun q hq=>by
       rcases List.mem_cons.1 hq with rfl|hq
       · exact hpd
       · exact hd q hq)
theorem RInv.fin (h:RInv ops m sl R a0 W u6 a w)(L:List (Nat × Value))(h1:∀ p,p∈L→a.tmps[p.1]? = some p.2)(h2:∀ d,(∀ p,p∈L→p.1≠d)→∀ i,i<m→sl i≠d):a=⟨putL L a0.tmps,a0.defers⟩:=by
 have ht:=vQ L a0.tmps a.tmps h.tsize h1 (fun d hd=>h.rest d (h2 d hd));have hd:=h.defers;cases a
 simp only at ht hd;rw[ht,hd]
def lastB (ops:Array Oper) (m:Nat):Bool:=(List.range m).all fun j=>(List.range (m+1)).any fun k=>decide (j<k)&&Region.waitsFor .any ops k j
theorem z3q (hl:lastB ops m=true)(hc:Closed .any ops u6)(hr:m∈Region.ready .any ops u6):∀ n j,n+j=m→0<n→u6.getD j false=true:=by
 intro n
 induction n using Nat.strongRecOn with
 | _ n ih =>
   intro j hj hn;have h1:=List.all_eq_true.1 hl j (List.mem_range.2 (by omega));obtain⟨k,hk,h2⟩:=List.any_eq_true.1 h1;have hk:=List.mem_range.1 hk;rw[Bool.and_eq_true,decide_eq_true_iff]at h2;by_cases hkm:k=m
   · subst hkm;exact jl hr h2.2
   · exact hc k j (ih (m-k) (by omega) k (by omega) (by omega)) h2.2
theorem getD_set_ne {u6:Array Bool}{i j:Nat}(h:j≠i):(u6.setIfInBounds i true).getD j false=u6.getD j false:=by
 simp only[Array.getD_eq_getD_getElem?];rw[Array.getElem?_setIfInBounds_ne (Ne.symm h)]
theorem eG {u6:Array Bool}{i:Nat}(h:i<u6.size):(u6.setIfInBounds i true).getD i false=true:=by
 simp only[Array.getD_eq_getD_getElem?];rw[Array.getElem?_setIfInBounds_self_of_lt h];rfl
end
inductive Slot where
 | val (v:Value)
 | row (cs:List Value)
 | ptr (cs:List Value)
def Slot.Ok (b:Nat) (v:Value) (W:World):Slot→Prop
 | .val u=>v=u
 | .row cs=>∃ g,v=.slice (some ⟨g,0,none⟩) cs.length cs.length∧b≤g∧g<W.heap.size∧∀ i x,cs[i]? = some x→W.cell? ⟨g,i,none⟩=some x
 | .ptr cs=>∃ g,v=.pointer (some ⟨g,0,none⟩)∧b≤g∧g<W.heap.size∧(∀ i x,cs[i]? = some x→W.cell? ⟨g,i,none⟩=some x)∧(∀ i x,cs[i]? = some x→W.frozen? ⟨g,i,none⟩=false)
theorem Slot.Ok.mono {b:Nat}{v:Value}{W W':World}{s:Slot}(h:s.Ok b v W)(hb:Below W.heap.size W W'):s.Ok b v W':=by
 cases s with
 | val u=>exact h
 | row cs =>
   obtain⟨g,h1,h2,h3,h4⟩:=h;exact⟨g,h1,h2,Nat.lt_of_lt_of_le h3 hb.size,fun i x hx=>(hb.cell (p:=⟨g,i,none⟩) h3).trans (h4 i x hx)⟩
 | ptr cs =>
   obtain⟨g,h1,h2,h3,h4,h5⟩:=h;exact⟨g,h1,h2,Nat.lt_of_lt_of_le h3 hb.size,fun i x hx=>(hb.cell (p:=⟨g,i,none⟩) h3).trans (h4 i x hx),fun i x hx=>(hb.frozen (p:=⟨g,i,none⟩) h3).trans (h5 i x hx)⟩
def SlR (b:Nat) (L:List Slot) (i:Nat) (v:Value) (W:World):Prop:=(L.getD i (.val undef)).Ok b v W
theorem SlR.mono {b:Nat}{L:List Slot}{W W':World}(hb:Below W.heap.size W W')(i:Nat)(v:Value)(h:SlR b L i v W):SlR b L i v W':=Slot.Ok.mono h hb
end Go.Gb
namespace Go.Gb
open Go Go.RowKit
section
variable {P:Program} {ops:Array Oper} {Q:Exit→Act→World→Prop}
variable {m:Nat} {sl:Nat→Nat} {R:Nat→Value→World→Prop} {a a0:Act} {W:World→Prop} {u6:Array Bool} {w w':World}
def iR (P:Program) (ops:Array Oper) (Q:Exit→Act→World→Prop):Nat→Nat→Act→World→Prop
 | 0,_,a,w=>Q .normal a w
 | t+1,k,a,w=>wpOp P ops Q k (fun a' w'=>iR P ops Q t (k+1) a' w') a w
theorem bz {t k:Nat}(h:wpOp P ops Q k (fun a' w'=>iR P ops Q t (k+1) a' w') a w):iR P ops Q (t+1) k a w:=h
theorem bi {k:Nat}(h:Q .normal a w):iR P ops Q 0 k a w:=h
def z0h (ops:Array Oper) (m t:Nat):Bool:=(List.range t).all fun i=>lastB ops (m+i)
theorem kU {m t k:Nat}(ht:z0h ops m t=true)(hk:m≤k)(hkt:k<m+t)(hc:Closed .any ops u6)(hr:k∈Region.ready .any ops u6):∀ j,j<k→u6.getD j false=true:=by
 have h1:=List.all_eq_true.1 ht (k-m) (List.mem_range.2 (by omega));rw[show m+(k-m)=k by omega]at h1;intro j hj;exact z3q h1 hc hr (k-j) j (by omega) (by omega)
theorem pE {id:Nat}{a:Act}{w:World}(hm:P.follows .mixedOrders=true)(m t:Nat)(sl:Nat→Nat)(R:Nat→Value→World→Prop)(W:World→Prop)(hs:ops.size=m+t)(hb:zV .any ops=true)(ht:z0h ops m t=true)
 (hstart:W w.drew)
 (hstep:∀ u6 a' w i,RInv ops m sl R a W u6 a' w→i∈Region.ready .any ops u6→i<m→wpOp P ops Q i (fun a' w'=>RInv ops m sl R a W (u6.setIfInBounds i true) a' w') a' w)
 (hlast:∀ u6 a' w,RInv ops m sl R a W u6 a' w→(∀ j,j<m→u6.getD j false=true)→iR P ops Q t m a' w):(Code.region id ops true).wp P Q a w:=by
 refine jg hm (fun u6 a' w=>((∀ j,m≤j→u6.getD j false=false)∧RInv ops m sl R a W u6 a' w)∨(∃ k,k≤t∧u6.size=ops.size∧Closed .any ops u6∧(∀ j,j<m+k→u6.getD j false=true)∧(∀ j,m+k≤j→u6.getD j false=false)∧iR P ops Q (t-k) (m+k) a' w)) (Or.inl ⟨?_,RInv.start hstart⟩) ?_ ?_
 · intro j _
   simp only[Array.getD_eq_getD_getElem?,Array.getElem?_replicate];split<;>rfl
 · rintro u6 a' w i (⟨h1,h2⟩|⟨k,hk,hsz,hc,h1,h2,h3⟩) hi
   · have hlt:=iE hi
     by_cases him:i<m
     · refine wpOp_mono (fun a2 w2 h=>Or.inl ⟨fun j hj=>?_,h⟩) (hstep u6 a' w i h2 hi him)
       rw[getD_set_ne (by omega)];exact h1 j hj
     · have w9:=kU ht (by omega) (by omega) h2.closed hi
       have hie:i=m:=by
        rcases Nat.lt_or_ge m i with h|h
        · have:=w9 m h;rw[h1 m (Nat.le_refl _)]at this;cases this
        · omega
       subst hie;obtain⟨t',rfl⟩:∃ t',t=t'+1:=⟨t-1,by omega⟩;have hz:=h2.size;refine wpOp_mono (fun a2 w2 h=>Or.inr ⟨1,by omega,by simpa using hz,h2.closed.set hi,fun j hj=>?_,fun j hj=>?_,by simpa using h⟩) (hlast u6 a' w h2 w9)
       · by_cases hji:j=i
         · subst hji;exact eG (by omega)
         · rw[getD_set_ne hji];exact w9 j (by omega)
       · rw[getD_set_ne (by omega)];exact h1 j (by omega)
   · have hlt:=iE hi
     have hun:=nX hi
     have hge:m+k≤i:=by
        rcases Nat.lt_or_ge i (m+k) with h|h
        · rw[h1 i h]at hun;cases hun
        · exact h
     have w9:=kU ht (by omega) (by omega) hc hi
     have hie:i=m+k:=by
        rcases Nat.lt_or_ge (m+k) i with h|h
        · have:=w9 _ h;rw[h2 _ (Nat.le_refl _)]at this;cases this
        · omega
     subst hie;obtain⟨t',ht'⟩:∃ t',t-k=t'+1:=⟨t-k-1,by omega⟩;rw[ht']at h3;refine wpOp_mono (fun a2 w2 h=>Or.inr ⟨k+1,by omega,by simpa using hsz,hc.set hi,fun j hj=>?_,fun j hj=>?_,by rw[show t-(k+1)=t' by omega];exact h⟩) h3
     · by_cases hji:j=m+k
       · subst hji;exact eG (by omega)
       · rw[getD_set_ne hji];exact w9 j (by omega)
     · rw[getD_set_ne (by omega)];exact h2 j (by omega)
 · rintro u6 a' w (⟨h1,h2⟩|⟨k,hk,hsz,hc,h1,h2,h3⟩) hr
   · have w9:=jd h2.size hb hr
     have ht0:t=0:=by
        rcases Nat.eq_zero_or_pos t with h|h
        · exact h
        · have:=w9 m (by omega);rw[h1 m (Nat.le_refl _)]at this;cases this
     subst ht0;exact hlast u6 a' w h2 (fun j hj=>w9 j (by omega))
   · have w9:=jd hsz hb hr
     have hkt:k=t:=by
        rcases Nat.lt_or_ge k t with h|h
        · have:=w9 (m+k) (by omega);rw[h2 _ (Nat.le_refl _)]at this;cases this
        · omega
     subst hkt;rw[Nat.sub_self]at h3;exact h3
end
section
variable {P:Program} {ops:Array Oper} {Q:Exit→Act→World→Prop}
variable {m:Nat} {sl:Nat→Nat} {R:Nat→Value→World→Prop} {a a0:Act} {W:World→Prop} {u6:Array Bool} {w w':World}
def Dst (i j:Nat) (sl:Nat→Nat) (u6:Array Bool) (a:Act):Prop:=u6.getD i false=true→u6.getD j false=true→a.tmps[sl i]? ≠ a.tmps[sl j]?
theorem Dst.start {i j n:Nat}{sl:Nat→Nat}{a:Act}:Dst i j sl (Array.replicate n false) a:=by
 intro h;exfalso
 simp only[Array.getD_eq_getD_getElem?,Array.getElem?_replicate]at h;split at h<;>simp at h
theorem yj {a:Act}{d:Nat}{v:Value}(h:d<a.tmps.size):(a.put (some d) v).tmps[d]? = some v:=by
 show(a.tmps.setIfInBounds d v)[d]? = some v
 rw[Array.getElem?_setIfInBounds_self_of_lt h]
theorem dO {a:Act}{d e:Nat}{v:Value}(h:d≠e):(a.put (some d) v).tmps[e]? = a.tmps[e]? := by
 show(a.tmps.setIfInBounds d v)[e]? = a.tmps[e]?
 rw[Array.getElem?_setIfInBounds_ne h]
theorem RInv.fin_put {sd:Nat}{v:Value}(h:RInv ops m sl R a0 W u6 a w)(L:List (Nat × Value))(h1:∀ p,p∈L→(a.put (some sd) v).tmps[p.1]? = some p.2)(h2:∀ e,(∀ p,p∈L→p.1≠e)→(∀ i,i<m→sl i≠e)∧sd≠e):a.put (some sd) v=⟨putL L a0.tmps,a0.defers⟩:=by
 have hsz:(a.put (some sd) v).tmps.size=a0.tmps.size:=by
  show(a.tmps.setIfInBounds sd v).size=_
  rw[Array.size_setIfInBounds,h.tsize]
 have ht:=vQ L a0.tmps (a.put (some sd) v).tmps hsz h1 (fun e he=>by
  rw[dO (h2 e he).2]
  exact h.rest e (h2 e he).1)
 have hd:(a.put (some sd) v).defers=a0.defers:=h.defers;have e:a.put (some sd) v=⟨(a.put (some sd) v).tmps,(a.put (some sd) v).defers⟩:=rfl;rw[e,ht,hd]
theorem Dst.put {i j k d:Nat}{v:Value}(h:Dst i j sl u6 a)(hi:k≠i)(hj:k≠j)(hd:d=sl k)(si:sl k≠sl i)(sj:sl k≠sl j):Dst i j sl (u6.setIfInBounds k true) (a.put (some d) v):=by
 subst hd;intro h1 h2;rw[getD_set_ne (Ne.symm hi)]at h1;rw[getD_set_ne (Ne.symm hj)]at h2;show(a.tmps.setIfInBounds (sl k) v)[sl i]? ≠ (a.tmps.setIfInBounds (sl k) v)[sl j]?
 rw[Array.getElem?_setIfInBounds_ne si,Array.getElem?_setIfInBounds_ne sj];exact h h1 h2
theorem Dst.left {i j d:Nat}{v:Value}(hij:j≠i)(hd:d=sl i)(sj:sl i≠sl j)(hlt:d<a.tmps.size)(h:u6.getD j false=true→a.tmps[sl j]? ≠ some v):Dst i j sl (u6.setIfInBounds i true) (a.put (some d) v):=by
 subst hd;intro _ h2;rw[getD_set_ne hij]at h2;show(a.tmps.setIfInBounds (sl i) v)[sl i]? ≠ (a.tmps.setIfInBounds (sl i) v)[sl j]?
 rw[Array.getElem?_setIfInBounds_ne sj,Array.getElem?_setIfInBounds_self_of_lt hlt];exact Ne.symm (h h2)
theorem Dst.right {i j d:Nat}{v:Value}(hij:i≠j)(hd:d=sl j)(sj:sl j≠sl i)(hlt:d<a.tmps.size)(h:u6.getD i false=true→a.tmps[sl i]? ≠ some v):Dst i j sl (u6.setIfInBounds j true) (a.put (some d) v):=by
 subst hd;intro h1 _;rw[getD_set_ne hij]at h1;show(a.tmps.setIfInBounds (sl j) v)[sl i]? ≠ (a.tmps.setIfInBounds (sl j) v)[sl j]?
 rw[Array.getElem?_setIfInBounds_ne sj,Array.getElem?_setIfInBounds_self_of_lt hlt];exact h h1
theorem RInv.fresh {i b:Nat}{o:Obj}(h:RInv ops m sl R a0 W u6 a w)(hi:i<m)(hR:∀ v w,R i v w→∃ g,v=.pointer (some ⟨g,0,none⟩)∧b≤g∧w.heap[g]? = some o):u6.getD i false=true→a.tmps[sl i]? ≠ some (.pointer (some ⟨w.heap.size,0,none⟩)):=by
 intro hl e;obtain⟨v,h1,h2⟩:=h.slots i hi hl;obtain⟨g,rfl,_,h3⟩:=hR v w h2;rw[h1]at e;have hg:=(Array.getElem?_eq_some_iff.1 h3).1;injection e with e
 injection e with e
 injection e with e
 injection e with e
 omega
theorem bK {id:Nat}{a:Act}{w:World}(hm:P.follows .mixedOrders=true)(m t:Nat)(sl:Nat→Nat)(R:Nat→Value→World→Prop)(W:World→Prop)(D:Array Bool→Act→Prop)(hs:ops.size=m+t)(hb:zV .any ops=true)(ht:z0h ops m t=true)
 (hD:D (Array.replicate ops.size false) a) (hstart:W w.drew)
 (hstep:∀ u6 a' w k,RInv ops m sl R a W u6 a' w→D u6 a'→k∈Region.ready .any ops u6→k<m→wpOp P ops Q k (fun a' w'=>RInv ops m sl R a W (u6.setIfInBounds k true) a' w'∧D (u6.setIfInBounds k true) a') a' w)
 (hlast:∀ u6 a' w,RInv ops m sl R a W u6 a' w→D u6 a'→(∀ j,j<m→u6.getD j false=true)→iR P ops Q t m a' w):(Code.region id ops true).wp P Q a w:=by
 refine jg hm (fun u6 a' w=>((∀ j,m≤j→u6.getD j false=false)∧RInv ops m sl R a W u6 a' w∧D u6 a')∨(∃ k,k≤t∧u6.size=ops.size∧Closed .any ops u6∧(∀ j,j<m+k→u6.getD j false=true)∧(∀ j,m+k≤j→u6.getD j false=false)∧iR P ops Q (t-k) (m+k) a' w)) (Or.inl ⟨?_,RInv.start hstart,hD⟩) ?_ ?_
 · intro j _
   simp only[Array.getD_eq_getD_getElem?,Array.getElem?_replicate];split<;>rfl
 · rintro u6 a' w i (⟨h1,h2,h0⟩|⟨k,hk,hsz,hc,h1,h2,h3⟩) hi
   · have hlt:=iE hi
     by_cases him:i<m
     · refine wpOp_mono (fun a2 w2 h=>Or.inl ⟨fun j hj=>?_,h⟩) (hstep u6 a' w i h2 h0 hi him)
       rw[getD_set_ne (by omega)];exact h1 j hj
     · have w9:=kU ht (by omega) (by omega) h2.closed hi
       have hie:i=m:=by
        rcases Nat.lt_or_ge m i with h|h
        · have:=w9 m h;rw[h1 m (Nat.le_refl _)]at this;cases this
        · omega
       subst hie;obtain⟨t',rfl⟩:∃ t',t=t'+1:=⟨t-1,by omega⟩;have hz:=h2.size;refine wpOp_mono (fun a2 w2 h=>Or.inr ⟨1,by omega,by simpa using hz,h2.closed.set hi,fun j hj=>?_,fun j hj=>?_,by simpa using h⟩) (hlast u6 a' w h2 h0 w9)
       · by_cases hji:j=i
         · subst hji;exact eG (by omega)
         · rw[getD_set_ne hji];exact w9 j (by omega)
       · rw[getD_set_ne (by omega)];exact h1 j (by omega)
   · have hlt:=iE hi
     have hun:=nX hi
     have hge:m+k≤i:=by
        rcases Nat.lt_or_ge i (m+k) with h|h
        · rw[h1 i h]at hun;cases hun
        · exact h
     have w9:=kU ht (by omega) (by omega) hc hi
     have hie:i=m+k:=by
        rcases Nat.lt_or_ge (m+k) i with h|h
        · have:=w9 _ h;rw[h2 _ (Nat.le_refl _)]at this;cases this
        · omega
     subst hie;obtain⟨t',ht'⟩:∃ t',t-k=t'+1:=⟨t-k-1,by omega⟩;rw[ht']at h3;refine wpOp_mono (fun a2 w2 h=>Or.inr ⟨k+1,by omega,by simpa using hsz,hc.set hi,fun j hj=>?_,fun j hj=>?_,by rw[show t-(k+1)=t' by omega];exact h⟩) h3
     · by_cases hji:j=m+k
       · subst hji;exact eG (by omega)
       · rw[getD_set_ne hji];exact w9 j (by omega)
     · rw[getD_set_ne (by omega)];exact h2 j (by omega)
 · rintro u6 a' w (⟨h1,h2,h0⟩|⟨k,hk,hsz,hc,h1,h2,h3⟩) hr
   · have w9:=jd h2.size hb hr
     have ht0:t=0:=by
        rcases Nat.eq_zero_or_pos t with h|h
        · exact h
        · have:=w9 m (by omega);rw[h1 m (Nat.le_refl _)]at this;cases this
     subst ht0;exact hlast u6 a' w h2 h0 (fun j hj=>w9 j (by omega))
   · have w9:=jd hsz hb hr
     have hkt:k=t:=by
        rcases Nat.lt_or_ge k t with h|h
        · have:=w9 (m+k) (by omega);rw[h2 _ (Nat.le_refl _)]at this;cases this
        · omega
     subst hkt;rw[Nat.sub_self]at h3;exact h3
def butB (ops:Array Oper) (m d:Nat):Bool:=(List.range m).all fun j=>j==d || (List.range (m+1)).any fun k=>decide (j<k)&&(k != d)&&Region.waitsFor .any ops k j
theorem z5t {m d:Nat}(hl:butB ops m d=true)(hdm:d<m)(hc:Closed .any ops u6)(hr:m∈Region.ready .any ops u6):∀ n j,n+j=m→0<n→j≠d→u6.getD j false=true:=by
 intro n
 induction n using Nat.strongRecOn with
 | _ n ih =>
   intro j hj hn hjd;have h1:=List.all_eq_true.1 hl j (List.mem_range.2 (by omega));rw[Bool.or_eq_true]at h1;rcases h1 with h1|h1
   · exact absurd (by simpa using h1) hjd
   · obtain⟨k,hk,h2⟩:=List.any_eq_true.1 h1
     have hk:=List.mem_range.1 hk;rw[Bool.and_eq_true,Bool.and_eq_true,decide_eq_true_iff]at h2;have hkd:k≠d:=by simpa using h2.1.2
     by_cases hkm:k=m
     · subst hkm;exact jl hr h2.2
     · exact hc k j (ih (m-k) (by omega) k (by omega) (by omega) hkd) h2.2
theorem pF {id:Nat}{a:Act}{w:World}(hm:P.follows .mixedOrders=true)(m t d:Nat)(sl:Nat→Nat)(R:Nat→Value→World→Prop)(W:World→Prop)(D:Array Bool→Act→Prop)(hdm:d<m)(ht0:0<t)(hs:ops.size=m+(t+1))(hb:zV .any ops=true)(hbut:butB ops m d=true)(hlb:z0h ops (m+1) t=true)
 (hD:D (Array.replicate ops.size false) a) (hstart:W w.drew)
 (hstep:∀ u6 a' w k,RInv ops m sl R a W u6 a' w→D u6 a'→k∈Region.ready .any ops u6→k<m→wpOp P ops Q k (fun a' w'=>RInv ops m sl R a W (u6.setIfInBounds k true) a' w'∧D (u6.setIfInBounds k true) a') a' w)
 (hlast:∀ u6 a' w,RInv ops m sl R a W u6 a' w→D u6 a'→(∀ j,j<m→u6.getD j false=true)→iR P ops Q (t+1) m a' w)
 (hswap:∀ u6 a' w,RInv ops m sl R a W u6 a' w→D u6 a'→(∀ j,j<m→j≠d→u6.getD j false=true)→wpOp P ops Q m (fun a' w'=>wpOp P ops Q d (fun a' w'=>iR P ops Q t (m+1) a' w') a' w') a' w):(Code.region id ops true).wp P Q a w:=by
 refine jg hm (fun u6 a' w=>u6.size=ops.size∧Closed .any ops u6∧(
  ((∀ j,m≤j→u6.getD j false=false)∧RInv ops m sl R a W u6 a' w∧D u6 a') ∨
  ((∀ j,j<m→j≠d→u6.getD j false=true)∧u6.getD m false=true∧u6.getD d false=false∧(∀ j,m+1≤j→u6.getD j false=false)∧wpOp P ops Q d (fun a' w'=>iR P ops Q t (m+1) a' w') a' w) ∨
  (∃ k,k≤t∧(∀ j,j<m+1+k→u6.getD j false=true)∧(∀ j,m+1+k≤j→u6.getD j false=false)∧iR P ops Q (t-k) (m+1+k) a' w))) ⟨by simp,oK _,Or.inl ⟨?_,RInv.start hstart,hD⟩⟩ ?_ ?_
 · intro j _
   simp only[Array.getD_eq_getD_getElem?,Array.getElem?_replicate];split<;>rfl
 · rintro u6 a' w i ⟨hsz,hc,h⟩ hi
   have hlt:=iE hi;have hun:=nX hi;have hsz':(u6.setIfInBounds i true).size=ops.size:=by simpa using hsz
   have hc':=hc.set hi;have last:m+1≤i→∀ j,j<i→u6.getD j false=true:=fun e=>kU hlb e (by omega) hc hi;rcases h with⟨h1,h2,h0⟩|⟨h1,h2,h3,h4,h5⟩|⟨k,hk,h1,h2,h3⟩
   · by_cases him:i<m
     · refine wpOp_mono (fun a2 w2 h=>⟨hsz',hc',Or.inl ⟨fun j hj=>?_,h⟩⟩) (hstep u6 a' w i h2 h0 hi him)
       rw[getD_set_ne (by omega)];exact h1 j hj
     · have hie:i=m:=by
        rcases Nat.lt_or_ge m i with h|h
        · have:=last (by omega) m (by omega);rw[h1 m (Nat.le_refl _)]at this;cases this
        · omega
       subst hie;have w9:∀ j,j<i→j≠d→u6.getD j false=true:=fun j hj hjd=>z5t hbut hdm hc hi (i-j) j (by omega) (by omega) hjd;by_cases hd:u6.getD d false=true
       · refine wpOp_mono (fun a2 w2 h=>⟨hsz',hc',Or.inr (Or.inr ⟨0,by omega,fun j hj=>?_,fun j hj=>?_,by simpa using h⟩)⟩) (hlast u6 a' w h2 h0 (fun j hj=>by
          by_cases hjd:j=d
          · subst hjd;exact hd
          · exact w9 j hj hjd))
         · by_cases hji:j=i
           · subst hji;exact eG (by omega)
           · rw[getD_set_ne hji]
             by_cases hjd:j=d
             · subst hjd;exact hd
             · exact w9 j (by omega) hjd
         · rw[getD_set_ne (by omega)];exact h1 _ (by omega)
       · refine wpOp_mono (fun a2 w2 h=>⟨hsz',hc',Or.inr (Or.inl ⟨fun j hj hjd=>?_,eG (by omega),?_,fun j hj=>?_,h⟩)⟩) (hswap u6 a' w h2 h0 w9)
         · rw[getD_set_ne (by omega)];exact w9 j hj hjd
         · rw[getD_set_ne (by omega)];simpa using hd
         · rw[getD_set_ne (by omega)];exact h1 _ (by omega)
   · have hie:i=d:=by
        by_cases e:m+1≤i
        · have:=last e d (by omega);rw[h3]at this;cases this
        · by_cases e2:i=m
          · subst e2;rw[h2]at hun;cases hun
          · by_cases e3:i=d
            · exact e3
            · rw[h1 i (by omega) e3]at hun;cases hun
     subst hie;refine wpOp_mono (fun a2 w2 h=>⟨hsz',hc',Or.inr (Or.inr ⟨0,by omega,fun j hj=>?_,fun j hj=>?_,by simpa using h⟩)⟩) h5
     · by_cases hji:j=i
       · subst hji;exact eG (by omega)
       · rw[getD_set_ne hji]
         by_cases hjm:j=m
         · subst hjm;exact h2
         · exact h1 j (by omega) hji
     · rw[getD_set_ne (by omega)];exact h4 j (by omega)
   · have hge:m+1+k≤i:=by
        rcases Nat.lt_or_ge i (m+1+k) with h|h
        · rw[h1 i h]at hun;cases hun
        · exact h
     have hie:i=m+1+k:=by
        rcases Nat.lt_or_ge (m+1+k) i with h|h
        · have:=last (by omega) _ h;rw[h2 _ (Nat.le_refl _)]at this;cases this
        · omega
     subst hie;obtain⟨t',ht'⟩:∃ t',t-k=t'+1:=⟨t-k-1,by omega⟩;rw[ht']at h3;refine wpOp_mono (fun a2 w2 h=>⟨hsz',hc',Or.inr (Or.inr ⟨k+1,by omega,fun j hj=>?_,fun j hj=>?_,by rw[show t-(k+1)=t' by omega];exact h⟩)⟩) h3
     · by_cases hji:j=m+1+k
       · subst hji;exact eG (by omega)
       · rw[getD_set_ne hji];exact h1 j (by omega)
     · rw[getD_set_ne (by omega)];exact h2 j (by omega)
 · rintro u6 a' w ⟨hsz,hc,h⟩ hr
   have w9:=jd hsz hb hr;rcases h with⟨h1,h2,h0⟩|⟨h1,h2,h3,h4,h5⟩|⟨k,hk,h1,h2,h3⟩
   · have:=w9 m (by omega);rw[h1 m (Nat.le_refl _)]at this;cases this
   · have:=w9 d (by omega);rw[h3]at this;cases this
   · have hkt:k=t:=by
        rcases Nat.lt_or_ge k t with h|h
        · have:=w9 (m+1+k) (by omega);rw[h2 _ (Nat.le_refl _)]at this;cases this
        · omega
     subst hkt;rw[Nat.sub_self]at h3;exact h3
theorem aF {id:Nat}{ops:Array Oper}{b:Bool}{Q:Exit→Act→World→Prop}{a:Act}{w:World}(F:Act→Act→World→Prop)(h1:(Code.region id ops b).wp P (fun e a' w'=>e=.normal∧F a a' w') a w)(h2:∀ a' w',F a a' w'→Q .normal a' w'):(Code.region id ops b).wp P Q a w :=
 Code.wp_mono (fun e a' w' ⟨he,h⟩=>by subst he;exact h2 a' w' h) h1
end
structure Rel where
 R:Value→World→Prop
 mono:∀ v W W',R v W→Below W.heap.size W W'→R v W'
def Rel.val (u:Value):Rel:=⟨fun v _=>v=u,fun _ _ _ h _=>h⟩
def Rel.ptr (b:Nat) (o:Obj):Rel:=⟨fun v W=>∃ g,v=.pointer (some ⟨g,0,none⟩)∧b≤g∧W.heap[g]? = some o,fun _ W W' ⟨g,e,h,k⟩ hb=>⟨g,e,h,by rw[hb.block g (Array.getElem?_eq_some_iff.1 k).1];exact k⟩⟩
def RelR (L:List Rel) (i:Nat) (v:Value) (W:World):Prop:=(L.getD i (Rel.val undef)).R v W
theorem RelR.mono {L:List Rel}{W W':World}(hb:Below W.heap.size W W')(i:Nat)(v:Value)(h:RelR L i v W):RelR L i v W':=(L.getD i (Rel.val undef)).mono v W W' h hb
