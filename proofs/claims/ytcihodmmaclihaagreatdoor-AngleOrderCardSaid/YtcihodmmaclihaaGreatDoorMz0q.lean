/- Texts of this proof, one behind the other. -/
import Derived.StillTail
import Derived.WalkKit
namespace Go.Gb
open Go
section
variable {P:Program} {ops:Array Oper} {Q:Exit→Act→World→Prop} {md:Region.Mode}
def Closed (md:Region.Mode) (ops:Array Oper) (listed:Array Bool):Prop:=∀ j i,listed.getD j false=true→Region.waitsFor md ops j i=true→listed.getD i false=true
theorem waits_of {j i:Nat}{o:Oper}(ho:ops[j]? = some o)(h:Region.waitsFor md ops j i=true):∃ e∈o.after,Region.binds md e=true∧e.on=i:=by
 obtain⟨o',ho',e,he,hb⟩:=Region.waitsFor_spec h
 obtain rfl:o'=o:=Option.some.inj (ho'.symm.trans ho)
 exact⟨e,he,hb⟩
theorem ready_waits {listed:Array Bool}{j i:Nat}(hj:j∈Region.ready md ops listed)(h:Region.waitsFor md ops j i=true):listed.getD i false=true:=by
 obtain⟨_,o,ho,hall⟩:=mem_ready.1 hj
 obtain⟨e,he,hb,rfl⟩:=waits_of ho h
 exact hall e he hb
theorem ready_un {listed:Array Bool}{j:Nat}(hj:j∈Region.ready md ops listed):listed.getD j true=false:=(mem_ready.1 hj).1
theorem ready_lt {listed:Array Bool}{j:Nat}(hj:j∈Region.ready md ops listed):j<ops.size:=by
 obtain⟨_,o,ho,_⟩:=mem_ready.1 hj
 exact(Array.getElem?_eq_some_iff.1 ho).1
theorem getD_set_cases {listed:Array Bool}{i j:Nat}(h:(listed.setIfInBounds i true).getD j false=true):j=i∨listed.getD j false=true:=by
 by_cases hij:j=i
 · exact Or.inl hij
 · right
   simp only[Array.getD_eq_getD_getElem?]at h ⊢
   rwa [Array.getElem?_setIfInBounds_ne (Ne.symm hij)]at h
theorem getD_set_keep {listed:Array Bool}{i j:Nat}(h:listed.getD j false=true):(listed.setIfInBounds i true).getD j false=true:=by
 simp only[Array.getD_eq_getD_getElem?]at h ⊢
 by_cases hij:i=j
 · subst hij
   rw[Array.getElem?_setIfInBounds_self]
   split
   · rfl
   · rename_i hlt
     rw[Array.getElem?_eq_none (by omega)]at h
     exact h
 · rw[Array.getElem?_setIfInBounds_ne hij];exact h
theorem Closed.set {listed:Array Bool}{i:Nat}(h:Closed md ops listed)(hi:i∈Region.ready md ops listed):Closed md ops (listed.setIfInBounds i true):=by
 intro j k hj hw
 rcases getD_set_cases hj with rfl|hj
 · exact getD_set_keep (ready_waits hi hw)
 · exact getD_set_keep (h j k hj hw)
theorem closed_none (n:Nat):Closed md ops (Array.replicate n false):=by
 intro j i hj _
 exfalso
 simp only[Array.getD_eq_getD_getElem?,Array.getElem?_replicate]at hj
 split at hj<;>simp at hj
theorem wpAny_inv (I:Array Bool→Act→World→Prop)
 (hstep:∀ listed a w i,I listed a w→i∈Region.ready md ops listed→wpOp P ops Q i (fun a' w'=>I (listed.setIfInBounds i true) a' w') a w)
 (hend:∀ listed a w,I listed a w→Region.ready md ops listed=[]→Q .normal a w) :
 ∀ (n:Nat) (U:List Nat) (listed:Array Bool) (a:Act) (w:World),U.length=n→U.Nodup→(∀ i,i∈U↔(i<ops.size∧listed.getD i true=false))→listed.size=ops.size→I listed a w→wpAny P md ops Q n listed a w
 | 0,U,listed,a,w,hn,_,hU,_,hI=>by
   have h0:Region.ready md ops listed=[]:=by
    apply List.eq_nil_iff_forall_not_mem.2
    intro i hi
    have hm:=(hU i).2 ⟨ready_lt hi,ready_un hi⟩
    rw[List.length_eq_zero_iff.1 hn]at hm
    cases hm
   exact⟨h0,hend listed a w hI h0⟩
 | n+1,U,listed,a,w,hn,hd,hU,hs,hI=>by
   refine⟨fun h0=>hend listed a w hI h0,fun i hi=>?_⟩
   refine wpOp_mono (fun a' w' hI'=>?_) (hstep listed a w i hI hi)
   have hm:=(hU i).2 ⟨ready_lt hi,ready_un hi⟩
   refine wpAny_inv I hstep hend n (U.erase i) _ a' w' (by rw[List.length_erase_of_mem hm,hn];rfl) (hd.erase i) (fun j=>?_) (by simpa using hs) hI'
   rw[hd.mem_erase_iff,hU j]
   simp only[Array.getD_eq_getD_getElem?]
   by_cases hij:j=i
   · subst hij
     rw[Array.getElem?_setIfInBounds_self_of_lt (by rw[hs];exact ready_lt hi)]
     simp
   · rw[Array.getElem?_setIfInBounds_ne (Ne.symm hij)]
     simp[hij]
theorem wp_region_inv {id:Nat}{a:Act}{w:World}(hm:P.follows .mixedOrders=true)(I:Array Bool→Act→World→Prop)
 (hstart:I (Array.replicate ops.size false) a w.drew)
 (hstep:∀ listed a w i,I listed a w→i∈Region.ready .any ops listed→wpOp P ops Q i (fun a' w'=>I (listed.setIfInBounds i true) a' w') a w)
 (hend:∀ listed a w,I listed a w→Region.ready .any ops listed=[]→Q .normal a w):(Code.region id ops true).wp P Q a w:=by
 refine wp_region_any hm ?_
 refine wpAny_inv I hstep hend ops.size (List.range ops.size) _ a _ (by simp) List.nodup_range (fun i=>?_) (by simp) hstart
 rw[List.mem_range]
 simp only[Array.getD_eq_getD_getElem?,Array.getElem?_replicate]
 constructor
 · intro h;exact⟨h,by rw[if_pos h];rfl⟩
 · intro h;exact h.1
def backB (md:Region.Mode) (ops:Array Oper):Bool:=(List.range ops.size).all fun j=>match ops[j]? with
 | some o=>o.after.all fun e => !Region.binds md e || decide (e.on<j)
 | none=>true
theorem back_of (hb:backB md ops=true){j i:Nat}(h:Region.waitsFor md ops j i=true):i<j:=by
 obtain⟨o,ho,e,he,hbi,rfl⟩:=Region.waitsFor_spec h
 have hj:j<ops.size:=(Array.getElem?_eq_some_iff.1 ho).1
 have h1:=List.all_eq_true.1 hb j (List.mem_range.2 hj)
 rw[ho]at h1
 simp only at h1
 have h2:=Array.all_eq_true'.1 h1 e he
 rw[hbi]at h2
 simpa using h2
theorem all_listed {listed:Array Bool}(hs:listed.size=ops.size)(hb:backB md ops=true)(h:Region.ready md ops listed=[]):∀ j,j<ops.size→listed.getD j false=true:=by
 intro j
 induction j using Nat.strongRecOn with
 | _ j ih =>
   intro hj
   cases hl:listed.getD j true with
   | true =>
     simp only[Array.getD_eq_getD_getElem?]at hl ⊢
     have hlt:j<listed.size:=by omega
     rw[Array.getElem?_eq_getElem hlt]at hl ⊢
     exact hl
   | false =>
     exfalso
     obtain⟨o,ho⟩:∃ o,ops[j]? = some o:=⟨ops[j],Array.getElem?_eq_getElem hj⟩
     have hr:j∈Region.ready md ops listed:=by
       refine mem_ready.2 ⟨hl,o,ho,fun e he hbi=>?_⟩
       have hw:Region.waitsFor md ops j e.on=true:=by
        unfold Region.waitsFor
        rw[ho]
        simp only
        refine Array.any_eq_true'.2 ⟨e,he,?_⟩
        simp[hbi]
       have h1:=back_of hb hw
       exact ih e.on h1 (by omega)
     rw[h]at hr
     cases hr
theorem ready_un' {listed:Array Bool}{j:Nat}(hj:j∈Region.ready md ops listed):listed.getD j false=false:=by
 have h:=ready_un hj
 simp only[Array.getD_eq_getD_getElem?]at h ⊢
 cases hc:listed[j]? with
 | none=>rw[hc]at h;simp at h
 | some b=>rw[hc]at h;simpa using h
end
end Go.Gb
namespace Go.Gb
open Go Go.RowKit
section
variable {P:Program} {ops:Array Oper} {Q:Exit→Act→World→Prop}
structure RInv (ops:Array Oper) (m:Nat) (sl:Nat→Nat) (R:Nat→Value→World→Prop) (a0:Act) (W:World→Prop) (listed:Array Bool) (a:Act) (w:World):Prop where
 closed:Closed .any ops listed
 size:listed.size=ops.size
 slots:∀ i,i<m→listed.getD i false=true→∃ v,a.tmps[sl i]? = some v∧R i v w
 rest:∀ d,(∀ i,i<m→sl i≠d)→a.tmps[d]? = a0.tmps[d]?
 tsize:a.tmps.size=a0.tmps.size
 defers:a.defers=a0.defers
 world:W w
variable {m:Nat} {sl:Nat→Nat} {R:Nat→Value→World→Prop} {a a0:Act} {W:World→Prop} {listed:Array Bool} {w w':World}
theorem RInv.start (h:W w):RInv ops m sl R a W (Array.replicate ops.size false) a w :=
 ⟨closed_none _,by simp,fun i _ hi=>by
  exfalso
  simp only[Array.getD_eq_getD_getElem?,Array.getElem?_replicate]at hi
  split at hi<;>simp at hi,fun _ _=>rfl,rfl,rfl,h⟩
theorem RInv.put {i d:Nat}{v:Value}(h:RInv ops m sl R a0 W listed a w)(hi:i∈Region.ready .any ops listed)(hm:i<m)(hd:d=sl i)(hlo:d<a0.tmps.size)
 (hinj:∀ j,j<m→sl j=d→j=i) (hv:R i v w') (hR:∀ j u,R j u w→R j u w') (hW:W w'):RInv ops m sl R a0 W (listed.setIfInBounds i true) (a.put (some d) v) w':=by
 subst hd
 have hp:(a.put (some (sl i)) v).tmps=a.tmps.setIfInBounds (sl i) v:=rfl
 have hts:=h.tsize
 refine⟨h.closed.set hi,by simpa using h.size,fun j hj hl=>?_,fun e he=>?_,by rw[hp];simpa using hts,h.defers,hW⟩
 · rw[hp]
   by_cases hji:j=i
   · subst hji
     exact⟨v,by rw[Array.getElem?_setIfInBounds_self_of_lt (by omega)],hv⟩
   · rw[Array.getElem?_setIfInBounds_ne (fun e=>hji (hinj j hj e.symm))]
     rcases getD_set_cases hl with h2|h2
     · exact absurd h2 hji
     · obtain⟨u,h3,h4⟩:=h.slots j hj h2
       exact⟨u,h3,hR j u h4⟩
 · rw[hp,Array.getElem?_setIfInBounds_ne (he i hm)]
   exact h.rest e he
theorem RInv.at {i j:Nat}(h:RInv ops m sl R a0 W listed a w)(hj:j∈Region.ready .any ops listed)(hw:Region.waitsFor .any ops j i=true)(hm:i<m) :
 ∃ v,a.tmps[sl i]? = some v∧R i v w:=h.slots i hm (ready_waits hj hw)
def putL:List (Nat × Value)→Array Value→Array Value
 | [],t=>t
 | p :: ps,t=>putL ps (t.setIfInBounds p.1 p.2)
theorem putL_eq:∀ (L:List (Nat × Value)) (t T:Array Value),T.size=t.size→(∀ p,p∈L→T[p.1]? = some p.2)→(∀ d,(∀ p,p∈L→p.1≠d)→T[d]? = t[d]?)→T=putL L t
 | [],t,T,_,_,h=>Array.ext_getElem? fun d=>h d (fun _ hp=>by cases hp)
 | p :: ps,t,T,hs,h1,h2=>by
   refine putL_eq ps _ T (by simpa using hs) (fun q hq=>h1 q (List.mem_cons_of_mem _ hq)) (fun d hd=>?_)
   have hp:=h1 p List.mem_cons_self
   by_cases hpd:p.1=d
   · subst hpd
     have hlt:p.1<T.size:=(Array.getElem?_eq_some_iff.1 hp).1
     rw[hp,Array.getElem?_setIfInBounds_self_of_lt (by omega)]
   · rw[Array.getElem?_setIfInBounds_ne hpd]
     exact h2 d (fun q hq=>by
       rcases List.mem_cons.1 hq with rfl|hq
       · exact hpd
       · exact hd q hq)
theorem RInv.fin (h:RInv ops m sl R a0 W listed a w)(L:List (Nat × Value))(h1:∀ p,p∈L→a.tmps[p.1]? = some p.2)(h2:∀ d,(∀ p,p∈L→p.1≠d)→∀ i,i<m→sl i≠d):a=⟨putL L a0.tmps,a0.defers⟩:=by
 have ht:=putL_eq L a0.tmps a.tmps h.tsize h1 (fun d hd=>h.rest d (h2 d hd))
 have hd:=h.defers
 cases a
 simp only at ht hd
 rw[ht,hd]
def lastB (ops:Array Oper) (m:Nat):Bool:=(List.range m).all fun j=>(List.range (m+1)).any fun k=>decide (j<k)&&Region.waitsFor .any ops k j
theorem last_all (hl:lastB ops m=true)(hc:Closed .any ops listed)(hr:m∈Region.ready .any ops listed):∀ n j,n+j=m→0<n→listed.getD j false=true:=by
 intro n
 induction n using Nat.strongRecOn with
 | _ n ih =>
   intro j hj hn
   have h1:=List.all_eq_true.1 hl j (List.mem_range.2 (by omega))
   obtain⟨k,hk,h2⟩:=List.any_eq_true.1 h1
   have hk:=List.mem_range.1 hk
   rw[Bool.and_eq_true,decide_eq_true_iff]at h2
   by_cases hkm:k=m
   · subst hkm;exact ready_waits hr h2.2
   · exact hc k j (ih (m-k) (by omega) k (by omega) (by omega)) h2.2
theorem getD_set_ne {listed:Array Bool}{i j:Nat}(h:j≠i):(listed.setIfInBounds i true).getD j false=listed.getD j false:=by
 simp only[Array.getD_eq_getD_getElem?]
 rw[Array.getElem?_setIfInBounds_ne (Ne.symm h)]
theorem getD_set_eq {listed:Array Bool}{i:Nat}(h:i<listed.size):(listed.setIfInBounds i true).getD i false=true:=by
 simp only[Array.getD_eq_getD_getElem?]
 rw[Array.getElem?_setIfInBounds_self_of_lt h]
 rfl
theorem wp_region_last {id:Nat}{a:Act}{w:World}(hm:P.follows .mixedOrders=true)(m:Nat)(sl:Nat→Nat)(R:Nat→Value→World→Prop)(W:World→Prop)(hs:ops.size=m+1)(hb:backB .any ops=true)(hl:lastB ops m=true)
 (hstart:W w.drew)
 (hstep:∀ listed a' w i,RInv ops m sl R a W listed a' w→i∈Region.ready .any ops listed→i<m→wpOp P ops Q i (fun a' w'=>RInv ops m sl R a W (listed.setIfInBounds i true) a' w') a' w)
 (hlast:∀ listed a' w,RInv ops m sl R a W listed a' w→(∀ j,j<m→listed.getD j false=true)→wpOp P ops Q m (fun a' w'=>Q .normal a' w') a' w):(Code.region id ops true).wp P Q a w:=by
 refine wp_region_inv hm (fun listed a' w=>(listed.getD m false=false∧RInv ops m sl R a W listed a' w)∨(listed.size=ops.size∧(∀ j,j<ops.size→listed.getD j false=true)∧Q .normal a' w)) (Or.inl ⟨?_,RInv.start hstart⟩) ?_ ?_
 · simp only[Array.getD_eq_getD_getElem?,Array.getElem?_replicate]
   split<;>rfl
 · rintro listed a' w i (⟨h1,h2⟩|⟨_,h1,_⟩) hi
   · have hlt:=ready_lt hi
     by_cases him:i=m
     · subst him
       have hall:=last_all hl h2.closed hi
       refine wpOp_mono (fun a2 w2 h=>Or.inr ⟨by simpa using h2.size,fun j hj=>?_,h⟩) (hlast listed a' w h2 (fun j hj=>hall (i-j) j (by omega) (by omega)))
       by_cases hji:j=i
       · subst hji;exact getD_set_eq (by have:=h2.size;omega)
       · rw[getD_set_ne hji];exact hall (i-j) j (by omega) (by omega)
     · exact wpOp_mono (fun a2 w2 h=>Or.inl ⟨by rw[getD_set_ne (Ne.symm him)];exact h1,h⟩) (hstep listed a' w i h2 hi (by omega))
   · have:=ready_un' hi
     rw[h1 i (ready_lt hi)]at this
     cases this
 · rintro listed a' w (⟨h1,h2⟩|⟨_,_,h3⟩) hr
   · have:=all_listed h2.size hb hr m (by omega)
     rw[this]at h1
     cases h1
   · exact h3
end
inductive Slot where
 | val (v:Value)
 | row (cs:List Value)
 | ptr (cs:List Value)
def Slot.Ok (b:Nat) (v:Value) (W:World):Slot→Prop
 | .val u=>v=u
 | .row cs=>∃ g,v=.slice (some ⟨g,0,none⟩) cs.length cs.length∧b≤g∧g<W.heap.size∧∀ i x,cs[i]? = some x→W.cell? ⟨g,i,none⟩=some x
 | .ptr cs=>∃ g,v=.pointer (some ⟨g,0,none⟩)∧b≤g∧g<W.heap.size∧(∀ i x,cs[i]? = some x→W.cell? ⟨g,i,none⟩=some x)∧(∀ i x,cs[i]? = some x→W.frozen? ⟨g,i,none⟩=false)
theorem Slot.Ok.mono {b:Nat}{v:Value}{W W':World}{s:Slot}(h:s.Ok b v W)(hb:Below W.heap.size W W'):s.Ok b v W':=by
 cases s with
 | val u=>exact h
 | row cs =>
   obtain⟨g,h1,h2,h3,h4⟩:=h
   exact⟨g,h1,h2,Nat.lt_of_lt_of_le h3 hb.size,fun i x hx=>(hb.cell (p:=⟨g,i,none⟩) h3).trans (h4 i x hx)⟩
 | ptr cs =>
   obtain⟨g,h1,h2,h3,h4,h5⟩:=h
   exact⟨g,h1,h2,Nat.lt_of_lt_of_le h3 hb.size,fun i x hx=>(hb.cell (p:=⟨g,i,none⟩) h3).trans (h4 i x hx),fun i x hx=>(hb.frozen (p:=⟨g,i,none⟩) h3).trans (h5 i x hx)⟩
def SlR (b:Nat) (L:List Slot) (i:Nat) (v:Value) (W:World):Prop:=(L.getD i (.val undef)).Ok b v W
theorem SlR.mono {b:Nat}{L:List Slot}{W W':World}(hb:Below W.heap.size W W')(i:Nat)(v:Value)(h:SlR b L i v W):SlR b L i v W':=Slot.Ok.mono h hb
end Go.Gb
