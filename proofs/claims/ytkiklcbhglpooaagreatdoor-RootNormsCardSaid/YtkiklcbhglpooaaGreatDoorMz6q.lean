/- texts -/
import Derived.Lib.Hide
import Derived.Carry
import Derived.WalkKit
import Derived.StillTail
namespace Go.Proofs.YtkiklcbhglpooaaGreatDoor
open Go.RowKit
theorem hbt {w a b : World} (h : Hid (Below w.heap.size w a)) (k : Below a.heap.size a b) : Hid (Below w.heap.size w b) := Lib.hid (h.out.trans (k.mono h.out.size))
end Go.Proofs.YtkiklcbhglpooaaGreatDoor
namespace Go.Gb
open Go Go.MapKept Go.RowKit
structure PutAt (b:Nat) (es:Array MapEntry) (clock:Nat) (w w':World):Prop where
 below:Below b w w'
 size:w'.heap.size=w.heap.size
 here:w'.heap[b]? = some (.map es clock)
theorem jE {P:Program}(w:World)(t k e:TypeId)(d:TypeDesc)(ht:P.underlying t=some (.map k e))(hd:P.underlying k=some d)(b:Nat)(es:Array MapEntry)(clock:Nat)
 (hb:w.heap[b]? = some (.map es clock)) (key val:Value) (hk:IsKey d key) (hf:Instr.findNow d key es.toList 0=some none) :
 ∃ w',(Instr.mapUpdate t (.map (some b)) key val).run P w=.ok () w'∧PutAt b (es.push ⟨key,val,clock⟩) (clock+1) w w':=by
 have hrun:(Instr.mapUpdate t (.map (some b)) key val).run P w=.ok () { w with heap:=w.heap.setIfInBounds b (.map (es.push ⟨key,val,clock⟩) (clock+1)) }:=by
  simp[Instr.mapUpdate,run_underlying ht,MapKept.run_getObj_map hb,MapKept.run_checkKey hd hk,MapKept.run_findKey hd hf,MapKept.run_setObj_map _ hb,Result.andThen]
 refine⟨_,hrun,?_⟩
 have hlt:b<w.heap.size:=by
  rcases Nat.lt_or_ge b w.heap.size with h|h
  · exact h
  · rw[Array.getElem?_eq_none h]at hb;cases hb
 refine⟨⟨rfl,rfl,rfl,by simp,fun i hi=>?_⟩,by simp,?_⟩
 · show(w.heap.setIfInBounds b _)[i]? = w.heap[i]?
   rw[Array.getElem?_setIfInBounds_ne (by omega)]
 · show(w.heap.setIfInBounds b _)[b]? = _
   rw[Array.getElem?_setIfInBounds_self_of_lt hlt]
theorem z0Q {P:Program}(w:World)(t k e:TypeId)(d:TypeDesc)(ht:P.underlying t=some (.map k e))(hd:P.underlying k=some d)(b:Nat)(es:Array MapEntry)(clock:Nat)
 (hb:w.heap[b]? = some (.map es clock)) (key:Value) (hk:IsKey d key) (i:Nat) (val:Value) (hf:Instr.findNow d key es.toList 0=some (some (i,val))) :
 (Instr.lookup t (.map (some b)) key false).run P w=.ok val w:=by
 simp[Instr.lookup,run_underlying ht,MapKept.run_getObj_map hb,MapKept.run_checkKey hd hk,MapKept.run_findKey hd hf,Result.andThen]
end Go.Gb
namespace Go.Gb
open Go
section
variable {P:Program} {ops:Array Oper} {Q:Exit→Act→World→Prop} {md:Region.Mode}
def Closed (md:Region.Mode) (ops:Array Oper) (u6:Array Bool):Prop:=∀ j i,u6.getD j false=true→Region.waitsFor md ops j i=true→u6.getD i false=true
theorem z1U {j i:Nat}{o:Oper}(ho:ops[j]? = some o)(h:Region.waitsFor md ops j i=true):∃ e∈o.after,Region.binds md e=true∧e.on=i:=by
 obtain⟨o',ho',e,he,hb⟩:=Region.waitsFor_spec h;obtain rfl:o'=o:=Option.some.inj (ho'.symm.trans ho);exact⟨e,he,hb⟩
theorem ji {u6:Array Bool}{j i:Nat}(hj:j∈Region.ready md ops u6)(h:Region.waitsFor md ops j i=true):u6.getD i false=true:=by
 obtain⟨_,o,ho,w9⟩:=mem_ready.1 hj;obtain⟨e,he,hb,rfl⟩:=z1U ho h;exact w9 e he hb
theorem qW {u6:Array Bool}{j:Nat}(hj:j∈Region.ready md ops u6):u6.getD j true=false:=(mem_ready.1 hj).1
theorem iE {u6:Array Bool}{j:Nat}(hj:j∈Region.ready md ops u6):j<ops.size:=by
 obtain⟨_,o,ho,_⟩:=mem_ready.1 hj;exact(Array.getElem?_eq_some_iff.1 ho).1
theorem ku {u6:Array Bool}{i j:Nat}(h:(u6.setIfInBounds i true).getD j false=true):j=i∨u6.getD j false=true:=by
 by_cases hij:j=i
 · exact Or.inl hij
 · right
   simp only[Array.getD_eq_getD_getElem?]at h ⊢;rwa [Array.getElem?_setIfInBounds_ne (Ne.symm hij)]at h
theorem l9 {u6:Array Bool}{i j:Nat}(h:u6.getD j false=true):(u6.setIfInBounds i true).getD j false=true:=by
 simp only[Array.getD_eq_getD_getElem?]at h ⊢;by_cases hij:i=j
 · subst hij
   rw[Array.getElem?_setIfInBounds_self];split
   · rfl
   · rename_i hlt
     rw[Array.getElem?_eq_none (by omega)]at h;exact h
 · rw[Array.getElem?_setIfInBounds_ne hij];exact h
theorem Closed.set {u6:Array Bool}{i:Nat}(h:Closed md ops u6)(hi:i∈Region.ready md ops u6):Closed md ops (u6.setIfInBounds i true):=by
 intro j k hj hw;rcases ku hj with rfl|hj
 · exact l9 (ji hi hw)
 · exact l9 (h j k hj hw)
theorem o8 (n:Nat):Closed md ops (Array.replicate n false):=by
 intro j i hj _;exfalso
 simp only[Array.getD_eq_getD_getElem?,Array.getElem?_replicate]at hj;split at hj<;>simp at hj
theorem sQ (I:Array Bool→Act→World→Prop)
 (hstep:∀ u6 a w i,I u6 a w→i∈Region.ready md ops u6→wpOp P ops Q i (fun a' w'=>I (u6.setIfInBounds i true) a' w') a w)
 (hend:∀ u6 a w,I u6 a w→Region.ready md ops u6=[]→Q .normal a w) :
 ∀ (n:Nat) (U:List Nat) (u6:Array Bool) (a:Act) (w:World),U.length=n→U.Nodup→(∀ i,i∈U↔(i<ops.size∧u6.getD i true=false))→u6.size=ops.size→I u6 a w→wpAny P md ops Q n u6 a w
 | 0,U,u6,a,w,hn,_,hU,_,hI=>by
   have h0:Region.ready md ops u6=[]:=by
    apply List.eq_nil_iff_forall_not_mem.2
    intro i hi;have hm:=(hU i).2 ⟨iE hi,qW hi⟩;rw[List.length_eq_zero_iff.1 hn]at hm;cases hm
   exact⟨h0,hend u6 a w hI h0⟩
 | n+1,U,u6,a,w,hn,hd,hU,hs,hI=>by
   refine⟨fun h0=>hend u6 a w hI h0,fun i hi=>?_⟩;refine wpOp_mono (fun a' w' hI'=>?_) (hstep u6 a w i hI hi);have hm:=(hU i).2 ⟨iE hi,qW hi⟩;refine sQ I hstep hend n (U.erase i) _ a' w' (by rw[List.length_erase_of_mem hm,hn];rfl) (hd.erase i) (fun j=>?_) (by simpa using hs) hI';rw[hd.mem_erase_iff,hU j];simp only[Array.getD_eq_getD_getElem?];by_cases hij:j=i
   · subst hij
     rw[Array.getElem?_setIfInBounds_self_of_lt (by rw[hs];exact iE hi)];simp
   · rw[Array.getElem?_setIfInBounds_ne (Ne.symm hij)]
     simp[hij]
theorem je {id:Nat}{a:Act}{w:World}(hm:P.follows .mixedOrders=true)(I:Array Bool→Act→World→Prop)
 (hstart:I (Array.replicate ops.size false) a w.drew)
 (hstep:∀ u6 a w i,I u6 a w→i∈Region.ready .any ops u6→wpOp P ops Q i (fun a' w'=>I (u6.setIfInBounds i true) a' w') a w)
 (hend:∀ u6 a w,I u6 a w→Region.ready .any ops u6=[]→Q .normal a w):(Code.region id ops true).wp P Q a w:=by
 refine wp_region_any hm ?_;refine sQ I hstep hend ops.size (List.range ops.size) _ a _ (by simp) List.nodup_range (fun i=>?_) (by simp) hstart;rw[List.mem_range];simp only[Array.getD_eq_getD_getElem?,Array.getElem?_replicate];constructor
 · intro h;exact⟨h,by rw[if_pos h];rfl⟩
 · intro h;exact h.1
def zu (md:Region.Mode) (ops:Array Oper):Bool:=(List.range ops.size).all fun j=>match ops[j]? with
 | some o=>o.after.all fun e => !Region.binds md e || decide (e.on<j)
 | none=>true
theorem z4R (hb:zu md ops=true){j i:Nat}(h:Region.waitsFor md ops j i=true):i<j:=by
 obtain⟨o,ho,e,he,hbi,rfl⟩:=Region.waitsFor_spec h;have hj:j<ops.size:=(Array.getElem?_eq_some_iff.1 ho).1;have h1:=List.all_eq_true.1 hb j (List.mem_range.2 hj);rw[ho]at h1;simp only at h1;have h2:=Array.all_eq_true'.1 h1 e he;rw[hbi]at h2;simpa using h2
theorem jb {u6:Array Bool}(hs:u6.size=ops.size)(hb:zu md ops=true)(h:Region.ready md ops u6=[]):∀ j,j<ops.size→u6.getD j false=true:=by
 intro j
 induction j using Nat.strongRecOn with
 | _ j ih =>
   intro hj
   cases hl:u6.getD j true with
   | true =>
     simp only[Array.getD_eq_getD_getElem?]at hl ⊢;have hlt:j<u6.size:=by omega
     rw[Array.getElem?_eq_getElem hlt]at hl ⊢;exact hl
   | false =>
     exfalso
     obtain⟨o,ho⟩:∃ o,ops[j]? = some o:=⟨ops[j],Array.getElem?_eq_getElem hj⟩
     have hr:j∈Region.ready md ops u6:=by
       refine mem_ready.2 ⟨hl,o,ho,fun e he hbi=>?_⟩
       have hw:Region.waitsFor md ops j e.on=true:=by
        unfold Region.waitsFor
        rw[ho];simp only;refine Array.any_eq_true'.2 ⟨e,he,?_⟩;simp[hbi]
       have h1:=z4R hb hw;exact ih e.on h1 (by omega)
     rw[h]at hr;cases hr
theorem nI {u6:Array Bool}{j:Nat}(hj:j∈Region.ready md ops u6):u6.getD j false=false:=by
 have h:=qW hj;simp only[Array.getD_eq_getD_getElem?]at h ⊢
 cases hc:u6[j]? with
 | none=>rw[hc]at h;simp at h
 | some b=>rw[hc]at h;simpa using h
end
end Go.Gb
namespace Go.Gb
open Go Go.RowKit
section
variable {P:Program} {ops:Array Oper} {Q:Exit→Act→World→Prop}
structure RInv (ops:Array Oper) (m:Nat) (sl:Nat→Nat) (R:Nat→Value→World→Prop) (a0:Act) (W:World→Prop) (u6:Array Bool) (a:Act) (w:World):Prop where
 closed:Closed .any ops u6
 size:u6.size=ops.size
 slots:∀ i,i<m→u6.getD i false=true→∃ v,a.tmps[sl i]? = some v∧R i v w
 rest:∀ d,(∀ i,i<m→sl i≠d)→a.tmps[d]? = a0.tmps[d]?
 tsize:a.tmps.size=a0.tmps.size
 defers:a.defers=a0.defers
 world:W w
variable {m:Nat} {sl:Nat→Nat} {R:Nat→Value→World→Prop} {a a0:Act} {W:World→Prop} {u6:Array Bool} {w w':World}
theorem RInv.start (h:W w):RInv ops m sl R a W (Array.replicate ops.size false) a w :=
 ⟨o8 _,by simp,fun i _ hi=>by
  exfalso
  simp only[Array.getD_eq_getD_getElem?,Array.getElem?_replicate]at hi
  split at hi<;>simp at hi,fun _ _=>rfl,rfl,rfl,h⟩
theorem RInv.put {i d:Nat}{v:Value}(h:RInv ops m sl R a0 W u6 a w)(hi:i∈Region.ready .any ops u6)(hm:i<m)(hd:d=sl i)(hlo:d<a0.tmps.size)
 (hinj:∀ j,j<m→sl j=d→j=i) (hv:R i v w') (hR:∀ j u,R j u w→R j u w') (hW:W w'):RInv ops m sl R a0 W (u6.setIfInBounds i true) (a.put (some d) v) w':=by
 subst hd;have hp:(a.put (some (sl i)) v).tmps=a.tmps.setIfInBounds (sl i) v:=rfl;have hts:=h.tsize;refine⟨h.closed.set hi,by simpa using h.size,fun j hj hl=>?_,fun e he=>?_,by rw[hp];simpa using hts,h.defers,hW⟩
 · rw[hp]
   by_cases hji:j=i
   · subst hji
     exact⟨v,by rw[Array.getElem?_setIfInBounds_self_of_lt (by omega)],hv⟩
   · rw[Array.getElem?_setIfInBounds_ne (fun e=>hji (hinj j hj e.symm))]
     rcases ku hl with h2|h2
     · exact absurd h2 hji
     · obtain⟨u,h3,h4⟩:=h.slots j hj h2
       exact⟨u,h3,hR j u h4⟩
 · rw[hp,Array.getElem?_setIfInBounds_ne (he i hm)]
   exact h.rest e he
theorem RInv.at {i j:Nat}(h:RInv ops m sl R a0 W u6 a w)(hj:j∈Region.ready .any ops u6)(hw:Region.waitsFor .any ops j i=true)(hm:i<m) :
 ∃ v,a.tmps[sl i]? = some v∧R i v w:=h.slots i hm (ji hj hw)
def putL:List (Nat × Value)→Array Value→Array Value
 | [],t=>t
 | p :: ps,t=>putL ps (t.setIfInBounds p.1 p.2)
theorem vz:∀ (L:List (Nat × Value)) (t T:Array Value),T.size=t.size→(∀ p,p∈L→T[p.1]? = some p.2)→(∀ d,(∀ p,p∈L→p.1≠d)→T[d]? = t[d]?)→T=putL L t
 | [],t,T,_,_,h=>Array.ext_getElem? fun d=>h d (fun _ hp=>by cases hp)
 | p :: ps,t,T,hs,h1,h2=>by
   refine vz ps _ T (by simpa using hs) (fun q hq=>h1 q (List.mem_cons_of_mem _ hq)) (fun d hd=>?_);have hp:=h1 p List.mem_cons_self;by_cases hpd:p.1=d
   · subst hpd
     have hlt:p.1<T.size:=(Array.getElem?_eq_some_iff.1 hp).1;rw[hp,Array.getElem?_setIfInBounds_self_of_lt (by omega)]
   · rw[Array.getElem?_setIfInBounds_ne hpd]
     exact h2 d (fun q hq=>by
       rcases List.mem_cons.1 hq with rfl|hq
       · exact hpd
       · exact hd q hq)
theorem RInv.fin (h:RInv ops m sl R a0 W u6 a w)(L:List (Nat × Value))(h1:∀ p,p∈L→a.tmps[p.1]? = some p.2)(h2:∀ d,(∀ p,p∈L→p.1≠d)→∀ i,i<m→sl i≠d):a=⟨putL L a0.tmps,a0.defers⟩:=by
 have ht:=vz L a0.tmps a.tmps h.tsize h1 (fun d hd=>h.rest d (h2 d hd));have hd:=h.defers;cases a
 simp only at ht hd;rw[ht,hd]
def lastB (ops:Array Oper) (m:Nat):Bool:=(List.range m).all fun j=>(List.range (m+1)).any fun k=>decide (j<k)&&Region.waitsFor .any ops k j
theorem z2S (hl:lastB ops m=true)(hc:Closed .any ops u6)(hr:m∈Region.ready .any ops u6):∀ n j,n+j=m→0<n→u6.getD j false=true:=by
 intro n
 induction n using Nat.strongRecOn with
 | _ n ih =>
   intro j hj hn;have h1:=List.all_eq_true.1 hl j (List.mem_range.2 (by omega));obtain⟨k,hk,h2⟩:=List.any_eq_true.1 h1;have hk:=List.mem_range.1 hk;rw[Bool.and_eq_true,decide_eq_true_iff]at h2;by_cases hkm:k=m
   · subst hkm;exact ji hr h2.2
   · exact hc k j (ih (m-k) (by omega) k (by omega) (by omega)) h2.2
theorem getD_set_ne {u6:Array Bool}{i j:Nat}(h:j≠i):(u6.setIfInBounds i true).getD j false=u6.getD j false:=by
 simp only[Array.getD_eq_getD_getElem?];rw[Array.getElem?_setIfInBounds_ne (Ne.symm h)]
theorem eD {u6:Array Bool}{i:Nat}(h:i<u6.size):(u6.setIfInBounds i true).getD i false=true:=by
 simp only[Array.getD_eq_getD_getElem?];rw[Array.getElem?_setIfInBounds_self_of_lt h];rfl
end
inductive Slot where
 | val (v:Value)
 | row (cs:List Value)
 | ptr (cs:List Value)
def Slot.Ok (b:Nat) (v:Value) (W:World):Slot→Prop
 | .val u=>v=u
 | .row cs=>∃ g,v=.slice (some ⟨g,0,none⟩) cs.length cs.length∧b≤g∧g<W.heap.size∧∀ i x,cs[i]? = some x→W.cell? ⟨g,i,none⟩=some x
 | .ptr cs=>∃ g,v=.pointer (some ⟨g,0,none⟩)∧b≤g∧g<W.heap.size∧(∀ i x,cs[i]? = some x→W.cell? ⟨g,i,none⟩=some x)∧(∀ i x,cs[i]? = some x→W.frozen? ⟨g,i,none⟩=false)
theorem Slot.Ok.mono {b:Nat}{v:Value}{W W':World}{s:Slot}(h:s.Ok b v W)(hb:Below W.heap.size W W'):s.Ok b v W':=by
 cases s with
 | val u=>exact h
 | row cs =>
   obtain⟨g,h1,h2,h3,h4⟩:=h;exact⟨g,h1,h2,Nat.lt_of_lt_of_le h3 hb.size,fun i x hx=>(hb.cell (p:=⟨g,i,none⟩) h3).trans (h4 i x hx)⟩
 | ptr cs =>
   obtain⟨g,h1,h2,h3,h4,h5⟩:=h;exact⟨g,h1,h2,Nat.lt_of_lt_of_le h3 hb.size,fun i x hx=>(hb.cell (p:=⟨g,i,none⟩) h3).trans (h4 i x hx),fun i x hx=>(hb.frozen (p:=⟨g,i,none⟩) h3).trans (h5 i x hx)⟩
def SlR (b:Nat) (L:List Slot) (i:Nat) (v:Value) (W:World):Prop:=(L.getD i (.val undef)).Ok b v W
theorem SlR.mono {b:Nat}{L:List Slot}{W W':World}(hb:Below W.heap.size W W')(i:Nat)(v:Value)(h:SlR b L i v W):SlR b L i v W':=Slot.Ok.mono h hb
end Go.Gb
namespace Go.Gb
def isq:Nat→Nat
 | 0=>0
 | n+1=>if (isq n+1)*(isq n+1)≤n+1 then isq n+1 else isq n
theorem iJ:∀ n,isq n*isq n≤n∧n<(isq n+1)*(isq n+1)
 | 0=>by decide
 | n+1=>by
   have⟨h1,h2⟩:=iJ n;unfold isq
   split
   · next h=>exact⟨h,Nat.lt_of_le_of_lt h2 (by grind)⟩
   · next h=>exact⟨by omega,by omega⟩
theorem mW {n s:Nat}(h1:s*s≤n)(h2:n<(s+1)*(s+1)):isq n=s:=by
 have⟨g1,g2⟩:=iJ n;rcases Nat.lt_trichotomy (isq n) s with h|h|h
 · have:=Nat.mul_le_mul (show isq n+1≤s by omega) (show isq n+1≤s by omega)
   omega
 · exact h
 · have:=Nat.mul_le_mul (show s+1≤isq n by omega) (show s+1≤isq n by omega)
   omega
theorem z4F {n:Nat}(h:0<n):0<isq n:=by
 have⟨_,g2⟩:=iJ n;rcases Nat.eq_zero_or_pos (isq n) with h0|h0
 · rw[h0]at g2;omega
 · exact h0
theorem pX (n:Nat):isq n≤n:=by
 have⟨h,_⟩:=iJ n;rcases Nat.eq_zero_or_pos (isq n) with h0|h0
 · omega
 · exact Nat.le_trans (Nat.le_mul_of_pos_left _ h0) h
theorem z4o {a b c d:Rat}(h1:0≤a)(h2:a≤b)(h3:0≤c)(h4:c≤d):a*c≤b*d:=by
 have e1:=Rat.mul_nonneg (show 0≤b-a by grind) h3;have e2:=Rat.mul_nonneg (show 0≤b by grind) (show 0≤d-c by grind);grind
theorem z5m {a b:Rat}(h1:0≤a)(h2:a≤b):a*a≤b*b:=z4o h1 h2 h1 h2
theorem yC {a b:Rat}(hb:0≤b)(h:a*a<b*b):a<b:=by
 rcases Rat.le_total (a:=b) (b:=a) with h1|h1
 · have:=z5m hb h1;grind
 · rcases Rat.le_iff_lt_or_eq.1 h1 with h2|h2
   · exact h2
   · subst h2;grind
def rk (s:Rat):Nat:=isq s.floor.toNat
theorem z4p {s:Rat}(hs:0≤s):((rk s:Nat):Rat)*((rk s:Nat):Rat)≤s∧s<(((rk s:Nat):Rat)+1)*(((rk s:Nat):Rat)+1):=by
 have h0:0≤s.floor:=Rat.le_floor_iff.2 (by simpa using hs);obtain⟨f,hf⟩:∃ f:Nat,s.floor=(f:Int):=⟨s.floor.toNat,by omega⟩;have⟨g1,g2⟩:=iJ f;have e:rk s=isq f:=by unfold rk;rw[hf];rfl
 rw[e];have l1:((f:Int):Rat)≤s:=by rw[← hf];exact Rat.floor_le _
 have l2:s<((f:Int):Rat)+1:=by
  have:=Rat.lt_floor_add_one s;rw[hf]at this;simpa using this
 have c1:((isq f*isq f:Nat):Rat)≤((f:Nat):Rat):=Rat.natCast_le_natCast.2 g1;have c2:(((f+1:Nat)):Rat)≤(((isq f+1)*(isq f+1):Nat):Rat):=Rat.natCast_le_natCast.2 g2;have fc:((f:Int):Rat)=((f:Nat):Rat):=rfl;rw[Rat.natCast_mul]at c1 c2;rw[Rat.natCast_add,Rat.natCast_add]at c2;rw[fc]at l1 l2;constructor
 · grind
 · have:((1:Nat):Rat)=1:=rfl
   grind
theorem dQ (k:Nat):(0:Rat)≤((k:Nat):Rat):=by exact_mod_cast (Rat.natCast_le_natCast.2 (Nat.zero_le k):((0:Nat):Rat)≤((k:Nat):Rat))
theorem z0l {a b:Nat}:((a:Nat):Rat)≤((b:Nat):Rat)↔a≤b:=Rat.natCast_le_natCast
theorem z0k {a b:Nat}:((a:Nat):Rat)<((b:Nat):Rat)↔a<b:=Rat.natCast_lt_natCast
theorem qV {k:Nat}(h:1≤k):(0:Rat)<((k:Nat):Rat):=by
 have:=(z0k (a:=0) (b:=k)).2 h;simpa using this
theorem jY {a b c:Rat}(hc:0<c)(h:a≤b):a / c≤b / c:=by
 rw[Rat.div_def,Rat.div_def];have:=Rat.mul_nonneg (show 0≤b-a by grind) (show 0≤c⁻¹ from Rat.le_of_lt (Rat.inv_pos.2 hc));grind
def eK (x:Rat) (n:Nat):Nat:=rk (x*((n:Rat)*(n:Rat)))
def eX (x:Rat) (n:Nat):Bool:=decide ((eK x n:Rat)*(eK x n:Rat)=x*((n:Rat)*(n:Rat)))
def eH (x:Rat) (n:Nat):Nat:=if eX x n then eK x n else eK x n+1
theorem rU {x:Rat}{n:Nat}(hx:0≤x):(eK x n:Rat)*(eK x n:Rat)≤x*((n:Rat)*(n:Rat))∧x*((n:Rat)*(n:Rat))<((eK x n:Rat)+1)*((eK x n:Rat)+1) :=
 z4p (Rat.mul_nonneg hx (Rat.mul_nonneg (dQ n) (dQ n)))
theorem z1i {x:Rat}{n:Nat}(hx:0≤x):x*((n:Rat)*(n:Rat))≤(eH x n:Rat)*(eH x n:Rat)∧(eX x n=false→(eH x n:Rat)=(eK x n:Rat)+1∧(eK x n:Rat)*(eK x n:Rat)<x*((n:Rat)*(n:Rat))∧x*((n:Rat)*(n:Rat))<(eH x n:Rat)*(eH x n:Rat))∧(eX x n=true→eH x n=eK x n∧(eK x n:Rat)*(eK x n:Rat)=x*((n:Rat)*(n:Rat))):=by
 have⟨h1,h2⟩:=rU (n:=n) hx
 cases h:eX x n with
 | true =>
   have e:eH x n=eK x n:=by unfold eH;rw[h];rfl
   have e2:=of_decide_eq_true h;rw[e];exact⟨by grind,(fun h=>by cases h),fun _=>⟨rfl,e2⟩⟩
 | false =>
   have e:eH x n=eK x n+1:=by unfold eH;rw[h];rfl
   have e2:=of_decide_eq_false h;have e3:((eH x n:Nat):Rat)=(eK x n:Rat)+1:=by rw[e,Rat.natCast_add];rfl
   rw[e3];exact⟨by grind,(fun _=>⟨rfl,by grind,h2⟩),fun h=>by cases h⟩
theorem uj {a b:Nat}(h:(a:Rat)*(a:Rat)<(b:Rat)*(b:Rat)):a<b:=z0k.1 (yC (dQ b) h)
theorem z6t {x:Rat}{n m:Nat}(hx:0≤x)(h:(m:Rat)*(m:Rat)≤x*((n:Rat)*(n:Rat))):m≤eK x n:=by
 have⟨_,h2⟩:=rU (n:=n) hx;have e:((eK x n+1:Nat):Rat)=(eK x n:Rat)+1:=by rw[Rat.natCast_add];rfl
 rw[← e]at h2;have:=uj (a:=m) (b:=eK x n+1) (by grind);omega
