/- texts -/
import Derived.Test.YtoaeaiiabelhkaaGreatDoorMz2q
import Derived.Lib.BufferOwn
namespace Go.Gb
open Go Go.RowKit
section
variable {P:Program} {ops:Array Oper} {Q:Exit→Act→World→Prop}
variable {m:Nat} {sl:Nat→Nat} {R:Nat→Value→World→Prop} {a a0:Act} {W:World→Prop} {u6:Array Bool} {w w':World}
def nH (P:Program) (ops:Array Oper) (Q:Exit→Act→World→Prop):Nat→Nat→Act→World→Prop
 | 0,_,a,w=>Q .normal a w
 | t+1,k,a,w=>wpOp P ops Q k (fun a' w'=>nH P ops Q t (k+1) a' w') a w
theorem aZ {t k:Nat}(h:wpOp P ops Q k (fun a' w'=>nH P ops Q t (k+1) a' w') a w):nH P ops Q (t+1) k a w:=h
theorem aV {k:Nat}(h:Q .normal a w):nH P ops Q 0 k a w:=h
def z4S (ops:Array Oper) (m t:Nat):Bool:=(List.range t).all fun i=>lastB ops (m+i)
theorem xE {m t k:Nat}(ht:z4S ops m t=true)(hk:m≤k)(hkt:k<m+t)(hc:Closed .any ops u6)(hr:k∈Region.ready .any ops u6):∀ j,j<k→u6.getD j false=true:=by
 have h1:=List.all_eq_true.1 ht (k-m) (List.mem_range.2 (by omega));rw[show m+(k-m)=k by omega]at h1;intro j hj;exact z3c h1 hc hr (k-j) j (by omega) (by omega)
end
section
variable {P:Program} {ops:Array Oper} {Q:Exit→Act→World→Prop}
variable {m:Nat} {sl:Nat→Nat} {R:Nat→Value→World→Prop} {a a0:Act} {W:World→Prop} {u6:Array Bool} {w w':World}
def Dst (i j:Nat) (sl:Nat→Nat) (u6:Array Bool) (a:Act):Prop:=u6.getD i false=true→u6.getD j false=true→a.tmps[sl i]? ≠ a.tmps[sl j]?
theorem Dst.start {i j n:Nat}{sl:Nat→Nat}{a:Act}:Dst i j sl (Array.replicate n false) a:=by
 intro h;exfalso
 simp only[Array.getD_eq_getD_getElem?,Array.getElem?_replicate]at h;split at h<;>simp at h
theorem Dst.put {i j k d:Nat}{v:Value}(h:Dst i j sl u6 a)(hi:k≠i)(hj:k≠j)(hd:d=sl k)(si:sl k≠sl i)(sj:sl k≠sl j):Dst i j sl (u6.setIfInBounds k true) (a.put (some d) v):=by
 subst hd;intro h1 h2;rw[getD_set_ne (Ne.symm hi)]at h1;rw[getD_set_ne (Ne.symm hj)]at h2;show(a.tmps.setIfInBounds (sl k) v)[sl i]? ≠ (a.tmps.setIfInBounds (sl k) v)[sl j]?
 rw[Array.getElem?_setIfInBounds_ne si,Array.getElem?_setIfInBounds_ne sj];exact h h1 h2
theorem Dst.left {i j d:Nat}{v:Value}(hij:j≠i)(hd:d=sl i)(sj:sl i≠sl j)(hlt:d<a.tmps.size)(h:u6.getD j false=true→a.tmps[sl j]? ≠ some v):Dst i j sl (u6.setIfInBounds i true) (a.put (some d) v):=by
 subst hd;intro _ h2;rw[getD_set_ne hij]at h2;show(a.tmps.setIfInBounds (sl i) v)[sl i]? ≠ (a.tmps.setIfInBounds (sl i) v)[sl j]?
 rw[Array.getElem?_setIfInBounds_ne sj,Array.getElem?_setIfInBounds_self_of_lt hlt];exact Ne.symm (h h2)
theorem Dst.right {i j d:Nat}{v:Value}(hij:i≠j)(hd:d=sl j)(sj:sl j≠sl i)(hlt:d<a.tmps.size)(h:u6.getD i false=true→a.tmps[sl i]? ≠ some v):Dst i j sl (u6.setIfInBounds j true) (a.put (some d) v):=by
 subst hd;intro h1 _;rw[getD_set_ne hij]at h1;show(a.tmps.setIfInBounds (sl j) v)[sl i]? ≠ (a.tmps.setIfInBounds (sl j) v)[sl j]?
 rw[Array.getElem?_setIfInBounds_ne sj,Array.getElem?_setIfInBounds_self_of_lt hlt];exact h h1
theorem RInv.fresh {i b:Nat}{o:Obj}(h:RInv ops m sl R a0 W u6 a w)(hi:i<m)(hR:∀ v w,R i v w→∃ g,v=.pointer (some ⟨g,0,none⟩)∧b≤g∧w.heap[g]? = some o):u6.getD i false=true→a.tmps[sl i]? ≠ some (.pointer (some ⟨w.heap.size,0,none⟩)):=by
 intro hl e;obtain⟨v,h1,h2⟩:=h.slots i hi hl;obtain⟨g,rfl,_,h3⟩:=hR v w h2;rw[h1]at e;have hg:=(Array.getElem?_eq_some_iff.1 h3).1;injection e with e
 injection e with e
 injection e with e
 injection e with e
 omega
theorem bX {id:Nat}{a:Act}{w:World}(hm:P.follows .mixedOrders=true)(m t:Nat)(sl:Nat→Nat)(R:Nat→Value→World→Prop)(W:World→Prop)(D:Array Bool→Act→Prop)(hs:ops.size=m+t)(hb:z3K .any ops=true)(ht:z4S ops m t=true)
 (hD:D (Array.replicate ops.size false) a) (hstart:W w.drew)
 (hstep:∀ u6 a' w k,RInv ops m sl R a W u6 a' w→D u6 a'→k∈Region.ready .any ops u6→k<m→wpOp P ops Q k (fun a' w'=>RInv ops m sl R a W (u6.setIfInBounds k true) a' w'∧D (u6.setIfInBounds k true) a') a' w)
 (hlast:∀ u6 a' w,RInv ops m sl R a W u6 a' w→D u6 a'→(∀ j,j<m→u6.getD j false=true)→nH P ops Q t m a' w):(Code.region id ops true).wp P Q a w:=by
 refine qF hm (fun u6 a' w=>((∀ j,m≤j→u6.getD j false=false)∧RInv ops m sl R a W u6 a' w∧D u6 a')∨(∃ k,k≤t∧u6.size=ops.size∧Closed .any ops u6∧(∀ j,j<m+k→u6.getD j false=true)∧(∀ j,m+k≤j→u6.getD j false=false)∧nH P ops Q (t-k) (m+k) a' w)) (Or.inl ⟨?_,RInv.start hstart,hD⟩) ?_ ?_
 · intro j _
   simp only[Array.getD_eq_getD_getElem?,Array.getElem?_replicate];split<;>rfl
 · rintro u6 a' w i (⟨h1,h2,h0⟩|⟨k,hk,hsz,hc,h1,h2,h3⟩) hi
   · have hlt:=kL hi
     by_cases him:i<m
     · refine wpOp_mono (fun a2 w2 h=>Or.inl ⟨fun j hj=>?_,h⟩) (hstep u6 a' w i h2 h0 hi him)
       rw[getD_set_ne (by omega)];exact h1 j hj
     · have uu:=xE ht (by omega) (by omega) h2.closed hi
       have hie:i=m:=by
        rcases Nat.lt_or_ge m i with h|h
        · have:=uu m h;rw[h1 m (Nat.le_refl _)]at this;cases this
        · omega
       subst hie;obtain⟨t',rfl⟩:∃ t',t=t'+1:=⟨t-1,by omega⟩;have hz:=h2.size;refine wpOp_mono (fun a2 w2 h=>Or.inr ⟨1,by omega,by simpa using hz,h2.closed.set hi,fun j hj=>?_,fun j hj=>?_,by simpa using h⟩) (hlast u6 a' w h2 h0 uu)
       · by_cases hji:j=i
         · subst hji;exact o5 (by omega)
         · rw[getD_set_ne hji];exact uu j (by omega)
       · rw[getD_set_ne (by omega)];exact h1 j (by omega)
   · have hlt:=kL hi
     have hun:=z0Q hi
     have hge:m+k≤i:=by
        rcases Nat.lt_or_ge i (m+k) with h|h
        · rw[h1 i h]at hun;cases hun
        · exact h
     have uu:=xE ht (by omega) (by omega) hc hi
     have hie:i=m+k:=by
        rcases Nat.lt_or_ge (m+k) i with h|h
        · have:=uu _ h;rw[h2 _ (Nat.le_refl _)]at this;cases this
        · omega
     subst hie;obtain⟨t',ht'⟩:∃ t',t-k=t'+1:=⟨t-k-1,by omega⟩;rw[ht']at h3;refine wpOp_mono (fun a2 w2 h=>Or.inr ⟨k+1,by omega,by simpa using hsz,hc.set hi,fun j hj=>?_,fun j hj=>?_,by rw[show t-(k+1)=t' by omega];exact h⟩) h3
     · by_cases hji:j=m+k
       · subst hji;exact o5 (by omega)
       · rw[getD_set_ne hji];exact uu j (by omega)
     · rw[getD_set_ne (by omega)];exact h2 j (by omega)
 · rintro u6 a' w (⟨h1,h2,h0⟩|⟨k,hk,hsz,hc,h1,h2,h3⟩) hr
   · have uu:=qw h2.size hb hr
     have ht0:t=0:=by
        rcases Nat.eq_zero_or_pos t with h|h
        · exact h
        · have:=uu m (by omega);rw[h1 m (Nat.le_refl _)]at this;cases this
     subst ht0;exact hlast u6 a' w h2 h0 (fun j hj=>uu j (by omega))
   · have uu:=qw hsz hb hr
     have hkt:k=t:=by
        rcases Nat.lt_or_ge k t with h|h
        · have:=uu (m+k) (by omega);rw[h2 _ (Nat.le_refl _)]at this;cases this
        · omega
     subst hkt;rw[Nat.sub_self]at h3;exact h3
theorem ay {id:Nat}{ops:Array Oper}{b:Bool}{Q:Exit→Act→World→Prop}{a:Act}{w:World}(F:Act→Act→World→Prop)(h1:(Code.region id ops b).wp P (fun e a' w'=>e=.normal∧F a a' w') a w)(h2:∀ a' w',F a a' w'→Q .normal a' w'):(Code.region id ops b).wp P Q a w :=
 Code.wp_mono (fun e a' w' ⟨he,h⟩=>by subst he;exact h2 a' w' h) h1
end
structure Rel where
 R:Value→World→Prop
 mono:∀ v W W',R v W→Below W.heap.size W W'→R v W'
def Rel.val (u:Value):Rel:=⟨fun v _=>v=u,fun _ _ _ h _=>h⟩
def Rel.ptr (b:Nat) (o:Obj):Rel:=⟨fun v W=>∃ g,v=.pointer (some ⟨g,0,none⟩)∧b≤g∧W.heap[g]? = some o,fun _ W W' ⟨g,e,h,k⟩ hb=>⟨g,e,h,by rw[hb.block g (Array.getElem?_eq_some_iff.1 k).1];exact k⟩⟩
def RelR (L:List Rel) (i:Nat) (v:Value) (W:World):Prop:=(L.getD i (Rel.val undef)).R v W
theorem RelR.mono {L:List Rel}{W W':World}(hb:Below W.heap.size W W')(i:Nat)(v:Value)(h:RelR L i v W):RelR L i v W':=(L.getD i (Rel.val undef)).mono v W W' h hb
end Go.Gb
namespace Go.Gb
open Go Go.RowKit
section
variable {P:Program} {ops:Array Oper} {Q:Exit→Act→World→Prop}
variable {m:Nat} {sl:Nat→Nat} {R:Nat→Value→World→Prop} {a a0:Act} {W:World→Prop} {u6:Array Bool} {w w':World}
theorem stepH {i:Nat}{o:Oper}{K:Act→World→Prop}(ho:ops[i]? = some o)
 (h:∀ K':Act→World→Prop,Hid (∀ a w,K a w→K' a w)→if Region.wanted o (yielded ops a.tmps)=true then Oper.wp P o a w K' Q else K' (a.put o.dst undef) w):wpOp P ops Q i K a w :=
 wpOp_step ho (fun K' hK=>h K' (Lib.hid hK))
theorem RInv.pv {i d:Nat}{v:Value}(h:RInv ops m sl R a0 W u6 a w)(hi:i∈Region.ready .any ops u6)(hv:R i v w)(hm:i<m:=by decide)(hd:d=sl i:=by rfl)(hlo:d<a0.tmps.size:=by simp)
 (hinj:∀ j,j<m→sl j=d→j=i:=by decide):RInv ops m sl R a0 W (u6.setIfInBounds i true) (a.put (some d) v) w:=h.put hi hm hd hlo hinj hv (fun _ _ k=>k) h.world
theorem RInv.pc {L:List Rel}{w0:World}{i d:Nat}{v:Value}(h:RInv ops m sl (RelR L) a0 (fun W=>Below w0.heap.size w0 W) u6 a w)(hi:i∈Region.ready .any ops u6)(hb:Below w.heap.size w w')(hv:RelR L i v w')(hm:i<m:=by decide)(hd:d=sl i:=by rfl)(hlo:d<a0.tmps.size:=by simp)
 (hinj:∀ j,j<m→sl j=d→j=i:=by decide):RInv ops m sl (RelR L) a0 (fun W=>Below w0.heap.size w0 W) (u6.setIfInBounds i true) (a.put (some d) v) w' :=
 h.put hi hm hd hlo hinj hv (fun j u k=>RelR.mono hb j u k) (h.world.trans (hb.mono h.world.size))
theorem RInv.rv {i j:Nat}{c:Value}(h:RInv ops m sl R a0 W u6 a w)(hj:j∈Region.ready .any ops u6)(hw:Region.waitsFor .any ops j i=true)(hm:i<m)(hR:∀ v,R i v w→v=c):a.tmps[sl i]? = some c:=by
 obtain⟨v,h1,h2⟩:=h.at hj hw hm;rw[h1,hR v h2]
def RV (ops:Array Oper) (u6:Array Bool) (a:Act) (j d:Nat) (c:Value):Prop:=∀ i,i∈Region.ready .any ops u6→Region.waitsFor .any ops i j=true→a.tmps[d]? = some c
theorem RV.g {j d i:Nat}{c:Value}(h:RV ops u6 a j d c)(hi:i∈Region.ready .any ops u6)(hw:Region.waitsFor .any ops i j=true):a.tmps[d]? = some c:=h i hi hw
theorem RInv.rh {j d:Nat}{c:Value}(h:RInv ops m sl R a0 W u6 a w)(hm:j<m:=by decide)(hd:sl j=d:=by rfl)(hR:∀ v,R j v w→v=c:=by exact fun _ h=>h):RV ops u6 a j d c:=by
 subst hd;exact fun i hi hw=>h.rv hi hw hm hR
theorem RInv.sx {c:Value}(h:RInv ops m sl R a0 W u6 a w)(uu:∀ j,j<m→u6.getD j false=true)(i:Nat){d:Nat}(hm:i<m:=by decide)(hd:sl i=d:=by rfl)(hR:∀ v,R i v w→v=c:=by exact fun _ h=>h):a.tmps[d]? = some c:=by
 subst hd;obtain⟨v,h1,h2⟩:=h.slots i hm (uu i hm);rw[h1,hR v h2]
def AllT:List (Nat × Value)→Array Value→Prop
 | [],_=>True
 | p :: t,T=>T[p.1]? = some p.2∧AllT t T
theorem AllT.mem:∀ {L:List (Nat × Value)} {T:Array Value},AllT L T→∀ p,p∈L→T[p.1]? = some p.2
 | _ :: _,_,h,p,hp=>by
   rcases List.mem_cons.1 hp with rfl|hp
   · exact h.1
   · exact AllT.mem h.2 p hp
def cov (m:Nat) (sl:Nat→Nat) (L:List (Nat × Value)):Bool:=(List.range m).all fun i=>L.any fun p=>p.1==sl i
theorem z3D {L:List (Nat × Value)}(h:cov m sl L=true)(d:Nat)(hd:∀ p,p∈L→p.1≠d):∀ i,i<m→sl i≠d:=by
 intro i hi e;have h1:=List.all_eq_true.1 h i (List.mem_range.2 hi);obtain⟨p,hp,h2⟩:=List.any_eq_true.1 h1;exact hd p hp ((beq_iff_eq.1 h2).trans e)
theorem RInv.finx {L:List (Nat × Value)}(h:RInv ops m sl R a0 W u6 a w)(h1:AllT L a.tmps)(h2:cov m sl L=true):a=⟨putL L a0.tmps,a0.defers⟩:=h.fin L h1.mem (z3D h2)
end
theorem RInv.rst {ops:Array Oper}{m:Nat}{sl:Nat→Nat}{R:Nat→Value→World→Prop}{a0 a:Act}{W:World→Prop}{u6:Array Bool}{w:World}{c:Value}(h:RInv ops m sl R a0 W u6 a w)(d:Nat)(h0:a0.tmps[d]? = some c)(hd:∀ i,i<m→sl i≠d:=by decide):a.tmps[d]? = some c:=(h.rest d hd).trans h0
theorem RInv.rg {ops:Array Oper}{m:Nat}{sl:Nat→Nat}{L:List Rel}{a0 a:Act}{W:World→Prop}{u6:Array Bool}{w:World}{c:Value}(h:RInv ops m sl (RelR L) a0 W u6 a w)(j d:Nat)(hL:L.getD j (Rel.val undef)=Rel.val c)(hm:j<m:=by decide)(hd:sl j=d:=by rfl):RV ops u6 a j d c:=h.rh hm hd (fun v k=>by unfold RelR at k;rw[hL]at k;exact k)
theorem RInv.g2 {ops:Array Oper}{m:Nat}{sl:Nat→Nat}{L:List Rel}{a0 a:Act}{W:World→Prop}{u6:Array Bool}{w:World}{c0 c1:Value}(h:RInv ops m sl (RelR L) a0 W u6 a w)(j0 d0 j1 d1:Nat)(l0:L.getD j0 (Rel.val undef)=Rel.val c0:=by rfl)(m0:j0<m:=by decide)(e0:sl j0=d0:=by rfl)(l1:L.getD j1 (Rel.val undef)=Rel.val c1:=by rfl)(m1:j1<m:=by decide)(e1:sl j1=d1:=by rfl):RV ops u6 a j0 d0 c0∧RV ops u6 a j1 d1 c1:=⟨h.rg j0 d0 l0 m0 e0,h.rg j1 d1 l1 m1 e1⟩
theorem RInv.g3 {ops:Array Oper}{m:Nat}{sl:Nat→Nat}{L:List Rel}{a0 a:Act}{W:World→Prop}{u6:Array Bool}{w:World}{c0 c1 c2:Value}(h:RInv ops m sl (RelR L) a0 W u6 a w)(j0 d0 j1 d1 j2 d2:Nat)(l0:L.getD j0 (Rel.val undef)=Rel.val c0:=by rfl)(m0:j0<m:=by decide)(e0:sl j0=d0:=by rfl)(l1:L.getD j1 (Rel.val undef)=Rel.val c1:=by rfl)(m1:j1<m:=by decide)(e1:sl j1=d1:=by rfl)(l2:L.getD j2 (Rel.val undef)=Rel.val c2:=by rfl)(m2:j2<m:=by decide)(e2:sl j2=d2:=by rfl):RV ops u6 a j0 d0 c0∧RV ops u6 a j1 d1 c1∧RV ops u6 a j2 d2 c2:=⟨h.rg j0 d0 l0 m0 e0,h.rg j1 d1 l1 m1 e1,h.rg j2 d2 l2 m2 e2⟩
theorem RInv.g6 {ops:Array Oper}{m:Nat}{sl:Nat→Nat}{L:List Rel}{a0 a:Act}{W:World→Prop}{u6:Array Bool}{w:World}{c0 c1 c2 c3 c4 c5:Value}(h:RInv ops m sl (RelR L) a0 W u6 a w)(j0 d0 j1 d1 j2 d2 j3 d3 j4 d4 j5 d5:Nat)(l0:L.getD j0 (Rel.val undef)=Rel.val c0:=by rfl)(m0:j0<m:=by decide)(e0:sl j0=d0:=by rfl)(l1:L.getD j1 (Rel.val undef)=Rel.val c1:=by rfl)(m1:j1<m:=by decide)(e1:sl j1=d1:=by rfl)(l2:L.getD j2 (Rel.val undef)=Rel.val c2:=by rfl)(m2:j2<m:=by decide)(e2:sl j2=d2:=by rfl)(l3:L.getD j3 (Rel.val undef)=Rel.val c3:=by rfl)(m3:j3<m:=by decide)(e3:sl j3=d3:=by rfl)(l4:L.getD j4 (Rel.val undef)=Rel.val c4:=by rfl)(m4:j4<m:=by decide)(e4:sl j4=d4:=by rfl)(l5:L.getD j5 (Rel.val undef)=Rel.val c5:=by rfl)(m5:j5<m:=by decide)(e5:sl j5=d5:=by rfl):RV ops u6 a j0 d0 c0∧RV ops u6 a j1 d1 c1∧RV ops u6 a j2 d2 c2∧RV ops u6 a j3 d3 c3∧RV ops u6 a j4 d4 c4∧RV ops u6 a j5 d5 c5:=⟨h.rg j0 d0 l0 m0 e0,h.rg j1 d1 l1 m1 e1,h.rg j2 d2 l2 m2 e2,h.rg j3 d3 l3 m3 e3,h.rg j4 d4 l4 m4 e4,h.rg j5 d5 l5 m5 e5⟩
theorem RInv.s2 {ops:Array Oper}{m:Nat}{sl:Nat→Nat}{R:Nat→Value→World→Prop}{a0 a:Act}{W:World→Prop}{u6:Array Bool}{w:World}{c0 c1:Value}(h:RInv ops m sl R a0 W u6 a w)(d0 d1:Nat)(k0:a0.tmps[d0]? = some c0:=by rfl)(e0:∀ i,i<m→sl i≠d0:=by decide)(k1:a0.tmps[d1]? = some c1:=by rfl)(e1:∀ i,i<m→sl i≠d1:=by decide):a.tmps[d0]? = some c0∧a.tmps[d1]? = some c1:=⟨h.rst d0 k0 e0,h.rst d1 k1 e1⟩
theorem RInv.s3 {ops:Array Oper}{m:Nat}{sl:Nat→Nat}{R:Nat→Value→World→Prop}{a0 a:Act}{W:World→Prop}{u6:Array Bool}{w:World}{c0 c1 c2:Value}(h:RInv ops m sl R a0 W u6 a w)(d0 d1 d2:Nat)(k0:a0.tmps[d0]? = some c0:=by rfl)(e0:∀ i,i<m→sl i≠d0:=by decide)(k1:a0.tmps[d1]? = some c1:=by rfl)(e1:∀ i,i<m→sl i≠d1:=by decide)(k2:a0.tmps[d2]? = some c2:=by rfl)(e2:∀ i,i<m→sl i≠d2:=by decide):a.tmps[d0]? = some c0∧a.tmps[d1]? = some c1∧a.tmps[d2]? = some c2:=⟨h.rst d0 k0 e0,h.rst d1 k1 e1,h.rst d2 k2 e2⟩
theorem RV.q {ops:Array Oper}{u6:Array Bool}{a:Act}{j d i:Nat}{c:Value}(h:RV ops u6 a j d c)(hi:i∈Region.ready .any ops u6)(hw:Region.waitsFor .any ops i j=true:=by kernel_rfl):a.tmps[d]? = some c:=h i hi hw
theorem RV.t {ops:Array Oper}{u6:Array Bool}{a:Act}{j d i:Nat}{c:Value}(h:RV ops u6 a j d c)(hi:i∈Region.ready .any ops u6)(hw:Region.waitsFor .any ops i j=true:=by decide +kernel):a.tmps[d]? = some c:=h i hi hw
theorem RInv.pw {ops:Array Oper}{m:Nat}{sl:Nat→Nat}{R:Nat→Value→World→Prop}{a0 a:Act}{W:World→Prop}{u6:Array Bool}{w:World}{i d:Nat}{v:Value}(h:RInv ops m sl R a0 W u6 a w)(hi:i∈Region.ready .any ops u6)(hv:R i v w:=by rfl)(hm:i<m:=by decide)(hd:d=sl i:=by rfl)(hlo:d<a0.tmps.size:=by simp)(hinj:∀ j,j<m→sl j=d→j=i:=by decide):RInv ops m sl R a0 W (u6.setIfInBounds i true) (a.put (some d) v) w∧True:=⟨h.pv hi hv hm hd hlo hinj,trivial⟩
theorem aH {P:Program}{ops:Array Oper}{Q:Exit→Act→World→Prop}{id:Nat}{a:Act}{w:World}(m t:Nat)(sl:List Nat)(L:List Rel)
 (hstep:∀ u6 a' w' k,Hid (RInv ops m (fun i=>sl.getD i 0) (RelR L) a (fun W=>Below w.heap.size w W) u6 a' w')→True→Hid (k∈Region.ready .any ops u6)→k<m→wpOp P ops Q k (fun a' w'=>RInv ops m (fun i=>sl.getD i 0) (RelR L) a (fun W=>Below w.heap.size w W) (u6.setIfInBounds k true) a' w'∧True) a' w')
 (hlast:∀ u6 a' w',Hid (RInv ops m (fun i=>sl.getD i 0) (RelR L) a (fun W=>Below w.heap.size w W) u6 a' w')→True→Hid (∀ j,j<m→u6.getD j false=true)→nH P ops Q t m a' w')
 (hm:P.follows .mixedOrders=true:=by kernel_rfl) (hs:ops.size=m+t:=by kernel_rfl) (hb:z3K .any ops=true:=by kernel_rfl) (ht:z4S ops m t=true:=by kernel_rfl):(Code.region id ops true).wp P Q a w :=
 bX hm m t _ _ _ (fun _ _=>True) hs hb ht trivial (Below.refl _ _).drew hstep hlast
end Go.Gb
namespace Go.Gb
open Go.RowKit
structure Kp (S:Nat→Prop) (w w':World):Prop where
 os:w'.os=w.os
 tape:w'.tape=w.tape
 output:w'.output=w.output
 size:w.heap.size≤w'.heap.size
 block:∀ k,k<w.heap.size→¬ S k→w'.heap[k]? = w.heap[k]?
theorem Kp.refl (S:Nat→Prop)(w:World):Kp S w w:=⟨rfl,rfl,rfl,Nat.le_refl _,fun _ _ _=>rfl⟩
theorem Kp.trans {S S':Nat→Prop}{a b c:World}(h:Kp S a b)(k:Kp S' b c)(hs:∀ g,g<a.heap.size→S' g→S g):Kp S a c :=
 ⟨k.os.trans h.os,k.tape.trans h.tape,k.output.trans h.output,Nat.le_trans h.size k.size,fun i hi hn=>(k.block i (Nat.lt_of_lt_of_le hi h.size) (fun h'=>hn (hs i hi h'))).trans (h.block i hi hn)⟩
theorem Kp.mono {S S':Nat→Prop}{a b:World}(h:Kp S a b)(hs:∀ g,S g→S' g):Kp S' a b:=⟨h.os,h.tape,h.output,h.size,fun i hi hn=>h.block i hi (fun h'=>hn (hs i h'))⟩
theorem Kp.of_below {S:Nat→Prop}{a b:World}(h:Below a.heap.size a b):Kp S a b:=⟨h.os,h.tape,h.output,h.size,fun i hi _=>h.block i hi⟩
theorem Kp.below_more {S:Nat→Prop}{a b c:World}(h:Kp S a b)(k:Below b.heap.size b c):Kp S a c:=h.trans (Kp.of_below (S:=fun _=>False) k) (fun _ _ h=>h.elim)
theorem Kp.drew {S:Nat→Prop}{a b:World}(h:Kp S a b):Kp S a b.drew:=⟨h.os,h.tape,h.output,h.size,h.block⟩
theorem Kp.drewN {S:Nat→Prop}{a b:World}(h:Kp S a b)(n:Nat):Kp S a (b.drewN n):=⟨h.os,h.tape,h.output,h.size,h.block⟩
theorem Kp.alloc {S:Nat→Prop}{a b:World}(h:Kp S a b)(o:Obj):Kp S a (b.alloc o):=h.below_more ((Below.refl _ b).alloc (Nat.le_refl _) o)
theorem Kp.grown {S:Nat→Prop}{a b c:World}{row:Option Nat}(h:Kp S a b)(k:b.grownBy c row)(hr:∀ g,row=some g→g<a.heap.size→S g):Kp S a c :=
 ⟨k.os.trans h.os,k.tape.trans h.tape,k.output.trans h.output,Nat.le_trans h.size k.size,fun i hi hn=>(k.block i (Nat.lt_of_lt_of_le hi h.size) (fun h'=>hn (hr i h'.symm hi))).trans (h.block i hi hn)⟩
theorem Kp.set {S:Nat→Prop}{a b:World}(h:Kp S a b){p:Addr}(hp:p.block<a.heap.size→S p.block)(u:Value):Kp S a (b.setCell p u) :=
 ⟨h.os,h.tape,h.output,by simp[World.setCell];exact h.size,fun i hi hn=>(Below.heap_setCell _ _ _ _ (fun e=>hn (by subst e;exact hp hi))).trans (h.block i hi hn)⟩
theorem Kp.below {S:Nat→Prop}{a b:World}{B:Nat}(h:Kp S a b)(hB:B≤a.heap.size)(hS:∀ g,S g→B≤g):Below B a b :=
 ⟨h.os,h.tape,h.output,h.size,fun k hk=>h.block k (Nat.lt_of_lt_of_le hk hB) (fun h'=>by have:=hS k h';omega)⟩
theorem Kp.cell {S:Nat→Prop}{w w':World}(h:Kp S w w'){b o:Nat}(hb:b<w.heap.size)(hn:¬ S b):w'.cell? ⟨b,o,none⟩=w.cell? ⟨b,o,none⟩:=World.cell?_of_block (w:=w) (h.block b hb hn)
theorem Kp.frozen {S:Nat→Prop}{w w':World}(h:Kp S w w'){b o:Nat}(hb:b<w.heap.size)(hn:¬ S b):w'.frozen? ⟨b,o,none⟩=w.frozen? ⟨b,o,none⟩:=World.frozen?_of_block (w:=w) (h.block b hb hn)
theorem eY {w:World}{o:Obj}{b k:Nat}(h:b<w.heap.size):(w.alloc o).cell? ⟨b,k,none⟩=w.cell? ⟨b,k,none⟩:=((Below.refl w.heap.size w).alloc (Nat.le_refl _) o).cell (p:=⟨b,k,none⟩) h
theorem nE {w:World}{p:Addr}:w.drew.cell? p=w.cell? p:=rfl
theorem z0k {w:World}{v:Value}{b c i k:Nat}(h:c≠b):(w.setCell ⟨b,i,none⟩ v).cell? ⟨c,k,none⟩=w.cell? ⟨c,k,none⟩:=World.cell?_of_block (w:=w) (Below.heap_setCell w ⟨b,i,none⟩ v c h)
theorem pI {w:World}{cs:Array Value}{T:TypeId}{g k:Nat}(h:g=w.heap.size):(w.alloc (.cells cs T)).cell? ⟨g,k,none⟩=cs[k]? := by subst h;unfold World.cell?;simp only[heap_alloc_new];simp
theorem z4f {w:World}{cs:Array Value}{T:TypeId}{g k:Nat}(h:g=w.heap.size):(w.alloc (.cells cs T)).frozen? ⟨g,k,none⟩=false:=by subst h;unfold World.frozen?;simp only[heap_alloc_new];simp
theorem wbc {W w1:World}(hb:Below W.heap.size W w1):(∀ b o,b<W.heap.size→w1.cell? ⟨b,o,none⟩=W.cell? ⟨b,o,none⟩)∧(∀ b o,b<W.heap.size→w1.frozen? ⟨b,o,none⟩=W.frozen? ⟨b,o,none⟩) :=
 ⟨fun b o h=>hb.cell (p:=⟨b,o,none⟩) h,fun b o h=>hb.frozen (p:=⟨b,o,none⟩) h⟩
def At (v:Value) (g:Nat):Prop:=v.ownBlock=some g
theorem at_nil (n m g:Nat):¬ At (.slice none n m) g:=by simp[At,Value.ownBlock]
theorem fG {b o:Nat}{n c g:Nat}:At (.slice (some ⟨b,o,none⟩) n c) g↔b=g:=by simp[At,Value.ownBlock]
def Apt (v u:Value):Prop:=∀ g,At v g→¬ At u g
theorem Apt.symm {v u:Value}(h:Apt v u):Apt u v:=fun g h1 h2=>h g h2 h1
theorem Apt.nil_left (n m:Nat)(v:Value):Apt (.slice none n m) v:=fun _ h=>(at_nil _ _ _ h).elim
theorem Apt.nil_right (n m:Nat)(v:Value):Apt v (.slice none n m):=(Apt.nil_left n m v).symm
def fT (w:World) (v u:Value):Prop:=∀ g,At u g→At v g∨w.heap.size≤g
theorem fT.refl (w:World)(v:Value):fT w v v:=fun _ h=>Or.inl h
theorem fT.trans {w w':World}{v u t:Value}(h:fT w v u)(k:fT w' u t)(hs:w.heap.size≤w'.heap.size):fT w v t:=fun g hg=>by
 rcases k g hg with h1|h1
 · exact h g h1
 · right;omega
def z6N (w:World) (u:Value):Prop:=∀ g,At u g→w.heap.size≤g
theorem Own.at {k:IntKind}{T:TypeId}{B:Nat}{w:World}{v:Value}{xs:List Nat}(h:Own k T B w v xs){g:Nat}(hg:At v g):B≤g∧g<w.heap.size:=World.ownsRow.lt h g hg
theorem Own.fresh {k:IntKind}{T:TypeId}{w w0:World}{v:Value}{xs:List Nat}(h:Own k T w0.heap.size w v xs):z6N w0 v:=fun _ hg=>(h.at hg).1
theorem Own.kp {k:IntKind}{T:TypeId}{B:Nat}{w w':World}{v:Value}{xs:List Nat}{S:Nat→Prop}(h:Own k T B w v xs)(hk:Kp S w w')(hn:∀ g,At v g→¬ S g):Own k T B w' v xs:=by
 obtain⟨h1,h2⟩:=h;refine⟨h1,?_⟩;rcases h2 with h2|⟨g,cap,cur,hv,hg,hh,r⟩
 · exact Or.inl h2
 · exact Or.inr ⟨g,cap,cur,hv,hg,by rw[hk.block g (Array.getElem?_eq_some_iff.1 hh).1 (hn g (by rw[hv];exact fG.2 rfl))];exact hh,r⟩
theorem Apt.newOr {w:World}{v u t:Value}(h:Apt v t)(hn:fT w v u)(ht:∀ g,At t g→g<w.heap.size):Apt u t:=fun g h1 h2=>by
 rcases hn g h1 with h3|h3
 · exact h g h3 h2
 · have:=ht g h2;omega
theorem Apt.fresh {w:World}{u t:Value}(hn:z6N w u)(ht:∀ g,At t g→g<w.heap.size):Apt u t:=fun g h1 h2=>by
 have:=ht g h2;have:=hn g h1;omega
section
variable {P:Program} (w:World)
theorem uM (base:Nat)(t ty e:TypeId)(i:TypeInfo)(z:Value)(ht:P.underlying t=some (.slice e))(hi:P.info? e=some i)(hz:i.zero=some z)
 (v:Value) (n:Nat) (xs:List Value) (hown:w.ownsRow base e i.size v n xs)
 (a:Addr) (m c:Nat) (news:List Value) (hm0:0<m) (hl:news.length=m*i.size) (hnews:∀ j u,news[j]? = some u→w.cell? (a.add j)=some u) (h1:∀ u∈news,u.oneCell'=true)
 (h63:n+m≤maxLen) (hbytes:(n+m)*i.bytes≤140737488355328) {v':Value} {w':World}
 (hr:(Builtin.append_ #[t,t] ty #[v,.slice (some a) m c]).run P w=.ok v' w'):fT w v v':=by
 have hsmall:n+m≤9223372036854775807:=by simp only[maxLen]at h63;omega
 have new:∀ (u:Value) (l k:Nat),.slice (some ⟨w.heap.size,0,none⟩) l k=v'→fT w u v':=by
  rintro u l k rfl g hg;rw[fG]at hg;exact Or.inr (Nat.le_of_eq hg)
 rcases hown.2 with⟨rfl,rfl⟩|⟨g,cap,cur,rfl,hbg,hg,hnc,hcm,hcs,htake⟩
 · rw[run_append_nil (P:=P) w t ty e i z ht hi hz a m c news hl hnews hm0 (by omega) (by rw[Nat.zero_add]at hbytes;omega)]at hr
   injection hr with e1 e2
   exact new _ _ _ e1
 · by_cases hroom:n+m≤cap
   · rw[run_append_room (P:=P) w t ty e i ht hi g n cap cur hg a m c news hl hnews h1 hroom (by rw[hl,hcs,← Nat.add_mul];exact Nat.mul_le_mul_right _ hroom)]at hr
     injection hr with e1 e2
     subst e1;intro k hk;rw[fG]at hk;exact Or.inl (fG.2 hk)
   · rw[run_append_grow (P:=P) w t ty e i z ht hi hz ⟨g,0,none⟩ n cap xs hown.1 (hown.cells (g:=g) rfl) a m c news hl hnews (by omega) (by omega) (growslice_fits (by omega) hbytes)]at hr
     injection hr with e1 e2
     exact new _ _ _ e1
theorem ji {ops:Array Oper}{rest:List Oper}{o:Oper}{a:Act}{Q:Exit→Act→World→Prop}(hgd:o.guard=none)(s x:Operand)(t:TypeId)
 (ho:o.op=.call { callee:=.builtin .append,args:=#[s,x],argTypes:=#[t,t] })
 (base:Nat) (e:TypeId) (i:TypeInfo) (z:Value) (ht:P.underlying t=some (.slice e)) (hi:P.info? e=some i) (hz:i.zero=some z)
 (hsize:i.size=1) (hby:i.bytes=8) (hzs:z.cells.size=1)
 (v:Value) (n:Nat) (xs:List Value) (hs:a.eval s=v) (hown:w.ownsRow base e 1 v n xs)
 (ad:Addr) (c:Nat) (u:Value) (hx:a.eval x=.slice (some ad) 1 c) (hnews:w.cell? (ad.add 0)=some u) (h1:u.oneCell'=true)
 (h63:n≤1000000) (hbase:base≤w.heap.size)
 (h:∀ v' w',w'.ownsRow base e 1 v' (n+1) (xs++[u])→w.grownBy w' v.ownBlock→fT w v v'→wpList P ops Q rest (a.put o.dst v') w'):wpList P ops Q (o :: rest) a w:=by
 refine wpList_plain hgd fun K hK=>?_
 have hn:∀ j u',[u][j]? = some u'→w.cell? (ad.add j)=some u':=by
  intro j u' hj
  match j,hj with
  | 0,hj=>simp at hj;subst hj;exact hnews
 have hu:∀ u'∈[u],u'.oneCell'=true:=by intro u' hu';simp at hu';subst hu';exact h1
 have hm:n+1≤maxLen:=by unfold maxLen;omega
 obtain⟨v',w',hr,h2,h3,_⟩:=run_append_own (P:=P) w base t o.type e i z 1 8 ht hi hz hsize hby hzs (by omega) v n xs hown ad 1 c [u] rfl hn hu hm (by omega) hbase;have hp:=uM w base t o.type e i z ht hi hz v n xs (by rw[hsize];exact hown) ad 1 c [u] (by omega) (by rw[hsize];rfl) hn hu hm (by rw[hby];omega) hr;unfold Oper.wp execOp
 simp only[ho,resolve,invoke,builtin,Sem.run_bind,Sem.run_pure,Result.andThen_ok,List.map_toArray,List.map_cons,List.map_nil,hs,hx,hr];exact hK _ _ (h v' w' h2 h3 hp)
end
end Go.Gb
namespace Go.Gb
open Go Go.RowKit
def SBk (w:World) (g:Nat) (cs:Array Value) (T:TypeId):Prop:=w.heap[g]? = some (.cells cs T (0,0))
theorem SBk.lt {w:World}{g:Nat}{cs:Array Value}{T:TypeId}(h:SBk w g cs T):g<w.heap.size:=(Array.getElem?_eq_some_iff.1 h).1
theorem SBk.cell {w:World}{g i:Nat}{cs:Array Value}{T:TypeId}{v:Value}(h:SBk w g cs T)(hi:cs[i]? = some v):w.cell? ⟨g,i,none⟩=some v:=by
 unfold SBk at h;simp[World.cell?,h,hi]
theorem SBk.frozen {w:World}{g i:Nat}{cs:Array Value}{T:TypeId}(h:SBk w g cs T):w.frozen? ⟨g,i,none⟩=false:=by
 unfold SBk at h;simp[World.frozen?,h]
theorem SBk.below {w w':World}{g:Nat}{cs:Array Value}{T:TypeId}(h:SBk w g cs T)(hb:Below w.heap.size w w'):SBk w' g cs T:=by
 unfold SBk;rw[hb.block g h.lt];exact h
theorem SBk.new (w:World)(cs:Array Value)(T:TypeId):SBk (w.alloc (.cells cs T)) w.heap.size cs T:=heap_alloc_new _ _
theorem SBk.set {w:World}{g i:Nat}{cs:Array Value}{T:TypeId}(h:SBk w g cs T)(v:Value):SBk (w.setCell ⟨g,i,none⟩ v) g (cs.setIfInBounds i v) T:=by
 unfold SBk at *
 simp only[World.setCell,Array.getElem?_modify,h];simp
theorem SBk.off {w:World}{g g' i:Nat}{cs:Array Value}{T:TypeId}(h:SBk w g cs T)(hg:g≠g')(v:Value):SBk (w.setCell ⟨g',i,none⟩ v) g cs T:=by
 unfold SBk at *
 rw[← h];exact Below.heap_setCell w ⟨g',i,none⟩ v g hg
def bJ (cs:Array Value):Bool:=cs.all fun v=>match v with | .int _ _=>false|_=>true
theorem z19 {cs:Array Value}(h:bJ cs=true){i:Nat}{k:IntKind}{n:Int}:cs[i]? ≠ some (.int k n):=by
 intro e;have:=Array.all_eq_true'.1 h _ (Array.mem_of_getElem? e);simp at this
theorem Rd.set {w:World}{v:Value}{xs:List Nat}{k:IntKind}{g:Nat}{cs:Array Value}{T:TypeId}(h:Rd k w v xs)(hg:SBk w g cs T)(hn:bJ cs=true)(i:Nat)(u:Value):Rd k (w.setCell ⟨g,i,none⟩ u) v xs:=by
 rcases h with h|⟨b',o,c',h1,h2,h3,h4,h5⟩
 · exact Or.inl h
 · refine Or.inr ⟨b',o,c',h1,h2,h3,by simpa [World.setCell] using h4,fun j hj=>?_⟩
   have h6:=h5 j hj
   have hne:b'≠g:=by
    intro e;subst e;unfold SBk at hg
    simp only[World.cell?,hg]at h6;exact z19 hn (by simpa using h6)
   exact(z0k hne).trans h6
theorem ib {P:Program}{c:Code}{Q:Exit→Act→World→Prop}{a:Act}{w:World}(I:World→Prop)(h:I w)(k:∀ W,I W→c.wp P Q a W):c.wp P Q a w:=k w h
def Bx (w:World):List (Array Value × TypeId)→World→Prop
 | [],W=>W=w
 | (cs,T) :: l,W=>Bx (w.alloc (.cells cs T)) l W
def BxI (w:World) (n:Nat):List (Array Value × TypeId)→World→Prop
 | [],W=>Below w.heap.size w W
 | (cs,T) :: l,W=>SBk W n cs T∧BxI w (n+1) l W
theorem uJ (w0:World):∀ (l:List (Array Value × TypeId)) (w W:World) (n:Nat),w.heap.size=n→Below w0.heap.size w0 w→Bx w l W→Below w.heap.size w W∧BxI w0 n l W
 | [],w,W,n,hn,hb,h=>by
   obtain rfl:W=w:=h;exact⟨Below.refl _ _,hb⟩
 | (cs,T) :: l,w,W,n,hn,hb,h=>by
   have h1:=uJ w0 l (w.alloc (.cells cs T)) W (n+1) (by simp[hn]) (hb.alloc hb.size _) h;have h2:Below w.heap.size w W:=((Below.refl w.heap.size w).alloc (Nat.le_refl _) (.cells cs T)).trans (h1.1.mono (by simp));refine⟨h2,?_,h1.2⟩;subst hn;exact(SBk.new w cs T).below h1.1
theorem boxes (w:World)(l:List (Array Value × TypeId))(W:World)(h:Bx w l W):BxI w w.heap.size l W:=(uJ w l w W _ rfl (Below.refl _ _) h).2
theorem av {P:Program}{c:Code}{Q:Exit→Act→World→Prop}{a:Act}{W:World}(w:World)(l:List (Array Value × TypeId))(h:Bx w l W)(k:∀ W,BxI w w.heap.size l W→c.wp P Q a W):c.wp P Q a W:=k W (boxes w l W h)
def storeAll (w:World) (g:Nat):Nat→List Value→World
 | _,[]=>w
 | i,x :: l=>storeAll (w.setCell ⟨g,i,none⟩ x) g (i+1) l
def tL (cs:Array Value):Nat→List Value→Array Value
 | _,[]=>cs
 | i,x :: l=>tL (cs.setIfInBounds i x) (i+1) l
def aU:Value→Bool
 | .int _ _=>false
 | _=>true
theorem z18 {cs:Array Value}(h:bJ cs=true){x:Value}(hx:aU x=true)(i:Nat):bJ (cs.setIfInBounds i x)=true:=by
 unfold bJ at *
 refine Array.all_eq_true'.2 fun y hy=>?_;rcases Array.mem_or_eq_of_mem_setIfInBounds hy with hy|rfl
 · exact Array.all_eq_true'.1 h y hy
 · cases y<;>first|rfl|cases hx
theorem mW {k:IntKind}{v:Value}{xs:List Nat}{g:Nat}{T:TypeId}:∀ (l:List Value) (i:Nat) {w:World} {cs:Array Value},Rd k w v xs→SBk w g cs T→bJ cs=true→l.all aU=true→Rd k (storeAll w g i l) v xs
 | [],_,_,_,h,_,_,_=>h
 | x :: l,i,_,_,h,hg,hn,hl=>by
   rw[List.all_cons,Bool.and_eq_true]at hl;exact mW l (i+1) (h.set hg hn i x) (hg.set x) (z18 hn hl.1 i) hl.2
theorem bK {g:Nat}{T:TypeId}:∀ (l:List Value) (i:Nat) {w:World} {cs:Array Value},SBk w g cs T→SBk (storeAll w g i l) g (tL cs i l) T
 | [],_,_,_,h=>h
 | x :: l,i,_,_,h=>bK l (i+1) (h.set x)
theorem bR {g g':Nat}{cs:Array Value}{T:TypeId}(hg:g≠g'):∀ (l:List Value) (i:Nat) {w:World},SBk w g cs T→SBk (storeAll w g' i l) g cs T
 | [],_,_,h=>h
 | x :: l,i,_,h=>bR hg l (i+1) (h.off hg x)
theorem aj {B g:Nat}{a:World}(hg:B≤g):∀ (l:List Value) (i:Nat) {w:World},Below B a w→Below B a (storeAll w g i l)
 | [],_,_,h=>h
 | x :: l,i,_,h=>aj hg l (i+1) (h.setCell (p:=⟨g,i,none⟩) hg x)
instance {W W':World}{g:Nat}{c:Array Value}{T:TypeId}:Gr (SBk W g c T) W W' (SBk W' g c T):=⟨fun h k=>k.below h⟩
theorem aC {w:World} {g:Nat} {cs:Array Value} {T:TypeId} {x0 x1:Value} (h:SBk w g cs T) (h0:cs[0]?=some x0) (h1:cs[1]?=some x1):w.cell? ⟨g,0,none⟩=some x0∧w.cell? ⟨g,1,none⟩=some x1:=⟨h.cell h0,h.cell h1⟩
theorem aS {w:World} {g:Nat} {cs:Array Value} {T:TypeId} (h:SBk w g cs T):w.frozen? ⟨g,0,none⟩=false∧w.frozen? ⟨g,1,none⟩=false:=⟨h.frozen,h.frozen⟩
theorem aA {w:World} {g:Nat} {cs:Array Value} {T:TypeId} {x0 x1 x2:Value} (h:SBk w g cs T) (h0:cs[0]?=some x0) (h1:cs[1]?=some x1) (h2:cs[2]?=some x2):w.cell? ⟨g,0,none⟩=some x0∧w.cell? ⟨g,1,none⟩=some x1∧w.cell? ⟨g,2,none⟩=some x2:=⟨h.cell h0,h.cell h1,h.cell h2⟩
theorem bC {w:World} {g:Nat} {cs:Array Value} {T:TypeId} (h:SBk w g cs T):w.frozen? ⟨g,0,none⟩=false∧w.frozen? ⟨g,1,none⟩=false∧w.frozen? ⟨g,2,none⟩=false:=⟨h.frozen,h.frozen,h.frozen⟩
theorem bE {w:World} {g:Nat} {cs:Array Value} {T:TypeId} {x0 x1 x2 x3 x4 x5:Value} (h:SBk w g cs T) (h0:cs[0]?=some x0) (h1:cs[1]?=some x1) (h2:cs[2]?=some x2) (h3:cs[3]?=some x3) (h4:cs[4]?=some x4) (h5:cs[5]?=some x5):w.cell? ⟨g,0,none⟩=some x0∧w.cell? ⟨g,1,none⟩=some x1∧w.cell? ⟨g,2,none⟩=some x2∧w.cell? ⟨g,3,none⟩=some x3∧w.cell? ⟨g,4,none⟩=some x4∧w.cell? ⟨g,5,none⟩=some x5:=⟨h.cell h0,h.cell h1,h.cell h2,h.cell h3,h.cell h4,h.cell h5⟩
theorem dP {w:World} {g:Nat} {cs:Array Value} {T:TypeId} (h:SBk w g cs T):w.frozen? ⟨g,0,none⟩=false∧w.frozen? ⟨g,1,none⟩=false∧w.frozen? ⟨g,2,none⟩=false∧w.frozen? ⟨g,3,none⟩=false∧w.frozen? ⟨g,4,none⟩=false∧w.frozen? ⟨g,5,none⟩=false:=⟨h.frozen,h.frozen,h.frozen,h.frozen,h.frozen,h.frozen⟩
end Go.Gb
namespace Go.Gb
def Fac (a b c d:Nat):Prop:=(a=1∧b=0∧c=0∧d=1)∨(a≤b∧c≤d∧1≤c∧b≤d∧a≤c)
theorem Fac.start:Fac 1 0 0 1:=Or.inl ⟨rfl,rfl,rfl,rfl⟩
theorem Fac.step {a b c d q:Nat}(h:Fac a b c d)(hq:1≤q):Fac c d (a+q*c) (b+q*d):=by
 have g1:1*c≤q*c:=Nat.mul_le_mul_right _ hq;have g2:1*d≤q*d:=Nat.mul_le_mul_right _ hq;rcases h with⟨rfl,rfl,rfl,rfl⟩|⟨h1,h2,h3,h4,h5⟩
 · right;omega
 · right
   have g3:q*c≤q*d:=Nat.mul_le_mul_left _ h2;omega
theorem Fac.pos {a b c d:Nat}(h:Fac a b c d):1≤d:=by
 rcases h with⟨_,_,_,h⟩|⟨h1,h2,h3,h4,h5⟩<;>omega
theorem Fac.le {a b c d:Nat}(h:Fac a b c d){K:Nat}(hd:d≤K)(h1:1≤K):a≤K∧b≤K∧c≤K:=by
 rcases h with⟨rfl,rfl,rfl,rfl⟩|⟨h1,h2,h3,h4,h5⟩<;>omega
def Dtm (a b c d:Nat) (o:Bool):Prop:=(o=false→a*d=b*c+1)∧(o=true→b*c=a*d+1)
theorem Dtm.start:Dtm 1 0 0 1 false:=⟨fun _=>rfl,fun h=>by cases h⟩
theorem Dtm.step {a b c d q:Nat}{o:Bool}(h:Dtm a b c d o):Dtm c d (a+q*c) (b+q*d) (!o):=by
 obtain⟨h1,h2⟩:=h;constructor
 · intro ho
   have:=h2 (by cases o<;>simp_all);grind
 · intro ho
   have:=h1 (by cases o<;>simp_all);grind
def Made (a b c d:Nat) (o:Bool) (u v f s:Nat):Prop :=
 (o=false→a*u=b*v+f∧d*v=c*u+s)∧(o=true→b*v=a*u+f∧c*u=d*v+s)
theorem Made.back {a b c d u v f s:Nat}{o:Bool}(h:Made a b c d o u v f s)(hd:Dtm a b c d o):u=d*f+b*s∧v=c*f+a*s:=by
 obtain⟨h1,h2⟩:=h;obtain⟨d1,d2⟩:=hd
 cases o with
 | false =>
   obtain⟨e1,e2⟩:=h1 rfl;have e3:=d1 rfl;constructor
   · have k1:d*(a*u)=d*(b*v)+d*f:=by rw[e1,Nat.mul_add]
     have k2:b*(d*v)=b*(c*u)+b*s:=by rw[e2,Nat.mul_add]
     have k3:d*(a*u)=(b*c+1)*u:=by rw[← e3,← Nat.mul_assoc,Nat.mul_comm d a]
     rw[Nat.add_mul,Nat.one_mul,Nat.mul_assoc]at k3;have k4:d*(b*v)=b*(d*v):=by rw[Nat.mul_left_comm]
     omega
   · have k1:c*(a*u)=c*(b*v)+c*f:=by rw[e1,Nat.mul_add]
     have k2:a*(d*v)=a*(c*u)+a*s:=by rw[e2,Nat.mul_add]
     have k3:a*(d*v)=(b*c+1)*v:=by rw[← e3,← Nat.mul_assoc]
     rw[Nat.add_mul,Nat.one_mul]at k3;have k4:c*(a*u)=a*(c*u):=by rw[Nat.mul_left_comm]
     have k5:c*(b*v)=b*c*v:=by rw[← Nat.mul_assoc,Nat.mul_comm c b]
     omega
 | true =>
   obtain⟨e1,e2⟩:=h2 rfl;have e3:=d2 rfl;constructor
   · have k1:d*(b*v)=d*(a*u)+d*f:=by rw[e1,Nat.mul_add]
     have k2:b*(c*u)=b*(d*v)+b*s:=by rw[e2,Nat.mul_add]
     have k3:b*(c*u)=(a*d+1)*u:=by rw[← e3,← Nat.mul_assoc]
     rw[Nat.add_mul,Nat.one_mul]at k3;have k4:d*(b*v)=b*(d*v):=by rw[Nat.mul_left_comm]
     have k5:d*(a*u)=a*d*u:=by rw[← Nat.mul_assoc,Nat.mul_comm d a]
     omega
   · have k1:c*(b*v)=c*(a*u)+c*f:=by rw[e1,Nat.mul_add]
     have k2:a*(c*u)=a*(d*v)+a*s:=by rw[e2,Nat.mul_add]
     have k3:c*(b*v)=(a*d+1)*v:=by rw[← e3,← Nat.mul_assoc,Nat.mul_comm c b]
     rw[Nat.add_mul,Nat.one_mul]at k3;have k4:c*(a*u)=a*(c*u):=by rw[Nat.mul_left_comm]
     have k5:a*(d*v)=a*d*v:=by rw[← Nat.mul_assoc]
     omega
theorem Made.gcd {a b c d u v f s:Nat}{o:Bool}(h:Made a b c d o u v f s)(hd:Dtm a b c d o):Nat.gcd f s=Nat.gcd u v:=by
 obtain⟨e1,e2⟩:=h.back hd;refine Nat.dvd_antisymm ?_ ?_
 · have g1:=Nat.gcd_dvd_left f s
   have g2:=Nat.gcd_dvd_right f s;refine Nat.dvd_gcd ?_ ?_
   · rw[e1];exact Nat.dvd_add (Nat.dvd_mul_left_of_dvd g1 _) (Nat.dvd_mul_left_of_dvd g2 _)
   · rw[e2];exact Nat.dvd_add (Nat.dvd_mul_left_of_dvd g1 _) (Nat.dvd_mul_left_of_dvd g2 _)
 · have g1:=Nat.gcd_dvd_left u v
   have g2:=Nat.gcd_dvd_right u v;obtain⟨h1,h2⟩:=h;refine Nat.dvd_gcd ?_ ?_
   · cases o with
     | false =>
       obtain⟨e1,e2⟩:=h1 rfl;exact(Nat.dvd_add_right (Nat.dvd_mul_left_of_dvd g2 b)).1 (by rw[← e1];exact Nat.dvd_mul_left_of_dvd g1 a)
     | true =>
       obtain⟨e1,e2⟩:=h2 rfl;exact(Nat.dvd_add_right (Nat.dvd_mul_left_of_dvd g1 a)).1 (by rw[← e1];exact Nat.dvd_mul_left_of_dvd g2 b)
   · cases o with
     | false =>
       obtain⟨e1,e2⟩:=h1 rfl;exact(Nat.dvd_add_right (Nat.dvd_mul_left_of_dvd g1 c)).1 (by rw[← e2];exact Nat.dvd_mul_left_of_dvd g2 d)
     | true =>
       obtain⟨e1,e2⟩:=h2 rfl;exact(Nat.dvd_add_right (Nat.dvd_mul_left_of_dvd g2 d)).1 (by rw[← e2];exact Nat.dvd_mul_left_of_dvd g1 c)
theorem Made.less {a b c d u v f s:Nat}{o:Bool}(h:Made a b c d o u v f s)(hd:Dtm a b c d o)(hs:Fac a b c d)(hb:b≠0)(hu:u≠0)(hfs:s≤f):f+s<u+v:=by
 obtain⟨e1,e2⟩:=h.back hd;rcases hs with⟨_,h0,_,_⟩|⟨h1,h2,h3,h4,h5⟩
 · exact absurd h0 hb
 · have g1:1*f≤d*f:=Nat.mul_le_mul_right _ (by omega)
   have g2:1*f≤c*f:=Nat.mul_le_mul_right _ h3;have g3:1*s≤b*s:=Nat.mul_le_mul_right _ (by omega)
   have hf:f≠0:=by
    intro h0;subst h0;obtain rfl:s=0:=by omega
    omega
   omega
theorem z5v {X Y x y a b c d u v M:Nat}{o:Bool}(h:iI X Y x y a b c d o)(hs:Fac a b c d)(hxy:y≤x)(h1:d≤y)(h2:b+d≤x-y)
 (hu1:X*M≤u) (hu2:u<(X+1)*M) (hv1:Y*M≤v) (hv2:v<(Y+1)*M) :
 (o=false→b*v≤a*u∧c*u≤d*v∧d*v+b*v≤a*u+c*u)∧(o=true→a*u≤b*v∧d*v≤c*u∧c*u+a*u≤b*v+d*v):=by
 have hpos:=hs.pos;obtain⟨_,_,_,k1,k2⟩:=h;obtain⟨e,rfl⟩:∃ e,u=X*M+e:=⟨u-X*M,by omega⟩;obtain⟨g,rfl⟩:∃ g,v=Y*M+g:=⟨v-Y*M,by omega⟩;rw[Nat.add_mul,Nat.one_mul]at hu2 hv2;have he:e<M:=by omega
 have hg:g<M:=by omega
 have m1:(b+d+y)*M≤x*M:=Nat.mul_le_mul_right _ (by omega);rw[Nat.add_mul,Nat.add_mul]at m1;have m2:d*M≤y*M:=Nat.mul_le_mul_right _ h1;have m3:b*g≤b*M:=Nat.mul_le_mul_left _ (by omega);have m4:d*g≤d*M:=Nat.mul_le_mul_left _ (by omega);have m5:d*e≤d*M:=Nat.mul_le_mul_left _ (by omega);have m6:b*e≤b*M:=Nat.mul_le_mul_left _ (by omega);have hcd:c≤d:=by rcases hs with⟨_,_,h,h'⟩|⟨_,h,_,_,_⟩<;>omega
 have m7:c*e≤d*e:=Nat.mul_le_mul_right _ hcd;constructor
 · intro ho
   obtain⟨e1,e2⟩:=k2 ho;have f1:a*(X*M)=b*(Y*M)+x*M:=by rw[← Nat.mul_assoc,e1,Nat.add_mul,Nat.mul_assoc]
   have f2:d*(Y*M)=c*(X*M)+y*M:=by rw[← Nat.mul_assoc,e2,Nat.add_mul,Nat.mul_assoc]
   simp only[Nat.mul_add];omega
 · intro ho
   obtain⟨e1,e2⟩:=k1 ho;have f1:b*(Y*M)=a*(X*M)+x*M:=by rw[← Nat.mul_assoc,e1,Nat.add_mul,Nat.mul_assoc]
   have f2:c*(X*M)=d*(Y*M)+y*M:=by rw[← Nat.mul_assoc,e2,Nat.add_mul,Nat.mul_assoc]
   have hab:a*e≤b*e∨(a=1∧b=0):=by
    rcases hs with⟨h,h',_,_⟩|⟨h,_,_,_,_⟩
    · right;omega
    · left;exact Nat.mul_le_mul_right _ h
   simp only[Nat.mul_add];rcases hab with hab|⟨ha,hb⟩
   · omega
   · subst ha hb
     rw[Nat.zero_mul,Nat.one_mul]at e1;have:x=0:=by omega
     omega
theorem uI {X Y x y a b c d u v M k:Nat}{o:Bool}(h:iI X Y x y a b c d o)(hs:Fac a b c d)(hxy:y≤x)(h1:d≤y)(h2:b+d≤x-y)(hk:0<k)
 (hu1:X*M≤k*u) (hu2:k*u<(X+1)*M) (hv1:Y*M≤k*v) (hv2:k*v<(Y+1)*M) :
 ∃ f s,Made a b c d o u v f s∧s≤f:=by
 obtain⟨c1,c2⟩:=z5v h hs hxy h1 h2 hu1 hu2 hv1 hv2;have cancel:∀ {p q:Nat},k*p≤k*q→p≤q:=fun h=>Nat.le_of_mul_le_mul_left h hk;have sw:∀ (p q:Nat),p*(k*q)=k*(p*q):=fun p q=>Nat.mul_left_comm p k q
 cases o with
 | false =>
   obtain⟨g1,g2,g3⟩:=c1 rfl;rw[sw,sw]at g1 g2;rw[sw,sw,sw,sw,← Nat.mul_add,← Nat.mul_add]at g3;have g1:=cancel g1;have g2:=cancel g2;have g3:=cancel g3;refine⟨a*u-b*v,d*v-c*u,⟨fun _=>⟨by omega,by omega⟩,fun h=>by cases h⟩,by omega⟩
 | true =>
   obtain⟨g1,g2,g3⟩:=c2 rfl;rw[sw,sw]at g1 g2;rw[sw,sw,sw,sw,← Nat.mul_add,← Nat.mul_add]at g3;have g1:=cancel g1;have g2:=cancel g2;have g3:=cancel g3;refine⟨b*v-a*u,c*u-d*v,⟨fun h=>(by cases h),fun _=>⟨by omega,by omega⟩⟩,by omega⟩
theorem yZ {X Y x y a b c d:Nat}{o:Bool}(h:iI X Y x y a b c d o)(hX:X<BB*BB)(hxy:y≤x)(h1:d≤y):d<BB:=by
 obtain⟨h0,_⟩:=h;have g1:d*d≤d*x:=Nat.mul_le_mul_left _ (by omega);rcases Nat.lt_or_ge d BB with h|h
 · exact h
 · have:=Nat.mul_le_mul h h
   omega
def mD (p q:Int) (xs ys os:List Nat) (i:Nat) (k:Int):Prop :=
 os.length=i∧(∀ w∈os,w<BB) ∧ -3000000000≤k∧k≤3000000000∧(ai os:Int)+(BB:Int)^i*k=p*(ai (xs.take i):Int)+q*(ai (ys.take i):Int)
theorem mD.start (p q:Int)(xs ys:List Nat):mD p q xs ys [] 0 0:=⟨rfl,by simp,by omega,by omega,by simp[ai]⟩
theorem prod_bound {p:Int}{x:Nat}(hp1 : -1000000000≤p)(hp2:p≤1000000000)(hx:x<BB) : -999999999000000000≤p*(x:Int)∧p*(x:Int)≤999999999000000000:=by
 have hB:=aG;have h1:p*(x:Int)≤1000000000*(x:Int):=Int.mul_le_mul_of_nonneg_right hp2 (by omega);have h2 : -1000000000*(x:Int)≤p*(x:Int):=Int.mul_le_mul_of_nonneg_right hp1 (by omega);omega
theorem mD.step {p q:Int}{xs ys os:List Nat}{i:Nat}{k:Int}(h:mD p q xs ys os i k)(hx:xs.getD i 0<BB)(hy:ys.getD i 0<BB)(hp1 : -1000000000≤p)(hp2:p≤1000000000)(hq1 : -1000000000≤q)(hq2:q≤1000000000) :
 0≤p*(xs.getD i 0:Int)+q*(ys.getD i 0:Int)+k+3000000000000000000∧p*(xs.getD i 0:Int)+q*(ys.getD i 0:Int)+k+3000000000000000000<6000000000000000000 ∧
 mD p q xs ys (os++[((p*(xs.getD i 0:Int)+q*(ys.getD i 0:Int)+k+3000000000000000000)%1000000000).toNat]) (i+1) ((p*(xs.getD i 0:Int)+q*(ys.getD i 0:Int)+k+3000000000000000000) / 1000000000-3000000000):=by
 obtain⟨h1,h2,h3,h4,h5⟩:=h;have b1:=prod_bound hp1 hp2 hx;have b2:=prod_bound hq1 hq2 hy;have hB:=aG;have t1:=aJ xs i;have t2:=aJ ys i;generalize hpx:p*(xs.getD i 0:Int)=px at *;generalize hqy:q*(ys.getD i 0:Int)=qy at *;refine⟨by omega,by omega,by simp[h1],?_,by omega,by omega,?_⟩
 · intro w hw
   rcases List.mem_append.1 hw with hw|hw
   · exact h2 w hw
   · have hw:=List.mem_singleton.1 hw;omega
 · rw[dI,h1,t1,t2]
   have e1:((((px+qy+k+3000000000000000000)%1000000000).toNat:Nat):Int)+(BB:Int)*((px+qy+k+3000000000000000000) / 1000000000-3000000000)=px+qy+k:=by rw[hB];omega
   have e2:(BB:Int)^i*((((px+qy+k+3000000000000000000)%1000000000).toNat:Nat):Int)+(BB:Int)^(i+1)*((px+qy+k+3000000000000000000) / 1000000000-3000000000)=(BB:Int)^i*(px+qy+k):=by
    rw[Int.pow_succ,Int.mul_assoc,← Int.mul_add,e1]
   generalize ((px+qy+k+3000000000000000000)%1000000000).toNat=r at *;generalize (px+qy+k+3000000000000000000) / 1000000000-3000000000=k' at *;rw[Int.natCast_add,Int.natCast_add,Int.natCast_add,Int.natCast_mul,Int.natCast_mul,Int.natCast_mul,Int.natCast_pow,Int.mul_add,Int.mul_add,Int.mul_left_comm p,Int.mul_left_comm q,hpx,hqy];rw[Int.mul_add,Int.mul_add]at e2;omega
theorem mD.done {p q:Int}{xs ys os:List Nat}{k:Int}{n z:Nat}(h:mD p q xs ys os n k)(hx:xs.length≤n)(hy:ys.length≤n)(hz:p*(ai xs:Int)+q*(ai ys:Int)=(z:Int)) :
 0≤k∧ai (os++ae k.toNat)=z∧∀ w∈os++ae k.toNat,w<BB:=by
 obtain⟨h1,h2,h3,h4,h5⟩:=h;rw[List.take_of_length_le hx,List.take_of_length_le hy,hz]at h5;have hlt:=dS os h2;rw[h1]at hlt
 have hk:0≤k:=by
  rcases Int.lt_or_le k 0 with hk|hk
  · have e:(BB:Int)^n=((BB^n:Nat):Int):=(Int.natCast_pow _ _).symm
    rw[e]at h5;have h6:((BB^n:Nat):Int)*k≤((BB^n:Nat):Int)*(-1):=Int.mul_le_mul_of_nonneg_left (by omega) (by omega);omega
  · exact hk
 refine⟨hk,?_,?_⟩
 · obtain⟨m,rfl⟩:=Int.eq_ofNat_of_zero_le hk
   rw[Int.toNat_natCast,dW,az,h1];have e:(BB:Int)^n=((BB^n:Nat):Int):=(Int.natCast_pow _ _).symm;rw[e,← Int.natCast_mul]at h5;omega
 · intro w hw
   rcases List.mem_append.1 hw with hw|hw
   · exact h2 w hw
   · exact aR _ w hw
theorem jm (xs:List Nat)(h:∀ w∈xs,w<BB)(i:Nat):ai (xs.take i)<BB^i:=by
 have h1:=dS (xs.take i) (fun w hw=>h w (List.mem_of_mem_take hw));have h2:BB^(xs.take i).length≤BB^i:=Nat.pow_le_pow_right bN (by rw[List.length_take];omega);omega
def third (xs:List Nat) (n:Nat):Nat:=if n≥3 then xs.getD (n-3) 0 else 0
def lead (xs:List Nat) (n s:Nat):Nat:=(xs.getD (n-1) 0*BB+xs.getD (n-2) 0)*s+third xs n*s / BB
theorem z2Z {B s t l:Nat}(hB:B=s*t)(ht:0<t):l*s%B+s≤B:=by
 rw[hB,Nat.mul_comm l s,Nat.mul_mod_mul_left];have:=Nat.mod_lt l ht;have h2:s*(l%t+1)≤s*t:=Nat.mul_le_mul_left _ this;rw[Nat.mul_add,Nat.mul_one]at h2;exact h2
theorem kR (xs:List Nat)(h:∀ w∈xs,w<BB)(n s t:Nat)(hn:2≤n)(hl:xs.length≤n)(hst:BB=s*t)(hs:0<s)(ht:0<t) :
 lead xs n s*BB^(n-2)≤s*ai xs∧s*ai xs<(lead xs n s+1)*BB^(n-2):=by
 obtain⟨j,rfl⟩:∃ j,n=j+2:=⟨n-2,by omega⟩;have e0:ai xs=ai (xs.take (j+2)):=by rw[List.take_of_length_le hl]
 rw[e0,aJ xs (j+1),aJ xs j];unfold lead third
 rw[show j+2-1=j+1 by omega,show j+2-2=j by omega];by_cases h3:3≤j+2
 · obtain⟨i,rfl⟩:∃ i,j=i+1:=⟨j-1,by omega⟩
   rw[if_pos h3,show i+1+2-3=i by omega,aJ xs i];have hr:=jm xs h i;have hm:=z2Z (l:=xs.getD i 0) hst ht;have hd:=Nat.div_add_mod (xs.getD i 0*s) BB;generalize xs.getD i 0=l at *;generalize xs.getD (i+1) 0=m at *;generalize xs.getD (i+1+1) 0=hh at *;generalize ai (xs.take i)=r at *;generalize l*s / BB=q at *;generalize l*s%BB=z at *;rw[Nat.pow_succ BB (i+1),Nat.pow_succ BB i];generalize BB^i=P at *;generalize BB=B at *;have f1:s*(r+P*l+P*B*m+P*B*B*hh)=P*B*((hh*B+m)*s)+P*(l*s)+s*r:=by grind
   rw[f1,← hd];have f2:P*z+P*s≤P*B:=by rw[← Nat.mul_add];exact Nat.mul_le_mul_left _ hm
   have f3:s*(r+1)≤s*P:=Nat.mul_le_mul_left _ hr;rw[Nat.mul_add,Nat.mul_one]at f3;have f4:P*(B*q+z)=P*B*q+P*z:=by rw[Nat.mul_add,Nat.mul_assoc]
   have f5:((hh*B+m)*s+q)*(P*B)=P*B*((hh*B+m)*s)+P*B*q:=by grind
   have f6:((hh*B+m)*s+q+1)*(P*B)=P*B*((hh*B+m)*s)+P*B*q+P*B:=by grind
   rw[f4,f5,f6,Nat.mul_comm P s]at *;omega
 · obtain rfl:j=0:=by omega
   rw[if_neg h3];simp only[Nat.zero_mul,Nat.zero_div,Nat.add_zero,List.take_zero,ai,Nat.pow_zero,Nat.one_mul,Nat.mul_one,Nat.zero_add,Nat.pow_one];have:s*(xs.getD 0 0+BB*xs.getD 1 0)=(xs.getD 1 0*BB+xs.getD 0 0)*s:=by grind
   omega
theorem vT {B h m l s t:Nat}(hm:m<B)(hl:l<B)(hst:B=s*t)(hs:0<s)(hh:h*s<B):(h*B+m)*s+l*s / B<B*B:=by
 have hB:0<B:=by omega
 have h1:h<t:=by
  rw[hst,Nat.mul_comm h s]at hh;exact Nat.lt_of_mul_lt_mul_left hh
 have h2:(h+1)*s≤B:=by rw[hst,Nat.mul_comm _ s];exact Nat.mul_le_mul_left _ h1
 have h3:l*s / B<s:=by
  rw[Nat.div_lt_iff_lt_mul hB,Nat.mul_comm s B];exact Nat.mul_lt_mul_of_pos_right hl hs
 have h4:(m+1)*s≤B*s:=Nat.mul_le_mul_right _ hm;have h5:(h+1)*s*B≤B*B:=Nat.mul_le_mul_right _ h2;have e1:(h*B+m)*s=h*s*B+m*s:=by grind
 have e2:(h+1)*s*B=h*s*B+B*s:=by grind
 rw[Nat.add_mul,Nat.one_mul]at h4;omega
theorem yV (xs ys:List Nat)(hx:∀ w∈xs,w<BB)(n:Nat)(hn:1≤n)(hlx:xs.length≤n)(hly:ys.length≤n)(h:ai ys≤ai xs):ys.getD (n-1) 0≤xs.getD (n-1) 0:=by
 obtain⟨j,rfl⟩:∃ j,n=j+1:=⟨n-1,by omega⟩;have e1:ai xs=ai (xs.take (j+1)):=by rw[List.take_of_length_le hlx]
 have e2:ai ys=ai (ys.take (j+1)):=by rw[List.take_of_length_le hly]
 rw[e1,e2,aJ,aJ]at h;have hr:=jm xs hx j;rw[show j+1-1=j by omega];rcases Nat.lt_or_ge (xs.getD j 0) (ys.getD j 0) with g|g
 · have:BB^j*(xs.getD j 0+1)≤BB^j*ys.getD j 0:=Nat.mul_le_mul_left _ g
   rw[Nat.mul_add,Nat.mul_one]at this;omega
 · exact g
def Ten (s:Nat):Prop:=∃ k,k≤9∧s=10^k
theorem Ten.one:Ten 1:=⟨0,by omega,rfl⟩
theorem Ten.pos {s:Nat}(h:Ten s):0<s:=by
 obtain⟨k,_,rfl⟩:=h;exact Nat.pow_pos (by decide)
theorem Ten.room {s:Nat}(h:Ten s):∃ t,0<t∧BB=s*t:=by
 obtain⟨k,hk,rfl⟩:=h;refine⟨10^(9-k),Nat.pow_pos (by decide),?_⟩;rw[← Nat.pow_add,show k+(9-k)=9 by omega,aG]
theorem Ten.step {s h:Nat}(hs:Ten s)(h0:1≤h)(hlt:h*s*10<BB):Ten (s*10):=by
 obtain⟨k,hk,rfl⟩:=hs;refine⟨k+1,?_,by rw[Nat.pow_succ]⟩;rcases Nat.lt_or_ge k 9 with h9|h9
 · omega
 · obtain rfl:k=9:=by omega
   have h1:1*10^9≤h*10^9:=Nat.mul_le_mul_right _ h0;rw[aG]at hlt;omega
theorem Made.even {a b c d u v f s:Nat}(h:Made a b c d false u v f s):(a:Int)*(u:Int) + -(b:Int)*(v:Int)=(f:Int) ∧ -(c:Int)*(u:Int)+(d:Int)*(v:Int)=(s:Int):=by
 obtain⟨e1,e2⟩:=h.1 rfl;have f1:(a:Int)*(u:Int)=(b:Int)*(v:Int)+(f:Int):=by exact_mod_cast e1
 have f2:(d:Int)*(v:Int)=(c:Int)*(u:Int)+(s:Int):=by exact_mod_cast e2
 rw[Int.neg_mul,Int.neg_mul];omega
theorem Made.odd {a b c d u v f s:Nat}(h:Made a b c d true u v f s) : -(a:Int)*(u:Int)+(b:Int)*(v:Int)=(f:Int)∧(c:Int)*(u:Int) + -(d:Int)*(v:Int)=(s:Int):=by
 obtain⟨e1,e2⟩:=h.2 rfl;have f1:(b:Int)*(v:Int)=(a:Int)*(u:Int)+(f:Int):=by exact_mod_cast e1
 have f2:(c:Int)*(u:Int)=(d:Int)*(v:Int)+(s:Int):=by exact_mod_cast e2
 rw[Int.neg_mul,Int.neg_mul];omega
structure Keeps (I:Nat→Nat→Nat→Nat→Bool→Prop):Prop where
 div:∀ F S P Q n,S≠0→I F S P Q n→I S (F%S) Q (P+F / S*Q) (!n)
 app:∀ F S P Q n a b c d o f s,F≠0→b≠0→Made a b c d o F S f s→Dtm a b c d o→Fac a b c d→s≤f→I F S P Q n→I f s (a*P+b*Q) (c*P+d*Q) (n != o)
 len:∀ F S P Q n,I F S P Q n→(ae F).length≤80000∧(ae S).length≤80000∧(ae P).length≤80000∧(ae Q).length≤80000
def CmI (N F S P Q:Nat) (_:Bool):Prop:=F+S≤N∧P=0∧Q=0
theorem Made.sum {a b c d u v f s:Nat}{o:Bool}(h:Made a b c d o u v f s)(hd:Dtm a b c d o)(hs:Fac a b c d)(hb:b≠0)(hu:u≠0)(hfs:s≤f){N:Nat}(hN:u+v≤N):f+s≤N:=by
 have:=h.less hd hs hb hu hfs;omega
theorem CmI.keeps {N:Nat}(hN:(ae N).length≤80000):Keeps (CmI N):=by
 refine⟨?_,?_,?_⟩
 · rintro F S P Q n hS ⟨h1,rfl,rfl⟩
   have h2:=Nat.mod_le F S;exact⟨by omega,rfl,by simp⟩
 · rintro F S P Q n a b c d o f s hF hb hm hd hf hsf ⟨h1,rfl,rfl⟩
   exact⟨hm.sum hd hf hb hF hsf h1,by simp,by simp⟩
 · rintro F S P Q n ⟨h1,rfl,rfl⟩
   have l1:=aP (show F≤N by omega);have l2:=aP (show S≤N by omega);rw[aQ];simp only[List.length_nil];omega
end Go.Gb
namespace Go.Gb
open Go
theorem xB {xs:List Nat}(hx:∀ x∈xs,x<BB){i:Nat}(hi:xs.length=i+1)(k:Nat):ai xs / 10^(9*i+k)=xs.getD i 0 / 10^k:=by
 have h1:=dw xs i (by omega)
 have h2:ai (xs.drop i)=xs.getD i 0:=by
  rw[fJ (by omega),List.drop_of_length_le (by omega)];simp[ai]
 have hlt:=jm xs hx i;have hB:BB^i=10^(9*i):=by rw[Nat.pow_mul,show BB=10^9 from by rw[aG]]
 rw[h2]at h1;rw[h1,Nat.pow_add,← hB,← Nat.div_div_eq_div_mul,Nat.add_mul_div_left _ _ (Nat.pow_pos bN),Nat.div_eq_of_lt hlt,Nat.zero_add]
def TOut (xs:List Nat) (bs:List UInt8) (i:Nat):Prop :=
 (i<xs.length∧bs=ldig (ai xs) (9*i))∨(i=xs.length∧∃ m,bs=ldig (ai xs) (m+1)∧10^m≤ai xs∧ai xs<10^(m+1))
def TIn (xs:List Nat) (bs:List UInt8) (i k q:Nat):Prop :=
 k≤9∧q=xs.getD i 0 / 10^k∧bs=ldig (ai xs) (9*i+k)∧(k=0∨i+1<xs.length∨xs.getD i 0 / 10^(k-1)≠0)
theorem TOut.zero {xs:List Nat}(h:0<xs.length):TOut xs [] 0:=Or.inl ⟨h,rfl⟩
theorem TIn.start {xs:List Nat}{bs:List UInt8}{i:Nat}(h:TOut xs bs i)(hi:i<xs.length):TIn xs bs i 0 (xs.getD i 0):=by
 rcases h with⟨_,h⟩|⟨h,_⟩
 · exact⟨by omega,by simp,h,Or.inl rfl⟩
 · omega
theorem TIn.len {xs:List Nat}{bs:List UInt8}{i k q:Nat}(h:TIn xs bs i k q):bs.length=9*i+k:=by rw[h.2.2.1,jb]
theorem TIn.lt {xs:List Nat}{bs:List UInt8}{i k q:Nat}(h:TIn xs bs i k q)(hi:i<xs.length)(hx:∀ x∈xs,x<BB):q<1000000000:=by
 have h1:=hx _ (bf hi);rw[aG]at h1;rw[h.2.1];exact Nat.lt_of_le_of_lt (Nat.div_le_self _ _) h1
theorem TIn.step {xs:List Nat}{bs:List UInt8}{i k q:Nat}(h:TIn xs bs i k q)(hi:i<xs.length)(hx:∀ x∈xs,x<BB)(hk:k<9)(hg:i+1<xs.length∨0<q) :
 TIn xs (bs++[UInt8.ofNat (48+q%10)]) i (k+1) (q / 10):=by
 obtain⟨h1,h2,h3,h4⟩:=h;refine⟨by omega,?_,?_,?_⟩
 · rw[h2,Nat.div_div_eq_div_mul,Nat.pow_succ]
 · rw[h3,h2,← yS hx hi hk,← z1j]
   rfl
 · rcases hg with hg|hg
   · exact Or.inr (Or.inl hg)
   · right;right
     rw[Nat.add_sub_cancel,← h2];omega
theorem TIn.done {xs:List Nat}{bs:List UInt8}{i k q:Nat}(h:TIn xs bs i k q)(hi:i<xs.length)(hx:∀ x∈xs,x<BB)(hl:xs.getD (xs.length-1) 0≠0)(hg:k=9∨(i+1=xs.length∧q=0)):TOut xs bs (i+1):=by
 obtain⟨h1,h2,h3,h4⟩:=h;by_cases hlt:i+1<xs.length
 · obtain rfl:k=9:=by omega
   exact Or.inl ⟨hlt,by rw[h3,Nat.mul_add]⟩
 · have hi1:xs.length=i+1:=by omega
   have hw:=hx _ (bf hi);rw[aG]at hw;rw[show xs.length-1=i by omega]at hl
   have hq0:q=0:=by
    rcases hg with hg|hg
    · rw[h2,hg,Nat.div_eq_of_lt (by omega)]
    · exact hg.2
   obtain⟨j,rfl⟩:∃ j,k=j+1:=by
    refine⟨k-1,?_⟩;rcases Nat.eq_zero_or_pos k with h0|h0
    · rw[h0,Nat.pow_zero,Nat.div_one]at h2
      omega
    · omega
   have h5:xs.getD i 0 / 10^j≠0:=by
    rcases h4 with h4|h4|h4
    · omega
    · omega
    · rwa [Nat.add_sub_cancel]at h4
   have e1:=xB hx hi1 j;have e2:=xB hx hi1 (j+1);rw[← h2,hq0]at e2;refine Or.inr ⟨hi1.symm,9*i+j,h3,?_,?_⟩
   · rcases Nat.lt_or_ge (ai xs) (10^(9*i+j)) with h|h
     · rw[Nat.div_eq_of_lt h]at e1
       exact absurd e1.symm h5
     · exact h
   · rcases Nat.lt_or_ge (ai xs) (10^(9*i+(j+1))) with h|h
     · exact h
     · have:=Nat.div_pos h (Nat.pow_pos (by decide))
       omega
theorem TOut.done {xs:List Nat}{bs:List UInt8}(h:TOut xs bs xs.length):bs.reverse=Lib.decDigits (ai xs)∧0<bs.length:=by
 rcases h with⟨h,_⟩|⟨_,m,h1,h2,h3⟩
 · omega
 · rw[h1]
   exact⟨mI m _ h2 h3,by rw[jb];omega⟩
theorem TOut.len {xs:List Nat}{bs:List UInt8}{i:Nat}(h:TOut xs bs i)(hx:∀ x∈xs,x<BB):bs.length≤9*xs.length:=by
 rcases h with⟨h,e⟩|⟨_,m,h1,h2,h3⟩
 · rw[e,jb];omega
 · rw[h1,jb]
   have h4:=dS xs hx;rw[show BB=10^9 from by rw[aG],← Nat.pow_mul]at h4;have h5:10^m<10^(9*xs.length):=by omega
   have:=(Nat.pow_lt_pow_iff_right (by decide:1<10)).1 h5;omega
