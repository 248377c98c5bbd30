/- Texts of this proof, one behind the other. -/
import Derived.Test.YthjmjlfnpnbonaaGreatDoorMz18q
namespace Go.Gb
open Go Go.RowKit
section
variable {P:Program} {ops:Array Oper} {Q:Exit→Act→World→Prop}
variable {m:Nat} {sl:Nat→Nat} {R:Nat→Value→World→Prop} {a a0:Act} {W:World→Prop} {listed:Array Bool} {w w':World}
def tailWp (P:Program) (ops:Array Oper) (Q:Exit→Act→World→Prop):Nat→Nat→Act→World→Prop
 | 0,_,a,w=>Q .normal a w
 | t+1,k,a,w=>wpOp P ops Q k (fun a' w'=>tailWp P ops Q t (k+1) a' w') a w
theorem tail_succ {t k:Nat}(h:wpOp P ops Q k (fun a' w'=>tailWp P ops Q t (k+1) a' w') a w):tailWp P ops Q (t+1) k a w:=h
theorem tail_nil {k:Nat}(h:Q .normal a w):tailWp P ops Q 0 k a w:=h
def tailB (ops:Array Oper) (m t:Nat):Bool:=(List.range t).all fun i=>lastB ops (m+i)
theorem tail_all {m t k:Nat}(ht:tailB ops m t=true)(hk:m≤k)(hkt:k<m+t)(hc:Closed .any ops listed)(hr:k∈Region.ready .any ops listed):∀ j,j<k→listed.getD j false=true:=by
 have h1:=List.all_eq_true.1 ht (k-m) (List.mem_range.2 (by omega))
 rw[show m+(k-m)=k by omega]at h1
 intro j hj
 exact last_all h1 hc hr (k-j) j (by omega) (by omega)
theorem wp_region_tail {id:Nat}{a:Act}{w:World}(hm:P.follows .mixedOrders=true)(m t:Nat)(sl:Nat→Nat)(R:Nat→Value→World→Prop)(W:World→Prop)(hs:ops.size=m+t)(hb:backB .any ops=true)(ht:tailB ops m t=true)
 (hstart:W w.drew)
 (hstep:∀ listed a' w i,RInv ops m sl R a W listed a' w→i∈Region.ready .any ops listed→i<m→wpOp P ops Q i (fun a' w'=>RInv ops m sl R a W (listed.setIfInBounds i true) a' w') a' w)
 (hlast:∀ listed a' w,RInv ops m sl R a W listed a' w→(∀ j,j<m→listed.getD j false=true)→tailWp P ops Q t m a' w):(Code.region id ops true).wp P Q a w:=by
 refine wp_region_inv hm (fun listed a' w=>((∀ j,m≤j→listed.getD j false=false)∧RInv ops m sl R a W listed a' w)∨(∃ k,k≤t∧listed.size=ops.size∧Closed .any ops listed∧(∀ j,j<m+k→listed.getD j false=true)∧(∀ j,m+k≤j→listed.getD j false=false)∧tailWp P ops Q (t-k) (m+k) a' w)) (Or.inl ⟨?_,RInv.start hstart⟩) ?_ ?_
 · intro j _
   simp only[Array.getD_eq_getD_getElem?,Array.getElem?_replicate]
   split<;>rfl
 · rintro listed a' w i (⟨h1,h2⟩|⟨k,hk,hsz,hc,h1,h2,h3⟩) hi
   · have hlt:=ready_lt hi
     by_cases him:i<m
     · refine wpOp_mono (fun a2 w2 h=>Or.inl ⟨fun j hj=>?_,h⟩) (hstep listed a' w i h2 hi him)
       rw[getD_set_ne (by omega)];exact h1 j hj
     · have hall:=tail_all ht (by omega) (by omega) h2.closed hi
       have hie:i=m:=by
        rcases Nat.lt_or_ge m i with h|h
        · have:=hall m h;rw[h1 m (Nat.le_refl _)]at this;cases this
        · omega
       subst hie
       obtain⟨t',rfl⟩:∃ t',t=t'+1:=⟨t-1,by omega⟩
       have hz:=h2.size
       refine wpOp_mono (fun a2 w2 h=>Or.inr ⟨1,by omega,by simpa using hz,h2.closed.set hi,fun j hj=>?_,fun j hj=>?_,by simpa using h⟩) (hlast listed a' w h2 hall)
       · by_cases hji:j=i
         · subst hji;exact getD_set_eq (by omega)
         · rw[getD_set_ne hji];exact hall j (by omega)
       · rw[getD_set_ne (by omega)];exact h1 j (by omega)
   · have hlt:=ready_lt hi
     have hun:=ready_un' hi
     have hge:m+k≤i:=by
        rcases Nat.lt_or_ge i (m+k) with h|h
        · rw[h1 i h]at hun;cases hun
        · exact h
     have hall:=tail_all ht (by omega) (by omega) hc hi
     have hie:i=m+k:=by
        rcases Nat.lt_or_ge (m+k) i with h|h
        · have:=hall _ h;rw[h2 _ (Nat.le_refl _)]at this;cases this
        · omega
     subst hie
     obtain⟨t',ht'⟩:∃ t',t-k=t'+1:=⟨t-k-1,by omega⟩
     rw[ht']at h3
     refine wpOp_mono (fun a2 w2 h=>Or.inr ⟨k+1,by omega,by simpa using hsz,hc.set hi,fun j hj=>?_,fun j hj=>?_,by rw[show t-(k+1)=t' by omega];exact h⟩) h3
     · by_cases hji:j=m+k
       · subst hji;exact getD_set_eq (by omega)
       · rw[getD_set_ne hji];exact hall j (by omega)
     · rw[getD_set_ne (by omega)];exact h2 j (by omega)
 · rintro listed a' w (⟨h1,h2⟩|⟨k,hk,hsz,hc,h1,h2,h3⟩) hr
   · have hall:=all_listed h2.size hb hr
     have ht0:t=0:=by
        rcases Nat.eq_zero_or_pos t with h|h
        · exact h
        · have:=hall m (by omega);rw[h1 m (Nat.le_refl _)]at this;cases this
     subst ht0
     exact hlast listed a' w h2 (fun j hj=>hall j (by omega))
   · have hall:=all_listed hsz hb hr
     have hkt:k=t:=by
        rcases Nat.lt_or_ge k t with h|h
        · have:=hall (m+k) (by omega);rw[h2 _ (Nat.le_refl _)]at this;cases this
        · omega
     subst hkt
     rw[Nat.sub_self]at h3
     exact h3
end
section
variable {P:Program} {ops:Array Oper} {Q:Exit→Act→World→Prop}
variable {m:Nat} {sl:Nat→Nat} {R:Nat→Value→World→Prop} {a a0:Act} {W:World→Prop} {listed:Array Bool} {w w':World}
theorem wp_region_tail_d {id:Nat}{a:Act}{w:World}(hm:P.follows .mixedOrders=true)(m t:Nat)(sl:Nat→Nat)(R:Nat→Value→World→Prop)(W:World→Prop)(D:Array Bool→Act→Prop)(hs:ops.size=m+t)(hb:backB .any ops=true)(ht:tailB ops m t=true)
 (hD:D (Array.replicate ops.size false) a) (hstart:W w.drew)
 (hstep:∀ listed a' w k,RInv ops m sl R a W listed a' w→D listed a'→k∈Region.ready .any ops listed→k<m→wpOp P ops Q k (fun a' w'=>RInv ops m sl R a W (listed.setIfInBounds k true) a' w'∧D (listed.setIfInBounds k true) a') a' w)
 (hlast:∀ listed a' w,RInv ops m sl R a W listed a' w→D listed a'→(∀ j,j<m→listed.getD j false=true)→tailWp P ops Q t m a' w):(Code.region id ops true).wp P Q a w:=by
 refine wp_region_inv hm (fun listed a' w=>((∀ j,m≤j→listed.getD j false=false)∧RInv ops m sl R a W listed a' w∧D listed a')∨(∃ k,k≤t∧listed.size=ops.size∧Closed .any ops listed∧(∀ j,j<m+k→listed.getD j false=true)∧(∀ j,m+k≤j→listed.getD j false=false)∧tailWp P ops Q (t-k) (m+k) a' w)) (Or.inl ⟨?_,RInv.start hstart,hD⟩) ?_ ?_
 · intro j _
   simp only[Array.getD_eq_getD_getElem?,Array.getElem?_replicate]
   split<;>rfl
 · rintro listed a' w i (⟨h1,h2,h0⟩|⟨k,hk,hsz,hc,h1,h2,h3⟩) hi
   · have hlt:=ready_lt hi
     by_cases him:i<m
     · refine wpOp_mono (fun a2 w2 h=>Or.inl ⟨fun j hj=>?_,h⟩) (hstep listed a' w i h2 h0 hi him)
       rw[getD_set_ne (by omega)];exact h1 j hj
     · have hall:=tail_all ht (by omega) (by omega) h2.closed hi
       have hie:i=m:=by
        rcases Nat.lt_or_ge m i with h|h
        · have:=hall m h;rw[h1 m (Nat.le_refl _)]at this;cases this
        · omega
       subst hie
       obtain⟨t',rfl⟩:∃ t',t=t'+1:=⟨t-1,by omega⟩
       have hz:=h2.size
       refine wpOp_mono (fun a2 w2 h=>Or.inr ⟨1,by omega,by simpa using hz,h2.closed.set hi,fun j hj=>?_,fun j hj=>?_,by simpa using h⟩) (hlast listed a' w h2 h0 hall)
       · by_cases hji:j=i
         · subst hji;exact getD_set_eq (by omega)
         · rw[getD_set_ne hji];exact hall j (by omega)
       · rw[getD_set_ne (by omega)];exact h1 j (by omega)
   · have hlt:=ready_lt hi
     have hun:=ready_un' hi
     have hge:m+k≤i:=by
        rcases Nat.lt_or_ge i (m+k) with h|h
        · rw[h1 i h]at hun;cases hun
        · exact h
     have hall:=tail_all ht (by omega) (by omega) hc hi
     have hie:i=m+k:=by
        rcases Nat.lt_or_ge (m+k) i with h|h
        · have:=hall _ h;rw[h2 _ (Nat.le_refl _)]at this;cases this
        · omega
     subst hie
     obtain⟨t',ht'⟩:∃ t',t-k=t'+1:=⟨t-k-1,by omega⟩
     rw[ht']at h3
     refine wpOp_mono (fun a2 w2 h=>Or.inr ⟨k+1,by omega,by simpa using hsz,hc.set hi,fun j hj=>?_,fun j hj=>?_,by rw[show t-(k+1)=t' by omega];exact h⟩) h3
     · by_cases hji:j=m+k
       · subst hji;exact getD_set_eq (by omega)
       · rw[getD_set_ne hji];exact hall j (by omega)
     · rw[getD_set_ne (by omega)];exact h2 j (by omega)
 · rintro listed a' w (⟨h1,h2,h0⟩|⟨k,hk,hsz,hc,h1,h2,h3⟩) hr
   · have hall:=all_listed h2.size hb hr
     have ht0:t=0:=by
        rcases Nat.eq_zero_or_pos t with h|h
        · exact h
        · have:=hall m (by omega);rw[h1 m (Nat.le_refl _)]at this;cases this
     subst ht0
     exact hlast listed a' w h2 h0 (fun j hj=>hall j (by omega))
   · have hall:=all_listed hsz hb hr
     have hkt:k=t:=by
        rcases Nat.lt_or_ge k t with h|h
        · have:=hall (m+k) (by omega);rw[h2 _ (Nat.le_refl _)]at this;cases this
        · omega
     subst hkt
     rw[Nat.sub_self]at h3
     exact h3
theorem wp_region_post {id:Nat}{ops:Array Oper}{b:Bool}{Q:Exit→Act→World→Prop}{a:Act}{w:World}(F:Act→Act→World→Prop)(h1:(Code.region id ops b).wp P (fun e a' w'=>e=.normal∧F a a' w') a w)(h2:∀ a' w',F a a' w'→Q .normal a' w'):(Code.region id ops b).wp P Q a w :=
 Code.wp_mono (fun e a' w' ⟨he,h⟩=>by subst he;exact h2 a' w' h) h1
end
structure Rel where
 R:Value→World→Prop
 mono:∀ v W W',R v W→Below W.heap.size W W'→R v W'
def Rel.val (u:Value):Rel:=⟨fun v _=>v=u,fun _ _ _ h _=>h⟩
def Rel.ptr (b:Nat) (o:Obj):Rel:=⟨fun v W=>∃ g,v=.pointer (some ⟨g,0,none⟩)∧b≤g∧W.heap[g]? = some o,fun _ W W' ⟨g,e,h,k⟩ hb=>⟨g,e,h,by rw[hb.block g (Array.getElem?_eq_some_iff.1 k).1];exact k⟩⟩
def RelR (L:List Rel) (i:Nat) (v:Value) (W:World):Prop:=(L.getD i (Rel.val undef)).R v W
theorem RelR.mono {L:List Rel}{W W':World}(hb:Below W.heap.size W W')(i:Nat)(v:Value)(h:RelR L i v W):RelR L i v W':=(L.getD i (Rel.val undef)).mono v W W' h hb
end Go.Gb
namespace Go.Gb
open Go Go.RowKit
def SBk (w:World) (g:Nat) (cs:Array Value) (T:TypeId):Prop:=w.heap[g]? = some (.cells cs T (0,0))
theorem SBk.lt {w:World}{g:Nat}{cs:Array Value}{T:TypeId}(h:SBk w g cs T):g<w.heap.size:=(Array.getElem?_eq_some_iff.1 h).1
theorem SBk.cell {w:World}{g i:Nat}{cs:Array Value}{T:TypeId}{v:Value}(h:SBk w g cs T)(hi:cs[i]? = some v):w.cell? ⟨g,i,none⟩=some v:=by
 unfold SBk at h;simp[World.cell?,h,hi]
theorem SBk.frozen {w:World}{g i:Nat}{cs:Array Value}{T:TypeId}(h:SBk w g cs T):w.frozen? ⟨g,i,none⟩=false:=by
 unfold SBk at h;simp[World.frozen?,h]
theorem SBk.below {w w':World}{g:Nat}{cs:Array Value}{T:TypeId}(h:SBk w g cs T)(hb:Below w.heap.size w w'):SBk w' g cs T:=by
 unfold SBk;rw[hb.block g h.lt];exact h
theorem SBk.new (w:World)(cs:Array Value)(T:TypeId):SBk (w.alloc (.cells cs T)) w.heap.size cs T:=heap_alloc_new _ _
theorem SBk.set {w:World}{g i:Nat}{cs:Array Value}{T:TypeId}(h:SBk w g cs T)(v:Value):SBk (w.setCell ⟨g,i,none⟩ v) g (cs.setIfInBounds i v) T:=by
 unfold SBk at *
 simp only[World.setCell,Array.getElem?_modify,h]
 simp
theorem SBk.off {w:World}{g g' i:Nat}{cs:Array Value}{T:TypeId}(h:SBk w g cs T)(hg:g≠g')(v:Value):SBk (w.setCell ⟨g',i,none⟩ v) g cs T:=by
 unfold SBk at *
 rw[← h]
 exact Below.heap_setCell w ⟨g',i,none⟩ v g hg
def noInt (cs:Array Value):Bool:=cs.all fun v=>match v with | .int _ _=>false|_=>true
theorem noInt_get {cs:Array Value}(h:noInt cs=true){i:Nat}{k:IntKind}{n:Int}:cs[i]? ≠ some (.int k n):=by
 intro e
 have:=Array.all_eq_true'.1 h _ (Array.mem_of_getElem? e)
 simp at this
theorem Rd.set {w:World}{v:Value}{xs:List Nat}{k:IntKind}{g:Nat}{cs:Array Value}{T:TypeId}(h:Rd k w v xs)(hg:SBk w g cs T)(hn:noInt cs=true)(i:Nat)(u:Value):Rd k (w.setCell ⟨g,i,none⟩ u) v xs:=by
 rcases h with h|⟨b',o,c',h1,h2,h3,h4,h5⟩
 · exact Or.inl h
 · refine Or.inr ⟨b',o,c',h1,h2,h3,by simpa [World.setCell] using h4,fun j hj=>?_⟩
   have h6:=h5 j hj
   have hne:b'≠g:=by
    intro e
    subst e
    unfold SBk at hg
    simp only[World.cell?,hg]at h6
    exact noInt_get hn (by simpa using h6)
   exact(wc_ne hne).trans h6
theorem wp_world {P:Program}{c:Code}{Q:Exit→Act→World→Prop}{a:Act}{w:World}(I:World→Prop)(h:I w)(k:∀ W,I W→c.wp P Q a W):c.wp P Q a w:=k w h
def Bx (w:World):List (Array Value × TypeId)→World→Prop
 | [],W=>W=w
 | (cs,T) :: l,W=>Bx (w.alloc (.cells cs T)) l W
def BxI (w:World) (n:Nat):List (Array Value × TypeId)→World→Prop
 | [],W=>Below w.heap.size w W
 | (cs,T) :: l,W=>SBk W n cs T∧BxI w (n+1) l W
theorem boxes_gen (w0:World):∀ (l:List (Array Value × TypeId)) (w W:World) (n:Nat),w.heap.size=n→Below w0.heap.size w0 w→Bx w l W→Below w.heap.size w W∧BxI w0 n l W
 | [],w,W,n,hn,hb,h=>by
   obtain rfl:W=w:=h
   exact⟨Below.refl _ _,hb⟩
 | (cs,T) :: l,w,W,n,hn,hb,h=>by
   have h1:=boxes_gen w0 l (w.alloc (.cells cs T)) W (n+1) (by simp[hn]) (hb.alloc hb.size _) h
   have h2:Below w.heap.size w W:=((Below.refl w.heap.size w).alloc (Nat.le_refl _) (.cells cs T)).trans (h1.1.mono (by simp))
   refine⟨h2,?_,h1.2⟩
   subst hn
   exact(SBk.new w cs T).below h1.1
theorem boxes (w:World)(l:List (Array Value × TypeId))(W:World)(h:Bx w l W):BxI w w.heap.size l W:=(boxes_gen w l w W _ rfl (Below.refl _ _) h).2
theorem wp_boxes {P:Program}{c:Code}{Q:Exit→Act→World→Prop}{a:Act}{W:World}(w:World)(l:List (Array Value × TypeId))(h:Bx w l W)(k:∀ W,BxI w w.heap.size l W→c.wp P Q a W):c.wp P Q a W:=k W (boxes w l W h)
def storeAll (w:World) (g:Nat):Nat→List Value→World
 | _,[]=>w
 | i,x :: l=>storeAll (w.setCell ⟨g,i,none⟩ x) g (i+1) l
def setAll (cs:Array Value):Nat→List Value→Array Value
 | _,[]=>cs
 | i,x :: l=>setAll (cs.setIfInBounds i x) (i+1) l
def plainV:Value→Bool
 | .int _ _=>false
 | _=>true
theorem noInt_set {cs:Array Value}(h:noInt cs=true){x:Value}(hx:plainV x=true)(i:Nat):noInt (cs.setIfInBounds i x)=true:=by
 unfold noInt at *
 refine Array.all_eq_true'.2 fun y hy=>?_
 rcases Array.mem_or_eq_of_mem_setIfInBounds hy with hy|rfl
 · exact Array.all_eq_true'.1 h y hy
 · cases y<;>first|rfl|cases hx
theorem store_rd {k:IntKind}{v:Value}{xs:List Nat}{g:Nat}{T:TypeId}:∀ (l:List Value) (i:Nat) {w:World} {cs:Array Value},Rd k w v xs→SBk w g cs T→noInt cs=true→l.all plainV=true→Rd k (storeAll w g i l) v xs
 | [],_,_,_,h,_,_,_=>h
 | x :: l,i,_,_,h,hg,hn,hl=>by
   rw[List.all_cons,Bool.and_eq_true]at hl
   exact store_rd l (i+1) (h.set hg hn i x) (hg.set x) (noInt_set hn hl.1 i) hl.2
theorem store_blk {g:Nat}{T:TypeId}:∀ (l:List Value) (i:Nat) {w:World} {cs:Array Value},SBk w g cs T→SBk (storeAll w g i l) g (setAll cs i l) T
 | [],_,_,_,h=>h
 | x :: l,i,_,_,h=>store_blk l (i+1) (h.set x)
theorem store_off {g g':Nat}{cs:Array Value}{T:TypeId}(hg:g≠g'):∀ (l:List Value) (i:Nat) {w:World},SBk w g cs T→SBk (storeAll w g' i l) g cs T
 | [],_,_,h=>h
 | x :: l,i,_,h=>store_off hg l (i+1) (h.off hg x)
theorem store_below {B g:Nat}{a:World}(hg:B≤g):∀ (l:List Value) (i:Nat) {w:World},Below B a w→Below B a (storeAll w g i l)
 | [],_,_,h=>h
 | x :: l,i,_,h=>store_below hg l (i+1) (h.setCell (p:=⟨g,i,none⟩) hg x)
end Go.Gb
namespace Go.Proofs.YthjmjlfnpnbonaaGreatDoor
open Go.RowKit Go.Gb
def zneg (z:Int):Bool:=decide (z<0)
def nlen (n:Nat):Nat:=(digs n).length
def zlen (z:Int):Nat:=nlen z.natAbs
def RN (w:World) (v:Value) (n:Nat):Prop:=Rd .u32 w v (digs n)
theorem RN.below {w w':World}{v:Value}{n:Nat}(h:RN w v n)(hb:Below w.heap.size w w'):RN w' v n:=Rd.below h hb
theorem RN.sh {w:World}{v:Value}{n:Nat}(h:RN w v n):∃ p c,v=.slice p (nlen n) c:=rd_form h
theorem store_rn {v:Value}{n g:Nat}{T:TypeId}(l:List Value){w:World}{cs:Array Value}(h:RN w v n)(hg:SBk w g cs T)(hn:noInt cs=true)(hl:l.all plainV=true):RN (storeAll w g 0 l) v n:=store_rd l 0 h hg hn hl
theorem Rz.sh {w:World}{u:Value}{z:Int}(h:Rz w u z):∃ p c,u=.agg #[.bool (zneg z),.slice p (zlen z) c]∧RN w (.slice p (zlen z) c) z.natAbs:=rz_form h
theorem Rz.mk {w:World}{p:Option Addr}{c:Nat}{z:Int}(h:RN w (.slice p (zlen z) c) z.natAbs):Rz w (.agg #[.bool (zneg z),.slice p (zlen z) c]) z:=⟨_,rfl,h⟩
def Rel.nat (n:Nat):Rel:=⟨fun v W=>∃ p c,v=.slice p (nlen n) c∧RN W (.slice p (nlen n) c) n,fun _ _ _ ⟨p,c,e,h⟩ hb=>⟨p,c,e,h.below hb⟩⟩
def Rel.int (z:Int):Rel:=⟨fun v W=>∃ p c,v=.agg #[.bool (zneg z),.slice p (zlen z) c]∧RN W (.slice p (zlen z) c) z.natAbs,fun _ _ _ ⟨p,c,e,h⟩ hb=>⟨p,c,e,h.below hb⟩⟩
def HZ (w:World) (g:Nat) (z:Int):Prop:=∃ p c,SBk w g #[.bool (zneg z),.slice p (zlen z) c] 51∧RN w (.slice p (zlen z) c) z.natAbs
theorem cCmp (v1 v2:Value)(a b:Nat)(hl:nlen a≤1000000)(w:World)(h1:RN w v1 a)(h2:RN w v2 b) :
 CR 49 #[v1,v2] w (.int .i64 (cmpN a b)):=RCmp_any v1 v2 a b hl w h1 h2
theorem cOver (v1 v2:Value)(a b:Nat)(hb:b≠0)(hl:nlen a≤50000)(w:World)(h1:RN w v1 a)(h2:RN w v2 b) :
 Calls Tryz.prog 72 #[v1,v2] w fun e w'=>∃ p c p' c',e=.returned (.tuple #[.slice p (nlen (a / b)) c,.slice p' (nlen (a%b)) c'])∧RN w' (.slice p (nlen (a / b)) c) (a / b)∧RN w' (.slice p' (nlen (a%b)) c') (a%b)∧Below w.heap.size w w':=by
 refine(ROver_any v1 v2 a b hb hl w h1 h2).mono ?_
 rintro e w' ⟨q,r,rfl,hq,hr,hB⟩
 obtain⟨p,c,rfl⟩:=RN.sh hq
 obtain⟨p',c',rfl⟩:=RN.sh hr
 exact⟨p,c,p',c',rfl,hq,hr,hB⟩
theorem own_rn {f:FuncId}{args:Array Value}{w:World}{n:Nat}(h:Calls Tryz.prog f args w fun e w'=>∃ v,e=.returned v∧Own .u32 89 w.heap.size w' v (digs n)∧Below w.heap.size w w') :
 Calls Tryz.prog f args w fun e w'=>∃ p c,e=.returned (.slice p (nlen n) c)∧RN w' (.slice p (nlen n) c) n∧Below w.heap.size w w':=by
 refine h.mono ?_
 rintro e w' ⟨v,rfl,ho,hb⟩
 obtain⟨p,c,rfl⟩:=RN.sh ho.rd
 exact⟨p,c,rfl,ho.rd,hb⟩
theorem cPlus (v1 v2:Value)(a b:Nat)(hla:nlen a≤100000)(hlb:nlen b≤100000)(w:World)(h1:RN w v1 a)(h2:RN w v2 b) :
 Calls Tryz.prog 98 #[v1,v2] w fun e w'=>∃ p c,e=.returned (.slice p (nlen (a+b)) c)∧RN w' (.slice p (nlen (a+b)) c) (a+b)∧Below w.heap.size w w':=own_rn (RPlus_any v1 v2 a b hla hlb w h1 h2)
theorem cMinus (v1 v2:Value)(a b:Nat)(hab:b≤a)(hla:nlen a≤100000)(w:World)(h1:RN w v1 a)(h2:RN w v2 b) :
 Calls Tryz.prog 99 #[v1,v2] w fun e w'=>∃ p c,e=.returned (.slice p (nlen (a-b)) c)∧RN w' (.slice p (nlen (a-b)) c) (a-b)∧Below w.heap.size w w':=own_rn (RMinus_any v1 v2 a b hab hla w h1 h2)
theorem cTimes (v1 v2:Value)(a b:Nat)(hla:nlen a≤100000)(hlb:nlen b≤100000)(w:World)(h1:RN w v1 a)(h2:RN w v2 b) :
 Calls Tryz.prog 83 #[v1,v2] w fun e w'=>∃ p c,e=.returned (.slice p (nlen (a*b)) c)∧RN w' (.slice p (nlen (a*b)) c) (a*b)∧Below w.heap.size w w':=own_rn (RTimes_any v1 v2 a b hla hlb w h1 h2)
theorem cSmall (n:Nat)(hn:n<4294967296)(w:World) :
 Calls Tryz.prog 48 #[.int .u32 (n:Int)] w fun e w'=>∃ p c,e=.returned (.slice p (nlen n) c)∧RN w' (.slice p (nlen n) c) n∧Below w.heap.size w w':=own_rn (RSmall1 n hn w)
theorem cSmallL (k:Int)(n:Nat)(hk:(n:Int)=k)(hn:n<4294967296)(w:World) :
 Calls Tryz.prog 48 #[.int .u32 k] w fun e w'=>∃ p c,e=.returned (.slice p (nlen n) c)∧RN w' (.slice p (nlen n) c) n∧Below w.heap.size w w':=by subst hk;exact cSmall n hn w
theorem cCommon (v1 v2:Value)(a b g:Nat)(hg:Nat.gcd a b=g)(hla:nlen a≤50000)(hlb:nlen b≤50000)(w:World)(h1:RN w v1 a)(h2:RN w v2 b) :
 Calls Tryz.prog 51 #[v1,v2] w fun e w'=>∃ p c,e=.returned (.slice p (nlen g) c)∧RN w' (.slice p (nlen g) c) g∧Below w.heap.size w w':=by
 subst hg
 refine(RCommon_any v1 v2 a b hla hlb w h1 h2).mono ?_
 rintro e w' ⟨v,rfl,hr,hb⟩
 obtain⟨p,c,rfl⟩:=RN.sh hr
 exact⟨p,c,rfl,hr,hb⟩
theorem rz_sh {f:FuncId}{args:Array Value}{w:World}{z:Int}(h:Calls Tryz.prog f args w fun e w'=>∃ u,e=.returned u∧Rz w' u z∧Below w.heap.size w w') :
 Calls Tryz.prog f args w fun e w'=>∃ p c,e=.returned (.agg #[.bool (zneg z),.slice p (zlen z) c])∧RN w' (.slice p (zlen z) c) z.natAbs∧Below w.heap.size w w':=by
 refine h.mono ?_
 rintro e w' ⟨u,rfl,hu,hb⟩
 obtain⟨p,c,rfl,r⟩:=hu.sh
 exact⟨p,c,rfl,r,hb⟩
theorem cMake (b:Bool)(v:Value)(n:Nat)(z:Int)(hz:z=if b then -(n:Int) else (n:Int))(hl:nlen n≤1000000)(w:World)(h:RN w v n) :
 Calls Tryz.prog 87 #[.bool b,v] w fun e w'=>∃ p c,e=.returned (.agg #[.bool (zneg z),.slice p (zlen z) c])∧RN w' (.slice p (zlen z) c) z.natAbs∧Below w.heap.size w w':=rz_sh (zMake b v n z hz hl w h)
theorem nlen_one:nlen 1=1:=by decide +kernel
theorem nlen_mono {a b:Nat}(h:a≤b):nlen a≤nlen b:=digs_length_mono h
open Go.RowKit Go.Gb
abbrev CZ (f : FuncId) (args : Array Value) (w : World) (z : Int) : Prop := Calls Tryz.prog f args w fun e w' => ∃ p c, e = .returned (.agg #[.bool (zneg z), .slice p (zlen z) c]) ∧ RN w' (.slice p (zlen z) c) z.natAbs ∧ Below w.heap.size w w'
abbrev CN (f : FuncId) (args : Array Value) (w : World) (n : Nat) : Prop := Calls Tryz.prog f args w fun e w' => ∃ p c, e = .returned (.slice p (nlen n) c) ∧ RN w' (.slice p (nlen n) c) n ∧ Below w.heap.size w w'
abbrev CF (f : FuncId) (args : Array Value) (w : World) (z : Int) (n : Nat) : Prop := Calls Tryz.prog f args w fun e w' => ∃ p c s d, e = .returned (.agg #[.bool (zneg z), .slice p (zlen z) c, .slice s (nlen n) d]) ∧ RN w' (.slice p (zlen z) c) z.natAbs ∧ RN w' (.slice s (nlen n) d) n ∧ Below w.heap.size w w'
end Go.Proofs.YthjmjlfnpnbonaaGreatDoor
namespace Go.Gb
open Go Go.RowKit
section
variable {P:Program} {ops:Array Oper} {Q:Exit→Act→World→Prop}
variable {m:Nat} {sl:Nat→Nat} {R:Nat→Value→World→Prop} {a a0:Act} {W:World→Prop} {listed:Array Bool} {w w':World}
theorem stepH {i:Nat}{o:Oper}{K:Act→World→Prop}(ho:ops[i]? = some o)
 (h:∀ K':Act→World→Prop,Hid (∀ a w,K a w→K' a w)→if Region.wanted o (yielded ops a.tmps)=true then Oper.wp P o a w K' Q else K' (a.put o.dst undef) w):wpOp P ops Q i K a w :=
 wpOp_step ho (fun K' hK=>h K' (Lib.hid hK))
theorem RInv.pv {i d:Nat}{v:Value}(h:RInv ops m sl R a0 W listed a w)(hi:i∈Region.ready .any ops listed)(hv:R i v w)(hm:i<m:=by decide)(hd:d=sl i:=by rfl)(hlo:d<a0.tmps.size:=by simp)
 (hinj:∀ j,j<m→sl j=d→j=i:=by decide):RInv ops m sl R a0 W (listed.setIfInBounds i true) (a.put (some d) v) w:=h.put hi hm hd hlo hinj hv (fun _ _ k=>k) h.world
theorem RInv.pc {L:List Rel}{w0:World}{i d:Nat}{v:Value}(h:RInv ops m sl (RelR L) a0 (fun W=>Below w0.heap.size w0 W) listed a w)(hi:i∈Region.ready .any ops listed)(hb:Below w.heap.size w w')(hv:RelR L i v w')(hm:i<m:=by decide)(hd:d=sl i:=by rfl)(hlo:d<a0.tmps.size:=by simp)
 (hinj:∀ j,j<m→sl j=d→j=i:=by decide):RInv ops m sl (RelR L) a0 (fun W=>Below w0.heap.size w0 W) (listed.setIfInBounds i true) (a.put (some d) v) w' :=
 h.put hi hm hd hlo hinj hv (fun j u k=>RelR.mono hb j u k) (h.world.trans (hb.mono h.world.size))
theorem RInv.rv {i j:Nat}{c:Value}(h:RInv ops m sl R a0 W listed a w)(hj:j∈Region.ready .any ops listed)(hw:Region.waitsFor .any ops j i=true)(hm:i<m)(hR:∀ v,R i v w→v=c):a.tmps[sl i]? = some c:=by
 obtain⟨v,h1,h2⟩:=h.at hj hw hm
 rw[h1,hR v h2]
def RV (ops:Array Oper) (listed:Array Bool) (a:Act) (j d:Nat) (c:Value):Prop:=∀ i,i∈Region.ready .any ops listed→Region.waitsFor .any ops i j=true→a.tmps[d]? = some c
theorem RV.g {j d i:Nat}{c:Value}(h:RV ops listed a j d c)(hi:i∈Region.ready .any ops listed)(hw:Region.waitsFor .any ops i j=true):a.tmps[d]? = some c:=h i hi hw
theorem RInv.rh {j d:Nat}{c:Value}(h:RInv ops m sl R a0 W listed a w)(hm:j<m:=by decide)(hd:sl j=d:=by rfl)(hR:∀ v,R j v w→v=c:=by exact fun _ h=>h):RV ops listed a j d c:=by
 subst hd
 exact fun i hi hw=>h.rv hi hw hm hR
theorem RInv.sx {c:Value}(h:RInv ops m sl R a0 W listed a w)(hall:∀ j,j<m→listed.getD j false=true)(i:Nat){d:Nat}(hm:i<m:=by decide)(hd:sl i=d:=by rfl)(hR:∀ v,R i v w→v=c:=by exact fun _ h=>h):a.tmps[d]? = some c:=by
 subst hd
 obtain⟨v,h1,h2⟩:=h.slots i hm (hall i hm)
 rw[h1,hR v h2]
def AllT:List (Nat × Value)→Array Value→Prop
 | [],_=>True
 | p :: t,T=>T[p.1]? = some p.2∧AllT t T
theorem AllT.mem:∀ {L:List (Nat × Value)} {T:Array Value},AllT L T→∀ p,p∈L→T[p.1]? = some p.2
 | _ :: _,_,h,p,hp=>by
   rcases List.mem_cons.1 hp with rfl|hp
   · exact h.1
   · exact AllT.mem h.2 p hp
def cov (m:Nat) (sl:Nat→Nat) (L:List (Nat × Value)):Bool:=(List.range m).all fun i=>L.any fun p=>p.1==sl i
theorem cov_spec {L:List (Nat × Value)}(h:cov m sl L=true)(d:Nat)(hd:∀ p,p∈L→p.1≠d):∀ i,i<m→sl i≠d:=by
 intro i hi e
 have h1:=List.all_eq_true.1 h i (List.mem_range.2 hi)
 obtain⟨p,hp,h2⟩:=List.any_eq_true.1 h1
 exact hd p hp ((beq_iff_eq.1 h2).trans e)
theorem RInv.finx {L:List (Nat × Value)}(h:RInv ops m sl R a0 W listed a w)(h1:AllT L a.tmps)(h2:cov m sl L=true):a=⟨putL L a0.tmps,a0.defers⟩:=h.fin L h1.mem (cov_spec h2)
end
end Go.Gb
