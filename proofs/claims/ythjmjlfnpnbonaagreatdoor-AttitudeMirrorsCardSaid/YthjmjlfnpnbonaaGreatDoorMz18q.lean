/- Texts of this proof, one behind the other. -/
import Derived.Test.YthjmjlfnpnbonaaGreatDoorMz17q
import Derived.StillTail
namespace Go.Proofs.YthjmjlfnpnbonaaGreatDoor
open Go.RowKit Go.Gb
set_option maxHeartbeats 1000000 in
theorem zOpposite (u:Value)(z:Int)(hl:(digs z.natAbs).length≤1000000)(w:World)(h:Rz w u z) :
 Calls Tryz.prog 90 #[u] w fun e w'=>∃ u',e=.returned u'∧Rz w' u' (-z)∧Below w.heap.size w w':=by
 obtain⟨p,c,rfl,hr⟩:=rz_form h
 obtain⟨b,hb⟩:∃ b,b=decide (z<0):=⟨_,rfl⟩
 rw[← hb]
 have hrb:(!b&&decide (0<(digs z.natAbs).length))=decide (-z<0):=by
  rw[hb,len_pos]
  rcases int_cases z with⟨n,hn,rfl⟩|rfl|⟨n,hn,rfl⟩
  · have h1 : -(n:Int)<0:=by omega
    have h2:¬ - -(n:Int)<0:=by omega
    rw[decide_eq_true h1,decide_eq_false h2];rfl
  · rfl
  · have h1:¬ (n:Int)<0:=by omega
    have h2 : -(n:Int)<0:=by omega
    rw[decide_eq_false h1,decide_eq_true h2,Int.natAbs_natCast,decide_eq_true (by omega)];rfl
 obtain⟨lz,hlz⟩:∃ l,l=(digs z.natAbs).length:=⟨_,rfl⟩
 rw[← hlz]at hl hr hrb ⊢
 obtain⟨r,hr2⟩:∃ r,r=decide (-z<0):=⟨_,rfl⟩
 rw[← hr2]at hrb
 have HM:=Lib.hid (ZMake_raw (!b) p lz c r hrb hl ((w.alloc (.cells #[.bool b,.slice p lz c] 51)).alloc (.cells #[.bool false,.slice none 0 0] 51)))
 have HB:=Lib.hid (((Below.refl w.heap.size w).alloc (Nat.le_refl _) (.cells #[.bool b,.slice p lz c] 51)).alloc (by simp) (.cells #[.bool false,.slice none 0 0] 51))
 have HR:=Lib.hid (show Rd .u32 w (.slice p lz c) (digs (-z).natAbs) by rw[Int.natAbs_neg];exact hr)
 have HR2:=Lib.hid hr2
 clear h hb hlz hr hrb hl hr2
 go_enter Tryz.func90,Tryz.ntmps90
 go_wp2_with fail
 refine HM.out.mono ?_
 rintro e w1 ⟨rfl,hb⟩
 have c0:w1.cell? ⟨w.heap.size+1,0,none⟩=some (.bool false):=(hb.cell (p:=⟨w.heap.size+1,0,none⟩) (by simp)).trans (by simp)
 have c1:w1.cell? ⟨w.heap.size+1,1,none⟩=some (.slice none 0 0):=(hb.cell (p:=⟨w.heap.size+1,1,none⟩) (by simp)).trans (by simp)
 have f0:w1.frozen? ⟨w.heap.size+1,0,none⟩=false:=(hb.frozen (p:=⟨w.heap.size+1,0,none⟩) (by simp)).trans (by simp)
 have f1:w1.frozen? ⟨w.heap.size+1,1,none⟩=false:=(hb.frozen (p:=⟨w.heap.size+1,1,none⟩) (by simp)).trans (by simp)
 have HB2:=Lib.hid (HB.out.trans (hb.mono (by simp;omega)))
 clear hb
 go_wp2
 refine bodyPost_ret (v:=.agg #[.bool r,.slice p lz c]) (by simp[results,Tryz.results90,go_sem,c0,c1]) rfl ⟨_,rfl,?_,?_⟩
 · have hb3:=(HB2.out.setCell (p:=⟨w.heap.size+1,0,none⟩) (Nat.le_succ _) (.bool r)).setCell (p:=⟨w.heap.size+1,1,none⟩) (Nat.le_succ _) (.slice p lz c)
   exact⟨_,by rw[HR2.out],HR.out.below hb3⟩
 · exact(HB2.out.setCell (p:=⟨w.heap.size+1,0,none⟩) (Nat.le_succ _) _).setCell (p:=⟨w.heap.size+1,1,none⟩) (Nat.le_succ _) _
theorem zrValid (z:Int)(h:(Sz z).size≤1000)(w:World) :
 Calls Tryz.prog 43 #[.string (Sz z)] w fun e w'=>e=.returned (.bool true)∧w=w':=by
 have h1:=ZValid_any (Sz z) h w
 rwa [sz_vld]at h1
end Go.Proofs.YthjmjlfnpnbonaaGreatDoor
namespace Go.Gb
open Go.RowKit
structure Kp (S:Nat→Prop) (w w':World):Prop where
 os:w'.os=w.os
 tape:w'.tape=w.tape
 output:w'.output=w.output
 size:w.heap.size≤w'.heap.size
 block:∀ k,k<w.heap.size→¬ S k→w'.heap[k]? = w.heap[k]?
theorem Kp.refl (S:Nat→Prop)(w:World):Kp S w w:=⟨rfl,rfl,rfl,Nat.le_refl _,fun _ _ _=>rfl⟩
theorem Kp.trans {S S':Nat→Prop}{a b c:World}(h:Kp S a b)(k:Kp S' b c)(hs:∀ g,g<a.heap.size→S' g→S g):Kp S a c :=
 ⟨k.os.trans h.os,k.tape.trans h.tape,k.output.trans h.output,Nat.le_trans h.size k.size,fun i hi hn=>(k.block i (Nat.lt_of_lt_of_le hi h.size) (fun h'=>hn (hs i hi h'))).trans (h.block i hi hn)⟩
theorem Kp.mono {S S':Nat→Prop}{a b:World}(h:Kp S a b)(hs:∀ g,S g→S' g):Kp S' a b:=⟨h.os,h.tape,h.output,h.size,fun i hi hn=>h.block i hi (fun h'=>hn (hs i h'))⟩
theorem Kp.of_below {S:Nat→Prop}{a b:World}(h:Below a.heap.size a b):Kp S a b:=⟨h.os,h.tape,h.output,h.size,fun i hi _=>h.block i hi⟩
theorem Kp.below_more {S:Nat→Prop}{a b c:World}(h:Kp S a b)(k:Below b.heap.size b c):Kp S a c:=h.trans (Kp.of_below (S:=fun _=>False) k) (fun _ _ h=>h.elim)
theorem Kp.drew {S:Nat→Prop}{a b:World}(h:Kp S a b):Kp S a b.drew:=⟨h.os,h.tape,h.output,h.size,h.block⟩
theorem Kp.drewN {S:Nat→Prop}{a b:World}(h:Kp S a b)(n:Nat):Kp S a (b.drewN n):=⟨h.os,h.tape,h.output,h.size,h.block⟩
theorem Kp.alloc {S:Nat→Prop}{a b:World}(h:Kp S a b)(o:Obj):Kp S a (b.alloc o):=h.below_more ((Below.refl _ b).alloc (Nat.le_refl _) o)
theorem Kp.grown {S:Nat→Prop}{a b c:World}{row:Option Nat}(h:Kp S a b)(k:b.grownBy c row)(hr:∀ g,row=some g→g<a.heap.size→S g):Kp S a c :=
 ⟨k.os.trans h.os,k.tape.trans h.tape,k.output.trans h.output,Nat.le_trans h.size k.size,fun i hi hn=>(k.block i (Nat.lt_of_lt_of_le hi h.size) (fun h'=>hn (hr i h'.symm hi))).trans (h.block i hi hn)⟩
theorem Kp.set {S:Nat→Prop}{a b:World}(h:Kp S a b){p:Addr}(hp:p.block<a.heap.size→S p.block)(u:Value):Kp S a (b.setCell p u) :=
 ⟨h.os,h.tape,h.output,by simp[World.setCell];exact h.size,fun i hi hn=>(Below.heap_setCell _ _ _ _ (fun e=>hn (by subst e;exact hp hi))).trans (h.block i hi hn)⟩
theorem Kp.below {S:Nat→Prop}{a b:World}{B:Nat}(h:Kp S a b)(hB:B≤a.heap.size)(hS:∀ g,S g→B≤g):Below B a b :=
 ⟨h.os,h.tape,h.output,h.size,fun k hk=>h.block k (Nat.lt_of_lt_of_le hk hB) (fun h'=>by have:=hS k h';omega)⟩
theorem Kp.frozen {S:Nat→Prop}{w w':World}(h:Kp S w w'){b o:Nat}(hb:b<w.heap.size)(hn:¬ S b):w'.frozen? ⟨b,o,none⟩=w.frozen? ⟨b,o,none⟩:=World.frozen?_of_block (w:=w) (h.block b hb hn)
theorem wc_alloc {w:World}{o:Obj}{b k:Nat}(h:b<w.heap.size):(w.alloc o).cell? ⟨b,k,none⟩=w.cell? ⟨b,k,none⟩:=((Below.refl w.heap.size w).alloc (Nat.le_refl _) o).cell (p:=⟨b,k,none⟩) h
theorem wc_drew {w:World}{p:Addr}:w.drew.cell? p=w.cell? p:=rfl
theorem wc_ne {w:World}{v:Value}{b c i k:Nat}(h:c≠b):(w.setCell ⟨b,i,none⟩ v).cell? ⟨c,k,none⟩=w.cell? ⟨c,k,none⟩:=World.cell?_of_block (w:=w) (Below.heap_setCell w ⟨b,i,none⟩ v c h)
theorem wbc {W w1:World}(hb:Below W.heap.size W w1):(∀ b o,b<W.heap.size→w1.cell? ⟨b,o,none⟩=W.cell? ⟨b,o,none⟩)∧(∀ b o,b<W.heap.size→w1.frozen? ⟨b,o,none⟩=W.frozen? ⟨b,o,none⟩) :=
 ⟨fun b o h=>hb.cell (p:=⟨b,o,none⟩) h,fun b o h=>hb.frozen (p:=⟨b,o,none⟩) h⟩
def At (v:Value) (g:Nat):Prop:=v.ownBlock=some g
theorem at_nil (n m g:Nat):¬ At (.slice none n m) g:=by simp[At,Value.ownBlock]
theorem at_some {b o:Nat}{n c g:Nat}:At (.slice (some ⟨b,o,none⟩) n c) g↔b=g:=by simp[At,Value.ownBlock]
def Apt (v u:Value):Prop:=∀ g,At v g→¬ At u g
theorem Apt.symm {v u:Value}(h:Apt v u):Apt u v:=fun g h1 h2=>h g h2 h1
theorem Apt.nil_left (n m:Nat)(v:Value):Apt (.slice none n m) v:=fun _ h=>(at_nil _ _ _ h).elim
theorem Apt.nil_right (n m:Nat)(v:Value):Apt v (.slice none n m):=(Apt.nil_left n m v).symm
def NewOr (w:World) (v u:Value):Prop:=∀ g,At u g→At v g∨w.heap.size≤g
theorem NewOr.refl (w:World)(v:Value):NewOr w v v:=fun _ h=>Or.inl h
theorem NewOr.trans {w w':World}{v u t:Value}(h:NewOr w v u)(k:NewOr w' u t)(hs:w.heap.size≤w'.heap.size):NewOr w v t:=fun g hg=>by
 rcases k g hg with h1|h1
 · exact h g h1
 · right;omega
def Fresh (w:World) (u:Value):Prop:=∀ g,At u g→w.heap.size≤g
theorem Own.at {k:IntKind}{T:TypeId}{B:Nat}{w:World}{v:Value}{xs:List Nat}(h:Own k T B w v xs){g:Nat}(hg:At v g):B≤g∧g<w.heap.size:=World.ownsRow.lt h g hg
theorem Own.fresh {k:IntKind}{T:TypeId}{w w0:World}{v:Value}{xs:List Nat}(h:Own k T w0.heap.size w v xs):Fresh w0 v:=fun _ hg=>(h.at hg).1
theorem Own.kp {k:IntKind}{T:TypeId}{B:Nat}{w w':World}{v:Value}{xs:List Nat}{S:Nat→Prop}(h:Own k T B w v xs)(hk:Kp S w w')(hn:∀ g,At v g→¬ S g):Own k T B w' v xs:=by
 obtain⟨h1,h2⟩:=h
 refine⟨h1,?_⟩
 rcases h2 with h2|⟨g,cap,cur,hv,hg,hh,r⟩
 · exact Or.inl h2
 · exact Or.inr ⟨g,cap,cur,hv,hg,by rw[hk.block g (Array.getElem?_eq_some_iff.1 hh).1 (hn g (by rw[hv];exact at_some.2 rfl))];exact hh,r⟩
theorem Apt.newOr {w:World}{v u t:Value}(h:Apt v t)(hn:NewOr w v u)(ht:∀ g,At t g→g<w.heap.size):Apt u t:=fun g h1 h2=>by
 rcases hn g h1 with h3|h3
 · exact h g h3 h2
 · have:=ht g h2;omega
theorem Apt.fresh {w:World}{u t:Value}(hn:Fresh w u)(ht:∀ g,At t g→g<w.heap.size):Apt u t:=fun g h1 h2=>by
 have:=ht g h2
 have:=hn g h1
 omega
section
variable {P:Program} (w:World)
theorem append_place (base:Nat)(t ty e:TypeId)(i:TypeInfo)(z:Value)(ht:P.underlying t=some (.slice e))(hi:P.info? e=some i)(hz:i.zero=some z)
 (v:Value) (n:Nat) (xs:List Value) (hown:w.ownsRow base e i.size v n xs)
 (a:Addr) (m c:Nat) (news:List Value) (hm0:0<m) (hl:news.length=m*i.size) (hnews:∀ j u,news[j]? = some u→w.cell? (a.add j)=some u) (h1:∀ u∈news,u.oneCell'=true)
 (h63:n+m≤maxLen) (hbytes:(n+m)*i.bytes≤140737488355328) {v':Value} {w':World}
 (hr:(Builtin.append_ #[t,t] ty #[v,.slice (some a) m c]).run P w=.ok v' w'):NewOr w v v':=by
 have hsmall:n+m≤9223372036854775807:=by simp only[maxLen]at h63;omega
 have new:∀ (u:Value) (l k:Nat),.slice (some ⟨w.heap.size,0,none⟩) l k=v'→NewOr w u v':=by
  rintro u l k rfl g hg
  rw[at_some]at hg
  exact Or.inr (Nat.le_of_eq hg)
 rcases hown.2 with⟨rfl,rfl⟩|⟨g,cap,cur,rfl,hbg,hg,hnc,hcm,hcs,htake⟩
 · rw[run_append_nil (P:=P) w t ty e i z ht hi hz a m c news hl hnews hm0 (by omega) (by rw[Nat.zero_add]at hbytes;omega)]at hr
   injection hr with e1 e2
   exact new _ _ _ e1
 · by_cases hroom:n+m≤cap
   · rw[run_append_room (P:=P) w t ty e i ht hi g n cap cur hg a m c news hl hnews h1 hroom (by rw[hl,hcs,← Nat.add_mul];exact Nat.mul_le_mul_right _ hroom)]at hr
     injection hr with e1 e2
     subst e1
     intro k hk
     rw[at_some]at hk
     exact Or.inl (at_some.2 hk)
   · rw[run_append_grow (P:=P) w t ty e i z ht hi hz ⟨g,0,none⟩ n cap xs hown.1 (hown.cells (g:=g) rfl) a m c news hl hnews (by omega) (by omega) (growslice_fits (by omega) hbytes)]at hr
     injection hr with e1 e2
     exact new _ _ _ e1
theorem wpList_append_at {ops:Array Oper}{rest:List Oper}{o:Oper}{a:Act}{Q:Exit→Act→World→Prop}(hgd:o.guard=none)(s x:Operand)(t:TypeId)
 (ho:o.op=.call { callee:=.builtin .append,args:=#[s,x],argTypes:=#[t,t] })
 (base:Nat) (e:TypeId) (i:TypeInfo) (z:Value) (ht:P.underlying t=some (.slice e)) (hi:P.info? e=some i) (hz:i.zero=some z)
 (hsize:i.size=1) (hby:i.bytes=8) (hzs:z.cells.size=1)
 (v:Value) (n:Nat) (xs:List Value) (hs:a.eval s=v) (hown:w.ownsRow base e 1 v n xs)
 (ad:Addr) (c:Nat) (u:Value) (hx:a.eval x=.slice (some ad) 1 c) (hnews:w.cell? (ad.add 0)=some u) (h1:u.oneCell'=true)
 (h63:n≤1000000) (hbase:base≤w.heap.size)
 (h:∀ v' w',w'.ownsRow base e 1 v' (n+1) (xs++[u])→w.grownBy w' v.ownBlock→NewOr w v v'→wpList P ops Q rest (a.put o.dst v') w'):wpList P ops Q (o :: rest) a w:=by
 refine wpList_plain hgd fun K hK=>?_
 have hn:∀ j u',[u][j]? = some u'→w.cell? (ad.add j)=some u':=by
  intro j u' hj
  match j,hj with
  | 0,hj=>simp at hj;subst hj;exact hnews
 have hu:∀ u'∈[u],u'.oneCell'=true:=by intro u' hu';simp at hu';subst hu';exact h1
 have hm:n+1≤maxLen:=by unfold maxLen;omega
 obtain⟨v',w',hr,h2,h3,_⟩:=run_append_own (P:=P) w base t o.type e i z 1 8 ht hi hz hsize hby hzs (by omega) v n xs hown ad 1 c [u] rfl hn hu hm (by omega) hbase
 have hp:=append_place w base t o.type e i z ht hi hz v n xs (by rw[hsize];exact hown) ad 1 c [u] (by omega) (by rw[hsize];rfl) hn hu hm (by rw[hby];omega) hr
 unfold Oper.wp execOp
 simp only[ho,resolve,invoke,builtin,Sem.run_bind,Sem.run_pure,Result.andThen_ok,List.map_toArray,List.map_cons,List.map_nil,hs,hx,hr]
 exact hK _ _ (h v' w' h2 h3 hp)
end
end Go.Gb
namespace Go.Gb
open Go
section
variable {P:Program} {ops:Array Oper} {Q:Exit→Act→World→Prop} {md:Region.Mode}
def Closed (md:Region.Mode) (ops:Array Oper) (listed:Array Bool):Prop:=∀ j i,listed.getD j false=true→Region.waitsFor md ops j i=true→listed.getD i false=true
theorem waits_of {j i:Nat}{o:Oper}(ho:ops[j]? = some o)(h:Region.waitsFor md ops j i=true):∃ e∈o.after,Region.binds md e=true∧e.on=i:=by
 obtain⟨o',ho',e,he,hb⟩:=Region.waitsFor_spec h
 obtain rfl:o'=o:=Option.some.inj (ho'.symm.trans ho)
 exact⟨e,he,hb⟩
theorem ready_waits {listed:Array Bool}{j i:Nat}(hj:j∈Region.ready md ops listed)(h:Region.waitsFor md ops j i=true):listed.getD i false=true:=by
 obtain⟨_,o,ho,hall⟩:=mem_ready.1 hj
 obtain⟨e,he,hb,rfl⟩:=waits_of ho h
 exact hall e he hb
theorem ready_un {listed:Array Bool}{j:Nat}(hj:j∈Region.ready md ops listed):listed.getD j true=false:=(mem_ready.1 hj).1
theorem ready_lt {listed:Array Bool}{j:Nat}(hj:j∈Region.ready md ops listed):j<ops.size:=by
 obtain⟨_,o,ho,_⟩:=mem_ready.1 hj
 exact(Array.getElem?_eq_some_iff.1 ho).1
theorem getD_set_cases {listed:Array Bool}{i j:Nat}(h:(listed.setIfInBounds i true).getD j false=true):j=i∨listed.getD j false=true:=by
 by_cases hij:j=i
 · exact Or.inl hij
 · right
   simp only[Array.getD_eq_getD_getElem?]at h ⊢
   rwa [Array.getElem?_setIfInBounds_ne (Ne.symm hij)]at h
theorem getD_set_keep {listed:Array Bool}{i j:Nat}(h:listed.getD j false=true):(listed.setIfInBounds i true).getD j false=true:=by
 simp only[Array.getD_eq_getD_getElem?]at h ⊢
 by_cases hij:i=j
 · subst hij
   rw[Array.getElem?_setIfInBounds_self]
   split
   · rfl
   · rename_i hlt
     rw[Array.getElem?_eq_none (by omega)]at h
     exact h
 · rw[Array.getElem?_setIfInBounds_ne hij];exact h
theorem Closed.set {listed:Array Bool}{i:Nat}(h:Closed md ops listed)(hi:i∈Region.ready md ops listed):Closed md ops (listed.setIfInBounds i true):=by
 intro j k hj hw
 rcases getD_set_cases hj with rfl|hj
 · exact getD_set_keep (ready_waits hi hw)
 · exact getD_set_keep (h j k hj hw)
theorem closed_none (n:Nat):Closed md ops (Array.replicate n false):=by
 intro j i hj _
 exfalso
 simp only[Array.getD_eq_getD_getElem?,Array.getElem?_replicate]at hj
 split at hj<;>simp at hj
theorem wpAny_inv (I:Array Bool→Act→World→Prop)
 (hstep:∀ listed a w i,I listed a w→i∈Region.ready md ops listed→wpOp P ops Q i (fun a' w'=>I (listed.setIfInBounds i true) a' w') a w)
 (hend:∀ listed a w,I listed a w→Region.ready md ops listed=[]→Q .normal a w) :
 ∀ (n:Nat) (U:List Nat) (listed:Array Bool) (a:Act) (w:World),U.length=n→U.Nodup→(∀ i,i∈U↔(i<ops.size∧listed.getD i true=false))→listed.size=ops.size→I listed a w→wpAny P md ops Q n listed a w
 | 0,U,listed,a,w,hn,_,hU,_,hI=>by
   have h0:Region.ready md ops listed=[]:=by
    apply List.eq_nil_iff_forall_not_mem.2
    intro i hi
    have hm:=(hU i).2 ⟨ready_lt hi,ready_un hi⟩
    rw[List.length_eq_zero_iff.1 hn]at hm
    cases hm
   exact⟨h0,hend listed a w hI h0⟩
 | n+1,U,listed,a,w,hn,hd,hU,hs,hI=>by
   refine⟨fun h0=>hend listed a w hI h0,fun i hi=>?_⟩
   refine wpOp_mono (fun a' w' hI'=>?_) (hstep listed a w i hI hi)
   have hm:=(hU i).2 ⟨ready_lt hi,ready_un hi⟩
   refine wpAny_inv I hstep hend n (U.erase i) _ a' w' (by rw[List.length_erase_of_mem hm,hn];rfl) (hd.erase i) (fun j=>?_) (by simpa using hs) hI'
   rw[hd.mem_erase_iff,hU j]
   simp only[Array.getD_eq_getD_getElem?]
   by_cases hij:j=i
   · subst hij
     rw[Array.getElem?_setIfInBounds_self_of_lt (by rw[hs];exact ready_lt hi)]
     simp
   · rw[Array.getElem?_setIfInBounds_ne (Ne.symm hij)]
     simp[hij]
theorem wp_region_inv {id:Nat}{a:Act}{w:World}(hm:P.follows .mixedOrders=true)(I:Array Bool→Act→World→Prop)
 (hstart:I (Array.replicate ops.size false) a w.drew)
 (hstep:∀ listed a w i,I listed a w→i∈Region.ready .any ops listed→wpOp P ops Q i (fun a' w'=>I (listed.setIfInBounds i true) a' w') a w)
 (hend:∀ listed a w,I listed a w→Region.ready .any ops listed=[]→Q .normal a w):(Code.region id ops true).wp P Q a w:=by
 refine wp_region_any hm ?_
 refine wpAny_inv I hstep hend ops.size (List.range ops.size) _ a _ (by simp) List.nodup_range (fun i=>?_) (by simp) hstart
 rw[List.mem_range]
 simp only[Array.getD_eq_getD_getElem?,Array.getElem?_replicate]
 constructor
 · intro h;exact⟨h,by rw[if_pos h];rfl⟩
 · intro h;exact h.1
def backB (md:Region.Mode) (ops:Array Oper):Bool:=(List.range ops.size).all fun j=>match ops[j]? with
 | some o=>o.after.all fun e => !Region.binds md e || decide (e.on<j)
 | none=>true
theorem back_of (hb:backB md ops=true){j i:Nat}(h:Region.waitsFor md ops j i=true):i<j:=by
 obtain⟨o,ho,e,he,hbi,rfl⟩:=Region.waitsFor_spec h
 have hj:j<ops.size:=(Array.getElem?_eq_some_iff.1 ho).1
 have h1:=List.all_eq_true.1 hb j (List.mem_range.2 hj)
 rw[ho]at h1
 simp only at h1
 have h2:=Array.all_eq_true'.1 h1 e he
 rw[hbi]at h2
 simpa using h2
theorem all_listed {listed:Array Bool}(hs:listed.size=ops.size)(hb:backB md ops=true)(h:Region.ready md ops listed=[]):∀ j,j<ops.size→listed.getD j false=true:=by
 intro j
 induction j using Nat.strongRecOn with
 | _ j ih =>
   intro hj
   cases hl:listed.getD j true with
   | true =>
     simp only[Array.getD_eq_getD_getElem?]at hl ⊢
     have hlt:j<listed.size:=by omega
     rw[Array.getElem?_eq_getElem hlt]at hl ⊢
     exact hl
   | false =>
     exfalso
     obtain⟨o,ho⟩:∃ o,ops[j]? = some o:=⟨ops[j],Array.getElem?_eq_getElem hj⟩
     have hr:j∈Region.ready md ops listed:=by
       refine mem_ready.2 ⟨hl,o,ho,fun e he hbi=>?_⟩
       have hw:Region.waitsFor md ops j e.on=true:=by
        unfold Region.waitsFor
        rw[ho]
        simp only
        refine Array.any_eq_true'.2 ⟨e,he,?_⟩
        simp[hbi]
       have h1:=back_of hb hw
       exact ih e.on h1 (by omega)
     rw[h]at hr
     cases hr
theorem ready_un' {listed:Array Bool}{j:Nat}(hj:j∈Region.ready md ops listed):listed.getD j false=false:=by
 have h:=ready_un hj
 simp only[Array.getD_eq_getD_getElem?]at h ⊢
 cases hc:listed[j]? with
 | none=>rw[hc]at h;simp at h
 | some b=>rw[hc]at h;simpa using h
end
end Go.Gb
namespace Go.Gb
open Go Go.RowKit
section
variable {P:Program} {ops:Array Oper} {Q:Exit→Act→World→Prop}
structure RInv (ops:Array Oper) (m:Nat) (sl:Nat→Nat) (R:Nat→Value→World→Prop) (a0:Act) (W:World→Prop) (listed:Array Bool) (a:Act) (w:World):Prop where
 closed:Closed .any ops listed
 size:listed.size=ops.size
 slots:∀ i,i<m→listed.getD i false=true→∃ v,a.tmps[sl i]? = some v∧R i v w
 rest:∀ d,(∀ i,i<m→sl i≠d)→a.tmps[d]? = a0.tmps[d]?
 tsize:a.tmps.size=a0.tmps.size
 defers:a.defers=a0.defers
 world:W w
variable {m:Nat} {sl:Nat→Nat} {R:Nat→Value→World→Prop} {a a0:Act} {W:World→Prop} {listed:Array Bool} {w w':World}
theorem RInv.start (h:W w):RInv ops m sl R a W (Array.replicate ops.size false) a w :=
 ⟨closed_none _,by simp,fun i _ hi=>by
  exfalso
  simp only[Array.getD_eq_getD_getElem?,Array.getElem?_replicate]at hi
  split at hi<;>simp at hi,fun _ _=>rfl,rfl,rfl,h⟩
theorem RInv.put {i d:Nat}{v:Value}(h:RInv ops m sl R a0 W listed a w)(hi:i∈Region.ready .any ops listed)(hm:i<m)(hd:d=sl i)(hlo:d<a0.tmps.size)
 (hinj:∀ j,j<m→sl j=d→j=i) (hv:R i v w') (hR:∀ j u,R j u w→R j u w') (hW:W w'):RInv ops m sl R a0 W (listed.setIfInBounds i true) (a.put (some d) v) w':=by
 subst hd
 have hp:(a.put (some (sl i)) v).tmps=a.tmps.setIfInBounds (sl i) v:=rfl
 have hts:=h.tsize
 refine⟨h.closed.set hi,by simpa using h.size,fun j hj hl=>?_,fun e he=>?_,by rw[hp];simpa using hts,h.defers,hW⟩
 · rw[hp]
   by_cases hji:j=i
   · subst hji
     exact⟨v,by rw[Array.getElem?_setIfInBounds_self_of_lt (by omega)],hv⟩
   · rw[Array.getElem?_setIfInBounds_ne (fun e=>hji (hinj j hj e.symm))]
     rcases getD_set_cases hl with h2|h2
     · exact absurd h2 hji
     · obtain⟨u,h3,h4⟩:=h.slots j hj h2
       exact⟨u,h3,hR j u h4⟩
 · rw[hp,Array.getElem?_setIfInBounds_ne (he i hm)]
   exact h.rest e he
theorem RInv.at {i j:Nat}(h:RInv ops m sl R a0 W listed a w)(hj:j∈Region.ready .any ops listed)(hw:Region.waitsFor .any ops j i=true)(hm:i<m) :
 ∃ v,a.tmps[sl i]? = some v∧R i v w:=h.slots i hm (ready_waits hj hw)
def putL:List (Nat × Value)→Array Value→Array Value
 | [],t=>t
 | p :: ps,t=>putL ps (t.setIfInBounds p.1 p.2)
theorem putL_eq:∀ (L:List (Nat × Value)) (t T:Array Value),T.size=t.size→(∀ p,p∈L→T[p.1]? = some p.2)→(∀ d,(∀ p,p∈L→p.1≠d)→T[d]? = t[d]?)→T=putL L t
 | [],t,T,_,_,h=>Array.ext_getElem? fun d=>h d (fun _ hp=>by cases hp)
 | p :: ps,t,T,hs,h1,h2=>by
   refine putL_eq ps _ T (by simpa using hs) (fun q hq=>h1 q (List.mem_cons_of_mem _ hq)) (fun d hd=>?_)
   have hp:=h1 p List.mem_cons_self
   by_cases hpd:p.1=d
   · subst hpd
     have hlt:p.1<T.size:=(Array.getElem?_eq_some_iff.1 hp).1
     rw[hp,Array.getElem?_setIfInBounds_self_of_lt (by omega)]
   · rw[Array.getElem?_setIfInBounds_ne hpd]
     exact h2 d (fun q hq=>by
       rcases List.mem_cons.1 hq with rfl|hq
       · exact hpd
       · exact hd q hq)
theorem RInv.fin (h:RInv ops m sl R a0 W listed a w)(L:List (Nat × Value))(h1:∀ p,p∈L→a.tmps[p.1]? = some p.2)(h2:∀ d,(∀ p,p∈L→p.1≠d)→∀ i,i<m→sl i≠d):a=⟨putL L a0.tmps,a0.defers⟩:=by
 have ht:=putL_eq L a0.tmps a.tmps h.tsize h1 (fun d hd=>h.rest d (h2 d hd))
 have hd:=h.defers
 cases a
 simp only at ht hd
 rw[ht,hd]
def lastB (ops:Array Oper) (m:Nat):Bool:=(List.range m).all fun j=>(List.range (m+1)).any fun k=>decide (j<k)&&Region.waitsFor .any ops k j
theorem last_all (hl:lastB ops m=true)(hc:Closed .any ops listed)(hr:m∈Region.ready .any ops listed):∀ n j,n+j=m→0<n→listed.getD j false=true:=by
 intro n
 induction n using Nat.strongRecOn with
 | _ n ih =>
   intro j hj hn
   have h1:=List.all_eq_true.1 hl j (List.mem_range.2 (by omega))
   obtain⟨k,hk,h2⟩:=List.any_eq_true.1 h1
   have hk:=List.mem_range.1 hk
   rw[Bool.and_eq_true,decide_eq_true_iff]at h2
   by_cases hkm:k=m
   · subst hkm;exact ready_waits hr h2.2
   · exact hc k j (ih (m-k) (by omega) k (by omega) (by omega)) h2.2
theorem getD_set_ne {listed:Array Bool}{i j:Nat}(h:j≠i):(listed.setIfInBounds i true).getD j false=listed.getD j false:=by
 simp only[Array.getD_eq_getD_getElem?]
 rw[Array.getElem?_setIfInBounds_ne (Ne.symm h)]
theorem getD_set_eq {listed:Array Bool}{i:Nat}(h:i<listed.size):(listed.setIfInBounds i true).getD i false=true:=by
 simp only[Array.getD_eq_getD_getElem?]
 rw[Array.getElem?_setIfInBounds_self_of_lt h]
 rfl
end
end Go.Gb
