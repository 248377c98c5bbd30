/- texts -/
import Derived.Test.YtodcdibanokjjaaGreatDoorMz5q
namespace Go.Gb
open Go Go.RowKit
section
variable {P:Program} {ops:Array Oper} {Q:Exit→Act→World→Prop}
variable {m:Nat} {sl:Nat→Nat} {R:Nat→Value→World→Prop} {a a0:Act} {W:World→Prop} {listed:Array Bool} {w w':World}
theorem au {i:Nat}{o:Oper}{K:Act→World→Prop}(ho:ops[i]? = some o)
 (h:∀ K':Act→World→Prop,Hid (∀ a w,K a w→K' a w)→if Region.wanted o (yielded ops a.tmps)=true then Oper.wp P o a w K' Q else K' (a.put o.dst undef) w):wpOp P ops Q i K a w :=
 wpOp_step ho (fun K' hK=>h K' (Lib.hid hK))
theorem RInv.pv {i d:Nat}{v:Value}(h:RInv ops m sl R a0 W listed a w)(hi:i∈Region.ready .any ops listed)(hv:R i v w)(hm:i<m:=by decide)(hd:d=sl i:=by rfl)(hlo:d<a0.tmps.size:=by simp)
 (hinj:∀ j,j<m→sl j=d→j=i:=by decide):RInv ops m sl R a0 W (listed.setIfInBounds i true) (a.put (some d) v) w:=h.put hi hm hd hlo hinj hv (fun _ _ k=>k) h.world
theorem RInv.pc {L:List Rel}{w0:World}{i d:Nat}{v:Value}(h:RInv ops m sl (RelR L) a0 (fun W=>Below w0.heap.size w0 W) listed a w)(hi:i∈Region.ready .any ops listed)(hb:Below w.heap.size w w')(hv:RelR L i v w')(hm:i<m:=by decide)(hd:d=sl i:=by rfl)(hlo:d<a0.tmps.size:=by simp)
 (hinj:∀ j,j<m→sl j=d→j=i:=by decide):RInv ops m sl (RelR L) a0 (fun W=>Below w0.heap.size w0 W) (listed.setIfInBounds i true) (a.put (some d) v) w' :=
 h.put hi hm hd hlo hinj hv (fun j u k=>RelR.mono hb j u k) (h.world.trans (hb.mono h.world.size))
theorem RInv.rv {i j:Nat}{c:Value}(h:RInv ops m sl R a0 W listed a w)(hj:j∈Region.ready .any ops listed)(hw:Region.waitsFor .any ops j i=true)(hm:i<m)(hR:∀ v,R i v w→v=c):a.tmps[sl i]? = some c:=by
 obtain⟨v,h1,h2⟩:=h.at hj hw hm;rw[h1,hR v h2]
def RV (ops:Array Oper) (listed:Array Bool) (a:Act) (j d:Nat) (c:Value):Prop:=∀ i,i∈Region.ready .any ops listed→Region.waitsFor .any ops i j=true→a.tmps[d]? = some c
theorem RV.g {j d i:Nat}{c:Value}(h:RV ops listed a j d c)(hi:i∈Region.ready .any ops listed)(hw:Region.waitsFor .any ops i j=true):a.tmps[d]? = some c:=h i hi hw
theorem RInv.rh {j d:Nat}{c:Value}(h:RInv ops m sl R a0 W listed a w)(hm:j<m:=by decide)(hd:sl j=d:=by rfl)(hR:∀ v,R j v w→v=c:=by exact fun _ h=>h):RV ops listed a j d c:=by
 subst hd;exact fun i hi hw=>h.rv hi hw hm hR
theorem RInv.sx {c:Value}(h:RInv ops m sl R a0 W listed a w)(hall:∀ j,j<m→listed.getD j false=true)(i:Nat){d:Nat}(hm:i<m:=by decide)(hd:sl i=d:=by rfl)(hR:∀ v,R i v w→v=c:=by exact fun _ h=>h):a.tmps[d]? = some c:=by
 subst hd;obtain⟨v,h1,h2⟩:=h.slots i hm (hall i hm);rw[h1,hR v h2]
theorem RInv.sy {c:Value}{q:Nat}(h:RInv ops m sl R a0 W listed a w)(hall:∀ j,j<m→j≠q→listed.getD j false=true)(i:Nat){d:Nat}(hm:i<m:=by decide)(hq:i≠q:=by decide)(hd:sl i=d:=by rfl)(hR:∀ v,R i v w→v=c:=by exact fun _ h=>h):a.tmps[d]? = some c:=by
 subst hd;obtain⟨v,h1,h2⟩:=h.slots i hm (hall i hm hq);rw[h1,hR v h2]
def AllT:List (Nat × Value)→Array Value→Prop
 | [],_=>True
 | p :: t,T=>T[p.1]? = some p.2∧AllT t T
theorem AllT.mem:∀ {L:List (Nat × Value)} {T:Array Value},AllT L T→∀ p,p∈L→T[p.1]? = some p.2
 | _ :: _,_,h,p,hp=>by
   rcases List.mem_cons.1 hp with rfl|hp
   · exact h.1
   · exact AllT.mem h.2 p hp
def cov (m:Nat) (sl:Nat→Nat) (L:List (Nat × Value)):Bool:=(List.range m).all fun i=>L.any fun p=>p.1==sl i
theorem wN {L:List (Nat × Value)}(h:cov m sl L=true)(d:Nat)(hd:∀ p,p∈L→p.1≠d):∀ i,i<m→sl i≠d:=by
 intro i hi e;have h1:=List.all_eq_true.1 h i (List.mem_range.2 hi);obtain⟨p,hp,h2⟩:=List.any_eq_true.1 h1;exact hd p hp ((beq_iff_eq.1 h2).trans e)
theorem RInv.finx {L:List (Nat × Value)}(h:RInv ops m sl R a0 W listed a w)(h1:AllT L a.tmps)(h2:cov m sl L=true):a=⟨putL L a0.tmps,a0.defers⟩:=h.fin L h1.mem (wN h2)
theorem RInv.finp {sd:Nat}{v:Value}(h:RInv ops m sl R a0 W listed a w)(L:List (Nat × Value))(h1:AllT L (a.put (some sd) v).tmps)(h2:(cov m sl L&&L.any fun p=>p.1==sd)=true):a.put (some sd) v=⟨putL L a0.tmps,a0.defers⟩:=by
 rw[Bool.and_eq_true]at h2;refine h.fin_put L h1.mem (fun e he=>⟨wN h2.1 e he,fun k=>?_⟩);obtain⟨p,hp,h3⟩:=List.any_eq_true.1 h2.2;exact he p hp ((beq_iff_eq.1 h3).trans k)
end
end Go.Gb
namespace Go.Gb
open Go.RowKit
structure Kp (S:Nat→Prop) (w w':World):Prop where
 os:w'.os=w.os
 tape:w'.tape=w.tape
 output:w'.output=w.output
 size:w.heap.size≤w'.heap.size
 block:∀ k,k<w.heap.size→¬ S k→w'.heap[k]? = w.heap[k]?
theorem Kp.refl (S:Nat→Prop)(w:World):Kp S w w:=⟨rfl,rfl,rfl,Nat.le_refl _,fun _ _ _=>rfl⟩
theorem Kp.trans {S S':Nat→Prop}{a b c:World}(h:Kp S a b)(k:Kp S' b c)(hs:∀ g,g<a.heap.size→S' g→S g):Kp S a c :=
 ⟨k.os.trans h.os,k.tape.trans h.tape,k.output.trans h.output,Nat.le_trans h.size k.size,fun i hi hn=>(k.block i (Nat.lt_of_lt_of_le hi h.size) (fun h'=>hn (hs i hi h'))).trans (h.block i hi hn)⟩
theorem Kp.mono {S S':Nat→Prop}{a b:World}(h:Kp S a b)(hs:∀ g,S g→S' g):Kp S' a b:=⟨h.os,h.tape,h.output,h.size,fun i hi hn=>h.block i hi (fun h'=>hn (hs i h'))⟩
theorem Kp.of_below {S:Nat→Prop}{a b:World}(h:Below a.heap.size a b):Kp S a b:=⟨h.os,h.tape,h.output,h.size,fun i hi _=>h.block i hi⟩
theorem Kp.below_more {S:Nat→Prop}{a b c:World}(h:Kp S a b)(k:Below b.heap.size b c):Kp S a c:=h.trans (Kp.of_below (S:=fun _=>False) k) (fun _ _ h=>h.elim)
theorem Kp.drew {S:Nat→Prop}{a b:World}(h:Kp S a b):Kp S a b.drew:=⟨h.os,h.tape,h.output,h.size,h.block⟩
theorem Kp.drewN {S:Nat→Prop}{a b:World}(h:Kp S a b)(n:Nat):Kp S a (b.drewN n):=⟨h.os,h.tape,h.output,h.size,h.block⟩
theorem Kp.alloc {S:Nat→Prop}{a b:World}(h:Kp S a b)(o:Obj):Kp S a (b.alloc o):=h.below_more ((Below.refl _ b).alloc (Nat.le_refl _) o)
theorem Kp.grown {S:Nat→Prop}{a b c:World}{row:Option Nat}(h:Kp S a b)(k:b.grownBy c row)(hr:∀ g,row=some g→g<a.heap.size→S g):Kp S a c :=
 ⟨k.os.trans h.os,k.tape.trans h.tape,k.output.trans h.output,Nat.le_trans h.size k.size,fun i hi hn=>(k.block i (Nat.lt_of_lt_of_le hi h.size) (fun h'=>hn (hr i h'.symm hi))).trans (h.block i hi hn)⟩
theorem Kp.set {S:Nat→Prop}{a b:World}(h:Kp S a b){p:Addr}(hp:p.block<a.heap.size→S p.block)(u:Value):Kp S a (b.setCell p u) :=
 ⟨h.os,h.tape,h.output,by simp[World.setCell];exact h.size,fun i hi hn=>(Below.heap_setCell _ _ _ _ (fun e=>hn (by subst e;exact hp hi))).trans (h.block i hi hn)⟩
theorem Kp.below {S:Nat→Prop}{a b:World}{B:Nat}(h:Kp S a b)(hB:B≤a.heap.size)(hS:∀ g,S g→B≤g):Below B a b :=
 ⟨h.os,h.tape,h.output,h.size,fun k hk=>h.block k (Nat.lt_of_lt_of_le hk hB) (fun h'=>by have:=hS k h';omega)⟩
theorem Kp.cell {S:Nat→Prop}{w w':World}(h:Kp S w w'){b o:Nat}(hb:b<w.heap.size)(hn:¬ S b):w'.cell? ⟨b,o,none⟩=w.cell? ⟨b,o,none⟩:=World.cell?_of_block (w:=w) (h.block b hb hn)
theorem Kp.frozen {S:Nat→Prop}{w w':World}(h:Kp S w w'){b o:Nat}(hb:b<w.heap.size)(hn:¬ S b):w'.frozen? ⟨b,o,none⟩=w.frozen? ⟨b,o,none⟩:=World.frozen?_of_block (w:=w) (h.block b hb hn)
theorem eG {w:World}{o:Obj}{b k:Nat}(h:b<w.heap.size):(w.alloc o).cell? ⟨b,k,none⟩=w.cell? ⟨b,k,none⟩:=((Below.refl w.heap.size w).alloc (Nat.le_refl _) o).cell (p:=⟨b,k,none⟩) h
theorem mY {w:World}{p:Addr}:w.drew.cell? p=w.cell? p:=rfl
theorem yR {w:World}{v:Value}{b c i k:Nat}(h:c≠b):(w.setCell ⟨b,i,none⟩ v).cell? ⟨c,k,none⟩=w.cell? ⟨c,k,none⟩:=World.cell?_of_block (w:=w) (Below.heap_setCell w ⟨b,i,none⟩ v c h)
theorem oG {w:World}{cs:Array Value}{T:TypeId}{g k:Nat}(h:g=w.heap.size):(w.alloc (.cells cs T)).cell? ⟨g,k,none⟩=cs[k]? := by subst h;unfold World.cell?;simp only[heap_alloc_new];simp
theorem z3d {w:World}{cs:Array Value}{T:TypeId}{g k:Nat}(h:g=w.heap.size):(w.alloc (.cells cs T)).frozen? ⟨g,k,none⟩=false:=by subst h;unfold World.frozen?;simp only[heap_alloc_new];simp
theorem wbc {W w1:World}(hb:Below W.heap.size W w1):(∀ b o,b<W.heap.size→w1.cell? ⟨b,o,none⟩=W.cell? ⟨b,o,none⟩)∧(∀ b o,b<W.heap.size→w1.frozen? ⟨b,o,none⟩=W.frozen? ⟨b,o,none⟩) :=
 ⟨fun b o h=>hb.cell (p:=⟨b,o,none⟩) h,fun b o h=>hb.frozen (p:=⟨b,o,none⟩) h⟩
def At (v:Value) (g:Nat):Prop:=v.ownBlock=some g
theorem at_nil (n m g:Nat):¬ At (.slice none n m) g:=by simp[At,Value.ownBlock]
theorem fe {b o:Nat}{n c g:Nat}:At (.slice (some ⟨b,o,none⟩) n c) g↔b=g:=by simp[At,Value.ownBlock]
def Apt (v u:Value):Prop:=∀ g,At v g→¬ At u g
theorem Apt.symm {v u:Value}(h:Apt v u):Apt u v:=fun g h1 h2=>h g h2 h1
theorem Apt.nil_left (n m:Nat)(v:Value):Apt (.slice none n m) v:=fun _ h=>(at_nil _ _ _ h).elim
theorem Apt.nil_right (n m:Nat)(v:Value):Apt v (.slice none n m):=(Apt.nil_left n m v).symm
def fC (w:World) (v u:Value):Prop:=∀ g,At u g→At v g∨w.heap.size≤g
theorem fC.refl (w:World)(v:Value):fC w v v:=fun _ h=>Or.inl h
theorem fC.trans {w w':World}{v u t:Value}(h:fC w v u)(k:fC w' u t)(hs:w.heap.size≤w'.heap.size):fC w v t:=fun g hg=>by
 rcases k g hg with h1|h1
 · exact h g h1
 · right;omega
def z5l (w:World) (u:Value):Prop:=∀ g,At u g→w.heap.size≤g
theorem Own.at {k:IntKind}{T:TypeId}{B:Nat}{w:World}{v:Value}{xs:List Nat}(h:Own k T B w v xs){g:Nat}(hg:At v g):B≤g∧g<w.heap.size:=World.ownsRow.lt h g hg
theorem Own.fresh {k:IntKind}{T:TypeId}{w w0:World}{v:Value}{xs:List Nat}(h:Own k T w0.heap.size w v xs):z5l w0 v:=fun _ hg=>(h.at hg).1
theorem Own.kp {k:IntKind}{T:TypeId}{B:Nat}{w w':World}{v:Value}{xs:List Nat}{S:Nat→Prop}(h:Own k T B w v xs)(hk:Kp S w w')(hn:∀ g,At v g→¬ S g):Own k T B w' v xs:=by
 obtain⟨h1,h2⟩:=h;refine⟨h1,?_⟩;rcases h2 with h2|⟨g,cap,cur,hv,hg,hh,r⟩
 · exact Or.inl h2
 · exact Or.inr ⟨g,cap,cur,hv,hg,by rw[hk.block g (Array.getElem?_eq_some_iff.1 hh).1 (hn g (by rw[hv];exact fe.2 rfl))];exact hh,r⟩
theorem Apt.newOr {w:World}{v u t:Value}(h:Apt v t)(hn:fC w v u)(ht:∀ g,At t g→g<w.heap.size):Apt u t:=fun g h1 h2=>by
 rcases hn g h1 with h3|h3
 · exact h g h3 h2
 · have:=ht g h2;omega
theorem Apt.fresh {w:World}{u t:Value}(hn:z5l w u)(ht:∀ g,At t g→g<w.heap.size):Apt u t:=fun g h1 h2=>by
 have:=ht g h2;have:=hn g h1;omega
section
variable {P:Program} (w:World)
theorem sQ (base:Nat)(t ty e:TypeId)(i:TypeInfo)(z:Value)(ht:P.underlying t=some (.slice e))(hi:P.info? e=some i)(hz:i.zero=some z)
 (v:Value) (n:Nat) (xs:List Value) (hown:w.ownsRow base e i.size v n xs)
 (a:Addr) (m c:Nat) (news:List Value) (hm0:0<m) (hl:news.length=m*i.size) (hnews:∀ j u,news[j]? = some u→w.cell? (a.add j)=some u) (h1:∀ u∈news,u.oneCell'=true)
 (h63:n+m≤maxLen) (hbytes:(n+m)*i.bytes≤140737488355328) {v':Value} {w':World}
 (hr:(Builtin.append_ #[t,t] ty #[v,.slice (some a) m c]).run P w=.ok v' w'):fC w v v':=by
 have hsmall:n+m≤9223372036854775807:=by simp only[maxLen]at h63;omega
 have new:∀ (u:Value) (l k:Nat),.slice (some ⟨w.heap.size,0,none⟩) l k=v'→fC w u v':=by
  rintro u l k rfl g hg;rw[fe]at hg;exact Or.inr (Nat.le_of_eq hg)
 rcases hown.2 with⟨rfl,rfl⟩|⟨g,cap,cur,rfl,hbg,hg,hnc,hcm,hcs,htake⟩
 · rw[run_append_nil (P:=P) w t ty e i z ht hi hz a m c news hl hnews hm0 (by omega) (by rw[Nat.zero_add]at hbytes;omega)]at hr
   injection hr with e1 e2
   exact new _ _ _ e1
 · by_cases hroom:n+m≤cap
   · rw[run_append_room (P:=P) w t ty e i ht hi g n cap cur hg a m c news hl hnews h1 hroom (by rw[hl,hcs,← Nat.add_mul];exact Nat.mul_le_mul_right _ hroom)]at hr
     injection hr with e1 e2
     subst e1;intro k hk;rw[fe]at hk;exact Or.inl (fe.2 hk)
   · rw[run_append_grow (P:=P) w t ty e i z ht hi hz ⟨g,0,none⟩ n cap xs hown.1 (hown.cells (g:=g) rfl) a m c news hl hnews (by omega) (by omega) (growslice_fits (by omega) hbytes)]at hr
     injection hr with e1 e2
     exact new _ _ _ e1
theorem iR {ops:Array Oper}{rest:List Oper}{o:Oper}{a:Act}{Q:Exit→Act→World→Prop}(hgd:o.guard=none)(s x:Operand)(t:TypeId)
 (ho:o.op=.call { callee:=.builtin .append,args:=#[s,x],argTypes:=#[t,t] })
 (base:Nat) (e:TypeId) (i:TypeInfo) (z:Value) (ht:P.underlying t=some (.slice e)) (hi:P.info? e=some i) (hz:i.zero=some z)
 (hsize:i.size=1) (hby:i.bytes=8) (hzs:z.cells.size=1)
 (v:Value) (n:Nat) (xs:List Value) (hs:a.eval s=v) (hown:w.ownsRow base e 1 v n xs)
 (ad:Addr) (c:Nat) (u:Value) (hx:a.eval x=.slice (some ad) 1 c) (hnews:w.cell? (ad.add 0)=some u) (h1:u.oneCell'=true)
 (h63:n≤1000000) (hbase:base≤w.heap.size)
 (h:∀ v' w',w'.ownsRow base e 1 v' (n+1) (xs++[u])→w.grownBy w' v.ownBlock→fC w v v'→wpList P ops Q rest (a.put o.dst v') w'):wpList P ops Q (o :: rest) a w:=by
 refine wpList_plain hgd fun K hK=>?_
 have hn:∀ j u',[u][j]? = some u'→w.cell? (ad.add j)=some u':=by
  intro j u' hj
  match j,hj with
  | 0,hj=>simp at hj;subst hj;exact hnews
 have hu:∀ u'∈[u],u'.oneCell'=true:=by intro u' hu';simp at hu';subst hu';exact h1
 have hm:n+1≤maxLen:=by unfold maxLen;omega
 obtain⟨v',w',hr,h2,h3,_⟩:=run_append_own (P:=P) w base t o.type e i z 1 8 ht hi hz hsize hby hzs (by omega) v n xs hown ad 1 c [u] rfl hn hu hm (by omega) hbase;have hp:=sQ w base t o.type e i z ht hi hz v n xs (by rw[hsize];exact hown) ad 1 c [u] (by omega) (by rw[hsize];rfl) hn hu hm (by rw[hby];omega) hr;unfold Oper.wp execOp
 simp only[ho,resolve,invoke,builtin,Sem.run_bind,Sem.run_pure,Result.andThen_ok,List.map_toArray,List.map_cons,List.map_nil,hs,hx,hr];exact hK _ _ (h v' w' h2 h3 hp)
end
end Go.Gb
namespace Go.Gb
open Go Go.RowKit
def SBk (w:World) (g:Nat) (cs:Array Value) (T:TypeId):Prop:=w.heap[g]? = some (.cells cs T (0,0))
theorem SBk.lt {w:World}{g:Nat}{cs:Array Value}{T:TypeId}(h:SBk w g cs T):g<w.heap.size:=(Array.getElem?_eq_some_iff.1 h).1
theorem SBk.cell {w:World}{g i:Nat}{cs:Array Value}{T:TypeId}{v:Value}(h:SBk w g cs T)(hi:cs[i]? = some v):w.cell? ⟨g,i,none⟩=some v:=by
 unfold SBk at h;simp[World.cell?,h,hi]
theorem SBk.frozen {w:World}{g i:Nat}{cs:Array Value}{T:TypeId}(h:SBk w g cs T):w.frozen? ⟨g,i,none⟩=false:=by
 unfold SBk at h;simp[World.frozen?,h]
theorem SBk.below {w w':World}{g:Nat}{cs:Array Value}{T:TypeId}(h:SBk w g cs T)(hb:Below w.heap.size w w'):SBk w' g cs T:=by
 unfold SBk;rw[hb.block g h.lt];exact h
theorem SBk.new (w:World)(cs:Array Value)(T:TypeId):SBk (w.alloc (.cells cs T)) w.heap.size cs T:=heap_alloc_new _ _
theorem SBk.set {w:World}{g i:Nat}{cs:Array Value}{T:TypeId}(h:SBk w g cs T)(v:Value):SBk (w.setCell ⟨g,i,none⟩ v) g (cs.setIfInBounds i v) T:=by
 unfold SBk at *
 simp only[World.setCell,Array.getElem?_modify,h];simp
theorem SBk.off {w:World}{g g' i:Nat}{cs:Array Value}{T:TypeId}(h:SBk w g cs T)(hg:g≠g')(v:Value):SBk (w.setCell ⟨g',i,none⟩ v) g cs T:=by
 unfold SBk at *
 rw[← h];exact Below.heap_setCell w ⟨g',i,none⟩ v g hg
def bO (cs:Array Value):Bool:=cs.all fun v=>match v with | .int _ _=>false|_=>true
theorem zZ {cs:Array Value}(h:bO cs=true){i:Nat}{k:IntKind}{n:Int}:cs[i]? ≠ some (.int k n):=by
 intro e;have:=Array.all_eq_true'.1 h _ (Array.mem_of_getElem? e);simp at this
theorem Rd.set {w:World}{v:Value}{xs:List Nat}{k:IntKind}{g:Nat}{cs:Array Value}{T:TypeId}(h:Rd k w v xs)(hg:SBk w g cs T)(hn:bO cs=true)(i:Nat)(u:Value):Rd k (w.setCell ⟨g,i,none⟩ u) v xs:=by
 rcases h with h|⟨b',o,c',h1,h2,h3,h4,h5⟩
 · exact Or.inl h
 · refine Or.inr ⟨b',o,c',h1,h2,h3,by simpa [World.setCell] using h4,fun j hj=>?_⟩
   have h6:=h5 j hj
   have hne:b'≠g:=by
    intro e;subst e;unfold SBk at hg
    simp only[World.cell?,hg]at h6;exact zZ hn (by simpa using h6)
   exact(yR hne).trans h6
theorem vz {P:Program}{c:Code}{Q:Exit→Act→World→Prop}{a:Act}{w:World}(I:World→Prop)(h:I w)(k:∀ W,I W→c.wp P Q a W):c.wp P Q a w:=k w h
def Bx (w:World):List (Array Value × TypeId)→World→Prop
 | [],W=>W=w
 | (cs,T) :: l,W=>Bx (w.alloc (.cells cs T)) l W
def BxI (w:World) (n:Nat):List (Array Value × TypeId)→World→Prop
 | [],W=>Below w.heap.size w W
 | (cs,T) :: l,W=>SBk W n cs T∧BxI w (n+1) l W
theorem sN (w0:World):∀ (l:List (Array Value × TypeId)) (w W:World) (n:Nat),w.heap.size=n→Below w0.heap.size w0 w→Bx w l W→Below w.heap.size w W∧BxI w0 n l W
 | [],w,W,n,hn,hb,h=>by
   obtain rfl:W=w:=h;exact⟨Below.refl _ _,hb⟩
 | (cs,T) :: l,w,W,n,hn,hb,h=>by
   have h1:=sN w0 l (w.alloc (.cells cs T)) W (n+1) (by simp[hn]) (hb.alloc hb.size _) h;have h2:Below w.heap.size w W:=((Below.refl w.heap.size w).alloc (Nat.le_refl _) (.cells cs T)).trans (h1.1.mono (by simp));refine⟨h2,?_,h1.2⟩;subst hn;exact(SBk.new w cs T).below h1.1
theorem boxes (w:World)(l:List (Array Value × TypeId))(W:World)(h:Bx w l W):BxI w w.heap.size l W:=(sN w l w W _ rfl (Below.refl _ _) h).2
theorem ay {P:Program}{c:Code}{Q:Exit→Act→World→Prop}{a:Act}{W:World}(w:World)(l:List (Array Value × TypeId))(h:Bx w l W)(k:∀ W,BxI w w.heap.size l W→c.wp P Q a W):c.wp P Q a W:=k W (boxes w l W h)
def storeAll (w:World) (g:Nat):Nat→List Value→World
 | _,[]=>w
 | i,x :: l=>storeAll (w.setCell ⟨g,i,none⟩ x) g (i+1) l
def vJ (cs:Array Value):Nat→List Value→Array Value
 | _,[]=>cs
 | i,x :: l=>vJ (cs.setIfInBounds i x) (i+1) l
def bA:Value→Bool
 | .int _ _=>false
 | _=>true
theorem zY {cs:Array Value}(h:bO cs=true){x:Value}(hx:bA x=true)(i:Nat):bO (cs.setIfInBounds i x)=true:=by
 unfold bO at *
 refine Array.all_eq_true'.2 fun y hy=>?_;rcases Array.mem_or_eq_of_mem_setIfInBounds hy with hy|rfl
 · exact Array.all_eq_true'.1 h y hy
 · cases y<;>first|rfl|cases hx
theorem mE {k:IntKind}{v:Value}{xs:List Nat}{g:Nat}{T:TypeId}:∀ (l:List Value) (i:Nat) {w:World} {cs:Array Value},Rd k w v xs→SBk w g cs T→bO cs=true→l.all bA=true→Rd k (storeAll w g i l) v xs
 | [],_,_,_,h,_,_,_=>h
 | x :: l,i,_,_,h,hg,hn,hl=>by
   rw[List.all_cons,Bool.and_eq_true]at hl;exact mE l (i+1) (h.set hg hn i x) (hg.set x) (zY hn hl.1 i) hl.2
theorem bS {g:Nat}{T:TypeId}:∀ (l:List Value) (i:Nat) {w:World} {cs:Array Value},SBk w g cs T→SBk (storeAll w g i l) g (vJ cs i l) T
 | [],_,_,_,h=>h
 | x :: l,i,_,_,h=>bS l (i+1) (h.set x)
theorem aV {g g':Nat}{cs:Array Value}{T:TypeId}(hg:g≠g'):∀ (l:List Value) (i:Nat) {w:World},SBk w g cs T→SBk (storeAll w g' i l) g cs T
 | [],_,_,h=>h
 | x :: l,i,_,h=>aV hg l (i+1) (h.off hg x)
theorem av {B g:Nat}{a:World}(hg:B≤g):∀ (l:List Value) (i:Nat) {w:World},Below B a w→Below B a (storeAll w g i l)
 | [],_,_,h=>h
 | x :: l,i,_,h=>av hg l (i+1) (h.setCell (p:=⟨g,i,none⟩) hg x)
theorem aI {w:World} {g:Nat} {cs:Array Value} {T:TypeId} {x0 x1:Value} (h:SBk w g cs T) (h0:cs[0]?=some x0) (h1:cs[1]?=some x1):w.cell? ⟨g,0,none⟩=some x0∧w.cell? ⟨g,1,none⟩=some x1:=⟨h.cell h0,h.cell h1⟩
theorem bG {w:World} {g:Nat} {cs:Array Value} {T:TypeId} (h:SBk w g cs T):w.frozen? ⟨g,0,none⟩=false∧w.frozen? ⟨g,1,none⟩=false:=⟨h.frozen,h.frozen⟩
theorem aA {w:World} {g:Nat} {cs:Array Value} {T:TypeId} {x0 x1 x2:Value} (h:SBk w g cs T) (h0:cs[0]?=some x0) (h1:cs[1]?=some x1) (h2:cs[2]?=some x2):w.cell? ⟨g,0,none⟩=some x0∧w.cell? ⟨g,1,none⟩=some x1∧w.cell? ⟨g,2,none⟩=some x2:=⟨h.cell h0,h.cell h1,h.cell h2⟩
theorem aZ {w:World} {g:Nat} {cs:Array Value} {T:TypeId} (h:SBk w g cs T):w.frozen? ⟨g,0,none⟩=false∧w.frozen? ⟨g,1,none⟩=false∧w.frozen? ⟨g,2,none⟩=false:=⟨h.frozen,h.frozen,h.frozen⟩
end Go.Gb
namespace Go.Gb
theorem mG (num:Int)(den:Nat)(hd:den≠0):(mkRat num den).num=num / ((Nat.gcd num.natAbs den:Nat):Int)∧(mkRat num den).den=den / Nat.gcd num.natAbs den:=by
 rw[← Rat.normalize_eq_mkRat hd,Rat.normalize_eq hd];exact⟨rfl,rfl⟩
theorem z0P (X Y:Rat)(g more rest:Nat)(num:Int)(hg:g=Nat.gcd X.den Y.den)(hm:more=Y.den / g)(hnum:num=X.num*(more:Int)+Y.num*((X.den / g:Nat):Int))(hr:rest=Nat.gcd num.natAbs g) :
 (X+Y).num=num / (rest:Int)∧(X+Y).den=X.den / rest*more:=by
 have hY:=Y.den_nz;have hX:=X.den_nz;have hg0:0<g:=by rw[hg];exact Nat.gcd_pos_of_pos_left _ (by omega)
 have dX:g∣X.den:=by rw[hg];exact Nat.gcd_dvd_left _ _
 have dY:g∣Y.den:=by rw[hg];exact Nat.gcd_dvd_right _ _
 have hr0:0<rest:=by rw[hr];exact Nat.gcd_pos_of_pos_right _ hg0
 have drg:rest∣g:=by rw[hr];exact Nat.gcd_dvd_right _ _
 have hden:X.den / g*Y.den / rest=X.den / rest*more:=by
  obtain⟨p,hp⟩:=dX;obtain⟨q,hq⟩:=dY;obtain⟨t,ht⟩:=drg;rw[hm,hp,hq,Nat.mul_div_cancel_left _ hg0,Nat.mul_div_cancel_left _ hg0];have e3:p*(g*q)=rest*(t*p*q):=by rw[ht];ac_rfl
  have e4:g*p=rest*(t*p):=by rw[ht];ac_rfl
  rw[e3,e4,Nat.mul_div_cancel_left _ hr0,Nat.mul_div_cancel_left _ hr0]
 have h:X+Y=Rat.add X Y:=rfl;rw[h];subst hg hm hr;unfold Rat.add
 simp only;split
 · rename_i h1
   rw[h1,Nat.div_one,Nat.div_one]at hnum;simp only;rw[h1,Nat.gcd_one_right,Nat.div_one,Nat.div_one];exact⟨by rw[hnum];simp,rfl⟩
 · rw[Rat.maybeNormalize_eq]
   simp only[Int.divExact_eq_ediv,← hnum];exact⟨trivial,hden⟩
theorem z01 (X Y:Rat)(g1 g2:Nat)(h1:g1=Nat.gcd X.num.natAbs Y.den)(h2:g2=Nat.gcd Y.num.natAbs X.den) :
 (X*Y).num=X.num / (g1:Int)*(Y.num / (g2:Int))∧(X*Y).den=X.den / g2*(Y.den / g1):=by
 subst h1 h2;have h:X*Y=Rat.mul X Y:=rfl;rw[h];unfold Rat.mul
 simp only[Int.divExact_eq_ediv,Nat.divExact_eq_div];exact⟨trivial,trivial⟩
theorem z00 (X:Rat):(-X).num = -X.num∧(-X).den=X.den:=⟨rfl,rfl⟩
theorem nI {X:Rat}(h:0<X.num):(X⁻¹).num=(X.den:Int)∧((X⁻¹).den:Int)=X.num:=by
 have e:X⁻¹=Rat.inv X:=rfl;rw[e];unfold Rat.inv
 rw[dif_neg (by omega),dif_pos h];exact⟨rfl,by simp only;omega⟩
theorem kC {X:Rat}(h:X.num<0):(X⁻¹).num = -(X.den:Int)∧((X⁻¹).den:Int) = -X.num:=by
 have e:X⁻¹=Rat.inv X:=rfl;rw[e];unfold Rat.inv
 rw[dif_pos h];exact⟨rfl,by simp only;omega⟩
theorem jl (X Y:Rat):X+Y=mkRat (X.num*(Y.den:Int)+Y.num*(X.den:Int)) (X.den*Y.den):=by
 have h1:=X.den_nz;have h2:=Y.den_nz;rw[Rat.add_def,Rat.normalize_eq_mkRat]
theorem jb (X Y:Rat):X*Y=mkRat (X.num*Y.num) (X.den*Y.den):=by
 rw[Rat.mul_def,Rat.normalize_eq_mkRat]
theorem yZ (X Y:Rat):X-Y=mkRat (X.num*(Y.den:Int)-Y.num*(X.den:Int)) (X.den*Y.den):=by
 rw[Rat.sub_eq_add_neg,jl];show mkRat (X.num*(Y.den:Int) + -Y.num*(X.den:Int)) (X.den*Y.den)=_
 rw[Int.neg_mul];congr 1
theorem qz (X Y:Rat)(h:0<Y.num):X / Y=mkRat (X.num*(Y.den:Int)) (X.den*Y.num.toNat):=by
 obtain⟨e1,e2⟩:=nI h;rw[Rat.div_def,jb,e1];congr 2
 omega
theorem qA (X Y:Rat)(h:Y.num<0):X / Y=mkRat (-(X.num*(Y.den:Int))) (X.den*(-Y.num).toNat):=by
 obtain⟨e1,e2⟩:=kC h;rw[Rat.div_def,jb,e1,Int.mul_neg];congr 2
 omega
def cmpQ (x y:Rat):Int:=if x<y then -1 else if y<x then 1 else 0
theorem uK {x y:Rat}(h:x<y):cmpQ x y = -1:=by unfold cmpQ;rw[if_pos h]
theorem nS {x y:Rat}(h:y<x):cmpQ x y=1:=by
 unfold cmpQ;rw[if_neg (by grind),if_pos h]
theorem z0A (x:Rat):cmpQ x x=0:=by
 unfold cmpQ;rw[if_neg (by grind),if_neg (by grind)]
theorem iH (X Y:Rat)(a b:Int)(ha:a=X.num*(Y.den:Int))(hb:b=Y.num*(X.den:Int)):cmpQ X Y=if a<b then -1 else if b<a then 1 else 0:=by
 unfold cmpQ
 simp only[Rat.lt_iff,← ha,← hb]
theorem eZ (x y:Rat):(x<y∧cmpQ x y = -1)∨(x=y∧cmpQ x y=0)∨(y<x∧cmpQ x y=1):=by
 by_cases h1:x<y
 · exact Or.inl ⟨h1,uK h1⟩
 · by_cases h2:y<x
   · exact Or.inr (Or.inr ⟨h2,nS h2⟩)
   · have:x=y:=by grind
     subst this;exact Or.inr (Or.inl ⟨rfl,z0A x⟩)
end Go.Gb
