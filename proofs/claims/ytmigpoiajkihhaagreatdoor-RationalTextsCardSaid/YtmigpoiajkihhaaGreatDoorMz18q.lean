/- Texts of this proof, one behind the other. -/
import Derived.Test.YtmigpoiajkihhaaGreatDoorMz17q
import Derived.Test.YtmigpoiajkihhaaGreatDoorMz1q
import Derived.WalkKit
import Derived.Lib.BufferOwn
import Derived.Test.YtmigpoiajkihhaaGreatDoorMz8q
/- More plain facts about Lehmer's way of Euclid's algorithm: what its rounds keep. No program is mentioned. -/
namespace Go.Gb
def Ten (s:Nat):Prop:=∃ k,k≤9∧s=10 ^ k
theorem Ten.one:Ten 1:=⟨0,by omega,rfl⟩
theorem Ten.pos {s:Nat} (h:Ten s):0<s:=by
 obtain ⟨k,_,rfl⟩:=h
 exact Nat.pow_pos (by decide)
theorem Ten.room {s:Nat} (h:Ten s):∃ t,0<t∧BB=s * t:=by
 obtain ⟨k,hk,rfl⟩:=h
 refine ⟨10 ^ (9 - k),Nat.pow_pos (by decide),?_⟩
 rw [← Nat.pow_add,show k+(9 - k)=9 by omega,BB_eq]
theorem Ten.step {s h:Nat} (hs:Ten s) (h0:1≤h) (hlt:h * s * 10<BB):Ten (s * 10):=by
 obtain ⟨k,hk,rfl⟩:=hs
 refine ⟨k+1,?_,by rw [Nat.pow_succ]⟩
 rcases Nat.lt_or_ge k 9 with h9|h9
 · omega
 · obtain rfl:k=9:=by omega
   have h1:1 * 10 ^ 9≤h * 10 ^ 9:=Nat.mul_le_mul_right _ h0
   rw [BB_eq] at hlt
   omega
theorem Made.even {a b c d u v f s:Nat} (h:Made a b c d false u v f s):(a:Int) * (u:Int) + -(b:Int) * (v:Int)=(f:Int) ∧ -(c:Int) * (u:Int)+(d:Int) * (v:Int)=(s:Int):=by
 obtain ⟨e1,e2⟩:=h.1 rfl
 have f1:(a:Int) * (u:Int)=(b:Int) * (v:Int)+(f:Int):=by exact_mod_cast e1
 have f2:(d:Int) * (v:Int)=(c:Int) * (u:Int)+(s:Int):=by exact_mod_cast e2
 rw [Int.neg_mul,Int.neg_mul]
 omega
theorem Made.odd {a b c d u v f s:Nat} (h:Made a b c d true u v f s) : -(a:Int) * (u:Int)+(b:Int) * (v:Int)=(f:Int)∧(c:Int) * (u:Int) + -(d:Int) * (v:Int)=(s:Int):=by
 obtain ⟨e1,e2⟩:=h.2 rfl
 have f1:(b:Int) * (v:Int)=(a:Int) * (u:Int)+(f:Int):=by exact_mod_cast e1
 have f2:(c:Int) * (u:Int)=(d:Int) * (v:Int)+(s:Int):=by exact_mod_cast e2
 rw [Int.neg_mul,Int.neg_mul]
 omega
structure Keeps (I:Nat→Nat→Nat→Nat→Bool→Prop):Prop where
 div:∀ F S P Q n,S≠0→I F S P Q n→I S (F % S) Q (P+F / S * Q) (!n)
 app:∀ F S P Q n a b c d o f s,F≠0→b≠0→Made a b c d o F S f s→Dtm a b c d o→Fac a b c d→s≤f→I F S P Q n→I f s (a * P+b * Q) (c * P+d * Q) (n != o)
 len:∀ F S P Q n,I F S P Q n→(digs F).length≤80000∧(digs S).length≤80000∧(digs P).length≤80000∧(digs Q).length≤80000
def CmI (N F S P Q:Nat) (_:Bool):Prop:=F+S≤N∧P=0∧Q=0
theorem Made.sum {a b c d u v f s:Nat} {o:Bool} (h:Made a b c d o u v f s) (hd:Dtm a b c d o) (hs:Fac a b c d) (hb:b≠0) (hu:u≠0) (hfs:s≤f) {N:Nat} (hN:u+v≤N):f+s≤N:=by
 have:=h.less hd hs hb hu hfs;omega
theorem CmI.keeps {N:Nat} (hN:(digs N).length≤80000):Keeps (CmI N):=by
 refine ⟨?_,?_,?_⟩
 · rintro F S P Q n hS ⟨h1,rfl,rfl⟩
   have h2:=Nat.mod_le F S
   exact ⟨by omega,rfl,by simp⟩
 · rintro F S P Q n a b c d o f s hF hb hm hd hf hsf ⟨h1,rfl,rfl⟩
   exact ⟨hm.sum hd hf hb hF hsf h1,by simp,by simp⟩
 · rintro F S P Q n ⟨h1,rfl,rfl⟩
   have l1:=digs_length_mono (show F≤N by omega)
   have l2:=digs_length_mono (show S≤N by omega)
   rw [digs_zero]
   simp only [List.length_nil]
   omega
end Go.Gb
/- Rows of the call's own that are written in place: which blocks turn, and where an appended row lies. -/
namespace Go.Gb
open Go.RowKit
structure Kp (S:Nat→Prop) (w w':World):Prop where
 os:w'.os=w.os
 tape:w'.tape=w.tape
 output:w'.output=w.output
 size:w.heap.size≤w'.heap.size
 block:∀ k,k<w.heap.size→¬ S k→w'.heap[k]? = w.heap[k]?
theorem Kp.refl (S:Nat→Prop) (w:World):Kp S w w:=⟨rfl,rfl,rfl,Nat.le_refl _,fun _ _ _=>rfl⟩
theorem Kp.trans {S S':Nat→Prop} {a b c:World} (h:Kp S a b) (k:Kp S' b c) (hs:∀ g,g<a.heap.size→S' g→S g):Kp S a c :=
 ⟨k.os.trans h.os,k.tape.trans h.tape,k.output.trans h.output,Nat.le_trans h.size k.size,fun i hi hn=>(k.block i (Nat.lt_of_lt_of_le hi h.size) (fun h'=>hn (hs i hi h'))).trans (h.block i hi hn)⟩
theorem Kp.mono {S S':Nat→Prop} {a b:World} (h:Kp S a b) (hs:∀ g,S g→S' g):Kp S' a b:=⟨h.os,h.tape,h.output,h.size,fun i hi hn=>h.block i hi (fun h'=>hn (hs i h'))⟩
theorem Kp.of_below {S:Nat→Prop} {a b:World} (h:Below a.heap.size a b):Kp S a b:=⟨h.os,h.tape,h.output,h.size,fun i hi _=>h.block i hi⟩
theorem Kp.below_more {S:Nat→Prop} {a b c:World} (h:Kp S a b) (k:Below b.heap.size b c):Kp S a c:=h.trans (Kp.of_below (S:=fun _=>False) k) (fun _ _ h=>h.elim)
theorem Kp.drew {S:Nat→Prop} {a b:World} (h:Kp S a b):Kp S a b.drew:=⟨h.os,h.tape,h.output,h.size,h.block⟩
theorem Kp.drewN {S:Nat→Prop} {a b:World} (h:Kp S a b) (n:Nat):Kp S a (b.drewN n):=⟨h.os,h.tape,h.output,h.size,h.block⟩
theorem Kp.alloc {S:Nat→Prop} {a b:World} (h:Kp S a b) (o:Obj):Kp S a (b.alloc o):=h.below_more ((Below.refl _ b).alloc (Nat.le_refl _) o)
theorem Kp.grown {S:Nat→Prop} {a b c:World} {row:Option Nat} (h:Kp S a b) (k:b.grownBy c row) (hr:∀ g,row=some g→g<a.heap.size→S g):Kp S a c :=
 ⟨k.os.trans h.os,k.tape.trans h.tape,k.output.trans h.output,Nat.le_trans h.size k.size,fun i hi hn=>(k.block i (Nat.lt_of_lt_of_le hi h.size) (fun h'=>hn (hr i h'.symm hi))).trans (h.block i hi hn)⟩
theorem Kp.set {S:Nat→Prop} {a b:World} (h:Kp S a b) {p:Addr} (hp:p.block<a.heap.size→S p.block) (u:Value):Kp S a (b.setCell p u) :=
 ⟨h.os,h.tape,h.output,by simp [World.setCell];exact h.size,fun i hi hn=>(Below.heap_setCell _ _ _ _ (fun e=>hn (by subst e;exact hp hi))).trans (h.block i hi hn)⟩
theorem Kp.below {S:Nat→Prop} {a b:World} {B:Nat} (h:Kp S a b) (hB:B≤a.heap.size) (hS:∀ g,S g→B≤g):Below B a b :=
 ⟨h.os,h.tape,h.output,h.size,fun k hk=>h.block k (Nat.lt_of_lt_of_le hk hB) (fun h'=>by have:=hS k h';omega)⟩
theorem Kp.cell {S:Nat→Prop} {w w':World} (h:Kp S w w') {b o:Nat} (hb:b<w.heap.size) (hn:¬ S b):w'.cell? ⟨b,o,none⟩=w.cell? ⟨b,o,none⟩:=World.cell?_of_block (w:=w) (h.block b hb hn)
theorem Kp.frozen {S:Nat→Prop} {w w':World} (h:Kp S w w') {b o:Nat} (hb:b<w.heap.size) (hn:¬ S b):w'.frozen? ⟨b,o,none⟩=w.frozen? ⟨b,o,none⟩:=World.frozen?_of_block (w:=w) (h.block b hb hn)
theorem wc_alloc {w:World} {o:Obj} {b k:Nat} (h:b<w.heap.size):(w.alloc o).cell? ⟨b,k,none⟩=w.cell? ⟨b,k,none⟩:=((Below.refl w.heap.size w).alloc (Nat.le_refl _) o).cell (p:=⟨b,k,none⟩) h
theorem wc_drew {w:World} {p:Addr}:w.drew.cell? p=w.cell? p:=rfl
theorem wc_ne {w:World} {v:Value} {b c i k:Nat} (h:c≠b):(w.setCell ⟨b,i,none⟩ v).cell? ⟨c,k,none⟩=w.cell? ⟨c,k,none⟩:=World.cell?_of_block (w:=w) (Below.heap_setCell w ⟨b,i,none⟩ v c h)
theorem wc_new {w:World} {cs:Array Value} {T:TypeId} {g k:Nat} (h:g=w.heap.size):(w.alloc (.cells cs T)).cell? ⟨g,k,none⟩=cs[k]? := by subst h;unfold World.cell?;simp only [heap_alloc_new];simp
theorem wf_new {w:World} {cs:Array Value} {T:TypeId} {g k:Nat} (h:g=w.heap.size):(w.alloc (.cells cs T)).frozen? ⟨g,k,none⟩=false:=by subst h;unfold World.frozen?;simp only [heap_alloc_new];simp
theorem wbc {W w1:World} (hb:Below W.heap.size W w1):(∀ b o,b<W.heap.size→w1.cell? ⟨b,o,none⟩=W.cell? ⟨b,o,none⟩)∧(∀ b o,b<W.heap.size→w1.frozen? ⟨b,o,none⟩=W.frozen? ⟨b,o,none⟩) :=
 ⟨fun b o h=>hb.cell (p:=⟨b,o,none⟩) h,fun b o h=>hb.frozen (p:=⟨b,o,none⟩) h⟩
def At (v:Value) (g:Nat):Prop:=v.ownBlock=some g
theorem at_nil (n m g:Nat):¬ At (.slice none n m) g:=by simp [At,Value.ownBlock]
theorem at_some {b o:Nat} {n c g:Nat}:At (.slice (some ⟨b,o,none⟩) n c) g↔b=g:=by simp [At,Value.ownBlock]
def Apt (v u:Value):Prop:=∀ g,At v g→¬ At u g
theorem Apt.symm {v u:Value} (h:Apt v u):Apt u v:=fun g h1 h2=>h g h2 h1
theorem Apt.nil_left (n m:Nat) (v:Value):Apt (.slice none n m) v:=fun _ h=>(at_nil _ _ _ h).elim
theorem Apt.nil_right (n m:Nat) (v:Value):Apt v (.slice none n m):=(Apt.nil_left n m v).symm
def NewOr (w:World) (v u:Value):Prop:=∀ g,At u g→At v g∨w.heap.size≤g
theorem NewOr.refl (w:World) (v:Value):NewOr w v v:=fun _ h=>Or.inl h
theorem NewOr.trans {w w':World} {v u t:Value} (h:NewOr w v u) (k:NewOr w' u t) (hs:w.heap.size≤w'.heap.size):NewOr w v t:=fun g hg=>by
 rcases k g hg with h1|h1
 · exact h g h1
 · right;omega
def Fresh (w:World) (u:Value):Prop:=∀ g,At u g→w.heap.size≤g
theorem Own.at {k:IntKind} {T:TypeId} {B:Nat} {w:World} {v:Value} {xs:List Nat} (h:Own k T B w v xs) {g:Nat} (hg:At v g):B≤g∧g<w.heap.size:=World.ownsRow.lt h g hg
theorem Own.fresh {k:IntKind} {T:TypeId} {w w0:World} {v:Value} {xs:List Nat} (h:Own k T w0.heap.size w v xs):Fresh w0 v:=fun _ hg=>(h.at hg).1
theorem Own.kp {k:IntKind} {T:TypeId} {B:Nat} {w w':World} {v:Value} {xs:List Nat} {S:Nat→Prop} (h:Own k T B w v xs) (hk:Kp S w w') (hn:∀ g,At v g→¬ S g):Own k T B w' v xs:=by
 obtain ⟨h1,h2⟩:=h
 refine ⟨h1,?_⟩
 rcases h2 with h2|⟨g,cap,cur,hv,hg,hh,r⟩
 · exact Or.inl h2
 · exact Or.inr ⟨g,cap,cur,hv,hg,by rw [hk.block g (Array.getElem?_eq_some_iff.1 hh).1 (hn g (by rw [hv];exact at_some.2 rfl))];exact hh,r⟩
theorem Apt.newOr {w:World} {v u t:Value} (h:Apt v t) (hn:NewOr w v u) (ht:∀ g,At t g→g<w.heap.size):Apt u t:=fun g h1 h2=>by
 rcases hn g h1 with h3|h3
 · exact h g h3 h2
 · have:=ht g h2;omega
theorem Apt.fresh {w:World} {u t:Value} (hn:Fresh w u) (ht:∀ g,At t g→g<w.heap.size):Apt u t:=fun g h1 h2=>by
 have:=ht g h2
 have:=hn g h1
 omega
section
variable {P:Program} (w:World)
theorem append_place (base:Nat) (t ty e:TypeId) (i:TypeInfo) (z:Value) (ht:P.underlying t=some (.slice e)) (hi:P.info? e=some i) (hz:i.zero=some z)
 (v:Value) (n:Nat) (xs:List Value) (hown:w.ownsRow base e i.size v n xs)
 (a:Addr) (m c:Nat) (news:List Value) (hm0:0<m) (hl:news.length=m * i.size) (hnews:∀ j u,news[j]? = some u→w.cell? (a.add j)=some u) (h1:∀ u ∈ news,u.oneCell'=true)
 (h63:n+m≤maxLen) (hbytes:(n+m) * i.bytes≤140737488355328) {v':Value} {w':World}
 (hr:(Builtin.append_ #[t,t] ty #[v,.slice (some a) m c]).run P w=.ok v' w'):NewOr w v v':=by
 have hsmall:n+m≤9223372036854775807:=by simp only [maxLen] at h63;omega
 have new:∀ (u:Value) (l k:Nat),.slice (some ⟨w.heap.size,0,none⟩) l k=v'→NewOr w u v':=by
  rintro u l k rfl g hg
  rw [at_some] at hg
  exact Or.inr (Nat.le_of_eq hg)
 rcases hown.2 with ⟨rfl,rfl⟩|⟨g,cap,cur,rfl,hbg,hg,hnc,hcm,hcs,htake⟩
 · rw [run_append_nil (P:=P) w t ty e i z ht hi hz a m c news hl hnews hm0 (by omega) (by rw [Nat.zero_add] at hbytes;omega)] at hr
   injection hr with e1 e2
   exact new _ _ _ e1
 · by_cases hroom:n+m≤cap
   · rw [run_append_room (P:=P) w t ty e i ht hi g n cap cur hg a m c news hl hnews h1 hroom (by rw [hl,hcs,← Nat.add_mul];exact Nat.mul_le_mul_right _ hroom)] at hr
     injection hr with e1 e2
     subst e1
     intro k hk
     rw [at_some] at hk
     exact Or.inl (at_some.2 hk)
   · rw [run_append_grow (P:=P) w t ty e i z ht hi hz ⟨g,0,none⟩ n cap xs hown.1 (hown.cells (g:=g) rfl) a m c news hl hnews (by omega) (by omega) (growslice_fits (by omega) hbytes)] at hr
     injection hr with e1 e2
     exact new _ _ _ e1
theorem wpList_append_at {ops:Array Oper} {rest:List Oper} {o:Oper} {a:Act} {Q:Exit→Act→World→Prop} (hgd:o.guard=none) (s x:Operand) (t:TypeId)
 (ho:o.op=.call { callee:=.builtin .append,args:=#[s,x],argTypes:=#[t,t] })
 (base:Nat) (e:TypeId) (i:TypeInfo) (z:Value) (ht:P.underlying t=some (.slice e)) (hi:P.info? e=some i) (hz:i.zero=some z)
 (hsize:i.size=1) (hby:i.bytes=8) (hzs:z.cells.size=1)
 (v:Value) (n:Nat) (xs:List Value) (hs:a.eval s=v) (hown:w.ownsRow base e 1 v n xs)
 (ad:Addr) (c:Nat) (u:Value) (hx:a.eval x=.slice (some ad) 1 c) (hnews:w.cell? (ad.add 0)=some u) (h1:u.oneCell'=true)
 (h63:n≤1000000) (hbase:base≤w.heap.size)
 (h:∀ v' w',w'.ownsRow base e 1 v' (n+1) (xs ++ [u])→w.grownBy w' v.ownBlock→NewOr w v v'→wpList P ops Q rest (a.put o.dst v') w'):wpList P ops Q (o :: rest) a w:=by
 refine wpList_plain hgd fun K hK=>?_
 have hn:∀ j u',[u][j]? = some u'→w.cell? (ad.add j)=some u':=by
  intro j u' hj
  match j,hj with
  | 0,hj=>simp at hj;subst hj;exact hnews
 have hu:∀ u' ∈ [u],u'.oneCell'=true:=by intro u' hu';simp at hu';subst hu';exact h1
 have hm:n+1≤maxLen:=by unfold maxLen;omega
 obtain ⟨v',w',hr,h2,h3,_⟩:=run_append_own (P:=P) w base t o.type e i z 1 8 ht hi hz hsize hby hzs (by omega) v n xs hown ad 1 c [u] rfl hn hu hm (by omega) hbase
 have hp:=append_place w base t o.type e i z ht hi hz v n xs (by rw [hsize];exact hown) ad 1 c [u] (by omega) (by rw [hsize];rfl) hn hu hm (by rw [hby];omega) hr
 unfold Oper.wp execOp
 simp only [ho,resolve,invoke,builtin,Sem.run_bind,Sem.run_pure,Result.andThen_ok,List.map_toArray,List.map_cons,List.map_nil,hs,hx,hr]
 exact hK _ _ (h v' w' h2 h3 hp)
end
end Go.Gb
/- words.pad, words.split and words.appendCarry: walks. -/
open Go.Lib (hid)
namespace Go.Proofs.YtmigpoiajkihhaaGreatDoor
set_option maxRecDepth 100000
set_option maxHeartbeats 20000000
open Go.RowKit Go.Gb
def lenV:Value→Nat|.slice _ n _=>n|_=>0
def Padded (xs ys:List Nat):Prop:=∃ k,ys=xs ++ List.replicate k 0
theorem Padded.start (xs:List Nat):Padded xs xs:=⟨0,by simp⟩
theorem Padded.step {xs ys:List Nat} (h:Padded xs ys):Padded xs (ys ++ [0]):=by
 obtain ⟨k,rfl⟩:=h
 exact ⟨k+1,by rw [List.append_assoc,repl_snoc]⟩
theorem Padded.fin {xs ys:List Nat} (h:Padded xs ys):ys=xs ++ List.replicate (ys.length - xs.length) 0:=by
 obtain ⟨k,rfl⟩:=h
 rw [List.length_append,List.length_replicate,Nat.add_sub_cancel_left]
theorem pad_any (B:Nat) (v:Value) (xs:List Nat) (n:Nat) (hn:n≤100000) (hx:xs.length≤n) (w:World) (h:Own .u64 141 B w v xs) (hB:B≤w.heap.size) :
 Calls Tryz.prog 246 #[v,.int .i64 (n:Int)] w fun e w'=>∃ u,e=.returned u∧Own .u64 141 B w' u (xs ++ List.replicate (n - xs.length) 0)∧NewOr w v u∧Kp (At v) w w':=by
 obtain ⟨i0,hi,hz0,hz1,hz2⟩:=info_parts Tryz.info141
 obtain ⟨a0,c0,rfl⟩:=rd_form h.rd
 have HO:=hid h
 have HB:=hid hB
 clear h hB
 go_enter Tryz.func246,Tryz.ntmps246
 go_wp2
 go_loopw [0] (fun x wr=>∃ (a:Option Addr) (c:Nat) (ys:List Nat),x=.slice a ys.length c∧ys.length≤n∧Hid (Padded xs ys)∧Hid (Own .u64 141 B wr (.slice a ys.length c) ys)∧Hid (NewOr w (.slice a0 xs.length c0) (.slice a ys.length c))∧Hid (Kp (At (.slice a0 xs.length c0)) w wr)) (fun x _=>n - lenV x)
 case atStart=>exact ⟨a0,c0,xs,rfl,hx,Padded.start xs,HO.out,NewOr.refl _ _,Kp.refl _ _⟩
 case round =>
  obtain ⟨a,c,ys,rfl,hl,hp,ho,hno,hk⟩:=hrel
  by_cases hlt:ys.length<n
  · have hsz:=hk.out.size
    have hBw:=HB.out
    go_wp2_with (at_builtin;refine wpList_append_at _ rfl _ _ 138 rfl B 141 i0 (.int .u64 0) Tryz.underlying138 hi hz0 hz1 hz2 rfl _ ys.length (cls .u64 ys) rfl (World.ownsRow.alloc ho.out _) ⟨wr.heap.size,0,none⟩ 1 (.int .u64 0) rfl (cells_one _ _ _ 0 _ rfl) rfl (by omega) (by simp;omega) ?_)
    intro v' w1 hown' hgrow hnew
    have ho1:Own .u64 141 B w1 v' (ys ++ [0]):=by
        unfold Own
        rw [cls_append,List.length_append]
        exact hown'
    obtain ⟨a',c',rfl⟩:=rd_form ho1.rd
    have HO1:=hid ho1
    have HN1:=hid (hno.out.trans hnew (by simp;omega))
    have HK1:=hid ((hk.out.alloc (.cells #[.int .u64 0] 141)).grown hgrow (fun g hg hlt=>by
        rcases hno.out g hg with h1|h1
        · exact h1
        · omega))
    clear ho1 hown' hgrow hnew
    go_wp2
    go_roundw
    case rel=>exact ⟨a',c',ys ++ [0],rfl,by simp;omega,hp.out.step,HO1,HN1,HK1⟩
    case measure=>simp [lenV];omega
  · have hfin:=hp.out.fin
    rw [show ys.length - xs.length=n - xs.length by omega] at hfin
    have HF:=hid hfin
    clear hfin
    go_wp2
    go_ret
    refine ⟨_,rfl,?_,hno.out,hk.out⟩
    rw [← HF.out]
    exact ho.out
theorem split_any (s:Int) (h0:0≤s+3000000000000000000) (h1:s+3000000000000000000<6000000000000000000) (w:World) :
 Calls Tryz.prog 247 #[.int .i64 s] w fun e w'=>e=.returned (.tuple #[.int .u64 ((s+3000000000000000000) % 1000000000),.int .i64 ((s+3000000000000000000) / 1000000000 - 3000000000)])∧w=w':=by
 obtain ⟨t,ht⟩:∃ t,t=s+3000000000000000000:=⟨_,rfl⟩
 have e1:IntKind.i64.wrap (s+3000000000000000000)=t:=by rw [ht];exact IntWalk.i64_in _ (by omega)
 rw [← ht] at h0 h1 ⊢
 have HT:=hid ht
 clear ht
 go_enter Tryz.func247,Tryz.ntmps247
 go_wp2
 go_ret2
 exact ⟨rfl,rfl⟩
theorem appendCarry_any (B:Nat) (v:Value) (xs:List Nat) (k:Nat) (hk3:k≤3000000000) (hx:xs.length≤100000) (w:World) (h:Own .u64 141 B w v xs) (hB:B≤w.heap.size) :
 Calls Tryz.prog 248 #[v,.int .i64 (k:Int)] w fun e w'=>∃ u,e=.returned u∧Own .u64 141 B w' u (xs ++ digs k)∧NewOr w v u∧Kp (At v) w w':=by
 obtain ⟨i0,hi,hz0,hz1,hz2⟩:=info_parts Tryz.info141
 obtain ⟨a0,c0,rfl⟩:=rd_form h.rd
 have hdl:(digs k).length≤2:=digs_length_le (by rw [BB_eq];omega)
 have HD:=hid hdl
 have HO:=hid h
 have HB:=hid hB
 clear h hB hdl
 go_enter Tryz.func248,Tryz.ntmps248
 go_wp2
 go_loopw [0,1] (fun x kk wr=>∃ (a:Option Addr) (c m:Nat) (ys:List Nat),x=.slice a ys.length c∧kk=.int .i64 (m:Int)∧m≤3000000000∧Hid (ys ++ digs m=xs ++ digs k)∧Hid (Own .u64 141 B wr (.slice a ys.length c) ys)∧Hid (NewOr w (.slice a0 xs.length c0) (.slice a ys.length c))∧Hid (Kp (At (.slice a0 xs.length c0)) w wr)) (fun _ kk _=>(intOf kk).toNat)
 case atStart=>exact ⟨a0,c0,k,xs,rfl,rfl,hk3,rfl,HO.out,NewOr.refl _ _,Kp.refl _ _⟩
 case round =>
  obtain ⟨a,c,m,ys,rfl,rfl,hm,he,ho,hno,hk⟩:=hrel
  have hyl:ys.length≤100002:=by
   have e:=congrArg List.length he.out
   rw [List.length_append,List.length_append] at e
   have:=HD.out
   omega
  by_cases hlt:0<m
  · have hsz:=hk.out.size
    have hBw:=HB.out
    have hdm:=digs_pos (n:=m) (by omega)
    rw [BB_eq] at hdm
    have HM:=hid hdm
    obtain ⟨r,hr⟩:∃ r:Nat,r=m % 1000000000:=⟨_,rfl⟩
    obtain ⟨q,hq⟩:∃ q:Nat,q=m / 1000000000:=⟨_,rfl⟩
    have e1:(m:Int) % 1000000000=(r:Int):=by omega
    have e2:(m:Int) / 1000000000=(q:Int):=by omega
    have HR:=hid hr
    have HQ:=hid hq
    have hq3:q≤3000000000:=by omega
    have hqm:=hid (show q<m by omega)
    have hr9:r<1000000000:=by omega
    clear hdm hr hq
    go_wp2_with (at_builtin;refine wpList_append_at _ rfl _ _ 138 rfl B 141 i0 (.int .u64 0) Tryz.underlying138 hi hz0 hz1 hz2 rfl _ ys.length (cls .u64 ys) rfl (World.ownsRow.alloc ho.out _) ⟨wr.heap.size,0,none⟩ 1 (.int .u64 (r:Int)) rfl (cells_one _ _ _ 0 _ rfl) rfl (by omega) (by simp;omega) ?_)
    intro v' w1 hown' hgrow hnew
    have ho1:Own .u64 141 B w1 v' (ys ++ [r]):=by
        unfold Own
        rw [cls_append,List.length_append]
        exact hown'
    obtain ⟨a',c',rfl⟩:=rd_form ho1.rd
    have HO1:=hid ho1
    have HN1:=hid (hno.out.trans hnew (by simp;omega))
    have HK1:=hid ((hk.out.alloc (.cells #[.int .u64 (r:Int)] 141)).grown hgrow (fun g hg hlt=>by
        rcases hno.out g hg with h1|h1
        · exact h1
        · omega))
    clear ho1 hown' hgrow hnew
    go_wp2
    go_roundw
    case rel=>exact ⟨a',c',q,ys ++ [r],rfl,rfl,hq3,by rw [List.append_assoc,List.singleton_append,HR.out,HQ.out,← HM.out];exact he.out,HO1,HN1,HK1⟩
    case measure=>simp [intOf];have:=hqm.out;omega
  · obtain rfl:m=0:=by omega
    have hfin:=he.out
    rw [digs_zero,List.append_nil] at hfin
    have HF:=hid hfin
    clear hfin
    go_wp2
    go_ret
    refine ⟨_,rfl,?_,hno.out,hk.out⟩
    rw [← HF.out]
    exact ho.out
theorem trim_take {xs:List Nat} (hB:∀ x ∈ xs,x<BB):xs.take (digs (wval xs)).length=digs (wval xs)∧(digs (wval xs)).length≤xs.length:=by
 have hlen:(digs (wval xs)).length≤xs.length:=digs_length_le (wval_lt xs hB)
 refine ⟨?_,hlen⟩
 have key:∀ (n:Nat),Zs xs n→digs (wval xs)=xs.take (digs (wval xs)).length:=by
  intro n
  induction n with
  | zero=>intro hz;have e:=digs_take hz.1 hB hz.2 (Or.inl rfl);have:=hz.fin hB (Or.inl rfl);rw [← this];exact e
  | succ n ih =>
    intro hz
    by_cases h0:xs.getD n 0=0
    · exact ih (by have:=hz.step (by simpa using h0);simpa using this)
    · have e:=digs_take hz.1 hB hz.2 (Or.inr (by simpa using h0))
      have:=hz.fin hB (Or.inr (by simpa using h0))
      rw [← this];exact e
 exact (key _ (Zs.start xs)).symm
theorem Trim_at (B:Nat) (v:Value) (xs:List Nat) (hB:∀ x ∈ xs,x<BB) (w:World) (h:Own .u64 141 B w v xs) :
 Calls Tryz.prog 194 #[v] w fun e w'=>∃ v',e=.returned v'∧Own .u64 141 B w v' (digs (wval xs))∧(∀ g,At v' g→At v g)∧w=w':=by
 have hd:=trim_take hB
 have h0:=h
 obtain ⟨h1,h2⟩:=h
 rcases h2 with ⟨rfl,h3⟩|⟨g,cap,cur,rfl,hg,hh,hn,hc,hs,ht⟩
 · obtain rfl:xs=[]:=List.length_eq_zero_iff.1 h3
   have hz:digs (wval [])=[]:=by unfold wval;exact digs_zero
   rw [hz]
   clear hd hB h0 hz
   go_enter Tryz.func194,Tryz.ntmps194
   go_wp2
   refine wp_loop_rounds 1 ?_
   rw [rounds_succ]
   go_wp2
   go_ret
   exact ⟨_,rfl,Own.nil _ _ _ _,fun _ h=>h,rfl⟩
 · have hrd:∀ i,i<xs.length→w.cell? ⟨g,0+i,none⟩=some (.int .u64 ((xs.getD i 0:Nat):Int)):=by
    rcases h0.rd with ⟨hv,_⟩|⟨b,o,c,hv,_,_,_,h5⟩
    · injection hv with hv;cases hv
    · injection hv with e1 e2 e3
      injection e1 with e1
      injection e1 with e4 e5 e6
      subst e4 e5 e3
      exact h5
   refine (Trim_some g 0 cap xs hB hn hc w hrd).mono fun e w' ⟨he,hw⟩=>⟨_,he,?_,fun k hk=>(by rw [at_some] at hk ⊢;exact hk),hw⟩
   have:=h0.take (digs (wval xs)).length hd.2
   rwa [hd.1] at this
end Go.Proofs.YtmigpoiajkihhaaGreatDoor
