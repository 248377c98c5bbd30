/- Texts of this proof, one behind the other. -/
import Derived.Test.YtcihodmmaclihaaGreatDoorMz25q
import Derived.Test.YtcihodmmaclihaaGreatDoorMz3q
namespace Go.Gb
def Ten (s:Nat):Prop:=∃ k,k≤9∧s=10^k
theorem Ten.one:Ten 1:=⟨0,by omega,rfl⟩
theorem Ten.pos {s:Nat}(h:Ten s):0<s:=by
 obtain⟨k,_,rfl⟩:=h
 exact Nat.pow_pos (by decide)
theorem Ten.room {s:Nat}(h:Ten s):∃ t,0<t∧BB=s*t:=by
 obtain⟨k,hk,rfl⟩:=h
 refine⟨10^(9-k),Nat.pow_pos (by decide),?_⟩
 rw[← Nat.pow_add,show k+(9-k)=9 by omega,BB_eq]
theorem Ten.step {s h:Nat}(hs:Ten s)(h0:1≤h)(hlt:h*s*10<BB):Ten (s*10):=by
 obtain⟨k,hk,rfl⟩:=hs
 refine⟨k+1,?_,by rw[Nat.pow_succ]⟩
 rcases Nat.lt_or_ge k 9 with h9|h9
 · omega
 · obtain rfl:k=9:=by omega
   have h1:1*10^9≤h*10^9:=Nat.mul_le_mul_right _ h0
   rw[BB_eq]at hlt
   omega
theorem Made.even {a b c d u v f s:Nat}(h:Made a b c d false u v f s):(a:Int)*(u:Int) + -(b:Int)*(v:Int)=(f:Int) ∧ -(c:Int)*(u:Int)+(d:Int)*(v:Int)=(s:Int):=by
 obtain⟨e1,e2⟩:=h.1 rfl
 have f1:(a:Int)*(u:Int)=(b:Int)*(v:Int)+(f:Int):=by exact_mod_cast e1
 have f2:(d:Int)*(v:Int)=(c:Int)*(u:Int)+(s:Int):=by exact_mod_cast e2
 rw[Int.neg_mul,Int.neg_mul]
 omega
theorem Made.odd {a b c d u v f s:Nat}(h:Made a b c d true u v f s) : -(a:Int)*(u:Int)+(b:Int)*(v:Int)=(f:Int)∧(c:Int)*(u:Int) + -(d:Int)*(v:Int)=(s:Int):=by
 obtain⟨e1,e2⟩:=h.2 rfl
 have f1:(b:Int)*(v:Int)=(a:Int)*(u:Int)+(f:Int):=by exact_mod_cast e1
 have f2:(c:Int)*(u:Int)=(d:Int)*(v:Int)+(s:Int):=by exact_mod_cast e2
 rw[Int.neg_mul,Int.neg_mul]
 omega
structure Keeps (I:Nat→Nat→Nat→Nat→Bool→Prop):Prop where
 div:∀ F S P Q n,S≠0→I F S P Q n→I S (F%S) Q (P+F / S*Q) (!n)
 app:∀ F S P Q n a b c d o f s,F≠0→b≠0→Made a b c d o F S f s→Dtm a b c d o→Fac a b c d→s≤f→I F S P Q n→I f s (a*P+b*Q) (c*P+d*Q) (n != o)
 len:∀ F S P Q n,I F S P Q n→(digs F).length≤80000∧(digs S).length≤80000∧(digs P).length≤80000∧(digs Q).length≤80000
def CmI (N F S P Q:Nat) (_:Bool):Prop:=F+S≤N∧P=0∧Q=0
theorem Made.sum {a b c d u v f s:Nat}{o:Bool}(h:Made a b c d o u v f s)(hd:Dtm a b c d o)(hs:Fac a b c d)(hb:b≠0)(hu:u≠0)(hfs:s≤f){N:Nat}(hN:u+v≤N):f+s≤N:=by
 have:=h.less hd hs hb hu hfs;omega
theorem CmI.keeps {N:Nat}(hN:(digs N).length≤80000):Keeps (CmI N):=by
 refine⟨?_,?_,?_⟩
 · rintro F S P Q n hS ⟨h1,rfl,rfl⟩
   have h2:=Nat.mod_le F S
   exact⟨by omega,rfl,by simp⟩
 · rintro F S P Q n a b c d o f s hF hb hm hd hf hsf ⟨h1,rfl,rfl⟩
   exact⟨hm.sum hd hf hb hF hsf h1,by simp,by simp⟩
 · rintro F S P Q n ⟨h1,rfl,rfl⟩
   have l1:=digs_length_mono (show F≤N by omega)
   have l2:=digs_length_mono (show S≤N by omega)
   rw[digs_zero]
   simp only[List.length_nil]
   omega
end Go.Gb
set_option maxRecDepth 100000
set_option maxHeartbeats 20000000
open Go.Lib (hid)
namespace Go.Proofs.YtcihodmmaclihaaGreatDoor
open Go.RowKit Go.Gb
def lenV:Value→Nat | .slice _ n _=>n|_=>0
def Padded (xs ys:List Nat):Prop:=∃ k,ys=xs++List.replicate k 0
theorem Padded.start (xs:List Nat):Padded xs xs:=⟨0,by simp⟩
theorem Padded.step {xs ys:List Nat}(h:Padded xs ys):Padded xs (ys++[0]):=by
 obtain⟨k,rfl⟩:=h
 exact⟨k+1,by rw[List.append_assoc,repl_snoc]⟩
theorem Padded.fin {xs ys:List Nat}(h:Padded xs ys):ys=xs++List.replicate (ys.length-xs.length) 0:=by
 obtain⟨k,rfl⟩:=h
 rw[List.length_append,List.length_replicate,Nat.add_sub_cancel_left]
theorem pad_any (B:Nat)(v:Value)(xs:List Nat)(n:Nat)(hn:n≤100000)(hx:xs.length≤n)(w:World)(h:Own .u64 143 B w v xs)(hB:B≤w.heap.size) :
 Calls Tryz.prog 195 #[v,.int .i64 (n:Int)] w fun e w'=>∃ u,e=.returned u∧Own .u64 143 B w' u (xs++List.replicate (n-xs.length) 0)∧NewOr w v u∧Kp (At v) w w':=by
 obtain⟨i0,hi,hz0,hz1,hz2⟩:=info_parts Tryz.info143
 obtain⟨a0,c0,rfl⟩:=rd_form h.rd
 have HO:=hid h
 have HB:=hid hB
 clear h hB
 go_enter Tryz.func195,Tryz.ntmps195
 go_wp2
 go_loopw [0] (fun x wr=>∃ (a:Option Addr) (c:Nat) (ys:List Nat),x=.slice a ys.length c∧ys.length≤n∧Hid (Padded xs ys)∧Hid (Own .u64 143 B wr (.slice a ys.length c) ys)∧Hid (NewOr w (.slice a0 xs.length c0) (.slice a ys.length c))∧Hid (Kp (At (.slice a0 xs.length c0)) w wr)) (fun x _=>n-lenV x)
 case atStart=>exact⟨a0,c0,xs,rfl,hx,Padded.start xs,HO.out,NewOr.refl _ _,Kp.refl _ _⟩
 case round =>
  obtain⟨a,c,ys,rfl,hl,hp,ho,hno,hk⟩:=hrel
  by_cases hlt:ys.length<n
  · have hsz:=hk.out.size
    have hBw:=HB.out
    go_wp2_with (at_builtin;refine wpList_append_at _ rfl _ _ 129 rfl B 143 i0 (.int .u64 0) Tryz.underlying129 hi hz0 hz1 hz2 rfl _ ys.length (cls .u64 ys) rfl (World.ownsRow.alloc ho.out _) ⟨wr.heap.size,0,none⟩ 1 (.int .u64 0) rfl (cells_one _ _ _ 0 _ rfl) rfl (by omega) (by simp;omega) ?_)
    intro v' w1 hown' hgrow hnew
    have ho1:Own .u64 143 B w1 v' (ys++[0]):=by
        unfold Own
        rw[cls_append,List.length_append]
        exact hown'
    obtain⟨a',c',rfl⟩:=rd_form ho1.rd
    have HO1:=hid ho1
    have HN1:=hid (hno.out.trans hnew (by simp;omega))
    have HK1:=hid ((hk.out.alloc (.cells #[.int .u64 0] 143)).grown hgrow (fun g hg hlt=>by
        rcases hno.out g hg with h1|h1
        · exact h1
        · omega))
    clear ho1 hown' hgrow hnew
    go_wp2
    go_roundw
    case rel=>exact⟨a',c',ys++[0],rfl,by simp;omega,hp.out.step,HO1,HN1,HK1⟩
    case measure=>simp[lenV];omega
  · have hfin:=hp.out.fin
    rw[show ys.length-xs.length=n-xs.length by omega]at hfin
    have HF:=hid hfin
    clear hfin
    go_wp2
    go_ret
    refine⟨_,rfl,?_,hno.out,hk.out⟩
    rw[← HF.out]
    exact ho.out
theorem split_any (s:Int)(h0:0≤s+3000000000000000000)(h1:s+3000000000000000000<6000000000000000000)(w:World) :
 Calls Tryz.prog 196 #[.int .i64 s] w fun e w'=>e=.returned (.tuple #[.int .u64 ((s+3000000000000000000)%1000000000),.int .i64 ((s+3000000000000000000) / 1000000000-3000000000)])∧w=w':=by
 obtain⟨t,ht⟩:∃ t,t=s+3000000000000000000:=⟨_,rfl⟩
 have e1:IntKind.i64.wrap (s+3000000000000000000)=t:=by rw[ht];exact IntWalk.i64_in _ (by omega)
 rw[← ht]at h0 h1 ⊢
 have HT:=hid ht
 clear ht
 go_enter Tryz.func196,Tryz.ntmps196
 go_wp2
 go_ret2
 exact⟨rfl,rfl⟩
theorem appendCarry_any (B:Nat)(v:Value)(xs:List Nat)(k:Nat)(hk3:k≤3000000000)(hx:xs.length≤100000)(w:World)(h:Own .u64 143 B w v xs)(hB:B≤w.heap.size) :
 Calls Tryz.prog 197 #[v,.int .i64 (k:Int)] w fun e w'=>∃ u,e=.returned u∧Own .u64 143 B w' u (xs++digs k)∧NewOr w v u∧Kp (At v) w w':=by
 obtain⟨i0,hi,hz0,hz1,hz2⟩:=info_parts Tryz.info143
 obtain⟨a0,c0,rfl⟩:=rd_form h.rd
 have hdl:(digs k).length≤2:=digs_length_le (by rw[BB_eq];omega)
 have HD:=hid hdl
 have HO:=hid h
 have HB:=hid hB
 clear h hB hdl
 go_enter Tryz.func197,Tryz.ntmps197
 go_wp2
 go_loopw [0,1] (fun x kk wr=>∃ (a:Option Addr) (c m:Nat) (ys:List Nat),x=.slice a ys.length c∧kk=.int .i64 (m:Int)∧m≤3000000000∧Hid (ys++digs m=xs++digs k)∧Hid (Own .u64 143 B wr (.slice a ys.length c) ys)∧Hid (NewOr w (.slice a0 xs.length c0) (.slice a ys.length c))∧Hid (Kp (At (.slice a0 xs.length c0)) w wr)) (fun _ kk _=>(intOf kk).toNat)
 case atStart=>exact⟨a0,c0,k,xs,rfl,rfl,hk3,rfl,HO.out,NewOr.refl _ _,Kp.refl _ _⟩
 case round =>
  obtain⟨a,c,m,ys,rfl,rfl,hm,he,ho,hno,hk⟩:=hrel
  have hyl:ys.length≤100002:=by
   have e:=congrArg List.length he.out
   rw[List.length_append,List.length_append]at e
   have:=HD.out
   omega
  by_cases hlt:0<m
  · have hsz:=hk.out.size
    have hBw:=HB.out
    have hdm:=digs_pos (n:=m) (by omega)
    rw[BB_eq]at hdm
    have HM:=hid hdm
    obtain⟨r,hr⟩:∃ r:Nat,r=m%1000000000:=⟨_,rfl⟩
    obtain⟨q,hq⟩:∃ q:Nat,q=m / 1000000000:=⟨_,rfl⟩
    have e1:(m:Int)%1000000000=(r:Int):=by omega
    have e2:(m:Int) / 1000000000=(q:Int):=by omega
    have HR:=hid hr
    have HQ:=hid hq
    have hq3:q≤3000000000:=by omega
    have hqm:=hid (show q<m by omega)
    have hr9:r<1000000000:=by omega
    clear hdm hr hq
    go_wp2_with (at_builtin;refine wpList_append_at _ rfl _ _ 129 rfl B 143 i0 (.int .u64 0) Tryz.underlying129 hi hz0 hz1 hz2 rfl _ ys.length (cls .u64 ys) rfl (World.ownsRow.alloc ho.out _) ⟨wr.heap.size,0,none⟩ 1 (.int .u64 (r:Int)) rfl (cells_one _ _ _ 0 _ rfl) rfl (by omega) (by simp;omega) ?_)
    intro v' w1 hown' hgrow hnew
    have ho1:Own .u64 143 B w1 v' (ys++[r]):=by
        unfold Own
        rw[cls_append,List.length_append]
        exact hown'
    obtain⟨a',c',rfl⟩:=rd_form ho1.rd
    have HO1:=hid ho1
    have HN1:=hid (hno.out.trans hnew (by simp;omega))
    have HK1:=hid ((hk.out.alloc (.cells #[.int .u64 (r:Int)] 143)).grown hgrow (fun g hg hlt=>by
        rcases hno.out g hg with h1|h1
        · exact h1
        · omega))
    clear ho1 hown' hgrow hnew
    go_wp2
    go_roundw
    case rel=>exact⟨a',c',q,ys++[r],rfl,rfl,hq3,by rw[List.append_assoc,List.singleton_append,HR.out,HQ.out,← HM.out];exact he.out,HO1,HN1,HK1⟩
    case measure=>simp[intOf];have:=hqm.out;omega
  · obtain rfl:m=0:=by omega
    have hfin:=he.out
    rw[digs_zero,List.append_nil]at hfin
    have HF:=hid hfin
    clear hfin
    go_wp2
    go_ret
    refine⟨_,rfl,?_,hno.out,hk.out⟩
    rw[← HF.out]
    exact ho.out
theorem trim_take {xs:List Nat}(hB:∀ x∈xs,x<BB):xs.take (digs (wval xs)).length=digs (wval xs)∧(digs (wval xs)).length≤xs.length:=by
 have hlen:(digs (wval xs)).length≤xs.length:=digs_length_le (wval_lt xs hB)
 refine⟨?_,hlen⟩
 have key:∀ (n:Nat),Zs xs n→digs (wval xs)=xs.take (digs (wval xs)).length:=by
  intro n
  induction n with
  | zero=>intro hz;have e:=digs_take hz.1 hB hz.2 (Or.inl rfl);have:=hz.fin hB (Or.inl rfl);rw[← this];exact e
  | succ n ih =>
    intro hz
    by_cases h0:xs.getD n 0=0
    · exact ih (by have:=hz.step (by simpa using h0);simpa using this)
    · have e:=digs_take hz.1 hB hz.2 (Or.inr (by simpa using h0))
      have:=hz.fin hB (Or.inr (by simpa using h0))
      rw[← this];exact e
 exact(key _ (Zs.start xs)).symm
theorem Trim_at (B:Nat)(v:Value)(xs:List Nat)(hB:∀ x∈xs,x<BB)(w:World)(h:Own .u64 143 B w v xs) :
 Calls Tryz.prog 155 #[v] w fun e w'=>∃ v',e=.returned v'∧Own .u64 143 B w v' (digs (wval xs))∧(∀ g,At v' g→At v g)∧w=w':=by
 have hd:=trim_take hB
 have h0:=h
 obtain⟨h1,h2⟩:=h
 rcases h2 with⟨rfl,h3⟩|⟨g,cap,cur,rfl,hg,hh,hn,hc,hs,ht⟩
 · obtain rfl:xs=[]:=List.length_eq_zero_iff.1 h3
   have hz:digs (wval [])=[]:=by unfold wval;exact digs_zero
   rw[hz]
   clear hd hB h0 hz
   go_enter Tryz.func155,Tryz.ntmps155
   go_wp2
   refine wp_loop_rounds 1 ?_
   rw[rounds_succ]
   go_wp2
   go_ret
   exact⟨_,rfl,Own.nil _ _ _ _,fun _ h=>h,rfl⟩
 · have hrd:∀ i,i<xs.length→w.cell? ⟨g,0+i,none⟩=some (.int .u64 ((xs.getD i 0:Nat):Int)):=by
    rcases h0.rd with⟨hv,_⟩|⟨b,o,c,hv,_,_,_,h5⟩
    · injection hv with hv;cases hv
    · injection hv with e1 e2 e3
      injection e1 with e1
      injection e1 with e4 e5 e6
      subst e4 e5 e3
      exact h5
   refine(Trim_some g 0 cap xs hB hn hc w hrd).mono fun e w' ⟨he,hw⟩=>⟨_,he,?_,fun k hk=>(by rw[at_some]at hk ⊢;exact hk),hw⟩
   have:=h0.take (digs (wval xs)).length hd.2
   rwa [hd.1]at this
end Go.Proofs.YtcihodmmaclihaaGreatDoor
set_option maxRecDepth 100000
set_option maxHeartbeats 20000000
open Go.Lib (hid)
namespace Go.Proofs.YtcihodmmaclihaaGreatDoor
open Go.RowKit Go.Gb
theorem own_form {B:Nat}{w:World}{a:Option Addr}{n c:Nat}{xs:List Nat}(h:Own .u64 143 B w (.slice a n c) xs)(hp:0<n):∃ g,a=some ⟨g,0,none⟩∧n=xs.length∧B≤g∧g<w.heap.size:=by
 obtain⟨h1,h2⟩:=h
 rcases h2 with⟨h2,_⟩|⟨g,cap,cur,hv,hg,hh,_⟩
 · injection h2 with e1 e2 e3;omega
 · injection hv with e1 e2 e3
   exact⟨g,e1,e2,hg,(Array.getElem?_eq_some_iff.1 hh).1⟩
theorem own_cell {B:Nat}{w:World}{g n c:Nat}{xs:List Nat}(h:Own .u64 143 B w (.slice (some ⟨g,0,none⟩) n c) xs)(hn:n=xs.length){i:Nat}(hi:i<n):w.cell? ⟨g,i,none⟩=some (.int .u64 ((xs.getD i 0:Nat):Int)):=by
 subst hn
 have:=World.ownsRow.cellAt (w:=w) (size:=1) h i (by omega)
 rw[this]
 exact cls_get hi
theorem own_free {B:Nat}{w:World}{g n c:Nat}{xs:List Nat}(h:Own .u64 143 B w (.slice (some ⟨g,0,none⟩) n c) xs)(hn:n=xs.length)(i:Nat):w.frozen? ⟨g,i,none⟩=false:=by
 subst hn
 exact World.ownsRow.frozenAt (w:=w) (size:=1) h i
theorem own_store {B:Nat}{w:World}{g n c:Nat}{xs:List Nat}(h:Own .u64 143 B w (.slice (some ⟨g,0,none⟩) n c) xs)(hn:n=xs.length)(i r:Nat):Own .u64 143 B (w.setCell ⟨g,i,none⟩ (.int .u64 (r:Int))) (.slice (some ⟨g,0,none⟩) n c) (xs.set i r):=by
 subst hn
 have:=(World.ownsRow.stored (w:=w) (size:=1) h i (.int .u64 (r:Int))).1
 unfold Own
 rw[cls_set,List.length_set]
 exact this
theorem own_other {B:Nat}{w:World}{v:Value}{xs:List Nat}(h:Own .u64 143 B w v xs){g:Nat}(hg:¬ At v g)(i:Nat)(u:Value):Own .u64 143 B (w.setCell ⟨g,i,none⟩ u) v xs :=
 h.kp (S:=fun k=>k=g) ((Kp.refl (fun k=>k=g) w).set (p:=⟨g,i,none⟩) (fun _=>rfl) u) (fun _ hk e=>hg (e▸hk))
theorem size_setC (w:World)(p:Addr)(u:Value):(w.setCell p u).heap.size=w.heap.size:=by simp[World.setCell]
theorem row_get (ys r:List Nat)(x:Nat):(ys++(x :: r)).getD ys.length 0=x:=by simp[List.getD]
theorem row_set (ys r:List Nat)(x v:Nat):(ys++(x :: r)).set ys.length v=(ys++[v])++r:=by simp
theorem bl_round {p q:Int}{X Y os:List Nat}{i:Nat}{k:Int}(h:BlInv p q X Y os i k)(hx:X.getD i 0<BB)(hy:Y.getD i 0<BB)(hp1 : -1000000000≤p)(hp2:p≤1000000000)(hq1 : -1000000000≤q)(hq2:q≤1000000000) :
 ∃ (r:Nat) (j:Int),BlInv p q X Y (os++[r]) (i+1) j∧r<1000000000 ∧ -3000000000≤j∧j≤3000000000 ∧
   ∀ W,Calls Tryz.prog 196 #[.int .i64 (p*(X.getD i 0:Int)+q*(Y.getD i 0:Int)+k)] W fun e w'=>e=.returned (.tuple #[.int .u64 (r:Int),.int .i64 j])∧W=w':=by
 obtain⟨b0,b1,hb⟩:=h.step hx hy hp1 hp2 hq1 hq2
 refine⟨_,_,hb,by omega,hb.2.2.1,hb.2.2.2.1,fun W=>?_⟩
 have hs:=split_any _ b0 b1 W
 rw[Int.toNat_of_nonneg (Int.emod_nonneg _ (by decide))]
 exact hs
theorem blend_any (B:Nat)(v1 v2:Value)(xs ys:List Nat)(a b c d:Int)(z1 z2:Nat)(w:World)
 (ha1 : -1000000000≤a) (ha2:a≤1000000000) (hb1 : -1000000000≤b) (hb2:b≤1000000000) (hc1 : -1000000000≤c) (hc2:c≤1000000000) (hd1 : -1000000000≤d) (hd2:d≤1000000000)
 (hx:∀ x∈xs,x<BB) (hy:∀ y∈ys,y<BB) (hlx:xs.length≤90000) (hly:ys.length≤90000)
 (e1:a*(wval xs:Int)+b*(wval ys:Int)=(z1:Int)) (e2:c*(wval xs:Int)+d*(wval ys:Int)=(z2:Int))
 (h1:Own .u64 143 B w v1 xs) (h2:Own .u64 143 B w v2 ys) (hs:Apt v1 v2) (hB:B≤w.heap.size) :
 Calls Tryz.prog 183 #[v1,v2,.int .i64 a,.int .i64 b,.int .i64 c,.int .i64 d] w fun e w'=>∃ u1 u2,e=.returned (.tuple #[u1,u2])∧Own .u64 143 B w' u1 (digs z1)∧Own .u64 143 B w' u2 (digs z2) ∧
  Apt u1 u2∧NewOr w v1 u1∧NewOr w v2 u2∧Kp (fun g=>At v1 g∨At v2 g) w w':=by
 obtain⟨n,hn⟩:∃ n,n=max xs.length ys.length:=⟨_,rfl⟩
 have hmx:max (xs.length:Int) (ys.length:Int)=(n:Int):=by omega
 obtain⟨X,hX⟩:∃ X,X=xs++List.replicate (n-xs.length) 0:=⟨_,rfl⟩
 obtain⟨Y,hY⟩:∃ Y,Y=ys++List.replicate (n-ys.length) 0:=⟨_,rfl⟩
 have hXl:X.length=n:=by rw[hX,List.length_append,List.length_replicate];omega
 have hYl:Y.length=n:=by rw[hY,List.length_append,List.length_replicate];omega
 have hXB:∀ x∈X,x<BB:=by
  intro x hx'
  rw[hX]at hx'
  rcases List.mem_append.1 hx' with h|h
  · exact hx x h
  · rw[(List.mem_replicate.1 h).2];exact BB_pos
 have hYB:∀ y∈Y,y<BB:=by
  intro y hy'
  rw[hY]at hy'
  rcases List.mem_append.1 hy' with h|h
  · exact hy y h
  · rw[(List.mem_replicate.1 h).2];exact BB_pos
 have hXv:wval X=wval xs:=by rw[hX];exact wval_zeros xs _
 have hYv:wval Y=wval ys:=by rw[hY];exact wval_zeros ys _
 rw[← hXv,← hYv]at e1 e2
 have HP1:=hid (show ∀ W,Own .u64 143 B W v1 xs→B≤W.heap.size→Calls Tryz.prog 195 #[v1,.int .i64 (n:Int)] W fun e w'=>∃ u,e=.returned u∧Own .u64 143 B w' u X∧NewOr W v1 u∧Kp (At v1) W w' from
  fun W h hBW=>by rw[hX];exact pad_any B v1 xs n (by omega) (by omega) W h hBW)
 have HP2:=hid (show ∀ W,Own .u64 143 B W v2 ys→B≤W.heap.size→Calls Tryz.prog 195 #[v2,.int .i64 (n:Int)] W fun e w'=>∃ u,e=.returned u∧Own .u64 143 B w' u Y∧NewOr W v2 u∧Kp (At v2) W w' from
  fun W h hBW=>by rw[hY];exact pad_any B v2 ys n (by omega) (by omega) W h hBW)
 have hn9:n≤90000:=by omega
 obtain⟨a1,c1,rfl⟩:=rd_form h1.rd
 obtain⟨a2,c2,rfl⟩:=rd_form h2.rd
 have HXB:=hid hXB
 have HYB:=hid hYB
 have HXL:=hid hXl
 have HYL:=hid hYl
 have HE1:=hid e1
 have HE2:=hid e2
 have H1:=hid h1
 have H2:=hid h2
 have HS:=hid hs
 have HB:=hid hB
 clear hn hX hY hXl hYl hXB hYB hXv hYv e1 e2 h1 h2 hs hB hx hy
 go_enter Tryz.func183,Tryz.ntmps183
 go_wp2_with fail
 refine(HP1.out _ H1.out HB.out).mono ?_
 rintro e w1 ⟨u1,rfl,ho1,hno1,hk1⟩
 have ho2:=H2.out.kp hk1 (fun g h h'=>HS.out g h' h)
 have hs1:Apt u1 (.slice a2 ys.length c2):=HS.out.newOr hno1 (fun g hg=>(H2.out.at hg).2)
 have HO1:=hid ho1
 have HO2:=hid ho2
 have HN1:=hid hno1
 have HK1:=hid hk1
 have HS1:=hid hs1
 clear ho1 ho2 hno1 hk1 hs1
 go_wp2_with fail
 refine(HP2.out _ HO2.out (Nat.le_trans HB.out HK1.out.size)).mono ?_
 rintro e w2 ⟨u2,rfl,ho2,hno2,hk2⟩
 have ho1:=HO1.out.kp hk2 (fun g h h'=>HS1.out g h h')
 have hs2:Apt u1 u2:=(HS1.out.symm.newOr hno2 (fun g hg=>(HO1.out.at hg).2)).symm
 have HN2:=hid (show NewOr w (.slice a2 ys.length c2) u2 from(NewOr.refl w _).trans hno2 HK1.out.size)
 have HK2:=hid (show Kp (fun g=>At (.slice a1 xs.length c1) g∨At (.slice a2 ys.length c2) g) w w2 from(HK1.out.mono (fun _ h=>Or.inl h)).trans hk2 (fun _ _ h=>Or.inr h))
 obtain⟨b1,k1,rfl⟩:=rd_form ho1.rd
 obtain⟨b2,k2,rfl⟩:=rd_form ho2.rd
 rw[HXL.out]at ho1 hs2 HN1
 rw[HYL.out]at ho2 hs2 HN2
 rw[HXL.out,HYL.out]
 have HO1:=hid ho1
 have HO2:=hid ho2
 have HS2:=hid hs2
 clear ho1 ho2 hno2 hk2 hs2 HP1 HP2 HS1 HK1
 go_wp2
 go_loopw [15,16,17,18,19,20,34] (fun f1 f2 _ _ _ _ ii wr=>∃ (i:Nat) (j1 j2:Int) (o1 o2:List Nat),i≤n∧ii=.int .i64 (i:Int)∧f1=.int .i64 j1∧f2=.int .i64 j2∧Hid (BlInv a b X Y o1 i j1)∧Hid (BlInv c d X Y o2 i j2) ∧
  Hid (Own .u64 143 B wr (.slice b1 n k1) (o1++X.drop i))∧Hid (Own .u64 143 B wr (.slice b2 n k2) (o2++Y.drop i))∧Hid (Kp (fun g=>At (.slice a1 xs.length c1) g∨At (.slice a2 ys.length c2) g) w wr)∧Hid (w2.heap.size=wr.heap.size)) (fun _ _ _ _ _ _ ii _=>n-(intOf ii).toNat)
 case atStart=>exact⟨0,0,0,[],[],Nat.zero_le _,rfl,rfl,rfl,BlInv.start _ _ _ _,BlInv.start _ _ _ _,by rw[List.drop_zero];exact HO1.out,by rw[List.drop_zero];exact HO2.out,HK2.out,rfl⟩
 case round =>
  obtain⟨i,j1,j2,o1,o2,hi,rfl,rfl,rfl,hi1,hi2,hO1,hO2,hK,hZ⟩:=hrel
  clear HO1 HO2 HK2
  by_cases hlt:i<n
  · obtain⟨g1,rfl,hl1,hg1B,hg1⟩:=own_form hO1.out (by omega)
    obtain⟨g2,rfl,hl2,hg2B,hg2⟩:=own_form hO2.out (by omega)
    have hne:g1≠g2:=fun e=>HS2.out g1 (at_some.2 rfl) (at_some.2 e.symm)
    have hne':¬ g2=g1:=fun e=>hne e.symm
    have ol1:=hi1.out.1
    have ol2:=hi2.out.1
    have x9:=getD_lt HXB.out i
    have y9:=getD_lt HYB.out i
    obtain⟨r1,m1,hn1,hr1,ml1,mu1,hs1⟩:=bl_round hi1.out x9 y9 ha1 ha2 hb1 hb2
    obtain⟨r2,m2,hn2,hr2,ml2,mu2,hs2⟩:=bl_round hi2.out x9 y9 hc1 hc2 hd1 hd2
    have q1:=Go.Gb.prod_bound ha1 ha2 x9
    have q2:=Go.Gb.prod_bound hb1 hb2 y9
    have q3:=Go.Gb.prod_bound hc1 hc2 x9
    have q4:=Go.Gb.prod_bound hd1 hd2 y9
    have jl1:=hi1.out.2.2.1
    have ju1:=hi1.out.2.2.2.1
    have jl2:=hi2.out.2.2.1
    have ju2:=hi2.out.2.2.2.1
    have dx:X.drop i=X.getD i 0 :: X.drop (i+1):=drop_consD (by rw[HXL.out];exact hlt)
    have dy:Y.drop i=Y.getD i 0 :: Y.drop (i+1):=drop_consD (by rw[HYL.out];exact hlt)
    have P1:=hO1.out
    have P2:=hO2.out
    rw[dx]at P1 hl1
    rw[dy]at P2 hl2
    have cx:=own_cell P1 hl1 (i:=i) hlt
    have cy:=own_cell P2 hl2 (i:=i) hlt
    have fx:=own_free P1 hl1 i
    have fy:=own_free P2 hl2 i
    have gx:=row_get o1 (X.drop (i+1)) (X.getD i 0)
    have gy:=row_get o2 (Y.drop (i+1)) (Y.getD i 0)
    rw[ol1]at gx
    rw[ol2]at gy
    rw[gx]at cx
    rw[gy]at cy
    have w1':=own_store P1 hl1 i r1
    have sx:=row_set o1 (X.drop (i+1)) (X.getD i 0) r1
    have sy:=row_set o2 (Y.drop (i+1)) (Y.getD i 0) r2
    rw[ol1]at sx
    rw[ol2]at sy
    rw[sx]at w1'
    have nA2:¬ At (.slice (some ⟨g2,0,none⟩) n k2) g1:=fun h=>hne' (at_some.1 h)
    have nA1:¬ At (.slice (some ⟨g1,0,none⟩) n k1) g2:=fun h=>hne (at_some.1 h)
    have w2':=own_store (own_other P2 nA2 i (.int .u64 (r1:Int))) hl2 i r2
    rw[sy]at w2'
    have HW1:=hid (own_other w1' nA1 i (.int .u64 (r2:Int)))
    have HW2:=hid w2'
    have kk:Kp (fun g=>At (.slice a1 xs.length c1) g∨At (.slice a2 ys.length c2) g) w ((wr.setCell ⟨g1,i,none⟩ (.int .u64 (r1:Int))).setCell ⟨g2,i,none⟩ (.int .u64 (r2:Int))):=by
        refine(hK.out.set (p:=⟨g1,i,none⟩) (fun hlt=>?_) _).set (p:=⟨g2,i,none⟩) (fun hlt=>?_) _
        · rcases HN1.out g1 (at_some.2 rfl) with h|h
          · exact Or.inl h
          · exact absurd hlt (by show ¬ g1<_;omega)
        · rcases HN2.out g2 (at_some.2 rfl) with h|h
          · exact Or.inr h
          · exact absurd hlt (by show ¬ g2<_;omega)
    have HKK:=hid kk
    have HN1':=hid hn1
    have HN2':=hid hn2
    have HS1:=hid hs1
    have HSS2:=hid hs2
    clear P1 P2 w1' w2' sx sy gx gy dx dy kk hn1 hn2 hs1 hs2 ol1 ol2 hl1 hl2 hO1 hO2 hi1 hi2 hK nA1 nA2
    rw[BB_eq]at x9 y9
    generalize X.getD i 0=x at *
    generalize Y.getD i 0=y at *
    obtain⟨pa,hpa⟩:∃ t,t=a*(x:Int):=⟨_,rfl⟩
    obtain⟨pb,hpb⟩:∃ t,t=b*(y:Int):=⟨_,rfl⟩
    obtain⟨pc,hpc⟩:∃ t,t=c*(x:Int):=⟨_,rfl⟩
    obtain⟨pd,hpd⟩:∃ t,t=d*(y:Int):=⟨_,rfl⟩
    rw[← hpa,← hpb]at HS1
    rw[← hpc,← hpd]at HSS2
    rw[← hpa]at q1
    rw[← hpb]at q2
    rw[← hpc]at q3
    rw[← hpd]at q4
    have ea:=hpa.symm
    have eb:=hpb.symm
    have ec:=hpc.symm
    have ed:=hpd.symm
    obtain⟨q1l,q1u⟩:=q1
    obtain⟨q2l,q2u⟩:=q2
    obtain⟨q3l,q3u⟩:=q3
    obtain⟨q4l,q4u⟩:=q4
    have v1:IntKind.i64.wrap pa=pa:=IntWalk.i64_in _ (by omega)
    have v2:IntKind.i64.wrap pb=pb:=IntWalk.i64_in _ (by omega)
    have v3:IntKind.i64.wrap pc=pc:=IntWalk.i64_in _ (by omega)
    have v4:IntKind.i64.wrap pd=pd:=IntWalk.i64_in _ (by omega)
    have v5:IntKind.i64.wrap (pa+pb)=pa+pb:=IntWalk.i64_in _ (by omega)
    have v6:IntKind.i64.wrap (pa+pb+j1)=pa+pb+j1:=IntWalk.i64_in _ (by omega)
    have v7:IntKind.i64.wrap (pc+pd)=pc+pd:=IntWalk.i64_in _ (by omega)
    have v8:IntKind.i64.wrap (pc+pd+j2)=pc+pd+j2:=IntWalk.i64_in _ (by omega)
    clear hpa hpb hpc hpd
    go_wp2_with fail
    refine(HS1.out _).mono ?_
    rintro e w' ⟨rfl,rfl⟩
    go_wp2_with fail
    refine(HSS2.out _).mono ?_
    rintro e w' ⟨rfl,rfl⟩
    clear v1 v2 v3 v4 v5 v6 v7 v8 ea eb ec ed
    go_wp2
    go_roundw
    case rel=>exact⟨i+1,m1,m2,o1++[r1],o2++[r2],by omega,by go_num,rfl,rfl,HN1',HN2',HW1,HW2,HKK,by show w2.heap.size=_;rw[size_setC,size_setC];exact hZ.out⟩
    case measure=>simp[intOf];omega
  · obtain rfl:i=n:=by omega
    obtain⟨z1n,hw1,hlt1⟩:=hi1.out.done (by rw[HXL.out];exact Nat.le_refl _) (by rw[HYL.out];exact Nat.le_refl _) HE1.out
    obtain⟨z2n,hw2,hlt2⟩:=hi2.out.done (by rw[HXL.out];exact Nat.le_refl _) (by rw[HYL.out];exact Nat.le_refl _) HE2.out
    have ju1:=hi1.out.2.2.2.1
    have ju2:=hi2.out.2.2.2.1
    have ol1:=hi1.out.1
    have ol2:=hi2.out.1
    obtain⟨m1,rfl⟩:=Int.eq_ofNat_of_zero_le z1n
    obtain⟨m2,rfl⟩:=Int.eq_ofNat_of_zero_le z2n
    rw[Int.toNat_natCast]at hw1 hlt1 hw2 hlt2
    have P1:=hO1.out
    have P2:=hO2.out
    rw[List.drop_of_length_le (by rw[HXL.out];exact Nat.le_refl _),List.append_nil]at P1
    rw[List.drop_of_length_le (by rw[HYL.out];exact Nat.le_refl _),List.append_nil]at P2
    have hBw:B≤wr.heap.size:=Nat.le_trans HB.out hK.out.size
    have A1:=hid (appendCarry_any B _ o1 m1 (by omega) (by omega) wr P1 hBw)
    have HP2:=hid P2
    have HP1:=hid P1
    have L1:=hid hlt1
    have L2:=hid hlt2
    have W1:=hid hw1
    have W2:=hid hw2
    have hm2:m2≤3000000000:=by omega
    have ho2l:o2.length≤100000:=by omega
    have HBW:=hid hBw
    clear P1 P2 hlt1 hlt2 hw1 hw2 z1n z2n ju1 ju2 ol1 ol2 hBw hO1 hO2 hi1 hi2
    go_wp2_with fail
    refine A1.out.mono ?_
    rintro e w3 ⟨u3,rfl,ho3,hno3,hk3⟩
    have T1:=hid (Trim_at B u3 _ L1.out w3 ho3)
    rw[W1.out]at T1
    have P2':=HP2.out.kp hk3 (fun g h h'=>HS2.out g h' h)
    have hs3:Apt u3 (.slice b2 i k2):=HS2.out.newOr hno3 (fun g hg=>(HP2.out.at hg).2)
    have A2:=hid (appendCarry_any B _ o2 m2 hm2 ho2l w3 P2' (Nat.le_trans HBW.out hk3.size))
    have HNO3:=hid hno3
    have HK3:=hid hk3
    have HS3:=hid hs3
    have HO3:=hid ho3
    have HPP2:=hid P2'
    clear ho3 hno3 hk3 hs3 P2'
    go_wp2_with fail
    refine T1.out.mono ?_
    rintro e w' ⟨t1,rfl,hot1,hat1,rfl⟩
    have HT1:=hid hot1
    have HA1:=hid hat1
    clear hot1 hat1
    go_wp2_with fail
    refine A2.out.mono ?_
    rintro e w4 ⟨u4,rfl,ho4,hno4,hk4⟩
    have T2:=hid (Trim_at B u4 _ L2.out w4 ho4)
    rw[W2.out]at T2
    have HNO4:=hid hno4
    have HK4:=hid hk4
    clear ho4 hno4 hk4
    go_wp2_with fail
    refine T2.out.mono ?_
    rintro e w' ⟨t2,rfl,hot2,hat2,rfl⟩
    have HT2:=hid hot2
    have HA2:=hid hat2
    clear hot2 hat2
    go_wp2
    go_ret2
    have zz:=hZ.out
    have z3:=HK3.out.size
    have zw:=hK.out.size
    have zz2:w.heap.size≤w2.heap.size:=by omega
    refine⟨t1,t2,rfl,HT1.out.kp HK4.out (fun g h h'=>HS3.out g (HA1.out g h) h'),HT2.out,?_,?_,?_,?_⟩
    · intro g h h'
      exact(HS3.out.symm.newOr HNO4.out (fun g hg=>(HO3.out.at hg).2)) g (HA2.out g h') (HA1.out g h)
    · intro g h
      rcases HNO3.out g (HA1.out g h) with h'|h'
      · exact HN1.out g h'
      · right;omega
    · intro g h
      rcases HNO4.out g (HA2.out g h) with h'|h'
      · exact HN2.out g h'
      · right;omega
    · refine(hK.out.trans (HK3.out) (fun g hg h=>?_)).trans HK4.out (fun g hg h=>?_)
      · rcases HN1.out g h with h'|h'
        · exact Or.inl h'
        · omega
      · rcases HN2.out g h with h'|h'
        · exact Or.inr h'
        · omega
end Go.Proofs.YtcihodmmaclihaaGreatDoor
