/- texts -/
import Derived.Test.YtodcdibanokjjaaGreatDoorMz9q
import Derived.Test.YtodcdibanokjjaaGreatDoorMz6q
open Go.Proofs.Tryz
set_option maxRecDepth 100000
set_option maxHeartbeats 20000000
open Go.Lib (hid)
namespace Go.Proofs.YtodcdibanokjjaaGreatDoor
open Go.RowKit Go.Gb
theorem iq (v:Value)(xs:List Nat)(i:Nat)(hi:i≤1000000)(hl:xs.length≤1000000)(w:World)(h:Rd .u64 w v xs) :
 Calls Tryz.prog 189 #[v,.int .i64 (i:Int)] w fun e w'=>e=.returned (.int .u64 ((xs.getD i 0:Nat):Int))∧w=w':=by
 by_cases hlt:i<xs.length
 · obtain⟨b,o,c,rfl,_,_,_,r⟩:=dE h (by omega)
   have hc:=r i hlt;clear r h;generalize xs.getD i 0=x at *;go_enter func189,ntmps189
   go_wp2;go_ret
   exact⟨rfl,rfl⟩
 · obtain⟨a,c,rfl⟩:=aW h
   have e:xs.getD i 0=0:=by simp[List.getD,List.getElem?_eq_none (show xs.length≤i by omega)]
   rw[e];clear h e;go_enter func189,ntmps189
   go_wp2;go_ret
   exact⟨rfl,rfl⟩
theorem z1r (v:Value)(xs:List Nat)(hl:xs.length≤1000000)(w:World)(h:Rd .u64 w v xs) :
 Calls Tryz.prog 189 #[v,.int .i64 0] w fun e w'=>e=.returned (.int .u64 ((xs.getD 0 0:Nat):Int))∧w=w':=iq v xs 0 (by omega) hl w h
theorem z1q (v:Value)(xs:List Nat)(hl:xs.length≤1000000)(w:World)(h:Rd .u64 w v xs) :
 Calls Tryz.prog 189 #[v,.int .i64 1] w fun e w'=>e=.returned (.int .u64 ((xs.getD 1 0:Nat):Int))∧w=w':=iq v xs 1 (by omega) hl w h
theorem z2s {n:Nat}(h:(ae n).length≤2):(ae n).getD 1 0*BB+(ae n).getD 0 0=n∧(ae n).getD 0 0<BB∧(ae n).getD 1 0<BB:=by
 have hv:=az n;have hl:=aT n;refine⟨?_,getD_lt hl 0,getD_lt hl 1⟩
 match hd:ae n,h with
 | [],_=>rw[hd]at hv;simp[aj]at hv;simp;exact hv
 | [x],_=>rw[hd]at hv;simp[aj]at hv;simp;exact hv
 | [x,y],_=>rw[hd]at hv;simp[aj]at hv;simp;rw[Nat.mul_comm y];omega
theorem wB {n:Nat}(h:(ae n).length≤2):n<1000000000000000000:=by
 have h1:=dA n;have h2:BB^(ae n).length≤BB^2:=Nat.pow_le_pow_right bK h;have h3:BB^2=1000000000000000000:=by rw[aJ]
 omega
theorem ru (v:Value)(n:Nat)(hn:(ae n).length≤2)(w:World)(h:Rd .u64 w v (ae n)) :
 Calls Tryz.prog 163 #[v] w fun e w'=>e=.returned (.int .u64 (n:Int))∧w=w':=by
 have h0:=hid (z1r v (ae n) (by omega) w h);have h1:=hid (z1q v (ae n) (by omega) w h);obtain⟨g1,g2,g3⟩:=z2s hn;rw[aJ]at g1 g2 g3;have G1:=hid g1;clear g1 h hn;generalize (ae n).getD 0 0=x at *;generalize (ae n).getD 1 0=y at *;have k1:(x:Int)≤999999999:=by omega
 have k2:(y:Int)≤999999999:=by omega
 clear g2 g3;go_enter func163,ntmps163
 go_wp2_with fail
 refine h1.out.mono ?_;rintro e w' ⟨rfl,rfl⟩;go_wp2_with fail
 refine h0.out.mono ?_;rintro e w' ⟨rfl,rfl⟩;go_wp2;go_ret
 exact⟨dD (by have:=G1.out;omega),rfl⟩
theorem nH (a:Option Addr)(n c:Nat)(hn:n≤1000000)(w:World) :
 Calls Tryz.prog 161 #[.slice a n c] w fun e w'=>e=.returned (.bool (decide (n≤2)))∧w=w':=by
 by_cases h:n≤2
 · go_enter func161,ntmps161
   go_wp2;go_ret
   exact⟨df (by simp[h];try omega),rfl⟩
 · go_enter func161,ntmps161
   go_wp2;go_ret
   exact⟨df (by simp[h];try omega),rfl⟩
theorem jQ (v:Value)(xs:List Nat)(hn:xs.length≤2)(w:World)(h:Rd .u64 w v xs) :
 Calls Tryz.prog 161 #[v] w fun e w'=>e=.returned (.bool true)∧w=w':=by
 obtain⟨a,c,rfl⟩:=aW h;exact(nH a _ c (by omega) w).mono fun e w' ⟨h1,h2⟩=>⟨by rw[h1];simp[hn],h2⟩
theorem oU (v:Value)(xs:List Nat)(hn:2<xs.length)(hl:xs.length≤1000000)(w:World)(h:Rd .u64 w v xs) :
 Calls Tryz.prog 161 #[v] w fun e w'=>e=.returned (.bool false)∧w=w':=by
 obtain⟨a,c,rfl⟩:=aW h;exact(nH a _ c (by omega) w).mono fun e w' ⟨h1,h2⟩=>⟨by rw[h1];simp;omega,h2⟩
theorem z1X (n:Nat)(hn:n<1000000000000000000)(w:World) :
 Calls Tryz.prog 164 #[.int .u64 (n:Int)] w fun e w'=>∃ v,e=.returned v∧Gb.Own .u64 120 w.heap.size w' v (ae n)∧Below w.heap.size w w':=by
 have hB:=aJ;have hlo:n%1000000000<BB:=by rw[hB];exact Nat.mod_lt _ (by decide)
 have hhi:n / 1000000000<BB:=by rw[hB];omega
 have hblk:Blk (w.alloc (.cells #[.int .u64 ((n:Int)%1000000000),.int .u64 ((n:Int) / 1000000000)] 120)) w.heap.size [n%1000000000,n / 1000000000]:=Blk.alloc _ _ (by simp[cls]);have hown:=hblk.own (B:=w.heap.size) (Nat.le_refl _) (by unfold maxLen;simp) 2 (by simp)
 have htr:=eX 120 w.heap.size _ [n%1000000000,n / 1000000000] (by
  intro x hx;simp only[List.mem_cons,List.not_mem_nil,or_false]at hx;rcases hx with rfl|rfl
  · exact hlo
  · exact hhi) (w.alloc (.cells #[.int .u64 ((n:Int)%1000000000),.int .u64 ((n:Int) / 1000000000)] 120)) hown
 have hv:aj [n%1000000000,n / 1000000000]=n:=by simp only[aj];rw[hB];omega
 rw[hv]at htr;have HTR:=hid htr;clear htr hown hblk hlo hhi hv hB;have k1:(n:Int)<1000000000000000000:=by omega
 clear hn;go_enter func164,ntmps164
 go_wp2_with fail
 refine HTR.out.mono ?_;rintro e w1 ⟨v,rfl,ho,rfl⟩;go_wp2;go_ret
 exact⟨v,rfl,ho,(Below.refl _ _).alloc (Nat.le_refl _) _⟩
theorem tK (v1 v2:Value)(a b:Nat)(ha:(ae a).length≤2)(hb:(ae b).length≤2)(w:World)(h1:Rd .u64 w v1 (ae a))(h2:Rd .u64 w v2 (ae b)) :
 Calls Tryz.prog 142 #[v1,v2] w fun e w'=>∃ v,e=.returned v∧Gb.Own .u64 120 w.heap.size w' v (ae (Nat.gcd a b))∧Below w.heap.size w w':=by
 have s1:=hid (jQ v1 _ ha w h1);have s2:=hid (jQ v2 _ hb w h2);have t1:=hid (ru v1 a ha w h1);have t2:=hid (ru v2 b hb w h2)
 have hg:Nat.gcd a b<1000000000000000000:=by
  rcases Nat.eq_zero_or_pos a with h|h
  · rw[h,Nat.gcd_zero_left];exact wB hb
  · exact Nat.lt_of_le_of_lt (Nat.gcd_le_left b h) (wB ha)
 have hs:=hid (sU a b (wB ha) (wB hb));have hlo:=hid (z1X (Nat.gcd a b) hg);clear h1 h2 ha hb hg;generalize Nat.gcd a b=g at *;go_enter func142,ntmps142
 go_wp2_with fail
 refine s1.out.mono ?_;rintro e w' ⟨rfl,rfl⟩;go_wp2_with fail
 refine s2.out.mono ?_;rintro e w' ⟨rfl,rfl⟩;go_wp2_with fail
 refine t1.out.mono ?_;rintro e w' ⟨rfl,rfl⟩;go_wp2_with fail
 refine t2.out.mono ?_;rintro e w' ⟨rfl,rfl⟩;go_wp2_with fail
 refine(hs.out _).mono ?_;rintro e w1 ⟨sa,sb,sc,sd,so,rfl,_,hb1⟩;have HB1:=hid hb1;clear hb1 s1 s2 t1 t2;unfold Stp
 go_wp2_with fail
 refine(hlo.out _).mono ?_;rintro e w2 ⟨v,rfl,ho,hb2⟩;have HB2:=hid ((HB1.out.alloc HB1.out.size (.cells #[.int .u64 (sa:Int),.int .u64 (sb:Int),.int .u64 (sc:Int),.int .u64 (sd:Int),.bool so] 181)).trans (hb2.mono (by have:=HB1.out.size;simp;omega)));have HO:=hid (ho.mono (show w.heap.size≤_ by have:=HB1.out.size;simp;omega));clear ho hb2;go_wp2;go_ret
 exact⟨v,rfl,HO.out,HB2.out⟩
def z3a (a b:Nat):Prop:=∀ (v1 v2:Value) (w:World),Rd .u64 w v1 (ae a)→Rd .u64 w v2 (ae b) →
    Calls Tryz.prog 142 #[v1,v2] w fun e w'=>∃ v,e=.returned v∧Gb.Own .u64 120 w.heap.size w' v (ae (Nat.gcd a b))∧Below w.heap.size w w'
end Go.Proofs.YtodcdibanokjjaaGreatDoor
namespace Go.Gb
def Ten (s:Nat):Prop:=∃ k,k≤9∧s=10^k
theorem Ten.one:Ten 1:=⟨0,by omega,rfl⟩
theorem Ten.pos {s:Nat}(h:Ten s):0<s:=by
 obtain⟨k,_,rfl⟩:=h;exact Nat.pow_pos (by decide)
theorem Ten.room {s:Nat}(h:Ten s):∃ t,0<t∧BB=s*t:=by
 obtain⟨k,hk,rfl⟩:=h;refine⟨10^(9-k),Nat.pow_pos (by decide),?_⟩;rw[← Nat.pow_add,show k+(9-k)=9 by omega,aJ]
theorem Ten.step {s h:Nat}(hs:Ten s)(h0:1≤h)(hlt:h*s*10<BB):Ten (s*10):=by
 obtain⟨k,hk,rfl⟩:=hs;refine⟨k+1,?_,by rw[Nat.pow_succ]⟩;rcases Nat.lt_or_ge k 9 with h9|h9
 · omega
 · obtain rfl:k=9:=by omega
   have h1:1*10^9≤h*10^9:=Nat.mul_le_mul_right _ h0;rw[aJ]at hlt;omega
theorem Made.even {a b c d u v f s:Nat}(h:Made a b c d false u v f s):(a:Int)*(u:Int) + -(b:Int)*(v:Int)=(f:Int) ∧ -(c:Int)*(u:Int)+(d:Int)*(v:Int)=(s:Int):=by
 obtain⟨e1,e2⟩:=h.1 rfl;have f1:(a:Int)*(u:Int)=(b:Int)*(v:Int)+(f:Int):=by exact_mod_cast e1
 have f2:(d:Int)*(v:Int)=(c:Int)*(u:Int)+(s:Int):=by exact_mod_cast e2
 rw[Int.neg_mul,Int.neg_mul];omega
theorem Made.odd {a b c d u v f s:Nat}(h:Made a b c d true u v f s) : -(a:Int)*(u:Int)+(b:Int)*(v:Int)=(f:Int)∧(c:Int)*(u:Int) + -(d:Int)*(v:Int)=(s:Int):=by
 obtain⟨e1,e2⟩:=h.2 rfl;have f1:(b:Int)*(v:Int)=(a:Int)*(u:Int)+(f:Int):=by exact_mod_cast e1
 have f2:(c:Int)*(u:Int)=(d:Int)*(v:Int)+(s:Int):=by exact_mod_cast e2
 rw[Int.neg_mul,Int.neg_mul];omega
structure Keeps (I:Nat→Nat→Nat→Nat→Bool→Prop):Prop where
 div:∀ F S P Q n,S≠0→I F S P Q n→I S (F%S) Q (P+F / S*Q) (!n)
 app:∀ F S P Q n a b c d o f s,F≠0→b≠0→Made a b c d o F S f s→Dtm a b c d o→Fac a b c d→s≤f→I F S P Q n→I f s (a*P+b*Q) (c*P+d*Q) (n != o)
 len:∀ F S P Q n,I F S P Q n→(ae F).length≤80000∧(ae S).length≤80000∧(ae P).length≤80000∧(ae Q).length≤80000
def CmI (N F S P Q:Nat) (_:Bool):Prop:=F+S≤N∧P=0∧Q=0
theorem Made.sum {a b c d u v f s:Nat}{o:Bool}(h:Made a b c d o u v f s)(hd:Dtm a b c d o)(hs:Fac a b c d)(hb:b≠0)(hu:u≠0)(hfs:s≤f){N:Nat}(hN:u+v≤N):f+s≤N:=by
 have:=h.less hd hs hb hu hfs;omega
theorem CmI.keeps {N:Nat}(hN:(ae N).length≤80000):Keeps (CmI N):=by
 refine⟨?_,?_,?_⟩
 · rintro F S P Q n hS ⟨h1,rfl,rfl⟩
   have h2:=Nat.mod_le F S;exact⟨by omega,rfl,by simp⟩
 · rintro F S P Q n a b c d o f s hF hb hm hd hf hsf ⟨h1,rfl,rfl⟩
   exact⟨hm.sum hd hf hb hF hsf h1,by simp,by simp⟩
 · rintro F S P Q n ⟨h1,rfl,rfl⟩
   have l1:=aP (show F≤N by omega);have l2:=aP (show S≤N by omega);rw[aS];simp only[List.length_nil];omega
end Go.Gb
open Go.Lib (hid)
namespace Go.Proofs.YtodcdibanokjjaaGreatDoor
open Go.RowKit Go.Gb
def lenV:Value→Nat | .slice _ n _=>n|_=>0
def kZ (xs ys:List Nat):Prop:=∃ k,ys=xs++List.replicate k 0
theorem kZ.start (xs:List Nat):kZ xs xs:=⟨0,by simp⟩
theorem kZ.step {xs ys:List Nat}(h:kZ xs ys):kZ xs (ys++[0]):=by
 obtain⟨k,rfl⟩:=h;exact⟨k+1,by rw[List.append_assoc,iy]⟩
theorem kZ.fin {xs ys:List Nat}(h:kZ xs ys):ys=xs++List.replicate (ys.length-xs.length) 0:=by
 obtain⟨k,rfl⟩:=h;rw[List.length_append,List.length_replicate,Nat.add_sub_cancel_left]
theorem zX (B:Nat)(v:Value)(xs:List Nat)(n:Nat)(hn:n≤100000)(hx:xs.length≤n)(w:World)(h:Gb.Own .u64 120 B w v xs)(hB:B≤w.heap.size) :
 Calls Tryz.prog 241 #[v,.int .i64 (n:Int)] w fun e w'=>∃ u,e=.returned u∧Gb.Own .u64 120 B w' u (xs++List.replicate (n-xs.length) 0)∧fC w v u∧Kp (At v) w w':=by
 obtain⟨i0,hi,hz0,hz1,hz2⟩:=info_parts Tryz.info120;obtain⟨a0,c0,rfl⟩:=aW h.rd;have HO:=hid h;have HB:=hid hB;clear h hB;go_enter func241,ntmps241
 go_wp2;go_loopw [0] (fun x wr=>∃ (a:Option Addr) (c:Nat) (ys:List Nat),x=.slice a ys.length c∧ys.length≤n∧Hid (kZ xs ys)∧Hid (Gb.Own .u64 120 B wr (.slice a ys.length c) ys)∧Hid (fC w (.slice a0 xs.length c0) (.slice a ys.length c))∧Hid (Kp (At (.slice a0 xs.length c0)) w wr)) (fun x _=>n-lenV x)
 case atStart=>exact⟨a0,c0,xs,rfl,hx,kZ.start xs,HO.out,fC.refl _ _,Kp.refl _ _⟩
 case round =>
  obtain⟨a,c,ys,rfl,hl,hp,ho,hno,hk⟩:=hrel;by_cases hlt:ys.length<n
  · have hsz:=hk.out.size
    have hBw:=HB.out;go_wp2_with (at_builtin;refine iR _ rfl _ _ 158 rfl B 120 i0 (.int .u64 0) underlying158 hi hz0 hz1 hz2 rfl _ ys.length (cls .u64 ys) rfl (World.ownsRow.alloc ho.out _) ⟨wr.heap.size,0,none⟩ 1 (.int .u64 0) rfl (cells_one _ _ _ 0 _ rfl) rfl (by omega) (by simp;omega) ?_)
    intro v' w1 hown' hgrow hnew
    have ho1:Gb.Own .u64 120 B w1 v' (ys++[0]):=by
        unfold Gb.Own
        rw[bX,List.length_append];exact hown'
    obtain⟨a',c',rfl⟩:=aW ho1.rd;have HO1:=hid ho1;have HN1:=hid (hno.out.trans hnew (by simp;omega))
    have HK1:=hid ((hk.out.alloc (.cells #[.int .u64 0] 120)).grown hgrow (fun g hg hlt=>by
        rcases hno.out g hg with h1|h1
        · exact h1
        · omega))
    clear ho1 hown' hgrow hnew;go_wp2;go_roundw
    case rel=>exact⟨a',c',ys++[0],rfl,by simp;omega,hp.out.step,HO1,HN1,HK1⟩
    case measure=>simp[lenV];omega
  · have hfin:=hp.out.fin
    rw[show ys.length-xs.length=n-xs.length by omega]at hfin;have HF:=hid hfin;clear hfin;go_wp2;go_ret
    refine⟨_,rfl,?_,hno.out,hk.out⟩;rw[← HF.out];exact ho.out
theorem zl (s:Int)(h0:0≤s+3000000000000000000)(h1:s+3000000000000000000<6000000000000000000)(w:World) :
 Calls Tryz.prog 242 #[.int .i64 s] w fun e w'=>e=.returned (.tuple #[.int .u64 ((s+3000000000000000000)%1000000000),.int .i64 ((s+3000000000000000000) / 1000000000-3000000000)])∧w=w':=by
 obtain⟨t,ht⟩:∃ t,t=s+3000000000000000000:=⟨_,rfl⟩;have e1:IntKind.i64.wrap (s+3000000000000000000)=t:=by rw[ht];exact IntWalk.i64_in _ (by omega)
 rw[← ht]at h0 h1 ⊢;have HT:=hid ht;clear ht;go_enter func242,ntmps242
 go_wp2;go_ret2
 exact⟨rfl,rfl⟩
theorem ji (B:Nat)(v:Value)(xs:List Nat)(k:Nat)(hk3:k≤3000000000)(hx:xs.length≤100000)(w:World)(h:Gb.Own .u64 120 B w v xs)(hB:B≤w.heap.size) :
 Calls Tryz.prog 243 #[v,.int .i64 (k:Int)] w fun e w'=>∃ u,e=.returned u∧Gb.Own .u64 120 B w' u (xs++ae k)∧fC w v u∧Kp (At v) w w':=by
 obtain⟨i0,hi,hz0,hz1,hz2⟩:=info_parts Tryz.info120;obtain⟨a0,c0,rfl⟩:=aW h.rd;have hdl:(ae k).length≤2:=bJ (by rw[aJ];omega);obtain ⟨HD,HO,HB⟩:=ai hdl h hB;clear h hB hdl;go_enter func243,ntmps243
 go_wp2;go_loopw [0,1] (fun x kk wr=>∃ (a:Option Addr) (c m:Nat) (ys:List Nat),x=.slice a ys.length c∧kk=.int .i64 (m:Int)∧m≤3000000000∧Hid (ys++ae m=xs++ae k)∧Hid (Gb.Own .u64 120 B wr (.slice a ys.length c) ys)∧Hid (fC w (.slice a0 xs.length c0) (.slice a ys.length c))∧Hid (Kp (At (.slice a0 xs.length c0)) w wr)) (fun _ kk _=>(intOf kk).toNat)
 case atStart=>exact⟨a0,c0,k,xs,rfl,rfl,hk3,rfl,HO.out,fC.refl _ _,Kp.refl _ _⟩
 case round =>
  obtain⟨a,c,m,ys,rfl,rfl,hm,he,ho,hno,hk⟩:=hrel
  have hyl:ys.length≤100002:=by
   have e:=congrArg List.length he.out;rw[List.length_append,List.length_append]at e;have:=HD.out;omega
  by_cases hlt:0<m
  · have hsz:=hk.out.size
    have hBw:=HB.out;have hdm:=bL (n:=m) (by omega);rw[aJ]at hdm;have HM:=hid hdm;obtain⟨r,hr⟩:∃ r:Nat,r=m%1000000000:=⟨_,rfl⟩;obtain⟨q,hq⟩:∃ q:Nat,q=m / 1000000000:=⟨_,rfl⟩;have e1:(m:Int)%1000000000=(r:Int):=by omega
    have e2:(m:Int) / 1000000000=(q:Int):=by omega
    obtain ⟨HR,HQ⟩:=aF hr hq;have hq3:q≤3000000000:=by omega
    have hqm:=hid (show q<m by omega);have hr9:r<1000000000:=by omega
    clear hdm hr hq;go_wp2_with (at_builtin;refine iR _ rfl _ _ 158 rfl B 120 i0 (.int .u64 0) underlying158 hi hz0 hz1 hz2 rfl _ ys.length (cls .u64 ys) rfl (World.ownsRow.alloc ho.out _) ⟨wr.heap.size,0,none⟩ 1 (.int .u64 (r:Int)) rfl (cells_one _ _ _ 0 _ rfl) rfl (by omega) (by simp;omega) ?_)
    intro v' w1 hown' hgrow hnew
    have ho1:Gb.Own .u64 120 B w1 v' (ys++[r]):=by
        unfold Gb.Own
        rw[bX,List.length_append];exact hown'
    obtain⟨a',c',rfl⟩:=aW ho1.rd;have HO1:=hid ho1;have HN1:=hid (hno.out.trans hnew (by simp;omega))
    have HK1:=hid ((hk.out.alloc (.cells #[.int .u64 (r:Int)] 120)).grown hgrow (fun g hg hlt=>by
        rcases hno.out g hg with h1|h1
        · exact h1
        · omega))
    clear ho1 hown' hgrow hnew;go_wp2;go_roundw
    case rel=>exact⟨a',c',q,ys++[r],rfl,rfl,hq3,by rw[List.append_assoc,List.singleton_append,HR.out,HQ.out,← HM.out];exact he.out,HO1,HN1,HK1⟩
    case measure=>simp[intOf];have:=hqm.out;omega
  · obtain rfl:m=0:=by omega
    have hfin:=he.out;rw[aS,List.append_nil]at hfin;have HF:=hid hfin;clear hfin;go_wp2;go_ret
    refine⟨_,rfl,?_,hno.out,hk.out⟩;rw[← HF.out];exact ho.out
theorem yU {xs:List Nat}(hB:∀ x∈xs,x<BB):xs.take (ae (aj xs)).length=ae (aj xs)∧(ae (aj xs)).length≤xs.length:=by
 have hlen:(ae (aj xs)).length≤xs.length:=bJ (dJ xs hB);refine⟨?_,hlen⟩
 have key:∀ (n:Nat),Zs xs n→ae (aj xs)=xs.take (ae (aj xs)).length:=by
  intro n
  induction n with
  | zero=>intro hz;have e:=gH hz.1 hB hz.2 (Or.inl rfl);have:=hz.fin hB (Or.inl rfl);rw[← this];exact e
  | succ n ih =>
    intro hz;by_cases h0:xs.getD n 0=0
    · exact ih (by have:=hz.step (by simpa using h0);simpa using this)
    · have e:=gH hz.1 hB hz.2 (Or.inr (by simpa using h0))
      have:=hz.fin hB (Or.inr (by simpa using h0));rw[← this];exact e
 exact(key _ (Zs.start xs)).symm
theorem z0S (B:Nat)(v:Value)(xs:List Nat)(hB:∀ x∈xs,x<BB)(w:World)(h:Gb.Own .u64 120 B w v xs) :
 Calls Tryz.prog 190 #[v] w fun e w'=>∃ v',e=.returned v'∧Gb.Own .u64 120 B w v' (ae (aj xs))∧(∀ g,At v' g→At v g)∧w=w':=by
 have hd:=yU hB;have h0:=h;obtain⟨h1,h2⟩:=h;rcases h2 with⟨rfl,h3⟩|⟨g,cap,cur,rfl,hg,hh,hn,hc,hs,ht⟩
 · obtain rfl:xs=[]:=List.length_eq_zero_iff.1 h3
   have hz:ae (aj [])=[]:=by unfold aj;exact aS
   rw[hz];clear hd hB h0 hz;go_enter func190,ntmps190
   go_wp2;refine wp_loop_rounds 1 ?_;rw[rounds_succ];go_wp2;go_ret
   exact⟨_,rfl,Gb.Own.nil _ _ _ _,fun _ h=>h,rfl⟩
 · have hrd:∀ i,i<xs.length→w.cell? ⟨g,0+i,none⟩=some (.int .u64 ((xs.getD i 0:Nat):Int)):=by
    rcases h0.rd with⟨hv,_⟩|⟨b,o,c,hv,_,_,_,h5⟩
    · injection hv with hv;cases hv
    · injection hv with e1 e2 e3
      injection e1 with e1
      injection e1 with e4 e5 e6
      subst e4 e5 e3;exact h5
   refine(nZ g 0 cap xs hB hn hc w hrd).mono fun e w' ⟨he,hw⟩=>⟨_,he,?_,fun k hk=>(by rw[fe]at hk ⊢;exact hk),hw⟩;have:=h0.take (ae (aj xs)).length hd.2;rwa [hd.1]at this
open Go.Lib (hid)
theorem sS (x0 y0:Nat)(hx:x0<1000000000000000000)(hy:y0<1000000000000000000)(I:Nat→Nat→Nat→Nat→Nat→Nat→Bool→Prop)(h0:I x0 y0 1 0 0 1 false)
 (hstep:∀ x y a b c d o,0<y→il x0 y0 x y a b c d o→I x y a b c d o→I y (x%y) c d (a+x / y*c) (b+x / y*d) (!o)) (w:World) :
 Calls Tryz.prog 162 #[.int .u64 (x0:Int),.int .u64 (y0:Int)] w fun e w'=>∃ (a b c d:Nat) (o:Bool),e=.returned (.tuple #[.int .u64 ((Nat.gcd x0 y0:Nat):Int),Stp a b c d o])∧(il x0 y0 (Nat.gcd x0 y0) 0 a b c d o∧I (Nat.gcd x0 y0) 0 a b c d o)∧Below w.heap.size w w':=by
 have hs0:Sb ((w.alloc (.cells #[.int .u64 0,.int .u64 0,.int .u64 0,.int .u64 0,.bool false] 181)).alloc (.cells #[.int .u64 1,.int .u64 0,.int .u64 0,.int .u64 1,.bool false] 181)) (w.heap.size+1) 1 0 0 1 false:=by
  unfold Sb
  have:=heap_alloc_new (w.alloc (.cells #[.int .u64 0,.int .u64 0,.int .u64 0,.int .u64 0,.bool false] 181)) (.cells #[.int .u64 1,.int .u64 0,.int .u64 0,.int .u64 1,.bool false] 181);rw[World.size_alloc]at this;exact this
 have hr0:Sb ((w.alloc (.cells #[.int .u64 0,.int .u64 0,.int .u64 0,.int .u64 0,.bool false] 181)).alloc (.cells #[.int .u64 1,.int .u64 0,.int .u64 0,.int .u64 1,.bool false] 181)) w.heap.size 0 0 0 0 false:=by
  unfold Sb
  rw[Below.heap_alloc _ _ _ (by simp),heap_alloc_new];rfl
 have HS0:=hid hs0;have HR0:=hid hr0;have HN0:=hid (((Below.refl w.heap.size w).alloc (Nat.le_refl _) (.cells #[.int .u64 0,.int .u64 0,.int .u64 0,.int .u64 0,.bool false] 181)).alloc (by simp) (.cells #[.int .u64 1,.int .u64 0,.int .u64 0,.int .u64 1,.bool false] 181));have HI0:=hid h0;have HI:=hid hstep;clear h0 hstep;have HX:=hid hx;have HY:=hid hy;clear hs0 hr0 hx hy;go_enter func162,ntmps162
 go_wp2;go_loopw [0,1] (fun xx yy wr=>∃ (x y a b c d:Nat) (o:Bool),xx=.int .u64 (x:Int)∧yy=.int .u64 (y:Int)∧Hid (il x0 y0 x y a b c d o∧I x y a b c d o)∧Hid (x≤1000000000000000000∧y≤1000000000000000000)∧Hid (Sb wr (w.heap.size+1) a b c d o)∧Hid (Sb wr w.heap.size 0 0 0 0 false)∧Hid (Below w.heap.size w wr)) (fun _ yy _=>(intOf yy).toNat)
 case atStart=>exact⟨x0,y0,1,0,0,1,false,rfl,rfl,⟨il.start x0 y0,HI0.out⟩,⟨Nat.le_of_lt HX.out,Nat.le_of_lt HY.out⟩,HS0,HR0,HN0⟩
 case round =>
  obtain⟨x,y,a,b,c,d,o,rfl,rfl,hE,hxy,hS,hR,hn⟩:=hrel;clear HS0 HR0 HN0 HI0;by_cases hy0:0<y
  · have hbd:=hE.out.1.step.bound hy0
    have h1:a+x / y*c≤2000000000000000000:=by have:=HY.out;omega
    have h2:b+x / y*d≤2000000000000000000:=by have:=HX.out;omega
    obtain⟨a',ha'⟩:∃ a':Nat,a'=a+x / y*c:=⟨_,rfl⟩;obtain⟨b',hb'⟩:∃ b':Nat,b'=b+x / y*d:=⟨_,rfl⟩;have hW:=hid (show CQ 188 #[.agg #[.int .u64 (a:Int),.int .u64 (b:Int),.int .u64 (c:Int),.int .u64 (d:Int),.bool o],.int .u64 ((x:Int) / (y:Int))] (.agg #[.int .u64 (c:Int),.int .u64 (d:Int),.int .u64 (a':Int),.int .u64 (b':Int),.bool (!o)]) from fun W=>by rw[ha',hb'];exact pJ a b c d (x / y) o h1 h2 W);obtain ⟨HA',HB'⟩:=aF ha' hb';clear ha' hb';obtain⟨c0,c1,c2,c3,c4⟩:=bE hS.out;have hS':=hid (show Sb wr.drew (w.heap.size+1) a b c d o from hS.out);have y1:(1:Int)≤(y:Int):=by omega
    have yz:((y:Int)==0)=false:=beq_eq_false_iff_ne.2 (by omega);have hq64:x / y<18446744073709551616:=Nat.lt_of_le_of_lt (Nat.div_le_self x y) (by have:=hxy.out.1;omega);have hwq:IntKind.u64.wrap ((x:Int) / (y:Int))=(x:Int) / (y:Int):=IntWalk.u64_in _ ⟨Int.natCast_nonneg (x / y),by have:=(Int.ofNat_lt.2 hq64);omega⟩;have htm:(x:Int).tmod (y:Int)=(x:Int)%(y:Int):=rfl;clear hq64 h1 h2 hbd;go_wp2;go_region_with (go_at_call 188;go_must (refine(hW.out _).mono ?_;rintro e w1 ⟨rfl,hb1⟩;obtain⟨s0,s1,s2,s3,s4⟩:=bE (bI hS'.out hb1);have f0:=bi (bI hS'.out hb1) 0;have f1:=bi (bI hS'.out hb1) 1;have f2:=bi (bI hS'.out hb1) 2;have f3:=bi (bI hS'.out hb1) 3;have f4:=bi (bI hS'.out hb1) 4))
    all_goals
        have hS1:=bI hS'.out hb1;have hR1:=bI (show Sb wr.drew w.heap.size 0 0 0 0 false from hR.out) hb1;have hS2:=hid (fD hS1 c d a' b' (!o));have hR2:=hid (dF (g:=w.heap.size+1) hR1 (by omega) c d a' b' (!o));have hn2:=hid (dh (hn.out.drew.trans (hb1.mono (show w.heap.size≤wr.drew.heap.size from hn.out.size))) (g:=w.heap.size+1) (by omega) c d a' b' (!o));have hE2:=(⟨hE.out.1.step,HI.out _ _ _ _ _ _ _ hy0 hE.out.1 hE.out.2⟩:_∧_);rw[← HA'.out,← HB'.out]at hE2;obtain ⟨HE2,hlt,hmd⟩:=ai hE2 (Nat.mod_lt x hy0) (Nat.mod_le x y);clear hS1 hR1 hE2 s0 s1 s2 s3 s4 f0 f1 f2 f3 f4 hb1 hS' hW c0 c1 c2 c3 c4 hwq;change Exit.then _ _ Exit.normal _ (set5 w1 (w.heap.size+1) c d a' b' (!o));generalize set5 w1 (w.heap.size+1) c d a' b' (!o)=w2 at *;have hxm:(x:Int)%(y:Int)=((x%y:Nat):Int):=rfl;have hmw:IntKind.u64.wrap (((x%y:Nat):Int))=((x%y:Nat):Int):=IntWalk.u64_in _ (by have:=hxy.out.1;have:=hmd.out;omega);obtain⟨r,hr⟩:∃ r:Nat,r=x%y:=⟨_,rfl⟩;rw[← hr]at hxm hmw;have HRr:=hid hr;clear hr;go_wp2;go_quiet (fail)
        have hn3:=hid (below_drewN' hn2.out nq);have hS3:=hid (show Sb (w2.drewN nq) (w.heap.size+1) c d a' b' (!o) from hS2.out);have hR3:=hid (show Sb (w2.drewN nq) w.heap.size 0 0 0 0 false from hR2.out);go_wp2;go_roundw
        case rel=>exact⟨y,r,c,d,a',b',!o,rfl,rfl,by rw[HRr.out];exact HE2,⟨hxy.out.2,by have:=hxy.out.2;have:=hlt.out;rw[HRr.out];omega⟩,hS3,hR3,hn3⟩
        case measure=>simp[intOf];have:=hlt.out;have:=HRr.out;omega
  · have hy1:y=0:=by omega
    subst hy1;have hg:=hE.out.1.2.2.1;rw[Nat.gcd_zero_right]at hg;have HG:=hid hg;clear hg;have f0:=bi hR.out 0;have f1:=bi hR.out 1;have f2:=bi hR.out 2;have f3:=bi hR.out 3;have f4:=bi hR.out 4;obtain⟨r0,r1,r2,r3,r4⟩:=bE hR.out;obtain⟨c0,c1,c2,c3,c4⟩:=bE hS.out;go_wp2;go_region
    have hS2:=hid (show Sb (set5 wr w.heap.size a b c d o).drew w.heap.size a b c d o from fD hR.out a b c d o);have hn2:=hid (Below.drew (dh hn.out (g:=w.heap.size) (Nat.le_refl _) a b c d o));clear f0 f1 f2 f3 f4 r0 r1 r2 r3 r4 c0 c1 c2 c3 c4;change Exit.then _ _ Exit.normal _ (set5 wr w.heap.size a b c d o).drew;generalize (set5 wr w.heap.size a b c d o).drew=w2 at *;obtain⟨c0,c1,c2,c3,c4⟩:=bE hS2.out;go_wp2;refine bodyPost_ret (v:=.tuple #[.int .u64 (x:Int),Stp a b c d o]) (by simp[results,results162,go_sem,Stp,c0,c1,c2,c3,c4]) rfl ⟨a,b,c,d,o,by rw[HG.out],?_,hn2.out⟩;have:=hE.out;rw[HG.out]at this;exact this
end Go.Proofs.YtodcdibanokjjaaGreatDoor
namespace Go.Gb
open Go
theorem vB {xs:List Nat}(hx:∀ x∈xs,x<BB){i:Nat}(hi:xs.length=i+1)(k:Nat):aj xs / 10^(9*i+k)=xs.getD i 0 / 10^k:=by
 have h1:=cZ xs i (by omega)
 have h2:aj (xs.drop i)=xs.getD i 0:=by
  rw[fu (by omega),List.drop_of_length_le (by omega)];simp[aj]
 have hlt:=iV xs hx i;have hB:BB^i=10^(9*i):=by rw[Nat.pow_mul,show BB=10^9 from by rw[aJ]]
 rw[h2]at h1;rw[h1,Nat.pow_add,← hB,← Nat.div_div_eq_div_mul,Nat.add_mul_div_left _ _ (Nat.pow_pos bK),Nat.div_eq_of_lt hlt,Nat.zero_add]
def TOut (xs:List Nat) (bs:List UInt8) (i:Nat):Prop :=
 (i<xs.length∧bs=ldig (aj xs) (9*i))∨(i=xs.length∧∃ m,bs=ldig (aj xs) (m+1)∧10^m≤aj xs∧aj xs<10^(m+1))
def TIn (xs:List Nat) (bs:List UInt8) (i k q:Nat):Prop :=
 k≤9∧q=xs.getD i 0 / 10^k∧bs=ldig (aj xs) (9*i+k)∧(k=0∨i+1<xs.length∨xs.getD i 0 / 10^(k-1)≠0)
theorem TOut.zero {xs:List Nat}(h:0<xs.length):TOut xs [] 0:=Or.inl ⟨h,rfl⟩
theorem TIn.start {xs:List Nat}{bs:List UInt8}{i:Nat}(h:TOut xs bs i)(hi:i<xs.length):TIn xs bs i 0 (xs.getD i 0):=by
 rcases h with⟨_,h⟩|⟨h,_⟩
 · exact⟨by omega,by simp,h,Or.inl rfl⟩
 · omega
theorem TIn.len {xs:List Nat}{bs:List UInt8}{i k q:Nat}(h:TIn xs bs i k q):bs.length=9*i+k:=by rw[h.2.2.1,iP]
theorem TIn.lt {xs:List Nat}{bs:List UInt8}{i k q:Nat}(h:TIn xs bs i k q)(hi:i<xs.length)(hx:∀ x∈xs,x<BB):q<1000000000:=by
 have h1:=hx _ (aY hi);rw[aJ]at h1;rw[h.2.1];exact Nat.lt_of_le_of_lt (Nat.div_le_self _ _) h1
theorem TIn.step {xs:List Nat}{bs:List UInt8}{i k q:Nat}(h:TIn xs bs i k q)(hi:i<xs.length)(hx:∀ x∈xs,x<BB)(hk:k<9)(hg:i+1<xs.length∨0<q) :
 TIn xs (bs++[UInt8.ofNat (48+q%10)]) i (k+1) (q / 10):=by
 obtain⟨h1,h2,h3,h4⟩:=h;refine⟨by omega,?_,?_,?_⟩
 · rw[h2,Nat.div_div_eq_div_mul,Nat.pow_succ]
 · rw[h3,h2,← xk hx hi hk,← z08]
   rfl
 · rcases hg with hg|hg
   · exact Or.inr (Or.inl hg)
   · right;right
     rw[Nat.add_sub_cancel,← h2];omega
theorem TIn.done {xs:List Nat}{bs:List UInt8}{i k q:Nat}(h:TIn xs bs i k q)(hi:i<xs.length)(hx:∀ x∈xs,x<BB)(hl:xs.getD (xs.length-1) 0≠0)(hg:k=9∨(i+1=xs.length∧q=0)):TOut xs bs (i+1):=by
 obtain⟨h1,h2,h3,h4⟩:=h;by_cases hlt:i+1<xs.length
 · obtain rfl:k=9:=by omega
   exact Or.inl ⟨hlt,by rw[h3,Nat.mul_add]⟩
 · have hi1:xs.length=i+1:=by omega
   have hw:=hx _ (aY hi);rw[aJ]at hw;rw[show xs.length-1=i by omega]at hl
   have hq0:q=0:=by
    rcases hg with hg|hg
    · rw[h2,hg,Nat.div_eq_of_lt (by omega)]
    · exact hg.2
   obtain⟨j,rfl⟩:∃ j,k=j+1:=by
    refine⟨k-1,?_⟩;rcases Nat.eq_zero_or_pos k with h0|h0
    · rw[h0,Nat.pow_zero,Nat.div_one]at h2
      omega
    · omega
   have h5:xs.getD i 0 / 10^j≠0:=by
    rcases h4 with h4|h4|h4
    · omega
    · omega
    · rwa [Nat.add_sub_cancel]at h4
   have e1:=vB hx hi1 j;have e2:=vB hx hi1 (j+1);rw[← h2,hq0]at e2;refine Or.inr ⟨hi1.symm,9*i+j,h3,?_,?_⟩
   · rcases Nat.lt_or_ge (aj xs) (10^(9*i+j)) with h|h
     · rw[Nat.div_eq_of_lt h]at e1
       exact absurd e1.symm h5
     · exact h
   · rcases Nat.lt_or_ge (aj xs) (10^(9*i+(j+1))) with h|h
     · exact h
     · have:=Nat.div_pos h (Nat.pow_pos (by decide))
       omega
theorem TOut.done {xs:List Nat}{bs:List UInt8}(h:TOut xs bs xs.length):bs.reverse=Lib.decDigits (aj xs)∧0<bs.length:=by
 rcases h with⟨h,_⟩|⟨_,m,h1,h2,h3⟩
 · omega
 · rw[h1]
   exact⟨lY m _ h2 h3,by rw[iP];omega⟩
theorem TOut.len {xs:List Nat}{bs:List UInt8}{i:Nat}(h:TOut xs bs i)(hx:∀ x∈xs,x<BB):bs.length≤9*xs.length:=by
 rcases h with⟨h,e⟩|⟨_,m,h1,h2,h3⟩
 · rw[e,iP];omega
 · rw[h1,iP]
   have h4:=dJ xs hx;rw[show BB=10^9 from by rw[aJ],← Nat.pow_mul]at h4;have h5:10^m<10^(9*xs.length):=by omega
   have:=(Nat.pow_lt_pow_iff_right (by decide:1<10)).1 h5;omega
end Go.Gb
