/- texts -/
import Derived.Test.YtbcnefnbkdbobaaGreatDoorMz10q
import Derived.Test.YtbcnefnbkdbobaaGreatDoorMz3q
open Go.Proofs.Tryz
set_option maxRecDepth 100000
set_option maxHeartbeats 20000000
open Go.Lib (hid)
namespace Go.Proofs.YtbcnefnbkdbobaaGreatDoor
open Go.RowKit Go.Gb
theorem ic (v:Value)(xs:List Nat)(i:Nat)(hi:i≤1000000)(hl:xs.length≤1000000)(w:World)(h:Rd .u64 w v xs) :
 Calls Tryz.prog 182 #[v,.int .i64 (i:Int)] w fun e w'=>e=.returned (.int .u64 ((xs.getD i 0:Nat):Int))∧w=w':=by
 by_cases hlt:i<xs.length
 · obtain⟨b,o,c,rfl,_,_,_,r⟩:=dI h (by omega)
   have hc:=r i hlt;clear r h;generalize xs.getD i 0=x at *;go_enter func182,ntmps182
   go_wp2;go_ret
   exact⟨rfl,rfl⟩
 · obtain⟨a,c,rfl⟩:=aR h
   have e:xs.getD i 0=0:=by simp[List.getD,List.getElem?_eq_none (show xs.length≤i by omega)]
   rw[e];clear h e;go_enter func182,ntmps182
   go_wp2;go_ret
   exact⟨rfl,rfl⟩
theorem z00 (v:Value)(xs:List Nat)(hl:xs.length≤1000000)(w:World)(h:Rd .u64 w v xs) :
 Calls Tryz.prog 182 #[v,.int .i64 0] w fun e w'=>e=.returned (.int .u64 ((xs.getD 0 0:Nat):Int))∧w=w':=ic v xs 0 (by omega) hl w h
theorem zZ (v:Value)(xs:List Nat)(hl:xs.length≤1000000)(w:World)(h:Rd .u64 w v xs) :
 Calls Tryz.prog 182 #[v,.int .i64 1] w fun e w'=>e=.returned (.int .u64 ((xs.getD 1 0:Nat):Int))∧w=w':=ic v xs 1 (by omega) hl w h
theorem z0Q {n:Nat}(h:(aa n).length≤2):(aa n).getD 1 0*BB+(aa n).getD 0 0=n∧(aa n).getD 0 0<BB∧(aa n).getD 1 0<BB:=by
 have hv:=ak n;have hl:=aN n;refine⟨?_,getD_lt hl 0,getD_lt hl 1⟩
 match hd:aa n,h with
 | [],_=>rw[hd]at hv;simp[ag]at hv;simp;exact hv
 | [x],_=>rw[hd]at hv;simp[ag]at hv;simp;exact hv
 | [x,y],_=>rw[hd]at hv;simp[ag]at hv;simp;rw[Nat.mul_comm y];omega
theorem vz {n:Nat}(h:(aa n).length≤2):n<1000000000000000000:=by
 have h1:=dw n;have h2:BB^(aa n).length≤BB^2:=Nat.pow_le_pow_right bD h;have h3:BB^2=1000000000000000000:=by rw[aC]
 omega
theorem qF (v:Value)(n:Nat)(hn:(aa n).length≤2)(w:World)(h:Rd .u64 w v (aa n)) :
 Calls Tryz.prog 158 #[v] w fun e w'=>e=.returned (.int .u64 (n:Int))∧w=w':=by
 have h0:=hid (z00 v (aa n) (by omega) w h);have h1:=hid (zZ v (aa n) (by omega) w h);obtain⟨g1,g2,g3⟩:=z0Q hn;rw[aC]at g1 g2 g3;have G1:=hid g1;clear g1 h hn;generalize (aa n).getD 0 0=x at *;generalize (aa n).getD 1 0=y at *;have k1:(x:Int)≤999999999:=by omega
 have k2:(y:Int)≤999999999:=by omega
 clear g2 g3;go_enter func158,ntmps158
 go_wp2_with fail
 refine h1.o.mono ?_;rintro e w' ⟨rfl,rfl⟩;go_wp2_with fail
 refine h0.o.mono ?_;rintro e w' ⟨rfl,rfl⟩;go_wp2;go_ret
 exact⟨dD (by have:=G1.o;omega),rfl⟩
theorem mK (a:Option Addr)(n c:Nat)(hn:n≤1000000)(w:World) :
 Calls Tryz.prog 156 #[.slice a n c] w fun e w'=>e=.returned (.bool (decide (n≤2)))∧w=w':=by
 by_cases h:n≤2
 · go_enter func156,ntmps156
   go_wp2;go_ret
   exact⟨cu (by simp[h];try omega),rfl⟩
 · go_enter func156,ntmps156
   go_wp2;go_ret
   exact⟨cu (by simp[h];try omega),rfl⟩
theorem jH (v:Value)(xs:List Nat)(hn:xs.length≤2)(w:World)(h:Rd .u64 w v xs) :
 Calls Tryz.prog 156 #[v] w fun e w'=>e=.returned (.bool true)∧w=w':=by
 obtain⟨a,c,rfl⟩:=aR h;exact(mK a _ c (by omega) w).mono fun e w' ⟨h1,h2⟩=>⟨by rw[h1];simp[hn],h2⟩
theorem og (v:Value)(xs:List Nat)(hn:2<xs.length)(hl:xs.length≤1000000)(w:World)(h:Rd .u64 w v xs) :
 Calls Tryz.prog 156 #[v] w fun e w'=>e=.returned (.bool false)∧w=w':=by
 obtain⟨a,c,rfl⟩:=aR h;exact(mK a _ c (by omega) w).mono fun e w' ⟨h1,h2⟩=>⟨by rw[h1];simp;omega,h2⟩
theorem z0s (n:Nat)(hn:n<1000000000000000000)(w:World) :
 Calls Tryz.prog 159 #[.int .u64 (n:Int)] w fun e w'=>∃ v,e=.returned v∧Own .u64 113 w.heap.size w' v (aa n)∧Below w.heap.size w w':=by
 have hB:=aC;have hlo:n%1000000000<BB:=by rw[hB];exact Nat.mod_lt _ (by decide)
 have hhi:n / 1000000000<BB:=by rw[hB];omega
 have hblk:Blk (w.alloc (.cells #[.int .u64 ((n:Int)%1000000000),.int .u64 ((n:Int) / 1000000000)] 113)) w.heap.size [n%1000000000,n / 1000000000]:=Blk.alloc _ _ (by simp[cls]);have hown:=hblk.own (B:=w.heap.size) (Nat.le_refl _) (by unfold maxLen;simp) 2 (by simp)
 have htr:=eX 113 w.heap.size _ [n%1000000000,n / 1000000000] (by
  intro x hx;simp only[List.mem_cons,List.not_mem_nil,or_false]at hx;rcases hx with rfl|rfl
  · exact hlo
  · exact hhi) (w.alloc (.cells #[.int .u64 ((n:Int)%1000000000),.int .u64 ((n:Int) / 1000000000)] 113)) hown
 have hv:ag [n%1000000000,n / 1000000000]=n:=by simp only[ag];rw[hB];omega
 rw[hv]at htr;have HTR:=hid htr;clear htr hown hblk hlo hhi hv hB;have k1:(n:Int)<1000000000000000000:=by omega
 clear hn;go_enter func159,ntmps159
 go_wp2_with fail
 refine HTR.o.mono ?_;rintro e w1 ⟨v,rfl,ho,rfl⟩;go_wp2;go_ret
 exact⟨v,rfl,ho,(Below.refl _ _).alloc (Nat.le_refl _) _⟩
theorem sK (v1 v2:Value)(a b:Nat)(ha:(aa a).length≤2)(hb:(aa b).length≤2)(w:World)(h1:Rd .u64 w v1 (aa a))(h2:Rd .u64 w v2 (aa b)) :
 Calls Tryz.prog 129 #[v1,v2] w fun e w'=>∃ v,e=.returned v∧Own .u64 113 w.heap.size w' v (aa (Nat.gcd a b))∧Below w.heap.size w w':=by
 have s1:=hid (jH v1 _ ha w h1);have s2:=hid (jH v2 _ hb w h2);have t1:=hid (qF v1 a ha w h1);have t2:=hid (qF v2 b hb w h2)
 have hg:Nat.gcd a b<1000000000000000000:=by
  rcases Nat.eq_zero_or_pos a with h|h
  · rw[h,Nat.gcd_zero_left];exact vz hb
  · exact Nat.lt_of_le_of_lt (Nat.gcd_le_left b h) (vz ha)
 have hs:=hid (sj a b (vz ha) (vz hb));have hlo:=hid (z0s (Nat.gcd a b) hg);clear h1 h2 ha hb hg;generalize Nat.gcd a b=g at *;go_enter func129,ntmps129
 go_wp2_with fail
 refine s1.o.mono ?_;rintro e w' ⟨rfl,rfl⟩;go_wp2_with fail
 refine s2.o.mono ?_;rintro e w' ⟨rfl,rfl⟩;go_wp2_with fail
 refine t1.o.mono ?_;rintro e w' ⟨rfl,rfl⟩;go_wp2_with fail
 refine t2.o.mono ?_;rintro e w' ⟨rfl,rfl⟩;go_wp2_with fail
 refine(hs.o _).mono ?_;rintro e w1 ⟨sa,sb,sc,sd,so,rfl,_,hb1⟩;have u6:=hid hb1;clear hb1 s1 s2 t1 t2;unfold Stp
 go_wp2_with fail
 refine(hlo.o _).mono ?_;rintro e w2 ⟨v,rfl,ho,hb2⟩;have w9:=hid ((u6.o.alloc u6.o.size (.cells #[.int .u64 (sa:Int),.int .u64 (sb:Int),.int .u64 (sc:Int),.int .u64 (sd:Int),.bool so] 186)).trans (hb2.mono (by have:=u6.o.size;simp;omega)));have HO:=hid (ho.mono (show w.heap.size≤_ by have:=u6.o.size;simp;omega));clear ho hb2;go_wp2;go_ret
 exact⟨v,rfl,HO.o,w9.o⟩
def z18 (a b:Nat):Prop:=∀ (v1 v2:Value) (w:World),Rd .u64 w v1 (aa a)→Rd .u64 w v2 (aa b) →
    Calls Tryz.prog 129 #[v1,v2] w fun e w'=>∃ v,e=.returned v∧Own .u64 113 w.heap.size w' v (aa (Nat.gcd a b))∧Below w.heap.size w w'
open Go.Lib (hid)
def lenV:Value→Nat | .slice _ n _=>n|_=>0
def kG (xs ys:List Nat):Prop:=∃ k,ys=xs++List.replicate k 0
theorem kG.start (xs:List Nat):kG xs xs:=⟨0,by simp⟩
theorem kG.step {xs ys:List Nat}(h:kG xs ys):kG xs (ys++[0]):=by
 obtain⟨k,rfl⟩:=h;exact⟨k+1,by rw[List.append_assoc,iq]⟩
theorem kG.fin {xs ys:List Nat}(h:kG xs ys):ys=xs++List.replicate (ys.length-xs.length) 0:=by
 obtain⟨k,rfl⟩:=h;rw[List.length_append,List.length_replicate,Nat.add_sub_cancel_left]
theorem yx (B:Nat)(v:Value)(xs:List Nat)(n:Nat)(hn:n≤100000)(hx:xs.length≤n)(w:World)(h:Own .u64 113 B w v xs)(hB:B≤w.heap.size) :
 Calls Tryz.prog 214 #[v,.int .i64 (n:Int)] w fun e w'=>∃ u,e=.returned u∧Own .u64 113 B w' u (xs++List.replicate (n-xs.length) 0)∧fC w v u∧Kp (At v) w w':=by
 obtain⟨i0,hi,hz0,hz1,hz2⟩:=info_parts Tryz.info113;obtain⟨a0,c0,rfl⟩:=aR h.rd;have HO:=hid h;have HB:=hid hB;clear h hB;go_enter func214,ntmps214
 go_wp2;go_loopw [0] (fun x wr=>∃ (a:Option Addr) (c:Nat) (ys:List Nat),x=.slice a ys.length c∧ys.length≤n∧Hid (kG xs ys)∧Hid (Own .u64 113 B wr (.slice a ys.length c) ys)∧Hid (fC w (.slice a0 xs.length c0) (.slice a ys.length c))∧Hid (Kp (At (.slice a0 xs.length c0)) w wr)) (fun x _=>n-lenV x)
 case atStart=>exact⟨a0,c0,xs,rfl,hx,kG.start xs,HO.o,fC.refl _ _,Kp.refl _ _⟩
 case round =>
  obtain⟨a,c,ys,rfl,hl,hp,ho,hno,hk⟩:=hrel;by_cases hlt:ys.length<n
  · have hsz:=hk.o.size
    have hBw:=HB.o;go_wp2_with (at_builtin;refine iO _ rfl _ _ 164 rfl B 113 i0 (.int .u64 0) underlying164 hi hz0 hz1 hz2 rfl _ ys.length (cls .u64 ys) rfl (World.ownsRow.alloc ho.o _) ⟨wr.heap.size,0,none⟩ 1 (.int .u64 0) rfl (cells_one _ _ _ 0 _ rfl) rfl (by omega) (by simp;omega) ?_)
    intro v' w1 hown' hgrow hnew
    have ho1:Own .u64 113 B w1 v' (ys++[0]):=by
        unfold Own
        rw[bQ,List.length_append];exact hown'
    obtain⟨a',c',rfl⟩:=aR ho1.rd;have HO1:=hid ho1;have HN1:=hid (hno.o.trans hnew (by simp;omega))
    have HK1:=hid ((hk.o.alloc (.cells #[.int .u64 0] 113)).grown hgrow (fun g hg hlt=>by
        rcases hno.o g hg with h1|h1
        · exact h1
        · omega))
    clear ho1 hown' hgrow hnew;go_wp2;go_roundw
    case rel=>exact⟨a',c',ys++[0],rfl,by simp;omega,hp.o.step,HO1,HN1,HK1⟩
    case measure=>simp[lenV];omega
  · have hfin:=hp.o.fin
    rw[show ys.length-xs.length=n-xs.length by omega]at hfin;have HF:=hid hfin;clear hfin;go_wp2;go_ret
    refine⟨_,rfl,?_,hno.o,hk.o⟩;rw[← HF.o];exact ho.o
theorem xN (s:Int)(h0:0≤s+3000000000000000000)(h1:s+3000000000000000000<6000000000000000000)(w:World) :
 Calls Tryz.prog 215 #[.int .i64 s] w fun e w'=>e=.returned (.tuple #[.int .u64 ((s+3000000000000000000)%1000000000),.int .i64 ((s+3000000000000000000) / 1000000000-3000000000)])∧w=w':=by
 obtain⟨t,ht⟩:∃ t,t=s+3000000000000000000:=⟨_,rfl⟩;have e1:IntKind.i64.wrap (s+3000000000000000000)=t:=by rw[ht];exact IntWalk.i64_in _ (by omega)
 rw[← ht]at h0 h1 ⊢;have HT:=hid ht;clear ht;go_enter func215,ntmps215
 go_wp2;go_ret2
 exact⟨rfl,rfl⟩
theorem ji (B:Nat)(v:Value)(xs:List Nat)(k:Nat)(hk3:k≤3000000000)(hx:xs.length≤100000)(w:World)(h:Own .u64 113 B w v xs)(hB:B≤w.heap.size) :
 Calls Tryz.prog 216 #[v,.int .i64 (k:Int)] w fun e w'=>∃ u,e=.returned u∧Own .u64 113 B w' u (xs++aa k)∧fC w v u∧Kp (At v) w w':=by
 obtain⟨i0,hi,hz0,hz1,hz2⟩:=info_parts Tryz.info113;obtain⟨a0,c0,rfl⟩:=aR h.rd;have hdl:(aa k).length≤2:=bB (by rw[aC];omega);obtain ⟨HD,HO,HB⟩:=av hdl h hB;clear h hB hdl;go_enter func216,ntmps216
 go_wp2;go_loopw [0,1] (fun x kk wr=>∃ (a:Option Addr) (c m:Nat) (ys:List Nat),x=.slice a ys.length c∧kk=.int .i64 (m:Int)∧m≤3000000000∧Hid (ys++aa m=xs++aa k)∧Hid (Own .u64 113 B wr (.slice a ys.length c) ys)∧Hid (fC w (.slice a0 xs.length c0) (.slice a ys.length c))∧Hid (Kp (At (.slice a0 xs.length c0)) w wr)) (fun _ kk _=>(intOf kk).toNat)
 case atStart=>exact⟨a0,c0,k,xs,rfl,rfl,hk3,rfl,HO.o,fC.refl _ _,Kp.refl _ _⟩
 case round =>
  obtain⟨a,c,m,ys,rfl,rfl,hm,he,ho,hno,hk⟩:=hrel
  have hyl:ys.length≤100002:=by
   have e:=congrArg List.length he.o;rw[List.length_append,List.length_append]at e;have:=HD.o;omega
  by_cases hlt:0<m
  · have hsz:=hk.o.size
    have hBw:=HB.o;have hdm:=bE (n:=m) (by omega);rw[aC]at hdm;have HM:=hid hdm;obtain⟨r,hr⟩:∃ r:Nat,r=m%1000000000:=⟨_,rfl⟩;obtain⟨q,hq⟩:∃ q:Nat,q=m / 1000000000:=⟨_,rfl⟩;have e1:(m:Int)%1000000000=(r:Int):=by omega
    have e2:(m:Int) / 1000000000=(q:Int):=by omega
    obtain ⟨HR,HQ⟩:=aI hr hq;have hq3:q≤3000000000:=by omega
    have hqm:=hid (show q<m by omega);have hr9:r<1000000000:=by omega
    clear hdm hr hq;go_wp2_with (at_builtin;refine iO _ rfl _ _ 164 rfl B 113 i0 (.int .u64 0) underlying164 hi hz0 hz1 hz2 rfl _ ys.length (cls .u64 ys) rfl (World.ownsRow.alloc ho.o _) ⟨wr.heap.size,0,none⟩ 1 (.int .u64 (r:Int)) rfl (cells_one _ _ _ 0 _ rfl) rfl (by omega) (by simp;omega) ?_)
    intro v' w1 hown' hgrow hnew
    have ho1:Own .u64 113 B w1 v' (ys++[r]):=by
        unfold Own
        rw[bQ,List.length_append];exact hown'
    obtain⟨a',c',rfl⟩:=aR ho1.rd;have HO1:=hid ho1;have HN1:=hid (hno.o.trans hnew (by simp;omega))
    have HK1:=hid ((hk.o.alloc (.cells #[.int .u64 (r:Int)] 113)).grown hgrow (fun g hg hlt=>by
        rcases hno.o g hg with h1|h1
        · exact h1
        · omega))
    clear ho1 hown' hgrow hnew;go_wp2;go_roundw
    case rel=>exact⟨a',c',q,ys++[r],rfl,rfl,hq3,by rw[List.append_assoc,List.singleton_append,HR.o,HQ.o,← HM.o];exact he.o,HO1,HN1,HK1⟩
    case measure=>simp[intOf];have:=hqm.o;omega
  · obtain rfl:m=0:=by omega
    have hfin:=he.o;rw[aM,List.append_nil]at hfin;have HF:=hid hfin;clear hfin;go_wp2;go_ret
    refine⟨_,rfl,?_,hno.o,hk.o⟩;rw[← HF.o];exact ho.o
theorem xE {xs:List Nat}(hB:∀ x∈xs,x<BB):xs.take (aa (ag xs)).length=aa (ag xs)∧(aa (ag xs)).length≤xs.length:=by
 have hlen:(aa (ag xs)).length≤xs.length:=bB (dS xs hB);refine⟨?_,hlen⟩
 have key:∀ (n:Nat),Zs xs n→aa (ag xs)=xs.take (aa (ag xs)).length:=by
  intro n
  induction n with
  | zero=>intro hz;have e:=gD hz.1 hB hz.2 (Or.inl rfl);have:=hz.fin hB (Or.inl rfl);rw[← this];exact e
  | succ n ih =>
    intro hz;by_cases h0:xs.getD n 0=0
    · exact ih (by have:=hz.step (by simpa using h0);simpa using this)
    · have e:=gD hz.1 hB hz.2 (Or.inr (by simpa using h0))
      have:=hz.fin hB (Or.inr (by simpa using h0));rw[← this];exact e
 exact(key _ (Zs.start xs)).symm
theorem zL (B:Nat)(v:Value)(xs:List Nat)(hB:∀ x∈xs,x<BB)(w:World)(h:Own .u64 113 B w v xs) :
 Calls Tryz.prog 183 #[v] w fun e w'=>∃ v',e=.returned v'∧Own .u64 113 B w v' (aa (ag xs))∧(∀ g,At v' g→At v g)∧w=w':=by
 have hd:=xE hB;have h0:=h;obtain⟨h1,h2⟩:=h;rcases h2 with⟨rfl,h3⟩|⟨g,cap,cur,rfl,hg,hh,hn,hc,hs,ht⟩
 · obtain rfl:xs=[]:=List.length_eq_zero_iff.1 h3
   have hz:aa (ag [])=[]:=by unfold ag;exact aM
   rw[hz];clear hd hB h0 hz;go_enter func183,ntmps183
   go_wp2;refine wp_loop_rounds 1 ?_;rw[rounds_succ];go_wp2;go_ret
   exact⟨_,rfl,Own.nil _ _ _ _,fun _ h=>h,rfl⟩
 · have hrd:∀ i,i<xs.length→w.cell? ⟨g,0+i,none⟩=some (.int .u64 ((xs.getD i 0:Nat):Int)):=by
    rcases h0.rd with⟨hv,_⟩|⟨b,o,c,hv,_,_,_,h5⟩
    · injection hv with hv;cases hv
    · injection hv with e1 e2 e3
      injection e1 with e1
      injection e1 with e4 e5 e6
      subst e4 e5 e3;exact h5
   refine(nA g 0 cap xs hB hn hc w hrd).mono fun e w' ⟨he,hw⟩=>⟨_,he,?_,fun k hk=>(by rw[eZ]at hk ⊢;exact hk),hw⟩;have:=h0.take (aa (ag xs)).length hd.2;rwa [hd.1]at this
