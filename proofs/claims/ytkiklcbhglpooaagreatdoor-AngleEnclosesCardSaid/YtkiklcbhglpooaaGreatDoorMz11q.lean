/- texts -/
import Derived.Test.YtkiklcbhglpooaaGreatDoorMz8q
import Derived.Test.YtkiklcbhglpooaaGreatDoorMz3q
open Go.Proofs.Tryz
set_option maxRecDepth 100000
set_option maxHeartbeats 20000000
open Go.Lib (hid)
namespace Go.Proofs.YtkiklcbhglpooaaGreatDoor
open Go.RowKit Go.Gb
def lenV:Value→Nat | .slice _ n _=>n|_=>0
def lD (xs ys:List Nat):Prop:=∃ k,ys=xs++List.replicate k 0
theorem lD.start (xs:List Nat):lD xs xs:=⟨0,by simp⟩
theorem lD.step {xs ys:List Nat}(h:lD xs ys):lD xs (ys++[0]):=by
 obtain⟨k,rfl⟩:=h;exact⟨k+1,by rw[List.append_assoc,iN]⟩
theorem lD.fin {xs ys:List Nat}(h:lD xs ys):ys=xs++List.replicate (ys.length-xs.length) 0:=by
 obtain⟨k,rfl⟩:=h;rw[List.length_append,List.length_replicate,Nat.add_sub_cancel_left]
theorem z18 (B:Nat)(v:Value)(xs:List Nat)(n:Nat)(hn:n≤100000)(hx:xs.length≤n)(w:World)(h:Gb.Own .u64 133 B w v xs)(hB:B≤w.heap.size) :
 Calls Tryz.prog 302 #[v,.int .i64 (n:Int)] w fun e w'=>∃ u,e=.returned u∧Gb.Own .u64 133 B w' u (xs++List.replicate (n-xs.length) 0)∧gm w v u∧Kp (At v) w w':=by
 obtain⟨i0,hi,hz0,hz1,hz2⟩:=info_parts Tryz.info133;obtain⟨a0,c0,rfl⟩:=aX h.rd;have HO:=hid h;have HB:=hid hB;clear h hB;go_enter func302,ntmps302
 go_wp2;go_loopw [0] (fun x wr=>∃ (a:Option Addr) (c:Nat) (ys:List Nat),x=.slice a ys.length c∧ys.length≤n∧Hid (lD xs ys)∧Hid (Gb.Own .u64 133 B wr (.slice a ys.length c) ys)∧Hid (gm w (.slice a0 xs.length c0) (.slice a ys.length c))∧Hid (Kp (At (.slice a0 xs.length c0)) w wr)) (fun x _=>n-lenV x)
 case atStart=>exact⟨a0,c0,xs,rfl,hx,lD.start xs,HO.o,gm.refl _ _,Kp.refl _ _⟩
 case round =>
  obtain⟨a,c,ys,rfl,hl,hp,ho,hno,hk⟩:=hrel;by_cases hlt:ys.length<n
  · have hsz:=hk.o.size
    have hBw:=HB.o;go_wp2_with (at_builtin;refine jm _ rfl _ _ 210 rfl B 133 i0 (.int .u64 0) underlying210 hi hz0 hz1 hz2 rfl _ ys.length (cls .u64 ys) rfl (World.ownsRow.alloc ho.o _) ⟨wr.heap.size,0,none⟩ 1 (.int .u64 0) rfl (cells_one _ _ _ 0 _ rfl) rfl (by omega) (by simp;omega) ?_)
    intro v' w1 hown' hgrow hnew
    have ho1:Gb.Own .u64 133 B w1 v' (ys++[0]):=by
        unfold Gb.Own
        rw[cB,List.length_append];exact hown'
    obtain⟨a',c',rfl⟩:=aX ho1.rd;have HO1:=hid ho1;have HN1:=hid (hno.o.trans hnew (by simp;omega))
    have HK1:=hid ((hk.o.alloc (.cells #[.int .u64 0] 133)).grown hgrow (fun g hg hlt=>by
        rcases hno.o g hg with h1|h1
        · exact h1
        · omega))
    clear ho1 hown' hgrow hnew;go_wp2;go_roundw
    case rel=>exact⟨a',c',ys++[0],rfl,by simp;omega,hp.o.step,HO1,HN1,HK1⟩
    case measure=>simp[lenV];omega
  · have hfin:=hp.o.fin
    rw[show ys.length-xs.length=n-xs.length by omega]at hfin;have HF:=hid hfin;clear hfin;go_wp2;go_ret
    refine⟨_,rfl,?_,hno.o,hk.o⟩;rw[← HF.o];exact ho.o
theorem z0B (s:Int)(h0:0≤s+3000000000000000000)(h1:s+3000000000000000000<6000000000000000000)(w:World) :
 Calls Tryz.prog 303 #[.int .i64 s] w fun e w'=>e=.returned (.tuple #[.int .u64 ((s+3000000000000000000)%1000000000),.int .i64 ((s+3000000000000000000) / 1000000000-3000000000)])∧w=w':=by
 obtain⟨t,ht⟩:∃ t,t=s+3000000000000000000:=⟨_,rfl⟩;have e1:IntKind.i64.wrap (s+3000000000000000000)=t:=by rw[ht];exact IntWalk.i64_in _ (by omega)
 rw[← ht]at h0 h1 ⊢;have HT:=hid ht;clear ht;go_enter func303,ntmps303
 go_wp2;go_ret2
 exact⟨rfl,rfl⟩
theorem jI (B:Nat)(v:Value)(xs:List Nat)(k:Nat)(hk3:k≤3000000000)(hx:xs.length≤100000)(w:World)(h:Gb.Own .u64 133 B w v xs)(hB:B≤w.heap.size) :
 Calls Tryz.prog 304 #[v,.int .i64 (k:Int)] w fun e w'=>∃ u,e=.returned u∧Gb.Own .u64 133 B w' u (xs++ae k)∧gm w v u∧Kp (At v) w w':=by
 obtain⟨i0,hi,hz0,hz1,hz2⟩:=info_parts Tryz.info133;obtain⟨a0,c0,rfl⟩:=aX h.rd;have hdl:(ae k).length≤2:=bL (by rw[aH];omega);obtain ⟨HD,HO,HB⟩:=au hdl h hB;clear h hB hdl;go_enter func304,ntmps304
 go_wp2;go_loopw [0,1] (fun x kk wr=>∃ (a:Option Addr) (c m:Nat) (ys:List Nat),x=.slice a ys.length c∧kk=.int .i64 (m:Int)∧m≤3000000000∧Hid (ys++ae m=xs++ae k)∧Hid (Gb.Own .u64 133 B wr (.slice a ys.length c) ys)∧Hid (gm w (.slice a0 xs.length c0) (.slice a ys.length c))∧Hid (Kp (At (.slice a0 xs.length c0)) w wr)) (fun _ kk _=>(intOf kk).toNat)
 case atStart=>exact⟨a0,c0,k,xs,rfl,rfl,hk3,rfl,HO.o,gm.refl _ _,Kp.refl _ _⟩
 case round =>
  obtain⟨a,c,m,ys,rfl,rfl,hm,he,ho,hno,hk⟩:=hrel
  have hyl:ys.length≤100002:=by
   have e:=congrArg List.length he.o;rw[List.length_append,List.length_append]at e;have:=HD.o;omega
  by_cases hlt:0<m
  · have hsz:=hk.o.size
    have hBw:=HB.o;have hdm:=bP (n:=m) (by omega);rw[aH]at hdm;have HM:=hid hdm;obtain⟨r,hr⟩:∃ r:Nat,r=m%1000000000:=⟨_,rfl⟩;obtain⟨q,hq⟩:∃ q:Nat,q=m / 1000000000:=⟨_,rfl⟩;have e1:(m:Int)%1000000000=(r:Int):=by omega
    have e2:(m:Int) / 1000000000=(q:Int):=by omega
    obtain ⟨HR,HQ⟩:=aD hr hq;have hq3:q≤3000000000:=by omega
    have hqm:=hid (show q<m by omega);have hr9:r<1000000000:=by omega
    clear hdm hr hq;go_wp2_with (at_builtin;refine jm _ rfl _ _ 210 rfl B 133 i0 (.int .u64 0) underlying210 hi hz0 hz1 hz2 rfl _ ys.length (cls .u64 ys) rfl (World.ownsRow.alloc ho.o _) ⟨wr.heap.size,0,none⟩ 1 (.int .u64 (r:Int)) rfl (cells_one _ _ _ 0 _ rfl) rfl (by omega) (by simp;omega) ?_)
    intro v' w1 hown' hgrow hnew
    have ho1:Gb.Own .u64 133 B w1 v' (ys++[r]):=by
        unfold Gb.Own
        rw[cB,List.length_append];exact hown'
    obtain⟨a',c',rfl⟩:=aX ho1.rd;have HO1:=hid ho1;have HN1:=hid (hno.o.trans hnew (by simp;omega))
    have HK1:=hid ((hk.o.alloc (.cells #[.int .u64 (r:Int)] 133)).grown hgrow (fun g hg hlt=>by
        rcases hno.o g hg with h1|h1
        · exact h1
        · omega))
    clear ho1 hown' hgrow hnew;go_wp2;go_roundw
    case rel=>exact⟨a',c',q,ys++[r],rfl,rfl,hq3,by rw[List.append_assoc,List.singleton_append,HR.o,HQ.o,← HM.o];exact he.o,HO1,HN1,HK1⟩
    case measure=>simp[intOf];have:=hqm.o;omega
  · obtain rfl:m=0:=by omega
    have hfin:=he.o;rw[aS,List.append_nil]at hfin;have HF:=hid hfin;clear hfin;go_wp2;go_ret
    refine⟨_,rfl,?_,hno.o,hk.o⟩;rw[← HF.o];exact ho.o
theorem z0p {xs:List Nat}(hB:∀ x∈xs,x<BB):xs.take (ae (ai xs)).length=ae (ai xs)∧(ae (ai xs)).length≤xs.length:=by
 have hlen:(ae (ai xs)).length≤xs.length:=bL (dV xs hB);refine⟨?_,hlen⟩
 have key:∀ (n:Nat),Zs xs n→ae (ai xs)=xs.take (ae (ai xs)).length:=by
  intro n
  induction n with
  | zero=>intro hz;have e:=gX hz.1 hB hz.2 (Or.inl rfl);have:=hz.fin hB (Or.inl rfl);rw[← this];exact e
  | succ n ih =>
    intro hz;by_cases h0:xs.getD n 0=0
    · exact ih (by have:=hz.step (by simpa using h0);simpa using this)
    · have e:=gX hz.1 hB hz.2 (Or.inr (by simpa using h0))
      have:=hz.fin hB (Or.inr (by simpa using h0));rw[← this];exact e
 exact(key _ (Zs.start xs)).symm
theorem z2h (B:Nat)(v:Value)(xs:List Nat)(hB:∀ x∈xs,x<BB)(w:World)(h:Gb.Own .u64 133 B w v xs) :
 Calls Tryz.prog 267 #[v] w fun e w'=>∃ v',e=.returned v'∧Gb.Own .u64 133 B w v' (ae (ai xs))∧(∀ g,At v' g→At v g)∧w=w':=by
 have hd:=z0p hB;have h0:=h;obtain⟨h1,h2⟩:=h;rcases h2 with⟨rfl,h3⟩|⟨g,cap,cur,rfl,hg,hh,hn,hc,hs,ht⟩
 · obtain rfl:xs=[]:=List.length_eq_zero_iff.1 h3
   have hz:ae (ai [])=[]:=by unfold ai;exact aS
   rw[hz];clear hd hB h0 hz;go_enter func267,ntmps267
   go_wp2;refine wp_loop_rounds 1 ?_;rw[rounds_succ];go_wp2;go_ret
   exact⟨_,rfl,Gb.Own.nil _ _ _ _,fun _ h=>h,rfl⟩
 · have hrd:∀ i,i<xs.length→w.cell? ⟨g,0+i,none⟩=some (.int .u64 ((xs.getD i 0:Nat):Int)):=by
    rcases h0.rd with⟨hv,_⟩|⟨b,o,c,hv,_,_,_,h5⟩
    · injection hv with hv;cases hv
    · injection hv with e1 e2 e3
      injection e1 with e1
      injection e1 with e4 e5 e6
      subst e4 e5 e3;exact h5
   refine(oG g 0 cap xs hB hn hc w hrd).mono fun e w' ⟨he,hw⟩=>⟨_,he,?_,fun k hk=>(by rw[fI]at hk ⊢;exact hk),hw⟩;have:=h0.take (ae (ai xs)).length hd.2;rwa [hd.1]at this
open Go.Lib (hid)
theorem Tryz.info92:(Tryz.prog.info? 92).map (fun i=>(i.zero,i.size,i.bytes))=some (some (.int .u32 0),1,4):=by kernel_rfl
theorem lJ (b o c:Nat)(xs:List Nat)(hB:∀ x∈xs,x<BB)(hxc:xs.length≤c)(hcm:c≤maxLen)(w:World)
 (hc:∀ i,i<xs.length→w.cell? ⟨b,o+i,none⟩=some (.int .u32 ((xs.getD i 0:Nat):Int))) :
 Calls Tryz.prog 123 #[.slice (some ⟨b,o,none⟩) xs.length c] w fun e w'=>e=.returned (.slice (some ⟨b,o,none⟩) (ae (ai xs)).length c)∧w=w':=by
 unfold maxLen at hcm
 have HC:=hid hc;have HB:=hid hB;clear hc hB;go_enter func123,ntmps123
 go_wp2;go_loop [0] (fun x=>∃ n:Nat,n≤c∧x=.slice (some ⟨b,o,none⟩) n c∧Zs xs n) (fun x=>match x with | .slice _ n _=>n|_=>0)
 case atStart=>exact⟨xs.length,hxc,rfl,Zs.start xs⟩
 case round =>
  obtain⟨n,hn,rfl,hz⟩:=hrel;by_cases h0:n=0
  · have HF:=hid (hz.fin HB.o (Or.inl h0))
    subst h0;go_wp2;go_ret
    exact⟨kL HF.o,rfl⟩
  · have hp:0<n:=by omega
    have hcell:=HC.o (n-1) (by have:=hz.1;omega);by_cases hd:xs.getD (n-1) 0=0
    · rw[hd]at hcell
      have hz':=hz.step hd;clear hd;go_wp2;go_round
      case rel=>exact⟨n-1,by omega,rfl,hz'⟩
      case measure=>simp;omega
    · have HF:=hid (hz.fin HB.o (Or.inr hd))
      obtain⟨d,hdd⟩:∃ d,d=xs.getD (n-1) 0:=⟨_,rfl⟩;rw[← hdd]at hcell hd;have hb:((d:Int)==0)=false:=by simpa using hd
      have hd':0<d:=by omega
      clear hd hdd;go_wp2;go_ret
      exact⟨kL HF.o,rfl⟩
theorem gQ (k:TypeId)(B:Nat)(v:Value)(xs:List Nat)(hB:∀ x∈xs,x<BB)(w:World)(h:Gb.Own .u32 k B w v xs) :
 Calls Tryz.prog 123 #[v] w fun e w'=>∃ v',e=.returned v'∧Gb.Own .u32 k B w v' (ae (ai xs))∧w=w':=by
 have hd:xs.take (ae (ai xs)).length=ae (ai xs)∧(ae (ai xs)).length≤xs.length:=by
  have hlen:(ae (ai xs)).length≤xs.length:=bL (dV xs hB);refine⟨?_,hlen⟩;generalize hm:(ae (ai xs)).length=m at hlen
  have key:∀ (n:Nat),Zs xs n→ae (ai xs)=xs.take (ae (ai xs)).length:=by
   intro n
   induction n with
   | zero=>intro hz;have e:=gX hz.1 hB hz.2 (Or.inl rfl);have:=hz.fin hB (Or.inl rfl);rw[← this];exact e
   | succ n ih =>
     intro hz;by_cases h0:xs.getD n 0=0
     · exact ih (by have:=hz.step (by simpa using h0);simpa using this)
     · have e:=gX hz.1 hB hz.2 (Or.inr (by simpa using h0))
       have:=hz.fin hB (Or.inr (by simpa using h0));rw[← this];exact e
  rw[← hm];exact(key _ (Zs.start xs)).symm
 have h0:=h;obtain⟨h1,h2⟩:=h;rcases h2 with⟨rfl,h3⟩|⟨g,cap,cur,rfl,hg,hh,hn,hc,hs,ht⟩
 · obtain rfl:xs=[]:=List.length_eq_zero_iff.1 h3
   have hz:ae (ai [])=[]:=by unfold ai;exact aS
   rw[hz];clear hd hB h0 hz;go_enter func123,ntmps123
   go_wp2;refine wp_loop_rounds 1 ?_;rw[rounds_succ];go_wp2;go_ret
   exact⟨_,rfl,Gb.Own.nil _ _ _ _,rfl⟩
 · have hrd:∀ i,i<xs.length→w.cell? ⟨g,0+i,none⟩=some (.int .u32 ((xs.getD i 0:Nat):Int)):=by
    rcases h0.rd with⟨hv,_⟩|⟨b,o,c,hv,_,_,_,h5⟩
    · injection hv with hv;cases hv
    · injection hv with e1 e2 e3
      injection e1 with e1
      injection e1 with e4 e5 e6
      subst e4 e5 e3;exact h5
   refine(lJ g 0 cap xs hB hn hc w hrd).mono fun e w' ⟨he,hw⟩=>⟨_,he,?_,hw⟩;have:=h0.take (ae (ai xs)).length hd.2;rwa [hd.1]at this
theorem gI (s:ByteArray)(w:World)(hs:s.size≤maxLen) :
 Calls Tryz.prog 70 #[.string s] w fun e w'=>e=.returned (.bool (vld s.data.toList))∧w=w':=by
 unfold maxLen at hs
 have hcase:s.size=0∨(s.size=1∨(1<s.size∧∃ h:0<s.size,((s[0].toNat:Int) != 48)=true))∨(1<s.size∧∃ h:0<s.size,((s[0].toNat:Int) != 48)=false):=by
  rcases Nat.lt_trichotomy s.size 1 with h|h|h
  · left;omega
  · right;left;left;exact h
  · have h0:0<s.size:=by omega
    by_cases hc:(s[0].toNat:Int)=48
    · right;right;exact⟨h,h0,by rw[bne_eq_false_iff_eq];exact hc⟩
    · right;left;right;exact⟨h,h0,by rw[bne_iff_ne];exact hc⟩
 rcases hcase with h0|(h1|⟨h1,h2,h3⟩)|⟨h1,h2,h3⟩
 · have HF:=hid (show vld s.data.toList=false by rw[rC h0];rfl)
   have k1:s.size≤0:=by omega
   have k2:((s.size:Int)==1)=false:=beq_eq_false_iff_ne.2 (by omega);clear h0;go_enter func70,ntmps70
   go_wp2;refine wp_loop_rounds 1 ?_;rw[rounds_succ];go_wp2;go_ret
   exact⟨dw HF.o.symm,rfl⟩
 · have k2:((s.size:Int)==1)=true:=beq_iff_eq.2 (by omega)
   have H1:=hid h1;have k3:0<s.size:=by omega
   clear h1;go_enter func70,ntmps70
   go_wp2;go_loop [3] (fun i=>∃ k:Nat,k≤s.size∧i=.int .i64 k∧alld s k) (fun i=>s.size-(intOf i).toNat)
   case atStart=>exact⟨0,Nat.zero_le _,rfl,lu s⟩
   case round =>
    obtain⟨k,hk,rfl,ha⟩:=hrel;go_wp2
    all_goals first
        | (go_round
           case rel=>exact⟨k+1,by omega,by go_num,lw ha (by assumption) (by omega) (by omega)⟩
           case measure=>simp[intOf];omega)
        | (have hlt:k<s.size:=by assumption
           go_ret
           exact⟨dw (qI hlt (by omega)).symm,rfl⟩)
        | (obtain rfl:k=s.size:=by omega
           go_ret
           exact⟨dw (vI k3 ha (Or.inl H1.o)).symm,rfl⟩)
 · have k2:((s.size:Int)==1)=false:=beq_eq_false_iff_ne.2 (by omega)
   go_enter func70,ntmps70
   go_wp2;go_loop [3] (fun i=>∃ k:Nat,k≤s.size∧i=.int .i64 k∧alld s k) (fun i=>s.size-(intOf i).toNat)
   case atStart=>exact⟨0,Nat.zero_le _,rfl,lu s⟩
   case round =>
    obtain⟨k,hk,rfl,ha⟩:=hrel;go_wp2
    all_goals first
        | (go_round
           case rel=>exact⟨k+1,by omega,by go_num,lw ha (by assumption) (by omega) (by omega)⟩
           case measure=>simp[intOf];omega)
        | (have hlt:k<s.size:=by assumption
           go_ret
           exact⟨dw (qI hlt (by omega)).symm,rfl⟩)
        | (obtain rfl:k=s.size:=by omega
           go_ret
           exact⟨dw (vI h2 ha (Or.inr (by rw[bne_iff_ne]at h3;exact h3))).symm,rfl⟩)
 · have k2:((s.size:Int)==1)=false:=beq_eq_false_iff_ne.2 (by omega)
   go_enter func70,ntmps70
   go_wp2;go_loop [3] (fun i=>∃ k:Nat,k≤s.size∧i=.int .i64 k∧alld s k) (fun i=>s.size-(intOf i).toNat)
   case atStart=>exact⟨0,Nat.zero_le _,rfl,lu s⟩
   case round =>
    obtain⟨k,hk,rfl,ha⟩:=hrel;go_wp2
    all_goals first
        | (go_round
           case rel=>exact⟨k+1,by omega,by go_num,lw ha (by assumption) (by omega) (by omega)⟩
           case measure=>simp[intOf];omega)
        | (have hlt:k<s.size:=by assumption
           go_ret
           exact⟨dw (qI hlt (by omega)).symm,rfl⟩)
        | (obtain rfl:k=s.size:=by omega
           go_ret
           exact⟨dw (xO h1 (by rw[bne_eq_false_iff_eq]at h3;exact h3)).symm,rfl⟩)
theorem z16 {s:ByteArray}(h:s.data.toList.all isD=true){a i:Nat}(hai:a≤i)(hi:i<s.size) :
 aI ((s.data.toList.drop a).take (i+1-a))=aI ((s.data.toList.drop a).take (i-a))*10+(s[i].toNat-48)∧48≤s[i].toNat∧s[i].toNat≤57:=by
 have h1:=List.all_eq_true.1 h (s.data.toList[i]'(by rw[aG];exact hi)) (List.getElem_mem _);rw[fB,fK s i hi]at h1
 have e:(s.data.toList.drop a).take (i+1-a)=(s.data.toList.drop a).take (i-a)++[s[i]]:=by
  rw[show i+1-a=(i-a)+1 by omega,List.take_succ_eq_append_getElem (by rw[List.length_drop,aG];omega)];congr 2
  rw[List.getElem_drop,← fK s i hi];congr 1
  omega
 rw[e,kZ];exact⟨rfl,h1⟩
theorem z5e {s:ByteArray}(h:s.data.toList.all isD=true)(a n:Nat)(hn:n≤8):aI ((s.data.toList.drop a).take n)<100000000:=by
 have h1:=gV ((s.data.toList.drop a).take n) (by
  rw[List.all_eq_true]at h ⊢
  exact fun c hc=>h c (List.mem_of_mem_drop (List.mem_of_mem_take hc)))
 have h2:10^((s.data.toList.drop a).take n).length≤10^8:=Nat.pow_le_pow_right (by decide) (by rw[List.length_take];omega);omega
theorem jL (s:ByteArray)(h:s.data.toList.all isD=true)(hl:s.size≤100000)(w:World) :
 Calls Tryz.prog 72 #[.string s] w fun e w'=>∃ v,e=.returned v∧Gb.Own .u32 92 w.heap.size w' v (ae (aI s.data.toList))∧Below w.heap.size w w':=by
 obtain⟨i0,hi,hz0,hz1,hz2⟩:=info_parts Tryz.info92;have H:=hid h;clear h;have HO0:=hid (World.ownsRow_nil w w.heap.size 92 1);go_enter func72,ntmps72
 go_wp2;go_loopw [3,4] (fun v ee wr=>∃ (z:Int) (os:List Nat),-9≤z∧z≤s.size∧ee=.int .i64 z∧os.length+z.toNat≤s.size∧Hid (wr.ownsRow w.heap.size 92 1 v os.length (cls .u32 os))∧Hid (ib s.data.toList os z.toNat)∧Hid (Below w.heap.size w wr)) (fun _ ee _=>(intOf ee).toNat)
 case atStart=>exact⟨(s.size:Int),[],by omega,by omega,rfl,by simp,HO0,by have:=ib.start s.data.toList;rw[aG]at this;exact this,Below.refl _ _⟩
 case round =>
  obtain⟨z,os,hz9,hzs,rfl,hlen,ho,hr,hn⟩:=hrel;by_cases hz:0<z
  · obtain⟨ez,rfl⟩:=Int.eq_ofNat_of_zero_le (show 0≤z by omega)
    obtain⟨a,ha⟩:∃ a:Nat,a=ez-9:=⟨_,rfl⟩;rw[Int.toNat_natCast]at hr hlen;obtain⟨hst,hbd⟩:=hr.o.step (a:=a) H.o (by rw[aG];omega) (by omega) (by omega);obtain ⟨HST,HBD⟩:=aD hst hbd;have hmx:max 0 ((ez:Int)-9)=(a:Int):=by omega
    have hae:a≤ez:=by omega
    have hea:ez≤a+9:=by omega
    have HA:=hid ha;clear hst hbd ha hr;go_wp2;obtain⟨wo,rfl⟩:∃ wo:World,wo=wr:=⟨_,rfl⟩;go_loop [5,6] (fun ww ii=>∃ i m:Nat,a≤i∧i≤ez∧ii=.int .i64 i∧ww=.int .u32 (m:Int)∧Hid (m=aI ((s.data.toList.drop a).take (i-a)))) (fun _ ii=>ez-(intOf ii).toNat)
    case atStart=>exact⟨a,0,Nat.le_refl _,hae,rfl,rfl,by rw[Nat.sub_self];rfl⟩
    case round =>
        obtain⟨i,m,hai,hie,rfl,rfl,hm⟩:=hrel;by_cases hlt:i<ez
        · obtain⟨h1,h2,h3⟩:=z16 H.o hai (show i<s.size by omega)
          have h4:m<100000000:=by rw[hm.o];exact z5e H.o a (i-a) (by omega)
          have h5:i<s.size:=by omega
          have H1:=hid h1;clear h1;have k4:(m:Int)≤99999999:=by omega
          clear h4;go_wp2;go_round
          case rel=>exact⟨i+1,m*10+(s[i].toNat-48),by omega,by omega,by go_num,by congr 1;omega,by have:=hm.o;subst this;exact H1.o.symm⟩
          case measure=>simp[intOf];omega
        · have hie2:i=ez:=by omega
          have hm':=hm.o;rw[hie2]at hm';have HM:=hid hm';clear hm hm' hie2;go_wp2_with (at_builtin;refine wpList_append_own _ rfl _ _ 46 rfl w.heap.size 92 i0 (.int .u32 0) 1 4 underlying46 hi hz0 hz1 hz2 rfl (by decide) _ _ _ rfl (ho.o.alloc _) ⟨wo.heap.size,0,none⟩ 1 1 [.int .u32 (m:Int)] rfl rfl (cells_one _ _ _) (by intro u hu;simp at hu;subst hu;rfl) (by unfold maxLen;omega) (by omega) (by have:=hn.o.size;simp;omega) ?_)
          intro v' w1 hown' hgrow _;have HO:=hid hown';have HN:=hid ((hn.o.alloc hn.o.size _).grown hgrow (by have:=hn.o.size;simp;omega) (fun k hk=>(ho.o.lt k hk).1));clear hown' hgrow;go_wp2;go_roundw
          case rel=>exact⟨(ez:Int)-9,os++[m],by omega,by omega,rfl,by simp;omega,by have:=HO.o;rw[cB,List.length_append];exact this,by rw[show((ez:Int)-9).toNat=a by have:=HA.o;omega,HM.o];exact HST,HN⟩
          case measure=>simp[intOf];omega
  · have hz0':z.toNat=0:=by omega
    have hr':=hr.o;rw[hz0']at hr';obtain⟨hB,hv⟩:=hr'.done;have htr:=gQ 92 w.heap.size _ os hB wr ho.o;rw[hv]at htr;have HTR:=hid htr;clear hr' hB hv htr hz0';go_wp2_with fail
    refine HTR.o.mono ?_;rintro e w2 ⟨v',rfl,hown,rfl⟩;go_wp2;go_ret
    exact⟨v',rfl,hown,hn.o⟩
