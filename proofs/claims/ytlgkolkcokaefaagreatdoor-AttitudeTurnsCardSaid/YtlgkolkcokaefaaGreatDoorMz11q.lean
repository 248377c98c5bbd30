/- texts -/
import Derived.Test.YtlgkolkcokaefaaGreatDoorMz8q
import Derived.Test.YtlgkolkcokaefaaGreatDoorMz5q
open Go.Proofs.Tryz
set_option maxRecDepth 100000
set_option maxHeartbeats 20000000
open Go.Lib (hid)
namespace Go.Proofs.YtlgkolkcokaefaaGreatDoor
open Go.RowKit Go.Gb
theorem Tryz.info89:(Tryz.prog.info? 89).map (fun i=>(i.zero,i.size,i.bytes))=some (some (.int .u32 0),1,4):=by kernel_rfl
theorem lc (b o c:Nat)(xs:List Nat)(hB:∀ x∈xs,x<BB)(hxc:xs.length≤c)(hcm:c≤maxLen)(w:World)
 (hc:∀ i,i<xs.length→w.cell? ⟨b,o+i,none⟩=some (.int .u32 ((xs.getD i 0:Nat):Int))) :
 Calls Tryz.prog 69 #[.slice (some ⟨b,o,none⟩) xs.length c] w fun e w'=>e=.returned (.slice (some ⟨b,o,none⟩) (ae (aj xs)).length c)∧w=w':=by
 unfold maxLen at hcm
 have HC:=hid hc;have HB:=hid hB;clear hc hB;go_enter func69,ntmps69
 go_wp2;go_loop [0] (fun x=>∃ n:Nat,n≤c∧x=.slice (some ⟨b,o,none⟩) n c∧Zs xs n) (fun x=>match x with | .slice _ n _=>n|_=>0)
 case atStart=>exact⟨xs.length,hxc,rfl,Zs.start xs⟩
 case round =>
  obtain⟨n,hn,rfl,hz⟩:=hrel;by_cases h0:n=0
  · have HF:=hid (hz.fin HB.out (Or.inl h0))
    subst h0;go_wp2;go_ret
    exact⟨kw HF.out,rfl⟩
  · have hp:0<n:=by omega
    have hcell:=HC.out (n-1) (by have:=hz.1;omega);by_cases hd:xs.getD (n-1) 0=0
    · rw[hd]at hcell
      have hz':=hz.step hd;clear hd;go_wp2;go_round
      case rel=>exact⟨n-1,by omega,rfl,hz'⟩
      case measure=>simp;omega
    · have HF:=hid (hz.fin HB.out (Or.inr hd))
      obtain⟨d,hdd⟩:∃ d,d=xs.getD (n-1) 0:=⟨_,rfl⟩;rw[← hdd]at hcell hd;have hb:((d:Int)==0)=false:=by simpa using hd
      have hd':0<d:=by omega
      clear hd hdd;go_wp2;go_ret
      exact⟨kw HF.out,rfl⟩
theorem gF (k:TypeId)(B:Nat)(v:Value)(xs:List Nat)(hB:∀ x∈xs,x<BB)(w:World)(h:Own .u32 k B w v xs) :
 Calls Tryz.prog 69 #[v] w fun e w'=>∃ v',e=.returned v'∧Own .u32 k B w v' (ae (aj xs))∧w=w':=by
 have hd:xs.take (ae (aj xs)).length=ae (aj xs)∧(ae (aj xs)).length≤xs.length:=by
  have hlen:(ae (aj xs)).length≤xs.length:=bG (dJ xs hB);refine⟨?_,hlen⟩;generalize hm:(ae (aj xs)).length=m at hlen
  have key:∀ (n:Nat),Zs xs n→ae (aj xs)=xs.take (ae (aj xs)).length:=by
   intro n
   induction n with
   | zero=>intro hz;have e:=gK hz.1 hB hz.2 (Or.inl rfl);have:=hz.fin hB (Or.inl rfl);rw[← this];exact e
   | succ n ih =>
     intro hz;by_cases h0:xs.getD n 0=0
     · exact ih (by have:=hz.step (by simpa using h0);simpa using this)
     · have e:=gK hz.1 hB hz.2 (Or.inr (by simpa using h0))
       have:=hz.fin hB (Or.inr (by simpa using h0));rw[← this];exact e
  rw[← hm];exact(key _ (Zs.start xs)).symm
 have h0:=h;obtain⟨h1,h2⟩:=h;rcases h2 with⟨rfl,h3⟩|⟨g,cap,cur,rfl,hg,hh,hn,hc,hs,ht⟩
 · obtain rfl:xs=[]:=List.length_eq_zero_iff.1 h3
   have hz:ae (aj [])=[]:=by unfold aj;exact aP
   rw[hz];clear hd hB h0 hz;go_enter func69,ntmps69
   go_wp2;refine wp_loop_rounds 1 ?_;rw[rounds_succ];go_wp2;go_ret
   exact⟨_,rfl,Own.nil _ _ _ _,rfl⟩
 · have hrd:∀ i,i<xs.length→w.cell? ⟨g,0+i,none⟩=some (.int .u32 ((xs.getD i 0:Nat):Int)):=by
    rcases h0.rd with⟨hv,_⟩|⟨b,o,c,hv,_,_,_,h5⟩
    · injection hv with hv;cases hv
    · injection hv with e1 e2 e3
      injection e1 with e1
      injection e1 with e4 e5 e6
      subst e4 e5 e3;exact h5
   refine(lc g 0 cap xs hB hn hc w hrd).mono fun e w' ⟨he,hw⟩=>⟨_,he,?_,hw⟩;have:=h0.take (ae (aj xs)).length hd.2;rwa [hd.1]at this
theorem fT (s:ByteArray)(w:World)(hs:s.size≤maxLen) :
 Calls Tryz.prog 44 #[.string s] w fun e w'=>e=.returned (.bool (vld s.data.toList))∧w=w':=by
 unfold maxLen at hs
 have hcase:s.size=0∨(s.size=1∨(1<s.size∧∃ h:0<s.size,((s[0].toNat:Int) != 48)=true))∨(1<s.size∧∃ h:0<s.size,((s[0].toNat:Int) != 48)=false):=by
  rcases Nat.lt_trichotomy s.size 1 with h|h|h
  · left;omega
  · right;left;left;exact h
  · have h0:0<s.size:=by omega
    by_cases hc:(s[0].toNat:Int)=48
    · right;right;exact⟨h,h0,by rw[bne_eq_false_iff_eq];exact hc⟩
    · right;left;right;exact⟨h,h0,by rw[bne_iff_ne];exact hc⟩
 rcases hcase with h0|(h1|⟨h1,h2,h3⟩)|⟨h1,h2,h3⟩
 · have HF:=hid (show vld s.data.toList=false by rw[qp h0];rfl)
   have k1:s.size≤0:=by omega
   have k2:((s.size:Int)==1)=false:=beq_eq_false_iff_ne.2 (by omega);clear h0;go_enter func44,ntmps44
   go_wp2;refine wp_loop_rounds 1 ?_;rw[rounds_succ];go_wp2;go_ret
   exact⟨cz HF.out.symm,rfl⟩
 · have k2:((s.size:Int)==1)=true:=beq_iff_eq.2 (by omega)
   have H1:=hid h1;have k3:0<s.size:=by omega
   clear h1;go_enter func44,ntmps44
   go_wp2;go_loop [3] (fun i=>∃ k:Nat,k≤s.size∧i=.int .i64 k∧alld s k) (fun i=>s.size-(intOf i).toNat)
   case atStart=>exact⟨0,Nat.zero_le _,rfl,kX s⟩
   case round =>
    obtain⟨k,hk,rfl,ha⟩:=hrel;go_wp2
    all_goals first
        | (go_round
           case rel=>exact⟨k+1,by omega,by go_num,kY ha (by assumption) (by omega) (by omega)⟩
           case measure=>simp[intOf];omega)
        | (have hlt:k<s.size:=by assumption
           go_ret
           exact⟨cz (pE hlt (by omega)).symm,rfl⟩)
        | (obtain rfl:k=s.size:=by omega
           go_ret
           exact⟨cz (tT k3 ha (Or.inl H1.out)).symm,rfl⟩)
 · have k2:((s.size:Int)==1)=false:=beq_eq_false_iff_ne.2 (by omega)
   go_enter func44,ntmps44
   go_wp2;go_loop [3] (fun i=>∃ k:Nat,k≤s.size∧i=.int .i64 k∧alld s k) (fun i=>s.size-(intOf i).toNat)
   case atStart=>exact⟨0,Nat.zero_le _,rfl,kX s⟩
   case round =>
    obtain⟨k,hk,rfl,ha⟩:=hrel;go_wp2
    all_goals first
        | (go_round
           case rel=>exact⟨k+1,by omega,by go_num,kY ha (by assumption) (by omega) (by omega)⟩
           case measure=>simp[intOf];omega)
        | (have hlt:k<s.size:=by assumption
           go_ret
           exact⟨cz (pE hlt (by omega)).symm,rfl⟩)
        | (obtain rfl:k=s.size:=by omega
           go_ret
           exact⟨cz (tT h2 ha (Or.inr (by rw[bne_iff_ne]at h3;exact h3))).symm,rfl⟩)
 · have k2:((s.size:Int)==1)=false:=beq_eq_false_iff_ne.2 (by omega)
   go_enter func44,ntmps44
   go_wp2;go_loop [3] (fun i=>∃ k:Nat,k≤s.size∧i=.int .i64 k∧alld s k) (fun i=>s.size-(intOf i).toNat)
   case atStart=>exact⟨0,Nat.zero_le _,rfl,kX s⟩
   case round =>
    obtain⟨k,hk,rfl,ha⟩:=hrel;go_wp2
    all_goals first
        | (go_round
           case rel=>exact⟨k+1,by omega,by go_num,kY ha (by assumption) (by omega) (by omega)⟩
           case measure=>simp[intOf];omega)
        | (have hlt:k<s.size:=by assumption
           go_ret
           exact⟨cz (pE hlt (by omega)).symm,rfl⟩)
        | (obtain rfl:k=s.size:=by omega
           go_ret
           exact⟨cz (vG h1 (by rw[bne_eq_false_iff_eq]at h3;exact h3)).symm,rfl⟩)
theorem zI {s:ByteArray}(h:s.data.toList.all isD=true){a i:Nat}(hai:a≤i)(hi:i<s.size) :
 aK ((s.data.toList.drop a).take (i+1-a))=aK ((s.data.toList.drop a).take (i-a))*10+(s[i].toNat-48)∧48≤s[i].toNat∧s[i].toNat≤57:=by
 have h1:=List.all_eq_true.1 h (s.data.toList[i]'(by rw[aG];exact hi)) (List.getElem_mem _);rw[eQ,eZ s i hi]at h1
 have e:(s.data.toList.drop a).take (i+1-a)=(s.data.toList.drop a).take (i-a)++[s[i]]:=by
  rw[show i+1-a=(i-a)+1 by omega,List.take_succ_eq_append_getElem (by rw[List.length_drop,aG];omega)];congr 2
  rw[List.getElem_drop,← eZ s i hi];congr 1
  omega
 rw[e,kL];exact⟨rfl,h1⟩
theorem z3r {s:ByteArray}(h:s.data.toList.all isD=true)(a n:Nat)(hn:n≤8):aK ((s.data.toList.drop a).take n)<100000000:=by
 have h1:=gI ((s.data.toList.drop a).take n) (by
  rw[List.all_eq_true]at h ⊢
  exact fun c hc=>h c (List.mem_of_mem_drop (List.mem_of_mem_take hc)))
 have h2:10^((s.data.toList.drop a).take n).length≤10^8:=Nat.pow_le_pow_right (by decide) (by rw[List.length_take];omega);omega
theorem jA (s:ByteArray)(h:s.data.toList.all isD=true)(hl:s.size≤100000)(w:World) :
 Calls Tryz.prog 47 #[.string s] w fun e w'=>∃ v,e=.returned v∧Own .u32 89 w.heap.size w' v (ae (aK s.data.toList))∧Below w.heap.size w w':=by
 obtain⟨i0,hi,hz0,hz1,hz2⟩:=info_parts Tryz.info89;have H:=hid h;clear h;have HO0:=hid (World.ownsRow_nil w w.heap.size 89 1);go_enter func47,ntmps47
 go_wp2;go_loopw [3,4] (fun v ee wr=>∃ (z:Int) (os:List Nat),-9≤z∧z≤s.size∧ee=.int .i64 z∧os.length+z.toNat≤s.size∧Hid (wr.ownsRow w.heap.size 89 1 v os.length (cls .u32 os))∧Hid (gN s.data.toList os z.toNat)∧Hid (Below w.heap.size w wr)) (fun _ ee _=>(intOf ee).toNat)
 case atStart=>exact⟨(s.size:Int),[],by omega,by omega,rfl,by simp,HO0,by have:=gN.start s.data.toList;rw[aG]at this;exact this,Below.refl _ _⟩
 case round =>
  obtain⟨z,os,hz9,hzs,rfl,hlen,ho,hr,hn⟩:=hrel;by_cases hz:0<z
  · obtain⟨ez,rfl⟩:=Int.eq_ofNat_of_zero_le (show 0≤z by omega)
    obtain⟨a,ha⟩:∃ a:Nat,a=ez-9:=⟨_,rfl⟩;rw[Int.toNat_natCast]at hr hlen;obtain⟨hst,hbd⟩:=hr.out.step (a:=a) H.out (by rw[aG];omega) (by omega) (by omega);obtain ⟨HST,HBD⟩:=aD hst hbd;have hmx:max 0 ((ez:Int)-9)=(a:Int):=by omega
    have hae:a≤ez:=by omega
    have hea:ez≤a+9:=by omega
    have HA:=hid ha;clear hst hbd ha hr;go_wp2;obtain⟨wo,rfl⟩:∃ wo:World,wo=wr:=⟨_,rfl⟩;go_loop [5,6] (fun ww ii=>∃ i m:Nat,a≤i∧i≤ez∧ii=.int .i64 i∧ww=.int .u32 (m:Int)∧Hid (m=aK ((s.data.toList.drop a).take (i-a)))) (fun _ ii=>ez-(intOf ii).toNat)
    case atStart=>exact⟨a,0,Nat.le_refl _,hae,rfl,rfl,by rw[Nat.sub_self];rfl⟩
    case round =>
        obtain⟨i,m,hai,hie,rfl,rfl,hm⟩:=hrel;by_cases hlt:i<ez
        · obtain⟨h1,h2,h3⟩:=zI H.out hai (show i<s.size by omega)
          have h4:m<100000000:=by rw[hm.out];exact z3r H.out a (i-a) (by omega)
          have h5:i<s.size:=by omega
          have H1:=hid h1;clear h1;have k4:(m:Int)≤99999999:=by omega
          clear h4;go_wp2;go_round
          case rel=>exact⟨i+1,m*10+(s[i].toNat-48),by omega,by omega,by go_num,by congr 1;omega,by have:=hm.out;subst this;exact H1.out.symm⟩
          case measure=>simp[intOf];omega
        · have hie2:i=ez:=by omega
          have hm':=hm.out;rw[hie2]at hm';have HM:=hid hm';clear hm hm' hie2;go_wp2_with (at_builtin;refine wpList_append_own _ rfl _ _ 49 rfl w.heap.size 89 i0 (.int .u32 0) 1 4 underlying49 hi hz0 hz1 hz2 rfl (by decide) _ _ _ rfl (ho.out.alloc _) ⟨wo.heap.size,0,none⟩ 1 1 [.int .u32 (m:Int)] rfl rfl (cells_one _ _ _) (by intro u hu;simp at hu;subst hu;rfl) (by unfold maxLen;omega) (by omega) (by have:=hn.out.size;simp;omega) ?_)
          intro v' w1 hown' hgrow _;have HO:=hid hown';have HN:=hid ((hn.out.alloc hn.out.size _).grown hgrow (by have:=hn.out.size;simp;omega) (fun k hk=>(ho.out.lt k hk).1));clear hown' hgrow;go_wp2;go_roundw
          case rel=>exact⟨(ez:Int)-9,os++[m],by omega,by omega,rfl,by simp;omega,by have:=HO.out;rw[bT,List.length_append];exact this,by rw[show((ez:Int)-9).toNat=a by have:=HA.out;omega,HM.out];exact HST,HN⟩
          case measure=>simp[intOf];omega
  · have hz0':z.toNat=0:=by omega
    have hr':=hr.out;rw[hz0']at hr';obtain⟨hB,hv⟩:=hr'.done;have htr:=gF 89 w.heap.size _ os hB wr ho.out;rw[hv]at htr;have HTR:=hid htr;clear hr' hB hv htr hz0';go_wp2_with fail
    refine HTR.out.mono ?_;rintro e w2 ⟨v',rfl,hown,rfl⟩;go_wp2;go_ret
    exact⟨v',rfl,hown,hn.out⟩
open Go.Lib (hid)
def lenV:Value→Nat | .slice _ n _=>n|_=>0
def kZ (xs ys:List Nat):Prop:=∃ k,ys=xs++List.replicate k 0
theorem kZ.start (xs:List Nat):kZ xs xs:=⟨0,by simp⟩
theorem kZ.step {xs ys:List Nat}(h:kZ xs ys):kZ xs (ys++[0]):=by
 obtain⟨k,rfl⟩:=h;exact⟨k+1,by rw[List.append_assoc,iC]⟩
theorem kZ.fin {xs ys:List Nat}(h:kZ xs ys):ys=xs++List.replicate (ys.length-xs.length) 0:=by
 obtain⟨k,rfl⟩:=h;rw[List.length_append,List.length_replicate,Nat.add_sub_cancel_left]
theorem zJ (B:Nat)(v:Value)(xs:List Nat)(n:Nat)(hn:n≤100000)(hx:xs.length≤n)(w:World)(h:Own .u64 110 B w v xs)(hB:B≤w.heap.size) :
 Calls Tryz.prog 236 #[v,.int .i64 (n:Int)] w fun e w'=>∃ u,e=.returned u∧Own .u64 110 B w' u (xs++List.replicate (n-xs.length) 0)∧fB w v u∧Kp (At v) w w':=by
 obtain⟨i0,hi,hz0,hz1,hz2⟩:=info_parts Tryz.info110;obtain⟨a0,c0,rfl⟩:=aU h.rd;have HO:=hid h;have HB:=hid hB;clear h hB;go_enter func236,ntmps236
 go_wp2;go_loopw [0] (fun x wr=>∃ (a:Option Addr) (c:Nat) (ys:List Nat),x=.slice a ys.length c∧ys.length≤n∧Hid (kZ xs ys)∧Hid (Own .u64 110 B wr (.slice a ys.length c) ys)∧Hid (fB w (.slice a0 xs.length c0) (.slice a ys.length c))∧Hid (Kp (At (.slice a0 xs.length c0)) w wr)) (fun x _=>n-lenV x)
 case atStart=>exact⟨a0,c0,xs,rfl,hx,kZ.start xs,HO.out,fB.refl _ _,Kp.refl _ _⟩
 case round =>
  obtain⟨a,c,ys,rfl,hl,hp,ho,hno,hk⟩:=hrel;by_cases hlt:ys.length<n
  · have hsz:=hk.out.size
    have hBw:=HB.out;go_wp2_with (at_builtin;refine iT _ rfl _ _ 174 rfl B 110 i0 (.int .u64 0) underlying174 hi hz0 hz1 hz2 rfl _ ys.length (cls .u64 ys) rfl (World.ownsRow.alloc ho.out _) ⟨wr.heap.size,0,none⟩ 1 (.int .u64 0) rfl (cells_one _ _ _ 0 _ rfl) rfl (by omega) (by simp;omega) ?_)
    intro v' w1 hown' hgrow hnew
    have ho1:Own .u64 110 B w1 v' (ys++[0]):=by
        unfold Own
        rw[bT,List.length_append];exact hown'
    obtain⟨a',c',rfl⟩:=aU ho1.rd;have HO1:=hid ho1;have HN1:=hid (hno.out.trans hnew (by simp;omega))
    have HK1:=hid ((hk.out.alloc (.cells #[.int .u64 0] 110)).grown hgrow (fun g hg hlt=>by
        rcases hno.out g hg with h1|h1
        · exact h1
        · omega))
    clear ho1 hown' hgrow hnew;go_wp2;go_roundw
    case rel=>exact⟨a',c',ys++[0],rfl,by simp;omega,hp.out.step,HO1,HN1,HK1⟩
    case measure=>simp[lenV];omega
  · have hfin:=hp.out.fin
    rw[show ys.length-xs.length=n-xs.length by omega]at hfin;have HF:=hid hfin;clear hfin;go_wp2;go_ret
    refine⟨_,rfl,?_,hno.out,hk.out⟩;rw[← HF.out];exact ho.out
theorem yY (s:Int)(h0:0≤s+3000000000000000000)(h1:s+3000000000000000000<6000000000000000000)(w:World) :
 Calls Tryz.prog 237 #[.int .i64 s] w fun e w'=>e=.returned (.tuple #[.int .u64 ((s+3000000000000000000)%1000000000),.int .i64 ((s+3000000000000000000) / 1000000000-3000000000)])∧w=w':=by
 obtain⟨t,ht⟩:∃ t,t=s+3000000000000000000:=⟨_,rfl⟩;have e1:IntKind.i64.wrap (s+3000000000000000000)=t:=by rw[ht];exact IntWalk.i64_in _ (by omega)
 rw[← ht]at h0 h1 ⊢;have HT:=hid ht;clear ht;go_enter func237,ntmps237
 go_wp2;go_ret2
 exact⟨rfl,rfl⟩
theorem jv (B:Nat)(v:Value)(xs:List Nat)(k:Nat)(hk3:k≤3000000000)(hx:xs.length≤100000)(w:World)(h:Own .u64 110 B w v xs)(hB:B≤w.heap.size) :
 Calls Tryz.prog 238 #[v,.int .i64 (k:Int)] w fun e w'=>∃ u,e=.returned u∧Own .u64 110 B w' u (xs++ae k)∧fB w v u∧Kp (At v) w w':=by
 obtain⟨i0,hi,hz0,hz1,hz2⟩:=info_parts Tryz.info110;obtain⟨a0,c0,rfl⟩:=aU h.rd;have hdl:(ae k).length≤2:=bG (by rw[aJ];omega);obtain ⟨HD,HO,HB⟩:=ah hdl h hB;clear h hB hdl;go_enter func238,ntmps238
 go_wp2;go_loopw [0,1] (fun x kk wr=>∃ (a:Option Addr) (c m:Nat) (ys:List Nat),x=.slice a ys.length c∧kk=.int .i64 (m:Int)∧m≤3000000000∧Hid (ys++ae m=xs++ae k)∧Hid (Own .u64 110 B wr (.slice a ys.length c) ys)∧Hid (fB w (.slice a0 xs.length c0) (.slice a ys.length c))∧Hid (Kp (At (.slice a0 xs.length c0)) w wr)) (fun _ kk _=>(intOf kk).toNat)
 case atStart=>exact⟨a0,c0,k,xs,rfl,rfl,hk3,rfl,HO.out,fB.refl _ _,Kp.refl _ _⟩
 case round =>
  obtain⟨a,c,m,ys,rfl,rfl,hm,he,ho,hno,hk⟩:=hrel
  have hyl:ys.length≤100002:=by
   have e:=congrArg List.length he.out;rw[List.length_append,List.length_append]at e;have:=HD.out;omega
  by_cases hlt:0<m
  · have hsz:=hk.out.size
    have hBw:=HB.out;have hdm:=bI (n:=m) (by omega);rw[aJ]at hdm;have HM:=hid hdm;obtain⟨r,hr⟩:∃ r:Nat,r=m%1000000000:=⟨_,rfl⟩;obtain⟨q,hq⟩:∃ q:Nat,q=m / 1000000000:=⟨_,rfl⟩;have e1:(m:Int)%1000000000=(r:Int):=by omega
    have e2:(m:Int) / 1000000000=(q:Int):=by omega
    obtain ⟨HR,HQ⟩:=aD hr hq;have hq3:q≤3000000000:=by omega
    have hqm:=hid (show q<m by omega);have hr9:r<1000000000:=by omega
    clear hdm hr hq;go_wp2_with (at_builtin;refine iT _ rfl _ _ 174 rfl B 110 i0 (.int .u64 0) underlying174 hi hz0 hz1 hz2 rfl _ ys.length (cls .u64 ys) rfl (World.ownsRow.alloc ho.out _) ⟨wr.heap.size,0,none⟩ 1 (.int .u64 (r:Int)) rfl (cells_one _ _ _ 0 _ rfl) rfl (by omega) (by simp;omega) ?_)
    intro v' w1 hown' hgrow hnew
    have ho1:Own .u64 110 B w1 v' (ys++[r]):=by
        unfold Own
        rw[bT,List.length_append];exact hown'
    obtain⟨a',c',rfl⟩:=aU ho1.rd;have HO1:=hid ho1;have HN1:=hid (hno.out.trans hnew (by simp;omega))
    have HK1:=hid ((hk.out.alloc (.cells #[.int .u64 (r:Int)] 110)).grown hgrow (fun g hg hlt=>by
        rcases hno.out g hg with h1|h1
        · exact h1
        · omega))
    clear ho1 hown' hgrow hnew;go_wp2;go_roundw
    case rel=>exact⟨a',c',q,ys++[r],rfl,rfl,hq3,by rw[List.append_assoc,List.singleton_append,HR.out,HQ.out,← HM.out];exact he.out,HO1,HN1,HK1⟩
    case measure=>simp[intOf];have:=hqm.out;omega
  · obtain rfl:m=0:=by omega
    have hfin:=he.out;rw[aP,List.append_nil]at hfin;have HF:=hid hfin;clear hfin;go_wp2;go_ret
    refine⟨_,rfl,?_,hno.out,hk.out⟩;rw[← HF.out];exact ho.out
theorem yP {xs:List Nat}(hB:∀ x∈xs,x<BB):xs.take (ae (aj xs)).length=ae (aj xs)∧(ae (aj xs)).length≤xs.length:=by
 have hlen:(ae (aj xs)).length≤xs.length:=bG (dJ xs hB);refine⟨?_,hlen⟩
 have key:∀ (n:Nat),Zs xs n→ae (aj xs)=xs.take (ae (aj xs)).length:=by
  intro n
  induction n with
  | zero=>intro hz;have e:=gK hz.1 hB hz.2 (Or.inl rfl);have:=hz.fin hB (Or.inl rfl);rw[← this];exact e
  | succ n ih =>
    intro hz;by_cases h0:xs.getD n 0=0
    · exact ih (by have:=hz.step (by simpa using h0);simpa using this)
    · have e:=gK hz.1 hB hz.2 (Or.inr (by simpa using h0))
      have:=hz.fin hB (Or.inr (by simpa using h0));rw[← this];exact e
 exact(key _ (Zs.start xs)).symm
theorem z0P (B:Nat)(v:Value)(xs:List Nat)(hB:∀ x∈xs,x<BB)(w:World)(h:Own .u64 110 B w v xs) :
 Calls Tryz.prog 191 #[v] w fun e w'=>∃ v',e=.returned v'∧Own .u64 110 B w v' (ae (aj xs))∧(∀ g,At v' g→At v g)∧w=w':=by
 have hd:=yP hB;have h0:=h;obtain⟨h1,h2⟩:=h;rcases h2 with⟨rfl,h3⟩|⟨g,cap,cur,rfl,hg,hh,hn,hc,hs,ht⟩
 · obtain rfl:xs=[]:=List.length_eq_zero_iff.1 h3
   have hz:ae (aj [])=[]:=by unfold aj;exact aP
   rw[hz];clear hd hB h0 hz;go_enter func191,ntmps191
   go_wp2;refine wp_loop_rounds 1 ?_;rw[rounds_succ];go_wp2;go_ret
   exact⟨_,rfl,Own.nil _ _ _ _,fun _ h=>h,rfl⟩
 · have hrd:∀ i,i<xs.length→w.cell? ⟨g,0+i,none⟩=some (.int .u64 ((xs.getD i 0:Nat):Int)):=by
    rcases h0.rd with⟨hv,_⟩|⟨b,o,c,hv,_,_,_,h5⟩
    · injection hv with hv;cases hv
    · injection hv with e1 e2 e3
      injection e1 with e1
      injection e1 with e4 e5 e6
      subst e4 e5 e3;exact h5
   refine(nU g 0 cap xs hB hn hc w hrd).mono fun e w' ⟨he,hw⟩=>⟨_,he,?_,fun k hk=>(by rw[eY]at hk ⊢;exact hk),hw⟩;have:=h0.take (ae (aj xs)).length hd.2;rwa [hd.1]at this
