/- texts -/
import Derived.Test.YtlgkolkcokaefaaGreatDoorMz9q
import Derived.Test.YtlgkolkcokaefaaGreatDoorMz6q
open Go.Proofs.Tryz
set_option maxRecDepth 100000
set_option maxHeartbeats 20000000
open Go.Lib (hid)
namespace Go.Proofs.YtlgkolkcokaefaaGreatDoor
open Go.RowKit Go.Gb
theorem Tryz.info89:(Tryz.prog.info? 89).map (fun i=>(i.zero,i.size,i.bytes))=some (some (.int .u32 0),1,4):=by kernel_rfl
theorem lc (b o c:Nat)(xs:List Nat)(hB:∀ x∈xs,x<BB)(hxc:xs.length≤c)(hcm:c≤maxLen)(w:World)
 (hc:∀ i,i<xs.length→w.cell? ⟨b,o+i,none⟩=some (.int .u32 ((xs.getD i 0:Nat):Int))) :
 Calls Tryz.prog 69 #[.slice (some ⟨b,o,none⟩) xs.length c] w fun e w'=>e=.returned (.slice (some ⟨b,o,none⟩) (ae (aj xs)).length c)∧w=w':=by
 unfold maxLen at hcm
 have HC:=hid hc;have HB:=hid hB;clear hc hB;go_enter func69,ntmps69
 go_wp2;go_loop [0] (fun x=>∃ n:Nat,n≤c∧x=.slice (some ⟨b,o,none⟩) n c∧Zs xs n) (fun x=>match x with | .slice _ n _=>n|_=>0)
 case atStart=>exact⟨xs.length,hxc,rfl,Zs.start xs⟩
 case round =>
  obtain⟨n,hn,rfl,hz⟩:=hrel;by_cases h0:n=0
  · have HF:=hid (hz.fin HB.out (Or.inl h0))
    subst h0;go_wp2;go_ret
    exact⟨kw HF.out,rfl⟩
  · have hp:0<n:=by omega
    have hcell:=HC.out (n-1) (by have:=hz.1;omega);by_cases hd:xs.getD (n-1) 0=0
    · rw[hd]at hcell
      have hz':=hz.step hd;clear hd;go_wp2;go_round
      case rel=>exact⟨n-1,by omega,rfl,hz'⟩
      case measure=>simp;omega
    · have HF:=hid (hz.fin HB.out (Or.inr hd))
      obtain⟨d,hdd⟩:∃ d,d=xs.getD (n-1) 0:=⟨_,rfl⟩;rw[← hdd]at hcell hd;have hb:((d:Int)==0)=false:=by simpa using hd
      have hd':0<d:=by omega
      clear hd hdd;go_wp2;go_ret
      exact⟨kw HF.out,rfl⟩
theorem gG (k:TypeId)(B:Nat)(v:Value)(xs:List Nat)(hB:∀ x∈xs,x<BB)(w:World)(h:Own .u32 k B w v xs) :
 Calls Tryz.prog 69 #[v] w fun e w'=>∃ v',e=.returned v'∧Own .u32 k B w v' (ae (aj xs))∧w=w':=by
 have hd:xs.take (ae (aj xs)).length=ae (aj xs)∧(ae (aj xs)).length≤xs.length:=by
  have hlen:(ae (aj xs)).length≤xs.length:=bH (dJ xs hB);refine⟨?_,hlen⟩;generalize hm:(ae (aj xs)).length=m at hlen
  have key:∀ (n:Nat),Zs xs n→ae (aj xs)=xs.take (ae (aj xs)).length:=by
   intro n
   induction n with
   | zero=>intro hz;have e:=gL hz.1 hB hz.2 (Or.inl rfl);have:=hz.fin hB (Or.inl rfl);rw[← this];exact e
   | succ n ih =>
     intro hz;by_cases h0:xs.getD n 0=0
     · exact ih (by have:=hz.step (by simpa using h0);simpa using this)
     · have e:=gL hz.1 hB hz.2 (Or.inr (by simpa using h0))
       have:=hz.fin hB (Or.inr (by simpa using h0));rw[← this];exact e
  rw[← hm];exact(key _ (Zs.start xs)).symm
 have h0:=h;obtain⟨h1,h2⟩:=h;rcases h2 with⟨rfl,h3⟩|⟨g,cap,cur,rfl,hg,hh,hn,hc,hs,ht⟩
 · obtain rfl:xs=[]:=List.length_eq_zero_iff.1 h3
   have hz:ae (aj [])=[]:=by unfold aj;exact aP
   rw[hz];clear hd hB h0 hz;go_enter func69,ntmps69
   go_wp2;refine wp_loop_rounds 1 ?_;rw[rounds_succ];go_wp2;go_ret
   exact⟨_,rfl,Own.nil _ _ _ _,rfl⟩
 · have hrd:∀ i,i<xs.length→w.cell? ⟨g,0+i,none⟩=some (.int .u32 ((xs.getD i 0:Nat):Int)):=by
    rcases h0.rd with⟨hv,_⟩|⟨b,o,c,hv,_,_,_,h5⟩
    · injection hv with hv;cases hv
    · injection hv with e1 e2 e3
      injection e1 with e1
      injection e1 with e4 e5 e6
      subst e4 e5 e3;exact h5
   refine(lc g 0 cap xs hB hn hc w hrd).mono fun e w' ⟨he,hw⟩=>⟨_,he,?_,hw⟩;have:=h0.take (ae (aj xs)).length hd.2;rwa [hd.1]at this
theorem fU (s:ByteArray)(w:World)(hs:s.size≤maxLen) :
 Calls Tryz.prog 44 #[.string s] w fun e w'=>e=.returned (.bool (vld s.data.toList))∧w=w':=by
 unfold maxLen at hs
 have hcase:s.size=0∨(s.size=1∨(1<s.size∧∃ h:0<s.size,((s[0].toNat:Int) != 48)=true))∨(1<s.size∧∃ h:0<s.size,((s[0].toNat:Int) != 48)=false):=by
  rcases Nat.lt_trichotomy s.size 1 with h|h|h
  · left;omega
  · right;left;left;exact h
  · have h0:0<s.size:=by omega
    by_cases hc:(s[0].toNat:Int)=48
    · right;right;exact⟨h,h0,by rw[bne_eq_false_iff_eq];exact hc⟩
    · right;left;right;exact⟨h,h0,by rw[bne_iff_ne];exact hc⟩
 rcases hcase with h0|(h1|⟨h1,h2,h3⟩)|⟨h1,h2,h3⟩
 · have HF:=hid (show vld s.data.toList=false by rw[qp h0];rfl)
   have k1:s.size≤0:=by omega
   have k2:((s.size:Int)==1)=false:=beq_eq_false_iff_ne.2 (by omega);clear h0;go_enter func44,ntmps44
   go_wp2;refine wp_loop_rounds 1 ?_;rw[rounds_succ];go_wp2;go_ret
   exact⟨cK HF.out.symm,rfl⟩
 · have k2:((s.size:Int)==1)=true:=beq_iff_eq.2 (by omega)
   have H1:=hid h1;have k3:0<s.size:=by omega
   clear h1;go_enter func44,ntmps44
   go_wp2;go_loop [3] (fun i=>∃ k:Nat,k≤s.size∧i=.int .i64 k∧alld s k) (fun i=>s.size-(intOf i).toNat)
   case atStart=>exact⟨0,Nat.zero_le _,rfl,kX s⟩
   case round =>
    obtain⟨k,hk,rfl,ha⟩:=hrel;go_wp2
    all_goals first
        | (go_round
           case rel=>exact⟨k+1,by omega,by go_num,kY ha (by assumption) (by omega) (by omega)⟩
           case measure=>simp[intOf];omega)
        | (have hlt:k<s.size:=by assumption
           go_ret
           exact⟨cK (pE hlt (by omega)).symm,rfl⟩)
        | (obtain rfl:k=s.size:=by omega
           go_ret
           exact⟨cK (tT k3 ha (Or.inl H1.out)).symm,rfl⟩)
 · have k2:((s.size:Int)==1)=false:=beq_eq_false_iff_ne.2 (by omega)
   go_enter func44,ntmps44
   go_wp2;go_loop [3] (fun i=>∃ k:Nat,k≤s.size∧i=.int .i64 k∧alld s k) (fun i=>s.size-(intOf i).toNat)
   case atStart=>exact⟨0,Nat.zero_le _,rfl,kX s⟩
   case round =>
    obtain⟨k,hk,rfl,ha⟩:=hrel;go_wp2
    all_goals first
        | (go_round
           case rel=>exact⟨k+1,by omega,by go_num,kY ha (by assumption) (by omega) (by omega)⟩
           case measure=>simp[intOf];omega)
        | (have hlt:k<s.size:=by assumption
           go_ret
           exact⟨cK (pE hlt (by omega)).symm,rfl⟩)
        | (obtain rfl:k=s.size:=by omega
           go_ret
           exact⟨cK (tT h2 ha (Or.inr (by rw[bne_iff_ne]at h3;exact h3))).symm,rfl⟩)
 · have k2:((s.size:Int)==1)=false:=beq_eq_false_iff_ne.2 (by omega)
   go_enter func44,ntmps44
   go_wp2;go_loop [3] (fun i=>∃ k:Nat,k≤s.size∧i=.int .i64 k∧alld s k) (fun i=>s.size-(intOf i).toNat)
   case atStart=>exact⟨0,Nat.zero_le _,rfl,kX s⟩
   case round =>
    obtain⟨k,hk,rfl,ha⟩:=hrel;go_wp2
    all_goals first
        | (go_round
           case rel=>exact⟨k+1,by omega,by go_num,kY ha (by assumption) (by omega) (by omega)⟩
           case measure=>simp[intOf];omega)
        | (have hlt:k<s.size:=by assumption
           go_ret
           exact⟨cK (pE hlt (by omega)).symm,rfl⟩)
        | (obtain rfl:k=s.size:=by omega
           go_ret
           exact⟨cK (vG h1 (by rw[bne_eq_false_iff_eq]at h3;exact h3)).symm,rfl⟩)
theorem zF {s:ByteArray}(h:s.data.toList.all isD=true){a i:Nat}(hai:a≤i)(hi:i<s.size) :
 aK ((s.data.toList.drop a).take (i+1-a))=aK ((s.data.toList.drop a).take (i-a))*10+(s[i].toNat-48)∧48≤s[i].toNat∧s[i].toNat≤57:=by
 have h1:=List.all_eq_true.1 h (s.data.toList[i]'(by rw[aH];exact hi)) (List.getElem_mem _);rw[eT,fe s i hi]at h1
 have e:(s.data.toList.drop a).take (i+1-a)=(s.data.toList.drop a).take (i-a)++[s[i]]:=by
  rw[show i+1-a=(i-a)+1 by omega,List.take_succ_eq_append_getElem (by rw[List.length_drop,aH];omega)];congr 2
  rw[List.getElem_drop,← fe s i hi];congr 1
  omega
 rw[e,kL];exact⟨rfl,h1⟩
theorem z3t {s:ByteArray}(h:s.data.toList.all isD=true)(a n:Nat)(hn:n≤8):aK ((s.data.toList.drop a).take n)<100000000:=by
 have h1:=gJ ((s.data.toList.drop a).take n) (by
  rw[List.all_eq_true]at h ⊢
  exact fun c hc=>h c (List.mem_of_mem_drop (List.mem_of_mem_take hc)))
 have h2:10^((s.data.toList.drop a).take n).length≤10^8:=Nat.pow_le_pow_right (by decide) (by rw[List.length_take];omega);omega
theorem jA (s:ByteArray)(h:s.data.toList.all isD=true)(hl:s.size≤100000)(w:World) :
 Calls Tryz.prog 47 #[.string s] w fun e w'=>∃ v,e=.returned v∧Own .u32 89 w.heap.size w' v (ae (aK s.data.toList))∧Below w.heap.size w w':=by
 obtain⟨i0,hi,hz0,hz1,hz2⟩:=info_parts Tryz.info89;have H:=hid h;clear h;have HO0:=hid (World.ownsRow_nil w w.heap.size 89 1);go_enter func47,ntmps47
 go_wp2;go_loopw [3,4] (fun v ee wr=>∃ (z:Int) (os:List Nat),-9≤z∧z≤s.size∧ee=.int .i64 z∧os.length+z.toNat≤s.size∧Hid (wr.ownsRow w.heap.size 89 1 v os.length (cls .u32 os))∧Hid (gP s.data.toList os z.toNat)∧Hid (Below w.heap.size w wr)) (fun _ ee _=>(intOf ee).toNat)
 case atStart=>exact⟨(s.size:Int),[],by omega,by omega,rfl,by simp,HO0,by have:=gP.start s.data.toList;rw[aH]at this;exact this,Below.refl _ _⟩
 case round =>
  obtain⟨z,os,hz9,hzs,rfl,hlen,ho,hr,hn⟩:=hrel;by_cases hz:0<z
  · obtain⟨ez,rfl⟩:=Int.eq_ofNat_of_zero_le (show 0≤z by omega)
    obtain⟨a,ha⟩:∃ a:Nat,a=ez-9:=⟨_,rfl⟩;rw[Int.toNat_natCast]at hr hlen;obtain⟨hst,hbd⟩:=hr.out.step (a:=a) H.out (by rw[aH];omega) (by omega) (by omega);obtain ⟨HST,HBD⟩:=aD hst hbd;have hmx:max 0 ((ez:Int)-9)=(a:Int):=by omega
    have hae:a≤ez:=by omega
    have hea:ez≤a+9:=by omega
    have HA:=hid ha;clear hst hbd ha hr;go_wp2;obtain⟨wo,rfl⟩:∃ wo:World,wo=wr:=⟨_,rfl⟩;go_loop [5,6] (fun ww ii=>∃ i m:Nat,a≤i∧i≤ez∧ii=.int .i64 i∧ww=.int .u32 (m:Int)∧Hid (m=aK ((s.data.toList.drop a).take (i-a)))) (fun _ ii=>ez-(intOf ii).toNat)
    case atStart=>exact⟨a,0,Nat.le_refl _,hae,rfl,rfl,by rw[Nat.sub_self];rfl⟩
    case round =>
        obtain⟨i,m,hai,hie,rfl,rfl,hm⟩:=hrel;by_cases hlt:i<ez
        · obtain⟨h1,h2,h3⟩:=zF H.out hai (show i<s.size by omega)
          have h4:m<100000000:=by rw[hm.out];exact z3t H.out a (i-a) (by omega)
          have h5:i<s.size:=by omega
          have H1:=hid h1;clear h1;have k4:(m:Int)≤99999999:=by omega
          clear h4;go_wp2;go_round
          case rel=>exact⟨i+1,m*10+(s[i].toNat-48),by omega,by omega,by go_num,by congr 1;omega,by have:=hm.out;subst this;exact H1.out.symm⟩
          case measure=>simp[intOf];omega
        · have hie2:i=ez:=by omega
          have hm':=hm.out;rw[hie2]at hm';have HM:=hid hm';clear hm hm' hie2;go_wp2_with (at_builtin;refine wpList_append_own _ rfl _ _ 49 rfl w.heap.size 89 i0 (.int .u32 0) 1 4 underlying49 hi hz0 hz1 hz2 rfl (by decide) _ _ _ rfl (ho.out.alloc _) ⟨wo.heap.size,0,none⟩ 1 1 [.int .u32 (m:Int)] rfl rfl (cells_one _ _ _) (by intro u hu;simp at hu;subst hu;rfl) (by unfold maxLen;omega) (by omega) (by have:=hn.out.size;simp;omega) ?_)
          intro v' w1 hown' hgrow _;have HO:=hid hown';have HN:=hid ((hn.out.alloc hn.out.size _).grown hgrow (by have:=hn.out.size;simp;omega) (fun k hk=>(ho.out.lt k hk).1));clear hown' hgrow;go_wp2;go_roundw
          case rel=>exact⟨(ez:Int)-9,os++[m],by omega,by omega,rfl,by simp;omega,by have:=HO.out;rw[bT,List.length_append];exact this,by rw[show((ez:Int)-9).toNat=a by have:=HA.out;omega,HM.out];exact HST,HN⟩
          case measure=>simp[intOf];omega
  · have hz0':z.toNat=0:=by omega
    have hr':=hr.out;rw[hz0']at hr';obtain⟨hB,hv⟩:=hr'.done;have htr:=gG 89 w.heap.size _ os hB wr ho.out;rw[hv]at htr;have HTR:=hid htr;clear hr' hB hv htr hz0';go_wp2_with fail
    refine HTR.out.mono ?_;rintro e w2 ⟨v',rfl,hown,rfl⟩;go_wp2;go_ret
    exact⟨v',rfl,hown,hn.out⟩
open Go.Lib (hid)
theorem jZ {k:IntKind}{a b:Int}(h:a=b):Value.int k a=.int k b:=by rw[h]
theorem z2q {d:Nat}(h:d<10):Value.int .u8 (48+(d:Int))=.int .u8 ((UInt8.ofNat (48+d)).toNat:Int):=by
 rw[fC h];exact jZ (by omega)
theorem vP {W:World}{B:Nat}{v:Value}{bs:List UInt8}{d:Nat}(hd:d<10)(h:W.ownsRow B 5 1 v (bs.length+1) (Lib.byteCells bs++[.int .u8 (48+(d:Int))])):W.ownsRow B 5 1 v (bs++[UInt8.ofNat (48+d)]).length (Lib.byteCells (bs++[UInt8.ofNat (48+d)])):=by
 rw[z2q hd]at h;rw[List.length_append,Lib.byteCells_append];exact h
theorem z2J (b o c:Nat)(xs:List Nat)(hx:∀ x∈xs,x<BB)(hp:0<xs.length)(hlast:xs.getD (xs.length-1) 0≠0)(hl:xs.length≤10000)(w:World)(hb:b<w.heap.size)
 (hcx:∀ i,i<xs.length→w.cell? ⟨b,o+i,none⟩=some (.int .u32 ((xs.getD i 0:Nat):Int))) :
 CR 53 #[.slice (some ⟨b,o,none⟩) xs.length c] w (.string ⟨(Lib.decDigits (aj xs)).toArray⟩):=by
 obtain⟨i0,hi,hz0,hz1,hz2⟩:=info_parts Tryz.info5;obtain ⟨HX,HCX,HLA,HO0⟩:=aG hx hcx hlast (World.ownsRow_nil w w.heap.size 5 1);have d0:((xs.length:Int)==0)=false:=beq_eq_false_iff_ne.2 (by omega);have HP:=hid hp;clear hx hcx hlast hp;go_enter func53,ntmps53
 go_wp2;go_loopw [3,4] (fun v ii wr=>∃ (i:Nat) (bs:List UInt8),i≤xs.length∧ii=.int .i64 i∧Hid (TOut xs bs i)∧Hid (wr.ownsRow w.heap.size 5 1 v bs.length (Lib.byteCells bs))∧Hid (Below w.heap.size w wr)) (fun _ ii _=>xs.length-(intOf ii).toNat)
 case atStart=>exact⟨0,[],Nat.zero_le _,rfl,TOut.zero HP.out,HO0,Below.refl _ _⟩
 case round =>
  obtain⟨i,bs,hi',rfl,hT,ho,hn⟩:=hrel;by_cases hlt:i<xs.length
  · have hcell:=(hn.out.cell (p:=⟨b,o+i,none⟩) hb).trans (HCX.out i hlt)
    have HS:=hid (TIn.start hT.out hlt);have hq0:=(TIn.start hT.out hlt).lt hlt HX.out;clear hT;generalize xs.getD i 0=x at *;go_wp2;obtain⟨wo,rfl⟩:∃ wo:World,wo=wr:=⟨_,rfl⟩;go_loopw [3,5,6] (fun v qq kk wr=>∃ (k q:Nat) (bs:List UInt8),k≤9∧q<1000000000∧kk=.int .i64 k∧qq=.int .u32 (q:Int)∧Hid (TIn xs bs i k q)∧Hid (wr.ownsRow w.heap.size 5 1 v bs.length (Lib.byteCells bs))∧Hid (Below w.heap.size w wr)) (fun _ _ kk _=>9-(intOf kk).toNat)
    case atStart=>exact⟨0,x,bs,by omega,hq0,rfl,rfl,HS,ho,hn⟩
    case round =>
        clear HS ho hn hcell hq0;obtain⟨k,q,bs,hk9,hq9,rfl,rfl,hI,ho,hn⟩:=hrel;have hbl:bs.length≤90009:=by have:=hI.out.len;omega
        have hq9':(q:Int)≤999999999:=by omega
        obtain⟨d,hd⟩:∃ d:Nat,d=q%10:=⟨_,rfl⟩;have hd10:d<10:=by omega
        have hmod:(q:Int)%10=(d:Int):=by omega
        have hd9:(d:Int)≤9:=by omega
        have w1:IntKind.u8.wrap (48+(d:Int))=48+(d:Int):=by rw[IntKind.wrap_u8];omega
        by_cases hg:k<9∧(i+1<xs.length∨0<q)
        · obtain⟨hk,hg⟩:=hg
          have HST:=hid (show TIn xs (bs++[UInt8.ofNat (48+d)]) i (k+1) (q / 10) by rw[hd];exact hI.out.step hlt HX.out hk hg);obtain ⟨Hd,Hd10⟩:=aD hd hd10;have k1:(k:Int)<9:=by omega
          clear hd hd10 hI;by_cases hl2:i+1<xs.length
          · have k2:(i:Int)+1<(xs.length:Int):=by omega
            clear hg;go_wp2_with (at_builtin;refine wpList_append_own _ rfl _ _ 115 rfl w.heap.size 5 i0 (.int .u8 0) 1 1 underlying115 hi hz0 hz1 hz2 rfl (by decide) _ _ _ rfl (ho.out.alloc _) ⟨wr.heap.size,0,none⟩ 1 1 [.int .u8 (48+(d:Int))] rfl rfl (cells_one _ _ _) (by intro u hu;simp at hu;subst hu;rfl) (by unfold maxLen;omega) (by omega) (by have:=hn.out.size;simp;omega) ?_)
            intro v' w1 hown' hgrow _;have HO:=hid (vP Hd10.out hown');have HN:=hid ((hn.out.alloc hn.out.size _).grown hgrow (by have:=hn.out.size;simp;omega) (fun k hk=>(ho.out.lt k hk).1));clear hown' hgrow;go_wp2;go_roundw
            case rel=>exact⟨k+1,q / 10,_,by omega,by omega,by go_num,jZ (by omega),HST,HO,HN⟩
            case measure=>simp[intOf];omega
          · have k2:decide ((i:Int)+1<(xs.length:Int))=false:=decide_eq_false (by omega)
            have k3:0<(q:Int):=by omega
            clear hg;go_wp2_with (at_builtin;refine wpList_append_own _ rfl _ _ 115 rfl w.heap.size 5 i0 (.int .u8 0) 1 1 underlying115 hi hz0 hz1 hz2 rfl (by decide) _ _ _ rfl (ho.out.alloc _) ⟨wr.heap.size,0,none⟩ 1 1 [.int .u8 (48+(d:Int))] rfl rfl (cells_one _ _ _) (by intro u hu;simp at hu;subst hu;rfl) (by unfold maxLen;omega) (by omega) (by have:=hn.out.size;simp;omega) ?_)
            intro v' w1 hown' hgrow _;have HO:=hid (vP Hd10.out hown');have HN:=hid ((hn.out.alloc hn.out.size _).grown hgrow (by have:=hn.out.size;simp;omega) (fun k hk=>(ho.out.lt k hk).1));clear hown' hgrow;go_wp2;go_roundw
            case rel=>exact⟨k+1,q / 10,_,by omega,by omega,by go_num,jZ (by omega),HST,HO,HN⟩
            case measure=>simp[intOf];omega
        · have HD:=hid (hI.out.done hlt HX.out HLA.out (by omega))
          clear hd hd10 hmod w1;by_cases hk:k<9
          · have k1:(k:Int)<9:=by omega
            have k2:decide ((i:Int)+1<(xs.length:Int))=false:=decide_eq_false (by omega);have k3:decide (0<(q:Int))=false:=decide_eq_false (by omega);have k4:decide (0<q)=false:=decide_eq_false (by omega);have k5:¬ 0<q:=by omega
            clear hg hI;go_wp2;go_roundw
            case rel=>exact⟨i+1,bs,by omega,by go_num,HD,ho,hn⟩
            case measure=>simp[intOf];omega
          · have k1:decide ((k:Int)<9)=false:=decide_eq_false (by omega)
            have k2:¬ (k:Int)<9:=by omega
            clear hg hI;go_wp2;go_roundw
            case rel=>exact⟨i+1,bs,by omega,by go_num,HD,ho,hn⟩
            case measure=>simp[intOf];omega
  · have hi2:i=xs.length:=by omega
    have hT':=hT.out;have hbl:=hT'.len HX.out;rw[hi2]at hT';obtain⟨hrev,hbp⟩:=hT'.done;obtain⟨g,cap,rfl,hg,hcm,hR⟩:=RowB.of_own ho.out hbp;obtain⟨n,hn0⟩:∃ n,n=bs.length:=⟨_,rfl⟩;have HR0:=hid (show RowB wr g cap (swp bs 0) by rw[z1k];exact hR);obtain ⟨Hg,HREV⟩:=aD hg hrev;rw[← hn0]at hbl hbp;have Hn0:=hid hn0;have k1:decide ((i:Int)<(xs.length:Int))=false:=decide_eq_false (by omega);rw[← hn0];clear hT hT' hrev ho hR hg hi2 hn0 hcm;go_wp2;obtain⟨wo,rfl⟩:∃ wo:World,wo=wr:=⟨_,rfl⟩;go_loopw [7,8] (fun ii kk wr=>∃ (i k:Nat),i+k+1=n∧ii=.int .i64 i∧kk=.int .i64 k∧Hid (RowB wr g cap (swp bs i))∧Hid (Below w.heap.size w wr)) (fun ii _ _=>n-(intOf ii).toNat)
    case atStart=>exact⟨0,n-1,by omega,rfl,jZ (by omega),HR0,hn⟩
    case round =>
        clear HR0 hn;obtain⟨i,k,hik,rfl,rfl,hR,hn⟩:=hrel;have hnl:=Hn0.out;by_cases hlk:i<k
        · have hkk:bs.length-1-i=k:=by omega
          have hc1:=hR.out.cell (i:=i) (by rw[dI];omega);have hc2:=hR.out.cell (i:=k) (by rw[dI];omega);rw[z3m bs i (by omega)]at hc1;have hh:=z1m bs i (by omega);rw[hkk]at hh;rw[hh]at hc2;have hs:=z1l bs i (by omega);rw[hkk]at hs;have hf1:=hR.out.free i;have hf2:=hR.out.free k;obtain⟨x,hx⟩:∃ x,x=bs.getD i 0:=⟨_,rfl⟩;obtain⟨y,hy⟩:∃ y,y=bs.getD k 0:=⟨_,rfl⟩;rw[← hx]at hc1 hs;rw[← hy]at hc2 hs
          have HSET:=hid (show RowB (((wr.setCell ⟨g,i,none⟩ (.int .u8 (y.toNat:Int))).setCell ⟨g,k,none⟩ (.int .u8 (x.toNat:Int))).drew) g cap (swp bs (i+1)) by
           have h1:=(hR.out.set i y).set k x;rw[hs]at h1
           exact h1)
          have HB:=hid (((hn.out.setCell (p:=⟨g,i,none⟩) Hg.out (.int .u8 (y.toNat:Int))).setCell (p:=⟨g,k,none⟩) Hg.out (.int .u8 (x.toNat:Int))).drew);have hne:¬ i=k:=by omega
          have j1:(i:Int)<(k:Int):=by omega
          have j2:(k:Int)<(n:Int):=by omega
          have hc3:(wr.setCell ⟨g,i,none⟩ (.int .u8 (y.toNat:Int))).cell? ⟨g,k,none⟩=some (.int .u8 (y.toNat:Int)):=(World.cell?_setCell_other _ _ _ _ (by intro e;injection e with e1 e2;exact hne e2)).trans hc2;clear hx hy hs hh hkk hR hn hnl;generalize x.toNat=a at *;generalize y.toNat=b2 at *;go_wp2;go_region
          go_wp2;go_roundw
          case rel=>exact⟨i+1,k-1,by omega,by go_num,jZ (by omega),HSET,HB⟩
          case measure=>simp[intOf];omega
        · have hsd:=z1o bs i (by omega)
          have hR':=hR.out;rw[hsd,HREV.out]at hR';have hdl:(Lib.decDigits (aj xs)).length=n:=by rw[← HREV.out,List.length_reverse];omega
          have hcv:(convert 115 9 (.slice (some ⟨g,0,none⟩) n cap)).run Tryz.prog wr=.ok (.string ⟨(Lib.decDigits (aj xs)).toArray⟩) wr:=by
           have h:=run_convert_bytes_back (P:=Tryz.prog) wr 115 9 5 ⟨g,0,none⟩ cap (Lib.decDigits (aj xs)) underlying115 underlying5 underlying9 (fun j hj=>by
            have h1:=hR'.cell hj;rw[Lib.add_plain,Nat.zero_add,h1]
            simp[List.getD,hj])
           rw[hdl]at h;exact h
          have k2:decide ((i:Int)<(k:Int))=false:=decide_eq_false (by omega);clear hsd hR hR' hdl hnl;go_wp2;go_ret
          exact⟨rfl,hn.out⟩
end Go.Proofs.YtlgkolkcokaefaaGreatDoor
