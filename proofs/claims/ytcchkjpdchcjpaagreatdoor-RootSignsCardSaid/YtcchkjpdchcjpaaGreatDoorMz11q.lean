/- texts -/
import Derived.Test.YtcchkjpdchcjpaaGreatDoorMz9q
import Derived.Test.YtcchkjpdchcjpaaGreatDoorMz10q
open Go.Proofs.Tryz
set_option maxRecDepth 100000
set_option maxHeartbeats 20000000
open Go.Lib (hid)
namespace Go.Proofs.YtcchkjpdchcjpaaGreatDoor
open Go.RowKit Go.Gb
theorem Tryz.info81:(Tryz.prog.info? 81).map (fun i=>(i.zero,i.size,i.bytes))=some (some (.int .u32 0),1,4):=by kernel_rfl
theorem lc (b o c:Nat)(xs:List Nat)(hB:∀ x∈xs,x<BB)(hxc:xs.length≤c)(hcm:c≤maxLen)(w:World)
 (hc:∀ i,i<xs.length→w.cell? ⟨b,o+i,none⟩=some (.int .u32 ((xs.getD i 0:Nat):Int))) :
 Calls Tryz.prog 69 #[.slice (some ⟨b,o,none⟩) xs.length c] w fun e w'=>e=.returned (.slice (some ⟨b,o,none⟩) (aa (ah xs)).length c)∧w=w':=by
 unfold maxLen at hcm
 have HC:=hid hc;have HB:=hid hB;clear hc hB;go_enter func69,ntmps69
 go_wp2;go_loop [0] (fun x=>∃ n:Nat,n≤c∧x=.slice (some ⟨b,o,none⟩) n c∧Zs xs n) (fun x=>match x with | .slice _ n _=>n|_=>0)
 case atStart=>exact⟨xs.length,hxc,rfl,Zs.start xs⟩
 case round =>
  obtain⟨n,hn,rfl,hz⟩:=hrel;by_cases h0:n=0
  · have HF:=hid (hz.fin HB.o (Or.inl h0))
    subst h0;go_wp2;go_ret
    exact⟨kD HF.o,rfl⟩
  · have hp:0<n:=by omega
    have hcell:=HC.o (n-1) (by have:=hz.1;omega);by_cases hd:xs.getD (n-1) 0=0
    · rw[hd]at hcell
      have hz':=hz.step hd;clear hd;go_wp2;go_round
      case rel=>exact⟨n-1,by omega,rfl,hz'⟩
      case measure=>simp;omega
    · have HF:=hid (hz.fin HB.o (Or.inr hd))
      obtain⟨d,hdd⟩:∃ d,d=xs.getD (n-1) 0:=⟨_,rfl⟩;rw[← hdd]at hcell hd;have hb:((d:Int)==0)=false:=by simpa using hd
      have hd':0<d:=by omega
      clear hd hdd;go_wp2;go_ret
      exact⟨kD HF.o,rfl⟩
theorem gM (k:TypeId)(B:Nat)(v:Value)(xs:List Nat)(hB:∀ x∈xs,x<BB)(w:World)(h:Own .u32 k B w v xs) :
 Calls Tryz.prog 69 #[v] w fun e w'=>∃ v',e=.returned v'∧Own .u32 k B w v' (aa (ah xs))∧w=w':=by
 have hd:xs.take (aa (ah xs)).length=aa (ah xs)∧(aa (ah xs)).length≤xs.length:=by
  have hlen:(aa (ah xs)).length≤xs.length:=bF (eD xs hB);refine⟨?_,hlen⟩;generalize hm:(aa (ah xs)).length=m at hlen
  have key:∀ (n:Nat),Zs xs n→aa (ah xs)=xs.take (aa (ah xs)).length:=by
   intro n
   induction n with
   | zero=>intro hz;have e:=gU hz.1 hB hz.2 (Or.inl rfl);have:=hz.fin hB (Or.inl rfl);rw[← this];exact e
   | succ n ih =>
     intro hz;by_cases h0:xs.getD n 0=0
     · exact ih (by have:=hz.step (by simpa using h0);simpa using this)
     · have e:=gU hz.1 hB hz.2 (Or.inr (by simpa using h0))
       have:=hz.fin hB (Or.inr (by simpa using h0));rw[← this];exact e
  rw[← hm];exact(key _ (Zs.start xs)).symm
 have h0:=h;obtain⟨h1,h2⟩:=h;rcases h2 with⟨rfl,h3⟩|⟨g,cap,cur,rfl,hg,hh,hn,hc,hs,ht⟩
 · obtain rfl:xs=[]:=List.length_eq_zero_iff.1 h3
   have hz:aa (ah [])=[]:=by unfold ah;exact aR
   rw[hz];clear hd hB h0 hz;go_enter func69,ntmps69
   go_wp2;refine wp_loop_rounds 1 ?_;rw[rounds_succ];go_wp2;go_ret
   exact⟨_,rfl,Own.nil _ _ _ _,rfl⟩
 · have hrd:∀ i,i<xs.length→w.cell? ⟨g,0+i,none⟩=some (.int .u32 ((xs.getD i 0:Nat):Int)):=by
    rcases h0.rd with⟨hv,_⟩|⟨b,o,c,hv,_,_,_,h5⟩
    · injection hv with hv;cases hv
    · injection hv with e1 e2 e3
      injection e1 with e1
      injection e1 with e4 e5 e6
      subst e4 e5 e3;exact h5
   refine(lc g 0 cap xs hB hn hc w hrd).mono fun e w' ⟨he,hw⟩=>⟨_,he,?_,hw⟩;have:=h0.take (aa (ah xs)).length hd.2;rwa [hd.1]at this
theorem gD (s:ByteArray)(w:World)(hs:s.size≤maxLen) :
 Calls Tryz.prog 43 #[.string s] w fun e w'=>e=.returned (.bool (vld s.data.toList))∧w=w':=by
 unfold maxLen at hs
 have hcase:s.size=0∨(s.size=1∨(1<s.size∧∃ h:0<s.size,((s[0].toNat:Int) != 48)=true))∨(1<s.size∧∃ h:0<s.size,((s[0].toNat:Int) != 48)=false):=by
  rcases Nat.lt_trichotomy s.size 1 with h|h|h
  · left;omega
  · right;left;left;exact h
  · have h0:0<s.size:=by omega
    by_cases hc:(s[0].toNat:Int)=48
    · right;right;exact⟨h,h0,by rw[bne_eq_false_iff_eq];exact hc⟩
    · right;left;right;exact⟨h,h0,by rw[bne_iff_ne];exact hc⟩
 rcases hcase with h0|(h1|⟨h1,h2,h3⟩)|⟨h1,h2,h3⟩
 · have HF:=hid (show vld s.data.toList=false by rw[qW h0];rfl)
   have k1:s.size≤0:=by omega
   have k2:((s.size:Int)==1)=false:=beq_eq_false_iff_ne.2 (by omega);clear h0;go_enter func43,ntmps43
   go_wp2;refine wp_loop_rounds 1 ?_;rw[rounds_succ];go_wp2;go_ret
   exact⟨dw HF.o.symm,rfl⟩
 · have k2:((s.size:Int)==1)=true:=beq_iff_eq.2 (by omega)
   have H1:=hid h1;have k3:0<s.size:=by omega
   clear h1;go_enter func43,ntmps43
   go_wp2;go_loop [3] (fun i=>∃ k:Nat,k≤s.size∧i=.int .i64 k∧alld s k) (fun i=>s.size-(intOf i).toNat)
   case atStart=>exact⟨0,Nat.zero_le _,rfl,kX s⟩
   case round =>
    obtain⟨k,hk,rfl,ha⟩:=hrel;go_wp2
    all_goals first
        | (go_round
           case rel=>exact⟨k+1,by omega,by go_num,kY ha (by assumption) (by omega) (by omega)⟩
           case measure=>simp[intOf];omega)
        | (have hlt:k<s.size:=by assumption
           go_ret
           exact⟨dw (qi hlt (by omega)).symm,rfl⟩)
        | (obtain rfl:k=s.size:=by omega
           go_ret
           exact⟨dw (uD k3 ha (Or.inl H1.o)).symm,rfl⟩)
 · have k2:((s.size:Int)==1)=false:=beq_eq_false_iff_ne.2 (by omega)
   go_enter func43,ntmps43
   go_wp2;go_loop [3] (fun i=>∃ k:Nat,k≤s.size∧i=.int .i64 k∧alld s k) (fun i=>s.size-(intOf i).toNat)
   case atStart=>exact⟨0,Nat.zero_le _,rfl,kX s⟩
   case round =>
    obtain⟨k,hk,rfl,ha⟩:=hrel;go_wp2
    all_goals first
        | (go_round
           case rel=>exact⟨k+1,by omega,by go_num,kY ha (by assumption) (by omega) (by omega)⟩
           case measure=>simp[intOf];omega)
        | (have hlt:k<s.size:=by assumption
           go_ret
           exact⟨dw (qi hlt (by omega)).symm,rfl⟩)
        | (obtain rfl:k=s.size:=by omega
           go_ret
           exact⟨dw (uD h2 ha (Or.inr (by rw[bne_iff_ne]at h3;exact h3))).symm,rfl⟩)
 · have k2:((s.size:Int)==1)=false:=beq_eq_false_iff_ne.2 (by omega)
   go_enter func43,ntmps43
   go_wp2;go_loop [3] (fun i=>∃ k:Nat,k≤s.size∧i=.int .i64 k∧alld s k) (fun i=>s.size-(intOf i).toNat)
   case atStart=>exact⟨0,Nat.zero_le _,rfl,kX s⟩
   case round =>
    obtain⟨k,hk,rfl,ha⟩:=hrel;go_wp2
    all_goals first
        | (go_round
           case rel=>exact⟨k+1,by omega,by go_num,kY ha (by assumption) (by omega) (by omega)⟩
           case measure=>simp[intOf];omega)
        | (have hlt:k<s.size:=by assumption
           go_ret
           exact⟨dw (qi hlt (by omega)).symm,rfl⟩)
        | (obtain rfl:k=s.size:=by omega
           go_ret
           exact⟨dw (wC h1 (by rw[bne_eq_false_iff_eq]at h3;exact h3)).symm,rfl⟩)
theorem z0a {s:ByteArray}(h:s.data.toList.all isD=true){a i:Nat}(hai:a≤i)(hi:i<s.size) :
 aL ((s.data.toList.drop a).take (i+1-a))=aL ((s.data.toList.drop a).take (i-a))*10+(s[i].toNat-48)∧48≤s[i].toNat∧s[i].toNat≤57:=by
 have h1:=List.all_eq_true.1 h (s.data.toList[i]'(by rw[aF];exact hi)) (List.getElem_mem _);rw[fE,fM s i hi]at h1
 have e:(s.data.toList.drop a).take (i+1-a)=(s.data.toList.drop a).take (i-a)++[s[i]]:=by
  rw[show i+1-a=(i-a)+1 by omega,List.take_succ_eq_append_getElem (by rw[List.length_drop,aF];omega)];congr 2
  rw[List.getElem_drop,← fM s i hi];congr 1
  omega
 rw[e,kN];exact⟨rfl,h1⟩
theorem z3C {s:ByteArray}(h:s.data.toList.all isD=true)(a n:Nat)(hn:n≤8):aL ((s.data.toList.drop a).take n)<100000000:=by
 have h1:=gQ ((s.data.toList.drop a).take n) (by
  rw[List.all_eq_true]at h ⊢
  exact fun c hc=>h c (List.mem_of_mem_drop (List.mem_of_mem_take hc)))
 have h2:10^((s.data.toList.drop a).take n).length≤10^8:=Nat.pow_le_pow_right (by decide) (by rw[List.length_take];omega);omega
theorem jE (s:ByteArray)(h:s.data.toList.all isD=true)(hl:s.size≤100000)(w:World) :
 Calls Tryz.prog 45 #[.string s] w fun e w'=>∃ v,e=.returned v∧Own .u32 81 w.heap.size w' v (aa (aL s.data.toList))∧Below w.heap.size w w':=by
 obtain⟨i0,hi,hz0,hz1,hz2⟩:=info_parts Tryz.info81;have H:=hid h;clear h;have HO0:=hid (World.ownsRow_nil w w.heap.size 81 1);go_enter func45,ntmps45
 go_wp2;go_loopw [3,4] (fun v ee wr=>∃ (z:Int) (os:List Nat),-9≤z∧z≤s.size∧ee=.int .i64 z∧os.length+z.toNat≤s.size∧Hid (wr.ownsRow w.heap.size 81 1 v os.length (cls .u32 os))∧Hid (gY s.data.toList os z.toNat)∧Hid (Below w.heap.size w wr)) (fun _ ee _=>(intOf ee).toNat)
 case atStart=>exact⟨(s.size:Int),[],by omega,by omega,rfl,by simp,HO0,by have:=gY.start s.data.toList;rw[aF]at this;exact this,Below.refl _ _⟩
 case round =>
  obtain⟨z,os,hz9,hzs,rfl,hlen,ho,hr,hn⟩:=hrel;by_cases hz:0<z
  · obtain⟨ez,rfl⟩:=Int.eq_ofNat_of_zero_le (show 0≤z by omega)
    obtain⟨a,ha⟩:∃ a:Nat,a=ez-9:=⟨_,rfl⟩;rw[Int.toNat_natCast]at hr hlen;obtain⟨hst,hbd⟩:=hr.o.step (a:=a) H.o (by rw[aF];omega) (by omega) (by omega);obtain ⟨HST,HBD⟩:=aH hst hbd;have hmx:max 0 ((ez:Int)-9)=(a:Int):=by omega
    have hae:a≤ez:=by omega
    have hea:ez≤a+9:=by omega
    have HA:=hid ha;clear hst hbd ha hr;go_wp2;obtain⟨wo,rfl⟩:∃ wo:World,wo=wr:=⟨_,rfl⟩;go_loop [5,6] (fun ww ii=>∃ i m:Nat,a≤i∧i≤ez∧ii=.int .i64 i∧ww=.int .u32 (m:Int)∧Hid (m=aL ((s.data.toList.drop a).take (i-a)))) (fun _ ii=>ez-(intOf ii).toNat)
    case atStart=>exact⟨a,0,Nat.le_refl _,hae,rfl,rfl,by rw[Nat.sub_self];rfl⟩
    case round =>
        obtain⟨i,m,hai,hie,rfl,rfl,hm⟩:=hrel;by_cases hlt:i<ez
        · obtain⟨h1,h2,h3⟩:=z0a H.o hai (show i<s.size by omega)
          have h4:m<100000000:=by rw[hm.o];exact z3C H.o a (i-a) (by omega)
          have h5:i<s.size:=by omega
          have H1:=hid h1;clear h1;have k4:(m:Int)≤99999999:=by omega
          clear h4;go_wp2;go_round
          case rel=>exact⟨i+1,m*10+(s[i].toNat-48),by omega,by omega,by go_num,by congr 1;omega,by have:=hm.o;subst this;exact H1.o.symm⟩
          case measure=>simp[intOf];omega
        · have hie2:i=ez:=by omega
          have hm':=hm.o;rw[hie2]at hm';have HM:=hid hm';clear hm hm' hie2;go_wp2_with (at_builtin;refine wpList_append_own _ rfl _ _ 45 rfl w.heap.size 81 i0 (.int .u32 0) 1 4 underlying45 hi hz0 hz1 hz2 rfl (by decide) _ _ _ rfl (ho.o.alloc _) ⟨wo.heap.size,0,none⟩ 1 1 [.int .u32 (m:Int)] rfl rfl (cells_one _ _ _) (by intro u hu;simp at hu;subst hu;rfl) (by unfold maxLen;omega) (by omega) (by have:=hn.o.size;simp;omega) ?_)
          intro v' w1 hown' hgrow _;have HO:=hid hown';have HN:=hid ((hn.o.alloc hn.o.size _).grown hgrow (by have:=hn.o.size;simp;omega) (fun k hk=>(ho.o.lt k hk).1));clear hown' hgrow;go_wp2;go_roundw
          case rel=>exact⟨(ez:Int)-9,os++[m],by omega,by omega,rfl,by simp;omega,by have:=HO.o;rw[cu,List.length_append];exact this,by rw[show((ez:Int)-9).toNat=a by have:=HA.o;omega,HM.o];exact HST,HN⟩
          case measure=>simp[intOf];omega
  · have hz0':z.toNat=0:=by omega
    have hr':=hr.o;rw[hz0']at hr';obtain⟨hB,hv⟩:=hr'.done;have htr:=gM 81 w.heap.size _ os hB wr ho.o;rw[hv]at htr;have HTR:=hid htr;clear hr' hB hv htr hz0';go_wp2_with fail
    refine HTR.o.mono ?_;rintro e w2 ⟨v',rfl,hown,rfl⟩;go_wp2;go_ret
    exact⟨v',rfl,hown,hn.o⟩
end Go.Proofs.YtcchkjpdchcjpaaGreatDoor
open Go.Lib (hid)
namespace Go.Gb
theorem jZ {xs:List Nat}{i:Nat}(h:xs.length≤i):xs.getD i 0=0:=by simp[List.getD,h]
theorem iy {xs:List Nat}(h:∀ x∈xs,x<BB)(i:Nat):xs.getD i 0<BB:=by
 by_cases hi:i<xs.length
 · exact h _ (aX hi)
 · rw[jZ (by omega)];exact bK
theorem dh.end0 {x y os:List Nat}{i:Nat}(h:dh x y os i 0)(hx:x.length≤i)(hy:y.length≤i):ah os=ah x+ah y∧∀ w∈os,w<BB:=by
 obtain⟨h1,h2,h3,h4⟩:=h;rw[List.take_of_length_le hx,List.take_of_length_le hy]at h4;exact⟨by omega,h2⟩
open Go.RowKit in
theorem Rd.gen {k:IntKind}{w:World}{v:Value}{xs:List Nat}(h:Rd k w v xs):∃ p c,v=.slice p xs.length c∧∀ i,i<xs.length→∃ b o,p=some ⟨b,o,none⟩∧b<w.heap.size∧w.cell? ⟨b,o+i,none⟩=some (.int k ((xs.getD i 0:Nat):Int)):=by
 rcases h with⟨rfl,rfl⟩|⟨b,o,c,rfl,_,_,hb,hc⟩
 · exact⟨none,0,rfl,fun i hi=>by simp at hi⟩
 · exact⟨some ⟨b,o,none⟩,c,rfl,fun i hi=>⟨b,o,rfl,hb,hc i hi⟩⟩
end Go.Gb
namespace Go.Proofs.YtcchkjpdchcjpaaGreatDoor
open Go.RowKit Go.Gb
theorem z14 (v1 v2:Value)(a b:Nat)(hla:(aa a).length≤100000)(hlb:(aa b).length≤100000)(w:World)(h1:Rd .u32 w v1 (aa a))(h2:Rd .u32 w v2 (aa b)) :
 Calls Tryz.prog 131 #[v1,v2] w fun e w'=>∃ v,e=.returned v∧Own .u32 81 w.heap.size w' v (aa (a+b))∧Below w.heap.size w w':=by
 obtain⟨i0,hi,hz0,hz1,hz2⟩:=info_parts Tryz.info81;obtain⟨p1,c1,rfl,r1⟩:=h1.gen;obtain⟨p2,c2,rfl,r2⟩:=h2.gen;have hx:=aS a;have hy:=aS b;have hva:=aB a;have hvb:=aB b;generalize aa a=xs at *;generalize aa b=ys at *;obtain ⟨HR1,HR2,HX,HY,HVA,HVB,HO0⟩:=fK r1 r2 hx hy hva hvb (World.ownsRow_nil w w.heap.size 81 1);clear h1 h2 r1 r2 hx hy hva hvb;go_enter func131,ntmps131
 go_wp2;go_loopw [5,6,7,8] (fun v cc ii _ wr=>∃ (i k:Nat) (os:List Nat),i≤xs.length+ys.length+1∧ii=.int .i64 i∧cc=.int .u32 (k:Int)∧(k=0∨i≤xs.length∨i≤ys.length)∧os.length=i∧Hid (wr.ownsRow w.heap.size 81 1 v os.length (cls .u32 os))∧Hid (dh xs ys os i k)∧Hid (Below w.heap.size w wr)) (fun _ _ ii _ _=>xs.length+ys.length+2-(intOf ii).toNat)
 case atStart=>exact⟨0,0,[],by omega,rfl,rfl,Or.inl rfl,rfl,HO0,dh.start xs ys,Below.refl _ _⟩
 case round =>
  obtain⟨i,k,os,hiM,rfl,rfl,hki,hol,ho,hI,hn⟩:=hrel;have hk1:k≤1:=hI.o.2.2.1;have hst:=hI.o.step (iy HX.o i) (iy HY.o i);have i1:(i:Int)≤200001:=by omega
  have hol2:os.length≤200001:=by omega
  by_cases hxi:i<xs.length
  · by_cases hyi:i<ys.length
    · obtain⟨b1,o1,rfl,hb1,hc1⟩:=HR1.o i hxi
      have hcx:=(hn.o.cell (p:=⟨b1,o1+i,none⟩) hb1).trans hc1;have hxB:=iy HX.o i;have j1:(i:Int)<(xs.length:Int):=by omega
      have d1:decide ((i:Int)<(xs.length:Int))=true:=decide_eq_true j1;obtain⟨b2,o2,rfl,hb2,hc2⟩:=HR2.o i hyi;have hcy:=(hn.o.cell (p:=⟨b2,o2+i,none⟩) hb2).trans hc2;have hyB:=iy HY.o i;have j2:(i:Int)<(ys.length:Int):=by omega
      have d2:decide ((i:Int)<(ys.length:Int))=true:=decide_eq_true j2;have HST:=hid hst;clear hst hI hb1 hc1 hb2 hc2;generalize xs.getD i 0=x at *;rw[aG]at hxB;have hx9:(x:Int)≤999999999:=by omega
      generalize ys.getD i 0=y at *;rw[aG]at hyB;have hy9:(y:Int)≤999999999:=by omega
      obtain⟨lo,hlo⟩:∃ lo:Nat,lo=(x+y+k)%BB:=⟨_,rfl⟩;obtain⟨hc,hhc⟩:∃ hc:Nat,hc=(x+y+k) / BB:=⟨_,rfl⟩;have HST2:=hid (show dh xs ys (os++[lo]) (i+1) hc by rw[hlo,hhc];exact HST.o);have hmod:((k:Int)+(x:Int)+(y:Int))%1000000000=(lo:Int):=by rw[hlo,aG];omega
      have hdiv:((k:Int)+(x:Int)+(y:Int)) / 1000000000=(hc:Int):=by rw[hhc,aG];omega
      have hk9:(k:Int)≤1:=by omega
      clear hlo hhc HST hxB hyB hk1;go_wp2_with (at_builtin;refine wpList_append_own _ rfl _ _ 45 rfl w.heap.size 81 i0 (.int .u32 0) 1 4 underlying45 hi hz0 hz1 hz2 rfl (by decide) _ _ _ rfl (ho.o.alloc _) ⟨wr.heap.size,0,none⟩ 1 1 [.int .u32 (lo:Int)] rfl rfl (cells_one _ _ _) (by intro u hu;simp at hu;subst hu;rfl) (by unfold maxLen;omega) (by omega) (by have:=hn.o.size;simp;omega) ?_)
      intro v' w1 hown' hgrow _;have HO:=hid hown';have HN:=hid ((hn.o.alloc hn.o.size _).grown hgrow (by have:=hn.o.size;simp;omega) (fun k hk=>(ho.o.lt k hk).1));clear hown' hgrow;go_wp2;go_roundw
      case rel=>exact⟨i+1,hc,os++[lo],by omega,by go_num,by first|rfl|exact cK hdiv|simp,Or.inr (Or.inl (by omega)),by simp[hol],by have:=HO.o;rw[cu,List.length_append,hol];exact this,HST2,HN⟩
      case measure=>simp[intOf];omega
    · obtain⟨b1,o1,rfl,hb1,hc1⟩:=HR1.o i hxi
      have hcx:=(hn.o.cell (p:=⟨b1,o1+i,none⟩) hb1).trans hc1;have hxB:=iy HX.o i;have j1:(i:Int)<(xs.length:Int):=by omega
      have d1:decide ((i:Int)<(xs.length:Int))=true:=decide_eq_true j1;have d2:decide ((i:Int)<(ys.length:Int))=false:=decide_eq_false (by omega);rw[jZ (xs:=ys) (by omega)]at hst;have HST:=hid hst;clear hst hI hb1 hc1;generalize xs.getD i 0=x at *;rw[aG]at hxB;have hx9:(x:Int)≤999999999:=by omega
      obtain⟨lo,hlo⟩:∃ lo:Nat,lo=(x+0+k)%BB:=⟨_,rfl⟩;obtain⟨hc,hhc⟩:∃ hc:Nat,hc=(x+0+k) / BB:=⟨_,rfl⟩;have HST2:=hid (show dh xs ys (os++[lo]) (i+1) hc by rw[hlo,hhc];exact HST.o);have hmod:((k:Int)+(x:Int))%1000000000=(lo:Int):=by rw[hlo,aG];omega
      have hdiv:((k:Int)+(x:Int)) / 1000000000=(hc:Int):=by rw[hhc,aG];omega
      have hk9:(k:Int)≤1:=by omega
      clear hlo hhc HST hxB hk1;go_wp2_with (at_builtin;refine wpList_append_own _ rfl _ _ 45 rfl w.heap.size 81 i0 (.int .u32 0) 1 4 underlying45 hi hz0 hz1 hz2 rfl (by decide) _ _ _ rfl (ho.o.alloc _) ⟨wr.heap.size,0,none⟩ 1 1 [.int .u32 (lo:Int)] rfl rfl (cells_one _ _ _) (by intro u hu;simp at hu;subst hu;rfl) (by unfold maxLen;omega) (by omega) (by have:=hn.o.size;simp;omega) ?_)
      intro v' w1 hown' hgrow _;have HO:=hid hown';have HN:=hid ((hn.o.alloc hn.o.size _).grown hgrow (by have:=hn.o.size;simp;omega) (fun k hk=>(ho.o.lt k hk).1));clear hown' hgrow;go_wp2;go_roundw
      case rel=>exact⟨i+1,hc,os++[lo],by omega,by go_num,by first|rfl|exact cK hdiv|simp,Or.inr (Or.inl (by omega)),by simp[hol],by have:=HO.o;rw[cu,List.length_append,hol];exact this,HST2,HN⟩
      case measure=>simp[intOf];omega
  · by_cases hyi:i<ys.length
    · have d1:decide ((i:Int)<(xs.length:Int))=false:=decide_eq_false (by omega)
      rw[jZ (xs:=xs) (by omega)]at hst;obtain⟨b2,o2,rfl,hb2,hc2⟩:=HR2.o i hyi;have hcy:=(hn.o.cell (p:=⟨b2,o2+i,none⟩) hb2).trans hc2;have hyB:=iy HY.o i;have j2:(i:Int)<(ys.length:Int):=by omega
      have d2:decide ((i:Int)<(ys.length:Int))=true:=decide_eq_true j2;have HST:=hid hst;clear hst hI hb2 hc2;generalize ys.getD i 0=y at *;rw[aG]at hyB;have hy9:(y:Int)≤999999999:=by omega
      obtain⟨lo,hlo⟩:∃ lo:Nat,lo=(0+y+k)%BB:=⟨_,rfl⟩;obtain⟨hc,hhc⟩:∃ hc:Nat,hc=(0+y+k) / BB:=⟨_,rfl⟩;have HST2:=hid (show dh xs ys (os++[lo]) (i+1) hc by rw[hlo,hhc];exact HST.o);have hmod:((k:Int)+(y:Int))%1000000000=(lo:Int):=by rw[hlo,aG];omega
      have hdiv:((k:Int)+(y:Int)) / 1000000000=(hc:Int):=by rw[hhc,aG];omega
      have hk9:(k:Int)≤1:=by omega
      clear hlo hhc HST hyB hk1;go_wp2_with (at_builtin;refine wpList_append_own _ rfl _ _ 45 rfl w.heap.size 81 i0 (.int .u32 0) 1 4 underlying45 hi hz0 hz1 hz2 rfl (by decide) _ _ _ rfl (ho.o.alloc _) ⟨wr.heap.size,0,none⟩ 1 1 [.int .u32 (lo:Int)] rfl rfl (cells_one _ _ _) (by intro u hu;simp at hu;subst hu;rfl) (by unfold maxLen;omega) (by omega) (by have:=hn.o.size;simp;omega) ?_)
      intro v' w1 hown' hgrow _;have HO:=hid hown';have HN:=hid ((hn.o.alloc hn.o.size _).grown hgrow (by have:=hn.o.size;simp;omega) (fun k hk=>(ho.o.lt k hk).1));clear hown' hgrow;go_wp2;go_roundw
      case rel=>exact⟨i+1,hc,os++[lo],by omega,by go_num,by first|rfl|exact cK hdiv|simp,Or.inr (Or.inr (by omega)),by simp[hol],by have:=HO.o;rw[cu,List.length_append,hol];exact this,HST2,HN⟩
      case measure=>simp[intOf];omega
    · by_cases hk0:k=0
      · subst hk0
        have d1:decide ((i:Int)<(xs.length:Int))=false:=decide_eq_false (by omega);have d2:decide ((i:Int)<(ys.length:Int))=false:=decide_eq_false (by omega);obtain⟨hv,hB⟩:=hI.o.end0 (by omega) (by omega);have htr:=gM 81 w.heap.size _ os hB wr ho.o;rw[hv,HVA.o,HVB.o]at htr;have HTR:=hid htr;clear hst hv hB htr hI;go_wp2_with fail
        refine HTR.o.mono ?_;rintro e w2 ⟨v',rfl,hown,rfl⟩;go_wp2;go_ret
        exact⟨v',rfl,hown,hn.o⟩
      · have d1:decide ((i:Int)<(xs.length:Int))=false:=decide_eq_false (by omega)
        rw[jZ (xs:=xs) (by omega)]at hst;have d2:decide ((i:Int)<(ys.length:Int))=false:=decide_eq_false (by omega);rw[jZ (xs:=ys) (by omega)]at hst;obtain rfl:k=1:=by omega
        have HST:=hid hst;clear hst hI;obtain⟨lo,hlo⟩:∃ lo:Nat,lo=(0+0+1)%BB:=⟨_,rfl⟩;obtain⟨hc,hhc⟩:∃ hc:Nat,hc=(0+0+1) / BB:=⟨_,rfl⟩;have HST2:=hid (show dh xs ys (os++[lo]) (i+1) hc by rw[hlo,hhc];exact HST.o);have hlo1:lo=1:=by rw[hlo,aG]
        have hhc0:hc=0:=by rw[hhc,aG]
        subst hlo1 hhc0;clear hlo hhc HST;go_wp2_with (at_builtin;refine wpList_append_own _ rfl _ _ 45 rfl w.heap.size 81 i0 (.int .u32 0) 1 4 underlying45 hi hz0 hz1 hz2 rfl (by decide) _ _ _ rfl (ho.o.alloc _) ⟨wr.heap.size,0,none⟩ 1 1 [.int .u32 1] rfl rfl (cells_one _ _ _) (by intro u hu;simp at hu;subst hu;rfl) (by unfold maxLen;omega) (by omega) (by have:=hn.o.size;simp;omega) ?_)
        intro v' w1 hown' hgrow _;have HO:=hid hown';have HN:=hid ((hn.o.alloc hn.o.size _).grown hgrow (by have:=hn.o.size;simp;omega) (fun k hk=>(ho.o.lt k hk).1));clear hown' hgrow;go_wp2;go_roundw
        case rel=>exact⟨i+1,0,os++[1],by omega,by go_num,by first|rfl|exact cK hdiv|simp,Or.inl rfl,by simp[hol],by have:=HO.o;rw[cu,List.length_append,hol];exact this,HST2,HN⟩
        case measure=>simp[intOf];omega
open Go.Lib (hid)
theorem ze (v1 v2:Value)(a b:Nat)(hab:b≤a)(hla:(aa a).length≤100000)(w:World)(h1:Rd .u32 w v1 (aa a))(h2:Rd .u32 w v2 (aa b)) :
 Calls Tryz.prog 132 #[v1,v2] w fun e w'=>∃ v,e=.returned v∧Own .u32 81 w.heap.size w' v (aa (a-b))∧Below w.heap.size w w':=by
 obtain⟨i0,hi,hz0,hz1,hz2⟩:=info_parts Tryz.info81;have hlb:=aO hab;obtain⟨p1,c1,rfl,r1⟩:=h1.gen;obtain⟨p2,c2,rfl,r2⟩:=h2.gen;have hx:=aS a;have hy:=aS b;have hva:=aB a;have hvb:=aB b;generalize aa a=xs at *;generalize aa b=ys at *;obtain ⟨HR1,HR2,HX,HY,HVA,HVB,HAB,HO0⟩:=eO r1 r2 hx hy hva hvb hab (World.ownsRow_nil w w.heap.size 81 1);clear h1 h2 r1 r2 hx hy hva hvb hab;go_enter func132,ntmps132
 go_wp2;go_loopw [5,6,7,8] (fun v cc ii _ wr=>∃ (i k:Nat) (os:List Nat),i≤xs.length∧ii=.int .i64 i∧cc=.int .i64 (k:Int)∧os.length=i∧Hid (wr.ownsRow w.heap.size 81 1 v os.length (cls .u32 os))∧Hid (eB xs ys os i k)∧Hid (Below w.heap.size w wr)) (fun _ _ ii _ _=>xs.length-(intOf ii).toNat)
 case atStart=>exact⟨0,0,[],by omega,rfl,rfl,rfl,HO0,eB.start xs ys,Below.refl _ _⟩
 case round =>
  obtain⟨i,k,os,hiM,rfl,rfl,hol,ho,hI,hn⟩:=hrel;have hk1:k≤1:=hI.o.2.2.1;have hk9:(k:Int)≤1:=by omega
  by_cases hxi:i<xs.length
  · obtain⟨b1,o1,rfl,hb1,hc1⟩:=HR1.o i hxi
    have hcx:=(hn.o.cell (p:=⟨b1,o1+i,none⟩) hb1).trans hc1;have hxB:=iy HX.o i;have hyB:=iy HY.o i;have j1:(i:Int)<(xs.length:Int):=by omega
    have d1:decide ((i:Int)<(xs.length:Int))=true:=decide_eq_true j1;have hsm:=hI.o.small hxB;have hbg:=hI.o.big hyB;have hol2:os.length≤100000:=by omega
    have i1:(i:Int)≤100000:=by omega
    clear hb1 hc1 hI;by_cases hyi:i<ys.length
    · obtain⟨b2,o2,rfl,hb2,hc2⟩:=HR2.o i hyi
      have hcy:=(hn.o.cell (p:=⟨b2,o2+i,none⟩) hb2).trans hc2;have j2:(i:Int)<(ys.length:Int):=by omega
      have d2:decide ((i:Int)<(ys.length:Int))=true:=decide_eq_true j2;clear hb2 hc2;generalize xs.getD i 0=x at *;generalize ys.getD i 0=y at *;rw[aG]at hxB hyB;have hx9:(x:Int)≤999999999:=by omega
      have hy9:(y:Int)≤999999999:=by omega
      clear hxB hyB;by_cases hng:x<y+k
      · obtain⟨lo,hlo⟩:∃ lo:Nat,lo=x+BB-(y+k):=⟨_,rfl⟩
        have HST:=hid (show eB xs ys (os++[lo]) (i+1) 1 by rw[hlo];exact hbg (by omega));have hval:(x:Int)-(k:Int)-(y:Int)+1000000000=(lo:Int):=by rw[hlo,aG];omega
        have hneg:(x:Int)-(k:Int)-(y:Int)<0:=by omega
        have hlo9:(lo:Int)≤999999999:=by rw[aG]at hlo;omega
        clear hlo hsm hbg hng;go_wp2_with (at_builtin;refine wpList_append_own _ rfl _ _ 45 rfl w.heap.size 81 i0 (.int .u32 0) 1 4 underlying45 hi hz0 hz1 hz2 rfl (by decide) _ _ _ rfl (ho.o.alloc _) ⟨wr.heap.size,0,none⟩ 1 1 [.int .u32 (lo:Int)] rfl rfl (cells_one _ _ _) (by intro u hu;simp at hu;subst hu;rfl) (by unfold maxLen;omega) (by omega) (by have:=hn.o.size;simp;omega) ?_)
        intro v' w1 hown' hgrow _;have HO:=hid hown';have HN:=hid ((hn.o.alloc hn.o.size _).grown hgrow (by have:=hn.o.size;simp;omega) (fun k hk=>(ho.o.lt k hk).1));clear hown' hgrow;go_wp2;go_roundw
        case rel=>exact⟨i+1,1,os++[lo],by omega,by go_num,rfl,by simp[hol],by have:=HO.o;rw[cu,List.length_append,hol];exact this,HST,HN⟩
        case measure=>simp[intOf];omega
      · obtain⟨lo,hlo⟩:∃ lo:Nat,lo=x-(y+k):=⟨_,rfl⟩
        have HST:=hid (show eB xs ys (os++[lo]) (i+1) 0 by rw[hlo];exact hsm (by omega));have hval:(x:Int)-(k:Int)-(y:Int)=(lo:Int):=by rw[hlo];omega
        have hneg:decide ((lo:Int)<0)=false:=decide_eq_false (by omega);have hlo9:(lo:Int)≤999999999:=by omega
        clear hlo hsm hbg hng;go_wp2_with (at_builtin;refine wpList_append_own _ rfl _ _ 45 rfl w.heap.size 81 i0 (.int .u32 0) 1 4 underlying45 hi hz0 hz1 hz2 rfl (by decide) _ _ _ rfl (ho.o.alloc _) ⟨wr.heap.size,0,none⟩ 1 1 [.int .u32 (lo:Int)] rfl rfl (cells_one _ _ _) (by intro u hu;simp at hu;subst hu;rfl) (by unfold maxLen;omega) (by omega) (by have:=hn.o.size;simp;omega) ?_)
        intro v' w1 hown' hgrow _;have HO:=hid hown';have HN:=hid ((hn.o.alloc hn.o.size _).grown hgrow (by have:=hn.o.size;simp;omega) (fun k hk=>(ho.o.lt k hk).1));clear hown' hgrow;go_wp2;go_roundw
        case rel=>exact⟨i+1,0,os++[lo],by omega,by go_num,rfl,by simp[hol],by have:=HO.o;rw[cu,List.length_append,hol];exact this,HST,HN⟩
        case measure=>simp[intOf];omega
    · have d2:decide ((i:Int)<(ys.length:Int))=false:=decide_eq_false (by omega)
      rw[jZ (xs:=ys) (by omega)]at hsm hbg;clear hyB;generalize xs.getD i 0=x at *;rw[aG]at hxB;have hx9:(x:Int)≤999999999:=by omega
      clear hxB;by_cases hng:x<0+k
      · obtain⟨lo,hlo⟩:∃ lo:Nat,lo=x+BB-(0+k):=⟨_,rfl⟩
        have HST:=hid (show eB xs ys (os++[lo]) (i+1) 1 by rw[hlo];exact hbg (by omega));have hval:(x:Int)-(k:Int)+1000000000=(lo:Int):=by rw[hlo,aG];omega
        have hneg:(x:Int)-(k:Int)<0:=by omega
        have hlo9:(lo:Int)≤999999999:=by rw[aG]at hlo;omega
        clear hlo hsm hbg hng;go_wp2_with (at_builtin;refine wpList_append_own _ rfl _ _ 45 rfl w.heap.size 81 i0 (.int .u32 0) 1 4 underlying45 hi hz0 hz1 hz2 rfl (by decide) _ _ _ rfl (ho.o.alloc _) ⟨wr.heap.size,0,none⟩ 1 1 [.int .u32 (lo:Int)] rfl rfl (cells_one _ _ _) (by intro u hu;simp at hu;subst hu;rfl) (by unfold maxLen;omega) (by omega) (by have:=hn.o.size;simp;omega) ?_)
        intro v' w1 hown' hgrow _;have HO:=hid hown';have HN:=hid ((hn.o.alloc hn.o.size _).grown hgrow (by have:=hn.o.size;simp;omega) (fun k hk=>(ho.o.lt k hk).1));clear hown' hgrow;go_wp2;go_roundw
        case rel=>exact⟨i+1,1,os++[lo],by omega,by go_num,rfl,by simp[hol],by have:=HO.o;rw[cu,List.length_append,hol];exact this,HST,HN⟩
        case measure=>simp[intOf];omega
      · obtain⟨lo,hlo⟩:∃ lo:Nat,lo=x-(0+k):=⟨_,rfl⟩
        have HST:=hid (show eB xs ys (os++[lo]) (i+1) 0 by rw[hlo];exact hsm (by omega));have hval:(x:Int)-(k:Int)=(lo:Int):=by rw[hlo];omega
        have hneg:decide ((lo:Int)<0)=false:=decide_eq_false (by omega);have hlo9:(lo:Int)≤999999999:=by omega
        clear hlo hsm hbg hng;go_wp2_with (at_builtin;refine wpList_append_own _ rfl _ _ 45 rfl w.heap.size 81 i0 (.int .u32 0) 1 4 underlying45 hi hz0 hz1 hz2 rfl (by decide) _ _ _ rfl (ho.o.alloc _) ⟨wr.heap.size,0,none⟩ 1 1 [.int .u32 (lo:Int)] rfl rfl (cells_one _ _ _) (by intro u hu;simp at hu;subst hu;rfl) (by unfold maxLen;omega) (by omega) (by have:=hn.o.size;simp;omega) ?_)
        intro v' w1 hown' hgrow _;have HO:=hid hown';have HN:=hid ((hn.o.alloc hn.o.size _).grown hgrow (by have:=hn.o.size;simp;omega) (fun k hk=>(ho.o.lt k hk).1));clear hown' hgrow;go_wp2;go_roundw
        case rel=>exact⟨i+1,0,os++[lo],by omega,by go_num,rfl,by simp[hol],by have:=HO.o;rw[cu,List.length_append,hol];exact this,HST,HN⟩
        case measure=>simp[intOf];omega
  · have d1:decide ((i:Int)<(xs.length:Int))=false:=decide_eq_false (by omega)
    obtain rfl:i=xs.length:=by omega
    obtain⟨hv,hB⟩:=hI.o.done hlb (by rw[HVA.o,HVB.o];exact HAB.o);have htr:=gM 81 w.heap.size _ os hB wr ho.o;rw[hv,HVA.o,HVB.o]at htr;have HTR:=hid htr;clear hv hB htr hI;go_wp2_with fail
    refine HTR.o.mono ?_;rintro e w2 ⟨v',rfl,hown,rfl⟩;go_wp2;go_ret
    exact⟨v',rfl,hown,hn.o⟩
