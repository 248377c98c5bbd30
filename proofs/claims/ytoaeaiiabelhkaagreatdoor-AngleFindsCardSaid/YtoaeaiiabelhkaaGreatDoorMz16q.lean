/- texts -/
import Derived.Test.YtoaeaiiabelhkaaGreatDoorMz8q
open Go.Proofs.Tryz
set_option maxRecDepth 100000
set_option maxHeartbeats 20000000
open Go.Lib (hid)
namespace Go.Proofs.YtoaeaiiabelhkaaGreatDoor
open Go.RowKit Go.Gb
theorem uN (x0 y0:Nat)(hx:x0<1000000000000000000)(hy:y0<1000000000000000000)(I:Nat→Nat→Nat→Nat→Nat→Nat→Bool→Prop)(h0:I x0 y0 1 0 0 1 false)
 (hstep:∀ x y a b c d o,0<y→iI x0 y0 x y a b c d o→I x y a b c d o→I y (x%y) c d (a+x / y*c) (b+x / y*d) (!o)) (w:World) :
 Calls Tryz.prog 174 #[.int .u64 (x0:Int),.int .u64 (y0:Int)] w fun e w'=>∃ (a b c d:Nat) (o:Bool),e=.returned (.tuple #[.int .u64 ((Nat.gcd x0 y0:Nat):Int),Stp a b c d o])∧(iI x0 y0 (Nat.gcd x0 y0) 0 a b c d o∧I (Nat.gcd x0 y0) 0 a b c d o)∧Below w.heap.size w w':=by
 have hs0:Sb ((w.alloc (.cells #[.int .u64 0,.int .u64 0,.int .u64 0,.int .u64 0,.bool false] 187)).alloc (.cells #[.int .u64 1,.int .u64 0,.int .u64 0,.int .u64 1,.bool false] 187)) (w.heap.size+1) 1 0 0 1 false:=by
  unfold Sb
  have:=heap_alloc_new (w.alloc (.cells #[.int .u64 0,.int .u64 0,.int .u64 0,.int .u64 0,.bool false] 187)) (.cells #[.int .u64 1,.int .u64 0,.int .u64 0,.int .u64 1,.bool false] 187);rw[World.size_alloc]at this;exact this
 have hr0:Sb ((w.alloc (.cells #[.int .u64 0,.int .u64 0,.int .u64 0,.int .u64 0,.bool false] 187)).alloc (.cells #[.int .u64 1,.int .u64 0,.int .u64 0,.int .u64 1,.bool false] 187)) w.heap.size 0 0 0 0 false:=by
  unfold Sb
  rw[Below.heap_alloc _ _ _ (by simp),heap_alloc_new];rfl
 have HS0:=hid hs0;have HR0:=hid hr0;have HN0:=hid (((Below.refl w.heap.size w).alloc (Nat.le_refl _) (.cells #[.int .u64 0,.int .u64 0,.int .u64 0,.int .u64 0,.bool false] 187)).alloc (by simp) (.cells #[.int .u64 1,.int .u64 0,.int .u64 0,.int .u64 1,.bool false] 187));have HI0:=hid h0;have HI:=hid hstep;clear h0 hstep;have HX:=hid hx;have HY:=hid hy;clear hs0 hr0 hx hy;go_enter func174,ntmps174
 go_wp2;go_loopw [0,1] (fun xx yy wr=>∃ (x y a b c d:Nat) (o:Bool),xx=.int .u64 (x:Int)∧yy=.int .u64 (y:Int)∧Hid (iI x0 y0 x y a b c d o∧I x y a b c d o)∧Hid (x≤1000000000000000000∧y≤1000000000000000000)∧Hid (Sb wr (w.heap.size+1) a b c d o)∧Hid (Sb wr w.heap.size 0 0 0 0 false)∧Hid (Below w.heap.size w wr)) (fun _ yy _=>(intOf yy).toNat)
 case atStart=>exact⟨x0,y0,1,0,0,1,false,rfl,rfl,⟨iI.start x0 y0,HI0.o⟩,⟨Nat.le_of_lt HX.o,Nat.le_of_lt HY.o⟩,HS0,HR0,HN0⟩
 case round =>
  obtain⟨x,y,a,b,c,d,o,rfl,rfl,hE,hxy,hS,hR,hn⟩:=hrel;clear HS0 HR0 HN0 HI0;by_cases hy0:0<y
  · have hbd:=hE.o.1.step.bound hy0
    have h1:a+x / y*c≤2000000000000000000:=by have:=HY.o;omega
    have h2:b+x / y*d≤2000000000000000000:=by have:=HX.o;omega
    obtain⟨a',ha'⟩:∃ a':Nat,a'=a+x / y*c:=⟨_,rfl⟩;obtain⟨b',hb'⟩:∃ b':Nat,b'=b+x / y*d:=⟨_,rfl⟩;have hW:=hid (show CQ 201 #[.agg #[.int .u64 (a:Int),.int .u64 (b:Int),.int .u64 (c:Int),.int .u64 (d:Int),.bool o],.int .u64 ((x:Int) / (y:Int))] (.agg #[.int .u64 (c:Int),.int .u64 (d:Int),.int .u64 (a':Int),.int .u64 (b':Int),.bool (!o)]) from fun W=>by rw[ha',hb'];exact qH a b c d (x / y) o h1 h2 W);obtain ⟨HA',HB'⟩:=aB ha' hb';clear ha' hb';obtain⟨c0,c1,c2,c3,c4⟩:=bF hS.o;have hS':=hid (show Sb wr.drew (w.heap.size+1) a b c d o from hS.o);have y1:(1:Int)≤(y:Int):=by omega
    have yz:((y:Int)==0)=false:=beq_eq_false_iff_ne.2 (by omega);have hq64:x / y<18446744073709551616:=Nat.lt_of_le_of_lt (Nat.div_le_self x y) (by have:=hxy.o.1;omega);have hwq:IntKind.u64.wrap ((x:Int) / (y:Int))=(x:Int) / (y:Int):=IntWalk.u64_in _ ⟨Int.natCast_nonneg (x / y),by have:=(Int.ofNat_lt.2 hq64);omega⟩;have htm:(x:Int).tmod (y:Int)=(x:Int)%(y:Int):=rfl;clear hq64 h1 h2 hbd;go_wp2;go_region_with (go_at_call 201;go_must (refine(hW.o _).mono ?_;rintro e w1 ⟨rfl,hb1⟩;obtain⟨s0,s1,s2,s3,s4⟩:=bF (bI hS'.o hb1);have f0:=bi (bI hS'.o hb1) 0;have f1:=bi (bI hS'.o hb1) 1;have f2:=bi (bI hS'.o hb1) 2;have f3:=bi (bI hS'.o hb1) 3;have f4:=bi (bI hS'.o hb1) 4))
    all_goals
        have hS1:=bI hS'.o hb1;have hR1:=bI (show Sb wr.drew w.heap.size 0 0 0 0 false from hR.o) hb1;have hS2:=hid (fU hS1 c d a' b' (!o));have hR2:=hid (dN (g:=w.heap.size+1) hR1 (by omega) c d a' b' (!o));have hn2:=hid (dB (hn.o.drew.trans (hb1.mono (show w.heap.size≤wr.drew.heap.size from hn.o.size))) (g:=w.heap.size+1) (by omega) c d a' b' (!o));have hE2:=(⟨hE.o.1.step,HI.o _ _ _ _ _ _ _ hy0 hE.o.1 hE.o.2⟩:_∧_);rw[← HA'.o,← HB'.o]at hE2;obtain ⟨HE2,hlt,hmd⟩:=ak hE2 (Nat.mod_lt x hy0) (Nat.mod_le x y);clear hS1 hR1 hE2 s0 s1 s2 s3 s4 f0 f1 f2 f3 f4 hb1 hS' hW c0 c1 c2 c3 c4 hwq;change Exit.then _ _ Exit.normal _ (set5 w1 (w.heap.size+1) c d a' b' (!o));generalize set5 w1 (w.heap.size+1) c d a' b' (!o)=w2 at *;have hxm:(x:Int)%(y:Int)=((x%y:Nat):Int):=rfl;have hmw:IntKind.u64.wrap (((x%y:Nat):Int))=((x%y:Nat):Int):=IntWalk.u64_in _ (by have:=hxy.o.1;have:=hmd.o;omega);obtain⟨r,hr⟩:∃ r:Nat,r=x%y:=⟨_,rfl⟩;rw[← hr]at hxm hmw;have HRr:=hid hr;clear hr;go_wp2;go_quiet (fail)
        have hn3:=hid (below_drewN' hn2.o nq);have hS3:=hid (show Sb (w2.drewN nq) (w.heap.size+1) c d a' b' (!o) from hS2.o);have hR3:=hid (show Sb (w2.drewN nq) w.heap.size 0 0 0 0 false from hR2.o);go_wp2;go_roundw
        case rel=>exact⟨y,r,c,d,a',b',!o,rfl,rfl,by rw[HRr.o];exact HE2,⟨hxy.o.2,by have:=hxy.o.2;have:=hlt.o;rw[HRr.o];omega⟩,hS3,hR3,hn3⟩
        case measure=>simp[intOf];have:=hlt.o;have:=HRr.o;omega
  · have hy1:y=0:=by omega
    subst hy1;have hg:=hE.o.1.2.2.1;rw[Nat.gcd_zero_right]at hg;have HG:=hid hg;clear hg;have f0:=bi hR.o 0;have f1:=bi hR.o 1;have f2:=bi hR.o 2;have f3:=bi hR.o 3;have f4:=bi hR.o 4;obtain⟨r0,r1,r2,r3,r4⟩:=bF hR.o;obtain⟨c0,c1,c2,c3,c4⟩:=bF hS.o;go_wp2;go_region
    have hS2:=hid (show Sb (set5 wr w.heap.size a b c d o).drew w.heap.size a b c d o from fU hR.o a b c d o);have hn2:=hid (Below.drew (dB hn.o (g:=w.heap.size) (Nat.le_refl _) a b c d o));clear f0 f1 f2 f3 f4 r0 r1 r2 r3 r4 c0 c1 c2 c3 c4;change Exit.then _ _ Exit.normal _ (set5 wr w.heap.size a b c d o).drew;generalize (set5 wr w.heap.size a b c d o).drew=w2 at *;obtain⟨c0,c1,c2,c3,c4⟩:=bF hS2.o;go_wp2;refine bodyPost_ret (v:=.tuple #[.int .u64 (x:Int),Stp a b c d o]) (by simp[results,results174,go_sem,Stp,c0,c1,c2,c3,c4]) rfl ⟨a,b,c,d,o,by rw[HG.o],?_,hn2.o⟩;have:=hE.o;rw[HG.o]at this;exact this
open Go.Lib (hid)
theorem Tryz.info82:(Tryz.prog.info? 82).map (fun i=>(i.zero,i.size,i.bytes))=some (some (.int .u32 0),1,4):=by kernel_rfl
theorem lJ (b o c:Nat)(xs:List Nat)(hB:∀ x∈xs,x<BB)(hxc:xs.length≤c)(hcm:c≤maxLen)(w:World)
 (hc:∀ i,i<xs.length→w.cell? ⟨b,o+i,none⟩=some (.int .u32 ((xs.getD i 0:Nat):Int))) :
 Calls Tryz.prog 87 #[.slice (some ⟨b,o,none⟩) xs.length c] w fun e w'=>e=.returned (.slice (some ⟨b,o,none⟩) (ae (ai xs)).length c)∧w=w':=by
 unfold maxLen at hcm
 have HC:=hid hc;have HB:=hid hB;clear hc hB;go_enter func87,ntmps87
 go_wp2;go_loop [0] (fun x=>∃ n:Nat,n≤c∧x=.slice (some ⟨b,o,none⟩) n c∧Zs xs n) (fun x=>match x with | .slice _ n _=>n|_=>0)
 case atStart=>exact⟨xs.length,hxc,rfl,Zs.start xs⟩
 case round =>
  obtain⟨n,hn,rfl,hz⟩:=hrel;by_cases h0:n=0
  · have HF:=hid (hz.fin HB.o (Or.inl h0))
    subst h0;go_wp2;go_ret
    exact⟨kK HF.o,rfl⟩
  · have hp:0<n:=by omega
    have hcell:=HC.o (n-1) (by have:=hz.1;omega);by_cases hd:xs.getD (n-1) 0=0
    · rw[hd]at hcell
      have hz':=hz.step hd;clear hd;go_wp2;go_round
      case rel=>exact⟨n-1,by omega,rfl,hz'⟩
      case measure=>simp;omega
    · have HF:=hid (hz.fin HB.o (Or.inr hd))
      obtain⟨d,hdd⟩:∃ d,d=xs.getD (n-1) 0:=⟨_,rfl⟩;rw[← hdd]at hcell hd;have hb:((d:Int)==0)=false:=by simpa using hd
      have hd':0<d:=by omega
      clear hd hdd;go_wp2;go_ret
      exact⟨kK HF.o,rfl⟩
theorem gM (k:TypeId)(B:Nat)(v:Value)(xs:List Nat)(hB:∀ x∈xs,x<BB)(w:World)(h:Gb.Own .u32 k B w v xs) :
 Calls Tryz.prog 87 #[v] w fun e w'=>∃ v',e=.returned v'∧Gb.Own .u32 k B w v' (ae (ai xs))∧w=w':=by
 have hd:xs.take (ae (ai xs)).length=ae (ai xs)∧(ae (ai xs)).length≤xs.length:=by
  have hlen:(ae (ai xs)).length≤xs.length:=bL (dS xs hB);refine⟨?_,hlen⟩;generalize hm:(ae (ai xs)).length=m at hlen
  have key:∀ (n:Nat),Zs xs n→ae (ai xs)=xs.take (ae (ai xs)).length:=by
   intro n
   induction n with
   | zero=>intro hz;have e:=gV hz.1 hB hz.2 (Or.inl rfl);have:=hz.fin hB (Or.inl rfl);rw[← this];exact e
   | succ n ih =>
     intro hz;by_cases h0:xs.getD n 0=0
     · exact ih (by have:=hz.step (by simpa using h0);simpa using this)
     · have e:=gV hz.1 hB hz.2 (Or.inr (by simpa using h0))
       have:=hz.fin hB (Or.inr (by simpa using h0));rw[← this];exact e
  rw[← hm];exact(key _ (Zs.start xs)).symm
 have h0:=h;obtain⟨h1,h2⟩:=h;rcases h2 with⟨rfl,h3⟩|⟨g,cap,cur,rfl,hg,hh,hn,hc,hs,ht⟩
 · obtain rfl:xs=[]:=List.length_eq_zero_iff.1 h3
   have hz:ae (ai [])=[]:=by unfold ai;exact aQ
   rw[hz];clear hd hB h0 hz;go_enter func87,ntmps87
   go_wp2;refine wp_loop_rounds 1 ?_;rw[rounds_succ];go_wp2;go_ret
   exact⟨_,rfl,Gb.Own.nil _ _ _ _,rfl⟩
 · have hrd:∀ i,i<xs.length→w.cell? ⟨g,0+i,none⟩=some (.int .u32 ((xs.getD i 0:Nat):Int)):=by
    rcases h0.rd with⟨hv,_⟩|⟨b,o,c,hv,_,_,_,h5⟩
    · injection hv with hv;cases hv
    · injection hv with e1 e2 e3
      injection e1 with e1
      injection e1 with e4 e5 e6
      subst e4 e5 e3;exact h5
   refine(lJ g 0 cap xs hB hn hc w hrd).mono fun e w' ⟨he,hw⟩=>⟨_,he,?_,hw⟩;have:=h0.take (ae (ai xs)).length hd.2;rwa [hd.1]at this
theorem gF (s:ByteArray)(w:World)(hs:s.size≤maxLen) :
 Calls Tryz.prog 48 #[.string s] w fun e w'=>e=.returned (.bool (vld s.data.toList))∧w=w':=by
 unfold maxLen at hs
 have hcase:s.size=0∨(s.size=1∨(1<s.size∧∃ h:0<s.size,((s[0].toNat:Int) != 48)=true))∨(1<s.size∧∃ h:0<s.size,((s[0].toNat:Int) != 48)=false):=by
  rcases Nat.lt_trichotomy s.size 1 with h|h|h
  · left;omega
  · right;left;left;exact h
  · have h0:0<s.size:=by omega
    by_cases hc:(s[0].toNat:Int)=48
    · right;right;exact⟨h,h0,by rw[bne_eq_false_iff_eq];exact hc⟩
    · right;left;right;exact⟨h,h0,by rw[bne_iff_ne];exact hc⟩
 rcases hcase with h0|(h1|⟨h1,h2,h3⟩)|⟨h1,h2,h3⟩
 · have HF:=hid (show vld s.data.toList=false by rw[rD h0];rfl)
   have k1:s.size≤0:=by omega
   have k2:((s.size:Int)==1)=false:=beq_eq_false_iff_ne.2 (by omega);clear h0;go_enter func48,ntmps48
   go_wp2;refine wp_loop_rounds 1 ?_;rw[rounds_succ];go_wp2;go_ret
   exact⟨dA HF.o.symm,rfl⟩
 · have k2:((s.size:Int)==1)=true:=beq_iff_eq.2 (by omega)
   have H1:=hid h1;have k3:0<s.size:=by omega
   clear h1;go_enter func48,ntmps48
   go_wp2;go_loop [3] (fun i=>∃ k:Nat,k≤s.size∧i=.int .i64 k∧alld s k) (fun i=>s.size-(intOf i).toNat)
   case atStart=>exact⟨0,Nat.zero_le _,rfl,lu s⟩
   case round =>
    obtain⟨k,hk,rfl,ha⟩:=hrel;go_wp2
    all_goals first
        | (go_round
           case rel=>exact⟨k+1,by omega,by go_num,lw ha (by assumption) (by omega) (by omega)⟩
           case measure=>simp[intOf];omega)
        | (have hlt:k<s.size:=by assumption
           go_ret
           exact⟨dA (qI hlt (by omega)).symm,rfl⟩)
        | (obtain rfl:k=s.size:=by omega
           go_ret
           exact⟨dA (vv k3 ha (Or.inl H1.o)).symm,rfl⟩)
 · have k2:((s.size:Int)==1)=false:=beq_eq_false_iff_ne.2 (by omega)
   go_enter func48,ntmps48
   go_wp2;go_loop [3] (fun i=>∃ k:Nat,k≤s.size∧i=.int .i64 k∧alld s k) (fun i=>s.size-(intOf i).toNat)
   case atStart=>exact⟨0,Nat.zero_le _,rfl,lu s⟩
   case round =>
    obtain⟨k,hk,rfl,ha⟩:=hrel;go_wp2
    all_goals first
        | (go_round
           case rel=>exact⟨k+1,by omega,by go_num,lw ha (by assumption) (by omega) (by omega)⟩
           case measure=>simp[intOf];omega)
        | (have hlt:k<s.size:=by assumption
           go_ret
           exact⟨dA (qI hlt (by omega)).symm,rfl⟩)
        | (obtain rfl:k=s.size:=by omega
           go_ret
           exact⟨dA (vv h2 ha (Or.inr (by rw[bne_iff_ne]at h3;exact h3))).symm,rfl⟩)
 · have k2:((s.size:Int)==1)=false:=beq_eq_false_iff_ne.2 (by omega)
   go_enter func48,ntmps48
   go_wp2;go_loop [3] (fun i=>∃ k:Nat,k≤s.size∧i=.int .i64 k∧alld s k) (fun i=>s.size-(intOf i).toNat)
   case atStart=>exact⟨0,Nat.zero_le _,rfl,lu s⟩
   case round =>
    obtain⟨k,hk,rfl,ha⟩:=hrel;go_wp2
    all_goals first
        | (go_round
           case rel=>exact⟨k+1,by omega,by go_num,lw ha (by assumption) (by omega) (by omega)⟩
           case measure=>simp[intOf];omega)
        | (have hlt:k<s.size:=by assumption
           go_ret
           exact⟨dA (qI hlt (by omega)).symm,rfl⟩)
        | (obtain rfl:k=s.size:=by omega
           go_ret
           exact⟨dA (xC h1 (by rw[bne_eq_false_iff_eq]at h3;exact h3)).symm,rfl⟩)
theorem z15 {s:ByteArray}(h:s.data.toList.all isD=true){a i:Nat}(hai:a≤i)(hi:i<s.size) :
 aI ((s.data.toList.drop a).take (i+1-a))=aI ((s.data.toList.drop a).take (i-a))*10+(s[i].toNat-48)∧48≤s[i].toNat∧s[i].toNat≤57:=by
 have h1:=List.all_eq_true.1 h (s.data.toList[i]'(by rw[aF];exact hi)) (List.getElem_mem _);rw[fw,fH s i hi]at h1
 have e:(s.data.toList.drop a).take (i+1-a)=(s.data.toList.drop a).take (i-a)++[s[i]]:=by
  rw[show i+1-a=(i-a)+1 by omega,List.take_succ_eq_append_getElem (by rw[List.length_drop,aF];omega)];congr 2
  rw[List.getElem_drop,← fH s i hi];congr 1
  omega
 rw[e,kZ];exact⟨rfl,h1⟩
theorem z5f {s:ByteArray}(h:s.data.toList.all isD=true)(a n:Nat)(hn:n≤8):aI ((s.data.toList.drop a).take n)<100000000:=by
 have h1:=gT ((s.data.toList.drop a).take n) (by
  rw[List.all_eq_true]at h ⊢
  exact fun c hc=>h c (List.mem_of_mem_drop (List.mem_of_mem_take hc)))
 have h2:10^((s.data.toList.drop a).take n).length≤10^8:=Nat.pow_le_pow_right (by decide) (by rw[List.length_take];omega);omega
theorem jK (s:ByteArray)(h:s.data.toList.all isD=true)(hl:s.size≤100000)(w:World) :
 Calls Tryz.prog 50 #[.string s] w fun e w'=>∃ v,e=.returned v∧Gb.Own .u32 82 w.heap.size w' v (ae (aI s.data.toList))∧Below w.heap.size w w':=by
 obtain⟨i0,hi,hz0,hz1,hz2⟩:=info_parts Tryz.info82;have H:=hid h;clear h;have HO0:=hid (World.ownsRow_nil w w.heap.size 82 1);go_enter func50,ntmps50
 go_wp2;go_loopw [3,4] (fun v ee wr=>∃ (z:Int) (os:List Nat),-9≤z∧z≤s.size∧ee=.int .i64 z∧os.length+z.toNat≤s.size∧Hid (wr.ownsRow w.heap.size 82 1 v os.length (cls .u32 os))∧Hid (gZ s.data.toList os z.toNat)∧Hid (Below w.heap.size w wr)) (fun _ ee _=>(intOf ee).toNat)
 case atStart=>exact⟨(s.size:Int),[],by omega,by omega,rfl,by simp,HO0,by have:=gZ.start s.data.toList;rw[aF]at this;exact this,Below.refl _ _⟩
 case round =>
  obtain⟨z,os,hz9,hzs,rfl,hlen,ho,hr,hn⟩:=hrel;by_cases hz:0<z
  · obtain⟨ez,rfl⟩:=Int.eq_ofNat_of_zero_le (show 0≤z by omega)
    obtain⟨a,ha⟩:∃ a:Nat,a=ez-9:=⟨_,rfl⟩;rw[Int.toNat_natCast]at hr hlen;obtain⟨hst,hbd⟩:=hr.o.step (a:=a) H.o (by rw[aF];omega) (by omega) (by omega);obtain ⟨HST,HBD⟩:=aB hst hbd;have hmx:max 0 ((ez:Int)-9)=(a:Int):=by omega
    have hae:a≤ez:=by omega
    have hea:ez≤a+9:=by omega
    have HA:=hid ha;clear hst hbd ha hr;go_wp2;obtain⟨wo,rfl⟩:∃ wo:World,wo=wr:=⟨_,rfl⟩;go_loop [5,6] (fun ww ii=>∃ i m:Nat,a≤i∧i≤ez∧ii=.int .i64 i∧ww=.int .u32 (m:Int)∧Hid (m=aI ((s.data.toList.drop a).take (i-a)))) (fun _ ii=>ez-(intOf ii).toNat)
    case atStart=>exact⟨a,0,Nat.le_refl _,hae,rfl,rfl,by rw[Nat.sub_self];rfl⟩
    case round =>
        obtain⟨i,m,hai,hie,rfl,rfl,hm⟩:=hrel;by_cases hlt:i<ez
        · obtain⟨h1,h2,h3⟩:=z15 H.o hai (show i<s.size by omega)
          have h4:m<100000000:=by rw[hm.o];exact z5f H.o a (i-a) (by omega)
          have h5:i<s.size:=by omega
          have H1:=hid h1;clear h1;have k4:(m:Int)≤99999999:=by omega
          clear h4;go_wp2;go_round
          case rel=>exact⟨i+1,m*10+(s[i].toNat-48),by omega,by omega,by go_num,by congr 1;omega,by have:=hm.o;subst this;exact H1.o.symm⟩
          case measure=>simp[intOf];omega
        · have hie2:i=ez:=by omega
          have hm':=hm.o;rw[hie2]at hm';have HM:=hid hm';clear hm hm' hie2;go_wp2_with (at_builtin;refine wpList_append_own _ rfl _ _ 45 rfl w.heap.size 82 i0 (.int .u32 0) 1 4 underlying45 hi hz0 hz1 hz2 rfl (by decide) _ _ _ rfl (ho.o.alloc _) ⟨wo.heap.size,0,none⟩ 1 1 [.int .u32 (m:Int)] rfl rfl (cells_one _ _ _) (by intro u hu;simp at hu;subst hu;rfl) (by unfold maxLen;omega) (by omega) (by have:=hn.o.size;simp;omega) ?_)
          intro v' w1 hown' hgrow _;have HO:=hid hown';have HN:=hid ((hn.o.alloc hn.o.size _).grown hgrow (by have:=hn.o.size;simp;omega) (fun k hk=>(ho.o.lt k hk).1));clear hown' hgrow;go_wp2;go_roundw
          case rel=>exact⟨(ez:Int)-9,os++[m],by omega,by omega,rfl,by simp;omega,by have:=HO.o;rw[cB,List.length_append];exact this,by rw[show((ez:Int)-9).toNat=a by have:=HA.o;omega,HM.o];exact HST,HN⟩
          case measure=>simp[intOf];omega
  · have hz0':z.toNat=0:=by omega
    have hr':=hr.o;rw[hz0']at hr';obtain⟨hB,hv⟩:=hr'.done;have htr:=gM 82 w.heap.size _ os hB wr ho.o;rw[hv]at htr;have HTR:=hid htr;clear hr' hB hv htr hz0';go_wp2_with fail
    refine HTR.o.mono ?_;rintro e w2 ⟨v',rfl,hown,rfl⟩;go_wp2;go_ret
    exact⟨v',rfl,hown,hn.o⟩
end Go.Proofs.YtoaeaiiabelhkaaGreatDoor
open Go.Lib (hid)
namespace Go.Proofs.YtoaeaiiabelhkaaGreatDoor
open Go.RowKit Go.Gb
theorem kF {k:IntKind}{a b:Int}(h:a=b):Value.int k a=.int k b:=by rw[h]
theorem z3y {d:Nat}(h:d<10):Value.int .u8 (48+(d:Int))=.int .u8 ((UInt8.ofNat (48+d)).toNat:Int):=by
 rw[fO h];exact kF (by omega)
theorem xQ {W:World}{B:Nat}{v:Value}{bs:List UInt8}{d:Nat}(hd:d<10)(h:W.ownsRow B 5 1 v (bs.length+1) (Lib.byteCells bs++[.int .u8 (48+(d:Int))])):W.ownsRow B 5 1 v (bs++[UInt8.ofNat (48+d)]).length (Lib.byteCells (bs++[UInt8.ofNat (48+d)])):=by
 rw[z3y hd]at h;rw[List.length_append,Lib.byteCells_append];exact h
theorem z3Z (b o c:Nat)(xs:List Nat)(hx:∀ x∈xs,x<BB)(hp:0<xs.length)(hlast:xs.getD (xs.length-1) 0≠0)(hl:xs.length≤10000)(w:World)(hb:b<w.heap.size)
 (hcx:∀ i,i<xs.length→w.cell? ⟨b,o+i,none⟩=some (.int .u32 ((xs.getD i 0:Nat):Int))) :
 CR 105 #[.slice (some ⟨b,o,none⟩) xs.length c] w (.string ⟨(Lib.decDigits (ai xs)).toArray⟩):=by
 obtain⟨i0,hi,hz0,hz1,hz2⟩:=info_parts Tryz.info5;obtain ⟨HX,HCX,HLA,HO0⟩:=aN hx hcx hlast (World.ownsRow_nil w w.heap.size 5 1);have d0:((xs.length:Int)==0)=false:=beq_eq_false_iff_ne.2 (by omega);have HP:=hid hp;clear hx hcx hlast hp;go_enter func105,ntmps105
 go_wp2;go_loopw [3,4] (fun v ii wr=>∃ (i:Nat) (bs:List UInt8),i≤xs.length∧ii=.int .i64 i∧Hid (TOut xs bs i)∧Hid (wr.ownsRow w.heap.size 5 1 v bs.length (Lib.byteCells bs))∧Hid (Below w.heap.size w wr)) (fun _ ii _=>xs.length-(intOf ii).toNat)
 case atStart=>exact⟨0,[],Nat.zero_le _,rfl,TOut.zero HP.o,HO0,Below.refl _ _⟩
 case round =>
  obtain⟨i,bs,hi',rfl,hT,ho,hn⟩:=hrel;by_cases hlt:i<xs.length
  · have hcell:=(hn.o.cell (p:=⟨b,o+i,none⟩) hb).trans (HCX.o i hlt)
    have HS:=hid (TIn.start hT.o hlt);have hq0:=(TIn.start hT.o hlt).lt hlt HX.o;clear hT;generalize xs.getD i 0=x at *;go_wp2;obtain⟨wo,rfl⟩:∃ wo:World,wo=wr:=⟨_,rfl⟩;go_loopw [3,5,6] (fun v qq kk wr=>∃ (k q:Nat) (bs:List UInt8),k≤9∧q<1000000000∧kk=.int .i64 k∧qq=.int .u32 (q:Int)∧Hid (TIn xs bs i k q)∧Hid (wr.ownsRow w.heap.size 5 1 v bs.length (Lib.byteCells bs))∧Hid (Below w.heap.size w wr)) (fun _ _ kk _=>9-(intOf kk).toNat)
    case atStart=>exact⟨0,x,bs,by omega,hq0,rfl,rfl,HS,ho,hn⟩
    case round =>
        clear HS ho hn hcell hq0;obtain⟨k,q,bs,hk9,hq9,rfl,rfl,hI,ho,hn⟩:=hrel;have hbl:bs.length≤90009:=by have:=hI.o.len;omega
        have hq9':(q:Int)≤999999999:=by omega
        obtain⟨d,hd⟩:∃ d:Nat,d=q%10:=⟨_,rfl⟩;have hd10:d<10:=by omega
        have hmod:(q:Int)%10=(d:Int):=by omega
        have hd9:(d:Int)≤9:=by omega
        have w1:IntKind.u8.wrap (48+(d:Int))=48+(d:Int):=by rw[IntKind.wrap_u8];omega
        by_cases hg:k<9∧(i+1<xs.length∨0<q)
        · obtain⟨hk,hg⟩:=hg
          have HST:=hid (show TIn xs (bs++[UInt8.ofNat (48+d)]) i (k+1) (q / 10) by rw[hd];exact hI.o.step hlt HX.o hk hg);obtain ⟨Hd,Hd10⟩:=aB hd hd10;have k1:(k:Int)<9:=by omega
          clear hd hd10 hI;by_cases hl2:i+1<xs.length
          · have k2:(i:Int)+1<(xs.length:Int):=by omega
            clear hg;go_wp2_with (at_builtin;refine wpList_append_own _ rfl _ _ 152 rfl w.heap.size 5 i0 (.int .u8 0) 1 1 underlying152 hi hz0 hz1 hz2 rfl (by decide) _ _ _ rfl (ho.o.alloc _) ⟨wr.heap.size,0,none⟩ 1 1 [.int .u8 (48+(d:Int))] rfl rfl (cells_one _ _ _) (by intro u hu;simp at hu;subst hu;rfl) (by unfold maxLen;omega) (by omega) (by have:=hn.o.size;simp;omega) ?_)
            intro v' w1 hown' hgrow _;have HO:=hid (xQ Hd10.o hown');have HN:=hid ((hn.o.alloc hn.o.size _).grown hgrow (by have:=hn.o.size;simp;omega) (fun k hk=>(ho.o.lt k hk).1));clear hown' hgrow;go_wp2;go_roundw
            case rel=>exact⟨k+1,q / 10,_,by omega,by omega,by go_num,kF (by omega),HST,HO,HN⟩
            case measure=>simp[intOf];omega
          · have k2:decide ((i:Int)+1<(xs.length:Int))=false:=decide_eq_false (by omega)
            have k3:0<(q:Int):=by omega
            clear hg;go_wp2_with (at_builtin;refine wpList_append_own _ rfl _ _ 152 rfl w.heap.size 5 i0 (.int .u8 0) 1 1 underlying152 hi hz0 hz1 hz2 rfl (by decide) _ _ _ rfl (ho.o.alloc _) ⟨wr.heap.size,0,none⟩ 1 1 [.int .u8 (48+(d:Int))] rfl rfl (cells_one _ _ _) (by intro u hu;simp at hu;subst hu;rfl) (by unfold maxLen;omega) (by omega) (by have:=hn.o.size;simp;omega) ?_)
            intro v' w1 hown' hgrow _;have HO:=hid (xQ Hd10.o hown');have HN:=hid ((hn.o.alloc hn.o.size _).grown hgrow (by have:=hn.o.size;simp;omega) (fun k hk=>(ho.o.lt k hk).1));clear hown' hgrow;go_wp2;go_roundw
            case rel=>exact⟨k+1,q / 10,_,by omega,by omega,by go_num,kF (by omega),HST,HO,HN⟩
            case measure=>simp[intOf];omega
        · have HD:=hid (hI.o.done hlt HX.o HLA.o (by omega))
          clear hd hd10 hmod w1;by_cases hk:k<9
          · have k1:(k:Int)<9:=by omega
            have k2:decide ((i:Int)+1<(xs.length:Int))=false:=decide_eq_false (by omega);have k3:decide (0<(q:Int))=false:=decide_eq_false (by omega);have k4:decide (0<q)=false:=decide_eq_false (by omega);have k5:¬ 0<q:=by omega
            clear hg hI;go_wp2;go_roundw
            case rel=>exact⟨i+1,bs,by omega,by go_num,HD,ho,hn⟩
            case measure=>simp[intOf];omega
          · have k1:decide ((k:Int)<9)=false:=decide_eq_false (by omega)
            have k2:¬ (k:Int)<9:=by omega
            clear hg hI;go_wp2;go_roundw
            case rel=>exact⟨i+1,bs,by omega,by go_num,HD,ho,hn⟩
            case measure=>simp[intOf];omega
  · have hi2:i=xs.length:=by omega
    have hT':=hT.o;have hbl:=hT'.len HX.o;rw[hi2]at hT';obtain⟨hrev,hbp⟩:=hT'.done;obtain⟨g,cap,rfl,hg,hcm,hR⟩:=RowB.of_own ho.o hbp;obtain⟨n,hn0⟩:∃ n,n=bs.length:=⟨_,rfl⟩;have HR0:=hid (show RowB wr g cap (swp bs 0) by rw[z2A];exact hR);obtain ⟨Hg,HREV⟩:=aB hg hrev;rw[← hn0]at hbl hbp;have Hn0:=hid hn0;have k1:decide ((i:Int)<(xs.length:Int))=false:=decide_eq_false (by omega);rw[← hn0];clear hT hT' hrev ho hR hg hi2 hn0 hcm;go_wp2;obtain⟨wo,rfl⟩:∃ wo:World,wo=wr:=⟨_,rfl⟩;go_loopw [7,8] (fun ii kk wr=>∃ (i k:Nat),i+k+1=n∧ii=.int .i64 i∧kk=.int .i64 k∧Hid (RowB wr g cap (swp bs i))∧Hid (Below w.heap.size w wr)) (fun ii _ _=>n-(intOf ii).toNat)
    case atStart=>exact⟨0,n-1,by omega,rfl,kF (by omega),HR0,hn⟩
    case round =>
        clear HR0 hn;obtain⟨i,k,hik,rfl,rfl,hR,hn⟩:=hrel;have hnl:=Hn0.o;by_cases hlk:i<k
        · have hkk:bs.length-1-i=k:=by omega
          have hc1:=hR.o.cell (i:=i) (by rw[dR];omega);have hc2:=hR.o.cell (i:=k) (by rw[dR];omega);rw[z4T bs i (by omega)]at hc1;have hh:=z2C bs i (by omega);rw[hkk]at hh;rw[hh]at hc2;have hs:=z2B bs i (by omega);rw[hkk]at hs;have hf1:=hR.o.free i;have hf2:=hR.o.free k;obtain⟨x,hx⟩:∃ x,x=bs.getD i 0:=⟨_,rfl⟩;obtain⟨y,hy⟩:∃ y,y=bs.getD k 0:=⟨_,rfl⟩;rw[← hx]at hc1 hs;rw[← hy]at hc2 hs
          have HSET:=hid (show RowB (((wr.setCell ⟨g,i,none⟩ (.int .u8 (y.toNat:Int))).setCell ⟨g,k,none⟩ (.int .u8 (x.toNat:Int))).drew) g cap (swp bs (i+1)) by
           have h1:=(hR.o.set i y).set k x;rw[hs]at h1
           exact h1)
          have HB:=hid (((hn.o.setCell (p:=⟨g,i,none⟩) Hg.o (.int .u8 (y.toNat:Int))).setCell (p:=⟨g,k,none⟩) Hg.o (.int .u8 (x.toNat:Int))).drew);have hne:¬ i=k:=by omega
          have j1:(i:Int)<(k:Int):=by omega
          have j2:(k:Int)<(n:Int):=by omega
          have hc3:(wr.setCell ⟨g,i,none⟩ (.int .u8 (y.toNat:Int))).cell? ⟨g,k,none⟩=some (.int .u8 (y.toNat:Int)):=(World.cell?_setCell_other _ _ _ _ (by intro e;injection e with e1 e2;exact hne e2)).trans hc2;clear hx hy hs hh hkk hR hn hnl;generalize x.toNat=a at *;generalize y.toNat=b2 at *;go_wp2;go_region
          go_wp2;go_roundw
          case rel=>exact⟨i+1,k-1,by omega,by go_num,kF (by omega),HSET,HB⟩
          case measure=>simp[intOf];omega
        · have hsd:=z2D bs i (by omega)
          have hR':=hR.o;rw[hsd,HREV.o]at hR';have hdl:(Lib.decDigits (ai xs)).length=n:=by rw[← HREV.o,List.length_reverse];omega
          have hcv:(convert 152 9 (.slice (some ⟨g,0,none⟩) n cap)).run Tryz.prog wr=.ok (.string ⟨(Lib.decDigits (ai xs)).toArray⟩) wr:=by
           have h:=run_convert_bytes_back (P:=Tryz.prog) wr 152 9 5 ⟨g,0,none⟩ cap (Lib.decDigits (ai xs)) underlying152 underlying5 underlying9 (fun j hj=>by
            have h1:=hR'.cell hj;rw[Lib.add_plain,Nat.zero_add,h1]
            simp[List.getD,hj])
           rw[hdl]at h;exact h
          have k2:decide ((i:Int)<(k:Int))=false:=decide_eq_false (by omega);clear hsd hR hR' hdl hnl;go_wp2;go_ret
          exact⟨rfl,hn.o⟩
open Go.Lib (hid)
theorem z4a (a1 a2:Option Addr)(n m c1 c2:Nat)(h:n≠m)(w:World) :
 Calls Tryz.prog 52 #[.slice a1 n c1,.slice a2 m c2] w fun e w'=>e=.returned (.int .i64 (cmpN n m))∧w=w':=by
 have hb:((n:Int) != (m:Int))=true:=bne_iff_ne.2 (by omega);by_cases hlt:n<m
 · have HF:=hid (fV hlt)
   go_enter func52,ntmps52
   go_wp2;go_ret
   exact⟨dK HF.o.symm,rfl⟩
 · have HF:=hid (iG (show m<n by omega))
   go_enter func52,ntmps52
   go_wp2;go_ret
   exact⟨dK HF.o.symm,rfl⟩
theorem z2i (b1 o1 c1 b2 o2 c2:Nat)(xs ys:List Nat)(hxy:xs.length=ys.length)(hx:∀ x∈xs,x<BB)(hy:∀ y∈ys,y<BB)(hl:xs.length≤1000000)(w:World)
 (hcx:∀ i,i<xs.length→w.cell? ⟨b1,o1+i,none⟩=some (.int .u32 ((xs.getD i 0:Nat):Int)))
 (hcy:∀ i,i<ys.length→w.cell? ⟨b2,o2+i,none⟩=some (.int .u32 ((ys.getD i 0:Nat):Int))) :
 CR 52 #[.slice (some ⟨b1,o1,none⟩) xs.length c1,.slice (some ⟨b2,o2,none⟩) xs.length c2] w (.int .i64 (cmpN (ai xs) (ai ys))):=by
 obtain ⟨HXY,HX,HY,HCX,HCY⟩:=bz hxy hx hy hcx hcy;clear hxy hx hy hcx hcy;have hb:((xs.length:Int) != (xs.length:Int))=false:=by simp
 go_enter func52,ntmps52
 go_wp2;go_loopw [5] (fun ii wr=>∃ z:Int,-1≤z∧z<xs.length∧ii=.int .i64 z∧Hid (z2m xs ys (z+1).toNat)∧Hid (Below w.heap.size w wr)) (fun ii _=>(intOf ii+1).toNat)
 case atStart=>exact⟨(xs.length:Int)-1,by omega,by omega,rfl,fun j h1 h2=>absurd h1 (by omega),Below.refl _ _⟩
 case round =>
  obtain⟨z,hz1',hz8,rfl,he,hn⟩:=hrel;by_cases hz:0≤z
  · obtain⟨j,rfl⟩:=Int.eq_ofNat_of_zero_le hz
    have hb1:=World.block_lt_of_cell? _ _ (HCX.o j (by omega));have hb2:=World.block_lt_of_cell? _ _ (HCY.o j (by have:=HXY.o;omega));have hcx:=(hn.o.cell (p:=⟨b1,o1+j,none⟩) hb1).trans (HCX.o j (by omega));have hcy:=(hn.o.cell (p:=⟨b2,o2+j,none⟩) hb2).trans (HCY.o j (by have:=HXY.o;omega));have he':=he.o;rw[show((j:Int)+1).toNat=j+1 by omega]at he';have HE:=hid he';clear he' he;have hjl:=hid (show j<xs.length by omega);have hL:xs.getD j 0<ys.getD j 0→ai xs<ai ys:=fun h=>jO HXY.o hjl.o HX.o (fun k h1 h2=>HE.o k (by omega) h2) h;have hG:ys.getD j 0<xs.getD j 0→ai ys<ai xs:=fun h=>jO HXY.o.symm (by have:=HXY.o;have:=hjl.o;omega) HY.o (fun k h1 h2=>(HE.o k (by omega) (by have:=HXY.o;omega)).symm) h;obtain ⟨HL,HG⟩:=aB hL hG
    have HEQ:=hid (show xs.getD j 0=ys.getD j 0→z2m xs ys j from fun h k h1 h2=>by
        by_cases hk:k=j
        · subst hk;exact h
        · exact HE.o k (by omega) h2)
    clear hL hG HE;generalize xs.getD j 0=x at *;generalize ys.getD j 0=y at *;clear hb1 hb2;have i1:(0:Int)≤(j:Int):=by omega
    have i2:(j:Int)<(xs.length:Int):=by omega
    by_cases h1:x<y
    · have HF:=hid (fV (HL.o h1))
      go_wp2;go_quiet (fail)
      have HN2:=hid (below_drewN' hn.o nq);go_wp2;go_ret
      exact⟨dK HF.o.symm,HN2.o⟩
    · by_cases h2:y<x
      · have HF:=hid (iG (HG.o h2))
        go_wp2;go_quiet (fail)
        go_wp2;have hn2:=below_drewN' hn.o nq;have hcx2:(wr.drewN nq).cell? ⟨b1,o1+j,none⟩=some (.int .u32 (x:Int)):=hcx;have hcy2:(wr.drewN nq).cell? ⟨b2,o2+j,none⟩=some (.int .u32 (y:Int)):=hcy;have HN2:=hid hn2;clear hcx hcy hn2;generalize wr.drewN nq=w2 at *;go_quiet (fail)
        have HN3:=hid (below_drewN' HN2.o nq);go_wp2;go_ret
        exact⟨dK HF.o.symm,HN3.o⟩
      · have HF:=hid (HEQ.o (by omega))
        go_wp2;go_quiet (fail)
        go_wp2;have hn2:=below_drewN' hn.o nq;have hcx2:(wr.drewN nq).cell? ⟨b1,o1+j,none⟩=some (.int .u32 (x:Int)):=hcx;have hcy2:(wr.drewN nq).cell? ⟨b2,o2+j,none⟩=some (.int .u32 (y:Int)):=hcy;have HN2:=hid hn2;clear hcx hcy hn2;generalize wr.drewN nq=w2 at *;go_quiet (fail)
        have HN3:=hid (below_drewN' HN2.o nq);go_wp2;go_roundw
        case rel=>exact⟨(j:Int)-1,by omega,by omega,rfl,by rw[show((j:Int)-1+1).toNat=j by omega];exact HF,HN3⟩
        case measure=>simp[intOf]
  · have hz0':(z+1).toNat=0:=by omega
    have he':=he.o;rw[hz0']at he';have heq:=hid (o8 HXY.o (fun j hj=>he' j (by omega) hj));clear he' hz0';go_wp2;go_ret
    exact⟨dK (by rw[heq.o,rY]),hn.o⟩
theorem z2j (a1 a2:Option Addr)(c1 c2:Nat)(w:World) :
 Calls Tryz.prog 52 #[.slice a1 0 c1,.slice a2 0 c2] w fun e w'=>e=.returned (.int .i64 0)∧w=w':=by
 go_enter func52,ntmps52
 go_wp2;refine wp_loop_rounds 1 ?_;rw[rounds_succ];go_wp2;go_ret
 exact⟨rfl,rfl⟩
theorem nu (v1 v2:Value)(a b:Nat)(hl:(ae a).length≤1000000)(w:World)(h1:Rd .u32 w v1 (ae a))(h2:Rd .u32 w v2 (ae b)) :
 CR 52 #[v1,v2] w (.int .i64 (cmpN a b)):=by
 by_cases hne:(ae a).length=(ae b).length
 · by_cases h0:(ae a).length=0
   · have ha:a=0:=by have:=az a;rw[List.length_eq_zero_iff.1 h0]at this;exact this.symm
     have hb:b=0:=by have:=az b;rw[List.length_eq_zero_iff.1 (show(ae b).length=0 by omega)]at this;exact this.symm
     obtain⟨a1,c1,rfl⟩:=aW h1;obtain⟨a2,c2,rfl⟩:=aW h2;rw[← hne,h0];exact(z2j a1 a2 c1 c2 w).mono fun e w' ⟨g1,g2⟩=>⟨by rw[g1,ha,hb,rY],g2▸Below.refl _ _⟩
   · obtain⟨b1,o1,c1,rfl,_,_,_,r1⟩:=dM h1 (by omega)
     obtain⟨b2,o2,c2,rfl,_,_,_,r2⟩:=dM h2 (by omega);have:=z2i b1 o1 c1 b2 o2 c2 (ae a) (ae b) hne (aR a) (aR b) hl w r1 r2;rw[az,az]at this;rw[← hne];exact this
 · obtain⟨a1,c1,rfl⟩:=aW h1
   obtain⟨a2,c2,rfl⟩:=aW h2;refine(z4a a1 a2 _ _ c1 c2 hne w).mono fun e w' ⟨g1,g2⟩=>⟨?_,g2▸Below.refl _ _⟩;rw[g1];refine dK ?_;rcases Nat.lt_or_ge (ae a).length (ae b).length with h|h
   · rw[fV h,fV (ek h)]
   · have h':(ae b).length<(ae a).length:=by omega
     rw[iG h',iG (ek h')]
