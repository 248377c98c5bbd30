/- texts -/
import Derived.Test.YteihfbkaieemdaaGreatDoorMz45q
set_option maxRecDepth 100000
set_option maxHeartbeats 20000000
open Go.Lib (hid)
namespace Go.Proofs.YteihfbkaieemdaaGreatDoor
open Go.RowKit Go.Gb
set_option linter.unusedVariables false
def gLo (x:Nat→Rat):Nat→Rat
 | 0=>x 0
 | m+1=>lstQ (gLo x m) (x m)
def gHi (x:Nat→Rat):Nat→Rat
 | 0=>x 0
 | m+1=>mstQ (gHi x m) (x m)
theorem LI.first {W:World}{g o n:Nat}{X:Nat→ByteArray}(h:LI W g o n X)(hn:1≤n):W.cell? ⟨g,o,none⟩=some (.string (X 0))∧W.cell? ⟨g,o+1,none⟩=some (.string (X 1)):=by
 have h0:=h.2 0 (by omega);have h1:=h.2 1 (by omega);exact⟨h0,h1⟩
theorem z4s (a:Option Addr)(n c:Nat)(hn:n=0)(w:World):CR 21 #[.slice a n c] w (.tuple #[.agg #[.string ⟨#[]⟩,.string ⟨#[]⟩],.int .i64 9]):=by
 have e0:(n:Int)=0:=by omega
 clear hn;go_enter Tryz.func21,Tryz.ntmps21
 go_upto_region 1 with fail
 refine ay w [(#[.string ⟨#[]⟩,.string ⟨#[]⟩],24)] rfl ?_;rintro W0 ⟨k1,hb⟩;have ww:=hid (show Below w.heap.size w W0 from hb);have K2:=hid k1;clear k1 hb;obtain ⟨ru,rM⟩:=av K2.o rfl rfl;obtain ⟨oM,oV⟩:=bF K2.o;go_wp2;exact bodyPost_ret (v:=.tuple #[.agg #[.string ⟨#[]⟩,.string ⟨#[]⟩],.int .i64 9]) (by simp[results,Tryz.results21,go_sem,ru,rM]) rfl ⟨rfl,ax (l:=[.string ⟨#[]⟩,.string ⟨#[]⟩]) (i:=0) (by omega) ww.o⟩
theorem z0B (a:Option Addr)(n c:Nat)(hn:1024<n)(w:World):CR 21 #[.slice a n c] w (.tuple #[.agg #[.string ⟨#[]⟩,.string ⟨#[]⟩],.int .i64 8]):=by
 have e0:¬ (n:Int)=0:=by omega
 have e1:(1024:Int)<(n:Int):=by omega
 clear hn;go_enter Tryz.func21,Tryz.ntmps21
 go_upto_region 1 with fail
 refine ay w [(#[.string ⟨#[]⟩,.string ⟨#[]⟩],24)] rfl ?_;rintro W0 ⟨k1,hb⟩;have ww:=hid (show Below w.heap.size w W0 from hb);have K2:=hid k1;clear k1 hb;obtain ⟨ru,rM⟩:=av K2.o rfl rfl;obtain ⟨oM,oV⟩:=bF K2.o;go_wp2;exact bodyPost_ret (v:=.tuple #[.agg #[.string ⟨#[]⟩,.string ⟨#[]⟩],.int .i64 8]) (by simp[results,Tryz.results21,go_sem,ru,rM]) rfl ⟨rfl,ax (l:=[.string ⟨#[]⟩,.string ⟨#[]⟩]) (i:=0) (by omega) ww.o⟩
theorem z0C (g o n c:Nat)(X:Nat→ByteArray)(V:Nat→Bool)(xa xb:Nat→Rat)(q:Nat→Rat)(ra rb:Rat)(v:Value)(hv:HuV V q n=v)(hn1:1≤n)(hn2:n≤1024)(w:World)(hl:LI w g o n X)(hr:ra=xa 0∧rb=xb 0)
 (h1:KIb 46 (.agg #[.string (X 0),.string (X 1)]) ra rb (V 0)) (hx:∀ i,i<n→KIb 46 (.agg #[.string (X (i*2)),.string (X (i*2+1))]) (xa i) (xb i) (V i))
 (hj:∀ i,i<n→(∀ j,j<i+1→V j=true)→KII 47 (gLo xa i) (gHi xb i) (xa i) (xb i) (lstQ (gLo xa i) (xa i)) (mstQ (gHi xb i) (xb i)))
 (he:(∀ j,j<n→V j=true)→(exOf q (2*n-1)).1=gLo xa n∧(exOf q (2*n-1)).2=gHi xb n) (ht:(∀ j,j<n→V j=true)→KI2 34 (gLo xa n) (gHi xb n) (.agg #[.string (Sq (gLo xa n)),.string (Sq (gHi xb n))])) :
 Calls Tryz.prog 21 #[.slice (some ⟨g,o,none⟩) n c] w fun e w'=>e=.returned v∧Below w.heap.size w w':=by
 have e0:¬ (n:Int)=0:=by omega
 have e1:¬ (1024:Int)<(n:Int):=by omega
 obtain ⟨HL,HR,C1,HX,HJ,HE,HT,HV⟩:=fw hl hr h1 hx hj he ht hv;clear hl hr h1 hx hj he ht hv;go_enter Tryz.func21,Tryz.ntmps21
 go_upto_region 1 with fail
 refine ay w [(#[.string ⟨#[]⟩,.string ⟨#[]⟩],24)] rfl ?_;rintro W0 ⟨k1,hb⟩;have ww:=hid (show Below w.heap.size w W0 from hb);have K1:=hid k1;clear k1 hb;obtain⟨c0,c1⟩:=(HL.o.below ww.o).first hn1;go_wp2_with fail
 with_reducible refine(C1.o _).mono ?_
 rintro e W1 ⟨r9,rq,rfl,mf,mi,hb⟩;have K1:=hid (K1.o.below hb);have wu:=hbt ww hb;have RA:=hid mf;have RB:=hid mi;clear hb mf mi;go_upto_region 6 with fail
 refine ay W1 [(#[.bool r9.b,.slice r9.a r9.n r9.c,.slice r9.e r9.m r9.d,.bool rq.b,.slice rq.a rq.n rq.c,.slice rq.e rq.m rq.d],56)] rfl ?_;have L1:=K1.o.lt;have L2:=wu.o.size;rintro W2 ⟨k2,hb⟩;have hb:Below W1.heap.size W1 W2:=hb;obtain ⟨K1,RA,RB⟩:=bO hb K1 RA RB;have sw:=hbt wu hb;have K2:=hid k2;clear k2 hb c0 c1;go_wp2;go_loopw [5,6] (fun ok ii wr=>∃ (i:Nat) (bo:Bool) (ql qh:QS) (lo hi:Rat),i≤n∧ok=.bool bo∧ii=.int .i64 (i:Int)∧Hid (bo=true→(∀ j,j<i→V j=true)∧V 0=true∧lo=gLo xa i∧hi=gHi xb i)∧Hid (bo=false→∃ j,j<n∧V j=false)∧Hid (Below w.heap.size w wr)∧Hid (SBk wr (w.heap.size) #[.string ⟨#[]⟩,.string ⟨#[]⟩] 24)∧Hid (SBk wr (W1.heap.size) #[.bool ql.b,.slice ql.a ql.n ql.c,.slice ql.e ql.m ql.d,.bool qh.b,.slice qh.a qh.n qh.c,.slice qh.e qh.m qh.d] 56)∧Hid (FQ wr ql lo)∧Hid (FQ wr qh hi)) (fun _ ii _=>n-(intOf ii).toNat)
 case atStart=>exact⟨0,V 0,r9,rq,ra,rb,by omega,rfl,rfl,hid (fun h=>⟨fun j hj=>by omega,h,HR.o.1,HR.o.2⟩),hid (fun h=>⟨0,by omega,h⟩),sw,K1,K2,RA,RB⟩
 case round =>
  obtain⟨i,bo,ql,qh,lo,hi,hin,rfl,rfl,HA,HN,ww,K2,K4,RL,RH⟩:=hrel;have hi0:(0:Int)≤(i:Int):=by omega
  have wi:IntKind.i64.wrap ((i:Int)+1)=(i:Int)+1:=IntWalk.i64_in _ (by omega);by_cases hlt:i<n
  · have hlt1:(i:Int)<(n:Int):=by omega
    have CF:=hid (HX.o i hlt);have CJ:=hid (fun h=>HJ.o i hlt h);obtain⟨c0,c1⟩:=(HL.o.below ww.o).at hlt;generalize X (i*2)=x1 at *;generalize X (i*2+1)=x2 at *;generalize hya:xa i=ya at *;generalize hyb:xb i=yb at *;obtain ⟨HYA,HYB⟩:=aC hya hyb;clear hya hyb
    cases hvi:V i with
    | false =>
      rw[hvi]at CF;have HV1:=hid (show ∃ j,j<n∧V j=false from⟨i,hlt,hvi⟩);clear hvi
      cases bo with
      | false =>
        go_wp2_with fail
        with_reducible refine(CF.o _).mono ?_
        rintro e V1 ⟨u6,w9,rfl,si,sj,hb⟩;obtain ⟨K2,K4,RL,RH⟩:=bB hb K2 K4 RL RH;have wu:=hbt ww hb;obtain ⟨RX,RY⟩:=aC si sj;clear hb si sj;go_upto_region 10 with fail
        refine ay V1 [(#[.bool u6.b,.slice u6.a u6.n u6.c,.slice u6.e u6.m u6.d,.bool w9.b,.slice w9.a w9.n w9.c,.slice w9.e w9.m w9.d],56)] rfl ?_;have L3:=K2.o.lt;have L4:=K4.o.lt;have L5:=wu.o.size;rintro V2 ⟨k61,hb⟩;have hb:Below V1.heap.size V1 V2:=hb;obtain ⟨K2,K4,RL,RH⟩:=bB hb K2 K4 RL RH;have sw:=hbt wu hb;have K61:=hid k61;clear k61 hb;go_wp2;go_roundw
        case rel=>exact⟨i+1,false,ql,qh,lo,hi,by omega,by first|rfl|simp,by go_num,hid (fun h=>nomatch h),hid (fun _=>HV1.o),sw,K2,K4,RL,RH⟩
        case measure=>simp[intOf];omega
      | true =>
        go_wp2_with fail
        with_reducible refine(CF.o _).mono ?_
        rintro e V1 ⟨u6,w9,rfl,si,sj,hb⟩;obtain ⟨K2,K4,RL,RH⟩:=bB hb K2 K4 RL RH;have wu:=hbt ww hb;obtain ⟨RX,RY⟩:=aC si sj;clear hb si sj;go_upto_region 10 with fail
        refine ay V1 [(#[.bool u6.b,.slice u6.a u6.n u6.c,.slice u6.e u6.m u6.d,.bool w9.b,.slice w9.a w9.n w9.c,.slice w9.e w9.m w9.d],56)] rfl ?_;have L3:=K2.o.lt;have L4:=K4.o.lt;have L5:=wu.o.size;rintro V2 ⟨k61,hb⟩;have hb:Below V1.heap.size V1 V2:=hb;obtain ⟨K2,K4,RL,RH⟩:=bB hb K2 K4 RL RH;have sw:=hbt wu hb;have K61:=hid k61;clear k61 hb;go_wp2;go_roundw
        case rel=>exact⟨i+1,false,ql,qh,lo,hi,by omega,by first|rfl|simp,by go_num,hid (fun h=>nomatch h),hid (fun _=>HV1.o),sw,K2,K4,RL,RH⟩
        case measure=>simp[intOf];omega
    | true =>
      rw[hvi]at CF;have HV1:=hid hvi;clear hvi
      cases bo with
      | false =>
        have HV2:=hid (HN.o rfl);go_wp2_with fail
        with_reducible refine(CF.o _).mono ?_
        rintro e V1 ⟨u6,w9,rfl,si,sj,hb⟩;obtain ⟨K2,K4,RL,RH⟩:=bB hb K2 K4 RL RH;have wu:=hbt ww hb;obtain ⟨RX,RY⟩:=aC si sj;clear hb si sj;go_upto_region 10 with fail
        refine ay V1 [(#[.bool u6.b,.slice u6.a u6.n u6.c,.slice u6.e u6.m u6.d,.bool w9.b,.slice w9.a w9.n w9.c,.slice w9.e w9.m w9.d],56)] rfl ?_;have L3:=K2.o.lt;have L4:=K4.o.lt;have L5:=wu.o.size;rintro V2 ⟨k61,hb⟩;have hb:Below V1.heap.size V1 V2:=hb;obtain ⟨K2,K4,RL,RH⟩:=bB hb K2 K4 RL RH;have sw:=hbt wu hb;have K61:=hid k61;clear k61 hb;go_wp2;go_roundw
        case rel=>exact⟨i+1,false,ql,qh,lo,hi,by omega,by first|rfl|simp,by go_num,hid (fun h=>nomatch h),hid (fun _=>HV2.o),sw,K2,K4,RL,RH⟩
        case measure=>simp[intOf];omega
      | true =>
        obtain⟨hA1,hA2,rfl,rfl⟩:=HA.o rfl;have HA2:=hid hA2
        have HA1:=hid (show ∀ j,j<i+1→V j=true from fun j hj=>by
         by_cases h:j=i
         · rw[h];exact HV1.o
         · exact hA1 j (by omega))
        have CJ:=hid (CJ.o HA1.o);clear hA1 hA2 HA;have EL:=hid (show gLo xa (i+1)=lstQ (gLo xa i) ya by rw[← HYA.o];rfl);have EH:=hid (show gHi xb (i+1)=mstQ (gHi xb i) yb by rw[← HYB.o];rfl);rw[← EL.o,← EH.o]at CJ;clear EL EH;generalize hlj:gLo xa (i+1)=lj at *;generalize hhj:gHi xb (i+1)=hj at *;have EX:=hid (show lj=gLo xa (i+1)∧hj=gHi xb (i+1) from⟨hlj.symm,hhj.symm⟩);clear hlj hhj;generalize gLo xa i=lo at *;generalize gHi xb i=hi at *;go_wp2_with fail
        with_reducible refine(CF.o _).mono ?_
        rintro e V1 ⟨u6,w9,rfl,si,sj,hb⟩;obtain ⟨K2,K4,RL,RH⟩:=bB hb K2 K4 RL RH;have wu:=hbt ww hb;obtain ⟨RX,RY⟩:=aC si sj;clear hb si sj;go_upto_region 10 with fail
        refine ay V1 [(#[.bool u6.b,.slice u6.a u6.n u6.c,.slice u6.e u6.m u6.d,.bool w9.b,.slice w9.a w9.n w9.c,.slice w9.e w9.m w9.d],56)] rfl ?_;have L3:=K2.o.lt;have L4:=K4.o.lt;have L5:=wu.o.size;rintro V2 ⟨k61,hb⟩;have hb:Below V1.heap.size V1 V2:=hb;obtain ⟨K2,K4,RL,RH,RX,RY⟩:=fZ hb K2 K4 RL RH RX RY;have sw:=hbt wu hb;have K61:=hid k61;clear k61 hb;obtain ⟨rV,p8,p9,pq,pu,ol⟩:=bf K4.o rfl rfl rfl rfl rfl rfl;obtain ⟨lm,lv,kz,kM,kV,gy⟩:=bf K61.o rfl rfl rfl rfl rfl rfl;go_wp2_with fail
        with_reducible refine(CJ.o _ _ _ _ _ RL.o RH.o RX.o RY.o).mono ?_
        rintro e V3 ⟨wm,wo,rfl,l5,lg,hb⟩;clear rV p8 p9 pq pu ol lm lv kz kM kV gy;obtain ⟨K2,K4,K61,RL,RH,RX,RY⟩:=eT hb K2 K4 K61 RL RH RX RY;have gF:=hbt sw hb;obtain ⟨RLJ,RHJ⟩:=aC l5 lg;clear hb l5 lg;obtain ⟨rV,p8,p9,pq,pu,ol⟩:=bf K4.o rfl rfl rfl rfl rfl rfl;obtain ⟨fq,fQ,ed,eX,dn,dx⟩:=dF K4.o;go_upto_region 8 with fail
        clear rV fq p8 fQ p9 ed pq eX pu dn ol dx
        refine z1u (fun V=>Below w.heap.size w V∧SBk V (w.heap.size) #[.string ⟨#[]⟩,.string ⟨#[]⟩] 24∧SBk V (W1.heap.size) #[.bool wm.b,.slice wm.a wm.n wm.c,.slice wm.e wm.m wm.d,.bool wo.b,.slice wo.a wo.n wo.c,.slice wo.e wo.m wo.d] 56∧SBk V (V1.heap.size) #[.bool u6.b,.slice u6.a u6.n u6.c,.slice u6.e u6.m u6.d,.bool w9.b,.slice w9.a w9.n w9.c,.slice w9.e w9.m w9.d] 56∧FQ V ql lo∧FQ V qh hi∧FQ V u6 ya∧FQ V w9 yb∧FQ V wm lj∧FQ V wo hj) (by
         rw[← fB];have s0:∀ {q':QS} {x':Rat},FQ V3 q' x'→FQ (storeAll V3 (W1.heap.size) 0 [.bool wm.b,.slice wm.a wm.n wm.c,.slice wm.e wm.m wm.d,.bool wo.b,.slice wo.a wo.n wo.c,.slice wo.e wo.m wo.d]) q' x':=fun h'=>bZ _ 0 h' K4.o (by simp[bI]) (by simp[bi]);have o0:∀ {g':Nat} {cs':Array Value} {T':TypeId},g'≠W1.heap.size→SBk V3 g' cs' T'→SBk (storeAll V3 (W1.heap.size) 0 [.bool wm.b,.slice wm.a wm.n wm.c,.slice wm.e wm.m wm.d,.bool wo.b,.slice wo.a wo.n wo.c,.slice wo.e wo.m wo.d]) g' cs' T':=fun hg' h'=>aF hg' _ 0 h'
         exact⟨(ax (l:=[.bool wm.b,.slice wm.a wm.n wm.c,.slice wm.e wm.m wm.d,.bool wo.b,.slice wo.a wo.n wo.c,.slice wo.e wo.m wo.d]) (i:=0) (by omega) gF.o),(o0 (by omega) K2.o),(bS K4.o),(o0 (by omega) K61.o),(s0 RL.o),(s0 RH.o),(s0 RX.o),(s0 RY.o),(s0 RLJ.o),(s0 RHJ.o)⟩) ?_
        rintro V4 ⟨hb,z0,z1,z2,z3,z4,z5,z6,z7,z8⟩;obtain ⟨dz,K2,K4,K61,RL,RH,RX,RY,RLJ⟩:=dH hb z0 z1 z2 z3 z4 z5 z6 z7;have RHJ:=hid z8;clear hb z0 z1 z2 z3 z4 z5 z6 z7 z8;go_wp2;go_roundw
        case rel=>exact⟨i+1,true,wm,wo,lj,hj,by omega,by first|rfl|simp,by go_num,hid (fun _=>⟨HA1.o,HA2.o,EX.o.1,EX.o.2⟩),hid (fun h=>nomatch h),dz,K2,K4,RLJ,RHJ⟩
        case measure=>simp[intOf];omega
  · have hge:decide ((i:Int)<(n:Int))=false:=by rw[decide_eq_false_iff_not];omega
    obtain rfl:i=n:=by omega
    have hv:=HV.o;clear HV
    cases bo with
    | false =>
      obtain⟨j,hj,hvj⟩:=HN.o rfl;rw[z3M hj hvj]at hv;subst hv;obtain ⟨ru,rM⟩:=av K2.o rfl rfl;obtain ⟨oM,oV⟩:=bF K2.o;go_wp2;exact bodyPost_ret (v:=.tuple #[.agg #[.string ⟨#[]⟩,.string ⟨#[]⟩],.int .i64 1]) (by simp[results,Tryz.results21,go_sem,ru,rM]) rfl ⟨rfl,(ax (l:=[.string ⟨#[]⟩,.string ⟨#[]⟩]) (i:=0) (by omega) ww.o)⟩
    | true =>
      obtain⟨hA1,hA2,rfl,rfl⟩:=HA.o rfl;rw[z1m hA1,(HE.o hA1).1,(HE.o hA1).2]at hv;have CT:=hid (HT.o hA1);clear HA hA1 hA2;generalize gLo xa i=lo at *;generalize gHi xb i=hi at *;obtain⟨slo,hslo⟩:∃ s,s=Sq lo:=⟨_,rfl⟩;obtain⟨shi,hshi⟩:∃ s,s=Sq hi:=⟨_,rfl⟩;rw[← hslo,← hshi]at CT;unfold Vq at hv
      rw[← hslo,← hshi]at hv;clear hslo hshi;subst hv;obtain ⟨rV,p8,p9,pq,pu,ol⟩:=bf K4.o rfl rfl rfl rfl rfl rfl;go_wp2_with fail
      with_reducible refine(CT.o _ _ _ RL.o RH.o).mono ?_
      rintro e V1 ⟨rfl,hb⟩;clear rV p8 p9 pq pu ol;have K2:=hid (K2.o.below hb);have wu:=hbt ww hb;clear hb;obtain ⟨ru,rM⟩:=av K2.o rfl rfl;obtain ⟨oM,oV⟩:=bF K2.o;go_wp2;exact bodyPost_ret (v:=.tuple #[.agg #[.string slo,.string shi],.int .i64 0]) (by simp[results,Tryz.results21,go_sem,ru,rM]) rfl ⟨rfl,(ax (l:=[.string slo,.string shi]) (i:=0) (by omega) wu.o)⟩
theorem z3H (x:Nat→Rat):∀ n i,i<n→gLo x n≤x i
 | n+1,i,h=>by
   have a:=z4k (gLo x n) (x n);show lstQ (gLo x n) (x n)≤x i
   by_cases e:i=n
   · rw[e];exact a.2
   · have b:=z3H x n i (by omega)
     grind
theorem z3I (x:Nat→Rat):∀ n i,i<n→x i≤gHi x n
 | n+1,i,h=>by
   have a:=z4i (gHi x n) (x n);show x i≤mstQ (gHi x n) (x n)
   by_cases e:i=n
   · rw[e];exact a.2
   · have b:=z3I x n i (by omega)
     grind
theorem vC (x:Nat→Rat):∀ n,∃ i,(i<n∨i=0)∧gLo x n=x i
 | 0=>⟨0,Or.inr rfl,rfl⟩
 | n+1=>by
   rcases xE (gLo x n) (x n) with h|h
   · obtain⟨i,hi,e⟩:=vC x n
     exact⟨i,by omega,h.trans e⟩
   · exact⟨n,Or.inl (by omega),h⟩
theorem vD (x:Nat→Rat):∀ n,∃ i,(i<n∨i=0)∧gHi x n=x i
 | 0=>⟨0,Or.inr rfl,rfl⟩
 | n+1=>by
   rcases xB (gHi x n) (x n) with h|h
   · obtain⟨i,hi,e⟩:=vD x n
     exact⟨i,by omega,h.trans e⟩
   · exact⟨n,Or.inl (by omega),h⟩
theorem z0G {P:Rat→Prop}{x:Nat→Rat}{n:Nat}(hn:1≤n)(h:∀ i,i<n→P (x i))(m:Nat)(hm:m≤n):P (gLo x m):=by
 obtain⟨i,hi,e⟩:=vC x m;rw[e];exact h i (by omega)
theorem z0H {P:Rat→Prop}{x:Nat→Rat}{n:Nat}(hn:1≤n)(h:∀ i,i<n→P (x i))(m:Nat)(hm:m≤n):P (gHi x m):=by
 obtain⟨i,hi,e⟩:=vD x m;rw[e];exact h i (by omega)
def rowE (xa xb:Nat→Rat) (j:Nat):Rat:=if j%2=0 then xa (j / 2) else xb (j / 2)
theorem zZ (xa xb:Nat→Rat)(i:Nat):rowE xa xb (2*i)=xa i:=by
 unfold rowE
 rw[if_pos (by omega),show 2*i / 2=i by omega]
theorem z00 (xa xb:Nat→Rat)(i:Nat):rowE xa xb (2*i+1)=xb i:=by
 unfold rowE
 rw[if_neg (by omega),show(2*i+1) / 2=i by omega]
theorem z01 {xa xb:Nat→Rat}{n:Nat}(hn:1≤n)(h:∀ i,i<n→xa i≤xb i):(exOf (rowE xa xb) (2*n-1)).1=gLo xa n∧(exOf (rowE xa xb) (2*n-1)).2=gHi xb n:=by
 refine⟨z2S _ _ (fun j hj=>?_) ?_,z4y _ _ (fun j hj=>?_) ?_⟩
 · have a:=z3H xa n (j / 2) (by omega)
   have b:=h (j / 2) (by omega);unfold rowE
   split<;>grind
 · obtain⟨i,hi,e⟩:=vC xa n
   exact⟨2*i,by omega,by rw[zZ];exact e⟩
 · have a:=z3I xb n (j / 2) (by omega)
   have b:=h (j / 2) (by omega);unfold rowE
   split<;>grind
 · obtain⟨i,hi,e⟩:=vD xb n
   exact⟨2*i+1,by omega,by rw[z00];exact e⟩
theorem z5h (n:Nat)(X:Nat→ByteArray)(hX:∀ j,j<n*2→(X j).size≤40)(w:World)(hl:La w) :
 ∃ lo hi er,(∀ a c W,Below w.heap.size w W→SI W a n c X→CR 19 #[.slice a n c] W (.tuple #[.agg #[.string lo,.string hi],.int .i64 er]))∧(∀ a c W,SI W a n c X→CR 21 #[.slice a n c] W (.tuple #[.agg #[.string lo,.string hi],.int .i64 er])):=by
 by_cases h0:n=0
 · exact⟨_,_,_,fun a c W _ _=>z4n a n c h0 W,fun a c W _=>z4s a n c h0 W⟩
 by_cases hb:1024<n
 · exact⟨_,_,_,fun a c W _ _=>z0u a n c hb W,fun a c W _=>z0B a n c hb W⟩
 have each:∀ i,i<n→∃ q:Bool × Rat × Rat,KIb 46 (.agg #[.string (X (i*2)),.string (X (i*2+1))]) q.2.1 q.2.2 q.1 ∧
  (CL 27 #[.agg #[.string (X (i*2)),.string (X (i*2+1))]] (.bool q.1))∧(q.1=true→X (i*2)=Sq q.2.1∧X (i*2+1)=Sq q.2.2∧SmQ 40 q.2.1∧SmQ 40 q.2.2∧q.2.1≤q.2.2):=fun i hi=>by
  obtain⟨b,x,y,k1,k2,k3⟩:=pIV (X (i*2)) (X (i*2+1)) (hX _ (by omega)) (hX _ (by omega));exact⟨(b,x,y),k1,k2,k3⟩
 obtain⟨Q,hQ⟩:=Go.Deep.choose_lt each;obtain⟨V,hVe⟩:∃ V:Nat→Bool,V=fun i=>(Q i).1:=⟨_,rfl⟩;obtain⟨xa,hxa⟩:∃ x:Nat→Rat,x=fun i=>(Q i).2.1:=⟨_,rfl⟩;obtain⟨xb,hxb⟩:∃ x:Nat→Rat,x=fun i=>(Q i).2.2:=⟨_,rfl⟩;have hF:∀ i,i<n→KIb 46 (.agg #[.string (X (i*2)),.string (X (i*2+1))]) (xa i) (xb i) (V i):=fun i hi=>by rw[hVe,hxa,hxb];exact(hQ i hi).1
 have hV:∀ i,i<n→CL 27 #[.agg #[.string (X (i*2)),.string (X (i*2+1))]] (.bool (V i)):=fun i hi=>by rw[hVe];exact(hQ i hi).2.1
 have hE:∀ i,i<n→V i=true→X (i*2)=Sq (xa i)∧X (i*2+1)=Sq (xb i)∧SmQ 40 (xa i)∧SmQ 40 (xb i)∧xa i≤xb i:=fun i hi h=>by rw[hVe]at h;rw[hxa,hxb];exact(hQ i hi).2.2 h
 clear hQ each hVe hxa hxb
 have hq:∀ i,i<n→V i=true→X (i*2)=Sq (rowE xa xb (2*i))∧X (i*2+1)=Sq (rowE xa xb (2*i+1))∧aT (rowE xa xb (2*i))∧aT (rowE xa xb (2*i+1)):=fun i hi h=>by
  obtain⟨k1,k2,k3,k4,_⟩:=hE i hi h;rw[zZ,z00];exact⟨k1,k2,g40 k3,g40 k4⟩
 have hv1:∀ g o c W,n≤c→Below w.heap.size w W→LI W g o n X→CR 19 #[.slice (some ⟨g,o,none⟩) n c] W (HuV V (rowE xa xb) n):=fun g o c W hc hW hL =>
  z0v g o n c X (rowE xa xb) V _ rfl (by omega) (by omega) hc W (hl.on hW) hL hV hq
 have sa:∀ m,(∀ j,j<m→V j=true)→m≤n→∀ i,i<m→SmQ 40 (xa i)∧SmQ 40 (xb i):=fun m h hm i hi=>by
  obtain⟨_,_,k3,k4,_⟩:=hE i (by omega) (h i hi);exact⟨k3,k4⟩
 have hv2:∀ g o c W,LI W g o n X→CR 21 #[.slice (some ⟨g,o,none⟩) n c] W (HuV V (rowE xa xb) n):=fun g o c W hL =>
  z0C g o n c X V xa xb (rowE xa xb) (xa 0) (xb 0) _ rfl (by omega) (by omega) W hL ⟨rfl,rfl⟩ (hF 0 (by omega)) hF
   (fun i hi h=>by
        have s1:=z0G (P:=SmQ 40) (x:=xa) (n:=i+1) (by omega) (fun j hj=>(sa (i+1) h (by omega) j hj).1) i (by omega);have s2:=z0H (P:=SmQ 40) (x:=xb) (n:=i+1) (by omega) (fun j hj=>(sa (i+1) h (by omega) j hj).2) i (by omega);have s3:=sa (i+1) h (by omega) i (by omega)
        exact z6c (s1.mono (by decide)) (s2.mono (by decide)) (s3.1.mono (by decide)) (s3.2.mono (by decide)))
   (fun h=>z01 (by omega) (fun i hi=>(hE i hi (h i hi)).2.2.2.2))
   (fun h=>hIo ((z0G (P:=SmQ 40) (by omega) (fun j hj=>(sa n h (Nat.le_refl _) j hj).1) n (Nat.le_refl _)).mono (by decide)) ((z0H (P:=SmQ 40) (by omega) (fun j hj=>(sa n h (Nat.le_refl _) j hj).2) n (Nat.le_refl _)).mono (by decide)))
 obtain⟨lo,hi,er,e⟩:∃ lo hi er,HuV V (rowE xa xb) n=.tuple #[.agg #[.string lo,.string hi],.int .i64 er]:=by
  unfold HuV
  split
  · exact⟨_,_,_,rfl⟩
  · exact⟨_,_,_,rfl⟩
 rw[e]at hv1 hv2;refine⟨lo,hi,er,fun a c W hW hs=>?_,fun a c W hs=>?_⟩
 · rcases hs with h|⟨g,o,rfl,hc,_,hL⟩
   · exact absurd h h0
   · exact hv1 g o c W hc hW hL
 · rcases hs with h|⟨g,o,rfl,_,_,hL⟩
   · exact absurd h h0
   · exact hv2 g o c W hL
