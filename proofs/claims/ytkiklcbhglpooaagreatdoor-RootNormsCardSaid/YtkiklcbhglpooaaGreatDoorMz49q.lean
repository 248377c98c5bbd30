/- texts -/
import Derived.Test.YtkiklcbhglpooaaGreatDoorOxa
import Derived.Test.YtkiklcbhglpooaaGreatDoorMz47q
import Derived.Lib.SmallJoins
open Go.Proofs.Tryz
set_option maxRecDepth 100000
set_option maxHeartbeats 20000000
open Go.Lib (hid)
namespace Go.Proofs.YtkiklcbhglpooaaGreatDoor
open Go.RowKit Go.Gb
set_option linter.unusedSimpArgs false
set_option linter.unusedVariables false
theorem z0Y (a:Option Addr)(n c:Nat)(z:Int)(hn:64<n)(w:World):CR 9 #[.slice a n c,.int .i64 z] w (.tuple #[.agg #[.string ⟨#[]⟩,.string ⟨#[]⟩],.int .i64 8]):=by
 have e1:(64:Int)<(n:Int):=by omega
 clear hn;go_enter func9,ntmps9
 go_upto_region 1 with fail
 refine aG w [(#[.string ⟨#[]⟩,.string ⟨#[]⟩],27)] rfl ?_;rintro W0 ⟨k1,hb⟩;have w9:=hid (show Below w.heap.size w W0 from hb);have K2:=hid k1;clear k1 hb;obtain ⟨ru,oM⟩:=ay K2.o rfl rfl;obtain ⟨dz,dP⟩:=bI K2.o;go_wp2;exact bodyPost_ret (v:=.tuple #[.agg #[.string ⟨#[]⟩,.string ⟨#[]⟩],.int .i64 8]) (by simp[results,results9,go_sem,ru,oM]) rfl ⟨rfl,az (l:=[.string ⟨#[]⟩,.string ⟨#[]⟩]) (i:=0) (by omega) w9.o⟩
theorem z0Z (sa:Option Addr)(n c:Nat)(X:Nat→ByteArray)(V:Nat→Bool)(q:Nat→Rat)(z:Int)(s t:ByteArray)(er:Int)(bg:Bool)(lo hi:Rat)(v:Value)(hv:NoV V n s t er=v)(hn:n≤64)(w:World)(hl:SR w sa n c X)
 (hz:KS 27 (.int .i64 0) 0) (hx:∀ i,i<n→KSb 28 (.string (X i)) (q i) (V i))
 (hm:∀ i,i<n→V i=true→KQ2 30 (q i) (q i) (q i*q i)) (ha:∀ i,i<n→(∀ j,j<i+1→V j=true)→KQ2 29 (ssQ q i) (q i*q i) (ssQ q (i+1)))
 (hg:KPs 31 (.int .i64 z) (.bool bg)) (hb:(bg=false→s=⟨#[]⟩∧t=⟨#[]⟩∧er=2)∧(bg=true→er=0))
 (he:bg=true→(∀ j,j<n→V j=true)→KEn 33 (ssQ q n) (.int .i64 z) lo hi) (ht:bg=true→(∀ j,j<n→V j=true)→KI2 32 lo hi (.agg #[.string s,.string t])) :
 Calls Tryz.prog 9 #[.slice sa n c,.int .i64 z] w fun e w'=>e=.returned v∧Below w.heap.size w w':=by
 have e1:¬ (64:Int)<(n:Int):=by omega
 obtain ⟨HL,CZ,HX,HM,HE,CG,HG,HN,HT⟩:=bW hl hz hx hm ha hg hb he ht;have HV:=hid hv;clear hl hz hx hm ha hg hb he ht hv;go_enter func9,ntmps9
 go_upto_region 1 with fail
 refine aG w [(#[.string ⟨#[]⟩,.string ⟨#[]⟩],27)] rfl ?_;rintro W0 ⟨k1,hb⟩;have w9:=hid (show Below w.heap.size w W0 from hb);have K1:=hid k1;clear k1 hb;go_wp2_with fail
 with_reducible refine(CZ.o _).mono ?_
 rintro e W1 ⟨q_1,rfl,kz,hb⟩;have K1:=hid (K1.o.below hb);have u6:=hbt w9 hb;have RS:=hid kz;clear hb kz;go_upto_region 4 with fail
 refine aG W1 [(q_1.l.toArray,50)] rfl ?_;have L1:=K1.o.lt;have L2:=u6.o.size;rintro W2 ⟨k2,hb⟩;have hb:Below W1.heap.size W1 W2:=hb;obtain ⟨K1,RS⟩:=aM hb K1 RS;have wo:=hbt u6 hb;have K2:=hid k2;clear k2 hb;go_wp2;go_loopw [7] (fun ii wr=>∃ i:Nat,i≤n∧ii=.int .i64 (i:Int)∧Hid (∀ j,j<i→V j=true)∧Hid (Below w.heap.size w wr)∧Hid (SBk wr (w.heap.size) #[.string ⟨#[]⟩,.string ⟨#[]⟩] 27)∧∃ qs:QS,Hid (SBk wr (W1.heap.size) qs.l.toArray 50)∧Hid (FQ wr qs (ssQ q i))) (fun ii _=>n-(intOf ii).toNat)
 case atStart=>exact⟨0,by omega,rfl,hid (fun j hj=>by omega),wo,K1,q_1,K2,RS⟩
 case round =>
  obtain⟨i,hin,rfl,HA,w9,K4,qs,K6,RS⟩:=hrel;have hi0:(0:Int)≤(i:Int):=by omega
  have wi:IntKind.i64.wrap ((i:Int)+1)=(i:Int)+1:=IntWalk.i64_in _ (by omega);by_cases hlt:i<n
  · rcases HL.o with h0|⟨g,o,rfl,hnc,hcm,hL⟩
    · omega
    have hlt1:(i:Int)<(n:Int):=by omega
    obtain ⟨CF,CM,CA⟩:=av (HX.o i hlt) (HM.o i hlt) (HE.o i hlt);have c0:=(hL.below w9.o).2 i hlt;generalize X i=x1 at *;generalize hsv:ssQ q (i+1)=sv at *;have HSV:=hid hsv;clear hsv;generalize ssQ q i=su at *;generalize q i=x at *
    cases hVi:V i with
    | false =>
      rw[hVi]at CF;obtain rfl:v=.tuple #[.agg #[.string ⟨#[]⟩,.string ⟨#[]⟩],.int .i64 1]:=by rw[← HV.o];exact z4c hlt hVi
      clear HV;go_wp2_with fail
      with_reducible refine(CF.o _).mono ?_
      rintro e V1 ⟨si,rfl,rM,hb⟩;obtain ⟨K4,K6⟩:=aM hb K4 K6;have u6:=hbt w9 hb;have RX:=hid rM;clear hb rM;go_upto_region 8 with fail
      refine aG V1 [(si.l.toArray,50)] rfl ?_;have L3:=K4.o.lt;have L4:=K6.o.lt;have L5:=u6.o.size;rintro V2 ⟨k61,hb⟩;have hb:Below V1.heap.size V1 V2:=hb;have K4:=hid (K4.o.below hb);have wo:=hbt u6 hb;have K61:=hid k61;clear k61 hb;obtain ⟨sj,rV⟩:=ay K4.o rfl rfl;obtain ⟨ol,kM⟩:=bI K4.o;go_wp2;exact bodyPost_ret (v:=.tuple #[.agg #[.string ⟨#[]⟩,.string ⟨#[]⟩],.int .i64 1]) (by simp[results,results9,go_sem,sj,rV]) rfl ⟨rfl,(az (l:=[.string ⟨#[]⟩,.string ⟨#[]⟩]) (i:=0) (by omega) wo.o)⟩
    | true =>
      rw[hVi]at CF;have CM:=hid (CM.o hVi)
      have HA1:=hid (show ∀ j,j<i+1→V j=true from fun j hj=>by
       by_cases h:j=i
       · rw[h];exact hVi
       · exact HA.o j (by omega))
      have CA:=hid (CA.o HA1.o);clear hVi;generalize x*x=sp at *;go_wp2_with fail
      with_reducible refine(CF.o _).mono ?_
      rintro e V1 ⟨si,rfl,rM,hb⟩;obtain ⟨K4,K6,RS⟩:=bX hb K4 K6 RS;have u6:=hbt w9 hb;have RX:=hid rM;clear hb rM;go_upto_region 8 with fail
      refine aG V1 [(si.l.toArray,50)] rfl ?_;have L3:=K4.o.lt;have L4:=K6.o.lt;have L5:=u6.o.size;rintro V2 ⟨k61,hb⟩;have hb:Below V1.heap.size V1 V2:=hb;obtain ⟨K4,K6,RS,RX⟩:=bD hb K4 K6 RS RX;have wo:=hbt u6 hb;have K61:=hid k61;clear k61 hb;go_wp2_with fail
      refine aK (fun a0 a' V=>∃ (r9:QS) (ww:QS),a'=⟨putL [(32,qs.v),(33,si.v),(34,si.v),(35,r9.v),(36,ww.v)] a0.tmps,a0.defers⟩∧Below w.heap.size w V∧SBk V (w.heap.size) #[.string ⟨#[]⟩,.string ⟨#[]⟩] 27∧SBk V (W1.heap.size) ww.l.toArray 50∧SBk V (V1.heap.size) si.l.toArray 50∧FQ V qs su∧FQ V si x∧FQ V r9 sp∧FQ V ww sv) ?_ ?_
      · refine aY 5 1 [32,33,34,35,36] [Rel.val (qs.v),Rel.val (si.v),Rel.val (si.v),Rel.q sp,Rel.q sv] ?_ ?_
        · intro gy a W i HI hD Hr him
          obtain⟨y6,y8⟩:=HI.o.s2 6 8;obtain⟨oV,mf,mi⟩:=cells3 (K6.o.below HI.o.world);obtain⟨dX,dY,cu⟩:=cells3 (K61.o.below HI.o.world);obtain⟨X1,X2,X0⟩:=HI.o.g3 1 33 2 34 0 32
          match i,him,Hr with
          | 0,_,Hi|1,_,Hi|2,_,Hi =>
            refine aF rfl fun K' hK=>?_;go_simp;exact hK.o _ _ (HI.o.pw Hi.o)
          | 3,_,Hi =>
            have x1:=X1.q Hi.o;have x2:=X2.q Hi.o;refine aF rfl fun K' hK=>?_;go_simp;with_reducible refine(CM.o _ _ _ (RX.o.below HI.o.world) (RX.o.below HI.o.world)).mono ?_
            rintro e W' ⟨r9,rfl,fo,hb⟩;exact hK.o _ _ ⟨HI.o.pc Hi.o hb ⟨r9,rfl,fo⟩,trivial⟩
          | 4,_,Hi =>
            have x0:=X0.q Hi.o;obtain⟨r9,x3,l5⟩:=qAt HI.o 3 35 Hi.o (by kernel_rfl);refine aF rfl fun K' hK=>?_;go_simp;with_reducible refine(CA.o _ _ _ (RS.o.below HI.o.world) l5.o).mono ?_
            rintro e W' ⟨ww,rfl,fq,hb⟩;exact hK.o _ _ ⟨HI.o.pc Hi.o hb ⟨ww,rfl,fq⟩,trivial⟩
          | n+5,h,_=>exact absurd h (by omega)
        · intro gy a W HI hD HA
          obtain⟨r9,x3,l5⟩:=qEnd HI.o HA.o 3 35;obtain⟨ww,x4,fQ⟩:=qEnd HI.o HA.o 4 36;have kS:=hid HI.o.world;obtain ⟨K4,K6,K61,RS,RX⟩:=gm kS.o K4 K6 K61 RS RX;have ed:=Lib.hid (wo.o.trans (kS.o.mono wo.o.size));have RM:=l5;have RVV:=fQ;obtain⟨oV,mf,mi⟩:=cells3 K6.o;obtain⟨cO,bn,bq⟩:=frz3 K6.o;have y6:=HI.o.rst 6 rfl;dsimp only[QS.v]at x4;refine bJ (t:=0) ?_;refine aF rfl fun K' hK=>?_;go_simp;refine hK.o _ _ ?_;clear hK;refine bF ?_;rw[← lM];have s0:∀ {q':QS} {x':Rat},FQ W q' x'→FQ (storeAll W (W1.heap.size) 0 ww.l) q' x':=fun h'=>iC _ 0 h' K6.o (by simp[bL,Lvv,QS.l]) (by simp[bi,Lvv,QS.l]);have o0:∀ {g':Nat} {cs':Array Value} {T':TypeId},g'≠W1.heap.size→SBk W g' cs' T'→SBk (storeAll W (W1.heap.size) 0 ww.l) g' cs' T':=fun hg' h'=>bY hg' _ 0 h';exact⟨rfl,r9,ww,(HI.o.finx ⟨HI.o.sx HA.o 0,HI.o.sx HA.o 1,HI.o.sx HA.o 2,x3,x4,trivial⟩ rfl),(az (l:=ww.l) (i:=0) (by omega) ed.o),(o0 (by omega) K4.o),(kC K6.o),(o0 (by omega) K61.o),(s0 RS.o),(s0 RX.o),(s0 RM.o),(s0 RVV.o)⟩
      rintro a' V3 ⟨r9,ww,rfl,z0,z1,z2,z3,z4,z5,z6,z7⟩;obtain ⟨wu,K4,K6,K61,RS,RX,RM,RVV⟩:=jU z0 z1 z2 z3 z4 z5 z6 z7;clear z0 z1 z2 z3 z4 z5 z6 z7;simp only[putL,List.setIfInBounds_toArray,List.set_cons_zero,List.set_cons_succ];go_wp2;go_roundw
      case rel=>exact⟨i+1,by omega,by go_num,HA1,wu,K4,ww,K6,by rw[HSV.o];exact RVV⟩
      case measure=>simp[intOf];omega
  · have hge:decide ((i:Int)<(n:Int))=false:=by rw[decide_eq_false_iff_not];omega
    obtain rfl:i=n:=by omega
    have hv:=HV.o;rw[z1H HA.o]at hv;have CE:=hid (fun h=>HN.o h HA.o);have CT:=hid (fun h=>HT.o h HA.o);clear HV;subst hv;generalize ssQ q i=su at *
    cases bg with
    | false =>
      obtain⟨rfl,rfl,rfl⟩:=HG.o.1 rfl;go_wp2_with fail
      with_reducible refine(CG.o _).mono ?_
      rintro e V1 ⟨rfl,hb⟩;have K4:=hid (K4.o.below hb);have u6:=hbt w9 hb;clear hb;obtain ⟨sj,rV⟩:=ay K4.o rfl rfl;obtain ⟨ol,kM⟩:=bI K4.o;go_wp2;exact bodyPost_ret (v:=.tuple #[.agg #[.string ⟨#[]⟩,.string ⟨#[]⟩],.int .i64 2]) (by simp[results,results9,go_sem,sj,rV]) rfl ⟨rfl,(az (l:=[.string ⟨#[]⟩,.string ⟨#[]⟩]) (i:=0) (by omega) u6.o)⟩
    | true =>
      obtain rfl:=HG.o.2 rfl;obtain ⟨CE2,CT2⟩:=aC (CE.o rfl) (CT.o rfl);clear CE CT;go_wp2_with fail
      with_reducible refine(CG.o _).mono ?_
      rintro e V1 ⟨rfl,hb⟩;obtain ⟨K4,K6,RS⟩:=bX hb K4 K6 RS;have u6:=hbt w9 hb;clear hb;obtain ⟨oV,mf,mi⟩:=aU K6.o rfl rfl rfl;go_wp2_with fail
      with_reducible refine(CE2.o _ _ RS.o).mono ?_
      rintro e V2 ⟨bu,bv,rfl,rq,kV,hb⟩;clear oV mf mi;have K4:=hid (K4.o.below hb);have wo:=hbt u6 hb;obtain ⟨RLO,RHI⟩:=aC rq kV;clear hb rq kV;go_wp2_with fail
      with_reducible refine(CT2.o _ _ _ RLO.o RHI.o).mono ?_
      rintro e V3 ⟨rfl,hb⟩;have K4:=hid (K4.o.below hb);have wu:=hbt wo hb;clear hb;obtain ⟨sj,rV⟩:=ay K4.o rfl rfl;obtain ⟨ol,kM⟩:=bI K4.o;go_wp2;exact bodyPost_ret (v:=.tuple #[.agg #[.string s,.string t],.int .i64 0]) (by simp[results,results9,go_sem,sj,rV]) rfl ⟨rfl,(az (l:=[.string s,.string t]) (i:=0) (by omega) wu.o)⟩
open Go.Lib (hid)
theorem z6l (l u:ByteArray)(n s:Int)(w₀:World)(h1:CV w₀ 39 #[.agg #[.string l,.string u]] (.bool true))(h2:CV w₀ 55 #[.string l] (.int .i64 s))(f1:decide (s<0)=false)(h9:n<1) :
 CV w₀ 21 #[.agg #[.string l,.string u],.int .i64 n] (.tuple #[.agg #[.string ⟨#[]⟩,.string ⟨#[]⟩],.int .i64 2]):=by
 intro w hw;have C1:=hid (h1.mono hw);have C2:=hid (h2.mono hw);have g1:=f1;clear f1;have e1:decide (n<1)=true:=decide_eq_true h9;have e2:n<1:=h9;clear h9 h1 h2 hw;go_enter func21,ntmps21
 go_upto_region 1 with fail
 refine aG w [(#[.string l,.string u],27),(#[.int .i64 n],3),(#[.string ⟨#[]⟩,.string ⟨#[]⟩],27),(#[.int .i64 0],28)] rfl ?_;rintro W0 ⟨k1,k2,k3,k4,hb⟩;have w9:=hid (show Below w.heap.size w W0 from hb);obtain ⟨K1,K2,K3,K4⟩:=aP k1 k2 k3 k4;clear k1 k2 k3 k4 hb;obtain ⟨sw,p8⟩:=ay K1.o rfl rfl;go_wp2_with fail
 with_reducible refine(C1.o _ w9.o).mono ?_
 rintro e W1 ⟨rfl,hb⟩;clear sw p8;obtain ⟨K1,K2,K3,K4⟩:=bD hb K1 K2 K3 K4;have u6:=hbt w9 hb;clear hb;have sw:=K1.o.cell (i:=0) rfl;go_wp2_with fail
 with_reducible refine(C2.o _ u6.o).mono ?_
 rintro e W2 ⟨rfl,hb⟩;clear sw;obtain ⟨K2,K3,K4⟩:=bX hb K2 K3 K4;have wo:=hbt u6 hb;clear hb;have ru:=K2.o.cell (i:=0) rfl;obtain ⟨l6,lg⟩:=ay K3.o rfl rfl;have sj:=K4.o.cell (i:=0) rfl;have ek:=K3.o.frozen (i:=0);have d9:=K3.o.frozen (i:=1);have ol:=K4.o.frozen (i:=0);go_wp2;exact bodyPost_ret (v:=.tuple #[.agg #[.string ⟨#[]⟩,.string ⟨#[]⟩],.int .i64 2]) (by simp[results,results21,go_sem,l6,lg,sj]) rfl ⟨rfl,(az (l:=[.int .i64 2]) (i:=0) (by omega) (az (l:=[.string ⟨#[]⟩,.string ⟨#[]⟩]) (i:=0) (by omega) wo.o))⟩
theorem z6m (l u:ByteArray)(n s:Int)(w₀:World)(h1:CV w₀ 39 #[.agg #[.string l,.string u]] (.bool true))(h2:CV w₀ 55 #[.string l] (.int .i64 s))(f1:decide (s<0)=false)(h9:1000000000<n) :
 CV w₀ 21 #[.agg #[.string l,.string u],.int .i64 n] (.tuple #[.agg #[.string ⟨#[]⟩,.string ⟨#[]⟩],.int .i64 2]):=by
 intro w hw;have C1:=hid (h1.mono hw);have C2:=hid (h2.mono hw);have g1:=f1;clear f1;have e1:decide (n<1)=false:=decide_eq_false (by omega);have e2:¬ n<1:=by omega
 have e3:decide (1000000000<n)=true:=decide_eq_true h9;have e4:1000000000<n:=h9;clear h9 h1 h2 hw;go_enter func21,ntmps21
 go_upto_region 1 with fail
 refine aG w [(#[.string l,.string u],27),(#[.int .i64 n],3),(#[.string ⟨#[]⟩,.string ⟨#[]⟩],27),(#[.int .i64 0],28)] rfl ?_;rintro W0 ⟨k1,k2,k3,k4,hb⟩;have w9:=hid (show Below w.heap.size w W0 from hb);obtain ⟨K1,K2,K3,K4⟩:=aP k1 k2 k3 k4;clear k1 k2 k3 k4 hb;obtain ⟨sw,p8⟩:=ay K1.o rfl rfl;go_wp2_with fail
 with_reducible refine(C1.o _ w9.o).mono ?_
 rintro e W1 ⟨rfl,hb⟩;clear sw p8;obtain ⟨K1,K2,K3,K4⟩:=bD hb K1 K2 K3 K4;have u6:=hbt w9 hb;clear hb;have sw:=K1.o.cell (i:=0) rfl;go_wp2_with fail
 with_reducible refine(C2.o _ u6.o).mono ?_
 rintro e W2 ⟨rfl,hb⟩;clear sw;obtain ⟨K2,K3,K4⟩:=bX hb K2 K3 K4;have wo:=hbt u6 hb;clear hb;have ru:=K2.o.cell (i:=0) rfl;obtain ⟨l6,lg⟩:=ay K3.o rfl rfl;have sj:=K4.o.cell (i:=0) rfl;have ek:=K3.o.frozen (i:=0);have d9:=K3.o.frozen (i:=1);have ol:=K4.o.frozen (i:=0);go_wp2;exact bodyPost_ret (v:=.tuple #[.agg #[.string ⟨#[]⟩,.string ⟨#[]⟩],.int .i64 2]) (by simp[results,results21,go_sem,l6,lg,sj]) rfl ⟨rfl,(az (l:=[.int .i64 2]) (i:=0) (by omega) (az (l:=[.string ⟨#[]⟩,.string ⟨#[]⟩]) (i:=0) (by omega) wo.o))⟩
theorem z5x {x s t:Nat}(h1:s*s≤x)(h2:x<(s+1)*(s+1))(h3:t*t≤x)(h4:x<(t+1)*(t+1)):t=s:=by
 rcases Nat.lt_trichotomy s t with h|h|h
 · have:=Nat.mul_le_mul (show s+1≤t from h) (show s+1≤t from h)
   omega
 · exact h.symm
 · have:=Nat.mul_le_mul (show t+1≤s from h) (show t+1≤s from h)
   omega
theorem o5lq {x:Rat}{k:Nat}(h:SmQ k x)(h0:0<k)(hk:k≤10000):LQ x:=z3N h h0 hk
theorem z4A {r:Nat}(hr:ah r≤1000000):KQN 84 r ((r:Nat):Rat):=fun p c W h=>by
 refine(yA r (r:Int) 1 p c W (fun p c W h=>ja false _ r (r:Int) (by simp) hr W h) (fun W=>kJ 1 1 rfl (by decide) W) h).mono ?_;rintro e w' ⟨p,c,s,d,he,h1,h2,hb⟩;exact⟨⟨_,p,_,c,s,_,d⟩,he,⟨rfl,rfl,rfl,h1,h2⟩,hb⟩
theorem z4G {a s:Nat}(h1:s*s≤a)(h2:a<(s+1)*(s+1)):s=isq a:=(z5x (iJ a).1 (iJ a).2 h1 h2)
theorem z4B {a:Nat}(hl:(ag a).length≤1000){v:Value}{W:World}(h:Rd .u32 W v (ag a)):Calls Tryz.prog 85 #[v] W (RNn W (isq a)):=by
 refine(zI v a hl W h).mono ?_;rintro e w' ⟨v',s,rfl,hr,h1,h2,hb⟩;obtain rfl:=z4G h1 h2;obtain⟨p,c,rfl⟩:=RN.sh (show RN w' v' (isq a) from hr);exact⟨p,c,rfl,hr,hb⟩
theorem o5FN {k:Int}(hl:ae k≤1000):KNz 85 k (isq k.natAbs):=fun _ _ _ h=>z4B hl h
theorem o5Wh {x:Rat}{k:Int}(hk:x.num / (x.den:Int)=k)(hx:LQ x):KZq 82 x k:=by
 rintro⟨b,a,n,c,e,m,d⟩ W ⟨h1,h2,h3,h4,h5⟩
 dsimp only at *;subst h1 h2 h3;exact z5i x k hk hx _ _ _ _ W h4 h5
theorem o5Fr {n:Nat}(h1:1≤n)(h2:n≤1000000000):KS2 86 (.int .i64 1) (.int .i64 (n:Int)) ((1:Rat) / (n:Rat)):=fun W=>by
 refine(z2Z 1 (n:Int) 1 ((1:Rat) / (n:Rat)).num n ((1:Rat) / (n:Rat)).den (by simp[IntKind.wrap,IntKind.bits,IntKind.signed];omega) W (fun W=>z3Q 1 1 rfl (by decide) (by decide) W) (fun W=>kJ (n:Int) n rfl (by omega) W) (fun p1 c1 s2 d2 W a b=>?_)).mono ?_
 · exact qR 1 n ((1:Rat) / (n:Rat)) (by rw[Rat.mkRat_eq_div];rfl) (by omega) (by show ah 1≤50000;rw[jQ];decide) (Nat.le_trans (fH (show n≤1000000000 by omega)) (by decide +kernel)) p1 c1 s2 d2 W a b
 · rintro e w' ⟨p,c,s,d,he,r1,r2,hb⟩
   exact⟨⟨_,p,_,c,s,_,d⟩,he,⟨rfl,rfl,rfl,r1,r2⟩,hb⟩
theorem n_sm {n:Nat}(h2:n≤1000000000):Sm 10 n:=by
 have h:(1000000000:Nat)<10^10:=by decide
 exact Nat.lt_of_le_of_lt h2 h
theorem z0G {n k:Nat}(h:Sm k n)(hk:1≤k):SmQ k ((n:Nat):Rat):=⟨h,(show Sm 1 1 by simp[Sm]).mono hk⟩
theorem z6n {x:Rat}{n k:Nat}(hk1:1≤k)(hk2:k≤700)(h0:0≤x)(hx:SmQ k x)(h1:1≤n)(h2:n≤1000000000):KEn 33 x (.int .i64 (n:Int)) ((eK x n:Rat) / (n:Rat)) ((eH x n:Rat) / (n:Rat)):=by
 have sn:=n_sm h2;have qn:SmQ 10 ((n:Nat):Rat):=z0G sn (by decide);have qm:=qn.mul qn;have qp:=hx.mul qm;have n0:((n:Nat):Rat)≠0:=ig h1;have lp:LQ (x*((n:Rat)*(n:Rat))):=o5lq qp (by omega) (by omega);have ln:LQ ((n:Nat):Rat):=o5lq qn (by decide) (by decide);have hpos:0≤x*((n:Rat)*(n:Rat)):=Rat.mul_nonneg h0 (Rat.mul_nonneg (dQ n) (dQ n));obtain⟨f,hf⟩:∃ f,(x*((n:Rat)*(n:Rat))).num / ((x*((n:Rat)*(n:Rat))).den:Int)=f:=⟨_,rfl⟩;have k0:0≤f:=by rw[← hf];exact Int.ediv_nonneg (Rat.num_nonneg.2 hpos) (by omega)
 have hr:isq f.natAbs=eK x n:=by
  unfold eK rk
  rw[Rat.floor_def,hf];congr 1
  omega
 have sk:=z08 h0 hx sn hk1;have qr:SmQ (k+21) ((eK x n:Nat):Rat):=z0G sk (by omega);have hI:KS 27 (.int .i64 (n:Int)) ((n:Nat):Rat):=ks (fun W=>z4m (n:Int) ((n:Nat):Rat) n rfl (by omega) rfl rfl W);have qlo:SmQ (k+31) ((eK x n:Rat) / (n:Rat)):=(qr.div qn n0).mono (by omega);have qfr:SmQ 11 ((1:Rat) / (n:Rat)):=((show SmQ 1 (1:Rat) from⟨by unfold Sm;decide,by unfold Sm;decide⟩).div qn n0).mono (by decide)
 have zk:ae f≤1000:=by
  have h:=kR qp (by omega);rw[hf]at h;exact Nat.le_trans (fT h (by omega)) (by omega)
 have HW:KQN 84 (isq f.natAbs) ((eK x n:Nat):Rat):=by
  rw[hr];exact z4A (Nat.le_trans (fT sk (by omega)) (by omega))
 have hM:KQ2 30 ((n:Nat):Rat) ((n:Nat):Rat) ((n:Rat)*(n:Rat)):=kq2 (z0d _ _ _ rfl ln ln);have hP:KQ2 30 x ((n:Rat)*(n:Rat)) (x*((n:Rat)*(n:Rat))):=kq2 (z0d _ _ _ rfl (o5lq hx (by omega) (by omega)) (o5lq qm (by decide) (by decide)));have hD:KQ2 83 ((eK x n:Nat):Rat) ((n:Nat):Rat) ((eK x n:Rat) / (n:Rat)):=kq2 (z5Y _ _ _ rfl n0 (o5lq qr (by omega) (by omega)) ln);have hA:KQ2 29 ((eK x n:Rat) / (n:Rat)) ((1:Rat) / (n:Rat)) ((eK x n:Rat) / (n:Rat)+1 / (n:Rat)):=kq2 (z5k _ _ _ rfl (o5lq qlo (by omega) (by omega)) (o5lq qfr (by decide) (by decide)));have hS:KQ2 30 ((eK x n:Rat) / (n:Rat)) ((eK x n:Rat) / (n:Rat)) ((eK x n:Rat) / (n:Rat)*((eK x n:Rat) / (n:Rat))):=kq2 (z0d _ _ _ rfl (o5lq qlo (by omega) (by omega)) (o5lq qlo (by omega) (by omega)));have hC:=kp2 (z5Z ((eK x n:Rat) / (n:Rat)*((eK x n:Rat) / (n:Rat))) x _ rfl (o5lq (qlo.mul qlo) (by omega) (by omega)) (o5lq hx (by omega) (by omega)));intro q W r
 cases he:eX x n with
 | true =>
   obtain⟨e1,e2⟩:=e_ex h0 h1 he;rw[e1];exact xC x _ _ _ _ _ _ _ _ (n:Int) f _ _ true q W (by rw[uI.2 e2];rfl) hI hM hP (o5Wh hf lp) (o5FN zk) HW hD (o5Fr h1 h2) hA hS hC r
 | false =>
   obtain⟨e1,e2,_⟩:=e_ne h0 h1 he
   have h:=xC x _ _ _ _ _ _ _ _ (n:Int) f _ _ false q W (by
    rw[beq_eq_false_iff_ne];intro h;have:=uI.1 h
    grind) hI hM hP (o5Wh hf lp) (o5FN zk) HW hD (o5Fr h1 h2) hA hS hC r
   rw[show cond false ((eK x n:Rat) / (n:Rat)) ((eK x n:Rat) / (n:Rat)+1 / (n:Rat))=(eH x n:Rat) / (n:Rat) by show(eK x n:Rat) / (n:Rat)+1 / (n:Rat)=(eH x n:Rat) / (n:Rat);rw[e1];grind]at h;exact h
theorem o5To {x:Rat}{k:Nat}(hx:SmQ k x)(hk:k≤900):KP1 81 x (.string (Sq x)):=kp1 (sQTo x _ rfl (hx.mono (Nat.le_trans hk (by decide))))
theorem z5y (n:Int):KPs 31 (.int .i64 n) (.bool (decide (1≤n∧n≤1000000000))):=fun W=>by
 by_cases h1:n<1
 · rw[decide_eq_false (fun h=>by omega)]
   have e1:decide (1≤n)=false:=decide_eq_false (by omega);have e2:¬ 1≤n:=by omega
   clear h1;go_enter func31,ntmps31
   go_wp2;go_ret
   exact⟨rfl,Below.refl _ _⟩
 · by_cases h2:1000000000<n
   · rw[decide_eq_false (fun h=>by omega)]
     have e1:decide (1≤n)=true:=decide_eq_true (by omega);have e2:1≤n:=by omega
     have e3:decide (n≤1000000000)=false:=decide_eq_false (by omega);have e4:¬ n≤1000000000:=by omega
     clear h1 h2;go_enter func31,ntmps31
     go_wp2;go_ret
     exact⟨rfl,Below.refl _ _⟩
   · rw[decide_eq_true (⟨by omega,by omega⟩:1≤n∧n≤1000000000)]
     have e1:decide (1≤n)=true:=decide_eq_true (by omega);have e2:1≤n:=by omega
     have e3:decide (n≤1000000000)=true:=decide_eq_true (by omega);have e4:n≤1000000000:=by omega
     clear h1 h2;go_enter func31,ntmps31
     go_wp2;go_ret
     exact⟨rfl,Below.refl _ _⟩
theorem z5r (n:Nat)(X:Nat→ByteArray)(z:Int)(hn:n≤8∨64<n)(hX:∀ j,j<n→(X j).size≤40)(w:World)(hla:La w) :
 ∃ s t er,(∀ a c W,Below w.heap.size w W→SR W a n c X→CR 7 #[.slice a n c,.int .i64 z] W (.tuple #[.agg #[.string s,.string t],.int .i64 er]))∧(∀ a c W,SR W a n c X→CR 9 #[.slice a n c,.int .i64 z] W (.tuple #[.agg #[.string s,.string t],.int .i64 er])):=by
 by_cases hb:64<n
 · exact⟨_,_,_,fun a c W _ _=>z0C a n c z hb W,fun a c W _=>z0Y a n c z hb W⟩
 have n8:n≤8:=by omega
 have each:∀ i,i<n→∃ q:Bool × Rat,KSb 28 (.string (X i)) q.2 q.1∧(q.1=true→X i=Sq q.2∧SmQ 40 q.2)∧(q.1=false→vldQ (X i).data.toList=false):=fun i hi=>by
  rcases g1 (X i) (hX i hi) with⟨x,e,hx⟩|hv
  · exact⟨(true,x),by rw[e];exact gF hx,fun _=>⟨e,hx⟩,(fun h=>nomatch h)⟩
  · obtain⟨x,hx⟩:=z6s (hX i hi) hv
    exact⟨(false,x),hx,(fun h=>nomatch h),fun _=>hv⟩
 obtain⟨Q,hQ⟩:=Go.Deep.choose_lt each;obtain⟨V,hVe⟩:∃ V:Nat→Bool,V=fun i=>(Q i).1:=⟨_,rfl⟩;obtain⟨q,hqe⟩:∃ x:Nat→Rat,x=fun i=>(Q i).2:=⟨_,rfl⟩;have hF:∀ i,i<n→KSb 28 (.string (X i)) (q i) (V i):=fun i hi=>by rw[hVe,hqe];exact(hQ i hi).1
 have hE:∀ i,i<n→V i=true→X i=Sq (q i)∧SmQ 40 (q i):=fun i hi h=>by rw[hVe]at h;rw[hqe];exact(hQ i hi).2.1 h
 have hN:∀ i,i<n→V i=false→vldQ (X i).data.toList=false:=fun i hi h=>by rw[hVe]at h;exact(hQ i hi).2.2 h
 clear hQ each hVe hqe;have hS:∀ m,m≤n→(∀ j,j<m→V j=true)→SmQ (81*m+1) (ssQ q m):=fun m hm h=>z3O m (fun j hj=>(hE j (by omega) (h j hj)).2)
 have v1:∀ i,i<n→CV w 24 #[.string (X i)] (.bool (V i)):=fun i hi=>by
  cases hv:V i with
  | true=>rw[(hE i hi hv).1];exact vcv (hE i hi hv).2 (by decide) w hla
  | false=>exact qvn (hN i hi hv) (by have:=hX i hi;omega) w hla
 have v2:∀ i,i<n→V i=true→CV w 26 #[.string (X i),.string (X i)] (.string (Sq (q i*q i))):=fun i hi hv=>by
  obtain⟨e,h⟩:=hE i hi hv;rw[e];exact fZ rfl (h.fit (by decide)) (h.fit (by decide)) w hla
 have v3:∀ i,i<n→(∀ j,j<i+1→V j=true)→CV w 25 #[.string (Sq (ssQ q i)),.string (Sq (q i*q i))] (.string (Sq (ssQ q (i+1)))):=fun i hi h=>by
  have h2:=(hE i hi (h i (by omega))).2;exact lU rfl ((hS i (by omega) (fun j hj=>h j (by omega))).fit (by omega)) ((h2.mul h2).fit (by decide)) w hla
 have m2:∀ i,i<n→V i=true→KQ2 30 (q i) (q i) (q i*q i):=fun i hi hv=>by
  have h:=(hE i hi hv).2;exact kq2 (z0d _ _ _ rfl (glq h) (glq h))
 have m3:∀ i,i<n→(∀ j,j<i+1→V j=true)→KQ2 29 (ssQ q i) (q i*q i) (ssQ q (i+1)):=fun i hi h=>by
  have h2:=(hE i hi (h i (by omega))).2;exact kq2 (z5k _ _ _ rfl (o5lq (hS i (by omega) (fun j hj=>h j (by omega))) (by omega) (by omega)) (o5lq (h2.mul h2) (by decide) (by decide)))
 have i0:KS 27 (.int .i64 0) 0:=ks (fun W=>z4m 0 0 0 rfl (by decide) rfl rfl W);have G:=z5y z
 have fin:∃ (s t:ByteArray) (er:Int) (lo hi:Rat),((∀ j,j<n→V j=true)→CV w 17 #[.string (Sq (ssQ q n)),.int .i64 z] (.tuple #[.agg #[.string s,.string t],.int .i64 er])) ∧
  (∀ bg,decide (1≤z∧z≤1000000000)=bg→(bg=false→s=⟨#[]⟩∧t=⟨#[]⟩∧er=2)∧(bg=true→er=0))∧(1≤z∧z≤1000000000→(∀ j,j<n→V j=true)→KEn 33 (ssQ q n) (.int .i64 z) lo hi∧KI2 32 lo hi (.agg #[.string s,.string t])):=by
  have s0:=pJ q n;by_cases hz:1≤z∧z≤1000000000
  · obtain⟨m,rfl⟩:∃ m:Nat,z=(m:Int):=⟨z.toNat,by omega⟩
    have m1:1≤m:=by omega
    have m9:m≤1000000000:=by omega
    have sn:=n_sm m9;have qn:SmQ 10 ((m:Nat):Rat):=z0G sn (by decide);refine⟨_,_,0,(eK (ssQ q n) m:Rat) / (m:Rat),(eH (ssQ q n) m:Rat) / (m:Rat),fun h=>rG s0 (hS n (Nat.le_refl _) h) (by omega) (by omega) m1 m9 w hla,fun bg hbg=>⟨fun h=>?_,fun _=>rfl⟩,fun _ h=>⟨z6n (by omega) (by omega) s0 (hS n (Nat.le_refl _) h) m1 m9,?_⟩⟩
    · rw[h]at hbg
      exact absurd hz (of_decide_eq_false hbg)
    · have hs:=hS n (Nat.le_refl _) h
      have k1:SmQ 800 ((eK (ssQ q n) m:Rat) / (m:Rat)):=((z0G (z08 s0 hs sn (by omega)) (by omega)).div qn (ig m1)).mono (by omega);have k2:SmQ 800 ((eH (ssQ q n) m:Rat) / (m:Rat)):=((z0G (z5W s0 hs sn (by omega)) (by omega)).div qn (ig m1)).mono (by omega);exact fun p q W h1 h2=>gTo _ _ _ _ p q W (o5To k1 (by decide)) (o5To k2 (by decide)) h1 h2
  · refine⟨⟨#[]⟩,⟨#[]⟩,2,0,0,fun h=>?_,fun bg hbg=>⟨fun _=>⟨rfl,rfl,rfl⟩,fun h=>?_⟩,fun h=>absurd h hz⟩
    · have hs:=hS n (Nat.le_refl _) h
      have sg:=kE hs (by omega) w hla;have fx:=hs.fit (by omega);have cv:CV w 39 #[.agg #[.string (Sq (ssQ q n)),.string (Sq (ssQ q n))]] (.bool true):=fun W hW=>pz _ _ Rat.le_refl fx fx W (hla.on hW);refine u7 _ _ _ _ _ w (fun W hW=>z3E _ fx W (hla.on hW)) ?_;by_cases h1:z<1
      · exact z6l _ _ z _ w cv sg (eZ s0) h1
      · exact z6m _ _ z _ w cv sg (eZ s0) (by omega)
    · rw[h]at hbg
      exact absurd (of_decide_eq_true hbg) hz
 obtain⟨s,t,er,lo,hi,f1,f2,f3⟩:=fin;obtain⟨bg,hbg⟩:∃ bg,decide (1≤z∧z≤1000000000)=bg:=⟨_,rfl⟩;rw[hbg]at G;have f2:=f2 bg hbg;have f3:bg=true→(∀ j,j<n→V j=true)→KEn 33 (ssQ q n) (.int .i64 z) lo hi∧KI2 32 lo hi (.agg #[.string s,.string t]):=fun h=>f3 (of_decide_eq_true (hbg.trans h))
 have r1:∀ a c W,Below w.heap.size w W→SR W a n c X→CR 7 #[.slice a n c,.int .i64 z] W (NoV V n s t er):=fun a c W hW hL =>
  z0D a n c X q V z s t er _ rfl (by omega) W hL (fun i hi=>(v1 i hi).mono hW) (fun i hi h=>(v2 i hi h).mono hW) (fun i hi h=>(v3 i hi h).mono hW) (fun h=>(f1 h).mono hW)
 have r2:∀ a c W,SR W a n c X→CR 9 #[.slice a n c,.int .i64 z] W (NoV V n s t er):=fun a c W hL =>
  z0Z a n c X V q z s t er bg lo hi _ rfl (by omega) W hL i0 hF m2 m3 G f2 (fun h1 h2=>(f3 h1 h2).1) (fun h1 h2=>(f3 h1 h2).2)
 obtain⟨s',t',er',e⟩:∃ s' t' er',NoV V n s t er=.tuple #[.agg #[.string s',.string t'],.int .i64 er']:=by
  unfold NoV
  split
  · exact⟨_,_,_,rfl⟩
  · exact⟨_,_,_,rfl⟩
 rw[e]at r1 r2;exact⟨s',t',er',r1,r2⟩
end Go.Proofs.YtkiklcbhglpooaaGreatDoor
open Go.Lib (hid)
namespace Go.Proofs.YtkiklcbhglpooaaGreatDoor
open Go.RowKit Go.Gb
theorem z2l (sa:Option Addr)(k c:Nat)(z:Int)(w₀:World)(h1:CV w₀ 6 #[.slice sa k c] (.bool true))(hla:Lb w₀) :
 CV w₀ 3 #[.slice sa k c,.int .i64 z] (.bool true):=by
 intro w hw;have C1:=hid (h1.mono hw);have HT:=hid (jq hla hw);clear hla h1 hw;go_enter func3,ntmps3
 have w9:=hid (Below.refl w.heap.size w);go_wp2_with fail
 with_reducible refine((gT _ (jq HT.o w9.o)).at).mono ?_
 rintro e W1 ⟨rfl,hb⟩;have u6:=hbt w9 hb;clear hb;go_wp2_with fail
 with_reducible refine(C1.o _ u6.o).mono ?_
 rintro e W2 ⟨rfl,hb⟩;have wo:=hbt u6 hb;clear hb;go_wp2_with fail
 with_reducible refine((gT _ (jq HT.o wo.o)).at).mono ?_
 rintro e W3 ⟨rfl,hb⟩;have wu:=hbt wo hb;clear hb;go_wp2;exact bodyPost_ret (v:=.bool true) (by simp[results,results3,go_sem]) rfl ⟨rfl,wu.o⟩
theorem z2k (sa:Option Addr)(k c:Nat)(z:Int)(w₀:World)(h1:CV w₀ 6 #[.slice sa k c] (.bool false))(hla:Lb w₀)(h8:8<k)(hq:k≠65) :
 CV w₀ 3 #[.slice sa k c,.int .i64 z] (.bool true):=by
 intro w hw;have C1:=hid (h1.mono hw);have HT:=hid (jq hla hw);clear hla;have k0:(8:Int)<(k:Int):=by omega
 have k1:((k:Int)==65)=false:=by simp;omega
 have k2:¬ (k:Int)=65:=by omega
 have k3:decide ((k:Int)=65)=false:=by simp;omega
 have k4:((k:Int) != 65)=true:=by simp;omega
 have k5:¬ k=65:=hq;clear h8 hq h1 hw;go_enter func3,ntmps3
 have w9:=hid (Below.refl w.heap.size w);go_wp2_with fail
 with_reducible refine((gT _ (jq HT.o w9.o)).at).mono ?_
 rintro e W1 ⟨rfl,hb⟩;have u6:=hbt w9 hb;clear hb;go_wp2_with fail
 with_reducible refine(C1.o _ u6.o).mono ?_
 rintro e W2 ⟨rfl,hb⟩;have wo:=hbt u6 hb;clear hb;go_wp2_with fail
 with_reducible refine((gT _ (jq HT.o wo.o)).at).mono ?_
 rintro e W3 ⟨rfl,hb⟩;have wu:=hbt wo hb;clear hb;go_wp2;exact bodyPost_ret (v:=.bool true) (by simp[results,results3,go_sem]) rfl ⟨rfl,wu.o⟩
theorem z4n (sa:Option Addr)(k c:Nat)(z:Int)(X:Nat→ByteArray)(s1 t1:ByteArray)(e1:Int)(w₀:World)(h1:CV w₀ 6 #[.slice sa k c] (.bool false))(h6:CV w₀ 9 #[.slice sa k c,.int .i64 z] (.tuple #[.agg #[.string s1,.string t1],.int .i64 e1]))(hla:Lb w₀)(h8:k≤8)(h2:∀ W,Below w₀.heap.size w₀ W→Calls Tryz.prog 8 #[.slice sa k c] W fun e w'=>∃ a2 c2,e=.returned (.slice a2 k c2)∧SR w' a2 k c2 X∧Below W.heap.size W w')(h3:∀ a' c' W,Below w₀.heap.size w₀ W→SR W a' k c' X→CR 7 #[.slice a' k c',.int .i64 z] W (.tuple #[.agg #[.string s1,.string t1],.int .i64 e1])) :
 CV w₀ 3 #[.slice sa k c,.int .i64 z] (.bool true):=by
 intro w hw;obtain ⟨C1,C6,HT⟩:=av (h1.mono hw) (h6.mono hw) (jq hla hw);have CC:=hid (fun W (hW:Below w.heap.size w W)=>h2 W (hw.trans (hW.mono hw.size)));have CG:=hid (fun a' c' W (hW:Below w.heap.size w W)=>h3 a' c' W (hw.trans (hW.mono hw.size)));clear hla h2 h3;have k0:¬ (8:Int)<(k:Int):=by omega
 clear h8 h1 h6 hw;go_enter func3,ntmps3
 have w9:=hid (Below.refl w.heap.size w);go_wp2_with fail
 with_reducible refine((gT _ (jq HT.o w9.o)).at).mono ?_
 rintro e W1 ⟨rfl,hb⟩;have u6:=hbt w9 hb;clear hb;go_wp2_with fail
 with_reducible refine(C1.o _ u6.o).mono ?_
 rintro e W2 ⟨rfl,hb⟩;have wo:=hbt u6 hb;clear hb;go_wp2_with fail
 with_reducible refine((CC.o _ wo.o)).mono ?_
 rintro e W3 ⟨dn,dx,rfl,rq,hb⟩;have wu:=hbt wo hb;have RS:=hid rq;clear hb rq;go_wp2_with fail
 with_reducible refine((CG.o _ _ _ wu.o RS.o)).mono ?_
 rintro e W4 ⟨rfl,hb⟩;have p9:=hbt wu hb;clear hb;go_upto_region 4 with fail
 refine aG W4 [(#[.string s1,.string t1],27)] rfl ?_;have L1:=p9.o.size;rintro W5 ⟨k1,hb⟩;have hb:Below W4.heap.size W4 W5:=hb;have pq:=hbt p9 hb;have K1:=hid k1;clear k1 hb;go_wp2_with fail
 with_reducible refine(C6.o _ pq.o).mono ?_
 rintro e W6 ⟨rfl,hb⟩;have K1:=hid (K1.o.below hb);have pu:=hbt pq hb;clear hb;go_upto_region 5 with fail
 refine aG W6 [(#[.string s1,.string t1],27)] rfl ?_;have L2:=K1.o.lt;have L3:=pu.o.size;rintro W7 ⟨k2,hb⟩;have hb:Below W6.heap.size W6 W7:=hb;have K1:=hid (K1.o.below hb);have lv:=hbt pu hb;have K2:=hid k2;clear k2 hb;obtain ⟨sw,p8⟩:=ay K1.o rfl rfl;obtain ⟨ru,oM⟩:=ay K2.o rfl rfl;go_wp2;exact bodyPost_ret (v:=.bool true) (by simp[results,results3,go_sem]) rfl ⟨rfl,lv.o⟩
theorem z5n (sa:Option Addr)(k c:Nat)(z:Int)(X:Nat→ByteArray)(s1 t1:ByteArray)(e1:Int)(w₀:World)(h1:CV w₀ 6 #[.slice sa k c] (.bool false))(h6:CV w₀ 9 #[.slice sa k c,.int .i64 z] (.tuple #[.agg #[.string s1,.string t1],.int .i64 e1]))(hla:Lb w₀)(hq:k=65)(h2:∀ W,Below w₀.heap.size w₀ W→Calls Tryz.prog 8 #[.slice sa k c] W fun e w'=>∃ a2 c2,e=.returned (.slice a2 k c2)∧SR w' a2 k c2 X∧Below W.heap.size W w')(h3:∀ a' c' W,Below w₀.heap.size w₀ W→SR W a' k c' X→CR 7 #[.slice a' k c',.int .i64 z] W (.tuple #[.agg #[.string s1,.string t1],.int .i64 e1])) :
 CV w₀ 3 #[.slice sa k c,.int .i64 z] (.bool true):=by
 intro w hw;obtain ⟨C1,C6,HT⟩:=av (h1.mono hw) (h6.mono hw) (jq hla hw);have CC:=hid (fun W (hW:Below w.heap.size w W)=>h2 W (hw.trans (hW.mono hw.size)));have CG:=hid (fun a' c' W (hW:Below w.heap.size w W)=>h3 a' c' W (hw.trans (hW.mono hw.size)));clear hla h2 h3;have k0:(8:Int)<(k:Int):=by omega
 have k1:((k:Int)==65)=true:=by simp;omega
 have k3:decide ((k:Int)=65)=true:=by simp;omega
 have k4:((k:Int) != 65)=false:=by simp;omega
 have k2:(k:Int)=65:=by omega
 clear hq h1 h6 hw;go_enter func3,ntmps3
 have w9:=hid (Below.refl w.heap.size w);go_wp2_with fail
 with_reducible refine((gT _ (jq HT.o w9.o)).at).mono ?_
 rintro e W1 ⟨rfl,hb⟩;have u6:=hbt w9 hb;clear hb;go_wp2_with fail
 with_reducible refine(C1.o _ u6.o).mono ?_
 rintro e W2 ⟨rfl,hb⟩;have wo:=hbt u6 hb;clear hb;go_wp2_with fail
 with_reducible refine((CC.o _ wo.o)).mono ?_
 rintro e W3 ⟨dn,dx,rfl,rq,hb⟩;have wu:=hbt wo hb;have RS:=hid rq;clear hb rq;go_wp2_with fail
 with_reducible refine((CG.o _ _ _ wu.o RS.o)).mono ?_
 rintro e W4 ⟨rfl,hb⟩;have p9:=hbt wu hb;clear hb;go_upto_region 4 with fail
 refine aG W4 [(#[.string s1,.string t1],27)] rfl ?_;have L1:=p9.o.size;rintro W5 ⟨k1,hb⟩;have hb:Below W4.heap.size W4 W5:=hb;have pq:=hbt p9 hb;have K1:=hid k1;clear k1 hb;go_wp2_with fail
 with_reducible refine(C6.o _ pq.o).mono ?_
 rintro e W6 ⟨rfl,hb⟩;have K1:=hid (K1.o.below hb);have pu:=hbt pq hb;clear hb;go_upto_region 5 with fail
 refine aG W6 [(#[.string s1,.string t1],27)] rfl ?_;have L2:=K1.o.lt;have L3:=pu.o.size;rintro W7 ⟨k2,hb⟩;have hb:Below W6.heap.size W6 W7:=hb;have K1:=hid (K1.o.below hb);have lv:=hbt pu hb;have K2:=hid k2;clear k2 hb;obtain ⟨sw,p8⟩:=ay K1.o rfl rfl;obtain ⟨ru,oM⟩:=ay K2.o rfl rfl;go_wp2;exact bodyPost_ret (v:=.bool true) (by simp[results,results3,go_sem]) rfl ⟨rfl,lv.o⟩
theorem yF (a:Option Addr)(k c:Nat)(X:Nat→ByteArray)(z:Int)(_hz1 : -9223372036854775808≤z)(_hz2:z≤9223372036854775807)(w:World)(hl:Lb w)(hs:SR w a k c X) :
 CR 3 #[.slice a k c,.int .i64 z] w (.bool true):=by
 have few:∀ b,((List.range k).all fun j=>decide ((X j).size≤40)) = !b→CV w 6 #[.slice a k c] (.bool b):=fun b hb W hW=>yY a k c X b hb W (hs.below hW)
 cases hf:(List.range k).all fun j=>decide ((X j).size≤40) with
 | false=>exact(z2l a k c z w (few true hf) hl).at
 | true =>
   by_cases hn:8<k∧k≠65
   · exact(z2k a k c z w (few false hf) hl hn.1 hn.2).at
   · have hX:∀ j,j<k→(X j).size≤40:=fun j hj=>by
        rw[List.all_eq_true]at hf;simpa using hf j (List.mem_range.2 hj)
     obtain⟨s1,t1,e1,k1,k2⟩:=z5r k X z (by omega) hX w hl.1;have hc:=fun W (hW:Below w.heap.size w W)=>z5p a k c X (by omega) W (hs.below hW);by_cases h8:k≤8
     · exact(z4n a k c z X s1 t1 e1 w (few false hf) (fun W hW=>k2 a c W (hs.below hW)) hl h8 hc k1).at
     · exact(z5n a k c z X s1 t1 e1 w (few false hf) (fun W hW=>k2 a c W (hs.below hW)) hl (by omega) hc k1).at
end Go.Proofs.YtkiklcbhglpooaaGreatDoor
namespace Go.Proofs.YtkiklcbhglpooaaGreatDoor
open Go.ChangeShapes Go.WideShapes Go.ChangeAt Go.WideMaps Go.WideElems Go.RowKit Go.Gb Go.Joins
open Go.ChangeMaps (open_string shut_string)
end Go.Proofs.YtkiklcbhglpooaaGreatDoor
namespace Go.Proofs.YtkiklcbhglpooaaGreatDoor
open Go.ChangeShapes Go.WideShapes Go.ChangeAt Go.WideMaps Go.WideElems Go.RowKit Go.Gb
theorem gSet:Tryz.prog.globalNamed "garboard/root.settled" = some 0:=by kernel_rfl
theorem z2V:(Tryz.prog.globals[0]?).map (·.type)=some 124:=by kernel_rfl
def jF:List (String × DataW Unit):=[("math/bits.deBruijn32tab",Rows.laid_math_bits_deBruijn32tab),("math/bits.deBruijn64tab",Rows.laid_math_bits_deBruijn64tab),("internal/strconv.uint64pow10",Rows.laid_internal_strconv_uint64pow10),("strconv.ErrRange",Rows.laid_strconv_ErrRange),("strconv.ErrSyntax",Rows.laid_strconv_ErrSyntax),("garboard/integer.zero",Rows.laid_garboard_integer_zero),("garboard/root.settled",Rows.laid_garboard_root_settled)]
theorem vN {W:World}(h:laidMetH Tryz.prog jF W):Lb W:=by
 rw[MakeChecks.laidMetH_plain _ _ _ (by kernel_rfl)]at h;obtain⟨ps,⟨g0,t0,cs0,f0,p0,q0,hg0,ht0,hv0,hd0,⟨g1,t1,cs1,f1,p1,q1,hg1,ht1,hv1,hd1,⟨g2,t2,cs2,f2,p2,q2,hg2,ht2,hv2,hd2,⟨g3,t3,cs3,f3,p3,q3,hg3,ht3,hv3,hd3,⟨g4,t4,cs4,f4,p4,q4,hg4,ht4,hv4,hd4,⟨g5,t5,cs5,f5,p5,q5,hg5,ht5,hv5,hd5,⟨g6,t6,cs6,f6,p6,q6,hg6,ht6,hv6,hd6,_,_⟩,_⟩,_⟩,_⟩,_⟩,_⟩,_⟩,_,_⟩:=h;obtain rfl:=Option.some.inj (gTab.symm.trans hg2);obtain rfl:=Option.some.inj (z2U.symm.trans ht2);obtain rfl:=Option.some.inj (z4H.symm.trans hg5);obtain rfl:=Option.some.inj (z19.symm.trans ht5);obtain rfl:=Option.some.inj (gSet.symm.trans hg6);obtain rfl:=Option.some.inj (z2V.symm.trans ht6);refine⟨⟨?_,?_⟩,?_⟩
 · unfold Tb Lib.TabIs
   rw[hv2];congr 1
   apply Array.ext'
   rw[Lib.cells_of_tab (k:=.u64) (zs:=Lib.pow10Tab) underlying256 underlying133 z3q z3r hd2]
 · obtain⟨k0,k1,hu,e0,o0,e1,o1⟩:∃ k0 k1:Field,Tryz.prog.underlying 172=some (.struct #[k0,k1])∧k0.type=3∧k0.offset=0∧k1.type=9∧k1.offset=1:=⟨_,_,underlying172,rfl,rfl,rfl,rfl⟩
   obtain⟨y0,y1,n,hx,hlen,h0,h1⟩:=trod_struct2 hu hd5;rw[e0,o0]at h0;rw[e1,o1]at h1;obtain⟨m,hc0,hy0,_⟩:=DataW.trod_int underlying3 h0;obtain⟨s,hc1,hy1,_⟩:=DataW.trod_string underlying9 h1;subst hy0 hy1;have hc:Tryz.prog.cellsOf 172=2:=by kernel_rfl
   have hci:Tryz.prog.cellsOf 3=1:=by kernel_rfl
   have hcs:Tryz.prog.cellsOf 9=1:=by kernel_rfl
   rw[hc]at hlen;rw[hci]at hc0;rw[hcs]at hc1
   have hd:m=0∧s.data.toList=[48]:=by
    have:=congrArg Prod.fst hx;simpa [Rows.laid_garboard_integer_zero,eq_comm] using this
   obtain⟨rfl,hs⟩:=hd
   have hs':s=⟨#[48]⟩:=by
    cases s with
    | mk d=>exact congrArg ByteArray.mk (Array.ext' hs)
   subst hs'
   have hl:cs5.toList=[.int .i64 0,.string ⟨#[48]⟩]:=by
    match hcs5:cs5.toList,hlen with
    | [a,b],_ =>
      rw[hcs5]at hc0 hc1;simp at hc0 hc1
      rw[hc0,hc1]
   have g0':=World.var?_cell z4H hv5 0;have g1':=World.var?_cell z4H hv5 1;have ha:cs5=#[.int .i64 0,.string ⟨#[48]⟩]:=Array.ext' hl;rw[ha]at g0' g1';have c0:W.cell? ⟨1,0,none⟩=some (.int .i64 0):=by simpa using g0'
   have c1:W.cell? ⟨1,1,none⟩=some (.string ⟨#[48]⟩):=by simpa using g1'
   exact⟨World.block_lt_of_cell? W _ c0,c0,c1⟩
 · obtain⟨xs,m,_,hx,hlen,hl,hel⟩:=DataW.trod_array underlying124 hd6
   have hc9:Tryz.prog.cellsOf 124=9:=by kernel_rfl
   have hc3:Tryz.prog.cellsOf 123=3:=by kernel_rfl
   have hc1:Tryz.prog.cellsOf 3=1:=by kernel_rfl
   rw[hc9]at hlen;rw[hc3]at hel
   have hd:xs.map (·.1)=[.agg [.lit (.int .i64 (-1)),.lit (.int .i64 (-1)),.lit (.int .i64 2)],.agg [.lit (.int .i64 (-1)),.lit (.int .i64 0),.lit (.int .i64 1)],.agg [.lit (.int .i64 2),.lit (.int .i64 1),.lit (.int .i64 1)]]:=by
    have:=congrArg Prod.fst hx;simpa [Rows.laid_garboard_root_settled,eq_comm] using this
   have k0:=hel 0 (by decide);have k1:=hel 1 (by decide);have k2:=hel 2 (by decide);clear hel hx
   match xs,hl,hd with
   | [(r0,p0),(r1,p1),(r2,p2)],_,hd =>
     simp only[List.map_cons,List.map_nil,List.cons.injEq,and_true]at hd;obtain⟨e0,e1,e2⟩:=hd;subst e0 e1 e2;have c0:=Lib.cells_of_tab (k:=.i64) (zs:=[-1,-1,2]) underlying123 underlying3 hc1 hc3 k0;have c1:=Lib.cells_of_tab (k:=.i64) (zs:=[-1,0,1]) underlying123 underlying3 hc1 hc3 k1;have c2:=Lib.cells_of_tab (k:=.i64) (zs:=[2,1,1]) underlying123 underlying3 hc1 hc3 k2
     have hcs:cs6.toList=[.int .i64 (-1),.int .i64 (-1),.int .i64 2,.int .i64 (-1),.int .i64 0,.int .i64 1,.int .i64 2,.int .i64 1,.int .i64 1]:=by
       have e:cs6.toList=(cs6.toList.drop (0*3)).take 3++((cs6.toList.drop (1*3)).take 3++(cs6.toList.drop (2*3)).take 3):=by
        match cs6.toList,hlen with
        | [_,_,_,_,_,_,_,_,_],_=>rfl
       rw[e,c0,c1,c2];rfl
     have ha:cs6=#[.int .i64 (-1),.int .i64 (-1),.int .i64 2,.int .i64 (-1),.int .i64 0,.int .i64 1,.int .i64 2,.int .i64 1,.int .i64 1]:=Array.ext' hcs
     have hcell:∀ i v,(#[.int .i64 (-1),.int .i64 (-1),.int .i64 2,.int .i64 (-1),.int .i64 0,.int .i64 1,.int .i64 2,.int .i64 1,.int .i64 1]:Array Value)[i]? = some v→W.cell? ⟨0,i,none⟩=some v:=fun i v hv=>by
       have g:=World.var?_cell gSet hv6 i;rw[ha]at g;exact g.trans hv
     exact⟨World.block_lt_of_cell? W _ (hcell 0 _ rfl),hcell⟩
theorem z1l (os:Os)(args:Array Value):laidMetH Tryz.prog jF ((World.doorLaid Tryz.prog 4000 os).forCall (fun _ _=>0) ⟨#[],args,[]⟩).memory:=by
 rw[MakeChecks.laidMetH_plain _ _ _ (by kernel_rfl)];exact laidMet_of_run' 8 (by kernel_rfl) (by kernel_rfl)
end Go.Proofs.YtkiklcbhglpooaaGreatDoor
namespace Go.Proofs.YtkiklcbhglpooaaGreatDoor
theorem uo {x:Int}(h:(Lit.int .i64 x).wf=true) : -9223372036854775808≤x∧x≤9223372036854775807:=by
 have h1:IntKind.i64.min≤x∧x≤IntKind.i64.max:=by simpa [Lit.wf] using h
 exact⟨Int.le_trans (show(-9223372036854775808:Int)≤IntKind.i64.min by decide) h1.1,Int.le_trans h1.2 (show IntKind.i64.max≤9223372036854775807 by decide)⟩
open Go.ChangeShapes Go.WideShapes Go.ChangeAt Go.WideMaps Go.WideElems Go.RowKit Go.Gb Go.Joins Go.Deep
open Go.ChangeMaps (open_string shut_string)
theorem z0t {H:Type}{enc:TypeId × Value→H}{P:Program}{f:Func}{s:ChangeSpec}{apart fresh handsOn:Bool}{W W':World}{args:Array Value}{v:Value}{ds gs:List (DataW H)}{ps pa:List MemPlace}
 (hW:DataW.Whole enc P f.params.toList s.vars apart W args.toList ds gs ps)
 (hres:∀ (b:Nat) (sp:Nat→Bool) (hd:Bool),DataW.TrodAll enc P W' b sp hd f.resultTypes.toList (v.resultList f.resultTypes.size) (s.fn H (ds++gs)).results [])
 (hargs:DataW.TrodAll enc P W' 0 (fun b=>decide (b<W.heap.size)) true f.params.toList args.toList (s.fn H (ds++gs)).args pa)
 (hvars:∀ sp:Nat→Bool,DataW.TrodVars enc P W' sp s.vars (s.fn H (ds++gs)).vars [])
 (hk:W.keptBut W' (fun _=>False)):s.post enc P f apart fresh handsOn false W args v W' :=
 ⟨ds,gs,ps,[],pa,[],hW,hres _ _ _,hargs,hvars _,World.keptBut_mono (fun p hp=>hp.elim) hk,fun h=>by cases h⟩
theorem laidOut:laidOutB Tryz.prog=true:=by kernel_rfl
set_option maxRecDepth 100000 in
theorem z0A {H:Type}{enc:TypeId × Value→H}{W:World}{b0:Nat}{r:Reach}{v:Value}{d:DataW H}{p:List MemPlace}
 (hv:Value.okWide Tryz.prog W r b0 22 v) (h:DataW.Trod enc Tryz.prog W 0 (fun _=>true) true 22 v d p) (hlt:∀ x∈p,x.block<W.heap.size) :
 ∃ a n c X,v=.slice a n c∧SR W a n c X:=by
 obtain⟨a0,len,cap,rfl⟩:=okWide_slice underlying22 hv;obtain⟨fuel,hf⟩:=h;have hR:Tryz.prog.cellsOf 25=1:=by kernel_rfl
 rcases open_slice underlying22 hf with⟨hcs,hx⟩|⟨a,len',cap',m,n,D,Pl,hcs,_,hl,hm,hmm,hx,hel⟩
 · simp[Value.cells]at hcs
   obtain⟨rfl,rfl,rfl⟩:=hcs;exact⟨none,0,0,fun _=>⟨#[]⟩,rfl,Or.inl rfl⟩
 · simp[Value.cells]at hcs
   obtain⟨rfl,rfl,rfl⟩:=hcs;simp only[Prod.mk.injEq]at hx;simp only[if_true]at hmm;by_cases h0:len=0
   · exact⟨some a,len,cap,fun _=>⟨#[]⟩,rfl,Or.inl h0⟩
   have each:∀ i,i<m→∃ s:ByteArray,W.cell? (a.add i)=some (.string s):=by
    intro i hi;obtain⟨cs',h1,h2⟩:=hel i hi;rw[hR,Nat.mul_one]at h1;obtain⟨_,hlen,hcell⟩:=World.cells?_some h1;obtain⟨x,b0,_,_⟩:=DataW.trod_string underlying25 h2
    match cs',hlen with
    | [c0],_ =>
      simp at b0
      subst b0;have e0:=hcell 0 (by omega);rw[add_add]at e0;exact⟨x,by simpa using e0⟩
   obtain⟨S,hS⟩:=choose_lt each;obtain⟨g,o,spot⟩:=a;have hspot:spot=none:=by simpa [Addr.add] using World.cell?_spot (hS 0 (by omega))
   subst hspot;refine⟨some ⟨g,o,none⟩,len,cap,S,rfl,Or.inr ⟨g,o,rfl,hl,hm,hlt (.cell g o) ?_,fun j hj=>?_⟩⟩
   · rw[hx.2]
     exact List.mem_append_left _ (MemPlace.mem_row.2 ⟨0,by rw[hR];omega,by simp⟩)
   · have c0:=hS j (by omega)
     rwa [add_plain]at c0
