/- texts -/
import Derived.Test.YtcchkjpdchcjpaaGreatDoorMz47q
import Derived.Test.YtcchkjpdchcjpaaGreatDoorOz
import Derived.Test.YtcchkjpdchcjpaaGreatDoorYa
open Go.Proofs.Tryz
set_option maxRecDepth 100000
set_option maxHeartbeats 20000000
open Go.Lib (hid)
namespace Go.Proofs.YtcchkjpdchcjpaaGreatDoor
open Go.RowKit Go.Gb
abbrev Lb (w:World):Prop:=La w∧Stt w
theorem lu {w w':World}(h:Lb w)(hb:Below w.heap.size w w'):Lb w':=⟨h.1.on hb,h.2.on hb⟩
theorem so20 {q:Rat}(h1:q.num.natAbs<1000)(h2:q.den<1000):SmQ 20 q:=⟨(show Sm 3 _ by unfold Sm;omega).mono (by decide),(show Sm 3 _ by unfold Sm;omega).mono (by decide)⟩
theorem xA {x:Rat}{n s:Nat}(m:Nat)(h:(x*((n:Rat)*(n:Rat))).floor.toNat=m)(h1:s*s≤m)(h2:m<(s+1)*(s+1)):eK x n=s:=by
 unfold eK rk
 rw[h];exact mG h1 h2
theorem z5E {x:Rat}{n s:Nat}(hk:eK x n=s)(h:decide (((s:Nat):Rat)*((s:Nat):Rat)=x*((n:Rat)*(n:Rat)))=false):eH x n=s+1:=by
 unfold eH eX
 rw[hk,h];rfl
theorem z3Y {x:Rat}{n s:Nat}(hk:eK x n=s)(h:decide (((s:Nat):Rat)*((s:Nat):Rat)=x*((n:Rat)*(n:Rat)))=true):eH x n=s:=by
 unfold eH eX
 rw[hk,h];rfl
theorem oq_2:Sq (2:Rat)=⟨#[50]⟩:=by decide +kernel
theorem oq_3:Sq (3:Rat)=⟨#[51]⟩:=by decide +kernel
theorem oq_4:Sq (4:Rat)=⟨#[52]⟩:=by decide +kernel
theorem oq_9:Sq (9:Rat)=⟨#[57]⟩:=by decide +kernel
theorem z5x:Sq (16:Rat)=⟨#[49,54]⟩:=by decide +kernel
theorem z4H:Sq (25:Rat)=⟨#[50,53]⟩:=by decide +kernel
theorem z5w:Sq (-2:Rat)=⟨#[45,50]⟩:=by decide +kernel
theorem z3b:Sq (9/4:Rat)=⟨#[57,47,52]⟩:=by decide +kernel
theorem z4G:Sq (3/2:Rat)=⟨#[51,47,50]⟩:=by decide +kernel
theorem e2_k:eK (2:Rat) 10=14:=xA 200 (by decide +kernel) (by decide) (by decide)
theorem e2_h:eH (2:Rat) 10=15:=z5E e2_k (by decide +kernel)
theorem z4R:eK (9/4:Rat) 2=3:=xA 9 (by decide +kernel) (by decide) (by decide)
theorem z5F:eH (9/4:Rat) 2=3:=z3Y z4R (by decide +kernel)
theorem e9_k:eK (9:Rat) 10=30:=xA 900 (by decide +kernel) (by decide) (by decide)
theorem e9_h:eH (9:Rat) 10=30:=z3Y e9_k (by decide +kernel)
theorem z4S:eK (25:Rat) 7=35:=xA 1225 (by decide +kernel) (by decide) (by decide)
theorem z5G:eH (25:Rat) 7=35:=z3Y z4S (by decide +kernel)
theorem z1M (w:World)(hla:La w):CV w 10 #[.string ⟨#[50]⟩,.int .i64 10] (.tuple #[.agg #[.string ⟨#[55,47,53]⟩,.string ⟨#[51,47,50]⟩],.int .i64 0]):=by
 have h:=uR (x:=2) (n:=10) (k:=20) (by decide +kernel) (so20 (by decide +kernel) (by decide +kernel)) (by decide) (by decide) (by decide) (by decide) w hla;rw[e2_k,e2_h,oq_2,show Sq (((14:Nat):Rat) / ((10:Nat):Rat))=⟨#[55,47,53]⟩from by decide +kernel,show Sq (((15:Nat):Rat) / ((10:Nat):Rat))=⟨#[51,47,50]⟩from by decide +kernel]at h;exact h
theorem z1L (w:World)(hla:La w):CV w 10 #[.string ⟨#[57,47,52]⟩,.int .i64 2] (.tuple #[.agg #[.string ⟨#[51,47,50]⟩,.string ⟨#[51,47,50]⟩],.int .i64 0]):=by
 have h:=uR (x:=(9/4)) (n:=2) (k:=20) (by decide +kernel) (so20 (by decide +kernel) (by decide +kernel)) (by decide) (by decide) (by decide) (by decide) w hla;rw[z4R,z5F,z3b,show Sq (((3:Nat):Rat) / ((2:Nat):Rat))=⟨#[51,47,50]⟩from by decide +kernel]at h;exact h
theorem z1K (w:World)(hla:La w):CV w 10 #[.string ⟨#[50,53]⟩,.int .i64 7] (.tuple #[.agg #[.string ⟨#[53]⟩,.string ⟨#[53]⟩],.int .i64 0]):=by
 have h:=uR (x:=25) (n:=7) (k:=20) (by decide +kernel) (so20 (by decide +kernel) (by decide +kernel)) (by decide) (by decide) (by decide) (by decide) w hla;rw[z4S,z5G,z4H,show Sq (((35:Nat):Rat) / ((7:Nat):Rat))=⟨#[53]⟩from by decide +kernel]at h;exact h
theorem z3D (w:World)(hl:Lb w):CV w 6 #[.string ⟨#[51]⟩,.string ⟨#[45,50]⟩,.string ⟨#[50]⟩] (.tuple #[.int .i64 1,.int .i64 0]):=by
 have h:=z0n (a:=3) (b := -2) (c:=2) (k:=20) (so20 (by decide +kernel) (by decide +kernel)) (so20 (by decide +kernel) (by decide +kernel)) (so20 (by decide +kernel) (by decide +kernel)) (by decide) (by decide) (by decide +kernel) w hl.1 hl.2;rw[show j5 3 (-2) 2=1 from by decide +kernel,oq_3,z5w,oq_2]at h;exact h
theorem yh (w:World)(hl:Lb w):CV w 8 #[.string ⟨#[50]⟩,.string ⟨#[51]⟩,.string ⟨#[51]⟩,.string ⟨#[50]⟩] (.tuple #[.int .i64 (-1),.int .i64 0]):=by
 have h:=pE (a:=2) (b:=3) (c:=3) (d:=2) (m := -3) (k:=20) (by decide +kernel) (so20 (by decide +kernel) (by decide +kernel)) (so20 (by decide +kernel) (by decide +kernel)) (so20 (by decide +kernel) (by decide +kernel)) (so20 (by decide +kernel) (by decide +kernel)) (so20 (by decide +kernel) (by decide +kernel)) (by decide) (by decide +kernel) (by decide +kernel) w hl.1 hl.2;rw[show sosQ 2 3 (-3) 2 = -1 from by decide +kernel,oq_2,oq_3]at h;exact h
theorem wL:sK (9 / 4)=3 / 2:=by
 unfold sK
 rw[show((9:Rat) / 4).num.natAbs=9 from by decide +kernel,show((9:Rat) / 4).den=4 from by decide +kernel,mG (n:=9) (s:=3) (by decide) (by decide),mG (n:=4) (s:=2) (by decide) (by decide)];decide +kernel
theorem z1N (w:World)(hla:La w):CV w 11 #[.string ⟨#[57,47,52]⟩] (.tuple #[.string ⟨#[51,47,50]⟩,.bool true,.int .i64 0]):=by
 have h:=yC (x:=9 / 4) (k:=20) (by decide +kernel) (so20 (by decide +kernel) (by decide +kernel)) (by decide) (by decide) (by rw[wL];decide +kernel) w hla;rw[wL,z3b,z4G]at h;exact h
theorem z5v (w:World)(hla:La w):CV w 12 #[.agg #[.string ⟨#[50]⟩,.string ⟨#[57]⟩],.int .i64 10] (.tuple #[.agg #[.string ⟨#[55,47,53]⟩,.string ⟨#[51]⟩],.int .i64 0]):=by
 have h:=z4J (x:=2) (y:=9) (n:=10) (k:=20) (by decide +kernel) (by decide +kernel) (so20 (by decide +kernel) (by decide +kernel)) (so20 (by decide +kernel) (by decide +kernel)) (by decide) (by decide) (by decide) (by decide) w hla;rw[e2_k,e9_h,oq_2,oq_9,show Sq (((14:Nat):Rat) / ((10:Nat):Rat))=⟨#[55,47,53]⟩from by decide +kernel,show Sq (((30:Nat):Rat) / ((10:Nat):Rat))=⟨#[51]⟩from by decide +kernel]at h;exact h
theorem z3E (g:Nat)(w:World)(hla:La w)(k:SBk w g #[.string ⟨#[51]⟩,.string ⟨#[52]⟩] 22):CV w 13 #[.slice (some ⟨g,0,none⟩) 2 2,.int .i64 7] (.tuple #[.agg #[.string ⟨#[53]⟩,.string ⟨#[53]⟩],.int .i64 0]):=by
 have f0:FitQ (0:Rat):=(show SmQ 1 (0:Rat) from⟨by unfold Sm;decide,by unfold Sm;decide⟩).fit (by decide);have f:∀ {q:Rat},q.num.natAbs<1000→q.den<1000→FitQ q:=fun h1 h2=>(so20 h1 h2).fit (by decide);have v3:=vcv (x:=3) (so20 (by decide +kernel) (by decide +kernel)) (by decide) w hla;have v4:=vcv (x:=4) (so20 (by decide +kernel) (by decide +kernel)) (by decide) w hla;have t1:=fZ (x:=3) (y:=3) (z:=9) (by decide +kernel) (f (by decide +kernel) (by decide +kernel)) (f (by decide +kernel) (by decide +kernel)) w hla;have p1:=nA (x:=0) (y:=9) (z:=9) (by decide +kernel) f0 (f (by decide +kernel) (by decide +kernel)) w hla;have t2:=fZ (x:=4) (y:=4) (z:=16) (by decide +kernel) (f (by decide +kernel) (by decide +kernel)) (f (by decide +kernel) (by decide +kernel)) w hla;have p2:=nA (x:=9) (y:=16) (z:=25) (by decide +kernel) (f (by decide +kernel) (by decide +kernel)) (f (by decide +kernel) (by decide +kernel)) w hla;rw[oq_3]at v3 t1;rw[oq_4]at v4 t2;rw[oq_9]at t1 p1 p2;rw[zH]at p1;rw[z5x]at t2 p2;rw[z4H]at p2;exact yt g _ _ _ _ _ _ _ _ _ _ w v3 t1 p1 v4 t2 p2 (z1K w hla) k
theorem lh  (w₀:World)  (hla:Lb w₀) :
 CV w₀ 4 #[] (.bool true):=by
 intro w hw;have HT:=hid (lu hla hw);clear hla hw;go_enter func4,ntmps4
 have u6:=hid (Below.refl w.heap.size w);go_wp2_with fail
 with_reducible refine((z1M _ (lu HT.o u6.o).1).at).mono ?_
 rintro e W1 ⟨rfl,hb⟩;have w9:=hbt u6 hb;clear hb;go_upto_region 2 with fail
 refine aA W1 [(#[.string ⟨#[55,47,53]⟩,.string ⟨#[51,47,50]⟩],31)] rfl ?_;have L1:=w9.o.size;rintro W2 ⟨k1,hb⟩;have hb:Below W1.heap.size W1 W2:=hb;have ww:=hbt w9 hb;have K1:=hid k1;clear k1 hb;go_wp2_with fail
 with_reducible refine((z1L _ (lu HT.o ww.o).1).at).mono ?_
 rintro e W3 ⟨rfl,hb⟩;have K1:=hid (K1.o.below hb);have wo:=hbt ww hb;clear hb;go_upto_region 3 with fail
 refine aA W3 [(#[.string ⟨#[51,47,50]⟩,.string ⟨#[51,47,50]⟩],31)] rfl ?_;have L2:=K1.o.lt;have L3:=wo.o.size;rintro W4 ⟨k2,hb⟩;have hb:Below W3.heap.size W3 W4:=hb;have K1:=hid (K1.o.below hb);have wu:=hbt wo hb;have K2:=hid k2;clear k2 hb;go_wp2_with fail
 with_reducible refine((z3D _ (lu HT.o wu.o)).at).mono ?_
 rintro e W5 ⟨rfl,hb⟩;obtain ⟨K1,K2⟩:=ax hb K1 K2;have sw:=hbt wu hb;clear hb;go_wp2_with fail
 with_reducible refine((yh _ (lu HT.o sw.o)).at).mono ?_
 rintro e W6 ⟨rfl,hb⟩;obtain ⟨K1,K2⟩:=ax hb K1 K2;have rM:=hbt sw hb;clear hb;go_wp2_with fail
 with_reducible refine((z1N _ (lu HT.o rM.o).1).at).mono ?_
 rintro e W7 ⟨rfl,hb⟩;obtain ⟨K1,K2⟩:=ax hb K1 K2;have rV:=hbt rM hb;clear hb;go_wp2_with fail
 with_reducible refine((z5v _ (lu HT.o rV.o).1).at).mono ?_
 rintro e W8 ⟨rfl,hb⟩;obtain ⟨K1,K2⟩:=ax hb K1 K2;have pq:=hbt rV hb;clear hb;go_upto_region 7 with fail
 refine aA W8 [(#[.string ⟨#[55,47,53]⟩,.string ⟨#[51]⟩],31)] rfl ?_;have L4:=K1.o.lt;have L5:=K2.o.lt;have L6:=pq.o.size;rintro W9 ⟨k3,hb⟩;have hb:Below W8.heap.size W8 W9:=hb;obtain ⟨K1,K2⟩:=ax hb K1 K2;have oV:=hbt pq hb;have K3:=hid k3;clear k3 hb;go_wp2_with fail
 have hb:=bQ W9 (.cells #[.string ⟨#[51]⟩,.string ⟨#[52]⟩] 22);have k4:=SBk.new W9 #[.string ⟨#[51]⟩,.string ⟨#[52]⟩] 22;generalize W9.alloc (.cells #[.string ⟨#[51]⟩,.string ⟨#[52]⟩] 22)=W10 at *;obtain ⟨K1,K2,K3⟩:=aI hb K1 K2 K3;have ol:=hbt oV hb;have K4:=hid k4;clear k4 hb;with_reducible refine((z3E _ _ (lu HT.o ol.o).1 K4.o).at).mono ?_
 rintro e W11 ⟨rfl,hb⟩;obtain ⟨K1,K2,K3,K4⟩:=bI hb K1 K2 K3 K4;have oM:=hbt ol hb;clear hb;go_upto_region 8 with fail
 refine aA W11 [(#[.string ⟨#[53]⟩,.string ⟨#[53]⟩],31)] rfl ?_;have L7:=K1.o.lt;have L8:=K2.o.lt;have L9:=K3.o.lt;have L10:=K4.o.lt;have L11:=oM.o.size;rintro W12 ⟨k5,hb⟩;have hb:Below W11.heap.size W11 W12:=hb;obtain ⟨K1,K2,K3⟩:=aI hb K1 K2 K3;have mf:=hbt oM hb;have K5:=hid k5;clear k5 hb;obtain ⟨mi,l5⟩:=au K1.o rfl rfl;obtain ⟨lg,lv⟩:=au K2.o rfl rfl;obtain ⟨kw,kz⟩:=au K3.o rfl rfl;obtain ⟨kM,kV⟩:=au K5.o rfl rfl;go_wp2;exact bodyPost_ret (v:=.bool true) (by simp[results,results4,go_sem]) rfl ⟨rfl,mf.o⟩
theorem zk (x:Rat):x.num.sign=aP x 0:=by
 have h:=ug x 0;have h0:(0:Rat).num.sign=0:=rfl;rw[h0]at h;rcases Int.sign_trichotomy x.num with e|e|e
 · rw[e]at h ⊢;exact(h.2 (by decide)).symm
 · have hz:x=0:=Rat.num_eq_zero.1 (Int.sign_eq_zero_iff_zero.1 e)
   rw[hz];rfl
 · rw[e]at h ⊢;exact(h.1 (by decide)).symm
theorem zlq {q:Rat}{k:Nat}(h:SmQ k q)(h0:0<k)(hk:k≤10000):LQ q:=z4x h h0 hk
theorem zF {x:Rat}(hx:SmQ 40 x):KSb 18 (.string (Sq x)) x true:=ksb (fun W=>z2V x (hx.mono (by decide)) (by have:=zG (hx.mono (by decide:40≤900)) (by decide);omega) W)
theorem zn (a:ByteArray)(ha:a.size≤40):∃ x,KSb 18 (.string a) x (vldQ a.data.toList):=by
 obtain⟨x,hx⟩:=zW a (by omega);exact⟨x,ksb hx⟩
theorem zSgn (x:Rat):KP1 19 x (.int .i64 (aP x 0)):=kp1 (zV x _ (zk x))
theorem pY {x y:Rat}{k l:Nat}(hx:SmQ k x)(hy:SmQ l y)(h1:0<k)(h2:0<l)(hk:k≤9000)(hl:l≤9000):KQ2 22 x y (x*y):=kq2 (z5m x y _ rfl (zlq hx h1 (by omega)) (zlq hy h2 (by omega)))
theorem z4k {x y:Rat}{k l:Nat}(hx:SmQ k x)(hy:SmQ l y)(h1:0<k)(h2:0<l)(hk:k≤9000)(hl:l≤9000):KP2 24 x y (.int .i64 (aP x y)):=kp2 (z5n x y _ rfl (zlq hx h1 (by omega)) (zlq hy h2 (by omega)))
theorem zInt {s:Int}(h:s = -1∨s=0∨s=1):KS 23 (.int .i64 s) (s:Rat):=by
 have g:∀ q:Rat,q.num = -1→q.den=1→KS 23 (.int .i64 (-1)) q:=fun q hn he=>ks (fun W=>by
  refine wV (-1) q.num q.den W (fun W=>?_) (fun W=>?_)
  · rw[hn];exact xS W
  · rw[he];exact lL 1 1 rfl (by decide) W)
 rcases h with rfl|rfl|rfl
 · exact g _ rfl rfl
 · exact ks (fun W=>z3q 0 ((0:Int):Rat) 0 rfl (by decide) rfl rfl W)
 · exact ks (fun W=>z3q 1 ((1:Int):Rat) 1 rfl (by decide) rfl rfl W)
theorem mE (x:Rat):aP x 0 = -1∨aP x 0=0∨aP x 0=1:=by rcases bB x 0 with⟨_,e⟩|⟨_,e⟩|⟨_,e⟩<;>simp[e]
theorem cmp3 (x y:Rat):aP x y = -1∨aP x y=0∨aP x y=1:=by rcases bB x y with⟨_,e⟩|⟨_,e⟩|⟨_,e⟩<;>simp[e]
theorem z1v (x:Rat):SmQ 1 ((aP x 0:Int):Rat):=by
 rcases mE x with e|e|e<;>rw[e]
 · exact⟨by show Sm 1 1;unfold Sm;decide,by show Sm 1 1;unfold Sm;decide⟩
 · exact⟨by show Sm 1 0;unfold Sm;decide,by show Sm 1 1;unfold Sm;decide⟩
 · exact⟨by show Sm 1 1;unfold Sm;decide,by show Sm 1 1;unfold Sm;decide⟩
theorem zzBo {x y:Rat}(hx:SmQ 40 x)(hy:SmQ 40 y):KBo 17 (.string (Sq x)) (.string (Sq y)) x y 0:=fun W=>z1g _ _ x y W (zF hx) (zF hy)
theorem gZ {a b:ByteArray}(h:(vldQ a.data.toList&&vldQ b.data.toList)=false)(ha:a.size≤40)(hb:b.size≤40):∃ x y,KBo 17 (.string a) (.string b) x y 1:=by
 obtain⟨x,h1⟩:=zn a ha;obtain⟨y,h2⟩:=zn b hb;refine⟨x,y,fun W=>?_⟩
 cases va:vldQ a.data.toList with
 | false =>
   rw[va]at h1;exact z1i a b x y _ W h1 h2
 | true =>
   rw[va,Bool.true_and]at h;rw[va]at h1;rw[h]at h2;exact z1h a b x y W h1 h2
theorem wB (a b:ByteArray)(ha:a.size≤40)(hb:b.size≤40):∃ x y er,KBo 17 (.string a) (.string b) x y er:=by
 cases h:vldQ a.data.toList&&vldQ b.data.toList with
 | false =>
   obtain⟨x,y,h1⟩:=gZ h ha hb;exact⟨x,y,1,h1⟩
 | true =>
   rw[Bool.and_eq_true]at h;have e1:=uE h.1;have e2:=uE h.2;refine⟨qval a.data.toList,qval b.data.toList,0,?_⟩;have h0:=zzBo (mY (by rwa [← e1]) (by decide)) (mY (by rwa [← e2]) (by decide));rwa [← e1,← e2]at h0
theorem z1 (a:ByteArray)(ha:a.size≤40):(∃ x,a=Sq x∧SmQ 40 x)∨vldQ a.data.toList=false:=by
 cases hv:vldQ a.data.toList with
 | true =>
   have e:=uE hv;exact Or.inl ⟨_,e,mY (by rwa [← e]) (by decide)⟩
 | false=>exact Or.inr rfl
theorem z1q {a b c ya yb yc:Rat}{s t m k:Int}(S1:KP1 19 a (.int .i64 s))(S2:KP1 19 b (.int .i64 t))(S3:KP1 19 c (.int .i64 m))(M1:KQ2 22 a a ya)(M2:KQ2 22 b b yb)(M3:KQ2 22 yb c yc)(C:KP2 24 ya yc (.int .i64 k))(hw:IntKind.i64.wrap (s*k)=s*k):K3q 20 a b c (.int .i64 (jU s t k (m==0))):=by
 intro q0 q1 q2 W r0 r1 r2;by_cases hm:m=0
 · subst hm
   by_cases hs:s=0
   · subst hs
     rw[show jU 0 t k ((0:Int)==0)=0 by simp[jU]];exact z3R a b c t q0 q1 q2 W S1 S2 S3 r0 r1 r2
   · rw[show jU s t k ((0:Int)==0)=s by simp[jU,hs]]
     exact z3Q a b c s t q0 q1 q2 W (by simpa using hs) S1 S2 S3 r0 r1 r2
 · have hmb:(m==0)=false:=by simpa using hm
   rw[hmb];by_cases hs:s=0
   · subst hs
     rw[show jU 0 t k false=t by simp[jU]];exact z3P a b c t m q0 q1 q2 W hmb S1 S2 S3 r0 r1 r2
   · have hsb:(s==0)=false:=by simpa using hs
     by_cases ht:t=0
     · subst ht
       rw[show jU s 0 k false=s by simp[jU,hs]];exact z3O a b c s m q0 q1 q2 W hmb hsb S1 S2 S3 r0 r1 r2
     · by_cases hst:s=t
       · subst hst
         rw[show jU s s k false=s by simp[jU,hs]];exact z3N a b c s m q0 q1 q2 W hmb hsb S1 S2 S3 r0 r1 r2
       · rw[show jU s t k false=s*k by simp[jU,hs,ht,hst]]
         exact z3M a b c s t m k _ ya yb yc q0 q1 q2 W hmb hsb (by simpa using ht) (by simpa using hst) hw S1 S2 S3 M1 M2 M3 C r0 r1 r2
theorem z5d (a u v:Rat):IntKind.i64.wrap (aP a 0*aP u v)=aP a 0*aP u v:=by
 rcases mE a with e|e|e<;>rcases cmp3 u v with f|f|f<;>rw[e,f]<;>decide
theorem z5f {a b c:Rat}(ha:SmQ 40 a)(hb:SmQ 40 b)(hc:SmQ 40 c)(c0:0≤c):K3q 20 a b c (.int .i64 (j5 a b c)):=by
 rw[← zB a b c c0];exact z1q (zSgn a) (zSgn b) (zSgn c) (pY ha ha (by decide) (by decide) (by decide) (by decide)) (pY hb hb (by decide) (by decide) (by decide) (by decide)) (pY (hb.mul hb) hc (by decide) (by decide) (by decide) (by decide)) (z4k (ha.mul ha) ((hb.mul hb).mul hc) (by decide) (by decide) (by decide) (by decide)) (z5d _ _ _)
theorem uU {x:Rat}(h:x<0):decide (aP x 0<0)=true:=by rw[iE h];rfl
theorem z4E (a b c:ByteArray)(ha:a.size≤40)(hb:b.size≤40)(hc:c.size≤40)(w:World)(hl:Lb w):∃ n er,CV w 6 #[.string a,.string b,.string c] (.tuple #[.int .i64 n,.int .i64 er])∧CV w 7 #[.string a,.string b,.string c] (.tuple #[.int .i64 n,.int .i64 er]):=by
 obtain⟨xc,hxc⟩:=zn c hc;rcases z1 a ha with⟨x,rfl,hx⟩|hv
 · rcases z1 b hb with⟨y,rfl,hy⟩|hv
   · rcases z1 c hc with⟨z,rfl,hz⟩|hv
     · by_cases c0:0≤z
       · exact⟨_,_,z0n hx hy hz (by decide) (by decide) c0 w hl.1 hl.2,fun W _=>z0o _ _ _ x y z _ _ W (dm c0) (zzBo hx hy) (zF hz) (zSgn z) (z5f hx hy hz c0)⟩
       · exact⟨_,_,z0m hx hy hz (by decide) (by decide) (by grind) w hl.1,fun W _=>yB _ _ _ x y z _ W (uU (by grind)) (zzBo hx hy) (zF hz) (zSgn z)⟩
     · rw[hv]at hxc
       exact⟨_,_,z0j hx hy (by decide) c hv (by omega) w hl.1,fun W _=>z0p _ _ _ x y xc W (zzBo hx hy) hxc⟩
   · obtain⟨u,v,hB⟩:=gZ (a:=Sq x) (b:=b) (by rw[hv,Bool.and_false]) ha hb
     exact⟨_,_,z0k hx (by decide) b c hv (by omega) w hl.1,fun W _=>tu _ _ _ u v xc _ W hB hxc⟩
 · obtain⟨u,v,hB⟩:=gZ (a:=a) (b:=b) (by rw[hv,Bool.false_and]) ha hb
   exact⟨_,_,z0l a b c hv (by omega) w hl.1,fun W _=>tu _ _ _ u v xc _ W hB hxc⟩
theorem z1Z (a b c d:ByteArray)(w₀:World)(h1:CV w₀ 21 #[.string ⟨#[48]⟩,.string c] (.tuple #[.string ⟨#[]⟩,.int .i64 1]))  :
 CV w₀ 8 #[.string a,.string b,.string c,.string d] (.tuple #[.int .i64 0,.int .i64 1]):=by
 intro w hw;have C1:=Lib.hid (h1.mono hw);clear h1 hw;go_enter func8,ntmps8
 have u6:=Lib.hid (Below.refl w.heap.size w);go_wp2_with fail
 with_reducible refine(C1.o _ u6.o).mono ?_
 rintro e W1 ⟨rfl,hb⟩;have w9:=Lib.hid (u6.o.trans (hb.mono u6.o.size));clear hb;go_wp2;exact bodyPost_ret (v:=.tuple #[.int .i64 0,.int .i64 1]) (by simp[results,results8,go_sem]) rfl ⟨rfl,w9.o⟩
theorem zm {x:Rat}(h:SmQ 40 x):SmQ 45 (0-x):=by
 rw[show(0:Rat)-x = -x by grind];exact⟨by rw[Rat.neg_num,Int.natAbs_neg];exact h.1.mono (by decide),by rw[Rat.neg_den];exact h.2.mono (by decide)⟩
theorem z0c (a b c d:ByteArray)(ha:a.size≤40)(hb:b.size≤40)(hc:c.size≤40)(hd:d.size≤40)(w:World)(hl:Lb w):∃ n er,CV w 8 #[.string a,.string b,.string c,.string d] (.tuple #[.int .i64 n,.int .i64 er])∧CV w 9 #[.string a,.string b,.string c,.string d] (.tuple #[.int .i64 n,.int .i64 er]):=by
 have hv0:∀ x,SmQ 40 x→CV w 21 #[.string ⟨#[48]⟩,.string (Sq x)] (.tuple #[.string (Sq (0-x)),.int .i64 0]):=fun x hx W hW=>by
  have h:=qSub 0 x _ rfl ((show SmQ 1 (0:Rat) from⟨by unfold Sm;decide,by unfold Sm;decide⟩).fit (by decide)) (hx.fit (by decide)) W (hl.1.on hW);rwa [zH]at h
 obtain⟨u1,v1,er1,hB1⟩:=wB a b ha hb;obtain⟨u2,v2,er2,hB2⟩:=wB c d hc hd;rcases z1 c hc with⟨z,rfl,hz⟩|hv
 · have hm:=zm hz
   have V:=fun{x:Rat} (h:SmQ 40 x)=>vcv h (by decide) w hl.1;have Vm:=vcv hm (by decide) w hl.1;rcases z1 a ha with⟨x,rfl,hx⟩|hva
   · rcases z1 b hb with⟨y,rfl,hy⟩|hvb
     · rcases z1 d hd with⟨t,rfl,ht⟩|hvd
       · by_cases y0:0≤y
         · by_cases t0:0≤t
           · refine⟨sosQ x y (0-z) t,0,pE rfl (hx.mono (by decide:40≤45)) (hy.mono (by decide)) (hz.mono (by decide)) (ht.mono (by decide)) hm (by decide) y0 t0 w hl.1 hl.2,fun W _=>?_⟩
             rw[z3n x y z t y0 t0];have m1:=hx.mul hx;have m2:=m1.mul hy;have n1:=hz.mul hz;have n2:=n1.mul ht;exact z2a _ _ _ _ x y z t _ _ _ _ _ _ _ _ _ _ _ _ _ W (dm y0) (dm t0) (zzBo hx hy) (zzBo hz ht) (zSgn y) (zSgn t) (pY hx hx (by decide) (by decide) (by decide) (by decide)) (pY m1 hy (by decide) (by decide) (by decide) (by decide)) (zSgn x) (zInt (mE x)) (pY m2 (z1v x) (by decide) (by decide) (by decide) (by decide)) (pY hz hz (by decide) (by decide) (by decide) (by decide)) (pY n1 ht (by decide) (by decide) (by decide) (by decide)) (zSgn z) (zInt (mE z)) (pY n2 (z1v z) (by decide) (by decide) (by decide) (by decide)) (z4k (m2.mul (z1v x)) (n2.mul (z1v z)) (by decide) (by decide) (by decide) (by decide))
           · have g2:=gN ht (by decide) w hl.1
             rw[iE (by grind)]at g2;exact⟨_,_,eY _ _ _ _ _ _ _ w (hv0 z hz) (sZ _ _ _ _ _ w (V hx) (V hy) Vm (V ht) (gN hy (by decide) w hl.1) g2 (dm y0)),fun W _=>z2c _ _ _ _ x y z t _ _ W (dm y0) (uU (by grind)) (zzBo hx hy) (zzBo hz ht) (zSgn y) (zSgn t)⟩
         · have g2:=gN hy (by decide) w hl.1
           rw[iE (by grind)]at g2;exact⟨_,_,eY _ _ _ _ _ _ _ w (hv0 z hz) (z0e _ _ _ _ w (V hx) (V hy) Vm (V ht) g2),fun W _=>z2d _ _ _ _ x y z t _ W (uU (by grind)) (zzBo hx hy) (zzBo hz ht) (zSgn y)⟩
       · obtain⟨u,v,hB⟩:=gZ (a:=Sq z) (b:=d) (by rw[hvd,Bool.and_false]) hc hd
         exact⟨_,_,eY _ _ _ _ _ _ _ w (hv0 z hz) (xe _ _ _ _ w (V hx) (V hy) Vm (qvn hvd (by omega) w hl.1)),fun W _=>xh _ _ _ _ x y u v W (zzBo hx hy) hB⟩
     · obtain⟨u,v,hB⟩:=gZ (a:=Sq x) (b:=b) (by rw[hvb,Bool.and_false]) ha hb
       exact⟨_,_,eY _ _ _ _ _ _ _ w (hv0 z hz) (z1S _ _ _ _ w (V hx) (qvn hvb (by omega) w hl.1)),fun W _=>qR _ _ _ _ u v u2 v2 er2 W hB hB2⟩
   · obtain⟨u,v,hB⟩:=gZ (a:=a) (b:=b) (by rw[hva,Bool.false_and]) ha hb
     exact⟨_,_,eY _ _ _ _ _ _ _ w (hv0 z hz) (xg _ _ _ _ w (qvn hva (by omega) w hl.1)),fun W _=>qR _ _ _ _ u v u2 v2 er2 W hB hB2⟩
 · obtain⟨u,v,hB⟩:=gZ (a:=c) (b:=d) (by rw[hv,Bool.false_and]) hc hd
   refine⟨_,_,z1Z a b c d w (fun W hW=>z3y _ _ (by rw[hv,Bool.and_false]) (by decide) (by omega) W (hl.1.on hW)),fun W _=>?_⟩
   cases hab:vldQ a.data.toList&&vldQ b.data.toList with
   | false =>
     obtain⟨u3,v3,hB3⟩:=gZ hab ha hb;exact qR _ _ _ _ u3 v3 u v 1 W hB3 hB
   | true =>
     rw[Bool.and_eq_true]at hab;have e1:=uE hab.1;have e2:=uE hab.2;have hB4:=zzBo (mY (q:=qval a.data.toList) (by rwa [← e1]) (by decide)) (mY (q:=qval b.data.toList) (by rwa [← e2]) (by decide));rw[← e1,← e2]at hB4;exact xh _ _ _ _ _ _ u v W hB4 hB
open Go.Lib (hid)
theorem lgx4 (g:Nat)(a b c d:ByteArray)(bb:Bool)(w:World)(hb:decide (40<a.size∨40<b.size∨40<c.size∨40<d.size)=bb)(k:SBk w g #[.string a,.string b,.string c,.string d] 22) :
 CR 5 #[.slice (some ⟨g,0,none⟩) 4 4] w (.bool bb):=by
 have hc:=(show w.cell? ⟨g,0,none⟩=some (.string a)∧w.cell? ⟨g,1,none⟩=some (.string b)∧w.cell? ⟨g,2,none⟩=some (.string c)∧w.cell? ⟨g,3,none⟩=some (.string d) from⟨k.cell (i:=0) rfl,k.cell (i:=1) rfl,k.cell (i:=2) rfl,k.cell (i:=3) rfl⟩)
 cases bb with
 | false =>
   have h:=of_decide_eq_false hb;exact(z2j g a b c d w (by omega) (by omega) (by omega) (by omega) hc).mono (by rintro e w' ⟨rfl,rfl⟩;exact⟨rfl,Below.refl _ _⟩)
 | true=>exact(z0z g a b c d w (of_decide_eq_true hb) hc).mono (by rintro e w' ⟨rfl,rfl⟩;exact⟨rfl,Below.refl _ _⟩)
theorem z1A (a b c d:ByteArray)(w₀:World)  (hla:Lb w₀)(fl:decide (40<a.size∨40<b.size∨40<c.size∨40<d.size)=true) :
 CV w₀ 3 #[.string a,.string b,.string c,.string d] (.bool true):=by
 intro w hw;have HT:=hid (lu hla hw);have FL:=hid fl;clear hla fl hw;go_enter func3,ntmps3
 have u6:=hid (Below.refl w.heap.size w);go_wp2_with fail
 with_reducible refine((lh _ (lu HT.o u6.o)).at).mono ?_
 rintro e W1 ⟨rfl,hb⟩;have w9:=hbt u6 hb;clear hb;go_wp2_with fail
 have hb:=bQ W1 (.cells #[.string a,.string b,.string c,.string d] 22);have k1:=SBk.new W1 #[.string a,.string b,.string c,.string d] 22;generalize W1.alloc (.cells #[.string a,.string b,.string c,.string d] 22)=W2 at *;have ww:=hbt w9 hb;have K1:=hid k1;clear k1 hb;with_reducible refine((lgx4 _ a b c d true _ FL.o K1.o)).mono ?_
 rintro e W3 ⟨rfl,hb⟩;have wo:=hbt ww hb;clear hb;go_wp2_with fail
 with_reducible refine((lh _ (lu HT.o wo.o)).at).mono ?_
 rintro e W4 ⟨rfl,hb⟩;have wu:=hbt wo hb;clear hb;go_wp2;exact bodyPost_ret (v:=.bool true) (by simp[results,results3,go_sem]) rfl ⟨rfl,wu.o⟩
theorem z3s (a b c d:ByteArray)(nn en nk ek:Int)(w₀:World)(h1:CV w₀ 6 #[.string a,.string b,.string c] (.tuple #[.int .i64 nn,.int .i64 en]))(h2:CV w₀ 7 #[.string a,.string b,.string c] (.tuple #[.int .i64 nn,.int .i64 en]))(h3:CV w₀ 8 #[.string a,.string b,.string c,.string d] (.tuple #[.int .i64 nk,.int .i64 ek]))(h4:CV w₀ 9 #[.string a,.string b,.string c,.string d] (.tuple #[.int .i64 nk,.int .i64 ek]))(hla:Lb w₀)(fl:decide (40<a.size∨40<b.size∨40<c.size∨40<d.size)=false) :
 CV w₀ 3 #[.string a,.string b,.string c,.string d] (.bool true):=by
 intro w hw;obtain ⟨C1,C2,C3,C4,HT,FL⟩:=bX (h1.mono hw) (h2.mono hw) (h3.mono hw) (h4.mono hw) (lu hla hw) fl;clear hla fl h1 h2 h3 h4 hw;go_enter func3,ntmps3
 have u6:=hid (Below.refl w.heap.size w);go_wp2_with fail
 with_reducible refine((lh _ (lu HT.o u6.o)).at).mono ?_
 rintro e W1 ⟨rfl,hb⟩;have w9:=hbt u6 hb;clear hb;go_wp2_with fail
 have hb:=bQ W1 (.cells #[.string a,.string b,.string c,.string d] 22);have k1:=SBk.new W1 #[.string a,.string b,.string c,.string d] 22;generalize W1.alloc (.cells #[.string a,.string b,.string c,.string d] 22)=W2 at *;have ww:=hbt w9 hb;have K1:=hid k1;clear k1 hb;with_reducible refine((lgx4 _ a b c d false _ FL.o K1.o)).mono ?_
 rintro e W3 ⟨rfl,hb⟩;have wo:=hbt ww hb;clear hb;go_wp2_with fail
 with_reducible refine(C1.o _ wo.o).mono ?_
 rintro e W4 ⟨rfl,hb⟩;have wu:=hbt wo hb;clear hb;go_wp2_with fail
 with_reducible refine(C2.o _ wu.o).mono ?_
 rintro e W5 ⟨rfl,hb⟩;have sw:=hbt wu hb;clear hb;go_wp2_with fail
 with_reducible refine(C3.o _ sw.o).mono ?_
 rintro e W6 ⟨rfl,hb⟩;have rM:=hbt sw hb;clear hb;go_wp2_with fail
 with_reducible refine(C4.o _ rM.o).mono ?_
 rintro e W7 ⟨rfl,hb⟩;have rV:=hbt rM hb;clear hb;go_wp2;exact bodyPost_ret (v:=.bool true) (by simp[results,results3,go_sem]) rfl ⟨rfl,rV.o⟩
theorem xW (a b c d:ByteArray)(w:World)(hl:Lb w) :
 CR 3 #[.string a,.string b,.string c,.string d] w (.bool true):=by
 cases hf:decide (40<a.size∨40<b.size∨40<c.size∨40<d.size) with
 | true=>exact(z1A a b c d w hl hf).at
 | false =>
   have h:=of_decide_eq_false hf;obtain⟨nn,en,k1,k2⟩:=z4E a b c (by omega) (by omega) (by omega) w hl;obtain⟨nk,ek,k3,k4⟩:=z0c a b c d (by omega) (by omega) (by omega) (by omega) w hl;exact(z3s a b c d nn en nk ek w k1 k2 k3 k4 hl hf).at
open Go.ChangeShapes Go.WideShapes Go.ChangeAt Go.WideMaps Go.WideElems Go.RowKit Go.Gb
theorem gSet:Tryz.prog.globalNamed "garboard/root.settled" = some 0:=by kernel_rfl
theorem z2m:(Tryz.prog.globals[0]?).map (·.type)=some 71:=by kernel_rfl
def jv:List (String × DataW Unit):=[("math/bits.deBruijn32tab",Rows.laid_math_bits_deBruijn32tab),("math/bits.deBruijn64tab",Rows.laid_math_bits_deBruijn64tab),("internal/strconv.uint64pow10",Rows.laid_internal_strconv_uint64pow10),("strconv.ErrRange",Rows.laid_strconv_ErrRange),("strconv.ErrSyntax",Rows.laid_strconv_ErrSyntax),("garboard/integer.zero",Rows.laid_garboard_integer_zero),("garboard/root.settled",Rows.laid_garboard_root_settled)]
theorem uZ {W:World}(h:laidMetH Tryz.prog jv W):Lb W:=by
 rw[MakeChecks.laidMetH_plain _ _ _ (by kernel_rfl)]at h;obtain⟨ps,⟨g0,t0,cs0,f0,p0,q0,hg0,ht0,hv0,hd0,⟨g1,t1,cs1,f1,p1,q1,hg1,ht1,hv1,hd1,⟨g2,t2,cs2,f2,p2,q2,hg2,ht2,hv2,hd2,⟨g3,t3,cs3,f3,p3,q3,hg3,ht3,hv3,hd3,⟨g4,t4,cs4,f4,p4,q4,hg4,ht4,hv4,hd4,⟨g5,t5,cs5,f5,p5,q5,hg5,ht5,hv5,hd5,⟨g6,t6,cs6,f6,p6,q6,hg6,ht6,hv6,hd6,_,_⟩,_⟩,_⟩,_⟩,_⟩,_⟩,_⟩,_,_⟩:=h;obtain rfl:=Option.some.inj (gTab.symm.trans hg2);obtain rfl:=Option.some.inj (rf.symm.trans ht2);obtain rfl:=Option.some.inj (yI.symm.trans hg5);obtain rfl:=Option.some.inj (tL.symm.trans ht5);obtain rfl:=Option.some.inj (gSet.symm.trans hg6);obtain rfl:=Option.some.inj (z2m.symm.trans ht6);refine⟨⟨?_,?_⟩,?_⟩
 · unfold Tb Lib.TabIs
   rw[hv2];congr 1
   apply Array.ext'
   rw[Lib.cells_of_tab (k:=.u64) (zs:=Lib.pow10Tab) underlying209 underlying101 rG rH hd2]
 · obtain⟨k0,k1,hu,e0,o0,e1,o1⟩:∃ k0 k1:Field,Tryz.prog.underlying 136=some (.struct #[k0,k1])∧k0.type=3∧k0.offset=0∧k1.type=9∧k1.offset=1:=⟨_,_,underlying136,rfl,rfl,rfl,rfl⟩
   obtain⟨y0,y1,n,hx,hlen,h0,h1⟩:=trod_struct2 hu hd5;rw[e0,o0]at h0;rw[e1,o1]at h1;obtain⟨m,hc0,hy0,_⟩:=DataW.trod_int underlying3 h0;obtain⟨s,hc1,hy1,_⟩:=DataW.trod_string underlying9 h1;subst hy0 hy1;have hc:Tryz.prog.cellsOf 136=2:=by kernel_rfl
   have hci:Tryz.prog.cellsOf 3=1:=by kernel_rfl
   have hcs:Tryz.prog.cellsOf 9=1:=by kernel_rfl
   rw[hc]at hlen;rw[hci]at hc0;rw[hcs]at hc1
   have hd:m=0∧s.data.toList=[48]:=by
    have:=congrArg Prod.fst hx;simpa [Rows.laid_garboard_integer_zero,eq_comm] using this
   obtain⟨rfl,hs⟩:=hd
   have hs':s=⟨#[48]⟩:=by
    cases s with
    | mk d=>exact congrArg ByteArray.mk (Array.ext' hs)
   subst hs'
   have hl:cs5.toList=[.int .i64 0,.string ⟨#[48]⟩]:=by
    match hcs5:cs5.toList,hlen with
    | [a,b],_ =>
      rw[hcs5]at hc0 hc1;simp at hc0 hc1
      rw[hc0,hc1]
   have g0':=World.var?_cell yI hv5 0;have g1':=World.var?_cell yI hv5 1;have ha:cs5=#[.int .i64 0,.string ⟨#[48]⟩]:=Array.ext' hl;rw[ha]at g0' g1';have c0:W.cell? ⟨1,0,none⟩=some (.int .i64 0):=by simpa using g0'
   have c1:W.cell? ⟨1,1,none⟩=some (.string ⟨#[48]⟩):=by simpa using g1'
   exact⟨World.block_lt_of_cell? W _ c0,c0,c1⟩
 · obtain⟨xs,m,_,hx,hlen,hl,hel⟩:=DataW.trod_array underlying71 hd6
   have hc9:Tryz.prog.cellsOf 71=9:=by kernel_rfl
   have hc3:Tryz.prog.cellsOf 70=3:=by kernel_rfl
   have hc1:Tryz.prog.cellsOf 3=1:=by kernel_rfl
   rw[hc9]at hlen;rw[hc3]at hel
   have hd:xs.map (·.1)=[.agg [.lit (.int .i64 (-1)),.lit (.int .i64 (-1)),.lit (.int .i64 2)],.agg [.lit (.int .i64 (-1)),.lit (.int .i64 0),.lit (.int .i64 1)],.agg [.lit (.int .i64 2),.lit (.int .i64 1),.lit (.int .i64 1)]]:=by
    have:=congrArg Prod.fst hx;simpa [Rows.laid_garboard_root_settled,eq_comm] using this
   have k0:=hel 0 (by decide);have k1:=hel 1 (by decide);have k2:=hel 2 (by decide);clear hel hx
   match xs,hl,hd with
   | [(r0,p0),(r1,p1),(r2,p2)],_,hd =>
     simp only[List.map_cons,List.map_nil,List.cons.injEq,and_true]at hd;obtain⟨e0,e1,e2⟩:=hd;subst e0 e1 e2;have c0:=Lib.cells_of_tab (k:=.i64) (zs:=[-1,-1,2]) underlying70 underlying3 hc1 hc3 k0;have c1:=Lib.cells_of_tab (k:=.i64) (zs:=[-1,0,1]) underlying70 underlying3 hc1 hc3 k1;have c2:=Lib.cells_of_tab (k:=.i64) (zs:=[2,1,1]) underlying70 underlying3 hc1 hc3 k2
     have hcs:cs6.toList=[.int .i64 (-1),.int .i64 (-1),.int .i64 2,.int .i64 (-1),.int .i64 0,.int .i64 1,.int .i64 2,.int .i64 1,.int .i64 1]:=by
       have e:cs6.toList=(cs6.toList.drop (0*3)).take 3++((cs6.toList.drop (1*3)).take 3++(cs6.toList.drop (2*3)).take 3):=by
        match cs6.toList,hlen with
        | [_,_,_,_,_,_,_,_,_],_=>rfl
       rw[e,c0,c1,c2];rfl
     have ha:cs6=#[.int .i64 (-1),.int .i64 (-1),.int .i64 2,.int .i64 (-1),.int .i64 0,.int .i64 1,.int .i64 2,.int .i64 1,.int .i64 1]:=Array.ext' hcs
     have hcell:∀ i v,(#[.int .i64 (-1),.int .i64 (-1),.int .i64 2,.int .i64 (-1),.int .i64 0,.int .i64 1,.int .i64 2,.int .i64 1,.int .i64 1]:Array Value)[i]? = some v→W.cell? ⟨0,i,none⟩=some v:=fun i v hv=>by
       have g:=World.var?_cell gSet hv6 i;rw[ha]at g;exact g.trans hv
     exact⟨World.block_lt_of_cell? W _ (hcell 0 _ rfl),hcell⟩
theorem z0P (os:Os)(args:Array Value):laidMetH Tryz.prog jv ((World.doorLaid Tryz.prog 4000 os).forCall (fun _ _=>0) ⟨#[],args,[]⟩).memory:=by
 rw[MakeChecks.laidMetH_plain _ _ _ (by kernel_rfl)];exact laidMet_of_run' 8 (by kernel_rfl) (by kernel_rfl)
