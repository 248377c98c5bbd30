/- texts -/
import Derived.Test.YtoaeaiiabelhkaaGreatDoorMz42q
open Go.Proofs.Tryz
set_option maxRecDepth 100000
set_option maxHeartbeats 20000000
open Go.Lib (hid)
namespace Go.Proofs.YtoaeaiiabelhkaaGreatDoor
open Go.RowKit Go.Gb
theorem a13:SmQ 2 (1/3:Rat):=⟨by unfold Sm;decide +kernel,by unfold Sm;decide +kernel⟩
theorem a90:SmQ 3 (90:Rat):=⟨by unfold Sm;decide +kernel,by unfold Sm;decide +kernel⟩
theorem an90:SmQ 3 (-90:Rat):=⟨by unfold Sm;decide +kernel,by unfold Sm;decide +kernel⟩
theorem a355:SmQ 4 (355/113:Rat):=⟨by unfold Sm;decide +kernel,by unfold Sm;decide +kernel⟩
theorem t13:Sq (1/3:Rat)=⟨#[49,47,51]⟩:=by decide +kernel
theorem t34:Sq (3/4:Rat)=⟨#[51,47,52]⟩:=by decide +kernel
theorem t35:Sq (3/5:Rat)=⟨#[51,47,53]⟩:=by decide +kernel
theorem t45:Sq (4/5:Rat)=⟨#[52,47,53]⟩:=by decide +kernel
theorem t90:Sq (90:Rat)=⟨#[57,48]⟩:=by decide +kernel
theorem tn90:Sq (-90:Rat)=⟨#[45,57,48]⟩:=by decide +kernel
theorem t355:Sq (355/113:Rat)=⟨#[51,53,53,47,49,49,51]⟩:=by decide +kernel
theorem z6X:Sq (11/24:Rat)=⟨#[49,49,47,50,52]⟩:=by decide +kernel
theorem z6D (w:World)(hla:La w):CV w 7 #[.string ⟨#[49,47,50]⟩] (.tuple #[.string ⟨#[51,47,53]⟩,.int .i64 0]):=by
 have h:=z6I s12 (by decide) (by decide +kernel) w hla;rwa [show cosQ (1 / 2)=3 / 5 from by decide +kernel,t12,t35]at h
theorem z6C (w:World)(hla:La w):CV w 8 #[.string ⟨#[49,47,50]⟩] (.tuple #[.string ⟨#[52,47,53]⟩,.int .i64 0]):=by
 have h:=z6G s12 (by decide) (by decide +kernel) w hla;rwa [show sinQ (1 / 2)=4 / 5 from by decide +kernel,t12,t45]at h
theorem z5y (w:World)(hla:La w):CV w 9 #[.string ⟨#[49,47,50]⟩,.string ⟨#[49,47,50]⟩] (.tuple #[.string ⟨#[]⟩,.int .i64 15]):=by
 have h:=zZ s12 s12 (by decide) (by decide +kernel) (by decide +kernel) (by decide +kernel) w hla;rwa [t12]at h
theorem z5x (w:World)(hla:La w):CV w 9 #[.string ⟨#[49,47,51]⟩,.string ⟨#[49,47,51]⟩] (.tuple #[.string ⟨#[51,47,52]⟩,.int .i64 0]):=by
 have h:=z6F a13 a13 (by decide) (by decide +kernel) (by decide +kernel) (by decide +kernel) (by decide +kernel) w hla;rwa [show sumQ (1 / 3) (1 / 3)=3 / 4 from by decide +kernel,t13,t34]at h
theorem z5D (w:World)(hla:La w):CV w 10 #[.string ⟨#[49,47,50]⟩,.int .i64 1] (.tuple #[.agg #[.string ⟨#[49,49,47,50,52]⟩,.string ⟨#[49,47,50]⟩],.int .i64 0]):=by
 have hr:SmQ 2 ((1-(1:Rat) / 2) / (1+1 / 2)):=by
  rw[show(1-(1:Rat) / 2) / (1+1 / 2)=1 / 3 from by decide +kernel];exact a13
 have h:=z6J (n:=1) (by decide) s12 (by decide +kernel) (by decide +kernel) hr (by decide) (by decide) w hla;have hc:=lC (n:=1) (by decide) (by decide) w hla;rw[show atI 1 (1 / 2)=(11 / 24,1 / 2) from by decide +kernel,t12]at h;have h2:=z2c _ _ _ _ _ _ w (jT 1 w (by decide) (by decide)) hc h (t12▸ni (by decide +kernel) (s12.fit (by decide)) w hla);have h3:=zV _ _ _ _ _ w h2;rwa [z6X]at h3
theorem z5e:0<(piI 3).1:=by decide +kernel
theorem z4q {x:Rat}{k l:Nat}(hx:SmQ k x)(hr:SmQ l ((1-x) / (1+x)))(hk:k≤2)(hl:l≤2):SmQ 496 (atI 3 x).1∧SmQ 496 (atI 3 x).2:=by
 have a:=kg (n:=3) (hx.mono hk) (by decide);have b:=kg (n:=3) (hr.mono hl) (by decide);have hp:=tF (n:=3) (by decide);have c:=dJ s14 hp.1 hp.2;unfold atI
 split
 · exact⟨a.1.mono (by decide),a.2.mono (by decide)⟩
 · exact⟨(c.1.sub b.2).mono (by decide),(c.2.sub b.1).mono (by decide)⟩
theorem deg3 {x:Rat}{k l:Nat}(hx:SmQ k x)(hr:SmQ l ((1-x) / (1+x)))(hk:k≤2)(hl:l≤2)(h1 : -1 / 2≤x)(h2:x≤1)(w:World)(hla:La w) :
 CV w 20 #[.agg #[.int .i64 3,.string (Sq (piI 3).1),.string (Sq (piI 3).2)],.string (Sq x)] (.agg #[.string (Sq (degI 3 x).1),.string (Sq (degI 3 x).2)]):=by
 have hs:=z4q hx hr hk hl;exact z6H (n:=3) (by decide) (z6J (n:=3) (by decide) (hx.mono hk) h1 h2 (hr.mono hl) (by decide) (by decide) w hla) hs.1 hs.2 (by decide) z5e hla
theorem rO {x:Rat}{k l:Nat}(hx:SmQ k x)(hr:SmQ l ((1-x) / (1+x)))(hk:k≤2)(hl:l≤2):aO (degI 3 x).1∧aO (degI 3 x).2:=by
 have hs:=z4q hx hr hk hl;have hp:=tF (n:=3) (by decide);have n1:(piI 3).1≠0:=by decide +kernel
 have n2:(piI 3).2≠0:=by decide +kernel
 have m:=dJ s360 hs.1 hs.2;have q:=tH (m.1.div hp.1 n1) (m.1.div hp.2 n2) (m.2.div hp.1 n1) (m.2.div hp.2 n2);exact⟨q.1.fit (by decide),q.2.fit (by decide)⟩
theorem z5s (n:Nat)(x:Rat):(degI n x).1≤(degI n x).2:=iT _ 3
theorem r1:SmQ 1 ((1-(1:Rat)) / (1+1)):=by
 rw[show(1-(1:Rat)) / (1+1)=0 from by decide +kernel];exact su0
theorem r0:SmQ 1 ((1-(0:Rat)) / (1+0)):=by
 rw[show(1-(0:Rat)) / (1+0)=1 from by decide +kernel];exact su1
theorem r12:SmQ 2 ((1-(1:Rat) / 2) / (1+1 / 2)):=by
 rw[show(1-(1:Rat) / 2) / (1+1 / 2)=1 / 3 from by decide +kernel];exact a13
theorem z5C (w:World)(hla:La w):CV w 11 #[.string ⟨#[49]⟩,.int .i64 3] (.tuple #[.agg #[.string (Sq (degI 3 1).1),.string (Sq (degI 3 1).2)],.int .i64 0]):=by
 have h:=deg3 su1 r1 (by decide) (by decide) (by decide +kernel) (by decide +kernel) w hla;have hc:=lC (n:=3) (by decide) (by decide) w hla;rw[uq1]at h;exact zU _ _ _ _ _ w (z2a _ _ _ _ _ _ w (jT 3 w (by decide) (by decide)) hc h (uq1▸ni (by decide +kernel) (su1.fit (by decide)) w hla))
theorem z7t (w:World)(hla:La w):CV w 12 #[.int .i64 3] (.tuple #[.agg #[.string (Sq (piI 3).1),.string (Sq (piI 3).2)],.int .i64 0]) :=
 z5E _ _ _ w (jT 3 w (by decide) (by decide)) (lC (n:=3) (by decide) (by decide) w hla)
theorem z5B (w:World)(hla:La w):CV w 5 #[.string ⟨#[57,48]⟩,.int .i64 3,.int .i64 2] (.tuple #[.agg #[.string ⟨#[49,47,50]⟩,.string ⟨#[49]⟩],.int .i64 0]):=by
 have z1:=iH (x := -1) (y:=1) (z:=0) (by decide +kernel) (sun.fit (by decide)) (su1.fit (by decide)) w hla;have z2:=fI (x:=0) (y:=1 / 2) (z:=0) (by decide +kernel) (su0.fit (by decide)) (s12.fit (by decide)) w hla;have d1:=deg3 su0 r0 (by decide) (by decide) (by decide +kernel) (by decide +kernel) w hla;have f1:=rO su0 r0 (by decide) (by decide);have o1:=gz (x:=(degI 3 0).2) (y:=90) rfl f1.2 (a90.fit (by decide)) w hla;have z3:=iH (x:=0) (y:=1) (z:=1) (by decide +kernel) (su0.fit (by decide)) (su1.fit (by decide)) w hla;have z4:=fI (x:=1) (y:=1 / 2) (z:=1 / 2) (by decide +kernel) (su1.fit (by decide)) (s12.fit (by decide)) w hla;have d2:=deg3 s12 r12 (by decide) (by decide) (by decide +kernel) (by decide +kernel) w hla;have f2:=rO s12 r12 (by decide) (by decide);have o2:=gz (x:=(degI 3 (1 / 2)).2) (y:=90) rfl f2.2 (a90.fit (by decide)) w hla;rw[uqn,uq1]at z1;rw[t12]at z2;rw[uq1]at z3;rw[uq1,t12]at z4;rw[t90]at o1 o2;rw[t12]at d2;have h:=zW _ _ _ _ _ _ _ _ _ _ _ _ _ _ w z1 z2 d1 o1 z3 z4 d2 o2 (by decide +kernel) (by decide +kernel);have hv:=avcv (a90.fit (by decide)) w hla;have hh:CV w 13 #[.agg #[.string (Sq (-90:Rat)),.string (Sq (90:Rat))],.string (Sq (90:Rat))] (.bool true):=fun W hW=>xHas (-90) 90 90 true (by decide +kernel) (by decide +kernel) (an90.fit (by decide)) (a90.fit (by decide)) (a90.fit (by decide)) W (hla.on hW);rw[t90]at hv;rw[tn90,t90]at hh;exact uP _ _ _ _ _ _ _ w hv hh (jT 3 w (by decide) (by decide)) (lC (n:=3) (by decide) (by decide) w hla) h (by decide) (by decide)
theorem z5A (w:World)(hla:La w):CV w 13 #[.agg #[.string (Sq (degI 3 1).1),.string (Sq (degI 3 1).2)],.string ⟨#[57,48]⟩] (.bool true):=by
 have f:=rO su1 r1 (by decide) (by decide);have h:CV w 13 #[.agg #[.string (Sq (degI 3 1).1),.string (Sq (degI 3 1).2)],.string (Sq (90:Rat))] (.bool true):=fun W hW=>xHas _ _ 90 true (by decide +kernel) (z5s _ _) f.1 f.2 (a90.fit (by decide)) W (hla.on hW);rwa [t90]at h
theorem z5z (w:World)(hla:La w):CV w 13 #[.agg #[.string (Sq (piI 3).1),.string (Sq (piI 3).2)],.string ⟨#[51,53,53,47,49,49,51]⟩] (.bool true):=by
 have f:=tF (n:=3) (by decide);have h:CV w 13 #[.agg #[.string (Sq (piI 3).1),.string (Sq (piI 3).2)],.string (Sq (355 / 113:Rat))] (.bool true):=fun W hW=>xHas _ _ (355 / 113) true (by decide +kernel) (nM _) (f.1.fit (by decide)) (f.2.fit (by decide)) (a355.fit (by decide)) W (hla.on hW);rwa [t355]at h
theorem z1V (w:World)(hla:La w):CV w 14 #[.agg #[.string ⟨#[49,47,50]⟩,.string ⟨#[49]⟩]] (.bool true):=by
 have h:CV w 14 #[.agg #[.string (Sq (1 / 2:Rat)),.string (Sq (1:Rat))]] (.bool true):=fun W hW=>yR (1 / 2) 1 (by decide +kernel) (s12.fit (by decide)) (su1.fit (by decide)) W (hla.on hW);rwa [t12,uq1]at h
theorem z1U (w:World)(hla:La w):CV w 15 #[.string ⟨#[45,49]⟩] (.bool true):=by
 have h:=jh (t := -1) (r:=true) (by decide +kernel) (sun.fit (by decide)) w hla;rwa [uqn]at h
theorem z1T (w:World)(hla:La w):CV w 15 #[.string ⟨#[50]⟩] (.bool false):=by
 have h:=jh (t:=2) (r:=false) (by decide +kernel) (su2.fit (by decide)) w hla;rwa [uq2]at h
theorem kD  (w₀:World)  (hla:La w₀) :
 CV w₀ 4 #[] (.bool true):=by
 intro w hw;have HT:=hid (hla.on hw);clear hla hw;go_enter func4,ntmps4
 have u6:=hid (Below.refl w.heap.size w);go_wp2_with fail
 with_reducible refine((z6D _ (HT.o.on u6.o)).at).mono ?_
 rintro e W1 ⟨rfl,hb⟩;have uu:=hbt u6 hb;clear hb;go_wp2_with fail
 with_reducible refine((z6C _ (HT.o.on uu.o)).at).mono ?_
 rintro e W2 ⟨rfl,hb⟩;have w9:=hbt uu hb;clear hb;go_wp2_with fail
 with_reducible refine((z5y _ (HT.o.on w9.o)).at).mono ?_
 rintro e W3 ⟨rfl,hb⟩;have wu:=hbt w9 hb;clear hb;go_wp2_with fail
 with_reducible refine((z5x _ (HT.o.on wu.o)).at).mono ?_
 rintro e W4 ⟨rfl,hb⟩;have ww:=hbt wu hb;clear hb;go_wp2_with fail
 with_reducible refine((z5D _ (HT.o.on ww.o)).at).mono ?_
 rintro e W5 ⟨rfl,hb⟩;have si:=hbt ww hb;clear hb;go_upto_region 6 with fail
 refine av W5 [(#[.string ⟨#[49,49,47,50,52]⟩,.string ⟨#[49,47,50]⟩],25)] rfl ?_;have L1:=si.o.size;rintro W6 ⟨k1,hb⟩;have hb:Below W5.heap.size W5 W6:=hb;have sw:=hbt si hb;have K1:=hid k1;clear k1 hb;go_wp2_with fail
 with_reducible refine((z5C _ (HT.o.on sw.o)).at).mono ?_
 rintro e W7 ⟨rfl,hb⟩;have K1:=hid (K1.o.below hb);have rM:=hbt sw hb;clear hb;go_upto_region 7 with fail
 refine av W7 [(#[.string (Sq (degI 3 1).1),.string (Sq (degI 3 1).2)],25)] rfl ?_;have L2:=K1.o.lt;have L3:=rM.o.size;rintro W8 ⟨k2,hb⟩;have hb:Below W7.heap.size W7 W8:=hb;have K1:=hid (K1.o.below hb);have rV:=hbt rM hb;have K2:=hid k2;clear k2 hb;go_wp2_with fail
 with_reducible refine((z7t _ (HT.o.on rV.o)).at).mono ?_
 rintro e W9 ⟨rfl,hb⟩;obtain ⟨K1,K2⟩:=aK hb K1 K2;have p8:=hbt rV hb;clear hb;go_upto_region 8 with fail
 refine av W9 [(#[.string (Sq (piI 3).1),.string (Sq (piI 3).2)],25)] rfl ?_;have L4:=K1.o.lt;have L5:=K2.o.lt;have L6:=p8.o.size;rintro W10 ⟨k3,hb⟩;have hb:Below W9.heap.size W9 W10:=hb;obtain ⟨K1,K2⟩:=aK hb K1 K2;have pq:=hbt p8 hb;have K3:=hid k3;clear k3 hb;go_wp2_with fail
 with_reducible refine((z5B _ (HT.o.on pq.o)).at).mono ?_
 rintro e W11 ⟨rfl,hb⟩;obtain ⟨K1,K2,K3⟩:=bA hb K1 K2 K3;have pu:=hbt pq hb;clear hb;go_upto_region 9 with fail
 refine av W11 [(#[.string ⟨#[49,47,50]⟩,.string ⟨#[49]⟩],25)] rfl ?_;have L7:=K1.o.lt;have L8:=K2.o.lt;have L9:=K3.o.lt;have L10:=pu.o.size;rintro W12 ⟨k4,hb⟩;have hb:Below W11.heap.size W11 W12:=hb;obtain ⟨K1,K2,K3⟩:=bA hb K1 K2 K3;have ol:=hbt pu hb;have K4:=hid k4;clear k4 hb;obtain ⟨wm,wo⟩:=aC K1.o rfl rfl;obtain ⟨oM,oV⟩:=aC K2.o rfl rfl;go_wp2_with fail
 with_reducible refine((z5A _ (HT.o.on ol.o)).at).mono ?_
 rintro e W13 ⟨rfl,hb⟩;clear wm wo oM oV;obtain ⟨K3,K4⟩:=aK hb K3 K4;have ny:=hbt ol hb;clear hb;obtain ⟨l5,l6⟩:=aC K3.o rfl rfl;go_wp2_with fail
 with_reducible refine((z5z _ (HT.o.on ny.o)).at).mono ?_
 rintro e W14 ⟨rfl,hb⟩;clear l5 l6;have K4:=hid (K4.o.below hb);have ma:=hbt ny hb;clear hb;obtain ⟨lg,ll⟩:=aC K4.o rfl rfl;go_wp2_with fail
 with_reducible refine((z1V _ (HT.o.on ma.o)).at).mono ?_
 rintro e W15 ⟨rfl,hb⟩;clear lg ll;have mf:=hbt ma hb;clear hb;go_wp2_with fail
 with_reducible refine((z1U _ (HT.o.on mf.o)).at).mono ?_
 rintro e W16 ⟨rfl,hb⟩;have mi:=hbt mf hb;clear hb;go_wp2_with fail
 with_reducible refine((z1T _ (HT.o.on mi.o)).at).mono ?_
 rintro e W17 ⟨rfl,hb⟩;have lv:=hbt mi hb;clear hb;go_wp2;exact bodyPost_ret (v:=.bool true) (by simp[results,results4,go_sem]) rfl ⟨rfl,lv.o⟩
open Go.Lib (hid)
theorem z3Q (d:ByteArray)(n k:Int)(w₀:World)(h1:CV w₀ 16 #[.string d] (.bool false))  :
 CV w₀ 5 #[.string d,.int .i64 n,.int .i64 k] (.tuple #[.agg #[.string ⟨#[]⟩,.string ⟨#[]⟩],.int .i64 1]):=by
 intro w hw;have C1:=hid (h1.mono hw);clear h1 hw;go_enter func5,ntmps5
 go_upto_region 1 with fail
 refine av w [(#[.string ⟨#[]⟩,.string ⟨#[]⟩],25)] rfl ?_;rintro W0 ⟨k1,hb⟩;have u6:=hid (show Below w.heap.size w W0 from hb);have K1:=hid k1;clear k1 hb;go_wp2_with fail
 with_reducible refine(C1.o _ u6.o).mono ?_
 rintro e W1 ⟨rfl,hb⟩;have K1:=hid (K1.o.below hb);have uu:=hbt u6 hb;clear hb;obtain ⟨wm,wo⟩:=aC K1.o rfl rfl;obtain ⟨sj,su⟩:=aS K1.o;go_wp2;exact bodyPost_ret (v:=.tuple #[.agg #[.string ⟨#[]⟩,.string ⟨#[]⟩],.int .i64 1]) (by simp[results,results5,go_sem,wm,wo]) rfl ⟨rfl,(aj (l:=[.string ⟨#[]⟩,.string ⟨#[]⟩]) (i:=0) (by omega) uu.o)⟩
theorem z3P (d:ByteArray)(n k:Int)(w₀:World)(h1:CV w₀ 16 #[.string d] (.bool true))(h2:CV w₀ 13 #[.agg #[.string ⟨#[45,57,48]⟩,.string ⟨#[57,48]⟩],.string d] (.bool false))  :
 CV w₀ 5 #[.string d,.int .i64 n,.int .i64 k] (.tuple #[.agg #[.string ⟨#[]⟩,.string ⟨#[]⟩],.int .i64 2]):=by
 intro w hw;have C1:=hid (h1.mono hw);have C2:=hid (h2.mono hw);clear h1 h2 hw;go_enter func5,ntmps5
 go_upto_region 1 with fail
 refine av w [(#[.string ⟨#[]⟩,.string ⟨#[]⟩],25)] rfl ?_;rintro W0 ⟨k1,hb⟩;have u6:=hid (show Below w.heap.size w W0 from hb);have K1:=hid k1;clear k1 hb;go_wp2_with fail
 with_reducible refine(C1.o _ u6.o).mono ?_
 rintro e W1 ⟨rfl,hb⟩;have K1:=hid (K1.o.below hb);have uu:=hbt u6 hb;clear hb;go_wp2_with fail
 with_reducible refine(C2.o _ uu.o).mono ?_
 rintro e W2 ⟨rfl,hb⟩;have K1:=hid (K1.o.below hb);have w9:=hbt uu hb;clear hb;obtain ⟨wm,wo⟩:=aC K1.o rfl rfl;obtain ⟨sj,su⟩:=aS K1.o;go_wp2;exact bodyPost_ret (v:=.tuple #[.agg #[.string ⟨#[]⟩,.string ⟨#[]⟩],.int .i64 2]) (by simp[results,results5,go_sem,wm,wo]) rfl ⟨rfl,(aj (l:=[.string ⟨#[]⟩,.string ⟨#[]⟩]) (i:=0) (by omega) w9.o)⟩
theorem z3U {a:ByteArray}(n k:Int)(h:vldQ a.data.toList=false)(ha:a.size≤900)(w:World)(hla:La w):CV w 5 #[.string a,.int .i64 n,.int .i64 k] (.tuple #[.agg #[.string ⟨#[]⟩,.string ⟨#[]⟩],.int .i64 1]) :=
 z3Q a n k w (avno h ha w hla)
theorem uU {d:Rat}(n k:Int)(h:¬ (-90≤d∧d≤90))(hd:aO d)(w:World)(hla:La w):CV w 5 #[.string (Sq d),.int .i64 n,.int .i64 k] (.tuple #[.agg #[.string ⟨#[]⟩,.string ⟨#[]⟩],.int .i64 2]):=by
 have b90:SmQ 3 (90:Rat):=⟨by unfold Sm;decide,by unfold Sm;decide⟩;have n90:SmQ 3 (-90:Rat):=⟨by unfold Sm;decide,by unfold Sm;decide⟩;have hh:CV w 13 #[.agg #[.string (Sq (-90:Rat)),.string (Sq (90:Rat))],.string (Sq d)] (.bool false):=fun W hW=>xHas (-90) 90 d false (decide_eq_false h) (by decide +kernel) (n90.fit (by decide)) (b90.fit (by decide)) hd W (hla.on hW);rw[show Sq (-90:Rat)=⟨#[45,57,48]⟩from by decide +kernel,show Sq (90:Rat)=⟨#[57,48]⟩from by decide +kernel]at hh;exact z3P _ n k w (avcv hd w hla) hh
end Go.Proofs.YtoaeaiiabelhkaaGreatDoor
open Go.Lib (hid)
namespace Go.Proofs.YtoaeaiiabelhkaaGreatDoor
open Go.RowKit Go.Gb
theorem z5G (d:ByteArray)(n k:Int)(w₀:World)(h1:CV w₀ 16 #[.string d] (.bool true))(h2:CV w₀ 13 #[.agg #[.string ⟨#[45,57,48]⟩,.string ⟨#[57,48]⟩],.string d] (.bool true))(h3:CV w₀ 17 #[.int .i64 n] (.bool false))  :
 CV w₀ 5 #[.string d,.int .i64 n,.int .i64 k] (.tuple #[.agg #[.string ⟨#[]⟩,.string ⟨#[]⟩],.int .i64 2]):=by
 intro w hw;obtain ⟨C1,C2,C3⟩:=ak (h1.mono hw) (h2.mono hw) (h3.mono hw);clear h1 h2 h3 hw;go_enter func5,ntmps5
 go_upto_region 1 with fail
 refine av w [(#[.string ⟨#[]⟩,.string ⟨#[]⟩],25)] rfl ?_;rintro W0 ⟨k1,hb⟩;have u6:=hid (show Below w.heap.size w W0 from hb);have K1:=hid k1;clear k1 hb;go_wp2_with fail
 with_reducible refine(C1.o _ u6.o).mono ?_
 rintro e W1 ⟨rfl,hb⟩;have K1:=hid (K1.o.below hb);have uu:=hbt u6 hb;clear hb;go_wp2_with fail
 with_reducible refine(C2.o _ uu.o).mono ?_
 rintro e W2 ⟨rfl,hb⟩;have K1:=hid (K1.o.below hb);have w9:=hbt uu hb;clear hb;go_wp2_with fail
 with_reducible refine(C3.o _ w9.o).mono ?_
 rintro e W3 ⟨rfl,hb⟩;have K1:=hid (K1.o.below hb);have wu:=hbt w9 hb;clear hb;obtain ⟨wm,wo⟩:=aC K1.o rfl rfl;obtain ⟨sj,su⟩:=aS K1.o;go_wp2;exact bodyPost_ret (v:=.tuple #[.agg #[.string ⟨#[]⟩,.string ⟨#[]⟩],.int .i64 2]) (by simp[results,results5,go_sem,wm,wo]) rfl ⟨rfl,(aj (l:=[.string ⟨#[]⟩,.string ⟨#[]⟩]) (i:=0) (by omega) wu.o)⟩
theorem z5H (d:ByteArray)(n k:Int)(w₀:World)(h1:CV w₀ 16 #[.string d] (.bool true))(h2:CV w₀ 13 #[.agg #[.string ⟨#[45,57,48]⟩,.string ⟨#[57,48]⟩],.string d] (.bool true))(h3:CV w₀ 17 #[.int .i64 n] (.bool true))(f1:k<0∨24<k) :
 CV w₀ 5 #[.string d,.int .i64 n,.int .i64 k] (.tuple #[.agg #[.string ⟨#[]⟩,.string ⟨#[]⟩],.int .i64 2]):=by
 intro w hw
 rcases f1 with f1|f1<;>(
  obtain ⟨C1,C2,C3⟩:=ak (h1.mono hw) (h2.mono hw) (h3.mono hw);try have g1:decide (k<0)=true:=decide_eq_true (by omega)
  try have g1:decide (k<0)=false:=decide_eq_false (by omega)
  try have g2:k<0:=by omega
  try have g2:¬ k<0:=by omega
  try have g3:decide (24<k)=true:=decide_eq_true (by omega)
  try have g4:24<k:=by omega
  clear f1 h1 h2 h3 hw;go_enter func5,ntmps5
  go_upto_region 1 with fail
  refine av w [(#[.string ⟨#[]⟩,.string ⟨#[]⟩],25)] rfl ?_;rintro W0 ⟨k1,hb⟩;have u6:=hid (show Below w.heap.size w W0 from hb);have K1:=hid k1;clear k1 hb;go_wp2_with fail
  with_reducible refine(C1.o _ u6.o).mono ?_
  rintro e W1 ⟨rfl,hb⟩;have K1:=hid (K1.o.below hb);have uu:=hbt u6 hb;clear hb;go_wp2_with fail
  with_reducible refine(C2.o _ uu.o).mono ?_
  rintro e W2 ⟨rfl,hb⟩;have K1:=hid (K1.o.below hb);have w9:=hbt uu hb;clear hb;go_wp2_with fail
  with_reducible refine(C3.o _ w9.o).mono ?_
  rintro e W3 ⟨rfl,hb⟩;have K1:=hid (K1.o.below hb);have wu:=hbt w9 hb;clear hb;obtain ⟨wm,wo⟩:=aC K1.o rfl rfl;obtain ⟨sj,su⟩:=aS K1.o;go_wp2
  exact bodyPost_ret (v:=.tuple #[.agg #[.string ⟨#[]⟩,.string ⟨#[]⟩],.int .i64 2]) (by simp[results,results5,go_sem,wm,wo]) rfl ⟨rfl,(aj (l:=[.string ⟨#[]⟩,.string ⟨#[]⟩]) (i:=0) (by omega) wu.o)⟩)
theorem z5F (n:Int)(w₀:World)  (f1:n<1∨24<n) :
 CV w₀ 17 #[.int .i64 n] (.bool false):=by
 intro w hw
 rcases f1 with f1|f1<;>(
  try have g1:decide (1≤n)=false:=decide_eq_false (by omega)
  try have g1:decide (1≤n)=true:=decide_eq_true (by omega)
  try have g2:¬ 1≤n:=by omega
  try have g2:1≤n:=by omega
  try have g3:decide (n≤24)=false:=decide_eq_false (by omega)
  try have g4:¬ n≤24:=by omega
  clear f1 hw;go_enter func17,ntmps17
  have u6:=hid (Below.refl w.heap.size w);go_wp2
  exact bodyPost_ret (v:=.bool false) (by simp[results,results17,go_sem]) rfl ⟨rfl,u6.o⟩)
theorem z4K (d:ByteArray)(n k:Int)(w₀:World)  (hla:La w₀)(f1:9<d.size∨¬ 9<d.size∧((4<n∧n≤24)∨(n≤4∨24<n)∧6<k∧k≤24)) :
 CV w₀ 3 #[.string d,.int .i64 n,.int .i64 k] (.bool true):=by
 intro w hw
 rcases f1 with f1|⟨f1,⟨f2,f3⟩|⟨f2|f2,f4,f5⟩⟩<;>(
  have HT:=hid (hla.on hw);clear hla;try have g1:(9:Int)<(d.size:Int):=by omega
  try have g1:¬ (9:Int)<(d.size:Int):=by omega
  try have u1:decide (4<n)=true:=decide_eq_true (by omega)
  try have u1:decide (4<n)=false:=decide_eq_false (by omega)
  try have u2:4<n:=by omega
  try have u2:¬ 4<n:=by omega
  try have u3:decide (n≤24)=true:=decide_eq_true (by omega)
  try have u3:decide (n≤24)=false:=decide_eq_false (by omega)
  try have u4:n≤24:=by omega
  try have u4:¬ n≤24:=by omega
  try have v1:decide (6<k)=true:=decide_eq_true (by omega)
  try have v1:decide (6<k)=false:=decide_eq_false (by omega)
  try have v2:6<k:=by omega
  try have v2:¬ 6<k:=by omega
  try have v3:decide (k≤24)=true:=decide_eq_true (by omega)
  try have v3:decide (k≤24)=false:=decide_eq_false (by omega)
  try have v4:k≤24:=by omega
  try have v4:¬ k≤24:=by omega
  clear hw;go_enter func3,ntmps3
  have u6:=hid (Below.refl w.heap.size w);go_wp2_with fail
  with_reducible refine((kD _ (HT.o.on u6.o)).at).mono ?_
  rintro e W1 ⟨rfl,hb⟩;have uu:=hbt u6 hb;clear hb;go_wp2_with fail
  with_reducible refine((kD _ (HT.o.on uu.o)).at).mono ?_
  rintro e W2 ⟨rfl,hb⟩;have w9:=hbt uu hb;clear hb;go_wp2
  exact bodyPost_ret (v:=.bool true) (by simp[results,results3,go_sem]) rfl ⟨rfl,w9.o⟩)
theorem z5W (d:ByteArray)(n k:Int)(s1 t1:ByteArray)(e1:Int)(w₀:World)(h1:CV w₀ 5 #[.string d,.int .i64 n,.int .i64 k] (.tuple #[.agg #[.string s1,.string t1],.int .i64 e1]))(h2:CV w₀ 6 #[.string d,.int .i64 n,.int .i64 k] (.tuple #[.agg #[.string s1,.string t1],.int .i64 e1]))(hla:La w₀)(f1:¬ 9<d.size)(f2:n≤4∨24<n)(f4:k≤6∨24<k) :
 CV w₀ 3 #[.string d,.int .i64 n,.int .i64 k] (.bool true):=by
 intro w hw
 rcases f2 with f2|f2<;>rcases f4 with f4|f4<;>(
  obtain ⟨C1,C2,HT⟩:=ak (h1.mono hw) (h2.mono hw) (hla.on hw);clear hla;try have g1:(9:Int)<(d.size:Int):=by omega
  try have g1:¬ (9:Int)<(d.size:Int):=by omega
  try have u1:decide (4<n)=true:=decide_eq_true (by omega)
  try have u1:decide (4<n)=false:=decide_eq_false (by omega)
  try have u2:4<n:=by omega
  try have u2:¬ 4<n:=by omega
  try have u3:decide (n≤24)=true:=decide_eq_true (by omega)
  try have u3:decide (n≤24)=false:=decide_eq_false (by omega)
  try have u4:n≤24:=by omega
  try have u4:¬ n≤24:=by omega
  try have v1:decide (6<k)=true:=decide_eq_true (by omega)
  try have v1:decide (6<k)=false:=decide_eq_false (by omega)
  try have v2:6<k:=by omega
  try have v2:¬ 6<k:=by omega
  try have v3:decide (k≤24)=true:=decide_eq_true (by omega)
  try have v3:decide (k≤24)=false:=decide_eq_false (by omega)
  try have v4:k≤24:=by omega
  try have v4:¬ k≤24:=by omega
  clear f1 f2 f4 h1 h2 hw;go_enter func3,ntmps3
  have u6:=hid (Below.refl w.heap.size w);go_wp2_with fail
  with_reducible refine((kD _ (HT.o.on u6.o)).at).mono ?_
  rintro e W1 ⟨rfl,hb⟩;have uu:=hbt u6 hb;clear hb;go_wp2_with fail
  with_reducible refine(C1.o _ uu.o).mono ?_
  rintro e W2 ⟨rfl,hb⟩;have w9:=hbt uu hb;clear hb;go_upto_region 4 with fail
  refine av W2 [(#[.string s1,.string t1],25)] rfl ?_;have L1:=w9.o.size;rintro W3 ⟨k1,hb⟩;have hb:Below W2.heap.size W2 W3:=hb;have wu:=hbt w9 hb;have K1:=hid k1;clear k1 hb;go_wp2_with fail
  with_reducible refine(C2.o _ wu.o).mono ?_
  rintro e W4 ⟨rfl,hb⟩;have K1:=hid (K1.o.below hb);have ww:=hbt wu hb;clear hb;go_upto_region 5 with fail
  refine av W4 [(#[.string s1,.string t1],25)] rfl ?_;have L2:=K1.o.lt;have L3:=ww.o.size;rintro W5 ⟨k2,hb⟩;have hb:Below W4.heap.size W4 W5:=hb;have K1:=hid (K1.o.below hb);have si:=hbt ww hb;have K2:=hid k2;clear k2 hb;obtain ⟨wm,wo⟩:=aC K1.o rfl rfl;obtain ⟨oM,oV⟩:=aC K2.o rfl rfl;go_wp2
  exact bodyPost_ret (v:=.bool true) (by simp[results,results3,go_sem]) rfl ⟨rfl,si.o⟩)
