/- Texts of this proof, one behind the other. -/
import Derived.Test.YtcihodmmaclihaaGreatDoorMz43q
set_option maxRecDepth 100000
set_option maxHeartbeats 20000000
open Go.Lib (hid)
namespace Go.Proofs.YtcihodmmaclihaaGreatDoor
open Go.RowKit Go.Gb
theorem a13:SmQ 2 (1/3:Rat):=⟨by unfold Sm;decide +kernel,by unfold Sm;decide +kernel⟩
theorem a90:SmQ 3 (90:Rat):=⟨by unfold Sm;decide +kernel,by unfold Sm;decide +kernel⟩
theorem an90:SmQ 3 (-90:Rat):=⟨by unfold Sm;decide +kernel,by unfold Sm;decide +kernel⟩
theorem a355:SmQ 4 (355/113:Rat):=⟨by unfold Sm;decide +kernel,by unfold Sm;decide +kernel⟩
theorem t13:Sq (1/3:Rat)=⟨#[49,47,51]⟩:=by decide +kernel
theorem t34:Sq (3/4:Rat)=⟨#[51,47,52]⟩:=by decide +kernel
theorem t35:Sq (3/5:Rat)=⟨#[51,47,53]⟩:=by decide +kernel
theorem t45:Sq (4/5:Rat)=⟨#[52,47,53]⟩:=by decide +kernel
theorem t90:Sq (90:Rat)=⟨#[57,48]⟩:=by decide +kernel
theorem tn90:Sq (-90:Rat)=⟨#[45,57,48]⟩:=by decide +kernel
theorem t355:Sq (355/113:Rat)=⟨#[51,53,53,47,49,49,51]⟩:=by decide +kernel
theorem t1124:Sq (11/24:Rat)=⟨#[49,49,47,50,52]⟩:=by decide +kernel
theorem ax_cos (w:World)(hla:La w):CV w 18 #[.string ⟨#[49,47,50]⟩] (.tuple #[.string ⟨#[51,47,53]⟩,.int .i64 0]):=by
 have h:=aCos_n s12 (by decide) (by decide +kernel) w hla
 rwa [show cosQ (1 / 2)=3 / 5 from by decide +kernel,t12,t35]at h
theorem ax_sin (w:World)(hla:La w):CV w 19 #[.string ⟨#[49,47,50]⟩] (.tuple #[.string ⟨#[52,47,53]⟩,.int .i64 0]):=by
 have h:=aSin_n s12 (by decide) (by decide +kernel) w hla
 rwa [show sinQ (1 / 2)=4 / 5 from by decide +kernel,t12,t45]at h
theorem ax_sum1 (w:World)(hla:La w):CV w 20 #[.string ⟨#[49,47,50]⟩,.string ⟨#[49,47,50]⟩] (.tuple #[.string ⟨#[]⟩,.int .i64 15]):=by
 have h:=aSum_limit s12 s12 (by decide) (by decide +kernel) (by decide +kernel) (by decide +kernel) w hla
 rwa [t12]at h
theorem ax_sum2 (w:World)(hla:La w):CV w 20 #[.string ⟨#[49,47,51]⟩,.string ⟨#[49,47,51]⟩] (.tuple #[.string ⟨#[51,47,52]⟩,.int .i64 0]):=by
 have h:=aSum_n a13 a13 (by decide) (by decide +kernel) (by decide +kernel) (by decide +kernel) (by decide +kernel) w hla
 rwa [show sumQ (1 / 3) (1 / 3)=3 / 4 from by decide +kernel,t13,t34]at h
theorem ax_arct (w:World)(hla:La w):CV w 9 #[.string ⟨#[49,47,50]⟩,.int .i64 1] (.tuple #[.agg #[.string ⟨#[49,49,47,50,52]⟩,.string ⟨#[49,47,50]⟩],.int .i64 0]):=by
 have hr:SmQ 2 ((1-(1:Rat) / 2) / (1+1 / 2)):=by
  rw[show(1-(1:Rat) / 2) / (1+1 / 2)=1 / 3 from by decide +kernel]
  exact a13
 have h:=aAt_n (n:=1) (by decide) s12 (by decide +kernel) (by decide +kernel) hr (by decide) (by decide) w hla
 have hc:=aCircle_n (n:=1) (by decide) (by decide) w hla
 rw[show atI 1 (1 / 2)=(11 / 24,1 / 2) from by decide +kernel,t12]at h
 have h2:=aenc_arct _ _ _ _ _ _ w (anum_yes 1 w (by decide) (by decide)) hc h (t12▸ck1_fine (by decide +kernel) (s12.fit (by decide)) w hla)
 have h3:=ameas_arct _ _ _ _ _ w h2
 rwa [t1124]at h3
theorem pi3_pos:0<(piI 3).1:=by decide +kernel
theorem sm_at3 {x:Rat}{k l:Nat}(hx:SmQ k x)(hr:SmQ l ((1-x) / (1+x)))(hk:k≤2)(hl:l≤2):SmQ 496 (atI 3 x).1∧SmQ 496 (atI 3 x).2:=by
 have a:=sm_serI (n:=3) (hx.mono hk) (by decide)
 have b:=sm_serI (n:=3) (hr.mono hl) (by decide)
 have hp:=sm_piI (n:=3) (by decide)
 have c:=sm_mulI s14 hp.1 hp.2
 unfold atI
 split
 · exact⟨a.1.mono (by decide),a.2.mono (by decide)⟩
 · exact⟨(c.1.sub b.2).mono (by decide),(c.2.sub b.1).mono (by decide)⟩
theorem deg3 {x:Rat}{k l:Nat}(hx:SmQ k x)(hr:SmQ l ((1-x) / (1+x)))(hk:k≤2)(hl:l≤2)(h1 : -1 / 2≤x)(h2:x≤1)(w:World)(hla:La w) :
 CV w 27 #[.agg #[.int .i64 3,.string (Sq (piI 3).1),.string (Sq (piI 3).2)],.string (Sq x)] (.agg #[.string (Sq (degI 3 x).1),.string (Sq (degI 3 x).2)]):=by
 have hs:=sm_at3 hx hr hk hl
 exact aDeg_n (n:=3) (by decide) (aAt_n (n:=3) (by decide) (hx.mono hk) h1 h2 (hr.mono hl) (by decide) (by decide) w hla) hs.1 hs.2 (by decide) pi3_pos hla
theorem fit_deg3 {x:Rat}{k l:Nat}(hx:SmQ k x)(hr:SmQ l ((1-x) / (1+x)))(hk:k≤2)(hl:l≤2):FitQ (degI 3 x).1∧FitQ (degI 3 x).2:=by
 have hs:=sm_at3 hx hr hk hl
 have hp:=sm_piI (n:=3) (by decide)
 have n1:(piI 3).1≠0:=by decide +kernel
 have n2:(piI 3).2≠0:=by decide +kernel
 have m:=sm_mulI s360 hs.1 hs.2
 have q:=sm_ex4 (m.1.div hp.1 n1) (m.1.div hp.2 n2) (m.2.div hp.1 n1) (m.2.div hp.2 n2)
 exact⟨q.1.fit (by decide),q.2.fit (by decide)⟩
theorem degI_le (n:Nat)(x:Rat):(degI n x).1≤(degI n x).2:=exOf_order _ 3
theorem r1:SmQ 1 ((1-(1:Rat)) / (1+1)):=by
 rw[show(1-(1:Rat)) / (1+1)=0 from by decide +kernel]
 exact su0
theorem r0:SmQ 1 ((1-(0:Rat)) / (1+0)):=by
 rw[show(1-(0:Rat)) / (1+0)=1 from by decide +kernel]
 exact su1
theorem r12:SmQ 2 ((1-(1:Rat) / 2) / (1+1 / 2)):=by
 rw[show(1-(1:Rat) / 2) / (1+1 / 2)=1 / 3 from by decide +kernel]
 exact a13
theorem ax_degr (w:World)(hla:La w):CV w 11 #[.string ⟨#[49]⟩,.int .i64 3] (.tuple #[.agg #[.string (Sq (degI 3 1).1),.string (Sq (degI 3 1).2)],.int .i64 0]):=by
 have h:=deg3 su1 r1 (by decide) (by decide) (by decide +kernel) (by decide +kernel) w hla
 have hc:=aCircle_n (n:=3) (by decide) (by decide) w hla
 rw[uq1]at h
 exact ameas_degr _ _ _ _ _ w (aenc_degr _ _ _ _ _ _ w (anum_yes 3 w (by decide) (by decide)) hc h (uq1▸ck1_fine (by decide +kernel) (su1.fit (by decide)) w hla))
theorem ax_pi (w:World)(hla:La w):CV w 8 #[.int .i64 3] (.tuple #[.agg #[.string (Sq (piI 3).1),.string (Sq (piI 3).2)],.int .i64 0]) :=
 api_raw _ _ _ w (anum_yes 3 w (by decide) (by decide)) (aCircle_n (n:=3) (by decide) (by decide) w hla)
theorem ax_find (w:World)(hla:La w):CV w 16 #[.string ⟨#[57,48]⟩,.int .i64 3,.int .i64 2] (.tuple #[.agg #[.string ⟨#[49,47,50]⟩,.string ⟨#[49]⟩],.int .i64 0]):=by
 have z1:=aplus_n (x := -1) (y:=1) (z:=0) (by decide +kernel) (sun.fit (by decide)) (su1.fit (by decide)) w hla
 have z2:=atimes_n (x:=0) (y:=1 / 2) (z:=0) (by decide +kernel) (su0.fit (by decide)) (s12.fit (by decide)) w hla
 have d1:=deg3 su0 r0 (by decide) (by decide) (by decide +kernel) (by decide +kernel) w hla
 have f1:=fit_deg3 su0 r0 (by decide) (by decide)
 have o1:=aorder_n (x:=(degI 3 0).2) (y:=90) rfl f1.2 (a90.fit (by decide)) w hla
 have z3:=aplus_n (x:=0) (y:=1) (z:=1) (by decide +kernel) (su0.fit (by decide)) (su1.fit (by decide)) w hla
 have z4:=atimes_n (x:=1) (y:=1 / 2) (z:=1 / 2) (by decide +kernel) (su1.fit (by decide)) (s12.fit (by decide)) w hla
 have d2:=deg3 s12 r12 (by decide) (by decide) (by decide +kernel) (by decide +kernel) w hla
 have f2:=fit_deg3 s12 r12 (by decide) (by decide)
 have o2:=aorder_n (x:=(degI 3 (1 / 2)).2) (y:=90) rfl f2.2 (a90.fit (by decide)) w hla
 rw[uqn,uq1]at z1
 rw[t12]at z2
 rw[uq1]at z3
 rw[uq1,t12]at z4
 rw[t90]at o1 o2
 rw[t12]at d2
 have h:=ahalve_up2 _ _ _ _ _ _ _ _ _ _ _ _ _ _ w z1 z2 d1 o1 z3 z4 d2 o2 (by decide +kernel) (by decide +kernel)
 have hv:=avcv (a90.fit (by decide)) w hla
 have hh:CV w 15 #[.agg #[.string (Sq (-90:Rat)),.string (Sq (90:Rat))],.string (Sq (90:Rat))] (.bool true):=fun W hW=>xHas (-90) 90 90 true (by decide +kernel) (by decide +kernel) (an90.fit (by decide)) (a90.fit (by decide)) (a90.fit (by decide)) W (hla.on hW)
 rw[t90]at hv
 rw[tn90,t90]at hh
 exact afind_raw _ _ _ _ _ _ _ w hv hh (anum_yes 3 w (by decide) (by decide)) (aCircle_n (n:=3) (by decide) (by decide) w hla) h (by decide) (by decide)
theorem ax_has1 (w:World)(hla:La w):CV w 15 #[.agg #[.string (Sq (degI 3 1).1),.string (Sq (degI 3 1).2)],.string ⟨#[57,48]⟩] (.bool true):=by
 have f:=fit_deg3 su1 r1 (by decide) (by decide)
 have h:CV w 15 #[.agg #[.string (Sq (degI 3 1).1),.string (Sq (degI 3 1).2)],.string (Sq (90:Rat))] (.bool true):=fun W hW=>xHas _ _ 90 true (by decide +kernel) (degI_le _ _) f.1 f.2 (a90.fit (by decide)) W (hla.on hW)
 rwa [t90]at h
theorem ax_has2 (w:World)(hla:La w):CV w 15 #[.agg #[.string (Sq (piI 3).1),.string (Sq (piI 3).2)],.string ⟨#[51,53,53,47,49,49,51]⟩] (.bool true):=by
 have f:=sm_piI (n:=3) (by decide)
 have h:CV w 15 #[.agg #[.string (Sq (piI 3).1),.string (Sq (piI 3).2)],.string (Sq (355 / 113:Rat))] (.bool true):=fun W hW=>xHas _ _ (355 / 113) true (by decide +kernel) (piI_le _) (f.1.fit (by decide)) (f.2.fit (by decide)) (a355.fit (by decide)) W (hla.on hW)
 rwa [t355]at h
theorem ax_ivalid (w:World)(hla:La w):CV w 17 #[.agg #[.string ⟨#[49,47,50]⟩,.string ⟨#[49]⟩]] (.bool true):=by
 have h:CV w 17 #[.agg #[.string (Sq (1 / 2:Rat)),.string (Sq (1:Rat))]] (.bool true):=fun W hW=>xValid_yes (1 / 2) 1 (by decide +kernel) (s12.fit (by decide)) (su1.fit (by decide)) W (hla.on hW)
 rwa [t12,uq1]at h
theorem ax_valid1 (w:World)(hla:La w):CV w 7 #[.string ⟨#[45,49]⟩] (.bool true):=by
 have h:=aValid_n (t := -1) (r:=true) (by decide +kernel) (sun.fit (by decide)) w hla
 rwa [uqn]at h
theorem ax_valid2 (w:World)(hla:La w):CV w 7 #[.string ⟨#[50]⟩] (.bool false):=by
 have h:=aValid_n (t:=2) (r:=false) (by decide +kernel) (su2.fit (by decide)) w hla
 rwa [uq2]at h
theorem angle_awake  (w₀:World)  (hla:La w₀) :
 CV w₀ 6 #[] (.bool true):=by
 intro w hw
 have HT:=hid (hla.on hw)
 clear hla hw
 go_enter Tryz.func6,Tryz.ntmps6
 have HB0:=hid (Below.refl w.heap.size w)
 go_wp2_with fail
 with_reducible refine((ax_cos _ (HT.out.on HB0.out)).at).mono ?_
 rintro e W1 ⟨rfl,hb⟩
 have HB1:=hbt HB0 hb
 clear hb
 go_wp2_with fail
 with_reducible refine((ax_sin _ (HT.out.on HB1.out)).at).mono ?_
 rintro e W2 ⟨rfl,hb⟩
 have HB2:=hbt HB1 hb
 clear hb
 go_wp2_with fail
 with_reducible refine((ax_sum1 _ (HT.out.on HB2.out)).at).mono ?_
 rintro e W3 ⟨rfl,hb⟩
 have HB3:=hbt HB2 hb
 clear hb
 go_wp2_with fail
 with_reducible refine((ax_sum2 _ (HT.out.on HB3.out)).at).mono ?_
 rintro e W4 ⟨rfl,hb⟩
 have HB4:=hbt HB3 hb
 clear hb
 go_wp2_with fail
 with_reducible refine((ax_arct _ (HT.out.on HB4.out)).at).mono ?_
 rintro e W5 ⟨rfl,hb⟩
 have HB5:=hbt HB4 hb
 clear hb
 go_upto_region 6 with fail
 refine wp_boxes W5 [(#[.string ⟨#[49,49,47,50,52]⟩,.string ⟨#[49,47,50]⟩],26)] rfl ?_
 have L1:=HB5.out.size
 rintro W6 ⟨k1,hb⟩
 have hb:Below W5.heap.size W5 W6:=hb
 have HB6:=hbt HB5 hb
 have K1:=hid k1
 clear k1 hb
 go_wp2_with fail
 with_reducible refine((ax_degr _ (HT.out.on HB6.out)).at).mono ?_
 rintro e W7 ⟨rfl,hb⟩
 have K1:=hid (K1.out.below hb)
 have HB7:=hbt HB6 hb
 clear hb
 go_upto_region 7 with fail
 refine wp_boxes W7 [(#[.string (Sq (degI 3 1).1),.string (Sq (degI 3 1).2)],26)] rfl ?_
 have L2:=K1.out.lt
 have L3:=HB7.out.size
 rintro W8 ⟨k2,hb⟩
 have hb:Below W7.heap.size W7 W8:=hb
 have K1:=hid (K1.out.below hb)
 have HB8:=hbt HB7 hb
 have K2:=hid k2
 clear k2 hb
 go_wp2_with fail
 with_reducible refine((ax_pi _ (HT.out.on HB8.out)).at).mono ?_
 rintro e W9 ⟨rfl,hb⟩
 have K1:=hid (K1.out.below hb)
 have K2:=hid (K2.out.below hb)
 have HB9:=hbt HB8 hb
 clear hb
 go_upto_region 8 with fail
 refine wp_boxes W9 [(#[.string (Sq (piI 3).1),.string (Sq (piI 3).2)],26)] rfl ?_
 have L4:=K1.out.lt
 have L5:=K2.out.lt
 have L6:=HB9.out.size
 rintro W10 ⟨k3,hb⟩
 have hb:Below W9.heap.size W9 W10:=hb
 have K1:=hid (K1.out.below hb)
 have K2:=hid (K2.out.below hb)
 have HB10:=hbt HB9 hb
 have K3:=hid k3
 clear k3 hb
 go_wp2_with fail
 with_reducible refine((ax_find _ (HT.out.on HB10.out)).at).mono ?_
 rintro e W11 ⟨rfl,hb⟩
 have K1:=hid (K1.out.below hb)
 have K2:=hid (K2.out.below hb)
 have K3:=hid (K3.out.below hb)
 have HB11:=hbt HB10 hb
 clear hb
 go_upto_region 9 with fail
 refine wp_boxes W11 [(#[.string ⟨#[49,47,50]⟩,.string ⟨#[49]⟩],26)] rfl ?_
 have L7:=K1.out.lt
 have L8:=K2.out.lt
 have L9:=K3.out.lt
 have L10:=HB11.out.size
 rintro W12 ⟨k4,hb⟩
 have hb:Below W11.heap.size W11 W12:=hb
 have K1:=hid (K1.out.below hb)
 have K2:=hid (K2.out.below hb)
 have K3:=hid (K3.out.below hb)
 have HB12:=hbt HB11 hb
 have K4:=hid k4
 clear k4 hb
 have dK10:=K1.out.cell (i:=0) rfl
 have dK11:=K1.out.cell (i:=1) rfl
 have dK20:=K2.out.cell (i:=0) rfl
 have dK21:=K2.out.cell (i:=1) rfl
 go_wp2_with fail
 with_reducible refine((ax_has1 _ (HT.out.on HB12.out)).at).mono ?_
 rintro e W13 ⟨rfl,hb⟩
 clear dK10 dK11 dK20 dK21
 have K3:=hid (K3.out.below hb)
 have K4:=hid (K4.out.below hb)
 have HB13:=hbt HB12 hb
 clear hb
 have dK30:=K3.out.cell (i:=0) rfl
 have dK31:=K3.out.cell (i:=1) rfl
 go_wp2_with fail
 with_reducible refine((ax_has2 _ (HT.out.on HB13.out)).at).mono ?_
 rintro e W14 ⟨rfl,hb⟩
 clear dK30 dK31
 have K4:=hid (K4.out.below hb)
 have HB14:=hbt HB13 hb
 clear hb
 have dK40:=K4.out.cell (i:=0) rfl
 have dK41:=K4.out.cell (i:=1) rfl
 go_wp2_with fail
 with_reducible refine((ax_ivalid _ (HT.out.on HB14.out)).at).mono ?_
 rintro e W15 ⟨rfl,hb⟩
 clear dK40 dK41
 have HB15:=hbt HB14 hb
 clear hb
 go_wp2_with fail
 with_reducible refine((ax_valid1 _ (HT.out.on HB15.out)).at).mono ?_
 rintro e W16 ⟨rfl,hb⟩
 have HB16:=hbt HB15 hb
 clear hb
 go_wp2_with fail
 with_reducible refine((ax_valid2 _ (HT.out.on HB16.out)).at).mono ?_
 rintro e W17 ⟨rfl,hb⟩
 have HB17:=hbt HB16 hb
 clear hb
 go_wp2
 exact bodyPost_ret (v:=.bool true) (by simp[results,Tryz.results6,go_sem]) rfl ⟨rfl,HB17.out⟩
end Go.Proofs.YtcihodmmaclihaaGreatDoor
namespace Go.Gb
theorem unit_mul {u v:Rat}(h1:0≤u)(h2:u≤1)(h3:0≤v)(h4:v≤1):0≤u*v∧u*v≤1:=by
 have a:=Rat.mul_nonneg h1 h3
 have b:=Rat.mul_nonneg h1 (show 0≤1-v by grind)
 constructor
 · exact a
 · grind
theorem sq_unit {x:Rat}(h1 : -1≤x)(h2:x≤1):0≤x*x∧x*x≤1:=by
 have a:=Rat.mul_nonneg (show 0≤1-x by grind) (show 0≤1+x by grind)
 have b:=usq_pos x
 constructor
 · rcases Rat.le_total (a:=0) (b:=x) with h|h
   · exact Rat.mul_nonneg h h
   · have:=Rat.mul_nonneg (show 0 ≤ -x by grind) (show 0 ≤ -x by grind)
     grind
 · grind
theorem term_next {x:Rat}(h1 : -1≤x)(h2:x≤1)(i:Nat):∃ q:Rat,0≤q∧q≤1∧termU x (i+1) = -(q*termU x i):=by
 have hs:=sq_unit h1 h2
 have ha:(0:Rat)≤((i:Nat):Rat):=Rat.natCast_nonneg
 have ea:((2*i+1:Nat):Rat)=2*(i:Rat)+1:=by
  rw[Rat.natCast_add,Rat.natCast_mul]
  rfl
 have eb:((2*(i+1)+1:Nat):Rat)=2*(i:Rat)+3:=by
  rw[Rat.natCast_add,Rat.natCast_mul,Rat.natCast_add]
  show(2:Rat)*((i:Rat)+1)+1=_
  grind
 obtain⟨a,rfl⟩:∃ a:Rat,a=(i:Rat):=⟨_,rfl⟩
 have hp:0<2*(i:Rat)+3:=by grind
 have hv0:0≤(2*(i:Rat)+1) / (2*(i:Rat)+3):=udiv_nonneg (by grind) hp
 have e1:(2*(i:Rat)+1) / (2*(i:Rat)+3)*(2*(i:Rat)+3)=2*(i:Rat)+1:=Rat.div_mul_cancel (by grind)
 have hv1:(2*(i:Rat)+1) / (2*(i:Rat)+3)≤1:=by
  have h2:0≤(2:Rat) / (2*(i:Rat)+3):=udiv_nonneg (by grind) hp
  have e2:(2:Rat) / (2*(i:Rat)+3)*(2*(i:Rat)+3)=2:=Rat.div_mul_cancel (by grind)
  have:(2*(i:Rat)+1) / (2*(i:Rat)+3)=1-2 / (2*(i:Rat)+3):=by
   have hn:(2*(i:Rat)+3)≠0:=by grind
   grind
  grind
 have hq:=unit_mul hs.1 hs.2 hv0 hv1
 refine⟨_,hq.1,hq.2,?_⟩
 unfold termU
 rw[ea,eb]
 show powU x i*(0-x*x) / _=_
 have hn:(2*(i:Rat)+3)≠0:=by grind
 have hm:(2*(i:Rat)+1)≠0:=by grind
 generalize powU x i=p
 generalize (i:Rat)=b at *
 grind
theorem mean_in {l u a b q:Rat}(h1:l≤a)(h2:l≤b)(h3:a≤u)(h4:b≤u)(q0:0≤q)(q1:q≤1):l≤(1-q)*b+q*a∧(1-q)*b+q*a≤u:=by
 have x1:=Rat.mul_nonneg (show 0≤1-q by grind) (show 0≤b-l by grind)
 have x2:=Rat.mul_nonneg q0 (show 0≤a-l by grind)
 have x3:=Rat.mul_nonneg (show 0≤1-q by grind) (show 0≤u-b by grind)
 have x4:=Rat.mul_nonneg q0 (show 0≤u-a by grind)
 constructor<;>grind
theorem ser_between {x l u:Rat}(h1 : -1≤x)(h2:x≤1)(n:Nat)(a1:l≤serU x n)(a2:l≤serU x (n+1))(a3:serU x n≤u)(a4:serU x (n+1)≤u):l≤serU x (n+2)∧serU x (n+2)≤u:=by
 obtain⟨q,q0,q1,e⟩:=term_next h1 h2 n
 have e1:serU x (n+1)=serU x n+termU x n:=rfl
 have e2:serU x (n+2)=serU x (n+1)+termU x (n+1):=rfl
 have e3:serU x (n+2)=(1-q)*serU x (n+1)+q*serU x n:=by grind
 rw[e3]
 exact mean_in a1 a2 a3 a4 q0 q1
def pwU (x:Rat):Nat→Rat
 | 0=>1
 | n+1=>pwU x n*x
theorem pw_neg (x:Rat):∀ n,pwU (-x) (2*n+1) = -pwU x (2*n+1)∧pwU (-x) (2*n+2)=pwU x (2*n+2)
 | 0=>by
   constructor
   · show 1 * -x = -(1*x)
     grind
   · show 1 * -x * -x=1*x*x
     grind
 | n+1=>by
   have h:=pw_neg x n
   have e1:pwU (-x) (2*(n+1)+1)=pwU (-x) (2*n+2) * -x:=rfl
   have e2:pwU x (2*(n+1)+1)=pwU x (2*n+2)*x:=rfl
   have e3:pwU (-x) (2*(n+1)+2)=pwU (-x) (2*n+2) * -x * -x:=rfl
   have e4:pwU x (2*(n+1)+2)=pwU x (2*n+2)*x*x:=rfl
   rw[e1,e2,e3,e4,h.2]
   constructor<;>grind
theorem pw_unit {x:Rat}(h1:0≤x)(h2:x≤1):∀ n,0≤pwU x n∧pwU x n≤1
 | 0=>⟨by show(0:Rat)≤1;decide,by show(1:Rat)≤1;decide⟩
 | n+1=>by
   have h:=pw_unit h1 h2 n
   exact unit_mul h.1 h.2 h1 h2
theorem pw_mul (x y:Rat):∀ n,pwU (x*y) n=pwU x n*pwU y n
 | 0=>by show(1:Rat)=1*1;grind
 | n+1=>by
   show pwU (x*y) n*(x*y)=pwU x n*x*(pwU y n*y)
   rw[pw_mul x y n]
   grind
theorem pw_gap {r:Rat}(h1:0≤r)(h2:r≤1):∀ n:Nat,0≤(n:Rat)*pwU r (n+2)-((n:Rat)+2)*pwU r n+2
 | 0=>by
   show(0:Rat)≤0*_-(0+2)*1+2
   grind
 | n+1=>by
   have h:=Rat.mul_nonneg h1 (pw_gap h1 h2 n)
   have u:=pw_unit h1 h2 (n+1)
   have a:=Rat.mul_nonneg (show 0≤1-r by grind) (show 0≤1-pwU r (n+1) by grind)
   have b:=Rat.mul_nonneg (Rat.mul_nonneg (show 0≤1-r by grind) (show 0≤1-r by grind)) u.1
   have e1:pwU r (n+1)=pwU r n*r:=rfl
   have e2:pwU r (n+2)=pwU r (n+1)*r:=rfl
   have e3:pwU r (n+1+2)=pwU r (n+2)*r:=rfl
   have ec:((n+1:Nat):Rat)=(n:Rat)+1:=by rw[Rat.natCast_add];rfl
   have key:((n+1:Nat):Rat)*pwU r (n+1+2)-(((n+1:Nat):Rat)+2)*pwU r (n+1)+2=r*((n:Rat)*pwU r (n+2)-((n:Rat)+2)*pwU r n+2)+2*((1-r)*(1-pwU r (n+1)))+(1-r)*(1-r)*pwU r (n+1):=by
    rw[ec,e3,e2,e1]
    generalize pwU r n=z
    generalize (n:Rat)=m
    grind
   rw[key]
   generalize r*((n:Rat)*pwU r (n+2)-((n:Rat)+2)*pwU r n+2)=A at *
   generalize (1-r)*(1-pwU r (n+1))=B at *
   generalize (1-r)*(1-r)*pwU r (n+1)=C at *
   clear key e1 e2 e3 ec u
   grind
def gU (n:Nat) (x:Rat):Rat:=((n:Rat)+2)*pwU x n-(n:Rat)*pwU x (n+2)
theorem g_mono0 {s t:Rat}(h0:0≤s)(h1:s≤t)(h2:t≤1)(n:Nat):gU n s≤gU n t:=by
 by_cases ht:t=0
 · have:s=t:=by grind
   rw[this]
   exact Rat.le_refl
 · have hp:0<t:=by grind
   have er:s / t*t=s:=Rat.div_mul_cancel ht
   have r0:0≤s / t:=udiv_nonneg h0 hp
   have r1:s / t≤1:=by
    rcases Rat.le_total (a:=s / t) (b:=1) with h|h
    · exact h
    · have:=Rat.mul_nonneg (show 0≤s / t-1 by grind) (show 0≤t by grind)
      have h3:s=t:=by grind
      rw[h3]
      have:t / t=1:=by grind
      grind
   generalize s / t=r at *
   subst er
   have gap:=pw_gap r0 r1 n
   have pt:=pw_unit (show 0≤t by grind) h2 n
   have pr:=pw_unit r0 r1 (n+2)
   have tt:=sq_unit (show -1≤t by grind) h2
   have hn:(0:Rat)≤(n:Rat):=Rat.natCast_nonneg
   unfold gU
   rw[pw_mul,pw_mul]
   have e1:pwU t (n+2)=pwU t n*t*t:=rfl
   rw[e1]
   have a:=Rat.mul_nonneg pt.1 gap
   have b:=Rat.mul_nonneg (Rat.mul_nonneg (Rat.mul_nonneg pt.1 hn) (show 0≤1-t*t by grind)) (show 0≤1-pwU r (n+2) by grind)
   generalize pwU r (n+2)=u at *
   generalize pwU r n=v at *
   generalize pwU t n=z at *
   generalize (n:Rat)=m at *
   grind
theorem g_odd (n:Nat)(x:Rat):gU (2*n+1) (-x) = -gU (2*n+1) x:=by
 unfold gU
 rw[(pw_neg x n).1,show 2*n+1+2=2*(n+1)+1 by omega,(pw_neg x (n+1)).1]
 grind
theorem pw_zero:∀ n,pwU 0 (n+1)=0:=fun n=>by
 show pwU 0 n*0=0
 grind
theorem g_zero (n:Nat):gU (n+1) 0=0:=by
 unfold gU
 rw[show n+1+2=(n+2)+1 from rfl,pw_zero,pw_zero]
 grind
theorem g_mono {s t:Rat}(h0 : -1≤s)(h1:s≤t)(h2:t≤1)(n:Nat):gU (2*n+1) s≤gU (2*n+1) t:=by
 rcases Rat.le_total (a:=0) (b:=s) with hs|hs
 · exact g_mono0 hs h1 h2 _
 · have n1:=g_mono0 (s:=0) (t := -s) Rat.le_refl (by grind) (by grind) (2*n+1)
   rw[g_odd,g_zero]at n1
   rcases Rat.le_total (a:=0) (b:=t) with ht|ht
   · have n2:=g_mono0 (s:=0) (t:=t) Rat.le_refl ht h2 (2*n+1)
     rw[g_zero]at n2
     grind
   · have n2:=g_mono0 (s := -t) (t := -s) (by grind) (by grind) (by grind) (2*n+1)
     rw[g_odd,g_odd]at n2
     grind
theorem pw_mono0 {s t:Rat}(h0:0≤s)(h1:s≤t):∀ n,0≤pwU s n∧pwU s n≤pwU t n
 | 0=>⟨by show(0:Rat)≤1;decide,Rat.le_refl⟩
 | n+1=>by
   have h:=pw_mono0 h0 h1 n
   have a:=Rat.mul_nonneg h.1 h0
   have b:=Rat.mul_nonneg (show 0≤pwU t n-pwU s n by grind) h0
   have c:=Rat.mul_nonneg (show 0≤pwU t n by grind) (show 0≤t-s by grind)
   constructor
   · exact a
   · show pwU s n*s≤pwU t n*t
     grind
theorem pw_mono {s t:Rat}(h1:s≤t)(n:Nat):pwU s (2*n+1)≤pwU t (2*n+1):=by
 rcases Rat.le_total (a:=0) (b:=s) with hs|hs
 · exact(pw_mono0 hs h1 _).2
 · have n1:=(pw_mono0 (s:=0) (t := -s) Rat.le_refl (by grind) (2*n+1)).2
   rw[(pw_neg s n).1,pw_zero]at n1
   rcases Rat.le_total (a:=0) (b:=t) with ht|ht
   · have n2:=(pw_mono0 (s:=0) (t:=t) Rat.le_refl ht (2*n+1)).2
     rw[pw_zero]at n2
     grind
   · have n2:=(pw_mono0 (s := -t) (t := -s) (by grind) (by grind) (2*n+1)).2
     rw[(pw_neg s n).1,(pw_neg t n).1]at n2
     grind
theorem powU_pw (x:Rat):∀ k:Nat,powU x (2*k)=pwU x (4*k+1)∧powU x (2*k+1) = -pwU x (4*k+3)
 | 0=>by
   constructor
   · show x=1*x
     grind
   · show x*(0-x*x) = -(1*x*x*x)
     grind
 | k+1=>by
   have h:=powU_pw x k
   have e1:powU x (2*(k+1))=powU x (2*k+1)*(0-x*x):=rfl
   have e2:powU x (2*(k+1)+1)=powU x (2*k+1)*(0-x*x)*(0-x*x):=rfl
   have e3:pwU x (4*(k+1)+1)=pwU x (4*k+3)*x*x:=rfl
   have e4:pwU x (4*(k+1)+3)=pwU x (4*k+3)*x*x*x*x:=rfl
   rw[e1,e2,e3,e4,h.2]
   constructor<;>grind
theorem two_terms (x:Rat)(k:Nat):(((4*k+1:Nat):Rat)*((4*k+3:Nat):Rat))*(termU x (2*k)+termU x (2*k+1))=gU (2*(2*k)+1) x:=by
 have h:=powU_pw x k
 unfold termU gU
 rw[h.1,h.2,show 2*(2*k)+1=4*k+1 by omega,show 2*(2*k+1)+1=4*k+3 by omega,show 4*k+1+2=4*k+3 by omega]
 have e:((4*k+3:Nat):Rat)=((4*k+1:Nat):Rat)+2:=by
  rw[show 4*k+3=(4*k+1)+2 by omega,Rat.natCast_add]
  rfl
 rw[e]
 have h0:(0:Rat)≤((4*k+1:Nat):Rat):=Rat.natCast_nonneg
 have h1:((4*k+1:Nat):Rat)≠0:=fun h=>by
  have:=Rat.natCast_eq_zero_iff.1 h
  omega
 generalize pwU x (4*k+1)=a
 generalize pwU x (4*k+3)=b
 generalize ((4*k+1:Nat):Rat)=m at *
 have h2:m+2≠0:=by grind
 grind
theorem nat_pos' (n:Nat):(0:Rat)<((n+1:Nat):Rat):=by
 have h0:(0:Rat)≤(n:Rat):=Rat.natCast_nonneg
 have:((n+1:Nat):Rat)=(n:Rat)+1:=by rw[Rat.natCast_add];rfl
 grind
theorem le_of_scale {c a b:Rat}(hc:0<c)(h:c*a≤c*b):a≤b:=by
 rcases Rat.le_total (a:=a) (b:=b) with h1|h1
 · exact h1
 · have:=Rat.mul_nonneg (show 0≤c by grind) (show 0≤a-b by grind)
   have e:c*(a-b)=0:=by grind
   rcases Rat.mul_eq_zero.1 e with h|h<;>grind
theorem ser_mono {s t:Rat}(h0 : -1≤s)(h1:s≤t)(h2:t≤1):∀ k:Nat,serU s (2*k)≤serU t (2*k)
 | 0=>Rat.le_refl
 | k+1=>by
   have ih:=ser_mono h0 h1 h2 k
   have e:∀ x,serU x (2*(k+1))=serU x (2*k)+termU x (2*k)+termU x (2*k+1):=fun _=>rfl
   have g:=g_mono h0 h1 h2 (2*k)
   rw[← two_terms,← two_terms]at g
   have c:(0:Rat)<((4*k+1:Nat):Rat)*((4*k+3:Nat):Rat):=Rat.mul_pos (nat_pos' _) (nat_pos' (4*k+2))
   have:=le_of_scale c g
   rw[e,e]
   grind
theorem term_mono {s t:Rat}(h1:s≤t)(k:Nat):termU s (2*k)≤termU t (2*k):=by
 have g:=pw_mono h1 (2*k)
 have e:∀ x,(((4*k+1:Nat):Rat))*termU x (2*k)=pwU x (2*(2*k)+1):=fun x=>by
  unfold termU
  rw[(powU_pw x k).1,show 2*(2*k)+1=4*k+1 by omega]
  have h1:((4*k+1:Nat):Rat)≠0:=fun h=>by
   have:=Rat.natCast_eq_zero_iff.1 h
   omega
  grind
 rw[← e,← e]at g
 exact le_of_scale (nat_pos' _) g
theorem serU_mono {s t:Rat}(h0 : -1≤s)(h1:s≤t)(h2:t≤1)(n:Nat):serU s n≤serU t n:=by
 obtain⟨k,rfl|rfl⟩:∃ k,n=2*k∨n=2*k+1:=⟨n / 2,by omega⟩
 · exact ser_mono h0 h1 h2 k
 · have a:=ser_mono h0 h1 h2 k
   have b:=term_mono h1 k
   show serU s (2*k)+termU s (2*k)≤serU t (2*k)+termU t (2*k)
   grind
theorem powU_neg (x:Rat):∀ i,powU (-x) i = -powU x i
 | 0=>rfl
 | i+1=>by
   show powU (-x) i*(0 - -x * -x) = -(powU x i*(0-x*x))
   rw[powU_neg x i]
   grind
theorem serU_neg (x:Rat):∀ n,serU (-x) n = -serU x n
 | 0=>by show(0:Rat) = -0;decide
 | n+1=>by
   show serU (-x) n+powU (-x) n / _ = -(serU x n+powU x n / _)
   rw[serU_neg x n,powU_neg]
   have h1:((2*n+1:Nat):Rat)≠0:=fun h=>by
    have:=Rat.natCast_eq_zero_iff.1 h
    omega
   grind
end Go.Gb
namespace Go.Proofs.YtcihodmmaclihaaGreatDoor
open Go.RowKit Go.Gb
def negI (p:Rat × Rat):Rat × Rat:=(-p.2,-p.1)
def atJ (n:Nat) (x:Rat):Rat × Rat:=if x < -1 / 2 then negI (atI n (-x)) else atI n x
def degJ (n:Nat) (x:Rat):Rat × Rat:=divI (mulI 360 (atJ n x)) (piI n)
def Wit (p q:Rat × Rat):Prop:=p.1≤q.1∧q.2≤p.2
theorem ser_has (x:Rat)(n:Nat):((serI x n).1≤serU x n∧serU x n≤(serI x n).2)∧((serI x n).1≤serU x (n+1)∧serU x (n+1)≤(serI x n).2):=by
 have h:=row4_in (serU x n) (serU x n) (serU x (n+1)) (serU x (n+1))
 exact⟨⟨h.1.1,h.2.1⟩,⟨h.1.2.2.1,h.2.2.2.1⟩⟩
theorem ser_tight {x:Rat}(h1 : -1≤x)(h2:x≤1)(n:Nat):Wit (serI x n) (serI x (n+1)):=by
 have h:=ser_has x n
 have hb:=ser_between h1 h2 n h.1.1 h.2.1 h.1.2 h.2.2
 have ho:=row4_one (serU x (n+1)) (serU x (n+1)) (serU x (n+2)) (serU x (n+2))
 constructor
 · rcases ho.1 with e|e|e|e
   · exact e▸h.2.1
   · exact e▸h.2.1
   · exact e▸hb.1
   · exact e▸hb.1
 · rcases ho.2 with e|e|e|e
   · exact e▸h.2.2
   · exact e▸h.2.2
   · exact e▸hb.2
   · exact e▸hb.2
theorem mulI_tight (c:Rat){p q:Rat × Rat}(hp:p.1≤p.2)(hq:q.1≤q.2)(h:Wit p q):Wit (mulI c p) (mulI c q):=by
 have _:=hp
 have a:=mul_in (a:=c) (b:=c) (c:=p.1) (d:=p.2) (x:=c) (y:=q.1) Rat.le_refl Rat.le_refl h.1 (by have:=h.2;grind)
 have b:=mul_in (a:=c) (b:=c) (c:=p.1) (d:=p.2) (x:=c) (y:=q.2) Rat.le_refl Rat.le_refl (by have:=h.1;grind) h.2
 have ho:=row4_one (c*q.1) (c*q.2) (c*q.1) (c*q.2)
 constructor
 · rcases ho.1 with e|e|e|e
   · exact e▸a.1
   · exact e▸b.1
   · exact e▸a.1
   · exact e▸b.1
 · rcases ho.2 with e|e|e|e
   · exact e▸a.2
   · exact e▸b.2
   · exact e▸a.2
   · exact e▸b.2
theorem subI_tight {p q r s:Rat × Rat}(h:Wit p q)(k:Wit r s):Wit (subI p r) (subI q s):=by
 unfold Wit subI at *
 constructor<;>grind
theorem piI_tight (n:Nat):Wit (piI n) (piI (n+1)) :=
 subI_tight (mulI_tight 16 (serI_le _ _) (serI_le _ _) (ser_tight (by decide +kernel) (by decide +kernel) n)) (mulI_tight 4 (serI_le _ _) (serI_le _ _) (ser_tight (by decide +kernel) (by decide +kernel) n))
def restU (x:Rat):Rat:=(1-x) / (1+x)
theorem rest_in {x:Rat}(h1:1 / 2<x)(h2:x≤1):0≤restU x∧restU x≤1 / 3:=by
 have hp:0<1+x:=by grind
 have a:0≤restU x:=udiv_nonneg (by grind) hp
 have e:restU x*(1+x)=1-x:=Rat.div_mul_cancel (by grind)
 refine⟨a,?_⟩
 refine le_of_scale hp ?_
 grind
theorem rest_anti {s t:Rat}(h0:1 / 2<s)(h1:s≤t):restU t≤restU s:=by
 have e1:restU s*(1+s)=1-s:=Rat.div_mul_cancel (by grind)
 have e2:restU t*(1+t)=1-t:=Rat.div_mul_cancel (by grind)
 have hp:0<(1+s)*(1+t):=Rat.mul_pos (by grind) (by grind)
 refine le_of_scale hp ?_
 generalize restU s=a at *
 generalize restU t=b at *
 have e3:(1+s)*(1+t)*b=(1+s)*(1-t):=by grind
 have e4:(1+s)*(1+t)*a=(1+t)*(1-s):=by grind
 rw[e3,e4]
 grind
theorem atI_mid {n:Nat}{x:Rat}(h:x≤1 / 2):atI n x=serI x n:=by
 unfold atI
 rw[if_pos h]
theorem atI_high {n:Nat}{x:Rat}(h:¬ x≤1 / 2):atI n x=subI (mulI (1 / 4) (piI n)) (serI (restU x) n):=by
 unfold atI
 rw[if_neg h]
 rfl
theorem atI_tight {x:Rat}(h1 : -1≤x)(h2:x≤1)(n:Nat):Wit (atI n x) (atI (n+1) x):=by
 by_cases h:x≤1 / 2
 · rw[atI_mid h,atI_mid h]
   exact ser_tight h1 h2 n
 · rw[atI_high h,atI_high h]
   have r:=rest_in (x:=x) (by grind) h2
   exact subI_tight (mulI_tight _ (piI_le _) (piI_le _) (piI_tight n)) (ser_tight (by grind) (by grind) n)
theorem atJ_tight {x:Rat}(h1 : -1≤x)(h2:x≤1)(n:Nat):Wit (atJ n x) (atJ (n+1) x):=by
 unfold atJ
 split
 · have h:=atI_tight (x := -x) (by grind) (by grind) n
   unfold Wit negI at *
   constructor<;>grind
 · exact atI_tight h1 h2 n
theorem negI_le {p:Rat × Rat}(h:p.1≤p.2):(negI p).1≤(negI p).2:=by
 unfold negI
 grind
theorem atJ_le (n:Nat)(x:Rat):(atJ n x).1≤(atJ n x).2:=by
 unfold atJ
 split
 · exact negI_le (atI_le _ _)
 · exact atI_le _ _
theorem half_meets:∀ n:Nat,1≤n→n≤4→∃ m:Nat,(m=n∨m=n+1)∧serU (1 / 2) m+serU (1 / 3) m≤1 / 4*(piI n).2∧0≤serU (1 / 2) m:=by
 intro n h1 h4
 obtain rfl|rfl|rfl|rfl:n=1∨n=2∨n=3∨n=4:=by omega
 · exact⟨2,by omega,by decide +kernel,by decide +kernel⟩
 · exact⟨2,by omega,by decide +kernel,by decide +kernel⟩
 · exact⟨4,by omega,by decide +kernel,by decide +kernel⟩
 · exact⟨4,by omega,by decide +kernel,by decide +kernel⟩
theorem ser_low (x:Rat){n m:Nat}(h:m=n∨m=n+1):(serI x n).1≤serU x m:=by
 have k:=ser_has x n
 rcases h with rfl|rfl
 · exact k.1.1
 · exact k.2.1
theorem quarter (n:Nat):(mulI (1 / 4) (piI n)).1≤1 / 4*(piI n).1∧1 / 4*(piI n).2≤(mulI (1 / 4) (piI n)).2:=by
 have h:=row4_in (1 / 4*(piI n).1) (1 / 4*(piI n).2) (1 / 4*(piI n).1) (1 / 4*(piI n).2)
 exact⟨h.1.1,h.2.2.1⟩
theorem high_over {n m:Nat}{t:Rat}(hm:m=n∨m=n+1)(h:1 / 2<t)(h2:t≤1)(hn:serU (1 / 2) m+serU (1 / 3) m≤1 / 4*(piI n).2):serU (1 / 2) m≤(atI n t).2:=by
 rw[atI_high (by grind)]
 have r:=rest_in h h2
 have a:=serU_mono (s:=restU t) (t:=1 / 3) (by grind) r.2 (by decide +kernel) m
 have b:=ser_low (restU t) hm
 have q:=quarter n
 show _≤(mulI (1 / 4) (piI n)).2-(serI (restU t) n).1
 grind
theorem order_mid {n:Nat}{s t:Rat}(hn1:1≤n)(hn4:n≤4)(h0 : -1 / 2≤s)(h1:s≤t)(h2:t≤1):(atI n s).1≤(atI n t).2:=by
 by_cases ht:t≤1 / 2
 · rw[atI_mid ht,atI_mid (by grind)]
   have a:=(ser_has s n).1.1
   have b:=serU_mono (s:=s) (t:=t) (by grind) h1 h2 n
   have c:=(ser_has t n).1.2
   grind
 · by_cases hs:s≤1 / 2
   · obtain⟨m,hm,hf,_⟩:=half_meets n hn1 hn4
     have a:=high_over hm (t:=t) (by grind) h2 hf
     rw[atI_mid hs]
     have b:=serU_mono (s:=s) (t:=1 / 2) (by grind) hs (by decide +kernel) m
     have c:=ser_low s hm
     grind
   · rw[atI_high hs,atI_high ht]
     have q:=quarter n
     have hp:=piI_le n
     have r1:=rest_in (x:=s) (by grind) (by grind)
     have r2:=rest_in (x:=t) (by grind) h2
     have a:=serU_mono (s:=restU t) (t:=restU s) (by grind) (rest_anti (by grind) h1) (by grind) n
     have b:=(ser_has (restU s) n).1.2
     have c:=(ser_has (restU t) n).1.1
     show(mulI (1 / 4) (piI n)).1-(serI (restU s) n).2≤(mulI (1 / 4) (piI n)).2-(serI (restU t) n).1
     grind
theorem serI_neg (x:Rat)(n:Nat):serI (-x) n=negI (serI x n):=by
 have h:=row4_one (serU x n) (serU x n) (serU x (n+1)) (serU x (n+1))
 have k:=row4_one (serU (-x) n) (serU (-x) n) (serU (-x) (n+1)) (serU (-x) (n+1))
 have i:=ser_has x n
 have j:=ser_has (-x) n
 have e1:(serI (-x) n).1 = -(serI x n).2:=by
  unfold serI at *
  rw[serU_neg,serU_neg]at *
  grind
 have e2:(serI (-x) n).2 = -(serI x n).1:=by
  unfold serI at *
  rw[serU_neg,serU_neg]at *
  grind
 unfold negI
 exact Prod.ext e1 e2
theorem at_order {n:Nat}{s t:Rat}(hn1:1≤n)(hn4:n≤4)(h0 : -1≤s)(h1:s≤t)(h2:t≤1):(atJ n s).1≤(atJ n t).2:=by
 unfold atJ
 by_cases hs:s < -1 / 2
 · rw[if_pos hs]
   show -(atI n (-s)).2≤_
   by_cases ht:t < -1 / 2
   · rw[if_pos ht]
     have h:=order_mid (s := -t) (t := -s) hn1 hn4 (by grind) (by grind) (by grind)
     show -(atI n (-s)).2 ≤ -(atI n (-t)).1
     grind
   · rw[if_neg ht]
     by_cases hu:t≤1 / 2
     · have h:=order_mid (s := -t) (t := -s) hn1 hn4 (by grind) (by grind) (by grind)
       rw[atI_mid (x := -t) (by grind),serI_neg]at h
       rw[atI_mid hu]
       have h' : -(serI t n).2≤(atI n (-s)).2:=h
       grind
     · obtain⟨m,hm,hf,hz⟩:=half_meets n hn1 hn4
       have a:=high_over hm (t:=t) (by grind) h2 hf
       have b:=high_over hm (t := -s) (by grind) (by grind) hf
       grind
 · rw[if_neg hs,if_neg (show ¬ t < -1 / 2 by grind)]
   exact order_mid hn1 hn4 (by grind) h1 h2
theorem scale_pos {c:Rat}(p:Rat × Rat):(mulI c p).1≤c*p.1∧c*p.2≤(mulI c p).2:=by
 have h:=row4_in (c*p.1) (c*p.2) (c*p.1) (c*p.2)
 exact⟨h.1.1,h.2.2.1⟩
theorem div_mono {a b c:Rat}(hc:0<c)(h:a≤b):a / c≤b / c:=by
 have e1:a / c*c=a:=Rat.div_mul_cancel (by grind)
 have e2:b / c*c=b:=Rat.div_mul_cancel (by grind)
 refine le_of_scale hc ?_
 grind
theorem deg_order {n:Nat}{s t:Rat}(hn1:1≤n)(hn4:n≤4)(hpi:0<(piI n).1)(h0 : -1≤s)(h1:s≤t)(h2:t≤1):(degJ n s).1≤(degJ n t).2:=by
 have h:=at_order hn1 hn4 h0 h1 h2
 have a:=(scale_pos (c:=360) (atJ n s)).1
 have b:=(scale_pos (c:=360) (atJ n t)).2
 have c:(degJ n s).1≤(mulI 360 (atJ n s)).1 / (piI n).1:=(row4_in _ _ _ _).1.1
 have d:(mulI 360 (atJ n t)).2 / (piI n).1≤(degJ n t).2:=(row4_in _ _ _ _).2.2.2.1
 have e:=div_mono hpi (show(mulI 360 (atJ n s)).1≤(mulI 360 (atJ n t)).2 by grind)
 grind
theorem pi_pos:∀ n:Nat,1≤n→n≤5→0<(piI n).1:=by
 intro n h1 h5
 obtain rfl|rfl|rfl|rfl|rfl:n=1∨n=2∨n=3∨n=4∨n=5:=by omega
 all_goals decide +kernel
theorem deg_known:∀ n:Nat,1≤n→n≤4→((degJ n 0).1≤0∧0≤(degJ n 0).2)∧((degJ n 1).1≤90∧90≤(degJ n 1).2)∧((degJ n (-1)).1 ≤ -90 ∧ -90≤(degJ n (-1)).2):=by
 intro n h1 h4
 obtain rfl|rfl|rfl|rfl:n=1∨n=2∨n=3∨n=4:=by omega
 all_goals decide +kernel
end Go.Proofs.YtcihodmmaclihaaGreatDoor
