/- Texts of this proof, one behind the other. -/
import Derived.Test.YtmmhcaeaddkcmaaGreatDoorMz45q
set_option maxRecDepth 100000
set_option maxHeartbeats 20000000
open Go.Lib (hid)
namespace Go.Proofs.YtmmhcaeaddkcmaaGreatDoor
open Go.RowKit Go.Gb
theorem a13:SmQ 2 (1/3:Rat):=⟨by unfold Sm;decide +kernel,by unfold Sm;decide +kernel⟩
theorem a90:SmQ 3 (90:Rat):=⟨by unfold Sm;decide +kernel,by unfold Sm;decide +kernel⟩
theorem an90:SmQ 3 (-90:Rat):=⟨by unfold Sm;decide +kernel,by unfold Sm;decide +kernel⟩
theorem a355:SmQ 4 (355/113:Rat):=⟨by unfold Sm;decide +kernel,by unfold Sm;decide +kernel⟩
theorem t13:Sq (1/3:Rat)=⟨#[49,47,51]⟩:=by decide +kernel
theorem t34:Sq (3/4:Rat)=⟨#[51,47,52]⟩:=by decide +kernel
theorem t35:Sq (3/5:Rat)=⟨#[51,47,53]⟩:=by decide +kernel
theorem t45:Sq (4/5:Rat)=⟨#[52,47,53]⟩:=by decide +kernel
theorem t90:Sq (90:Rat)=⟨#[57,48]⟩:=by decide +kernel
theorem tn90:Sq (-90:Rat)=⟨#[45,57,48]⟩:=by decide +kernel
theorem t355:Sq (355/113:Rat)=⟨#[51,53,53,47,49,49,51]⟩:=by decide +kernel
theorem t1124:Sq (11/24:Rat)=⟨#[49,49,47,50,52]⟩:=by decide +kernel
theorem ax_cos (w:World)(hla:La w):CV w 7 #[.string ⟨#[49,47,50]⟩] (.tuple #[.string ⟨#[51,47,53]⟩,.int .i64 0]):=by
 have h:=aCos_n s12 (by decide) (by decide +kernel) w hla
 rwa [show cosQ (1 / 2)=3 / 5 from by decide +kernel,t12,t35]at h
theorem ax_sin (w:World)(hla:La w):CV w 8 #[.string ⟨#[49,47,50]⟩] (.tuple #[.string ⟨#[52,47,53]⟩,.int .i64 0]):=by
 have h:=aSin_n s12 (by decide) (by decide +kernel) w hla
 rwa [show sinQ (1 / 2)=4 / 5 from by decide +kernel,t12,t45]at h
theorem ax_sum1 (w:World)(hla:La w):CV w 13 #[.string ⟨#[49,47,50]⟩,.string ⟨#[49,47,50]⟩] (.tuple #[.string ⟨#[]⟩,.int .i64 15]):=by
 have h:=aSum_limit s12 s12 (by decide) (by decide +kernel) (by decide +kernel) (by decide +kernel) w hla
 rwa [t12]at h
theorem ax_sum2 (w:World)(hla:La w):CV w 13 #[.string ⟨#[49,47,51]⟩,.string ⟨#[49,47,51]⟩] (.tuple #[.string ⟨#[51,47,52]⟩,.int .i64 0]):=by
 have h:=aSum_n a13 a13 (by decide) (by decide +kernel) (by decide +kernel) (by decide +kernel) (by decide +kernel) w hla
 rwa [show sumQ (1 / 3) (1 / 3)=3 / 4 from by decide +kernel,t13,t34]at h
theorem ax_arct (w:World)(hla:La w):CV w 15 #[.string ⟨#[49,47,50]⟩,.int .i64 1] (.tuple #[.agg #[.string ⟨#[49,49,47,50,52]⟩,.string ⟨#[49,47,50]⟩],.int .i64 0]):=by
 have hr:SmQ 2 ((1-(1:Rat) / 2) / (1+1 / 2)):=by
  rw[show(1-(1:Rat) / 2) / (1+1 / 2)=1 / 3 from by decide +kernel]
  exact a13
 have h:=aAt_n (n:=1) (by decide) s12 (by decide +kernel) (by decide +kernel) hr (by decide) (by decide) w hla
 have hc:=aCircle_n (n:=1) (by decide) (by decide) w hla
 rw[show atI 1 (1 / 2)=(11 / 24,1 / 2) from by decide +kernel,t12]at h
 have h2:=aenc_arct _ _ _ _ _ _ w (anum_yes 1 w (by decide) (by decide)) hc h (t12▸ck1_fine (by decide +kernel) (s12.fit (by decide)) w hla)
 have h3:=ameas_arct _ _ _ _ _ w h2
 rwa [t1124]at h3
theorem pi3_pos:0<(piI 3).1:=by decide +kernel
theorem sm_at3 {x:Rat}{k l:Nat}(hx:SmQ k x)(hr:SmQ l ((1-x) / (1+x)))(hk:k≤2)(hl:l≤2):SmQ 496 (atI 3 x).1∧SmQ 496 (atI 3 x).2:=by
 have a:=sm_serI (n:=3) (hx.mono hk) (by decide)
 have b:=sm_serI (n:=3) (hr.mono hl) (by decide)
 have hp:=sm_piI (n:=3) (by decide)
 have c:=sm_mulI s14 hp.1 hp.2
 unfold atI
 split
 · exact⟨a.1.mono (by decide),a.2.mono (by decide)⟩
 · exact⟨(c.1.sub b.2).mono (by decide),(c.2.sub b.1).mono (by decide)⟩
theorem deg3 {x:Rat}{k l:Nat}(hx:SmQ k x)(hr:SmQ l ((1-x) / (1+x)))(hk:k≤2)(hl:l≤2)(h1 : -1 / 2≤x)(h2:x≤1)(w:World)(hla:La w) :
 CV w 34 #[.agg #[.int .i64 3,.string (Sq (piI 3).1),.string (Sq (piI 3).2)],.string (Sq x)] (.agg #[.string (Sq (degI 3 x).1),.string (Sq (degI 3 x).2)]):=by
 have hs:=sm_at3 hx hr hk hl
 exact aDeg_n (n:=3) (by decide) (aAt_n (n:=3) (by decide) (hx.mono hk) h1 h2 (hr.mono hl) (by decide) (by decide) w hla) hs.1 hs.2 (by decide) pi3_pos hla
theorem fit_deg3 {x:Rat}{k l:Nat}(hx:SmQ k x)(hr:SmQ l ((1-x) / (1+x)))(hk:k≤2)(hl:l≤2):FitQ (degI 3 x).1∧FitQ (degI 3 x).2:=by
 have hs:=sm_at3 hx hr hk hl
 have hp:=sm_piI (n:=3) (by decide)
 have n1:(piI 3).1≠0:=by decide +kernel
 have n2:(piI 3).2≠0:=by decide +kernel
 have m:=sm_mulI s360 hs.1 hs.2
 have q:=sm_ex4 (m.1.div hp.1 n1) (m.1.div hp.2 n2) (m.2.div hp.1 n1) (m.2.div hp.2 n2)
 exact⟨q.1.fit (by decide),q.2.fit (by decide)⟩
theorem degI_le (n:Nat)(x:Rat):(degI n x).1≤(degI n x).2:=exOf_order _ 3
theorem r1:SmQ 1 ((1-(1:Rat)) / (1+1)):=by
 rw[show(1-(1:Rat)) / (1+1)=0 from by decide +kernel]
 exact su0
theorem r0:SmQ 1 ((1-(0:Rat)) / (1+0)):=by
 rw[show(1-(0:Rat)) / (1+0)=1 from by decide +kernel]
 exact su1
theorem r12:SmQ 2 ((1-(1:Rat) / 2) / (1+1 / 2)):=by
 rw[show(1-(1:Rat) / 2) / (1+1 / 2)=1 / 3 from by decide +kernel]
 exact a13
theorem ax_degr (w:World)(hla:La w):CV w 16 #[.string ⟨#[49]⟩,.int .i64 3] (.tuple #[.agg #[.string (Sq (degI 3 1).1),.string (Sq (degI 3 1).2)],.int .i64 0]):=by
 have h:=deg3 su1 r1 (by decide) (by decide) (by decide +kernel) (by decide +kernel) w hla
 have hc:=aCircle_n (n:=3) (by decide) (by decide) w hla
 rw[uq1]at h
 exact ameas_degr _ _ _ _ _ w (aenc_degr _ _ _ _ _ _ w (anum_yes 3 w (by decide) (by decide)) hc h (uq1▸ck1_fine (by decide +kernel) (su1.fit (by decide)) w hla))
theorem ax_pi (w:World)(hla:La w):CV w 17 #[.int .i64 3] (.tuple #[.agg #[.string (Sq (piI 3).1),.string (Sq (piI 3).2)],.int .i64 0]) :=
 api_raw _ _ _ w (anum_yes 3 w (by decide) (by decide)) (aCircle_n (n:=3) (by decide) (by decide) w hla)
theorem ax_find (w:World)(hla:La w):CV w 18 #[.string ⟨#[57,48]⟩,.int .i64 3,.int .i64 2] (.tuple #[.agg #[.string ⟨#[49,47,50]⟩,.string ⟨#[49]⟩],.int .i64 0]):=by
 have z1:=aplus_n (x := -1) (y:=1) (z:=0) (by decide +kernel) (sun.fit (by decide)) (su1.fit (by decide)) w hla
 have z2:=atimes_n (x:=0) (y:=1 / 2) (z:=0) (by decide +kernel) (su0.fit (by decide)) (s12.fit (by decide)) w hla
 have d1:=deg3 su0 r0 (by decide) (by decide) (by decide +kernel) (by decide +kernel) w hla
 have f1:=fit_deg3 su0 r0 (by decide) (by decide)
 have o1:=aorder_n (x:=(degI 3 0).2) (y:=90) rfl f1.2 (a90.fit (by decide)) w hla
 have z3:=aplus_n (x:=0) (y:=1) (z:=1) (by decide +kernel) (su0.fit (by decide)) (su1.fit (by decide)) w hla
 have z4:=atimes_n (x:=1) (y:=1 / 2) (z:=1 / 2) (by decide +kernel) (su1.fit (by decide)) (s12.fit (by decide)) w hla
 have d2:=deg3 s12 r12 (by decide) (by decide) (by decide +kernel) (by decide +kernel) w hla
 have f2:=fit_deg3 s12 r12 (by decide) (by decide)
 have o2:=aorder_n (x:=(degI 3 (1 / 2)).2) (y:=90) rfl f2.2 (a90.fit (by decide)) w hla
 rw[uqn,uq1]at z1
 rw[t12]at z2
 rw[uq1]at z3
 rw[uq1,t12]at z4
 rw[t90]at o1 o2
 rw[t12]at d2
 have h:=ahalve_up2 _ _ _ _ _ _ _ _ _ _ _ _ _ _ w z1 z2 d1 o1 z3 z4 d2 o2 (by decide +kernel) (by decide +kernel)
 have hv:=avcv (a90.fit (by decide)) w hla
 have hh:CV w 19 #[.agg #[.string (Sq (-90:Rat)),.string (Sq (90:Rat))],.string (Sq (90:Rat))] (.bool true):=fun W hW=>xHas (-90) 90 90 true (by decide +kernel) (by decide +kernel) (an90.fit (by decide)) (a90.fit (by decide)) (a90.fit (by decide)) W (hla.on hW)
 rw[t90]at hv
 rw[tn90,t90]at hh
 exact afind_raw _ _ _ _ _ _ _ w hv hh (anum_yes 3 w (by decide) (by decide)) (aCircle_n (n:=3) (by decide) (by decide) w hla) h (by decide) (by decide)
theorem ax_has1 (w:World)(hla:La w):CV w 19 #[.agg #[.string (Sq (degI 3 1).1),.string (Sq (degI 3 1).2)],.string ⟨#[57,48]⟩] (.bool true):=by
 have f:=fit_deg3 su1 r1 (by decide) (by decide)
 have h:CV w 19 #[.agg #[.string (Sq (degI 3 1).1),.string (Sq (degI 3 1).2)],.string (Sq (90:Rat))] (.bool true):=fun W hW=>xHas _ _ 90 true (by decide +kernel) (degI_le _ _) f.1 f.2 (a90.fit (by decide)) W (hla.on hW)
 rwa [t90]at h
theorem ax_has2 (w:World)(hla:La w):CV w 19 #[.agg #[.string (Sq (piI 3).1),.string (Sq (piI 3).2)],.string ⟨#[51,53,53,47,49,49,51]⟩] (.bool true):=by
 have f:=sm_piI (n:=3) (by decide)
 have h:CV w 19 #[.agg #[.string (Sq (piI 3).1),.string (Sq (piI 3).2)],.string (Sq (355 / 113:Rat))] (.bool true):=fun W hW=>xHas _ _ (355 / 113) true (by decide +kernel) (piI_le _) (f.1.fit (by decide)) (f.2.fit (by decide)) (a355.fit (by decide)) W (hla.on hW)
 rwa [t355]at h
theorem ax_ivalid (w:World)(hla:La w):CV w 20 #[.agg #[.string ⟨#[49,47,50]⟩,.string ⟨#[49]⟩]] (.bool true):=by
 have h:CV w 20 #[.agg #[.string (Sq (1 / 2:Rat)),.string (Sq (1:Rat))]] (.bool true):=fun W hW=>xValid_yes (1 / 2) 1 (by decide +kernel) (s12.fit (by decide)) (su1.fit (by decide)) W (hla.on hW)
 rwa [t12,uq1]at h
theorem ax_valid1 (w:World)(hla:La w):CV w 9 #[.string ⟨#[45,49]⟩] (.bool true):=by
 have h:=aValid_n (t := -1) (r:=true) (by decide +kernel) (sun.fit (by decide)) w hla
 rwa [uqn]at h
theorem ax_valid2 (w:World)(hla:La w):CV w 9 #[.string ⟨#[50]⟩] (.bool false):=by
 have h:=aValid_n (t:=2) (r:=false) (by decide +kernel) (su2.fit (by decide)) w hla
 rwa [uq2]at h
theorem angle_awake  (w₀:World)  (hla:La w₀) :
 CV w₀ 5 #[] (.bool true):=by
 intro w hw
 have HT:=hid (hla.on hw)
 clear hla hw
 go_enter Tryz.func5,Tryz.ntmps5
 have HB0:=hid (Below.refl w.heap.size w)
 go_wp2_with fail
 with_reducible refine((ax_cos _ (HT.out.on HB0.out)).at).mono ?_
 rintro e W1 ⟨rfl,hb⟩
 have HB1:=hbt HB0 hb
 clear hb
 go_wp2_with fail
 with_reducible refine((ax_sin _ (HT.out.on HB1.out)).at).mono ?_
 rintro e W2 ⟨rfl,hb⟩
 have HB2:=hbt HB1 hb
 clear hb
 go_wp2_with fail
 with_reducible refine((ax_sum1 _ (HT.out.on HB2.out)).at).mono ?_
 rintro e W3 ⟨rfl,hb⟩
 have HB3:=hbt HB2 hb
 clear hb
 go_wp2_with fail
 with_reducible refine((ax_sum2 _ (HT.out.on HB3.out)).at).mono ?_
 rintro e W4 ⟨rfl,hb⟩
 have HB4:=hbt HB3 hb
 clear hb
 go_wp2_with fail
 with_reducible refine((ax_arct _ (HT.out.on HB4.out)).at).mono ?_
 rintro e W5 ⟨rfl,hb⟩
 have HB5:=hbt HB4 hb
 clear hb
 go_upto_region 6 with fail
 refine wp_boxes W5 [(#[.string ⟨#[49,49,47,50,52]⟩,.string ⟨#[49,47,50]⟩],34)] rfl ?_
 have L1:=HB5.out.size
 rintro W6 ⟨k1,hb⟩
 have hb:Below W5.heap.size W5 W6:=hb
 have HB6:=hbt HB5 hb
 have K1:=hid k1
 clear k1 hb
 go_wp2_with fail
 with_reducible refine((ax_degr _ (HT.out.on HB6.out)).at).mono ?_
 rintro e W7 ⟨rfl,hb⟩
 have K1:=hid (K1.out.below hb)
 have HB7:=hbt HB6 hb
 clear hb
 go_upto_region 7 with fail
 refine wp_boxes W7 [(#[.string (Sq (degI 3 1).1),.string (Sq (degI 3 1).2)],34)] rfl ?_
 have L2:=K1.out.lt
 have L3:=HB7.out.size
 rintro W8 ⟨k2,hb⟩
 have hb:Below W7.heap.size W7 W8:=hb
 have K1:=hid (K1.out.below hb)
 have HB8:=hbt HB7 hb
 have K2:=hid k2
 clear k2 hb
 go_wp2_with fail
 with_reducible refine((ax_pi _ (HT.out.on HB8.out)).at).mono ?_
 rintro e W9 ⟨rfl,hb⟩
 have K1:=hid (K1.out.below hb)
 have K2:=hid (K2.out.below hb)
 have HB9:=hbt HB8 hb
 clear hb
 go_upto_region 8 with fail
 refine wp_boxes W9 [(#[.string (Sq (piI 3).1),.string (Sq (piI 3).2)],34)] rfl ?_
 have L4:=K1.out.lt
 have L5:=K2.out.lt
 have L6:=HB9.out.size
 rintro W10 ⟨k3,hb⟩
 have hb:Below W9.heap.size W9 W10:=hb
 have K1:=hid (K1.out.below hb)
 have K2:=hid (K2.out.below hb)
 have HB10:=hbt HB9 hb
 have K3:=hid k3
 clear k3 hb
 go_wp2_with fail
 with_reducible refine((ax_find _ (HT.out.on HB10.out)).at).mono ?_
 rintro e W11 ⟨rfl,hb⟩
 have K1:=hid (K1.out.below hb)
 have K2:=hid (K2.out.below hb)
 have K3:=hid (K3.out.below hb)
 have HB11:=hbt HB10 hb
 clear hb
 go_upto_region 9 with fail
 refine wp_boxes W11 [(#[.string ⟨#[49,47,50]⟩,.string ⟨#[49]⟩],34)] rfl ?_
 have L7:=K1.out.lt
 have L8:=K2.out.lt
 have L9:=K3.out.lt
 have L10:=HB11.out.size
 rintro W12 ⟨k4,hb⟩
 have hb:Below W11.heap.size W11 W12:=hb
 have K1:=hid (K1.out.below hb)
 have K2:=hid (K2.out.below hb)
 have K3:=hid (K3.out.below hb)
 have HB12:=hbt HB11 hb
 have K4:=hid k4
 clear k4 hb
 have dK10:=K1.out.cell (i:=0) rfl
 have dK11:=K1.out.cell (i:=1) rfl
 have dK20:=K2.out.cell (i:=0) rfl
 have dK21:=K2.out.cell (i:=1) rfl
 go_wp2_with fail
 with_reducible refine((ax_has1 _ (HT.out.on HB12.out)).at).mono ?_
 rintro e W13 ⟨rfl,hb⟩
 clear dK10 dK11 dK20 dK21
 have K3:=hid (K3.out.below hb)
 have K4:=hid (K4.out.below hb)
 have HB13:=hbt HB12 hb
 clear hb
 have dK30:=K3.out.cell (i:=0) rfl
 have dK31:=K3.out.cell (i:=1) rfl
 go_wp2_with fail
 with_reducible refine((ax_has2 _ (HT.out.on HB13.out)).at).mono ?_
 rintro e W14 ⟨rfl,hb⟩
 clear dK30 dK31
 have K4:=hid (K4.out.below hb)
 have HB14:=hbt HB13 hb
 clear hb
 have dK40:=K4.out.cell (i:=0) rfl
 have dK41:=K4.out.cell (i:=1) rfl
 go_wp2_with fail
 with_reducible refine((ax_ivalid _ (HT.out.on HB14.out)).at).mono ?_
 rintro e W15 ⟨rfl,hb⟩
 clear dK40 dK41
 have HB15:=hbt HB14 hb
 clear hb
 go_wp2_with fail
 with_reducible refine((ax_valid1 _ (HT.out.on HB15.out)).at).mono ?_
 rintro e W16 ⟨rfl,hb⟩
 have HB16:=hbt HB15 hb
 clear hb
 go_wp2_with fail
 with_reducible refine((ax_valid2 _ (HT.out.on HB16.out)).at).mono ?_
 rintro e W17 ⟨rfl,hb⟩
 have HB17:=hbt HB16 hb
 clear hb
 go_wp2
 exact bodyPost_ret (v:=.bool true) (by simp[results,Tryz.results5,go_sem]) rfl ⟨rfl,HB17.out⟩
theorem long1_no (g:Nat)(a:ByteArray)(w:World)(ha:a.size≤20)(hc:w.cell? ⟨g,0,none⟩=some (.string a)) :
 Calls Tryz.prog 6 #[.slice (some ⟨g,0,none⟩) 1 1] w fun e w'=>e=.returned (.bool false)∧w=w':=by
 have c0:=hc
 clear hc
 have ka:¬ (20:Int)<(a.size:Int):=by omega
 go_enter Tryz.func6,Tryz.ntmps6
 go_wp2
 refine wp_loop_rounds 2 ?_
 rw[rounds_succ]
 go_wp2
 rw[rounds_succ]
 go_wp2
 go_ret
 exact⟨rfl,rfl⟩
theorem long1_yes (g:Nat)(a:ByteArray)(w:World)(hab:20<a.size)(hc:w.cell? ⟨g,0,none⟩=some (.string a)) :
 Calls Tryz.prog 6 #[.slice (some ⟨g,0,none⟩) 1 1] w fun e w'=>e=.returned (.bool true)∧w=w':=by
 have c0:=hc
 clear hc
 have ka:(20:Int)<(a.size:Int):=by omega
 clear hab
 go_enter Tryz.func6,Tryz.ntmps6
 go_wp2
 refine wp_loop_rounds 2 ?_
 rw[rounds_succ]
 go_wp2
 go_ret
 exact⟨rfl,rfl⟩
theorem long2_no (g:Nat)(a b:ByteArray)(w:World)(ha:a.size≤20)(hb:b.size≤20)(hc:w.cell? ⟨g,0,none⟩=some (.string a)∧w.cell? ⟨g,1,none⟩=some (.string b)) :
 Calls Tryz.prog 6 #[.slice (some ⟨g,0,none⟩) 2 2] w fun e w'=>e=.returned (.bool false)∧w=w':=by
 obtain⟨c0,c1⟩:=hc
 have ka:¬ (20:Int)<(a.size:Int):=by omega
 have kb:¬ (20:Int)<(b.size:Int):=by omega
 go_enter Tryz.func6,Tryz.ntmps6
 go_wp2
 refine wp_loop_rounds 3 ?_
 rw[rounds_succ]
 go_wp2
 rw[rounds_succ]
 go_wp2
 rw[rounds_succ]
 go_wp2
 go_ret
 exact⟨rfl,rfl⟩
theorem long2_yes (g:Nat)(a b:ByteArray)(w:World)(hab:20<a.size∨20<b.size)(hc:w.cell? ⟨g,0,none⟩=some (.string a)∧w.cell? ⟨g,1,none⟩=some (.string b)) :
 Calls Tryz.prog 6 #[.slice (some ⟨g,0,none⟩) 2 2] w fun e w'=>e=.returned (.bool true)∧w=w':=by
 obtain⟨c0,c1⟩:=hc
 by_cases ha:20<a.size
 · have ka:(20:Int)<(a.size:Int):=by omega
   clear hab
   go_enter Tryz.func6,Tryz.ntmps6
   go_wp2
   refine wp_loop_rounds 3 ?_
   rw[rounds_succ]
   go_wp2
   go_ret
   exact⟨rfl,rfl⟩
 · have ka:¬ (20:Int)<(a.size:Int):=by omega
   have kb:(20:Int)<(b.size:Int):=by omega
   clear hab
   go_enter Tryz.func6,Tryz.ntmps6
   go_wp2
   refine wp_loop_rounds 3 ?_
   rw[rounds_succ]
   go_wp2
   rw[rounds_succ]
   go_wp2
   go_ret
   exact⟨rfl,rfl⟩
theorem lgx1 (g:Nat)(a:ByteArray)(bb:Bool)(w:World)(hb:decide (20<a.size)=bb)(k:SBk w g #[.string a] 22) :
 CR 6 #[.slice (some ⟨g,0,none⟩) 1 1] w (.bool bb):=by
 have hc:=(show w.cell? ⟨g,0,none⟩=some (.string a) from k.cell (i:=0) rfl)
 cases bb with
 | false =>
   have h:=of_decide_eq_false hb
   exact(long1_no g a w (by omega) hc).mono (by rintro e w' ⟨rfl,rfl⟩;exact⟨rfl,Below.refl _ _⟩)
 | true=>exact(long1_yes g a w (of_decide_eq_true hb) hc).mono (by rintro e w' ⟨rfl,rfl⟩;exact⟨rfl,Below.refl _ _⟩)
theorem lgx2 (g:Nat)(a b:ByteArray)(bb:Bool)(w:World)(hb:decide (20<a.size∨20<b.size)=bb)(k:SBk w g #[.string a,.string b] 22) :
 CR 6 #[.slice (some ⟨g,0,none⟩) 2 2] w (.bool bb):=by
 have hc:=(show w.cell? ⟨g,0,none⟩=some (.string a)∧w.cell? ⟨g,1,none⟩=some (.string b) from⟨k.cell (i:=0) rfl,k.cell (i:=1) rfl⟩)
 cases bb with
 | false =>
   have h:=of_decide_eq_false hb
   exact(long2_no g a b w (by omega) (by omega) hc).mono (by rintro e w' ⟨rfl,rfl⟩;exact⟨rfl,Below.refl _ _⟩)
 | true=>exact(long2_yes g a b w (of_decide_eq_true hb) hc).mono (by rintro e w' ⟨rfl,rfl⟩;exact⟨rfl,Below.refl _ _⟩)
theorem form20 (x:ByteArray)(h:x.size≤20):vldQ x.data.toList=false∨∃ q,x=Sq q∧SmQ 20 q:=by
 cases hv:vldQ x.data.toList with
 | false=>exact Or.inl rfl
 | true =>
   have hq:=sq_of hv
   refine Or.inr ⟨_,hq,smq_of ?_ (by decide)⟩
   rwa [← hq]
theorem uMulC {x y z:Rat}(h:x*y=z)(hx:FitQ x)(hy:FitQ y)(w:World)(hla:La w):CV w 10 #[.string (Sq x),.string (Sq y)] (.tuple #[.string (Sq z),.int .i64 0]):=fun W hW=>qMul x y z h hx hy W (hla.on hW)
theorem uSubC {x y z:Rat}(h:x-y=z)(hx:FitQ x)(hy:FitQ y)(w:World)(hla:La w):CV w 14 #[.string (Sq x),.string (Sq y)] (.tuple #[.string (Sq z),.int .i64 0]):=fun W hW=>qSub x y z h hx hy W (hla.on hW)
theorem uAddC {x y z:Rat}(h:x+y=z)(hx:FitQ x)(hy:FitQ y)(w:World)(hla:La w):CV w 11 #[.string (Sq x),.string (Sq y)] (.tuple #[.string (Sq z),.int .i64 0]):=fun W hW=>qAdd x y z h hx hy W (hla.on hW)
theorem uCmp0C {x:Rat}{c:Int}(h:cmpQ x 0=c)(hx:FitQ x)(w:World)(hla:La w):CV w 12 #[.string (Sq x),.string ⟨#[48]⟩] (.tuple #[.int .i64 c,.int .i64 0]):=by
 have k:CV w 12 #[.string (Sq x),.string (Sq (0:Rat))] (.tuple #[.int .i64 c,.int .i64 0]):=fun W hW=>qCompare x 0 c h hx (su0.fit (by decide)) W (hla.on hW)
 rwa [uq0]at k
theorem neg_in {t:Rat}(h : -1≤t∧t≤1) : -1≤t*(-1)∧t*(-1)≤1:=by grind
theorem sm_ng {t:Rat}{k:Nat}(h:SmQ k t):SmQ k (t*(-1)):=by
 rw[show t*(-1) = -t by grind]
 exact h.neg
end Go.Proofs.YtmmhcaeaddkcmaaGreatDoor
