/- The examples of chapter 11; garboardlaw11.awake. -/
import Derived.Test.YtklfllmfcckgjaaGreatDoorGj
set_option maxRecDepth 100000
set_option maxHeartbeats 20000000
open Go.Lib (hid)
namespace Go.Proofs.YtklfllmfcckgjaaGreatDoor
open Go.RowKit Go.Gb
theorem gq_0:Sq (0:Rat)=⟨#[48]⟩:=by decide +kernel
theorem gq_1:Sq (1:Rat)=⟨#[49]⟩:=by decide +kernel
theorem gq_2:Sq (2:Rat)=⟨#[50]⟩:=by decide +kernel
theorem gq_3:Sq (3:Rat)=⟨#[51]⟩:=by decide +kernel
theorem gq_4:Sq (4:Rat)=⟨#[52]⟩:=by decide +kernel
theorem gq_5:Sq (5:Rat)=⟨#[53]⟩:=by decide +kernel
theorem gq_6:Sq (6:Rat)=⟨#[54]⟩:=by decide +kernel
theorem gq_7:Sq (7:Rat)=⟨#[55]⟩:=by decide +kernel
theorem gq_9:Sq (9:Rat)=⟨#[57]⟩:=by decide +kernel
theorem gq_n1:Sq (-1:Rat)=⟨#[45,49]⟩:=by decide +kernel
theorem gq_n2:Sq (-2:Rat)=⟨#[45,50]⟩:=by decide +kernel
theorem gq_n3:Sq (-3:Rat)=⟨#[45,51]⟩:=by decide +kernel
theorem gq_32:Sq (32:Rat)=⟨#[51,50]⟩:=by decide +kernel
theorem sm20 {q:Rat}(h1:q.num.natAbs<1000)(h2:q.den<1000):SmQ 20 q:=⟨(show Sm 3 _ by unfold Sm;omega).mono (by decide),(show Sm 3 _ by unfold Sm;omega).mono (by decide)⟩
theorem fq {q:Rat}(h1:q.num.natAbs<1000)(h2:q.den<1000):FitQ q:=(sm20 h1 h2).fit (by decide)
theorem ax_cross (w:World)(hla:La w):CV w 10 #[.agg #[.string ⟨#[49]⟩,.string ⟨#[48]⟩,.string ⟨#[48]⟩],.agg #[.string ⟨#[48]⟩,.string ⟨#[49]⟩,.string ⟨#[48]⟩]] (.tuple #[.agg #[.string ⟨#[48]⟩,.string ⟨#[48]⟩,.string ⟨#[49]⟩],.int .i64 0]):=by
 have h:=vnCross (a1:=1) (a2:=0) (a3:=0) (b1:=0) (b2:=1) (b3:=0) (c1:=0) (c2:=0) (c3:=1) (by decide +kernel) (by decide +kernel) (by decide +kernel) (sm20 (by decide +kernel) (by decide +kernel)) (sm20 (by decide +kernel) (by decide +kernel)) (sm20 (by decide +kernel) (by decide +kernel)) (sm20 (by decide +kernel) (by decide +kernel)) (sm20 (by decide +kernel) (by decide +kernel)) (sm20 (by decide +kernel) (by decide +kernel)) (by decide) w hla
 rw[gq_1,gq_0]at h
 exact h
theorem ax_crossing (w:World)(hla:La w):CV w 23 #[.agg #[.string ⟨#[48]⟩,.string ⟨#[48]⟩,.string ⟨#[50]⟩,.string ⟨#[50]⟩],.agg #[.string ⟨#[48]⟩,.string ⟨#[48]⟩,.string ⟨#[48]⟩],.agg #[.string ⟨#[51]⟩,.string ⟨#[48]⟩,.string ⟨#[51]⟩]] (.tuple #[.agg #[.string ⟨#[49]⟩,.string ⟨#[48]⟩,.string ⟨#[49]⟩],.int .i64 0]):=by
 have h:=nCrossing (n1:=0) (n2:=0) (n3:=2) (c:=2) (a1:=0) (a2:=0) (a3:=0) (b1:=3) (b2:=0) (b3:=3) (f1 := -2) (f2:=4) (pt:=1/3) (k1:=1) (k2:=0) (k3:=1) (by decide +kernel) (by decide +kernel) (by decide +kernel) (by decide +kernel) (by decide +kernel) (by decide +kernel) (by decide +kernel) (by decide +kernel) (by decide +kernel) (sm20 (by decide +kernel) (by decide +kernel)) (sm20 (by decide +kernel) (by decide +kernel)) (sm20 (by decide +kernel) (by decide +kernel)) (sm20 (by decide +kernel) (by decide +kernel)) (sm20 (by decide +kernel) (by decide +kernel)) (sm20 (by decide +kernel) (by decide +kernel)) (sm20 (by decide +kernel) (by decide +kernel)) (sm20 (by decide +kernel) (by decide +kernel)) (sm20 (by decide +kernel) (by decide +kernel)) (sm20 (by decide +kernel) (by decide +kernel)) w hla
 rw[gq_0,gq_1,gq_2,gq_3]at h
 exact h
theorem ax_through (w:World)(hla:La w):CV w 20 #[.agg #[.string ⟨#[49]⟩,.string ⟨#[48]⟩,.string ⟨#[48]⟩],.agg #[.string ⟨#[48]⟩,.string ⟨#[49]⟩,.string ⟨#[48]⟩],.agg #[.string ⟨#[48]⟩,.string ⟨#[48]⟩,.string ⟨#[49]⟩]] (.tuple #[.agg #[.string ⟨#[49]⟩,.string ⟨#[49]⟩,.string ⟨#[49]⟩,.string ⟨#[49]⟩],.int .i64 0]):=by
 have h:=nThrough (a1:=1) (a2:=0) (a3:=0) (b1:=0) (b2:=1) (b3:=0) (c1:=0) (c2:=0) (c3:=1) (l1 := -1) (l2:=1) (l3:=0) (m1 := -1) (m2:=0) (m3:=1) (n1:=1) (n2:=1) (n3:=1) (s:=1) (by decide +kernel) (by decide +kernel) (by decide +kernel) (by decide +kernel) (by decide +kernel) (by decide +kernel) (by decide +kernel) (by decide +kernel) (by decide +kernel) (by decide +kernel) (by decide +kernel) (sm20 (by decide +kernel) (by decide +kernel)) (sm20 (by decide +kernel) (by decide +kernel)) (sm20 (by decide +kernel) (by decide +kernel)) (sm20 (by decide +kernel) (by decide +kernel)) (sm20 (by decide +kernel) (by decide +kernel)) (sm20 (by decide +kernel) (by decide +kernel)) (sm20 (by decide +kernel) (by decide +kernel)) (sm20 (by decide +kernel) (by decide +kernel)) (sm20 (by decide +kernel) (by decide +kernel)) w hla
 rw[gq_1,gq_0]at h
 exact h
theorem ax_side (w:World)(hla:La w):CV w 21 #[.agg #[.string ⟨#[49]⟩,.string ⟨#[49]⟩,.string ⟨#[49]⟩,.string ⟨#[49]⟩],.agg #[.string ⟨#[48]⟩,.string ⟨#[48]⟩,.string ⟨#[50]⟩]] (.tuple #[.int .i64 1,.int .i64 0]):=by
 have h:=nSide (n1:=1) (n2:=1) (n3:=1) (c:=1) (a1:=0) (a2:=0) (a3:=2) (s:=2) (g:=1) (z:=1) (by decide +kernel) (by decide +kernel) (by decide +kernel) (by decide +kernel) (sm20 (by decide +kernel) (by decide +kernel)) (sm20 (by decide +kernel) (by decide +kernel)) (sm20 (by decide +kernel) (by decide +kernel)) (sm20 (by decide +kernel) (by decide +kernel)) (sm20 (by decide +kernel) (by decide +kernel)) (sm20 (by decide +kernel) (by decide +kernel)) (by decide) (fq (by decide +kernel) (by decide +kernel)) (fq (by decide +kernel) (by decide +kernel)) (fq (by decide +kernel) (by decide +kernel)) (fq (by decide +kernel) (by decide +kernel)) w hla
 rw[gq_1,gq_0,gq_2]at h
 exact h
theorem ax_dot1 (w:World)(hla:La w):CV w 12 #[.agg #[.string ⟨#[49]⟩,.string ⟨#[50]⟩,.string ⟨#[51]⟩],.agg #[.string ⟨#[49]⟩,.string ⟨#[48]⟩,.string ⟨#[45,49]⟩]] (.tuple #[.string ⟨#[45,50]⟩,.int .i64 0]):=by
 have h:=vnDot (a1:=1) (a2:=2) (a3:=3) (b1:=1) (b2:=0) (b3 := -1) (s := -2) (by decide +kernel) (sm20 (by decide +kernel) (by decide +kernel)) (sm20 (by decide +kernel) (by decide +kernel)) (sm20 (by decide +kernel) (by decide +kernel)) (sm20 (by decide +kernel) (by decide +kernel)) (sm20 (by decide +kernel) (by decide +kernel)) (sm20 (by decide +kernel) (by decide +kernel)) (by decide) (fq (by decide +kernel) (by decide +kernel)) w hla
 rw[gq_1,gq_2,gq_3,gq_0,gq_n1,gq_n2]at h
 exact h
theorem ax_dot2 (w:World)(hla:La w):CV w 12 #[.agg #[.string ⟨#[52]⟩,.string ⟨#[53]⟩,.string ⟨#[54]⟩],.agg #[.string ⟨#[49]⟩,.string ⟨#[48]⟩,.string ⟨#[45,49]⟩]] (.tuple #[.string ⟨#[45,50]⟩,.int .i64 0]):=by
 have h:=vnDot (a1:=4) (a2:=5) (a3:=6) (b1:=1) (b2:=0) (b3 := -1) (s := -2) (by decide +kernel) (sm20 (by decide +kernel) (by decide +kernel)) (sm20 (by decide +kernel) (by decide +kernel)) (sm20 (by decide +kernel) (by decide +kernel)) (sm20 (by decide +kernel) (by decide +kernel)) (sm20 (by decide +kernel) (by decide +kernel)) (sm20 (by decide +kernel) (by decide +kernel)) (by decide) (fq (by decide +kernel) (by decide +kernel)) w hla
 rw[gq_4,gq_5,gq_6,gq_1,gq_0,gq_n1,gq_n2]at h
 exact h
theorem ax_dot (w:World)(hla:La w):CV w 12 #[.agg #[.string ⟨#[49]⟩,.string ⟨#[50]⟩,.string ⟨#[51]⟩],.agg #[.string ⟨#[52]⟩,.string ⟨#[53]⟩,.string ⟨#[54]⟩]] (.tuple #[.string ⟨#[51,50]⟩,.int .i64 0]):=by
 have h:=vnDot (a1:=1) (a2:=2) (a3:=3) (b1:=4) (b2:=5) (b3:=6) (s:=32) (by decide +kernel) (sm20 (by decide +kernel) (by decide +kernel)) (sm20 (by decide +kernel) (by decide +kernel)) (sm20 (by decide +kernel) (by decide +kernel)) (sm20 (by decide +kernel) (by decide +kernel)) (sm20 (by decide +kernel) (by decide +kernel)) (sm20 (by decide +kernel) (by decide +kernel)) (by decide) (fq (by decide +kernel) (by decide +kernel)) w hla
 rw[gq_1,gq_2,gq_3,gq_4,gq_5,gq_6,gq_32]at h
 exact h
theorem ax_det (w:World)(hla:La w):CV w 19 #[.agg #[.string ⟨#[49]⟩,.string ⟨#[48]⟩,.string ⟨#[48]⟩],.agg #[.string ⟨#[48]⟩,.string ⟨#[49]⟩,.string ⟨#[48]⟩],.agg #[.string ⟨#[48]⟩,.string ⟨#[48]⟩,.string ⟨#[49]⟩]] (.tuple #[.string ⟨#[49]⟩,.int .i64 0]):=by
 have h:=vnDet (u1:=1) (u2:=0) (u3:=0) (a1:=0) (a2:=1) (a3:=0) (b1:=0) (b2:=0) (b3:=1) (c1:=1) (c2:=0) (c3:=0) (s:=1) (by decide +kernel) (by decide +kernel) (by decide +kernel) (by decide +kernel) (sm20 (by decide +kernel) (by decide +kernel)) (sm20 (by decide +kernel) (by decide +kernel)) (sm20 (by decide +kernel) (by decide +kernel)) (sm20 (by decide +kernel) (by decide +kernel)) (sm20 (by decide +kernel) (by decide +kernel)) (sm20 (by decide +kernel) (by decide +kernel)) (sm20 (by decide +kernel) (by decide +kernel)) (sm20 (by decide +kernel) (by decide +kernel)) (sm20 (by decide +kernel) (by decide +kernel)) (sm20 (by decide +kernel) (by decide +kernel)) (sm20 (by decide +kernel) (by decide +kernel)) (sm20 (by decide +kernel) (by decide +kernel)) (by decide) (by decide) (fq (by decide +kernel) (by decide +kernel)) w hla
 rw[gq_1,gq_0]at h
 exact h
theorem ax_add (w:World)(hla:La w):CV w 16 #[.agg #[.string ⟨#[49]⟩,.string ⟨#[50]⟩,.string ⟨#[51]⟩],.agg #[.string ⟨#[52]⟩,.string ⟨#[53]⟩,.string ⟨#[54]⟩]] (.tuple #[.agg #[.string ⟨#[53]⟩,.string ⟨#[55]⟩,.string ⟨#[57]⟩],.int .i64 0]):=by
 have h:=vnAdd (a1:=1) (a2:=2) (a3:=3) (b1:=4) (b2:=5) (b3:=6) (c1:=5) (c2:=7) (c3:=9) (by decide +kernel) (by decide +kernel) (by decide +kernel) (sm20 (by decide +kernel) (by decide +kernel)) (sm20 (by decide +kernel) (by decide +kernel)) (sm20 (by decide +kernel) (by decide +kernel)) (sm20 (by decide +kernel) (by decide +kernel)) (sm20 (by decide +kernel) (by decide +kernel)) (sm20 (by decide +kernel) (by decide +kernel)) (by decide) (by decide) w hla
 rw[gq_1,gq_2,gq_3,gq_4,gq_5,gq_6,gq_7,gq_9]at h
 exact h
theorem ax_sub (w:World)(hla:La w):CV w 17 #[.agg #[.string ⟨#[49]⟩,.string ⟨#[50]⟩,.string ⟨#[51]⟩],.agg #[.string ⟨#[52]⟩,.string ⟨#[53]⟩,.string ⟨#[54]⟩]] (.tuple #[.agg #[.string ⟨#[45,51]⟩,.string ⟨#[45,51]⟩,.string ⟨#[45,51]⟩],.int .i64 0]):=by
 have h:=vnSub (a1:=1) (a2:=2) (a3:=3) (b1:=4) (b2:=5) (b3:=6) (c1 := -3) (c2 := -3) (c3 := -3) (by decide +kernel) (by decide +kernel) (by decide +kernel) (sm20 (by decide +kernel) (by decide +kernel)) (sm20 (by decide +kernel) (by decide +kernel)) (sm20 (by decide +kernel) (by decide +kernel)) (sm20 (by decide +kernel) (by decide +kernel)) (sm20 (by decide +kernel) (by decide +kernel)) (sm20 (by decide +kernel) (by decide +kernel)) (by decide) (by decide) w hla
 rw[gq_1,gq_2,gq_3,gq_4,gq_5,gq_6,gq_n3]at h
 exact h
theorem ax_scale (w:World)(hla:La w):CV w 11 #[.agg #[.string ⟨#[49]⟩,.string ⟨#[50]⟩,.string ⟨#[51]⟩],.string ⟨#[50]⟩] (.tuple #[.agg #[.string ⟨#[50]⟩,.string ⟨#[52]⟩,.string ⟨#[54]⟩],.int .i64 0]):=by
 have h:=vnScale (a1:=1) (a2:=2) (a3:=3) (x:=2) (c1:=2) (c2:=4) (c3:=6) (by decide +kernel) (by decide +kernel) (by decide +kernel) (sm20 (by decide +kernel) (by decide +kernel)) (sm20 (by decide +kernel) (by decide +kernel)) (sm20 (by decide +kernel) (by decide +kernel)) (sm20 (by decide +kernel) (by decide +kernel)) (by decide) (by decide) w hla
 rw[gq_1,gq_2,gq_3,gq_4,gq_6]at h
 exact h
theorem ax_valid (w:World)(hla:La w):CV w 9 #[.agg #[.string ⟨#[48]⟩,.string ⟨#[48]⟩,.string ⟨#[49]⟩]] (.bool true):=by
 have h:=vnValid (a1:=0) (a2:=0) (a3:=1) (fq (by decide +kernel) (by decide +kernel)) (fq (by decide +kernel) (by decide +kernel)) (fq (by decide +kernel) (by decide +kernel)) w hla
 rw[gq_0,gq_1]at h
 exact h
theorem ax_order (w:World)(hla:La w):CV w 42 #[.string ⟨#[45,50]⟩,.string ⟨#[45,50]⟩] (.int .i64 0):=by
 have h:=norder (x := -2) (y := -2) (c:=0) (by decide +kernel) (fq (by decide +kernel) (by decide +kernel)) (fq (by decide +kernel) (by decide +kernel)) w hla
 rw[gq_n2]at h
 exact h
theorem ax_range (g:Nat)(w:World)(hla:La w)(k:SBk w g #[.string ⟨#[49]⟩,.string ⟨#[50]⟩,.string ⟨#[51]⟩,.string ⟨#[52]⟩,.string ⟨#[53]⟩,.string ⟨#[54]⟩] 24):CV w 27 #[.slice (some ⟨g,0,none⟩) 2 2,.agg #[.string ⟨#[49]⟩,.string ⟨#[48]⟩,.string ⟨#[45,49]⟩]] (.tuple #[.agg #[.string ⟨#[45,50]⟩,.string ⟨#[45,50]⟩],.int .i64 0]) :=
 vrange2 g _ _ _ _ _ _ _ _ _ _ w (ax_dot1 w hla) (ax_dot2 w hla) (ax_order w hla) k
theorem vec_awake  (w₀:World)  (hla:La w₀) :
 CV w₀ 7 #[] (.bool true):=by
 intro w hw
 have HT:=hid (hla.on hw)
 clear hla hw
 go_enter Tryz.func7,Tryz.ntmps7
 have HB0:=hid (Below.refl w.heap.size w)
 go_wp2_with fail
 with_reducible refine((lvec _ _ _ _).at).mono ?_
 rintro e W1 ⟨rfl,hb⟩
 have HB1:=hbt HB0 hb
 clear hb
 go_wp2_with fail
 with_reducible refine((lvec _ _ _ _).at).mono ?_
 rintro e W2 ⟨rfl,hb⟩
 have HB2:=hbt HB1 hb
 clear hb
 go_wp2_with fail
 with_reducible refine((ax_cross _ (HT.out.on HB2.out)).at).mono ?_
 rintro e W3 ⟨rfl,hb⟩
 have HB3:=hbt HB2 hb
 clear hb
 go_upto_region 2 with fail
 refine wp_boxes W3 [(#[.string ⟨#[48]⟩,.string ⟨#[48]⟩,.string ⟨#[49]⟩],24)] rfl ?_
 have L1:=HB3.out.size
 rintro W4 ⟨k1,hb⟩
 have hb:Below W3.heap.size W3 W4:=hb
 have HB4:=hbt HB3 hb
 have K1:=hid k1
 clear k1 hb
 go_wp2_with fail
 with_reducible refine((lvec _ _ _ _).at).mono ?_
 rintro e W5 ⟨rfl,hb⟩
 have K1:=hid (K1.out.below hb)
 have HB5:=hbt HB4 hb
 clear hb
 go_wp2_with fail
 with_reducible refine((lvec _ _ _ _).at).mono ?_
 rintro e W6 ⟨rfl,hb⟩
 have K1:=hid (K1.out.below hb)
 have HB6:=hbt HB5 hb
 clear hb
 go_wp2_with fail
 with_reducible refine((lvec _ _ _ _).at).mono ?_
 rintro e W7 ⟨rfl,hb⟩
 have K1:=hid (K1.out.below hb)
 have HB7:=hbt HB6 hb
 clear hb
 go_wp2_with fail
 with_reducible refine((ax_crossing _ (HT.out.on HB7.out)).at).mono ?_
 rintro e W8 ⟨rfl,hb⟩
 have K1:=hid (K1.out.below hb)
 have HB8:=hbt HB7 hb
 clear hb
 go_upto_region 3 with fail
 refine wp_boxes W8 [(#[.string ⟨#[49]⟩,.string ⟨#[48]⟩,.string ⟨#[49]⟩],24)] rfl ?_
 have L2:=K1.out.lt
 have L3:=HB8.out.size
 rintro W9 ⟨k2,hb⟩
 have hb:Below W8.heap.size W8 W9:=hb
 have K1:=hid (K1.out.below hb)
 have HB9:=hbt HB8 hb
 have K2:=hid k2
 clear k2 hb
 go_wp2_with fail
 with_reducible refine((lvec _ _ _ _).at).mono ?_
 rintro e W10 ⟨rfl,hb⟩
 have K1:=hid (K1.out.below hb)
 have K2:=hid (K2.out.below hb)
 have HB10:=hbt HB9 hb
 clear hb
 go_wp2_with fail
 with_reducible refine((lvec _ _ _ _).at).mono ?_
 rintro e W11 ⟨rfl,hb⟩
 have K1:=hid (K1.out.below hb)
 have K2:=hid (K2.out.below hb)
 have HB11:=hbt HB10 hb
 clear hb
 go_wp2_with fail
 with_reducible refine((lvec _ _ _ _).at).mono ?_
 rintro e W12 ⟨rfl,hb⟩
 have K1:=hid (K1.out.below hb)
 have K2:=hid (K2.out.below hb)
 have HB12:=hbt HB11 hb
 clear hb
 go_wp2_with fail
 with_reducible refine((ax_through _ (HT.out.on HB12.out)).at).mono ?_
 rintro e W13 ⟨rfl,hb⟩
 have K1:=hid (K1.out.below hb)
 have K2:=hid (K2.out.below hb)
 have HB13:=hbt HB12 hb
 clear hb
 go_upto_region 4 with fail
 refine wp_boxes W13 [(#[.string ⟨#[49]⟩,.string ⟨#[49]⟩,.string ⟨#[49]⟩,.string ⟨#[49]⟩],28)] rfl ?_
 have L4:=K1.out.lt
 have L5:=K2.out.lt
 have L6:=HB13.out.size
 rintro W14 ⟨k3,hb⟩
 have hb:Below W13.heap.size W13 W14:=hb
 have K1:=hid (K1.out.below hb)
 have K2:=hid (K2.out.below hb)
 have HB14:=hbt HB13 hb
 have K3:=hid k3
 clear k3 hb
 go_wp2_with fail
 refine wp_region_post (fun a0 a' V=>a'=⟨putL [(43,.agg #[.string ⟨#[49]⟩,.string ⟨#[49]⟩,.string ⟨#[49]⟩,.string ⟨#[49]⟩]),(44,.agg #[.string ⟨#[48]⟩,.string ⟨#[48]⟩,.string ⟨#[50]⟩]),(45,.tuple #[.int .i64 1,.int .i64 0]),(42,.tuple #[.int .i64 1,.int .i64 0]),(46,.int .i64 1),(47,.int .i64 0),(7,.int .i64 1),(8,.int .i64 0)] a0.tmps,a0.defers⟩∧Below w.heap.size w V∧SBk V (W3.heap.size) #[.string ⟨#[48]⟩,.string ⟨#[48]⟩,.string ⟨#[49]⟩] 24∧SBk V (W8.heap.size) #[.string ⟨#[49]⟩,.string ⟨#[48]⟩,.string ⟨#[49]⟩] 24∧SBk V (W13.heap.size) #[.string ⟨#[49]⟩,.string ⟨#[49]⟩,.string ⟨#[49]⟩,.string ⟨#[49]⟩] 28) ?_ ?_
 · refine wp_region_tail_d (by kernel_rfl) 8 0 (fun i=>[43,44,45,42,46,47,7,8].getD i 0) (RelR [Rel.val (.agg #[.string ⟨#[49]⟩,.string ⟨#[49]⟩,.string ⟨#[49]⟩,.string ⟨#[49]⟩]),Rel.val (.agg #[.string ⟨#[48]⟩,.string ⟨#[48]⟩,.string ⟨#[50]⟩]),Rel.val (.tuple #[.int .i64 1,.int .i64 0]),Rel.val (.tuple #[.int .i64 1,.int .i64 0]),Rel.val (.int .i64 1),Rel.val (.int .i64 0),Rel.val (.int .i64 1),Rel.val (.int .i64 0)]) (fun W=>Below W14.heap.size W14 W) (fun _ _=>True) (by kernel_rfl) (by kernel_rfl) (by kernel_rfl) trivial (Below.refl _ _).drew ?_ ?_
   · intro listed a W i hI hD hrd him
     have HI:=hid hI
     have HD:=hid hD
     have Hr:=hid hrd
     clear hI hrd hD
     have y5:a.tmps[5]? = some (.pointer (some ⟨W13.heap.size,0,none⟩)):=HI.out.rest 5 (by decide)
     have dK30:=(K3.out.below HI.out.world).cell (i:=0) rfl
     have dK31:=(K3.out.below HI.out.world).cell (i:=1) rfl
     have dK32:=(K3.out.below HI.out.world).cell (i:=2) rfl
     have dK33:=(K3.out.below HI.out.world).cell (i:=3) rfl
     have X0:RV _ listed a 0 43 (.agg #[.string ⟨#[49]⟩,.string ⟨#[49]⟩,.string ⟨#[49]⟩,.string ⟨#[49]⟩]):=HI.out.rh
     have X1:RV _ listed a 1 44 (.agg #[.string ⟨#[48]⟩,.string ⟨#[48]⟩,.string ⟨#[50]⟩]):=HI.out.rh
     have X2:RV _ listed a 2 45 (.tuple #[.int .i64 1,.int .i64 0]):=HI.out.rh
     have X3:RV _ listed a 3 42 (.tuple #[.int .i64 1,.int .i64 0]):=HI.out.rh
     have X4:RV _ listed a 4 46 (.int .i64 1):=HI.out.rh
     have X5:RV _ listed a 5 47 (.int .i64 0):=HI.out.rh
     match i,him,Hr with
     | 0,_,Hi =>
       refine stepH rfl fun K' hK=>?_
       go_simp
       exact hK.out _ _ ⟨HI.out.pv Hi.out rfl,trivial⟩
     | 1,_,Hi =>
       refine stepH rfl fun K' hK=>?_
       go_simp
       with_reducible refine((lvec _ _ _ _).at).mono ?_
       rintro e W' ⟨rfl,hb⟩
       exact hK.out _ _ ⟨HI.out.pc Hi.out hb rfl,trivial⟩
     | 2,_,Hi =>
       have x0:=X0.g Hi.out (by kernel_rfl)
       have x1:=X1.g Hi.out (by kernel_rfl)
       refine stepH rfl fun K' hK=>?_
       go_simp
       with_reducible refine((ax_side _ (HT.out.on (HB14.out.trans (HI.out.world.mono HB14.out.size)))).at).mono ?_
       rintro e W' ⟨rfl,hb⟩
       exact hK.out _ _ ⟨HI.out.pc Hi.out hb rfl,trivial⟩
     | 3,_,Hi =>
       have x2:=X2.g Hi.out (by kernel_rfl)
       refine stepH rfl fun K' hK=>?_
       go_simp
       exact hK.out _ _ ⟨HI.out.pv Hi.out rfl,trivial⟩
     | 4,_,Hi =>
       have x3:=X3.g Hi.out (by kernel_rfl)
       refine stepH rfl fun K' hK=>?_
       go_simp
       exact hK.out _ _ ⟨HI.out.pv Hi.out rfl,trivial⟩
     | 5,_,Hi =>
       have x3:=X3.g Hi.out (by kernel_rfl)
       refine stepH rfl fun K' hK=>?_
       go_simp
       exact hK.out _ _ ⟨HI.out.pv Hi.out rfl,trivial⟩
     | 6,_,Hi =>
       have x4:=X4.g Hi.out (by kernel_rfl)
       refine stepH rfl fun K' hK=>?_
       go_simp
       exact hK.out _ _ ⟨HI.out.pv Hi.out rfl,trivial⟩
     | 7,_,Hi =>
       have x5:=X5.g Hi.out (by kernel_rfl)
       refine stepH rfl fun K' hK=>?_
       go_simp
       exact hK.out _ _ ⟨HI.out.pv Hi.out rfl,trivial⟩
     | n+8,h,_=>exact absurd h (by omega)
   · intro listed a W hI hD hall
     have HBW:=hid hI.world
     have HI:=hid hI
     have HA:=hid hall
     clear hI hall
     have K1:=hid (K1.out.below HBW.out)
     have K2:=hid (K2.out.below HBW.out)
     have K3:=hid (K3.out.below HBW.out)
     have HBX:=hid (HB14.out.trans (HBW.out.mono HB14.out.size))
     refine tail_nil ?_
     exact⟨rfl,(HI.out.finx ⟨HI.out.sx HA.out 0,HI.out.sx HA.out 1,HI.out.sx HA.out 2,HI.out.sx HA.out 3,HI.out.sx HA.out 4,HI.out.sx HA.out 5,HI.out.sx HA.out 6,HI.out.sx HA.out 7,trivial⟩ rfl),HBX.out,K1.out,K2.out,K3.out⟩
 rintro a' W15 ⟨rfl,z0,z1,z2,z3⟩
 have HB15:=hid z0
 have K1:=hid z1
 have K2:=hid z2
 have K3:=hid z3
 clear z0 z1 z2 z3
 simp only[putL,List.setIfInBounds_toArray,List.set_cons_zero,List.set_cons_succ]
 go_wp2_with fail
 with_reducible refine((lvec _ _ _ _).at).mono ?_
 rintro e W16 ⟨rfl,hb⟩
 have K1:=hid (K1.out.below hb)
 have K2:=hid (K2.out.below hb)
 have K3:=hid (K3.out.below hb)
 have HB16:=hbt HB15 hb
 clear hb
 go_wp2_with fail
 with_reducible refine((lvec _ _ _ _).at).mono ?_
 rintro e W17 ⟨rfl,hb⟩
 have K1:=hid (K1.out.below hb)
 have K2:=hid (K2.out.below hb)
 have K3:=hid (K3.out.below hb)
 have HB17:=hbt HB16 hb
 clear hb
 go_wp2_with fail
 have hb:=below_new W17 (.cells #[.string ⟨#[49]⟩,.string ⟨#[50]⟩,.string ⟨#[51]⟩,.string ⟨#[52]⟩,.string ⟨#[53]⟩,.string ⟨#[54]⟩] 24)
 have k4:=SBk.new W17 #[.string ⟨#[49]⟩,.string ⟨#[50]⟩,.string ⟨#[51]⟩,.string ⟨#[52]⟩,.string ⟨#[53]⟩,.string ⟨#[54]⟩] 24
 generalize W17.alloc (.cells #[.string ⟨#[49]⟩,.string ⟨#[50]⟩,.string ⟨#[51]⟩,.string ⟨#[52]⟩,.string ⟨#[53]⟩,.string ⟨#[54]⟩] 24)=W18 at *
 have K1:=hid (K1.out.below hb)
 have K2:=hid (K2.out.below hb)
 have K3:=hid (K3.out.below hb)
 have HB18:=hbt HB17 hb
 have K4:=hid k4
 clear k4 hb
 with_reducible refine((lvec _ _ _ _).at).mono ?_
 rintro e W19 ⟨rfl,hb⟩
 have K1:=hid (K1.out.below hb)
 have K2:=hid (K2.out.below hb)
 have K3:=hid (K3.out.below hb)
 have K4:=hid (K4.out.below hb)
 have HB19:=hbt HB18 hb
 clear hb
 go_wp2_with fail
 with_reducible refine((ax_range _ _ (HT.out.on HB19.out) K4.out).at).mono ?_
 rintro e W20 ⟨rfl,hb⟩
 have K1:=hid (K1.out.below hb)
 have K2:=hid (K2.out.below hb)
 have K3:=hid (K3.out.below hb)
 have K4:=hid (K4.out.below hb)
 have HB20:=hbt HB19 hb
 clear hb
 go_upto_region 6 with fail
 refine wp_boxes W20 [(#[.string ⟨#[45,50]⟩,.string ⟨#[45,50]⟩],51)] rfl ?_
 have L7:=K1.out.lt
 have L8:=K2.out.lt
 have L9:=K3.out.lt
 have L10:=K4.out.lt
 have L11:=HB20.out.size
 rintro W21 ⟨k5,hb⟩
 have hb:Below W20.heap.size W20 W21:=hb
 have K1:=hid (K1.out.below hb)
 have K2:=hid (K2.out.below hb)
 have K3:=hid (K3.out.below hb)
 have K4:=hid (K4.out.below hb)
 have HB21:=hbt HB20 hb
 have K5:=hid k5
 clear k5 hb
 go_wp2_with fail
 with_reducible refine((lvec _ _ _ _).at).mono ?_
 rintro e W22 ⟨rfl,hb⟩
 have K1:=hid (K1.out.below hb)
 have K2:=hid (K2.out.below hb)
 have K3:=hid (K3.out.below hb)
 have K4:=hid (K4.out.below hb)
 have K5:=hid (K5.out.below hb)
 have HB22:=hbt HB21 hb
 clear hb
 go_wp2_with fail
 with_reducible refine((lvec _ _ _ _).at).mono ?_
 rintro e W23 ⟨rfl,hb⟩
 have K1:=hid (K1.out.below hb)
 have K2:=hid (K2.out.below hb)
 have K3:=hid (K3.out.below hb)
 have K4:=hid (K4.out.below hb)
 have K5:=hid (K5.out.below hb)
 have HB23:=hbt HB22 hb
 clear hb
 go_wp2_with fail
 with_reducible refine((ax_dot _ (HT.out.on HB23.out)).at).mono ?_
 rintro e W24 ⟨rfl,hb⟩
 have K1:=hid (K1.out.below hb)
 have K2:=hid (K2.out.below hb)
 have K3:=hid (K3.out.below hb)
 have K4:=hid (K4.out.below hb)
 have K5:=hid (K5.out.below hb)
 have HB24:=hbt HB23 hb
 clear hb
 go_wp2_with fail
 with_reducible refine((lvec _ _ _ _).at).mono ?_
 rintro e W25 ⟨rfl,hb⟩
 have K1:=hid (K1.out.below hb)
 have K2:=hid (K2.out.below hb)
 have K3:=hid (K3.out.below hb)
 have K4:=hid (K4.out.below hb)
 have K5:=hid (K5.out.below hb)
 have HB25:=hbt HB24 hb
 clear hb
 go_wp2_with fail
 with_reducible refine((lvec _ _ _ _).at).mono ?_
 rintro e W26 ⟨rfl,hb⟩
 have K1:=hid (K1.out.below hb)
 have K2:=hid (K2.out.below hb)
 have K3:=hid (K3.out.below hb)
 have K4:=hid (K4.out.below hb)
 have K5:=hid (K5.out.below hb)
 have HB26:=hbt HB25 hb
 clear hb
 go_wp2_with fail
 with_reducible refine((lvec _ _ _ _).at).mono ?_
 rintro e W27 ⟨rfl,hb⟩
 have K1:=hid (K1.out.below hb)
 have K2:=hid (K2.out.below hb)
 have K3:=hid (K3.out.below hb)
 have K4:=hid (K4.out.below hb)
 have K5:=hid (K5.out.below hb)
 have HB27:=hbt HB26 hb
 clear hb
 go_wp2_with fail
 with_reducible refine((ax_det _ (HT.out.on HB27.out)).at).mono ?_
 rintro e W28 ⟨rfl,hb⟩
 have K1:=hid (K1.out.below hb)
 have K2:=hid (K2.out.below hb)
 have K3:=hid (K3.out.below hb)
 have K4:=hid (K4.out.below hb)
 have K5:=hid (K5.out.below hb)
 have HB28:=hbt HB27 hb
 clear hb
 go_wp2_with fail
 with_reducible refine((lvec _ _ _ _).at).mono ?_
 rintro e W29 ⟨rfl,hb⟩
 have K1:=hid (K1.out.below hb)
 have K2:=hid (K2.out.below hb)
 have K3:=hid (K3.out.below hb)
 have K4:=hid (K4.out.below hb)
 have K5:=hid (K5.out.below hb)
 have HB29:=hbt HB28 hb
 clear hb
 go_wp2_with fail
 with_reducible refine((lvec _ _ _ _).at).mono ?_
 rintro e W30 ⟨rfl,hb⟩
 have K1:=hid (K1.out.below hb)
 have K2:=hid (K2.out.below hb)
 have K3:=hid (K3.out.below hb)
 have K4:=hid (K4.out.below hb)
 have K5:=hid (K5.out.below hb)
 have HB30:=hbt HB29 hb
 clear hb
 go_wp2_with fail
 with_reducible refine((ax_add _ (HT.out.on HB30.out)).at).mono ?_
 rintro e W31 ⟨rfl,hb⟩
 have K1:=hid (K1.out.below hb)
 have K2:=hid (K2.out.below hb)
 have K3:=hid (K3.out.below hb)
 have K4:=hid (K4.out.below hb)
 have K5:=hid (K5.out.below hb)
 have HB31:=hbt HB30 hb
 clear hb
 go_upto_region 9 with fail
 refine wp_boxes W31 [(#[.string ⟨#[53]⟩,.string ⟨#[55]⟩,.string ⟨#[57]⟩],24)] rfl ?_
 have L12:=K1.out.lt
 have L13:=K2.out.lt
 have L14:=K3.out.lt
 have L15:=K4.out.lt
 have L16:=K5.out.lt
 have L17:=HB31.out.size
 rintro W32 ⟨k6,hb⟩
 have hb:Below W31.heap.size W31 W32:=hb
 have K1:=hid (K1.out.below hb)
 have K2:=hid (K2.out.below hb)
 have K3:=hid (K3.out.below hb)
 have K4:=hid (K4.out.below hb)
 have K5:=hid (K5.out.below hb)
 have HB32:=hbt HB31 hb
 have K6:=hid k6
 clear k6 hb
 go_wp2_with fail
 with_reducible refine((lvec _ _ _ _).at).mono ?_
 rintro e W33 ⟨rfl,hb⟩
 have K1:=hid (K1.out.below hb)
 have K2:=hid (K2.out.below hb)
 have K3:=hid (K3.out.below hb)
 have K4:=hid (K4.out.below hb)
 have K5:=hid (K5.out.below hb)
 have K6:=hid (K6.out.below hb)
 have HB33:=hbt HB32 hb
 clear hb
 go_wp2_with fail
 with_reducible refine((lvec _ _ _ _).at).mono ?_
 rintro e W34 ⟨rfl,hb⟩
 have K1:=hid (K1.out.below hb)
 have K2:=hid (K2.out.below hb)
 have K3:=hid (K3.out.below hb)
 have K4:=hid (K4.out.below hb)
 have K5:=hid (K5.out.below hb)
 have K6:=hid (K6.out.below hb)
 have HB34:=hbt HB33 hb
 clear hb
 go_wp2_with fail
 with_reducible refine((ax_sub _ (HT.out.on HB34.out)).at).mono ?_
 rintro e W35 ⟨rfl,hb⟩
 have K1:=hid (K1.out.below hb)
 have K2:=hid (K2.out.below hb)
 have K3:=hid (K3.out.below hb)
 have K4:=hid (K4.out.below hb)
 have K5:=hid (K5.out.below hb)
 have K6:=hid (K6.out.below hb)
 have HB35:=hbt HB34 hb
 clear hb
 go_upto_region 10 with fail
 refine wp_boxes W35 [(#[.string ⟨#[45,51]⟩,.string ⟨#[45,51]⟩,.string ⟨#[45,51]⟩],24)] rfl ?_
 have L18:=K1.out.lt
 have L19:=K2.out.lt
 have L20:=K3.out.lt
 have L21:=K4.out.lt
 have L22:=K5.out.lt
 have L23:=K6.out.lt
 have L24:=HB35.out.size
 rintro W36 ⟨k7,hb⟩
 have hb:Below W35.heap.size W35 W36:=hb
 have K1:=hid (K1.out.below hb)
 have K2:=hid (K2.out.below hb)
 have K3:=hid (K3.out.below hb)
 have K4:=hid (K4.out.below hb)
 have K5:=hid (K5.out.below hb)
 have K6:=hid (K6.out.below hb)
 have HB36:=hbt HB35 hb
 have K7:=hid k7
 clear k7 hb
 go_wp2_with fail
 with_reducible refine((lvec _ _ _ _).at).mono ?_
 rintro e W37 ⟨rfl,hb⟩
 have K1:=hid (K1.out.below hb)
 have K2:=hid (K2.out.below hb)
 have K3:=hid (K3.out.below hb)
 have K4:=hid (K4.out.below hb)
 have K5:=hid (K5.out.below hb)
 have K6:=hid (K6.out.below hb)
 have K7:=hid (K7.out.below hb)
 have HB37:=hbt HB36 hb
 clear hb
 go_wp2_with fail
 with_reducible refine((ax_scale _ (HT.out.on HB37.out)).at).mono ?_
 rintro e W38 ⟨rfl,hb⟩
 have K1:=hid (K1.out.below hb)
 have K2:=hid (K2.out.below hb)
 have K3:=hid (K3.out.below hb)
 have K4:=hid (K4.out.below hb)
 have K5:=hid (K5.out.below hb)
 have K6:=hid (K6.out.below hb)
 have K7:=hid (K7.out.below hb)
 have HB38:=hbt HB37 hb
 clear hb
 go_upto_region 11 with fail
 refine wp_boxes W38 [(#[.string ⟨#[50]⟩,.string ⟨#[52]⟩,.string ⟨#[54]⟩],24)] rfl ?_
 have L25:=K1.out.lt
 have L26:=K2.out.lt
 have L27:=K3.out.lt
 have L28:=K4.out.lt
 have L29:=K5.out.lt
 have L30:=K6.out.lt
 have L31:=K7.out.lt
 have L32:=HB38.out.size
 rintro W39 ⟨k8,hb⟩
 have hb:Below W38.heap.size W38 W39:=hb
 have K1:=hid (K1.out.below hb)
 have K2:=hid (K2.out.below hb)
 have K3:=hid (K3.out.below hb)
 have K5:=hid (K5.out.below hb)
 have K6:=hid (K6.out.below hb)
 have K7:=hid (K7.out.below hb)
 have HB39:=hbt HB38 hb
 have K8:=hid k8
 clear k8 hb
 go_wp2_with fail
 simp only[List.append]
 refine wp_region_post (fun a0 a' V=>a'=⟨putL [(86,.int .i64 0),(87,.int .i64 0),(88,.int .i64 0),(89,.int .i64 0),(90,.int .i64 0),(91,.int .i64 0),(92,.int .i64 0),(93,.int .i64 0),(94,.int .i64 0),(95,.int .i64 0),(96,.int .i64 0),(97,.int .i64 0),(98,.int .i64 0),(99,.int .i64 0),(100,.int .i64 0),(101,.int .i64 0),(102,.int .i64 0),(103,.int .i64 0),(104,.int .i64 0),(105,.bool true),(106,.bool true),(107,.agg #[.string ⟨#[48]⟩,.string ⟨#[48]⟩,.string ⟨#[49]⟩]),(108,.agg #[.string ⟨#[48]⟩,.string ⟨#[48]⟩,.string ⟨#[49]⟩]),(109,.bool true),(110,.bool true),(111,.bool true),(112,.agg #[.string ⟨#[49]⟩,.string ⟨#[48]⟩,.string ⟨#[49]⟩]),(113,.agg #[.string ⟨#[49]⟩,.string ⟨#[48]⟩,.string ⟨#[49]⟩]),(114,.bool true),(115,.bool true),(116,.bool true),(117,.agg #[.string ⟨#[49]⟩,.string ⟨#[49]⟩,.string ⟨#[49]⟩,.string ⟨#[49]⟩]),(118,.agg #[.string ⟨#[49]⟩,.string ⟨#[49]⟩,.string ⟨#[49]⟩]),(119,.agg #[.string ⟨#[49]⟩,.string ⟨#[49]⟩,.string ⟨#[49]⟩,.string ⟨#[49]⟩]),(120,.bool true),(121,.bool true),(122,.bool true),(123,.int .i64 1),(124,.bool true),(125,.bool true),(126,.bool true),(127,.agg #[.string ⟨#[45,50]⟩,.string ⟨#[45,50]⟩]),(128,.agg #[.string ⟨#[45,50]⟩,.string ⟨#[45,50]⟩]),(129,.bool true),(130,.bool true),(131,.bool true),(132,.string ⟨#[51,50]⟩),(133,.bool true),(134,.bool true),(135,.bool true),(136,.string ⟨#[49]⟩),(137,.bool true),(138,.bool true),(139,.bool true),(140,.agg #[.string ⟨#[53]⟩,.string ⟨#[55]⟩,.string ⟨#[57]⟩]),(141,.agg #[.string ⟨#[53]⟩,.string ⟨#[55]⟩,.string ⟨#[57]⟩]),(142,.bool true),(143,.bool true),(144,.bool true),(145,.agg #[.string ⟨#[45,51]⟩,.string ⟨#[45,51]⟩,.string ⟨#[45,51]⟩]),(146,.agg #[.string ⟨#[45,51]⟩,.string ⟨#[45,51]⟩,.string ⟨#[45,51]⟩]),(147,.bool true),(148,.bool true),(149,.bool true),(150,.agg #[.string ⟨#[50]⟩,.string ⟨#[52]⟩,.string ⟨#[54]⟩]),(151,.agg #[.string ⟨#[50]⟩,.string ⟨#[52]⟩,.string ⟨#[54]⟩]),(152,.bool true),(153,.bool true),(154,.bool true),(155,.agg #[.string ⟨#[48]⟩,.string ⟨#[48]⟩,.string ⟨#[49]⟩]),(156,.bool true),(157,.bool true),(0,.bool true)] a0.tmps,a0.defers⟩∧Below w.heap.size w V) ?_ ?_
 · refine wp_region_tail_d (by kernel_rfl) 73 0 (fun i=>[86,87,88,89,90,91,92,93,94,95,96,97,98,99,100,101,102,103,104,105,106,107,108,109,110,111,112,113,114,115,116,117,118,119,120,121,122,123,124,125,126,127,128,129,130,131,132,133,134,135,136,137,138,139,140,141,142,143,144,145,146,147,148,149,150,151,152,153,154,155,156,157,0].getD i 0) (RelR [Rel.val (.int .i64 0),Rel.val (.int .i64 0),Rel.val (.int .i64 0),Rel.val (.int .i64 0),Rel.val (.int .i64 0),Rel.val (.int .i64 0),Rel.val (.int .i64 0),Rel.val (.int .i64 0),Rel.val (.int .i64 0),Rel.val (.int .i64 0),Rel.val (.int .i64 0),Rel.val (.int .i64 0),Rel.val (.int .i64 0),Rel.val (.int .i64 0),Rel.val (.int .i64 0),Rel.val (.int .i64 0),Rel.val (.int .i64 0),Rel.val (.int .i64 0),Rel.val (.int .i64 0),Rel.val (.bool true),Rel.val (.bool true),Rel.val (.agg #[.string ⟨#[48]⟩,.string ⟨#[48]⟩,.string ⟨#[49]⟩]),Rel.val (.agg #[.string ⟨#[48]⟩,.string ⟨#[48]⟩,.string ⟨#[49]⟩]),Rel.val (.bool true),Rel.val (.bool true),Rel.val (.bool true),Rel.val (.agg #[.string ⟨#[49]⟩,.string ⟨#[48]⟩,.string ⟨#[49]⟩]),Rel.val (.agg #[.string ⟨#[49]⟩,.string ⟨#[48]⟩,.string ⟨#[49]⟩]),Rel.val (.bool true),Rel.val (.bool true),Rel.val (.bool true),Rel.val (.agg #[.string ⟨#[49]⟩,.string ⟨#[49]⟩,.string ⟨#[49]⟩,.string ⟨#[49]⟩]),Rel.val (.agg #[.string ⟨#[49]⟩,.string ⟨#[49]⟩,.string ⟨#[49]⟩]),Rel.val (.agg #[.string ⟨#[49]⟩,.string ⟨#[49]⟩,.string ⟨#[49]⟩,.string ⟨#[49]⟩]),Rel.val (.bool true),Rel.val (.bool true),Rel.val (.bool true),Rel.val (.int .i64 1),Rel.val (.bool true),Rel.val (.bool true),Rel.val (.bool true),Rel.val (.agg #[.string ⟨#[45,50]⟩,.string ⟨#[45,50]⟩]),Rel.val (.agg #[.string ⟨#[45,50]⟩,.string ⟨#[45,50]⟩]),Rel.val (.bool true),Rel.val (.bool true),Rel.val (.bool true),Rel.val (.string ⟨#[51,50]⟩),Rel.val (.bool true),Rel.val (.bool true),Rel.val (.bool true),Rel.val (.string ⟨#[49]⟩),Rel.val (.bool true),Rel.val (.bool true),Rel.val (.bool true),Rel.val (.agg #[.string ⟨#[53]⟩,.string ⟨#[55]⟩,.string ⟨#[57]⟩]),Rel.val (.agg #[.string ⟨#[53]⟩,.string ⟨#[55]⟩,.string ⟨#[57]⟩]),Rel.val (.bool true),Rel.val (.bool true),Rel.val (.bool true),Rel.val (.agg #[.string ⟨#[45,51]⟩,.string ⟨#[45,51]⟩,.string ⟨#[45,51]⟩]),Rel.val (.agg #[.string ⟨#[45,51]⟩,.string ⟨#[45,51]⟩,.string ⟨#[45,51]⟩]),Rel.val (.bool true),Rel.val (.bool true),Rel.val (.bool true),Rel.val (.agg #[.string ⟨#[50]⟩,.string ⟨#[52]⟩,.string ⟨#[54]⟩]),Rel.val (.agg #[.string ⟨#[50]⟩,.string ⟨#[52]⟩,.string ⟨#[54]⟩]),Rel.val (.bool true),Rel.val (.bool true),Rel.val (.bool true),Rel.val (.agg #[.string ⟨#[48]⟩,.string ⟨#[48]⟩,.string ⟨#[49]⟩]),Rel.val (.bool true),Rel.val (.bool true),Rel.val (.bool true)]) (fun W=>Below W39.heap.size W39 W) (fun _ _=>True) (by kernel_rfl) (by kernel_rfl) (by kernel_rfl) trivial (Below.refl _ _).drew ?_ ?_
   · intro listed a W i hI hD hrd him
     have HI:=hid hI
     have HD:=hid hD
     have Hr:=hid hrd
     clear hI hrd hD
     have y2:a.tmps[2]? = some (.int .i64 0):=HI.out.rest 2 (by decide)
     have y4:a.tmps[4]? = some (.int .i64 0):=HI.out.rest 4 (by decide)
     have y6:a.tmps[6]? = some (.int .i64 0):=HI.out.rest 6 (by decide)
     have y8:a.tmps[8]? = some (.int .i64 0):=HI.out.rest 8 (by decide)
     have y10:a.tmps[10]? = some (.int .i64 0):=HI.out.rest 10 (by decide)
     have y12:a.tmps[12]? = some (.int .i64 0):=HI.out.rest 12 (by decide)
     have y14:a.tmps[14]? = some (.int .i64 0):=HI.out.rest 14 (by decide)
     have y16:a.tmps[16]? = some (.int .i64 0):=HI.out.rest 16 (by decide)
     have y18:a.tmps[18]? = some (.int .i64 0):=HI.out.rest 18 (by decide)
     have y20:a.tmps[20]? = some (.int .i64 0):=HI.out.rest 20 (by decide)
     have y1:a.tmps[1]? = some (.pointer (some ⟨W3.heap.size,0,none⟩)):=HI.out.rest 1 (by decide)
     have y3:a.tmps[3]? = some (.pointer (some ⟨W8.heap.size,0,none⟩)):=HI.out.rest 3 (by decide)
     have y5:a.tmps[5]? = some (.pointer (some ⟨W13.heap.size,0,none⟩)):=HI.out.rest 5 (by decide)
     have y7:a.tmps[7]? = some (.int .i64 1):=HI.out.rest 7 (by decide)
     have y9:a.tmps[9]? = some (.pointer (some ⟨W20.heap.size,0,none⟩)):=HI.out.rest 9 (by decide)
     have y11:a.tmps[11]? = some (.string ⟨#[51,50]⟩):=HI.out.rest 11 (by decide)
     have y13:a.tmps[13]? = some (.string ⟨#[49]⟩):=HI.out.rest 13 (by decide)
     have y15:a.tmps[15]? = some (.pointer (some ⟨W31.heap.size,0,none⟩)):=HI.out.rest 15 (by decide)
     have y17:a.tmps[17]? = some (.pointer (some ⟨W35.heap.size,0,none⟩)):=HI.out.rest 17 (by decide)
     have y19:a.tmps[19]? = some (.pointer (some ⟨W38.heap.size,0,none⟩)):=HI.out.rest 19 (by decide)
     have dK10:=(K1.out.below HI.out.world).cell (i:=0) rfl
     have dK11:=(K1.out.below HI.out.world).cell (i:=1) rfl
     have dK12:=(K1.out.below HI.out.world).cell (i:=2) rfl
     have dK20:=(K2.out.below HI.out.world).cell (i:=0) rfl
     have dK21:=(K2.out.below HI.out.world).cell (i:=1) rfl
     have dK22:=(K2.out.below HI.out.world).cell (i:=2) rfl
     have dK30:=(K3.out.below HI.out.world).cell (i:=0) rfl
     have dK31:=(K3.out.below HI.out.world).cell (i:=1) rfl
     have dK32:=(K3.out.below HI.out.world).cell (i:=2) rfl
     have dK33:=(K3.out.below HI.out.world).cell (i:=3) rfl
     have dK50:=(K5.out.below HI.out.world).cell (i:=0) rfl
     have dK51:=(K5.out.below HI.out.world).cell (i:=1) rfl
     have dK60:=(K6.out.below HI.out.world).cell (i:=0) rfl
     have dK61:=(K6.out.below HI.out.world).cell (i:=1) rfl
     have dK62:=(K6.out.below HI.out.world).cell (i:=2) rfl
     have dK70:=(K7.out.below HI.out.world).cell (i:=0) rfl
     have dK71:=(K7.out.below HI.out.world).cell (i:=1) rfl
     have dK72:=(K7.out.below HI.out.world).cell (i:=2) rfl
     have dK80:=(K8.out.below HI.out.world).cell (i:=0) rfl
     have dK81:=(K8.out.below HI.out.world).cell (i:=1) rfl
     have dK82:=(K8.out.below HI.out.world).cell (i:=2) rfl
     have X0:RV _ listed a 0 86 (.int .i64 0):=HI.out.rh
     have X1:RV _ listed a 1 87 (.int .i64 0):=HI.out.rh
     have X2:RV _ listed a 2 88 (.int .i64 0):=HI.out.rh
     have X3:RV _ listed a 3 89 (.int .i64 0):=HI.out.rh
     have X4:RV _ listed a 4 90 (.int .i64 0):=HI.out.rh
     have X5:RV _ listed a 5 91 (.int .i64 0):=HI.out.rh
     have X6:RV _ listed a 6 92 (.int .i64 0):=HI.out.rh
     have X7:RV _ listed a 7 93 (.int .i64 0):=HI.out.rh
     have X8:RV _ listed a 8 94 (.int .i64 0):=HI.out.rh
     have X9:RV _ listed a 9 95 (.int .i64 0):=HI.out.rh
     have X10:RV _ listed a 10 96 (.int .i64 0):=HI.out.rh
     have X11:RV _ listed a 11 97 (.int .i64 0):=HI.out.rh
     have X12:RV _ listed a 12 98 (.int .i64 0):=HI.out.rh
     have X13:RV _ listed a 13 99 (.int .i64 0):=HI.out.rh
     have X14:RV _ listed a 14 100 (.int .i64 0):=HI.out.rh
     have X15:RV _ listed a 15 101 (.int .i64 0):=HI.out.rh
     have X16:RV _ listed a 16 102 (.int .i64 0):=HI.out.rh
     have X17:RV _ listed a 17 103 (.int .i64 0):=HI.out.rh
     have X18:RV _ listed a 18 104 (.int .i64 0):=HI.out.rh
     have X19:RV _ listed a 19 105 (.bool true):=HI.out.rh
     have X20:RV _ listed a 20 106 (.bool true):=HI.out.rh
     have X21:RV _ listed a 21 107 (.agg #[.string ⟨#[48]⟩,.string ⟨#[48]⟩,.string ⟨#[49]⟩]):=HI.out.rh
     have X22:RV _ listed a 22 108 (.agg #[.string ⟨#[48]⟩,.string ⟨#[48]⟩,.string ⟨#[49]⟩]):=HI.out.rh
     have X23:RV _ listed a 23 109 (.bool true):=HI.out.rh
     have X24:RV _ listed a 24 110 (.bool true):=HI.out.rh
     have X25:RV _ listed a 25 111 (.bool true):=HI.out.rh
     have X26:RV _ listed a 26 112 (.agg #[.string ⟨#[49]⟩,.string ⟨#[48]⟩,.string ⟨#[49]⟩]):=HI.out.rh
     have X27:RV _ listed a 27 113 (.agg #[.string ⟨#[49]⟩,.string ⟨#[48]⟩,.string ⟨#[49]⟩]):=HI.out.rh
     have X28:RV _ listed a 28 114 (.bool true):=HI.out.rh
     have X29:RV _ listed a 29 115 (.bool true):=HI.out.rh
     have X30:RV _ listed a 30 116 (.bool true):=HI.out.rh
     have X32:RV _ listed a 32 118 (.agg #[.string ⟨#[49]⟩,.string ⟨#[49]⟩,.string ⟨#[49]⟩]):=HI.out.rh
     have X31:RV _ listed a 31 117 (.agg #[.string ⟨#[49]⟩,.string ⟨#[49]⟩,.string ⟨#[49]⟩,.string ⟨#[49]⟩]):=HI.out.rh
     have X33:RV _ listed a 33 119 (.agg #[.string ⟨#[49]⟩,.string ⟨#[49]⟩,.string ⟨#[49]⟩,.string ⟨#[49]⟩]):=HI.out.rh
     have X34:RV _ listed a 34 120 (.bool true):=HI.out.rh
     have X35:RV _ listed a 35 121 (.bool true):=HI.out.rh
     have X36:RV _ listed a 36 122 (.bool true):=HI.out.rh
     have X37:RV _ listed a 37 123 (.int .i64 1):=HI.out.rh
     have X38:RV _ listed a 38 124 (.bool true):=HI.out.rh
     have X39:RV _ listed a 39 125 (.bool true):=HI.out.rh
     have X40:RV _ listed a 40 126 (.bool true):=HI.out.rh
     have X41:RV _ listed a 41 127 (.agg #[.string ⟨#[45,50]⟩,.string ⟨#[45,50]⟩]):=HI.out.rh
     have X42:RV _ listed a 42 128 (.agg #[.string ⟨#[45,50]⟩,.string ⟨#[45,50]⟩]):=HI.out.rh
     have X43:RV _ listed a 43 129 (.bool true):=HI.out.rh
     have X44:RV _ listed a 44 130 (.bool true):=HI.out.rh
     have X45:RV _ listed a 45 131 (.bool true):=HI.out.rh
     have X46:RV _ listed a 46 132 (.string ⟨#[51,50]⟩):=HI.out.rh
     have X47:RV _ listed a 47 133 (.bool true):=HI.out.rh
     have X48:RV _ listed a 48 134 (.bool true):=HI.out.rh
     have X49:RV _ listed a 49 135 (.bool true):=HI.out.rh
     have X50:RV _ listed a 50 136 (.string ⟨#[49]⟩):=HI.out.rh
     have X51:RV _ listed a 51 137 (.bool true):=HI.out.rh
     have X52:RV _ listed a 52 138 (.bool true):=HI.out.rh
     have X53:RV _ listed a 53 139 (.bool true):=HI.out.rh
     have X54:RV _ listed a 54 140 (.agg #[.string ⟨#[53]⟩,.string ⟨#[55]⟩,.string ⟨#[57]⟩]):=HI.out.rh
     have X55:RV _ listed a 55 141 (.agg #[.string ⟨#[53]⟩,.string ⟨#[55]⟩,.string ⟨#[57]⟩]):=HI.out.rh
     have X56:RV _ listed a 56 142 (.bool true):=HI.out.rh
     have X57:RV _ listed a 57 143 (.bool true):=HI.out.rh
     have X58:RV _ listed a 58 144 (.bool true):=HI.out.rh
     have X59:RV _ listed a 59 145 (.agg #[.string ⟨#[45,51]⟩,.string ⟨#[45,51]⟩,.string ⟨#[45,51]⟩]):=HI.out.rh
     have X60:RV _ listed a 60 146 (.agg #[.string ⟨#[45,51]⟩,.string ⟨#[45,51]⟩,.string ⟨#[45,51]⟩]):=HI.out.rh
     have X61:RV _ listed a 61 147 (.bool true):=HI.out.rh
     have X62:RV _ listed a 62 148 (.bool true):=HI.out.rh
     have X63:RV _ listed a 63 149 (.bool true):=HI.out.rh
     have X64:RV _ listed a 64 150 (.agg #[.string ⟨#[50]⟩,.string ⟨#[52]⟩,.string ⟨#[54]⟩]):=HI.out.rh
     have X65:RV _ listed a 65 151 (.agg #[.string ⟨#[50]⟩,.string ⟨#[52]⟩,.string ⟨#[54]⟩]):=HI.out.rh
     have X66:RV _ listed a 66 152 (.bool true):=HI.out.rh
     have X67:RV _ listed a 67 153 (.bool true):=HI.out.rh
     have X68:RV _ listed a 68 154 (.bool true):=HI.out.rh
     have X69:RV _ listed a 69 155 (.agg #[.string ⟨#[48]⟩,.string ⟨#[48]⟩,.string ⟨#[49]⟩]):=HI.out.rh
     have X70:RV _ listed a 70 156 (.bool true):=HI.out.rh
     have X71:RV _ listed a 71 157 (.bool true):=HI.out.rh
     match i,him,Hr with
     | 0,_,Hi =>
       refine stepH rfl fun K' hK=>?_
       go_simp
       exact hK.out _ _ ⟨HI.out.pv Hi.out rfl,trivial⟩
     | 1,_,Hi =>
       refine stepH rfl fun K' hK=>?_
       go_simp
       exact hK.out _ _ ⟨HI.out.pv Hi.out rfl,trivial⟩
     | 2,_,Hi =>
       have x0:=X0.g Hi.out (by kernel_rfl)
       have x1:=X1.g Hi.out (by kernel_rfl)
       refine stepH rfl fun K' hK=>?_
       go_simp
       exact hK.out _ _ ⟨HI.out.pv Hi.out rfl,trivial⟩
     | 3,_,Hi =>
       refine stepH rfl fun K' hK=>?_
       go_simp
       exact hK.out _ _ ⟨HI.out.pv Hi.out rfl,trivial⟩
     | 4,_,Hi =>
       have x2:=X2.g Hi.out (by kernel_rfl)
       have x3:=X3.g Hi.out (by kernel_rfl)
       refine stepH rfl fun K' hK=>?_
       go_simp
       exact hK.out _ _ ⟨HI.out.pv Hi.out rfl,trivial⟩
     | 5,_,Hi =>
       refine stepH rfl fun K' hK=>?_
       go_simp
       exact hK.out _ _ ⟨HI.out.pv Hi.out rfl,trivial⟩
     | 6,_,Hi =>
       have x4:=X4.g Hi.out (by kernel_rfl)
       have x5:=X5.g Hi.out (by kernel_rfl)
       refine stepH rfl fun K' hK=>?_
       go_simp
       exact hK.out _ _ ⟨HI.out.pv Hi.out rfl,trivial⟩
     | 7,_,Hi =>
       refine stepH rfl fun K' hK=>?_
       go_simp
       exact hK.out _ _ ⟨HI.out.pv Hi.out rfl,trivial⟩
     | 8,_,Hi =>
       have x6:=X6.g Hi.out (by kernel_rfl)
       have x7:=X7.g Hi.out (by kernel_rfl)
       refine stepH rfl fun K' hK=>?_
       go_simp
       exact hK.out _ _ ⟨HI.out.pv Hi.out rfl,trivial⟩
     | 9,_,Hi =>
       refine stepH rfl fun K' hK=>?_
       go_simp
       exact hK.out _ _ ⟨HI.out.pv Hi.out rfl,trivial⟩
     | 10,_,Hi =>
       have x8:=X8.g Hi.out (by kernel_rfl)
       have x9:=X9.g Hi.out (by kernel_rfl)
       refine stepH rfl fun K' hK=>?_
       go_simp
       exact hK.out _ _ ⟨HI.out.pv Hi.out rfl,trivial⟩
     | 11,_,Hi =>
       refine stepH rfl fun K' hK=>?_
       go_simp
       exact hK.out _ _ ⟨HI.out.pv Hi.out rfl,trivial⟩
     | 12,_,Hi =>
       have x10:=X10.g Hi.out (by kernel_rfl)
       have x11:=X11.g Hi.out (by kernel_rfl)
       refine stepH rfl fun K' hK=>?_
       go_simp
       exact hK.out _ _ ⟨HI.out.pv Hi.out rfl,trivial⟩
     | 13,_,Hi =>
       refine stepH rfl fun K' hK=>?_
       go_simp
       exact hK.out _ _ ⟨HI.out.pv Hi.out rfl,trivial⟩
     | 14,_,Hi =>
       have x12:=X12.g Hi.out (by kernel_rfl)
       have x13:=X13.g Hi.out (by kernel_rfl)
       refine stepH rfl fun K' hK=>?_
       go_simp
       exact hK.out _ _ ⟨HI.out.pv Hi.out rfl,trivial⟩
     | 15,_,Hi =>
       refine stepH rfl fun K' hK=>?_
       go_simp
       exact hK.out _ _ ⟨HI.out.pv Hi.out rfl,trivial⟩
     | 16,_,Hi =>
       have x14:=X14.g Hi.out (by kernel_rfl)
       have x15:=X15.g Hi.out (by kernel_rfl)
       refine stepH rfl fun K' hK=>?_
       go_simp
       exact hK.out _ _ ⟨HI.out.pv Hi.out rfl,trivial⟩
     | 17,_,Hi =>
       refine stepH rfl fun K' hK=>?_
       go_simp
       exact hK.out _ _ ⟨HI.out.pv Hi.out rfl,trivial⟩
     | 18,_,Hi =>
       have x16:=X16.g Hi.out (by kernel_rfl)
       have x17:=X17.g Hi.out (by kernel_rfl)
       refine stepH rfl fun K' hK=>?_
       go_simp
       exact hK.out _ _ ⟨HI.out.pv Hi.out rfl,trivial⟩
     | 19,_,Hi =>
       have x18:=X18.g Hi.out (by kernel_rfl)
       refine stepH rfl fun K' hK=>?_
       go_simp
       exact hK.out _ _ ⟨HI.out.pv Hi.out rfl,trivial⟩
     | 20,_,Hi =>
       have x19:=X19.g Hi.out (by kernel_rfl)
       refine stepH rfl fun K' hK=>?_
       go_simp
       exact hK.out _ _ ⟨HI.out.pv Hi.out rfl,trivial⟩
     | 21,_,Hi =>
       have x20:=X20.g Hi.out (by kernel_rfl)
       refine stepH rfl fun K' hK=>?_
       go_simp
       exact hK.out _ _ ⟨HI.out.pv Hi.out rfl,trivial⟩
     | 22,_,Hi =>
       have x20:=X20.g Hi.out (by kernel_rfl)
       refine stepH rfl fun K' hK=>?_
       go_simp
       with_reducible refine((lvec _ _ _ _).at).mono ?_
       rintro e W' ⟨rfl,hb⟩
       exact hK.out _ _ ⟨HI.out.pc Hi.out hb rfl,trivial⟩
     | 23,_,Hi =>
       have x21:=X21.g Hi.out (by kernel_rfl)
       have x22:=X22.g Hi.out (by kernel_rfl)
       have x20:=X20.g Hi.out (by kernel_rfl)
       refine stepH rfl fun K' hK=>?_
       go_simp
       exact hK.out _ _ ⟨HI.out.pv Hi.out rfl,trivial⟩
     | 24,_,Hi =>
       have x20:=X20.g Hi.out (by kernel_rfl)
       have x23:=X23.g Hi.out (by kernel_rfl)
       refine stepH rfl fun K' hK=>?_
       go_simp
       exact hK.out _ _ ⟨HI.out.pv Hi.out rfl,trivial⟩
     | 25,_,Hi =>
       have x24:=X24.g Hi.out (by kernel_rfl)
       refine stepH rfl fun K' hK=>?_
       go_simp
       exact hK.out _ _ ⟨HI.out.pv Hi.out rfl,trivial⟩
     | 26,_,Hi =>
       have x25:=X25.g Hi.out (by kernel_rfl)
       refine stepH rfl fun K' hK=>?_
       go_simp
       exact hK.out _ _ ⟨HI.out.pv Hi.out rfl,trivial⟩
     | 27,_,Hi =>
       have x25:=X25.g Hi.out (by kernel_rfl)
       refine stepH rfl fun K' hK=>?_
       go_simp
       with_reducible refine((lvec _ _ _ _).at).mono ?_
       rintro e W' ⟨rfl,hb⟩
       exact hK.out _ _ ⟨HI.out.pc Hi.out hb rfl,trivial⟩
     | 28,_,Hi =>
       have x26:=X26.g Hi.out (by kernel_rfl)
       have x27:=X27.g Hi.out (by kernel_rfl)
       have x25:=X25.g Hi.out (by kernel_rfl)
       refine stepH rfl fun K' hK=>?_
       go_simp
       exact hK.out _ _ ⟨HI.out.pv Hi.out rfl,trivial⟩
     | 29,_,Hi =>
       have x25:=X25.g Hi.out (by kernel_rfl)
       have x28:=X28.g Hi.out (by kernel_rfl)
       refine stepH rfl fun K' hK=>?_
       go_simp
       exact hK.out _ _ ⟨HI.out.pv Hi.out rfl,trivial⟩
     | 30,_,Hi =>
       have x29:=X29.g Hi.out (by kernel_rfl)
       refine stepH rfl fun K' hK=>?_
       go_simp
       exact hK.out _ _ ⟨HI.out.pv Hi.out rfl,trivial⟩
     | 31,_,Hi =>
       have x30:=X30.g Hi.out (by kernel_rfl)
       refine stepH rfl fun K' hK=>?_
       go_simp
       exact hK.out _ _ ⟨HI.out.pv Hi.out rfl,trivial⟩
     | 32,_,Hi =>
       have x30:=X30.g Hi.out (by kernel_rfl)
       refine stepH rfl fun K' hK=>?_
       go_simp
       with_reducible refine((lvec _ _ _ _).at).mono ?_
       rintro e W' ⟨rfl,hb⟩
       exact hK.out _ _ ⟨HI.out.pc Hi.out hb rfl,trivial⟩
     | 33,_,Hi =>
       have x32:=X32.g Hi.out (by kernel_rfl)
       have x30:=X30.g Hi.out (by kernel_rfl)
       refine stepH rfl fun K' hK=>?_
       go_simp
       exact hK.out _ _ ⟨HI.out.pv Hi.out rfl,trivial⟩
     | 34,_,Hi =>
       have x31:=X31.g Hi.out (by kernel_rfl)
       have x33:=X33.g Hi.out (by kernel_rfl)
       have x30:=X30.g Hi.out (by kernel_rfl)
       refine stepH rfl fun K' hK=>?_
       go_simp
       exact hK.out _ _ ⟨HI.out.pv Hi.out rfl,trivial⟩
     | 35,_,Hi =>
       have x30:=X30.g Hi.out (by kernel_rfl)
       have x34:=X34.g Hi.out (by kernel_rfl)
       refine stepH rfl fun K' hK=>?_
       go_simp
       exact hK.out _ _ ⟨HI.out.pv Hi.out rfl,trivial⟩
     | 36,_,Hi =>
       have x35:=X35.g Hi.out (by kernel_rfl)
       refine stepH rfl fun K' hK=>?_
       go_simp
       exact hK.out _ _ ⟨HI.out.pv Hi.out rfl,trivial⟩
     | 37,_,Hi =>
       have x36:=X36.g Hi.out (by kernel_rfl)
       refine stepH rfl fun K' hK=>?_
       go_simp
       exact hK.out _ _ ⟨HI.out.pv Hi.out rfl,trivial⟩
     | 38,_,Hi =>
       have x37:=X37.g Hi.out (by kernel_rfl)
       have x36:=X36.g Hi.out (by kernel_rfl)
       refine stepH rfl fun K' hK=>?_
       go_simp
       exact hK.out _ _ ⟨HI.out.pv Hi.out rfl,trivial⟩
     | 39,_,Hi =>
       have x36:=X36.g Hi.out (by kernel_rfl)
       have x38:=X38.g Hi.out (by kernel_rfl)
       refine stepH rfl fun K' hK=>?_
       go_simp
       exact hK.out _ _ ⟨HI.out.pv Hi.out rfl,trivial⟩
     | 40,_,Hi =>
       have x39:=X39.g Hi.out (by kernel_rfl)
       refine stepH rfl fun K' hK=>?_
       go_simp
       exact hK.out _ _ ⟨HI.out.pv Hi.out rfl,trivial⟩
     | 41,_,Hi =>
       have x40:=X40.g Hi.out (by kernel_rfl)
       refine stepH rfl fun K' hK=>?_
       go_simp
       exact hK.out _ _ ⟨HI.out.pv Hi.out rfl,trivial⟩
     | 42,_,Hi =>
       have x40:=X40.g Hi.out (by kernel_rfl)
       refine stepH rfl fun K' hK=>?_
       go_simp
       exact hK.out _ _ ⟨HI.out.pv Hi.out rfl,trivial⟩
     | 43,_,Hi =>
       have x41:=X41.g Hi.out (by kernel_rfl)
       have x42:=X42.g Hi.out (by kernel_rfl)
       have x40:=X40.g Hi.out (by kernel_rfl)
       refine stepH rfl fun K' hK=>?_
       go_simp
       exact hK.out _ _ ⟨HI.out.pv Hi.out rfl,trivial⟩
     | 44,_,Hi =>
       have x40:=X40.g Hi.out (by kernel_rfl)
       have x43:=X43.g Hi.out (by kernel_rfl)
       refine stepH rfl fun K' hK=>?_
       go_simp
       exact hK.out _ _ ⟨HI.out.pv Hi.out rfl,trivial⟩
     | 45,_,Hi =>
       have x44:=X44.g Hi.out (by kernel_rfl)
       refine stepH rfl fun K' hK=>?_
       go_simp
       exact hK.out _ _ ⟨HI.out.pv Hi.out rfl,trivial⟩
     | 46,_,Hi =>
       have x45:=X45.g Hi.out (by kernel_rfl)
       refine stepH rfl fun K' hK=>?_
       go_simp
       exact hK.out _ _ ⟨HI.out.pv Hi.out rfl,trivial⟩
     | 47,_,Hi =>
       have x46:=X46.g Hi.out (by kernel_rfl)
       have x45:=X45.g Hi.out (by kernel_rfl)
       refine stepH rfl fun K' hK=>?_
       go_simp
       exact hK.out _ _ ⟨HI.out.pv Hi.out rfl,trivial⟩
     | 48,_,Hi =>
       have x45:=X45.g Hi.out (by kernel_rfl)
       have x47:=X47.g Hi.out (by kernel_rfl)
       refine stepH rfl fun K' hK=>?_
       go_simp
       exact hK.out _ _ ⟨HI.out.pv Hi.out rfl,trivial⟩
     | 49,_,Hi =>
       have x48:=X48.g Hi.out (by kernel_rfl)
       refine stepH rfl fun K' hK=>?_
       go_simp
       exact hK.out _ _ ⟨HI.out.pv Hi.out rfl,trivial⟩
     | 50,_,Hi =>
       have x49:=X49.g Hi.out (by kernel_rfl)
       refine stepH rfl fun K' hK=>?_
       go_simp
       exact hK.out _ _ ⟨HI.out.pv Hi.out rfl,trivial⟩
     | 51,_,Hi =>
       have x50:=X50.g Hi.out (by kernel_rfl)
       have x49:=X49.g Hi.out (by kernel_rfl)
       refine stepH rfl fun K' hK=>?_
       go_simp
       exact hK.out _ _ ⟨HI.out.pv Hi.out rfl,trivial⟩
     | 52,_,Hi =>
       have x49:=X49.g Hi.out (by kernel_rfl)
       have x51:=X51.g Hi.out (by kernel_rfl)
       refine stepH rfl fun K' hK=>?_
       go_simp
       exact hK.out _ _ ⟨HI.out.pv Hi.out rfl,trivial⟩
     | 53,_,Hi =>
       have x52:=X52.g Hi.out (by kernel_rfl)
       refine stepH rfl fun K' hK=>?_
       go_simp
       exact hK.out _ _ ⟨HI.out.pv Hi.out rfl,trivial⟩
     | 54,_,Hi =>
       have x53:=X53.g Hi.out (by kernel_rfl)
       refine stepH rfl fun K' hK=>?_
       go_simp
       exact hK.out _ _ ⟨HI.out.pv Hi.out rfl,trivial⟩
     | 55,_,Hi =>
       have x53:=X53.g Hi.out (by kernel_rfl)
       refine stepH rfl fun K' hK=>?_
       go_simp
       with_reducible refine((lvec _ _ _ _).at).mono ?_
       rintro e W' ⟨rfl,hb⟩
       exact hK.out _ _ ⟨HI.out.pc Hi.out hb rfl,trivial⟩
     | 56,_,Hi =>
       have x54:=X54.g Hi.out (by kernel_rfl)
       have x55:=X55.g Hi.out (by kernel_rfl)
       have x53:=X53.g Hi.out (by kernel_rfl)
       refine stepH rfl fun K' hK=>?_
       go_simp
       exact hK.out _ _ ⟨HI.out.pv Hi.out rfl,trivial⟩
     | 57,_,Hi =>
       have x53:=X53.g Hi.out (by kernel_rfl)
       have x56:=X56.g Hi.out (by kernel_rfl)
       refine stepH rfl fun K' hK=>?_
       go_simp
       exact hK.out _ _ ⟨HI.out.pv Hi.out rfl,trivial⟩
     | 58,_,Hi =>
       have x57:=X57.g Hi.out (by kernel_rfl)
       refine stepH rfl fun K' hK=>?_
       go_simp
       exact hK.out _ _ ⟨HI.out.pv Hi.out rfl,trivial⟩
     | 59,_,Hi =>
       have x58:=X58.g Hi.out (by kernel_rfl)
       refine stepH rfl fun K' hK=>?_
       go_simp
       exact hK.out _ _ ⟨HI.out.pv Hi.out rfl,trivial⟩
     | 60,_,Hi =>
       have x58:=X58.g Hi.out (by kernel_rfl)
       refine stepH rfl fun K' hK=>?_
       go_simp
       with_reducible refine((lvec _ _ _ _).at).mono ?_
       rintro e W' ⟨rfl,hb⟩
       exact hK.out _ _ ⟨HI.out.pc Hi.out hb rfl,trivial⟩
     | 61,_,Hi =>
       have x59:=X59.g Hi.out (by kernel_rfl)
       have x60:=X60.g Hi.out (by kernel_rfl)
       have x58:=X58.g Hi.out (by kernel_rfl)
       refine stepH rfl fun K' hK=>?_
       go_simp
       exact hK.out _ _ ⟨HI.out.pv Hi.out rfl,trivial⟩
     | 62,_,Hi =>
       have x58:=X58.g Hi.out (by kernel_rfl)
       have x61:=X61.g Hi.out (by kernel_rfl)
       refine stepH rfl fun K' hK=>?_
       go_simp
       exact hK.out _ _ ⟨HI.out.pv Hi.out rfl,trivial⟩
     | 63,_,Hi =>
       have x62:=X62.g Hi.out (by kernel_rfl)
       refine stepH rfl fun K' hK=>?_
       go_simp
       exact hK.out _ _ ⟨HI.out.pv Hi.out rfl,trivial⟩
     | 64,_,Hi =>
       have x63:=X63.g Hi.out (by kernel_rfl)
       refine stepH rfl fun K' hK=>?_
       go_simp
       exact hK.out _ _ ⟨HI.out.pv Hi.out rfl,trivial⟩
     | 65,_,Hi =>
       have x63:=X63.g Hi.out (by kernel_rfl)
       refine stepH rfl fun K' hK=>?_
       go_simp
       with_reducible refine((lvec _ _ _ _).at).mono ?_
       rintro e W' ⟨rfl,hb⟩
       exact hK.out _ _ ⟨HI.out.pc Hi.out hb rfl,trivial⟩
     | 66,_,Hi =>
       have x64:=X64.g Hi.out (by kernel_rfl)
       have x65:=X65.g Hi.out (by kernel_rfl)
       have x63:=X63.g Hi.out (by kernel_rfl)
       refine stepH rfl fun K' hK=>?_
       go_simp
       exact hK.out _ _ ⟨HI.out.pv Hi.out rfl,trivial⟩
     | 67,_,Hi =>
       have x63:=X63.g Hi.out (by kernel_rfl)
       have x66:=X66.g Hi.out (by kernel_rfl)
       refine stepH rfl fun K' hK=>?_
       go_simp
       exact hK.out _ _ ⟨HI.out.pv Hi.out rfl,trivial⟩
     | 68,_,Hi =>
       have x67:=X67.g Hi.out (by kernel_rfl)
       refine stepH rfl fun K' hK=>?_
       go_simp
       exact hK.out _ _ ⟨HI.out.pv Hi.out rfl,trivial⟩
     | 69,_,Hi =>
       have x68:=X68.g Hi.out (by kernel_rfl)
       refine stepH rfl fun K' hK=>?_
       go_simp
       exact hK.out _ _ ⟨HI.out.pv Hi.out rfl,trivial⟩
     | 70,_,Hi =>
       have x69:=X69.g Hi.out (by kernel_rfl)
       have x68:=X68.g Hi.out (by kernel_rfl)
       refine stepH rfl fun K' hK=>?_
       go_simp
       with_reducible refine((ax_valid _ (HT.out.on (HB39.out.trans (HI.out.world.mono HB39.out.size)))).at).mono ?_
       rintro e W' ⟨rfl,hb⟩
       exact hK.out _ _ ⟨HI.out.pc Hi.out hb rfl,trivial⟩
     | 71,_,Hi =>
       have x68:=X68.g Hi.out (by kernel_rfl)
       have x70:=X70.g Hi.out (by kernel_rfl)
       refine stepH rfl fun K' hK=>?_
       go_simp
       exact hK.out _ _ ⟨HI.out.pv Hi.out rfl,trivial⟩
     | 72,_,Hi =>
       have x71:=X71.g Hi.out (by kernel_rfl)
       refine stepH rfl fun K' hK=>?_
       go_simp
       exact hK.out _ _ ⟨HI.out.pv Hi.out rfl,trivial⟩
     | n+73,h,_=>exact absurd h (by omega)
   · intro listed a W hI hD hall
     have HBW:=hid hI.world
     have HI:=hid hI
     have HA:=hid hall
     clear hI hall
     have HBX:=hid (HB39.out.trans (HBW.out.mono HB39.out.size))
     refine tail_nil ?_
     exact⟨rfl,(HI.out.finx ⟨HI.out.sx HA.out 0,HI.out.sx HA.out 1,HI.out.sx HA.out 2,HI.out.sx HA.out 3,HI.out.sx HA.out 4,HI.out.sx HA.out 5,HI.out.sx HA.out 6,HI.out.sx HA.out 7,HI.out.sx HA.out 8,HI.out.sx HA.out 9,HI.out.sx HA.out 10,HI.out.sx HA.out 11,HI.out.sx HA.out 12,HI.out.sx HA.out 13,HI.out.sx HA.out 14,HI.out.sx HA.out 15,HI.out.sx HA.out 16,HI.out.sx HA.out 17,HI.out.sx HA.out 18,HI.out.sx HA.out 19,HI.out.sx HA.out 20,HI.out.sx HA.out 21,HI.out.sx HA.out 22,HI.out.sx HA.out 23,HI.out.sx HA.out 24,HI.out.sx HA.out 25,HI.out.sx HA.out 26,HI.out.sx HA.out 27,HI.out.sx HA.out 28,HI.out.sx HA.out 29,HI.out.sx HA.out 30,HI.out.sx HA.out 31,HI.out.sx HA.out 32,HI.out.sx HA.out 33,HI.out.sx HA.out 34,HI.out.sx HA.out 35,HI.out.sx HA.out 36,HI.out.sx HA.out 37,HI.out.sx HA.out 38,HI.out.sx HA.out 39,HI.out.sx HA.out 40,HI.out.sx HA.out 41,HI.out.sx HA.out 42,HI.out.sx HA.out 43,HI.out.sx HA.out 44,HI.out.sx HA.out 45,HI.out.sx HA.out 46,HI.out.sx HA.out 47,HI.out.sx HA.out 48,HI.out.sx HA.out 49,HI.out.sx HA.out 50,HI.out.sx HA.out 51,HI.out.sx HA.out 52,HI.out.sx HA.out 53,HI.out.sx HA.out 54,HI.out.sx HA.out 55,HI.out.sx HA.out 56,HI.out.sx HA.out 57,HI.out.sx HA.out 58,HI.out.sx HA.out 59,HI.out.sx HA.out 60,HI.out.sx HA.out 61,HI.out.sx HA.out 62,HI.out.sx HA.out 63,HI.out.sx HA.out 64,HI.out.sx HA.out 65,HI.out.sx HA.out 66,HI.out.sx HA.out 67,HI.out.sx HA.out 68,HI.out.sx HA.out 69,HI.out.sx HA.out 70,HI.out.sx HA.out 71,HI.out.sx HA.out 72,trivial⟩ rfl),HBX.out⟩
 rintro a' W40 ⟨rfl,z0⟩
 have HB40:=hid z0
 clear z0
 simp only[putL,List.setIfInBounds_toArray,List.set_cons_zero,List.set_cons_succ]
 go_wp2
 exact bodyPost_ret (v:=.bool true) (by simp[results,Tryz.results7,go_sem]) rfl ⟨rfl,HB40.out⟩
end Go.Proofs.YtklfllmfcckgjaaGreatDoor
