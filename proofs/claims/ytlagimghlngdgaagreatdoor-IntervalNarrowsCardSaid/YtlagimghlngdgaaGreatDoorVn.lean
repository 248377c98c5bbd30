/- garboardlaw04.awake. -/
import Derived.Test.YtlagimghlngdgaaGreatDoorMvo
import Derived.Test.YtlagimghlngdgaaGreatDoorVl
namespace Go.Proofs.YtlagimghlngdgaaGreatDoor
open Go.RowKit Go.Gb

set_option maxHeartbeats 8000000 in
set_option maxRecDepth 100000 in
theorem vawake (w : World) (hl : La w) : Calls Tryz.prog 32 #[] w fun e w' => e = .returned (.bool true) ∧ Below w.heap.size w w' := by
  have HT := Lib.hid hl
  clear hl
  have HB0 := Lib.hid (Below.refl w.heap.size w)
  go_enter Tryz.func32, Tryz.ntmps32
  go_wp2_with fail
  refine (in_raw ⟨#[45, 49]⟩ ⟨#[50]⟩ _).mono ?_
  rintro e w1 ⟨rfl, hb⟩
  have HB1 := Lib.hid (HB0.out.trans ((hb).mono HB0.out.size))
  clear hb
  go_wp2_with fail
  refine (in_raw ⟨#[51]⟩ ⟨#[52]⟩ _).mono ?_
  rintro e w2 ⟨rfl, hb⟩
  have HB2 := Lib.hid (HB1.out.trans ((hb).mono HB1.out.size))
  clear hb
  go_wp2_with fail
  refine (vx_mul _ (HT.out.on HB2.out)).mono ?_
  rintro e w3 ⟨rfl, hb⟩
  have HB3 := Lib.hid (HB2.out.trans ((hb).mono HB2.out.size))
  clear hb
  have HB4 := Lib.hid (HB3.out.trans ((below_alloc w3 (.cells #[.string ⟨#[45, 52]⟩, .string ⟨#[56]⟩] 48)).mono HB3.out.size))
  have Va_4 := Lib.hid (iv_boxg (W := w3) (g := w3.heap.size) (by simp) ⟨#[45, 52]⟩ ⟨#[56]⟩)
  go_wp2_with fail
  refine (in_raw ⟨#[45, 49]⟩ ⟨#[50]⟩ _).mono ?_
  rintro e w4 ⟨rfl, hb⟩
  have HB5 := Lib.hid (HB4.out.trans ((hb).mono HB4.out.size))
  have Va_5 := Lib.hid (Va_4.out.mono hb)
  clear Va_4
  clear hb
  go_wp2_with fail
  refine (vx_square _ (HT.out.on HB5.out)).mono ?_
  rintro e w5 ⟨rfl, hb⟩
  have HB6 := Lib.hid (HB5.out.trans ((hb).mono HB5.out.size))
  have Va_6 := Lib.hid (Va_5.out.mono hb)
  clear Va_5
  clear hb
  have HB7 := Lib.hid (HB6.out.trans ((below_alloc w5 (.cells #[.string ⟨#[48]⟩, .string ⟨#[52]⟩] 48)).mono HB6.out.size))
  have Va_7 := Lib.hid (Va_6.out.al (.cells #[.string ⟨#[48]⟩, .string ⟨#[52]⟩] 48))
  clear Va_6
  have Vb_7 := Lib.hid (iv_boxg (W := w5) (g := w5.heap.size) (by simp) ⟨#[48]⟩ ⟨#[52]⟩)
  go_wp2_with fail
  refine (in_raw ⟨#[49]⟩ ⟨#[50]⟩ _).mono ?_
  rintro e w6 ⟨rfl, hb⟩
  have HB8 := Lib.hid (HB7.out.trans ((hb).mono HB7.out.size))
  have Va_8 := Lib.hid (Va_7.out.mono hb)
  have Vb_8 := Lib.hid (Vb_7.out.mono hb)
  clear Va_7 Vb_7
  clear hb
  go_wp2_with fail
  refine (in_raw ⟨#[45, 52]⟩ ⟨#[45, 50]⟩ _).mono ?_
  rintro e w7 ⟨rfl, hb⟩
  have HB9 := Lib.hid (HB8.out.trans ((hb).mono HB8.out.size))
  have Va_9 := Lib.hid (Va_8.out.mono hb)
  have Vb_9 := Lib.hid (Vb_8.out.mono hb)
  clear Va_8 Vb_8
  clear hb
  go_wp2_with fail
  refine (vx_div _ (HT.out.on HB9.out)).mono ?_
  rintro e w8 ⟨rfl, hb⟩
  have HB10 := Lib.hid (HB9.out.trans ((hb).mono HB9.out.size))
  have Va_10 := Lib.hid (Va_9.out.mono hb)
  have Vb_10 := Lib.hid (Vb_9.out.mono hb)
  clear Va_9 Vb_9
  clear hb
  have HB11 := Lib.hid (HB10.out.trans ((below_alloc w8 (.cells #[.string ⟨#[45, 49]⟩, .string ⟨#[45, 49, 47, 52]⟩] 48)).mono HB10.out.size))
  have Va_11 := Lib.hid (Va_10.out.al (.cells #[.string ⟨#[45, 49]⟩, .string ⟨#[45, 49, 47, 52]⟩] 48))
  have Vb_11 := Lib.hid (Vb_10.out.al (.cells #[.string ⟨#[45, 49]⟩, .string ⟨#[45, 49, 47, 52]⟩] 48))
  clear Va_10 Vb_10
  have Vc_11 := Lib.hid (iv_boxg (W := w8) (g := w8.heap.size) (by simp) ⟨#[45, 49]⟩ ⟨#[45, 49, 47, 52]⟩)
  go_wp2_with fail
  refine (in_raw ⟨#[49, 47, 51]⟩ ⟨#[49, 47, 50]⟩ _).mono ?_
  rintro e w9 ⟨rfl, hb⟩
  have HB12 := Lib.hid (HB11.out.trans ((hb).mono HB11.out.size))
  have Va_12 := Lib.hid (Va_11.out.mono hb)
  have Vb_12 := Lib.hid (Vb_11.out.mono hb)
  have Vc_12 := Lib.hid (Vc_11.out.mono hb)
  clear Va_11 Vb_11 Vc_11
  clear hb
  go_wp2_with fail
  refine (vx_round _ (HT.out.on HB12.out)).mono ?_
  rintro e w10 ⟨rfl, hb⟩
  have HB13 := Lib.hid (HB12.out.trans ((hb).mono HB12.out.size))
  have Va_13 := Lib.hid (Va_12.out.mono hb)
  have Vb_13 := Lib.hid (Vb_12.out.mono hb)
  have Vc_13 := Lib.hid (Vc_12.out.mono hb)
  clear Va_12 Vb_12 Vc_12
  clear hb
  have HB14 := Lib.hid (HB13.out.trans ((below_alloc w10 (.cells #[.string ⟨#[51, 47, 49, 48]⟩, .string ⟨#[49, 47, 50]⟩] 48)).mono HB13.out.size))
  have Va_14 := Lib.hid (Va_13.out.al (.cells #[.string ⟨#[51, 47, 49, 48]⟩, .string ⟨#[49, 47, 50]⟩] 48))
  have Vb_14 := Lib.hid (Vb_13.out.al (.cells #[.string ⟨#[51, 47, 49, 48]⟩, .string ⟨#[49, 47, 50]⟩] 48))
  have Vc_14 := Lib.hid (Vc_13.out.al (.cells #[.string ⟨#[51, 47, 49, 48]⟩, .string ⟨#[49, 47, 50]⟩] 48))
  clear Va_13 Vb_13 Vc_13
  have Vd_14 := Lib.hid (iv_boxg (W := w10) (g := w10.heap.size) (by simp) ⟨#[51, 47, 49, 48]⟩ ⟨#[49, 47, 50]⟩)
  go_wp2_with fail
  refine (in_raw ⟨#[49]⟩ ⟨#[50]⟩ _).mono ?_
  rintro e w11 ⟨rfl, hb⟩
  have HB15 := Lib.hid (HB14.out.trans ((hb).mono HB14.out.size))
  have Va_15 := Lib.hid (Va_14.out.mono hb)
  have Vb_15 := Lib.hid (Vb_14.out.mono hb)
  have Vc_15 := Lib.hid (Vc_14.out.mono hb)
  have Vd_15 := Lib.hid (Vd_14.out.mono hb)
  clear Va_14 Vb_14 Vc_14 Vd_14
  clear hb
  go_wp2_with fail
  refine (in_raw ⟨#[51]⟩ ⟨#[52]⟩ _).mono ?_
  rintro e w12 ⟨rfl, hb⟩
  have HB16 := Lib.hid (HB15.out.trans ((hb).mono HB15.out.size))
  have Va_16 := Lib.hid (Va_15.out.mono hb)
  have Vb_16 := Lib.hid (Vb_15.out.mono hb)
  have Vc_16 := Lib.hid (Vc_15.out.mono hb)
  have Vd_16 := Lib.hid (Vd_15.out.mono hb)
  clear Va_15 Vb_15 Vc_15 Vd_15
  clear hb
  go_wp2_with fail
  refine (vx_add _ (HT.out.on HB16.out)).mono ?_
  rintro e w13 ⟨rfl, hb⟩
  have HB17 := Lib.hid (HB16.out.trans ((hb).mono HB16.out.size))
  have Va_17 := Lib.hid (Va_16.out.mono hb)
  have Vb_17 := Lib.hid (Vb_16.out.mono hb)
  have Vc_17 := Lib.hid (Vc_16.out.mono hb)
  have Vd_17 := Lib.hid (Vd_16.out.mono hb)
  clear Va_16 Vb_16 Vc_16 Vd_16
  clear hb
  have HB18 := Lib.hid (HB17.out.trans ((below_alloc w13 (.cells #[.string ⟨#[52]⟩, .string ⟨#[54]⟩] 48)).mono HB17.out.size))
  have Va_18 := Lib.hid (Va_17.out.al (.cells #[.string ⟨#[52]⟩, .string ⟨#[54]⟩] 48))
  have Vb_18 := Lib.hid (Vb_17.out.al (.cells #[.string ⟨#[52]⟩, .string ⟨#[54]⟩] 48))
  have Vc_18 := Lib.hid (Vc_17.out.al (.cells #[.string ⟨#[52]⟩, .string ⟨#[54]⟩] 48))
  have Vd_18 := Lib.hid (Vd_17.out.al (.cells #[.string ⟨#[52]⟩, .string ⟨#[54]⟩] 48))
  clear Va_17 Vb_17 Vc_17 Vd_17
  have Vx_18 := Lib.hid (iv_boxg (W := w13) (g := w13.heap.size) (by simp) ⟨#[52]⟩ ⟨#[54]⟩)
  go_wp2_with fail
  refine (in_raw ⟨#[49]⟩ ⟨#[50]⟩ _).mono ?_
  rintro e w14 ⟨rfl, hb⟩
  have HB19 := Lib.hid (HB18.out.trans ((hb).mono HB18.out.size))
  have Va_19 := Lib.hid (Va_18.out.mono hb)
  have Vb_19 := Lib.hid (Vb_18.out.mono hb)
  have Vc_19 := Lib.hid (Vc_18.out.mono hb)
  have Vd_19 := Lib.hid (Vd_18.out.mono hb)
  have Vx_19 := Lib.hid (Vx_18.out.mono hb)
  clear Va_18 Vb_18 Vc_18 Vd_18 Vx_18
  clear hb
  go_wp2_with fail
  refine (in_raw ⟨#[51]⟩ ⟨#[52]⟩ _).mono ?_
  rintro e w15 ⟨rfl, hb⟩
  have HB20 := Lib.hid (HB19.out.trans ((hb).mono HB19.out.size))
  have Va_20 := Lib.hid (Va_19.out.mono hb)
  have Vb_20 := Lib.hid (Vb_19.out.mono hb)
  have Vc_20 := Lib.hid (Vc_19.out.mono hb)
  have Vd_20 := Lib.hid (Vd_19.out.mono hb)
  have Vx_20 := Lib.hid (Vx_19.out.mono hb)
  clear Va_19 Vb_19 Vc_19 Vd_19 Vx_19
  clear hb
  go_wp2_with fail
  refine (vx_sub _ (HT.out.on HB20.out)).mono ?_
  rintro e w16 ⟨rfl, hb⟩
  have HB21 := Lib.hid (HB20.out.trans ((hb).mono HB20.out.size))
  have Va_21 := Lib.hid (Va_20.out.mono hb)
  have Vb_21 := Lib.hid (Vb_20.out.mono hb)
  have Vc_21 := Lib.hid (Vc_20.out.mono hb)
  have Vd_21 := Lib.hid (Vd_20.out.mono hb)
  have Vx_21 := Lib.hid (Vx_20.out.mono hb)
  clear Va_20 Vb_20 Vc_20 Vd_20 Vx_20
  clear hb
  have HB22 := Lib.hid (HB21.out.trans ((below_alloc w16 (.cells #[.string ⟨#[45, 51]⟩, .string ⟨#[45, 49]⟩] 48)).mono HB21.out.size))
  have Va_22 := Lib.hid (Va_21.out.al (.cells #[.string ⟨#[45, 51]⟩, .string ⟨#[45, 49]⟩] 48))
  have Vb_22 := Lib.hid (Vb_21.out.al (.cells #[.string ⟨#[45, 51]⟩, .string ⟨#[45, 49]⟩] 48))
  have Vc_22 := Lib.hid (Vc_21.out.al (.cells #[.string ⟨#[45, 51]⟩, .string ⟨#[45, 49]⟩] 48))
  have Vd_22 := Lib.hid (Vd_21.out.al (.cells #[.string ⟨#[45, 51]⟩, .string ⟨#[45, 49]⟩] 48))
  have Vx_22 := Lib.hid (Vx_21.out.al (.cells #[.string ⟨#[45, 51]⟩, .string ⟨#[45, 49]⟩] 48))
  clear Va_21 Vb_21 Vc_21 Vd_21 Vx_21
  have Vy_22 := Lib.hid (iv_boxg (W := w16) (g := w16.heap.size) (by simp) ⟨#[45, 51]⟩ ⟨#[45, 49]⟩)
  go_wp2_with fail
  refine (in_raw ⟨#[45, 50]⟩ ⟨#[45, 49]⟩ _).mono ?_
  rintro e w17 ⟨rfl, hb⟩
  have HB23 := Lib.hid (HB22.out.trans ((hb).mono HB22.out.size))
  have Va_23 := Lib.hid (Va_22.out.mono hb)
  have Vb_23 := Lib.hid (Vb_22.out.mono hb)
  have Vc_23 := Lib.hid (Vc_22.out.mono hb)
  have Vd_23 := Lib.hid (Vd_22.out.mono hb)
  have Vx_23 := Lib.hid (Vx_22.out.mono hb)
  have Vy_23 := Lib.hid (Vy_22.out.mono hb)
  clear Va_22 Vb_22 Vc_22 Vd_22 Vx_22 Vy_22
  clear hb
  go_wp2_with fail
  refine (vx_sign _ (HT.out.on HB23.out)).mono ?_
  rintro e w18 ⟨rfl, hb⟩
  have HB24 := Lib.hid (HB23.out.trans ((hb).mono HB23.out.size))
  have Va_24 := Lib.hid (Va_23.out.mono hb)
  have Vb_24 := Lib.hid (Vb_23.out.mono hb)
  have Vc_24 := Lib.hid (Vc_23.out.mono hb)
  have Vd_24 := Lib.hid (Vd_23.out.mono hb)
  have Vx_24 := Lib.hid (Vx_23.out.mono hb)
  have Vy_24 := Lib.hid (Vy_23.out.mono hb)
  clear Va_23 Vb_23 Vc_23 Vd_23 Vx_23 Vy_23
  clear hb
  go_wp2_with fail
  refine (in_raw ⟨#[49]⟩ ⟨#[51]⟩ _).mono ?_
  rintro e w19 ⟨rfl, hb⟩
  have HB25 := Lib.hid (HB24.out.trans ((hb).mono HB24.out.size))
  have Va_25 := Lib.hid (Va_24.out.mono hb)
  have Vb_25 := Lib.hid (Vb_24.out.mono hb)
  have Vc_25 := Lib.hid (Vc_24.out.mono hb)
  have Vd_25 := Lib.hid (Vd_24.out.mono hb)
  have Vx_25 := Lib.hid (Vx_24.out.mono hb)
  have Vy_25 := Lib.hid (Vy_24.out.mono hb)
  clear Va_24 Vb_24 Vc_24 Vd_24 Vx_24 Vy_24
  clear hb
  go_wp2_with fail
  refine (in_raw ⟨#[50]⟩ ⟨#[52]⟩ _).mono ?_
  rintro e w20 ⟨rfl, hb⟩
  have HB26 := Lib.hid (HB25.out.trans ((hb).mono HB25.out.size))
  have Va_26 := Lib.hid (Va_25.out.mono hb)
  have Vb_26 := Lib.hid (Vb_25.out.mono hb)
  have Vc_26 := Lib.hid (Vc_25.out.mono hb)
  have Vd_26 := Lib.hid (Vd_25.out.mono hb)
  have Vx_26 := Lib.hid (Vx_25.out.mono hb)
  have Vy_26 := Lib.hid (Vy_25.out.mono hb)
  clear Va_25 Vb_25 Vc_25 Vd_25 Vx_25 Vy_25
  clear hb
  go_wp2_with fail
  refine (vx_meet _ (HT.out.on HB26.out)).mono ?_
  rintro e w21 ⟨rfl, hb⟩
  have HB27 := Lib.hid (HB26.out.trans ((hb).mono HB26.out.size))
  have Va_27 := Lib.hid (Va_26.out.mono hb)
  have Vb_27 := Lib.hid (Vb_26.out.mono hb)
  have Vc_27 := Lib.hid (Vc_26.out.mono hb)
  have Vd_27 := Lib.hid (Vd_26.out.mono hb)
  have Vx_27 := Lib.hid (Vx_26.out.mono hb)
  have Vy_27 := Lib.hid (Vy_26.out.mono hb)
  clear Va_26 Vb_26 Vc_26 Vd_26 Vx_26 Vy_26
  clear hb
  have HB28 := Lib.hid (HB27.out.trans ((below_alloc w21 (.cells #[.string ⟨#[50]⟩, .string ⟨#[51]⟩] 48)).mono HB27.out.size))
  have Va_28 := Lib.hid (Va_27.out.al (.cells #[.string ⟨#[50]⟩, .string ⟨#[51]⟩] 48))
  have Vb_28 := Lib.hid (Vb_27.out.al (.cells #[.string ⟨#[50]⟩, .string ⟨#[51]⟩] 48))
  have Vc_28 := Lib.hid (Vc_27.out.al (.cells #[.string ⟨#[50]⟩, .string ⟨#[51]⟩] 48))
  have Vd_28 := Lib.hid (Vd_27.out.al (.cells #[.string ⟨#[50]⟩, .string ⟨#[51]⟩] 48))
  have Vx_28 := Lib.hid (Vx_27.out.al (.cells #[.string ⟨#[50]⟩, .string ⟨#[51]⟩] 48))
  have Vy_28 := Lib.hid (Vy_27.out.al (.cells #[.string ⟨#[50]⟩, .string ⟨#[51]⟩] 48))
  clear Va_27 Vb_27 Vc_27 Vd_27 Vx_27 Vy_27
  have Vz_28 := Lib.hid (iv_boxg (W := w21) (g := w21.heap.size) (by simp) ⟨#[50]⟩ ⟨#[51]⟩)
  go_wp2_with fail
  refine (in_raw ⟨#[49]⟩ ⟨#[50]⟩ _).mono ?_
  rintro e w22 ⟨rfl, hb⟩
  have HB29 := Lib.hid (HB28.out.trans ((hb).mono HB28.out.size))
  have Va_29 := Lib.hid (Va_28.out.mono hb)
  have Vb_29 := Lib.hid (Vb_28.out.mono hb)
  have Vc_29 := Lib.hid (Vc_28.out.mono hb)
  have Vd_29 := Lib.hid (Vd_28.out.mono hb)
  have Vx_29 := Lib.hid (Vx_28.out.mono hb)
  have Vy_29 := Lib.hid (Vy_28.out.mono hb)
  have Vz_29 := Lib.hid (Vz_28.out.mono hb)
  clear Va_28 Vb_28 Vc_28 Vd_28 Vx_28 Vy_28 Vz_28
  clear hb
  go_wp2_with fail
  refine (in_raw ⟨#[53]⟩ ⟨#[54]⟩ _).mono ?_
  rintro e w23 ⟨rfl, hb⟩
  have HB30 := Lib.hid (HB29.out.trans ((hb).mono HB29.out.size))
  have Va_30 := Lib.hid (Va_29.out.mono hb)
  have Vb_30 := Lib.hid (Vb_29.out.mono hb)
  have Vc_30 := Lib.hid (Vc_29.out.mono hb)
  have Vd_30 := Lib.hid (Vd_29.out.mono hb)
  have Vx_30 := Lib.hid (Vx_29.out.mono hb)
  have Vy_30 := Lib.hid (Vy_29.out.mono hb)
  have Vz_30 := Lib.hid (Vz_29.out.mono hb)
  clear Va_29 Vb_29 Vc_29 Vd_29 Vx_29 Vy_29 Vz_29
  clear hb
  have HB31 := Lib.hid (HB30.out.trans ((below_alloc w23 (.cells #[.string ⟨#[49]⟩, .string ⟨#[50]⟩, .string ⟨#[53]⟩, .string ⟨#[54]⟩] 48)).mono HB30.out.size))
  have Va_31 := Lib.hid (Va_30.out.al (.cells #[.string ⟨#[49]⟩, .string ⟨#[50]⟩, .string ⟨#[53]⟩, .string ⟨#[54]⟩] 48))
  have Vb_31 := Lib.hid (Vb_30.out.al (.cells #[.string ⟨#[49]⟩, .string ⟨#[50]⟩, .string ⟨#[53]⟩, .string ⟨#[54]⟩] 48))
  have Vc_31 := Lib.hid (Vc_30.out.al (.cells #[.string ⟨#[49]⟩, .string ⟨#[50]⟩, .string ⟨#[53]⟩, .string ⟨#[54]⟩] 48))
  have Vd_31 := Lib.hid (Vd_30.out.al (.cells #[.string ⟨#[49]⟩, .string ⟨#[50]⟩, .string ⟨#[53]⟩, .string ⟨#[54]⟩] 48))
  have Vx_31 := Lib.hid (Vx_30.out.al (.cells #[.string ⟨#[49]⟩, .string ⟨#[50]⟩, .string ⟨#[53]⟩, .string ⟨#[54]⟩] 48))
  have Vy_31 := Lib.hid (Vy_30.out.al (.cells #[.string ⟨#[49]⟩, .string ⟨#[50]⟩, .string ⟨#[53]⟩, .string ⟨#[54]⟩] 48))
  have Vz_31 := Lib.hid (Vz_30.out.al (.cells #[.string ⟨#[49]⟩, .string ⟨#[50]⟩, .string ⟨#[53]⟩, .string ⟨#[54]⟩] 48))
  clear Va_30 Vb_30 Vc_30 Vd_30 Vx_30 Vy_30 Vz_30
  have hc := ivs_cells2 w23 ⟨#[49]⟩ ⟨#[50]⟩ ⟨#[53]⟩ ⟨#[54]⟩
  go_wp2_with fail
  refine (vx_hull (w23.heap.size) _ (HT.out.on HB31.out) (by simp) hc).mono ?_
  rintro e w24 ⟨rfl, hb⟩
  have HB32 := Lib.hid (HB31.out.trans ((hb).mono HB31.out.size))
  have Va_32 := Lib.hid (Va_31.out.mono hb)
  have Vb_32 := Lib.hid (Vb_31.out.mono hb)
  have Vc_32 := Lib.hid (Vc_31.out.mono hb)
  have Vd_32 := Lib.hid (Vd_31.out.mono hb)
  have Vx_32 := Lib.hid (Vx_31.out.mono hb)
  have Vy_32 := Lib.hid (Vy_31.out.mono hb)
  have Vz_32 := Lib.hid (Vz_31.out.mono hb)
  clear Va_31 Vb_31 Vc_31 Vd_31 Vx_31 Vy_31 Vz_31
  clear hb
  clear hc
  have HB33 := Lib.hid (HB32.out.trans ((below_alloc w24 (.cells #[.string ⟨#[49]⟩, .string ⟨#[54]⟩] 48)).mono HB32.out.size))
  have Va_33 := Lib.hid (Va_32.out.al (.cells #[.string ⟨#[49]⟩, .string ⟨#[54]⟩] 48))
  have Vb_33 := Lib.hid (Vb_32.out.al (.cells #[.string ⟨#[49]⟩, .string ⟨#[54]⟩] 48))
  have Vc_33 := Lib.hid (Vc_32.out.al (.cells #[.string ⟨#[49]⟩, .string ⟨#[54]⟩] 48))
  have Vd_33 := Lib.hid (Vd_32.out.al (.cells #[.string ⟨#[49]⟩, .string ⟨#[54]⟩] 48))
  have Vx_33 := Lib.hid (Vx_32.out.al (.cells #[.string ⟨#[49]⟩, .string ⟨#[54]⟩] 48))
  have Vy_33 := Lib.hid (Vy_32.out.al (.cells #[.string ⟨#[49]⟩, .string ⟨#[54]⟩] 48))
  have Vz_33 := Lib.hid (Vz_32.out.al (.cells #[.string ⟨#[49]⟩, .string ⟨#[54]⟩] 48))
  clear Va_32 Vb_32 Vc_32 Vd_32 Vx_32 Vy_32 Vz_32
  have Vu_33 := Lib.hid (iv_boxg (W := w24) (g := w24.heap.size) (by simp) ⟨#[49]⟩ ⟨#[54]⟩)
  go_wp2_with fail
  refine (vx_exact _ (HT.out.on HB33.out)).mono ?_
  rintro e w25 ⟨rfl, hb⟩
  have HB34 := Lib.hid (HB33.out.trans ((hb).mono HB33.out.size))
  have Va_34 := Lib.hid (Va_33.out.mono hb)
  have Vb_34 := Lib.hid (Vb_33.out.mono hb)
  have Vc_34 := Lib.hid (Vc_33.out.mono hb)
  have Vd_34 := Lib.hid (Vd_33.out.mono hb)
  have Vx_34 := Lib.hid (Vx_33.out.mono hb)
  have Vy_34 := Lib.hid (Vy_33.out.mono hb)
  have Vz_34 := Lib.hid (Vz_33.out.mono hb)
  have Vu_34 := Lib.hid (Vu_33.out.mono hb)
  clear Va_33 Vb_33 Vc_33 Vd_33 Vx_33 Vy_33 Vz_33 Vu_33
  clear hb
  have HB35 := Lib.hid (HB34.out.trans ((below_alloc w25 (.cells #[.string ⟨#[49, 47, 50]⟩, .string ⟨#[49, 47, 50]⟩] 48)).mono HB34.out.size))
  have Va_35 := Lib.hid (Va_34.out.al (.cells #[.string ⟨#[49, 47, 50]⟩, .string ⟨#[49, 47, 50]⟩] 48))
  have Vb_35 := Lib.hid (Vb_34.out.al (.cells #[.string ⟨#[49, 47, 50]⟩, .string ⟨#[49, 47, 50]⟩] 48))
  have Vc_35 := Lib.hid (Vc_34.out.al (.cells #[.string ⟨#[49, 47, 50]⟩, .string ⟨#[49, 47, 50]⟩] 48))
  have Vd_35 := Lib.hid (Vd_34.out.al (.cells #[.string ⟨#[49, 47, 50]⟩, .string ⟨#[49, 47, 50]⟩] 48))
  have Vx_35 := Lib.hid (Vx_34.out.al (.cells #[.string ⟨#[49, 47, 50]⟩, .string ⟨#[49, 47, 50]⟩] 48))
  have Vy_35 := Lib.hid (Vy_34.out.al (.cells #[.string ⟨#[49, 47, 50]⟩, .string ⟨#[49, 47, 50]⟩] 48))
  have Vz_35 := Lib.hid (Vz_34.out.al (.cells #[.string ⟨#[49, 47, 50]⟩, .string ⟨#[49, 47, 50]⟩] 48))
  have Vu_35 := Lib.hid (Vu_34.out.al (.cells #[.string ⟨#[49, 47, 50]⟩, .string ⟨#[49, 47, 50]⟩] 48))
  clear Va_34 Vb_34 Vc_34 Vd_34 Vx_34 Vy_34 Vz_34 Vu_34
  have Vv_35 := Lib.hid (iv_boxg (W := w25) (g := w25.heap.size) (by simp) ⟨#[49, 47, 50]⟩ ⟨#[49, 47, 50]⟩)
  go_upto_region 11 with fail
  simp only [List.append]
  generalize (w25.alloc (.cells #[.string ⟨#[49, 47, 50]⟩, .string ⟨#[49, 47, 50]⟩] 48)) = w26 at *
  have KS := Lib.hid (show ∀ X : World, Below w26.heap.size w26 X → (X.cell? ⟨w3.heap.size, 0, none⟩ = some (.string ⟨#[45, 52]⟩) ∧ X.cell? ⟨w3.heap.size, 1, none⟩ = some (.string ⟨#[56]⟩) ∧ X.cell? ⟨w5.heap.size, 0, none⟩ = some (.string ⟨#[48]⟩) ∧ X.cell? ⟨w5.heap.size, 1, none⟩ = some (.string ⟨#[52]⟩) ∧ X.cell? ⟨w8.heap.size, 0, none⟩ = some (.string ⟨#[45, 49]⟩) ∧ X.cell? ⟨w8.heap.size, 1, none⟩ = some (.string ⟨#[45, 49, 47, 52]⟩) ∧ X.cell? ⟨w10.heap.size, 0, none⟩ = some (.string ⟨#[51, 47, 49, 48]⟩) ∧ X.cell? ⟨w10.heap.size, 1, none⟩ = some (.string ⟨#[49, 47, 50]⟩) ∧ X.cell? ⟨w13.heap.size, 0, none⟩ = some (.string ⟨#[52]⟩) ∧ X.cell? ⟨w13.heap.size, 1, none⟩ = some (.string ⟨#[54]⟩) ∧ X.cell? ⟨w16.heap.size, 0, none⟩ = some (.string ⟨#[45, 51]⟩) ∧ X.cell? ⟨w16.heap.size, 1, none⟩ = some (.string ⟨#[45, 49]⟩) ∧ X.cell? ⟨w21.heap.size, 0, none⟩ = some (.string ⟨#[50]⟩) ∧ X.cell? ⟨w21.heap.size, 1, none⟩ = some (.string ⟨#[51]⟩) ∧ X.cell? ⟨w24.heap.size, 0, none⟩ = some (.string ⟨#[49]⟩) ∧ X.cell? ⟨w24.heap.size, 1, none⟩ = some (.string ⟨#[54]⟩) ∧ X.cell? ⟨w25.heap.size, 0, none⟩ = some (.string ⟨#[49, 47, 50]⟩) ∧ X.cell? ⟨w25.heap.size, 1, none⟩ = some (.string ⟨#[49, 47, 50]⟩)) from fun X hB => ⟨(Va_35.out.mono hB).2.1, (Va_35.out.mono hB).2.2, (Vb_35.out.mono hB).2.1, (Vb_35.out.mono hB).2.2, (Vc_35.out.mono hB).2.1, (Vc_35.out.mono hB).2.2, (Vd_35.out.mono hB).2.1, (Vd_35.out.mono hB).2.2, (Vx_35.out.mono hB).2.1, (Vx_35.out.mono hB).2.2, (Vy_35.out.mono hB).2.1, (Vy_35.out.mono hB).2.2, (Vz_35.out.mono hB).2.1, (Vz_35.out.mono hB).2.2, (Vu_35.out.mono hB).2.1, (Vu_35.out.mono hB).2.2, (Vv_35.out.mono hB).2.1, (Vv_35.out.mono hB).2.2⟩)
  have KT := Lib.hid (show ∀ X : World, Below w26.heap.size w26 X → La X from fun X hB => HT.out.on (HB35.out.trans (hB.mono HB35.out.size)))
  have F0 := Lib.hid (Below.refl w26.heap.size w26)
  obtain ⟨r0, r1, r2, r3, r4, r5, r6, r7, r8, r9, r10, r11, r12, r13, r14, r15, r16, r17⟩ := KS.out _ F0.out
  go_region_held3 (fun w' => w'.cell? ⟨w3.heap.size, 0, none⟩ = some (.string ⟨#[45, 52]⟩) ∧ w'.cell? ⟨w3.heap.size, 1, none⟩ = some (.string ⟨#[56]⟩) ∧ w'.cell? ⟨w5.heap.size, 0, none⟩ = some (.string ⟨#[48]⟩) ∧ w'.cell? ⟨w5.heap.size, 1, none⟩ = some (.string ⟨#[52]⟩) ∧ w'.cell? ⟨w8.heap.size, 0, none⟩ = some (.string ⟨#[45, 49]⟩) ∧ w'.cell? ⟨w8.heap.size, 1, none⟩ = some (.string ⟨#[45, 49, 47, 52]⟩) ∧ w'.cell? ⟨w10.heap.size, 0, none⟩ = some (.string ⟨#[51, 47, 49, 48]⟩) ∧ w'.cell? ⟨w10.heap.size, 1, none⟩ = some (.string ⟨#[49, 47, 50]⟩) ∧ w'.cell? ⟨w13.heap.size, 0, none⟩ = some (.string ⟨#[52]⟩) ∧ w'.cell? ⟨w13.heap.size, 1, none⟩ = some (.string ⟨#[54]⟩) ∧ w'.cell? ⟨w16.heap.size, 0, none⟩ = some (.string ⟨#[45, 51]⟩) ∧ w'.cell? ⟨w16.heap.size, 1, none⟩ = some (.string ⟨#[45, 49]⟩) ∧ w'.cell? ⟨w21.heap.size, 0, none⟩ = some (.string ⟨#[50]⟩) ∧ w'.cell? ⟨w21.heap.size, 1, none⟩ = some (.string ⟨#[51]⟩) ∧ w'.cell? ⟨w24.heap.size, 0, none⟩ = some (.string ⟨#[49]⟩) ∧ w'.cell? ⟨w24.heap.size, 1, none⟩ = some (.string ⟨#[54]⟩) ∧ w'.cell? ⟨w25.heap.size, 0, none⟩ = some (.string ⟨#[49, 47, 50]⟩) ∧ w'.cell? ⟨w25.heap.size, 1, none⟩ = some (.string ⟨#[49, 47, 50]⟩)) (first | (with_reducible exact KS.out _ F11.out) | (with_reducible exact KS.out _ F11.out.drew) | (with_reducible exact KS.out _ F10.out) | (with_reducible exact KS.out _ F10.out.drew) | (with_reducible exact KS.out _ F9.out) | (with_reducible exact KS.out _ F9.out.drew) | (with_reducible exact KS.out _ F8.out) | (with_reducible exact KS.out _ F8.out.drew) | (with_reducible exact KS.out _ F7.out) | (with_reducible exact KS.out _ F7.out.drew) | (with_reducible exact KS.out _ F6.out) | (with_reducible exact KS.out _ F6.out.drew) | (with_reducible exact KS.out _ F5.out) | (with_reducible exact KS.out _ F5.out.drew) | (with_reducible exact KS.out _ F4.out) | (with_reducible exact KS.out _ F4.out.drew) | (with_reducible exact KS.out _ F3.out) | (with_reducible exact KS.out _ F3.out.drew) | (with_reducible exact KS.out _ F2.out) | (with_reducible exact KS.out _ F2.out.drew) | (with_reducible exact KS.out _ F1.out) | (with_reducible exact KS.out _ F1.out.drew) | (with_reducible exact KS.out _ F0.out) | (with_reducible exact KS.out _ F0.out.drew))
    (first
      | (go_at_call 43; (with_reducible refine (in_raw ⟨#[45, 52]⟩ ⟨#[56]⟩ _).mono ?_); rintro e w27 ⟨rfl, hb⟩; have F1 := Lib.hid (show Below w26.heap.size w26 w27 by first | exact fr_chain F0.out hb | exact fr_chain F0.out.drew hb); clear hb)
      | (go_at_call 43; (with_reducible refine (in_raw ⟨#[48]⟩ ⟨#[52]⟩ _).mono ?_); rintro e w28 ⟨rfl, hb⟩; have F2 := Lib.hid (show Below w26.heap.size w26 w28 by first | exact fr_chain F1.out hb | exact fr_chain F1.out.drew hb); clear hb)
      | (go_at_call 43; (with_reducible refine (in_raw ⟨#[45, 49]⟩ ⟨#[45, 49, 47, 52]⟩ _).mono ?_); rintro e w29 ⟨rfl, hb⟩; have F3 := Lib.hid (show Below w26.heap.size w26 w29 by first | exact fr_chain F2.out hb | exact fr_chain F2.out.drew hb); clear hb)
      | (go_at_call 43; (with_reducible refine (in_raw ⟨#[51, 47, 49, 48]⟩ ⟨#[49, 47, 50]⟩ _).mono ?_); rintro e w30 ⟨rfl, hb⟩; have F4 := Lib.hid (show Below w26.heap.size w26 w30 by first | exact fr_chain F3.out hb | exact fr_chain F3.out.drew hb); clear hb)
      | (go_at_call 43; (with_reducible refine (in_raw ⟨#[52]⟩ ⟨#[54]⟩ _).mono ?_); rintro e w31 ⟨rfl, hb⟩; have F5 := Lib.hid (show Below w26.heap.size w26 w31 by first | exact fr_chain F4.out hb | exact fr_chain F4.out.drew hb); clear hb)
      | (go_at_call 43; (with_reducible refine (in_raw ⟨#[45, 51]⟩ ⟨#[45, 49]⟩ _).mono ?_); rintro e w32 ⟨rfl, hb⟩; have F6 := Lib.hid (show Below w26.heap.size w26 w32 by first | exact fr_chain F5.out hb | exact fr_chain F5.out.drew hb); clear hb)
      | (go_at_call 43; (with_reducible refine (in_raw ⟨#[50]⟩ ⟨#[51]⟩ _).mono ?_); rintro e w33 ⟨rfl, hb⟩; have F7 := Lib.hid (show Below w26.heap.size w26 w33 by first | exact fr_chain F6.out hb | exact fr_chain F6.out.drew hb); clear hb)
      | (go_at_call 43; (with_reducible refine (in_raw ⟨#[49]⟩ ⟨#[54]⟩ _).mono ?_); rintro e w34 ⟨rfl, hb⟩; have F8 := Lib.hid (show Below w26.heap.size w26 w34 by first | exact fr_chain F7.out hb | exact fr_chain F7.out.drew hb); clear hb)
      | (go_at_call 43; (with_reducible refine (in_raw ⟨#[49, 47, 50]⟩ ⟨#[49, 47, 50]⟩ _).mono ?_); rintro e w35 ⟨rfl, hb⟩; have F9 := Lib.hid (show Below w26.heap.size w26 w35 by first | exact fr_chain F8.out hb | exact fr_chain F8.out.drew hb); clear hb)
      | (go_at_call 34; (with_reducible refine (vx_valid _ ?la9).mono ?_); (case la9 => first | exact KT.out _ F9.out | exact KT.out _ F9.out.drew); rintro e w36 ⟨rfl, hb⟩; have F10 := Lib.hid (show Below w26.heap.size w26 w36 by first | exact fr_chain F9.out hb | exact fr_chain F9.out.drew hb); clear hb)
      | (go_at_call 36; (with_reducible refine (vx_has _ ?la10).mono ?_); (case la10 => first | exact KT.out _ F10.out | exact KT.out _ F10.out.drew); rintro e w37 ⟨rfl, hb⟩; have F11 := Lib.hid (show Below w26.heap.size w26 w37 by first | exact fr_chain F10.out hb | exact fr_chain F10.out.drew hb); clear hb)
      | fail)
  clear r0 r1 r2 r3 r4 r5 r6 r7 r8 r9 r10 r11 r12 r13 r14 r15 r16 r17
  have HB36 := Lib.hid (HB35.out.trans ((F11.out).mono HB35.out.size))
  have Va_36 := Lib.hid (Va_35.out.mono F11.out)
  have Vb_36 := Lib.hid (Vb_35.out.mono F11.out)
  have Vc_36 := Lib.hid (Vc_35.out.mono F11.out)
  have Vd_36 := Lib.hid (Vd_35.out.mono F11.out)
  have Vx_36 := Lib.hid (Vx_35.out.mono F11.out)
  have Vy_36 := Lib.hid (Vy_35.out.mono F11.out)
  have Vz_36 := Lib.hid (Vz_35.out.mono F11.out)
  have Vu_36 := Lib.hid (Vu_35.out.mono F11.out)
  have Vv_36 := Lib.hid (Vv_35.out.mono F11.out)
  clear Va_35 Vb_35 Vc_35 Vd_35 Vx_35 Vy_35 Vz_35 Vu_35 Vv_35
  clear F0 F1 F2 F3 F4 F5 F6 F7 F8 F9 F10 F11
  go_wp2
  go_ret
  exact ⟨rfl, HB36.out⟩

end Go.Proofs.YtlagimghlngdgaaGreatDoor
