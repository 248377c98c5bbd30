/- The examples of chapter 3; garboardlaw03.awake. -/
import Derived.Test.YtmigpoiajkihhaaGreatDoorQm
namespace Go.Proofs.YtmigpoiajkihhaaGreatDoor
set_option maxRecDepth 100000
set_option maxHeartbeats 20000000
open Go.RowKit Go.Gb
theorem q_1_2 : Sq (1/2 : Rat) = ⟨#[49, 47, 50]⟩ := by decide +kernel
theorem q_1_3 : Sq (1/3 : Rat) = ⟨#[49, 47, 51]⟩ := by decide +kernel
theorem q_5_6 : Sq (5/6 : Rat) = ⟨#[53, 47, 54]⟩ := by decide +kernel
theorem q_3_4 : Sq (3/4 : Rat) = ⟨#[51, 47, 52]⟩ := by decide +kernel
theorem q_n3_2 : Sq (-3/2 : Rat) = ⟨#[45, 51, 47, 50]⟩ := by decide +kernel
theorem q_n1_2 : Sq (-1/2 : Rat) = ⟨#[45, 49, 47, 50]⟩ := by decide +kernel
theorem q_2_3 : Sq (2/3 : Rat) = ⟨#[50, 47, 51]⟩ := by decide +kernel
theorem q_3_2 : Sq (3/2 : Rat) = ⟨#[51, 47, 50]⟩ := by decide +kernel
theorem q_0 : Sq (0 : Rat) = ⟨#[48]⟩ := by decide +kernel
theorem q_1 : Sq (1 : Rat) = ⟨#[49]⟩ := by decide +kernel
theorem q_n3_4 : Sq (-3/4 : Rat) = ⟨#[45, 51, 47, 52]⟩ := by decide +kernel
theorem q_5_2 : Sq (5/2 : Rat) = ⟨#[53, 47, 50]⟩ := by decide +kernel
theorem q_n2_3 : Sq (-2/3 : Rat) = ⟨#[45, 50, 47, 51]⟩ := by decide +kernel
theorem qx_add (w : World) (hl : La w) : Calls Tryz.prog 17 #[.string ⟨#[49, 47, 50]⟩, .string ⟨#[49, 47, 51]⟩] w fun e w' => e = .returned (.tuple #[.string ⟨#[53, 47, 54]⟩, .int .i64 0]) ∧ Below w.heap.size w w' := by
 have h := qAddS (1/2 : Rat) (1/3 : Rat) (5/6 : Rat) (by decide +kernel) (fitq_small (by decide +kernel) (by decide +kernel)) (fitq_small (by decide +kernel) (by decide +kernel)) (by unfold Sma; decide +kernel) w hl
 rw [q_1_2, q_1_3, q_5_6] at h
 exact h
theorem qx_sub (w : World) (hl : La w) : Calls Tryz.prog 19 #[.string ⟨#[49, 47, 50]⟩, .string ⟨#[49, 47, 50]⟩] w fun e w' => e = .returned (.tuple #[.string ⟨#[48]⟩, .int .i64 0]) ∧ Below w.heap.size w w' := by
 have h := qSubS (1/2 : Rat) (1/2 : Rat) (0 : Rat) (by decide +kernel) (fitq_small (by decide +kernel) (by decide +kernel)) (fitq_small (by decide +kernel) (by decide +kernel)) (by unfold Sma; decide +kernel) w hl
 rw [q_1_2, q_0] at h
 exact h
theorem qx_mul (w : World) (hl : La w) : Calls Tryz.prog 21 #[.string ⟨#[50, 47, 51]⟩, .string ⟨#[51, 47, 50]⟩] w fun e w' => e = .returned (.tuple #[.string ⟨#[49]⟩, .int .i64 0]) ∧ Below w.heap.size w w' := by
 have h := qMulS (2/3 : Rat) (3/2 : Rat) (1 : Rat) (by decide +kernel) (fitq_small (by decide +kernel) (by decide +kernel)) (fitq_small (by decide +kernel) (by decide +kernel)) (by unfold Sma; decide +kernel) w hl
 rw [q_2_3, q_3_2, q_1] at h
 exact h
theorem qx_div (w : World) (hl : La w) : Calls Tryz.prog 23 #[.string ⟨#[51, 47, 52]⟩, .string ⟨#[45, 51, 47, 50]⟩] w fun e w' => e = .returned (.tuple #[.string ⟨#[45, 49, 47, 50]⟩, .int .i64 0]) ∧ Below w.heap.size w w' := by
 have h := qDivS (3/4 : Rat) (-3/2 : Rat) (-1/2 : Rat) (by decide +kernel) (fitq_small (by decide +kernel) (by decide +kernel)) (fitq_small (by decide +kernel) (by decide +kernel)) (by decide +kernel) (by unfold Sma; decide +kernel) w hl
 rw [q_3_4, q_n3_2, q_n1_2] at h
 exact h
theorem qx_cmp (w : World) (hl : La w) : Calls Tryz.prog 15 #[.string ⟨#[49, 47, 51]⟩, .string ⟨#[49, 47, 50]⟩] w fun e w' => e = .returned (.tuple #[.int .i64 (-1), .int .i64 0]) ∧ Below w.heap.size w w' := by
 have h := qCompareS (1/3 : Rat) (1/2 : Rat) (-1) (by decide +kernel) (fitq_small (by decide +kernel) (by decide +kernel)) (fitq_small (by decide +kernel) (by decide +kernel)) (by unfold Sma; decide +kernel) w hl
 rw [q_1_3, q_1_2] at h
 exact h
theorem qx_floor (w : World) (hl : La w) : Calls Tryz.prog 25 #[.string ⟨#[45, 49, 47, 50]⟩] w fun e w' => e = .returned (.tuple #[.string ⟨#[45, 49]⟩, .int .i64 0]) ∧ Below w.heap.size w w' := by
 have h := qfloor (-1/2 : Rat) (fitq_small (by decide +kernel) (by decide +kernel)) w hl
 rw [q_n1_2, show Sz (((-1/2 : Rat)).num / (((-1/2 : Rat)).den : Int)) = ⟨#[45, 49]⟩ by decide +kernel] at h
 exact h
theorem qx_parts (w : World) (hl : La w) : Calls Tryz.prog 11 #[.string ⟨#[45, 51, 47, 50]⟩] w fun e w' => e = .returned (.tuple #[.string ⟨#[45, 51]⟩, .string ⟨#[50]⟩, .int .i64 0]) ∧ Below w.heap.size w w' := by
 have h := qparts (-3/2 : Rat) (fitq_small (by decide +kernel) (by decide +kernel)) w hl
 rw [q_n3_2, show Sz ((-3/2 : Rat)).num = ⟨#[45, 51]⟩ by decide +kernel, show Sz (((-3/2 : Rat)).den : Int) = ⟨#[50]⟩ by decide +kernel] at h
 exact h
theorem qx_make (w : World) (hl : La w) : Calls Tryz.prog 9 #[.string ⟨#[54]⟩, .string ⟨#[45, 52]⟩] w fun e w' => e = .returned (.tuple #[.string ⟨#[45, 51, 47, 50]⟩, .int .i64 0]) ∧ Below w.heap.size w w' := by
 have h := qMake 6 (-4) (by decide) (flS (by decide)) (flS (by decide)) w hl
 rw [show Sz 6 = ⟨#[54]⟩ by decide +kernel, show Sz (-4) = ⟨#[45, 52]⟩ by decide +kernel, show Sq (Rat.divInt 6 (-4)) = ⟨#[45, 51, 47, 50]⟩ by decide +kernel] at h
 exact h
theorem qx_v1 (w : World) (hl : La w) : Calls Tryz.prog 13 #[.string ⟨#[45, 51, 47, 52]⟩] w fun e w' => e = .returned (.bool true) ∧ Below w.heap.size w w' := by
 have h := qvalid_yes (-3/4 : Rat) (fitq_small (by decide +kernel) (by decide +kernel)) w hl
 rw [q_n3_4] at h
 exact h
theorem qx_v2 (w : World) (hl : La w) : Calls Tryz.prog 13 #[.string ⟨#[50, 47, 52]⟩] w fun e w' => e = .returned (.bool false) ∧ Below w.heap.size w w' := qvalid_no _ (by decide +kernel) (by decide) w hl
theorem qx_v3 (w : World) (hl : La w) : Calls Tryz.prog 13 #[.string ⟨#[]⟩] w fun e w' => e = .returned (.bool false) ∧ Below w.heap.size w w' := qvalid_no _ (by decide +kernel) (by decide) w hl
theorem qx_dec1 (w : World) (hl : La w) : Calls Tryz.prog 27 #[.string ⟨#[45, 50, 47, 51]⟩, .int .i64 2] w fun e w' => e = .returned (.tuple #[.string ⟨#[45, 48, 46, 54, 55]⟩, .int .i64 0]) ∧ Below w.heap.size w w' := by
 have h1 := fun W hW => fread_yes (-2/3) (fitq_small (by decide +kernel) (by decide +kernel)) W hW
 rw [q_n2_3, (qnd (-2/3) (-2) 3 ⟨#[45, 50, 47, 51]⟩ ⟨#[45, 50]⟩ ⟨#[51]⟩ (by decide +kernel)).2] at h1
 have h2 := fun W => rpow10 2 (by decide) W
 rw [show Sz ((10 ^ 2 : Nat) : Int) = ⟨#[49, 48, 48]⟩ by decide +kernel] at h2
 have h3 := fun W hW => rtimes (-2) 100 (-200) (by decide) (flT (by decide)) (flT (by decide)) (flT (by decide)) W hW
 rw [show Sz (-2) = ⟨#[45, 50]⟩ by decide +kernel, show Sz 100 = ⟨#[49, 48, 48]⟩ by decide +kernel, show Sz (-200) = ⟨#[45, 50, 48, 48]⟩ by decide +kernel] at h3
 have h4 := fun W hW => rnearest (-200) 3 (by decide) ((show Sm 3 200 by unfold Sm; decide).mono (by decide)) ((show Sm 3 3 by unfold Sm; decide).mono (by decide)) W hW
 rw [show Sz (nearZ (-200) 3) = ⟨#[45, 54, 55]⟩ by decide +kernel, show Sz 3 = ⟨#[51]⟩ by decide +kernel, show Sz (-200) = ⟨#[45, 50, 48, 48]⟩ by decide +kernel] at h4
 have h5 := fun W => place_neg ⟨#[45, 54, 55]⟩ ⟨#[54, 55]⟩ 2 (by decide) (by decide) (by decide) W (fun W => cut_neg [54, 55] W)
 rw [show (⟨#[45]⟩ ++ pointB (⟨#[54, 55]⟩ : ByteArray).data.toList 2 : ByteArray) = ⟨#[45, 48, 46, 54, 55]⟩ by decide +kernel] at h5
 exact decimal_raw _ _ _ _ _ _ _ 2 (by decide) (by decide) w hl h1 h2 h3 h4 h5
theorem qx_dec2 (w : World) (hl : La w) : Calls Tryz.prog 27 #[.string ⟨#[53, 47, 50]⟩, .int .i64 0] w fun e w' => e = .returned (.tuple #[.string ⟨#[51]⟩, .int .i64 0]) ∧ Below w.heap.size w w' := by
 have h1 := fun W hW => fread_yes (5/2) (fitq_small (by decide +kernel) (by decide +kernel)) W hW
 rw [q_5_2, (qnd (5/2) 5 2 ⟨#[53, 47, 50]⟩ ⟨#[53]⟩ ⟨#[50]⟩ (by decide +kernel)).2] at h1
 have h2 := fun W => rpow10 0 (by decide) W
 rw [show Sz ((10 ^ 0 : Nat) : Int) = ⟨#[49]⟩ by decide +kernel] at h2
 have h3 := fun W hW => rtimes 5 1 5 (by decide) (flT (by decide)) (flT (by decide)) (flT (by decide)) W hW
 rw [show Sz 5 = ⟨#[53]⟩ by decide +kernel, show Sz 1 = ⟨#[49]⟩ by decide +kernel] at h3
 have h4 := fun W hW => rnearest 5 2 (by decide) ((show Sm 3 5 by unfold Sm; decide).mono (by decide)) ((show Sm 3 2 by unfold Sm; decide).mono (by decide)) W hW
 rw [show Sz (nearZ 5 2) = ⟨#[51]⟩ by decide +kernel, show Sz 5 = ⟨#[53]⟩ by decide +kernel, show Sz 2 = ⟨#[50]⟩ by decide +kernel] at h4
 exact decimal_raw _ _ _ _ _ _ _ 0 (by decide) (by decide) w hl h1 h2 h3 h4 (fun W => place_zero _ W)
theorem calls_same {P : Program} {f : Nat} {args : Array Value} {W : World} {r : Value} (h : Calls P f args W fun e w' => e = .returned r ∧ W = w') : Calls P f args W fun e w' => e = .returned r ∧ Below W.heap.size W w' :=
 h.mono (fun _ _ ⟨h1, h2⟩ => ⟨h1, h2 ▸ Below.refl _ _⟩)
theorem calls_same' {P : Program} {f : Nat} {args : Array Value} {W : World} {r : Value} (h : Calls P f args W fun e w' => e = .returned r ∧ w' = W) : Calls P f args W fun e w' => e = .returned r ∧ Below W.heap.size W w' :=
 h.mono (fun _ _ ⟨h1, h2⟩ => ⟨h1, h2 ▸ Below.refl _ _⟩)
theorem qx_parse (w : World) (hl : La w) : Calls Tryz.prog 29 #[.string ⟨#[48, 46, 50, 53, 48]⟩] w fun e w' => e = .returned (.tuple #[.string ⟨#[49, 47, 52]⟩, .int .i64 0]) ∧ Below w.heap.size w w' := by
 have h1 := fun W hW => qvalid_no ⟨#[48, 46, 50, 53, 48]⟩ (by decide +kernel) (by decide) W hW
 have h2 := fun W => calls_same (cut_not ⟨#[48, 46, 50, 53, 48]⟩ (by intro t h; exact absurd (congrArg List.head? h) (by simp)) W)
 have h3 := fun W => cut1 46 ⟨#[48, 46, 50, 53, 48]⟩ (by decide) W
 rw [show Lib.cut (⟨#[48, 46, 50, 53, 48]⟩ : ByteArray).data.toList [46] = ([48], [50, 53, 48], true) by decide +kernel] at h3
 have h4 := fun W => rdigits ⟨#[48]⟩ (by simp only [toList_data]; decide) (by decide) (by decide) W
 have h5 := fun W => rdigits ⟨#[50, 53, 48]⟩ (by simp only [toList_data]; decide) (by decide) (by decide) W
 have h6 := fun W => calls_same' (Tryz.strings_TrimLeft_one ⟨#[48, 50, 53, 48]⟩ 48 (by decide) W)
 rw [show (⟨(Lib.trimLeftB (⟨#[48, 50, 53, 48]⟩ : ByteArray).data.toList 48).toArray⟩ : ByteArray) = ⟨#[50, 53, 48]⟩ by decide +kernel] at h6
 have h7 := fun W => rpow10 3 (by decide) W
 rw [show Sz ((10 ^ 3 : Nat) : Int) = ⟨#[49, 48, 48, 48]⟩ by decide +kernel] at h7
 have h8 := fun W hW => qMake 250 1000 (by decide) (flT (by decide)) (FitL.of (k := 4) (show Sm 4 1000 by unfold Sm; decide) (by decide)) W hW
 rw [show Sz 250 = ⟨#[50, 53, 48]⟩ by decide +kernel, show Sz 1000 = ⟨#[49, 48, 48, 48]⟩ by decide +kernel, show Sq (Rat.divInt 250 1000) = ⟨#[49, 47, 52]⟩ by decide +kernel] at h8
 exact parse_pos_raw _ _ ⟨#[48]⟩ ⟨#[50, 53, 48]⟩ ⟨#[50, 53, 48]⟩ ⟨#[49, 48, 48, 48]⟩ _ 0 (by simp only [toList_data]; decide) (by decide) (by decide) (by decide) w hl h1 h2 h3 h4 h5 h6 h7 h8
theorem qawake (w : World) (hl : La w) : Calls Tryz.prog 7 #[] w fun e w' => e = .returned (.bool true) ∧ Below w.heap.size w w' := by
 have HT := Lib.hid hl
 clear hl
 go_enter Tryz.func7, Tryz.ntmps7
 have HB0 := Lib.hid (Below.refl w.heap.size w)
 go_wp2_with fail
 refine (qx_add _ (HT.out.on HB0.out)).mono ?_
 rintro e w1 ⟨rfl, hb⟩
 have HB1 := Lib.hid (HB0.out.trans (hb.mono HB0.out.size))
 clear hb
 go_wp2_with fail
 refine (qx_div _ (HT.out.on HB1.out)).mono ?_
 rintro e w2 ⟨rfl, hb⟩
 have HB2 := Lib.hid (HB1.out.trans (hb.mono HB1.out.size))
 clear hb
 go_wp2_with fail
 refine (qx_floor _ (HT.out.on HB2.out)).mono ?_
 rintro e w3 ⟨rfl, hb⟩
 have HB3 := Lib.hid (HB2.out.trans (hb.mono HB2.out.size))
 clear hb
 go_wp2_with fail
 refine (qx_dec1 _ (HT.out.on HB3.out)).mono ?_
 rintro e w4 ⟨rfl, hb⟩
 have HB4 := Lib.hid (HB3.out.trans (hb.mono HB3.out.size))
 clear hb
 go_wp2_with fail
 refine (qx_dec2 _ (HT.out.on HB4.out)).mono ?_
 rintro e w5 ⟨rfl, hb⟩
 have HB5 := Lib.hid (HB4.out.trans (hb.mono HB4.out.size))
 clear hb
 go_wp2_with fail
 refine (qx_parse _ (HT.out.on HB5.out)).mono ?_
 rintro e w6 ⟨rfl, hb⟩
 have HB6 := Lib.hid (HB5.out.trans (hb.mono HB5.out.size))
 clear hb
 go_wp2_with fail
 refine (awk_simplest1 _ (HT.out.on HB6.out)).mono ?_
 rintro e w7 ⟨rfl, hb⟩
 have HB7 := Lib.hid (HB6.out.trans (hb.mono HB6.out.size))
 clear hb
 go_wp2_with fail
 refine (awk_simplest2 _ (HT.out.on HB7.out)).mono ?_
 rintro e w8 ⟨rfl, hb⟩
 have HB8 := Lib.hid (HB7.out.trans (hb.mono HB7.out.size))
 clear hb
 go_wp2_with fail
 refine (qx_make _ (HT.out.on HB8.out)).mono ?_
 rintro e w9 ⟨rfl, hb⟩
 have HB9 := Lib.hid (HB8.out.trans (hb.mono HB8.out.size))
 clear hb
 go_wp2_with fail
 refine (qx_parts _ (HT.out.on HB9.out)).mono ?_
 rintro e w10 ⟨rfl, hb⟩
 have HB10 := Lib.hid (HB9.out.trans (hb.mono HB9.out.size))
 clear hb
 go_wp2_with fail
 refine (qx_cmp _ (HT.out.on HB10.out)).mono ?_
 rintro e w11 ⟨rfl, hb⟩
 have HB11 := Lib.hid (HB10.out.trans (hb.mono HB10.out.size))
 clear hb
 go_wp2_with fail
 refine (qx_sub _ (HT.out.on HB11.out)).mono ?_
 rintro e w12 ⟨rfl, hb⟩
 have HB12 := Lib.hid (HB11.out.trans (hb.mono HB11.out.size))
 clear hb
 go_wp2_with fail
 refine (qx_mul _ (HT.out.on HB12.out)).mono ?_
 rintro e w13 ⟨rfl, hb⟩
 have HB13 := Lib.hid (HB12.out.trans (hb.mono HB12.out.size))
 clear hb
 go_wp2_with fail
 refine (qx_v1 _ (HT.out.on HB13.out)).mono ?_
 rintro e w14 ⟨rfl, hb⟩
 have HB14 := Lib.hid (HB13.out.trans (hb.mono HB13.out.size))
 clear hb
 go_wp2_with fail
 refine (qx_v2 _ (HT.out.on HB14.out)).mono ?_
 rintro e w15 ⟨rfl, hb⟩
 have HB15 := Lib.hid (HB14.out.trans (hb.mono HB14.out.size))
 clear hb
 go_wp2_with fail
 refine (qx_v3 _ (HT.out.on HB15.out)).mono ?_
 rintro e w16 ⟨rfl, hb⟩
 have HB16 := Lib.hid (HB15.out.trans (hb.mono HB15.out.size))
 clear hb
 go_wp2
 go_ret
 exact ⟨rfl, HB16.out⟩
end Go.Proofs.YtmigpoiajkihhaaGreatDoor
