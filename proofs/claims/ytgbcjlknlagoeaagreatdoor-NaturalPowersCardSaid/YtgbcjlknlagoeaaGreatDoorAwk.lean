/- The chapter's examples: garboardlaw01.awake returns true: walks. -/
import Derived.Test.YtgbcjlknlagoeaaGreatDoorMkf
namespace Go.Proofs.YtgbcjlknlagoeaaGreatDoor
open Go.RowKit Go.Gb

theorem st_num {l : List UInt8} (h : vld l = true) {n : Nat} (hn : n = dval l) : St (Lib.decDigits n) = .string ⟨l.toArray⟩ := by
  unfold St; rw [hn, dec_dval l h]


theorem len_one {n : Nat} (h0 : n ≠ 0) (hB : n < BB) : (digs n).length = 1 := by
  have h1 : (digs n).length ≤ 1 := digs_length_le (by rw [Nat.pow_one]; exact hB)
  have h2 : 0 < (digs n).length := List.length_pos_iff.2 (by rw [digs_pos h0]; simp)
  omega
theorem ex_add (w : World) (h : Tb w) : Calls Tryz.prog 11 #[.string ⟨#[49, 48, 48, 48, 48, 48, 48, 48, 48, 48, 48, 48, 48, 48, 48, 48, 48, 48, 48, 48, 48]⟩, .string ⟨#[49]⟩] w fun e w' => e = .returned (.tuple #[.string ⟨#[49, 48, 48, 48, 48, 48, 48, 48, 48, 48, 48, 48, 48, 48, 48, 48, 48, 48, 48, 48, 49]⟩, .int .i64 0]) ∧ Below w.heap.size w w' := by
  have hv : dval [49, 48, 48, 48, 48, 48, 48, 48, 48, 48, 48, 48, 48, 48, 48, 48, 48, 48, 48, 48, 48] = 100000000000000000000 := by decide +kernel
  have hv1 : dval [49] = 1 := by decide +kernel
  have hB := BB_eq
  have hl3 : (digs 100000000000000000000).length ≤ 3 := digs_length_le (by rw [hB]; decide)
  have hok : AddOk 100000000000000000000 1 := add_any _ _ (Or.inr (by decide)) (by omega) (by rw [len_one (by decide) BB_one]; omega)
  have := Add_long (⟨#[49, 48, 48, 48, 48, 48, 48, 48, 48, 48, 48, 48, 48, 48, 48, 48, 48, 48, 48, 48, 48]⟩ : ByteArray) (⟨#[49]⟩ : ByteArray) (by decide +kernel) (by decide +kernel) (Or.inl (by decide)) (by decide) (by decide) (by rw [show dval (⟨#[49, 48, 48, 48, 48, 48, 48, 48, 48, 48, 48, 48, 48, 48, 48, 48, 48, 48, 48, 48, 48]⟩ : ByteArray).data.toList = 100000000000000000000 from hv, show dval (⟨#[49]⟩ : ByteArray).data.toList = 1 from hv1]; exact hok) w h
  rw [st_num (l := [49, 48, 48, 48, 48, 48, 48, 48, 48, 48, 48, 48, 48, 48, 48, 48, 48, 48, 48, 48, 49]) (by decide +kernel) (by decide +kernel)] at this
  exact this
theorem ex_divmod (w : World) (h : Tb w) : Calls Tryz.prog 17 #[.string ⟨#[49, 48, 48, 48, 48, 48, 48, 48, 48, 55]⟩, .string ⟨#[49, 48]⟩] w fun e w' => e = .returned (.tuple #[.string ⟨#[49, 48, 48, 48, 48, 48, 48, 48, 48]⟩, .string ⟨#[55]⟩, .int .i64 0]) ∧ Below w.heap.size w w' := by
  have := DivMod_short (⟨#[49, 48, 48, 48, 48, 48, 48, 48, 48, 55]⟩ : ByteArray) (⟨#[49, 48]⟩ : ByteArray) (by decide +kernel) (by decide +kernel) (by decide +kernel) (by decide +kernel) (by decide) w h
  rw [st_num (l := [49, 48, 48, 48, 48, 48, 48, 48, 48]) (by decide +kernel) (by decide +kernel), st_num (l := [55]) (by decide +kernel) (by decide +kernel)] at this
  exact this
theorem ex_gcd (w : World) (h : Tb w) : Calls Tryz.prog 19 #[.string ⟨#[56, 52]⟩, .string ⟨#[51, 54]⟩] w fun e w' => e = .returned (.tuple #[.string ⟨#[49, 50]⟩, .int .i64 0]) ∧ Below w.heap.size w w' := by
  have hB := BB_eq
  have h1 : (digs (dval (⟨#[56, 52]⟩ : ByteArray).data.toList)).length ≤ 2 := by rw [show dval (⟨#[56, 52]⟩ : ByteArray).data.toList = 84 by decide +kernel, len_one (by decide) (by omega)]; omega
  have h2 : (digs (dval (⟨#[51, 54]⟩ : ByteArray).data.toList)).length ≤ 2 := by rw [show dval (⟨#[51, 54]⟩ : ByteArray).data.toList = 36 by decide +kernel, len_one (by decide) (by omega)]; omega
  have := GCD_yes (⟨#[56, 52]⟩ : ByteArray) (⟨#[51, 54]⟩ : ByteArray) (by decide +kernel) (by decide +kernel) (by decide) (by decide) (CommonOk.short h1 h2) w h
  rw [st_num (l := [49, 50]) (by decide +kernel) (by decide +kernel)] at this
  exact this
theorem ex_root (w : World) (h : Tb w) : Calls Tryz.prog 21 #[.string ⟨#[57, 57]⟩] w fun e w' => e = .returned (.tuple #[.string ⟨#[57]⟩, .int .i64 0]) ∧ Below w.heap.size w w' := by
  have hB := BB_eq
  have hv : dval (⟨#[57, 57]⟩ : ByteArray).data.toList = 99 := by decide +kernel
  have hp : 2 ^ ((Lib.bitLen 99 + 1) / 2) ≤ 2 ^ 5 := Nat.pow_le_pow_right (by decide) (by have := Lib.bitLen_le 99 8 (by decide) (by decide); omega)
  have hok : RootOk 99 := RootOk.one (len_one (by decide) (by omega)) (fun g ha hg => by
    have hq := Nat.div_le_self 99 g
    generalize 99 / g = q at *
    have hg1 : (digs g).length = 1 := len_one (by have := ha.1; omega) (by omega)
    have hq1 : (digs q).length ≤ 1 := digs_length_le (by rw [Nat.pow_one]; omega)
    exact add_any g q (Or.inl (by have := ha.1; omega)) (by omega) (by omega))
  refine (Root_yes (⟨#[57, 57]⟩ : ByteArray) (by decide +kernel) (by decide) (by rw [hv]; exact hok) w h).mono ?_
  rintro e w' ⟨s, rfl, h1, h2, hb⟩
  rw [hv] at h1 h2
  have hs : s = 9 := by
    have g1 : s < 10 := by
      rcases Nat.lt_or_ge s 10 with g | g
      · exact g
      · have := Nat.mul_le_mul g g; omega
    have g2 : 9 ≤ s := by
      rcases Nat.lt_or_ge s 9 with g | g
      · have := Nat.mul_le_mul (show s + 1 ≤ 9 by omega) (show s + 1 ≤ 9 by omega); omega
      · exact g
    omega
  subst hs
  rw [st_num (l := [57]) (by decide +kernel) (by decide +kernel)]
  exact ⟨rfl, hb⟩
theorem ex_pow (w : World) (h : Tb w) : Calls Tryz.prog 23 #[.string ⟨#[49, 48]⟩, .int .i64 20] w fun e w' => e = .returned (.tuple #[.string ⟨#[49, 48, 48, 48, 48, 48, 48, 48, 48, 48, 48, 48, 48, 48, 48, 48, 48, 48, 48, 48, 48]⟩, .int .i64 0]) ∧ Below w.heap.size w w' := by
  have := Pow_yes (⟨#[49, 48]⟩ : ByteArray) 20 (by decide +kernel) (by decide) (by decide) w h
  rw [st_num (l := [49, 48, 48, 48, 48, 48, 48, 48, 48, 48, 48, 48, 48, 48, 48, 48, 48, 48, 48, 48, 48]) (by decide +kernel) (by decide +kernel)] at this
  exact this
theorem ex_mul (w : World) (h : Tb w) : Calls Tryz.prog 15 #[.string ⟨#[57, 57, 57, 57, 57]⟩, .string ⟨#[57, 57, 57, 57, 57]⟩] w fun e w' => e = .returned (.tuple #[.string ⟨#[57, 57, 57, 57, 56, 48, 48, 48, 48, 49]⟩, .int .i64 0]) ∧ Below w.heap.size w w' := by
  have := Mul_yes (⟨#[57, 57, 57, 57, 57]⟩ : ByteArray) (⟨#[57, 57, 57, 57, 57]⟩ : ByteArray) (by decide +kernel) (by decide +kernel) (by decide) (by decide) w h
  rw [st_num (l := [57, 57, 57, 57, 56, 48, 48, 48, 48, 49]) (by decide +kernel) (by decide +kernel)] at this
  exact this
theorem ex_sub (w : World) (h : Tb w) : Calls Tryz.prog 13 #[.string ⟨#[49, 48, 48, 48]⟩, .string ⟨#[49]⟩] w fun e w' => e = .returned (.tuple #[.string ⟨#[57, 57, 57]⟩, .int .i64 0]) ∧ Below w.heap.size w w' := by
  have := Sub_yes (⟨#[49, 48, 48, 48]⟩ : ByteArray) (⟨#[49]⟩ : ByteArray) (by decide +kernel) (by decide +kernel) (by decide +kernel) (by decide) (by decide) w h
  rw [st_num (l := [57, 57, 57]) (by decide +kernel) (by decide +kernel)] at this
  exact this
theorem ex_compare (w : World) : Calls Tryz.prog 49 #[.string ⟨#[49, 48]⟩, .string ⟨#[57]⟩] w fun e w' => e = .returned (.tuple #[.int .i64 1, .int .i64 0]) ∧ w = w' := by
  have := Compare_yes (⟨#[49, 48]⟩ : ByteArray) (⟨#[57]⟩ : ByteArray) (by decide +kernel) (by decide +kernel) (by decide) (by decide) w
  rw [show cmpN (dval (⟨#[49, 48]⟩ : ByteArray).data.toList) (dval (⟨#[57]⟩ : ByteArray).data.toList) = 1 by decide +kernel] at this
  exact this
theorem ex_v1 (w : World) : Calls Tryz.prog 50 #[.string ⟨#[48, 48, 55]⟩] w fun e w' => e = .returned (.bool false) ∧ w = w' := Valid_no _ (by decide +kernel) (by decide) w
theorem ex_v2 (w : World) : Calls Tryz.prog 50 #[.string ⟨#[]⟩] w fun e w' => e = .returned (.bool false) ∧ w = w' := Valid_no _ (by decide +kernel) (by decide) w
theorem ex_v3 (w : World) : Calls Tryz.prog 50 #[.string ⟨#[48]⟩] w fun e w' => e = .returned (.bool true) ∧ w = w' := Valid_yes _ (by decide +kernel) (by decide) w

set_option maxHeartbeats 2000000 in
set_option maxRecDepth 100000 in
theorem awake_any (w : World) (htab : Tb w) : Calls Tryz.prog 9 #[] w fun e w' => e = .returned (.bool true) ∧ Below w.heap.size w w' := by
  have HT := Lib.hid htab
  clear htab
  go_enter Tryz.func9, Tryz.ntmps9
  go_wp2_with fail
  refine (ex_add _ HT.out).mono ?_
  rintro e w1 ⟨rfl, hb1⟩
  have HB1 := Lib.hid hb1
  clear hb1
  go_wp2_with fail
  refine (ex_divmod _ (HT.out.on HB1.out)).mono ?_
  rintro e w2 ⟨rfl, hb2⟩
  have HB2 := Lib.hid (HB1.out.trans (hb2.mono HB1.out.size))
  clear hb2
  go_wp2_with fail
  refine (ex_gcd _ (HT.out.on HB2.out)).mono ?_
  rintro e w3 ⟨rfl, hb3⟩
  have HB3 := Lib.hid (HB2.out.trans (hb3.mono HB2.out.size))
  clear hb3
  go_wp2_with fail
  refine (ex_root _ (HT.out.on HB3.out)).mono ?_
  rintro e w4 ⟨rfl, hb4⟩
  have HB4 := Lib.hid (HB3.out.trans (hb4.mono HB3.out.size))
  clear hb4
  go_wp2_with fail
  refine (ex_pow _ (HT.out.on HB4.out)).mono ?_
  rintro e w5 ⟨rfl, hb5⟩
  have HB5 := Lib.hid (HB4.out.trans (hb5.mono HB4.out.size))
  clear hb5
  go_wp2_with fail
  refine (ex_mul _ (HT.out.on HB5.out)).mono ?_
  rintro e w6 ⟨rfl, hb6⟩
  have HB6 := Lib.hid (HB5.out.trans (hb6.mono HB5.out.size))
  clear hb6
  go_wp2_with fail
  refine (ex_sub _ (HT.out.on HB6.out)).mono ?_
  rintro e w7 ⟨rfl, hb7⟩
  have HB7 := Lib.hid (HB6.out.trans (hb7.mono HB6.out.size))
  clear hb7
  go_wp2_with fail
  refine (ex_compare _).mono ?_
  rintro e w' ⟨rfl, rfl⟩
  go_wp2_with fail
  go_ways
  refine (ex_v1 _).mono ?_
  rintro e w' ⟨rfl, rfl⟩
  go_wp2_with fail
  refine (ex_v2 _).mono ?_
  rintro e w' ⟨rfl, rfl⟩
  go_wp2_with fail
  refine (ex_v3 _).mono ?_
  rintro e w' ⟨rfl, rfl⟩
  go_wp2
  go_ret
  exact ⟨rfl, HB7.out⟩

end Go.Proofs.YtgbcjlknlagoeaaGreatDoor
