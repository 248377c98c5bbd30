/- integer: differences, products, comparison of numbers as structs: walks. -/
import Derived.Test.YtpdchplppkfdhaaGreatDoorIe
namespace Go.Proofs.YtpdchplppkfdhaaGreatDoor
open Go.RowKit Go.Gb

set_option maxHeartbeats 2000000 in
set_option maxRecDepth 100000 in
theorem subtract_walk (s t t' r : Int) (b c d : ByteArray) (w : World)
    (hneg : ∀ W, Calls Tryz.prog 86 #[.agg #[.int .i64 t, .string c]] W fun e w' => e = .returned (.agg #[.int .i64 t', .string c]) ∧ Below W.heap.size W w')
    (hadd : ∀ W, Below w.heap.size w W → Calls Tryz.prog 95 #[.agg #[.int .i64 s, .string b], .agg #[.int .i64 t', .string c]] W fun e w' => e = .returned (.agg #[.int .i64 r, .string d]) ∧ Below W.heap.size W w') :
    Calls Tryz.prog 97 #[.agg #[.int .i64 s, .string b], .agg #[.int .i64 t, .string c]] w fun e w' => e = .returned (.agg #[.int .i64 r, .string d]) ∧ Below w.heap.size w w' := by
  have HN := Lib.hid hneg
  have HA := Lib.hid hadd
  clear hneg hadd
  have hb0 := ((((Below.refl w.heap.size w).alloc (Nat.le_refl _) (.cells #[.int .i64 s, .string b] 68)).alloc (by simp) (.cells #[.int .i64 t, .string c] 68)).alloc (by simp; omega) (.cells #[.int .i64 0, .string ⟨#[]⟩] 68))
  have HB0 := Lib.hid hb0
  clear hb0
  go_enter Tryz.func97, Tryz.ntmps97
  go_wp2
  go_region_with (first | (go_at_call 86; go_must (refine (HN.out _).mono ?_; rintro e w1 ⟨rfl, hb1⟩; obtain ⟨hc1, hf1⟩ := bcell hb1; have HB1 : Below w.heap.size w w1 := (by first | exact HB0.out.trans (hb1.mono HB0.out.size) | exact HB0.out.drew.trans (hb1.mono HB0.out.drew.size)); have hz1 : w.heap.size + 2 < w1.heap.size := (by have := hb1.size; (try simp at this); omega); have q1 : w.heap.size < w1.heap.size := (by omega); have q2 : w.heap.size + 1 < w1.heap.size := (by omega); have q3 : w.heap.size + 1 + 1 < w1.heap.size := (by omega))) | (go_at_call 95; go_must (refine (HA.out _ HB1).mono ?_; rintro e w2 ⟨rfl, hb2⟩; obtain ⟨hc2, hf2⟩ := bcell hb2; have HB2 : Below w.heap.size w w2 := HB1.trans (hb2.mono HB1.size); have hz2 : w.heap.size + 2 < w2.heap.size := (by have := hb2.size; omega))))
  all_goals
    clear hb1 hb2
    go_wp2
    refine bodyPost_ret (v := .agg #[.int .i64 r, .string d]) (by simp [results, Tryz.results97, go_sem, hc1, hc2, q3]) rfl ⟨rfl, ?_⟩
    repeat (first | exact HB2 | refine Below.setCell ?_ (by first | omega | (simp; omega) | simp) _ | refine Below.drew ?_)
theorem zsubtract (x y : Int) (hx : FitZ x) (hy : FitZ y) (w : World) (hl : La w) :
    Calls Tryz.prog 97 #[Zv x, Zv y] w fun e w' => e = .returned (Zv (x - y)) ∧ Below w.heap.size w w' := by
  have hn := fun W => negative_any y W
  have ha := fun W (hW : Below w.heap.size w W) => add_any' x (-y) hx (by unfold FitZ; rw [Int.natAbs_neg]; exact hy) W (hl.on hW)
  rw [Int.sub_eq_add_neg]
  unfold Zv at *
  rw [Int.natAbs_neg] at hn ha
  exact subtract_walk _ _ _ _ _ _ _ w hn ha
theorem multiply_any (x y : Int) (hx : FitZ x) (hy : FitZ y) (w : World) (hl : La w) :
    Calls Tryz.prog 99 #[Zv x, Zv y] w fun e w' => e = .returned (Zv (x * y)) ∧ Below w.heap.size w w' := by
  have h := multiply_raw x.sign y.sign (x * y).sign x.natAbs y.natAbs (x * y).natAbs (Int.sign_mul x y).symm (Int.natAbs_mul x y).symm (by rcases Int.sign_trichotomy (x * y) with h | h | h <;> omega) hx hy w hl.tb
  exact h

/-! ### comparison -/
def cmpZ (x y : Int) : Int := if x < y then -1 else if y < x then 1 else 0
theorem cmpZ_lt {x y : Int} (h : x < y) : cmpZ x y = -1 := by unfold cmpZ; rw [if_pos h]
theorem cmpZ_gt {x y : Int} (h : y < x) : cmpZ x y = 1 := by unfold cmpZ; rw [if_neg (by omega), if_pos h]
theorem cmpZ_eq (x : Int) : cmpZ x x = 0 := by unfold cmpZ; rw [if_neg (by omega), if_neg (by omega)]
set_option maxHeartbeats 1000000 in
theorem compare_same (s : Int) (b : ByteArray) (w : World) :
    Calls Tryz.prog 91 #[.agg #[.int .i64 s, .string b], .agg #[.int .i64 s, .string b]] w fun e w' => e = .returned (.int .i64 0) ∧ Below w.heap.size w w' := by
  go_enter Tryz.func91, Tryz.ntmps91
  go_wp2
  go_ret
  refine ⟨rfl, ?_⟩
  repeat (first | exact Below.refl _ _ | refine Below.alloc ?_ (by simp) _)
set_option maxHeartbeats 1000000 in
theorem compare_signs (s t r : Int) (b c : ByteArray) (hst : s ≠ t) (hr : Lib.compareInt s t = r) (w : World) :
    Calls Tryz.prog 91 #[.agg #[.int .i64 s, .string b], .agg #[.int .i64 t, .string c]] w fun e w' => e = .returned (.int .i64 r) ∧ Below w.heap.size w w' := by
  have HC := Lib.hid (fun (W : World) => Tryz.cmp_Compare_int s t W)
  rw [hr] at HC
  have h1 : (s == t) = false := by simpa using hst
  clear hr
  go_enter Tryz.func91, Tryz.ntmps91
  go_wp2_with fail
  refine (HC.out _).mono ?_
  rintro e w' ⟨rfl, rfl⟩
  go_wp2
  go_ret
  refine ⟨rfl, ?_⟩
  repeat (first | exact Below.refl _ _ | refine Below.alloc ?_ (by simp) _)
set_option maxHeartbeats 1000000 in
theorem compare_sizes (s r : Int) (m n : Nat) (hmn : m ≠ n) (hr : cmpN m n * s = r) (h1 : -1 ≤ r) (h2 : r ≤ 1) (hm : Fit m) (hn : Fit n) (w : World) :
    Calls Tryz.prog 91 #[Zr s m, Zr s n] w fun e w' => e = .returned (.int .i64 r) ∧ Below w.heap.size w w' := by
  have HC := Lib.hid (fun (W : World) => nCompare m n hm hn W)
  have hne := sn_neq hmn
  unfold Zr
  generalize cmpN m n = cc at *
  clear hm hn
  go_enter Tryz.func91, Tryz.ntmps91
  go_wp2_with fail
  refine (HC.out _).mono ?_
  rintro e w' ⟨rfl, rfl⟩
  go_wp2
  go_ret
  refine ⟨rfl, ?_⟩
  repeat (first | exact Below.refl _ _ | refine Below.alloc ?_ (by simp) _)
theorem compare_any (x y : Int) (hx : FitZ x) (hy : FitZ y) (w : World) :
    Calls Tryz.prog 91 #[Zv x, Zv y] w fun e w' => e = .returned (.int .i64 (cmpZ x y)) ∧ Below w.heap.size w w' := by
  by_cases hxy : x = y
  · subst hxy
    rw [cmpZ_eq]
    exact compare_same _ _ w
  · by_cases hs : x.sign = y.sign
    · rcases int_cases x with ⟨m, hm, rfl⟩ | rfl | ⟨m, hm, rfl⟩
      · rcases int_cases y with ⟨n, hn, rfl⟩ | rfl | ⟨n, hn, rfl⟩
        · rw [zv_neg hm, zv_neg hn]
          rcases Nat.lt_or_gt_of_ne (show m ≠ n by omega) with h | h
          · rw [cmpZ_gt (by omega)]
            exact compare_sizes (-1) 1 m n (by omega) (by rw [cmpN_lt h]; rfl) (by decide) (by decide) hx.neg hy.neg w
          · rw [cmpZ_lt (by omega)]
            exact compare_sizes (-1) (-1) m n (by omega) (by rw [cmpN_gt h]; rfl) (by decide) (by decide) hx.neg hy.neg w
        · rw [Int.sign_neg, Int.sign_natCast_of_ne_zero hm] at hs; simp at hs
        · rw [Int.sign_neg, Int.sign_natCast_of_ne_zero hm, Int.sign_natCast_of_ne_zero hn] at hs; simp at hs
      · rw [Int.sign_zero] at hs
        exact absurd (Int.sign_eq_zero_iff_zero.1 hs.symm).symm hxy
      · rcases int_cases y with ⟨n, hn, rfl⟩ | rfl | ⟨n, hn, rfl⟩
        · rw [Int.sign_neg, Int.sign_natCast_of_ne_zero hm, Int.sign_natCast_of_ne_zero hn] at hs; simp at hs
        · rw [Int.sign_natCast_of_ne_zero hm] at hs; simp at hs
        · rw [zv_pos hm, zv_pos hn]
          rcases Nat.lt_or_gt_of_ne (show m ≠ n by omega) with h | h
          · rw [cmpZ_lt (by omega)]
            exact compare_sizes 1 (-1) m n (by omega) (by rw [cmpN_lt h]; rfl) (by decide) (by decide) hx.nat hy.nat w
          · rw [cmpZ_gt (by omega)]
            exact compare_sizes 1 1 m n (by omega) (by rw [cmpN_gt h]; rfl) (by decide) (by decide) hx.nat hy.nat w
    · refine compare_signs _ _ (cmpZ x y) _ _ hs ?_ w
      unfold Lib.compareInt cmpZ
      rcases Int.sign_trichotomy x with h1 | h1 | h1 <;> rcases Int.sign_trichotomy y with h2 | h2 | h2 <;> rw [h1, h2] at hs ⊢
      all_goals first | exact absurd rfl hs | skip
      all_goals
        have g1 := @Int.sign_eq_one_iff_pos x
        have g2 := @Int.sign_eq_neg_one_iff_neg x
        have g3 := @Int.sign_eq_zero_iff_zero x
        have k1 := @Int.sign_eq_one_iff_pos y
        have k2 := @Int.sign_eq_neg_one_iff_neg y
        have k3 := @Int.sign_eq_zero_iff_zero y
        rw [h1] at g1 g2 g3
        rw [h2] at k1 k2 k3
        simp at g1 g2 g3 k1 k2 k3
        repeat (first | rw [if_pos (by omega)] | rw [if_neg (by omega)])

end Go.Proofs.YtpdchplppkfdhaaGreatDoor
