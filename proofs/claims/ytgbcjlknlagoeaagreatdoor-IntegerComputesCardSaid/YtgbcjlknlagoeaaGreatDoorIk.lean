/- integer.DivMod: walks. -/
import Derived.Test.YtgbcjlknlagoeaaGreatDoorIj
namespace Go.Proofs.YtgbcjlknlagoeaaGreatDoor
open Go.RowKit Go.Gb

set_option maxHeartbeats 2000000 in
set_option maxRecDepth 100000 in
theorem divMod_walk (a1 a2 : ByteArray) (s t q1 q2 : Int) (b c d1 d2 r1 r2 : ByteArray) (ht : t ≠ 0) (w : World) (hl : Zz w)
    (hread : Calls Tryz.prog 84 #[.string a1, .string a2] w fun e w' => e = .returned (.tuple #[.agg #[.int .i64 s, .string b], .agg #[.int .i64 t, .string c], .bool true]) ∧ Below w.heap.size w w')
    (hop : ∀ W, Below w.heap.size w W → Calls Tryz.prog 95 #[.agg #[.int .i64 s, .string b], .agg #[.int .i64 t, .string c]] W fun e w' => e = .returned (.tuple #[.agg #[.int .i64 q1, .string d1], .agg #[.int .i64 q2, .string d2]]) ∧ Below W.heap.size W w')
    (hs1 : ∀ W, Calls Tryz.prog 81 #[.agg #[.int .i64 q1, .string d1]] W fun e w' => e = .returned (.string r1) ∧ Below W.heap.size W w')
    (hs2 : ∀ W, Calls Tryz.prog 81 #[.agg #[.int .i64 q2, .string d2]] W fun e w' => e = .returned (.string r2) ∧ Below W.heap.size W w') :
    Calls Tryz.prog 45 #[.string a1, .string a2] w fun e w' => e = .returned (.tuple #[.string r1, .string r2, .int .i64 0]) ∧ Below w.heap.size w w' := by
  have HR := Lib.hid hread
  have HO := Lib.hid hop
  have HS1 := Lib.hid hs1
  have HS2 := Lib.hid hs2
  have HZ := Lib.hid hl
  have ht1 : (t == 0) = false := by simpa using ht
  clear hread hop hs1 hs2 hl
  go_enter Tryz.func45, Tryz.ntmps45
  go_wp2_with fail
  refine HR.out.mono ?_
  rintro e w1 ⟨rfl, hb1⟩
  have HB1 := Lib.hid ((hb1.alloc hb1.size (.cells #[.int .i64 s, .string b] 66)).alloc (by have := hb1.size; simp; omega) (.cells #[.int .i64 t, .string c] 66))
  obtain ⟨z0, z1, z2⟩ := HZ.out.on HB1.out
  clear hb1
  go_wp2_with fail
  refine (HO.out _ HB1.out).mono ?_
  rintro e w2 ⟨rfl, hb2⟩
  have HB2 := Lib.hid (((HB1.out.trans (hb2.mono HB1.out.size)).alloc (HB1.out.trans (hb2.mono HB1.out.size)).size (.cells #[.int .i64 q1, .string d1] 66)).alloc (by have := (HB1.out.trans (hb2.mono HB1.out.size)).size; simp; omega) (.cells #[.int .i64 q2, .string d2] 66))
  clear hb2 z0 z1 z2
  go_wp2
  go_region_with (first | (go_at_call 81; (with_reducible refine (HS1.out _).mono ?_); rintro e w3 ⟨rfl, hb3⟩; have HB3 : Below w.heap.size w w3 := (by first | exact HB2.out.trans (hb3.mono HB2.out.size) | exact HB2.out.drew.trans (hb3.mono HB2.out.drew.size)); obtain ⟨hc3, hf3⟩ := bcell hb3) | (go_at_call 81; (with_reducible refine (HS2.out _).mono ?_); rintro e w4 ⟨rfl, hb4⟩; have HB4 : Below w.heap.size w w4 := (HB3.trans (hb4.mono HB3.size))))
  all_goals
    clear hb3 hb4
    go_wp2
    go_ret3
    exact ⟨rfl, HB4⟩

set_option maxHeartbeats 1000000 in
theorem divMod_zero_walk (a1 a2 : ByteArray) (s : Int) (b : ByteArray) (w : World) (hl : Zz w)
    (hread : Calls Tryz.prog 84 #[.string a1, .string a2] w fun e w' => e = .returned (.tuple #[.agg #[.int .i64 s, .string b], .agg #[.int .i64 0, .string ⟨#[48]⟩], .bool true]) ∧ Below w.heap.size w w') :
    Calls Tryz.prog 45 #[.string a1, .string a2] w fun e w' => e = .returned (.tuple #[.string ⟨#[]⟩, .string ⟨#[]⟩, .int .i64 16]) ∧ Below w.heap.size w w' := by
  have HR := Lib.hid hread
  have HZ := Lib.hid hl
  clear hread hl
  go_enter Tryz.func45, Tryz.ntmps45
  go_wp2_with fail
  refine HR.out.mono ?_
  rintro e w1 ⟨rfl, hb1⟩
  have HB1 := Lib.hid ((hb1.alloc hb1.size (.cells #[.int .i64 s, .string b] 66)).alloc (by have := hb1.size; simp; omega) (.cells #[.int .i64 0, .string ⟨#[48]⟩] 66))
  obtain ⟨z0, z1, z2⟩ := HZ.out.on HB1.out
  clear hb1
  go_wp2
  go_ret3
  exact ⟨rfl, HB1.out⟩
set_option maxHeartbeats 1000000 in
theorem zDivMod_no (a b : ByteArray) (h : (vldZ a.data.toList && vldZ b.data.toList) = false) (ha : a.size ≤ 1000) (hb : b.size ≤ 1000) (w : World) (hl : La w) :
    Calls Tryz.prog 45 #[.string a, .string b] w fun e w' => e = .returned (.tuple #[.string ⟨#[]⟩, .string ⟨#[]⟩, .int .i64 1]) ∧ Below w.heap.size w w' := by
  have HR := Lib.hid (readBoth_no a b h ha hb w hl.zz)
  clear hl h
  go_enter Tryz.func45, Tryz.ntmps45
  go_wp2_with fail
  refine HR.out.mono ?_
  rintro e w1 ⟨s, t, b, c, rfl, hb1⟩
  have HB1 := Lib.hid ((hb1.alloc hb1.size (.cells #[.int .i64 s, .string b] 66)).alloc (by have := hb1.size; simp; omega) (.cells #[.int .i64 t, .string c] 66))
  clear hb1
  go_wp2
  go_ret3
  exact ⟨rfl, HB1.out⟩

theorem div_formula (x y : Int) (hy : y ≠ 0) (Q R : Int) (hQ : Q = if 0 ≤ x ∨ x.natAbs % y.natAbs = 0 then x.sign * (y.sign * ((x.natAbs / y.natAbs : Nat) : Int)) else -(y.sign * ((x.natAbs / y.natAbs : Nat) : Int)) - y.sign)
    (hR : R = if 0 ≤ x ∨ x.natAbs % y.natAbs = 0 then ((x.natAbs % y.natAbs : Nat) : Int) else (y.natAbs : Int) - ((x.natAbs % y.natAbs : Nat) : Int)) :
    R + y * Q = x ∧ 0 ≤ R ∧ R < (y.natAbs : Int) := by
  have hn : 0 < y.natAbs := by omega
  have hdm := Nat.div_add_mod x.natAbs y.natAbs
  have hml := Nat.mod_lt x.natAbs hn
  have hp : (y.natAbs : Int) * ((x.natAbs / y.natAbs : Nat) : Int) + ((x.natAbs % y.natAbs : Nat) : Int) = (x.natAbs : Int) := by
    rw [← Int.natCast_mul, ← Int.natCast_add, hdm]
  generalize hk : x.natAbs / y.natAbs = k at *
  generalize hr : x.natAbs % y.natAbs = r at *
  have ys : (y.sign = 1 ∧ y = (y.natAbs : Int)) ∨ (y.sign = -1 ∧ y = -(y.natAbs : Int)) := by
    rcases int_cases y with ⟨n, hn2, rfl⟩ | rfl | ⟨n, hn2, rfl⟩
    · right; rw [Int.sign_neg, Int.sign_natCast_of_ne_zero hn2]; simp
    · exact absurd rfl hy
    · left; rw [Int.sign_natCast_of_ne_zero hn2]; simp
  have xs : (x.sign = 1 ∧ x = (x.natAbs : Int) ∧ 0 ≤ x) ∨ (x.sign = 0 ∧ x = 0 ∧ x.natAbs = 0) ∨ (x.sign = -1 ∧ x = -(x.natAbs : Int) ∧ ¬ 0 ≤ x) := by
    rcases int_cases x with ⟨n, hn, rfl⟩ | rfl | ⟨n, hn, rfl⟩
    · right; right; rw [Int.sign_neg, Int.sign_natCast_of_ne_zero hn]; simp; omega
    · right; left; simp
    · left; rw [Int.sign_natCast_of_ne_zero hn]; simp
  generalize y.natAbs = n at *
  generalize x.natAbs = m at *
  rcases ys with ⟨e1, e2⟩ | ⟨e1, e2⟩ <;> rcases xs with ⟨f1, f2, f3⟩ | ⟨f1, f2, f3⟩ | ⟨f1, f2, f3⟩
  all_goals
    rw [e1] at hQ
    rw [f1] at hQ
    by_cases hc : 0 ≤ x ∨ r = 0
    · rw [if_pos hc] at hQ hR
      refine ⟨by rw [hQ, hR]; first | grind | (rcases hc with hc | hc <;> grind), by omega, by omega⟩
    · rw [if_neg hc] at hQ hR
      refine ⟨by rw [hQ, hR]; grind, by omega, by omega⟩
theorem div_of_formula (x y : Int) (hy : y ≠ 0) (Q R : Int) (h : R + y * Q = x ∧ 0 ≤ R ∧ R < (y.natAbs : Int)) : x / y = Q ∧ x % y = R := by
  rcases Int.lt_or_gt_of_ne hy with h0 | h0
  · exact (Int.ediv_emod_unique' h0).2 ⟨h.1, h.2.1, by omega⟩
  · exact (Int.ediv_emod_unique h0).2 ⟨h.1, h.2.1, by omega⟩

theorem Fit.le {m n : Nat} (h : Fit n) (hm : m ≤ n) : Fit m := by unfold Fit at *; exact Sm.le h hm
theorem fitZ_le {x : Int} {n : Nat} (h : Fit n) (hx : x.natAbs ≤ n) : FitZ x := by unfold FitZ; exact Fit.le h hx
/-- DivMod by Euclid's quotient and remainder. -/
theorem divide_e (x y q r : Int) (hy : y ≠ 0) (hq : x / y = q) (hr : x % y = r) (fx : FitZ x) (fy : FitZ y) (fq : Fit (x.natAbs + 1)) (w : World) (hl : La w) :
    Calls Tryz.prog 95 #[Zv x, Zv y] w fun e w' => e = .returned (.tuple #[Zv q, Zv r]) ∧ Below w.heap.size w w' := by
  have h := div_of_formula x y hy _ _ (div_formula x y hy _ _ rfl rfl)
  rw [hq, hr] at h
  exact divide_any' x y hy q r h.1 h.2 fx fy (Fit.le fq (Nat.succ_le_succ (Nat.div_le_self x.natAbs y.natAbs))) w hl
theorem quo_le (x y : Int) (hy : y ≠ 0) : (x / y).natAbs ≤ x.natAbs + 1 := by
  obtain ⟨h1, h2⟩ := div_of_formula x y hy _ _ (div_formula x y hy _ _ rfl rfl)
  rw [h1]
  have hk := Nat.div_le_self x.natAbs y.natAbs
  have ys := Int.sign_trichotomy y
  have xs := Int.sign_trichotomy x
  generalize x.natAbs / y.natAbs = k at *
  generalize x.natAbs % y.natAbs = r at *
  split
  · rcases ys with e | e | e <;> rcases xs with f | f | f <;> rw [e, f] <;> simp <;> omega
  · rcases ys with e | e | e <;> rw [e] <;> simp <;> omega
theorem zDivMod (x y q r : Int) (hy : y ≠ 0) (hq : x / y = q) (hr : x % y = r) (fx : FitZ x) (fy : FitZ y) (fq : Fit (x.natAbs + 1)) (w : World) (hl : La w) :
    Calls Tryz.prog 45 #[.string (Sz x), .string (Sz y)] w fun e w' => e = .returned (.tuple #[.string (Sz q), .string (Sz r), .int .i64 0]) ∧ Below w.heap.size w w' := by
  have fQ : FitZ q := by
    rw [← hq]
    exact fitZ_le fq (quo_le x y hy)
  have fR : FitZ r := by
    have hf := div_formula x y hy _ _ rfl rfl
    have he := (div_of_formula x y hy _ _ hf).2
    rw [hr] at he
    rw [← he] at hf
    have h1 := hf.2.1
    have h2 := hf.2.2
    exact fitZ_le fy (by omega)
  have hs : y.sign ≠ 0 := fun h => hy (Int.sign_eq_zero_iff_zero.1 h)
  have h1 := readBoth_yes x y fx fy w hl.zz
  have h2 := fun W (hW : Below w.heap.size w W) => divide_e x y q r hy hq hr fx fy fq W (hl.on hW)
  have h3 := fun W => string_any q fQ W
  have h4 := fun W => string_any r fR W
  unfold Zv at h1 h2 h3 h4
  exact divMod_walk _ _ _ _ _ _ _ _ _ _ _ _ hs w hl.zz h1 h2 h3 h4
theorem zDivMod_zero (x : Int) (fx : FitZ x) (w : World) (hl : La w) :
    Calls Tryz.prog 45 #[.string (Sz x), .string ⟨#[48]⟩] w fun e w' => e = .returned (.tuple #[.string ⟨#[]⟩, .string ⟨#[]⟩, .int .i64 16]) ∧ Below w.heap.size w w' := by
  have h1 := readBoth_yes x 0 fx fit0 w hl.zz
  rw [zv_zero, show Sz 0 = ⟨#[48]⟩ from (sz_nat 0).trans sn_zero] at h1
  unfold Zv at h1
  exact divMod_zero_walk _ _ _ _ w hl.zz h1

end Go.Proofs.YtgbcjlknlagoeaaGreatDoor
