/- Plain facts about square roots of long numbers. No program is mentioned. -/
import Derived.Test.YtgbcjlknlagoeaaGreatDoorMna
namespace Go.Gb

theorem digs_drop (k : Nat) : ∀ x : Nat, (digs x).drop k = digs (x / BB ^ k) := by
  induction k with
  | zero => intro x; simp
  | succ k ih =>
    intro x
    by_cases h : x = 0
    · subst h; rw [digs_zero]; simp [digs_zero]
    · rw [digs_pos h, List.drop_succ_cons, ih, Nat.div_div_eq_div_mul, Nat.pow_succ, Nat.mul_comm BB]
theorem digs_shift {m : Nat} (hm : m ≠ 0) (d : Nat) : digs (m * BB ^ d) = List.replicate d 0 ++ digs m := by
  induction d with
  | zero => simp
  | succ d ih =>
    have h : m * BB ^ d ≠ 0 := Nat.ne_of_gt (Nat.mul_pos (by omega) (Nat.pow_pos BB_pos))
    have := digs_cons (w := 0) (n := m * BB ^ d) BB_pos (Or.inr h)
    rw [Nat.zero_add] at this
    rw [Nat.pow_succ, ← Nat.mul_assoc, Nat.mul_comm _ BB, this, ih, List.replicate_succ, List.cons_append]
/-- A guess from the root of the highest words. -/
theorem above_high {x s d : Nat} (h : x / BB ^ (2 * d) < (s + 1) * (s + 1)) : x < ((s + 1) * BB ^ d + 1) * ((s + 1) * BB ^ d + 1) := by
  have hp : 0 < BB ^ (2 * d) := Nat.pow_pos BB_pos
  have h1 : x < (s + 1) * (s + 1) * BB ^ (2 * d) := by
    rw [Nat.div_lt_iff_lt_mul hp] at h; exact h
  have e : (s + 1) * (s + 1) * BB ^ (2 * d) = (s + 1) * BB ^ d * ((s + 1) * BB ^ d) := by
    rw [Nat.two_mul, Nat.pow_add]; ac_rfl
  have h2 : (s + 1) * BB ^ d * ((s + 1) * BB ^ d) ≤ ((s + 1) * BB ^ d + 1) * ((s + 1) * BB ^ d + 1) := Nat.mul_le_mul (by omega) (by omega)
  omega
end Go.Gb
