/- Plain facts about Euclid's algorithm with its factors. No program is mentioned. -/
import Derived.Test.YtpdchplppkfdhaaDoorNumC
namespace Go.Gb

def EuInv (x0 y0 x y a b c d : Nat) (o : Bool) : Prop :=
  x0 = d * x + b * y ∧ y0 = c * x + a * y ∧ Nat.gcd x y = Nat.gcd x0 y0 ∧ (o = true → b * y0 = a * x0 + x ∧ c * x0 = d * y0 + y) ∧ (o = false → a * x0 = b * y0 + x ∧ d * y0 = c * x0 + y)
theorem EuInv.start (x y : Nat) : EuInv x y x y 1 0 0 1 false := by
  refine ⟨by omega, by omega, rfl, ?_, ?_⟩
  · intro h; cases h
  · intro _; constructor <;> omega
theorem EuInv.step {x0 y0 x y a b c d : Nat} {o : Bool} (h : EuInv x0 y0 x y a b c d o) : EuInv x0 y0 y (x % y) c d (a + x / y * c) (b + x / y * d) (!o) := by
  obtain ⟨h1, h2, h3, h4, h5⟩ := h
  have hx := Nat.div_add_mod x y
  generalize x / y = q at *
  have h6 : Nat.gcd y (x % y) = Nat.gcd x0 y0 := by rw [← h3, Nat.gcd_comm y, ← Nat.gcd_rec, Nat.gcd_comm]
  generalize x % y = r at *
  refine ⟨?_, ?_, h6, fun ho => ?_, fun ho => ?_⟩
  · grind
  · grind
  · have := h5 (by cases o <;> simp_all)
    grind
  · have := h4 (by cases o <;> simp_all)
    grind
/-- The factors are not greater than the numbers. -/
theorem EuInv.bound {x0 y0 x y a b c d : Nat} {o : Bool} (h : EuInv x0 y0 x y a b c d o) (hx : 0 < x) : d ≤ x0 ∧ c ≤ y0 := by
  obtain ⟨h1, h2, _⟩ := h
  have g1 : d * 1 ≤ d * x := Nat.mul_le_mul_left _ hx
  have g2 : c * 1 ≤ c * x := Nat.mul_le_mul_left _ hx
  omega

end Go.Gb
