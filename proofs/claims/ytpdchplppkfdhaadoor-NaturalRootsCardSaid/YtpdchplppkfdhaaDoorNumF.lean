/- More plain facts about Lehmer's way of Euclid's algorithm: what its rounds keep. No program is mentioned. -/
import Derived.Test.YtpdchplppkfdhaaDoorNumE
namespace Go.Gb

/-- A power of ten that divides a word's base. -/
def Ten (s : Nat) : Prop := ∃ k, k ≤ 9 ∧ s = 10 ^ k
theorem Ten.one : Ten 1 := ⟨0, by omega, rfl⟩
theorem Ten.pos {s : Nat} (h : Ten s) : 0 < s := by
  obtain ⟨k, _, rfl⟩ := h
  exact Nat.pow_pos (by decide)
theorem Ten.room {s : Nat} (h : Ten s) : ∃ t, 0 < t ∧ BB = s * t := by
  obtain ⟨k, hk, rfl⟩ := h
  refine ⟨10 ^ (9 - k), Nat.pow_pos (by decide), ?_⟩
  rw [← Nat.pow_add, show k + (9 - k) = 9 by omega, BB_eq]
theorem Ten.step {s h : Nat} (hs : Ten s) (h0 : 1 ≤ h) (hlt : h * s * 10 < BB) : Ten (s * 10) := by
  obtain ⟨k, hk, rfl⟩ := hs
  refine ⟨k + 1, ?_, by rw [Nat.pow_succ]⟩
  rcases Nat.lt_or_ge k 9 with h9 | h9
  · omega
  · obtain rfl : k = 9 := by omega
    have h1 : 1 * 10 ^ 9 ≤ h * 10 ^ 9 := Nat.mul_le_mul_right _ h0
    rw [BB_eq] at hlt
    omega

/-- The linear combinations that the steps are, as integers. -/
theorem Made.even {a b c d u v f s : Nat} (h : Made a b c d false u v f s) : (a : Int) * (u : Int) + -(b : Int) * (v : Int) = (f : Int) ∧ -(c : Int) * (u : Int) + (d : Int) * (v : Int) = (s : Int) := by
  obtain ⟨e1, e2⟩ := h.1 rfl
  have f1 : (a : Int) * (u : Int) = (b : Int) * (v : Int) + (f : Int) := by exact_mod_cast e1
  have f2 : (d : Int) * (v : Int) = (c : Int) * (u : Int) + (s : Int) := by exact_mod_cast e2
  rw [Int.neg_mul, Int.neg_mul]
  omega
theorem Made.odd {a b c d u v f s : Nat} (h : Made a b c d true u v f s) : -(a : Int) * (u : Int) + (b : Int) * (v : Int) = (f : Int) ∧ (c : Int) * (u : Int) + -(d : Int) * (v : Int) = (s : Int) := by
  obtain ⟨e1, e2⟩ := h.2 rfl
  have f1 : (b : Int) * (v : Int) = (a : Int) * (u : Int) + (f : Int) := by exact_mod_cast e1
  have f2 : (c : Int) * (u : Int) = (d : Int) * (v : Int) + (s : Int) := by exact_mod_cast e2
  rw [Int.neg_mul, Int.neg_mul]
  omega

/-- What a round may be asked to keep: of the two remainders, their factors' sizes, and the sign. -/
structure Keeps (I : Nat → Nat → Nat → Nat → Bool → Prop) : Prop where
  div : ∀ F S P Q n, S ≠ 0 → I F S P Q n → I S (F % S) Q (P + F / S * Q) (!n)
  app : ∀ F S P Q n a b c d o f s, F ≠ 0 → b ≠ 0 → Made a b c d o F S f s → Dtm a b c d o → Fac a b c d → s ≤ f → I F S P Q n → I f s (a * P + b * Q) (c * P + d * Q) (n != o)
  len : ∀ F S P Q n, I F S P Q n → (digs F).length ≤ 80000 ∧ (digs S).length ≤ 80000 ∧ (digs P).length ≤ 80000 ∧ (digs Q).length ≤ 80000

/-- Common: there are no factors. -/
def CmI (N F S P Q : Nat) (_ : Bool) : Prop := F + S ≤ N ∧ P = 0 ∧ Q = 0
theorem Made.sum {a b c d u v f s : Nat} {o : Bool} (h : Made a b c d o u v f s) (hd : Dtm a b c d o) (hs : Fac a b c d) (hb : b ≠ 0) (hu : u ≠ 0) (hfs : s ≤ f) {N : Nat} (hN : u + v ≤ N) : f + s ≤ N := by
  have := h.less hd hs hb hu hfs; omega
theorem CmI.keeps {N : Nat} (hN : (digs N).length ≤ 80000) : Keeps (CmI N) := by
  refine ⟨?_, ?_, ?_⟩
  · rintro F S P Q n hS ⟨h1, rfl, rfl⟩
    have h2 := Nat.mod_le F S
    exact ⟨by omega, rfl, by simp⟩
  · rintro F S P Q n a b c d o f s hF hb hm hd hf hsf ⟨h1, rfl, rfl⟩
    exact ⟨hm.sum hd hf hb hF hsf h1, by simp, by simp⟩
  · rintro F S P Q n ⟨h1, rfl, rfl⟩
    have l1 := digs_length_mono (show F ≤ N by omega)
    have l2 := digs_length_mono (show S ≤ N by omega)
    rw [digs_zero]
    simp only [List.length_nil]
    omega

/-- Combine: the sizes of the factors, and that they give the remainders. -/
def CbI (X Y N F S P Q : Nat) (n : Bool) : Prop :=
  F + S ≤ N ∧ P * S + Q * F = Y ∧ Q ≤ Y ∧ P ≤ Y + 1 ∧ (∃ k : Int, (if n then -(P : Int) else (P : Int)) * (X : Int) = (F : Int) + k * (Y : Int)) ∧ (∃ k : Int, (if n then (Q : Int) else -(Q : Int)) * (X : Int) = (S : Int) + k * (Y : Int))
theorem CbI.start (X Y : Nat) : CbI X Y (X + Y) X Y 1 0 false := by
  refine ⟨Nat.le_refl _, by simp, by omega, by omega, ⟨0, by simp⟩, ⟨-1, by simp; omega⟩⟩
theorem le_of_prod {Q F Z Y : Nat} (h : Z + Q * F = Y) (hF : F ≠ 0) : Q ≤ Y := by
  have : Q * 1 ≤ Q * F := Nat.mul_le_mul_left _ (by omega)
  omega
theorem CbI.div {X Y N F S P Q : Nat} {n : Bool} (hS : S ≠ 0) (h : CbI X Y N F S P Q n) : CbI X Y N S (F % S) Q (P + F / S * Q) (!n) := by
  obtain ⟨h1, h2, h3, h4, ⟨k, hk⟩, ⟨l, hl⟩⟩ := h
  have hm := Nat.mod_le F S
  have hdm := Nat.div_add_mod F S
  generalize hq : F / S = q at *
  generalize hr : F % S = r at *
  have e : Q * r + (P + q * Q) * S = Y := by
    rw [← h2, ← hdm, Nat.add_mul, Nat.mul_add]
    have : q * Q * S = Q * (S * q) := by rw [Nat.mul_comm q Q, Nat.mul_assoc, Nat.mul_comm q S]
    omega
  have eI : (S : Int) * (q : Int) + (r : Int) = (F : Int) := by exact_mod_cast hdm
  refine ⟨by omega, e, le_of_prod e hS, by omega, ?_, ?_⟩
  · refine ⟨l, ?_⟩
    cases n <;> simp_all
  · refine ⟨k - q * l, ?_⟩
    have goal : ∀ (p q' : Int), p * (X : Int) = (F : Int) + k * (Y : Int) → q' * (X : Int) = (S : Int) + l * (Y : Int) → (p - (q : Int) * q') * (X : Int) = (r : Int) + (k - (q : Int) * l) * (Y : Int) := by
      intro p q' g1 g2
      rw [Int.sub_mul, Int.sub_mul, Int.mul_assoc, Int.mul_assoc, g1, g2, Int.mul_add, ← eI]
      have := Int.mul_comm (S : Int) (q : Int)
      omega
    cases n with
    | false =>
      have := goal _ _ hk hl
      simp only [Bool.not_false, if_true, Bool.false_eq_true, if_false] at *
      rw [← this]
      congr 1
      push_cast
      rw [Int.mul_neg]; omega
    | true =>
      have := goal _ _ hk hl
      simp only [Bool.not_true, if_true, Bool.false_eq_true, if_false] at *
      rw [← this]
      congr 1
      push_cast
      omega
theorem CbI.app {X Y N F S P Q : Nat} {n : Bool} {a b c d f s : Nat} {o : Bool} (hF : F ≠ 0) (hb : b ≠ 0) (hm : Made a b c d o F S f s) (hd : Dtm a b c d o) (hf : Fac a b c d) (hsf : s ≤ f) (h : CbI X Y N F S P Q n) :
    CbI X Y N f s (a * P + b * Q) (c * P + d * Q) (n != o) := by
  obtain ⟨h1, h2, h3, h4, ⟨k, hk⟩, ⟨l, hl⟩⟩ := h
  have hbk := hm.back hd
  have hf0 : f ≠ 0 := by
    rintro rfl
    obtain rfl : s = 0 := by omega
    simp at hbk
    omega
  have e : (a * P + b * Q) * s + (c * P + d * Q) * f = Y := by
    rw [← h2]
    conv => rhs; rw [hbk.1, hbk.2]
    grind
  have hle : a * P + b * Q ≤ c * P + d * Q := by
    rcases hf with ⟨_, h0, _, _⟩ | ⟨g1, g2, g3, g4, g5⟩
    · exact absurd h0 hb
    · exact Nat.add_le_add (Nat.mul_le_mul_right _ g5) (Nat.mul_le_mul_right _ g4)
  have hQ := le_of_prod e hf0
  have goal1 : ∀ (p q x y : Int), p * (X : Int) = (F : Int) + k * (Y : Int) → q * (X : Int) = (S : Int) + l * (Y : Int) → (x * p + y * q) * (X : Int) = (x * (F : Int) + y * (S : Int)) + (x * k + y * l) * (Y : Int) := by
    intro p q x y g1 g2
    rw [Int.add_mul, Int.add_mul, Int.mul_assoc, Int.mul_assoc, g1, g2, Int.mul_add, Int.mul_add, Int.mul_assoc, Int.mul_assoc]
    omega
  refine ⟨hm.sum hd hf hb hF hsf h1, e, hQ, by omega, ?_, ?_⟩
  · cases o with
    | false =>
      obtain ⟨e1, e2⟩ := hm.even
      cases n with
      | false =>
        have := goal1 _ _ (a : Int) (-(b : Int)) hk hl
        rw [e1] at this
        refine ⟨_, Eq.trans ?_ this⟩
        simp only [bne_self_eq_false, Bool.false_eq_true, if_false]
        congr 1; push_cast; rw [Int.neg_mul, Int.mul_neg, Int.neg_neg]
      | true =>
        have := goal1 _ _ (a : Int) (-(b : Int)) hk hl
        rw [e1] at this
        refine ⟨_, Eq.trans ?_ this⟩
        simp only [show (true != false) = true from rfl, if_true]
        congr 1; push_cast; rw [Int.neg_mul, Int.mul_neg]; omega
    | true =>
      obtain ⟨e1, e2⟩ := hm.odd
      cases n with
      | false =>
        have := goal1 _ _ (-(a : Int)) (b : Int) hk hl
        rw [e1] at this
        refine ⟨_, Eq.trans ?_ this⟩
        simp only [show (false != true) = true from rfl, if_true, Bool.false_eq_true, if_false]
        congr 1; push_cast; rw [Int.neg_mul, Int.mul_neg]; omega
      | true =>
        have := goal1 _ _ (-(a : Int)) (b : Int) hk hl
        rw [e1] at this
        refine ⟨_, Eq.trans ?_ this⟩
        simp only [bne_self_eq_false, Bool.false_eq_true, if_false, if_true]
        congr 1; push_cast; rw [Int.neg_mul, Int.mul_neg]; omega
  · cases o with
    | false =>
      obtain ⟨e1, e2⟩ := hm.even
      cases n with
      | false =>
        have := goal1 _ _ (-(c : Int)) (d : Int) hk hl
        rw [e2] at this
        refine ⟨_, Eq.trans ?_ this⟩
        simp only [bne_self_eq_false, Bool.false_eq_true, if_false]
        congr 1; push_cast; rw [Int.neg_mul, Int.mul_neg]; omega
      | true =>
        have := goal1 _ _ (-(c : Int)) (d : Int) hk hl
        rw [e2] at this
        refine ⟨_, Eq.trans ?_ this⟩
        simp only [show (true != false) = true from rfl, if_true]
        congr 1; push_cast; rw [Int.neg_mul, Int.mul_neg]; omega
    | true =>
      obtain ⟨e1, e2⟩ := hm.odd
      cases n with
      | false =>
        have := goal1 _ _ (c : Int) (-(d : Int)) hk hl
        rw [e2] at this
        refine ⟨_, Eq.trans ?_ this⟩
        simp only [show (false != true) = true from rfl, if_true, Bool.false_eq_true, if_false]
        congr 1; push_cast; rw [Int.neg_mul, Int.mul_neg]; omega
      | true =>
        have := goal1 _ _ (c : Int) (-(d : Int)) hk hl
        rw [e2] at this
        refine ⟨_, Eq.trans ?_ this⟩
        simp only [bne_self_eq_false, Bool.false_eq_true, if_false, if_true]
        congr 1; push_cast; rw [Int.neg_mul, Int.mul_neg]; omega
theorem digs_len_succ (Y : Nat) : (digs (Y + 1)).length ≤ (digs Y).length + 1 := by
  have h1 := lt_pow_digs Y
  have h2 : BB ^ (digs Y).length * 2 ≤ BB ^ (digs Y).length * BB := Nat.mul_le_mul_left _ BB_one
  refine digs_length_le ?_
  rw [Nat.pow_succ]
  omega
theorem CbI.keeps {X Y N : Nat} (hN : (digs N).length ≤ 80000) (hY : (digs Y).length ≤ 70000) : Keeps (CbI X Y N) := by
  refine ⟨fun F S P Q n hS h => h.div hS, fun F S P Q n a b c d o f s hF hb hm hd hf hsf h => CbI.app hF hb hm hd hf hsf h, ?_⟩
  rintro F S P Q n ⟨h1, _, h3, h4, _, _⟩
  have l1 := digs_length_mono (show F ≤ N by omega)
  have l2 := digs_length_mono (show S ≤ N by omega)
  have l3 := digs_length_mono h3
  have l4 := digs_length_mono h4
  have l5 := digs_len_succ Y
  omega

end Go.Gb
