/- Plain facts about lists of words: setting a word, trimming, sums, products, division by a word. No program is mentioned. -/
import Derived.Test.YtpdchplppkfdhaaDoorNumA
namespace Go.Gb
open Go.Lib

theorem getD_of_lt {xs : List Nat} {i : Nat} (h : i < xs.length) : xs.getD i 0 = xs[i] := by simp [List.getD, h]
theorem mem_getD {xs : List Nat} {i : Nat} (h : i < xs.length) : xs.getD i 0 ∈ xs := by rw [getD_of_lt h]; exact List.getElem_mem h
theorem all_getD {xs : List Nat} {M : Nat} (h : ∀ i, i < xs.length → xs.getD i 0 < M) : ∀ w ∈ xs, w < M := by
  intro w hw
  obtain ⟨i, hi, rfl⟩ := List.mem_iff_getElem.1 hw
  have := h i hi
  rwa [getD_of_lt hi] at this
theorem take_snocD {xs : List Nat} {i : Nat} (h : i < xs.length) : xs.take (i + 1) = xs.take i ++ [xs.getD i 0] := by
  rw [List.take_succ_eq_append_getElem h, getD_of_lt h]
theorem drop_consD {xs : List Nat} {i : Nat} (h : i < xs.length) : xs.drop i = xs.getD i 0 :: xs.drop (i + 1) := by
  rw [List.drop_eq_getElem_cons h, getD_of_lt h]

theorem wval_take_succ {xs : List Nat} {i : Nat} (h : i < xs.length) : wval (xs.take (i + 1)) = wval (xs.take i) + BB ^ i * xs.getD i 0 := by
  rw [take_snocD h, wval_snoc, List.length_take, Nat.min_eq_left (by omega)]
theorem wval_drop {xs : List Nat} {i : Nat} (h : i < xs.length) : wval (xs.drop i) = xs.getD i 0 + BB * wval (xs.drop (i + 1)) := by
  rw [drop_consD h, wval]
theorem wval_split (xs : List Nat) (i : Nat) (h : i ≤ xs.length) : wval xs = wval (xs.take i) + BB ^ i * wval (xs.drop i) := by
  have := wval_append (xs.take i) (xs.drop i)
  rwa [List.take_append_drop, List.length_take, Nat.min_eq_left h] at this
theorem getD_set {xs : List Nat} {i j v : Nat} : (xs.set i v).getD j 0 = if i = j ∧ j < xs.length then v else xs.getD j 0 := by
  simp only [List.getD, List.getElem?_set]
  by_cases h : i = j
  · subst h
    by_cases h2 : i < xs.length
    · simp [h2]
    · simp [h2]
  · simp [h]
theorem wval_set {xs : List Nat} {i v : Nat} (h : i < xs.length) : wval (xs.set i v) + BB ^ i * xs.getD i 0 = wval xs + BB ^ i * v := by
  have h1 := wval_split (xs.set i v) i (by simp; omega)
  have h2 := wval_split xs i (by omega)
  have h3 : i < (xs.set i v).length := by simpa using h
  rw [wval_drop h3] at h1
  rw [wval_drop h] at h2
  have e1 : (xs.set i v).take i = xs.take i := by rw [List.take_set_of_le (Nat.le_refl _)]
  have e2 : (xs.set i v).drop (i + 1) = xs.drop (i + 1) := by rw [List.drop_set_of_lt (by omega)]
  have e3 : (xs.set i v).getD i 0 = v := by rw [getD_set]; simp [h]
  rw [e1, e2, e3, Nat.mul_add] at h1
  rw [Nat.mul_add] at h2
  omega

theorem wval_zero {xs : List Nat} (h : ∀ i, i < xs.length → xs.getD i 0 = 0) : wval xs = 0 := by
  induction xs with
  | nil => rfl
  | cons w xs ih =>
    have h0 := h 0 (by simp)
    simp at h0
    have := ih (fun i hi => by have := h (i + 1) (by simpa using hi); simpa using this)
    rw [wval, h0, this]; rfl

theorem wval_drop_zero {xs : List Nat} {n : Nat} (h : ∀ i, n ≤ i → i < xs.length → xs.getD i 0 = 0) : wval (xs.drop n) = 0 := by
  refine wval_zero fun i hi => ?_
  have := h (n + i) (by omega) (by simp at hi; omega)
  simpa [List.getD] using this

/-- What Trim leaves. -/
theorem digs_take {xs : List Nat} {n : Nat} (hn : n ≤ xs.length) (hB : ∀ w ∈ xs, w < BB) (hz : ∀ i, n ≤ i → i < xs.length → xs.getD i 0 = 0) (hl : n = 0 ∨ xs.getD (n - 1) 0 ≠ 0) : digs (wval xs) = xs.take n := by
  have h1 := wval_split xs n hn
  rw [wval_drop_zero hz, Nat.mul_zero, Nat.add_zero] at h1
  rw [h1]
  refine digs_wval _ (fun w hw => hB w (List.mem_of_mem_take hw)) fun hne => ?_
  have hn0 : n ≠ 0 := by intro h; subst h; simp at hne
  have h2 : (xs.take n).getLast hne = xs.getD (n - 1) 0 := by
    rw [List.getLast_eq_getElem, getD_of_lt (by omega)]
    simp [Nat.min_eq_left hn]
  rw [h2]
  rcases hl with hl | hl
  · exact absurd hl hn0
  · exact hl

/-- Comparison of numbers by their words. -/
theorem lt_of_word {xs ys : List Nat} {i : Nat} (hl : xs.length = ys.length) (hi : i < xs.length) (hx : ∀ w ∈ xs, w < BB) (he : ∀ j, i < j → j < xs.length → xs.getD j 0 = ys.getD j 0) (h : xs.getD i 0 < ys.getD i 0) : wval xs < wval ys := by
  have h1 := wval_split xs (i + 1) (by omega)
  have h2 := wval_split ys (i + 1) (by omega)
  have e : xs.drop (i + 1) = ys.drop (i + 1) := by
    apply List.ext_getElem (by simp [hl])
    intro k hk1 hk2
    simp at hk1 hk2 ⊢
    have := he (i + 1 + k) (by omega) (by omega)
    rwa [getD_of_lt (by omega), getD_of_lt (by omega)] at this
  rw [wval_take_succ hi] at h1
  rw [wval_take_succ (by omega), ← e] at h2
  have h3 := wval_lt (xs.take i) (fun w hw => hx w (List.mem_of_mem_take hw))
  rw [List.length_take, Nat.min_eq_left (by omega)] at h3
  have h4 : BB ^ i * (xs.getD i 0 + 1) ≤ BB ^ i * ys.getD i 0 := Nat.mul_le_mul_left _ (by omega)
  rw [Nat.mul_add] at h4
  omega
theorem eq_of_words {xs ys : List Nat} (hl : xs.length = ys.length) (he : ∀ j, j < xs.length → xs.getD j 0 = ys.getD j 0) : xs = ys := by
  apply List.ext_getElem hl
  intro k hk1 hk2
  have := he k hk1
  rwa [getD_of_lt hk1, getD_of_lt hk2] at this

theorem wval_le_of_len {xs : List Nat} {n : Nat} (h : ∀ w ∈ xs, w < BB) (hl : xs.length ≤ n) : wval xs < BB ^ n :=
  Nat.lt_of_lt_of_le (wval_lt xs h) (Nat.pow_le_pow_right BB_pos hl)

/-! ### sums: the words so far, and a carry -/
def SumInv (x y os : List Nat) (i c : Nat) : Prop := os.length = i ∧ (∀ w ∈ os, w < BB) ∧ c ≤ 1 ∧ wval os + BB ^ i * c = wval (x.take i) + wval (y.take i)
theorem SumInv.start (x y : List Nat) : SumInv x y [] 0 0 := ⟨rfl, by simp, by omega, by simp [wval]⟩
theorem take_succ_any (y : List Nat) (i : Nat) : wval (y.take (i + 1)) = wval (y.take i) + BB ^ i * y.getD i 0 := by
  by_cases h : i < y.length
  · exact wval_take_succ h
  · rw [List.take_of_length_le (by omega), List.take_of_length_le (by omega)]
    simp [List.getD, List.getElem?_eq_none (show y.length ≤ i by omega)]
theorem SumInv.small {x y os : List Nat} {i c : Nat} (h : SumInv x y os i c) (hs : x.getD i 0 + y.getD i 0 + c < BB) : SumInv x y (os ++ [x.getD i 0 + y.getD i 0 + c]) (i + 1) 0 := by
  obtain ⟨h1, h2, h3, h4⟩ := h
  refine ⟨by simp [h1], ?_, by omega, ?_⟩
  · intro w hw
    rcases List.mem_append.1 hw with hw | hw
    · exact h2 w hw
    · have hw := List.mem_singleton.1 hw; omega
  · rw [wval_snoc, h1, take_succ_any, take_succ_any, Nat.mul_add, Nat.mul_add, Nat.mul_zero]; omega
theorem SumInv.big {x y os : List Nat} {i c : Nat} (h : SumInv x y os i c) (hx : x.getD i 0 < BB) (hy : y.getD i 0 < BB) (hs : BB ≤ x.getD i 0 + y.getD i 0 + c) : SumInv x y (os ++ [x.getD i 0 + y.getD i 0 + c - BB]) (i + 1) 1 := by
  obtain ⟨h1, h2, h3, h4⟩ := h
  refine ⟨by simp [h1], ?_, by omega, ?_⟩
  · intro w hw
    rcases List.mem_append.1 hw with hw | hw
    · exact h2 w hw
    · have hw := List.mem_singleton.1 hw; omega
  · rw [wval_snoc, h1, take_succ_any, take_succ_any, Nat.mul_one, Nat.pow_succ]
    have e : BB ^ i * (x.getD i 0 + y.getD i 0 + c - BB) + BB ^ i * BB = BB ^ i * (x.getD i 0 + y.getD i 0 + c) := by rw [← Nat.mul_add, show x.getD i 0 + y.getD i 0 + c - BB + BB = x.getD i 0 + y.getD i 0 + c by omega]
    rw [Nat.mul_add, Nat.mul_add] at e
    omega
/-- At the end: the words and the carry are the sum. -/
theorem SumInv.done {x y os : List Nat} {c : Nat} (h : SumInv x y os x.length c) (hl : y.length ≤ x.length) : wval (os ++ [c]) = wval x + wval y ∧ ∀ w ∈ os ++ [c], w < BB := by
  obtain ⟨h1, h2, h3, h4⟩ := h
  rw [List.take_of_length_le (Nat.le_refl _), List.take_of_length_le hl] at h4
  refine ⟨by rw [wval_snoc, h1]; exact h4, fun w hw => ?_⟩
  rcases List.mem_append.1 hw with hw | hw
  · exact h2 w hw
  · have hw := List.mem_singleton.1 hw; have := BB_one; omega

/-! ### differences: the words so far, and what was borrowed -/
def DifInv (x y os : List Nat) (i c : Nat) : Prop := os.length = i ∧ (∀ w ∈ os, w < BB) ∧ c ≤ 1 ∧ wval os + wval (y.take i) = wval (x.take i) + BB ^ i * c
theorem DifInv.start (x y : List Nat) : DifInv x y [] 0 0 := ⟨rfl, by simp, by omega, by simp [wval]⟩
theorem DifInv.small {x y os : List Nat} {i c : Nat} (h : DifInv x y os i c) (hx : x.getD i 0 < BB) (hs : y.getD i 0 + c ≤ x.getD i 0) : DifInv x y (os ++ [x.getD i 0 - (y.getD i 0 + c)]) (i + 1) 0 := by
  obtain ⟨h1, h2, h3, h4⟩ := h
  refine ⟨by simp [h1], ?_, by omega, ?_⟩
  · intro w hw
    rcases List.mem_append.1 hw with hw | hw
    · exact h2 w hw
    · have hw := List.mem_singleton.1 hw; omega
  · rw [wval_snoc, h1, take_succ_any, take_succ_any, Nat.mul_zero]
    have e : BB ^ i * (x.getD i 0 - (y.getD i 0 + c)) + BB ^ i * (y.getD i 0 + c) = BB ^ i * x.getD i 0 := by rw [← Nat.mul_add, show x.getD i 0 - (y.getD i 0 + c) + (y.getD i 0 + c) = x.getD i 0 by omega]
    rw [Nat.mul_add (BB ^ i) (y.getD i 0)] at e
    omega
theorem DifInv.big {x y os : List Nat} {i c : Nat} (h : DifInv x y os i c) (hy : y.getD i 0 < BB) (hs : x.getD i 0 < y.getD i 0 + c) : DifInv x y (os ++ [x.getD i 0 + BB - (y.getD i 0 + c)]) (i + 1) 1 := by
  obtain ⟨h1, h2, h3, h4⟩ := h
  refine ⟨by simp [h1], ?_, by omega, ?_⟩
  · intro w hw
    rcases List.mem_append.1 hw with hw | hw
    · exact h2 w hw
    · have hw := List.mem_singleton.1 hw; omega
  · rw [wval_snoc, h1, take_succ_any, take_succ_any, Nat.mul_one, Nat.pow_succ]
    have e : BB ^ i * (x.getD i 0 + BB - (y.getD i 0 + c)) + BB ^ i * (y.getD i 0 + c) = BB ^ i * (x.getD i 0 + BB) := by rw [← Nat.mul_add, show x.getD i 0 + BB - (y.getD i 0 + c) + (y.getD i 0 + c) = x.getD i 0 + BB by omega]
    rw [Nat.mul_add (BB ^ i) (y.getD i 0), Nat.mul_add] at e
    omega
theorem DifInv.done {x y os : List Nat} {c : Nat} (h : DifInv x y os x.length c) (hl : y.length ≤ x.length) (hle : wval y ≤ wval x) : wval os = wval x - wval y ∧ ∀ w ∈ os, w < BB := by
  obtain ⟨h1, h2, h3, h4⟩ := h
  rw [List.take_of_length_le (Nat.le_refl _), List.take_of_length_le hl] at h4
  refine ⟨?_, h2⟩
  have hlt := wval_lt os h2
  rw [h1] at hlt
  have : c = 0 := by
    rcases Nat.eq_zero_or_pos c with h | h
    · exact h
    · obtain rfl : c = 1 := by omega
      omega
  subst this
  omega

/-! ### division by a word, from the highest word on -/
theorem div_step {X Y r d : Nat} (w : Nat) (h : X = Y * d + r) (hr : r < d) : w + BB * X = (BB * Y + (r * BB + w) / d) * d + (r * BB + w) % d ∧ (r * BB + w) % d < d := by
  have hd : 0 < d := by omega
  refine ⟨?_, Nat.mod_lt _ hd⟩
  have := Nat.div_add_mod (r * BB + w) d
  rw [Nat.add_mul, Nat.add_assoc, Nat.mul_comm ((r * BB + w) / d) d, this, h, Nat.mul_add, Nat.mul_assoc, Nat.mul_comm BB r]
  omega
theorem div_word_lt {r w d : Nat} (hr : r < d) (hw : w < BB) : (r * BB + w) / d < BB := by
  rw [Nat.div_lt_iff_lt_mul (by omega)]
  have h : (r + 1) * BB ≤ d * BB := Nat.mul_le_mul_right _ hr
  rw [Nat.add_mul, Nat.mul_comm d] at h
  omega

end Go.Gb
