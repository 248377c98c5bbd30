/- Texts of this proof, one behind the other. -/
import Derived.Test.YtblccbnejcngaaaGreatDoorNumA
import Derived.Test.YtblccbnejcngaaaGreatDoorMnu
/- The text of a number from its digits, the least one first. No program is mentioned. -/
namespace Go.Gb
open Go

/-- The first m decimal digits of v, the least one first, as bytes. -/
def ldig (v m : Nat) : List UInt8 := (List.range m).map fun t => UInt8.ofNat (48 + v / 10 ^ t % 10)
theorem ldig_length (v m : Nat) : (ldig v m).length = m := by simp [ldig]
theorem ldig_succ (v m : Nat) : ldig v (m + 1) = ldig v m ++ [UInt8.ofNat (48 + v / 10 ^ m % 10)] := by
  unfold ldig
  rw [List.range_succ]
  simp
theorem ldig_cons (v m : Nat) : ldig v (m + 1) = UInt8.ofNat (48 + v % 10) :: ldig (v / 10) m := by
  unfold ldig
  rw [List.range_succ_eq_map]
  simp only [List.map_cons, List.map_map, Nat.pow_zero, Nat.div_one]
  congr 1
  apply List.map_congr_left
  intro t _
  simp only [Function.comp, Nat.div_div_eq_div_mul, Nat.pow_succ, Nat.mul_comm]
/-- Turned round they are the number's text. -/
theorem ldig_reverse : ∀ (m v : Nat), 10 ^ m ≤ v → v < 10 ^ (m + 1) → (ldig v (m + 1)).reverse = Lib.decDigits v
  | 0, v, h1, h2 => by
    rw [ldig_cons]
    have hv : v < 10 := by simpa using h2
    have h0 : 1 ≤ v := by simpa using h1
    rw [Nat.mod_eq_of_lt hv]
    rw [Lib.decDigits, dif_pos hv]
    simp [ldig]
  | m + 1, v, h1, h2 => by
    rw [ldig_cons, List.reverse_cons, ldig_reverse m (v / 10) (by rw [Nat.le_div_iff_mul_le (by decide)]; rw [Nat.pow_succ] at h1; exact h1) (by rw [Nat.div_lt_iff_lt_mul (by decide)]; rw [Nat.pow_succ] at h2; exact h2)]
    have hv : ¬ v < 10 := by
      have : 10 ≤ 10 ^ (m + 1) := by
        rw [Nat.pow_succ]
        have := Nat.one_le_pow m 10 (by decide)
        omega
      omega
    conv => rhs; rw [Lib.decDigits, dif_neg hv]
/-- A digit of a number is that of its word. -/
theorem word_digit {xs : List Nat} (hx : ∀ x ∈ xs, x < BB) {i k : Nat} (hi : i < xs.length) (hk : k < 9) : wval xs / 10 ^ (9 * i + k) % 10 = xs.getD i 0 / 10 ^ k % 10 := by
  have hsplit : xs = xs.take i ++ (xs.getD i 0 :: xs.drop (i + 1)) := by
    conv => lhs; rw [← List.take_append_drop i xs]
    congr 1
    rw [List.drop_eq_getElem_cons hi]
    simp [List.getD, hi]
  have hlen : (xs.take i).length = i := by simp; omega
  have hlt := wval_lt (xs.take i) (fun x h => hx x (List.mem_of_mem_take h))
  rw [hlen] at hlt
  have hv : wval xs = wval (xs.take i) + BB ^ i * (xs.getD i 0 + BB * wval (xs.drop (i + 1))) := by
    conv => lhs; rw [hsplit]
    rw [wval_append, hlen]
    rfl
  have hB : BB ^ i = 10 ^ (9 * i) := by rw [Nat.pow_mul, show BB = 10 ^ 9 from by rw [BB_eq]]
  rw [hv, Nat.pow_add, ← hB, ← Nat.div_div_eq_div_mul, Nat.add_mul_div_left _ _ (Nat.pow_pos BB_pos), Nat.div_eq_of_lt hlt, Nat.zero_add]
  obtain ⟨e, he⟩ : ∃ e, BB = 10 ^ k * (10 * e) := ⟨10 ^ (8 - k), by
    rw [show (10 : Nat) * 10 ^ (8 - k) = 10 ^ (9 - k) by rw [← Nat.pow_succ']; congr 1; omega, ← Nat.pow_add, show k + (9 - k) = 9 by omega, BB_eq]⟩
  rw [he, Nat.mul_assoc, Nat.mul_assoc, Nat.add_mul_div_left _ _ (Nat.pow_pos (by decide)), Nat.add_mul_mod_self_left]

end Go.Gb
/- A list that is turned round in place, from both ends. No program is mentioned. -/
namespace Go.Gb
open Go

/-- L with its first i and its last i elements exchanged. -/
def swp (L : List UInt8) (i : Nat) : List UInt8 := (List.range L.length).map fun j => if j < i ∨ L.length < j + 1 + i then L.getD (L.length - 1 - j) 0 else L.getD j 0
theorem swp_length (L : List UInt8) (i : Nat) : (swp L i).length = L.length := by simp [swp]
theorem swp_get (L : List UInt8) (i : Nat) {j : Nat} (hj : j < L.length) : (swp L i).getD j 0 = if j < i ∨ L.length < j + 1 + i then L.getD (L.length - 1 - j) 0 else L.getD j 0 := by
  unfold swp
  simp [List.getD, hj]
theorem getD_ext {A B : List UInt8} (h : A.length = B.length) (hg : ∀ j, j < A.length → A.getD j 0 = B.getD j 0) : A = B := by
  apply List.ext_getElem h
  intro j h1 h2
  have := hg j h1
  simpa [List.getD, h1, h2] using this
theorem swp_zero (L : List UInt8) : swp L 0 = L := by
  refine getD_ext (swp_length L 0) (fun j hj => ?_)
  rw [swp_length] at hj
  rw [swp_get L 0 hj, if_neg (by omega)]
theorem swp_done (L : List UInt8) (i : Nat) (h : L.length ≤ 2 * i + 1) : swp L i = L.reverse := by
  refine getD_ext (by rw [swp_length, List.length_reverse]) (fun j hj => ?_)
  rw [swp_length] at hj
  rw [swp_get L i hj]
  have hr : L.reverse.getD j 0 = L.getD (L.length - 1 - j) 0 := by
    have h2 : L.length - 1 - j < L.length := by omega
    simp [List.getD, hj, h2]
  rw [hr]
  split
  · rfl
  · rename_i hn
    rw [show L.length - 1 - j = j by omega]
/-- The elements that come next are still as they were. -/
theorem swp_low (L : List UInt8) (i : Nat) (h : 2 * i + 1 < L.length) : (swp L i).getD i 0 = L.getD i 0 := by
  rw [swp_get L i (by omega), if_neg (by omega)]
theorem swp_high (L : List UInt8) (i : Nat) (h : 2 * i + 1 < L.length) : (swp L i).getD (L.length - 1 - i) 0 = L.getD (L.length - 1 - i) 0 := by
  rw [swp_get L i (by omega), if_neg (by omega)]
theorem swp_succ (L : List UInt8) (i : Nat) (h : 2 * i + 1 < L.length) : ((swp L i).set i (L.getD (L.length - 1 - i) 0)).set (L.length - 1 - i) (L.getD i 0) = swp L (i + 1) := by
  refine getD_ext (by simp [swp_length]) (fun j hj => ?_)
  simp [swp_length] at hj
  have hs : ∀ (A : List UInt8) (m : Nat) (v : UInt8), j < A.length → (A.set m v).getD j 0 = if m = j then v else A.getD j 0 := by
    intro A m v hA
    by_cases hm : m = j
    · subst hm; simp [List.getD, hA]
    · simp [List.getD, hm]
  rw [hs _ _ _ (by simp [swp_length, hj]), hs _ _ _ (by simp [swp_length, hj]), swp_get L i hj, swp_get L (i + 1) hj]
  by_cases h1 : L.length - 1 - i = j
  · rw [if_pos h1, if_pos (by omega), ← h1, show L.length - 1 - (L.length - 1 - i) = i by omega]
  · rw [if_neg h1]
    by_cases h2 : i = j
    · subst h2
      rw [if_pos rfl, if_pos (by omega)]
    · rw [if_neg h2]
      by_cases h3 : j < i ∨ L.length < j + 1 + i
      · rw [if_pos h3, if_pos (by omega)]
      · rw [if_neg h3, if_neg (by omega)]

end Go.Gb
/- The reference's To: what its loops keep. No program is mentioned. -/
namespace Go.Gb
open Go

theorem word_top {xs : List Nat} (hx : ∀ x ∈ xs, x < BB) {i : Nat} (hi : xs.length = i + 1) (k : Nat) : wval xs / 10 ^ (9 * i + k) = xs.getD i 0 / 10 ^ k := by
  have h1 := wval_split xs i (by omega)
  have h2 : wval (xs.drop i) = xs.getD i 0 := by
    rw [wval_drop (by omega), List.drop_of_length_le (by omega)]
    simp [wval]
  have hlt := wval_take_lt xs hx i
  have hB : BB ^ i = 10 ^ (9 * i) := by rw [Nat.pow_mul, show BB = 10 ^ 9 from by rw [BB_eq]]
  rw [h2] at h1
  rw [h1, Nat.pow_add, ← hB, ← Nat.div_div_eq_div_mul, Nat.add_mul_div_left _ _ (Nat.pow_pos BB_pos), Nat.div_eq_of_lt hlt, Nat.zero_add]

/-- Before word i: the digits of the words before it; behind the last word those of the number. -/
def TOut (xs : List Nat) (bs : List UInt8) (i : Nat) : Prop :=
  (i < xs.length ∧ bs = ldig (wval xs) (9 * i)) ∨ (i = xs.length ∧ ∃ m, bs = ldig (wval xs) (m + 1) ∧ 10 ^ m ≤ wval xs ∧ wval xs < 10 ^ (m + 1))
/-- Inside word i: k of its digits are there. -/
def TIn (xs : List Nat) (bs : List UInt8) (i k q : Nat) : Prop :=
  k ≤ 9 ∧ q = xs.getD i 0 / 10 ^ k ∧ bs = ldig (wval xs) (9 * i + k) ∧ (k = 0 ∨ i + 1 < xs.length ∨ xs.getD i 0 / 10 ^ (k - 1) ≠ 0)
theorem TOut.zero {xs : List Nat} (h : 0 < xs.length) : TOut xs [] 0 := Or.inl ⟨h, rfl⟩
theorem TIn.start {xs : List Nat} {bs : List UInt8} {i : Nat} (h : TOut xs bs i) (hi : i < xs.length) : TIn xs bs i 0 (xs.getD i 0) := by
  rcases h with ⟨_, h⟩ | ⟨h, _⟩
  · exact ⟨by omega, by simp, h, Or.inl rfl⟩
  · omega
theorem TIn.len {xs : List Nat} {bs : List UInt8} {i k q : Nat} (h : TIn xs bs i k q) : bs.length = 9 * i + k := by rw [h.2.2.1, ldig_length]
theorem TIn.lt {xs : List Nat} {bs : List UInt8} {i k q : Nat} (h : TIn xs bs i k q) (hi : i < xs.length) (hx : ∀ x ∈ xs, x < BB) : q < 1000000000 := by
  have h1 := hx _ (mem_getD hi)
  rw [BB_eq] at h1
  rw [h.2.1]
  exact Nat.lt_of_le_of_lt (Nat.div_le_self _ _) h1
theorem TIn.step {xs : List Nat} {bs : List UInt8} {i k q : Nat} (h : TIn xs bs i k q) (hi : i < xs.length) (hx : ∀ x ∈ xs, x < BB) (hk : k < 9) (hg : i + 1 < xs.length ∨ 0 < q) :
    TIn xs (bs ++ [UInt8.ofNat (48 + q % 10)]) i (k + 1) (q / 10) := by
  obtain ⟨h1, h2, h3, h4⟩ := h
  refine ⟨by omega, ?_, ?_, ?_⟩
  · rw [h2, Nat.div_div_eq_div_mul, Nat.pow_succ]
  · rw [h3, h2, ← word_digit hx hi hk, ← ldig_succ]
    rfl
  · rcases hg with hg | hg
    · exact Or.inr (Or.inl hg)
    · right; right
      rw [Nat.add_sub_cancel, ← h2]
      omega
theorem TIn.done {xs : List Nat} {bs : List UInt8} {i k q : Nat} (h : TIn xs bs i k q) (hi : i < xs.length) (hx : ∀ x ∈ xs, x < BB) (hl : xs.getD (xs.length - 1) 0 ≠ 0) (hg : k = 9 ∨ (i + 1 = xs.length ∧ q = 0)) : TOut xs bs (i + 1) := by
  obtain ⟨h1, h2, h3, h4⟩ := h
  by_cases hlt : i + 1 < xs.length
  · obtain rfl : k = 9 := by omega
    exact Or.inl ⟨hlt, by rw [h3, Nat.mul_add]⟩
  · have hi1 : xs.length = i + 1 := by omega
    have hw := hx _ (mem_getD hi)
    rw [BB_eq] at hw
    rw [show xs.length - 1 = i by omega] at hl
    have hq0 : q = 0 := by
      rcases hg with hg | hg
      · rw [h2, hg, Nat.div_eq_of_lt (by omega)]
      · exact hg.2
    obtain ⟨j, rfl⟩ : ∃ j, k = j + 1 := by
      refine ⟨k - 1, ?_⟩
      rcases Nat.eq_zero_or_pos k with h0 | h0
      · rw [h0, Nat.pow_zero, Nat.div_one] at h2
        omega
      · omega
    have h5 : xs.getD i 0 / 10 ^ j ≠ 0 := by
      rcases h4 with h4 | h4 | h4
      · omega
      · omega
      · rwa [Nat.add_sub_cancel] at h4
    have e1 := word_top hx hi1 j
    have e2 := word_top hx hi1 (j + 1)
    rw [← h2, hq0] at e2
    refine Or.inr ⟨hi1.symm, 9 * i + j, h3, ?_, ?_⟩
    · rcases Nat.lt_or_ge (wval xs) (10 ^ (9 * i + j)) with h | h
      · rw [Nat.div_eq_of_lt h] at e1
        exact absurd e1.symm h5
      · exact h
    · rcases Nat.lt_or_ge (wval xs) (10 ^ (9 * i + (j + 1))) with h | h
      · exact h
      · have := Nat.div_pos h (Nat.pow_pos (by decide))
        omega
theorem TOut.done {xs : List Nat} {bs : List UInt8} (h : TOut xs bs xs.length) : bs.reverse = Lib.decDigits (wval xs) ∧ 0 < bs.length := by
  rcases h with ⟨h, _⟩ | ⟨_, m, h1, h2, h3⟩
  · omega
  · rw [h1]
    exact ⟨ldig_reverse m _ h2 h3, by rw [ldig_length]; omega⟩
theorem TOut.len {xs : List Nat} {bs : List UInt8} {i : Nat} (h : TOut xs bs i) (hx : ∀ x ∈ xs, x < BB) : bs.length ≤ 9 * xs.length := by
  rcases h with ⟨h, e⟩ | ⟨_, m, h1, h2, h3⟩
  · rw [e, ldig_length]; omega
  · rw [h1, ldig_length]
    have h4 := wval_lt xs hx
    rw [show BB = 10 ^ 9 from by rw [BB_eq], ← Nat.pow_mul] at h4
    have h5 : 10 ^ m < 10 ^ (9 * xs.length) := by omega
    have := (Nat.pow_lt_pow_iff_right (by decide : 1 < 10)).1 h5
    omega

end Go.Gb
