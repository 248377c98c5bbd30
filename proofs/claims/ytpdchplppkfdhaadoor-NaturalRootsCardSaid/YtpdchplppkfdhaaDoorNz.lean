/- The functions of natural on numerals: contracts in numbers. -/
import Derived.Test.YtpdchplppkfdhaaDoorAg
namespace Go.Proofs.YtpdchplppkfdhaaDoor
open Go.RowKit Go.Gb

/-- The numeral of a number, as a string. -/
def Sn (n : Nat) : ByteArray := ⟨(Lib.decDigits n).toArray⟩
theorem sn_list (n : Nat) : (Sn n).data.toList = Lib.decDigits n := by simp [Sn]
theorem sn_vld (n : Nat) : vld (Sn n).data.toList = true := by rw [sn_list]; exact vld_dec n
theorem sn_dval (n : Nat) : dval (Sn n).data.toList = n := by rw [sn_list]; exact dval_dec n
theorem sn_of {a : ByteArray} (h : vld a.data.toList = true) : a = Sn (dval a.data.toList) := by
  cases a with
  | mk d =>
    unfold Sn
    congr 1
    rw [dec_dval _ h]
theorem st_sn (n : Nat) : St (Lib.decDigits n) = .string (Sn n) := rfl
theorem sn_inj {x y : Nat} (h : Sn x = Sn y) : x = y := by rw [← sn_dval x, ← sn_dval y, h]
theorem sn_ne {x y : Nat} (h : x ≠ y) : Sn x ≠ Sn y := fun h2 => h (sn_inj h2)

/-- Less than a power of ten. -/
def Sm (k n : Nat) : Prop := n < 10 ^ k
theorem Sm.mono {k l n : Nat} (h : Sm k n) (hkl : k ≤ l) : Sm l n := Nat.lt_of_lt_of_le h (Nat.pow_le_pow_right (by decide) hkl)
theorem Sm.le {k m n : Nat} (h : Sm k n) (hmn : m ≤ n) : Sm k m := Nat.lt_of_le_of_lt hmn h
theorem Sm.add {k m n : Nat} (hm : Sm k m) (hn : Sm k n) : Sm (k + 1) (m + n) := by
  unfold Sm at *; rw [Nat.pow_succ]; omega
theorem Sm.mul {k l m n : Nat} (hm : Sm k m) (hn : Sm l n) : Sm (k + l) (m * n) := by
  unfold Sm at *
  rw [Nat.pow_add]
  rcases Nat.eq_zero_or_pos n with h | h
  · rw [h, Nat.mul_zero]; exact Nat.mul_pos (Nat.pow_pos (by decide)) (Nat.pow_pos (by decide))
  · exact Nat.mul_lt_mul_of_lt_of_le hm (Nat.le_of_lt hn) (Nat.pow_pos (by decide))
theorem Sm.of {a : ByteArray} (h : vld a.data.toList = true) {k : Nat} (hl : a.size ≤ k) : Sm k (dval a.data.toList) := by
  have h1 := dval_lt _ (all_of_vld h)
  exact Nat.lt_of_lt_of_le h1 (Nat.pow_le_pow_right (by decide) (by rw [size_list]; exact hl))
theorem dec_len : ∀ (k n : Nat), Sm k n → 0 < k → (Lib.decDigits n).length ≤ k
  | 0, _, _, h => absurd h (by omega)
  | 1, n, h, _ => by
    have : n < 10 := by simpa [Sm] using h
    rw [Lib.decDigits, dif_pos this]; simp
  | k + 2, n, h, _ => by
    by_cases h10 : n < 10
    · rw [Lib.decDigits, dif_pos h10]; simp
    · rw [Lib.decDigits, dif_neg h10, List.length_append]
      have := dec_len (k + 1) (n / 10) (by unfold Sm at *; rw [Nat.pow_succ] at h; omega) (by omega)
      simp; omega
theorem sn_size {k n : Nat} (h : Sm k n) (hk : 0 < k) : (Sn n).size ≤ k := by
  have := dec_len k n h hk
  rw [← sn_list, size_list] at this
  exact this
theorem sm_digs {k n : Nat} (h : Sm k n) (hk : 0 < k) : (digs n).length ≤ k := by
  have h1 := digs_len_str (all_of_vld (sn_vld n)) k (by rw [size_list]; have := sn_size h hk; omega)
  rwa [sn_dval] at h1
/-- What all numbers of the statements keep. -/
def Fit (n : Nat) : Prop := Sm 2000 n
theorem Fit.size {n : Nat} (h : Fit n) : (Sn n).size ≤ 2000 := sn_size h (by decide)
theorem Fit.max {n : Nat} (h : Fit n) : (Sn n).size ≤ maxLen := by have := h.size; unfold maxLen; omega

theorem nValid (x : Nat) (hx : Fit x) (w : World) :
    Calls Tryd.prog 12 #[.string (Sn x)] w fun e w' => e = .returned (.bool true) ∧ w = w' :=
  Valid_yes (Sn x) (sn_vld x) hx.max w
theorem nCompare (x y : Nat) (hx : Fit x) (hy : Fit y) (w : World) :
    Calls Tryd.prog 10 #[.string (Sn x), .string (Sn y)] w fun e w' => e = .returned (.tuple #[.int .i64 (cmpN x y), .int .i64 0]) ∧ w = w' := by
  have h := Compare_yes (Sn x) (Sn y) (sn_vld x) (sn_vld y) hx.max hy.max w
  rwa [sn_dval, sn_dval] at h
theorem nAdd (x y : Nat) (hx : Fit x) (hy : Fit y) (w : World) (htab : Tb w) :
    Calls Tryd.prog 15 #[.string (Sn x), .string (Sn y)] w fun e w' => e = .returned (.tuple #[.string (Sn (x + y)), .int .i64 0]) ∧ Below w.heap.size w w' := by
  have sx := hx.size
  have sy := hy.size
  by_cases hs : (Sn x).size ≤ 18 ∧ (Sn y).size ≤ 18
  · have h := Add_short (Sn x) (Sn y) (sn_vld x) (sn_vld y) hs.1 hs.2 w htab
    rwa [sn_dval, sn_dval] at h
  · have hxy : x ≠ 0 ∨ y ≠ 0 := by
      rcases Nat.eq_zero_or_pos x with h0 | h0
      · rcases Nat.eq_zero_or_pos y with h1 | h1
        · exfalso
          subst h0 h1
          have : (Sn 0).size ≤ 1 := sn_size (k := 1) (by simp [Sm]) (by decide)
          omega
        · right; omega
      · left; omega
    have h := Add_long (Sn x) (Sn y) (sn_vld x) (sn_vld y) (by omega) (by omega) (by omega) (by
      rw [sn_dval, sn_dval]
      exact add_any x y hxy (Nat.le_trans (sm_digs hx (by decide)) (by decide)) (Nat.le_trans (sm_digs hy (by decide)) (by decide))) w htab
    rwa [sn_dval, sn_dval] at h
theorem nSub (x y : Nat) (hx : Fit x) (hyx : y ≤ x) (w : World) (htab : Tb w) :
    Calls Tryd.prog 18 #[.string (Sn x), .string (Sn y)] w fun e w' => e = .returned (.tuple #[.string (Sn (x - y)), .int .i64 0]) ∧ Below w.heap.size w w' := by
  have sx := hx.size
  have sy := Fit.size (Sm.le hx hyx)
  have h := Sub_yes (Sn x) (Sn y) (sn_vld x) (sn_vld y) (by rw [sn_dval, sn_dval]; exact hyx) (by omega) (by omega) w htab
  rwa [sn_dval, sn_dval] at h
theorem nSubLess (x y : Nat) (hy : Fit y) (hxy : x < y) (w : World) :
    Calls Tryd.prog 18 #[.string (Sn x), .string (Sn y)] w fun e w' => e = .returned (.tuple #[St [], .int .i64 2]) ∧ w = w' := by
  have sy := hy.size
  have sx := Fit.size (Sm.le hy (Nat.le_of_lt hxy))
  exact Sub_less (Sn x) (Sn y) (sn_vld x) (sn_vld y) (by rw [sn_dval, sn_dval]; exact hxy) (by omega) (by omega) w
theorem nMul (x y : Nat) (hx : Fit x) (hy : Fit y) (w : World) (htab : Tb w) :
    Calls Tryd.prog 17 #[.string (Sn x), .string (Sn y)] w fun e w' => e = .returned (.tuple #[.string (Sn (x * y)), .int .i64 0]) ∧ Below w.heap.size w w' := by
  have sx := hx.size
  have sy := hy.size
  have h := Mul_yes (Sn x) (Sn y) (sn_vld x) (sn_vld y) (by omega) (by omega) w htab
  rwa [sn_dval, sn_dval] at h
theorem nDivMod (x y : Nat) (hx : Fit x) (hy : Fit y) (h0 : y ≠ 0) (w : World) (htab : Tb w) :
    Calls Tryd.prog 19 #[.string (Sn x), .string (Sn y)] w fun e w' => e = .returned (.tuple #[.string (Sn (x / y)), .string (Sn (x % y)), .int .i64 0]) ∧ Below w.heap.size w w' := by
  have sx := hx.size
  have sy := hy.size
  have h := DivMod_yes (Sn x) (Sn y) (sn_vld x) (sn_vld y) (by rw [sn_dval]; exact h0) (by omega) (by omega) w htab
  rwa [sn_dval, sn_dval] at h

end Go.Proofs.YtpdchplppkfdhaaDoor
