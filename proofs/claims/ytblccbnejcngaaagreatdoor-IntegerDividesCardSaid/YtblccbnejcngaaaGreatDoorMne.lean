/- Texts of this proof, one behind the other. -/
import Derived.Test.YtblccbnejcngaaaGreatDoorMnb
import Derived.Deep.LoopGhost
/- words.Common and natural.GCD of short numbers: walks. -/
namespace Go.Proofs.YtblccbnejcngaaaGreatDoor
open Go.RowKit Go.Gb

theorem wordAt_nat (v : Value) (xs : List Nat) (i : Nat) (hi : i ≤ 1000000) (hl : xs.length ≤ 1000000) (w : World) (h : Rd .u64 w v xs) :
    Calls Tryz.prog 96 #[v, .int .i64 (i : Int)] w fun e w' => e = .returned (.int .u64 ((xs.getD i 0 : Nat) : Int)) ∧ w = w' := by
  by_cases hlt : i < xs.length
  · obtain ⟨b, o, c, rfl, _, _, _, r⟩ := rd_pos h (by omega)
    have hc := r i hlt
    clear r h
    generalize xs.getD i 0 = x at *
    go_enter Tryz.func96, Tryz.ntmps96
    go_wp2
    go_ret
    exact ⟨rfl, rfl⟩
  · obtain ⟨a, c, rfl⟩ := rd_form h
    have e : xs.getD i 0 = 0 := by simp [List.getD, List.getElem?_eq_none (show xs.length ≤ i by omega)]
    rw [e]
    clear h e
    go_enter Tryz.func96, Tryz.ntmps96
    go_wp2
    go_ret
    exact ⟨rfl, rfl⟩
/-- The literal places 0 and 1. -/
theorem wordAt_0 (v : Value) (xs : List Nat) (hl : xs.length ≤ 1000000) (w : World) (h : Rd .u64 w v xs) :
    Calls Tryz.prog 96 #[v, .int .i64 0] w fun e w' => e = .returned (.int .u64 ((xs.getD 0 0 : Nat) : Int)) ∧ w = w' := wordAt_nat v xs 0 (by omega) hl w h
theorem wordAt_1 (v : Value) (xs : List Nat) (hl : xs.length ≤ 1000000) (w : World) (h : Rd .u64 w v xs) :
    Calls Tryz.prog 96 #[v, .int .i64 1] w fun e w' => e = .returned (.int .u64 ((xs.getD 1 0 : Nat) : Int)) ∧ w = w' := wordAt_nat v xs 1 (by omega) hl w h

theorem digs_two {n : Nat} (h : (digs n).length ≤ 2) : (digs n).getD 1 0 * BB + (digs n).getD 0 0 = n ∧ (digs n).getD 0 0 < BB ∧ (digs n).getD 1 0 < BB := by
  have hv := wval_digs n
  have hl := digs_lt n
  refine ⟨?_, getD_lt hl 0, getD_lt hl 1⟩
  match hd : digs n, h with
  | [], _ => rw [hd] at hv; simp [wval] at hv; simp; exact hv
  | [x], _ => rw [hd] at hv; simp [wval] at hv; simp; exact hv
  | [x, y], _ => rw [hd] at hv; simp [wval] at hv; simp; rw [Nat.mul_comm y]; omega
theorem lt_two {n : Nat} (h : (digs n).length ≤ 2) : n < 1000000000000000000 := by
  have h1 := lt_pow_digs n
  have h2 : BB ^ (digs n).length ≤ BB ^ 2 := Nat.pow_le_pow_right BB_pos h
  have h3 : BB ^ 2 = 1000000000000000000 := by rw [BB_eq]
  omega

theorem short_any (v : Value) (n : Nat) (hn : (digs n).length ≤ 2) (w : World) (h : Rd .u64 w v (digs n)) :
    Calls Tryz.prog 77 #[v] w fun e w' => e = .returned (.int .u64 (n : Int)) ∧ w = w' := by
  have h0 := Lib.hid (wordAt_0 v (digs n) (by omega) w h)
  have h1 := Lib.hid (wordAt_1 v (digs n) (by omega) w h)
  obtain ⟨g1, g2, g3⟩ := digs_two hn
  rw [BB_eq] at g1 g2 g3
  have G1 := Lib.hid g1
  clear g1 h hn
  generalize (digs n).getD 0 0 = x at *
  generalize (digs n).getD 1 0 = y at *
  have k1 : (x : Int) ≤ 999999999 := by omega
  have k2 : (y : Int) ≤ 999999999 := by omega
  clear g2 g3
  go_enter Tryz.func77, Tryz.ntmps77
  go_wp2_with fail
  refine h1.out.mono ?_
  rintro e w' ⟨rfl, rfl⟩
  go_wp2_with fail
  refine h0.out.mono ?_
  rintro e w' ⟨rfl, rfl⟩
  go_wp2
  go_ret
  exact ⟨ret_int (by have := G1.out; omega), rfl⟩

theorem isShort_any (a : Option Addr) (n c : Nat) (hn : n ≤ 1000000) (w : World) :
    Calls Tryz.prog 75 #[.slice a n c] w fun e w' => e = .returned (.bool (decide (n ≤ 2))) ∧ w = w' := by
  by_cases h : n ≤ 2
  · go_enter Tryz.func75, Tryz.ntmps75
    go_wp2
    go_ret
    exact ⟨ret_bool (by simp [h]; try omega), rfl⟩
  · go_enter Tryz.func75, Tryz.ntmps75
    go_wp2
    go_ret
    exact ⟨ret_bool (by simp [h]; try omega), rfl⟩
theorem isShort_yes (v : Value) (xs : List Nat) (hn : xs.length ≤ 2) (w : World) (h : Rd .u64 w v xs) :
    Calls Tryz.prog 75 #[v] w fun e w' => e = .returned (.bool true) ∧ w = w' := by
  obtain ⟨a, c, rfl⟩ := rd_form h
  exact (isShort_any a _ c (by omega) w).mono fun e w' ⟨h1, h2⟩ => ⟨by rw [h1]; simp [hn], h2⟩
theorem isShort_no (v : Value) (xs : List Nat) (hn : 2 < xs.length) (hl : xs.length ≤ 1000000) (w : World) (h : Rd .u64 w v xs) :
    Calls Tryz.prog 75 #[v] w fun e w' => e = .returned (.bool false) ∧ w = w' := by
  obtain ⟨a, c, rfl⟩ := rd_form h
  exact (isShort_any a _ c (by omega) w).mono fun e w' ⟨h1, h2⟩ => ⟨by rw [h1]; simp; omega, h2⟩

set_option maxHeartbeats 1000000 in
theorem long_any (n : Nat) (hn : n < 1000000000000000000) (w : World) :
    Calls Tryz.prog 78 #[.int .u64 (n : Int)] w fun e w' => ∃ v, e = .returned v ∧ Own .u64 82 w.heap.size w' v (digs n) ∧ Below w.heap.size w w' := by
  have hB := BB_eq
  have hlo : n % 1000000000 < BB := by rw [hB]; exact Nat.mod_lt _ (by decide)
  have hhi : n / 1000000000 < BB := by rw [hB]; omega
  have hblk : Blk (w.alloc (.cells #[.int .u64 ((n : Int) % 1000000000), .int .u64 ((n : Int) / 1000000000)] 82)) w.heap.size [n % 1000000000, n / 1000000000] := Blk.alloc _ _ (by simp [cls])
  have hown := hblk.own (B := w.heap.size) (Nat.le_refl _) (by unfold maxLen; simp) 2 (by simp)
  have htr := Trim_own 82 w.heap.size _ [n % 1000000000, n / 1000000000] (by
    intro x hx
    simp only [List.mem_cons, List.not_mem_nil, or_false] at hx
    rcases hx with rfl | rfl
    · exact hlo
    · exact hhi) (w.alloc (.cells #[.int .u64 ((n : Int) % 1000000000), .int .u64 ((n : Int) / 1000000000)] 82)) hown
  have hv : wval [n % 1000000000, n / 1000000000] = n := by simp only [wval]; rw [hB]; omega
  rw [hv] at htr
  have HTR := Lib.hid htr
  clear htr hown hblk hlo hhi hv hB
  have k1 : (n : Int) < 1000000000000000000 := by omega
  clear hn
  go_enter Tryz.func78, Tryz.ntmps78
  go_wp2_with fail
  refine HTR.out.mono ?_
  rintro e w1 ⟨v, rfl, ho, rfl⟩
  go_wp2
  go_ret
  exact ⟨v, rfl, ho, (Below.refl _ _).alloc (Nat.le_refl _) _⟩

end Go.Proofs.YtblccbnejcngaaaGreatDoor
/- natural.powerOfTwo and natural.firstGuess of one word: walks. -/
namespace Go.Proofs.YtblccbnejcngaaaGreatDoor
open Go.RowKit Go.Gb

/-- What is asked of add, of Divide. -/
def AddOk (a b : Nat) : Prop := ∀ (v1 v2 : Value) (w : World), Rd .u64 w v1 (digs a) → Rd .u64 w v2 (digs b) →
    Calls Tryz.prog 109 #[v1, v2] w fun e w' => ∃ v, e = .returned v ∧ Own .u64 82 w.heap.size w' v (digs (a + b)) ∧ Below w.heap.size w w'
def DivOk (a b : Nat) : Prop := ∀ (v1 v2 : Value) (w : World), Rd .u64 w v1 (digs a) → Rd .u64 w v2 (digs b) →
    Calls Tryz.prog 88 #[v1, v2] w fun e w' => ∃ q r, e = .returned (.tuple #[q, r]) ∧ Own .u64 82 w.heap.size w' q (digs (a / b)) ∧ Own .u64 82 w.heap.size w' r (digs (a % b)) ∧ Below w.heap.size w w'
theorem DivOk.less {a b : Nat} (hab : a < b) (hl : (digs a).length ≤ 100000) : DivOk a b := fun v1 v2 w h1 h2 =>
  (Divide_less v1 v2 a b hab hl w h1 h2).mono fun e w' ⟨r, he, hr, hb⟩ => ⟨_, r, he, by rw [Nat.div_eq_of_lt hab, digs_zero]; exact Own.nil _ _ _ _, by rw [Nat.mod_eq_of_lt hab]; exact hr, hb⟩
theorem DivOk.word {a b : Nat} (hb : (digs b).length = 1) (hl : (digs a).length ≤ 100000) : DivOk a b := by
  by_cases hab : a < b
  · exact DivOk.less hab hl
  · exact fun v1 v2 w h1 h2 => Divide_word v1 v2 a b hab hb hl w h1 h2

end Go.Proofs.YtblccbnejcngaaaGreatDoor
/- natural.Add of long numerals, natural.Root of a number of one word: walks. -/
namespace Go.Proofs.YtblccbnejcngaaaGreatDoor
open Go.RowKit Go.Gb

theorem digs_add_len {a b K : Nat} (ha : (digs a).length ≤ K) (hb : (digs b).length ≤ K) : (digs (a + b)).length ≤ K + 1 := by
  refine digs_length_le ?_
  have h1 := lt_pow_digs a
  have h2 := lt_pow_digs b
  have h3 : BB ^ (digs a).length ≤ BB ^ K := Nat.pow_le_pow_right BB_pos ha
  have h4 : BB ^ (digs b).length ≤ BB ^ K := Nat.pow_le_pow_right BB_pos hb
  have h6 : BB ^ (K + 1) = BB ^ K * BB := Nat.pow_succ BB K
  have h7 : BB ^ K * 2 ≤ BB ^ K * BB := Nat.mul_le_mul_left _ BB_one
  generalize BB ^ K = P at *
  generalize BB ^ (K + 1) = Q at *
  omega

set_option maxHeartbeats 2000000 in
theorem Add_long (a b : ByteArray) (ha : vld a.data.toList = true) (hb : vld b.data.toList = true) (hs : 19 ≤ a.size ∨ 19 ≤ b.size) (hla : a.size ≤ 100000) (hlb : b.size ≤ 100000) (hok : AddOk (dval a.data.toList) (dval b.data.toList)) (w : World) (htab : Tb w) :
    Calls Tryz.prog 91 #[.string a, .string b] w fun e w' => e = .returned (.tuple #[St (Lib.decDigits (dval a.data.toList + dval b.data.toList)), .int .i64 0]) ∧ Below w.heap.size w w' := by
  have HA := Lib.hid ha
  have HB := Lib.hid hb
  have HT := Lib.hid htab
  have HOK := Lib.hid hok
  have Hla := Lib.hid (show a.size ≤ maxLen by unfold maxLen; omega)
  have Hlb := Lib.hid (show b.size ≤ maxLen by unfold maxLen; omega)
  have hra := Lib.hid (all_of_vld ha)
  have hrb := Lib.hid (all_of_vld hb)
  have hlp : (digs (dval a.data.toList + dval b.data.toList)).length ≤ 100000 := by
    have g1 := digs_len_str (all_of_vld ha) 20000 (by rw [size_list]; omega)
    have g2 := digs_len_str (all_of_vld hb) 20000 (by rw [size_list]; omega)
    have g3 := digs_add_len g1 g2
    omega
  have HLP := Lib.hid hlp
  have hmx : ¬ max (a.size : Int) (b.size : Int) < 19 := by omega
  clear ha hb htab hok hlp hs
  go_enter Tryz.func91, Tryz.ntmps91
  go_wp2_with fail
  refine (Valid_yes a HA.out Hla.out _).mono ?_
  rintro e w' ⟨rfl, rfl⟩
  go_wp2_with fail
  refine (Valid_yes b HB.out Hlb.out _).mono ?_
  rintro e w' ⟨rfl, rfl⟩
  go_wp2_with fail
  refine (Read_any a hra.out hla _).mono ?_
  rintro e w1 ⟨v1, rfl, ho1, hb1⟩
  have HB1 := Lib.hid hb1
  have HO1 := Lib.hid ho1
  clear hb1 ho1
  go_wp2_with fail
  refine (Read_any b hrb.out hlb _).mono ?_
  rintro e w2 ⟨v2, rfl, ho2, hb2⟩
  have HB2 := Lib.hid (HB1.out.trans (hb2.mono HB1.out.size))
  have hm := Lib.hid (HOK.out v1 v2 w2 (HO1.out.rd.below hb2) ho2.rd)
  clear hb2 ho2
  go_wp2_with fail
  refine hm.out.mono ?_
  rintro e w3 ⟨v3, rfl, ho3, hb3⟩
  have HB3 := Lib.hid (HB2.out.trans (hb3.mono HB2.out.size))
  have hwr := Lib.hid (Write_any v3 _ HLP.out w3 ho3.rd (HT.out.on HB3.out))
  clear hb3 ho3
  go_wp2_with fail
  refine hwr.out.mono ?_
  rintro e w4 ⟨rfl, hb4⟩
  have HB4 := Lib.hid (HB3.out.trans (hb4.mono HB3.out.size))
  clear hb4
  go_wp2
  go_ret2
  exact ⟨rfl, HB4.out⟩

end Go.Proofs.YtblccbnejcngaaaGreatDoor
