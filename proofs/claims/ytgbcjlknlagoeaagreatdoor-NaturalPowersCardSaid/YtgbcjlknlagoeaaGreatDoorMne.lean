/- Texts of this proof, one behind the other. -/
import Derived.Test.YtgbcjlknlagoeaaGreatDoorMnb
import Derived.Deep.LoopGhost
/- words.Common and natural.GCD of short numbers: walks. -/
namespace Go.Proofs.YtgbcjlknlagoeaaGreatDoor
open Go.RowKit Go.Gb

theorem wordAt_nat (v : Value) (xs : List Nat) (i : Nat) (hi : i ≤ 1000000) (hl : xs.length ≤ 1000000) (w : World) (h : Rd .u64 w v xs) :
    Calls Tryz.prog 146 #[v, .int .i64 (i : Int)] w fun e w' => e = .returned (.int .u64 ((xs.getD i 0 : Nat) : Int)) ∧ w = w' := by
  by_cases hlt : i < xs.length
  · obtain ⟨b, o, c, rfl, _, _, _, r⟩ := rd_pos h (by omega)
    have hc := r i hlt
    clear r h
    generalize xs.getD i 0 = x at *
    go_enter Tryz.func146, Tryz.ntmps146
    go_wp2
    go_ret
    exact ⟨rfl, rfl⟩
  · obtain ⟨a, c, rfl⟩ := rd_form h
    have e : xs.getD i 0 = 0 := by simp [List.getD, List.getElem?_eq_none (show xs.length ≤ i by omega)]
    rw [e]
    clear h e
    go_enter Tryz.func146, Tryz.ntmps146
    go_wp2
    go_ret
    exact ⟨rfl, rfl⟩
/-- The literal places 0 and 1. -/
theorem wordAt_0 (v : Value) (xs : List Nat) (hl : xs.length ≤ 1000000) (w : World) (h : Rd .u64 w v xs) :
    Calls Tryz.prog 146 #[v, .int .i64 0] w fun e w' => e = .returned (.int .u64 ((xs.getD 0 0 : Nat) : Int)) ∧ w = w' := wordAt_nat v xs 0 (by omega) hl w h
theorem wordAt_1 (v : Value) (xs : List Nat) (hl : xs.length ≤ 1000000) (w : World) (h : Rd .u64 w v xs) :
    Calls Tryz.prog 146 #[v, .int .i64 1] w fun e w' => e = .returned (.int .u64 ((xs.getD 1 0 : Nat) : Int)) ∧ w = w' := wordAt_nat v xs 1 (by omega) hl w h

theorem digs_two {n : Nat} (h : (digs n).length ≤ 2) : (digs n).getD 1 0 * BB + (digs n).getD 0 0 = n ∧ (digs n).getD 0 0 < BB ∧ (digs n).getD 1 0 < BB := by
  have hv := wval_digs n
  have hl := digs_lt n
  refine ⟨?_, getD_lt hl 0, getD_lt hl 1⟩
  match hd : digs n, h with
  | [], _ => rw [hd] at hv; simp [wval] at hv; simp; exact hv
  | [x], _ => rw [hd] at hv; simp [wval] at hv; simp; exact hv
  | [x, y], _ => rw [hd] at hv; simp [wval] at hv; simp; rw [Nat.mul_comm y]; omega
theorem lt_two {n : Nat} (h : (digs n).length ≤ 2) : n < 1000000000000000000 := by
  have h1 := lt_pow_digs n
  have h2 : BB ^ (digs n).length ≤ BB ^ 2 := Nat.pow_le_pow_right BB_pos h
  have h3 : BB ^ 2 = 1000000000000000000 := by rw [BB_eq]
  omega

theorem short_any (v : Value) (n : Nat) (hn : (digs n).length ≤ 2) (w : World) (h : Rd .u64 w v (digs n)) :
    Calls Tryz.prog 120 #[v] w fun e w' => e = .returned (.int .u64 (n : Int)) ∧ w = w' := by
  have h0 := Lib.hid (wordAt_0 v (digs n) (by omega) w h)
  have h1 := Lib.hid (wordAt_1 v (digs n) (by omega) w h)
  obtain ⟨g1, g2, g3⟩ := digs_two hn
  rw [BB_eq] at g1 g2 g3
  have G1 := Lib.hid g1
  clear g1 h hn
  generalize (digs n).getD 0 0 = x at *
  generalize (digs n).getD 1 0 = y at *
  have k1 : (x : Int) ≤ 999999999 := by omega
  have k2 : (y : Int) ≤ 999999999 := by omega
  clear g2 g3
  go_enter Tryz.func120, Tryz.ntmps120
  go_wp2_with fail
  refine h1.out.mono ?_
  rintro e w' ⟨rfl, rfl⟩
  go_wp2_with fail
  refine h0.out.mono ?_
  rintro e w' ⟨rfl, rfl⟩
  go_wp2
  go_ret
  exact ⟨ret_int (by have := G1.out; omega), rfl⟩

theorem isShort_any (a : Option Addr) (n c : Nat) (hn : n ≤ 1000000) (w : World) :
    Calls Tryz.prog 118 #[.slice a n c] w fun e w' => e = .returned (.bool (decide (n ≤ 2))) ∧ w = w' := by
  by_cases h : n ≤ 2
  · go_enter Tryz.func118, Tryz.ntmps118
    go_wp2
    go_ret
    exact ⟨ret_bool (by simp [h]; try omega), rfl⟩
  · go_enter Tryz.func118, Tryz.ntmps118
    go_wp2
    go_ret
    exact ⟨ret_bool (by simp [h]; try omega), rfl⟩
theorem isShort_yes (v : Value) (xs : List Nat) (hn : xs.length ≤ 2) (w : World) (h : Rd .u64 w v xs) :
    Calls Tryz.prog 118 #[v] w fun e w' => e = .returned (.bool true) ∧ w = w' := by
  obtain ⟨a, c, rfl⟩ := rd_form h
  exact (isShort_any a _ c (by omega) w).mono fun e w' ⟨h1, h2⟩ => ⟨by rw [h1]; simp [hn], h2⟩
theorem isShort_no (v : Value) (xs : List Nat) (hn : 2 < xs.length) (hl : xs.length ≤ 1000000) (w : World) (h : Rd .u64 w v xs) :
    Calls Tryz.prog 118 #[v] w fun e w' => e = .returned (.bool false) ∧ w = w' := by
  obtain ⟨a, c, rfl⟩ := rd_form h
  exact (isShort_any a _ c (by omega) w).mono fun e w' ⟨h1, h2⟩ => ⟨by rw [h1]; simp; omega, h2⟩

set_option maxHeartbeats 1000000 in
theorem long_any (n : Nat) (hn : n < 1000000000000000000) (w : World) :
    Calls Tryz.prog 121 #[.int .u64 (n : Int)] w fun e w' => ∃ v, e = .returned v ∧ Own .u64 42 w.heap.size w' v (digs n) ∧ Below w.heap.size w w' := by
  have hB := BB_eq
  have hlo : n % 1000000000 < BB := by rw [hB]; exact Nat.mod_lt _ (by decide)
  have hhi : n / 1000000000 < BB := by rw [hB]; omega
  have hblk : Blk (w.alloc (.cells #[.int .u64 ((n : Int) % 1000000000), .int .u64 ((n : Int) / 1000000000)] 42)) w.heap.size [n % 1000000000, n / 1000000000] := Blk.alloc _ _ (by simp [cls])
  have hown := hblk.own (B := w.heap.size) (Nat.le_refl _) (by unfold maxLen; simp) 2 (by simp)
  have htr := Trim_own 42 w.heap.size _ [n % 1000000000, n / 1000000000] (by
    intro x hx
    simp only [List.mem_cons, List.not_mem_nil, or_false] at hx
    rcases hx with rfl | rfl
    · exact hlo
    · exact hhi) (w.alloc (.cells #[.int .u64 ((n : Int) % 1000000000), .int .u64 ((n : Int) / 1000000000)] 42)) hown
  have hv : wval [n % 1000000000, n / 1000000000] = n := by simp only [wval]; rw [hB]; omega
  rw [hv] at htr
  have HTR := Lib.hid htr
  clear htr hown hblk hlo hhi hv hB
  have k1 : (n : Int) < 1000000000000000000 := by omega
  clear hn
  go_enter Tryz.func121, Tryz.ntmps121
  go_wp2_with fail
  refine HTR.out.mono ?_
  rintro e w1 ⟨v, rfl, ho, rfl⟩
  go_wp2
  go_ret
  exact ⟨v, rfl, ho, (Below.refl _ _).alloc (Nat.le_refl _) _⟩

set_option maxHeartbeats 1000000 in
theorem Common_short (v1 v2 : Value) (a b : Nat) (ha : (digs a).length ≤ 2) (hb : (digs b).length ≤ 2) (w : World) (h1 : Rd .u64 w v1 (digs a)) (h2 : Rd .u64 w v2 (digs b)) :
    Calls Tryz.prog 67 #[v1, v2] w fun e w' => ∃ v, e = .returned v ∧ Own .u64 42 w.heap.size w' v (digs (Nat.gcd a b)) ∧ Below w.heap.size w w' := by
  have s1 := Lib.hid (isShort_yes v1 _ ha w h1)
  have s2 := Lib.hid (isShort_yes v2 _ hb w h2)
  have t1 := Lib.hid (short_any v1 a ha w h1)
  have t2 := Lib.hid (short_any v2 b hb w h2)
  have hg : Nat.gcd a b < 1000000000000000000 := by
    rcases Nat.eq_zero_or_pos a with h | h
    · rw [h, Nat.gcd_zero_left]; exact lt_two hb
    · exact Nat.lt_of_le_of_lt (Nat.gcd_le_left b h) (lt_two ha)
  have hs := Lib.hid (allSteps_any a b (lt_two ha) (lt_two hb))
  have hlo := Lib.hid (long_any (Nat.gcd a b) hg)
  clear h1 h2 ha hb hg
  generalize Nat.gcd a b = g at *
  go_enter Tryz.func67, Tryz.ntmps67
  go_wp2_with fail
  refine s1.out.mono ?_
  rintro e w' ⟨rfl, rfl⟩
  go_wp2_with fail
  refine s2.out.mono ?_
  rintro e w' ⟨rfl, rfl⟩
  go_wp2_with fail
  refine t1.out.mono ?_
  rintro e w' ⟨rfl, rfl⟩
  go_wp2_with fail
  refine t2.out.mono ?_
  rintro e w' ⟨rfl, rfl⟩
  go_wp2_with fail
  refine (hs.out _).mono ?_
  rintro e w1 ⟨sa, sb, sc, sd, so, rfl, _, hb1⟩
  have HB1 := Lib.hid hb1
  clear hb1 s1 s2 t1 t2
  unfold Stp
  go_wp2_with fail
  refine (hlo.out _).mono ?_
  rintro e w2 ⟨v, rfl, ho, hb2⟩
  have HB2 := Lib.hid ((HB1.out.alloc HB1.out.size (.cells #[.int .u64 (sa : Int), .int .u64 (sb : Int), .int .u64 (sc : Int), .int .u64 (sd : Int), .bool so] 117)).trans (hb2.mono (by have := HB1.out.size; simp; omega)))
  have HO := Lib.hid (ho.mono (show w.heap.size ≤ _ by have := HB1.out.size; simp; omega))
  clear ho hb2
  go_wp2
  go_ret
  exact ⟨v, rfl, HO.out, HB2.out⟩

theorem GCD_no (a b : ByteArray) (h : (vld a.data.toList && vld b.data.toList) = false) (hsa : a.size ≤ maxLen) (hsb : b.size ≤ maxLen) (w : World) :
    Calls Tryz.prog 19 #[.string a, .string b] w fun e w' => e = .returned (.tuple #[St [], .int .i64 1]) ∧ w = w' := by
  rcases both_no h with ha | ⟨ha, hb⟩
  · have HA := Lib.hid ha
    clear h ha
    go_enter Tryz.func19, Tryz.ntmps19
    go_wp2_with fail
    refine (Valid_no a HA.out hsa _).mono ?_
    rintro e w' ⟨rfl, rfl⟩
    go_wp2
    go_ret2
    exact ⟨rfl, rfl⟩
  · have HA := Lib.hid ha
    have HB := Lib.hid hb
    clear h ha hb
    go_enter Tryz.func19, Tryz.ntmps19
    go_wp2_with fail
    refine (Valid_yes a HA.out hsa _).mono ?_
    rintro e w' ⟨rfl, rfl⟩
    go_wp2_with fail
    refine (Valid_no b HB.out hsb _).mono ?_
    rintro e w' ⟨rfl, rfl⟩
    go_wp2
    go_ret2
    exact ⟨rfl, rfl⟩

/-- What is asked of Common: for two numbers. -/
def CommonOk (a b : Nat) : Prop := ∀ (v1 v2 : Value) (w : World), Rd .u64 w v1 (digs a) → Rd .u64 w v2 (digs b) →
    Calls Tryz.prog 67 #[v1, v2] w fun e w' => ∃ v, e = .returned v ∧ Own .u64 42 w.heap.size w' v (digs (Nat.gcd a b)) ∧ Below w.heap.size w w'
theorem CommonOk.short {a b : Nat} (ha : (digs a).length ≤ 2) (hb : (digs b).length ≤ 2) : CommonOk a b := fun v1 v2 w h1 h2 => Common_short v1 v2 a b ha hb w h1 h2

set_option maxHeartbeats 1000000 in
theorem GCD_yes (a b : ByteArray) (ha : vld a.data.toList = true) (hb : vld b.data.toList = true) (hla : a.size ≤ 100000) (hlb : b.size ≤ 100000) (hok : CommonOk (dval a.data.toList) (dval b.data.toList)) (w : World) (htab : Tb w) :
    Calls Tryz.prog 19 #[.string a, .string b] w fun e w' => e = .returned (.tuple #[St (Lib.decDigits (Nat.gcd (dval a.data.toList) (dval b.data.toList))), .int .i64 0]) ∧ Below w.heap.size w w' := by
  have HA := Lib.hid ha
  have HB := Lib.hid hb
  have HT := Lib.hid htab
  have Hla := Lib.hid (show a.size ≤ maxLen by unfold maxLen; omega)
  have Hlb := Lib.hid (show b.size ≤ maxLen by unfold maxLen; omega)
  have hra := Lib.hid (all_of_vld ha)
  have hrb := Lib.hid (all_of_vld hb)
  have hlg : (digs (Nat.gcd (dval a.data.toList) (dval b.data.toList))).length ≤ 100000 := by
    rcases Nat.eq_zero_or_pos (dval a.data.toList) with h | h
    · rw [h, Nat.gcd_zero_left]; exact digs_len_str (all_of_vld hb) 100000 (by rw [size_list]; omega)
    · exact Nat.le_trans (digs_length_mono (Nat.gcd_le_left _ h)) (digs_len_str (all_of_vld ha) 100000 (by rw [size_list]; omega))
  have HLG := Lib.hid hlg
  have HOK := Lib.hid hok
  clear ha hb htab hlg hok
  go_enter Tryz.func19, Tryz.ntmps19
  go_wp2_with fail
  refine (Valid_yes a HA.out Hla.out _).mono ?_
  rintro e w' ⟨rfl, rfl⟩
  go_wp2_with fail
  refine (Valid_yes b HB.out Hlb.out _).mono ?_
  rintro e w' ⟨rfl, rfl⟩
  go_wp2_with fail
  refine (Read_any a hra.out hla _).mono ?_
  rintro e w1 ⟨v1, rfl, ho1, hb1⟩
  have HB1 := Lib.hid hb1
  have HO1 := Lib.hid ho1
  clear hb1 ho1
  go_wp2_with fail
  refine (Read_any b hrb.out hlb _).mono ?_
  rintro e w2 ⟨v2, rfl, ho2, hb2⟩
  have HB2 := Lib.hid (HB1.out.trans (hb2.mono HB1.out.size))
  have hm := Lib.hid (HOK.out v1 v2 w2 (HO1.out.rd.below hb2) ho2.rd)
  clear hb2 ho2
  go_wp2_with fail
  refine hm.out.mono ?_
  rintro e w3 ⟨v3, rfl, ho3, hb3⟩
  have HB3 := Lib.hid (HB2.out.trans (hb3.mono HB2.out.size))
  have hwr := Lib.hid (Write_any v3 _ HLG.out w3 ho3.rd (HT.out.on HB3.out))
  clear hb3 ho3
  go_wp2_with fail
  refine hwr.out.mono ?_
  rintro e w4 ⟨rfl, hb4⟩
  have HB4 := Lib.hid (HB3.out.trans (hb4.mono HB3.out.size))
  clear hb4
  go_wp2
  go_ret2
  exact ⟨rfl, HB4.out⟩

end Go.Proofs.YtgbcjlknlagoeaaGreatDoor
/- natural.powerOfTwo and natural.firstGuess of one word: walks. -/
namespace Go.Proofs.YtgbcjlknlagoeaaGreatDoor
open Go.RowKit Go.Gb

theorem lt_pow_bitLen : ∀ (k x : Nat), k ≤ 64 → x < 2 ^ k → x < 2 ^ Lib.bitLen x
  | 0, x, _, h => by
    obtain rfl : x = 0 := by simpa using h
    exact Nat.pow_pos (by decide)
  | k + 1, x, hk, h => by
    by_cases h0 : x = 0
    · subst h0; exact Nat.pow_pos (by decide)
    · have h64 : x < 2 ^ 64 := Nat.lt_of_lt_of_le h (Nat.pow_le_pow_right (by decide) hk)
      rw [Lib.bitLen_half x h0 h64, Nat.add_comm, Nat.pow_succ]
      have := lt_pow_bitLen k (x / 2) (by omega) (by rw [Nat.pow_succ] at h; omega)
      omega
set_option maxHeartbeats 1000000 in
theorem pow2_any (n : Nat) (hn : n < 1152921504606846976) (w : World) :
    Calls Tryz.prog 150 #[.int .u64 (n : Int)] w fun e w' => e = .returned (.int .u64 ((2 ^ ((Lib.bitLen n + 1) / 2) : Nat) : Int)) ∧ w = w' := by
  have hL : Lib.bitLen n ≤ 60 := Lib.bitLen_le n 60 (by omega) (by omega)
  have hc := Lib.hid (Tryz.bits_Len64 (n : Int) w (by omega) (by omega))
  clear hn
  rw [Int.toNat_natCast] at hc
  generalize Lib.bitLen n = L at *
  obtain ⟨s, hs⟩ : ∃ s : Nat, s = (L + 1) / 2 := ⟨_, rfl⟩
  rw [← hs]
  have hsi : ((L : Int) + 1) / 2 = (s : Int) := by omega
  have hs30 : s ≤ 30 := by omega
  have HS := Lib.hid hs
  clear hs
  go_enter Tryz.func150, Tryz.ntmps150
  go_wp2_with fail
  refine hc.out.mono ?_
  rintro e w' ⟨rfl, rfl⟩
  have hp : (2 : Int) ^ s = ((2 ^ s : Nat) : Int) := by simp
  have hp2 : 2 ^ s ≤ 2 ^ 30 := Nat.pow_le_pow_right (by decide) hs30
  have HF := Lib.hid (show IntKind.u64.wrap ((2 : Int) ^ s) = ((2 ^ s : Nat) : Int) by rw [hp]; exact IntWalk.u64_in _ ⟨Int.natCast_nonneg _, by have := Int.ofNat_le.2 hp2; omega⟩)
  clear HS hp hp2
  go_wp2
  go_ret
  exact ⟨ret_int HF.out, rfl⟩

/-- A guess from above. -/
def Above (x g : Nat) : Prop := 0 < g ∧ x < (g + 1) * (g + 1)

theorem pow2_above (n : Nat) (hn : n < 1152921504606846976) : Above n (2 ^ ((Lib.bitLen n + 1) / 2)) := by
  refine ⟨Nat.pow_pos (by decide), ?_⟩
  have h1 := lt_pow_bitLen 60 n (by decide) (by omega)
  have h2 : 2 ^ Lib.bitLen n ≤ 2 ^ ((Lib.bitLen n + 1) / 2 + (Lib.bitLen n + 1) / 2) := Nat.pow_le_pow_right (by decide) (by omega)
  rw [Nat.pow_add] at h2
  generalize 2 ^ ((Lib.bitLen n + 1) / 2) = p at *
  have h3 : p * p ≤ (p + 1) * (p + 1) := Nat.mul_le_mul (by omega) (by omega)
  omega

/-- Newton's step. -/
theorem newton_done {x g : Nat} (h : g ≤ (g + x / g) / 2) : g * g ≤ x := by
  have h1 : g ≤ x / g := by omega
  have h2 : g * g ≤ x / g * g := Nat.mul_le_mul_right _ h1
  exact Nat.le_trans h2 (Nat.div_mul_le_self x g)
theorem amgm (u v : Nat) : 4 * (u * v) ≤ (u + v) * (u + v) := by
  rcases Nat.le_total u v with h | h
  · obtain ⟨k, rfl⟩ := Nat.exists_eq_add_of_le h
    have : (u + (u + k)) * (u + (u + k)) = 4 * (u * (u + k)) + k * k := by grind
    omega
  · obtain ⟨k, rfl⟩ := Nat.exists_eq_add_of_le h
    have : (v + k + v) * (v + k + v) = 4 * ((v + k) * v) + k * k := by grind
    omega
theorem newton_next {x g : Nat} (hx : 0 < x) (hg : 0 < g) : Above x ((g + x / g) / 2) := by
  have hd : x < g * (x / g + 1) := by
    exact Nat.lt_mul_div_succ x hg
  generalize x / g = q at *
  have h1 := amgm g (q + 1)
  have h2 : g + (q + 1) ≤ 2 * ((g + q) / 2 + 1) := by omega
  have h3 : (g + (q + 1)) * (g + (q + 1)) ≤ 2 * ((g + q) / 2 + 1) * (2 * ((g + q) / 2 + 1)) := Nat.mul_le_mul h2 h2
  generalize (g + q) / 2 = n at *
  have h4 : 2 * (n + 1) * (2 * (n + 1)) = 4 * ((n + 1) * (n + 1)) := by grind
  refine ⟨?_, by omega⟩
  rcases Nat.eq_zero_or_pos n with h | h
  · subst h; omega
  · exact h

/-- What is asked of add, of Divide. -/
def AddOk (a b : Nat) : Prop := ∀ (v1 v2 : Value) (w : World), Rd .u64 w v1 (digs a) → Rd .u64 w v2 (digs b) →
    Calls Tryz.prog 54 #[v1, v2] w fun e w' => ∃ v, e = .returned v ∧ Own .u64 42 w.heap.size w' v (digs (a + b)) ∧ Below w.heap.size w w'
def DivOk (a b : Nat) : Prop := ∀ (v1 v2 : Value) (w : World), Rd .u64 w v1 (digs a) → Rd .u64 w v2 (digs b) →
    Calls Tryz.prog 65 #[v1, v2] w fun e w' => ∃ q r, e = .returned (.tuple #[q, r]) ∧ Own .u64 42 w.heap.size w' q (digs (a / b)) ∧ Own .u64 42 w.heap.size w' r (digs (a % b)) ∧ Below w.heap.size w w'
theorem DivOk.less {a b : Nat} (hab : a < b) (hl : (digs a).length ≤ 100000) : DivOk a b := fun v1 v2 w h1 h2 =>
  (Divide_less v1 v2 a b hab hl w h1 h2).mono fun e w' ⟨r, he, hr, hb⟩ => ⟨_, r, he, by rw [Nat.div_eq_of_lt hab, digs_zero]; exact Own.nil _ _ _ _, by rw [Nat.mod_eq_of_lt hab]; exact hr, hb⟩
theorem DivOk.word {a b : Nat} (hb : (digs b).length = 1) (hl : (digs a).length ≤ 100000) : DivOk a b := by
  by_cases hab : a < b
  · exact DivOk.less hab hl
  · exact fun v1 v2 w h1 h2 => Divide_word v1 v2 a b hab hb hl w h1 h2

theorem firstGuess_one (v : Value) (x : Nat) (hx : (digs x).length = 1) (w : World) (h : Rd .u64 w v (digs x)) :
    Calls Tryz.prog 125 #[v] w fun e w' => ∃ u, e = .returned u ∧ Own .u64 42 w.heap.size w' u (digs (2 ^ ((Lib.bitLen x + 1) / 2))) ∧ Below w.heap.size w w' := by
  have hx0 : x ≠ 0 := by intro h; rw [h, digs_zero] at hx; simp at hx
  have hxB : x < BB := by have := lt_pow_digs x; rwa [hx, Nat.pow_one] at this
  have hd : (digs x).getD 0 0 = x := by
    rw [digs_pos hx0]; simp [Nat.mod_eq_of_lt hxB]
  obtain ⟨b, o, c, rfl, _, _, _, r⟩ := rd_pos h (by omega)
  have hc := r 0 (by omega)
  rw [hd, Nat.add_zero] at hc
  rw [hx]
  have hB := BB_eq
  have hp := Lib.hid (pow2_any x (by omega) w)
  have hL : Lib.bitLen x ≤ 30 := Lib.bitLen_le x 30 (by omega) (by omega)
  have hpb : 2 ^ ((Lib.bitLen x + 1) / 2) ≤ 2 ^ 15 := Nat.pow_le_pow_right (by decide) (by omega)
  have hp0 : 0 < 2 ^ ((Lib.bitLen x + 1) / 2) := Nat.pow_pos (by decide)
  have ho := Lib.hid (own_alloc_one w (2 ^ ((Lib.bitLen x + 1) / 2)) (by omega) (by omega))
  clear r h hd hL hpb hp0 hx0 hx
  generalize 2 ^ ((Lib.bitLen x + 1) / 2) = p at *
  have HxB := Lib.hid hxB
  clear hxB hB
  go_enter Tryz.func125, Tryz.ntmps125
  go_wp2_with fail
  refine hp.out.mono ?_
  rintro e w' ⟨rfl, rfl⟩
  go_wp2
  go_ret
  exact ⟨_, rfl, ho.out, (Below.refl _ _).alloc (Nat.le_refl _) _⟩

theorem digs_two_len : (digs 2).length = 1 := by
  have h := digs_cons (w := 2) (n := 0) (by rw [BB_eq]; decide) (Or.inl (by decide))
  rw [digs_zero] at h
  have e : digs 2 = [2] := by simpa using h
  rw [e]; rfl
theorem digs_sum_len {x g g0 K : Nat} (hg : g ≤ g0) (hgl : (digs g0).length ≤ K) (hl : (digs x).length ≤ K) : (digs (g + x / g)).length ≤ K + 1 := by
  refine digs_length_le ?_
  have h1 := lt_pow_digs g0
  have h2 := lt_pow_digs x
  have h3 : BB ^ (digs g0).length ≤ BB ^ K := Nat.pow_le_pow_right BB_pos hgl
  have h4 : BB ^ (digs x).length ≤ BB ^ K := Nat.pow_le_pow_right BB_pos hl
  have h5 := Nat.div_le_self x g
  have h6 : BB ^ (K + 1) = BB ^ K * BB := Nat.pow_succ BB K
  have h7 : BB ^ K * 2 ≤ BB ^ K * BB := Nat.mul_le_mul_left _ BB_one
  generalize BB ^ K = P at *
  generalize BB ^ (K + 1) = Q at *
  generalize x / g = q at *
  omega
theorem digs_half_len {x g g0 K : Nat} (hg : g ≤ g0) (hgl : (digs g0).length ≤ K) (hl : (digs x).length ≤ K) : (digs ((g + x / g) / 2)).length ≤ K + 1 :=
  Nat.le_trans (digs_length_mono (Nat.div_le_self _ 2)) (digs_sum_len hg hgl hl)

set_option maxHeartbeats 2000000 in
/-- root, from the first guess on. -/
theorem root_from (v : Value) (x g0 : Nat) (hx : 0 < x) (hl : (digs x).length ≤ 10000) (hg0 : Above x g0)
    (hfg : ∀ w, Rd .u64 w v (digs x) → Calls Tryz.prog 125 #[v] w fun e w' => ∃ u, e = .returned u ∧ Own .u64 42 w.heap.size w' u (digs g0) ∧ Below w.heap.size w w')
    (hdiv : ∀ g, Above x g → g ≤ g0 → DivOk x g) (hadd : ∀ g, Above x g → g ≤ g0 → AddOk g (x / g)) (hgl : (digs g0).length ≤ 10000) (w : World) (h : Rd .u64 w v (digs x)) :
    Calls Tryz.prog 69 #[v] w fun e w' => ∃ u s, e = .returned u ∧ s * s ≤ x ∧ x < (s + 1) * (s + 1) ∧ Own .u64 42 w.heap.size w' u (digs s) ∧ Below w.heap.size w w' := by
  obtain ⟨va, vc, rfl⟩ := rd_form h
  have hx1 : 0 < (digs x).length := List.length_pos_iff.2 (by rw [digs_pos (by omega)]; simp)
  have hz : (((digs x).length : Int) == 0) = false := beq_eq_false_iff_ne.2 (by omega)
  have hfg' := Lib.hid (hfg w h)
  have HR := Lib.hid h
  have HD := Lib.hid hdiv
  have HA := Lib.hid hadd
  have HG0 := Lib.hid hg0
  have HX := Lib.hid hx
  clear hfg h hdiv hadd hg0 hx hx1
  go_enter Tryz.func69, Tryz.ntmps69
  go_wp2_with fail
  refine hfg'.out.mono ?_
  rintro e w1 ⟨u, rfl, ho, hb⟩
  have HO := Lib.hid ho
  have HB := Lib.hid hb
  clear ho hb
  go_wp2
  go_loopg [3] g0 (fun k s3 wr => ∃ g, k = g ∧ Hid (Above x g) ∧ g ≤ g0 ∧ Hid (Own .u64 42 w.heap.size wr s3 (digs g)) ∧ Hid (Below w.heap.size w wr))
  case atStart => exact ⟨g0, rfl, HG0, Nat.le_refl _, HO, HB⟩
  case round =>
    obtain ⟨g, rfl, ha, hg, ho, hn⟩ := hrel
    have hd1 := Lib.hid (HD.out gk ha.out hg _ _ wr (HR.out.below hn.out) ho.out.rd)
    go_wp2_with fail
    refine hd1.out.mono ?_
    rintro e w1 ⟨q, r, rfl, hq, _, hb1⟩
    have hn1 := Lib.hid (hn.out.trans (hb1.mono hn.out.size))
    have ha1 := Lib.hid (HA.out gk ha.out hg _ _ w1 (ho.out.rd.below hb1) hq.rd)
    have ho1 := Lib.hid (ho.out.below hb1)
    clear hq hb1 hd1
    go_wp2_with fail
    refine ha1.out.mono ?_
    rintro e w2 ⟨t, rfl, ht, hb2⟩
    have hn2 := Lib.hid (hn1.out.trans (hb2.mono hn1.out.size))
    have ho2 := Lib.hid (ho1.out.below hb2)
    have h2b := (Below.refl w2.heap.size w2).alloc (Nat.le_refl _) (.cells #[.int .u64 2] 42)
    have htwo := own_alloc_one w2 2 (by decide) (by have := BB_eq; omega)
    have hd2 := Lib.hid (DivOk.word (a := gk + x / gk) (b := 2) digs_two_len (Nat.le_trans (digs_sum_len hg hgl hl) (by omega)) t _ (w2.alloc (.cells #[.int .u64 2] 42)) ((ht.below h2b).rd) htwo.rd)
    have hn2' := Lib.hid (hn2.out.alloc hn2.out.size (.cells #[.int .u64 2] 42))
    have ho2' := Lib.hid (ho2.out.below h2b)
    clear ht hb2 ha1 h2b htwo
    go_wp2_with fail
    refine hd2.out.mono ?_
    rintro e w3 ⟨p, r2, rfl, hp, _, hb3⟩
    have hn3 := Lib.hid (hn2'.out.trans (hb3.mono hn2'.out.size))
    have ho3 := Lib.hid (ho2'.out.below hb3)
    have hp3 := Lib.hid (hp.mono hn2'.out.size)
    have hless := Less_any p _ ((gk + x / gk) / 2) gk (Nat.le_trans (digs_half_len hg hgl hl) (by omega)) w3 hp.rd ho3.out.rd
    by_cases hlt : (gk + x / gk) / 2 < gk
    · rw [show decide ((gk + x / gk) / 2 < gk) = true by simpa using hlt] at hless
      have HL := Lib.hid hless
      have HN := Lib.hid (newton_next HX.out ha.out.1)
      have HLT := Lib.hid hlt
      clear hp hb3 hless hd2 hlt
      generalize (gk + x / gk) / 2 = nx at *
      go_wp2_with fail
      refine HL.out.mono ?_
      rintro e w4 ⟨rfl, hb4⟩
      have hn4 := Lib.hid (hn3.out.trans (hb4.mono hn3.out.size))
      have hp4 := Lib.hid (hp3.out.below hb4)
      have hg' := Lib.hid (show nx ≤ g0 from Nat.le_of_lt (Nat.lt_of_lt_of_le HLT.out hg))
      clear hb4
      go_wp2
      go_roundg nx
      case measure => exact HLT.out
      case rel => exact ⟨nx, rfl, HN, hg'.out, hp4, hn4⟩
    · rw [show decide ((gk + x / gk) / 2 < gk) = false by simpa using hlt] at hless
      have HL := Lib.hid hless
      have HF := Lib.hid (newton_done (x := x) (g := gk) (by omega))
      clear hp hb3 hless hd2 hlt
      go_wp2_with fail
      refine HL.out.mono ?_
      rintro e w4 ⟨rfl, hb4⟩
      have hn4 := Lib.hid (hn3.out.trans (hb4.mono hn3.out.size))
      have ho4 := Lib.hid (ho3.out.below hb4)
      clear hb4
      go_wp2
      go_ret
      exact ⟨_, gk, rfl, HF.out, ha.out.2, ho4.out, hn4.out⟩

end Go.Proofs.YtgbcjlknlagoeaaGreatDoor
/- natural.Add of long numerals, natural.Root of a number of one word: walks. -/
namespace Go.Proofs.YtgbcjlknlagoeaaGreatDoor
open Go.RowKit Go.Gb

theorem digs_add_len {a b K : Nat} (ha : (digs a).length ≤ K) (hb : (digs b).length ≤ K) : (digs (a + b)).length ≤ K + 1 := by
  refine digs_length_le ?_
  have h1 := lt_pow_digs a
  have h2 := lt_pow_digs b
  have h3 : BB ^ (digs a).length ≤ BB ^ K := Nat.pow_le_pow_right BB_pos ha
  have h4 : BB ^ (digs b).length ≤ BB ^ K := Nat.pow_le_pow_right BB_pos hb
  have h6 : BB ^ (K + 1) = BB ^ K * BB := Nat.pow_succ BB K
  have h7 : BB ^ K * 2 ≤ BB ^ K * BB := Nat.mul_le_mul_left _ BB_one
  generalize BB ^ K = P at *
  generalize BB ^ (K + 1) = Q at *
  omega

set_option maxHeartbeats 2000000 in
theorem Add_long (a b : ByteArray) (ha : vld a.data.toList = true) (hb : vld b.data.toList = true) (hs : 19 ≤ a.size ∨ 19 ≤ b.size) (hla : a.size ≤ 100000) (hlb : b.size ≤ 100000) (hok : AddOk (dval a.data.toList) (dval b.data.toList)) (w : World) (htab : Tb w) :
    Calls Tryz.prog 11 #[.string a, .string b] w fun e w' => e = .returned (.tuple #[St (Lib.decDigits (dval a.data.toList + dval b.data.toList)), .int .i64 0]) ∧ Below w.heap.size w w' := by
  have HA := Lib.hid ha
  have HB := Lib.hid hb
  have HT := Lib.hid htab
  have HOK := Lib.hid hok
  have Hla := Lib.hid (show a.size ≤ maxLen by unfold maxLen; omega)
  have Hlb := Lib.hid (show b.size ≤ maxLen by unfold maxLen; omega)
  have hra := Lib.hid (all_of_vld ha)
  have hrb := Lib.hid (all_of_vld hb)
  have hlp : (digs (dval a.data.toList + dval b.data.toList)).length ≤ 100000 := by
    have g1 := digs_len_str (all_of_vld ha) 20000 (by rw [size_list]; omega)
    have g2 := digs_len_str (all_of_vld hb) 20000 (by rw [size_list]; omega)
    have g3 := digs_add_len g1 g2
    omega
  have HLP := Lib.hid hlp
  have hmx : ¬ max (a.size : Int) (b.size : Int) < 19 := by omega
  clear ha hb htab hok hlp hs
  go_enter Tryz.func11, Tryz.ntmps11
  go_wp2_with fail
  refine (Valid_yes a HA.out Hla.out _).mono ?_
  rintro e w' ⟨rfl, rfl⟩
  go_wp2_with fail
  refine (Valid_yes b HB.out Hlb.out _).mono ?_
  rintro e w' ⟨rfl, rfl⟩
  go_wp2_with fail
  refine (Read_any a hra.out hla _).mono ?_
  rintro e w1 ⟨v1, rfl, ho1, hb1⟩
  have HB1 := Lib.hid hb1
  have HO1 := Lib.hid ho1
  clear hb1 ho1
  go_wp2_with fail
  refine (Read_any b hrb.out hlb _).mono ?_
  rintro e w2 ⟨v2, rfl, ho2, hb2⟩
  have HB2 := Lib.hid (HB1.out.trans (hb2.mono HB1.out.size))
  have hm := Lib.hid (HOK.out v1 v2 w2 (HO1.out.rd.below hb2) ho2.rd)
  clear hb2 ho2
  go_wp2_with fail
  refine hm.out.mono ?_
  rintro e w3 ⟨v3, rfl, ho3, hb3⟩
  have HB3 := Lib.hid (HB2.out.trans (hb3.mono HB2.out.size))
  have hwr := Lib.hid (Write_any v3 _ HLP.out w3 ho3.rd (HT.out.on HB3.out))
  clear hb3 ho3
  go_wp2_with fail
  refine hwr.out.mono ?_
  rintro e w4 ⟨rfl, hb4⟩
  have HB4 := Lib.hid (HB3.out.trans (hb4.mono HB3.out.size))
  clear hb4
  go_wp2
  go_ret2
  exact ⟨rfl, HB4.out⟩

/-- What is asked of root. -/
def RootOk (x : Nat) : Prop := ∀ (v : Value) (w : World), Rd .u64 w v (digs x) →
    Calls Tryz.prog 69 #[v] w fun e w' => ∃ u s, e = .returned u ∧ s * s ≤ x ∧ x < (s + 1) * (s + 1) ∧ Own .u64 42 w.heap.size w' u (digs s) ∧ Below w.heap.size w w'

theorem RootOk.one {x : Nat} (hx : (digs x).length = 1) (hadd : ∀ g, Above x g → g ≤ 2 ^ ((Lib.bitLen x + 1) / 2) → AddOk g (x / g)) : RootOk x := by
  intro v w h
  have hx0 : x ≠ 0 := by intro h; rw [h, digs_zero] at hx; simp at hx
  have hxB : x < BB := by have := lt_pow_digs x; rwa [hx, Nat.pow_one] at this
  have hB := BB_eq
  have hL : Lib.bitLen x ≤ 30 := Lib.bitLen_le x 30 (by omega) (by omega)
  have hpb : 2 ^ ((Lib.bitLen x + 1) / 2) ≤ 2 ^ 15 := Nat.pow_le_pow_right (by decide) (by omega)
  have hlen : ∀ g, g ≤ 2 ^ ((Lib.bitLen x + 1) / 2) → 0 < g → (digs g).length = 1 := by
    intro g hg h0
    have h1 : (digs g).length ≤ 1 := digs_length_le (by rw [Nat.pow_one]; omega)
    have h2 : 0 < (digs g).length := List.length_pos_iff.2 (by rw [digs_pos (by omega)]; simp)
    omega
  exact root_from v x _ (by omega) (by omega) (pow2_above x (by omega)) (fun w h => firstGuess_one v x hx w h) (fun g ha hg => DivOk.word (hlen g hg ha.1) (by omega)) hadd (by rw [hlen _ (Nat.le_refl _) (Nat.pow_pos (by decide))]; omega) w h

set_option maxHeartbeats 1000000 in
theorem Root_yes (a : ByteArray) (ha : vld a.data.toList = true) (hla : a.size ≤ 100000) (hok : RootOk (dval a.data.toList)) (w : World) (htab : Tb w) :
    Calls Tryz.prog 21 #[.string a] w fun e w' => ∃ s, e = .returned (.tuple #[St (Lib.decDigits s), .int .i64 0]) ∧ s * s ≤ dval a.data.toList ∧ dval a.data.toList < (s + 1) * (s + 1) ∧ Below w.heap.size w w' := by
  have HA := Lib.hid ha
  have HT := Lib.hid htab
  have HOK := Lib.hid hok
  have Hla := Lib.hid (show a.size ≤ maxLen by unfold maxLen; omega)
  have hra := Lib.hid (all_of_vld ha)
  have hda := Lib.hid (digs_len_str (all_of_vld ha) 100000 (by rw [size_list]; omega))
  clear ha htab hok
  go_enter Tryz.func21, Tryz.ntmps21
  go_wp2_with fail
  refine (Valid_yes a HA.out Hla.out _).mono ?_
  rintro e w' ⟨rfl, rfl⟩
  go_wp2_with fail
  refine (Read_any a hra.out hla _).mono ?_
  rintro e w1 ⟨v1, rfl, ho1, hb1⟩
  have HB1 := Lib.hid hb1
  have HR := Lib.hid (HOK.out v1 w1 ho1.rd)
  clear hb1 ho1
  go_wp2_with fail
  refine HR.out.mono ?_
  rintro e w2 ⟨v2, s, rfl, hs1, hs2, ho2, hb2⟩
  have HB2 := Lib.hid (HB1.out.trans (hb2.mono HB1.out.size))
  have hls : (digs s).length ≤ 100000 := by
    have : s ≤ s * s := Nat.le_mul_self s
    exact Nat.le_trans (digs_length_mono (Nat.le_trans this hs1)) hda.out
  have hwr := Lib.hid (Write_any v2 _ hls w2 ho2.rd (HT.out.on HB2.out))
  have HS1 := Lib.hid hs1
  have HS2 := Lib.hid hs2
  clear hb2 ho2 hs1 hs2 hls
  go_wp2_with fail
  refine hwr.out.mono ?_
  rintro e w4 ⟨rfl, hb4⟩
  have HB4 := Lib.hid (HB2.out.trans (hb4.mono HB2.out.size))
  clear hb4
  go_wp2
  go_ret2
  exact ⟨s, rfl, HS1.out, HS2.out, HB4.out⟩

end Go.Proofs.YtgbcjlknlagoeaaGreatDoor
