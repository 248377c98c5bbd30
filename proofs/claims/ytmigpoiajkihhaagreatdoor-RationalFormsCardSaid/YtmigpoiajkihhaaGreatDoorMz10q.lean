/- Texts of this proof, one behind the other. -/
import Derived.Test.YtmigpoiajkihhaaGreatDoorMz9q
import Derived.Deep.LoopGhost
import Derived.Test.YtmigpoiajkihhaaGreatDoorMz8q
import Derived.BigQuiet
/- words.Common and natural.GCD of short numbers: walks. -/
namespace Go.Proofs.YtmigpoiajkihhaaGreatDoor
set_option maxRecDepth 100000
set_option maxHeartbeats 20000000
open Go.RowKit Go.Gb
theorem wordAt_nat (v : Value) (xs : List Nat) (i : Nat) (hi : i ≤ 1000000) (hl : xs.length ≤ 1000000) (w : World) (h : Rd .u64 w v xs) :
 Calls Tryz.prog 193 #[v, .int .i64 (i : Int)] w fun e w' => e = .returned (.int .u64 ((xs.getD i 0 : Nat) : Int)) ∧ w = w' := by
 by_cases hlt : i < xs.length
 · obtain ⟨b, o, c, rfl, _, _, _, r⟩ := rd_pos h (by omega)
   have hc := r i hlt
   clear r h
   generalize xs.getD i 0 = x at *
   go_enter Tryz.func193, Tryz.ntmps193
   go_wp2
   go_ret
   exact ⟨rfl, rfl⟩
 · obtain ⟨a, c, rfl⟩ := rd_form h
   have e : xs.getD i 0 = 0 := by simp [List.getD, List.getElem?_eq_none (show xs.length ≤ i by omega)]
   rw [e]
   clear h e
   go_enter Tryz.func193, Tryz.ntmps193
   go_wp2
   go_ret
   exact ⟨rfl, rfl⟩
theorem wordAt_0 (v : Value) (xs : List Nat) (hl : xs.length ≤ 1000000) (w : World) (h : Rd .u64 w v xs) :
 Calls Tryz.prog 193 #[v, .int .i64 0] w fun e w' => e = .returned (.int .u64 ((xs.getD 0 0 : Nat) : Int)) ∧ w = w' := wordAt_nat v xs 0 (by omega) hl w h
theorem wordAt_1 (v : Value) (xs : List Nat) (hl : xs.length ≤ 1000000) (w : World) (h : Rd .u64 w v xs) :
 Calls Tryz.prog 193 #[v, .int .i64 1] w fun e w' => e = .returned (.int .u64 ((xs.getD 1 0 : Nat) : Int)) ∧ w = w' := wordAt_nat v xs 1 (by omega) hl w h
theorem digs_two {n : Nat} (h : (digs n).length ≤ 2) : (digs n).getD 1 0 * BB + (digs n).getD 0 0 = n ∧ (digs n).getD 0 0 < BB ∧ (digs n).getD 1 0 < BB := by
 have hv := wval_digs n
 have hl := digs_lt n
 refine ⟨?_, getD_lt hl 0, getD_lt hl 1⟩
 match hd : digs n, h with
 | [], _ => rw [hd] at hv; simp [wval] at hv; simp; exact hv
 | [x], _ => rw [hd] at hv; simp [wval] at hv; simp; exact hv
 | [x, y], _ => rw [hd] at hv; simp [wval] at hv; simp; rw [Nat.mul_comm y]; omega
theorem lt_two {n : Nat} (h : (digs n).length ≤ 2) : n < 1000000000000000000 := by
 have h1 := lt_pow_digs n
 have h2 : BB ^ (digs n).length ≤ BB ^ 2 := Nat.pow_le_pow_right BB_pos h
 have h3 : BB ^ 2 = 1000000000000000000 := by rw [BB_eq]
 omega
theorem short_any (v : Value) (n : Nat) (hn : (digs n).length ≤ 2) (w : World) (h : Rd .u64 w v (digs n)) :
 Calls Tryz.prog 167 #[v] w fun e w' => e = .returned (.int .u64 (n : Int)) ∧ w = w' := by
 have h0 := Lib.hid (wordAt_0 v (digs n) (by omega) w h)
 have h1 := Lib.hid (wordAt_1 v (digs n) (by omega) w h)
 obtain ⟨g1, g2, g3⟩ := digs_two hn
 rw [BB_eq] at g1 g2 g3
 have G1 := Lib.hid g1
 clear g1 h hn
 generalize (digs n).getD 0 0 = x at *
 generalize (digs n).getD 1 0 = y at *
 have k1 : (x : Int) ≤ 999999999 := by omega
 have k2 : (y : Int) ≤ 999999999 := by omega
 clear g2 g3
 go_enter Tryz.func167, Tryz.ntmps167
 go_wp2_with fail
 refine h1.out.mono ?_
 rintro e w' ⟨rfl, rfl⟩
 go_wp2_with fail
 refine h0.out.mono ?_
 rintro e w' ⟨rfl, rfl⟩
 go_wp2
 go_ret
 exact ⟨ret_int (by have := G1.out; omega), rfl⟩
theorem isShort_any (a : Option Addr) (n c : Nat) (hn : n ≤ 1000000) (w : World) :
 Calls Tryz.prog 165 #[.slice a n c] w fun e w' => e = .returned (.bool (decide (n ≤ 2))) ∧ w = w' := by
 by_cases h : n ≤ 2
 · go_enter Tryz.func165, Tryz.ntmps165
   go_wp2
   go_ret
   exact ⟨ret_bool (by simp [h]; try omega), rfl⟩
 · go_enter Tryz.func165, Tryz.ntmps165
   go_wp2
   go_ret
   exact ⟨ret_bool (by simp [h]; try omega), rfl⟩
theorem isShort_yes (v : Value) (xs : List Nat) (hn : xs.length ≤ 2) (w : World) (h : Rd .u64 w v xs) :
 Calls Tryz.prog 165 #[v] w fun e w' => e = .returned (.bool true) ∧ w = w' := by
 obtain ⟨a, c, rfl⟩ := rd_form h
 exact (isShort_any a _ c (by omega) w).mono fun e w' ⟨h1, h2⟩ => ⟨by rw [h1]; simp [hn], h2⟩
theorem isShort_no (v : Value) (xs : List Nat) (hn : 2 < xs.length) (hl : xs.length ≤ 1000000) (w : World) (h : Rd .u64 w v xs) :
 Calls Tryz.prog 165 #[v] w fun e w' => e = .returned (.bool false) ∧ w = w' := by
 obtain ⟨a, c, rfl⟩ := rd_form h
 exact (isShort_any a _ c (by omega) w).mono fun e w' ⟨h1, h2⟩ => ⟨by rw [h1]; simp; omega, h2⟩
theorem long_any (n : Nat) (hn : n < 1000000000000000000) (w : World) :
 Calls Tryz.prog 168 #[.int .u64 (n : Int)] w fun e w' => ∃ v, e = .returned v ∧ Own .u64 141 w.heap.size w' v (digs n) ∧ Below w.heap.size w w' := by
 have hB := BB_eq
 have hlo : n % 1000000000 < BB := by rw [hB]; exact Nat.mod_lt _ (by decide)
 have hhi : n / 1000000000 < BB := by rw [hB]; omega
 have hblk : Blk (w.alloc (.cells #[.int .u64 ((n : Int) % 1000000000), .int .u64 ((n : Int) / 1000000000)] 141)) w.heap.size [n % 1000000000, n / 1000000000] := Blk.alloc _ _ (by simp [cls])
 have hown := hblk.own (B := w.heap.size) (Nat.le_refl _) (by unfold maxLen; simp) 2 (by simp)
 have htr := Trim_own 141 w.heap.size _ [n % 1000000000, n / 1000000000] (by
  intro x hx
  simp only [List.mem_cons, List.not_mem_nil, or_false] at hx
  rcases hx with rfl | rfl
  · exact hlo
  · exact hhi) (w.alloc (.cells #[.int .u64 ((n : Int) % 1000000000), .int .u64 ((n : Int) / 1000000000)] 141)) hown
 have hv : wval [n % 1000000000, n / 1000000000] = n := by simp only [wval]; rw [hB]; omega
 rw [hv] at htr
 have HTR := Lib.hid htr
 clear htr hown hblk hlo hhi hv hB
 have k1 : (n : Int) < 1000000000000000000 := by omega
 clear hn
 go_enter Tryz.func168, Tryz.ntmps168
 go_wp2_with fail
 refine HTR.out.mono ?_
 rintro e w1 ⟨v, rfl, ho, rfl⟩
 go_wp2
 go_ret
 exact ⟨v, rfl, ho, (Below.refl _ _).alloc (Nat.le_refl _) _⟩
theorem Common_short (v1 v2 : Value) (a b : Nat) (ha : (digs a).length ≤ 2) (hb : (digs b).length ≤ 2) (w : World) (h1 : Rd .u64 w v1 (digs a)) (h2 : Rd .u64 w v2 (digs b)) :
 Calls Tryz.prog 126 #[v1, v2] w fun e w' => ∃ v, e = .returned v ∧ Own .u64 141 w.heap.size w' v (digs (Nat.gcd a b)) ∧ Below w.heap.size w w' := by
 have s1 := Lib.hid (isShort_yes v1 _ ha w h1)
 have s2 := Lib.hid (isShort_yes v2 _ hb w h2)
 have t1 := Lib.hid (short_any v1 a ha w h1)
 have t2 := Lib.hid (short_any v2 b hb w h2)
 have hg : Nat.gcd a b < 1000000000000000000 := by
  rcases Nat.eq_zero_or_pos a with h | h
  · rw [h, Nat.gcd_zero_left]; exact lt_two hb
  · exact Nat.lt_of_le_of_lt (Nat.gcd_le_left b h) (lt_two ha)
 have hs := Lib.hid (allSteps_any a b (lt_two ha) (lt_two hb))
 have hlo := Lib.hid (long_any (Nat.gcd a b) hg)
 clear h1 h2 ha hb hg
 generalize Nat.gcd a b = g at *
 go_enter Tryz.func126, Tryz.ntmps126
 go_wp2_with fail
 refine s1.out.mono ?_
 rintro e w' ⟨rfl, rfl⟩
 go_wp2_with fail
 refine s2.out.mono ?_
 rintro e w' ⟨rfl, rfl⟩
 go_wp2_with fail
 refine t1.out.mono ?_
 rintro e w' ⟨rfl, rfl⟩
 go_wp2_with fail
 refine t2.out.mono ?_
 rintro e w' ⟨rfl, rfl⟩
 go_wp2_with fail
 refine (hs.out _).mono ?_
 rintro e w1 ⟨sa, sb, sc, sd, so, rfl, _, hb1⟩
 have HB1 := Lib.hid hb1
 clear hb1 s1 s2 t1 t2
 unfold Stp
 go_wp2_with fail
 refine (hlo.out _).mono ?_
 rintro e w2 ⟨v, rfl, ho, hb2⟩
 have HB2 := Lib.hid ((HB1.out.alloc HB1.out.size (.cells #[.int .u64 (sa : Int), .int .u64 (sb : Int), .int .u64 (sc : Int), .int .u64 (sd : Int), .bool so] 176)).trans (hb2.mono (by have := HB1.out.size; simp; omega)))
 have HO := Lib.hid (ho.mono (show w.heap.size ≤ _ by have := HB1.out.size; simp; omega))
 clear ho hb2
 go_wp2
 go_ret
 exact ⟨v, rfl, HO.out, HB2.out⟩
def CommonOk (a b : Nat) : Prop := ∀ (v1 v2 : Value) (w : World), Rd .u64 w v1 (digs a) → Rd .u64 w v2 (digs b) →
    Calls Tryz.prog 126 #[v1, v2] w fun e w' => ∃ v, e = .returned v ∧ Own .u64 141 w.heap.size w' v (digs (Nat.gcd a b)) ∧ Below w.heap.size w w'
end Go.Proofs.YtmigpoiajkihhaaGreatDoor
/- natural.powerOfTwo and natural.firstGuess of one word: walks. -/
namespace Go.Proofs.YtmigpoiajkihhaaGreatDoor
open Go.RowKit Go.Gb
def AddOk (a b : Nat) : Prop := ∀ (v1 v2 : Value) (w : World), Rd .u64 w v1 (digs a) → Rd .u64 w v2 (digs b) →
    Calls Tryz.prog 257 #[v1, v2] w fun e w' => ∃ v, e = .returned v ∧ Own .u64 141 w.heap.size w' v (digs (a + b)) ∧ Below w.heap.size w w'
end Go.Proofs.YtmigpoiajkihhaaGreatDoor
/- natural.Add of long numerals, natural.Root of a number of one word: walks. -/
namespace Go.Proofs.YtmigpoiajkihhaaGreatDoor
open Go.RowKit Go.Gb
theorem digs_add_len {a b K : Nat} (ha : (digs a).length ≤ K) (hb : (digs b).length ≤ K) : (digs (a + b)).length ≤ K + 1 := by
 refine digs_length_le ?_
 have h1 := lt_pow_digs a
 have h2 := lt_pow_digs b
 have h3 : BB ^ (digs a).length ≤ BB ^ K := Nat.pow_le_pow_right BB_pos ha
 have h4 : BB ^ (digs b).length ≤ BB ^ K := Nat.pow_le_pow_right BB_pos hb
 have h6 : BB ^ (K + 1) = BB ^ K * BB := Nat.pow_succ BB K
 have h7 : BB ^ K * 2 ≤ BB ^ K * BB := Nat.mul_le_mul_left _ BB_one
 generalize BB ^ K = P at *
 generalize BB ^ (K + 1) = Q at *
 omega
set_option maxHeartbeats 2000000 in
theorem Add_long (a b : ByteArray) (ha : vld a.data.toList = true) (hb : vld b.data.toList = true) (hs : 19 ≤ a.size ∨ 19 ≤ b.size) (hla : a.size ≤ 100000) (hlb : b.size ≤ 100000) (hok : AddOk (dval a.data.toList) (dval b.data.toList)) (w : World) (htab : Tb w) :
 Calls Tryz.prog 239 #[.string a, .string b] w fun e w' => e = .returned (.tuple #[St (Lib.decDigits (dval a.data.toList + dval b.data.toList)), .int .i64 0]) ∧ Below w.heap.size w w' := by
 have HA := Lib.hid ha
 have HB := Lib.hid hb
 have HT := Lib.hid htab
 have HOK := Lib.hid hok
 have Hla := Lib.hid (show a.size ≤ maxLen by unfold maxLen; omega)
 have Hlb := Lib.hid (show b.size ≤ maxLen by unfold maxLen; omega)
 have hra := Lib.hid (all_of_vld ha)
 have hrb := Lib.hid (all_of_vld hb)
 have hlp : (digs (dval a.data.toList + dval b.data.toList)).length ≤ 100000 := by
  have g1 := digs_len_str (all_of_vld ha) 20000 (by rw [size_list]; omega)
  have g2 := digs_len_str (all_of_vld hb) 20000 (by rw [size_list]; omega)
  have g3 := digs_add_len g1 g2
  omega
 have HLP := Lib.hid hlp
 have hmx : ¬ max (a.size : Int) (b.size : Int) < 19 := by omega
 clear ha hb htab hok hlp hs
 go_enter Tryz.func239, Tryz.ntmps239
 go_wp2_with fail
 refine (Valid_yes a HA.out Hla.out _).mono ?_
 rintro e w' ⟨rfl, rfl⟩
 go_wp2_with fail
 refine (Valid_yes b HB.out Hlb.out _).mono ?_
 rintro e w' ⟨rfl, rfl⟩
 go_wp2_with fail
 refine (Read_any a hra.out hla _).mono ?_
 rintro e w1 ⟨v1, rfl, ho1, hb1⟩
 have HB1 := Lib.hid hb1
 have HO1 := Lib.hid ho1
 clear hb1 ho1
 go_wp2_with fail
 refine (Read_any b hrb.out hlb _).mono ?_
 rintro e w2 ⟨v2, rfl, ho2, hb2⟩
 have HB2 := Lib.hid (HB1.out.trans (hb2.mono HB1.out.size))
 have hm := Lib.hid (HOK.out v1 v2 w2 (HO1.out.rd.below hb2) ho2.rd)
 clear hb2 ho2
 go_wp2_with fail
 refine hm.out.mono ?_
 rintro e w3 ⟨v3, rfl, ho3, hb3⟩
 have HB3 := Lib.hid (HB2.out.trans (hb3.mono HB2.out.size))
 have hwr := Lib.hid (Write_any v3 _ HLP.out w3 ho3.rd (HT.out.on HB3.out))
 clear hb3 ho3
 go_wp2_with fail
 refine hwr.out.mono ?_
 rintro e w4 ⟨rfl, hb4⟩
 have HB4 := Lib.hid (HB3.out.trans (hb4.mono HB3.out.size))
 clear hb4
 go_wp2
 go_ret2
 exact ⟨rfl, HB4.out⟩
end Go.Proofs.YtmigpoiajkihhaaGreatDoor
/- Knuth's algorithm D: words.guessWord: walks. -/
namespace Go.Gb
set_option maxRecDepth 100000
set_option maxHeartbeats 20000000
def GOK (p2 p1 p0 v1 v0 g : Nat) : Prop := g < BB ∧ g * (v1 * BB + v0) ≤ (p2 * BB + p1) * BB + p0 ∧ ∀ q, q < BB → q * (v1 * BB + v0) ≤ (p2 * BB + p1) * BB + p0 → q ≤ g
def GI (p2 p1 p0 v1 v0 g r : Nat) : Prop := g * v1 + r = p2 * BB + p1 ∧ g ≤ BB + 1 ∧ r < BB ∧ ∀ q, q < BB → q * (v1 * BB + v0) ≤ (p2 * BB + p1) * BB + p0 → q ≤ g
theorem GI.start {p2 p1 p0 v1 v0 : Nat} (hv1 : 500000000 ≤ v1) (hv1' : v1 < BB) (hp1 : p1 < BB) (hp0 : p0 < BB) (hp2 : p2 ≤ v1) : GI p2 p1 p0 v1 v0 ((p2 * BB + p1) / v1) ((p2 * BB + p1) % v1) := by
 have hv : 0 < v1 := by omega
 refine ⟨by rw [Nat.mul_comm]; exact Nat.div_add_mod _ _, ?_, Nat.lt_trans (Nat.mod_lt _ hv) hv1', ?_⟩
 · have h1 : p2 * BB ≤ v1 * BB := Nat.mul_le_mul_right _ hp2
   have h2 : (p2 * BB + p1) / v1 < BB + 2 := by
    rw [Nat.div_lt_iff_lt_mul hv, Nat.add_mul, Nat.mul_comm BB v1]
    have := BB_eq
    omega
   omega
 · intro q _ hq
   rw [Nat.le_div_iff_mul_le hv]
   have h1 : q * (v1 * BB + v0) = q * v1 * BB + q * v0 := by rw [Nat.mul_add, Nat.mul_assoc]
   have h2 : q * v1 * BB < (p2 * BB + p1 + 1) * BB := by rw [Nat.add_mul _ 1, Nat.one_mul]; omega
   have := Nat.lt_of_mul_lt_mul_right h2
   omega
theorem GI.less {p2 p1 p0 v1 v0 g r : Nat} (h : GI p2 p1 p0 v1 v0 g r) (hg : ∀ q, q < BB → q * (v1 * BB + v0) ≤ (p2 * BB + p1) * BB + p0 → q ≠ g) (hgp : 0 < g) (hr : r + v1 < BB) : GI p2 p1 p0 v1 v0 (g - 1) (r + v1) := by
 obtain ⟨h1, h2, h3, h4⟩ := h
 refine ⟨?_, by omega, hr, fun q hq hq2 => ?_⟩
 · have : g * v1 = (g - 1) * v1 + v1 := by
    conv => lhs; rw [show g = (g - 1) + 1 by omega, Nat.add_mul, Nat.one_mul]
   omega
 · have := h4 q hq hq2
   have := hg q hq hq2
   omega
theorem GI.last {p2 p1 p0 v1 v0 g r : Nat} (h : GI p2 p1 p0 v1 v0 g r) (hv0 : v0 < BB) (hp1 : p1 < BB) (hp2 : p2 ≤ v1) (hg : ∀ q, q < BB → q * (v1 * BB + v0) ≤ (p2 * BB + p1) * BB + p0 → q ≠ g) (hgp : 0 < g) (hr : BB ≤ r + v1) : GOK p2 p1 p0 v1 v0 (g - 1) := by
 obtain ⟨h1, h2, h3, h4⟩ := h
 have e1 : g * v1 = (g - 1) * v1 + v1 := by
  conv => lhs; rw [show g = (g - 1) + 1 by omega, Nat.add_mul, Nat.one_mul]
 have h5 : p2 * BB ≤ v1 * BB := Nat.mul_le_mul_right _ hp2
 have h6 : (g - 1) * v1 < BB * v1 := by rw [Nat.mul_comm BB]; omega
 have h7 : g - 1 < BB := Nat.lt_of_mul_lt_mul_right h6
 refine ⟨h7, ?_, fun q hq hq2 => ?_⟩
 · have e2 : (g - 1) * (v1 * BB + v0) = (g - 1) * v1 * BB + (g - 1) * v0 := by rw [Nat.mul_add, Nat.mul_assoc]
   have e3 : (p2 * BB + p1) * BB = ((g - 1) * v1) * BB + (r + v1) * BB := by rw [← Nat.add_mul]; congr 1; omega
   have e4 : (g - 1) * v0 ≤ BB * BB := Nat.mul_le_mul (Nat.le_of_lt h7) (Nat.le_of_lt hv0)
   have e5 : BB * BB ≤ (r + v1) * BB := Nat.mul_le_mul_right _ hr
   omega
 · have := h4 q hq hq2
   have := hg q hq hq2
   omega
theorem GI.big {p2 p1 p0 v1 v0 g : Nat} (hg : BB ≤ g) : ∀ q, q < BB → q * (v1 * BB + v0) ≤ (p2 * BB + p1) * BB + p0 → q ≠ g := fun q hq _ => by omega
theorem GI.test {p2 p1 p0 v1 v0 g r : Nat} (h : GI p2 p1 p0 v1 v0 g r) (ht : r * BB + p0 < g * v0) : ∀ q, q < BB → q * (v1 * BB + v0) ≤ (p2 * BB + p1) * BB + p0 → q ≠ g := by
 intro q hq h2 e
 subst e
 have e2 : q * (v1 * BB + v0) = q * v1 * BB + q * v0 := by rw [Nat.mul_add, Nat.mul_assoc]
 have e3 : (p2 * BB + p1) * BB = (q * v1) * BB + r * BB := by rw [← Nat.add_mul, h.1]
 omega
theorem GI.fin {p2 p1 p0 v1 v0 g r : Nat} (h : GI p2 p1 p0 v1 v0 g r) (hg : g < BB) (ht : g * v0 ≤ r * BB + p0) : GOK p2 p1 p0 v1 v0 g := by
 refine ⟨hg, ?_, h.2.2.2⟩
 have e2 : g * (v1 * BB + v0) = g * v1 * BB + g * v0 := by rw [Nat.mul_add, Nat.mul_assoc]
 have e3 : (p2 * BB + p1) * BB = (g * v1) * BB + r * BB := by rw [← Nat.add_mul, h.1]
 omega
end Go.Gb
namespace Go.Proofs.YtmigpoiajkihhaaGreatDoor
open Go.RowKit Go.Gb
def GC (b1 o1 b2 o2 n p2 p1 p0 v1 v0 : Nat) (w : World) : Prop :=
 w.cell? ⟨b1, o1 + n, none⟩ = some (.int .u64 (p2 : Int)) ∧ w.cell? ⟨b1, o1 + (n - 1), none⟩ = some (.int .u64 (p1 : Int)) ∧ w.cell? ⟨b1, o1 + (n - 2), none⟩ = some (.int .u64 (p0 : Int)) ∧
 w.cell? ⟨b2, o2 + (n - 1), none⟩ = some (.int .u64 (v1 : Int)) ∧ w.cell? ⟨b2, o2 + (n - 2), none⟩ = some (.int .u64 (v0 : Int))
theorem GC.on {b1 o1 b2 o2 n p2 p1 p0 v1 v0 : Nat} {w w' : World} (h : GC b1 o1 b2 o2 n p2 p1 p0 v1 v0 w) (hb : Below w.heap.size w w') : GC b1 o1 b2 o2 n p2 p1 p0 v1 v0 w' := by
 obtain ⟨h1, h2, h3, h4, h5⟩ := h
 exact ⟨(hb.cell (World.block_lt_of_cell? _ _ h1)).trans h1, (hb.cell (World.block_lt_of_cell? _ _ h2)).trans h2, (hb.cell (World.block_lt_of_cell? _ _ h3)).trans h3, (hb.cell (World.block_lt_of_cell? _ _ h4)).trans h4, (hb.cell (World.block_lt_of_cell? _ _ h5)).trans h5⟩
theorem ret_int1 {k : IntKind} {a b : Int} (h : a = b) : Ending.returned (.int k a) = .returned (.int k b) := by rw [h]
theorem val_int1 {k : IntKind} {a b : Int} (h : a = b) : Value.int k a = .int k b := by rw [h]
theorem guess_any (b1 o1 c1 b2 o2 c2 n p2 p1 p0 v1 v0 : Nat) (hn : 2 ≤ n) (hn2 : n ≤ 100000) (hv1 : 500000000 ≤ v1) (hv1' : v1 < 1000000000) (hv0 : v0 < 1000000000) (hp1 : p1 < 1000000000) (hp0 : p0 < 1000000000) (hp2 : p2 ≤ v1) (w : World)
 (hc : GC b1 o1 b2 o2 n p2 p1 p0 v1 v0 w) :
 Calls Tryz.prog 260 #[.slice (some ⟨b1, o1, none⟩) (n + 1) c1, .slice (some ⟨b2, o2, none⟩) n c2] w fun e w' => ∃ g : Nat, e = .returned (.int .u64 (g : Int)) ∧ GOK p2 p1 p0 v1 v0 g ∧ Below w.heap.size w w' := by
 have hst := GI.start (v0 := v0) hv1 (by rw [BB_eq]; exact hv1') (by rw [BB_eq]; exact hp1) (by rw [BB_eq]; exact hp0) hp2
 have hvz : ((v1 : Int) == 0) = false := beq_eq_false_iff_ne.2 (by omega)
 have hq : ((p2 : Int) * 1000000000 + (p1 : Int)) / (v1 : Int) = (((p2 * BB + p1) / v1 : Nat) : Int) := by rw [BB_eq]; rfl
 have hm : ((p2 : Int) * 1000000000 + (p1 : Int)) % (v1 : Int) = (((p2 * BB + p1) % v1 : Nat) : Int) := by rw [BB_eq]; rfl
 have HS := Lib.hid hst
 have HQ := Lib.hid hq
 have HM := Lib.hid hm
 have HC := Lib.hid hc
 have Hv0 := Lib.hid (show v0 < BB by rw [BB_eq]; exact hv0)
 have Hp1 := Lib.hid (show p1 < BB by rw [BB_eq]; exact hp1)
 have Hp2 := Lib.hid hp2
 have k0 : (500000000 : Int) ≤ (v1 : Int) := by omega
 have k1 : (v1 : Int) ≤ 999999999 := by omega
 have k2 : (v0 : Int) ≤ 999999999 := by omega
 have k3 : (p2 : Int) ≤ 999999999 := by omega
 have k4 : (p1 : Int) ≤ 999999999 := by omega
 have k5 : (p0 : Int) ≤ 999999999 := by omega
 have i1 : (2 : Int) ≤ (n : Int) := by omega
 have i2 : (n : Int) ≤ 100000 := by omega
 obtain ⟨h2, h1, h0, g1, g0⟩ := hc
 clear hst hq hm hn hn2 hv1 hv1' hv0 hp1 hp0 hp2
 go_enter Tryz.func260, Tryz.ntmps260
 go_wp2
 go_quiet (fail)
 go_wp2
 have HN2 := Lib.hid (below_drewN' (Below.refl w.heap.size w) nq)
 clear h2 h1 h0 g1 g0
 obtain ⟨h2, h1, h0, g1, g0⟩ := HC.out.on HN2.out
 generalize w.drewN nq = w2 at *
 go_quiet (fail)
 have HN3 := Lib.hid (below_drewN' HN2.out nq)
 clear h2 h1 h0 g1 g0 HN2
 generalize w2.drewN nq = w3 at *
 go_wp2
 go_loopw [7, 8] (fun gg rr wr => ∃ (g r : Nat), gg = .int .u64 (g : Int) ∧ rr = .int .u64 (r : Int) ∧ Hid (GI p2 p1 p0 v1 v0 g r) ∧ Hid (Below w.heap.size w wr)) (fun gg _ _ => (intOf gg).toNat)
 case atStart => exact ⟨(p2 * BB + p1) / v1, (p2 * BB + p1) % v1, by rw [HQ.out], by rw [HM.out], HS, HN3⟩
 case round =>
  obtain ⟨g, r, rfl, rfl, hI, hN⟩ := hrel
  obtain ⟨h2, h1, h0, g1, g0⟩ := HC.out.on hN.out
  have hg : (g : Int) ≤ 1000000001 := by have := hI.out.2.1; have := BB_eq; omega
  have hr : (r : Int) ≤ 999999999 := by have := hI.out.2.2.1; have := BB_eq; omega
  by_cases hbig : (1000000000 : Int) ≤ (g : Int)
  · have hne := GI.big (p2 := p2) (p1 := p1) (p0 := p0) (v1 := v1) (v0 := v0) (g := g) (by rw [BB_eq]; omega)
    by_cases hrv : (1000000000 : Int) ≤ (r : Int) + (v1 : Int)
    · have HL := Lib.hid (hI.out.last Hv0.out Hp1.out Hp2.out hne (by omega) (by rw [BB_eq]; omega))
      clear hne
      go_wp2
      go_quiet (fail)
      have HN4 := Lib.hid (below_drewN' hN.out nq)
      have g1' : (wr.drewN nq).cell? ⟨b2, o2 + (n - 1), none⟩ = some (.int .u64 (v1 : Int)) := g1
      clear h2 h1 h0 g1 g0
      generalize wr.drewN nq = w4 at *
      go_wp2
      go_ret
      exact ⟨g - 1, ret_int1 (by omega), HL.out, HN4.out⟩
    · have hrv3 : decide ((1000000000 : Int) ≤ (r : Int) + (v1 : Int)) = false := decide_eq_false hrv
      have HL := Lib.hid (hI.out.less hne (by omega) (by rw [BB_eq]; omega))
      clear hne
      go_wp2
      go_quiet (fail)
      have HN4 := Lib.hid (below_drewN' hN.out nq)
      have g1' : (wr.drewN nq).cell? ⟨b2, o2 + (n - 1), none⟩ = some (.int .u64 (v1 : Int)) := g1
      clear h2 h1 h0 g1 g0
      generalize wr.drewN nq = w4 at *
      go_wp2
      go_roundw
      case rel => exact ⟨g - 1, r + v1, val_int1 (by omega), val_int1 (by omega), HL, HN4⟩
      case measure => simp [intOf]; omega
  · obtain ⟨pr, hpr⟩ : ∃ p : Nat, p = g * v0 := ⟨_, rfl⟩
    have e1 : (g : Int) * (v0 : Int) = (pr : Int) := by rw [hpr]; exact (Int.natCast_mul _ _).symm
    have hle : pr ≤ 1000000000 * 1000000000 := by rw [hpr]; exact Nat.mul_le_mul (by omega) (by omega)
    have w1 : IntKind.u64.wrap (pr : Int) = (pr : Int) := IntWalk.u64_in _ (by omega)
    have hbig' : decide ((1000000000 : Int) ≤ (g : Int)) = false := decide_eq_false hbig
    clear hle
    by_cases ht : (r : Int) * 1000000000 + (p0 : Int) < (pr : Int)
    · have hne := hI.out.test (by rw [BB_eq, ← hpr]; omega)
      have hgp : 0 < g := by
       rcases Nat.eq_zero_or_pos g with h | h
       · rw [h, Nat.zero_mul] at hpr; omega
       · exact h
      have HPR := Lib.hid hpr
      clear hpr
      by_cases hrv : (1000000000 : Int) ≤ (r : Int) + (v1 : Int)
      · have HL := Lib.hid (hI.out.last Hv0.out Hp1.out Hp2.out hne (by omega) (by rw [BB_eq]; omega))
        clear hne
        go_wp2
        go_quiet (fail)
        have HN4 := Lib.hid (below_drewN' hN.out nq)
        have g1' : (wr.drewN nq).cell? ⟨b2, o2 + (n - 1), none⟩ = some (.int .u64 (v1 : Int)) := g1
        clear h2 h1 h0 g1 g0
        generalize wr.drewN nq = w4 at *
        go_wp2
        go_ret
        exact ⟨g - 1, ret_int1 (by omega), HL.out, HN4.out⟩
      · have hrv3 : decide ((1000000000 : Int) ≤ (r : Int) + (v1 : Int)) = false := decide_eq_false hrv
        have HL := Lib.hid (hI.out.less hne (by omega) (by rw [BB_eq]; omega))
        clear hne
        go_wp2
        go_quiet (fail)
        have HN4 := Lib.hid (below_drewN' hN.out nq)
        have g1' : (wr.drewN nq).cell? ⟨b2, o2 + (n - 1), none⟩ = some (.int .u64 (v1 : Int)) := g1
        clear h2 h1 h0 g1 g0
        generalize wr.drewN nq = w4 at *
        go_wp2
        go_roundw
        case rel => exact ⟨g - 1, r + v1, val_int1 (by omega), val_int1 (by omega), HL, HN4⟩
        case measure => simp [intOf]; omega
    · have ht3 : decide ((r : Int) * 1000000000 + (p0 : Int) < (pr : Int)) = false := decide_eq_false ht
      have HL := Lib.hid (hI.out.fin (by rw [BB_eq]; omega) (by rw [BB_eq, ← hpr]; omega))
      have HPR := Lib.hid hpr
      clear hpr
      go_wp2
      go_quiet (fail)
      have HN4 := Lib.hid (below_drewN' hN.out nq)
      go_wp2
      go_ret
      exact ⟨g, rfl, HL.out, HN4.out⟩
end Go.Proofs.YtmigpoiajkihhaaGreatDoor
