/- natural.power and natural.Pow: walks. -/
import Derived.Test.YtpdchplppkfdhaaDoorNb
namespace Go.Proofs.YtpdchplppkfdhaaDoor
open Go.RowKit Go.Gb

theorem digs_one : digs 1 = [1] := by
  have h := digs_cons (w := 1) (n := 0) BB_one (Or.inl (by decide))
  rw [digs_zero] at h
  simpa using h
theorem digs_pow_len (a n : Nat) : (digs (a ^ n)).length ≤ (digs a).length * n + 1 := by
  induction n with
  | zero => rw [Nat.pow_zero, digs_one]; simp
  | succ n ih =>
    rw [Nat.pow_succ]
    have := digs_mul_len (a ^ n) a
    rw [Nat.mul_succ]
    omega
theorem own_alloc_one (w : World) (n : Nat) (h0 : n ≠ 0) (hB : n < BB) : Own .u64 46 w.heap.size (w.alloc (.cells #[.int .u64 (n : Int)] 46)) (.slice (some ⟨w.heap.size, 0, none⟩) 1 1) (digs n) := by
  have hb : Blk (w.alloc (.cells #[.int .u64 (n : Int)] 46)) w.heap.size [n] := Blk.alloc [n] _ rfl
  have h := hb.own (B := w.heap.size) (Nat.le_refl _) (by unfold maxLen; simp) 1 (by simp)
  have e : digs n = [n] := by
    have h := digs_cons (w := n) (n := 0) hB (Or.inl h0)
    rw [digs_zero] at h
    simpa using h
  rw [e]
  exact h

set_option maxHeartbeats 2000000 in
theorem power_any (v : Value) (a : Nat) (hl : (digs a).length ≤ 1000) : ∀ (k n : Nat) (w : World), n ≤ k → n ≤ 64 → Rd .u64 w v (digs a) →
    Calls Tryd.prog 36 #[v, .int .i64 (n : Int)] w fun e w' => ∃ u, e = .returned u ∧ Own .u64 46 w.heap.size w' u (digs (a ^ n)) ∧ Below w.heap.size w w' := by
  intro k
  induction k with
  | zero =>
    intro n w hk _ _
    obtain rfl : n = 0 := by omega
    have ho := Lib.hid (own_alloc_one w 1 (by decide) BB_one)
    go_enter Tryd.func36, Tryd.ntmps36
    go_wp2_with fail
    go_ret
    refine ⟨_, rfl, ?_, (Below.refl _ _).alloc (Nat.le_refl _) _⟩
    rw [Nat.pow_zero]
    exact ho.out
  | succ k ih =>
    intro n w hk h64 hr
    by_cases h0 : n = 0
    · subst h0
      exact (ih 0 w (by omega) (by omega) hr)
    · have hn0 : ((n : Int) == 0) = false := beq_eq_false_iff_ne.2 (by omega)
      have HIH := Lib.hid (ih (n / 2) w (by omega) (by omega) hr)
      have HR := Lib.hid hr
      clear ih hr
      have hdiv : ((n : Int) / 2) = ((n / 2 : Nat) : Int) := rfl
      have HD := Lib.hid hdiv
      clear hdiv
      have e1 : a ^ (n / 2) * a ^ (n / 2) = a ^ (n / 2 + n / 2) := (Nat.pow_add _ _ _).symm
      have hlen1 : (digs (a ^ (n / 2))).length ≤ 100000 := by
        have := digs_pow_len a (n / 2)
        have h2 : (digs a).length * (n / 2) ≤ 1000 * 64 := Nat.mul_le_mul hl (by omega)
        omega
      have hlen2 : (digs (a ^ (n / 2 + n / 2))).length ≤ 100000 := by
        have := digs_pow_len a (n / 2 + n / 2)
        have h2 : (digs a).length * (n / 2 + n / 2) ≤ 1000 * 64 := Nat.mul_le_mul hl (by omega)
        omega
      have HE1 := Lib.hid e1
      have HL1 := Lib.hid hlen1
      have HL2 := Lib.hid hlen2
      clear e1 hlen1 hlen2
      rcases Nat.mod_two_eq_zero_or_one n with hm | hm
      · have hmb : ((n : Int) % 2 == 0) = true := beq_iff_eq.2 (by omega)
        have HM := Lib.hid hm
        clear hm
        go_enter Tryd.func36, Tryd.ntmps36
        go_wp2_with fail
        rw [HD.out]
        refine HIH.out.mono ?_
        rintro e w1 ⟨u, rfl, ho, hb⟩
        have HM1 := Lib.hid (Multiply_any u u _ _ HL1.out HL1.out w1 ho.rd ho.rd)
        have HB := Lib.hid hb
        clear ho hb
        go_wp2_with fail
        refine HM1.out.mono ?_
        rintro e w2 ⟨u2, rfl, ho, hb⟩
        rw [HE1.out, show n / 2 + n / 2 = n by have := HM.out; omega] at ho
        have HO := Lib.hid (ho.mono HB.out.size)
        have HB2 := Lib.hid (HB.out.trans (hb.mono HB.out.size))
        clear ho hb
        go_wp2
        go_ret
        exact ⟨u2, rfl, HO.out, HB2.out⟩
      · have hmb : ((n : Int) % 2 == 0) = false := beq_eq_false_iff_ne.2 (by omega)
        have HM := Lib.hid hm
        clear hm
        go_enter Tryd.func36, Tryd.ntmps36
        go_wp2_with fail
        rw [HD.out]
        refine HIH.out.mono ?_
        rintro e w1 ⟨u, rfl, ho, hb⟩
        have HM1 := Lib.hid (Multiply_any u u _ _ HL1.out HL1.out w1 ho.rd ho.rd)
        have HB := Lib.hid hb
        clear ho hb
        go_wp2_with fail
        refine HM1.out.mono ?_
        rintro e w2 ⟨u2, rfl, ho, hb⟩
        rw [HE1.out] at ho
        have HB2 := Lib.hid (HB.out.trans (hb.mono HB.out.size))
        have HM2 := Lib.hid (Multiply_any u2 v _ _ HL2.out (by omega) w2 ho.rd (HR.out.below HB2.out))
        clear ho hb
        go_wp2_with fail
        refine HM2.out.mono ?_
        rintro e w3 ⟨u3, rfl, ho, hb⟩
        rw [← Nat.pow_succ, show (n / 2 + n / 2).succ = n by have := HM.out; omega] at ho
        have HO := Lib.hid (ho.mono HB2.out.size)
        have HB3 := Lib.hid (HB2.out.trans (hb.mono HB2.out.size))
        clear ho hb
        go_wp2
        go_ret
        exact ⟨u3, rfl, HO.out, HB3.out⟩

set_option maxHeartbeats 1000000 in
theorem Pow_yes (a : ByteArray) (n : Nat) (ha : vld a.data.toList = true) (hla : a.size ≤ 9000) (hn : n ≤ 64) (w : World) (htab : Tb w) :
    Calls Tryd.prog 22 #[.string a, .int .i64 (n : Int)] w fun e w' => e = .returned (.tuple #[St (Lib.decDigits (dval a.data.toList ^ n)), .int .i64 0]) ∧ Below w.heap.size w w' := by
  have HA := Lib.hid ha
  have HT := Lib.hid htab
  have Hla := Lib.hid (show a.size ≤ maxLen by unfold maxLen; omega)
  have hda := digs_len_str (all_of_vld ha) 1000 (by rw [size_list]; omega)
  have hdp : (digs (dval a.data.toList ^ n)).length ≤ 100000 := by
    have := digs_pow_len (dval a.data.toList) n
    have h2 : (digs (dval a.data.toList)).length * n ≤ 1000 * 64 := Nat.mul_le_mul hda hn
    omega
  have HDA := Lib.hid hda
  have HDP := Lib.hid hdp
  have hra := Lib.hid (all_of_vld ha)
  clear ha htab hda hdp
  go_enter Tryd.func22, Tryd.ntmps22
  go_wp2_with fail
  refine (Valid_yes a HA.out Hla.out _).mono ?_
  rintro e w' ⟨rfl, rfl⟩
  go_wp2_with fail
  refine (Read_any a hra.out (by omega) _).mono ?_
  rintro e w1 ⟨v1, rfl, ho1, hb1⟩
  have HB1 := Lib.hid hb1
  have HP := Lib.hid (power_any v1 _ HDA.out n n w1 (Nat.le_refl _) hn ho1.rd)
  clear hb1 ho1
  go_wp2_with fail
  refine HP.out.mono ?_
  rintro e w2 ⟨v2, rfl, ho2, hb2⟩
  have HB2 := Lib.hid (HB1.out.trans (hb2.mono HB1.out.size))
  have hwr := Lib.hid (Write_any v2 _ HDP.out w2 ho2.rd (HT.out.on HB2.out))
  clear hb2 ho2
  go_wp2_with fail
  refine hwr.out.mono ?_
  rintro e w4 ⟨rfl, hb4⟩
  have HB4 := Lib.hid (HB2.out.trans (hb4.mono HB2.out.size))
  clear hb4
  go_wp2
  go_ret2
  exact ⟨rfl, HB4.out⟩

end Go.Proofs.YtpdchplppkfdhaaDoor
