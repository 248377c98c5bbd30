/- natural.DivMod: walks. -/
import Derived.Test.YtpdchplppkfdhaaDoorNa
namespace Go.Proofs.YtpdchplppkfdhaaDoor
open Go.RowKit Go.Gb

theorem zero_str {s : ByteArray} (h : s.data.toList = [48]) : s = ⟨#[48]⟩ := by
  cases s with
  | mk d =>
    congr 1
    exact Array.ext' h
theorem not_zero {s : ByteArray} (h : dval s.data.toList ≠ 0) : s.data.toList ≠ [48] := by
  intro h2; apply h; rw [h2]; rfl

theorem DivMod_no (a b : ByteArray) (h : (vld a.data.toList && vld b.data.toList) = false) (hsa : a.size ≤ maxLen) (hsb : b.size ≤ maxLen) (w : World) :
    Calls Tryd.prog 19 #[.string a, .string b] w fun e w' => e = .returned (.tuple #[St [], St [], .int .i64 1]) ∧ w = w' := by
  rcases both_no h with ha | ⟨ha, hb⟩
  · have HA := Lib.hid ha
    clear h ha
    go_enter Tryd.func19, Tryd.ntmps19
    go_wp2_with fail
    refine (Valid_no a HA.out hsa _).mono ?_
    rintro e w' ⟨rfl, rfl⟩
    go_wp2
    go_ret3
    exact ⟨rfl, rfl⟩
  · have HA := Lib.hid ha
    have HB := Lib.hid hb
    clear h ha hb
    go_enter Tryd.func19, Tryd.ntmps19
    go_wp2_with fail
    refine (Valid_yes a HA.out hsa _).mono ?_
    rintro e w' ⟨rfl, rfl⟩
    go_wp2_with fail
    refine (Valid_no b HB.out hsb _).mono ?_
    rintro e w' ⟨rfl, rfl⟩
    go_wp2
    go_ret3
    exact ⟨rfl, rfl⟩

theorem DivMod_zero (a : ByteArray) (ha : vld a.data.toList = true) (hsa : a.size ≤ maxLen) (w : World) :
    Calls Tryd.prog 19 #[.string a, .string ⟨#[48]⟩] w fun e w' => e = .returned (.tuple #[St [], St [], .int .i64 16]) ∧ w = w' := by
  have HA := Lib.hid ha
  clear ha
  have hz := Lib.hid (Valid_yes ⟨#[48]⟩ (by decide) (by decide))
  go_enter Tryd.func19, Tryd.ntmps19
  go_wp2_with fail
  refine (Valid_yes a HA.out hsa _).mono ?_
  rintro e w' ⟨rfl, rfl⟩
  go_wp2_with fail
  refine (hz.out _).mono ?_
  rintro e w' ⟨rfl, rfl⟩
  go_wp2
  go_ret3
  exact ⟨rfl, rfl⟩

theorem neq_zero_str {b : ByteArray} (h : dval b.data.toList ≠ 0) : (b.toList == [48]) = false := by
  rw [beq_eq_false_iff_ne, toList_data]
  exact not_zero h

set_option maxHeartbeats 1000000 in
theorem DivMod_short (a b : ByteArray) (ha : vld a.data.toList = true) (hb : vld b.data.toList = true) (h0 : dval b.data.toList ≠ 0) (hab : dval b.data.toList ≤ dval a.data.toList) (hla : a.size ≤ 19) (w : World) (htab : Tb w) :
    Calls Tryd.prog 19 #[.string a, .string b] w fun e w' => e = .returned (.tuple #[St (Lib.decDigits (dval a.data.toList / dval b.data.toList)), St (Lib.decDigits (dval a.data.toList % dval b.data.toList)), .int .i64 0]) ∧ Below w.heap.size w w' := by
  have hlen : b.size ≤ a.size := by
    rcases Nat.lt_or_ge a.size b.size with h | h
    · have := dval_lt_of_len ha hb (by rw [size_list, size_list]; exact h)
      omega
    · exact h
  have HA := Lib.hid ha
  have HB := Lib.hid hb
  have HT := Lib.hid htab
  have Hla := Lib.hid (show a.size ≤ maxLen by unfold maxLen; omega)
  have Hlb := Lib.hid (show b.size ≤ maxLen by unfold maxLen; omega)
  have hne := neq_zero_str h0
  have hcmp := Lib.hid (compare_num a b ha hb)
  have hc0 : ¬ cmpN (dval a.data.toList) (dval b.data.toList) < 0 := by unfold cmpN; split <;> (try split) <;> omega
  have H1 := Lib.hid (dval20 ha hla)
  have H0 := Lib.hid (show 0 < dval b.data.toList by omega)
  have HAB := Lib.hid hab
  clear ha hb htab h0 hab
  go_enter Tryd.func19, Tryd.ntmps19
  go_wp2_with fail
  refine (Valid_yes a HA.out Hla.out _).mono ?_
  rintro e w' ⟨rfl, rfl⟩
  go_wp2_with fail
  refine (Valid_yes b HB.out Hlb.out _).mono ?_
  rintro e w' ⟨rfl, rfl⟩
  go_wp2_with fail
  refine (hcmp.out _).mono ?_
  rintro e w' ⟨rfl, rfl⟩
  generalize cmpN (dval a.data.toList) (dval b.data.toList) = cc at *
  go_wp2_with fail
  refine (read_any a HA.out (by omega) _).mono ?_
  rintro e w1 ⟨rfl, hb1⟩
  have HB1 := Lib.hid hb1
  clear hb1
  go_wp2_with fail
  refine (read_any b HB.out (by omega) _).mono ?_
  rintro e w2 ⟨rfl, hb2⟩
  have HB2 := Lib.hid (HB1.out.trans (hb2.mono HB1.out.size))
  clear hb2
  generalize hxx : dval a.data.toList = x at *
  generalize hyy : dval b.data.toList = y at *
  have HXX := Lib.hid hxx
  have HYY := Lib.hid hyy
  clear hxx hyy
  have hT2d := Lib.hid (show Tb w2.drew from HT.out.on (Below.drew HB2.out))
  have hx64 : x / y < 18446744073709551616 := Nat.lt_of_le_of_lt (Nat.div_le_self x y) (by have := H1.out; omega)
  have hm64 : x % y < 18446744073709551616 := Nat.lt_of_le_of_lt (Nat.mod_le x y) (by have := H1.out; omega)
  have HQ := Lib.hid (show ∀ W, Tb W → Calls Tryd.prog 26 #[.int .u64 ((x : Int) / (y : Int))] W fun e w' => e = .returned (.string ⟨(Lib.decDigits (x / y)).toArray⟩) ∧ Below W.heap.size W w' from fun W hW => write_any (x / y) hx64 W hW)
  have HM := Lib.hid (show ∀ W, Tb W → Calls Tryd.prog 26 #[.int .u64 ((x : Int) % (y : Int))] W fun e w' => e = .returned (.string ⟨(Lib.decDigits (x % y)).toArray⟩) ∧ Below W.heap.size W w' from fun W hW => write_any (x % y) hm64 W hW)
  have y1 : (1 : Int) ≤ (y : Int) := by have := H0.out; omega
  have x0 : (0 : Int) ≤ (x : Int) := by omega
  have yz : ((y : Int) == 0) = false := beq_eq_false_iff_ne.2 (by omega)
  have htm : (x : Int).tmod (y : Int) = (x : Int) % (y : Int) := rfl
  have hwq : IntKind.u64.wrap ((x : Int) / (y : Int)) = (x : Int) / (y : Int) := IntWalk.u64_in _ ⟨Int.natCast_nonneg (x / y), by have := (Int.ofNat_lt.2 hx64); omega⟩
  clear hx64 hm64 hc0 hcmp
  go_wp2_with fail
  go_region_with (first | (go_at_call 26; (with_reducible refine (HQ.out _ hT2d.out).mono ?_); rintro e w3 ⟨rfl, hb3⟩) | (go_at_call 26; (with_reducible refine (HM.out _ (hT2d.out.on hb3)).mono ?_); rintro e w4 ⟨rfl, hb4⟩))
  all_goals
    go_wp2
    go_ret3
    refine ⟨?_, ((Below.drew HB2.out).trans (Below.mono hb3 HB2.out.size)).trans (Below.mono hb4 (Nat.le_trans HB2.out.size hb3.size))⟩
    rw [HXX.out, HYY.out]
    rfl

theorem DivMod_less (a b : ByteArray) (ha : vld a.data.toList = true) (hb : vld b.data.toList = true) (hab : dval a.data.toList < dval b.data.toList) (hla : a.size ≤ maxLen) (hlb : b.size ≤ maxLen) (w : World) :
    Calls Tryd.prog 19 #[.string a, .string b] w fun e w' => e = .returned (.tuple #[St [48], .string a, .int .i64 0]) ∧ w = w' := by
  have HA := Lib.hid ha
  have HB := Lib.hid hb
  have hne := neq_zero_str (b := b) (by omega)
  have hcmp := compare_num a b ha hb
  rw [cmpN_lt hab] at hcmp
  have HC := Lib.hid hcmp
  clear ha hb hab hcmp
  go_enter Tryd.func19, Tryd.ntmps19
  go_wp2_with fail
  refine (Valid_yes a HA.out hla _).mono ?_
  rintro e w' ⟨rfl, rfl⟩
  go_wp2_with fail
  refine (Valid_yes b HB.out hlb _).mono ?_
  rintro e w' ⟨rfl, rfl⟩
  go_wp2_with fail
  refine (HC.out _).mono ?_
  rintro e w' ⟨rfl, rfl⟩
  go_wp2
  go_ret3
  exact ⟨rfl, rfl⟩

end Go.Proofs.YtpdchplppkfdhaaDoor
