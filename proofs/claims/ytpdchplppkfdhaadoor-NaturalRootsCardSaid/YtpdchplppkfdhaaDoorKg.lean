/- natural.DivMod, of any two numbers: walks. -/
import Derived.Test.YtpdchplppkfdhaaDoorKf
import Derived.Test.YtpdchplppkfdhaaDoorNb
namespace Go.Proofs.YtpdchplppkfdhaaDoor
open Go.RowKit Go.Gb

set_option maxHeartbeats 2000000 in
theorem DivMod_long (a b : ByteArray) (ha : vld a.data.toList = true) (hb : vld b.data.toList = true) (h0 : dval b.data.toList ≠ 0) (hab : dval b.data.toList ≤ dval a.data.toList) (hla : 19 < a.size) (hla2 : a.size ≤ 90000) (w : World) (htab : Tb w) :
    Calls Tryd.prog 19 #[.string a, .string b] w fun e w' => e = .returned (.tuple #[St (Lib.decDigits (dval a.data.toList / dval b.data.toList)), St (Lib.decDigits (dval a.data.toList % dval b.data.toList)), .int .i64 0]) ∧ Below w.heap.size w w' := by
  have hlen : b.size ≤ a.size := by
    rcases Nat.lt_or_ge a.size b.size with h | h
    · have := dval_lt_of_len ha hb (by rw [size_list, size_list]; exact h)
      omega
    · exact h
  have HA := Lib.hid ha
  have HB := Lib.hid hb
  have HT := Lib.hid htab
  have Hla := Lib.hid (show a.size ≤ maxLen by unfold maxLen; omega)
  have Hlb := Lib.hid (show b.size ≤ maxLen by unfold maxLen; omega)
  have hra := Lib.hid (all_of_vld ha)
  have hrb := Lib.hid (all_of_vld hb)
  have hne := neq_zero_str (b := b) h0
  have hcmp := compare_num a b ha hb
  have hcc : cmpN (dval a.data.toList) (dval b.data.toList) = 0 ∨ cmpN (dval a.data.toList) (dval b.data.toList) = 1 := by
    rcases Nat.lt_or_ge (dval b.data.toList) (dval a.data.toList) with h | h
    · exact Or.inr (cmpN_gt h)
    · exact Or.inl (by rw [show dval a.data.toList = dval b.data.toList by omega]; exact cmpN_eq _)
  have hda := digs_len_str (all_of_vld ha) 90000 (by rw [size_list]; omega)
  have HDA := Lib.hid hda
  have HQ := Lib.hid (Nat.le_trans (digs_length_mono (Nat.div_le_self (dval a.data.toList) (dval b.data.toList))) hda)
  have HM := Lib.hid (Nat.le_trans (digs_length_mono (Nat.mod_le (dval a.data.toList) (dval b.data.toList))) hda)
  have H0 := Lib.hid h0
  have HC := Lib.hid hcmp
  have Ha9 := Lib.hid (show a.size ≤ 100000 by omega)
  have Hb9 := Lib.hid (show b.size ≤ 100000 by omega)
  have hl1 : ¬ (a.size : Int) ≤ 19 := by omega
  have hl2 : decide ((a.size : Int) ≤ 19) = false := decide_eq_false hl1
  have hc0 : (cmpN (dval a.data.toList) (dval b.data.toList) < 0) = False := by
    rcases hcc with h | h <;> rw [h] <;> simp
  clear ha hb htab h0 hab hla hla2 hlen hcmp hda hcc
  go_enter Tryd.func19, Tryd.ntmps19
  go_wp2_with fail
  refine (Valid_yes a HA.out Hla.out _).mono ?_
  rintro e w' ⟨rfl, rfl⟩
  go_wp2_with fail
  refine (Valid_yes b HB.out Hlb.out _).mono ?_
  rintro e w' ⟨rfl, rfl⟩
  go_wp2_with fail
  refine (HC.out _).mono ?_
  rintro e w' ⟨rfl, rfl⟩
  generalize cmpN (dval a.data.toList) (dval b.data.toList) = cc at *
  go_wp2_with fail
  refine (Read_any a hra.out Ha9.out _).mono ?_
  rintro e w1 ⟨v1, rfl, ho1, hb1⟩
  have HB1 := Lib.hid hb1
  have HO1 := Lib.hid ho1
  clear hb1 ho1
  go_wp2_with fail
  refine (Read_any b hrb.out Hb9.out _).mono ?_
  rintro e w2 ⟨v2, rfl, ho2, hb2⟩
  have HB2 := Lib.hid (HB1.out.trans (hb2.mono HB1.out.size))
  have hm := Lib.hid (Divide_any v1 v2 _ _ H0.out HDA.out w2 (HO1.out.rd.below hb2) ho2.rd)
  clear hb2 ho2
  go_wp2_with fail
  refine hm.out.mono ?_
  rintro e w3 ⟨q, r, rfl, hq, hr, hb3⟩
  have HB3 := Lib.hid (HB2.out.trans (hb3.mono HB2.out.size))
  have hwq := Lib.hid (Write_any q _ (by have := HQ.out; omega) w3 hq.rd (HT.out.on HB3.out))
  have HR := Lib.hid hr
  clear hb3 hq hr
  go_wp2_with fail
  refine hwq.out.mono ?_
  rintro e w4 ⟨rfl, hb4⟩
  have hwr := Lib.hid (Write_any r _ (by have := HM.out; omega) w4 (HR.out.rd.below hb4) (HT.out.on (HB3.out.trans (hb4.mono HB3.out.size))))
  have HB4 := Lib.hid (HB3.out.trans (hb4.mono HB3.out.size))
  clear hb4
  go_wp2_with fail
  refine hwr.out.mono ?_
  rintro e w5 ⟨rfl, hb5⟩
  have HB5 := Lib.hid (HB4.out.trans (hb5.mono HB4.out.size))
  clear hb5
  go_wp2
  go_ret3
  exact ⟨rfl, HB5.out⟩

/-- DivMod, of any two numbers. -/
theorem DivMod_yes (a b : ByteArray) (ha : vld a.data.toList = true) (hb : vld b.data.toList = true) (h0 : dval b.data.toList ≠ 0) (hla : a.size ≤ 90000) (hlb : b.size ≤ 90000) (w : World) (htab : Tb w) :
    Calls Tryd.prog 19 #[.string a, .string b] w fun e w' => e = .returned (.tuple #[St (Lib.decDigits (dval a.data.toList / dval b.data.toList)), St (Lib.decDigits (dval a.data.toList % dval b.data.toList)), .int .i64 0]) ∧ Below w.heap.size w w' := by
  rcases Nat.lt_or_ge (dval a.data.toList) (dval b.data.toList) with hab | hab
  · refine (DivMod_less a b ha hb hab (by unfold maxLen; omega) (by unfold maxLen; omega) w).mono fun e w' ⟨he, hw⟩ => ⟨?_, hw ▸ Below.refl _ _⟩
    have hs : Value.string a = St a.data.toList := by cases a; simp [St]
    have h0 : Lib.decDigits 0 = [48] := dec_dval [48] (by decide)
    rw [he, Nat.div_eq_of_lt hab, Nat.mod_eq_of_lt hab, dec_dval _ ha, h0, hs]
  · rcases Nat.lt_or_ge 19 a.size with hs | hs
    · exact DivMod_long a b ha hb h0 hab hs hla w htab
    · exact DivMod_short a b ha hb h0 hab hs w htab

end Go.Proofs.YtpdchplppkfdhaaDoor
