/- garboardref01.Root, Pow in numbers; Pow out of range: walks. -/
import Derived.Test.YtgbcjlknlagoeaaGreatDoorRfl
import Derived.Test.YtgbcjlknlagoeaaGreatDoorRk
import Derived.Test.YtgbcjlknlagoeaaGreatDoorLnq
namespace Go.Proofs.YtgbcjlknlagoeaaGreatDoor
open Go.RowKit Go.Gb

theorem root_same {x s t : Nat} (h1 : s * s ≤ x) (h2 : x < (s + 1) * (s + 1)) (h3 : t * t ≤ x) (h4 : x < (t + 1) * (t + 1)) : t = s := by
  rcases Nat.lt_trichotomy s t with h | h | h
  · have := Nat.mul_le_mul (show s + 1 ≤ t from h) (show s + 1 ≤ t from h)
    omega
  · exact h.symm
  · have := Nat.mul_le_mul (show t + 1 ≤ s from h) (show t + 1 ≤ s from h)
    omega
theorem rFromN (x : Nat) (hx : Fit x) (w : World) :
    Calls Tryz.prog 72 #[.string (Sn x)] w fun e w' => ∃ v, e = .returned v ∧ Own .u32 106 w.heap.size w' v (digs x) ∧ Below w.heap.size w w' := by
  have h := RFrom_any (Sn x) (all_of_vld (sn_vld x)) (by have := hx.size; omega) w
  rwa [sn_dval] at h

set_option maxRecDepth 100000 in
theorem rRoot (x : Nat) (hx : Fit x) (hl : (digs x).length ≤ 1000) (w : World) :
    Calls Tryz.prog 22 #[.string (Sn x)] w fun e w' => ∃ s, e = .returned (.tuple #[.string (Sn s), .int .i64 0]) ∧ s * s ≤ x ∧ x < (s + 1) * (s + 1) ∧ Below w.heap.size w w' := by
  have HX := Lib.hid hx
  have HL := Lib.hid hl
  have HV := Lib.hid (fun W => RValid_yes (Sn x) (sn_vld x) (by have := hx.size; unfold maxLen; omega) W)
  have HF := Lib.hid (fun W => rFromN x hx W)
  clear hx hl
  generalize Sn x = a at *
  go_enter Tryz.func22, Tryz.ntmps22
  go_wp2_with fail
  refine (HV.out _).mono ?_
  rintro e w' ⟨rfl, rfl⟩
  go_wp2_with fail
  refine (HF.out _).mono ?_
  rintro e w1 ⟨u, rfl, ho, hb1⟩
  have HO := Lib.hid ho.rd
  have HB1 := Lib.hid hb1
  clear ho hb1
  go_wp2_with fail
  refine (RFloor_any u x HL.out w1 HO.out).mono ?_
  rintro e w2 ⟨v, s, rfl, hv, h1, h2, hb⟩
  have HB2 := Lib.hid (HB1.out.trans (hb.mono HB1.out.size))
  have HS := Lib.hid (show s * s ≤ x ∧ x < (s + 1) * (s + 1) from ⟨h1, h2⟩)
  have HT := Lib.hid (RTo_any v s (by have := digs_length_mono (Nat.le_trans (Nat.le_mul_self s) h1); have := HL.out; omega) w2 hv)
  clear h1 h2 hv hb
  go_wp2_with fail
  refine HT.out.mono ?_
  rintro e w3 ⟨rfl, hb⟩
  have HB3 := Lib.hid (HB2.out.trans (hb.mono HB2.out.size))
  clear hb
  go_wp2
  go_ret2
  exact ⟨s, rfl, HS.out.1, HS.out.2, HB3.out⟩
set_option maxRecDepth 100000 in
theorem RRoot_no (a : ByteArray) (hv : vld a.data.toList = false) (hsa : a.size ≤ maxLen) (w : World) :
    Calls Tryz.prog 22 #[.string a] w fun e w' => e = .returned (.tuple #[.string ⟨#[]⟩, .int .i64 1]) ∧ w = w' := by
  have HV := Lib.hid hv
  clear hv
  go_enter Tryz.func22, Tryz.ntmps22
  go_wp2_with fail
  refine (RValid_no a HV.out hsa _).mono ?_
  rintro e w' ⟨rfl, rfl⟩
  go_wp2
  go_ret2
  exact ⟨rfl, rfl⟩
set_option maxRecDepth 100000 in
theorem rPow (x k p : Nat) (n : Int) (hn : n = (k : Int)) (hp : x ^ k = p) (hk : k ≤ 64) (hx : Fit x) (hl : (digs x).length ≤ 1000) (hpl : (digs p).length ≤ 10000) (w : World) :
    Calls Tryz.prog 24 #[.string (Sn x), .int .i64 n] w fun e w' => e = .returned (.tuple #[.string (Sn p), .int .i64 0]) ∧ Below w.heap.size w w' := by
  subst hn
  have i1 : (k : Int) ≤ 64 := by omega
  have HV := Lib.hid (fun W => RValid_yes (Sn x) (sn_vld x) (by have := hx.size; unfold maxLen; omega) W)
  have HF := Lib.hid (fun W => rFromN x hx W)
  have HP := Lib.hid (fun W v (hv : Rd .u32 W v (digs x)) => RPower_any v x k hk hl W hv)
  rw [hp] at HP
  have HPl := Lib.hid hpl
  clear hx hl hp hpl
  generalize Sn x = a at *
  go_enter Tryz.func24, Tryz.ntmps24
  go_wp2_with fail
  refine (HV.out _).mono ?_
  rintro e w' ⟨rfl, rfl⟩
  go_wp2_with fail
  refine (HF.out _).mono ?_
  rintro e w1 ⟨u, rfl, ho, hb1⟩
  have HO := Lib.hid ho.rd
  have HB1 := Lib.hid hb1
  clear ho hb1
  go_wp2_with fail
  refine (HP.out w1 u HO.out).mono ?_
  rintro e w2 ⟨v, rfl, hv, hb⟩
  have HB2 := Lib.hid (HB1.out.trans (hb.mono HB1.out.size))
  have HT := Lib.hid (RTo_any v p HPl.out w2 hv.rd)
  clear hv hb
  go_wp2_with fail
  refine HT.out.mono ?_
  rintro e w3 ⟨rfl, hb⟩
  have HB3 := Lib.hid (HB2.out.trans (hb.mono HB2.out.size))
  clear hb
  go_wp2
  go_ret2
  exact ⟨rfl, HB3.out⟩

set_option maxRecDepth 100000 in
theorem RPow_bad (a : ByteArray) (n : Int) (hv : vld a.data.toList = false) (hsa : a.size ≤ maxLen) (w : World) :
    Calls Tryz.prog 24 #[.string a, .int .i64 n] w fun e w' => e = .returned (.tuple #[.string ⟨#[]⟩, .int .i64 1]) ∧ w = w' := by
  have HV := Lib.hid hv
  clear hv
  go_enter Tryz.func24, Tryz.ntmps24
  go_wp2_with fail
  refine (RValid_no a HV.out hsa _).mono ?_
  rintro e w' ⟨rfl, rfl⟩
  go_wp2
  go_ret2
  exact ⟨rfl, rfl⟩

set_option maxRecDepth 100000 in
theorem RPow_neg (a : ByteArray) (n : Int) (hn : n < 0) (hv : vld a.data.toList = true) (hsa : a.size ≤ maxLen) (w : World) :
    Calls Tryz.prog 24 #[.string a, .int .i64 n] w fun e w' => e = .returned (.tuple #[.string ⟨#[]⟩, .int .i64 2]) ∧ w = w' := by
  have HV := Lib.hid hv
  have d1 : decide (n < 0) = true := decide_eq_true hn
  clear hv
  go_enter Tryz.func24, Tryz.ntmps24
  go_wp2_with fail
  refine (RValid_yes a HV.out hsa _).mono ?_
  rintro e w' ⟨rfl, rfl⟩
  go_wp2
  go_ret2
  exact ⟨rfl, rfl⟩

set_option maxRecDepth 100000 in
theorem RPow_big (a : ByteArray) (n : Int) (hn : 64 < n) (hv : vld a.data.toList = true) (hsa : a.size ≤ maxLen) (w : World) :
    Calls Tryz.prog 24 #[.string a, .int .i64 n] w fun e w' => e = .returned (.tuple #[.string ⟨#[]⟩, .int .i64 2]) ∧ w = w' := by
  have HV := Lib.hid hv
  have d1 : decide (n < 0) = false := decide_eq_false (by omega)
  have d2 : decide (64 < n) = true := decide_eq_true hn
  clear hv
  go_enter Tryz.func24, Tryz.ntmps24
  go_wp2_with fail
  refine (RValid_yes a HV.out hsa _).mono ?_
  rintro e w' ⟨rfl, rfl⟩
  go_wp2
  go_ret2
  exact ⟨rfl, rfl⟩

set_option maxRecDepth 100000 in
theorem Pow_bad (a : ByteArray) (n : Int) (hv : vld a.data.toList = false) (hsa : a.size ≤ maxLen) (w : World) :
    Calls Tryz.prog 23 #[.string a, .int .i64 n] w fun e w' => e = .returned (.tuple #[.string ⟨#[]⟩, .int .i64 1]) ∧ w = w' := by
  have HV := Lib.hid hv
  clear hv
  go_enter Tryz.func23, Tryz.ntmps23
  go_wp2_with fail
  refine (Valid_no a HV.out hsa _).mono ?_
  rintro e w' ⟨rfl, rfl⟩
  go_wp2
  go_ret2
  exact ⟨rfl, rfl⟩

set_option maxRecDepth 100000 in
theorem Pow_neg (a : ByteArray) (n : Int) (hn : n < 0) (hv : vld a.data.toList = true) (hsa : a.size ≤ maxLen) (w : World) :
    Calls Tryz.prog 23 #[.string a, .int .i64 n] w fun e w' => e = .returned (.tuple #[.string ⟨#[]⟩, .int .i64 2]) ∧ w = w' := by
  have HV := Lib.hid hv
  have d1 : decide (n < 0) = true := decide_eq_true hn
  clear hv
  go_enter Tryz.func23, Tryz.ntmps23
  go_wp2_with fail
  refine (Valid_yes a HV.out hsa _).mono ?_
  rintro e w' ⟨rfl, rfl⟩
  go_wp2
  go_ret2
  exact ⟨rfl, rfl⟩

set_option maxRecDepth 100000 in
theorem Pow_big (a : ByteArray) (n : Int) (hn : 64 < n) (hv : vld a.data.toList = true) (hsa : a.size ≤ maxLen) (w : World) :
    Calls Tryz.prog 23 #[.string a, .int .i64 n] w fun e w' => e = .returned (.tuple #[.string ⟨#[]⟩, .int .i64 2]) ∧ w = w' := by
  have HV := Lib.hid hv
  have d1 : decide (n < 0) = false := decide_eq_false (by omega)
  have d2 : decide (64 < n) = true := decide_eq_true hn
  clear hv
  go_enter Tryz.func23, Tryz.ntmps23
  go_wp2_with fail
  refine (Valid_yes a HV.out hsa _).mono ?_
  rintro e w' ⟨rfl, rfl⟩
  go_wp2
  go_ret2
  exact ⟨rfl, rfl⟩

end Go.Proofs.YtgbcjlknlagoeaaGreatDoor
