/- garboardlaw02.IntegerQuotients returns true: walks. -/
import Derived.Test.YtpdchplppkfdhaaGreatDoorLir
namespace Go.Proofs.YtpdchplppkfdhaaGreatDoor
open Go.RowKit Go.Gb

theorem zDivModN (x y q r : Int) (rn : Nat) (hy : y ≠ 0) (hq : x / y = q) (hr : x % y = r) (hn : r = (rn : Int)) (fx : FitZ x) (fy : FitZ y) (fq : Fit (x.natAbs + 1)) (w : World) (hl : La w) :
    Calls Tryz.prog 49 #[.string (Sz x), .string (Sz y)] w fun e w' => e = .returned (.tuple #[.string (Sz q), .string (Sn rn), .int .i64 0]) ∧ Below w.heap.size w w' := by
  have h := zDivMod x y q r hy hq hr fx fy fq w hl
  rwa [hn, sz_nat] at h
theorem zAddN (x : Int) (rn : Nat) (z : Int) (hz : x + (rn : Int) = z) (hx : FitZ x) (hy : Fit rn) (fz : FitZ z) (w : World) (hl : La w) :
    Calls Tryz.prog 43 #[.string (Sz x), .string (Sn rn)] w fun e w' => e = .returned (.tuple #[.string (Sz z), .int .i64 0]) ∧ Below w.heap.size w w' := by
  have h := zAdd x rn z hz hx hy.nat fz w hl
  rwa [sz_nat] at h
theorem zAbsV (x : Int) (n : Nat) (hn : x.natAbs = n) (hx : FitZ x) (w : World) (hl : La w) :
    Calls Tryz.prog 33 #[.string (Sz x)] w fun e w' => e = .returned (.tuple #[.string (Sn n), .int .i64 0]) ∧ Below w.heap.size w w' := by
  subst hn; exact zAbs x hx w hl
theorem nLess (x y : Nat) (h : x < y) (hx : Fit x) (hy : Fit y) (w : World) :
    Calls Tryz.prog 55 #[.string (Sn x), .string (Sn y)] w fun e w' => e = .returned (.tuple #[.int .i64 (-1), .int .i64 0]) ∧ w = w' := by
  have h2 := nCompare x y hx hy w
  rwa [cmpN_lt h] at h2

set_option maxHeartbeats 8000000 in
set_option maxRecDepth 100000 in
theorem iquot_long (a b : ByteArray) (hab : 120 < a.size ∨ 120 < b.size) (w : World) (hl : La w) :
    Calls Tryz.prog 11 #[.string a, .string b] w fun e w' => e = .returned (.bool true) ∧ Below w.heap.size w w' := by
  have HT := Lib.hid hl
  clear hl
  have HL := Lib.hid hab
  clear hab
  go_enter Tryz.func11, Tryz.ntmps11
  go_wp2_with fail
  refine (iawake _ HT.out).mono ?_
  rintro e w1 ⟨rfl, hb1⟩
  have HB1 := Lib.hid (hb1.alloc hb1.size (.cells #[.string a, .string b] 9))
  have hc := strs_cells2 w1 a b
  have HLo := Lib.hid (long2_yes w1.heap.size a b _ HL.out hc)
  clear hb1 hc
  go_wp2_with fail
  refine HLo.out.mono ?_
  rintro e w' ⟨rfl, rfl⟩
  go_wp2_with fail
  refine (iawake _ (HT.out.on HB1.out)).mono ?_
  rintro e w2 ⟨rfl, hb⟩
  have HB2 := Lib.hid (HB1.out.trans (hb.mono HB1.out.size))
  clear hb
  go_wp2
  go_ret
  exact ⟨rfl, HB2.out⟩

set_option maxHeartbeats 8000000 in
set_option maxRecDepth 100000 in
theorem iquot_no0 (a : ByteArray) (ha : a.size ≤ 120) (hv : vldZ a.data.toList = false) (w : World) (hl : La w) :
    Calls Tryz.prog 11 #[.string a, .string ⟨#[48]⟩] w fun e w' => e = .returned (.bool true) ∧ Below w.heap.size w w' := by
  have HT := Lib.hid hl
  clear hl
  have Hla := Lib.hid ha
  have Hma := Lib.hid (show a.size ≤ maxLen by unfold maxLen; omega)
  clear ha
  have HV := Lib.hid hv
  have HVV := Lib.hid (show (vldZ a.data.toList && vldZ (⟨#[48]⟩ : ByteArray).data.toList) = false by rw [hv]; rfl)
  have HT2 := Lib.hid (show a.size ≤ 1000 by have := Hla.out; omega)
  clear hv
  go_enter Tryz.func11, Tryz.ntmps11
  go_wp2_with fail
  refine (iawake _ HT.out).mono ?_
  rintro e w1 ⟨rfl, hb1⟩
  have HB1 := Lib.hid (hb1.alloc hb1.size (.cells #[.string a, .string ⟨#[48]⟩] 9))
  have hc := strs_cells2 w1 a ⟨#[48]⟩
  have HLo := Lib.hid (long2_no w1.heap.size a ⟨#[48]⟩ _ Hla.out (by decide) hc)
  clear hb1 hc
  go_wp2_with fail
  refine HLo.out.mono ?_
  rintro e w' ⟨rfl, rfl⟩
  go_wp2_with fail
  refine (zDivMod_no a ⟨#[48]⟩ HVV.out HT2.out (by decide) _ (HT.out.on HB1.out)).mono ?_
  rintro e w2 ⟨rfl, hb⟩
  have HB2 := Lib.hid (HB1.out.trans (hb.mono HB1.out.size))
  clear hb
  go_wp2_with fail
  refine (zValid_no a HV.out Hma.out _).mono ?_
  rintro e w3 ⟨rfl, hb⟩
  have HB3 := Lib.hid (HB2.out.trans (hb.mono HB2.out.size))
  clear hb
  go_wp2
  go_ret
  exact ⟨rfl, HB3.out⟩

set_option maxHeartbeats 8000000 in
set_option maxRecDepth 100000 in
theorem iquot_no1 (a b : ByteArray) (ha : a.size ≤ 120) (hb : b.size ≤ 120) (hv : (vldZ a.data.toList && vldZ b.data.toList) = false) (hb0 : (b.toList == [48]) = false) (w : World) (hl : La w) :
    Calls Tryz.prog 11 #[.string a, .string b] w fun e w' => e = .returned (.bool true) ∧ Below w.heap.size w w' := by
  have HT := Lib.hid hl
  clear hl
  have Hla := Lib.hid ha
  have Hma := Lib.hid (show a.size ≤ maxLen by unfold maxLen; omega)
  have Hlb := Lib.hid hb
  have Hmb := Lib.hid (show b.size ≤ maxLen by unfold maxLen; omega)
  clear ha hb
  have HVV := Lib.hid hv
  have HT2 := Lib.hid (show a.size ≤ 1000 by have := Hla.out; omega)
  have HT3 := Lib.hid (show b.size ≤ 1000 by have := Hlb.out; omega)
  clear hv
  go_enter Tryz.func11, Tryz.ntmps11
  go_wp2_with fail
  refine (iawake _ HT.out).mono ?_
  rintro e w1 ⟨rfl, hb1⟩
  have HB1 := Lib.hid (hb1.alloc hb1.size (.cells #[.string a, .string b] 9))
  have hc := strs_cells2 w1 a b
  have HLo := Lib.hid (long2_no w1.heap.size a b _ Hla.out Hlb.out hc)
  clear hb1 hc
  go_wp2_with fail
  refine HLo.out.mono ?_
  rintro e w' ⟨rfl, rfl⟩
  go_wp2_with fail
  refine (zDivMod_no a b HVV.out HT2.out HT3.out _ (HT.out.on HB1.out)).mono ?_
  rintro e w2 ⟨rfl, hb⟩
  have HB2 := Lib.hid (HB1.out.trans (hb.mono HB1.out.size))
  clear hb
  go_wp2
  go_ret
  exact ⟨rfl, HB2.out⟩

set_option maxHeartbeats 8000000 in
set_option maxRecDepth 100000 in
theorem iquot_zero (x : Int) (sa : (Sz x).size ≤ 120) (w : World) (hl : La w) :
    Calls Tryz.prog 11 #[.string (Sz x), .string ⟨#[48]⟩] w fun e w' => e = .returned (.bool true) ∧ Below w.heap.size w w' := by
  have HT := Lib.hid hl
  clear hl
  have SA := Lib.hid sa
  have FX := Lib.hid ((smz_of sa).fit (by decide))
  clear sa
  go_enter Tryz.func11, Tryz.ntmps11
  go_wp2_with fail
  refine (iawake _ HT.out).mono ?_
  rintro e w1 ⟨rfl, hb1⟩
  have HB1 := Lib.hid (hb1.alloc hb1.size (.cells #[.string (Sz x), .string ⟨#[48]⟩] 9))
  have hc := strs_cells2 w1 (Sz x) ⟨#[48]⟩
  have HLo := Lib.hid (long2_no w1.heap.size (Sz x) ⟨#[48]⟩ _ SA.out (by decide) hc)
  clear hb1 hc
  go_wp2_with fail
  refine HLo.out.mono ?_
  rintro e w' ⟨rfl, rfl⟩
  go_wp2_with fail
  refine (zDivMod_zero x FX.out _ (HT.out.on HB1.out)).mono ?_
  rintro e w2 ⟨rfl, hb⟩
  have HB2 := Lib.hid (HB1.out.trans (hb.mono HB1.out.size))
  clear hb
  go_wp2_with fail
  refine (zValid_yes x FX.out _ (HT.out.on HB2.out).zz).mono ?_
  rintro e w3 ⟨rfl, hb⟩
  have HB3 := Lib.hid (HB2.out.trans (hb.mono HB2.out.size))
  clear hb
  go_wp2
  go_ret
  exact ⟨rfl, HB3.out⟩

set_option maxHeartbeats 8000000 in
set_option maxRecDepth 100000 in
theorem iquot_yes (x y : Int) (sa : (Sz x).size ≤ 120) (sb : (Sz y).size ≤ 120) (hy0 : y ≠ 0) (w : World) (hl : La w) :
    Calls Tryz.prog 11 #[.string (Sz x), .string (Sz y)] w fun e w' => e = .returned (.bool true) ∧ Below w.heap.size w w' := by
  have HT := Lib.hid hl
  clear hl
  have hx := smz_of sa
  have hy := smz_of sb
  have FX := Lib.hid (hx.fit (by decide))
  have FY := Lib.hid (hy.fit (by decide))
  have FX1 := Lib.hid (SmZ.succ hx (by decide))
  have H0 := Lib.hid hy0
  obtain ⟨q, hq⟩ : ∃ q, x / y = q := ⟨_, rfl⟩
  obtain ⟨rn, hr⟩ : ∃ rn : Nat, x % y = (rn : Int) := ⟨(x % y).toNat, (Int.toNat_of_nonneg (Int.emod_nonneg x hy0)).symm⟩
  obtain ⟨p, hp⟩ : ∃ p, q * y = p := ⟨_, rfl⟩
  obtain ⟨n, hn⟩ : ∃ n, y.natAbs = n := ⟨_, rfl⟩
  have hlt : rn < n := by
    have h1 := Int.emod_lt x hy0
    rw [hr] at h1; omega
  have hsum : p + (rn : Int) = x := by
    rw [← hp, ← hq, ← hr, Int.mul_comm]; exact Int.mul_ediv_add_emod x y
  have Fn := Lib.hid (show Fit n from hn ▸ hy.fit (by decide))
  have Frn := Lib.hid (show Fit rn from Sm.le (hn ▸ hy.fit (by decide) : Fit n) (by omega))
  have Fp := Lib.hid (show FitZ p from (SmZ.sub (k := 120) hx (show SmZ 120 (rn : Int) from Sm.le (show Sm 120 n from hn ▸ hy) (by rw [Int.natAbs_natCast]; omega))).fit (by decide) |> fun h => by rwa [show x - (rn : Int) = p by omega] at h)
  have Fq := Lib.hid (show FitZ q from by
    have h1 : q.natAbs ≤ x.natAbs + 1 := by
      rw [← hq]
      have := Int.natAbs_ediv_le_natAbs x y
      omega
    have h2 := FX1.out
    unfold Fit at h2
    unfold FitZ Fit
    exact Sm.le h2 h1)
  have E1 := Lib.hid hq
  have E2 := Lib.hid hr
  have E3 := Lib.hid hp
  have E4 := Lib.hid hsum
  have E5 := Lib.hid hn
  have E6 := Lib.hid hlt
  have SA := Lib.hid sa
  have SB := Lib.hid sb
  clear hx hy hq hr hp hn hlt hsum sa sb hy0
  go_enter Tryz.func11, Tryz.ntmps11
  go_wp2_with fail
  refine (iawake _ HT.out).mono ?_
  rintro e w1 ⟨rfl, hb1⟩
  have HB1 := Lib.hid (hb1.alloc hb1.size (.cells #[.string (Sz x), .string (Sz y)] 9))
  have hc := strs_cells2 w1 (Sz x) (Sz y)
  have HLo := Lib.hid (long2_no w1.heap.size (Sz x) (Sz y) _ SA.out SB.out hc)
  clear hb1 hc
  go_wp2_with fail
  refine HLo.out.mono ?_
  rintro e w' ⟨rfl, rfl⟩
  go_wp2_with fail
  refine (zDivModN x y q _ rn H0.out E1.out E2.out rfl FX.out FY.out FX1.out _ (HT.out.on HB1.out)).mono ?_
  rintro e w2 ⟨rfl, hb⟩
  have HB2 := Lib.hid (HB1.out.trans (hb.mono HB1.out.size))
  clear hb
  go_wp2_with fail
  refine (zMul q y p E3.out Fq.out FY.out Fp.out _ (HT.out.on HB2.out)).mono ?_
  rintro e w3 ⟨rfl, hb⟩
  have HB3 := Lib.hid (HB2.out.trans (hb.mono HB2.out.size))
  clear hb
  go_wp2_with fail
  refine (zAddN p rn x E4.out Fp.out Frn.out FX.out _ (HT.out.on HB3.out)).mono ?_
  rintro e w4 ⟨rfl, hb⟩
  have HB4 := Lib.hid (HB3.out.trans (hb.mono HB3.out.size))
  clear hb
  go_wp2_with fail
  refine (zAbsV y n E5.out FY.out _ (HT.out.on HB4.out)).mono ?_
  rintro e w5 ⟨rfl, hb⟩
  have HB5 := Lib.hid (HB4.out.trans (hb.mono HB4.out.size))
  clear hb
  go_wp2_with fail
  refine (nLess rn n E6.out Frn.out Fn.out _).mono ?_
  rintro e w' ⟨rfl, rfl⟩
  go_wp2
  go_ret
  exact ⟨rfl, HB5.out⟩

theorem bytes_zero_of {b : ByteArray} (h : (b.toList == [48]) = true) : b = ⟨#[48]⟩ := by
  have h1 : b.toList = [48] := by simpa using h
  rw [toList_data] at h1
  cases b with
  | mk d => congr 1; exact Array.ext' h1
theorem iquot_any (a b : ByteArray) (w : World) (hl : La w) :
    Calls Tryz.prog 11 #[.string a, .string b] w fun e w' => e = .returned (.bool true) ∧ Below w.heap.size w w' := by
  by_cases hlo : 120 < a.size ∨ 120 < b.size
  · exact iquot_long a b hlo w hl
  · have ha : a.size ≤ 120 := by omega
    have hb : b.size ≤ 120 := by omega
    clear hlo
    cases hb0 : (b.toList == [48]) with
    | true =>
      obtain rfl := bytes_zero_of hb0
      cases va : vldZ a.data.toList with
      | false => exact iquot_no0 a ha va w hl
      | true =>
        have ea := sz_of va
        generalize zval a.data.toList = x at ea
        subst ea
        exact iquot_zero x ha w hl
    | false =>
      cases hv : (vldZ a.data.toList && vldZ b.data.toList) with
      | false => exact iquot_no1 a b ha hb hv hb0 w hl
      | true =>
        rw [Bool.and_eq_true] at hv
        have ea := sz_of hv.1
        have eb := sz_of hv.2
        generalize zval a.data.toList = x at ea
        generalize zval b.data.toList = y at eb
        subst ea eb
        refine iquot_yes x y ha hb ?_ w hl
        rintro rfl
        rw [sz_zero] at hb0
        exact absurd hb0 (by decide +kernel)

end Go.Proofs.YtpdchplppkfdhaaGreatDoor
