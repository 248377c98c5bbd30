/- garboardlaw01.NaturalDivides returns true, for any two strings: walks. -/
import Derived.Test.YtgbcjlknlagoeaaGreatDoorLnc
import Derived.Test.YtgbcjlknlagoeaaGreatDoorRk
namespace Go.Proofs.YtgbcjlknlagoeaaGreatDoor
open Go.RowKit Go.Gb

set_option maxHeartbeats 4000000 in
set_option maxRecDepth 100000 in
theorem divides_long (a b : ByteArray) (hab : 120 < a.size ∨ 120 < b.size) (w : World) (htab : Tb w) :
    Calls Tryz.prog 4 #[.string a, .string b] w fun e w' => e = .returned (.bool true) ∧ Below w.heap.size w w' := by
  have HT := Lib.hid htab
  clear htab
  have HL := Lib.hid hab
  clear hab
  go_enter Tryz.func4, Tryz.ntmps4
  go_wp2_with fail
  refine (awake_any _ HT.out).mono ?_
  rintro e w1 ⟨rfl, hb1⟩
  have HB1 := Lib.hid (hb1.alloc hb1.size (.cells #[.string a, .string b] 9))
  have hc := strs_cells2 w1 a b
  have HLo := Lib.hid (nlong2_yes w1.heap.size a b _ HL.out hc)
  clear hb1 hc
  go_wp2_with fail
  refine HLo.out.mono ?_
  rintro e w' ⟨rfl, rfl⟩
  go_wp2_with fail
  refine (awake_any _ (HT.out.on HB1.out)).mono ?_
  rintro e w2 ⟨rfl, hb⟩
  have HB2 := Lib.hid (HB1.out.trans (hb.mono HB1.out.size))
  clear hb
  go_wp2
  go_ret
  exact ⟨rfl, HB2.out⟩

set_option maxHeartbeats 4000000 in
set_option maxRecDepth 100000 in
theorem divides_no (a b : ByteArray) (ha : a.size ≤ 120) (hb : b.size ≤ 120) (hv : (vld a.data.toList && vld b.data.toList) = false) (w : World) (htab : Tb w) :
    Calls Tryz.prog 4 #[.string a, .string b] w fun e w' => e = .returned (.bool true) ∧ Below w.heap.size w w' := by
  have HT := Lib.hid htab
  clear htab
  have Hla := Lib.hid ha
  have Hlb := Lib.hid hb
  have Hma := Lib.hid (show a.size ≤ maxLen by unfold maxLen; omega)
  have Hmb := Lib.hid (show b.size ≤ maxLen by unfold maxLen; omega)
  have HV := Lib.hid hv
  clear ha hb hv
  have C0 := Lib.hid (fun (W : World) => DivMod_no a b HV.out Hma.out Hmb.out W)
  unfold St at C0
  have C1 := Lib.hid (fun (W : World) => RDivMod_no a b HV.out Hma.out Hmb.out W)
  unfold St at C1
  have C2 := Lib.hid (fun (W : World) => GCD_no a b HV.out Hma.out Hmb.out W)
  unfold St at C2
  have C3 := Lib.hid (fun (W : World) => RGCD_no a b HV.out Hma.out Hmb.out W)
  unfold St at C3
  go_enter Tryz.func4, Tryz.ntmps4
  go_wp2_with fail
  refine (awake_any _ HT.out).mono ?_
  rintro e w1 ⟨rfl, hb1⟩
  have HB1 := Lib.hid (hb1.alloc hb1.size (.cells #[.string a, .string b] 9))
  have hc := strs_cells2 w1 a b
  have HLo := Lib.hid (nlong2_no w1.heap.size a b _ Hla.out Hlb.out hc)
  clear hb1 hc
  go_wp2_with fail
  refine HLo.out.mono ?_
  rintro e w' ⟨rfl, rfl⟩
  go_wp2_with fail
  refine (C0.out _).mono ?_
  rintro e w' ⟨rfl, rfl⟩
  go_wp2_with fail
  refine (C1.out _).mono ?_
  rintro e w' ⟨rfl, rfl⟩
  go_wp2_with fail
  refine (C2.out _).mono ?_
  rintro e w' ⟨rfl, rfl⟩
  go_wp2_with fail
  refine (C3.out _).mono ?_
  rintro e w' ⟨rfl, rfl⟩
  go_wp2
  go_ret
  exact ⟨rfl, HB1.out⟩

set_option maxHeartbeats 4000000 in
set_option maxRecDepth 100000 in
theorem divides_yes (x y : Nat) (hx : Sm 120 x) (hy : Sm 120 y) (sx : (Sn x).size ≤ 120) (sy : (Sn y).size ≤ 120) (h0 : y ≠ 0) (w : World) (htab : Tb w) :
    Calls Tryz.prog 4 #[.string (Sn x), .string (Sn y)] w fun e w' => e = .returned (.bool true) ∧ Below w.heap.size w w' := by
  have HT := Lib.hid htab
  clear htab
  have Fx := Lib.hid (hx.fit (by decide))
  have Fy := Lib.hid (hy.fit (by decide))
  have Sx := Lib.hid sx
  have Sy := Lib.hid sy
  have H0 := Lib.hid h0
  obtain ⟨q, hq⟩ : ∃ q, q = x / y := ⟨_, rfl⟩
  obtain ⟨r, hr⟩ : ∃ r, r = x % y := ⟨_, rfl⟩
  obtain ⟨g, hg⟩ : ∃ g, g = Nat.gcd x y := ⟨_, rfl⟩
  have EQ := Lib.hid hq.symm
  have ER := Lib.hid hr.symm
  have EG := Lib.hid hg.symm
  have C1 := Lib.hid (fun (W : World) (T : Tb W) => nDivV x y q r EQ.out ER.out Fx.out Fy.out H0.out W T)
  have c2 := fun (W : World) => rDivMod x y H0.out Fx.out Fy.out W
  simp only [EQ.out, ER.out] at c2
  have C2 := Lib.hid c2
  have C3 := Lib.hid (fun (W : World) (T : Tb W) => nGCDV x y g EG.out Fx.out Fy.out W T)
  have c4 := fun (W : World) => rGCD x y Fx.out Fy.out W
  simp only [EG.out] at c4
  have C4 := Lib.hid c4
  clear hx hy sx sy hq hr hg c2 c4 h0
  go_enter Tryz.func4, Tryz.ntmps4
  go_wp2_with fail
  refine (awake_any _ HT.out).mono ?_
  rintro e w1 ⟨rfl, hb1⟩
  have HB1 := Lib.hid (hb1.alloc hb1.size (.cells #[.string (Sn x), .string (Sn y)] 9))
  have hc := strs_cells2 w1 (Sn x) (Sn y)
  have HLo := Lib.hid (nlong2_no w1.heap.size (Sn x) (Sn y) _ Sx.out Sy.out hc)
  clear hb1 hc
  go_wp2_with fail
  refine HLo.out.mono ?_
  rintro e w' ⟨rfl, rfl⟩
  go_wp2_with fail
  refine (C1.out _ (HT.out.on HB1.out)).mono ?_
  rintro e w2 ⟨rfl, hb⟩
  have HB2 := Lib.hid (HB1.out.trans (hb.mono HB1.out.size))
  clear hb
  go_wp2_with fail
  refine (C2.out _).mono ?_
  rintro e w3 ⟨rfl, hb⟩
  have HB3 := Lib.hid (HB2.out.trans (hb.mono HB2.out.size))
  clear hb
  go_wp2_with fail
  refine (C3.out _ (HT.out.on HB3.out)).mono ?_
  rintro e w4 ⟨rfl, hb⟩
  have HB4 := Lib.hid (HB3.out.trans (hb.mono HB3.out.size))
  clear hb
  go_wp2_with fail
  refine (C4.out _).mono ?_
  rintro e w5 ⟨rfl, hb⟩
  have HB5 := Lib.hid (HB4.out.trans (hb.mono HB4.out.size))
  clear hb
  go_wp2
  go_ret
  exact ⟨rfl, HB5.out⟩

set_option maxHeartbeats 4000000 in
set_option maxRecDepth 100000 in
theorem divides_zero (x : Nat) (hx : Sm 120 x) (sx : (Sn x).size ≤ 120) (w : World) (htab : Tb w) :
    Calls Tryz.prog 4 #[.string (Sn x), .string ⟨#[48]⟩] w fun e w' => e = .returned (.bool true) ∧ Below w.heap.size w w' := by
  have HT := Lib.hid htab
  clear htab
  have Fx := Lib.hid (hx.fit (by decide))
  have F0 := Lib.hid ((show Sm 1 0 by simp [Sm]).fit (by decide))
  have Sx := Lib.hid sx
  have S0 := Lib.hid (show (⟨#[48]⟩ : ByteArray).size ≤ 120 by decide)
  have C1 := Lib.hid (fun (W : World) => DivMod_zero (Sn x) (sn_vld x) Fx.out.max W)
  have c2 := fun (W : World) => rDivMod0 x Fx.out W
  rw [sn_zero] at c2
  have C2 := Lib.hid c2
  unfold St at C1 C2
  have c3 := fun (W : World) (T : Tb W) => nGCDV x 0 x (Nat.gcd_zero_right x) Fx.out F0.out W T
  have c4 := fun (W : World) => rGCD x 0 Fx.out F0.out W
  simp only [Nat.gcd_zero_right] at c4
  rw [sn_zero] at c3 c4
  have C3 := Lib.hid c3
  have C4 := Lib.hid c4
  clear hx sx c2 c3 c4
  go_enter Tryz.func4, Tryz.ntmps4
  go_wp2_with fail
  refine (awake_any _ HT.out).mono ?_
  rintro e w1 ⟨rfl, hb1⟩
  have HB1 := Lib.hid (hb1.alloc hb1.size (.cells #[.string (Sn x), .string ⟨#[48]⟩] 9))
  have hc := strs_cells2 w1 (Sn x) ⟨#[48]⟩
  have HLo := Lib.hid (nlong2_no w1.heap.size (Sn x) ⟨#[48]⟩ _ Sx.out S0.out hc)
  clear hb1 hc
  go_wp2_with fail
  refine HLo.out.mono ?_
  rintro e w' ⟨rfl, rfl⟩
  go_wp2_with fail
  refine (C1.out _).mono ?_
  rintro e w' ⟨rfl, rfl⟩
  go_wp2_with fail
  refine (C2.out _).mono ?_
  rintro e w2 ⟨rfl, hb⟩
  have HB2 := Lib.hid (HB1.out.trans (hb.mono HB1.out.size))
  clear hb
  go_wp2_with fail
  refine (C3.out _ (HT.out.on HB2.out)).mono ?_
  rintro e w3 ⟨rfl, hb⟩
  have HB3 := Lib.hid (HB2.out.trans (hb.mono HB2.out.size))
  clear hb
  go_wp2_with fail
  refine (C4.out _).mono ?_
  rintro e w4 ⟨rfl, hb⟩
  have HB4 := Lib.hid (HB3.out.trans (hb.mono HB3.out.size))
  clear hb
  go_wp2
  go_ret
  exact ⟨rfl, HB4.out⟩

theorem divides_any (a b : ByteArray) (w : World) (htab : Tb w) :
    Calls Tryz.prog 4 #[.string a, .string b] w fun e w' => e = .returned (.bool true) ∧ Below w.heap.size w w' := by
  by_cases hl : 120 < a.size ∨ 120 < b.size
  · exact divides_long a b hl w htab
  · have ha : a.size ≤ 120 := by omega
    have hb : b.size ≤ 120 := by omega
    by_cases hv : (vld a.data.toList && vld b.data.toList) = true
    · obtain ⟨va, vb⟩ : vld a.data.toList = true ∧ vld b.data.toList = true := by simpa using hv
      have fa := Sm.of va ha
      have fb := Sm.of vb hb
      have ea := sn_of va
      have eb := sn_of vb
      generalize dval a.data.toList = x at *
      generalize dval b.data.toList = y at *
      subst ea eb
      by_cases h : y = 0
      · subst h
        rw [sn_zero]
        exact divides_zero x fa ha w htab
      · exact divides_yes x y fa fb ha hb h w htab
    · exact divides_no a b ha hb (by simpa using hv) w htab

end Go.Proofs.YtgbcjlknlagoeaaGreatDoor
