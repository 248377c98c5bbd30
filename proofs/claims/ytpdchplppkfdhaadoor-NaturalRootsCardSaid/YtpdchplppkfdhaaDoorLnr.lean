/- garboardlaw01.NaturalRing and NaturalUndoes return true: walks. -/
import Derived.Test.YtpdchplppkfdhaaDoorLon
import Derived.Test.YtpdchplppkfdhaaDoorNz
namespace Go.Proofs.YtpdchplppkfdhaaDoor
open Go.RowKit Go.Gb

theorem sn_zero : Sn 0 = ⟨#[48]⟩ := by decide +kernel
theorem sn_one : Sn 1 = ⟨#[49]⟩ := by decide +kernel
theorem Fit.of {a : ByteArray} (h : vld a.data.toList = true) (hl : a.size ≤ 120) : Sm 120 (dval a.data.toList) := Sm.of h hl
theorem Sm.fit {k n : Nat} (h : Sm k n) (hk : k ≤ 2000) : Fit n := h.mono hk

/-! ### the closures of NaturalRing -/
theorem ringAdd (x y s : Nat) (hs : x + y = s) (hx : Fit x) (hy : Fit y) (w : World) (htab : Tb w) :
    Calls Tryd.prog 14 #[.string (Sn x), .string (Sn y)] w fun e w' => e = .returned (.string (Sn s)) ∧ Below w.heap.size w w' := by
  subst hs
  have HC := Lib.hid (nAdd x y hx hy w htab)
  clear htab
  generalize x + y = s at *
  go_enter Tryd.func14, Tryd.ntmps14
  go_wp2_with fail
  refine HC.out.mono ?_
  rintro e w1 ⟨rfl, hb⟩
  go_wp2
  go_ret
  exact ⟨rfl, hb⟩
theorem ringMul (x y s : Nat) (hs : x * y = s) (hx : Fit x) (hy : Fit y) (w : World) (htab : Tb w) :
    Calls Tryd.prog 16 #[.string (Sn x), .string (Sn y)] w fun e w' => e = .returned (.string (Sn s)) ∧ Below w.heap.size w w' := by
  subst hs
  have HC := Lib.hid (nMul x y hx hy w htab)
  clear htab
  generalize x * y = s at *
  go_enter Tryd.func16, Tryd.ntmps16
  go_wp2_with fail
  refine HC.out.mono ?_
  rintro e w1 ⟨rfl, hb⟩
  go_wp2
  go_ret
  exact ⟨rfl, hb⟩
theorem ringMul1 (x : Nat) (hx : Fit x) (w : World) (htab : Tb w) :
    Calls Tryd.prog 16 #[.string (Sn x), .string ⟨#[49]⟩] w fun e w' => e = .returned (.string (Sn x)) ∧ Below w.heap.size w w' := by
  have h := ringMul x 1 x (Nat.mul_one x) hx ((show Sm 1 1 by simp [Sm]).fit (by decide)) w htab
  rwa [sn_one] at h
theorem ringMul0 (x : Nat) (hx : Fit x) (w : World) (htab : Tb w) :
    Calls Tryd.prog 16 #[.string (Sn x), .string ⟨#[48]⟩] w fun e w' => e = .returned (.string ⟨#[48]⟩) ∧ Below w.heap.size w w' := by
  have h := ringMul x 0 0 (Nat.mul_zero x) hx ((show Sm 1 0 by simp [Sm]).fit (by decide)) w htab
  rwa [sn_zero] at h
theorem ringAdd0 (x : Nat) (hx : Fit x) (w : World) (htab : Tb w) :
    Calls Tryd.prog 14 #[.string (Sn x), .string ⟨#[48]⟩] w fun e w' => e = .returned (.string (Sn x)) ∧ Below w.heap.size w w' := by
  have h := ringAdd x 0 x (Nat.add_zero x) hx ((show Sm 1 0 by simp [Sm]).fit (by decide)) w htab
  rwa [sn_zero] at h

set_option maxHeartbeats 4000000 in
set_option maxRecDepth 100000 in
theorem ring_long (a b c : ByteArray) (hab : 120 < a.size ∨ 120 < b.size ∨ 120 < c.size) (w : World) (htab : Tb w) :
    Calls Tryd.prog 4 #[.string a, .string b, .string c] w fun e w' => e = .returned (.bool true) ∧ Below w.heap.size w w' := by
  have HT := Lib.hid htab
  clear htab
  have HL := Lib.hid hab
  clear hab
  go_enter Tryd.func4, Tryd.ntmps4
  go_wp2_with fail
  refine (awake_any _ HT.out).mono ?_
  rintro e w1 ⟨rfl, hb1⟩
  have HB1 := Lib.hid (hb1.alloc hb1.size (.cells #[.string a, .string b, .string c] 9))
  have hc := strs_cells3 w1 a b c
  have HLo := Lib.hid (nlong3_yes w1.heap.size a b c _ HL.out hc)
  clear hb1 hc
  go_wp2_with fail
  refine HLo.out.mono ?_
  rintro e w' ⟨rfl, rfl⟩
  go_wp2_with fail
  refine (awake_any _ (HT.out.on HB1.out)).mono ?_
  rintro e w2 ⟨rfl, hb⟩
  have HB2 := Lib.hid (HB1.out.trans (hb.mono HB1.out.size))
  clear hb
  go_wp2
  go_ret
  exact ⟨rfl, HB2.out⟩

set_option maxHeartbeats 4000000 in
set_option maxRecDepth 100000 in
theorem ring_no0 (a b c : ByteArray) (ha : a.size ≤ 120) (hb : b.size ≤ 120) (hc : c.size ≤ 120)  (hva : vld a.data.toList = false) (w : World) (htab : Tb w) :
    Calls Tryd.prog 4 #[.string a, .string b, .string c] w fun e w' => e = .returned (.bool true) ∧ Below w.heap.size w w' := by
  have HT := Lib.hid htab
  clear htab
  have Hla := Lib.hid ha
  have Hma := Lib.hid (show a.size ≤ maxLen by unfold maxLen; omega)
  have Hlb := Lib.hid hb
  have Hmb := Lib.hid (show b.size ≤ maxLen by unfold maxLen; omega)
  have Hlc := Lib.hid hc
  have Hmc := Lib.hid (show c.size ≤ maxLen by unfold maxLen; omega)
  clear ha hb hc
  have HVa := Lib.hid hva
  clear hva
  go_enter Tryd.func4, Tryd.ntmps4
  go_wp2_with fail
  refine (awake_any _ HT.out).mono ?_
  rintro e w1 ⟨rfl, hb1⟩
  have HB1 := Lib.hid (hb1.alloc hb1.size (.cells #[.string a, .string b, .string c] 9))
  have hc := strs_cells3 w1 a b c
  have HLo := Lib.hid (nlong3_no w1.heap.size a b c _ Hla.out Hlb.out Hlc.out hc)
  clear hb1 hc
  go_wp2_with fail
  refine HLo.out.mono ?_
  rintro e w' ⟨rfl, rfl⟩
  go_wp2_with fail
  refine (Valid_no a HVa.out Hma.out _).mono ?_
  rintro e w' ⟨rfl, rfl⟩
  go_wp2
  go_ret
  exact ⟨rfl, HB1.out⟩

set_option maxHeartbeats 4000000 in
set_option maxRecDepth 100000 in
theorem ring_no1 (a b c : ByteArray) (ha : a.size ≤ 120) (hb : b.size ≤ 120) (hc : c.size ≤ 120) (hva : vld a.data.toList = true) (hvb : vld b.data.toList = false) (w : World) (htab : Tb w) :
    Calls Tryd.prog 4 #[.string a, .string b, .string c] w fun e w' => e = .returned (.bool true) ∧ Below w.heap.size w w' := by
  have HT := Lib.hid htab
  clear htab
  have Hla := Lib.hid ha
  have Hma := Lib.hid (show a.size ≤ maxLen by unfold maxLen; omega)
  have Hlb := Lib.hid hb
  have Hmb := Lib.hid (show b.size ≤ maxLen by unfold maxLen; omega)
  have Hlc := Lib.hid hc
  have Hmc := Lib.hid (show c.size ≤ maxLen by unfold maxLen; omega)
  clear ha hb hc
  have HVa := Lib.hid hva
  clear hva
  have HVb := Lib.hid hvb
  clear hvb
  go_enter Tryd.func4, Tryd.ntmps4
  go_wp2_with fail
  refine (awake_any _ HT.out).mono ?_
  rintro e w1 ⟨rfl, hb1⟩
  have HB1 := Lib.hid (hb1.alloc hb1.size (.cells #[.string a, .string b, .string c] 9))
  have hc := strs_cells3 w1 a b c
  have HLo := Lib.hid (nlong3_no w1.heap.size a b c _ Hla.out Hlb.out Hlc.out hc)
  clear hb1 hc
  go_wp2_with fail
  refine HLo.out.mono ?_
  rintro e w' ⟨rfl, rfl⟩
  go_wp2_with fail
  refine (Valid_yes a HVa.out Hma.out _).mono ?_
  rintro e w' ⟨rfl, rfl⟩
  go_wp2_with fail
  refine (Valid_no b HVb.out Hmb.out _).mono ?_
  rintro e w' ⟨rfl, rfl⟩
  go_wp2
  go_ret
  exact ⟨rfl, HB1.out⟩

set_option maxHeartbeats 4000000 in
set_option maxRecDepth 100000 in
theorem ring_no2 (a b c : ByteArray) (ha : a.size ≤ 120) (hb : b.size ≤ 120) (hc : c.size ≤ 120) (hva : vld a.data.toList = true) (hvb : vld b.data.toList = true) (hvc : vld c.data.toList = false) (w : World) (htab : Tb w) :
    Calls Tryd.prog 4 #[.string a, .string b, .string c] w fun e w' => e = .returned (.bool true) ∧ Below w.heap.size w w' := by
  have HT := Lib.hid htab
  clear htab
  have Hla := Lib.hid ha
  have Hma := Lib.hid (show a.size ≤ maxLen by unfold maxLen; omega)
  have Hlb := Lib.hid hb
  have Hmb := Lib.hid (show b.size ≤ maxLen by unfold maxLen; omega)
  have Hlc := Lib.hid hc
  have Hmc := Lib.hid (show c.size ≤ maxLen by unfold maxLen; omega)
  clear ha hb hc
  have HVa := Lib.hid hva
  clear hva
  have HVb := Lib.hid hvb
  clear hvb
  have HVc := Lib.hid hvc
  clear hvc
  go_enter Tryd.func4, Tryd.ntmps4
  go_wp2_with fail
  refine (awake_any _ HT.out).mono ?_
  rintro e w1 ⟨rfl, hb1⟩
  have HB1 := Lib.hid (hb1.alloc hb1.size (.cells #[.string a, .string b, .string c] 9))
  have hc := strs_cells3 w1 a b c
  have HLo := Lib.hid (nlong3_no w1.heap.size a b c _ Hla.out Hlb.out Hlc.out hc)
  clear hb1 hc
  go_wp2_with fail
  refine HLo.out.mono ?_
  rintro e w' ⟨rfl, rfl⟩
  go_wp2_with fail
  refine (Valid_yes a HVa.out Hma.out _).mono ?_
  rintro e w' ⟨rfl, rfl⟩
  go_wp2_with fail
  refine (Valid_yes b HVb.out Hmb.out _).mono ?_
  rintro e w' ⟨rfl, rfl⟩
  go_wp2_with fail
  refine (Valid_no c HVc.out Hmc.out _).mono ?_
  rintro e w' ⟨rfl, rfl⟩
  go_wp2
  go_ret
  exact ⟨rfl, HB1.out⟩

set_option maxHeartbeats 4000000 in
set_option maxRecDepth 100000 in
theorem undoes_long (a b : ByteArray) (hab : 120 < a.size ∨ 120 < b.size) (w : World) (htab : Tb w) :
    Calls Tryd.prog 5 #[.string a, .string b] w fun e w' => e = .returned (.bool true) ∧ Below w.heap.size w w' := by
  have HT := Lib.hid htab
  clear htab
  have HL := Lib.hid hab
  clear hab
  go_enter Tryd.func5, Tryd.ntmps5
  go_wp2_with fail
  refine (awake_any _ HT.out).mono ?_
  rintro e w1 ⟨rfl, hb1⟩
  have HB1 := Lib.hid (hb1.alloc hb1.size (.cells #[.string a, .string b] 9))
  have hc := strs_cells2 w1 a b
  have HLo := Lib.hid (nlong2_yes w1.heap.size a b _ HL.out hc)
  clear hb1 hc
  go_wp2_with fail
  refine HLo.out.mono ?_
  rintro e w' ⟨rfl, rfl⟩
  go_wp2_with fail
  refine (awake_any _ (HT.out.on HB1.out)).mono ?_
  rintro e w2 ⟨rfl, hb⟩
  have HB2 := Lib.hid (HB1.out.trans (hb.mono HB1.out.size))
  clear hb
  go_wp2
  go_ret
  exact ⟨rfl, HB2.out⟩

set_option maxHeartbeats 4000000 in
set_option maxRecDepth 100000 in
theorem undoes_no0 (a b : ByteArray) (ha : a.size ≤ 120) (hb : b.size ≤ 120)  (hva : vld a.data.toList = false) (w : World) (htab : Tb w) :
    Calls Tryd.prog 5 #[.string a, .string b] w fun e w' => e = .returned (.bool true) ∧ Below w.heap.size w w' := by
  have HT := Lib.hid htab
  clear htab
  have Hla := Lib.hid ha
  have Hma := Lib.hid (show a.size ≤ maxLen by unfold maxLen; omega)
  have Hlb := Lib.hid hb
  have Hmb := Lib.hid (show b.size ≤ maxLen by unfold maxLen; omega)
  clear ha hb
  have HVa := Lib.hid hva
  clear hva
  go_enter Tryd.func5, Tryd.ntmps5
  go_wp2_with fail
  refine (awake_any _ HT.out).mono ?_
  rintro e w1 ⟨rfl, hb1⟩
  have HB1 := Lib.hid (hb1.alloc hb1.size (.cells #[.string a, .string b] 9))
  have hc := strs_cells2 w1 a b
  have HLo := Lib.hid (nlong2_no w1.heap.size a b _ Hla.out Hlb.out hc)
  clear hb1 hc
  go_wp2_with fail
  refine HLo.out.mono ?_
  rintro e w' ⟨rfl, rfl⟩
  go_wp2_with fail
  refine (Valid_no a HVa.out Hma.out _).mono ?_
  rintro e w' ⟨rfl, rfl⟩
  go_wp2
  go_ret
  exact ⟨rfl, HB1.out⟩

set_option maxHeartbeats 4000000 in
set_option maxRecDepth 100000 in
theorem undoes_no1 (a b : ByteArray) (ha : a.size ≤ 120) (hb : b.size ≤ 120) (hva : vld a.data.toList = true) (hvb : vld b.data.toList = false) (w : World) (htab : Tb w) :
    Calls Tryd.prog 5 #[.string a, .string b] w fun e w' => e = .returned (.bool true) ∧ Below w.heap.size w w' := by
  have HT := Lib.hid htab
  clear htab
  have Hla := Lib.hid ha
  have Hma := Lib.hid (show a.size ≤ maxLen by unfold maxLen; omega)
  have Hlb := Lib.hid hb
  have Hmb := Lib.hid (show b.size ≤ maxLen by unfold maxLen; omega)
  clear ha hb
  have HVa := Lib.hid hva
  clear hva
  have HVb := Lib.hid hvb
  clear hvb
  go_enter Tryd.func5, Tryd.ntmps5
  go_wp2_with fail
  refine (awake_any _ HT.out).mono ?_
  rintro e w1 ⟨rfl, hb1⟩
  have HB1 := Lib.hid (hb1.alloc hb1.size (.cells #[.string a, .string b] 9))
  have hc := strs_cells2 w1 a b
  have HLo := Lib.hid (nlong2_no w1.heap.size a b _ Hla.out Hlb.out hc)
  clear hb1 hc
  go_wp2_with fail
  refine HLo.out.mono ?_
  rintro e w' ⟨rfl, rfl⟩
  go_wp2_with fail
  refine (Valid_yes a HVa.out Hma.out _).mono ?_
  rintro e w' ⟨rfl, rfl⟩
  go_wp2_with fail
  refine (Valid_no b HVb.out Hmb.out _).mono ?_
  rintro e w' ⟨rfl, rfl⟩
  go_wp2
  go_ret
  exact ⟨rfl, HB1.out⟩

set_option maxHeartbeats 8000000 in
set_option maxRecDepth 100000 in
theorem ring_yes (x y z : Nat) (hx : Sm 120 x) (hy : Sm 120 y) (hz : Sm 120 z) (sa : (Sn x).size ≤ 120) (sb : (Sn y).size ≤ 120) (sc : (Sn z).size ≤ 120) (w : World) (htab : Tb w) :
    Calls Tryd.prog 4 #[.string (Sn x), .string (Sn y), .string (Sn z)] w fun e w' => e = .returned (.bool true) ∧ Below w.heap.size w w' := by
  have HT := Lib.hid htab
  clear htab
  have FX := Lib.hid (hx.fit (by decide))
  have FY := Lib.hid (hy.fit (by decide))
  have FZ := Lib.hid (hz.fit (by decide))
  obtain ⟨sab, hsab⟩ : ∃ s, s = x + y := ⟨_, rfl⟩
  obtain ⟨sbc, hsbc⟩ : ∃ s, s = y + z := ⟨_, rfl⟩
  obtain ⟨sabc, hsabc⟩ : ∃ s, s = x + y + z := ⟨_, rfl⟩
  obtain ⟨pab, hpab⟩ : ∃ s, s = x * y := ⟨_, rfl⟩
  obtain ⟨pbc, hpbc⟩ : ∃ s, s = y * z := ⟨_, rfl⟩
  obtain ⟨pac, hpac⟩ : ∃ s, s = x * z := ⟨_, rfl⟩
  obtain ⟨pabc, hpabc⟩ : ∃ s, s = x * y * z := ⟨_, rfl⟩
  obtain ⟨m, hm⟩ : ∃ s, s = x * (y + z) := ⟨_, rfl⟩
  have FSab := Lib.hid (show Fit sab by rw [hsab]; exact (hx.add hy).fit (by decide))
  have FSbc := Lib.hid (show Fit sbc by rw [hsbc]; exact (hy.add hz).fit (by decide))
  have FPab := Lib.hid (show Fit pab by rw [hpab]; exact (hx.mul hy).fit (by decide))
  have FPbc := Lib.hid (show Fit pbc by rw [hpbc]; exact (hy.mul hz).fit (by decide))
  have FPac := Lib.hid (show Fit pac by rw [hpac]; exact (hx.mul hz).fit (by decide))
  have E1 := Lib.hid hsab.symm
  have E2 := Lib.hid (show y + x = sab by rw [hsab, Nat.add_comm])
  have E3 := Lib.hid (show sab + z = sabc by rw [hsab, hsabc])
  have E4 := Lib.hid hsbc.symm
  have E5 := Lib.hid (show x + sbc = sabc by rw [hsbc, hsabc, Nat.add_assoc])
  have E6 := Lib.hid hpab.symm
  have E7 := Lib.hid (show y * x = pab by rw [hpab, Nat.mul_comm])
  have E8 := Lib.hid (show pab * z = pabc by rw [hpab, hpabc])
  have E9 := Lib.hid hpbc.symm
  have E10 := Lib.hid (show x * pbc = pabc by rw [hpbc, hpabc, Nat.mul_assoc])
  have E11 := Lib.hid (show x * sbc = m by rw [hsbc, hm])
  have E12 := Lib.hid hpac.symm
  have E13 := Lib.hid (show pab + pac = m by rw [hpab, hpac, hm, Nat.mul_add])
  have SA := Lib.hid sa
  have SB := Lib.hid sb
  have SC := Lib.hid sc
  clear hx hy hz hsab hsbc hsabc hpab hpbc hpac hpabc hm sa sb sc
  have Hla := SA
  have Hlb := SB
  have Hlc := SC
  go_enter Tryd.func4, Tryd.ntmps4
  go_wp2_with fail
  refine (awake_any _ HT.out).mono ?_
  rintro e w1 ⟨rfl, hb1⟩
  have HB1 := Lib.hid (hb1.alloc hb1.size (.cells #[.string (Sn x), .string (Sn y), .string (Sn z)] 9))
  have hc := strs_cells3 w1 (Sn x) (Sn y) (Sn z)
  have HLo := Lib.hid (nlong3_no w1.heap.size (Sn x) (Sn y) (Sn z) _ SA.out SB.out SC.out hc)
  clear hb1 hc
  go_wp2_with fail
  refine HLo.out.mono ?_
  rintro e w' ⟨rfl, rfl⟩
  go_wp2_with fail
  refine (nValid x FX.out _).mono ?_
  rintro e w' ⟨rfl, rfl⟩
  go_wp2_with fail
  refine (nValid y FY.out _).mono ?_
  rintro e w' ⟨rfl, rfl⟩
  go_wp2_with fail
  refine (nValid z FZ.out _).mono ?_
  rintro e w' ⟨rfl, rfl⟩
  go_wp2_with fail
  refine (ringAdd x y sab E1.out FX.out FY.out _ (HT.out.on HB1.out)).mono ?_
  rintro e w2 ⟨rfl, hb⟩
  have HB2 := Lib.hid (HB1.out.trans (hb.mono HB1.out.size))
  clear hb
  go_wp2_with fail
  refine (ringAdd y x sab E2.out FY.out FX.out _ (HT.out.on HB2.out)).mono ?_
  rintro e w3 ⟨rfl, hb⟩
  have HB3 := Lib.hid (HB2.out.trans (hb.mono HB2.out.size))
  clear hb
  go_wp2_with fail
  refine (ringAdd x y sab E1.out FX.out FY.out _ (HT.out.on HB3.out)).mono ?_
  rintro e w4 ⟨rfl, hb⟩
  have HB4 := Lib.hid (HB3.out.trans (hb.mono HB3.out.size))
  clear hb
  go_wp2_with fail
  refine (ringAdd sab z sabc E3.out FSab.out FZ.out _ (HT.out.on HB4.out)).mono ?_
  rintro e w5 ⟨rfl, hb⟩
  have HB5 := Lib.hid (HB4.out.trans (hb.mono HB4.out.size))
  clear hb
  go_wp2_with fail
  refine (ringAdd y z sbc E4.out FY.out FZ.out _ (HT.out.on HB5.out)).mono ?_
  rintro e w6 ⟨rfl, hb⟩
  have HB6 := Lib.hid (HB5.out.trans (hb.mono HB5.out.size))
  clear hb
  go_wp2_with fail
  refine (ringAdd x sbc sabc E5.out FX.out FSbc.out _ (HT.out.on HB6.out)).mono ?_
  rintro e w7 ⟨rfl, hb⟩
  have HB7 := Lib.hid (HB6.out.trans (hb.mono HB6.out.size))
  clear hb
  go_wp2_with fail
  refine (ringMul x y pab E6.out FX.out FY.out _ (HT.out.on HB7.out)).mono ?_
  rintro e w8 ⟨rfl, hb⟩
  have HB8 := Lib.hid (HB7.out.trans (hb.mono HB7.out.size))
  clear hb
  go_wp2_with fail
  refine (ringMul y x pab E7.out FY.out FX.out _ (HT.out.on HB8.out)).mono ?_
  rintro e w9 ⟨rfl, hb⟩
  have HB9 := Lib.hid (HB8.out.trans (hb.mono HB8.out.size))
  clear hb
  go_wp2_with fail
  refine (ringMul x y pab E6.out FX.out FY.out _ (HT.out.on HB9.out)).mono ?_
  rintro e w10 ⟨rfl, hb⟩
  have HB10 := Lib.hid (HB9.out.trans (hb.mono HB9.out.size))
  clear hb
  go_wp2_with fail
  refine (ringMul pab z pabc E8.out FPab.out FZ.out _ (HT.out.on HB10.out)).mono ?_
  rintro e w11 ⟨rfl, hb⟩
  have HB11 := Lib.hid (HB10.out.trans (hb.mono HB10.out.size))
  clear hb
  go_wp2_with fail
  refine (ringMul y z pbc E9.out FY.out FZ.out _ (HT.out.on HB11.out)).mono ?_
  rintro e w12 ⟨rfl, hb⟩
  have HB12 := Lib.hid (HB11.out.trans (hb.mono HB11.out.size))
  clear hb
  go_wp2_with fail
  refine (ringMul x pbc pabc E10.out FX.out FPbc.out _ (HT.out.on HB12.out)).mono ?_
  rintro e w13 ⟨rfl, hb⟩
  have HB13 := Lib.hid (HB12.out.trans (hb.mono HB12.out.size))
  clear hb
  go_wp2_with fail
  refine (ringAdd y z sbc E4.out FY.out FZ.out _ (HT.out.on HB13.out)).mono ?_
  rintro e w14 ⟨rfl, hb⟩
  have HB14 := Lib.hid (HB13.out.trans (hb.mono HB13.out.size))
  clear hb
  go_wp2_with fail
  refine (ringMul x sbc m E11.out FX.out FSbc.out _ (HT.out.on HB14.out)).mono ?_
  rintro e w15 ⟨rfl, hb⟩
  have HB15 := Lib.hid (HB14.out.trans (hb.mono HB14.out.size))
  clear hb
  go_wp2_with fail
  refine (ringMul x y pab E6.out FX.out FY.out _ (HT.out.on HB15.out)).mono ?_
  rintro e w16 ⟨rfl, hb⟩
  have HB16 := Lib.hid (HB15.out.trans (hb.mono HB15.out.size))
  clear hb
  go_wp2_with fail
  refine (ringMul x z pac E12.out FX.out FZ.out _ (HT.out.on HB16.out)).mono ?_
  rintro e w17 ⟨rfl, hb⟩
  have HB17 := Lib.hid (HB16.out.trans (hb.mono HB16.out.size))
  clear hb
  go_wp2_with fail
  refine (ringAdd pab pac m E13.out FPab.out FPac.out _ (HT.out.on HB17.out)).mono ?_
  rintro e w18 ⟨rfl, hb⟩
  have HB18 := Lib.hid (HB17.out.trans (hb.mono HB17.out.size))
  clear hb
  go_wp2_with fail
  refine (ringMul1 x FX.out _ (HT.out.on HB18.out)).mono ?_
  rintro e w19 ⟨rfl, hb⟩
  have HB19 := Lib.hid (HB18.out.trans (hb.mono HB18.out.size))
  clear hb
  go_wp2_with fail
  refine (ringMul0 x FX.out _ (HT.out.on HB19.out)).mono ?_
  rintro e w20 ⟨rfl, hb⟩
  have HB20 := Lib.hid (HB19.out.trans (hb.mono HB19.out.size))
  clear hb
  go_wp2_with fail
  refine (ringAdd0 x FX.out _ (HT.out.on HB20.out)).mono ?_
  rintro e w21 ⟨rfl, hb⟩
  have HB21 := Lib.hid (HB20.out.trans (hb.mono HB20.out.size))
  clear hb
  go_wp2_with fail
  refine (ringMul x y pab E6.out FX.out FY.out _ (HT.out.on HB21.out)).mono ?_
  rintro e w22 ⟨rfl, hb⟩
  have HB22 := Lib.hid (HB21.out.trans (hb.mono HB21.out.size))
  clear hb
  go_wp2_with fail
  refine (nValid pab FPab.out _).mono ?_
  rintro e w' ⟨rfl, rfl⟩
  go_wp2
  go_ret
  exact ⟨rfl, HB22.out⟩

theorem ring_any (a b c : ByteArray) (w : World) (htab : Tb w) :
    Calls Tryd.prog 4 #[.string a, .string b, .string c] w fun e w' => e = .returned (.bool true) ∧ Below w.heap.size w w' := by
  by_cases hl : 120 < a.size ∨ 120 < b.size ∨ 120 < c.size
  · exact ring_long a b c hl w htab
  · have ha : a.size ≤ 120 := by omega
    have hb : b.size ≤ 120 := by omega
    have hc : c.size ≤ 120 := by omega
    cases va : vld a.data.toList with
    | false => exact ring_no0 a b c ha hb hc va w htab
    | true =>
      cases vb : vld b.data.toList with
      | false => exact ring_no1 a b c ha hb hc va vb w htab
      | true =>
        cases vc : vld c.data.toList with
        | false => exact ring_no2 a b c ha hb hc va vb vc w htab
        | true =>
          have h := ring_yes _ _ _ (Sm.of va ha) (Sm.of vb hb) (Sm.of vc hc) (by rw [← sn_of va]; exact ha) (by rw [← sn_of vb]; exact hb) (by rw [← sn_of vc]; exact hc) w htab
          rw [← sn_of va, ← sn_of vb, ← sn_of vc] at h
          exact h

end Go.Proofs.YtpdchplppkfdhaaDoor
