/- garboardlaw01.NaturalCommon returns true: walks. -/
import Derived.Test.YtpdchplppkfdhaaDoorLnu
import Derived.Test.YtpdchplppkfdhaaDoorEj
namespace Go.Proofs.YtpdchplppkfdhaaDoor
open Go.RowKit Go.Gb

theorem nGCDV (x y g : Nat) (hg : Nat.gcd x y = g) (hx : Fit x) (hy : Fit y) (w : World) (htab : Tb w) :
    Calls Tryd.prog 20 #[.string (Sn x), .string (Sn y)] w fun e w' => e = .returned (.tuple #[.string (Sn g), .int .i64 0]) ∧ Below w.heap.size w w' := by
  have sx := hx.size
  have sy := hy.size
  have h := GCD_yes (Sn x) (Sn y) (sn_vld x) (sn_vld y) (by omega) (by omega) (by
    rw [sn_dval, sn_dval]
    exact Common_any x y (Nat.le_trans (sm_digs hx (by decide)) (by decide)) (Nat.le_trans (sm_digs hy (by decide)) (by decide))) w htab
  rw [sn_dval, sn_dval, hg] at h
  exact h

set_option maxHeartbeats 4000000 in
set_option maxRecDepth 100000 in
theorem common_long (a b c : ByteArray) (hab : 120 < a.size ∨ 120 < b.size ∨ 120 < c.size) (w : World) (htab : Tb w) :
    Calls Tryd.prog 6 #[.string a, .string b, .string c] w fun e w' => e = .returned (.bool true) ∧ Below w.heap.size w w' := by
  have HT := Lib.hid htab
  clear htab
  have HL := Lib.hid hab
  clear hab
  go_enter Tryd.func6, Tryd.ntmps6
  go_wp2_with fail
  refine (awake_any _ HT.out).mono ?_
  rintro e w1 ⟨rfl, hb1⟩
  have HB1 := Lib.hid (hb1.alloc hb1.size (.cells #[.string a, .string b, .string c] 9))
  have hc := strs_cells3 w1 a b c
  have HLo := Lib.hid (nlong3_yes w1.heap.size a b c _ HL.out hc)
  clear hb1 hc
  go_wp2_with fail
  refine HLo.out.mono ?_
  rintro e w' ⟨rfl, rfl⟩
  go_wp2_with fail
  refine (awake_any _ (HT.out.on HB1.out)).mono ?_
  rintro e w2 ⟨rfl, hb⟩
  have HB2 := Lib.hid (HB1.out.trans (hb.mono HB1.out.size))
  clear hb
  go_wp2
  go_ret
  exact ⟨rfl, HB2.out⟩

set_option maxHeartbeats 4000000 in
set_option maxRecDepth 100000 in
theorem common_no0 (a b c : ByteArray) (ha : a.size ≤ 120) (hb : b.size ≤ 120) (hc : c.size ≤ 120)  (hva : vld a.data.toList = false) (w : World) (htab : Tb w) :
    Calls Tryd.prog 6 #[.string a, .string b, .string c] w fun e w' => e = .returned (.bool true) ∧ Below w.heap.size w w' := by
  have HT := Lib.hid htab
  clear htab
  have Hla := Lib.hid ha
  have Hma := Lib.hid (show a.size ≤ maxLen by unfold maxLen; omega)
  have Hlb := Lib.hid hb
  have Hmb := Lib.hid (show b.size ≤ maxLen by unfold maxLen; omega)
  have Hlc := Lib.hid hc
  have Hmc := Lib.hid (show c.size ≤ maxLen by unfold maxLen; omega)
  clear ha hb hc
  have HVa := Lib.hid hva
  clear hva
  go_enter Tryd.func6, Tryd.ntmps6
  go_wp2_with fail
  refine (awake_any _ HT.out).mono ?_
  rintro e w1 ⟨rfl, hb1⟩
  have HB1 := Lib.hid (hb1.alloc hb1.size (.cells #[.string a, .string b, .string c] 9))
  have hc := strs_cells3 w1 a b c
  have HLo := Lib.hid (nlong3_no w1.heap.size a b c _ Hla.out Hlb.out Hlc.out hc)
  clear hb1 hc
  go_wp2_with fail
  refine HLo.out.mono ?_
  rintro e w' ⟨rfl, rfl⟩
  go_wp2_with fail
  refine (Valid_no a HVa.out Hma.out _).mono ?_
  rintro e w' ⟨rfl, rfl⟩
  go_wp2
  go_ret
  exact ⟨rfl, HB1.out⟩

set_option maxHeartbeats 4000000 in
set_option maxRecDepth 100000 in
theorem common_no1 (a b c : ByteArray) (ha : a.size ≤ 120) (hb : b.size ≤ 120) (hc : c.size ≤ 120) (hva : vld a.data.toList = true) (hvb : vld b.data.toList = false) (w : World) (htab : Tb w) :
    Calls Tryd.prog 6 #[.string a, .string b, .string c] w fun e w' => e = .returned (.bool true) ∧ Below w.heap.size w w' := by
  have HT := Lib.hid htab
  clear htab
  have Hla := Lib.hid ha
  have Hma := Lib.hid (show a.size ≤ maxLen by unfold maxLen; omega)
  have Hlb := Lib.hid hb
  have Hmb := Lib.hid (show b.size ≤ maxLen by unfold maxLen; omega)
  have Hlc := Lib.hid hc
  have Hmc := Lib.hid (show c.size ≤ maxLen by unfold maxLen; omega)
  clear ha hb hc
  have HVa := Lib.hid hva
  clear hva
  have HVb := Lib.hid hvb
  clear hvb
  go_enter Tryd.func6, Tryd.ntmps6
  go_wp2_with fail
  refine (awake_any _ HT.out).mono ?_
  rintro e w1 ⟨rfl, hb1⟩
  have HB1 := Lib.hid (hb1.alloc hb1.size (.cells #[.string a, .string b, .string c] 9))
  have hc := strs_cells3 w1 a b c
  have HLo := Lib.hid (nlong3_no w1.heap.size a b c _ Hla.out Hlb.out Hlc.out hc)
  clear hb1 hc
  go_wp2_with fail
  refine HLo.out.mono ?_
  rintro e w' ⟨rfl, rfl⟩
  go_wp2_with fail
  refine (Valid_yes a HVa.out Hma.out _).mono ?_
  rintro e w' ⟨rfl, rfl⟩
  go_wp2_with fail
  refine (Valid_no b HVb.out Hmb.out _).mono ?_
  rintro e w' ⟨rfl, rfl⟩
  go_wp2
  go_ret
  exact ⟨rfl, HB1.out⟩

set_option maxHeartbeats 4000000 in
set_option maxRecDepth 100000 in
theorem common_no2 (a b c : ByteArray) (ha : a.size ≤ 120) (hb : b.size ≤ 120) (hc : c.size ≤ 120) (hva : vld a.data.toList = true) (hvb : vld b.data.toList = true) (hvc : vld c.data.toList = false) (w : World) (htab : Tb w) :
    Calls Tryd.prog 6 #[.string a, .string b, .string c] w fun e w' => e = .returned (.bool true) ∧ Below w.heap.size w w' := by
  have HT := Lib.hid htab
  clear htab
  have Hla := Lib.hid ha
  have Hma := Lib.hid (show a.size ≤ maxLen by unfold maxLen; omega)
  have Hlb := Lib.hid hb
  have Hmb := Lib.hid (show b.size ≤ maxLen by unfold maxLen; omega)
  have Hlc := Lib.hid hc
  have Hmc := Lib.hid (show c.size ≤ maxLen by unfold maxLen; omega)
  clear ha hb hc
  have HVa := Lib.hid hva
  clear hva
  have HVb := Lib.hid hvb
  clear hvb
  have HVc := Lib.hid hvc
  clear hvc
  go_enter Tryd.func6, Tryd.ntmps6
  go_wp2_with fail
  refine (awake_any _ HT.out).mono ?_
  rintro e w1 ⟨rfl, hb1⟩
  have HB1 := Lib.hid (hb1.alloc hb1.size (.cells #[.string a, .string b, .string c] 9))
  have hc := strs_cells3 w1 a b c
  have HLo := Lib.hid (nlong3_no w1.heap.size a b c _ Hla.out Hlb.out Hlc.out hc)
  clear hb1 hc
  go_wp2_with fail
  refine HLo.out.mono ?_
  rintro e w' ⟨rfl, rfl⟩
  go_wp2_with fail
  refine (Valid_yes a HVa.out Hma.out _).mono ?_
  rintro e w' ⟨rfl, rfl⟩
  go_wp2_with fail
  refine (Valid_yes b HVb.out Hmb.out _).mono ?_
  rintro e w' ⟨rfl, rfl⟩
  go_wp2_with fail
  refine (Valid_no c HVc.out Hmc.out _).mono ?_
  rintro e w' ⟨rfl, rfl⟩
  go_wp2
  go_ret
  exact ⟨rfl, HB1.out⟩

set_option maxHeartbeats 4000000 in
set_option maxRecDepth 100000 in
theorem common_00 (z : Nat) (hz : Sm 120 z) (sz : (Sn z).size ≤ 120) (w : World) (htab : Tb w) :
    Calls Tryd.prog 6 #[.string ⟨#[48]⟩, .string ⟨#[48]⟩, .string (Sn z)] w fun e w' => e = .returned (.bool true) ∧ Below w.heap.size w w' := by
  have HT := Lib.hid htab
  clear htab
  have Fz := Lib.hid (hz.fit (by decide))
  have Sz := Lib.hid sz
  have F0 := Lib.hid ((show Sm 1 0 by simp [Sm]).fit (by decide))
  have F1 := Lib.hid ((show Sm 1 1 by simp [Sm]).fit (by decide))
  have S0 := Lib.hid (show (⟨#[48]⟩ : ByteArray).size ≤ 120 by decide)
  have G1 := Lib.hid (Nat.gcd_zero_left 0)
  have G1c := Lib.hid (fun (W : World) (T : Tb W) => nGCDV 0 0 0 G1.out F0.out F0.out W T)
  have V1 := Lib.hid (fun (W : World) => nValid 0 F0.out W)
  have V2 := Lib.hid (fun (W : World) => nValid 0 F0.out W)
  have V3 := Lib.hid (fun (W : World) => nValid z Fz.out W)
  rw [sn_zero] at G1c V1 V2
  clear hz sz
  go_enter Tryd.func6, Tryd.ntmps6
  go_wp2_with fail
  refine (awake_any _ HT.out).mono ?_
  rintro e w1 ⟨rfl, hb1⟩
  have HB1 := Lib.hid (hb1.alloc hb1.size (.cells #[.string ⟨#[48]⟩, .string ⟨#[48]⟩, .string (Sn z)] 9))
  have hc := strs_cells3 w1 ⟨#[48]⟩ ⟨#[48]⟩ (Sn z)
  have HLo := Lib.hid (nlong3_no w1.heap.size ⟨#[48]⟩ ⟨#[48]⟩ (Sn z) _ S0.out S0.out Sz.out hc)
  clear hb1 hc
  go_wp2_with fail
  refine HLo.out.mono ?_
  rintro e w' ⟨rfl, rfl⟩
  go_wp2_with fail
  refine (V1.out _).mono ?_
  rintro e w' ⟨rfl, rfl⟩
  go_wp2_with fail
  refine (V2.out _).mono ?_
  rintro e w' ⟨rfl, rfl⟩
  go_wp2_with fail
  refine (V3.out _).mono ?_
  rintro e w' ⟨rfl, rfl⟩
  go_wp2_with fail
  refine (G1c.out _ (HT.out.on HB1.out)).mono ?_
  rintro e w2 ⟨rfl, hb⟩
  have HB2 := Lib.hid (HB1.out.trans (hb.mono HB1.out.size))
  clear hb
  go_wp2_with fail
  refine (G1c.out _ (HT.out.on HB2.out)).mono ?_
  rintro e w3 ⟨rfl, hb⟩
  have HB3 := Lib.hid (HB2.out.trans (hb.mono HB2.out.size))
  clear hb
  go_wp2
  go_ret
  exact ⟨rfl, HB3.out⟩

set_option maxHeartbeats 4000000 in
set_option maxRecDepth 100000 in
theorem common_0 (y z : Nat) (hy : Sm 120 y) (sy : (Sn y).size ≤ 120) (hz : Sm 120 z) (sz : (Sn z).size ≤ 120) (hy0 : y ≠ 0) (w : World) (htab : Tb w) :
    Calls Tryd.prog 6 #[.string ⟨#[48]⟩, .string (Sn y), .string (Sn z)] w fun e w' => e = .returned (.bool true) ∧ Below w.heap.size w w' := by
  have HT := Lib.hid htab
  clear htab
  have Fy := Lib.hid (hy.fit (by decide))
  have Sy := Lib.hid sy
  have Fz := Lib.hid (hz.fit (by decide))
  have Sz := Lib.hid sz
  have F0 := Lib.hid ((show Sm 1 0 by simp [Sm]).fit (by decide))
  have F1 := Lib.hid ((show Sm 1 1 by simp [Sm]).fit (by decide))
  have S0 := Lib.hid (show (⟨#[48]⟩ : ByteArray).size ≤ 120 by decide)
  obtain ⟨p, hp⟩ : ∃ p, p = y * z := ⟨_, rfl⟩
  have FP := Lib.hid (show Fit p by rw [hp]; exact (hy.mul hz).fit (by decide))
  have EP := Lib.hid hp.symm
  have EZ := Lib.hid (Nat.zero_mul z)
  have D1 := Lib.hid (Nat.zero_div y)
  have D2 := Lib.hid (Nat.zero_mod y)
  have D3 := Lib.hid (Nat.div_self (Nat.pos_of_ne_zero hy0))
  have D4 := Lib.hid (Nat.mod_self y)
  have G1 := Lib.hid (Nat.gcd_zero_left y)
  have G2 := Lib.hid (Nat.gcd_zero_right y)
  have G3 := Lib.hid (Nat.gcd_zero_left 1)
  have G4 := Lib.hid (Nat.gcd_zero_left p)
  have H0 := Lib.hid hy0
  have hn0 := sn_neq0 hy0
  clear hp hy0
  have G1c := Lib.hid (fun (W : World) (T : Tb W) => nGCDV 0 y y G1.out F0.out Fy.out W T)
  have G2c := Lib.hid (fun (W : World) (T : Tb W) => nGCDV y 0 y G2.out Fy.out F0.out W T)
  have D1c := Lib.hid (fun (W : World) (T : Tb W) => nDivV 0 y 0 0 D1.out D2.out F0.out Fy.out H0.out W T)
  have D2c := Lib.hid (fun (W : World) (T : Tb W) => nDivV y y 1 0 D3.out D4.out Fy.out Fy.out H0.out W T)
  have G3c := Lib.hid (fun (W : World) (T : Tb W) => nGCDV 0 1 1 G3.out F0.out F1.out W T)
  have M1c := Lib.hid (fun (W : World) (T : Tb W) => nMulV 0 z 0 EZ.out F0.out Fz.out W T)
  have M2c := Lib.hid (fun (W : World) (T : Tb W) => nMulV y z p EP.out Fy.out Fz.out W T)
  have M3c := Lib.hid (fun (W : World) (T : Tb W) => nMulV y z p EP.out Fy.out Fz.out W T)
  have G4c := Lib.hid (fun (W : World) (T : Tb W) => nGCDV 0 p p G4.out F0.out FP.out W T)
  have V1 := Lib.hid (fun (W : World) => nValid 0 F0.out W)
  have V2 := Lib.hid (fun (W : World) => nValid y Fy.out W)
  have V3 := Lib.hid (fun (W : World) => nValid z Fz.out W)
  rw [sn_zero] at G1c G2c D1c D2c G3c M1c G4c V1
  rw [sn_one] at D2c G3c
  clear hy sy hz sz
  go_enter Tryd.func6, Tryd.ntmps6
  go_wp2_with fail
  refine (awake_any _ HT.out).mono ?_
  rintro e w1 ⟨rfl, hb1⟩
  have HB1 := Lib.hid (hb1.alloc hb1.size (.cells #[.string ⟨#[48]⟩, .string (Sn y), .string (Sn z)] 9))
  have hc := strs_cells3 w1 ⟨#[48]⟩ (Sn y) (Sn z)
  have HLo := Lib.hid (nlong3_no w1.heap.size ⟨#[48]⟩ (Sn y) (Sn z) _ S0.out Sy.out Sz.out hc)
  clear hb1 hc
  go_wp2_with fail
  refine HLo.out.mono ?_
  rintro e w' ⟨rfl, rfl⟩
  go_wp2_with fail
  refine (V1.out _).mono ?_
  rintro e w' ⟨rfl, rfl⟩
  go_wp2_with fail
  refine (V2.out _).mono ?_
  rintro e w' ⟨rfl, rfl⟩
  go_wp2_with fail
  refine (V3.out _).mono ?_
  rintro e w' ⟨rfl, rfl⟩
  go_wp2_with fail
  refine (G1c.out _ (HT.out.on HB1.out)).mono ?_
  rintro e w2 ⟨rfl, hb⟩
  have HB2 := Lib.hid (HB1.out.trans (hb.mono HB1.out.size))
  clear hb
  go_wp2_with fail
  refine (G2c.out _ (HT.out.on HB2.out)).mono ?_
  rintro e w3 ⟨rfl, hb⟩
  have HB3 := Lib.hid (HB2.out.trans (hb.mono HB2.out.size))
  clear hb
  go_wp2_with fail
  refine (D1c.out _ (HT.out.on HB3.out)).mono ?_
  rintro e w4 ⟨rfl, hb⟩
  have HB4 := Lib.hid (HB3.out.trans (hb.mono HB3.out.size))
  clear hb
  go_wp2_with fail
  refine (D2c.out _ (HT.out.on HB4.out)).mono ?_
  rintro e w5 ⟨rfl, hb⟩
  have HB5 := Lib.hid (HB4.out.trans (hb.mono HB4.out.size))
  clear hb
  go_wp2_with fail
  refine (G3c.out _ (HT.out.on HB5.out)).mono ?_
  rintro e w6 ⟨rfl, hb⟩
  have HB6 := Lib.hid (HB5.out.trans (hb.mono HB5.out.size))
  clear hb
  go_wp2_with fail
  refine (M1c.out _ (HT.out.on HB6.out)).mono ?_
  rintro e w7 ⟨rfl, hb⟩
  have HB7 := Lib.hid (HB6.out.trans (hb.mono HB6.out.size))
  clear hb
  go_wp2_with fail
  refine (M2c.out _ (HT.out.on HB7.out)).mono ?_
  rintro e w8 ⟨rfl, hb⟩
  have HB8 := Lib.hid (HB7.out.trans (hb.mono HB7.out.size))
  clear hb
  go_wp2_with fail
  refine (M3c.out _ (HT.out.on HB8.out)).mono ?_
  rintro e w9 ⟨rfl, hb⟩
  have HB9 := Lib.hid (HB8.out.trans (hb.mono HB8.out.size))
  clear hb
  go_wp2_with fail
  refine (G4c.out _ (HT.out.on HB9.out)).mono ?_
  rintro e w10 ⟨rfl, hb⟩
  have HB10 := Lib.hid (HB9.out.trans (hb.mono HB9.out.size))
  clear hb
  go_wp2
  go_ret
  exact ⟨rfl, HB10.out⟩

set_option maxHeartbeats 4000000 in
set_option maxRecDepth 100000 in
theorem common_x (x y z : Nat) (hx : Sm 120 x) (sx : (Sn x).size ≤ 120) (hy : Sm 120 y) (sy : (Sn y).size ≤ 120) (hz : Sm 120 z) (sz : (Sn z).size ≤ 120) (hx0 : x ≠ 0) (w : World) (htab : Tb w) :
    Calls Tryd.prog 6 #[.string (Sn x), .string (Sn y), .string (Sn z)] w fun e w' => e = .returned (.bool true) ∧ Below w.heap.size w w' := by
  have HT := Lib.hid htab
  clear htab
  have Fx := Lib.hid (hx.fit (by decide))
  have Sx := Lib.hid sx
  have Fy := Lib.hid (hy.fit (by decide))
  have Sy := Lib.hid sy
  have Fz := Lib.hid (hz.fit (by decide))
  have Sz := Lib.hid sz
  have F0 := Lib.hid ((show Sm 1 0 by simp [Sm]).fit (by decide))
  have F1 := Lib.hid ((show Sm 1 1 by simp [Sm]).fit (by decide))
  have S0 := Lib.hid (show (⟨#[48]⟩ : ByteArray).size ≤ 120 by decide)
  obtain ⟨g, hg⟩ : ∃ g, g = Nat.gcd x y := ⟨_, rfl⟩
  have g0 : 0 < g := by rw [hg]; exact Nat.gcd_pos_of_pos_left _ (Nat.pos_of_ne_zero hx0)
  have dx : g ∣ x := by rw [hg]; exact Nat.gcd_dvd_left x y
  have dy : g ∣ y := by rw [hg]; exact Nat.gcd_dvd_right x y
  have gx : g ≤ x := Nat.le_of_dvd (Nat.pos_of_ne_zero hx0) dx
  have hgz : Sm 120 g := hx.le gx
  obtain ⟨u, hu⟩ : ∃ u, u = x / g := ⟨_, rfl⟩
  obtain ⟨v, hv⟩ : ∃ v, v = y / g := ⟨_, rfl⟩
  obtain ⟨p, hp⟩ : ∃ p, p = x * z := ⟨_, rfl⟩
  obtain ⟨q, hq⟩ : ∃ q, q = y * z := ⟨_, rfl⟩
  obtain ⟨t, ht⟩ : ∃ t, t = g * z := ⟨_, rfl⟩
  have FG := Lib.hid (hgz.fit (show 120 ≤ 2000 by decide))
  have FU := Lib.hid (show Fit u from Sm.le (hx.fit (by decide)) (by rw [hu]; exact Nat.div_le_self _ _))
  have FV := Lib.hid (show Fit v from Sm.le (hy.fit (by decide)) (by rw [hv]; exact Nat.div_le_self _ _))
  have FP := Lib.hid (show Fit p by rw [hp]; exact (hx.mul hz).fit (by decide))
  have FQ := Lib.hid (show Fit q by rw [hq]; exact (hy.mul hz).fit (by decide))
  have FT := Lib.hid (show Fit t by rw [ht]; exact (hgz.mul hz).fit (by decide))
  have EP := Lib.hid hp.symm
  have EQ := Lib.hid hq.symm
  have ET := Lib.hid ht.symm
  have EU := Lib.hid hu.symm
  have EV := Lib.hid hv.symm
  have D2 := Lib.hid (Nat.mod_eq_zero_of_dvd dx)
  have D4 := Lib.hid (Nat.mod_eq_zero_of_dvd dy)
  have G1 := Lib.hid hg.symm
  have G2 := Lib.hid (show Nat.gcd y x = g by rw [Nat.gcd_comm, hg])
  have G3 := Lib.hid (show Nat.gcd u v = 1 by rw [hu, hv, Nat.gcd_div dx dy, ← hg]; exact Nat.div_self g0)
  have G4 := Lib.hid (show Nat.gcd p q = t by rw [hp, hq, ht, Nat.gcd_mul_right, ← hg])
  have H0 := Lib.hid (Nat.ne_of_gt g0)
  have hn0 := sn_neq0 (Nat.ne_of_gt g0)
  have hnx := sn_neq0 hx0
  clear hg g0 dx dy gx hgz hu hv hp hq ht hx0
  have G1c := Lib.hid (fun (W : World) (T : Tb W) => nGCDV x y g G1.out Fx.out Fy.out W T)
  have G2c := Lib.hid (fun (W : World) (T : Tb W) => nGCDV y x g G2.out Fy.out Fx.out W T)
  have D1c := Lib.hid (fun (W : World) (T : Tb W) => nDivV x g u 0 EU.out D2.out Fx.out FG.out H0.out W T)
  have D2c := Lib.hid (fun (W : World) (T : Tb W) => nDivV y g v 0 EV.out D4.out Fy.out FG.out H0.out W T)
  have G3c := Lib.hid (fun (W : World) (T : Tb W) => nGCDV u v 1 G3.out FU.out FV.out W T)
  have M1c := Lib.hid (fun (W : World) (T : Tb W) => nMulV x z p EP.out Fx.out Fz.out W T)
  have M2c := Lib.hid (fun (W : World) (T : Tb W) => nMulV y z q EQ.out Fy.out Fz.out W T)
  have M3c := Lib.hid (fun (W : World) (T : Tb W) => nMulV g z t ET.out FG.out Fz.out W T)
  have G4c := Lib.hid (fun (W : World) (T : Tb W) => nGCDV p q t G4.out FP.out FQ.out W T)
  have V1 := Lib.hid (fun (W : World) => nValid x Fx.out W)
  have V2 := Lib.hid (fun (W : World) => nValid y Fy.out W)
  have V3 := Lib.hid (fun (W : World) => nValid z Fz.out W)
  rw [sn_zero] at D1c D2c
  rw [sn_one] at G3c
  clear hx sx hy sy hz sz
  go_enter Tryd.func6, Tryd.ntmps6
  go_wp2_with fail
  refine (awake_any _ HT.out).mono ?_
  rintro e w1 ⟨rfl, hb1⟩
  have HB1 := Lib.hid (hb1.alloc hb1.size (.cells #[.string (Sn x), .string (Sn y), .string (Sn z)] 9))
  have hc := strs_cells3 w1 (Sn x) (Sn y) (Sn z)
  have HLo := Lib.hid (nlong3_no w1.heap.size (Sn x) (Sn y) (Sn z) _ Sx.out Sy.out Sz.out hc)
  clear hb1 hc
  go_wp2_with fail
  refine HLo.out.mono ?_
  rintro e w' ⟨rfl, rfl⟩
  go_wp2_with fail
  refine (V1.out _).mono ?_
  rintro e w' ⟨rfl, rfl⟩
  go_wp2_with fail
  refine (V2.out _).mono ?_
  rintro e w' ⟨rfl, rfl⟩
  go_wp2_with fail
  refine (V3.out _).mono ?_
  rintro e w' ⟨rfl, rfl⟩
  go_wp2_with fail
  refine (G1c.out _ (HT.out.on HB1.out)).mono ?_
  rintro e w2 ⟨rfl, hb⟩
  have HB2 := Lib.hid (HB1.out.trans (hb.mono HB1.out.size))
  clear hb
  go_wp2_with fail
  refine (G2c.out _ (HT.out.on HB2.out)).mono ?_
  rintro e w3 ⟨rfl, hb⟩
  have HB3 := Lib.hid (HB2.out.trans (hb.mono HB2.out.size))
  clear hb
  go_wp2_with fail
  refine (D1c.out _ (HT.out.on HB3.out)).mono ?_
  rintro e w4 ⟨rfl, hb⟩
  have HB4 := Lib.hid (HB3.out.trans (hb.mono HB3.out.size))
  clear hb
  go_wp2_with fail
  refine (D2c.out _ (HT.out.on HB4.out)).mono ?_
  rintro e w5 ⟨rfl, hb⟩
  have HB5 := Lib.hid (HB4.out.trans (hb.mono HB4.out.size))
  clear hb
  go_wp2_with fail
  refine (G3c.out _ (HT.out.on HB5.out)).mono ?_
  rintro e w6 ⟨rfl, hb⟩
  have HB6 := Lib.hid (HB5.out.trans (hb.mono HB5.out.size))
  clear hb
  go_wp2_with fail
  refine (M1c.out _ (HT.out.on HB6.out)).mono ?_
  rintro e w7 ⟨rfl, hb⟩
  have HB7 := Lib.hid (HB6.out.trans (hb.mono HB6.out.size))
  clear hb
  go_wp2_with fail
  refine (M2c.out _ (HT.out.on HB7.out)).mono ?_
  rintro e w8 ⟨rfl, hb⟩
  have HB8 := Lib.hid (HB7.out.trans (hb.mono HB7.out.size))
  clear hb
  go_wp2_with fail
  refine (M3c.out _ (HT.out.on HB8.out)).mono ?_
  rintro e w9 ⟨rfl, hb⟩
  have HB9 := Lib.hid (HB8.out.trans (hb.mono HB8.out.size))
  clear hb
  go_wp2_with fail
  refine (G4c.out _ (HT.out.on HB9.out)).mono ?_
  rintro e w10 ⟨rfl, hb⟩
  have HB10 := Lib.hid (HB9.out.trans (hb.mono HB9.out.size))
  clear hb
  go_wp2
  go_ret
  exact ⟨rfl, HB10.out⟩

theorem common_any (a b c : ByteArray) (w : World) (htab : Tb w) :
    Calls Tryd.prog 6 #[.string a, .string b, .string c] w fun e w' => e = .returned (.bool true) ∧ Below w.heap.size w w' := by
  by_cases hl : 120 < a.size ∨ 120 < b.size ∨ 120 < c.size
  · exact common_long a b c hl w htab
  · have ha : a.size ≤ 120 := by omega
    have hb : b.size ≤ 120 := by omega
    have hc : c.size ≤ 120 := by omega
    cases va : vld a.data.toList with
    | false => exact common_no0 a b c ha hb hc va w htab
    | true =>
      cases vb : vld b.data.toList with
      | false => exact common_no1 a b c ha hb hc va vb w htab
      | true =>
        cases vc : vld c.data.toList with
        | false => exact common_no2 a b c ha hb hc va vb vc w htab
        | true =>
          have hx := Sm.of va ha
          have hy := Sm.of vb hb
          have hz := Sm.of vc hc
          have sx : (Sn (dval a.data.toList)).size ≤ 120 := by rw [← sn_of va]; exact ha
          have sy : (Sn (dval b.data.toList)).size ≤ 120 := by rw [← sn_of vb]; exact hb
          have sz : (Sn (dval c.data.toList)).size ≤ 120 := by rw [← sn_of vc]; exact hc
          rw [sn_of va, sn_of vb, sn_of vc]
          generalize dval a.data.toList = x at *
          generalize dval b.data.toList = y at *
          generalize dval c.data.toList = z at *
          by_cases hx0 : x = 0
          · subst hx0
            rw [sn_zero]
            by_cases hy0 : y = 0
            · subst hy0
              rw [sn_zero]
              exact common_00 z hz sz w htab
            · exact common_0 y z hy sy hz sz hy0 w htab
          · exact common_x x y z hx sx hy sy hz sz hx0 w htab

end Go.Proofs.YtpdchplppkfdhaaDoor
