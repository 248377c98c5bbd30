/- garboardlaw01.NaturalPowers returns true, for any string and int: walks. -/
import Derived.Test.YtgbcjlknlagoeaaGreatDoorRn
namespace Go.Proofs.YtgbcjlknlagoeaaGreatDoor
open Go.RowKit Go.Gb

set_option maxHeartbeats 4000000 in
set_option maxRecDepth 100000 in
theorem powers_long (a : ByteArray) (n : Int) (hab : 120 < a.size) (w : World) (htab : Tb w) :
    Calls Tryz.prog 5 #[.string a, .int .i64 n] w fun e w' => e = .returned (.bool true) ∧ Below w.heap.size w w' := by
  have HT := Lib.hid htab
  clear htab
  have HL := Lib.hid hab
  clear hab
  go_enter Tryz.func5, Tryz.ntmps5
  go_wp2_with fail
  refine (awake_any _ HT.out).mono ?_
  rintro e w1 ⟨rfl, hb1⟩
  have HB1 := Lib.hid (hb1.alloc hb1.size (.cells #[.string a] 9))
  have hc := strs_cells1 w1 a
  have HLo := Lib.hid (nlong1_yes w1.heap.size a _ HL.out hc)
  clear hb1 hc
  go_wp2_with fail
  refine HLo.out.mono ?_
  rintro e w' ⟨rfl, rfl⟩
  go_wp2_with fail
  refine (awake_any _ (HT.out.on HB1.out)).mono ?_
  rintro e w2 ⟨rfl, hb⟩
  have HB2 := Lib.hid (HB1.out.trans (hb.mono HB1.out.size))
  clear hb
  go_wp2
  go_ret
  exact ⟨rfl, HB2.out⟩

set_option maxHeartbeats 4000000 in
set_option maxRecDepth 100000 in
theorem powers_no_big (a : ByteArray) (n : Int) (ha : a.size ≤ 120) (h30 : decide ((30 : Int) < (a.size : Int)) = true) (hv : vld a.data.toList = false) (w : World) (htab : Tb w) :
    Calls Tryz.prog 5 #[.string a, .int .i64 n] w fun e w' => e = .returned (.bool true) ∧ Below w.heap.size w w' := by
  have HT := Lib.hid htab
  clear htab
  have SA := Lib.hid ha
  have Hm := Lib.hid (show a.size ≤ maxLen by unfold maxLen; omega)
  have HV := Lib.hid hv
  clear ha hv
  go_enter Tryz.func5, Tryz.ntmps5
  go_wp2_with fail
  refine (awake_any _ HT.out).mono ?_
  rintro e w1 ⟨rfl, hb1⟩
  have HB1 := Lib.hid (hb1.alloc hb1.size (.cells #[.string a] 9))
  have hc := strs_cells1 w1 a
  have HLo := Lib.hid (nlong1_no w1.heap.size a _ SA.out hc)
  clear hb1 hc
  go_wp2_with fail
  refine HLo.out.mono ?_
  rintro e w' ⟨rfl, rfl⟩
  go_wp2_with fail
  refine (Root_no a HV.out Hm.out _).mono ?_
  rintro e w' ⟨rfl, rfl⟩
  go_wp2_with fail
  refine (RRoot_no a HV.out Hm.out _).mono ?_
  rintro e w' ⟨rfl, rfl⟩
  go_wp2
  go_ret
  exact ⟨rfl, HB1.out⟩

set_option maxHeartbeats 4000000 in
set_option maxRecDepth 100000 in
theorem powers_no_small (a : ByteArray) (n : Int) (ha : a.size ≤ 120) (h30 : decide ((30 : Int) < (a.size : Int)) = false) (hv : vld a.data.toList = false) (w : World) (htab : Tb w) :
    Calls Tryz.prog 5 #[.string a, .int .i64 n] w fun e w' => e = .returned (.bool true) ∧ Below w.heap.size w w' := by
  have HT := Lib.hid htab
  clear htab
  have SA := Lib.hid ha
  have Hm := Lib.hid (show a.size ≤ maxLen by unfold maxLen; omega)
  have HV := Lib.hid hv
  clear ha hv
  go_enter Tryz.func5, Tryz.ntmps5
  go_wp2_with fail
  refine (awake_any _ HT.out).mono ?_
  rintro e w1 ⟨rfl, hb1⟩
  have HB1 := Lib.hid (hb1.alloc hb1.size (.cells #[.string a] 9))
  have hc := strs_cells1 w1 a
  have HLo := Lib.hid (nlong1_no w1.heap.size a _ SA.out hc)
  clear hb1 hc
  go_wp2_with fail
  refine HLo.out.mono ?_
  rintro e w' ⟨rfl, rfl⟩
  go_wp2_with fail
  refine (Root_no a HV.out Hm.out _).mono ?_
  rintro e w' ⟨rfl, rfl⟩
  go_wp2_with fail
  refine (RRoot_no a HV.out Hm.out _).mono ?_
  rintro e w' ⟨rfl, rfl⟩
  go_wp2_with fail
  refine (Pow_bad a n HV.out Hm.out _).mono ?_
  rintro e w' ⟨rfl, rfl⟩
  go_wp2_with fail
  refine (RPow_bad a n HV.out Hm.out _).mono ?_
  rintro e w' ⟨rfl, rfl⟩
  go_wp2
  go_ret
  exact ⟨rfl, HB1.out⟩

set_option maxHeartbeats 4000000 in
set_option maxRecDepth 100000 in
theorem powers_big (x : Nat) (n : Int) (hx : Sm 120 x) (sa : (Sn x).size ≤ 120) (h30 : decide ((30 : Int) < ((Sn x).size : Int)) = true) (w : World) (htab : Tb w) :
    Calls Tryz.prog 5 #[.string (Sn x), .int .i64 n] w fun e w' => e = .returned (.bool true) ∧ Below w.heap.size w w' := by
  have HT := Lib.hid htab
  clear htab
  have SA := Lib.hid sa
  have FX := Lib.hid (hx.fit (by decide))
  have HLx := Lib.hid (show (digs x).length ≤ 1000 from Nat.le_trans (sm_digs hx (by decide)) (by decide))
  have C1 := Lib.hid (fun (W : World) (T : Tb W) => nRoot x FX.out W T)
  have C2 := Lib.hid (fun (W : World) => rRoot x FX.out HLx.out W)
  clear sa hx
  generalize Sn x = a at *
  go_enter Tryz.func5, Tryz.ntmps5
  go_wp2_with fail
  refine (awake_any _ HT.out).mono ?_
  rintro e w1 ⟨rfl, hb1⟩
  have HB1 := Lib.hid (hb1.alloc hb1.size (.cells #[.string a] 9))
  have hc := strs_cells1 w1 a
  have HLo := Lib.hid (nlong1_no w1.heap.size a _ SA.out hc)
  clear hb1 hc
  go_wp2_with fail
  refine HLo.out.mono ?_
  rintro e w' ⟨rfl, rfl⟩
  go_wp2_with fail
  refine (C1.out _ (HT.out.on HB1.out)).mono ?_
  rintro e w2 ⟨s, rfl, h1, h2, hb⟩
  have HS := Lib.hid (show s * s ≤ x ∧ x < (s + 1) * (s + 1) from ⟨h1, h2⟩)
  have HB2 := Lib.hid (HB1.out.trans (hb.mono HB1.out.size))
  clear hb h1 h2
  go_wp2_with fail
  refine (C2.out _).mono ?_
  rintro e w3 ⟨t, rfl, h1, h2, hb⟩
  obtain rfl := root_same HS.out.1 HS.out.2 h1 h2
  have HB3 := Lib.hid (HB2.out.trans (hb.mono HB2.out.size))
  clear hb h1 h2 HS
  go_wp2
  go_ret
  exact ⟨rfl, HB3.out⟩

set_option maxHeartbeats 4000000 in
set_option maxRecDepth 100000 in
theorem powers_neg (x : Nat) (n : Int) (hx : Sm 120 x) (sa : (Sn x).size ≤ 120) (h30 : decide ((30 : Int) < ((Sn x).size : Int)) = false) (hn : n < 0) (w : World) (htab : Tb w) :
    Calls Tryz.prog 5 #[.string (Sn x), .int .i64 n] w fun e w' => e = .returned (.bool true) ∧ Below w.heap.size w w' := by
  have HT := Lib.hid htab
  clear htab
  have SA := Lib.hid sa
  have FX := Lib.hid (hx.fit (by decide))
  have HLx := Lib.hid (show (digs x).length ≤ 1000 from Nat.le_trans (sm_digs hx (by decide)) (by decide))
  have C1 := Lib.hid (fun (W : World) (T : Tb W) => nRoot x FX.out W T)
  have C2 := Lib.hid (fun (W : World) => rRoot x FX.out HLx.out W)
  have C3 := Lib.hid (fun (W : World) => Pow_neg (Sn x) n hn (sn_vld x) (show (Sn x).size ≤ maxLen by unfold maxLen; omega) W)
  have C4 := Lib.hid (fun (W : World) => RPow_neg (Sn x) n hn (sn_vld x) (show (Sn x).size ≤ maxLen by unfold maxLen; omega) W)
  clear sa hx hn
  generalize Sn x = a at *
  go_enter Tryz.func5, Tryz.ntmps5
  go_wp2_with fail
  refine (awake_any _ HT.out).mono ?_
  rintro e w1 ⟨rfl, hb1⟩
  have HB1 := Lib.hid (hb1.alloc hb1.size (.cells #[.string a] 9))
  have hc := strs_cells1 w1 a
  have HLo := Lib.hid (nlong1_no w1.heap.size a _ SA.out hc)
  clear hb1 hc
  go_wp2_with fail
  refine HLo.out.mono ?_
  rintro e w' ⟨rfl, rfl⟩
  go_wp2_with fail
  refine (C1.out _ (HT.out.on HB1.out)).mono ?_
  rintro e w2 ⟨s, rfl, h1, h2, hb⟩
  have HS := Lib.hid (show s * s ≤ x ∧ x < (s + 1) * (s + 1) from ⟨h1, h2⟩)
  have HB2 := Lib.hid (HB1.out.trans (hb.mono HB1.out.size))
  clear hb h1 h2
  go_wp2_with fail
  refine (C2.out _).mono ?_
  rintro e w3 ⟨t, rfl, h1, h2, hb⟩
  obtain rfl := root_same HS.out.1 HS.out.2 h1 h2
  have HB3 := Lib.hid (HB2.out.trans (hb.mono HB2.out.size))
  clear hb h1 h2 HS
  go_wp2_with fail
  refine (C3.out _).mono ?_
  rintro e w' ⟨rfl, rfl⟩
  go_wp2_with fail
  refine (C4.out _).mono ?_
  rintro e w' ⟨rfl, rfl⟩
  go_wp2
  go_ret
  exact ⟨rfl, HB3.out⟩

set_option maxHeartbeats 4000000 in
set_option maxRecDepth 100000 in
theorem powers_over (x : Nat) (n : Int) (hx : Sm 120 x) (sa : (Sn x).size ≤ 120) (h30 : decide ((30 : Int) < ((Sn x).size : Int)) = false) (hn : 64 < n) (w : World) (htab : Tb w) :
    Calls Tryz.prog 5 #[.string (Sn x), .int .i64 n] w fun e w' => e = .returned (.bool true) ∧ Below w.heap.size w w' := by
  have HT := Lib.hid htab
  clear htab
  have SA := Lib.hid sa
  have FX := Lib.hid (hx.fit (by decide))
  have HLx := Lib.hid (show (digs x).length ≤ 1000 from Nat.le_trans (sm_digs hx (by decide)) (by decide))
  have C1 := Lib.hid (fun (W : World) (T : Tb W) => nRoot x FX.out W T)
  have C2 := Lib.hid (fun (W : World) => rRoot x FX.out HLx.out W)
  have C3 := Lib.hid (fun (W : World) => Pow_big (Sn x) n hn (sn_vld x) (show (Sn x).size ≤ maxLen by unfold maxLen; omega) W)
  have C4 := Lib.hid (fun (W : World) => RPow_big (Sn x) n hn (sn_vld x) (show (Sn x).size ≤ maxLen by unfold maxLen; omega) W)
  clear sa hx hn
  generalize Sn x = a at *
  go_enter Tryz.func5, Tryz.ntmps5
  go_wp2_with fail
  refine (awake_any _ HT.out).mono ?_
  rintro e w1 ⟨rfl, hb1⟩
  have HB1 := Lib.hid (hb1.alloc hb1.size (.cells #[.string a] 9))
  have hc := strs_cells1 w1 a
  have HLo := Lib.hid (nlong1_no w1.heap.size a _ SA.out hc)
  clear hb1 hc
  go_wp2_with fail
  refine HLo.out.mono ?_
  rintro e w' ⟨rfl, rfl⟩
  go_wp2_with fail
  refine (C1.out _ (HT.out.on HB1.out)).mono ?_
  rintro e w2 ⟨s, rfl, h1, h2, hb⟩
  have HS := Lib.hid (show s * s ≤ x ∧ x < (s + 1) * (s + 1) from ⟨h1, h2⟩)
  have HB2 := Lib.hid (HB1.out.trans (hb.mono HB1.out.size))
  clear hb h1 h2
  go_wp2_with fail
  refine (C2.out _).mono ?_
  rintro e w3 ⟨t, rfl, h1, h2, hb⟩
  obtain rfl := root_same HS.out.1 HS.out.2 h1 h2
  have HB3 := Lib.hid (HB2.out.trans (hb.mono HB2.out.size))
  clear hb h1 h2 HS
  go_wp2_with fail
  refine (C3.out _).mono ?_
  rintro e w' ⟨rfl, rfl⟩
  go_wp2_with fail
  refine (C4.out _).mono ?_
  rintro e w' ⟨rfl, rfl⟩
  go_wp2
  go_ret
  exact ⟨rfl, HB3.out⟩

set_option maxHeartbeats 4000000 in
set_option maxRecDepth 100000 in
theorem powers_in (x k : Nat) (n : Int) (hx : Sm 120 x) (sa : (Sn x).size ≤ 120) (h30 : decide ((30 : Int) < ((Sn x).size : Int)) = false) (h30x : Sm 30 x) (hn : n = (k : Int)) (hk : k ≤ 64) (w : World) (htab : Tb w) :
    Calls Tryz.prog 5 #[.string (Sn x), .int .i64 n] w fun e w' => e = .returned (.bool true) ∧ Below w.heap.size w w' := by
  have HT := Lib.hid htab
  clear htab
  have SA := Lib.hid sa
  have FX := Lib.hid (hx.fit (by decide))
  have HLx := Lib.hid (show (digs x).length ≤ 1000 from Nat.le_trans (sm_digs hx (by decide)) (by decide))
  have C1 := Lib.hid (fun (W : World) (T : Tb W) => nRoot x FX.out W T)
  have C2 := Lib.hid (fun (W : World) => rRoot x FX.out HLx.out W)
  obtain ⟨p, hp⟩ : ∃ p, x ^ k = p := ⟨_, rfl⟩
  have hpl : (digs p).length ≤ 10000 := by
    have h1 := digs_pow_len x k
    have h2 : (digs x).length ≤ 30 := sm_digs h30x (by decide)
    have h3 : (digs x).length * k ≤ 30 * 64 := Nat.mul_le_mul h2 hk
    rw [hp] at h1
    omega
  have C3 := Lib.hid (fun (W : World) (T : Tb W) => nPowV x k p n hn hp hk FX.out W T)
  have C4 := Lib.hid (fun (W : World) => rPow x k p n hn hp hk FX.out HLx.out hpl W)
  clear hp hpl h30x hk hn
  clear sa hx
  generalize Sn x = a at *
  go_enter Tryz.func5, Tryz.ntmps5
  go_wp2_with fail
  refine (awake_any _ HT.out).mono ?_
  rintro e w1 ⟨rfl, hb1⟩
  have HB1 := Lib.hid (hb1.alloc hb1.size (.cells #[.string a] 9))
  have hc := strs_cells1 w1 a
  have HLo := Lib.hid (nlong1_no w1.heap.size a _ SA.out hc)
  clear hb1 hc
  go_wp2_with fail
  refine HLo.out.mono ?_
  rintro e w' ⟨rfl, rfl⟩
  go_wp2_with fail
  refine (C1.out _ (HT.out.on HB1.out)).mono ?_
  rintro e w2 ⟨s, rfl, h1, h2, hb⟩
  have HS := Lib.hid (show s * s ≤ x ∧ x < (s + 1) * (s + 1) from ⟨h1, h2⟩)
  have HB2 := Lib.hid (HB1.out.trans (hb.mono HB1.out.size))
  clear hb h1 h2
  go_wp2_with fail
  refine (C2.out _).mono ?_
  rintro e w3 ⟨t, rfl, h1, h2, hb⟩
  obtain rfl := root_same HS.out.1 HS.out.2 h1 h2
  have HB3 := Lib.hid (HB2.out.trans (hb.mono HB2.out.size))
  clear hb h1 h2 HS
  go_wp2_with fail
  refine (C3.out _ (HT.out.on HB3.out)).mono ?_
  rintro e w4 ⟨rfl, hb⟩
  have HB4 := Lib.hid (HB3.out.trans (hb.mono HB3.out.size))
  clear hb
  go_wp2_with fail
  refine (C4.out _).mono ?_
  rintro e w5 ⟨rfl, hb⟩
  have HB5 := Lib.hid (HB4.out.trans (hb.mono HB4.out.size))
  clear hb
  go_wp2
  go_ret
  exact ⟨rfl, HB5.out⟩

theorem powers_any (a : ByteArray) (n : Int) (_hn : (Lit.int .i64 n).wf = true) (w : World) (htab : Tb w) :
    Calls Tryz.prog 5 #[.string a, .int .i64 n] w fun e w' => e = .returned (.bool true) ∧ Below w.heap.size w w' := by
  by_cases hlo : 120 < a.size
  · exact powers_long a n hlo w htab
  · have ha : a.size ≤ 120 := by omega
    cases hv : vld a.data.toList with
    | false =>
      cases h30 : decide ((30 : Int) < (a.size : Int)) with
      | true => exact powers_no_big a n ha h30 hv w htab
      | false => exact powers_no_small a n ha h30 hv w htab
    | true =>
      have e := sn_of hv
      have hx := Sm.of hv ha
      have hx30 : a.size ≤ 30 → Sm 30 (dval a.data.toList) := fun h => Sm.of hv h
      generalize dval a.data.toList = x at *
      subst e
      cases h30 : decide ((30 : Int) < ((Sn x).size : Int)) with
      | true => exact powers_big x n hx ha h30 w htab
      | false =>
        have h := of_decide_eq_false h30
        by_cases h1 : n < 0
        · exact powers_neg x n hx ha h30 h1 w htab
        · by_cases h2 : 64 < n
          · exact powers_over x n hx ha h30 h2 w htab
          · exact powers_in x n.toNat n hx ha h30 (hx30 (by omega)) (by omega) (by omega) w htab

end Go.Proofs.YtgbcjlknlagoeaaGreatDoor
