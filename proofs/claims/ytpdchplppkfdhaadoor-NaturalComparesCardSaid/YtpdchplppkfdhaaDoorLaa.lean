/- garboardlaw01.NaturalCompares returns true, for any two strings: walks. -/
import Derived.Test.YtpdchplppkfdhaaDoorAwk
import Derived.Test.YtpdchplppkfdhaaDoorRb
namespace Go.Proofs.YtpdchplppkfdhaaDoor
open Go.RowKit Go.Gb

theorem long2_no (g : Nat) (a b : ByteArray) (w : World) (ha : a.size ≤ 120) (hb : b.size ≤ 120) (h0 : w.cell? ⟨g, 0, none⟩ = some (.string a)) (h1 : w.cell? ⟨g, 1, none⟩ = some (.string b)) :
    Calls Tryd.prog 9 #[.slice (some ⟨g, 0, none⟩) 2 2] w fun e w' => e = .returned (.bool false) ∧ w = w' := by
  have k1 : ¬ (120 : Int) < (a.size : Int) := by omega
  have k2 : ¬ (120 : Int) < (b.size : Int) := by omega
  go_enter Tryd.func9, Tryd.ntmps9
  go_wp2
  refine wp_loop_rounds 3 ?_
  rw [rounds_succ]
  go_wp2
  rw [rounds_succ]
  go_wp2
  rw [rounds_succ]
  go_wp2
  go_ret
  exact ⟨rfl, rfl⟩
theorem long2_yes (g : Nat) (a b : ByteArray) (w : World) (hab : 120 < a.size ∨ 120 < b.size) (h0 : w.cell? ⟨g, 0, none⟩ = some (.string a)) (h1 : w.cell? ⟨g, 1, none⟩ = some (.string b)) :
    Calls Tryd.prog 9 #[.slice (some ⟨g, 0, none⟩) 2 2] w fun e w' => e = .returned (.bool true) ∧ w = w' := by
  by_cases ha : 120 < a.size
  · have k1 : (120 : Int) < (a.size : Int) := by omega
    clear hab
    go_enter Tryd.func9, Tryd.ntmps9
    go_wp2
    refine wp_loop_rounds 3 ?_
    rw [rounds_succ]
    go_wp2
    go_ret
    exact ⟨rfl, rfl⟩
  · have k1 : ¬ (120 : Int) < (a.size : Int) := by omega
    have k2 : (120 : Int) < (b.size : Int) := by omega
    clear hab
    go_enter Tryd.func9, Tryd.ntmps9
    go_wp2
    refine wp_loop_rounds 3 ?_
    rw [rounds_succ]
    go_wp2
    rw [rounds_succ]
    go_wp2
    go_ret
    exact ⟨rfl, rfl⟩

theorem strs_cells (w : World) (a b : ByteArray) : (w.alloc (.cells #[.string a, .string b] 9)).cell? ⟨w.heap.size, 0, none⟩ = some (.string a) ∧ (w.alloc (.cells #[.string a, .string b] 9)).cell? ⟨w.heap.size, 1, none⟩ = some (.string b) := by
  constructor <;> simp

set_option maxHeartbeats 2000000 in
theorem compares_any (a b : ByteArray) (w : World) (htab : Tb w) :
    Calls Tryd.prog 3 #[.string a, .string b] w fun e w' => e = .returned (.bool true) ∧ Below w.heap.size w w' := by
  have HT := Lib.hid htab
  clear htab
  by_cases hlong : 120 < a.size ∨ 120 < b.size
  · have HL := Lib.hid hlong
    clear hlong
    go_enter Tryd.func3, Tryd.ntmps3
    go_wp2_with fail
    refine (awake_any _ HT.out).mono ?_
    rintro e w1 ⟨rfl, hb1⟩
    have HB1 := Lib.hid (hb1.alloc hb1.size (.cells #[.string a, .string b] 9))
    have hc := strs_cells w1 a b
    have HLo := Lib.hid (long2_yes w1.heap.size a b _ HL.out hc.1 hc.2)
    clear hb1 hc
    go_wp2_with fail
    refine HLo.out.mono ?_
    rintro e w' ⟨rfl, rfl⟩
    go_wp2_with fail
    refine (awake_any _ (HT.out.on HB1.out)).mono ?_
    rintro e w2 ⟨rfl, hb2⟩
    have HB2 := Lib.hid (HB1.out.trans (hb2.mono HB1.out.size))
    clear hb2
    go_wp2
    go_ret
    exact ⟨rfl, HB2.out⟩
  · have Hla := Lib.hid (show a.size ≤ 120 by omega)
    have Hlb := Lib.hid (show b.size ≤ 120 by omega)
    have Hma := Lib.hid (show a.size ≤ maxLen by unfold maxLen; omega)
    have Hmb := Lib.hid (show b.size ≤ maxLen by unfold maxLen; omega)
    clear hlong
    by_cases hv : (vld a.data.toList && vld b.data.toList) = true
    · obtain ⟨hva, hvb⟩ : vld a.data.toList = true ∧ vld b.data.toList = true := by simpa using hv
      have HVA := Lib.hid hva
      have HVB := Lib.hid hvb
      clear hv hva hvb
      have HC1 := Lib.hid (fun W => Compare_yes a b HVA.out HVB.out Hma.out Hmb.out W)
      have HC2 := Lib.hid (fun W => RCompare_yes a b HVA.out HVB.out (by have := Hla.out; omega) (by have := Hlb.out; omega) W)
      generalize cmpN (dval a.data.toList) (dval b.data.toList) = cc at *
      go_enter Tryd.func3, Tryd.ntmps3
      go_wp2_with fail
      refine (awake_any _ HT.out).mono ?_
      rintro e w1 ⟨rfl, hb1⟩
      have HB1 := Lib.hid (hb1.alloc hb1.size (.cells #[.string a, .string b] 9))
      have hc := strs_cells w1 a b
      have HLo := Lib.hid (long2_no w1.heap.size a b _ Hla.out Hlb.out hc.1 hc.2)
      clear hb1 hc
      go_wp2_with fail
      refine HLo.out.mono ?_
      rintro e w' ⟨rfl, rfl⟩
      go_wp2_with fail
      refine (HC1.out _).mono ?_
      rintro e w' ⟨rfl, rfl⟩
      go_wp2_with fail
      refine (HC2.out _).mono ?_
      rintro e w2 ⟨rfl, hb2⟩
      have HB2 := Lib.hid (HB1.out.trans (hb2.mono HB1.out.size))
      clear hb2
      go_wp2_with fail
      refine (Valid_yes a HVA.out Hma.out _).mono ?_
      rintro e w' ⟨rfl, rfl⟩
      go_wp2_with fail
      refine (RValid_yes a HVA.out Hma.out _).mono ?_
      rintro e w' ⟨rfl, rfl⟩
      go_wp2
      go_ret
      exact ⟨by simp, HB2.out⟩
    · have hv' : (vld a.data.toList && vld b.data.toList) = false := by simpa using hv
      have HC1 := Lib.hid (fun W => Compare_no a b hv' Hma.out Hmb.out W)
      have HC2 := Lib.hid (fun W => RCompare_no a b hv' Hma.out Hmb.out W)
      have HV1 := Lib.hid (fun W => Valid_any a W Hma.out)
      have HV2 := Lib.hid (fun W => RValid_any a W Hma.out)
      clear hv hv'
      generalize vld a.data.toList = vv at *
      go_enter Tryd.func3, Tryd.ntmps3
      go_wp2_with fail
      refine (awake_any _ HT.out).mono ?_
      rintro e w1 ⟨rfl, hb1⟩
      have HB1 := Lib.hid (hb1.alloc hb1.size (.cells #[.string a, .string b] 9))
      have hc := strs_cells w1 a b
      have HLo := Lib.hid (long2_no w1.heap.size a b _ Hla.out Hlb.out hc.1 hc.2)
      clear hb1 hc
      go_wp2_with fail
      refine HLo.out.mono ?_
      rintro e w' ⟨rfl, rfl⟩
      go_wp2_with fail
      refine (HC1.out _).mono ?_
      rintro e w' ⟨rfl, rfl⟩
      go_wp2_with fail
      refine (HC2.out _).mono ?_
      rintro e w' ⟨rfl, rfl⟩
      go_wp2_with fail
      refine (HV1.out _).mono ?_
      rintro e w' ⟨rfl, rfl⟩
      go_wp2_with fail
      refine (HV2.out _).mono ?_
      rintro e w' ⟨rfl, rfl⟩
      cases vv
      all_goals
        go_wp2
        go_ret
        exact ⟨rfl, HB1.out⟩

end Go.Proofs.YtpdchplppkfdhaaDoor
