/- strings.Cut at one byte; rational's short integers: isShort, parse, commonShort, areCoprime: walks. -/
import Derived.Test.YtlagimghlngdgaaGreatDoorQb
import Derived.Test.YtlagimghlngdgaaGreatDoorShel2
import Derived.BigQuiet
import Derived.RegionTactic
import Derived.ChangeAlike
import Derived.IntWalk
namespace Go.Proofs.YtlagimghlngdgaaGreatDoor
open Go.RowKit Go.Gb

set_option maxHeartbeats 1000000 in
set_option maxRecDepth 100000 in
theorem cut1_lite (c : UInt8) (s : ByteArray) (hs : s.size ≤ 100000) (w : World) :
    Calls Tryz.prog 67 #[.string s, .string ⟨#[c]⟩] w fun e w' => e = .returned (.tuple #[.string ⟨(Lib.cut s.data.toList [c]).1.toArray⟩, .string ⟨(Lib.cut s.data.toList [c]).2.1.toArray⟩, .bool (Lib.cut s.data.toList [c]).2.2]) ∧ Below w.heap.size w w' := by
  have hdl : (⟨#[c]⟩ : ByteArray).data.toList = [c] := rfl
  have hsz : (⟨#[c]⟩ : ByteArray).size = 1 := rfl
  rcases Lib.indexB_cases s ⟨#[c]⟩ with hix | ⟨i, hix, hroom⟩
  · have h3 := Lib.cutB_miss s ⟨#[c]⟩ hix
    rw [hdl] at h3
    obtain ⟨e1, e2, e3⟩ := h3
    rw [e1, e2, e3]
    have hb : Lib.indexByte s.data.toList c = -1 := by rw [← Lib.index_one]; exact hix
    have HI := Lib.hid (fun W => Tryz.stringslite_Index_one s c W)
    rw [hb] at HI
    clear hix hb e1 e2 e3 hdl hsz
    go_enter Tryz.func67, Tryz.ntmps67
    go_wp2_with fail
    refine (HI.out _).mono ?_
    rintro e w' ⟨rfl, rfl⟩
    go_wp2
    go_ret3
    exact ⟨rfl, Below.refl _ _⟩
  · have h3 := Lib.cutB_hit s ⟨#[c]⟩ i hix
    rw [hdl] at h3
    obtain ⟨e1, e2, e3⟩ := h3
    rw [e1, e2, e3]
    have hb : Lib.indexByte s.data.toList c = i := by rw [← Lib.index_one]; exact hix
    have HI := Lib.hid (fun W => Tryz.stringslite_Index_one s c W)
    rw [hb] at HI
    have c1 : (0 : Int) ≤ ↑i := by omega
    have c2 : (↑i : Int) ≤ ↑s.size := by omega
    have c3 : (0 : Int) ≤ ↑i + 1 := by omega
    have c4 : (↑i + 1 : Int) ≤ ↑s.size := by omega
    have c5 : (↑s.size : Int) ≤ 100000 := by omega
    have c6 : IntKind.i64.wrap ((i : Int) + 1) = (i : Int) + 1 := IntWalk.i64_in _ (by omega)
    rw [hsz]
    clear hix hb e1 e2 e3 hdl hsz hroom
    go_enter Tryz.func67, Tryz.ntmps67
    go_wp2_with fail
    refine (HI.out _).mono ?_
    rintro e w' ⟨rfl, rfl⟩
    go_wp2
    go_region
    go_wp2
    go_ret3
    exact ⟨rfl, (Below.refl _ _).drew⟩
theorem cut1 (c : UInt8) (s : ByteArray) (hs : s.size ≤ 100000) (w : World) :
    Calls Tryz.prog 29 #[.string s, .string ⟨#[c]⟩] w fun e w' => e = .returned (.tuple #[.string ⟨(Lib.cut s.data.toList [c]).1.toArray⟩, .string ⟨(Lib.cut s.data.toList [c]).2.1.toArray⟩, .bool (Lib.cut s.data.toList [c]).2.2]) ∧ Below w.heap.size w w' := by
  have HC := Lib.hid (cut1_lite c s hs w)
  clear hs
  generalize (⟨(Lib.cut s.data.toList [c]).1.toArray⟩ : ByteArray) = a at *
  generalize (⟨(Lib.cut s.data.toList [c]).2.1.toArray⟩ : ByteArray) = b at *
  generalize (Lib.cut s.data.toList [c]).2.2 = f at *
  go_enter Tryz.func29, Tryz.ntmps29
  go_wp2_with fail
  refine HC.out.mono ?_
  rintro e w1 ⟨rfl, hb⟩
  go_wp2
  go_ret3
  exact ⟨rfl, hb⟩

/-! ### short integers -/
theorem qshort_yes (a : ByteArray) (h : a.size ≤ 18) (w : World) :
    Calls Tryz.prog 135 #[.string a] w fun e w' => e = .returned (.bool true) ∧ w = w' := by
  have h1 : (a.size : Int) ≤ 18 := by omega
  clear h
  go_enter Tryz.func135, Tryz.ntmps135
  go_wp2
  go_ret
  exact ⟨rfl, rfl⟩
theorem qshort_no (a : ByteArray) (h : 18 < a.size) (w : World) :
    Calls Tryz.prog 135 #[.string a] w fun e w' => e = .returned (.bool false) ∧ w = w' := by
  have h1 : decide ((a.size : Int) ≤ 18) = false := by rw [decide_eq_false_iff_not]; omega
  clear h
  go_enter Tryz.func135, Tryz.ntmps135
  go_wp2
  go_ret
  exact ⟨by first | rfl | (rw [h1]), rfl⟩
theorem rparse (z : Int) (hs : (Sz z).size ≤ 18) (w : World) :
    Calls Tryz.prog 137 #[.string (Sz z)] w fun e w' => e = .returned (.int .i64 z) ∧ Below w.heap.size w w' := by
  have HP := Lib.hid (parseI_z hs)
  have HM := Lib.hid (show (Sz z).size ≤ 9223372036854775806 by omega)
  generalize Sz z = s at *
  clear hs
  go_enter Tryz.func137, Tryz.ntmps137
  go_wp2_with fail
  refine (Tryz.strconv_ParseInt_10_at64_ok s HM.out _ HP.out _).mono ?_
  rintro e w' ⟨rfl, hw⟩
  have hb : Below w.heap.size w w' := by
    rcases hw with rfl | ⟨t, rfl⟩
    · exact Below.refl _ _
    · exact Lib.bytesWorld_below w _ t
  clear hw
  go_wp2
  go_ret
  exact ⟨rfl, hb⟩
theorem max_neg (a : Int) : max a (-a) = (a.natAbs : Int) := by omega
set_option maxHeartbeats 1000000 in
set_option maxRecDepth 100000 in
theorem rgcd (a b : Int) (ha : a.natAbs < 4611686018427387904) (hb : b.natAbs < 4611686018427387904) (w : World) :
    Calls Tryz.prog 136 #[.int .i64 a, .int .i64 b] w fun e w' => e = .returned (.int .i64 ((Nat.gcd a.natAbs b.natAbs : Nat) : Int)) ∧ Below w.heap.size w w' := by
  have m1 := max_neg a
  have m2 := max_neg b
  have w1 : IntKind.i64.wrap (-a) = -a := IntWalk.i64_in _ (by omega)
  have w2 : IntKind.i64.wrap (-b) = -b := IntWalk.i64_in _ (by omega)
  obtain ⟨x, hx⟩ : ∃ x : Nat, a.natAbs = x := ⟨_, rfl⟩
  obtain ⟨y, hy⟩ : ∃ y : Nat, b.natAbs = y := ⟨_, rfl⟩
  rw [hx] at m1
  rw [hy] at m2
  rw [hx, hy]
  have HX := Lib.hid (show x < 4611686018427387904 by omega)
  have HY := Lib.hid (show y < 4611686018427387904 by omega)
  obtain ⟨g, hg⟩ : ∃ g : Nat, Nat.gcd x y = g := ⟨_, rfl⟩
  rw [hg]
  have HG := Lib.hid hg
  clear hx hy hg ha hb
  go_enter Tryz.func136, Tryz.ntmps136
  go_wp2
  clear m1 m2 w1 w2
  go_loopw [0, 1] (fun u v W => ∃ p q : Nat, Hid (p < 4611686018427387904 ∧ q < 4611686018427387904 ∧ Nat.gcd p q = g) ∧ Below w.heap.size w W ∧ u = .int .i64 p ∧ v = .int .i64 q) (fun _ v _ => (intOf v).toNat)
  case atStart => exact ⟨x, y, Lib.hid ⟨HX.out, HY.out, HG.out⟩, Below.refl _ _, rfl, rfl⟩
  case round =>
    obtain ⟨p, q, hr, hB, rfl, rfl⟩ := hrel
    have HB := Lib.hid hB
    clear hB
    by_cases hq : 0 < q
    · have hq1 : (0 : Int) < (q : Int) := by omega
      have hq2 : ¬ (q : Int) = 0 := by omega
      have hp1 : (p : Int) < 4611686018427387904 := by have := hr.out.1; omega
      have hp2 : (0 : Int) ≤ (p : Int) := by omega
      have hq3 : (q : Int) < 4611686018427387904 := by have := hr.out.2.1; omega
      go_wp2
      go_region
      all_goals
        go_wp2
        go_roundw
        case rel => exact ⟨q, p % q, Lib.hid ⟨by omega, by have := Nat.mod_lt p hq; omega, by rw [Nat.gcd_comm, ← Nat.gcd_rec, Nat.gcd_comm]; exact hr.out.2.2⟩, HB.out.drew, rfl, by go_num⟩
        case measure => have := Nat.mod_lt p hq; simp [intOf]; omega
    · obtain rfl : q = 0 := by omega
      have hg := hr.out.2.2
      rw [Nat.gcd_zero_right] at hg
      subst hg
      go_wp2
      go_ret
      exact ⟨rfl, HB.out⟩

end Go.Proofs.YtlagimghlngdgaaGreatDoor
