/- garboardlaw01.NaturalRoots returns true: walks. -/
import Derived.Test.YtgbcjlknlagoeaaGreatDoorLnu
import Derived.Test.YtgbcjlknlagoeaaGreatDoorMne
import Derived.Test.YtgbcjlknlagoeaaGreatDoorRu
import Derived.OpenShut
namespace Go.Proofs.YtgbcjlknlagoeaaGreatDoor
open Go.RowKit Go.Gb

theorem Root_no (a : ByteArray) (ha : vld a.data.toList = false) (hsa : a.size ≤ maxLen) (w : World) :
    Calls Tryz.prog 21 #[.string a] w fun e w' => e = .returned (.tuple #[.string ⟨#[]⟩, .int .i64 1]) ∧ w = w' := by
  have HA := Lib.hid ha
  clear ha
  go_enter Tryz.func21, Tryz.ntmps21
  go_wp2_with fail
  refine (Valid_no a HA.out hsa _).mono ?_
  rintro e w' ⟨rfl, rfl⟩
  go_wp2
  go_ret2
  exact ⟨rfl, rfl⟩

theorem nRoot (x : Nat) (hx : Fit x) (w : World) (htab : Tb w) :
    Calls Tryz.prog 21 #[.string (Sn x)] w fun e w' => ∃ s, e = .returned (.tuple #[.string (Sn s), .int .i64 0]) ∧ s * s ≤ x ∧ x < (s + 1) * (s + 1) ∧ Below w.heap.size w w' := by
  have sx := hx.size
  have h := Root_yes (Sn x) (sn_vld x) (by omega) (by rw [sn_dval]; exact root_any x (Nat.le_trans (sm_digs hx (by decide)) (by decide))) w htab
  rw [sn_dval] at h
  exact h

theorem nPowV (x k p : Nat) (n : Int) (hn : n = (k : Int)) (hp : x ^ k = p) (hk : k ≤ 64) (hx : Fit x) (w : World) (htab : Tb w) :
    Calls Tryz.prog 23 #[.string (Sn x), .int .i64 n] w fun e w' => e = .returned (.tuple #[.string (Sn p), .int .i64 0]) ∧ Below w.heap.size w w' := by
  subst hn hp
  have sx := hx.size
  have h := Pow_yes (Sn x) k (sn_vld x) (by omega) hk w htab
  rw [sn_dval] at h
  exact h

set_option exponentiation.threshold 3000 in
theorem sm_pow {x k : Nat} (hx : Sm 120 x) (hk : k ≤ 10) : Fit (x ^ k) := by
  have h1 : x ^ k ≤ (10 ^ 120) ^ k := Nat.pow_le_pow_left (Nat.le_of_lt hx) k
  have h2 : (10 ^ 120) ^ k = 10 ^ (120 * k) := (Nat.pow_mul 10 120 k).symm
  have h3 : 10 ^ (120 * k) ≤ 10 ^ 1200 := Nat.pow_le_pow_right (by decide) (by omega)
  have h4 : (10 : Nat) ^ 1200 < 10 ^ 2000 := Nat.pow_lt_pow_right (by decide) (by decide)
  unfold Fit Sm
  rw [h2] at h1
  exact Nat.lt_of_le_of_lt (Nat.le_trans h1 h3) h4

end Go.Proofs.YtgbcjlknlagoeaaGreatDoor
