/- garboardlaw01.NaturalCommon returns true: walks. -/
import Derived.Test.YtgbcjlknlagoeaaGreatDoorLnu
import Derived.Test.YtgbcjlknlagoeaaGreatDoorEj
namespace Go.Proofs.YtgbcjlknlagoeaaGreatDoor
open Go.RowKit Go.Gb

theorem nGCDV (x y g : Nat) (hg : Nat.gcd x y = g) (hx : Fit x) (hy : Fit y) (w : World) (htab : Tb w) :
    Calls Tryz.prog 19 #[.string (Sn x), .string (Sn y)] w fun e w' => e = .returned (.tuple #[.string (Sn g), .int .i64 0]) ∧ Below w.heap.size w w' := by
  have sx := hx.size
  have sy := hy.size
  have h := GCD_yes (Sn x) (Sn y) (sn_vld x) (sn_vld y) (by omega) (by omega) (by
    rw [sn_dval, sn_dval]
    exact Common_any x y (Nat.le_trans (sm_digs hx (by decide)) (by decide)) (Nat.le_trans (sm_digs hy (by decide)) (by decide))) w htab
  rw [sn_dval, sn_dval, hg] at h
  exact h

end Go.Proofs.YtgbcjlknlagoeaaGreatDoor
