/- garboardlaw01.NaturalUndoes returns true: walks. -/
import Derived.Test.YtgbcjlknlagoeaaGreatDoorLnr
namespace Go.Proofs.YtgbcjlknlagoeaaGreatDoor
open Go.RowKit Go.Gb

theorem nCompareV (x y : Nat) (c : Int) (hc : cmpN x y = c) (hx : Fit x) (hy : Fit y) (w : World) :
    Calls Tryz.prog 49 #[.string (Sn x), .string (Sn y)] w fun e w' => e = .returned (.tuple #[.int .i64 c, .int .i64 0]) ∧ w = w' := by
  subst hc; exact nCompare x y hx hy w
theorem nAddV (x y s : Nat) (hs : x + y = s) (hx : Fit x) (hy : Fit y) (w : World) (htab : Tb w) :
    Calls Tryz.prog 11 #[.string (Sn x), .string (Sn y)] w fun e w' => e = .returned (.tuple #[.string (Sn s), .int .i64 0]) ∧ Below w.heap.size w w' := by
  subst hs; exact nAdd x y hx hy w htab
theorem nSubV (x y s : Nat) (hs : y + s = x) (hx : Fit x) (w : World) (htab : Tb w) :
    Calls Tryz.prog 13 #[.string (Sn x), .string (Sn y)] w fun e w' => e = .returned (.tuple #[.string (Sn s), .int .i64 0]) ∧ Below w.heap.size w w' := by
  have h := nSub x y hx (by omega) w htab
  rwa [show x - y = s by omega] at h
theorem nMulV (x y s : Nat) (hs : x * y = s) (hx : Fit x) (hy : Fit y) (w : World) (htab : Tb w) :
    Calls Tryz.prog 15 #[.string (Sn x), .string (Sn y)] w fun e w' => e = .returned (.tuple #[.string (Sn s), .int .i64 0]) ∧ Below w.heap.size w w' := by
  subst hs; exact nMul x y hx hy w htab
theorem nDivV (x y q r : Nat) (hq : x / y = q) (hr : x % y = r) (hx : Fit x) (hy : Fit y) (h0 : y ≠ 0) (w : World) (htab : Tb w) :
    Calls Tryz.prog 17 #[.string (Sn x), .string (Sn y)] w fun e w' => e = .returned (.tuple #[.string (Sn q), .string (Sn r), .int .i64 0]) ∧ Below w.heap.size w w' := by
  subst hq hr; exact nDivMod x y hx hy h0 w htab
theorem sn_list2 (n : Nat) : (Sn n).toList = Lib.decDigits n := by rw [toList_data, sn_list]
theorem sn_neq {x y : Nat} (h : x ≠ y) : ((Sn x).toList == (Sn y).toList) = false := by
  rw [beq_eq_false_iff_ne, sn_list2, sn_list2]
  exact fun h2 => h (dec_inj h2)
theorem sn_neq0 {x : Nat} (h : x ≠ 0) : ((Sn x).toList == [48]) = false := by
  rw [beq_eq_false_iff_ne, sn_list2]
  intro h2
  apply h
  rw [← dval_dec x, h2]; rfl

end Go.Proofs.YtgbcjlknlagoeaaGreatDoor
