/- garboardlaw01.NaturalRing and NaturalUndoes return true: walks. -/
import Derived.Test.YtgbcjlknlagoeaaGreatDoorLon
import Derived.Test.YtgbcjlknlagoeaaGreatDoorMkf
namespace Go.Proofs.YtgbcjlknlagoeaaGreatDoor
open Go.RowKit Go.Gb

theorem sn_zero : Sn 0 = ⟨#[48]⟩ := by decide +kernel
theorem sn_one : Sn 1 = ⟨#[49]⟩ := by decide +kernel
theorem Fit.of {a : ByteArray} (h : vld a.data.toList = true) (hl : a.size ≤ 120) : Sm 120 (dval a.data.toList) := Sm.of h hl
theorem Sm.fit {k n : Nat} (h : Sm k n) (hk : k ≤ 2000) : Fit n := h.mono hk

/-! ### the closures of NaturalRing -/
end Go.Proofs.YtgbcjlknlagoeaaGreatDoor
