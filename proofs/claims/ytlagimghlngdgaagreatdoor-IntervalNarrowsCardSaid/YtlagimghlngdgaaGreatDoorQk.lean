/- rational.Make, powerOfTen, nearest, placePoint, Decimal: walks. -/
import Derived.Test.YtlagimghlngdgaaGreatDoorQj
namespace Go.Proofs.YtlagimghlngdgaaGreatDoor
open Go.RowKit Go.Gb

set_option maxHeartbeats 2000000 in
set_option maxRecDepth 100000 in
theorem make_raw (a b n d r : ByteArray) (hb0 : (b.toList == [48]) = false) (w : World) (hl : La w)
    (h1 : ∀ W, La W → Calls Tryz.prog 57 #[.string a] W fun e w' => e = .returned (.bool true) ∧ Below W.heap.size W w')
    (h2 : ∀ W, La W → Calls Tryz.prog 57 #[.string b] W fun e w' => e = .returned (.bool true) ∧ Below W.heap.size W w')
    (h3 : ∀ W, La W → Calls Tryz.prog 58 #[.string a, .string b] W fun e w' => e = .returned (.agg #[.string n, .string d]) ∧ Below W.heap.size W w')
    (h4 : ∀ W, Calls Tryz.prog 59 #[.agg #[.string n, .string d]] W fun e w' => e = .returned (.string r) ∧ Below W.heap.size W w') :
    Calls Tryz.prog 25 #[.string a, .string b] w fun e w' => e = .returned (.tuple #[.string r, .int .i64 0]) ∧ Below w.heap.size w w' := by
  have C1 := Lib.hid h1
  have C2 := Lib.hid h2
  have C3 := Lib.hid h3
  have C4 := Lib.hid h4
  have HL := Lib.hid hl
  have HB0 := Lib.hid (Below.refl w.heap.size w)
  clear h1 h2 h3 h4 hl
  go_enter Tryz.func25, Tryz.ntmps25
  go_wp2_with fail
  refine (C1.out _ (HL.out.on HB0.out)).mono ?_
  rintro e w1 ⟨rfl, hb⟩
  have HB1 := Lib.hid (HB0.out.trans (hb.mono HB0.out.size))
  clear hb
  go_wp2_with fail
  refine (C2.out _ (HL.out.on HB1.out)).mono ?_
  rintro e w2 ⟨rfl, hb⟩
  have HB2 := Lib.hid (HB1.out.trans (hb.mono HB1.out.size))
  clear hb
  go_wp2_with fail
  refine (C3.out _ (HL.out.on HB2.out)).mono ?_
  rintro e w3 ⟨rfl, hb⟩
  have HB3 := Lib.hid (HB2.out.trans (hb.mono HB2.out.size))
  clear hb
  go_wp2_with fail
  refine (C4.out _).mono ?_
  rintro e w4 ⟨rfl, hb⟩
  have HB4 := Lib.hid (HB3.out.trans (hb.mono HB3.out.size))
  clear hb
  go_wp2
  go_ret2
  exact ⟨rfl, HB4.out⟩
theorem divInt_le (a b : Int) (hb : b ≠ 0) : (Rat.divInt a b).num.natAbs ≤ a.natAbs ∧ (Rat.divInt a b).den ≤ b.natAbs := by
  rcases Int.lt_or_gt_of_ne hb with h | h
  · obtain ⟨n, hn⟩ : ∃ n : Nat, b = -(n : Int) := ⟨b.natAbs, by omega⟩
    subst hn
    have h2 := mk_le (-a) n (by omega)
    rw [Rat.divInt_neg', Rat.divInt_ofNat]
    rw [Int.natAbs_neg] at h2
    rw [Int.natAbs_neg, Int.natAbs_natCast]
    exact h2
  · obtain ⟨n, hn⟩ : ∃ n : Nat, b = (n : Int) := ⟨b.natAbs, by omega⟩
    subst hn
    rw [Rat.divInt_ofNat, Int.natAbs_natCast]
    exact mk_le a n (by omega)
theorem smq_divInt {k : Nat} {a b : Int} (hb : b ≠ 0) (ha : Sm k a.natAbs) (h : Sm k b.natAbs) : SmQ k (Rat.divInt a b) := by
  obtain ⟨e1, e2⟩ := divInt_le a b hb
  exact ⟨ha.le e1, h.le e2⟩
theorem qMake (a b : Int) (hb : b ≠ 0) (ha : FitL a) (fb : FitL b) (w : World) (hl : La w) :
    Calls Tryz.prog 25 #[.string (Sz a), .string (Sz b)] w fun e w' => e = .returned (.tuple #[.string (Sq (Rat.divInt a b)), .int .i64 0]) ∧ Below w.heap.size w w' := by
  have hs : SmQ 1900 (Rat.divInt a b) := smq_divInt hb ha fb
  have h3 := fun W hW => freduce a b hb ha fb W hW
  unfold Fv at h3
  exact make_raw _ _ _ _ _ (sz_neq0 hb) w hl (fun W hW => zValid_yes a ha.z W hW.zz) (fun W hW => zValid_yes b fb.z W hW.zz) h3 (fun W => fwrite _ hs.1 (FitL.nat hs.2) W)
end Go.Proofs.YtlagimghlngdgaaGreatDoor
