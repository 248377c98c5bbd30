/- A block of bytes whose first bytes are known. -/
import Derived.Test.YtgbcjlknlagoeaaGreatDoorMwd
namespace Go.Proofs.YtgbcjlknlagoeaaGreatDoor
open Go.RowKit Go.Gb

/-- Block g, of cap cells, begins with the bytes bs. -/
def RowB (w : World) (g cap : Nat) (bs : List UInt8) : Prop := ∃ cur : Array Value, w.heap[g]? = some (.cells cur 5 (0, 0)) ∧ cur.size = cap ∧ bs.length ≤ cap ∧ cur.toList.take bs.length = Lib.byteCells bs
theorem RowB.le {w : World} {g cap : Nat} {bs : List UInt8} (h : RowB w g cap bs) : bs.length ≤ cap := by
  obtain ⟨cur, _, _, h3, _⟩ := h
  exact h3
theorem byteCells_get {bs : List UInt8} {i : Nat} (h : i < bs.length) : (Lib.byteCells bs)[i]? = some (.int .u8 ((bs.getD i 0).toNat : Int)) := by
  simp [Lib.byteCells, List.getD, h]
theorem RowB.cell {w : World} {g cap : Nat} {bs : List UInt8} (h : RowB w g cap bs) {i : Nat} (hi : i < bs.length) : w.cell? ⟨g, i, none⟩ = some (.int .u8 ((bs.getD i 0).toNat : Int)) := by
  obtain ⟨cur, h1, h2, h3, h4⟩ := h
  have h5 := byteCells_get hi
  rw [← h4, List.getElem?_take, if_pos hi] at h5
  simp only [World.cell?, h1]
  simpa using h5
theorem RowB.free {w : World} {g cap : Nat} {bs : List UInt8} (h : RowB w g cap bs) (i : Nat) : w.frozen? ⟨g, i, none⟩ = false := by
  obtain ⟨cur, h1, h2, h3, h4⟩ := h
  simp only [World.frozen?, h1]
  simp
theorem RowB.set {w : World} {g cap : Nat} {bs : List UInt8} (h : RowB w g cap bs) (i : Nat) (v : UInt8) : RowB (w.setCell ⟨g, i, none⟩ (.int .u8 (v.toNat : Int))) g cap (bs.set i v) := by
  obtain ⟨cur, h1, h2, h3, h4⟩ := h
  refine ⟨cur.setIfInBounds i (.int .u8 (v.toNat : Int)), ?_, by simp [h2], by simpa using h3, ?_⟩
  · simp only [World.setCell, Array.getElem?_modify, h1]
    simp
  · rw [List.length_set, Lib.byteCells, List.map_set, Array.toList_setIfInBounds, List.take_set, h4]
    rfl
theorem RowB.drewN {w : World} {g cap : Nat} {bs : List UInt8} (h : RowB w g cap bs) (n : Nat) : RowB (w.drewN n) g cap bs := h
theorem RowB.of_own {w : World} {B : Nat} {v : Value} {bs : List UInt8} (h : w.ownsRow B 5 1 v bs.length (Lib.byteCells bs)) (hp : 0 < bs.length) : ∃ g cap, v = .slice (some ⟨g, 0, none⟩) bs.length cap ∧ B ≤ g ∧ cap ≤ maxLen ∧ RowB w g cap bs := by
  obtain ⟨h1, h2⟩ := h
  rcases h2 with ⟨h2, h3⟩ | ⟨g, cap, cur, hv, hg, hh, hn, hc, hs, ht⟩
  · omega
  · rw [Nat.mul_one] at hs ht
    exact ⟨g, cap, hv, hg, hc, cur, hh, hs, hn, ht⟩

end Go.Proofs.YtgbcjlknlagoeaaGreatDoor
