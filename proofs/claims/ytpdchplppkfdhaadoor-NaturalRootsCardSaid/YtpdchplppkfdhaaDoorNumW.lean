/- What it is that a slice reads as a list of numbers. -/
import Derived.Below
import Derived.OneCell
import Derived.Test.YtpdchplppkfdhaaDoorNumC
namespace Go.Gb
open Go.RowKit

/-- The cells of a list of numbers. -/
def cls (k : IntKind) (xs : List Nat) : List Value := xs.map fun (n : Nat) => Value.int k (n : Int)
theorem cls_length (k : IntKind) (xs : List Nat) : (cls k xs).length = xs.length := by simp [cls]
theorem cls_append (k : IntKind) (xs ys : List Nat) : cls k (xs ++ ys) = cls k xs ++ cls k ys := by simp [cls]
theorem cls_get {k : IntKind} {xs : List Nat} {i : Nat} (h : i < xs.length) : (cls k xs)[i]? = some (Value.int k ((xs.getD i 0 : Nat) : Int)) := by
  simp [cls, List.getD, h]
theorem cls_set (k : IntKind) (xs : List Nat) (i v : Nat) : cls k (xs.set i v) = (cls k xs).set i (Value.int k (v : Int)) := by simp [cls, List.map_set]
theorem cls_take (k : IntKind) (xs : List Nat) (n : Nat) : cls k (xs.take n) = (cls k xs).take n := by simp [cls, List.map_take]

/-- The slice v reads, in the world w, as the numbers xs. -/
def Rd (k : IntKind) (w : World) (v : Value) (xs : List Nat) : Prop :=
  (v = .slice none 0 0 ∧ xs = []) ∨
  ∃ b o c, v = .slice (some ⟨b, o, none⟩) xs.length c ∧ xs.length ≤ c ∧ c ≤ maxLen ∧ b < w.heap.size ∧ ∀ i, i < xs.length → w.cell? ⟨b, o + i, none⟩ = some (.int k ((xs.getD i 0 : Nat) : Int))

theorem Rd.below {k : IntKind} {w w' : World} {v : Value} {xs : List Nat} (h : Rd k w v xs) (hb : Below w.heap.size w w') : Rd k w' v xs := by
  rcases h with h | ⟨b, o, c, h1, h2, h3, h4, h5⟩
  · exact Or.inl h
  · exact Or.inr ⟨b, o, c, h1, h2, h3, Nat.lt_of_lt_of_le h4 hb.size, fun i hi => (hb.cell (p := ⟨b, o + i, none⟩) h4).trans (h5 i hi)⟩

/-- The slice v is a row of the call's own (from block B on) that reads as xs. -/
def Own (k : IntKind) (T : TypeId) (B : Nat) (w : World) (v : Value) (xs : List Nat) : Prop := w.ownsRow B T 1 v xs.length (cls k xs)

theorem Own.rd {k : IntKind} {T : TypeId} {B : Nat} {w : World} {v : Value} {xs : List Nat} (h : Own k T B w v xs) : Rd k w v xs := by
  obtain ⟨h1, h2⟩ := h
  rcases h2 with ⟨h2, h3⟩ | ⟨g, cap, cur, hv, hg, hh, hn, hc, hs, ht⟩
  · exact Or.inl ⟨h2, List.length_eq_zero_iff.1 h3⟩
  · refine Or.inr ⟨g, 0, cap, hv, hn, hc, (Array.getElem?_eq_some_iff.1 hh).1, fun i hi => ?_⟩
    have h4 := cls_get (k := k) hi
    rw [← ht, Nat.mul_one, List.getElem?_take, if_pos hi] at h4
    simp only [World.cell?, hh, Nat.zero_add]
    simpa using h4

theorem Own.nil (k : IntKind) (T : TypeId) (B : Nat) (w : World) : Own k T B w (.slice none 0 0) [] := World.ownsRow_nil w B T 1
theorem Own.mono {k : IntKind} {T : TypeId} {B B' : Nat} {w : World} {v : Value} {xs : List Nat} (h : Own k T B w v xs) (hB : B' ≤ B) : Own k T B' w v xs := by
  obtain ⟨h1, h2⟩ := h
  refine ⟨h1, ?_⟩
  rcases h2 with h2 | ⟨g, cap, cur, hv, hg, r⟩
  · exact Or.inl h2
  · exact Or.inr ⟨g, cap, cur, hv, by omega, r⟩
/-- What a later call makes of its own does not touch it. -/
theorem Own.below {k : IntKind} {T : TypeId} {B : Nat} {w w' : World} {v : Value} {xs : List Nat} (h : Own k T B w v xs) (hb : Below w.heap.size w w') : Own k T B w' v xs := by
  obtain ⟨h1, h2⟩ := h
  refine ⟨h1, ?_⟩
  rcases h2 with h2 | ⟨g, cap, cur, hv, hg, hh, r⟩
  · exact Or.inl h2
  · exact Or.inr ⟨g, cap, cur, hv, hg, by rw [hb.block g (Array.getElem?_eq_some_iff.1 hh).1]; exact hh, r⟩
/-- A shorter beginning of it. -/
theorem Own.take {k : IntKind} {T : TypeId} {B : Nat} {w : World} {a : Option Addr} {n c : Nat} {xs : List Nat} (h : Own k T B w (.slice a n c) xs) (m : Nat) (hm : m ≤ xs.length) : Own k T B w (.slice a m c) (xs.take m) := by
  obtain ⟨h1, h2⟩ := h
  refine ⟨by simp [cls], ?_⟩
  rcases h2 with ⟨h2, h3⟩ | ⟨g, cap, cur, hv, hg, hh, hn, hc, hs, ht⟩
  · injection h2 with e1 e2 e3
    subst e1 e2 e3
    obtain rfl : m = 0 := by omega
    left; simp
  · injection hv with e1 e2 e3
    subst e1 e2 e3
    refine Or.inr ⟨g, c, cur, by simp [Nat.min_eq_left hm], hg, hh, by simp; omega, hc, hs, ?_⟩
    rw [cls_take, ← ht, List.take_take, List.length_take, Nat.mul_one, Nat.mul_one, Nat.min_eq_left hm]

end Go.Gb
