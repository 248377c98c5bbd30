/- Texts of this proof, one behind the other. -/
import Derived.Test.YtlagimghlngdgaaGreatDoorQk
import Derived.Test.YtlagimghlngdgaaGreatDoorMre
import Derived.Test.YtlagimghlngdgaaGreatDoorShel2
import Derived.Shelf.Strings.SlTrimAscii
/- rational.simplest: walks. -/
namespace Go.Proofs.YtlagimghlngdgaaGreatDoor
open Go.RowKit Go.Gb

/-- The five fractions of simplest: low, high, the result, before, last. -/
def Mem (w w' : World) (f : Nat → ByteArray × ByteArray) : Prop := Below w.heap.size w w' ∧ w.heap.size + 5 ≤ w'.heap.size ∧ ∀ k, k < 5 → (w'.cell? ⟨w.heap.size + k, 0, none⟩ = some (.string (f k).1) ∧ w'.cell? ⟨w.heap.size + k, 1, none⟩ = some (.string (f k).2) ∧ w'.frozen? ⟨w.heap.size + k, 0, none⟩ = false ∧ w'.frozen? ⟨w.heap.size + k, 1, none⟩ = false)
theorem Mem.call {w a b : World} {f : Nat → ByteArray × ByteArray} (h : Mem w a f) (hb : Below a.heap.size a b) : Mem w b f := by
  obtain ⟨h1, h2, h3⟩ := h
  refine ⟨h1.trans (hb.mono h1.size), Nat.le_trans h2 hb.size, fun k hk => ?_⟩
  obtain ⟨c0, c1, f0, f1⟩ := h3 k hk
  exact ⟨(hb.cell (p := ⟨w.heap.size + k, 0, none⟩) (by show w.heap.size + k < _; omega)).trans c0, (hb.cell (p := ⟨w.heap.size + k, 1, none⟩) (by show w.heap.size + k < _; omega)).trans c1, (hb.frozen (p := ⟨w.heap.size + k, 0, none⟩) (by show w.heap.size + k < _; omega)).trans f0, (hb.frozen (p := ⟨w.heap.size + k, 1, none⟩) (by show w.heap.size + k < _; omega)).trans f1⟩
theorem Mem.drew {w a : World} {f : Nat → ByteArray × ByteArray} (h : Mem w a f) : Mem w a.drew f := ⟨h.1.drew, h.2.1, h.2.2⟩
def upd (f : Nat → ByteArray × ByteArray) (k : Nat) (u v : ByteArray) : Nat → ByteArray × ByteArray := fun j => if j = k then (u, v) else f j
theorem q_same {w : World} {v u : Value} {b i : Nat} (h : w.cell? ⟨b, i, none⟩ = some u) : (w.setCell ⟨b, i, none⟩ v).cell? ⟨b, i, none⟩ = some v := World.cell?_setCell_same _ _ _ h
theorem q_off {w : World} {v : Value} {b i k : Nat} (h : i ≠ k) : (w.setCell ⟨b, i, none⟩ v).cell? ⟨b, k, none⟩ = w.cell? ⟨b, k, none⟩ := World.cell?_setCell_other _ _ _ _ (by intro e; injection e with e1 e2; exact h e2)
theorem fq_set {w : World} {v : Value} {p q : Addr} : (w.setCell p v).frozen? q = w.frozen? q := by simp
theorem Mem.store {w a : World} {f : Nat → ByteArray × ByteArray} (h : Mem w a f) (k : Nat) (hk : k < 5) (u v : ByteArray) : Mem w ((a.setCell ⟨w.heap.size + k, 0, none⟩ (.string u)).setCell ⟨w.heap.size + k, 1, none⟩ (.string v)) (upd f k u v) := by
  obtain ⟨h1, h2, h3⟩ := h
  refine ⟨(h1.setCell (p := ⟨w.heap.size + k, 0, none⟩) (by show w.heap.size ≤ w.heap.size + k; omega) _).setCell (p := ⟨w.heap.size + k, 1, none⟩) (by show w.heap.size ≤ w.heap.size + k; omega) _, by simpa using h2, fun j hj => ?_⟩
  obtain ⟨c0, c1, f0, f1⟩ := h3 j hj
  rw [fq_set, fq_set, fq_set, fq_set]
  unfold upd
  by_cases hjk : j = k
  · subst hjk
    rw [if_pos rfl]
    exact ⟨(q_off (by decide)).trans (q_same c0), q_same ((q_off (by decide)).trans c1), f0, f1⟩
  · rw [if_neg hjk]
    exact ⟨(q_set (by omega)).trans ((q_set (by omega)).trans c0), (q_set (by omega)).trans ((q_set (by omega)).trans c1), f0, f1⟩
/-- The facts in the walk's own spelling. -/
theorem Mem.facts {w a : World} {f : Nat → ByteArray × ByteArray} (h : Mem w a f) :
    (a.cell? ⟨w.heap.size, 0, none⟩ = some (.string (f 0).1) ∧ a.cell? ⟨w.heap.size, 1, none⟩ = some (.string (f 0).2) ∧ a.frozen? ⟨w.heap.size, 0, none⟩ = false ∧ a.frozen? ⟨w.heap.size, 1, none⟩ = false) ∧
    (a.cell? ⟨w.heap.size + 1, 0, none⟩ = some (.string (f 1).1) ∧ a.cell? ⟨w.heap.size + 1, 1, none⟩ = some (.string (f 1).2) ∧ a.frozen? ⟨w.heap.size + 1, 0, none⟩ = false ∧ a.frozen? ⟨w.heap.size + 1, 1, none⟩ = false) ∧
    (a.cell? ⟨w.heap.size + 1 + 1, 0, none⟩ = some (.string (f 2).1) ∧ a.cell? ⟨w.heap.size + 1 + 1, 1, none⟩ = some (.string (f 2).2) ∧ a.frozen? ⟨w.heap.size + 1 + 1, 0, none⟩ = false ∧ a.frozen? ⟨w.heap.size + 1 + 1, 1, none⟩ = false) ∧
    (a.cell? ⟨w.heap.size + 1 + 1 + 1, 0, none⟩ = some (.string (f 3).1) ∧ a.cell? ⟨w.heap.size + 1 + 1 + 1, 1, none⟩ = some (.string (f 3).2) ∧ a.frozen? ⟨w.heap.size + 1 + 1 + 1, 0, none⟩ = false ∧ a.frozen? ⟨w.heap.size + 1 + 1 + 1, 1, none⟩ = false) ∧
    (a.cell? ⟨w.heap.size + 1 + 1 + 1 + 1, 0, none⟩ = some (.string (f 4).1) ∧ a.cell? ⟨w.heap.size + 1 + 1 + 1 + 1, 1, none⟩ = some (.string (f 4).2) ∧ a.frozen? ⟨w.heap.size + 1 + 1 + 1 + 1, 0, none⟩ = false ∧ a.frozen? ⟨w.heap.size + 1 + 1 + 1 + 1, 1, none⟩ = false) :=
  ⟨h.2.2 0 (by decide), h.2.2 1 (by decide), h.2.2 2 (by decide), h.2.2 3 (by decide), h.2.2 4 (by decide)⟩

end Go.Proofs.YtlagimghlngdgaaGreatDoor
/- rational.Simplest, Decimal, Parse. -/
namespace Go.Proofs.YtlagimghlngdgaaGreatDoor
open Go.RowKit Go.Gb

theorem flS {z : Int} (h : z.natAbs < 10) : FitL z := FitL.of (k := 1) (by unfold Sm; omega) (by decide)
theorem fitq_small {q : Rat} (h1 : q.num.natAbs < 1000) (h2 : q.den < 1000) : FitQ q := ⟨(show Sm 3 _ by unfold Sm; omega).mono (by decide), (show Sm 3 _ by unfold Sm; omega).mono (by decide)⟩
theorem qnd (q : Rat) (n : Int) (d : Nat) (a x y : ByteArray) (h : q.num = n ∧ q.den = d ∧ Sq q = a ∧ Sz n = x ∧ Sz (d : Int) = y) : Sq q = a ∧ Fv q = .agg #[.string x, .string y] := by
  obtain ⟨h1, h2, h3, h4, h5⟩ := h
  refine ⟨h3, ?_⟩
  unfold Fv
  rw [h1, h2, h4, h5]
theorem q5 : Sq 5 = ⟨#[53]⟩ ∧ Fv 5 = .agg #[.string ⟨#[53]⟩, .string ⟨#[49]⟩] := qnd _ 5 1 _ _ _ (by decide +kernel)
end Go.Proofs.YtlagimghlngdgaaGreatDoor
/- The examples of chapter 3; garboardlaw03.awake. -/
namespace Go.Proofs.YtlagimghlngdgaaGreatDoor
open Go.RowKit Go.Gb

theorem q_0 : Sq (0 : Rat) = ⟨#[48]⟩ := by decide +kernel
theorem q_1 : Sq (1 : Rat) = ⟨#[49]⟩ := by decide +kernel
end Go.Proofs.YtlagimghlngdgaaGreatDoor
