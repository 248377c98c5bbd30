/- A map literal and a look-up in it, entry by entry, whatever the elements are. No program is mentioned. -/
import Derived.MapKept
import Derived.Carry
import Derived.OwnWalk
import Derived.WalkKit
namespace Go.Gb
open Go Go.MapKept Go.RowKit

/-- What has become of the world when block b alone was written. -/
structure PutAt (b : Nat) (es : Array MapEntry) (clock : Nat) (w w' : World) : Prop where
  below : Below b w w'
  size : w'.heap.size = w.heap.size
  here : w'.heap[b]? = some (.map es clock)

/-- A store of a key that is not there. -/
theorem map_put {P : Program} (w : World) (t k e : TypeId) (d : TypeDesc) (ht : P.underlying t = some (.map k e)) (hd : P.underlying k = some d) (b : Nat) (es : Array MapEntry) (clock : Nat)
    (hb : w.heap[b]? = some (.map es clock)) (key val : Value) (hk : IsKey d key) (hf : Instr.findNow d key es.toList 0 = some none) :
    ∃ w', (Instr.mapUpdate t (.map (some b)) key val).run P w = .ok () w' ∧ PutAt b (es.push ⟨key, val, clock⟩) (clock + 1) w w' := by
  have hrun : (Instr.mapUpdate t (.map (some b)) key val).run P w = .ok () { w with heap := w.heap.setIfInBounds b (.map (es.push ⟨key, val, clock⟩) (clock + 1)) } := by
    simp [Instr.mapUpdate, run_underlying ht, MapKept.run_getObj_map hb, MapKept.run_checkKey hd hk, MapKept.run_findKey hd hf, MapKept.run_setObj_map _ hb, Result.andThen]
  refine ⟨_, hrun, ?_⟩
  have hlt : b < w.heap.size := by
    rcases Nat.lt_or_ge b w.heap.size with h | h
    · exact h
    · rw [Array.getElem?_eq_none h] at hb; cases hb
  refine ⟨⟨rfl, rfl, rfl, by simp, fun i hi => ?_⟩, by simp, ?_⟩
  · show (w.heap.setIfInBounds b _)[i]? = w.heap[i]?
    rw [Array.getElem?_setIfInBounds_ne (by omega)]
  · show (w.heap.setIfInBounds b _)[b]? = _
    rw [Array.getElem?_setIfInBounds_self_of_lt hlt]

/-- A look-up of a key that is there. -/
theorem map_get {P : Program} (w : World) (t k e : TypeId) (d : TypeDesc) (ht : P.underlying t = some (.map k e)) (hd : P.underlying k = some d) (b : Nat) (es : Array MapEntry) (clock : Nat)
    (hb : w.heap[b]? = some (.map es clock)) (key : Value) (hk : IsKey d key) (i : Nat) (val : Value) (hf : Instr.findNow d key es.toList 0 = some (some (i, val))) :
    (Instr.lookup t (.map (some b)) key false).run P w = .ok val w := by
  simp [Instr.lookup, run_underlying ht, MapKept.run_getObj_map hb, MapKept.run_checkKey hd hk, MapKept.run_findKey hd hf, Result.andThen]

end Go.Gb
