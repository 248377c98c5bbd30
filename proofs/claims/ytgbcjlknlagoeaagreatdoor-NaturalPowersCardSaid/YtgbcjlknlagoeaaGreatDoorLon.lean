/- garboardlaw01.long: walks. -/
import Derived.Test.YtgbcjlknlagoeaaGreatDoorAwk
namespace Go.Proofs.YtgbcjlknlagoeaaGreatDoor
open Go.RowKit Go.Gb

theorem strs_cells1 (w : World) (a : ByteArray) : (w.alloc (.cells #[.string a] 9)).cell? ⟨w.heap.size, 0, none⟩ = some (.string a) := by
  simp

theorem nlong1_no (g : Nat) (a : ByteArray) (w : World) (ha : a.size ≤ 120) (hc : w.cell? ⟨g, 0, none⟩ = some (.string a)) :
    Calls Tryz.prog 10 #[.slice (some ⟨g, 0, none⟩) 1 1] w fun e w' => e = .returned (.bool false) ∧ w = w' := by
  have c0 := hc
  clear hc
  have ka : ¬ (120 : Int) < (a.size : Int) := by omega
  go_enter Tryz.func10, Tryz.ntmps10
  go_wp2
  refine wp_loop_rounds 2 ?_
  rw [rounds_succ]
  go_wp2
  rw [rounds_succ]
  go_wp2
  go_ret
  exact ⟨rfl, rfl⟩

theorem nlong1_yes (g : Nat) (a : ByteArray) (w : World) (hab : 120 < a.size) (hc : w.cell? ⟨g, 0, none⟩ = some (.string a)) :
    Calls Tryz.prog 10 #[.slice (some ⟨g, 0, none⟩) 1 1] w fun e w' => e = .returned (.bool true) ∧ w = w' := by
  have c0 := hc
  clear hc
  have ka : (120 : Int) < (a.size : Int) := by omega
  clear hab
  go_enter Tryz.func10, Tryz.ntmps10
  go_wp2
  refine wp_loop_rounds 2 ?_
  rw [rounds_succ]
  go_wp2
  go_ret
  exact ⟨rfl, rfl⟩

theorem strs_cells2 (w : World) (a b : ByteArray) : (w.alloc (.cells #[.string a, .string b] 9)).cell? ⟨w.heap.size, 0, none⟩ = some (.string a) ∧ (w.alloc (.cells #[.string a, .string b] 9)).cell? ⟨w.heap.size, 1, none⟩ = some (.string b) := by
  refine ⟨?_, ?_⟩ <;> simp

theorem nlong2_no (g : Nat) (a b : ByteArray) (w : World) (ha : a.size ≤ 120) (hb : b.size ≤ 120) (hc : w.cell? ⟨g, 0, none⟩ = some (.string a) ∧ w.cell? ⟨g, 1, none⟩ = some (.string b)) :
    Calls Tryz.prog 10 #[.slice (some ⟨g, 0, none⟩) 2 2] w fun e w' => e = .returned (.bool false) ∧ w = w' := by
  obtain ⟨c0, c1⟩ := hc
  have ka : ¬ (120 : Int) < (a.size : Int) := by omega
  have kb : ¬ (120 : Int) < (b.size : Int) := by omega
  go_enter Tryz.func10, Tryz.ntmps10
  go_wp2
  refine wp_loop_rounds 3 ?_
  rw [rounds_succ]
  go_wp2
  rw [rounds_succ]
  go_wp2
  rw [rounds_succ]
  go_wp2
  go_ret
  exact ⟨rfl, rfl⟩

theorem nlong2_yes (g : Nat) (a b : ByteArray) (w : World) (hab : 120 < a.size ∨ 120 < b.size) (hc : w.cell? ⟨g, 0, none⟩ = some (.string a) ∧ w.cell? ⟨g, 1, none⟩ = some (.string b)) :
    Calls Tryz.prog 10 #[.slice (some ⟨g, 0, none⟩) 2 2] w fun e w' => e = .returned (.bool true) ∧ w = w' := by
  obtain ⟨c0, c1⟩ := hc
  by_cases ha : 120 < a.size
  · have ka : (120 : Int) < (a.size : Int) := by omega
    clear hab
    go_enter Tryz.func10, Tryz.ntmps10
    go_wp2
    refine wp_loop_rounds 3 ?_
    rw [rounds_succ]
    go_wp2
    go_ret
    exact ⟨rfl, rfl⟩
  · have ka : ¬ (120 : Int) < (a.size : Int) := by omega
    have kb : (120 : Int) < (b.size : Int) := by omega
    clear hab
    go_enter Tryz.func10, Tryz.ntmps10
    go_wp2
    refine wp_loop_rounds 3 ?_
    rw [rounds_succ]
    go_wp2
    rw [rounds_succ]
    go_wp2
    go_ret
    exact ⟨rfl, rfl⟩

theorem strs_cells3 (w : World) (a b c : ByteArray) : (w.alloc (.cells #[.string a, .string b, .string c] 9)).cell? ⟨w.heap.size, 0, none⟩ = some (.string a) ∧ (w.alloc (.cells #[.string a, .string b, .string c] 9)).cell? ⟨w.heap.size, 1, none⟩ = some (.string b) ∧ (w.alloc (.cells #[.string a, .string b, .string c] 9)).cell? ⟨w.heap.size, 2, none⟩ = some (.string c) := by
  refine ⟨?_, ?_, ?_⟩ <;> simp

theorem nlong3_no (g : Nat) (a b c : ByteArray) (w : World) (ha : a.size ≤ 120) (hb : b.size ≤ 120) (hc : c.size ≤ 120) (hc : w.cell? ⟨g, 0, none⟩ = some (.string a) ∧ w.cell? ⟨g, 1, none⟩ = some (.string b) ∧ w.cell? ⟨g, 2, none⟩ = some (.string c)) :
    Calls Tryz.prog 10 #[.slice (some ⟨g, 0, none⟩) 3 3] w fun e w' => e = .returned (.bool false) ∧ w = w' := by
  obtain ⟨c0, c1, c2⟩ := hc
  have ka : ¬ (120 : Int) < (a.size : Int) := by omega
  have kb : ¬ (120 : Int) < (b.size : Int) := by omega
  have kc : ¬ (120 : Int) < (c.size : Int) := by omega
  go_enter Tryz.func10, Tryz.ntmps10
  go_wp2
  refine wp_loop_rounds 4 ?_
  rw [rounds_succ]
  go_wp2
  rw [rounds_succ]
  go_wp2
  rw [rounds_succ]
  go_wp2
  rw [rounds_succ]
  go_wp2
  go_ret
  exact ⟨rfl, rfl⟩

theorem nlong3_yes (g : Nat) (a b c : ByteArray) (w : World) (hab : 120 < a.size ∨ 120 < b.size ∨ 120 < c.size) (hc : w.cell? ⟨g, 0, none⟩ = some (.string a) ∧ w.cell? ⟨g, 1, none⟩ = some (.string b) ∧ w.cell? ⟨g, 2, none⟩ = some (.string c)) :
    Calls Tryz.prog 10 #[.slice (some ⟨g, 0, none⟩) 3 3] w fun e w' => e = .returned (.bool true) ∧ w = w' := by
  obtain ⟨c0, c1, c2⟩ := hc
  by_cases ha : 120 < a.size
  · have ka : (120 : Int) < (a.size : Int) := by omega
    clear hab
    go_enter Tryz.func10, Tryz.ntmps10
    go_wp2
    refine wp_loop_rounds 4 ?_
    rw [rounds_succ]
    go_wp2
    go_ret
    exact ⟨rfl, rfl⟩
  · have ka : ¬ (120 : Int) < (a.size : Int) := by omega
    by_cases hb : 120 < b.size
    · have kb : (120 : Int) < (b.size : Int) := by omega
      clear hab
      go_enter Tryz.func10, Tryz.ntmps10
      go_wp2
      refine wp_loop_rounds 4 ?_
      rw [rounds_succ]
      go_wp2
      rw [rounds_succ]
      go_wp2
      go_ret
      exact ⟨rfl, rfl⟩
    · have kb : ¬ (120 : Int) < (b.size : Int) := by omega
      have kc : (120 : Int) < (c.size : Int) := by omega
      clear hab
      go_enter Tryz.func10, Tryz.ntmps10
      go_wp2
      refine wp_loop_rounds 4 ?_
      rw [rounds_succ]
      go_wp2
      rw [rounds_succ]
      go_wp2
      rw [rounds_succ]
      go_wp2
      go_ret
      exact ⟨rfl, rfl⟩

end Go.Proofs.YtgbcjlknlagoeaaGreatDoor
