/- garboardlaw02.long: walks. -/
import Derived.Test.YtgbcjlknlagoeaaGreatDoorIawk
namespace Go.Proofs.YtgbcjlknlagoeaaGreatDoor
open Go.RowKit Go.Gb

theorem strs_cells1 (w : World) (a : ByteArray) : (w.alloc (.cells #[.string a] 9)).cell? ⟨w.heap.size, 0, none⟩ = some (.string a) := by
  simp

theorem long1_no (g : Nat) (a : ByteArray) (w : World) (ha : a.size ≤ 120) (hc : w.cell? ⟨g, 0, none⟩ = some (.string a)) :
    Calls Tryz.prog 26 #[.slice (some ⟨g, 0, none⟩) 1 1] w fun e w' => e = .returned (.bool false) ∧ w = w' := by
  have c0 := hc
  clear hc
  have ka : ¬ (120 : Int) < (a.size : Int) := by omega
  go_enter Tryz.func26, Tryz.ntmps26
  go_wp2
  refine wp_loop_rounds 2 ?_
  rw [rounds_succ]
  go_wp2
  rw [rounds_succ]
  go_wp2
  go_ret
  exact ⟨rfl, rfl⟩

theorem long1_yes (g : Nat) (a : ByteArray) (w : World) (hab : 120 < a.size) (hc : w.cell? ⟨g, 0, none⟩ = some (.string a)) :
    Calls Tryz.prog 26 #[.slice (some ⟨g, 0, none⟩) 1 1] w fun e w' => e = .returned (.bool true) ∧ w = w' := by
  have c0 := hc
  clear hc
  have ka : (120 : Int) < (a.size : Int) := by omega
  clear hab
  go_enter Tryz.func26, Tryz.ntmps26
  go_wp2
  refine wp_loop_rounds 2 ?_
  rw [rounds_succ]
  go_wp2
  go_ret
  exact ⟨rfl, rfl⟩

theorem strs_cells2 (w : World) (a b : ByteArray) : (w.alloc (.cells #[.string a, .string b] 9)).cell? ⟨w.heap.size, 0, none⟩ = some (.string a) ∧ (w.alloc (.cells #[.string a, .string b] 9)).cell? ⟨w.heap.size, 1, none⟩ = some (.string b) := by
  refine ⟨?_, ?_⟩ <;> simp

theorem long2_no (g : Nat) (a b : ByteArray) (w : World) (ha : a.size ≤ 120) (hb : b.size ≤ 120) (hc : w.cell? ⟨g, 0, none⟩ = some (.string a) ∧ w.cell? ⟨g, 1, none⟩ = some (.string b)) :
    Calls Tryz.prog 26 #[.slice (some ⟨g, 0, none⟩) 2 2] w fun e w' => e = .returned (.bool false) ∧ w = w' := by
  obtain ⟨c0, c1⟩ := hc
  have ka : ¬ (120 : Int) < (a.size : Int) := by omega
  have kb : ¬ (120 : Int) < (b.size : Int) := by omega
  go_enter Tryz.func26, Tryz.ntmps26
  go_wp2
  refine wp_loop_rounds 3 ?_
  rw [rounds_succ]
  go_wp2
  rw [rounds_succ]
  go_wp2
  rw [rounds_succ]
  go_wp2
  go_ret
  exact ⟨rfl, rfl⟩

theorem long2_yes (g : Nat) (a b : ByteArray) (w : World) (hab : 120 < a.size ∨ 120 < b.size) (hc : w.cell? ⟨g, 0, none⟩ = some (.string a) ∧ w.cell? ⟨g, 1, none⟩ = some (.string b)) :
    Calls Tryz.prog 26 #[.slice (some ⟨g, 0, none⟩) 2 2] w fun e w' => e = .returned (.bool true) ∧ w = w' := by
  obtain ⟨c0, c1⟩ := hc
  by_cases ha : 120 < a.size
  · have ka : (120 : Int) < (a.size : Int) := by omega
    clear hab
    go_enter Tryz.func26, Tryz.ntmps26
    go_wp2
    refine wp_loop_rounds 3 ?_
    rw [rounds_succ]
    go_wp2
    go_ret
    exact ⟨rfl, rfl⟩
  · have ka : ¬ (120 : Int) < (a.size : Int) := by omega
    have kb : (120 : Int) < (b.size : Int) := by omega
    clear hab
    go_enter Tryz.func26, Tryz.ntmps26
    go_wp2
    refine wp_loop_rounds 3 ?_
    rw [rounds_succ]
    go_wp2
    rw [rounds_succ]
    go_wp2
    go_ret
    exact ⟨rfl, rfl⟩

theorem strs_cells3 (w : World) (a b c : ByteArray) : (w.alloc (.cells #[.string a, .string b, .string c] 9)).cell? ⟨w.heap.size, 0, none⟩ = some (.string a) ∧ (w.alloc (.cells #[.string a, .string b, .string c] 9)).cell? ⟨w.heap.size, 1, none⟩ = some (.string b) ∧ (w.alloc (.cells #[.string a, .string b, .string c] 9)).cell? ⟨w.heap.size, 2, none⟩ = some (.string c) := by
  refine ⟨?_, ?_, ?_⟩ <;> simp

theorem long3_no (g : Nat) (a b c : ByteArray) (w : World) (ha : a.size ≤ 120) (hb : b.size ≤ 120) (hc : c.size ≤ 120) (hc : w.cell? ⟨g, 0, none⟩ = some (.string a) ∧ w.cell? ⟨g, 1, none⟩ = some (.string b) ∧ w.cell? ⟨g, 2, none⟩ = some (.string c)) :
    Calls Tryz.prog 26 #[.slice (some ⟨g, 0, none⟩) 3 3] w fun e w' => e = .returned (.bool false) ∧ w = w' := by
  obtain ⟨c0, c1, c2⟩ := hc
  have ka : ¬ (120 : Int) < (a.size : Int) := by omega
  have kb : ¬ (120 : Int) < (b.size : Int) := by omega
  have kc : ¬ (120 : Int) < (c.size : Int) := by omega
  go_enter Tryz.func26, Tryz.ntmps26
  go_wp2
  refine wp_loop_rounds 4 ?_
  rw [rounds_succ]
  go_wp2
  rw [rounds_succ]
  go_wp2
  rw [rounds_succ]
  go_wp2
  rw [rounds_succ]
  go_wp2
  go_ret
  exact ⟨rfl, rfl⟩

theorem long3_yes (g : Nat) (a b c : ByteArray) (w : World) (hab : 120 < a.size ∨ 120 < b.size ∨ 120 < c.size) (hc : w.cell? ⟨g, 0, none⟩ = some (.string a) ∧ w.cell? ⟨g, 1, none⟩ = some (.string b) ∧ w.cell? ⟨g, 2, none⟩ = some (.string c)) :
    Calls Tryz.prog 26 #[.slice (some ⟨g, 0, none⟩) 3 3] w fun e w' => e = .returned (.bool true) ∧ w = w' := by
  obtain ⟨c0, c1, c2⟩ := hc
  by_cases ha : 120 < a.size
  · have ka : (120 : Int) < (a.size : Int) := by omega
    clear hab
    go_enter Tryz.func26, Tryz.ntmps26
    go_wp2
    refine wp_loop_rounds 4 ?_
    rw [rounds_succ]
    go_wp2
    go_ret
    exact ⟨rfl, rfl⟩
  · have ka : ¬ (120 : Int) < (a.size : Int) := by omega
    by_cases hb : 120 < b.size
    · have kb : (120 : Int) < (b.size : Int) := by omega
      clear hab
      go_enter Tryz.func26, Tryz.ntmps26
      go_wp2
      refine wp_loop_rounds 4 ?_
      rw [rounds_succ]
      go_wp2
      rw [rounds_succ]
      go_wp2
      go_ret
      exact ⟨rfl, rfl⟩
    · have kb : ¬ (120 : Int) < (b.size : Int) := by omega
      have kc : (120 : Int) < (c.size : Int) := by omega
      clear hab
      go_enter Tryz.func26, Tryz.ntmps26
      go_wp2
      refine wp_loop_rounds 4 ?_
      rw [rounds_succ]
      go_wp2
      rw [rounds_succ]
      go_wp2
      rw [rounds_succ]
      go_wp2
      go_ret
      exact ⟨rfl, rfl⟩

theorem strs_cells4 (w : World) (a b c d : ByteArray) : (w.alloc (.cells #[.string a, .string b, .string c, .string d] 9)).cell? ⟨w.heap.size, 0, none⟩ = some (.string a) ∧ (w.alloc (.cells #[.string a, .string b, .string c, .string d] 9)).cell? ⟨w.heap.size, 1, none⟩ = some (.string b) ∧ (w.alloc (.cells #[.string a, .string b, .string c, .string d] 9)).cell? ⟨w.heap.size, 2, none⟩ = some (.string c) ∧ (w.alloc (.cells #[.string a, .string b, .string c, .string d] 9)).cell? ⟨w.heap.size, 3, none⟩ = some (.string d) := by
  refine ⟨?_, ?_, ?_, ?_⟩ <;> simp

theorem long4_no (g : Nat) (a b c d : ByteArray) (w : World) (ha : a.size ≤ 120) (hb : b.size ≤ 120) (hc : c.size ≤ 120) (hd : d.size ≤ 120) (hc : w.cell? ⟨g, 0, none⟩ = some (.string a) ∧ w.cell? ⟨g, 1, none⟩ = some (.string b) ∧ w.cell? ⟨g, 2, none⟩ = some (.string c) ∧ w.cell? ⟨g, 3, none⟩ = some (.string d)) :
    Calls Tryz.prog 26 #[.slice (some ⟨g, 0, none⟩) 4 4] w fun e w' => e = .returned (.bool false) ∧ w = w' := by
  obtain ⟨c0, c1, c2, c3⟩ := hc
  have ka : ¬ (120 : Int) < (a.size : Int) := by omega
  have kb : ¬ (120 : Int) < (b.size : Int) := by omega
  have kc : ¬ (120 : Int) < (c.size : Int) := by omega
  have kd : ¬ (120 : Int) < (d.size : Int) := by omega
  go_enter Tryz.func26, Tryz.ntmps26
  go_wp2
  refine wp_loop_rounds 5 ?_
  rw [rounds_succ]
  go_wp2
  rw [rounds_succ]
  go_wp2
  rw [rounds_succ]
  go_wp2
  rw [rounds_succ]
  go_wp2
  rw [rounds_succ]
  go_wp2
  go_ret
  exact ⟨rfl, rfl⟩

theorem long4_yes (g : Nat) (a b c d : ByteArray) (w : World) (hab : 120 < a.size ∨ 120 < b.size ∨ 120 < c.size ∨ 120 < d.size) (hc : w.cell? ⟨g, 0, none⟩ = some (.string a) ∧ w.cell? ⟨g, 1, none⟩ = some (.string b) ∧ w.cell? ⟨g, 2, none⟩ = some (.string c) ∧ w.cell? ⟨g, 3, none⟩ = some (.string d)) :
    Calls Tryz.prog 26 #[.slice (some ⟨g, 0, none⟩) 4 4] w fun e w' => e = .returned (.bool true) ∧ w = w' := by
  obtain ⟨c0, c1, c2, c3⟩ := hc
  by_cases ha : 120 < a.size
  · have ka : (120 : Int) < (a.size : Int) := by omega
    clear hab
    go_enter Tryz.func26, Tryz.ntmps26
    go_wp2
    refine wp_loop_rounds 5 ?_
    rw [rounds_succ]
    go_wp2
    go_ret
    exact ⟨rfl, rfl⟩
  · have ka : ¬ (120 : Int) < (a.size : Int) := by omega
    by_cases hb : 120 < b.size
    · have kb : (120 : Int) < (b.size : Int) := by omega
      clear hab
      go_enter Tryz.func26, Tryz.ntmps26
      go_wp2
      refine wp_loop_rounds 5 ?_
      rw [rounds_succ]
      go_wp2
      rw [rounds_succ]
      go_wp2
      go_ret
      exact ⟨rfl, rfl⟩
    · have kb : ¬ (120 : Int) < (b.size : Int) := by omega
      by_cases hc : 120 < c.size
      · have kc : (120 : Int) < (c.size : Int) := by omega
        clear hab
        go_enter Tryz.func26, Tryz.ntmps26
        go_wp2
        refine wp_loop_rounds 5 ?_
        rw [rounds_succ]
        go_wp2
        rw [rounds_succ]
        go_wp2
        rw [rounds_succ]
        go_wp2
        go_ret
        exact ⟨rfl, rfl⟩
      · have kc : ¬ (120 : Int) < (c.size : Int) := by omega
        have kd : (120 : Int) < (d.size : Int) := by omega
        clear hab
        go_enter Tryz.func26, Tryz.ntmps26
        go_wp2
        refine wp_loop_rounds 5 ?_
        rw [rounds_succ]
        go_wp2
        rw [rounds_succ]
        go_wp2
        rw [rounds_succ]
        go_wp2
        rw [rounds_succ]
        go_wp2
        go_ret
        exact ⟨rfl, rfl⟩

end Go.Proofs.YtgbcjlknlagoeaaGreatDoor
