/- Texts of this proof, one behind the other. -/
import Derived.Test.YtlagimghlngdgaaGreatDoorMql
import Derived.Deep.RegionHeld3
/- interval: order, Valid, has, Has, Exact, Sign, Add, Sub. -/
namespace Go.Proofs.YtlagimghlngdgaaGreatDoor
open Go.RowKit Go.Gb

set_option maxHeartbeats 2000000 in
set_option maxRecDepth 100000 in
theorem compare_no (a b : ByteArray) (w : World) (h1 : Calls Tryz.prog 50 #[.string a, .string b] w (BothB false w)) :
    Calls Tryz.prog 21 #[.string a, .string b] w fun e w' => e = .returned (.tuple #[.int .i64 0, .int .i64 1]) ∧ Below w.heap.size w w' := by
  have C1 := Lib.hid h1
  clear h1
  go_enter Tryz.func21, Tryz.ntmps21
  go_wp2_with fail
  refine C1.out.mono ?_
  rintro e w1 ⟨⟨x1, x2, y1, y2, rfl⟩, hb⟩
  have HB := Lib.hid ((hb.alloc hb.size (.cells #[.string x1, .string x2] 70)).alloc (by have := hb.size; simp; omega) (.cells #[.string y1, .string y2] 70))
  clear hb
  go_wp2
  go_ret2
  exact ⟨rfl, HB.out⟩
set_option maxHeartbeats 2000000 in
set_option maxRecDepth 100000 in
theorem iorder_raw (a b : ByteArray) (c n : Int) (w : World) (h1 : Calls Tryz.prog 21 #[.string a, .string b] w fun e w' => e = .returned (.tuple #[.int .i64 c, .int .i64 n]) ∧ Below w.heap.size w w') :
    Calls Tryz.prog 81 #[.string a, .string b] w fun e w' => e = .returned (.int .i64 c) ∧ Below w.heap.size w w' := by
  have C1 := Lib.hid h1
  clear h1
  go_enter Tryz.func81, Tryz.ntmps81
  go_wp2_with fail
  refine C1.out.mono ?_
  rintro e w1 ⟨rfl, hb⟩
  go_wp2
  go_ret
  exact ⟨rfl, hb⟩
set_option maxHeartbeats 2000000 in
set_option maxRecDepth 100000 in
theorem ivalid_yes_raw (l h : ByteArray) (c : Int) (hc : c ≤ 0) (w : World) (hl : La w)
    (h1 : ∀ W, La W → Calls Tryz.prog 21 #[.string l, .string h] W fun e w' => e = .returned (.tuple #[.int .i64 c, .int .i64 0]) ∧ Below W.heap.size W w') :
    Calls Tryz.prog 34 #[.agg #[.string l, .string h]] w fun e w' => e = .returned (.bool true) ∧ Below w.heap.size w w' := by
  have C1 := Lib.hid h1
  obtain ⟨w0, hw0⟩ : ∃ w0 : World, w0 = (w.alloc (.cells #[.string l, .string h] 48)) := ⟨_, rfl⟩
  have hz0 : w0.heap.size = w.heap.size + 1 := by rw [hw0]; simp
  have hB0 : Below w.heap.size w w0 := by
    rw [hw0]
    repeat (first | exact Below.refl _ _ | refine Below.setCell ?_ (by first | omega | (simp; omega) | simp) _ | refine Below.alloc ?_ (by first | omega | (simp; omega) | simp) _ | refine Below.drew ?_)
  have hS0 : w0.cell? ⟨w.heap.size, 0, none⟩ = some (.string l) ∧ w0.cell? ⟨w.heap.size, 1, none⟩ = some (.string h) := by rw [hw0]; exact ⟨((q_new (by first | omega | (simp; done) | (simp; omega))).trans rfl), ((q_new (by first | omega | (simp; done) | (simp; omega))).trans rfl)⟩
  have KS := Lib.hid (show ∀ W : World, Below w0.heap.size w0 W → (W.cell? ⟨w.heap.size, 0, none⟩ = some (.string l) ∧ W.cell? ⟨w.heap.size, 1, none⟩ = some (.string h)) from fun W hB => by
    obtain ⟨c0, c1⟩ := hS0
    exact ⟨(hB.cell (p := ⟨w.heap.size, 0, none⟩) (by show w.heap.size < _; omega)).trans c0, (hB.cell (p := ⟨w.heap.size, 1, none⟩) (by show w.heap.size < _; omega)).trans c1⟩)
  have KZ := Lib.hid (show ∀ W : World, Below w0.heap.size w0 W → w.heap.size + 1 ≤ W.heap.size from fun W hB => by have := hB.size; omega)
  have KB := Lib.hid (show ∀ W : World, Below w0.heap.size w0 W → Below w.heap.size w W from fun W hB => hB0.trans (hB.mono (by omega)))
  have F0 := Lib.hid (Below.refl w0.heap.size w0)
  have HW0 := Lib.hid hw0
  clear hz0 hB0 hS0 hw0
  have HL := Lib.hid (show ∀ W : World, Below w0.heap.size w0 W → La W from fun W hB => hl.on (KB.out W hB))
  clear hl
  clear h1
  go_enter Tryz.func34, Tryz.ntmps34
  go_wp2_with fail
  rw [← HW0.out]
  obtain ⟨d0, d1⟩ := KS.out _ F0.out
  go_wp2_with fail
  refine (C1.out _ (HL.out _ F0.out)).mono ?_
  rintro e w1 ⟨rfl, hb⟩
  have F1 := Lib.hid (fr_chain F0.out hb)
  clear hb
  clear d0 d1
  obtain ⟨d0, d1⟩ := KS.out _ F1.out
  go_wp2
  go_ret
  exact ⟨rfl, KB.out _ F1.out⟩

set_option maxHeartbeats 2000000 in
set_option maxRecDepth 100000 in
theorem ivalid_gt_raw (l h : ByteArray) (w : World) (hl : La w)
    (h1 : ∀ W, La W → Calls Tryz.prog 21 #[.string l, .string h] W fun e w' => e = .returned (.tuple #[.int .i64 1, .int .i64 0]) ∧ Below W.heap.size W w') :
    Calls Tryz.prog 34 #[.agg #[.string l, .string h]] w fun e w' => e = .returned (.bool false) ∧ Below w.heap.size w w' := by
  have C1 := Lib.hid h1
  obtain ⟨w0, hw0⟩ : ∃ w0 : World, w0 = (w.alloc (.cells #[.string l, .string h] 48)) := ⟨_, rfl⟩
  have hz0 : w0.heap.size = w.heap.size + 1 := by rw [hw0]; simp
  have hB0 : Below w.heap.size w w0 := by
    rw [hw0]
    repeat (first | exact Below.refl _ _ | refine Below.setCell ?_ (by first | omega | (simp; omega) | simp) _ | refine Below.alloc ?_ (by first | omega | (simp; omega) | simp) _ | refine Below.drew ?_)
  have hS0 : w0.cell? ⟨w.heap.size, 0, none⟩ = some (.string l) ∧ w0.cell? ⟨w.heap.size, 1, none⟩ = some (.string h) := by rw [hw0]; exact ⟨((q_new (by first | omega | (simp; done) | (simp; omega))).trans rfl), ((q_new (by first | omega | (simp; done) | (simp; omega))).trans rfl)⟩
  have KS := Lib.hid (show ∀ W : World, Below w0.heap.size w0 W → (W.cell? ⟨w.heap.size, 0, none⟩ = some (.string l) ∧ W.cell? ⟨w.heap.size, 1, none⟩ = some (.string h)) from fun W hB => by
    obtain ⟨c0, c1⟩ := hS0
    exact ⟨(hB.cell (p := ⟨w.heap.size, 0, none⟩) (by show w.heap.size < _; omega)).trans c0, (hB.cell (p := ⟨w.heap.size, 1, none⟩) (by show w.heap.size < _; omega)).trans c1⟩)
  have KZ := Lib.hid (show ∀ W : World, Below w0.heap.size w0 W → w.heap.size + 1 ≤ W.heap.size from fun W hB => by have := hB.size; omega)
  have KB := Lib.hid (show ∀ W : World, Below w0.heap.size w0 W → Below w.heap.size w W from fun W hB => hB0.trans (hB.mono (by omega)))
  have F0 := Lib.hid (Below.refl w0.heap.size w0)
  have HW0 := Lib.hid hw0
  clear hz0 hB0 hS0 hw0
  have HL := Lib.hid (show ∀ W : World, Below w0.heap.size w0 W → La W from fun W hB => hl.on (KB.out W hB))
  clear hl
  clear h1
  go_enter Tryz.func34, Tryz.ntmps34
  go_wp2_with fail
  rw [← HW0.out]
  obtain ⟨d0, d1⟩ := KS.out _ F0.out
  go_wp2_with fail
  refine (C1.out _ (HL.out _ F0.out)).mono ?_
  rintro e w1 ⟨rfl, hb⟩
  have F1 := Lib.hid (fr_chain F0.out hb)
  clear hb
  clear d0 d1
  obtain ⟨d0, d1⟩ := KS.out _ F1.out
  go_wp2
  go_ret
  exact ⟨rfl, KB.out _ F1.out⟩

set_option maxHeartbeats 2000000 in
set_option maxRecDepth 100000 in
theorem ivalid_no_raw (l h : ByteArray) (w : World) (hl : La w)
    (h1 : ∀ W, La W → Calls Tryz.prog 21 #[.string l, .string h] W fun e w' => e = .returned (.tuple #[.int .i64 0, .int .i64 1]) ∧ Below W.heap.size W w') :
    Calls Tryz.prog 34 #[.agg #[.string l, .string h]] w fun e w' => e = .returned (.bool false) ∧ Below w.heap.size w w' := by
  have C1 := Lib.hid h1
  obtain ⟨w0, hw0⟩ : ∃ w0 : World, w0 = (w.alloc (.cells #[.string l, .string h] 48)) := ⟨_, rfl⟩
  have hz0 : w0.heap.size = w.heap.size + 1 := by rw [hw0]; simp
  have hB0 : Below w.heap.size w w0 := by
    rw [hw0]
    repeat (first | exact Below.refl _ _ | refine Below.setCell ?_ (by first | omega | (simp; omega) | simp) _ | refine Below.alloc ?_ (by first | omega | (simp; omega) | simp) _ | refine Below.drew ?_)
  have hS0 : w0.cell? ⟨w.heap.size, 0, none⟩ = some (.string l) ∧ w0.cell? ⟨w.heap.size, 1, none⟩ = some (.string h) := by rw [hw0]; exact ⟨((q_new (by first | omega | (simp; done) | (simp; omega))).trans rfl), ((q_new (by first | omega | (simp; done) | (simp; omega))).trans rfl)⟩
  have KS := Lib.hid (show ∀ W : World, Below w0.heap.size w0 W → (W.cell? ⟨w.heap.size, 0, none⟩ = some (.string l) ∧ W.cell? ⟨w.heap.size, 1, none⟩ = some (.string h)) from fun W hB => by
    obtain ⟨c0, c1⟩ := hS0
    exact ⟨(hB.cell (p := ⟨w.heap.size, 0, none⟩) (by show w.heap.size < _; omega)).trans c0, (hB.cell (p := ⟨w.heap.size, 1, none⟩) (by show w.heap.size < _; omega)).trans c1⟩)
  have KZ := Lib.hid (show ∀ W : World, Below w0.heap.size w0 W → w.heap.size + 1 ≤ W.heap.size from fun W hB => by have := hB.size; omega)
  have KB := Lib.hid (show ∀ W : World, Below w0.heap.size w0 W → Below w.heap.size w W from fun W hB => hB0.trans (hB.mono (by omega)))
  have F0 := Lib.hid (Below.refl w0.heap.size w0)
  have HW0 := Lib.hid hw0
  clear hz0 hB0 hS0 hw0
  have HL := Lib.hid (show ∀ W : World, Below w0.heap.size w0 W → La W from fun W hB => hl.on (KB.out W hB))
  clear hl
  clear h1
  go_enter Tryz.func34, Tryz.ntmps34
  go_wp2_with fail
  rw [← HW0.out]
  obtain ⟨d0, d1⟩ := KS.out _ F0.out
  go_wp2_with fail
  refine (C1.out _ (HL.out _ F0.out)).mono ?_
  rintro e w1 ⟨rfl, hb⟩
  have F1 := Lib.hid (fr_chain F0.out hb)
  clear hb
  clear d0 d1
  obtain ⟨d0, d1⟩ := KS.out _ F1.out
  go_wp2
  go_ret
  exact ⟨rfl, KB.out _ F1.out⟩

set_option maxHeartbeats 2000000 in
set_option maxRecDepth 100000 in
theorem ihas_yes_raw (l h x : ByteArray) (c d : Int) (hc : c ≤ 0) (hd : d ≤ 0) (w : World) (hl : La w)
    (h1 : ∀ W, La W → Calls Tryz.prog 81 #[.string l, .string x] W fun e w' => e = .returned (.int .i64 c) ∧ Below W.heap.size W w')
    (h2 : ∀ W, La W → Calls Tryz.prog 81 #[.string x, .string h] W fun e w' => e = .returned (.int .i64 d) ∧ Below W.heap.size W w') :
    Calls Tryz.prog 78 #[.agg #[.string l, .string h], .string x] w fun e w' => e = .returned (.bool true) ∧ Below w.heap.size w w' := by
  have C1 := Lib.hid h1
  have C2 := Lib.hid h2
  obtain ⟨w0, hw0⟩ : ∃ w0 : World, w0 = (w.alloc (.cells #[.string l, .string h] 48)) := ⟨_, rfl⟩
  have hz0 : w0.heap.size = w.heap.size + 1 := by rw [hw0]; simp
  have hB0 : Below w.heap.size w w0 := by
    rw [hw0]
    repeat (first | exact Below.refl _ _ | refine Below.setCell ?_ (by first | omega | (simp; omega) | simp) _ | refine Below.alloc ?_ (by first | omega | (simp; omega) | simp) _ | refine Below.drew ?_)
  have hS0 : w0.cell? ⟨w.heap.size, 0, none⟩ = some (.string l) ∧ w0.cell? ⟨w.heap.size, 1, none⟩ = some (.string h) := by rw [hw0]; exact ⟨((q_new (by first | omega | (simp; done) | (simp; omega))).trans rfl), ((q_new (by first | omega | (simp; done) | (simp; omega))).trans rfl)⟩
  have KS := Lib.hid (show ∀ W : World, Below w0.heap.size w0 W → (W.cell? ⟨w.heap.size, 0, none⟩ = some (.string l) ∧ W.cell? ⟨w.heap.size, 1, none⟩ = some (.string h)) from fun W hB => by
    obtain ⟨c0, c1⟩ := hS0
    exact ⟨(hB.cell (p := ⟨w.heap.size, 0, none⟩) (by show w.heap.size < _; omega)).trans c0, (hB.cell (p := ⟨w.heap.size, 1, none⟩) (by show w.heap.size < _; omega)).trans c1⟩)
  have KZ := Lib.hid (show ∀ W : World, Below w0.heap.size w0 W → w.heap.size + 1 ≤ W.heap.size from fun W hB => by have := hB.size; omega)
  have KB := Lib.hid (show ∀ W : World, Below w0.heap.size w0 W → Below w.heap.size w W from fun W hB => hB0.trans (hB.mono (by omega)))
  have F0 := Lib.hid (Below.refl w0.heap.size w0)
  have HW0 := Lib.hid hw0
  clear hz0 hB0 hS0 hw0
  have HL := Lib.hid (show ∀ W : World, Below w0.heap.size w0 W → La W from fun W hB => hl.on (KB.out W hB))
  clear hl
  clear h1 h2
  go_enter Tryz.func78, Tryz.ntmps78
  go_wp2_with fail
  rw [← HW0.out]
  obtain ⟨d0, d1⟩ := KS.out _ F0.out
  go_wp2_with fail
  refine (C1.out _ (HL.out _ F0.out)).mono ?_
  rintro e w1 ⟨rfl, hb⟩
  have F1 := Lib.hid (fr_chain F0.out hb)
  clear hb
  clear d0 d1
  obtain ⟨d0, d1⟩ := KS.out _ F1.out
  go_wp2_with fail
  refine (C2.out _ (HL.out _ F1.out)).mono ?_
  rintro e w2 ⟨rfl, hb⟩
  have F2 := Lib.hid (fr_chain F1.out hb)
  clear hb
  clear d0 d1
  obtain ⟨d0, d1⟩ := KS.out _ F2.out
  go_wp2
  go_ret
  exact ⟨rfl, KB.out _ F2.out⟩

set_option maxHeartbeats 2000000 in
set_option maxRecDepth 100000 in
theorem ihas_no1_raw (l h x : ByteArray) (w : World) (hl : La w)
    (h1 : ∀ W, La W → Calls Tryz.prog 81 #[.string l, .string x] W fun e w' => e = .returned (.int .i64 1) ∧ Below W.heap.size W w') :
    Calls Tryz.prog 78 #[.agg #[.string l, .string h], .string x] w fun e w' => e = .returned (.bool false) ∧ Below w.heap.size w w' := by
  have C1 := Lib.hid h1
  obtain ⟨w0, hw0⟩ : ∃ w0 : World, w0 = (w.alloc (.cells #[.string l, .string h] 48)) := ⟨_, rfl⟩
  have hz0 : w0.heap.size = w.heap.size + 1 := by rw [hw0]; simp
  have hB0 : Below w.heap.size w w0 := by
    rw [hw0]
    repeat (first | exact Below.refl _ _ | refine Below.setCell ?_ (by first | omega | (simp; omega) | simp) _ | refine Below.alloc ?_ (by first | omega | (simp; omega) | simp) _ | refine Below.drew ?_)
  have hS0 : w0.cell? ⟨w.heap.size, 0, none⟩ = some (.string l) ∧ w0.cell? ⟨w.heap.size, 1, none⟩ = some (.string h) := by rw [hw0]; exact ⟨((q_new (by first | omega | (simp; done) | (simp; omega))).trans rfl), ((q_new (by first | omega | (simp; done) | (simp; omega))).trans rfl)⟩
  have KS := Lib.hid (show ∀ W : World, Below w0.heap.size w0 W → (W.cell? ⟨w.heap.size, 0, none⟩ = some (.string l) ∧ W.cell? ⟨w.heap.size, 1, none⟩ = some (.string h)) from fun W hB => by
    obtain ⟨c0, c1⟩ := hS0
    exact ⟨(hB.cell (p := ⟨w.heap.size, 0, none⟩) (by show w.heap.size < _; omega)).trans c0, (hB.cell (p := ⟨w.heap.size, 1, none⟩) (by show w.heap.size < _; omega)).trans c1⟩)
  have KZ := Lib.hid (show ∀ W : World, Below w0.heap.size w0 W → w.heap.size + 1 ≤ W.heap.size from fun W hB => by have := hB.size; omega)
  have KB := Lib.hid (show ∀ W : World, Below w0.heap.size w0 W → Below w.heap.size w W from fun W hB => hB0.trans (hB.mono (by omega)))
  have F0 := Lib.hid (Below.refl w0.heap.size w0)
  have HW0 := Lib.hid hw0
  clear hz0 hB0 hS0 hw0
  have HL := Lib.hid (show ∀ W : World, Below w0.heap.size w0 W → La W from fun W hB => hl.on (KB.out W hB))
  clear hl
  clear h1
  go_enter Tryz.func78, Tryz.ntmps78
  go_wp2_with fail
  rw [← HW0.out]
  obtain ⟨d0, d1⟩ := KS.out _ F0.out
  go_wp2_with fail
  refine (C1.out _ (HL.out _ F0.out)).mono ?_
  rintro e w1 ⟨rfl, hb⟩
  have F1 := Lib.hid (fr_chain F0.out hb)
  clear hb
  clear d0 d1
  obtain ⟨d0, d1⟩ := KS.out _ F1.out
  go_wp2
  go_ret
  exact ⟨rfl, KB.out _ F1.out⟩

set_option maxHeartbeats 2000000 in
set_option maxRecDepth 100000 in
theorem ihas_no2_raw (l h x : ByteArray) (c : Int) (hc : c ≤ 0) (w : World) (hl : La w)
    (h1 : ∀ W, La W → Calls Tryz.prog 81 #[.string l, .string x] W fun e w' => e = .returned (.int .i64 c) ∧ Below W.heap.size W w')
    (h2 : ∀ W, La W → Calls Tryz.prog 81 #[.string x, .string h] W fun e w' => e = .returned (.int .i64 1) ∧ Below W.heap.size W w') :
    Calls Tryz.prog 78 #[.agg #[.string l, .string h], .string x] w fun e w' => e = .returned (.bool false) ∧ Below w.heap.size w w' := by
  have C1 := Lib.hid h1
  have C2 := Lib.hid h2
  obtain ⟨w0, hw0⟩ : ∃ w0 : World, w0 = (w.alloc (.cells #[.string l, .string h] 48)) := ⟨_, rfl⟩
  have hz0 : w0.heap.size = w.heap.size + 1 := by rw [hw0]; simp
  have hB0 : Below w.heap.size w w0 := by
    rw [hw0]
    repeat (first | exact Below.refl _ _ | refine Below.setCell ?_ (by first | omega | (simp; omega) | simp) _ | refine Below.alloc ?_ (by first | omega | (simp; omega) | simp) _ | refine Below.drew ?_)
  have hS0 : w0.cell? ⟨w.heap.size, 0, none⟩ = some (.string l) ∧ w0.cell? ⟨w.heap.size, 1, none⟩ = some (.string h) := by rw [hw0]; exact ⟨((q_new (by first | omega | (simp; done) | (simp; omega))).trans rfl), ((q_new (by first | omega | (simp; done) | (simp; omega))).trans rfl)⟩
  have KS := Lib.hid (show ∀ W : World, Below w0.heap.size w0 W → (W.cell? ⟨w.heap.size, 0, none⟩ = some (.string l) ∧ W.cell? ⟨w.heap.size, 1, none⟩ = some (.string h)) from fun W hB => by
    obtain ⟨c0, c1⟩ := hS0
    exact ⟨(hB.cell (p := ⟨w.heap.size, 0, none⟩) (by show w.heap.size < _; omega)).trans c0, (hB.cell (p := ⟨w.heap.size, 1, none⟩) (by show w.heap.size < _; omega)).trans c1⟩)
  have KZ := Lib.hid (show ∀ W : World, Below w0.heap.size w0 W → w.heap.size + 1 ≤ W.heap.size from fun W hB => by have := hB.size; omega)
  have KB := Lib.hid (show ∀ W : World, Below w0.heap.size w0 W → Below w.heap.size w W from fun W hB => hB0.trans (hB.mono (by omega)))
  have F0 := Lib.hid (Below.refl w0.heap.size w0)
  have HW0 := Lib.hid hw0
  clear hz0 hB0 hS0 hw0
  have HL := Lib.hid (show ∀ W : World, Below w0.heap.size w0 W → La W from fun W hB => hl.on (KB.out W hB))
  clear hl
  clear h1 h2
  go_enter Tryz.func78, Tryz.ntmps78
  go_wp2_with fail
  rw [← HW0.out]
  obtain ⟨d0, d1⟩ := KS.out _ F0.out
  go_wp2_with fail
  refine (C1.out _ (HL.out _ F0.out)).mono ?_
  rintro e w1 ⟨rfl, hb⟩
  have F1 := Lib.hid (fr_chain F0.out hb)
  clear hb
  clear d0 d1
  obtain ⟨d0, d1⟩ := KS.out _ F1.out
  go_wp2_with fail
  refine (C2.out _ (HL.out _ F1.out)).mono ?_
  rintro e w2 ⟨rfl, hb⟩
  have F2 := Lib.hid (fr_chain F1.out hb)
  clear hb
  clear d0 d1
  obtain ⟨d0, d1⟩ := KS.out _ F2.out
  go_wp2
  go_ret
  exact ⟨rfl, KB.out _ F2.out⟩

set_option maxHeartbeats 2000000 in
set_option maxRecDepth 100000 in
theorem iHas_raw (l h x : ByteArray) (r : Bool) (w : World) (hl : La w)
    (h1 : ∀ W, La W → Calls Tryz.prog 34 #[.agg #[.string l, .string h]] W fun e w' => e = .returned (.bool true) ∧ Below W.heap.size W w')
    (h2 : ∀ W, La W → Calls Tryz.prog 13 #[.string x] W fun e w' => e = .returned (.bool true) ∧ Below W.heap.size W w')
    (h3 : ∀ W, La W → Calls Tryz.prog 78 #[.agg #[.string l, .string h], .string x] W fun e w' => e = .returned (.bool r) ∧ Below W.heap.size W w') :
    Calls Tryz.prog 36 #[.agg #[.string l, .string h], .string x] w fun e w' => e = .returned (.bool r) ∧ Below w.heap.size w w' := by
  have C1 := Lib.hid h1
  have C2 := Lib.hid h2
  have C3 := Lib.hid h3
  obtain ⟨w0, hw0⟩ : ∃ w0 : World, w0 = (w.alloc (.cells #[.string l, .string h] 48)) := ⟨_, rfl⟩
  have hz0 : w0.heap.size = w.heap.size + 1 := by rw [hw0]; simp
  have hB0 : Below w.heap.size w w0 := by
    rw [hw0]
    repeat (first | exact Below.refl _ _ | refine Below.setCell ?_ (by first | omega | (simp; omega) | simp) _ | refine Below.alloc ?_ (by first | omega | (simp; omega) | simp) _ | refine Below.drew ?_)
  have hS0 : w0.cell? ⟨w.heap.size, 0, none⟩ = some (.string l) ∧ w0.cell? ⟨w.heap.size, 1, none⟩ = some (.string h) := by rw [hw0]; exact ⟨((q_new (by first | omega | (simp; done) | (simp; omega))).trans rfl), ((q_new (by first | omega | (simp; done) | (simp; omega))).trans rfl)⟩
  have KS := Lib.hid (show ∀ W : World, Below w0.heap.size w0 W → (W.cell? ⟨w.heap.size, 0, none⟩ = some (.string l) ∧ W.cell? ⟨w.heap.size, 1, none⟩ = some (.string h)) from fun W hB => by
    obtain ⟨c0, c1⟩ := hS0
    exact ⟨(hB.cell (p := ⟨w.heap.size, 0, none⟩) (by show w.heap.size < _; omega)).trans c0, (hB.cell (p := ⟨w.heap.size, 1, none⟩) (by show w.heap.size < _; omega)).trans c1⟩)
  have KZ := Lib.hid (show ∀ W : World, Below w0.heap.size w0 W → w.heap.size + 1 ≤ W.heap.size from fun W hB => by have := hB.size; omega)
  have KB := Lib.hid (show ∀ W : World, Below w0.heap.size w0 W → Below w.heap.size w W from fun W hB => hB0.trans (hB.mono (by omega)))
  have F0 := Lib.hid (Below.refl w0.heap.size w0)
  have HW0 := Lib.hid hw0
  clear hz0 hB0 hS0 hw0
  have HL := Lib.hid (show ∀ W : World, Below w0.heap.size w0 W → La W from fun W hB => hl.on (KB.out W hB))
  clear hl
  clear h1 h2 h3
  go_enter Tryz.func36, Tryz.ntmps36
  go_wp2_with fail
  rw [← HW0.out]
  obtain ⟨d0, d1⟩ := KS.out _ F0.out
  go_wp2_with fail
  refine (C1.out _ (HL.out _ F0.out)).mono ?_
  rintro e w1 ⟨rfl, hb⟩
  have F1 := Lib.hid (fr_chain F0.out hb)
  clear hb
  clear d0 d1
  obtain ⟨d0, d1⟩ := KS.out _ F1.out
  go_wp2_with fail
  refine (C2.out _ (HL.out _ F1.out)).mono ?_
  rintro e w2 ⟨rfl, hb⟩
  have F2 := Lib.hid (fr_chain F1.out hb)
  clear hb
  clear d0 d1
  obtain ⟨d0, d1⟩ := KS.out _ F2.out
  go_wp2_with fail
  refine (C3.out _ (HL.out _ F2.out)).mono ?_
  rintro e w3 ⟨rfl, hb⟩
  have F3 := Lib.hid (fr_chain F2.out hb)
  clear hb
  clear d0 d1
  obtain ⟨d0, d1⟩ := KS.out _ F3.out
  go_wp2
  go_ret
  exact ⟨rfl, KB.out _ F3.out⟩

set_option maxHeartbeats 2000000 in
set_option maxRecDepth 100000 in
theorem isign_sure_raw (l h : ByteArray) (c : Int) (w : World) (hl : La w)
    (h1 : ∀ W, La W → Calls Tryz.prog 34 #[.agg #[.string l, .string h]] W fun e w' => e = .returned (.bool true) ∧ Below W.heap.size W w')
    (h2 : ∀ W, La W → Calls Tryz.prog 81 #[.string l, .string ⟨#[48]⟩] W fun e w' => e = .returned (.int .i64 c) ∧ Below W.heap.size W w')
    (h3 : ∀ W, La W → Calls Tryz.prog 81 #[.string h, .string ⟨#[48]⟩] W fun e w' => e = .returned (.int .i64 c) ∧ Below W.heap.size W w') :
    Calls Tryz.prog 72 #[.agg #[.string l, .string h]] w fun e w' => e = .returned (.tuple #[.int .i64 c, .bool true, .int .i64 0]) ∧ Below w.heap.size w w' := by
  have C1 := Lib.hid h1
  have C2 := Lib.hid h2
  have C3 := Lib.hid h3
  obtain ⟨w0, hw0⟩ : ∃ w0 : World, w0 = (w.alloc (.cells #[.string l, .string h] 48)) := ⟨_, rfl⟩
  have hz0 : w0.heap.size = w.heap.size + 1 := by rw [hw0]; simp
  have hB0 : Below w.heap.size w w0 := by
    rw [hw0]
    repeat (first | exact Below.refl _ _ | refine Below.setCell ?_ (by first | omega | (simp; omega) | simp) _ | refine Below.alloc ?_ (by first | omega | (simp; omega) | simp) _ | refine Below.drew ?_)
  have hS0 : w0.cell? ⟨w.heap.size, 0, none⟩ = some (.string l) ∧ w0.cell? ⟨w.heap.size, 1, none⟩ = some (.string h) := by rw [hw0]; exact ⟨((q_new (by first | omega | (simp; done) | (simp; omega))).trans rfl), ((q_new (by first | omega | (simp; done) | (simp; omega))).trans rfl)⟩
  have KS := Lib.hid (show ∀ W : World, Below w0.heap.size w0 W → (W.cell? ⟨w.heap.size, 0, none⟩ = some (.string l) ∧ W.cell? ⟨w.heap.size, 1, none⟩ = some (.string h)) from fun W hB => by
    obtain ⟨c0, c1⟩ := hS0
    exact ⟨(hB.cell (p := ⟨w.heap.size, 0, none⟩) (by show w.heap.size < _; omega)).trans c0, (hB.cell (p := ⟨w.heap.size, 1, none⟩) (by show w.heap.size < _; omega)).trans c1⟩)
  have KZ := Lib.hid (show ∀ W : World, Below w0.heap.size w0 W → w.heap.size + 1 ≤ W.heap.size from fun W hB => by have := hB.size; omega)
  have KB := Lib.hid (show ∀ W : World, Below w0.heap.size w0 W → Below w.heap.size w W from fun W hB => hB0.trans (hB.mono (by omega)))
  have F0 := Lib.hid (Below.refl w0.heap.size w0)
  have HW0 := Lib.hid hw0
  clear hz0 hB0 hS0 hw0
  have HL := Lib.hid (show ∀ W : World, Below w0.heap.size w0 W → La W from fun W hB => hl.on (KB.out W hB))
  clear hl
  clear h1 h2 h3
  go_enter Tryz.func72, Tryz.ntmps72
  go_wp2_with fail
  rw [← HW0.out]
  obtain ⟨d0, d1⟩ := KS.out _ F0.out
  go_wp2_with fail
  refine (C1.out _ (HL.out _ F0.out)).mono ?_
  rintro e w1 ⟨rfl, hb⟩
  have F1 := Lib.hid (fr_chain F0.out hb)
  clear hb
  clear d0 d1
  obtain ⟨d0, d1⟩ := KS.out _ F1.out
  go_wp2_with fail
  go_region_held3 (fun w' => w'.cell? ⟨w.heap.size, 0, none⟩ = some (.string l) ∧ w'.cell? ⟨w.heap.size, 1, none⟩ = some (.string h)) (first | (with_reducible exact KS.out _ F3.out) | (with_reducible exact KS.out _ F3.out.drew) | (with_reducible exact KS.out _ F2.out) | (with_reducible exact KS.out _ F2.out.drew) | (with_reducible exact KS.out _ F1.out) | (with_reducible exact KS.out _ F1.out.drew))
    (first
      | (go_at_call 81; (with_reducible refine (C2.out _ ?la1).mono ?_); (case la1 => first | exact HL.out _ F1.out | exact HL.out _ F1.out.drew); rintro e w2 ⟨rfl, hb⟩; have F2 := Lib.hid (show Below w0.heap.size w0 w2 by first | exact fr_chain F1.out hb | exact fr_chain F1.out.drew hb); clear hb)
      | (go_at_call 81; (with_reducible refine (C3.out _ ?la2).mono ?_); (case la2 => first | exact HL.out _ F2.out | exact HL.out _ F2.out.drew); rintro e w3 ⟨rfl, hb⟩; have F3 := Lib.hid (show Below w0.heap.size w0 w3 by first | exact fr_chain F2.out hb | exact fr_chain F2.out.drew hb); clear hb)
      | fail)
  all_goals
    go_wp2
    refine bodyPost_ret (v := .tuple #[.int .i64 c, .bool true, .int .i64 0]) (by simp [results, Tryz.results72, go_sem]) rfl ⟨rfl, KB.out _ (by first | exact F3.out | exact F3.out.drew)⟩

set_option maxHeartbeats 2000000 in
set_option maxRecDepth 100000 in
theorem iAdd_raw (l1 h1 l2 h2 r s : ByteArray) (w : World) (hl : La w)
    (g1 : ∀ W, La W → Calls Tryz.prog 34 #[.agg #[.string l1, .string h1]] W fun e w' => e = .returned (.bool true) ∧ Below W.heap.size W w')
    (g2 : ∀ W, La W → Calls Tryz.prog 34 #[.agg #[.string l2, .string h2]] W fun e w' => e = .returned (.bool true) ∧ Below W.heap.size W w')
    (g3 : ∀ W, La W → Calls Tryz.prog 15 #[.string l1, .string l2] W fun e w' => e = .returned (.tuple #[.string r, .int .i64 0]) ∧ Below W.heap.size W w')
    (g4 : ∀ W, La W → Calls Tryz.prog 15 #[.string h1, .string h2] W fun e w' => e = .returned (.tuple #[.string s, .int .i64 0]) ∧ Below W.heap.size W w') :
    Calls Tryz.prog 37 #[.agg #[.string l1, .string h1], .agg #[.string l2, .string h2]] w fun e w' => e = .returned (.tuple #[.agg #[.string r, .string s], .int .i64 0]) ∧ Below w.heap.size w w' := by
  have C1 := Lib.hid g1
  have C2 := Lib.hid g2
  have C3 := Lib.hid g3
  have C4 := Lib.hid g4
  obtain ⟨w0, hw0⟩ : ∃ w0 : World, w0 = (((w.alloc (.cells #[.string l1, .string h1] 48)).alloc (.cells #[.string l2, .string h2] 48)).alloc (.cells #[.string ⟨#[]⟩, .string ⟨#[]⟩] 48)) := ⟨_, rfl⟩
  have hz0 : w0.heap.size = w.heap.size + 3 := by rw [hw0]; simp
  have hB0 : Below w.heap.size w w0 := by
    rw [hw0]
    repeat (first | exact Below.refl _ _ | refine Below.setCell ?_ (by first | omega | (simp; omega) | simp) _ | refine Below.alloc ?_ (by first | omega | (simp; omega) | simp) _ | refine Below.drew ?_)
  have hS0 : w0.cell? ⟨w.heap.size, 0, none⟩ = some (.string l1) ∧ w0.cell? ⟨w.heap.size, 1, none⟩ = some (.string h1) ∧ w0.cell? ⟨w.heap.size + 1, 0, none⟩ = some (.string l2) ∧ w0.cell? ⟨w.heap.size + 1, 1, none⟩ = some (.string h2) := by rw [hw0]; exact ⟨((q_lt (by first | omega | (simp; done) | (simp; omega))).trans ((q_lt (by first | omega | (simp; done) | (simp; omega))).trans ((q_new (by first | omega | (simp; done) | (simp; omega))).trans rfl))), ((q_lt (by first | omega | (simp; done) | (simp; omega))).trans ((q_lt (by first | omega | (simp; done) | (simp; omega))).trans ((q_new (by first | omega | (simp; done) | (simp; omega))).trans rfl))), ((q_lt (by first | omega | (simp; done) | (simp; omega))).trans ((q_new (by first | omega | (simp; done) | (simp; omega))).trans rfl)), ((q_lt (by first | omega | (simp; done) | (simp; omega))).trans ((q_new (by first | omega | (simp; done) | (simp; omega))).trans rfl))⟩
  have KS := Lib.hid (show ∀ W : World, Below w0.heap.size w0 W → (W.cell? ⟨w.heap.size, 0, none⟩ = some (.string l1) ∧ W.cell? ⟨w.heap.size, 1, none⟩ = some (.string h1) ∧ W.cell? ⟨w.heap.size + 1, 0, none⟩ = some (.string l2) ∧ W.cell? ⟨w.heap.size + 1, 1, none⟩ = some (.string h2)) from fun W hB => by
    obtain ⟨c0, c1, c2, c3⟩ := hS0
    exact ⟨(hB.cell (p := ⟨w.heap.size, 0, none⟩) (by show w.heap.size < _; omega)).trans c0, (hB.cell (p := ⟨w.heap.size, 1, none⟩) (by show w.heap.size < _; omega)).trans c1, (hB.cell (p := ⟨w.heap.size + 1, 0, none⟩) (by show w.heap.size + 1 < _; omega)).trans c2, (hB.cell (p := ⟨w.heap.size + 1, 1, none⟩) (by show w.heap.size + 1 < _; omega)).trans c3⟩)
  have KZ := Lib.hid (show ∀ W : World, Below w0.heap.size w0 W → w.heap.size + 3 ≤ W.heap.size from fun W hB => by have := hB.size; omega)
  have KB := Lib.hid (show ∀ W : World, Below w0.heap.size w0 W → Below w.heap.size w W from fun W hB => hB0.trans (hB.mono (by omega)))
  have hR0 : w0.cell? ⟨w.heap.size + 1 + 1, 0, none⟩ = some (.string ⟨#[]⟩) ∧ w0.cell? ⟨w.heap.size + 1 + 1, 1, none⟩ = some (.string ⟨#[]⟩) ∧ w0.frozen? ⟨w.heap.size + 1 + 1, 0, none⟩ = false ∧ w0.frozen? ⟨w.heap.size + 1 + 1, 1, none⟩ = false := by rw [hw0]; exact ⟨((q_new (by first | omega | (simp; done) | (simp; omega))).trans rfl), ((q_new (by first | omega | (simp; done) | (simp; omega))).trans rfl), (fq_new (by first | omega | (simp; done) | (simp; omega))), (fq_new (by first | omega | (simp; done) | (simp; omega)))⟩
  have KR := Lib.hid (show ∀ W : World, Below w0.heap.size w0 W → (W.cell? ⟨w.heap.size + 1 + 1, 0, none⟩ = some (.string ⟨#[]⟩) ∧ W.cell? ⟨w.heap.size + 1 + 1, 1, none⟩ = some (.string ⟨#[]⟩) ∧ W.frozen? ⟨w.heap.size + 1 + 1, 0, none⟩ = false ∧ W.frozen? ⟨w.heap.size + 1 + 1, 1, none⟩ = false) from fun W hB => by
    obtain ⟨c0, c1, f0, f1⟩ := hR0
    exact ⟨(hB.cell (p := ⟨w.heap.size + 1 + 1, 0, none⟩) (by show w.heap.size + 1 + 1 < _; omega)).trans c0, (hB.cell (p := ⟨w.heap.size + 1 + 1, 1, none⟩) (by show w.heap.size + 1 + 1 < _; omega)).trans c1, (hB.frozen (p := ⟨w.heap.size + 1 + 1, 0, none⟩) (by show w.heap.size + 1 + 1 < _; omega)).trans f0, (hB.frozen (p := ⟨w.heap.size + 1 + 1, 1, none⟩) (by show w.heap.size + 1 + 1 < _; omega)).trans f1⟩)
  clear hR0
  have KT0 := Lib.hid (show ∀ (W : World) (v u : Value), Below w0.heap.size w0 W → (((W.setCell ⟨w.heap.size + 1 + 1, 0, none⟩ v).setCell ⟨w.heap.size + 1 + 1, 1, none⟩ u).cell? ⟨w.heap.size, 0, none⟩ = some (.string l1) ∧ ((W.setCell ⟨w.heap.size + 1 + 1, 0, none⟩ v).setCell ⟨w.heap.size + 1 + 1, 1, none⟩ u).cell? ⟨w.heap.size, 1, none⟩ = some (.string h1) ∧ ((W.setCell ⟨w.heap.size + 1 + 1, 0, none⟩ v).setCell ⟨w.heap.size + 1 + 1, 1, none⟩ u).cell? ⟨w.heap.size + 1, 0, none⟩ = some (.string l2) ∧ ((W.setCell ⟨w.heap.size + 1 + 1, 0, none⟩ v).setCell ⟨w.heap.size + 1 + 1, 1, none⟩ u).cell? ⟨w.heap.size + 1, 1, none⟩ = some (.string h2)) from fun W v u hB => by
    have hh := KS.out W hB
    obtain ⟨c0, c1, c2, c3⟩ := hh
    exact ⟨(q_set (by omega)).trans ((q_set (by omega)).trans c0), (q_set (by omega)).trans ((q_set (by omega)).trans c1), (q_set (by omega)).trans ((q_set (by omega)).trans c2), (q_set (by omega)).trans ((q_set (by omega)).trans c3)⟩)
  have F0 := Lib.hid (Below.refl w0.heap.size w0)
  have HW0 := Lib.hid hw0
  clear hz0 hB0 hS0 hw0
  have HL := Lib.hid (show ∀ W : World, Below w0.heap.size w0 W → La W from fun W hB => hl.on (KB.out W hB))
  clear hl
  clear g1 g2 g3 g4
  go_enter Tryz.func37, Tryz.ntmps37
  go_wp2_with fail
  rw [← HW0.out]
  obtain ⟨d0, d1, d2, d3⟩ := KS.out _ F0.out
  go_wp2_with fail
  refine (C1.out _ (HL.out _ F0.out)).mono ?_
  rintro e w1 ⟨rfl, hb⟩
  have F1 := Lib.hid (fr_chain F0.out hb)
  clear hb
  clear d0 d1 d2 d3
  obtain ⟨d0, d1, d2, d3⟩ := KS.out _ F1.out
  go_wp2_with fail
  refine (C2.out _ (HL.out _ F1.out)).mono ?_
  rintro e w2 ⟨rfl, hb⟩
  have F2 := Lib.hid (fr_chain F1.out hb)
  clear hb
  clear d0 d1 d2 d3
  obtain ⟨d0, d1, d2, d3⟩ := KS.out _ F2.out
  go_wp2_with fail
  refine (C3.out _ (HL.out _ F2.out)).mono ?_
  rintro e w3 ⟨rfl, hb⟩
  have F3 := Lib.hid (fr_chain F2.out hb)
  clear hb
  clear d0 d1 d2 d3
  obtain ⟨d0, d1, d2, d3⟩ := KS.out _ F3.out
  go_wp2_with fail
  refine (C4.out _ (HL.out _ F3.out)).mono ?_
  rintro e w4 ⟨rfl, hb⟩
  have F4 := Lib.hid (fr_chain F3.out hb)
  clear hb
  clear d0 d1 d2 d3
  obtain ⟨d0, d1, d2, d3⟩ := KS.out _ F4.out
  all_goals
    obtain ⟨m0, m1, n0, n1⟩ := KR.out _ F4.out
    have hz := KZ.out _ F4.out
    go_wp2
    refine bodyPost_ret (v := .tuple #[.agg #[.string r, .string s], .int .i64 0]) (by simp [results, Tryz.results37, go_sem, m0, m1]) rfl ⟨rfl, ?_⟩
    repeat (first | exact KB.out _ F4.out | refine Below.setCell ?_ (by first | omega | (simp; omega) | simp) _ | refine Below.alloc ?_ (by first | omega | (simp; omega) | simp) _ | refine Below.drew ?_)

set_option maxHeartbeats 2000000 in
set_option maxRecDepth 100000 in
theorem iSub_raw (l1 h1 l2 h2 r s : ByteArray) (w : World) (hl : La w)
    (g1 : ∀ W, La W → Calls Tryz.prog 34 #[.agg #[.string l1, .string h1]] W fun e w' => e = .returned (.bool true) ∧ Below W.heap.size W w')
    (g2 : ∀ W, La W → Calls Tryz.prog 34 #[.agg #[.string l2, .string h2]] W fun e w' => e = .returned (.bool true) ∧ Below W.heap.size W w')
    (g3 : ∀ W, La W → Calls Tryz.prog 17 #[.string l1, .string h2] W fun e w' => e = .returned (.tuple #[.string r, .int .i64 0]) ∧ Below W.heap.size W w')
    (g4 : ∀ W, La W → Calls Tryz.prog 17 #[.string h1, .string l2] W fun e w' => e = .returned (.tuple #[.string s, .int .i64 0]) ∧ Below W.heap.size W w') :
    Calls Tryz.prog 38 #[.agg #[.string l1, .string h1], .agg #[.string l2, .string h2]] w fun e w' => e = .returned (.tuple #[.agg #[.string r, .string s], .int .i64 0]) ∧ Below w.heap.size w w' := by
  have C1 := Lib.hid g1
  have C2 := Lib.hid g2
  have C3 := Lib.hid g3
  have C4 := Lib.hid g4
  obtain ⟨w0, hw0⟩ : ∃ w0 : World, w0 = (((w.alloc (.cells #[.string l1, .string h1] 48)).alloc (.cells #[.string l2, .string h2] 48)).alloc (.cells #[.string ⟨#[]⟩, .string ⟨#[]⟩] 48)) := ⟨_, rfl⟩
  have hz0 : w0.heap.size = w.heap.size + 3 := by rw [hw0]; simp
  have hB0 : Below w.heap.size w w0 := by
    rw [hw0]
    repeat (first | exact Below.refl _ _ | refine Below.setCell ?_ (by first | omega | (simp; omega) | simp) _ | refine Below.alloc ?_ (by first | omega | (simp; omega) | simp) _ | refine Below.drew ?_)
  have hS0 : w0.cell? ⟨w.heap.size, 0, none⟩ = some (.string l1) ∧ w0.cell? ⟨w.heap.size, 1, none⟩ = some (.string h1) ∧ w0.cell? ⟨w.heap.size + 1, 0, none⟩ = some (.string l2) ∧ w0.cell? ⟨w.heap.size + 1, 1, none⟩ = some (.string h2) := by rw [hw0]; exact ⟨((q_lt (by first | omega | (simp; done) | (simp; omega))).trans ((q_lt (by first | omega | (simp; done) | (simp; omega))).trans ((q_new (by first | omega | (simp; done) | (simp; omega))).trans rfl))), ((q_lt (by first | omega | (simp; done) | (simp; omega))).trans ((q_lt (by first | omega | (simp; done) | (simp; omega))).trans ((q_new (by first | omega | (simp; done) | (simp; omega))).trans rfl))), ((q_lt (by first | omega | (simp; done) | (simp; omega))).trans ((q_new (by first | omega | (simp; done) | (simp; omega))).trans rfl)), ((q_lt (by first | omega | (simp; done) | (simp; omega))).trans ((q_new (by first | omega | (simp; done) | (simp; omega))).trans rfl))⟩
  have KS := Lib.hid (show ∀ W : World, Below w0.heap.size w0 W → (W.cell? ⟨w.heap.size, 0, none⟩ = some (.string l1) ∧ W.cell? ⟨w.heap.size, 1, none⟩ = some (.string h1) ∧ W.cell? ⟨w.heap.size + 1, 0, none⟩ = some (.string l2) ∧ W.cell? ⟨w.heap.size + 1, 1, none⟩ = some (.string h2)) from fun W hB => by
    obtain ⟨c0, c1, c2, c3⟩ := hS0
    exact ⟨(hB.cell (p := ⟨w.heap.size, 0, none⟩) (by show w.heap.size < _; omega)).trans c0, (hB.cell (p := ⟨w.heap.size, 1, none⟩) (by show w.heap.size < _; omega)).trans c1, (hB.cell (p := ⟨w.heap.size + 1, 0, none⟩) (by show w.heap.size + 1 < _; omega)).trans c2, (hB.cell (p := ⟨w.heap.size + 1, 1, none⟩) (by show w.heap.size + 1 < _; omega)).trans c3⟩)
  have KZ := Lib.hid (show ∀ W : World, Below w0.heap.size w0 W → w.heap.size + 3 ≤ W.heap.size from fun W hB => by have := hB.size; omega)
  have KB := Lib.hid (show ∀ W : World, Below w0.heap.size w0 W → Below w.heap.size w W from fun W hB => hB0.trans (hB.mono (by omega)))
  have hR0 : w0.cell? ⟨w.heap.size + 1 + 1, 0, none⟩ = some (.string ⟨#[]⟩) ∧ w0.cell? ⟨w.heap.size + 1 + 1, 1, none⟩ = some (.string ⟨#[]⟩) ∧ w0.frozen? ⟨w.heap.size + 1 + 1, 0, none⟩ = false ∧ w0.frozen? ⟨w.heap.size + 1 + 1, 1, none⟩ = false := by rw [hw0]; exact ⟨((q_new (by first | omega | (simp; done) | (simp; omega))).trans rfl), ((q_new (by first | omega | (simp; done) | (simp; omega))).trans rfl), (fq_new (by first | omega | (simp; done) | (simp; omega))), (fq_new (by first | omega | (simp; done) | (simp; omega)))⟩
  have KR := Lib.hid (show ∀ W : World, Below w0.heap.size w0 W → (W.cell? ⟨w.heap.size + 1 + 1, 0, none⟩ = some (.string ⟨#[]⟩) ∧ W.cell? ⟨w.heap.size + 1 + 1, 1, none⟩ = some (.string ⟨#[]⟩) ∧ W.frozen? ⟨w.heap.size + 1 + 1, 0, none⟩ = false ∧ W.frozen? ⟨w.heap.size + 1 + 1, 1, none⟩ = false) from fun W hB => by
    obtain ⟨c0, c1, f0, f1⟩ := hR0
    exact ⟨(hB.cell (p := ⟨w.heap.size + 1 + 1, 0, none⟩) (by show w.heap.size + 1 + 1 < _; omega)).trans c0, (hB.cell (p := ⟨w.heap.size + 1 + 1, 1, none⟩) (by show w.heap.size + 1 + 1 < _; omega)).trans c1, (hB.frozen (p := ⟨w.heap.size + 1 + 1, 0, none⟩) (by show w.heap.size + 1 + 1 < _; omega)).trans f0, (hB.frozen (p := ⟨w.heap.size + 1 + 1, 1, none⟩) (by show w.heap.size + 1 + 1 < _; omega)).trans f1⟩)
  clear hR0
  have KT0 := Lib.hid (show ∀ (W : World) (v u : Value), Below w0.heap.size w0 W → (((W.setCell ⟨w.heap.size + 1 + 1, 0, none⟩ v).setCell ⟨w.heap.size + 1 + 1, 1, none⟩ u).cell? ⟨w.heap.size, 0, none⟩ = some (.string l1) ∧ ((W.setCell ⟨w.heap.size + 1 + 1, 0, none⟩ v).setCell ⟨w.heap.size + 1 + 1, 1, none⟩ u).cell? ⟨w.heap.size, 1, none⟩ = some (.string h1) ∧ ((W.setCell ⟨w.heap.size + 1 + 1, 0, none⟩ v).setCell ⟨w.heap.size + 1 + 1, 1, none⟩ u).cell? ⟨w.heap.size + 1, 0, none⟩ = some (.string l2) ∧ ((W.setCell ⟨w.heap.size + 1 + 1, 0, none⟩ v).setCell ⟨w.heap.size + 1 + 1, 1, none⟩ u).cell? ⟨w.heap.size + 1, 1, none⟩ = some (.string h2)) from fun W v u hB => by
    have hh := KS.out W hB
    obtain ⟨c0, c1, c2, c3⟩ := hh
    exact ⟨(q_set (by omega)).trans ((q_set (by omega)).trans c0), (q_set (by omega)).trans ((q_set (by omega)).trans c1), (q_set (by omega)).trans ((q_set (by omega)).trans c2), (q_set (by omega)).trans ((q_set (by omega)).trans c3)⟩)
  have F0 := Lib.hid (Below.refl w0.heap.size w0)
  have HW0 := Lib.hid hw0
  clear hz0 hB0 hS0 hw0
  have HL := Lib.hid (show ∀ W : World, Below w0.heap.size w0 W → La W from fun W hB => hl.on (KB.out W hB))
  clear hl
  clear g1 g2 g3 g4
  go_enter Tryz.func38, Tryz.ntmps38
  go_wp2_with fail
  rw [← HW0.out]
  obtain ⟨d0, d1, d2, d3⟩ := KS.out _ F0.out
  go_wp2_with fail
  refine (C1.out _ (HL.out _ F0.out)).mono ?_
  rintro e w1 ⟨rfl, hb⟩
  have F1 := Lib.hid (fr_chain F0.out hb)
  clear hb
  clear d0 d1 d2 d3
  obtain ⟨d0, d1, d2, d3⟩ := KS.out _ F1.out
  go_wp2_with fail
  refine (C2.out _ (HL.out _ F1.out)).mono ?_
  rintro e w2 ⟨rfl, hb⟩
  have F2 := Lib.hid (fr_chain F1.out hb)
  clear hb
  clear d0 d1 d2 d3
  obtain ⟨d0, d1, d2, d3⟩ := KS.out _ F2.out
  go_wp2_with fail
  refine (C3.out _ (HL.out _ F2.out)).mono ?_
  rintro e w3 ⟨rfl, hb⟩
  have F3 := Lib.hid (fr_chain F2.out hb)
  clear hb
  clear d0 d1 d2 d3
  obtain ⟨d0, d1, d2, d3⟩ := KS.out _ F3.out
  go_wp2_with fail
  refine (C4.out _ (HL.out _ F3.out)).mono ?_
  rintro e w4 ⟨rfl, hb⟩
  have F4 := Lib.hid (fr_chain F3.out hb)
  clear hb
  clear d0 d1 d2 d3
  obtain ⟨d0, d1, d2, d3⟩ := KS.out _ F4.out
  all_goals
    obtain ⟨m0, m1, n0, n1⟩ := KR.out _ F4.out
    have hz := KZ.out _ F4.out
    go_wp2
    refine bodyPost_ret (v := .tuple #[.agg #[.string r, .string s], .int .i64 0]) (by simp [results, Tryz.results38, go_sem, m0, m1]) rfl ⟨rfl, ?_⟩
    repeat (first | exact KB.out _ F4.out | refine Below.setCell ?_ (by first | omega | (simp; omega) | simp) _ | refine Below.alloc ?_ (by first | omega | (simp; omega) | simp) _ | refine Below.drew ?_)

end Go.Proofs.YtlagimghlngdgaaGreatDoor
/- interval.extremes: walks. -/
namespace Go.Proofs.YtlagimghlngdgaaGreatDoor
open Go.RowKit Go.Gb

def exStep (p : Rat × Rat) (x : Rat) : Rat × Rat := if x < p.1 then (x, p.2) else if p.2 < x then (p.1, x) else p
/-- The least and the greatest of the first i + 1 numbers. -/
def exOf (q : Nat → Rat) : Nat → Rat × Rat
  | 0 => (q 0, q 0)
  | i + 1 => exStep (exOf q i) (q (i + 1))

theorem exOf_fit (q : Nat → Rat) : ∀ i : Nat, (∀ j, j ≤ i → FitQ (q j)) → FitQ (exOf q i).1 ∧ FitQ (exOf q i).2
  | 0, h => ⟨h 0 (Nat.le_refl _), h 0 (Nat.le_refl _)⟩
  | i + 1, h => by
    have h1 := exOf_fit q i (fun j hj => h j (by omega))
    have h2 := h (i + 1) (Nat.le_refl _)
    show FitQ (exStep (exOf q i) (q (i + 1))).1 ∧ FitQ (exStep (exOf q i) (q (i + 1))).2
    unfold exStep
    split
    · exact ⟨h2, h1.2⟩
    · split
      · exact ⟨h1.1, h2⟩
      · exact h1
theorem iOrder (x y : Rat) (c : Int) (hc : cmpQ x y = c) (hx : FitQ x) (hy : FitQ y) (w : World) (hl : La w) :
    Calls Tryz.prog 81 #[.string (Sq x), .string (Sq y)] w fun e w' => e = .returned (.int .i64 c) ∧ Below w.heap.size w w' := iorder_raw _ _ _ _ w (qCompare x y c hc hx hy w hl)
/-- The blocks of extremes: the result, the numbers found. -/
def Ex (w wr : World) (lo hi : Rat) : Prop := Below w.heap.size w wr ∧ w.heap.size + 2 ≤ wr.heap.size ∧ (wr.cell? ⟨w.heap.size, 0, none⟩ = some (.string ⟨#[]⟩) ∧ wr.cell? ⟨w.heap.size, 1, none⟩ = some (.string ⟨#[]⟩) ∧ wr.frozen? ⟨w.heap.size, 0, none⟩ = false ∧ wr.frozen? ⟨w.heap.size, 1, none⟩ = false) ∧
  (wr.cell? ⟨w.heap.size + 1, 0, none⟩ = some (.string (Sq lo)) ∧ wr.cell? ⟨w.heap.size + 1, 1, none⟩ = some (.string (Sq hi)) ∧ wr.frozen? ⟨w.heap.size + 1, 0, none⟩ = false ∧ wr.frozen? ⟨w.heap.size + 1, 1, none⟩ = false)
theorem Ex.call {w a b : World} {lo hi : Rat} (h : Ex w a lo hi) (hb : Below a.heap.size a b) : Ex w b lo hi := by
  obtain ⟨h1, h2, ⟨a0, a1, a2, a3⟩, ⟨b0, b1, b2, b3⟩⟩ := h
  refine ⟨h1.trans (hb.mono h1.size), Nat.le_trans h2 hb.size, ⟨?_, ?_, ?_, ?_⟩, ⟨?_, ?_, ?_, ?_⟩⟩
  · exact (hb.cell (p := ⟨w.heap.size, 0, none⟩) (by show w.heap.size < _; omega)).trans a0
  · exact (hb.cell (p := ⟨w.heap.size, 1, none⟩) (by show w.heap.size < _; omega)).trans a1
  · exact (hb.frozen (p := ⟨w.heap.size, 0, none⟩) (by show w.heap.size < _; omega)).trans a2
  · exact (hb.frozen (p := ⟨w.heap.size, 1, none⟩) (by show w.heap.size < _; omega)).trans a3
  · exact (hb.cell (p := ⟨w.heap.size + 1, 0, none⟩) (by show w.heap.size + 1 < _; omega)).trans b0
  · exact (hb.cell (p := ⟨w.heap.size + 1, 1, none⟩) (by show w.heap.size + 1 < _; omega)).trans b1
  · exact (hb.frozen (p := ⟨w.heap.size + 1, 0, none⟩) (by show w.heap.size + 1 < _; omega)).trans b2
  · exact (hb.frozen (p := ⟨w.heap.size + 1, 1, none⟩) (by show w.heap.size + 1 < _; omega)).trans b3
theorem Ex.drew {w a : World} {lo hi : Rat} (h : Ex w a lo hi) : Ex w a.drew lo hi := ⟨h.1.drew, h.2.1, h.2.2⟩
theorem Ex.setLo {w a : World} {lo hi : Rat} (h : Ex w a lo hi) (x : Rat) : Ex w (a.setCell ⟨w.heap.size + 1, 0, none⟩ (.string (Sq x))) x hi := by
  obtain ⟨h1, h2, ⟨a0, a1, a2, a3⟩, ⟨b0, b1, b2, b3⟩⟩ := h
  refine ⟨h1.setCell (p := ⟨w.heap.size + 1, 0, none⟩) (by show w.heap.size ≤ w.heap.size + 1; omega) _, by simpa using h2, ⟨(q_set (by omega)).trans a0, (q_set (by omega)).trans a1, ?_, ?_⟩, ⟨World.cell?_setCell_same _ _ _ b0, (World.cell?_setCell_other _ _ _ _ (by intro e; injection e with e1 e2; exact absurd e2 (by decide))).trans b1, ?_, ?_⟩⟩ <;> rw [fq_set] <;> assumption
theorem Ex.setHi {w a : World} {lo hi : Rat} (h : Ex w a lo hi) (x : Rat) : Ex w (a.setCell ⟨w.heap.size + 1, 1, none⟩ (.string (Sq x))) lo x := by
  obtain ⟨h1, h2, ⟨a0, a1, a2, a3⟩, ⟨b0, b1, b2, b3⟩⟩ := h
  refine ⟨h1.setCell (p := ⟨w.heap.size + 1, 1, none⟩) (by show w.heap.size ≤ w.heap.size + 1; omega) _, by simpa using h2, ⟨(q_set (by omega)).trans a0, (q_set (by omega)).trans a1, ?_, ?_⟩, ⟨(World.cell?_setCell_other _ _ _ _ (by intro e; injection e with e1 e2; exact absurd e2 (by decide))).trans b0, World.cell?_setCell_same _ _ _ b1, ?_, ?_⟩⟩ <;> rw [fq_set] <;> assumption
theorem Ex.start (w : World) (x : Rat) : Ex w ((w.alloc (.cells #[.string ⟨#[]⟩, .string ⟨#[]⟩] 48)).alloc (.cells #[.string (Sq x), .string (Sq x)] 48)) x x := by
  refine ⟨((Below.refl w.heap.size w).alloc (Nat.le_refl _) _).alloc (by simp) _, by simp, ⟨(q_lt (by simp)).trans ((q_new rfl).trans rfl), (q_lt (by simp)).trans ((q_new rfl).trans rfl), (fq_lt (by simp)).trans (fq_new rfl), (fq_lt (by simp)).trans (fq_new rfl)⟩, ⟨(q_new (by simp)).trans rfl, (q_new (by simp)).trans rfl, fq_new (by simp), fq_new (by simp)⟩⟩

set_option maxHeartbeats 2000000 in
set_option maxRecDepth 100000 in
theorem extremes_any (g n c : Nat) (q : Nat → Rat) (hn1 : 2 ≤ n) (hn2 : n ≤ 5000) (hnc : n ≤ c) (w : World) (hl : La w) (hg : g < w.heap.size)
    (hq : ∀ i, i < n → FitQ (q i)) (hcell : ∀ i, i < n → w.cell? ⟨g, i, none⟩ = some (.string (Sq (q i)))) :
    Calls Tryz.prog 80 #[.slice (some ⟨g, 0, none⟩) n c] w fun e w' => e = .returned (.agg #[.string (Sq (exOf q (n - 1)).1), .string (Sq (exOf q (n - 1)).2)]) ∧ Below w.heap.size w w' := by
  have HQ := Lib.hid hq
  have HC := Lib.hid hcell
  have HL := Lib.hid hl
  have hn3 : (0 : Int) < (n : Int) := by omega
  have hn4 : (1 : Int) ≤ (n : Int) := by omega
  have hn6 : 0 < n := by omega
  have hn7 : ¬ (n : Int) ≤ 0 := by omega
  have hn8 : ¬ n = 0 := by omega
  have hn5 : (n : Int) ≤ (c : Int) := by omega
  have k0 : (w.alloc (.cells #[.string ⟨#[]⟩, .string ⟨#[]⟩] 48)).cell? ⟨g, 0, none⟩ = some (.string (Sq (q 0))) := (q_lt hg).trans (hcell 0 (by omega))
  clear hcell hq hl
  go_enter Tryz.func80, Tryz.ntmps80
  have KC := Lib.hid (show ∀ W : World, Below w.heap.size w W → W.cell? ⟨g, 0, none⟩ = some (.string (Sq (q 0))) from fun W hB => (hB.cell (p := ⟨g, 0, none⟩) hg).trans (HC.out 0 (by omega)))
  have F0 := Lib.hid ((Below.refl w.heap.size w).alloc (Nat.le_refl _) (.cells #[.string ⟨#[]⟩, .string ⟨#[]⟩] 48))
  have F1 := Lib.hid (fun o => F0.out.alloc (o := o) (by simp))
  have F2 := Lib.hid (fun o => F0.out.drew.alloc (o := o) (by simp))
  go_wp2_with fail
  go_region_held3 (fun w' => w'.cell? ⟨g, 0, none⟩ = some (.string (Sq (q 0)))) (first | (with_reducible exact KC.out _ F0.out) | (with_reducible exact KC.out _ F0.out.drew) | (with_reducible exact KC.out _ (F1.out _)) | (with_reducible exact KC.out _ (F2.out _)) | (with_reducible exact KC.out _ (F1.out _).drew))
    (fail)
  have E0 := Lib.hid (Ex.start w (q 0)).drew
  clear k0 F0 F1 F2
  generalize ((w.alloc (.cells #[.string ⟨#[]⟩, .string ⟨#[]⟩] 48)).alloc (.cells #[.string (Sq (q 0)), .string (Sq (q 0))] 48)).drew = w0 at *
  go_wp2_with fail
  go_loopw [5, 16] (fun _ ii wr => ∃ (i : Nat), i + 1 ≤ n ∧ ii = .int .i64 (i : Int) ∧ Hid (Ex w wr (exOf q i).1 (exOf q i).2)) (fun _ ii _ => n - (intOf ii).toNat)
  case atStart => exact ⟨0, by omega, rfl, E0⟩
  case round =>
    obtain ⟨i, hi, rfl, hE⟩ := hrel
    have hi2 : (i : Int) ≤ 5000 := by omega
    have hi3 : (0 : Int) ≤ (i : Int) := by omega
    have wi : IntKind.i64.wrap ((i : Int) + 1) = (i : Int) + 1 := IntWalk.i64_in _ (by omega)
    obtain ⟨⟨r0, r1, r2, r3⟩, ⟨f0, f1, f2, f3⟩⟩ := hE.out.2.2
    by_cases hlt : i + 1 < n
    · have hcx := (hE.out.1.cell (p := ⟨g, i + 1, none⟩) hg).trans (HC.out (i + 1) hlt)
      have hcx2 := hcx
      rw [Nat.add_comm i 1] at hcx2
      have hlt2 : (i : Int) < ((n - 1 : Nat) : Int) := by omega
      have hlt3 : i < n - 1 := by omega
      have hfit := exOf_fit q i (fun j hj => HQ.out j (by omega))
      have FX := HQ.out (i + 1) hlt
      have hnext : exOf q (i + 1) = exStep (exOf q i) (q (i + 1)) := rfl
      generalize hp : exOf q i = p at *
      obtain ⟨lo, up⟩ := p
      rw [show q (1 + i) = q (i + 1) by rw [Nat.add_comm]] at hcx2
      generalize q (i + 1) = x at *
      clear hp
      by_cases h1 : x < lo
      · have HO := Lib.hid (fun W hW => iOrder x lo (-1) (cmpQ_lt h1) FX hfit.1 W hW)
        have HNX := Lib.hid (show exOf q (i + 1) = (x, up) by rw [hnext]; unfold exStep; rw [if_pos h1])
        clear hnext h1 FX hfit
        go_wp2_with fail
        refine (HO.out _ (HL.out.on hE.out.1)).mono ?_
        rintro e w1 ⟨rfl, hb⟩
        have hE1 := Lib.hid (hE.out.call hb)
        clear hb r0 r1 r2 r3 f0 f1 f2 f3 hcx hcx2
        obtain ⟨⟨r0, r1, r2, r3⟩, ⟨f0, f1, f2, f3⟩⟩ := hE1.out.2.2
        go_wp2
        go_roundw
        case rel => exact ⟨i + 1, by omega, by go_num, Lib.hid (by rw [HNX.out]; exact hE1.out.setLo x)⟩
        case measure => simp [intOf]; omega
      · obtain ⟨c1, hc1, hc2'⟩ : ∃ c1, cmpQ x lo = c1 ∧ decide (c1 < 0) = false := by
          rcases cmpQ_cases x lo with ⟨h, e⟩ | ⟨h, e⟩ | ⟨h, e⟩
          · exact absurd h h1
          · exact ⟨0, e, by decide⟩
          · exact ⟨1, e, by decide⟩
        have HO := Lib.hid (fun W hW => iOrder x lo c1 hc1 FX hfit.1 W hW)
        by_cases h2 : up < x
        · have HO2 := Lib.hid (fun W hW => iOrder x up 1 (cmpQ_gt h2) FX hfit.2 W hW)
          have HNX := Lib.hid (show exOf q (i + 1) = (lo, x) by rw [hnext]; unfold exStep; rw [if_neg h1, if_pos h2])
          clear hnext h1 h2 FX hfit hc1
          go_wp2_with fail
          refine (HO.out _ (HL.out.on hE.out.1)).mono ?_
          rintro e w1 ⟨rfl, hb⟩
          have hE1 := Lib.hid (hE.out.call hb)
          clear hb r0 r1 r2 r3 f0 f1 f2 f3 hcx hcx2
          obtain ⟨⟨r0, r1, r2, r3⟩, ⟨f0, f1, f2, f3⟩⟩ := hE1.out.2.2
          go_wp2_with fail
          refine (HO2.out _ (HL.out.on hE1.out.1)).mono ?_
          rintro e w2 ⟨rfl, hb⟩
          have hE2 := Lib.hid (hE1.out.call hb)
          clear hb r0 r1 r2 r3 f0 f1 f2 f3
          obtain ⟨⟨r0, r1, r2, r3⟩, ⟨f0, f1, f2, f3⟩⟩ := hE2.out.2.2
          go_wp2
          go_roundw
          case rel => exact ⟨i + 1, by omega, by go_num, Lib.hid (by rw [HNX.out]; exact hE2.out.setHi x)⟩
          case measure => simp [intOf]; omega
        · obtain ⟨c3, hc3, hc4⟩ : ∃ c3, cmpQ x up = c3 ∧ decide (0 < c3) = false := by
            rcases cmpQ_cases x up with ⟨h, e⟩ | ⟨h, e⟩ | ⟨h, e⟩
            · exact ⟨-1, e, by decide⟩
            · exact ⟨0, e, by decide⟩
            · exact absurd h h2
          have HO2 := Lib.hid (fun W hW => iOrder x up c3 hc3 FX hfit.2 W hW)
          have HNX := Lib.hid (show exOf q (i + 1) = (lo, up) by rw [hnext]; unfold exStep; rw [if_neg h1, if_neg h2])
          clear hnext h1 h2 FX hfit hc1 hc3
          go_wp2_with fail
          refine (HO.out _ (HL.out.on hE.out.1)).mono ?_
          rintro e w1 ⟨rfl, hb⟩
          have hE1 := Lib.hid (hE.out.call hb)
          clear hb r0 r1 r2 r3 f0 f1 f2 f3 hcx hcx2
          obtain ⟨⟨r0, r1, r2, r3⟩, ⟨f0, f1, f2, f3⟩⟩ := hE1.out.2.2
          go_wp2_with fail
          refine (HO2.out _ (HL.out.on hE1.out.1)).mono ?_
          rintro e w2 ⟨rfl, hb⟩
          have hE2 := Lib.hid (hE1.out.call hb)
          clear hb r0 r1 r2 r3 f0 f1 f2 f3
          obtain ⟨⟨r0, r1, r2, r3⟩, ⟨f0, f1, f2, f3⟩⟩ := hE2.out.2.2
          go_wp2
          go_roundw
          case rel => exact ⟨i + 1, by omega, by go_num, Lib.hid (by rw [HNX.out]; exact hE2.out)⟩
          case measure => simp [intOf]; omega
    · have hge : decide ((i : Int) < ((n - 1 : Nat) : Int)) = false := by rw [decide_eq_false_iff_not]; omega
      have hin : n - 1 = i := by omega
      go_wp2
      refine bodyPost_ret (v := .agg #[.string (Sq (exOf q i).1), .string (Sq (exOf q i).2)]) (by simp [results, Tryz.results80, go_sem, r0, r1]) rfl ⟨by rw [hin], ?_⟩
      exact (hE.out.1.setCell (p := ⟨w.heap.size, 0, none⟩) (Nat.le_refl _) _).setCell (p := ⟨w.heap.size, 1, none⟩) (Nat.le_refl _) _

end Go.Proofs.YtlagimghlngdgaaGreatDoor
