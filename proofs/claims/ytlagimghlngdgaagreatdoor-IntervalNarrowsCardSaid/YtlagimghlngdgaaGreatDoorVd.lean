/- interval: Mul, Div, Square, Exact. -/
import Derived.Test.YtlagimghlngdgaaGreatDoorVc
namespace Go.Proofs.YtlagimghlngdgaaGreatDoor
open Go.RowKit Go.Gb

set_option maxHeartbeats 2000000 in
set_option maxRecDepth 100000 in
theorem iMul_raw (l1 h1 l2 h2 lo hi : ByteArray) (w : World) (hl : La w)
    (g1 : ∀ W, La W → Calls Tryz.prog 34 #[.agg #[.string l1, .string h1]] W fun e w' => e = .returned (.bool true) ∧ Below W.heap.size W w')
    (g2 : ∀ W, La W → Calls Tryz.prog 34 #[.agg #[.string l2, .string h2]] W fun e w' => e = .returned (.bool true) ∧ Below W.heap.size W w')
    (g3 : ∀ W, La W → Calls Tryz.prog 79 #[.agg #[.string l1, .string h1], .agg #[.string l2, .string h2], .func (.func 19) #[] #[]] W fun e w' => e = .returned (.agg #[.string lo, .string hi]) ∧ Below W.heap.size W w') :
    Calls Tryz.prog 39 #[.agg #[.string l1, .string h1], .agg #[.string l2, .string h2]] w fun e w' => e = .returned (.tuple #[.agg #[.string lo, .string hi], .int .i64 0]) ∧ Below w.heap.size w w' := by
  have C1 := Lib.hid g1
  have C2 := Lib.hid g2
  have C3 := Lib.hid g3
  obtain ⟨w0, hw0⟩ : ∃ w0 : World, w0 = (((w.alloc (.cells #[.string l1, .string h1] 48)).alloc (.cells #[.string l2, .string h2] 48)).alloc (.cells #[.string ⟨#[]⟩, .string ⟨#[]⟩] 48)) := ⟨_, rfl⟩
  have hz0 : w0.heap.size = w.heap.size + 3 := by rw [hw0]; simp
  have hB0 : Below w.heap.size w w0 := by
    rw [hw0]
    repeat (first | exact Below.refl _ _ | refine Below.setCell ?_ (by first | omega | (simp; omega) | simp) _ | refine Below.alloc ?_ (by first | omega | (simp; omega) | simp) _ | refine Below.drew ?_)
  have hS0 : w0.cell? ⟨w.heap.size, 0, none⟩ = some (.string l1) ∧ w0.cell? ⟨w.heap.size, 1, none⟩ = some (.string h1) ∧ w0.cell? ⟨w.heap.size + 1, 0, none⟩ = some (.string l2) ∧ w0.cell? ⟨w.heap.size + 1, 1, none⟩ = some (.string h2) := by rw [hw0]; exact ⟨((q_lt (by first | omega | (simp; done) | (simp; omega))).trans ((q_lt (by first | omega | (simp; done) | (simp; omega))).trans ((q_new (by first | omega | (simp; done) | (simp; omega))).trans rfl))), ((q_lt (by first | omega | (simp; done) | (simp; omega))).trans ((q_lt (by first | omega | (simp; done) | (simp; omega))).trans ((q_new (by first | omega | (simp; done) | (simp; omega))).trans rfl))), ((q_lt (by first | omega | (simp; done) | (simp; omega))).trans ((q_new (by first | omega | (simp; done) | (simp; omega))).trans rfl)), ((q_lt (by first | omega | (simp; done) | (simp; omega))).trans ((q_new (by first | omega | (simp; done) | (simp; omega))).trans rfl))⟩
  have KS := Lib.hid (show ∀ W : World, Below w0.heap.size w0 W → (W.cell? ⟨w.heap.size, 0, none⟩ = some (.string l1) ∧ W.cell? ⟨w.heap.size, 1, none⟩ = some (.string h1) ∧ W.cell? ⟨w.heap.size + 1, 0, none⟩ = some (.string l2) ∧ W.cell? ⟨w.heap.size + 1, 1, none⟩ = some (.string h2)) from fun W hB => by
    obtain ⟨c0, c1, c2, c3⟩ := hS0
    exact ⟨(hB.cell (p := ⟨w.heap.size, 0, none⟩) (by show w.heap.size < _; omega)).trans c0, (hB.cell (p := ⟨w.heap.size, 1, none⟩) (by show w.heap.size < _; omega)).trans c1, (hB.cell (p := ⟨w.heap.size + 1, 0, none⟩) (by show w.heap.size + 1 < _; omega)).trans c2, (hB.cell (p := ⟨w.heap.size + 1, 1, none⟩) (by show w.heap.size + 1 < _; omega)).trans c3⟩)
  have KZ := Lib.hid (show ∀ W : World, Below w0.heap.size w0 W → w.heap.size + 3 ≤ W.heap.size from fun W hB => by have := hB.size; omega)
  have KB := Lib.hid (show ∀ W : World, Below w0.heap.size w0 W → Below w.heap.size w W from fun W hB => hB0.trans (hB.mono (by omega)))
  have hR0 : w0.cell? ⟨w.heap.size + 1 + 1, 0, none⟩ = some (.string ⟨#[]⟩) ∧ w0.cell? ⟨w.heap.size + 1 + 1, 1, none⟩ = some (.string ⟨#[]⟩) ∧ w0.frozen? ⟨w.heap.size + 1 + 1, 0, none⟩ = false ∧ w0.frozen? ⟨w.heap.size + 1 + 1, 1, none⟩ = false := by rw [hw0]; exact ⟨((q_new (by first | omega | (simp; done) | (simp; omega))).trans rfl), ((q_new (by first | omega | (simp; done) | (simp; omega))).trans rfl), (fq_new (by first | omega | (simp; done) | (simp; omega))), (fq_new (by first | omega | (simp; done) | (simp; omega)))⟩
  have KR := Lib.hid (show ∀ W : World, Below w0.heap.size w0 W → (W.cell? ⟨w.heap.size + 1 + 1, 0, none⟩ = some (.string ⟨#[]⟩) ∧ W.cell? ⟨w.heap.size + 1 + 1, 1, none⟩ = some (.string ⟨#[]⟩) ∧ W.frozen? ⟨w.heap.size + 1 + 1, 0, none⟩ = false ∧ W.frozen? ⟨w.heap.size + 1 + 1, 1, none⟩ = false) from fun W hB => by
    obtain ⟨c0, c1, f0, f1⟩ := hR0
    exact ⟨(hB.cell (p := ⟨w.heap.size + 1 + 1, 0, none⟩) (by show w.heap.size + 1 + 1 < _; omega)).trans c0, (hB.cell (p := ⟨w.heap.size + 1 + 1, 1, none⟩) (by show w.heap.size + 1 + 1 < _; omega)).trans c1, (hB.frozen (p := ⟨w.heap.size + 1 + 1, 0, none⟩) (by show w.heap.size + 1 + 1 < _; omega)).trans f0, (hB.frozen (p := ⟨w.heap.size + 1 + 1, 1, none⟩) (by show w.heap.size + 1 + 1 < _; omega)).trans f1⟩)
  clear hR0
  have KT0 := Lib.hid (show ∀ (W : World) (v u : Value), Below w0.heap.size w0 W → (((W.setCell ⟨w.heap.size + 1 + 1, 0, none⟩ v).setCell ⟨w.heap.size + 1 + 1, 1, none⟩ u).cell? ⟨w.heap.size, 0, none⟩ = some (.string l1) ∧ ((W.setCell ⟨w.heap.size + 1 + 1, 0, none⟩ v).setCell ⟨w.heap.size + 1 + 1, 1, none⟩ u).cell? ⟨w.heap.size, 1, none⟩ = some (.string h1) ∧ ((W.setCell ⟨w.heap.size + 1 + 1, 0, none⟩ v).setCell ⟨w.heap.size + 1 + 1, 1, none⟩ u).cell? ⟨w.heap.size + 1, 0, none⟩ = some (.string l2) ∧ ((W.setCell ⟨w.heap.size + 1 + 1, 0, none⟩ v).setCell ⟨w.heap.size + 1 + 1, 1, none⟩ u).cell? ⟨w.heap.size + 1, 1, none⟩ = some (.string h2)) from fun W v u hB => by
    have hh := KS.out W hB
    obtain ⟨c0, c1, c2, c3⟩ := hh
    exact ⟨(q_set (by omega)).trans ((q_set (by omega)).trans c0), (q_set (by omega)).trans ((q_set (by omega)).trans c1), (q_set (by omega)).trans ((q_set (by omega)).trans c2), (q_set (by omega)).trans ((q_set (by omega)).trans c3)⟩)
  have F0 := Lib.hid (Below.refl w0.heap.size w0)
  have HW0 := Lib.hid hw0
  clear hz0 hB0 hS0 hw0
  have HL := Lib.hid (show ∀ W : World, Below w0.heap.size w0 W → La W from fun W hB => hl.on (KB.out W hB))
  clear hl
  clear g1 g2 g3
  go_enter Tryz.func39, Tryz.ntmps39
  go_wp2_with fail
  rw [← HW0.out]
  obtain ⟨d0, d1, d2, d3⟩ := KS.out _ F0.out
  go_wp2_with fail
  refine (C1.out _ (HL.out _ F0.out)).mono ?_
  rintro e w1 ⟨rfl, hb⟩
  have F1 := Lib.hid (fr_chain F0.out hb)
  clear hb
  clear d0 d1 d2 d3
  obtain ⟨d0, d1, d2, d3⟩ := KS.out _ F1.out
  go_wp2_with fail
  refine (C2.out _ (HL.out _ F1.out)).mono ?_
  rintro e w2 ⟨rfl, hb⟩
  have F2 := Lib.hid (fr_chain F1.out hb)
  clear hb
  clear d0 d1 d2 d3
  obtain ⟨d0, d1, d2, d3⟩ := KS.out _ F2.out
  go_wp2_with fail
  refine (C3.out _ (HL.out _ F2.out)).mono ?_
  rintro e w3 ⟨rfl, hb⟩
  have F3 := Lib.hid (fr_chain F2.out hb)
  clear hb
  clear d0 d1 d2 d3
  obtain ⟨d0, d1, d2, d3⟩ := KS.out _ F3.out
  all_goals
    obtain ⟨m0, m1, n0, n1⟩ := KR.out _ F3.out
    have hz := KZ.out _ F3.out
    go_wp2
    refine bodyPost_ret (v := .tuple #[.agg #[.string lo, .string hi], .int .i64 0]) (by simp [results, Tryz.results39, go_sem, m0, m1]) rfl ⟨rfl, ?_⟩
    repeat (first | exact KB.out _ F3.out | refine Below.setCell ?_ (by first | omega | (simp; omega) | simp) _ | refine Below.alloc ?_ (by first | omega | (simp; omega) | simp) _ | refine Below.drew ?_)

set_option maxHeartbeats 2000000 in
set_option maxRecDepth 100000 in
theorem iDiv_raw (l1 h1 l2 h2 lo hi : ByteArray) (w : World) (hl : La w)
    (g1 : ∀ W, La W → Calls Tryz.prog 34 #[.agg #[.string l1, .string h1]] W fun e w' => e = .returned (.bool true) ∧ Below W.heap.size W w')
    (g2 : ∀ W, La W → Calls Tryz.prog 34 #[.agg #[.string l2, .string h2]] W fun e w' => e = .returned (.bool true) ∧ Below W.heap.size W w')
    (g3 : ∀ W, La W → Calls Tryz.prog 78 #[.agg #[.string l2, .string h2], .string ⟨#[48]⟩] W fun e w' => e = .returned (.bool false) ∧ Below W.heap.size W w')
    (g4 : ∀ W, La W → Calls Tryz.prog 79 #[.agg #[.string l1, .string h1], .agg #[.string l2, .string h2], .func (.func 20) #[] #[]] W fun e w' => e = .returned (.agg #[.string lo, .string hi]) ∧ Below W.heap.size W w') :
    Calls Tryz.prog 41 #[.agg #[.string l1, .string h1], .agg #[.string l2, .string h2]] w fun e w' => e = .returned (.tuple #[.agg #[.string lo, .string hi], .int .i64 0]) ∧ Below w.heap.size w w' := by
  have C1 := Lib.hid g1
  have C2 := Lib.hid g2
  have C3 := Lib.hid g3
  have C4 := Lib.hid g4
  obtain ⟨w0, hw0⟩ : ∃ w0 : World, w0 = (((w.alloc (.cells #[.string l1, .string h1] 48)).alloc (.cells #[.string l2, .string h2] 48)).alloc (.cells #[.string ⟨#[]⟩, .string ⟨#[]⟩] 48)) := ⟨_, rfl⟩
  have hz0 : w0.heap.size = w.heap.size + 3 := by rw [hw0]; simp
  have hB0 : Below w.heap.size w w0 := by
    rw [hw0]
    repeat (first | exact Below.refl _ _ | refine Below.setCell ?_ (by first | omega | (simp; omega) | simp) _ | refine Below.alloc ?_ (by first | omega | (simp; omega) | simp) _ | refine Below.drew ?_)
  have hS0 : w0.cell? ⟨w.heap.size, 0, none⟩ = some (.string l1) ∧ w0.cell? ⟨w.heap.size, 1, none⟩ = some (.string h1) ∧ w0.cell? ⟨w.heap.size + 1, 0, none⟩ = some (.string l2) ∧ w0.cell? ⟨w.heap.size + 1, 1, none⟩ = some (.string h2) := by rw [hw0]; exact ⟨((q_lt (by first | omega | (simp; done) | (simp; omega))).trans ((q_lt (by first | omega | (simp; done) | (simp; omega))).trans ((q_new (by first | omega | (simp; done) | (simp; omega))).trans rfl))), ((q_lt (by first | omega | (simp; done) | (simp; omega))).trans ((q_lt (by first | omega | (simp; done) | (simp; omega))).trans ((q_new (by first | omega | (simp; done) | (simp; omega))).trans rfl))), ((q_lt (by first | omega | (simp; done) | (simp; omega))).trans ((q_new (by first | omega | (simp; done) | (simp; omega))).trans rfl)), ((q_lt (by first | omega | (simp; done) | (simp; omega))).trans ((q_new (by first | omega | (simp; done) | (simp; omega))).trans rfl))⟩
  have KS := Lib.hid (show ∀ W : World, Below w0.heap.size w0 W → (W.cell? ⟨w.heap.size, 0, none⟩ = some (.string l1) ∧ W.cell? ⟨w.heap.size, 1, none⟩ = some (.string h1) ∧ W.cell? ⟨w.heap.size + 1, 0, none⟩ = some (.string l2) ∧ W.cell? ⟨w.heap.size + 1, 1, none⟩ = some (.string h2)) from fun W hB => by
    obtain ⟨c0, c1, c2, c3⟩ := hS0
    exact ⟨(hB.cell (p := ⟨w.heap.size, 0, none⟩) (by show w.heap.size < _; omega)).trans c0, (hB.cell (p := ⟨w.heap.size, 1, none⟩) (by show w.heap.size < _; omega)).trans c1, (hB.cell (p := ⟨w.heap.size + 1, 0, none⟩) (by show w.heap.size + 1 < _; omega)).trans c2, (hB.cell (p := ⟨w.heap.size + 1, 1, none⟩) (by show w.heap.size + 1 < _; omega)).trans c3⟩)
  have KZ := Lib.hid (show ∀ W : World, Below w0.heap.size w0 W → w.heap.size + 3 ≤ W.heap.size from fun W hB => by have := hB.size; omega)
  have KB := Lib.hid (show ∀ W : World, Below w0.heap.size w0 W → Below w.heap.size w W from fun W hB => hB0.trans (hB.mono (by omega)))
  have hR0 : w0.cell? ⟨w.heap.size + 1 + 1, 0, none⟩ = some (.string ⟨#[]⟩) ∧ w0.cell? ⟨w.heap.size + 1 + 1, 1, none⟩ = some (.string ⟨#[]⟩) ∧ w0.frozen? ⟨w.heap.size + 1 + 1, 0, none⟩ = false ∧ w0.frozen? ⟨w.heap.size + 1 + 1, 1, none⟩ = false := by rw [hw0]; exact ⟨((q_new (by first | omega | (simp; done) | (simp; omega))).trans rfl), ((q_new (by first | omega | (simp; done) | (simp; omega))).trans rfl), (fq_new (by first | omega | (simp; done) | (simp; omega))), (fq_new (by first | omega | (simp; done) | (simp; omega)))⟩
  have KR := Lib.hid (show ∀ W : World, Below w0.heap.size w0 W → (W.cell? ⟨w.heap.size + 1 + 1, 0, none⟩ = some (.string ⟨#[]⟩) ∧ W.cell? ⟨w.heap.size + 1 + 1, 1, none⟩ = some (.string ⟨#[]⟩) ∧ W.frozen? ⟨w.heap.size + 1 + 1, 0, none⟩ = false ∧ W.frozen? ⟨w.heap.size + 1 + 1, 1, none⟩ = false) from fun W hB => by
    obtain ⟨c0, c1, f0, f1⟩ := hR0
    exact ⟨(hB.cell (p := ⟨w.heap.size + 1 + 1, 0, none⟩) (by show w.heap.size + 1 + 1 < _; omega)).trans c0, (hB.cell (p := ⟨w.heap.size + 1 + 1, 1, none⟩) (by show w.heap.size + 1 + 1 < _; omega)).trans c1, (hB.frozen (p := ⟨w.heap.size + 1 + 1, 0, none⟩) (by show w.heap.size + 1 + 1 < _; omega)).trans f0, (hB.frozen (p := ⟨w.heap.size + 1 + 1, 1, none⟩) (by show w.heap.size + 1 + 1 < _; omega)).trans f1⟩)
  clear hR0
  have KT0 := Lib.hid (show ∀ (W : World) (v u : Value), Below w0.heap.size w0 W → (((W.setCell ⟨w.heap.size + 1 + 1, 0, none⟩ v).setCell ⟨w.heap.size + 1 + 1, 1, none⟩ u).cell? ⟨w.heap.size, 0, none⟩ = some (.string l1) ∧ ((W.setCell ⟨w.heap.size + 1 + 1, 0, none⟩ v).setCell ⟨w.heap.size + 1 + 1, 1, none⟩ u).cell? ⟨w.heap.size, 1, none⟩ = some (.string h1) ∧ ((W.setCell ⟨w.heap.size + 1 + 1, 0, none⟩ v).setCell ⟨w.heap.size + 1 + 1, 1, none⟩ u).cell? ⟨w.heap.size + 1, 0, none⟩ = some (.string l2) ∧ ((W.setCell ⟨w.heap.size + 1 + 1, 0, none⟩ v).setCell ⟨w.heap.size + 1 + 1, 1, none⟩ u).cell? ⟨w.heap.size + 1, 1, none⟩ = some (.string h2)) from fun W v u hB => by
    have hh := KS.out W hB
    obtain ⟨c0, c1, c2, c3⟩ := hh
    exact ⟨(q_set (by omega)).trans ((q_set (by omega)).trans c0), (q_set (by omega)).trans ((q_set (by omega)).trans c1), (q_set (by omega)).trans ((q_set (by omega)).trans c2), (q_set (by omega)).trans ((q_set (by omega)).trans c3)⟩)
  have F0 := Lib.hid (Below.refl w0.heap.size w0)
  have HW0 := Lib.hid hw0
  clear hz0 hB0 hS0 hw0
  have HL := Lib.hid (show ∀ W : World, Below w0.heap.size w0 W → La W from fun W hB => hl.on (KB.out W hB))
  clear hl
  clear g1 g2 g3 g4
  go_enter Tryz.func41, Tryz.ntmps41
  go_wp2_with fail
  rw [← HW0.out]
  obtain ⟨d0, d1, d2, d3⟩ := KS.out _ F0.out
  go_wp2_with fail
  refine (C1.out _ (HL.out _ F0.out)).mono ?_
  rintro e w1 ⟨rfl, hb⟩
  have F1 := Lib.hid (fr_chain F0.out hb)
  clear hb
  clear d0 d1 d2 d3
  obtain ⟨d0, d1, d2, d3⟩ := KS.out _ F1.out
  go_wp2_with fail
  refine (C2.out _ (HL.out _ F1.out)).mono ?_
  rintro e w2 ⟨rfl, hb⟩
  have F2 := Lib.hid (fr_chain F1.out hb)
  clear hb
  clear d0 d1 d2 d3
  obtain ⟨d0, d1, d2, d3⟩ := KS.out _ F2.out
  go_wp2_with fail
  refine (C3.out _ (HL.out _ F2.out)).mono ?_
  rintro e w3 ⟨rfl, hb⟩
  have F3 := Lib.hid (fr_chain F2.out hb)
  clear hb
  clear d0 d1 d2 d3
  obtain ⟨d0, d1, d2, d3⟩ := KS.out _ F3.out
  go_wp2_with fail
  refine (C4.out _ (HL.out _ F3.out)).mono ?_
  rintro e w4 ⟨rfl, hb⟩
  have F4 := Lib.hid (fr_chain F3.out hb)
  clear hb
  clear d0 d1 d2 d3
  obtain ⟨d0, d1, d2, d3⟩ := KS.out _ F4.out
  all_goals
    obtain ⟨m0, m1, n0, n1⟩ := KR.out _ F4.out
    have hz := KZ.out _ F4.out
    go_wp2
    refine bodyPost_ret (v := .tuple #[.agg #[.string lo, .string hi], .int .i64 0]) (by simp [results, Tryz.results41, go_sem, m0, m1]) rfl ⟨rfl, ?_⟩
    repeat (first | exact KB.out _ F4.out | refine Below.setCell ?_ (by first | omega | (simp; omega) | simp) _ | refine Below.alloc ?_ (by first | omega | (simp; omega) | simp) _ | refine Below.drew ?_)

set_option maxHeartbeats 2000000 in
set_option maxRecDepth 100000 in
theorem iDiv_zero_raw (l1 h1 l2 h2 : ByteArray) (w : World) (hl : La w)
    (g1 : ∀ W, La W → Calls Tryz.prog 34 #[.agg #[.string l1, .string h1]] W fun e w' => e = .returned (.bool true) ∧ Below W.heap.size W w')
    (g2 : ∀ W, La W → Calls Tryz.prog 34 #[.agg #[.string l2, .string h2]] W fun e w' => e = .returned (.bool true) ∧ Below W.heap.size W w')
    (g3 : ∀ W, La W → Calls Tryz.prog 78 #[.agg #[.string l2, .string h2], .string ⟨#[48]⟩] W fun e w' => e = .returned (.bool true) ∧ Below W.heap.size W w') :
    Calls Tryz.prog 41 #[.agg #[.string l1, .string h1], .agg #[.string l2, .string h2]] w fun e w' => e = .returned (.tuple #[.agg #[.string ⟨#[]⟩, .string ⟨#[]⟩], .int .i64 16]) ∧ Below w.heap.size w w' := by
  have C1 := Lib.hid g1
  have C2 := Lib.hid g2
  have C3 := Lib.hid g3
  obtain ⟨w0, hw0⟩ : ∃ w0 : World, w0 = (((w.alloc (.cells #[.string l1, .string h1] 48)).alloc (.cells #[.string l2, .string h2] 48)).alloc (.cells #[.string ⟨#[]⟩, .string ⟨#[]⟩] 48)) := ⟨_, rfl⟩
  have hz0 : w0.heap.size = w.heap.size + 3 := by rw [hw0]; simp
  have hB0 : Below w.heap.size w w0 := by
    rw [hw0]
    repeat (first | exact Below.refl _ _ | refine Below.setCell ?_ (by first | omega | (simp; omega) | simp) _ | refine Below.alloc ?_ (by first | omega | (simp; omega) | simp) _ | refine Below.drew ?_)
  have hS0 : w0.cell? ⟨w.heap.size, 0, none⟩ = some (.string l1) ∧ w0.cell? ⟨w.heap.size, 1, none⟩ = some (.string h1) ∧ w0.cell? ⟨w.heap.size + 1, 0, none⟩ = some (.string l2) ∧ w0.cell? ⟨w.heap.size + 1, 1, none⟩ = some (.string h2) := by rw [hw0]; exact ⟨((q_lt (by first | omega | (simp; done) | (simp; omega))).trans ((q_lt (by first | omega | (simp; done) | (simp; omega))).trans ((q_new (by first | omega | (simp; done) | (simp; omega))).trans rfl))), ((q_lt (by first | omega | (simp; done) | (simp; omega))).trans ((q_lt (by first | omega | (simp; done) | (simp; omega))).trans ((q_new (by first | omega | (simp; done) | (simp; omega))).trans rfl))), ((q_lt (by first | omega | (simp; done) | (simp; omega))).trans ((q_new (by first | omega | (simp; done) | (simp; omega))).trans rfl)), ((q_lt (by first | omega | (simp; done) | (simp; omega))).trans ((q_new (by first | omega | (simp; done) | (simp; omega))).trans rfl))⟩
  have KS := Lib.hid (show ∀ W : World, Below w0.heap.size w0 W → (W.cell? ⟨w.heap.size, 0, none⟩ = some (.string l1) ∧ W.cell? ⟨w.heap.size, 1, none⟩ = some (.string h1) ∧ W.cell? ⟨w.heap.size + 1, 0, none⟩ = some (.string l2) ∧ W.cell? ⟨w.heap.size + 1, 1, none⟩ = some (.string h2)) from fun W hB => by
    obtain ⟨c0, c1, c2, c3⟩ := hS0
    exact ⟨(hB.cell (p := ⟨w.heap.size, 0, none⟩) (by show w.heap.size < _; omega)).trans c0, (hB.cell (p := ⟨w.heap.size, 1, none⟩) (by show w.heap.size < _; omega)).trans c1, (hB.cell (p := ⟨w.heap.size + 1, 0, none⟩) (by show w.heap.size + 1 < _; omega)).trans c2, (hB.cell (p := ⟨w.heap.size + 1, 1, none⟩) (by show w.heap.size + 1 < _; omega)).trans c3⟩)
  have KZ := Lib.hid (show ∀ W : World, Below w0.heap.size w0 W → w.heap.size + 3 ≤ W.heap.size from fun W hB => by have := hB.size; omega)
  have KB := Lib.hid (show ∀ W : World, Below w0.heap.size w0 W → Below w.heap.size w W from fun W hB => hB0.trans (hB.mono (by omega)))
  have hR0 : w0.cell? ⟨w.heap.size + 1 + 1, 0, none⟩ = some (.string ⟨#[]⟩) ∧ w0.cell? ⟨w.heap.size + 1 + 1, 1, none⟩ = some (.string ⟨#[]⟩) ∧ w0.frozen? ⟨w.heap.size + 1 + 1, 0, none⟩ = false ∧ w0.frozen? ⟨w.heap.size + 1 + 1, 1, none⟩ = false := by rw [hw0]; exact ⟨((q_new (by first | omega | (simp; done) | (simp; omega))).trans rfl), ((q_new (by first | omega | (simp; done) | (simp; omega))).trans rfl), (fq_new (by first | omega | (simp; done) | (simp; omega))), (fq_new (by first | omega | (simp; done) | (simp; omega)))⟩
  have KR := Lib.hid (show ∀ W : World, Below w0.heap.size w0 W → (W.cell? ⟨w.heap.size + 1 + 1, 0, none⟩ = some (.string ⟨#[]⟩) ∧ W.cell? ⟨w.heap.size + 1 + 1, 1, none⟩ = some (.string ⟨#[]⟩) ∧ W.frozen? ⟨w.heap.size + 1 + 1, 0, none⟩ = false ∧ W.frozen? ⟨w.heap.size + 1 + 1, 1, none⟩ = false) from fun W hB => by
    obtain ⟨c0, c1, f0, f1⟩ := hR0
    exact ⟨(hB.cell (p := ⟨w.heap.size + 1 + 1, 0, none⟩) (by show w.heap.size + 1 + 1 < _; omega)).trans c0, (hB.cell (p := ⟨w.heap.size + 1 + 1, 1, none⟩) (by show w.heap.size + 1 + 1 < _; omega)).trans c1, (hB.frozen (p := ⟨w.heap.size + 1 + 1, 0, none⟩) (by show w.heap.size + 1 + 1 < _; omega)).trans f0, (hB.frozen (p := ⟨w.heap.size + 1 + 1, 1, none⟩) (by show w.heap.size + 1 + 1 < _; omega)).trans f1⟩)
  clear hR0
  have KT0 := Lib.hid (show ∀ (W : World) (v u : Value), Below w0.heap.size w0 W → (((W.setCell ⟨w.heap.size + 1 + 1, 0, none⟩ v).setCell ⟨w.heap.size + 1 + 1, 1, none⟩ u).cell? ⟨w.heap.size, 0, none⟩ = some (.string l1) ∧ ((W.setCell ⟨w.heap.size + 1 + 1, 0, none⟩ v).setCell ⟨w.heap.size + 1 + 1, 1, none⟩ u).cell? ⟨w.heap.size, 1, none⟩ = some (.string h1) ∧ ((W.setCell ⟨w.heap.size + 1 + 1, 0, none⟩ v).setCell ⟨w.heap.size + 1 + 1, 1, none⟩ u).cell? ⟨w.heap.size + 1, 0, none⟩ = some (.string l2) ∧ ((W.setCell ⟨w.heap.size + 1 + 1, 0, none⟩ v).setCell ⟨w.heap.size + 1 + 1, 1, none⟩ u).cell? ⟨w.heap.size + 1, 1, none⟩ = some (.string h2)) from fun W v u hB => by
    have hh := KS.out W hB
    obtain ⟨c0, c1, c2, c3⟩ := hh
    exact ⟨(q_set (by omega)).trans ((q_set (by omega)).trans c0), (q_set (by omega)).trans ((q_set (by omega)).trans c1), (q_set (by omega)).trans ((q_set (by omega)).trans c2), (q_set (by omega)).trans ((q_set (by omega)).trans c3)⟩)
  have F0 := Lib.hid (Below.refl w0.heap.size w0)
  have HW0 := Lib.hid hw0
  clear hz0 hB0 hS0 hw0
  have HL := Lib.hid (show ∀ W : World, Below w0.heap.size w0 W → La W from fun W hB => hl.on (KB.out W hB))
  clear hl
  clear g1 g2 g3
  go_enter Tryz.func41, Tryz.ntmps41
  go_wp2_with fail
  rw [← HW0.out]
  obtain ⟨d0, d1, d2, d3⟩ := KS.out _ F0.out
  go_wp2_with fail
  refine (C1.out _ (HL.out _ F0.out)).mono ?_
  rintro e w1 ⟨rfl, hb⟩
  have F1 := Lib.hid (fr_chain F0.out hb)
  clear hb
  clear d0 d1 d2 d3
  obtain ⟨d0, d1, d2, d3⟩ := KS.out _ F1.out
  go_wp2_with fail
  refine (C2.out _ (HL.out _ F1.out)).mono ?_
  rintro e w2 ⟨rfl, hb⟩
  have F2 := Lib.hid (fr_chain F1.out hb)
  clear hb
  clear d0 d1 d2 d3
  obtain ⟨d0, d1, d2, d3⟩ := KS.out _ F2.out
  go_wp2_with fail
  refine (C3.out _ (HL.out _ F2.out)).mono ?_
  rintro e w3 ⟨rfl, hb⟩
  have F3 := Lib.hid (fr_chain F2.out hb)
  clear hb
  clear d0 d1 d2 d3
  obtain ⟨d0, d1, d2, d3⟩ := KS.out _ F3.out
  all_goals
    obtain ⟨m0, m1, n0, n1⟩ := KR.out _ F3.out
    have hz := KZ.out _ F3.out
    go_wp2
    refine bodyPost_ret (v := .tuple #[.agg #[.string ⟨#[]⟩, .string ⟨#[]⟩], .int .i64 16]) (by simp [results, Tryz.results41, go_sem, m0, m1]) rfl ⟨rfl, ?_⟩
    repeat (first | exact KB.out _ F3.out | refine Below.setCell ?_ (by first | omega | (simp; omega) | simp) _ | refine Below.alloc ?_ (by first | omega | (simp; omega) | simp) _ | refine Below.drew ?_)

set_option maxHeartbeats 2000000 in
set_option maxRecDepth 100000 in
theorem iSquare_raw (l h p q lo hi : ByteArray) (w : World) (hl : La w)
    (g1 : ∀ W, La W → Calls Tryz.prog 34 #[.agg #[.string l, .string h]] W fun e w' => e = .returned (.bool true) ∧ Below W.heap.size W w')
    (g2 : ∀ W, La W → Calls Tryz.prog 19 #[.string l, .string l] W fun e w' => e = .returned (.tuple #[.string p, .int .i64 0]) ∧ Below W.heap.size W w')
    (g3 : ∀ W, La W → Calls Tryz.prog 19 #[.string h, .string h] W fun e w' => e = .returned (.tuple #[.string q, .int .i64 0]) ∧ Below W.heap.size W w')
    (g4 : ∀ W, La W → Calls Tryz.prog 78 #[.agg #[.string l, .string h], .string ⟨#[48]⟩] W fun e w' => e = .returned (.bool false) ∧ Below W.heap.size W w')
    (g5 : ∀ W g, La W → g < W.heap.size → W.cell? ⟨g, 0, none⟩ = some (.string p) → W.cell? ⟨g, 1, none⟩ = some (.string q) → Calls Tryz.prog 80 #[.slice (some ⟨g, 0, none⟩) 2 2] W fun e w' => e = .returned (.agg #[.string lo, .string hi]) ∧ Below W.heap.size W w') :
    Calls Tryz.prog 40 #[.agg #[.string l, .string h]] w fun e w' => e = .returned (.tuple #[.agg #[.string lo, .string hi], .int .i64 0]) ∧ Below w.heap.size w w' := by
  have C1 := Lib.hid g1
  have C2 := Lib.hid g2
  have C3 := Lib.hid g3
  have C4 := Lib.hid g4
  have C5 := Lib.hid g5
  obtain ⟨w0, hw0⟩ : ∃ w0 : World, w0 = ((w.alloc (.cells #[.string l, .string h] 48)).alloc (.cells #[.string ⟨#[]⟩, .string ⟨#[]⟩] 48)) := ⟨_, rfl⟩
  have hz0 : w0.heap.size = w.heap.size + 2 := by rw [hw0]; simp
  have hB0 : Below w.heap.size w w0 := by
    rw [hw0]
    repeat (first | exact Below.refl _ _ | refine Below.setCell ?_ (by first | omega | (simp; omega) | simp) _ | refine Below.alloc ?_ (by first | omega | (simp; omega) | simp) _ | refine Below.drew ?_)
  have hS0 : w0.cell? ⟨w.heap.size, 0, none⟩ = some (.string l) ∧ w0.cell? ⟨w.heap.size, 1, none⟩ = some (.string h) := by rw [hw0]; exact ⟨((q_lt (by first | omega | (simp; done) | (simp; omega))).trans ((q_new (by first | omega | (simp; done) | (simp; omega))).trans rfl)), ((q_lt (by first | omega | (simp; done) | (simp; omega))).trans ((q_new (by first | omega | (simp; done) | (simp; omega))).trans rfl))⟩
  have KS := Lib.hid (show ∀ W : World, Below w0.heap.size w0 W → (W.cell? ⟨w.heap.size, 0, none⟩ = some (.string l) ∧ W.cell? ⟨w.heap.size, 1, none⟩ = some (.string h)) from fun W hB => by
    obtain ⟨c0, c1⟩ := hS0
    exact ⟨(hB.cell (p := ⟨w.heap.size, 0, none⟩) (by show w.heap.size < _; omega)).trans c0, (hB.cell (p := ⟨w.heap.size, 1, none⟩) (by show w.heap.size < _; omega)).trans c1⟩)
  have KZ := Lib.hid (show ∀ W : World, Below w0.heap.size w0 W → w.heap.size + 2 ≤ W.heap.size from fun W hB => by have := hB.size; omega)
  have KB := Lib.hid (show ∀ W : World, Below w0.heap.size w0 W → Below w.heap.size w W from fun W hB => hB0.trans (hB.mono (by omega)))
  have hR0 : w0.cell? ⟨w.heap.size + 1, 0, none⟩ = some (.string ⟨#[]⟩) ∧ w0.cell? ⟨w.heap.size + 1, 1, none⟩ = some (.string ⟨#[]⟩) ∧ w0.frozen? ⟨w.heap.size + 1, 0, none⟩ = false ∧ w0.frozen? ⟨w.heap.size + 1, 1, none⟩ = false := by rw [hw0]; exact ⟨((q_new (by first | omega | (simp; done) | (simp; omega))).trans rfl), ((q_new (by first | omega | (simp; done) | (simp; omega))).trans rfl), (fq_new (by first | omega | (simp; done) | (simp; omega))), (fq_new (by first | omega | (simp; done) | (simp; omega)))⟩
  have KR := Lib.hid (show ∀ W : World, Below w0.heap.size w0 W → (W.cell? ⟨w.heap.size + 1, 0, none⟩ = some (.string ⟨#[]⟩) ∧ W.cell? ⟨w.heap.size + 1, 1, none⟩ = some (.string ⟨#[]⟩) ∧ W.frozen? ⟨w.heap.size + 1, 0, none⟩ = false ∧ W.frozen? ⟨w.heap.size + 1, 1, none⟩ = false) from fun W hB => by
    obtain ⟨c0, c1, f0, f1⟩ := hR0
    exact ⟨(hB.cell (p := ⟨w.heap.size + 1, 0, none⟩) (by show w.heap.size + 1 < _; omega)).trans c0, (hB.cell (p := ⟨w.heap.size + 1, 1, none⟩) (by show w.heap.size + 1 < _; omega)).trans c1, (hB.frozen (p := ⟨w.heap.size + 1, 0, none⟩) (by show w.heap.size + 1 < _; omega)).trans f0, (hB.frozen (p := ⟨w.heap.size + 1, 1, none⟩) (by show w.heap.size + 1 < _; omega)).trans f1⟩)
  clear hR0
  have KT0 := Lib.hid (show ∀ (W : World) (v u : Value), Below w0.heap.size w0 W → (((W.setCell ⟨w.heap.size + 1, 0, none⟩ v).setCell ⟨w.heap.size + 1, 1, none⟩ u).cell? ⟨w.heap.size, 0, none⟩ = some (.string l) ∧ ((W.setCell ⟨w.heap.size + 1, 0, none⟩ v).setCell ⟨w.heap.size + 1, 1, none⟩ u).cell? ⟨w.heap.size, 1, none⟩ = some (.string h)) from fun W v u hB => by
    have hh := KS.out W hB
    obtain ⟨c0, c1⟩ := hh
    exact ⟨(q_set (by omega)).trans ((q_set (by omega)).trans c0), (q_set (by omega)).trans ((q_set (by omega)).trans c1)⟩)
  have F0 := Lib.hid (Below.refl w0.heap.size w0)
  have HW0 := Lib.hid hw0
  clear hz0 hB0 hS0 hw0
  have HL := Lib.hid (show ∀ W : World, Below w0.heap.size w0 W → La W from fun W hB => hl.on (KB.out W hB))
  clear hl
  clear g1 g2 g3 g4 g5
  go_enter Tryz.func40, Tryz.ntmps40
  go_wp2_with fail
  rw [← HW0.out]
  obtain ⟨d0, d1⟩ := KS.out _ F0.out
  go_wp2_with fail
  refine (C1.out _ (HL.out _ F0.out)).mono ?_
  rintro e w1 ⟨rfl, hb⟩
  have F1 := Lib.hid (fr_chain F0.out hb)
  clear hb
  clear d0 d1
  obtain ⟨d0, d1⟩ := KS.out _ F1.out
  go_wp2_with fail
  refine (C2.out _ (HL.out _ F1.out)).mono ?_
  rintro e w2 ⟨rfl, hb⟩
  have F2 := Lib.hid (fr_chain F1.out hb)
  clear hb
  clear d0 d1
  obtain ⟨d0, d1⟩ := KS.out _ F2.out
  go_wp2_with fail
  refine (C3.out _ (HL.out _ F2.out)).mono ?_
  rintro e w3 ⟨rfl, hb⟩
  have F3 := Lib.hid (fr_chain F2.out hb)
  clear hb
  clear d0 d1
  obtain ⟨d0, d1⟩ := KS.out _ F3.out
  go_wp2_with fail
  refine (C4.out _ (HL.out _ F3.out)).mono ?_
  rintro e w4 ⟨rfl, hb⟩
  have F4 := Lib.hid (fr_chain F3.out hb)
  clear hb
  clear d0 d1
  obtain ⟨d0, d1⟩ := KS.out _ F4.out
  go_wp2_with fail
  have FA := Lib.hid (F4.out.alloc (F4.out.size) (.cells #[.string p, .string q] 22))
  refine (C5.out (w4.alloc (.cells #[.string p, .string q] 22)) w4.heap.size (HL.out _ FA.out) (by simp) ((q_new rfl).trans rfl) ((q_new rfl).trans rfl)).mono ?_
  rintro e w5 ⟨rfl, hb⟩
  have F5 := Lib.hid (fr_chain FA.out hb)
  clear hb
  clear d0 d1
  obtain ⟨d0, d1⟩ := KS.out _ F5.out
  all_goals
    obtain ⟨m0, m1, n0, n1⟩ := KR.out _ F5.out
    have hz := KZ.out _ F5.out
    go_wp2
    refine bodyPost_ret (v := .tuple #[.agg #[.string lo, .string hi], .int .i64 0]) (by simp [results, Tryz.results40, go_sem, m0, m1]) rfl ⟨rfl, ?_⟩
    repeat (first | exact KB.out _ F5.out | refine Below.setCell ?_ (by first | omega | (simp; omega) | simp) _ | refine Below.alloc ?_ (by first | omega | (simp; omega) | simp) _ | refine Below.drew ?_)

set_option maxHeartbeats 2000000 in
set_option maxRecDepth 100000 in
theorem iSquare_zero_raw (l h p q lo hi : ByteArray) (w : World) (hl : La w)
    (g1 : ∀ W, La W → Calls Tryz.prog 34 #[.agg #[.string l, .string h]] W fun e w' => e = .returned (.bool true) ∧ Below W.heap.size W w')
    (g2 : ∀ W, La W → Calls Tryz.prog 19 #[.string l, .string l] W fun e w' => e = .returned (.tuple #[.string p, .int .i64 0]) ∧ Below W.heap.size W w')
    (g3 : ∀ W, La W → Calls Tryz.prog 19 #[.string h, .string h] W fun e w' => e = .returned (.tuple #[.string q, .int .i64 0]) ∧ Below W.heap.size W w')
    (g4 : ∀ W, La W → Calls Tryz.prog 78 #[.agg #[.string l, .string h], .string ⟨#[48]⟩] W fun e w' => e = .returned (.bool true) ∧ Below W.heap.size W w')
    (g5 : ∀ W g, La W → g < W.heap.size → W.cell? ⟨g, 0, none⟩ = some (.string ⟨#[48]⟩) → W.cell? ⟨g, 1, none⟩ = some (.string p) → W.cell? ⟨g, 2, none⟩ = some (.string q) → Calls Tryz.prog 80 #[.slice (some ⟨g, 0, none⟩) 3 3] W fun e w' => e = .returned (.agg #[.string lo, .string hi]) ∧ Below W.heap.size W w') :
    Calls Tryz.prog 40 #[.agg #[.string l, .string h]] w fun e w' => e = .returned (.tuple #[.agg #[.string lo, .string hi], .int .i64 0]) ∧ Below w.heap.size w w' := by
  have C1 := Lib.hid g1
  have C2 := Lib.hid g2
  have C3 := Lib.hid g3
  have C4 := Lib.hid g4
  have C5 := Lib.hid g5
  obtain ⟨w0, hw0⟩ : ∃ w0 : World, w0 = ((w.alloc (.cells #[.string l, .string h] 48)).alloc (.cells #[.string ⟨#[]⟩, .string ⟨#[]⟩] 48)) := ⟨_, rfl⟩
  have hz0 : w0.heap.size = w.heap.size + 2 := by rw [hw0]; simp
  have hB0 : Below w.heap.size w w0 := by
    rw [hw0]
    repeat (first | exact Below.refl _ _ | refine Below.setCell ?_ (by first | omega | (simp; omega) | simp) _ | refine Below.alloc ?_ (by first | omega | (simp; omega) | simp) _ | refine Below.drew ?_)
  have hS0 : w0.cell? ⟨w.heap.size, 0, none⟩ = some (.string l) ∧ w0.cell? ⟨w.heap.size, 1, none⟩ = some (.string h) := by rw [hw0]; exact ⟨((q_lt (by first | omega | (simp; done) | (simp; omega))).trans ((q_new (by first | omega | (simp; done) | (simp; omega))).trans rfl)), ((q_lt (by first | omega | (simp; done) | (simp; omega))).trans ((q_new (by first | omega | (simp; done) | (simp; omega))).trans rfl))⟩
  have KS := Lib.hid (show ∀ W : World, Below w0.heap.size w0 W → (W.cell? ⟨w.heap.size, 0, none⟩ = some (.string l) ∧ W.cell? ⟨w.heap.size, 1, none⟩ = some (.string h)) from fun W hB => by
    obtain ⟨c0, c1⟩ := hS0
    exact ⟨(hB.cell (p := ⟨w.heap.size, 0, none⟩) (by show w.heap.size < _; omega)).trans c0, (hB.cell (p := ⟨w.heap.size, 1, none⟩) (by show w.heap.size < _; omega)).trans c1⟩)
  have KZ := Lib.hid (show ∀ W : World, Below w0.heap.size w0 W → w.heap.size + 2 ≤ W.heap.size from fun W hB => by have := hB.size; omega)
  have KB := Lib.hid (show ∀ W : World, Below w0.heap.size w0 W → Below w.heap.size w W from fun W hB => hB0.trans (hB.mono (by omega)))
  have hR0 : w0.cell? ⟨w.heap.size + 1, 0, none⟩ = some (.string ⟨#[]⟩) ∧ w0.cell? ⟨w.heap.size + 1, 1, none⟩ = some (.string ⟨#[]⟩) ∧ w0.frozen? ⟨w.heap.size + 1, 0, none⟩ = false ∧ w0.frozen? ⟨w.heap.size + 1, 1, none⟩ = false := by rw [hw0]; exact ⟨((q_new (by first | omega | (simp; done) | (simp; omega))).trans rfl), ((q_new (by first | omega | (simp; done) | (simp; omega))).trans rfl), (fq_new (by first | omega | (simp; done) | (simp; omega))), (fq_new (by first | omega | (simp; done) | (simp; omega)))⟩
  have KR := Lib.hid (show ∀ W : World, Below w0.heap.size w0 W → (W.cell? ⟨w.heap.size + 1, 0, none⟩ = some (.string ⟨#[]⟩) ∧ W.cell? ⟨w.heap.size + 1, 1, none⟩ = some (.string ⟨#[]⟩) ∧ W.frozen? ⟨w.heap.size + 1, 0, none⟩ = false ∧ W.frozen? ⟨w.heap.size + 1, 1, none⟩ = false) from fun W hB => by
    obtain ⟨c0, c1, f0, f1⟩ := hR0
    exact ⟨(hB.cell (p := ⟨w.heap.size + 1, 0, none⟩) (by show w.heap.size + 1 < _; omega)).trans c0, (hB.cell (p := ⟨w.heap.size + 1, 1, none⟩) (by show w.heap.size + 1 < _; omega)).trans c1, (hB.frozen (p := ⟨w.heap.size + 1, 0, none⟩) (by show w.heap.size + 1 < _; omega)).trans f0, (hB.frozen (p := ⟨w.heap.size + 1, 1, none⟩) (by show w.heap.size + 1 < _; omega)).trans f1⟩)
  clear hR0
  have KT0 := Lib.hid (show ∀ (W : World) (v u : Value), Below w0.heap.size w0 W → (((W.setCell ⟨w.heap.size + 1, 0, none⟩ v).setCell ⟨w.heap.size + 1, 1, none⟩ u).cell? ⟨w.heap.size, 0, none⟩ = some (.string l) ∧ ((W.setCell ⟨w.heap.size + 1, 0, none⟩ v).setCell ⟨w.heap.size + 1, 1, none⟩ u).cell? ⟨w.heap.size, 1, none⟩ = some (.string h)) from fun W v u hB => by
    have hh := KS.out W hB
    obtain ⟨c0, c1⟩ := hh
    exact ⟨(q_set (by omega)).trans ((q_set (by omega)).trans c0), (q_set (by omega)).trans ((q_set (by omega)).trans c1)⟩)
  have F0 := Lib.hid (Below.refl w0.heap.size w0)
  have HW0 := Lib.hid hw0
  clear hz0 hB0 hS0 hw0
  have HL := Lib.hid (show ∀ W : World, Below w0.heap.size w0 W → La W from fun W hB => hl.on (KB.out W hB))
  clear hl
  clear g1 g2 g3 g4 g5
  go_enter Tryz.func40, Tryz.ntmps40
  go_wp2_with fail
  rw [← HW0.out]
  obtain ⟨d0, d1⟩ := KS.out _ F0.out
  go_wp2_with fail
  refine (C1.out _ (HL.out _ F0.out)).mono ?_
  rintro e w1 ⟨rfl, hb⟩
  have F1 := Lib.hid (fr_chain F0.out hb)
  clear hb
  clear d0 d1
  obtain ⟨d0, d1⟩ := KS.out _ F1.out
  go_wp2_with fail
  refine (C2.out _ (HL.out _ F1.out)).mono ?_
  rintro e w2 ⟨rfl, hb⟩
  have F2 := Lib.hid (fr_chain F1.out hb)
  clear hb
  clear d0 d1
  obtain ⟨d0, d1⟩ := KS.out _ F2.out
  go_wp2_with fail
  refine (C3.out _ (HL.out _ F2.out)).mono ?_
  rintro e w3 ⟨rfl, hb⟩
  have F3 := Lib.hid (fr_chain F2.out hb)
  clear hb
  clear d0 d1
  obtain ⟨d0, d1⟩ := KS.out _ F3.out
  go_wp2_with fail
  refine (C4.out _ (HL.out _ F3.out)).mono ?_
  rintro e w4 ⟨rfl, hb⟩
  have F4 := Lib.hid (fr_chain F3.out hb)
  clear hb
  clear d0 d1
  obtain ⟨d0, d1⟩ := KS.out _ F4.out
  go_wp2_with fail
  have FA := Lib.hid (F4.out.alloc (F4.out.size) (.cells #[.string ⟨#[48]⟩, .string p, .string q] 22))
  refine (C5.out (w4.alloc (.cells #[.string ⟨#[48]⟩, .string p, .string q] 22)) w4.heap.size (HL.out _ FA.out) (by simp) ((q_new rfl).trans rfl) ((q_new rfl).trans rfl) ((q_new rfl).trans rfl)).mono ?_
  rintro e w5 ⟨rfl, hb⟩
  have F5 := Lib.hid (fr_chain FA.out hb)
  clear hb
  clear d0 d1
  obtain ⟨d0, d1⟩ := KS.out _ F5.out
  all_goals
    obtain ⟨m0, m1, n0, n1⟩ := KR.out _ F5.out
    have hz := KZ.out _ F5.out
    go_wp2
    refine bodyPost_ret (v := .tuple #[.agg #[.string lo, .string hi], .int .i64 0]) (by simp [results, Tryz.results40, go_sem, m0, m1]) rfl ⟨rfl, ?_⟩
    repeat (first | exact KB.out _ F5.out | refine Below.setCell ?_ (by first | omega | (simp; omega) | simp) _ | refine Below.alloc ?_ (by first | omega | (simp; omega) | simp) _ | refine Below.drew ?_)

set_option maxHeartbeats 2000000 in
set_option maxRecDepth 100000 in
theorem iExact_raw (x : ByteArray) (w : World) (hl : La w)
    (g1 : ∀ W, La W → Calls Tryz.prog 13 #[.string x] W fun e w' => e = .returned (.bool true) ∧ Below W.heap.size W w') :
    Calls Tryz.prog 74 #[.string x] w fun e w' => e = .returned (.tuple #[.agg #[.string x, .string x], .int .i64 0]) ∧ Below w.heap.size w w' := by
  have C1 := Lib.hid g1
  obtain ⟨w0, hw0⟩ : ∃ w0 : World, w0 = (w.alloc (.cells #[.string ⟨#[]⟩, .string ⟨#[]⟩] 48)) := ⟨_, rfl⟩
  have hz0 : w0.heap.size = w.heap.size + 1 := by rw [hw0]; simp
  have hB0 : Below w.heap.size w w0 := by
    rw [hw0]
    repeat (first | exact Below.refl _ _ | refine Below.setCell ?_ (by first | omega | (simp; omega) | simp) _ | refine Below.alloc ?_ (by first | omega | (simp; omega) | simp) _ | refine Below.drew ?_)
  have hS0 : w0.cell? ⟨w.heap.size, 0, none⟩ = some (.string ⟨#[]⟩) ∧ w0.cell? ⟨w.heap.size, 1, none⟩ = some (.string ⟨#[]⟩) := by rw [hw0]; exact ⟨((q_new (by first | omega | (simp; done) | (simp; omega))).trans rfl), ((q_new (by first | omega | (simp; done) | (simp; omega))).trans rfl)⟩
  have KS := Lib.hid (show ∀ W : World, Below w0.heap.size w0 W → (W.cell? ⟨w.heap.size, 0, none⟩ = some (.string ⟨#[]⟩) ∧ W.cell? ⟨w.heap.size, 1, none⟩ = some (.string ⟨#[]⟩)) from fun W hB => by
    obtain ⟨c0, c1⟩ := hS0
    exact ⟨(hB.cell (p := ⟨w.heap.size, 0, none⟩) (by show w.heap.size < _; omega)).trans c0, (hB.cell (p := ⟨w.heap.size, 1, none⟩) (by show w.heap.size < _; omega)).trans c1⟩)
  have KZ := Lib.hid (show ∀ W : World, Below w0.heap.size w0 W → w.heap.size + 1 ≤ W.heap.size from fun W hB => by have := hB.size; omega)
  have KB := Lib.hid (show ∀ W : World, Below w0.heap.size w0 W → Below w.heap.size w W from fun W hB => hB0.trans (hB.mono (by omega)))
  have hR0 : w0.cell? ⟨w.heap.size, 0, none⟩ = some (.string ⟨#[]⟩) ∧ w0.cell? ⟨w.heap.size, 1, none⟩ = some (.string ⟨#[]⟩) ∧ w0.frozen? ⟨w.heap.size, 0, none⟩ = false ∧ w0.frozen? ⟨w.heap.size, 1, none⟩ = false := by rw [hw0]; exact ⟨((q_new (by first | omega | (simp; done) | (simp; omega))).trans rfl), ((q_new (by first | omega | (simp; done) | (simp; omega))).trans rfl), (fq_new (by first | omega | (simp; done) | (simp; omega))), (fq_new (by first | omega | (simp; done) | (simp; omega)))⟩
  have KR := Lib.hid (show ∀ W : World, Below w0.heap.size w0 W → (W.cell? ⟨w.heap.size, 0, none⟩ = some (.string ⟨#[]⟩) ∧ W.cell? ⟨w.heap.size, 1, none⟩ = some (.string ⟨#[]⟩) ∧ W.frozen? ⟨w.heap.size, 0, none⟩ = false ∧ W.frozen? ⟨w.heap.size, 1, none⟩ = false) from fun W hB => by
    obtain ⟨c0, c1, f0, f1⟩ := hR0
    exact ⟨(hB.cell (p := ⟨w.heap.size, 0, none⟩) (by show w.heap.size < _; omega)).trans c0, (hB.cell (p := ⟨w.heap.size, 1, none⟩) (by show w.heap.size < _; omega)).trans c1, (hB.frozen (p := ⟨w.heap.size, 0, none⟩) (by show w.heap.size < _; omega)).trans f0, (hB.frozen (p := ⟨w.heap.size, 1, none⟩) (by show w.heap.size < _; omega)).trans f1⟩)
  clear hR0
  have F0 := Lib.hid (Below.refl w0.heap.size w0)
  have HW0 := Lib.hid hw0
  clear hz0 hB0 hS0 hw0
  have HL := Lib.hid (show ∀ W : World, Below w0.heap.size w0 W → La W from fun W hB => hl.on (KB.out W hB))
  clear hl
  clear g1
  go_enter Tryz.func74, Tryz.ntmps74
  go_wp2_with fail
  rw [← HW0.out]
  obtain ⟨d0, d1⟩ := KS.out _ F0.out
  go_wp2_with fail
  refine (C1.out _ (HL.out _ F0.out)).mono ?_
  rintro e w1 ⟨rfl, hb⟩
  have F1 := Lib.hid (fr_chain F0.out hb)
  clear hb
  clear d0 d1
  obtain ⟨d0, d1⟩ := KS.out _ F1.out
  all_goals
    obtain ⟨m0, m1, n0, n1⟩ := KR.out _ F1.out
    have hz := KZ.out _ F1.out
    go_wp2
    refine bodyPost_ret (v := .tuple #[.agg #[.string x, .string x], .int .i64 0]) (by simp [results, Tryz.results74, go_sem, m0, m1]) rfl ⟨rfl, ?_⟩
    repeat (first | exact KB.out _ F1.out | refine Below.setCell ?_ (by first | omega | (simp; omega) | simp) _ | refine Below.alloc ?_ (by first | omega | (simp; omega) | simp) _ | refine Below.drew ?_)

end Go.Proofs.YtlagimghlngdgaaGreatDoor
