/- Texts of this proof, one behind the other. -/
import Derived.Test.YtlagimghlngdgaaGreatDoorMve
import Derived.Deep.RegionHeld3
import Derived.Test.YtlagimghlngdgaaGreatDoorVj
import Derived.Test.YtlagimghlngdgaaGreatDoorMvk
/- interval.Meet. -/
namespace Go.Proofs.YtlagimghlngdgaaGreatDoor
open Go.RowKit Go.Gb

set_option maxHeartbeats 2000000 in
set_option maxRecDepth 100000 in
theorem iMeet_no1_raw (l1 h1 l2 h2 : ByteArray) (w : World) (hl : La w)
    (g1 : ∀ W, La W → Calls Tryz.prog 34 #[.agg #[.string l1, .string h1]] W fun e w' => e = .returned (.bool false) ∧ Below W.heap.size W w') :
    Calls Tryz.prog 42 #[.agg #[.string l1, .string h1], .agg #[.string l2, .string h2]] w fun e w' => e = .returned (.tuple #[.agg #[.string ⟨#[]⟩, .string ⟨#[]⟩], .bool false]) ∧ Below w.heap.size w w' := by
  have C1 := Lib.hid g1
  obtain ⟨w0, hw0⟩ : ∃ w0 : World, w0 = (((w.alloc (.cells #[.string l1, .string h1] 48)).alloc (.cells #[.string l2, .string h2] 48)).alloc (.cells #[.string ⟨#[]⟩, .string ⟨#[]⟩] 48)) := ⟨_, rfl⟩
  have hz0 : w0.heap.size = w.heap.size + 3 := by rw [hw0]; simp
  have hB0 : Below w.heap.size w w0 := by
    rw [hw0]
    repeat (first | exact Below.refl _ _ | refine Below.setCell ?_ (by first | omega | (simp; omega) | simp) _ | refine Below.alloc ?_ (by first | omega | (simp; omega) | simp) _ | refine Below.drew ?_)
  have hS0 : w0.cell? ⟨w.heap.size, 0, none⟩ = some (.string l1) ∧ w0.cell? ⟨w.heap.size, 1, none⟩ = some (.string h1) ∧ w0.cell? ⟨w.heap.size + 1, 0, none⟩ = some (.string l2) ∧ w0.cell? ⟨w.heap.size + 1, 1, none⟩ = some (.string h2) := by rw [hw0]; exact ⟨((q_lt (by first | omega | (simp; done) | (simp; omega))).trans ((q_lt (by first | omega | (simp; done) | (simp; omega))).trans ((q_new (by first | omega | (simp; done) | (simp; omega))).trans rfl))), ((q_lt (by first | omega | (simp; done) | (simp; omega))).trans ((q_lt (by first | omega | (simp; done) | (simp; omega))).trans ((q_new (by first | omega | (simp; done) | (simp; omega))).trans rfl))), ((q_lt (by first | omega | (simp; done) | (simp; omega))).trans ((q_new (by first | omega | (simp; done) | (simp; omega))).trans rfl)), ((q_lt (by first | omega | (simp; done) | (simp; omega))).trans ((q_new (by first | omega | (simp; done) | (simp; omega))).trans rfl))⟩
  have KS := Lib.hid (show ∀ W : World, Below w0.heap.size w0 W → (W.cell? ⟨w.heap.size, 0, none⟩ = some (.string l1) ∧ W.cell? ⟨w.heap.size, 1, none⟩ = some (.string h1) ∧ W.cell? ⟨w.heap.size + 1, 0, none⟩ = some (.string l2) ∧ W.cell? ⟨w.heap.size + 1, 1, none⟩ = some (.string h2)) from fun W hB => by
    obtain ⟨c0, c1, c2, c3⟩ := hS0
    exact ⟨(hB.cell (p := ⟨w.heap.size, 0, none⟩) (by show w.heap.size < _; omega)).trans c0, (hB.cell (p := ⟨w.heap.size, 1, none⟩) (by show w.heap.size < _; omega)).trans c1, (hB.cell (p := ⟨w.heap.size + 1, 0, none⟩) (by show w.heap.size + 1 < _; omega)).trans c2, (hB.cell (p := ⟨w.heap.size + 1, 1, none⟩) (by show w.heap.size + 1 < _; omega)).trans c3⟩)
  have KZ := Lib.hid (show ∀ W : World, Below w0.heap.size w0 W → w.heap.size + 3 ≤ W.heap.size from fun W hB => by have := hB.size; omega)
  have KB := Lib.hid (show ∀ W : World, Below w0.heap.size w0 W → Below w.heap.size w W from fun W hB => hB0.trans (hB.mono (by omega)))
  have hR0 : w0.cell? ⟨w.heap.size + 1 + 1, 0, none⟩ = some (.string ⟨#[]⟩) ∧ w0.cell? ⟨w.heap.size + 1 + 1, 1, none⟩ = some (.string ⟨#[]⟩) ∧ w0.frozen? ⟨w.heap.size + 1 + 1, 0, none⟩ = false ∧ w0.frozen? ⟨w.heap.size + 1 + 1, 1, none⟩ = false := by rw [hw0]; exact ⟨((q_new (by first | omega | (simp; done) | (simp; omega))).trans rfl), ((q_new (by first | omega | (simp; done) | (simp; omega))).trans rfl), (fq_new (by first | omega | (simp; done) | (simp; omega))), (fq_new (by first | omega | (simp; done) | (simp; omega)))⟩
  have KR := Lib.hid (show ∀ W : World, Below w0.heap.size w0 W → (W.cell? ⟨w.heap.size + 1 + 1, 0, none⟩ = some (.string ⟨#[]⟩) ∧ W.cell? ⟨w.heap.size + 1 + 1, 1, none⟩ = some (.string ⟨#[]⟩) ∧ W.frozen? ⟨w.heap.size + 1 + 1, 0, none⟩ = false ∧ W.frozen? ⟨w.heap.size + 1 + 1, 1, none⟩ = false) from fun W hB => by
    obtain ⟨c0, c1, f0, f1⟩ := hR0
    exact ⟨(hB.cell (p := ⟨w.heap.size + 1 + 1, 0, none⟩) (by show w.heap.size + 1 + 1 < _; omega)).trans c0, (hB.cell (p := ⟨w.heap.size + 1 + 1, 1, none⟩) (by show w.heap.size + 1 + 1 < _; omega)).trans c1, (hB.frozen (p := ⟨w.heap.size + 1 + 1, 0, none⟩) (by show w.heap.size + 1 + 1 < _; omega)).trans f0, (hB.frozen (p := ⟨w.heap.size + 1 + 1, 1, none⟩) (by show w.heap.size + 1 + 1 < _; omega)).trans f1⟩)
  clear hR0
  have KT0 := Lib.hid (show ∀ (W : World) (v u : Value), Below w0.heap.size w0 W → (((W.setCell ⟨w.heap.size + 1 + 1, 0, none⟩ v).setCell ⟨w.heap.size + 1 + 1, 1, none⟩ u).cell? ⟨w.heap.size, 0, none⟩ = some (.string l1) ∧ ((W.setCell ⟨w.heap.size + 1 + 1, 0, none⟩ v).setCell ⟨w.heap.size + 1 + 1, 1, none⟩ u).cell? ⟨w.heap.size, 1, none⟩ = some (.string h1) ∧ ((W.setCell ⟨w.heap.size + 1 + 1, 0, none⟩ v).setCell ⟨w.heap.size + 1 + 1, 1, none⟩ u).cell? ⟨w.heap.size + 1, 0, none⟩ = some (.string l2) ∧ ((W.setCell ⟨w.heap.size + 1 + 1, 0, none⟩ v).setCell ⟨w.heap.size + 1 + 1, 1, none⟩ u).cell? ⟨w.heap.size + 1, 1, none⟩ = some (.string h2)) from fun W v u hB => by
    have hh := KS.out W hB
    obtain ⟨c0, c1, c2, c3⟩ := hh
    exact ⟨(q_set (by omega)).trans ((q_set (by omega)).trans c0), (q_set (by omega)).trans ((q_set (by omega)).trans c1), (q_set (by omega)).trans ((q_set (by omega)).trans c2), (q_set (by omega)).trans ((q_set (by omega)).trans c3)⟩)
  have F0 := Lib.hid (Below.refl w0.heap.size w0)
  have HW0 := Lib.hid hw0
  clear hz0 hB0 hS0 hw0
  have HL := Lib.hid (show ∀ W : World, Below w0.heap.size w0 W → La W from fun W hB => hl.on (KB.out W hB))
  clear hl
  clear g1
  go_enter Tryz.func42, Tryz.ntmps42
  go_wp2_with fail
  rw [← HW0.out]
  obtain ⟨d0, d1, d2, d3⟩ := KS.out _ F0.out
  go_wp2_with fail
  refine (C1.out _ (HL.out _ F0.out)).mono ?_
  rintro e w1 ⟨rfl, hb⟩
  have F1 := Lib.hid (fr_chain F0.out hb)
  clear hb
  clear d0 d1 d2 d3
  obtain ⟨d0, d1, d2, d3⟩ := KS.out _ F1.out
  all_goals
    obtain ⟨m0, m1, n0, n1⟩ := KR.out _ F1.out
    have hz := KZ.out _ F1.out
    go_wp2
    refine bodyPost_ret (v := .tuple #[.agg #[.string ⟨#[]⟩, .string ⟨#[]⟩], .bool false]) (by simp [results, Tryz.results42, go_sem, m0, m1]) rfl ⟨rfl, ?_⟩
    repeat (first | exact KB.out _ F1.out | refine Below.setCell ?_ (by first | omega | (simp; omega) | simp) _ | refine Below.alloc ?_ (by first | omega | (simp; omega) | simp) _ | refine Below.drew ?_)

set_option maxHeartbeats 2000000 in
set_option maxRecDepth 100000 in
theorem iMeet_no2_raw (l1 h1 l2 h2 : ByteArray) (w : World) (hl : La w)
    (g1 : ∀ W, La W → Calls Tryz.prog 34 #[.agg #[.string l1, .string h1]] W fun e w' => e = .returned (.bool true) ∧ Below W.heap.size W w')
    (g2 : ∀ W, La W → Calls Tryz.prog 34 #[.agg #[.string l2, .string h2]] W fun e w' => e = .returned (.bool false) ∧ Below W.heap.size W w') :
    Calls Tryz.prog 42 #[.agg #[.string l1, .string h1], .agg #[.string l2, .string h2]] w fun e w' => e = .returned (.tuple #[.agg #[.string ⟨#[]⟩, .string ⟨#[]⟩], .bool false]) ∧ Below w.heap.size w w' := by
  have C1 := Lib.hid g1
  have C2 := Lib.hid g2
  obtain ⟨w0, hw0⟩ : ∃ w0 : World, w0 = (((w.alloc (.cells #[.string l1, .string h1] 48)).alloc (.cells #[.string l2, .string h2] 48)).alloc (.cells #[.string ⟨#[]⟩, .string ⟨#[]⟩] 48)) := ⟨_, rfl⟩
  have hz0 : w0.heap.size = w.heap.size + 3 := by rw [hw0]; simp
  have hB0 : Below w.heap.size w w0 := by
    rw [hw0]
    repeat (first | exact Below.refl _ _ | refine Below.setCell ?_ (by first | omega | (simp; omega) | simp) _ | refine Below.alloc ?_ (by first | omega | (simp; omega) | simp) _ | refine Below.drew ?_)
  have hS0 : w0.cell? ⟨w.heap.size, 0, none⟩ = some (.string l1) ∧ w0.cell? ⟨w.heap.size, 1, none⟩ = some (.string h1) ∧ w0.cell? ⟨w.heap.size + 1, 0, none⟩ = some (.string l2) ∧ w0.cell? ⟨w.heap.size + 1, 1, none⟩ = some (.string h2) := by rw [hw0]; exact ⟨((q_lt (by first | omega | (simp; done) | (simp; omega))).trans ((q_lt (by first | omega | (simp; done) | (simp; omega))).trans ((q_new (by first | omega | (simp; done) | (simp; omega))).trans rfl))), ((q_lt (by first | omega | (simp; done) | (simp; omega))).trans ((q_lt (by first | omega | (simp; done) | (simp; omega))).trans ((q_new (by first | omega | (simp; done) | (simp; omega))).trans rfl))), ((q_lt (by first | omega | (simp; done) | (simp; omega))).trans ((q_new (by first | omega | (simp; done) | (simp; omega))).trans rfl)), ((q_lt (by first | omega | (simp; done) | (simp; omega))).trans ((q_new (by first | omega | (simp; done) | (simp; omega))).trans rfl))⟩
  have KS := Lib.hid (show ∀ W : World, Below w0.heap.size w0 W → (W.cell? ⟨w.heap.size, 0, none⟩ = some (.string l1) ∧ W.cell? ⟨w.heap.size, 1, none⟩ = some (.string h1) ∧ W.cell? ⟨w.heap.size + 1, 0, none⟩ = some (.string l2) ∧ W.cell? ⟨w.heap.size + 1, 1, none⟩ = some (.string h2)) from fun W hB => by
    obtain ⟨c0, c1, c2, c3⟩ := hS0
    exact ⟨(hB.cell (p := ⟨w.heap.size, 0, none⟩) (by show w.heap.size < _; omega)).trans c0, (hB.cell (p := ⟨w.heap.size, 1, none⟩) (by show w.heap.size < _; omega)).trans c1, (hB.cell (p := ⟨w.heap.size + 1, 0, none⟩) (by show w.heap.size + 1 < _; omega)).trans c2, (hB.cell (p := ⟨w.heap.size + 1, 1, none⟩) (by show w.heap.size + 1 < _; omega)).trans c3⟩)
  have KZ := Lib.hid (show ∀ W : World, Below w0.heap.size w0 W → w.heap.size + 3 ≤ W.heap.size from fun W hB => by have := hB.size; omega)
  have KB := Lib.hid (show ∀ W : World, Below w0.heap.size w0 W → Below w.heap.size w W from fun W hB => hB0.trans (hB.mono (by omega)))
  have hR0 : w0.cell? ⟨w.heap.size + 1 + 1, 0, none⟩ = some (.string ⟨#[]⟩) ∧ w0.cell? ⟨w.heap.size + 1 + 1, 1, none⟩ = some (.string ⟨#[]⟩) ∧ w0.frozen? ⟨w.heap.size + 1 + 1, 0, none⟩ = false ∧ w0.frozen? ⟨w.heap.size + 1 + 1, 1, none⟩ = false := by rw [hw0]; exact ⟨((q_new (by first | omega | (simp; done) | (simp; omega))).trans rfl), ((q_new (by first | omega | (simp; done) | (simp; omega))).trans rfl), (fq_new (by first | omega | (simp; done) | (simp; omega))), (fq_new (by first | omega | (simp; done) | (simp; omega)))⟩
  have KR := Lib.hid (show ∀ W : World, Below w0.heap.size w0 W → (W.cell? ⟨w.heap.size + 1 + 1, 0, none⟩ = some (.string ⟨#[]⟩) ∧ W.cell? ⟨w.heap.size + 1 + 1, 1, none⟩ = some (.string ⟨#[]⟩) ∧ W.frozen? ⟨w.heap.size + 1 + 1, 0, none⟩ = false ∧ W.frozen? ⟨w.heap.size + 1 + 1, 1, none⟩ = false) from fun W hB => by
    obtain ⟨c0, c1, f0, f1⟩ := hR0
    exact ⟨(hB.cell (p := ⟨w.heap.size + 1 + 1, 0, none⟩) (by show w.heap.size + 1 + 1 < _; omega)).trans c0, (hB.cell (p := ⟨w.heap.size + 1 + 1, 1, none⟩) (by show w.heap.size + 1 + 1 < _; omega)).trans c1, (hB.frozen (p := ⟨w.heap.size + 1 + 1, 0, none⟩) (by show w.heap.size + 1 + 1 < _; omega)).trans f0, (hB.frozen (p := ⟨w.heap.size + 1 + 1, 1, none⟩) (by show w.heap.size + 1 + 1 < _; omega)).trans f1⟩)
  clear hR0
  have KT0 := Lib.hid (show ∀ (W : World) (v u : Value), Below w0.heap.size w0 W → (((W.setCell ⟨w.heap.size + 1 + 1, 0, none⟩ v).setCell ⟨w.heap.size + 1 + 1, 1, none⟩ u).cell? ⟨w.heap.size, 0, none⟩ = some (.string l1) ∧ ((W.setCell ⟨w.heap.size + 1 + 1, 0, none⟩ v).setCell ⟨w.heap.size + 1 + 1, 1, none⟩ u).cell? ⟨w.heap.size, 1, none⟩ = some (.string h1) ∧ ((W.setCell ⟨w.heap.size + 1 + 1, 0, none⟩ v).setCell ⟨w.heap.size + 1 + 1, 1, none⟩ u).cell? ⟨w.heap.size + 1, 0, none⟩ = some (.string l2) ∧ ((W.setCell ⟨w.heap.size + 1 + 1, 0, none⟩ v).setCell ⟨w.heap.size + 1 + 1, 1, none⟩ u).cell? ⟨w.heap.size + 1, 1, none⟩ = some (.string h2)) from fun W v u hB => by
    have hh := KS.out W hB
    obtain ⟨c0, c1, c2, c3⟩ := hh
    exact ⟨(q_set (by omega)).trans ((q_set (by omega)).trans c0), (q_set (by omega)).trans ((q_set (by omega)).trans c1), (q_set (by omega)).trans ((q_set (by omega)).trans c2), (q_set (by omega)).trans ((q_set (by omega)).trans c3)⟩)
  have F0 := Lib.hid (Below.refl w0.heap.size w0)
  have HW0 := Lib.hid hw0
  clear hz0 hB0 hS0 hw0
  have HL := Lib.hid (show ∀ W : World, Below w0.heap.size w0 W → La W from fun W hB => hl.on (KB.out W hB))
  clear hl
  clear g1 g2
  go_enter Tryz.func42, Tryz.ntmps42
  go_wp2_with fail
  rw [← HW0.out]
  obtain ⟨d0, d1, d2, d3⟩ := KS.out _ F0.out
  go_wp2_with fail
  refine (C1.out _ (HL.out _ F0.out)).mono ?_
  rintro e w1 ⟨rfl, hb⟩
  have F1 := Lib.hid (fr_chain F0.out hb)
  clear hb
  clear d0 d1 d2 d3
  obtain ⟨d0, d1, d2, d3⟩ := KS.out _ F1.out
  go_wp2_with fail
  refine (C2.out _ (HL.out _ F1.out)).mono ?_
  rintro e w2 ⟨rfl, hb⟩
  have F2 := Lib.hid (fr_chain F1.out hb)
  clear hb
  clear d0 d1 d2 d3
  obtain ⟨d0, d1, d2, d3⟩ := KS.out _ F2.out
  all_goals
    obtain ⟨m0, m1, n0, n1⟩ := KR.out _ F2.out
    have hz := KZ.out _ F2.out
    go_wp2
    refine bodyPost_ret (v := .tuple #[.agg #[.string ⟨#[]⟩, .string ⟨#[]⟩], .bool false]) (by simp [results, Tryz.results42, go_sem, m0, m1]) rfl ⟨rfl, ?_⟩
    repeat (first | exact KB.out _ F2.out | refine Below.setCell ?_ (by first | omega | (simp; omega) | simp) _ | refine Below.alloc ?_ (by first | omega | (simp; omega) | simp) _ | refine Below.drew ?_)

end Go.Proofs.YtlagimghlngdgaaGreatDoor
/- interval in numbers: Meet, Hull of two, Div by what has 0; what is valid and what not; sizes. -/
namespace Go.Proofs.YtlagimghlngdgaaGreatDoor
open Go.RowKit Go.Gb

theorem max_l {a c : Rat} (h : c ≤ a) : (exOf (row2 a c) 1).2 = a := by
  have h1 := row2_in a c
  have h2 := row2_one a c
  grind
theorem max_r {a c : Rat} (h : a ≤ c) : (exOf (row2 a c) 1).2 = c := by
  have h1 := row2_in a c
  have h2 := row2_one a c
  grind
theorem min_l {a c : Rat} (h : a ≤ c) : (exOf (row2 a c) 1).1 = a := by
  have h1 := row2_in a c
  have h2 := row2_one a c
  grind
theorem min_r {a c : Rat} (h : c ≤ a) : (exOf (row2 a c) 1).1 = c := by
  have h1 := row2_in a c
  have h2 := row2_one a c
  grind
theorem fit_row2 {p q : Rat} (hp : FitQ p) (hq : FitQ q) : FitQ (exOf (row2 p q) 1).1 ∧ FitQ (exOf (row2 p q) 1).2 :=
  exOf_fit (row2 p q) 1 (fun j hj => match j, hj with
    | 0, _ => hp
    | 1, _ => hq)
theorem fit_row3 {p q r : Rat} (hp : FitQ p) (hq : FitQ q) (hr : FitQ r) : FitQ (exOf (row3 p q r) 2).1 ∧ FitQ (exOf (row3 p q r) 2).2 :=
  exOf_fit (row3 p q r) 2 (fun j hj => match j, hj with
    | 0, _ => hp
    | 1, _ => hq
    | 2, _ => hr)
theorem fit_row4 {p q r s : Rat} (hp : FitQ p) (hq : FitQ q) (hr : FitQ r) (hs : FitQ s) : FitQ (exOf (row4 p q r s) 3).1 ∧ FitQ (exOf (row4 p q r s) 3).2 :=
  exOf_fit (row4 p q r s) 3 (fun j hj => match j, hj with
    | 0, _ => hp
    | 1, _ => hq
    | 2, _ => hr
    | 3, _ => hs)
theorem fit_sqI {a b : Rat} (ha : FitQ (a * a)) (hb : FitQ (b * b)) : FitQ (sqI a b).1 ∧ FitQ (sqI a b).2 := by
  unfold sqI
  split
  · exact fit_row3 fq00 ha hb
  · exact fit_row2 ha hb
theorem iMeet (a b c d p q : Rat) (hp : (exOf (row2 a c) 1).2 = p) (hq : (exOf (row2 b d) 1).1 = q) (h1 : a ≤ b) (h2 : c ≤ d) (h3 : p ≤ q) (ha : FitQ a) (hb : FitQ b) (hc : FitQ c) (hd : FitQ d) (w : World) (hl : La w) :
    Calls Tryz.prog 42 #[Vq a b, Vq c d] w fun e w' => e = .returned (.tuple #[Vq p q, .bool true]) ∧ Below w.heap.size w w' := by
  have f1 := (fit_row2 ha hc).2
  have f2 := (fit_row2 hb hd).1
  rw [hp] at f1
  rw [hq] at f2
  refine iMeet_raw _ _ _ _ (Sq (exOf (row2 a c) 1).1) _ _ (Sq (exOf (row2 b d) 1).2) (cmpQ p q) (by
    have := cmp_le h3
    rw [decide_eq_false_iff_not]; omega) w hl (fun W hW => iValid_yes a b h1 ha hb W hW) (fun W hW => iValid_yes c d h2 hc hd W hW) (fun W g hW hg c0 c1 => ?_) (fun W g hW hg c0 c1 => ?_) (fun W hW => iOrder p q _ rfl f1 f2 W hW)
  · have h := ext2 a c ha hc W g hW hg c0 c1
    rwa [hp] at h
  · have h := ext2 b d hb hd W g hW hg c0 c1
    rwa [hq] at h
theorem iMeet_empty (a b c d p q : Rat) (hp : (exOf (row2 a c) 1).2 = p) (hq : (exOf (row2 b d) 1).1 = q) (h1 : a ≤ b) (h2 : c ≤ d) (h3 : q < p) (ha : FitQ a) (hb : FitQ b) (hc : FitQ c) (hd : FitQ d) (w : World) (hl : La w) :
    Calls Tryz.prog 42 #[Vq a b, Vq c d] w fun e w' => e = .returned (.tuple #[.agg #[.string ⟨#[]⟩, .string ⟨#[]⟩], .bool false]) ∧ Below w.heap.size w w' := by
  have f1 := (fit_row2 ha hc).2
  have f2 := (fit_row2 hb hd).1
  rw [hp] at f1
  rw [hq] at f2
  refine iMeet_empty_raw _ _ _ _ (Sq (exOf (row2 a c) 1).1) (Sq p) (Sq q) (Sq (exOf (row2 b d) 1).2) w hl (fun W hW => iValid_yes a b h1 ha hb W hW) (fun W hW => iValid_yes c d h2 hc hd W hW) (fun W g hW hg c0 c1 => ?_) (fun W g hW hg c0 c1 => ?_) (fun W hW => iOrder p q 1 (cmpQ_gt h3) f1 f2 W hW)
  · have h := ext2 a c ha hc W g hW hg c0 c1
    rwa [hp] at h
  · have h := ext2 b d hb hd W g hW hg c0 c1
    rwa [hq] at h
theorem iDiv_has (a b c d : Rat) (h1 : a ≤ b) (h2 : c ≤ d) (hz : decide (c ≤ 0 ∧ 0 ≤ d) = true) (ha : FitQ a) (hb : FitQ b) (hc : FitQ c) (hd : FitQ d) (w : World) (hl : La w) :
    Calls Tryz.prog 41 #[Vq a b, Vq c d] w fun e w' => e = .returned (.tuple #[.agg #[.string ⟨#[]⟩, .string ⟨#[]⟩], .int .i64 16]) ∧ Below w.heap.size w w' := by
  have h3 := fun W hW => iHas_in c d 0 true hz hc hd fq00 W hW
  rw [q_0] at h3
  exact iDiv_zero_raw _ _ _ _ w hl (fun W hW => iValid_yes a b h1 ha hb W hW) (fun W hW => iValid_yes c d h2 hc hd W hW) h3
/-- Two texts are an interval, or Valid refuses them. -/
theorem iv_form (l h : ByteArray) (sl : l.size ≤ 40) (sh : h.size ≤ 40) :
    (∃ x y : Rat, l = Sq x ∧ h = Sq y ∧ x ≤ y ∧ SmQ 40 x ∧ SmQ 40 y) ∨ (∀ W, La W → Calls Tryz.prog 34 #[.agg #[.string l, .string h]] W fun e w' => e = .returned (.bool false) ∧ Below W.heap.size W w') := by
  cases hv : (vldQ l.data.toList && vldQ h.data.toList) with
  | false => exact Or.inr fun W hW => iValid_bad l h hv (by omega) (by omega) W hW
  | true =>
    rw [Bool.and_eq_true] at hv
    have e1 := sq_of hv.1
    have e2 := sq_of hv.2
    generalize qval l.data.toList = x at e1
    generalize qval h.data.toList = y at e2
    subst e1 e2
    have k1 := smq_of sl (by decide)
    have k2 := smq_of sh (by decide)
    by_cases hxy : x ≤ y
    · exact Or.inl ⟨x, y, rfl, rfl, hxy, k1, k2⟩
    · exact Or.inr fun W hW => iValid_gt x y (by grind) (k1.fit (by decide)) (k2.fit (by decide)) W hW

theorem vx_hull (g : Nat) (w : World) (hl : La w) (hg : g < w.heap.size) (hc : w.cell? ⟨g, 0, none⟩ = some (.string ⟨#[49]⟩) ∧ w.cell? ⟨g, 1, none⟩ = some (.string ⟨#[50]⟩) ∧ w.cell? ⟨g, 2, none⟩ = some (.string ⟨#[53]⟩) ∧ w.cell? ⟨g, 3, none⟩ = some (.string ⟨#[54]⟩)) :
    Calls Tryz.prog 73 #[.slice (some ⟨g, 0, none⟩) 2 2] w fun e w' => e = .returned (.tuple #[.agg #[.string ⟨#[49]⟩, .string ⟨#[54]⟩], .int .i64 0]) ∧ Below w.heap.size w w' := by
  obtain ⟨c0, c1, c2, c3⟩ := hc
  have h := hull_any g 2 2 (row4 1 2 5 6) (by decide) (by decide) (by decide) w hl hg
    (fun i hi => match i, hi with
      | 0, _ => fitq_small (q := 1) (by decide +kernel) (by decide +kernel)
      | 1, _ => fitq_small (q := 2) (by decide +kernel) (by decide +kernel)
      | 2, _ => fitq_small (q := 5) (by decide +kernel) (by decide +kernel)
      | 3, _ => fitq_small (q := 6) (by decide +kernel) (by decide +kernel))
    (fun i hi => match i, hi with
      | 0, _ => (show (1 : Rat) ≤ 2 by decide +kernel)
      | 1, _ => (show (5 : Rat) ≤ 6 by decide +kernel))
    (fun i hi => match i, hi with
      | 0, _ => c0.trans (congrArg (fun x => some (Value.string x)) (show ⟨#[49]⟩ = Sq 1 by decide +kernel))
      | 1, _ => c1.trans (congrArg (fun x => some (Value.string x)) (show ⟨#[50]⟩ = Sq 2 by decide +kernel))
      | 2, _ => c2.trans (congrArg (fun x => some (Value.string x)) (show ⟨#[53]⟩ = Sq 5 by decide +kernel))
      | 3, _ => c3.trans (congrArg (fun x => some (Value.string x)) (show ⟨#[54]⟩ = Sq 6 by decide +kernel)))
  rw [show Vq (exOf (row4 1 2 5 6) (2 * 2 - 1)).1 (exOf (row4 1 2 5 6) (2 * 2 - 1)).2 = .agg #[.string ⟨#[49]⟩, .string ⟨#[54]⟩] from by unfold Vq; rw [show Sq (exOf (row4 1 2 5 6) (2 * 2 - 1)).1 = ⟨#[49]⟩ by decide +kernel, show Sq (exOf (row4 1 2 5 6) (2 * 2 - 1)).2 = ⟨#[54]⟩ by decide +kernel]] at h
  exact h

end Go.Proofs.YtlagimghlngdgaaGreatDoor
/- interval's contracts in numbers, spelt out as a walk has them. -/
namespace Go.Proofs.YtlagimghlngdgaaGreatDoor
open Go.RowKit Go.Gb

theorem xValid_yes (x y : Rat) (h : x ≤ y) (hx : FitQ x) (hy : FitQ y) (w : World) (hl : La w) :
    Calls Tryz.prog 34 #[.agg #[.string (Sq x), .string (Sq y)]] w fun e w' => e = .returned (.bool true) ∧ Below w.heap.size w w' := iValid_yes x y h hx hy w hl
theorem xHas (x y z : Rat) (r : Bool) (hr : decide (x ≤ z ∧ z ≤ y) = r) (h : x ≤ y) (hx : FitQ x) (hy : FitQ y) (hz : FitQ z) (w : World) (hl : La w) :
    Calls Tryz.prog 36 #[.agg #[.string (Sq x), .string (Sq y)], .string (Sq z)] w fun e w' => e = .returned (.bool r) ∧ Below w.heap.size w w' := iHas x y z r hr h hx hy hz w hl
theorem xAdd (a b c d s t : Rat) (hs : a + c = s) (ht : b + d = t) (h1 : a ≤ b) (h2 : c ≤ d) (ha : FitQ a) (hb : FitQ b) (hc : FitQ c) (hd : FitQ d) (w : World) (hl : La w) :
    Calls Tryz.prog 37 #[.agg #[.string (Sq a), .string (Sq b)], .agg #[.string (Sq c), .string (Sq d)]] w fun e w' => e = .returned (.tuple #[.agg #[.string (Sq s), .string (Sq t)], .int .i64 0]) ∧ Below w.heap.size w w' := iAdd a b c d s t hs ht h1 h2 ha hb hc hd w hl
theorem xSub (a b c d s t : Rat) (hs : a - d = s) (ht : b - c = t) (h1 : a ≤ b) (h2 : c ≤ d) (ha : FitQ a) (hb : FitQ b) (hc : FitQ c) (hd : FitQ d) (w : World) (hl : La w) :
    Calls Tryz.prog 38 #[.agg #[.string (Sq a), .string (Sq b)], .agg #[.string (Sq c), .string (Sq d)]] w fun e w' => e = .returned (.tuple #[.agg #[.string (Sq s), .string (Sq t)], .int .i64 0]) ∧ Below w.heap.size w w' := iSub a b c d s t hs ht h1 h2 ha hb hc hd w hl
theorem xMul (a b c d p0 p1 p2 p3 : Rat) (e0 : a * c = p0) (e1 : a * d = p1) (e2 : b * c = p2) (e3 : b * d = p3) (h1 : a ≤ b) (h2 : c ≤ d) (ha : FitQ a) (hb : FitQ b) (hc : FitQ c) (hd : FitQ d) (f0 : FitQ p0) (f1 : FitQ p1) (f2 : FitQ p2) (f3 : FitQ p3) (w : World) (hl : La w) :
    Calls Tryz.prog 39 #[.agg #[.string (Sq a), .string (Sq b)], .agg #[.string (Sq c), .string (Sq d)]] w fun e w' => e = .returned (.tuple #[.agg #[.string (Sq (exOf (row4 p0 p1 p2 p3) 3).1), .string (Sq (exOf (row4 p0 p1 p2 p3) 3).2)], .int .i64 0]) ∧ Below w.heap.size w w' := iMul a b c d p0 p1 p2 p3 e0 e1 e2 e3 h1 h2 ha hb hc hd f0 f1 f2 f3 w hl
theorem xDiv (a b c d p0 p1 p2 p3 : Rat) (e0 : a / c = p0) (e1 : a / d = p1) (e2 : b / c = p2) (e3 : b / d = p3) (h1 : a ≤ b) (h2 : c ≤ d) (hz : decide (c ≤ 0 ∧ 0 ≤ d) = false) (ha : FitQ a) (hb : FitQ b) (hc : FitQ c) (hd : FitQ d) (f0 : FitQ p0) (f1 : FitQ p1) (f2 : FitQ p2) (f3 : FitQ p3) (w : World) (hl : La w) :
    Calls Tryz.prog 41 #[.agg #[.string (Sq a), .string (Sq b)], .agg #[.string (Sq c), .string (Sq d)]] w fun e w' => e = .returned (.tuple #[.agg #[.string (Sq (exOf (row4 p0 p1 p2 p3) 3).1), .string (Sq (exOf (row4 p0 p1 p2 p3) 3).2)], .int .i64 0]) ∧ Below w.heap.size w w' := iDiv a b c d p0 p1 p2 p3 e0 e1 e2 e3 h1 h2 hz ha hb hc hd f0 f1 f2 f3 w hl
theorem xSquare (a b p q : Rat) (e0 : a * a = p) (e1 : b * b = q) (h : a ≤ b) (ha : FitQ a) (hb : FitQ b) (f0 : FitQ p) (f1 : FitQ q) (w : World) (hl : La w) :
    Calls Tryz.prog 40 #[.agg #[.string (Sq a), .string (Sq b)]] w fun e w' => e = .returned (.tuple #[.agg #[.string (Sq (sqI a b).1), .string (Sq (sqI a b).2)], .int .i64 0]) ∧ Below w.heap.size w w' := iSquare a b p q e0 e1 h ha hb f0 f1 w hl
theorem xRound {k : Nat} (a b : Rat) (n : Int) (hk : k ≤ 400) (h : a ≤ b) (ha : SmQ k a) (hb : SmQ k b) (hn1 : 1 ≤ n) (hn2 : n ≤ 1000000000) (w : World) (hl : La w) :
    Calls Tryz.prog 45 #[.agg #[.string (Sq a), .string (Sq b)], .int .i64 n] w fun e w' => e = .returned (.tuple #[.agg #[.string (Sq (rdQ a n)), .string (Sq (0 - rdQ (0 - b) n))], .int .i64 0]) ∧ Below w.heap.size w w' := iRound a b n hk h ha hb hn1 hn2 w hl
theorem xMeet (a b c d p q : Rat) (hp : (exOf (row2 a c) 1).2 = p) (hq : (exOf (row2 b d) 1).1 = q) (h1 : a ≤ b) (h2 : c ≤ d) (h3 : p ≤ q) (ha : FitQ a) (hb : FitQ b) (hc : FitQ c) (hd : FitQ d) (w : World) (hl : La w) :
    Calls Tryz.prog 42 #[.agg #[.string (Sq a), .string (Sq b)], .agg #[.string (Sq c), .string (Sq d)]] w fun e w' => e = .returned (.tuple #[.agg #[.string (Sq p), .string (Sq q)], .bool true]) ∧ Below w.heap.size w w' := iMeet a b c d p q hp hq h1 h2 h3 ha hb hc hd w hl
theorem xMeet_empty (a b c d p q : Rat) (hp : (exOf (row2 a c) 1).2 = p) (hq : (exOf (row2 b d) 1).1 = q) (h1 : a ≤ b) (h2 : c ≤ d) (h3 : q < p) (ha : FitQ a) (hb : FitQ b) (hc : FitQ c) (hd : FitQ d) (w : World) (hl : La w) :
    Calls Tryz.prog 42 #[.agg #[.string (Sq a), .string (Sq b)], .agg #[.string (Sq c), .string (Sq d)]] w fun e w' => e = .returned (.tuple #[.agg #[.string ⟨#[]⟩, .string ⟨#[]⟩], .bool false]) ∧ Below w.heap.size w w' := iMeet_empty a b c d p q hp hq h1 h2 h3 ha hb hc hd w hl
theorem xDiv_has (a b c d : Rat) (h1 : a ≤ b) (h2 : c ≤ d) (hz : decide (c ≤ 0 ∧ 0 ≤ d) = true) (ha : FitQ a) (hb : FitQ b) (hc : FitQ c) (hd : FitQ d) (w : World) (hl : La w) :
    Calls Tryz.prog 41 #[.agg #[.string (Sq a), .string (Sq b)], .agg #[.string (Sq c), .string (Sq d)]] w fun e w' => e = .returned (.tuple #[.agg #[.string ⟨#[]⟩, .string ⟨#[]⟩], .int .i64 16]) ∧ Below w.heap.size w w' := iDiv_has a b c d h1 h2 hz ha hb hc hd w hl

end Go.Proofs.YtlagimghlngdgaaGreatDoor
/- The examples of chapter 4. -/
namespace Go.Proofs.YtlagimghlngdgaaGreatDoor
open Go.RowKit Go.Gb

theorem vq_lit {x y : Rat} {a b : ByteArray} (ha : Sq x = a) (hb : Sq y = b) : Vq x y = .agg #[.string a, .string b] := by subst ha hb; rfl

theorem vx_mul (w : World) (hl : La w) : Calls Tryz.prog 39 #[.agg #[.string ⟨#[45, 49]⟩, .string ⟨#[50]⟩], .agg #[.string ⟨#[51]⟩, .string ⟨#[52]⟩]] w fun e w' => e = .returned (.tuple #[.agg #[.string ⟨#[45, 52]⟩, .string ⟨#[56]⟩], .int .i64 0]) ∧ Below w.heap.size w w' := by
  have h := iMul (-1 : Rat) (2 : Rat) (3 : Rat) (4 : Rat) (-3 : Rat) (-4 : Rat) (6 : Rat) (8 : Rat) (by decide +kernel) (by decide +kernel) (by decide +kernel) (by decide +kernel) (by decide +kernel) (by decide +kernel) (fitq_small (by decide +kernel) (by decide +kernel)) (fitq_small (by decide +kernel) (by decide +kernel)) (fitq_small (by decide +kernel) (by decide +kernel)) (fitq_small (by decide +kernel) (by decide +kernel)) (fitq_small (by decide +kernel) (by decide +kernel)) (fitq_small (by decide +kernel) (by decide +kernel)) (fitq_small (by decide +kernel) (by decide +kernel)) (fitq_small (by decide +kernel) (by decide +kernel)) w hl
  rw [show Vq (-1 : Rat) (2 : Rat) = .agg #[.string ⟨#[45, 49]⟩, .string ⟨#[50]⟩] from vq_lit (by decide +kernel) (by decide +kernel), show Vq (3 : Rat) (4 : Rat) = .agg #[.string ⟨#[51]⟩, .string ⟨#[52]⟩] from vq_lit (by decide +kernel) (by decide +kernel), show Vq (exOf (row4 (-3 : Rat) (-4 : Rat) (6 : Rat) (8 : Rat)) 3).1 (exOf (row4 (-3 : Rat) (-4 : Rat) (6 : Rat) (8 : Rat)) 3).2 = .agg #[.string ⟨#[45, 52]⟩, .string ⟨#[56]⟩] from vq_lit (by decide +kernel) (by decide +kernel)] at h
  exact h
theorem vx_square (w : World) (hl : La w) : Calls Tryz.prog 40 #[.agg #[.string ⟨#[45, 49]⟩, .string ⟨#[50]⟩]] w fun e w' => e = .returned (.tuple #[.agg #[.string ⟨#[48]⟩, .string ⟨#[52]⟩], .int .i64 0]) ∧ Below w.heap.size w w' := by
  have h := iSquare (-1 : Rat) (2 : Rat) (1 : Rat) (4 : Rat) (by decide +kernel) (by decide +kernel) (by decide +kernel) (fitq_small (by decide +kernel) (by decide +kernel)) (fitq_small (by decide +kernel) (by decide +kernel)) (fitq_small (by decide +kernel) (by decide +kernel)) (fitq_small (by decide +kernel) (by decide +kernel)) w hl
  rw [show Vq (-1 : Rat) (2 : Rat) = .agg #[.string ⟨#[45, 49]⟩, .string ⟨#[50]⟩] from vq_lit (by decide +kernel) (by decide +kernel), show Vq (sqI (-1 : Rat) (2 : Rat)).1 (sqI (-1 : Rat) (2 : Rat)).2 = .agg #[.string ⟨#[48]⟩, .string ⟨#[52]⟩] from vq_lit (by decide +kernel) (by decide +kernel)] at h
  exact h
theorem vx_div (w : World) (hl : La w) : Calls Tryz.prog 41 #[.agg #[.string ⟨#[49]⟩, .string ⟨#[50]⟩], .agg #[.string ⟨#[45, 52]⟩, .string ⟨#[45, 50]⟩]] w fun e w' => e = .returned (.tuple #[.agg #[.string ⟨#[45, 49]⟩, .string ⟨#[45, 49, 47, 52]⟩], .int .i64 0]) ∧ Below w.heap.size w w' := by
  have h := iDiv (1 : Rat) (2 : Rat) (-4 : Rat) (-2 : Rat) (-1/4 : Rat) (-1/2 : Rat) (-1/2 : Rat) (-1 : Rat) (by decide +kernel) (by decide +kernel) (by decide +kernel) (by decide +kernel) (by decide +kernel) (by decide +kernel) (by decide +kernel) (fitq_small (by decide +kernel) (by decide +kernel)) (fitq_small (by decide +kernel) (by decide +kernel)) (fitq_small (by decide +kernel) (by decide +kernel)) (fitq_small (by decide +kernel) (by decide +kernel)) (fitq_small (by decide +kernel) (by decide +kernel)) (fitq_small (by decide +kernel) (by decide +kernel)) (fitq_small (by decide +kernel) (by decide +kernel)) (fitq_small (by decide +kernel) (by decide +kernel)) w hl
  rw [show Vq (1 : Rat) (2 : Rat) = .agg #[.string ⟨#[49]⟩, .string ⟨#[50]⟩] from vq_lit (by decide +kernel) (by decide +kernel), show Vq (-4 : Rat) (-2 : Rat) = .agg #[.string ⟨#[45, 52]⟩, .string ⟨#[45, 50]⟩] from vq_lit (by decide +kernel) (by decide +kernel), show Vq (exOf (row4 (-1/4 : Rat) (-1/2 : Rat) (-1/2 : Rat) (-1 : Rat)) 3).1 (exOf (row4 (-1/4 : Rat) (-1/2 : Rat) (-1/2 : Rat) (-1 : Rat)) 3).2 = .agg #[.string ⟨#[45, 49]⟩, .string ⟨#[45, 49, 47, 52]⟩] from vq_lit (by decide +kernel) (by decide +kernel)] at h
  exact h
theorem vx_round (w : World) (hl : La w) : Calls Tryz.prog 45 #[.agg #[.string ⟨#[49, 47, 51]⟩, .string ⟨#[49, 47, 50]⟩], .int .i64 10] w fun e w' => e = .returned (.tuple #[.agg #[.string ⟨#[51, 47, 49, 48]⟩, .string ⟨#[49, 47, 50]⟩], .int .i64 0]) ∧ Below w.heap.size w w' := by
  have h := iRound (k := 5) (1/3 : Rat) (1/2 : Rat) 10 (by decide) (by decide +kernel) (⟨by unfold Sm; decide +kernel, by unfold Sm; decide +kernel⟩ : SmQ 5 (1/3 : Rat)) (⟨by unfold Sm; decide +kernel, by unfold Sm; decide +kernel⟩ : SmQ 5 (1/2 : Rat)) (by decide) (by decide) w hl
  rw [show Vq (1/3 : Rat) (1/2 : Rat) = .agg #[.string ⟨#[49, 47, 51]⟩, .string ⟨#[49, 47, 50]⟩] from vq_lit (by decide +kernel) (by decide +kernel), show Vq (rdQ (1/3 : Rat) 10) (0 - rdQ (0 - (1/2 : Rat)) 10) = .agg #[.string ⟨#[51, 47, 49, 48]⟩, .string ⟨#[49, 47, 50]⟩] from vq_lit (by decide +kernel) (by decide +kernel)] at h
  exact h
theorem vx_add (w : World) (hl : La w) : Calls Tryz.prog 37 #[.agg #[.string ⟨#[49]⟩, .string ⟨#[50]⟩], .agg #[.string ⟨#[51]⟩, .string ⟨#[52]⟩]] w fun e w' => e = .returned (.tuple #[.agg #[.string ⟨#[52]⟩, .string ⟨#[54]⟩], .int .i64 0]) ∧ Below w.heap.size w w' := by
  have h := iAdd (1 : Rat) (2 : Rat) (3 : Rat) (4 : Rat) 4 6 (by decide +kernel) (by decide +kernel) (by decide +kernel) (by decide +kernel) (fitq_small (by decide +kernel) (by decide +kernel)) (fitq_small (by decide +kernel) (by decide +kernel)) (fitq_small (by decide +kernel) (by decide +kernel)) (fitq_small (by decide +kernel) (by decide +kernel)) w hl
  rw [show Vq (1 : Rat) (2 : Rat) = .agg #[.string ⟨#[49]⟩, .string ⟨#[50]⟩] from vq_lit (by decide +kernel) (by decide +kernel), show Vq (3 : Rat) (4 : Rat) = .agg #[.string ⟨#[51]⟩, .string ⟨#[52]⟩] from vq_lit (by decide +kernel) (by decide +kernel), show Vq (4 : Rat) (6 : Rat) = .agg #[.string ⟨#[52]⟩, .string ⟨#[54]⟩] from vq_lit (by decide +kernel) (by decide +kernel)] at h
  exact h
theorem vx_sub (w : World) (hl : La w) : Calls Tryz.prog 38 #[.agg #[.string ⟨#[49]⟩, .string ⟨#[50]⟩], .agg #[.string ⟨#[51]⟩, .string ⟨#[52]⟩]] w fun e w' => e = .returned (.tuple #[.agg #[.string ⟨#[45, 51]⟩, .string ⟨#[45, 49]⟩], .int .i64 0]) ∧ Below w.heap.size w w' := by
  have h := iSub (1 : Rat) (2 : Rat) (3 : Rat) (4 : Rat) (-3) (-1) (by decide +kernel) (by decide +kernel) (by decide +kernel) (by decide +kernel) (fitq_small (by decide +kernel) (by decide +kernel)) (fitq_small (by decide +kernel) (by decide +kernel)) (fitq_small (by decide +kernel) (by decide +kernel)) (fitq_small (by decide +kernel) (by decide +kernel)) w hl
  rw [show Vq (1 : Rat) (2 : Rat) = .agg #[.string ⟨#[49]⟩, .string ⟨#[50]⟩] from vq_lit (by decide +kernel) (by decide +kernel), show Vq (3 : Rat) (4 : Rat) = .agg #[.string ⟨#[51]⟩, .string ⟨#[52]⟩] from vq_lit (by decide +kernel) (by decide +kernel), show Vq (-3 : Rat) (-1 : Rat) = .agg #[.string ⟨#[45, 51]⟩, .string ⟨#[45, 49]⟩] from vq_lit (by decide +kernel) (by decide +kernel)] at h
  exact h
theorem vx_sign (w : World) (hl : La w) : Calls Tryz.prog 72 #[.agg #[.string ⟨#[45, 50]⟩, .string ⟨#[45, 49]⟩]] w fun e w' => e = .returned (.tuple #[.int .i64 (-1), .bool true, .int .i64 0]) ∧ Below w.heap.size w w' := by
  have h1 := fun W hW => iValid_yes (-2 : Rat) (-1 : Rat) (by decide +kernel) (fitq_small (by decide +kernel) (by decide +kernel)) (fitq_small (by decide +kernel) (by decide +kernel)) W hW
  have h2 := fun W hW => iOrder (-2 : Rat) 0 (-1) (by decide +kernel) (fitq_small (by decide +kernel) (by decide +kernel)) fq00 W hW
  have h3 := fun W hW => iOrder (-1 : Rat) 0 (-1) (by decide +kernel) (fitq_small (by decide +kernel) (by decide +kernel)) fq00 W hW
  rw [q_0, show Sq (-2 : Rat) = ⟨#[45, 50]⟩ by decide +kernel] at h2
  rw [q_0, show Sq (-1 : Rat) = ⟨#[45, 49]⟩ by decide +kernel] at h3
  rw [show Vq (-2 : Rat) (-1 : Rat) = .agg #[.string ⟨#[45, 50]⟩, .string ⟨#[45, 49]⟩] from vq_lit (by decide +kernel) (by decide +kernel)] at h1
  exact isign_sure_raw _ _ _ w hl h1 h2 h3
theorem vx_meet (w : World) (hl : La w) : Calls Tryz.prog 42 #[.agg #[.string ⟨#[49]⟩, .string ⟨#[51]⟩], .agg #[.string ⟨#[50]⟩, .string ⟨#[52]⟩]] w fun e w' => e = .returned (.tuple #[.agg #[.string ⟨#[50]⟩, .string ⟨#[51]⟩], .bool true]) ∧ Below w.heap.size w w' := by
  have h := iMeet (1 : Rat) (3 : Rat) (2 : Rat) (4 : Rat) 2 3 (by decide +kernel) (by decide +kernel) (by decide +kernel) (by decide +kernel) (by decide +kernel) (fitq_small (by decide +kernel) (by decide +kernel)) (fitq_small (by decide +kernel) (by decide +kernel)) (fitq_small (by decide +kernel) (by decide +kernel)) (fitq_small (by decide +kernel) (by decide +kernel)) w hl
  rw [show Vq (1 : Rat) (3 : Rat) = .agg #[.string ⟨#[49]⟩, .string ⟨#[51]⟩] from vq_lit (by decide +kernel) (by decide +kernel), show Vq (2 : Rat) (4 : Rat) = .agg #[.string ⟨#[50]⟩, .string ⟨#[52]⟩] from vq_lit (by decide +kernel) (by decide +kernel), show Vq (2 : Rat) (3 : Rat) = .agg #[.string ⟨#[50]⟩, .string ⟨#[51]⟩] from vq_lit (by decide +kernel) (by decide +kernel)] at h
  exact h
theorem vx_exact (w : World) (hl : La w) : Calls Tryz.prog 74 #[.string ⟨#[49, 47, 50]⟩] w fun e w' => e = .returned (.tuple #[.agg #[.string ⟨#[49, 47, 50]⟩, .string ⟨#[49, 47, 50]⟩], .int .i64 0]) ∧ Below w.heap.size w w' := by
  have h := iExact (1/2 : Rat) (fitq_small (by decide +kernel) (by decide +kernel)) w hl
  rw [show Vq (1/2 : Rat) (1/2 : Rat) = .agg #[.string ⟨#[49, 47, 50]⟩, .string ⟨#[49, 47, 50]⟩] from vq_lit (by decide +kernel) (by decide +kernel), show Sq (1/2 : Rat) = ⟨#[49, 47, 50]⟩ by decide +kernel] at h
  exact h
theorem vx_valid (w : World) (hl : La w) : Calls Tryz.prog 34 #[.agg #[.string ⟨#[49, 47, 50]⟩, .string ⟨#[49, 47, 50]⟩]] w fun e w' => e = .returned (.bool true) ∧ Below w.heap.size w w' := by
  have h := iValid_yes (1/2 : Rat) (1/2 : Rat) (by decide +kernel) (fitq_small (by decide +kernel) (by decide +kernel)) (fitq_small (by decide +kernel) (by decide +kernel)) w hl
  rw [show Vq (1/2 : Rat) (1/2 : Rat) = .agg #[.string ⟨#[49, 47, 50]⟩, .string ⟨#[49, 47, 50]⟩] from vq_lit (by decide +kernel) (by decide +kernel)] at h
  exact h
theorem vx_has (w : World) (hl : La w) : Calls Tryz.prog 36 #[.agg #[.string ⟨#[49, 47, 50]⟩, .string ⟨#[49, 47, 50]⟩], .string ⟨#[49, 47, 50]⟩] w fun e w' => e = .returned (.bool true) ∧ Below w.heap.size w w' := by
  have h := iHas (1/2 : Rat) (1/2 : Rat) (1/2 : Rat) true (by decide +kernel) (by decide +kernel) (fitq_small (by decide +kernel) (by decide +kernel)) (fitq_small (by decide +kernel) (by decide +kernel)) (fitq_small (by decide +kernel) (by decide +kernel)) w hl
  rw [show Vq (1/2 : Rat) (1/2 : Rat) = .agg #[.string ⟨#[49, 47, 50]⟩, .string ⟨#[49, 47, 50]⟩] from vq_lit (by decide +kernel) (by decide +kernel), show Sq (1/2 : Rat) = ⟨#[49, 47, 50]⟩ by decide +kernel] at h
  exact h
end Go.Proofs.YtlagimghlngdgaaGreatDoor
