/- interval.combine: walks. -/
import Derived.Test.YtlagimghlngdgaaGreatDoorMva
namespace Go.Proofs.YtlagimghlngdgaaGreatDoor
open Go.RowKit Go.Gb

/-- The blocks of combine: the two intervals, the result, the four results of the ends. -/
def Cb (w wr : World) (l1 h1 l2 h2 : ByteArray) (c : Nat → ByteArray) : Prop := Below w.heap.size w wr ∧ w.heap.size + 4 ≤ wr.heap.size ∧
  (∀ k b, (k, b) ∈ [(0, (l1, h1)), (1, (l2, h2)), (2, ((⟨#[]⟩ : ByteArray), (⟨#[]⟩ : ByteArray)))] → (wr.cell? ⟨w.heap.size + k, 0, none⟩ = some (.string b.1) ∧ wr.cell? ⟨w.heap.size + k, 1, none⟩ = some (.string b.2) ∧ wr.frozen? ⟨w.heap.size + k, 0, none⟩ = false ∧ wr.frozen? ⟨w.heap.size + k, 1, none⟩ = false)) ∧
  (∀ k, k < 4 → wr.cell? ⟨w.heap.size + 3, k, none⟩ = some (.string (c k)) ∧ wr.frozen? ⟨w.heap.size + 3, k, none⟩ = false)
theorem Cb.call {w a b : World} {l1 h1 l2 h2 : ByteArray} {c : Nat → ByteArray} (h : Cb w a l1 h1 l2 h2 c) (hb : Below a.heap.size a b) : Cb w b l1 h1 l2 h2 c := by
  obtain ⟨e1, e2, e3, e4⟩ := h
  refine ⟨e1.trans (hb.mono e1.size), Nat.le_trans e2 hb.size, fun k p hk => ?_, fun k hk => ?_⟩
  · obtain ⟨c0, c1, f0, f1⟩ := e3 k p hk
    have hk3 : k < 3 := by simp at hk; omega
    exact ⟨(hb.cell (p := ⟨w.heap.size + k, 0, none⟩) (by show w.heap.size + k < _; omega)).trans c0, (hb.cell (p := ⟨w.heap.size + k, 1, none⟩) (by show w.heap.size + k < _; omega)).trans c1, (hb.frozen (p := ⟨w.heap.size + k, 0, none⟩) (by show w.heap.size + k < _; omega)).trans f0, (hb.frozen (p := ⟨w.heap.size + k, 1, none⟩) (by show w.heap.size + k < _; omega)).trans f1⟩
  · obtain ⟨c0, f0⟩ := e4 k hk
    exact ⟨(hb.cell (p := ⟨w.heap.size + 3, k, none⟩) (by show w.heap.size + 3 < _; omega)).trans c0, (hb.frozen (p := ⟨w.heap.size + 3, k, none⟩) (by show w.heap.size + 3 < _; omega)).trans f0⟩
theorem Cb.store {w a : World} {l1 h1 l2 h2 : ByteArray} {c : Nat → ByteArray} (h : Cb w a l1 h1 l2 h2 c) (k : Nat) (hk : k < 4) (v : ByteArray) : Cb w (a.setCell ⟨w.heap.size + 3, k, none⟩ (.string v)) l1 h1 l2 h2 (fun j => if j = k then v else c j) := by
  obtain ⟨e1, e2, e3, e4⟩ := h
  refine ⟨e1.setCell (p := ⟨w.heap.size + 3, k, none⟩) (by show w.heap.size ≤ w.heap.size + 3; omega) _, by simpa using e2, fun j p hj => ?_, fun j hj => ?_⟩
  · obtain ⟨c0, c1, f0, f1⟩ := e3 j p hj
    have hj3 : j < 3 := by simp at hj; omega
    rw [fq_set, fq_set]
    exact ⟨(q_set (by omega)).trans c0, (q_set (by omega)).trans c1, f0, f1⟩
  · obtain ⟨c0, f0⟩ := e4 j hj
    rw [fq_set]
    by_cases hjk : j = k
    · subst hjk
      refine ⟨?_, f0⟩
      show _ = some (Value.string (if j = j then v else c j))
      rw [if_pos rfl]
      exact World.cell?_setCell_same _ _ _ c0
    · show (_ = some (Value.string (if j = k then v else c j))) ∧ _
      rw [if_neg hjk]
      exact ⟨(World.cell?_setCell_other _ _ _ _ (by intro e; injection e with e1 e2; exact hjk e2.symm)).trans c0, f0⟩
theorem Cb.facts {w a : World} {l1 h1 l2 h2 : ByteArray} {c : Nat → ByteArray} (h : Cb w a l1 h1 l2 h2 c) :
    (a.cell? ⟨w.heap.size, 0, none⟩ = some (.string l1) ∧ a.cell? ⟨w.heap.size, 1, none⟩ = some (.string h1)) ∧
    (a.cell? ⟨w.heap.size + 1, 0, none⟩ = some (.string l2) ∧ a.cell? ⟨w.heap.size + 1, 1, none⟩ = some (.string h2)) ∧
    (a.cell? ⟨w.heap.size + 1 + 1, 0, none⟩ = some (.string ⟨#[]⟩) ∧ a.cell? ⟨w.heap.size + 1 + 1, 1, none⟩ = some (.string ⟨#[]⟩) ∧ a.frozen? ⟨w.heap.size + 1 + 1, 0, none⟩ = false ∧ a.frozen? ⟨w.heap.size + 1 + 1, 1, none⟩ = false) ∧
    (a.cell? ⟨w.heap.size + 1 + 1 + 1, 0, none⟩ = some (.string (c 0)) ∧ a.cell? ⟨w.heap.size + 1 + 1 + 1, 1, none⟩ = some (.string (c 1)) ∧ a.cell? ⟨w.heap.size + 1 + 1 + 1, 2, none⟩ = some (.string (c 2)) ∧ a.cell? ⟨w.heap.size + 1 + 1 + 1, 3, none⟩ = some (.string (c 3))) ∧
    (a.frozen? ⟨w.heap.size + 1 + 1 + 1, 0, none⟩ = false ∧ a.frozen? ⟨w.heap.size + 1 + 1 + 1, 1, none⟩ = false ∧ a.frozen? ⟨w.heap.size + 1 + 1 + 1, 2, none⟩ = false ∧ a.frozen? ⟨w.heap.size + 1 + 1 + 1, 3, none⟩ = false) := by
  obtain ⟨e1, e2, e3, e4⟩ := h
  have a0 := e3 0 _ (.head _)
  have a1 := e3 1 _ (.tail _ (.head _))
  have a2 := e3 2 _ (.tail _ (.tail _ (.head _)))
  exact ⟨⟨a0.1, a0.2.1⟩, ⟨a1.1, a1.2.1⟩, a2, ⟨(e4 0 (by decide)).1, (e4 1 (by decide)).1, (e4 2 (by decide)).1, (e4 3 (by decide)).1⟩, ⟨(e4 0 (by decide)).2, (e4 1 (by decide)).2, (e4 2 (by decide)).2, (e4 3 (by decide)).2⟩⟩

theorem Cb.start (w : World) (l1 h1 l2 h2 : ByteArray) : Cb w ((((w.alloc (.cells #[.string l1, .string h1] 48)).alloc (.cells #[.string l2, .string h2] 48)).alloc (.cells #[.string ⟨#[]⟩, .string ⟨#[]⟩] 48)).alloc (.cells #[.string ⟨#[]⟩, .string ⟨#[]⟩, .string ⟨#[]⟩, .string ⟨#[]⟩] 154)) l1 h1 l2 h2 (fun _ => ⟨#[]⟩) := by
  refine ⟨?_, by simp, fun k p hk => ?_, fun k hk => ?_⟩
  · repeat (first | exact Below.refl _ _ | refine Below.alloc ?_ (by first | omega | (simp; omega) | simp) _)
  · simp only [List.mem_cons, Prod.mk.injEq, List.mem_nil_iff, or_false] at hk
    rcases hk with ⟨rfl, rfl⟩ | ⟨rfl, rfl⟩ | ⟨rfl, rfl⟩
    · exact ⟨(q_lt (by first | omega | (simp; done) | (simp; omega))).trans ((q_lt (by first | omega | (simp; done) | (simp; omega))).trans ((q_lt (by first | omega | (simp; done) | (simp; omega))).trans ((q_new (by first | omega | (simp; done) | (simp; omega))).trans rfl))), (q_lt (by first | omega | (simp; done) | (simp; omega))).trans ((q_lt (by first | omega | (simp; done) | (simp; omega))).trans ((q_lt (by first | omega | (simp; done) | (simp; omega))).trans ((q_new (by first | omega | (simp; done) | (simp; omega))).trans rfl))), (fq_lt (by first | omega | (simp; done) | (simp; omega))).trans ((fq_lt (by first | omega | (simp; done) | (simp; omega))).trans ((fq_lt (by first | omega | (simp; done) | (simp; omega))).trans (fq_new (by first | omega | (simp; done) | (simp; omega))))), (fq_lt (by first | omega | (simp; done) | (simp; omega))).trans ((fq_lt (by first | omega | (simp; done) | (simp; omega))).trans ((fq_lt (by first | omega | (simp; done) | (simp; omega))).trans (fq_new (by first | omega | (simp; done) | (simp; omega)))))⟩
    · exact ⟨(q_lt (by first | omega | (simp; done) | (simp; omega))).trans ((q_lt (by first | omega | (simp; done) | (simp; omega))).trans ((q_new (by first | omega | (simp; done) | (simp; omega))).trans rfl)), (q_lt (by first | omega | (simp; done) | (simp; omega))).trans ((q_lt (by first | omega | (simp; done) | (simp; omega))).trans ((q_new (by first | omega | (simp; done) | (simp; omega))).trans rfl)), (fq_lt (by first | omega | (simp; done) | (simp; omega))).trans ((fq_lt (by first | omega | (simp; done) | (simp; omega))).trans (fq_new (by first | omega | (simp; done) | (simp; omega)))), (fq_lt (by first | omega | (simp; done) | (simp; omega))).trans ((fq_lt (by first | omega | (simp; done) | (simp; omega))).trans (fq_new (by first | omega | (simp; done) | (simp; omega))))⟩
    · exact ⟨(q_lt (by first | omega | (simp; done) | (simp; omega))).trans ((q_new (by first | omega | (simp; done) | (simp; omega))).trans rfl), (q_lt (by first | omega | (simp; done) | (simp; omega))).trans ((q_new (by first | omega | (simp; done) | (simp; omega))).trans rfl), (fq_lt (by first | omega | (simp; done) | (simp; omega))).trans (fq_new (by first | omega | (simp; done) | (simp; omega))), (fq_lt (by first | omega | (simp; done) | (simp; omega))).trans (fq_new (by first | omega | (simp; done) | (simp; omega)))⟩
  · match k, hk with
    | 0, _ => exact ⟨(q_new (by first | omega | (simp; done) | (simp; omega))).trans rfl, fq_new (by first | omega | (simp; done) | (simp; omega))⟩
    | 1, _ => exact ⟨(q_new (by first | omega | (simp; done) | (simp; omega))).trans rfl, fq_new (by first | omega | (simp; done) | (simp; omega))⟩
    | 2, _ => exact ⟨(q_new (by first | omega | (simp; done) | (simp; omega))).trans rfl, fq_new (by first | omega | (simp; done) | (simp; omega))⟩
    | 3, _ => exact ⟨(q_new (by first | omega | (simp; done) | (simp; omega))).trans rfl, fq_new (by first | omega | (simp; done) | (simp; omega))⟩

set_option maxHeartbeats 2000000 in
set_option maxRecDepth 100000 in
theorem combineMul_raw (l1 h1 l2 h2 p0 p1 p2 p3 lo hi : ByteArray) (w : World) (hl : La w)
    (g0 : ∀ W, La W → Calls Tryz.prog 19 #[.string l1, .string l2] W fun e w' => e = .returned (.tuple #[.string p0, .int .i64 0]) ∧ Below W.heap.size W w')
    (g1 : ∀ W, La W → Calls Tryz.prog 19 #[.string l1, .string h2] W fun e w' => e = .returned (.tuple #[.string p1, .int .i64 0]) ∧ Below W.heap.size W w')
    (g2 : ∀ W, La W → Calls Tryz.prog 19 #[.string h1, .string l2] W fun e w' => e = .returned (.tuple #[.string p2, .int .i64 0]) ∧ Below W.heap.size W w')
    (g3 : ∀ W, La W → Calls Tryz.prog 19 #[.string h1, .string h2] W fun e w' => e = .returned (.tuple #[.string p3, .int .i64 0]) ∧ Below W.heap.size W w')
    (g4 : ∀ W g, La W → g < W.heap.size → W.cell? ⟨g, 0, none⟩ = some (.string p0) → W.cell? ⟨g, 1, none⟩ = some (.string p1) → W.cell? ⟨g, 2, none⟩ = some (.string p2) → W.cell? ⟨g, 3, none⟩ = some (.string p3) → Calls Tryz.prog 80 #[.slice (some ⟨g, 0, none⟩) 4 4] W fun e w' => e = .returned (.agg #[.string lo, .string hi]) ∧ Below W.heap.size W w') :
    Calls Tryz.prog 79 #[.agg #[.string l1, .string h1], .agg #[.string l2, .string h2], .func (.func 19) #[] #[]] w fun e w' => e = .returned (.agg #[.string lo, .string hi]) ∧ Below w.heap.size w w' := by
  have C0 := Lib.hid g0
  have C1 := Lib.hid g1
  have C2 := Lib.hid g2
  have C3 := Lib.hid g3
  have C4 := Lib.hid g4
  have ix0 : ∀ W : World, (Instr.index 155 (.agg #[.string l1, .string h1]) (.int .i64 0)).run Tryz.prog W = .ok (.string l1) W := fun _ => by kernel_rfl
  have ix1 : ∀ W : World, (Instr.index 155 (.agg #[.string l1, .string h1]) (.int .i64 1)).run Tryz.prog W = .ok (.string h1) W := fun _ => by kernel_rfl
  have HL := Lib.hid (show ∀ W : World, Below w.heap.size w W → La W from fun W h => hl.on h)
  have M0 := Lib.hid (Cb.start w l1 h1 l2 h2)
  have wm : IntKind.i64.wrap (2 * 0) = 0 := by decide
  have wm1 : IntKind.i64.wrap (2 * 1) = 2 := by decide
  have wp1 : IntKind.i64.wrap (0 + 1) = 1 := by decide
  have wp2 : IntKind.i64.wrap (2 + 1) = 3 := by decide
  have wp3 : IntKind.i64.wrap (1 + 1) = 2 := by decide
  obtain ⟨w0, hw0⟩ : ∃ w0 : World, w0 = ((((w.alloc (.cells #[.string l1, .string h1] 48)).alloc (.cells #[.string l2, .string h2] 48)).alloc (.cells #[.string ⟨#[]⟩, .string ⟨#[]⟩] 48)).alloc (.cells #[.string ⟨#[]⟩, .string ⟨#[]⟩, .string ⟨#[]⟩, .string ⟨#[]⟩] 154)) := ⟨_, rfl⟩
  rw [← hw0] at M0
  have HW0 := Lib.hid hw0
  clear hw0 hl g0 g1 g2 g3 g4
  go_enter Tryz.func79, Tryz.ntmps79
  go_upto_region 2 with fail
  rw [← HW0.out]
  obtain ⟨⟨a0, a1⟩, ⟨b0, b1⟩, ⟨r0, r1, r2, r3⟩, ⟨c0, c1, c2, c3⟩, ⟨d0, d1, d2, d3⟩⟩ := M0.out.facts
  have kz := M0.out.2.1
  go_wp2_with fail
  refine wp_loop_rounds 3 ?_
  rw [rounds_succ]
  go_wp2_with fail
  refine (C0.out _ (HL.out _ M0.out.1)).mono ?_
  rintro e w1 ⟨rfl, hb⟩
  have M1 := Lib.hid (M0.out.call hb)
  clear hb a0 a1 b0 b1 r0 r1 r2 r3 c0 c1 c2 c3 d0 d1 d2 d3 kz
  obtain ⟨⟨a0, a1⟩, ⟨b0, b1⟩, ⟨r0, r1, r2, r3⟩, ⟨c0, c1, c2, c3⟩, ⟨d0, d1, d2, d3⟩⟩ := M1.out.facts
  have kz := M1.out.2.1
  go_upto_region 6 with fail
  obtain ⟨w2, hw⟩ : ∃ w2 : World, w2 = w1.setCell ⟨w.heap.size + 1 + 1 + 1, 0, none⟩ (.string p0) := ⟨_, rfl⟩
  rw [← hw]
  have M2 := M1.out.store 0 (by decide) p0
  rw [show w1.setCell ⟨w.heap.size + 3, 0, none⟩ (.string p0) = w2 from hw.symm] at M2
  have M2 := Lib.hid M2
  clear hw a0 a1 b0 b1 r0 r1 r2 r3 c0 c1 c2 c3 d0 d1 d2 d3 kz
  obtain ⟨⟨a0, a1⟩, ⟨b0, b1⟩, ⟨r0, r1, r2, r3⟩, ⟨c0, c1, c2, c3⟩, ⟨d0, d1, d2, d3⟩⟩ := M2.out.facts
  have kz := M2.out.2.1
  go_wp2_with fail
  refine (C1.out _ (HL.out _ M2.out.1)).mono ?_
  rintro e w3 ⟨rfl, hb⟩
  have M3 := Lib.hid (M2.out.call hb)
  clear hb a0 a1 b0 b1 r0 r1 r2 r3 c0 c1 c2 c3 d0 d1 d2 d3 kz
  obtain ⟨⟨a0, a1⟩, ⟨b0, b1⟩, ⟨r0, r1, r2, r3⟩, ⟨c0, c1, c2, c3⟩, ⟨d0, d1, d2, d3⟩⟩ := M3.out.facts
  have kz := M3.out.2.1
  go_upto_region 7 with fail
  obtain ⟨w4, hw⟩ : ∃ w4 : World, w4 = w3.setCell ⟨w.heap.size + 1 + 1 + 1, 1, none⟩ (.string p1) := ⟨_, rfl⟩
  rw [← hw]
  have M4 := M3.out.store 1 (by decide) p1
  rw [show w3.setCell ⟨w.heap.size + 3, 1, none⟩ (.string p1) = w4 from hw.symm] at M4
  have M4 := Lib.hid M4
  clear hw a0 a1 b0 b1 r0 r1 r2 r3 c0 c1 c2 c3 d0 d1 d2 d3 kz
  obtain ⟨⟨a0, a1⟩, ⟨b0, b1⟩, ⟨r0, r1, r2, r3⟩, ⟨c0, c1, c2, c3⟩, ⟨d0, d1, d2, d3⟩⟩ := M4.out.facts
  have kz := M4.out.2.1
  go_wp2_with fail
  rw [rounds_succ]
  go_wp2_with fail
  refine (C2.out _ (HL.out _ M4.out.1)).mono ?_
  rintro e w5 ⟨rfl, hb⟩
  have M5 := Lib.hid (M4.out.call hb)
  clear hb a0 a1 b0 b1 r0 r1 r2 r3 c0 c1 c2 c3 d0 d1 d2 d3 kz
  obtain ⟨⟨a0, a1⟩, ⟨b0, b1⟩, ⟨r0, r1, r2, r3⟩, ⟨c0, c1, c2, c3⟩, ⟨d0, d1, d2, d3⟩⟩ := M5.out.facts
  have kz := M5.out.2.1
  go_upto_region 6 with fail
  obtain ⟨w6, hw⟩ : ∃ w6 : World, w6 = w5.setCell ⟨w.heap.size + 1 + 1 + 1, 2, none⟩ (.string p2) := ⟨_, rfl⟩
  rw [← hw]
  have M6 := M5.out.store 2 (by decide) p2
  rw [show w5.setCell ⟨w.heap.size + 3, 2, none⟩ (.string p2) = w6 from hw.symm] at M6
  have M6 := Lib.hid M6
  clear hw a0 a1 b0 b1 r0 r1 r2 r3 c0 c1 c2 c3 d0 d1 d2 d3 kz
  obtain ⟨⟨a0, a1⟩, ⟨b0, b1⟩, ⟨r0, r1, r2, r3⟩, ⟨c0, c1, c2, c3⟩, ⟨d0, d1, d2, d3⟩⟩ := M6.out.facts
  have kz := M6.out.2.1
  go_wp2_with fail
  refine (C3.out _ (HL.out _ M6.out.1)).mono ?_
  rintro e w7 ⟨rfl, hb⟩
  have M7 := Lib.hid (M6.out.call hb)
  clear hb a0 a1 b0 b1 r0 r1 r2 r3 c0 c1 c2 c3 d0 d1 d2 d3 kz
  obtain ⟨⟨a0, a1⟩, ⟨b0, b1⟩, ⟨r0, r1, r2, r3⟩, ⟨c0, c1, c2, c3⟩, ⟨d0, d1, d2, d3⟩⟩ := M7.out.facts
  have kz := M7.out.2.1
  go_upto_region 7 with fail
  obtain ⟨w8, hw⟩ : ∃ w8 : World, w8 = w7.setCell ⟨w.heap.size + 1 + 1 + 1, 3, none⟩ (.string p3) := ⟨_, rfl⟩
  rw [← hw]
  have M8 := M7.out.store 3 (by decide) p3
  rw [show w7.setCell ⟨w.heap.size + 3, 3, none⟩ (.string p3) = w8 from hw.symm] at M8
  have M8 := Lib.hid M8
  clear hw a0 a1 b0 b1 r0 r1 r2 r3 c0 c1 c2 c3 d0 d1 d2 d3 kz
  obtain ⟨⟨a0, a1⟩, ⟨b0, b1⟩, ⟨r0, r1, r2, r3⟩, ⟨c0, c1, c2, c3⟩, ⟨d0, d1, d2, d3⟩⟩ := M8.out.facts
  have kz := M8.out.2.1
  go_wp2_with fail
  rw [rounds_succ]
  go_wp2_with fail
  refine (C4.out w8 (w.heap.size + 1 + 1 + 1) (HL.out _ M8.out.1) (by omega) (M8.out.2.2.2 0 (by decide)).1 (M8.out.2.2.2 1 (by decide)).1 (M8.out.2.2.2 2 (by decide)).1 (M8.out.2.2.2 3 (by decide)).1).mono ?_
  rintro e w9 ⟨rfl, hb⟩
  have M9 := Lib.hid (M8.out.call hb)
  clear hb a0 a1 b0 b1 r0 r1 r2 r3 c0 c1 c2 c3 d0 d1 d2 d3 kz
  obtain ⟨⟨a0, a1⟩, ⟨b0, b1⟩, ⟨r0, r1, r2, r3⟩, ⟨c0, c1, c2, c3⟩, ⟨d0, d1, d2, d3⟩⟩ := M9.out.facts
  have kz := M9.out.2.1
  go_wp2
  refine bodyPost_ret (v := .agg #[.string lo, .string hi]) (by simp [results, Tryz.results79, go_sem, r0, r1]) rfl ⟨rfl, ?_⟩
  exact (M9.out.1.setCell (p := ⟨w.heap.size + 1 + 1, 0, none⟩) (by show w.heap.size ≤ w.heap.size + 1 + 1; omega) _).setCell (p := ⟨w.heap.size + 1 + 1, 1, none⟩) (by show w.heap.size ≤ w.heap.size + 1 + 1; omega) _

set_option maxHeartbeats 2000000 in
set_option maxRecDepth 100000 in
theorem combineDiv_raw (l1 h1 l2 h2 p0 p1 p2 p3 lo hi : ByteArray) (w : World) (hl : La w)
    (g0 : ∀ W, La W → Calls Tryz.prog 20 #[.string l1, .string l2] W fun e w' => e = .returned (.tuple #[.string p0, .int .i64 0]) ∧ Below W.heap.size W w')
    (g1 : ∀ W, La W → Calls Tryz.prog 20 #[.string l1, .string h2] W fun e w' => e = .returned (.tuple #[.string p1, .int .i64 0]) ∧ Below W.heap.size W w')
    (g2 : ∀ W, La W → Calls Tryz.prog 20 #[.string h1, .string l2] W fun e w' => e = .returned (.tuple #[.string p2, .int .i64 0]) ∧ Below W.heap.size W w')
    (g3 : ∀ W, La W → Calls Tryz.prog 20 #[.string h1, .string h2] W fun e w' => e = .returned (.tuple #[.string p3, .int .i64 0]) ∧ Below W.heap.size W w')
    (g4 : ∀ W g, La W → g < W.heap.size → W.cell? ⟨g, 0, none⟩ = some (.string p0) → W.cell? ⟨g, 1, none⟩ = some (.string p1) → W.cell? ⟨g, 2, none⟩ = some (.string p2) → W.cell? ⟨g, 3, none⟩ = some (.string p3) → Calls Tryz.prog 80 #[.slice (some ⟨g, 0, none⟩) 4 4] W fun e w' => e = .returned (.agg #[.string lo, .string hi]) ∧ Below W.heap.size W w') :
    Calls Tryz.prog 79 #[.agg #[.string l1, .string h1], .agg #[.string l2, .string h2], .func (.func 20) #[] #[]] w fun e w' => e = .returned (.agg #[.string lo, .string hi]) ∧ Below w.heap.size w w' := by
  have C0 := Lib.hid g0
  have C1 := Lib.hid g1
  have C2 := Lib.hid g2
  have C3 := Lib.hid g3
  have C4 := Lib.hid g4
  have ix0 : ∀ W : World, (Instr.index 155 (.agg #[.string l1, .string h1]) (.int .i64 0)).run Tryz.prog W = .ok (.string l1) W := fun _ => by kernel_rfl
  have ix1 : ∀ W : World, (Instr.index 155 (.agg #[.string l1, .string h1]) (.int .i64 1)).run Tryz.prog W = .ok (.string h1) W := fun _ => by kernel_rfl
  have HL := Lib.hid (show ∀ W : World, Below w.heap.size w W → La W from fun W h => hl.on h)
  have M0 := Lib.hid (Cb.start w l1 h1 l2 h2)
  have wm : IntKind.i64.wrap (2 * 0) = 0 := by decide
  have wm1 : IntKind.i64.wrap (2 * 1) = 2 := by decide
  have wp1 : IntKind.i64.wrap (0 + 1) = 1 := by decide
  have wp2 : IntKind.i64.wrap (2 + 1) = 3 := by decide
  have wp3 : IntKind.i64.wrap (1 + 1) = 2 := by decide
  obtain ⟨w0, hw0⟩ : ∃ w0 : World, w0 = ((((w.alloc (.cells #[.string l1, .string h1] 48)).alloc (.cells #[.string l2, .string h2] 48)).alloc (.cells #[.string ⟨#[]⟩, .string ⟨#[]⟩] 48)).alloc (.cells #[.string ⟨#[]⟩, .string ⟨#[]⟩, .string ⟨#[]⟩, .string ⟨#[]⟩] 154)) := ⟨_, rfl⟩
  rw [← hw0] at M0
  have HW0 := Lib.hid hw0
  clear hw0 hl g0 g1 g2 g3 g4
  go_enter Tryz.func79, Tryz.ntmps79
  go_upto_region 2 with fail
  rw [← HW0.out]
  obtain ⟨⟨a0, a1⟩, ⟨b0, b1⟩, ⟨r0, r1, r2, r3⟩, ⟨c0, c1, c2, c3⟩, ⟨d0, d1, d2, d3⟩⟩ := M0.out.facts
  have kz := M0.out.2.1
  go_wp2_with fail
  refine wp_loop_rounds 3 ?_
  rw [rounds_succ]
  go_wp2_with fail
  refine (C0.out _ (HL.out _ M0.out.1)).mono ?_
  rintro e w1 ⟨rfl, hb⟩
  have M1 := Lib.hid (M0.out.call hb)
  clear hb a0 a1 b0 b1 r0 r1 r2 r3 c0 c1 c2 c3 d0 d1 d2 d3 kz
  obtain ⟨⟨a0, a1⟩, ⟨b0, b1⟩, ⟨r0, r1, r2, r3⟩, ⟨c0, c1, c2, c3⟩, ⟨d0, d1, d2, d3⟩⟩ := M1.out.facts
  have kz := M1.out.2.1
  go_upto_region 6 with fail
  obtain ⟨w2, hw⟩ : ∃ w2 : World, w2 = w1.setCell ⟨w.heap.size + 1 + 1 + 1, 0, none⟩ (.string p0) := ⟨_, rfl⟩
  rw [← hw]
  have M2 := M1.out.store 0 (by decide) p0
  rw [show w1.setCell ⟨w.heap.size + 3, 0, none⟩ (.string p0) = w2 from hw.symm] at M2
  have M2 := Lib.hid M2
  clear hw a0 a1 b0 b1 r0 r1 r2 r3 c0 c1 c2 c3 d0 d1 d2 d3 kz
  obtain ⟨⟨a0, a1⟩, ⟨b0, b1⟩, ⟨r0, r1, r2, r3⟩, ⟨c0, c1, c2, c3⟩, ⟨d0, d1, d2, d3⟩⟩ := M2.out.facts
  have kz := M2.out.2.1
  go_wp2_with fail
  refine (C1.out _ (HL.out _ M2.out.1)).mono ?_
  rintro e w3 ⟨rfl, hb⟩
  have M3 := Lib.hid (M2.out.call hb)
  clear hb a0 a1 b0 b1 r0 r1 r2 r3 c0 c1 c2 c3 d0 d1 d2 d3 kz
  obtain ⟨⟨a0, a1⟩, ⟨b0, b1⟩, ⟨r0, r1, r2, r3⟩, ⟨c0, c1, c2, c3⟩, ⟨d0, d1, d2, d3⟩⟩ := M3.out.facts
  have kz := M3.out.2.1
  go_upto_region 7 with fail
  obtain ⟨w4, hw⟩ : ∃ w4 : World, w4 = w3.setCell ⟨w.heap.size + 1 + 1 + 1, 1, none⟩ (.string p1) := ⟨_, rfl⟩
  rw [← hw]
  have M4 := M3.out.store 1 (by decide) p1
  rw [show w3.setCell ⟨w.heap.size + 3, 1, none⟩ (.string p1) = w4 from hw.symm] at M4
  have M4 := Lib.hid M4
  clear hw a0 a1 b0 b1 r0 r1 r2 r3 c0 c1 c2 c3 d0 d1 d2 d3 kz
  obtain ⟨⟨a0, a1⟩, ⟨b0, b1⟩, ⟨r0, r1, r2, r3⟩, ⟨c0, c1, c2, c3⟩, ⟨d0, d1, d2, d3⟩⟩ := M4.out.facts
  have kz := M4.out.2.1
  go_wp2_with fail
  rw [rounds_succ]
  go_wp2_with fail
  refine (C2.out _ (HL.out _ M4.out.1)).mono ?_
  rintro e w5 ⟨rfl, hb⟩
  have M5 := Lib.hid (M4.out.call hb)
  clear hb a0 a1 b0 b1 r0 r1 r2 r3 c0 c1 c2 c3 d0 d1 d2 d3 kz
  obtain ⟨⟨a0, a1⟩, ⟨b0, b1⟩, ⟨r0, r1, r2, r3⟩, ⟨c0, c1, c2, c3⟩, ⟨d0, d1, d2, d3⟩⟩ := M5.out.facts
  have kz := M5.out.2.1
  go_upto_region 6 with fail
  obtain ⟨w6, hw⟩ : ∃ w6 : World, w6 = w5.setCell ⟨w.heap.size + 1 + 1 + 1, 2, none⟩ (.string p2) := ⟨_, rfl⟩
  rw [← hw]
  have M6 := M5.out.store 2 (by decide) p2
  rw [show w5.setCell ⟨w.heap.size + 3, 2, none⟩ (.string p2) = w6 from hw.symm] at M6
  have M6 := Lib.hid M6
  clear hw a0 a1 b0 b1 r0 r1 r2 r3 c0 c1 c2 c3 d0 d1 d2 d3 kz
  obtain ⟨⟨a0, a1⟩, ⟨b0, b1⟩, ⟨r0, r1, r2, r3⟩, ⟨c0, c1, c2, c3⟩, ⟨d0, d1, d2, d3⟩⟩ := M6.out.facts
  have kz := M6.out.2.1
  go_wp2_with fail
  refine (C3.out _ (HL.out _ M6.out.1)).mono ?_
  rintro e w7 ⟨rfl, hb⟩
  have M7 := Lib.hid (M6.out.call hb)
  clear hb a0 a1 b0 b1 r0 r1 r2 r3 c0 c1 c2 c3 d0 d1 d2 d3 kz
  obtain ⟨⟨a0, a1⟩, ⟨b0, b1⟩, ⟨r0, r1, r2, r3⟩, ⟨c0, c1, c2, c3⟩, ⟨d0, d1, d2, d3⟩⟩ := M7.out.facts
  have kz := M7.out.2.1
  go_upto_region 7 with fail
  obtain ⟨w8, hw⟩ : ∃ w8 : World, w8 = w7.setCell ⟨w.heap.size + 1 + 1 + 1, 3, none⟩ (.string p3) := ⟨_, rfl⟩
  rw [← hw]
  have M8 := M7.out.store 3 (by decide) p3
  rw [show w7.setCell ⟨w.heap.size + 3, 3, none⟩ (.string p3) = w8 from hw.symm] at M8
  have M8 := Lib.hid M8
  clear hw a0 a1 b0 b1 r0 r1 r2 r3 c0 c1 c2 c3 d0 d1 d2 d3 kz
  obtain ⟨⟨a0, a1⟩, ⟨b0, b1⟩, ⟨r0, r1, r2, r3⟩, ⟨c0, c1, c2, c3⟩, ⟨d0, d1, d2, d3⟩⟩ := M8.out.facts
  have kz := M8.out.2.1
  go_wp2_with fail
  rw [rounds_succ]
  go_wp2_with fail
  refine (C4.out w8 (w.heap.size + 1 + 1 + 1) (HL.out _ M8.out.1) (by omega) (M8.out.2.2.2 0 (by decide)).1 (M8.out.2.2.2 1 (by decide)).1 (M8.out.2.2.2 2 (by decide)).1 (M8.out.2.2.2 3 (by decide)).1).mono ?_
  rintro e w9 ⟨rfl, hb⟩
  have M9 := Lib.hid (M8.out.call hb)
  clear hb a0 a1 b0 b1 r0 r1 r2 r3 c0 c1 c2 c3 d0 d1 d2 d3 kz
  obtain ⟨⟨a0, a1⟩, ⟨b0, b1⟩, ⟨r0, r1, r2, r3⟩, ⟨c0, c1, c2, c3⟩, ⟨d0, d1, d2, d3⟩⟩ := M9.out.facts
  have kz := M9.out.2.1
  go_wp2
  refine bodyPost_ret (v := .agg #[.string lo, .string hi]) (by simp [results, Tryz.results79, go_sem, r0, r1]) rfl ⟨rfl, ?_⟩
  exact (M9.out.1.setCell (p := ⟨w.heap.size + 1 + 1, 0, none⟩) (by show w.heap.size ≤ w.heap.size + 1 + 1; omega) _).setCell (p := ⟨w.heap.size + 1 + 1, 1, none⟩) (by show w.heap.size ≤ w.heap.size + 1 + 1; omega) _

end Go.Proofs.YtlagimghlngdgaaGreatDoor
