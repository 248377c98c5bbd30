/- garboardlaw04.wide: walks. -/
import Derived.Test.YtlagimghlngdgaaGreatDoorMvk
namespace Go.Proofs.YtlagimghlngdgaaGreatDoor
open Go.RowKit Go.Gb

set_option maxHeartbeats 1000000 in
set_option maxRecDepth 100000 in
theorem wideone (x y : ByteArray) (r : Bool) (hr : (decide (40 < x.size) || decide (40 < y.size)) = r) (w : World) :
    Calls Tryz.prog 76 #[.agg #[.string x, .string y]] w fun e w' => e = .returned (.bool r) ∧ Below w.heap.size w w' := by
  have HI := Lib.hid (iv_box w x y)
  have HB := Lib.hid ((below_alloc w (.cells #[.string x, .string y] 48)).alloc (by simp) (.cells #[.string x, .string y] 22))
  have hc := strs_cells2 (w.alloc (.cells #[.string x, .string y] 48)) x y
  rw [show (w.alloc (.cells #[.string x, .string y] 48)).heap.size = w.heap.size + 1 by simp] at hc
  have HC : Hid (Calls Tryz.prog 77 #[.slice (some ⟨w.heap.size + 1, 0, none⟩) 2 2] ((w.alloc (.cells #[.string x, .string y] 48)).alloc (.cells #[.string x, .string y] 22)) fun e w' => e = .returned (.bool r) ∧ ((w.alloc (.cells #[.string x, .string y] 48)).alloc (.cells #[.string x, .string y] 22)) = w') := Lib.hid (by
    by_cases h : 40 < x.size ∨ 40 < y.size
    · have e : r = true := by rw [← hr]; simpa using h
      subst e
      exact long2_yes _ x y _ h hc
    · have e : r = false := by rw [← hr]; simp; omega
      subst e
      exact long2_no _ x y _ (by omega) (by omega) hc)
  clear hc hr
  go_enter Tryz.func76, Tryz.ntmps76
  obtain ⟨_, m0, m1⟩ := HI.out
  go_wp2_with fail
  refine HC.out.mono ?_
  rintro e w' ⟨rfl, rfl⟩
  go_wp2
  go_ret
  exact ⟨rfl, HB.out⟩

theorem ivs_cells1 (w : World) (l1 h1 : ByteArray) : (w.alloc (.cells #[.string l1, .string h1] 48)).cell? ⟨w.heap.size, 0, none⟩ = some (.string l1) ∧ (w.alloc (.cells #[.string l1, .string h1] 48)).cell? ⟨w.heap.size, 1, none⟩ = some (.string h1) :=
  ⟨(q_new rfl).trans rfl, (q_new rfl).trans rfl⟩

set_option maxHeartbeats 2000000 in
theorem wide1_at0 (g : Nat) (l1 h1 : ByteArray) (w : World) (s0 : (decide (40 < l1.size) || decide (40 < h1.size)) = true) (hg : g < w.heap.size) (hc : w.cell? ⟨g, 0, none⟩ = some (.string l1) ∧ w.cell? ⟨g, 1, none⟩ = some (.string h1)) :
    Calls Tryz.prog 33 #[.slice (some ⟨g, 0, none⟩) 1 1] w fun e w' => e = .returned (.bool true) ∧ Below w.heap.size w w' := by
  obtain ⟨c0, c1⟩ := hc
  have HB0 := Lib.hid (Below.refl w.heap.size w)
  have K0 := Lib.hid (show ∀ W, Below w.heap.size w W → W.cell? ⟨g, 0, none⟩ = some (.string l1) from fun W hB => (hB.cell (p := ⟨g, 0, none⟩) hg).trans c0)
  have K1 := Lib.hid (show ∀ W, Below w.heap.size w W → W.cell? ⟨g, 1, none⟩ = some (.string h1) from fun W hB => (hB.cell (p := ⟨g, 1, none⟩) hg).trans c1)
  have S0 := Lib.hid s0
  clear s0 hg
  go_enter Tryz.func33, Tryz.ntmps33
  go_wp2
  refine wp_loop_rounds 2 ?_
  rw [rounds_succ]
  go_wp2_with fail
  refine (wideone l1 h1 _ S0.out _).mono ?_
  rintro e w1 ⟨rfl, hb⟩
  have HB1 := Lib.hid (HB0.out.trans (hb.mono HB0.out.size))
  clear hb c0 c1
  have c0 := K0.out _ HB1.out
  have c1 := K1.out _ HB1.out
  go_wp2
  go_ret
  exact ⟨rfl, HB1.out⟩

set_option maxHeartbeats 2000000 in
theorem wide1_no (g : Nat) (l1 h1 : ByteArray) (w : World) (s0 : (decide (40 < l1.size) || decide (40 < h1.size)) = false) (hg : g < w.heap.size) (hc : w.cell? ⟨g, 0, none⟩ = some (.string l1) ∧ w.cell? ⟨g, 1, none⟩ = some (.string h1)) :
    Calls Tryz.prog 33 #[.slice (some ⟨g, 0, none⟩) 1 1] w fun e w' => e = .returned (.bool false) ∧ Below w.heap.size w w' := by
  obtain ⟨c0, c1⟩ := hc
  have HB0 := Lib.hid (Below.refl w.heap.size w)
  have K0 := Lib.hid (show ∀ W, Below w.heap.size w W → W.cell? ⟨g, 0, none⟩ = some (.string l1) from fun W hB => (hB.cell (p := ⟨g, 0, none⟩) hg).trans c0)
  have K1 := Lib.hid (show ∀ W, Below w.heap.size w W → W.cell? ⟨g, 1, none⟩ = some (.string h1) from fun W hB => (hB.cell (p := ⟨g, 1, none⟩) hg).trans c1)
  have S0 := Lib.hid s0
  clear s0 hg
  go_enter Tryz.func33, Tryz.ntmps33
  go_wp2
  refine wp_loop_rounds 2 ?_
  rw [rounds_succ]
  go_wp2_with fail
  refine (wideone l1 h1 _ S0.out _).mono ?_
  rintro e w1 ⟨rfl, hb⟩
  have HB1 := Lib.hid (HB0.out.trans (hb.mono HB0.out.size))
  clear hb c0 c1
  have c0 := K0.out _ HB1.out
  have c1 := K1.out _ HB1.out
  go_wp2
  rw [rounds_succ]
  go_wp2
  go_ret
  exact ⟨rfl, HB1.out⟩

theorem wide1_yes (g : Nat) (l1 h1 : ByteArray) (w : World) (h : 40 < l1.size ∨ 40 < h1.size) (hg : g < w.heap.size) (hc : w.cell? ⟨g, 0, none⟩ = some (.string l1) ∧ w.cell? ⟨g, 1, none⟩ = some (.string h1)) :
    Calls Tryz.prog 33 #[.slice (some ⟨g, 0, none⟩) 1 1] w fun e w' => e = .returned (.bool true) ∧ Below w.heap.size w w' := by
  have s0 : (decide (40 < l1.size) || decide (40 < h1.size)) = true := by simp at *; omega
  exact wide1_at0 g l1 h1 w s0 hg hc

theorem wide1_small (g : Nat) (l1 h1 : ByteArray) (w : World) (s0 : l1.size ≤ 40 ∧ h1.size ≤ 40) (hg : g < w.heap.size) (hc : w.cell? ⟨g, 0, none⟩ = some (.string l1) ∧ w.cell? ⟨g, 1, none⟩ = some (.string h1)) :
    Calls Tryz.prog 33 #[.slice (some ⟨g, 0, none⟩) 1 1] w fun e w' => e = .returned (.bool false) ∧ Below w.heap.size w w' :=
  wide1_no g l1 h1 w (by simp; omega) hg hc

theorem ivs_cells2 (w : World) (l1 h1 l2 h2 : ByteArray) : (w.alloc (.cells #[.string l1, .string h1, .string l2, .string h2] 48)).cell? ⟨w.heap.size, 0, none⟩ = some (.string l1) ∧ (w.alloc (.cells #[.string l1, .string h1, .string l2, .string h2] 48)).cell? ⟨w.heap.size, 1, none⟩ = some (.string h1) ∧ (w.alloc (.cells #[.string l1, .string h1, .string l2, .string h2] 48)).cell? ⟨w.heap.size, 2, none⟩ = some (.string l2) ∧ (w.alloc (.cells #[.string l1, .string h1, .string l2, .string h2] 48)).cell? ⟨w.heap.size, 3, none⟩ = some (.string h2) :=
  ⟨(q_new rfl).trans rfl, (q_new rfl).trans rfl, (q_new rfl).trans rfl, (q_new rfl).trans rfl⟩

set_option maxHeartbeats 2000000 in
theorem wide2_at0 (g : Nat) (l1 h1 l2 h2 : ByteArray) (w : World) (s0 : (decide (40 < l1.size) || decide (40 < h1.size)) = true) (hg : g < w.heap.size) (hc : w.cell? ⟨g, 0, none⟩ = some (.string l1) ∧ w.cell? ⟨g, 1, none⟩ = some (.string h1) ∧ w.cell? ⟨g, 2, none⟩ = some (.string l2) ∧ w.cell? ⟨g, 3, none⟩ = some (.string h2)) :
    Calls Tryz.prog 33 #[.slice (some ⟨g, 0, none⟩) 2 2] w fun e w' => e = .returned (.bool true) ∧ Below w.heap.size w w' := by
  obtain ⟨c0, c1, c2, c3⟩ := hc
  have HB0 := Lib.hid (Below.refl w.heap.size w)
  have K0 := Lib.hid (show ∀ W, Below w.heap.size w W → W.cell? ⟨g, 0, none⟩ = some (.string l1) from fun W hB => (hB.cell (p := ⟨g, 0, none⟩) hg).trans c0)
  have K1 := Lib.hid (show ∀ W, Below w.heap.size w W → W.cell? ⟨g, 1, none⟩ = some (.string h1) from fun W hB => (hB.cell (p := ⟨g, 1, none⟩) hg).trans c1)
  have K2 := Lib.hid (show ∀ W, Below w.heap.size w W → W.cell? ⟨g, 2, none⟩ = some (.string l2) from fun W hB => (hB.cell (p := ⟨g, 2, none⟩) hg).trans c2)
  have K3 := Lib.hid (show ∀ W, Below w.heap.size w W → W.cell? ⟨g, 3, none⟩ = some (.string h2) from fun W hB => (hB.cell (p := ⟨g, 3, none⟩) hg).trans c3)
  have S0 := Lib.hid s0
  clear s0 hg
  go_enter Tryz.func33, Tryz.ntmps33
  go_wp2
  refine wp_loop_rounds 3 ?_
  rw [rounds_succ]
  go_wp2_with fail
  refine (wideone l1 h1 _ S0.out _).mono ?_
  rintro e w1 ⟨rfl, hb⟩
  have HB1 := Lib.hid (HB0.out.trans (hb.mono HB0.out.size))
  clear hb c0 c1 c2 c3
  have c0 := K0.out _ HB1.out
  have c1 := K1.out _ HB1.out
  have c2 := K2.out _ HB1.out
  have c3 := K3.out _ HB1.out
  go_wp2
  go_ret
  exact ⟨rfl, HB1.out⟩

set_option maxHeartbeats 2000000 in
theorem wide2_at1 (g : Nat) (l1 h1 l2 h2 : ByteArray) (w : World) (s0 : (decide (40 < l1.size) || decide (40 < h1.size)) = false) (s1 : (decide (40 < l2.size) || decide (40 < h2.size)) = true) (hg : g < w.heap.size) (hc : w.cell? ⟨g, 0, none⟩ = some (.string l1) ∧ w.cell? ⟨g, 1, none⟩ = some (.string h1) ∧ w.cell? ⟨g, 2, none⟩ = some (.string l2) ∧ w.cell? ⟨g, 3, none⟩ = some (.string h2)) :
    Calls Tryz.prog 33 #[.slice (some ⟨g, 0, none⟩) 2 2] w fun e w' => e = .returned (.bool true) ∧ Below w.heap.size w w' := by
  obtain ⟨c0, c1, c2, c3⟩ := hc
  have HB0 := Lib.hid (Below.refl w.heap.size w)
  have K0 := Lib.hid (show ∀ W, Below w.heap.size w W → W.cell? ⟨g, 0, none⟩ = some (.string l1) from fun W hB => (hB.cell (p := ⟨g, 0, none⟩) hg).trans c0)
  have K1 := Lib.hid (show ∀ W, Below w.heap.size w W → W.cell? ⟨g, 1, none⟩ = some (.string h1) from fun W hB => (hB.cell (p := ⟨g, 1, none⟩) hg).trans c1)
  have K2 := Lib.hid (show ∀ W, Below w.heap.size w W → W.cell? ⟨g, 2, none⟩ = some (.string l2) from fun W hB => (hB.cell (p := ⟨g, 2, none⟩) hg).trans c2)
  have K3 := Lib.hid (show ∀ W, Below w.heap.size w W → W.cell? ⟨g, 3, none⟩ = some (.string h2) from fun W hB => (hB.cell (p := ⟨g, 3, none⟩) hg).trans c3)
  have S0 := Lib.hid s0
  have S1 := Lib.hid s1
  clear s0 s1 hg
  go_enter Tryz.func33, Tryz.ntmps33
  go_wp2
  refine wp_loop_rounds 3 ?_
  rw [rounds_succ]
  go_wp2_with fail
  refine (wideone l1 h1 _ S0.out _).mono ?_
  rintro e w1 ⟨rfl, hb⟩
  have HB1 := Lib.hid (HB0.out.trans (hb.mono HB0.out.size))
  clear hb c0 c1 c2 c3
  have c0 := K0.out _ HB1.out
  have c1 := K1.out _ HB1.out
  have c2 := K2.out _ HB1.out
  have c3 := K3.out _ HB1.out
  go_wp2
  rw [rounds_succ]
  go_wp2_with fail
  refine (wideone l2 h2 _ S1.out _).mono ?_
  rintro e w2 ⟨rfl, hb⟩
  have HB2 := Lib.hid (HB1.out.trans (hb.mono HB1.out.size))
  clear hb c0 c1 c2 c3
  have c0 := K0.out _ HB2.out
  have c1 := K1.out _ HB2.out
  have c2 := K2.out _ HB2.out
  have c3 := K3.out _ HB2.out
  go_wp2
  go_ret
  exact ⟨rfl, HB2.out⟩

set_option maxHeartbeats 2000000 in
theorem wide2_no (g : Nat) (l1 h1 l2 h2 : ByteArray) (w : World) (s0 : (decide (40 < l1.size) || decide (40 < h1.size)) = false) (s1 : (decide (40 < l2.size) || decide (40 < h2.size)) = false) (hg : g < w.heap.size) (hc : w.cell? ⟨g, 0, none⟩ = some (.string l1) ∧ w.cell? ⟨g, 1, none⟩ = some (.string h1) ∧ w.cell? ⟨g, 2, none⟩ = some (.string l2) ∧ w.cell? ⟨g, 3, none⟩ = some (.string h2)) :
    Calls Tryz.prog 33 #[.slice (some ⟨g, 0, none⟩) 2 2] w fun e w' => e = .returned (.bool false) ∧ Below w.heap.size w w' := by
  obtain ⟨c0, c1, c2, c3⟩ := hc
  have HB0 := Lib.hid (Below.refl w.heap.size w)
  have K0 := Lib.hid (show ∀ W, Below w.heap.size w W → W.cell? ⟨g, 0, none⟩ = some (.string l1) from fun W hB => (hB.cell (p := ⟨g, 0, none⟩) hg).trans c0)
  have K1 := Lib.hid (show ∀ W, Below w.heap.size w W → W.cell? ⟨g, 1, none⟩ = some (.string h1) from fun W hB => (hB.cell (p := ⟨g, 1, none⟩) hg).trans c1)
  have K2 := Lib.hid (show ∀ W, Below w.heap.size w W → W.cell? ⟨g, 2, none⟩ = some (.string l2) from fun W hB => (hB.cell (p := ⟨g, 2, none⟩) hg).trans c2)
  have K3 := Lib.hid (show ∀ W, Below w.heap.size w W → W.cell? ⟨g, 3, none⟩ = some (.string h2) from fun W hB => (hB.cell (p := ⟨g, 3, none⟩) hg).trans c3)
  have S0 := Lib.hid s0
  have S1 := Lib.hid s1
  clear s0 s1 hg
  go_enter Tryz.func33, Tryz.ntmps33
  go_wp2
  refine wp_loop_rounds 3 ?_
  rw [rounds_succ]
  go_wp2_with fail
  refine (wideone l1 h1 _ S0.out _).mono ?_
  rintro e w1 ⟨rfl, hb⟩
  have HB1 := Lib.hid (HB0.out.trans (hb.mono HB0.out.size))
  clear hb c0 c1 c2 c3
  have c0 := K0.out _ HB1.out
  have c1 := K1.out _ HB1.out
  have c2 := K2.out _ HB1.out
  have c3 := K3.out _ HB1.out
  go_wp2
  rw [rounds_succ]
  go_wp2_with fail
  refine (wideone l2 h2 _ S1.out _).mono ?_
  rintro e w2 ⟨rfl, hb⟩
  have HB2 := Lib.hid (HB1.out.trans (hb.mono HB1.out.size))
  clear hb c0 c1 c2 c3
  have c0 := K0.out _ HB2.out
  have c1 := K1.out _ HB2.out
  have c2 := K2.out _ HB2.out
  have c3 := K3.out _ HB2.out
  go_wp2
  rw [rounds_succ]
  go_wp2
  go_ret
  exact ⟨rfl, HB2.out⟩

theorem wide2_yes (g : Nat) (l1 h1 l2 h2 : ByteArray) (w : World) (h : 40 < l1.size ∨ 40 < h1.size ∨ 40 < l2.size ∨ 40 < h2.size) (hg : g < w.heap.size) (hc : w.cell? ⟨g, 0, none⟩ = some (.string l1) ∧ w.cell? ⟨g, 1, none⟩ = some (.string h1) ∧ w.cell? ⟨g, 2, none⟩ = some (.string l2) ∧ w.cell? ⟨g, 3, none⟩ = some (.string h2)) :
    Calls Tryz.prog 33 #[.slice (some ⟨g, 0, none⟩) 2 2] w fun e w' => e = .returned (.bool true) ∧ Below w.heap.size w w' := by
  cases s0 : (decide (40 < l1.size) || decide (40 < h1.size)) with
  | true => exact wide2_at0 g l1 h1 l2 h2 w s0 hg hc
  | false =>
  have s1 : (decide (40 < l2.size) || decide (40 < h2.size)) = true := by simp at *; omega
  exact wide2_at1 g l1 h1 l2 h2 w s0 s1 hg hc

theorem wide2_small (g : Nat) (l1 h1 l2 h2 : ByteArray) (w : World) (s0 : l1.size ≤ 40 ∧ h1.size ≤ 40) (s1 : l2.size ≤ 40 ∧ h2.size ≤ 40) (hg : g < w.heap.size) (hc : w.cell? ⟨g, 0, none⟩ = some (.string l1) ∧ w.cell? ⟨g, 1, none⟩ = some (.string h1) ∧ w.cell? ⟨g, 2, none⟩ = some (.string l2) ∧ w.cell? ⟨g, 3, none⟩ = some (.string h2)) :
    Calls Tryz.prog 33 #[.slice (some ⟨g, 0, none⟩) 2 2] w fun e w' => e = .returned (.bool false) ∧ Below w.heap.size w w' :=
  wide2_no g l1 h1 l2 h2 w (by simp; omega) (by simp; omega) hg hc

theorem ivs_cells3 (w : World) (l1 h1 l2 h2 l3 h3 : ByteArray) : (w.alloc (.cells #[.string l1, .string h1, .string l2, .string h2, .string l3, .string h3] 48)).cell? ⟨w.heap.size, 0, none⟩ = some (.string l1) ∧ (w.alloc (.cells #[.string l1, .string h1, .string l2, .string h2, .string l3, .string h3] 48)).cell? ⟨w.heap.size, 1, none⟩ = some (.string h1) ∧ (w.alloc (.cells #[.string l1, .string h1, .string l2, .string h2, .string l3, .string h3] 48)).cell? ⟨w.heap.size, 2, none⟩ = some (.string l2) ∧ (w.alloc (.cells #[.string l1, .string h1, .string l2, .string h2, .string l3, .string h3] 48)).cell? ⟨w.heap.size, 3, none⟩ = some (.string h2) ∧ (w.alloc (.cells #[.string l1, .string h1, .string l2, .string h2, .string l3, .string h3] 48)).cell? ⟨w.heap.size, 4, none⟩ = some (.string l3) ∧ (w.alloc (.cells #[.string l1, .string h1, .string l2, .string h2, .string l3, .string h3] 48)).cell? ⟨w.heap.size, 5, none⟩ = some (.string h3) :=
  ⟨(q_new rfl).trans rfl, (q_new rfl).trans rfl, (q_new rfl).trans rfl, (q_new rfl).trans rfl, (q_new rfl).trans rfl, (q_new rfl).trans rfl⟩

set_option maxHeartbeats 2000000 in
theorem wide3_at0 (g : Nat) (l1 h1 l2 h2 l3 h3 : ByteArray) (w : World) (s0 : (decide (40 < l1.size) || decide (40 < h1.size)) = true) (hg : g < w.heap.size) (hc : w.cell? ⟨g, 0, none⟩ = some (.string l1) ∧ w.cell? ⟨g, 1, none⟩ = some (.string h1) ∧ w.cell? ⟨g, 2, none⟩ = some (.string l2) ∧ w.cell? ⟨g, 3, none⟩ = some (.string h2) ∧ w.cell? ⟨g, 4, none⟩ = some (.string l3) ∧ w.cell? ⟨g, 5, none⟩ = some (.string h3)) :
    Calls Tryz.prog 33 #[.slice (some ⟨g, 0, none⟩) 3 3] w fun e w' => e = .returned (.bool true) ∧ Below w.heap.size w w' := by
  obtain ⟨c0, c1, c2, c3, c4, c5⟩ := hc
  have HB0 := Lib.hid (Below.refl w.heap.size w)
  have K0 := Lib.hid (show ∀ W, Below w.heap.size w W → W.cell? ⟨g, 0, none⟩ = some (.string l1) from fun W hB => (hB.cell (p := ⟨g, 0, none⟩) hg).trans c0)
  have K1 := Lib.hid (show ∀ W, Below w.heap.size w W → W.cell? ⟨g, 1, none⟩ = some (.string h1) from fun W hB => (hB.cell (p := ⟨g, 1, none⟩) hg).trans c1)
  have K2 := Lib.hid (show ∀ W, Below w.heap.size w W → W.cell? ⟨g, 2, none⟩ = some (.string l2) from fun W hB => (hB.cell (p := ⟨g, 2, none⟩) hg).trans c2)
  have K3 := Lib.hid (show ∀ W, Below w.heap.size w W → W.cell? ⟨g, 3, none⟩ = some (.string h2) from fun W hB => (hB.cell (p := ⟨g, 3, none⟩) hg).trans c3)
  have K4 := Lib.hid (show ∀ W, Below w.heap.size w W → W.cell? ⟨g, 4, none⟩ = some (.string l3) from fun W hB => (hB.cell (p := ⟨g, 4, none⟩) hg).trans c4)
  have K5 := Lib.hid (show ∀ W, Below w.heap.size w W → W.cell? ⟨g, 5, none⟩ = some (.string h3) from fun W hB => (hB.cell (p := ⟨g, 5, none⟩) hg).trans c5)
  have S0 := Lib.hid s0
  clear s0 hg
  go_enter Tryz.func33, Tryz.ntmps33
  go_wp2
  refine wp_loop_rounds 4 ?_
  rw [rounds_succ]
  go_wp2_with fail
  refine (wideone l1 h1 _ S0.out _).mono ?_
  rintro e w1 ⟨rfl, hb⟩
  have HB1 := Lib.hid (HB0.out.trans (hb.mono HB0.out.size))
  clear hb c0 c1 c2 c3 c4 c5
  have c0 := K0.out _ HB1.out
  have c1 := K1.out _ HB1.out
  have c2 := K2.out _ HB1.out
  have c3 := K3.out _ HB1.out
  have c4 := K4.out _ HB1.out
  have c5 := K5.out _ HB1.out
  go_wp2
  go_ret
  exact ⟨rfl, HB1.out⟩

set_option maxHeartbeats 2000000 in
theorem wide3_at1 (g : Nat) (l1 h1 l2 h2 l3 h3 : ByteArray) (w : World) (s0 : (decide (40 < l1.size) || decide (40 < h1.size)) = false) (s1 : (decide (40 < l2.size) || decide (40 < h2.size)) = true) (hg : g < w.heap.size) (hc : w.cell? ⟨g, 0, none⟩ = some (.string l1) ∧ w.cell? ⟨g, 1, none⟩ = some (.string h1) ∧ w.cell? ⟨g, 2, none⟩ = some (.string l2) ∧ w.cell? ⟨g, 3, none⟩ = some (.string h2) ∧ w.cell? ⟨g, 4, none⟩ = some (.string l3) ∧ w.cell? ⟨g, 5, none⟩ = some (.string h3)) :
    Calls Tryz.prog 33 #[.slice (some ⟨g, 0, none⟩) 3 3] w fun e w' => e = .returned (.bool true) ∧ Below w.heap.size w w' := by
  obtain ⟨c0, c1, c2, c3, c4, c5⟩ := hc
  have HB0 := Lib.hid (Below.refl w.heap.size w)
  have K0 := Lib.hid (show ∀ W, Below w.heap.size w W → W.cell? ⟨g, 0, none⟩ = some (.string l1) from fun W hB => (hB.cell (p := ⟨g, 0, none⟩) hg).trans c0)
  have K1 := Lib.hid (show ∀ W, Below w.heap.size w W → W.cell? ⟨g, 1, none⟩ = some (.string h1) from fun W hB => (hB.cell (p := ⟨g, 1, none⟩) hg).trans c1)
  have K2 := Lib.hid (show ∀ W, Below w.heap.size w W → W.cell? ⟨g, 2, none⟩ = some (.string l2) from fun W hB => (hB.cell (p := ⟨g, 2, none⟩) hg).trans c2)
  have K3 := Lib.hid (show ∀ W, Below w.heap.size w W → W.cell? ⟨g, 3, none⟩ = some (.string h2) from fun W hB => (hB.cell (p := ⟨g, 3, none⟩) hg).trans c3)
  have K4 := Lib.hid (show ∀ W, Below w.heap.size w W → W.cell? ⟨g, 4, none⟩ = some (.string l3) from fun W hB => (hB.cell (p := ⟨g, 4, none⟩) hg).trans c4)
  have K5 := Lib.hid (show ∀ W, Below w.heap.size w W → W.cell? ⟨g, 5, none⟩ = some (.string h3) from fun W hB => (hB.cell (p := ⟨g, 5, none⟩) hg).trans c5)
  have S0 := Lib.hid s0
  have S1 := Lib.hid s1
  clear s0 s1 hg
  go_enter Tryz.func33, Tryz.ntmps33
  go_wp2
  refine wp_loop_rounds 4 ?_
  rw [rounds_succ]
  go_wp2_with fail
  refine (wideone l1 h1 _ S0.out _).mono ?_
  rintro e w1 ⟨rfl, hb⟩
  have HB1 := Lib.hid (HB0.out.trans (hb.mono HB0.out.size))
  clear hb c0 c1 c2 c3 c4 c5
  have c0 := K0.out _ HB1.out
  have c1 := K1.out _ HB1.out
  have c2 := K2.out _ HB1.out
  have c3 := K3.out _ HB1.out
  have c4 := K4.out _ HB1.out
  have c5 := K5.out _ HB1.out
  go_wp2
  rw [rounds_succ]
  go_wp2_with fail
  refine (wideone l2 h2 _ S1.out _).mono ?_
  rintro e w2 ⟨rfl, hb⟩
  have HB2 := Lib.hid (HB1.out.trans (hb.mono HB1.out.size))
  clear hb c0 c1 c2 c3 c4 c5
  have c0 := K0.out _ HB2.out
  have c1 := K1.out _ HB2.out
  have c2 := K2.out _ HB2.out
  have c3 := K3.out _ HB2.out
  have c4 := K4.out _ HB2.out
  have c5 := K5.out _ HB2.out
  go_wp2
  go_ret
  exact ⟨rfl, HB2.out⟩

set_option maxHeartbeats 2000000 in
theorem wide3_at2 (g : Nat) (l1 h1 l2 h2 l3 h3 : ByteArray) (w : World) (s0 : (decide (40 < l1.size) || decide (40 < h1.size)) = false) (s1 : (decide (40 < l2.size) || decide (40 < h2.size)) = false) (s2 : (decide (40 < l3.size) || decide (40 < h3.size)) = true) (hg : g < w.heap.size) (hc : w.cell? ⟨g, 0, none⟩ = some (.string l1) ∧ w.cell? ⟨g, 1, none⟩ = some (.string h1) ∧ w.cell? ⟨g, 2, none⟩ = some (.string l2) ∧ w.cell? ⟨g, 3, none⟩ = some (.string h2) ∧ w.cell? ⟨g, 4, none⟩ = some (.string l3) ∧ w.cell? ⟨g, 5, none⟩ = some (.string h3)) :
    Calls Tryz.prog 33 #[.slice (some ⟨g, 0, none⟩) 3 3] w fun e w' => e = .returned (.bool true) ∧ Below w.heap.size w w' := by
  obtain ⟨c0, c1, c2, c3, c4, c5⟩ := hc
  have HB0 := Lib.hid (Below.refl w.heap.size w)
  have K0 := Lib.hid (show ∀ W, Below w.heap.size w W → W.cell? ⟨g, 0, none⟩ = some (.string l1) from fun W hB => (hB.cell (p := ⟨g, 0, none⟩) hg).trans c0)
  have K1 := Lib.hid (show ∀ W, Below w.heap.size w W → W.cell? ⟨g, 1, none⟩ = some (.string h1) from fun W hB => (hB.cell (p := ⟨g, 1, none⟩) hg).trans c1)
  have K2 := Lib.hid (show ∀ W, Below w.heap.size w W → W.cell? ⟨g, 2, none⟩ = some (.string l2) from fun W hB => (hB.cell (p := ⟨g, 2, none⟩) hg).trans c2)
  have K3 := Lib.hid (show ∀ W, Below w.heap.size w W → W.cell? ⟨g, 3, none⟩ = some (.string h2) from fun W hB => (hB.cell (p := ⟨g, 3, none⟩) hg).trans c3)
  have K4 := Lib.hid (show ∀ W, Below w.heap.size w W → W.cell? ⟨g, 4, none⟩ = some (.string l3) from fun W hB => (hB.cell (p := ⟨g, 4, none⟩) hg).trans c4)
  have K5 := Lib.hid (show ∀ W, Below w.heap.size w W → W.cell? ⟨g, 5, none⟩ = some (.string h3) from fun W hB => (hB.cell (p := ⟨g, 5, none⟩) hg).trans c5)
  have S0 := Lib.hid s0
  have S1 := Lib.hid s1
  have S2 := Lib.hid s2
  clear s0 s1 s2 hg
  go_enter Tryz.func33, Tryz.ntmps33
  go_wp2
  refine wp_loop_rounds 4 ?_
  rw [rounds_succ]
  go_wp2_with fail
  refine (wideone l1 h1 _ S0.out _).mono ?_
  rintro e w1 ⟨rfl, hb⟩
  have HB1 := Lib.hid (HB0.out.trans (hb.mono HB0.out.size))
  clear hb c0 c1 c2 c3 c4 c5
  have c0 := K0.out _ HB1.out
  have c1 := K1.out _ HB1.out
  have c2 := K2.out _ HB1.out
  have c3 := K3.out _ HB1.out
  have c4 := K4.out _ HB1.out
  have c5 := K5.out _ HB1.out
  go_wp2
  rw [rounds_succ]
  go_wp2_with fail
  refine (wideone l2 h2 _ S1.out _).mono ?_
  rintro e w2 ⟨rfl, hb⟩
  have HB2 := Lib.hid (HB1.out.trans (hb.mono HB1.out.size))
  clear hb c0 c1 c2 c3 c4 c5
  have c0 := K0.out _ HB2.out
  have c1 := K1.out _ HB2.out
  have c2 := K2.out _ HB2.out
  have c3 := K3.out _ HB2.out
  have c4 := K4.out _ HB2.out
  have c5 := K5.out _ HB2.out
  go_wp2
  rw [rounds_succ]
  go_wp2_with fail
  refine (wideone l3 h3 _ S2.out _).mono ?_
  rintro e w3 ⟨rfl, hb⟩
  have HB3 := Lib.hid (HB2.out.trans (hb.mono HB2.out.size))
  clear hb c0 c1 c2 c3 c4 c5
  have c0 := K0.out _ HB3.out
  have c1 := K1.out _ HB3.out
  have c2 := K2.out _ HB3.out
  have c3 := K3.out _ HB3.out
  have c4 := K4.out _ HB3.out
  have c5 := K5.out _ HB3.out
  go_wp2
  go_ret
  exact ⟨rfl, HB3.out⟩

set_option maxHeartbeats 2000000 in
theorem wide3_no (g : Nat) (l1 h1 l2 h2 l3 h3 : ByteArray) (w : World) (s0 : (decide (40 < l1.size) || decide (40 < h1.size)) = false) (s1 : (decide (40 < l2.size) || decide (40 < h2.size)) = false) (s2 : (decide (40 < l3.size) || decide (40 < h3.size)) = false) (hg : g < w.heap.size) (hc : w.cell? ⟨g, 0, none⟩ = some (.string l1) ∧ w.cell? ⟨g, 1, none⟩ = some (.string h1) ∧ w.cell? ⟨g, 2, none⟩ = some (.string l2) ∧ w.cell? ⟨g, 3, none⟩ = some (.string h2) ∧ w.cell? ⟨g, 4, none⟩ = some (.string l3) ∧ w.cell? ⟨g, 5, none⟩ = some (.string h3)) :
    Calls Tryz.prog 33 #[.slice (some ⟨g, 0, none⟩) 3 3] w fun e w' => e = .returned (.bool false) ∧ Below w.heap.size w w' := by
  obtain ⟨c0, c1, c2, c3, c4, c5⟩ := hc
  have HB0 := Lib.hid (Below.refl w.heap.size w)
  have K0 := Lib.hid (show ∀ W, Below w.heap.size w W → W.cell? ⟨g, 0, none⟩ = some (.string l1) from fun W hB => (hB.cell (p := ⟨g, 0, none⟩) hg).trans c0)
  have K1 := Lib.hid (show ∀ W, Below w.heap.size w W → W.cell? ⟨g, 1, none⟩ = some (.string h1) from fun W hB => (hB.cell (p := ⟨g, 1, none⟩) hg).trans c1)
  have K2 := Lib.hid (show ∀ W, Below w.heap.size w W → W.cell? ⟨g, 2, none⟩ = some (.string l2) from fun W hB => (hB.cell (p := ⟨g, 2, none⟩) hg).trans c2)
  have K3 := Lib.hid (show ∀ W, Below w.heap.size w W → W.cell? ⟨g, 3, none⟩ = some (.string h2) from fun W hB => (hB.cell (p := ⟨g, 3, none⟩) hg).trans c3)
  have K4 := Lib.hid (show ∀ W, Below w.heap.size w W → W.cell? ⟨g, 4, none⟩ = some (.string l3) from fun W hB => (hB.cell (p := ⟨g, 4, none⟩) hg).trans c4)
  have K5 := Lib.hid (show ∀ W, Below w.heap.size w W → W.cell? ⟨g, 5, none⟩ = some (.string h3) from fun W hB => (hB.cell (p := ⟨g, 5, none⟩) hg).trans c5)
  have S0 := Lib.hid s0
  have S1 := Lib.hid s1
  have S2 := Lib.hid s2
  clear s0 s1 s2 hg
  go_enter Tryz.func33, Tryz.ntmps33
  go_wp2
  refine wp_loop_rounds 4 ?_
  rw [rounds_succ]
  go_wp2_with fail
  refine (wideone l1 h1 _ S0.out _).mono ?_
  rintro e w1 ⟨rfl, hb⟩
  have HB1 := Lib.hid (HB0.out.trans (hb.mono HB0.out.size))
  clear hb c0 c1 c2 c3 c4 c5
  have c0 := K0.out _ HB1.out
  have c1 := K1.out _ HB1.out
  have c2 := K2.out _ HB1.out
  have c3 := K3.out _ HB1.out
  have c4 := K4.out _ HB1.out
  have c5 := K5.out _ HB1.out
  go_wp2
  rw [rounds_succ]
  go_wp2_with fail
  refine (wideone l2 h2 _ S1.out _).mono ?_
  rintro e w2 ⟨rfl, hb⟩
  have HB2 := Lib.hid (HB1.out.trans (hb.mono HB1.out.size))
  clear hb c0 c1 c2 c3 c4 c5
  have c0 := K0.out _ HB2.out
  have c1 := K1.out _ HB2.out
  have c2 := K2.out _ HB2.out
  have c3 := K3.out _ HB2.out
  have c4 := K4.out _ HB2.out
  have c5 := K5.out _ HB2.out
  go_wp2
  rw [rounds_succ]
  go_wp2_with fail
  refine (wideone l3 h3 _ S2.out _).mono ?_
  rintro e w3 ⟨rfl, hb⟩
  have HB3 := Lib.hid (HB2.out.trans (hb.mono HB2.out.size))
  clear hb c0 c1 c2 c3 c4 c5
  have c0 := K0.out _ HB3.out
  have c1 := K1.out _ HB3.out
  have c2 := K2.out _ HB3.out
  have c3 := K3.out _ HB3.out
  have c4 := K4.out _ HB3.out
  have c5 := K5.out _ HB3.out
  go_wp2
  rw [rounds_succ]
  go_wp2
  go_ret
  exact ⟨rfl, HB3.out⟩

theorem wide3_yes (g : Nat) (l1 h1 l2 h2 l3 h3 : ByteArray) (w : World) (h : 40 < l1.size ∨ 40 < h1.size ∨ 40 < l2.size ∨ 40 < h2.size ∨ 40 < l3.size ∨ 40 < h3.size) (hg : g < w.heap.size) (hc : w.cell? ⟨g, 0, none⟩ = some (.string l1) ∧ w.cell? ⟨g, 1, none⟩ = some (.string h1) ∧ w.cell? ⟨g, 2, none⟩ = some (.string l2) ∧ w.cell? ⟨g, 3, none⟩ = some (.string h2) ∧ w.cell? ⟨g, 4, none⟩ = some (.string l3) ∧ w.cell? ⟨g, 5, none⟩ = some (.string h3)) :
    Calls Tryz.prog 33 #[.slice (some ⟨g, 0, none⟩) 3 3] w fun e w' => e = .returned (.bool true) ∧ Below w.heap.size w w' := by
  cases s0 : (decide (40 < l1.size) || decide (40 < h1.size)) with
  | true => exact wide3_at0 g l1 h1 l2 h2 l3 h3 w s0 hg hc
  | false =>
  cases s1 : (decide (40 < l2.size) || decide (40 < h2.size)) with
  | true => exact wide3_at1 g l1 h1 l2 h2 l3 h3 w s0 s1 hg hc
  | false =>
  have s2 : (decide (40 < l3.size) || decide (40 < h3.size)) = true := by simp at *; omega
  exact wide3_at2 g l1 h1 l2 h2 l3 h3 w s0 s1 s2 hg hc

theorem wide3_small (g : Nat) (l1 h1 l2 h2 l3 h3 : ByteArray) (w : World) (s0 : l1.size ≤ 40 ∧ h1.size ≤ 40) (s1 : l2.size ≤ 40 ∧ h2.size ≤ 40) (s2 : l3.size ≤ 40 ∧ h3.size ≤ 40) (hg : g < w.heap.size) (hc : w.cell? ⟨g, 0, none⟩ = some (.string l1) ∧ w.cell? ⟨g, 1, none⟩ = some (.string h1) ∧ w.cell? ⟨g, 2, none⟩ = some (.string l2) ∧ w.cell? ⟨g, 3, none⟩ = some (.string h2) ∧ w.cell? ⟨g, 4, none⟩ = some (.string l3) ∧ w.cell? ⟨g, 5, none⟩ = some (.string h3)) :
    Calls Tryz.prog 33 #[.slice (some ⟨g, 0, none⟩) 3 3] w fun e w' => e = .returned (.bool false) ∧ Below w.heap.size w w' :=
  wide3_no g l1 h1 l2 h2 l3 h3 w (by simp; omega) (by simp; omega) (by simp; omega) hg hc

end Go.Proofs.YtlagimghlngdgaaGreatDoor
