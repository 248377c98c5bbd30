/- Texts of this proof, one behind the other. -/
import Derived.Test.YtlagimghlngdgaaGreatDoorVd
/- interval: roundDown, negative, Round. -/
namespace Go.Proofs.YtlagimghlngdgaaGreatDoor
open Go.RowKit Go.Gb

set_option maxHeartbeats 2000000 in
set_option maxRecDepth 100000 in
theorem iround_down_raw (x pt t f r : ByteArray) (u : World) (hl : La u)
    (h1 : ∀ W, La W → Calls Tryz.prog 19 #[.string x, .string pt] W fun e w' => e = .returned (.tuple #[.string t, .int .i64 0]) ∧ Below W.heap.size W w')
    (h2 : ∀ W, La W → Calls Tryz.prog 28 #[.string t] W fun e w' => e = .returned (.tuple #[.string f, .int .i64 0]) ∧ Below W.heap.size W w')
    (h3 : ∀ W, La W → Calls Tryz.prog 25 #[.string f, .string pt] W fun e w' => e = .returned (.tuple #[.string r, .int .i64 0]) ∧ Below W.heap.size W w') :
    Calls Tryz.prog 84 #[.string x, .string pt] u fun e w' => e = .returned (.string r) ∧ Below u.heap.size u w' := by
  have C1 := Lib.hid h1
  have C2 := Lib.hid h2
  have C3 := Lib.hid h3
  have HL := Lib.hid (show ∀ W : World, Below u.heap.size u W → La W from fun W hB => hl.on hB)
  have F0 := Lib.hid (Below.refl u.heap.size u)
  clear hl h1 h2 h3
  go_enter Tryz.func84, Tryz.ntmps84
  go_wp2_with fail
  refine (C1.out _ (HL.out _ F0.out)).mono ?_
  rintro e w1 ⟨rfl, hb⟩
  have F1 := Lib.hid (fr_chain F0.out hb)
  clear hb
  go_wp2_with fail
  refine (C2.out _ (HL.out _ F1.out)).mono ?_
  rintro e w2 ⟨rfl, hb⟩
  have F2 := Lib.hid (fr_chain F1.out hb)
  clear hb
  go_wp2_with fail
  refine (C3.out _ (HL.out _ F2.out)).mono ?_
  rintro e w3 ⟨rfl, hb⟩
  have F3 := Lib.hid (fr_chain F2.out hb)
  clear hb
  go_wp2
  go_ret
  exact ⟨rfl, F3.out⟩

set_option maxHeartbeats 2000000 in
set_option maxRecDepth 100000 in
theorem ineg_raw (x r : ByteArray) (u : World) (hl : La u)
    (h1 : ∀ W, La W → Calls Tryz.prog 17 #[.string ⟨#[48]⟩, .string x] W fun e w' => e = .returned (.tuple #[.string r, .int .i64 0]) ∧ Below W.heap.size W w') :
    Calls Tryz.prog 85 #[.string x] u fun e w' => e = .returned (.string r) ∧ Below u.heap.size u w' := by
  have C1 := Lib.hid h1
  have HL := Lib.hid (show ∀ W : World, Below u.heap.size u W → La W from fun W hB => hl.on hB)
  have F0 := Lib.hid (Below.refl u.heap.size u)
  clear hl h1
  go_enter Tryz.func85, Tryz.ntmps85
  go_wp2_with fail
  refine (C1.out _ (HL.out _ F0.out)).mono ?_
  rintro e w1 ⟨rfl, hb⟩
  have F1 := Lib.hid (fr_chain F0.out hb)
  clear hb
  go_wp2
  go_ret
  exact ⟨rfl, F1.out⟩

set_option maxHeartbeats 2000000 in
set_option maxRecDepth 100000 in
theorem iRound_raw (l h pt p q r s : ByteArray) (n : Int) (hn1 : decide (n < 1) = false) (hn2 : decide (1000000000 < n) = false) (w : World) (hl : La w)
    (g1 : ∀ W, La W → Calls Tryz.prog 34 #[.agg #[.string l, .string h]] W fun e w' => e = .returned (.bool true) ∧ Below W.heap.size W w')
    (g2 : ∀ W, La W → Calls Tryz.prog 83 #[.int .i64 n] W fun e w' => e = .returned (.string pt) ∧ Below W.heap.size W w')
    (g3 : ∀ W, La W → Calls Tryz.prog 84 #[.string l, .string pt] W fun e w' => e = .returned (.string p) ∧ Below W.heap.size W w')
    (g4 : ∀ W, La W → Calls Tryz.prog 85 #[.string h] W fun e w' => e = .returned (.string q) ∧ Below W.heap.size W w')
    (g5 : ∀ W, La W → Calls Tryz.prog 84 #[.string q, .string pt] W fun e w' => e = .returned (.string r) ∧ Below W.heap.size W w')
    (g6 : ∀ W, La W → Calls Tryz.prog 85 #[.string r] W fun e w' => e = .returned (.string s) ∧ Below W.heap.size W w') :
    Calls Tryz.prog 45 #[.agg #[.string l, .string h], .int .i64 n] w fun e w' => e = .returned (.tuple #[.agg #[.string p, .string s], .int .i64 0]) ∧ Below w.heap.size w w' := by
  have C1 := Lib.hid g1
  have C2 := Lib.hid g2
  have C3 := Lib.hid g3
  have C4 := Lib.hid g4
  have C5 := Lib.hid g5
  have C6 := Lib.hid g6
  obtain ⟨w0, hw0⟩ : ∃ w0 : World, w0 = ((w.alloc (.cells #[.string l, .string h] 48)).alloc (.cells #[.string ⟨#[]⟩, .string ⟨#[]⟩] 48)) := ⟨_, rfl⟩
  have hz0 : w0.heap.size = w.heap.size + 2 := by rw [hw0]; simp
  have hB0 : Below w.heap.size w w0 := by
    rw [hw0]
    repeat (first | exact Below.refl _ _ | refine Below.setCell ?_ (by first | omega | (simp; omega) | simp) _ | refine Below.alloc ?_ (by first | omega | (simp; omega) | simp) _ | refine Below.drew ?_)
  have hS0 : w0.cell? ⟨w.heap.size, 0, none⟩ = some (.string l) ∧ w0.cell? ⟨w.heap.size, 1, none⟩ = some (.string h) := by rw [hw0]; exact ⟨((q_lt (by first | omega | (simp; done) | (simp; omega))).trans ((q_new (by first | omega | (simp; done) | (simp; omega))).trans rfl)), ((q_lt (by first | omega | (simp; done) | (simp; omega))).trans ((q_new (by first | omega | (simp; done) | (simp; omega))).trans rfl))⟩
  have KS := Lib.hid (show ∀ W : World, Below w0.heap.size w0 W → (W.cell? ⟨w.heap.size, 0, none⟩ = some (.string l) ∧ W.cell? ⟨w.heap.size, 1, none⟩ = some (.string h)) from fun W hB => by
    obtain ⟨c0, c1⟩ := hS0
    exact ⟨(hB.cell (p := ⟨w.heap.size, 0, none⟩) (by show w.heap.size < _; omega)).trans c0, (hB.cell (p := ⟨w.heap.size, 1, none⟩) (by show w.heap.size < _; omega)).trans c1⟩)
  have KZ := Lib.hid (show ∀ W : World, Below w0.heap.size w0 W → w.heap.size + 2 ≤ W.heap.size from fun W hB => by have := hB.size; omega)
  have KB := Lib.hid (show ∀ W : World, Below w0.heap.size w0 W → Below w.heap.size w W from fun W hB => hB0.trans (hB.mono (by omega)))
  have hR0 : w0.cell? ⟨w.heap.size + 1, 0, none⟩ = some (.string ⟨#[]⟩) ∧ w0.cell? ⟨w.heap.size + 1, 1, none⟩ = some (.string ⟨#[]⟩) ∧ w0.frozen? ⟨w.heap.size + 1, 0, none⟩ = false ∧ w0.frozen? ⟨w.heap.size + 1, 1, none⟩ = false := by rw [hw0]; exact ⟨((q_new (by first | omega | (simp; done) | (simp; omega))).trans rfl), ((q_new (by first | omega | (simp; done) | (simp; omega))).trans rfl), (fq_new (by first | omega | (simp; done) | (simp; omega))), (fq_new (by first | omega | (simp; done) | (simp; omega)))⟩
  have KR := Lib.hid (show ∀ W : World, Below w0.heap.size w0 W → (W.cell? ⟨w.heap.size + 1, 0, none⟩ = some (.string ⟨#[]⟩) ∧ W.cell? ⟨w.heap.size + 1, 1, none⟩ = some (.string ⟨#[]⟩) ∧ W.frozen? ⟨w.heap.size + 1, 0, none⟩ = false ∧ W.frozen? ⟨w.heap.size + 1, 1, none⟩ = false) from fun W hB => by
    obtain ⟨c0, c1, f0, f1⟩ := hR0
    exact ⟨(hB.cell (p := ⟨w.heap.size + 1, 0, none⟩) (by show w.heap.size + 1 < _; omega)).trans c0, (hB.cell (p := ⟨w.heap.size + 1, 1, none⟩) (by show w.heap.size + 1 < _; omega)).trans c1, (hB.frozen (p := ⟨w.heap.size + 1, 0, none⟩) (by show w.heap.size + 1 < _; omega)).trans f0, (hB.frozen (p := ⟨w.heap.size + 1, 1, none⟩) (by show w.heap.size + 1 < _; omega)).trans f1⟩)
  clear hR0
  have KT0 := Lib.hid (show ∀ (W : World) (v u : Value), Below w0.heap.size w0 W → (((W.setCell ⟨w.heap.size + 1, 0, none⟩ v).setCell ⟨w.heap.size + 1, 1, none⟩ u).cell? ⟨w.heap.size, 0, none⟩ = some (.string l) ∧ ((W.setCell ⟨w.heap.size + 1, 0, none⟩ v).setCell ⟨w.heap.size + 1, 1, none⟩ u).cell? ⟨w.heap.size, 1, none⟩ = some (.string h)) from fun W v u hB => by
    have hh := KS.out W hB
    obtain ⟨c0, c1⟩ := hh
    exact ⟨(q_set (by omega)).trans ((q_set (by omega)).trans c0), (q_set (by omega)).trans ((q_set (by omega)).trans c1)⟩)
  have F0 := Lib.hid (Below.refl w0.heap.size w0)
  have HW0 := Lib.hid hw0
  clear hz0 hB0 hS0 hw0
  have HL := Lib.hid (show ∀ W : World, Below w0.heap.size w0 W → La W from fun W hB => hl.on (KB.out W hB))
  clear hl
  clear g1 g2 g3 g4 g5 g6
  go_enter Tryz.func45, Tryz.ntmps45
  go_wp2_with fail
  rw [← HW0.out]
  obtain ⟨d0, d1⟩ := KS.out _ F0.out
  go_wp2_with fail
  refine (C1.out _ (HL.out _ F0.out)).mono ?_
  rintro e w1 ⟨rfl, hb⟩
  have F1 := Lib.hid (fr_chain F0.out hb)
  clear hb
  clear d0 d1
  obtain ⟨d0, d1⟩ := KS.out _ F1.out
  go_wp2_with fail
  refine (C2.out _ (HL.out _ F1.out)).mono ?_
  rintro e w2 ⟨rfl, hb⟩
  have F2 := Lib.hid (fr_chain F1.out hb)
  clear hb
  clear d0 d1
  obtain ⟨d0, d1⟩ := KS.out _ F2.out
  go_wp2_with fail
  go_region_held3 (fun w' => w'.cell? ⟨w.heap.size, 0, none⟩ = some (.string l) ∧ w'.cell? ⟨w.heap.size, 1, none⟩ = some (.string h)) (first | (with_reducible exact KS.out _ F6.out) | (with_reducible exact KS.out _ F6.out.drew) | (with_reducible exact KS.out _ F5.out) | (with_reducible exact KS.out _ F5.out.drew) | (with_reducible exact KS.out _ F4.out) | (with_reducible exact KS.out _ F4.out.drew) | (with_reducible exact KS.out _ F3.out) | (with_reducible exact KS.out _ F3.out.drew) | (with_reducible exact KS.out _ F2.out) | (with_reducible exact KS.out _ F2.out.drew) | (with_reducible exact KT0.out _ _ _ F6.out) | (with_reducible exact KT0.out _ _ _ F6.out.drew))
    (first
      | (go_at_call 84; (with_reducible refine (C3.out _ ?la2).mono ?_); (case la2 => first | exact HL.out _ F2.out | exact HL.out _ F2.out.drew); rintro e w3 ⟨rfl, hb⟩; have F3 := Lib.hid (show Below w0.heap.size w0 w3 by first | exact fr_chain F2.out hb | exact fr_chain F2.out.drew hb); clear hb)
      | (go_at_call 85; (with_reducible refine (C4.out _ ?la3).mono ?_); (case la3 => first | exact HL.out _ F3.out | exact HL.out _ F3.out.drew); rintro e w4 ⟨rfl, hb⟩; have F4 := Lib.hid (show Below w0.heap.size w0 w4 by first | exact fr_chain F3.out hb | exact fr_chain F3.out.drew hb); clear hb)
      | (go_at_call 84; (with_reducible refine (C5.out _ ?la4).mono ?_); (case la4 => first | exact HL.out _ F4.out | exact HL.out _ F4.out.drew); rintro e w5 ⟨rfl, hb⟩; have F5 := Lib.hid (show Below w0.heap.size w0 w5 by first | exact fr_chain F4.out hb | exact fr_chain F4.out.drew hb); clear hb)
      | (go_at_call 85; (with_reducible refine (C6.out _ ?la5).mono ?_); (case la5 => first | exact HL.out _ F5.out | exact HL.out _ F5.out.drew); rintro e w6 ⟨rfl, hb⟩; have F6 := Lib.hid (show Below w0.heap.size w0 w6 by first | exact fr_chain F5.out hb | exact fr_chain F5.out.drew hb); clear hb; have hz := KZ.out _ F6.out; obtain ⟨m0, m1, n0, n1⟩ := KR.out _ F6.out)
      | fail)
  all_goals
    have hz := KZ.out _ F6.out
    go_wp2
    refine bodyPost_ret (v := .tuple #[.agg #[.string p, .string s], .int .i64 0]) (by simp [results, Tryz.results45, go_sem, m0, m1]) rfl ⟨rfl, ?_⟩
    repeat (first | exact KB.out _ F6.out | refine Below.setCell ?_ (by first | omega | (simp; omega) | simp) _ | refine Below.alloc ?_ (by first | omega | (simp; omega) | simp) _ | refine Below.drew ?_)

set_option maxHeartbeats 2000000 in
set_option maxRecDepth 100000 in
theorem iRound_no_raw (l h : ByteArray) (n : Int) (w : World) (hl : La w)
    (g1 : ∀ W, La W → Calls Tryz.prog 34 #[.agg #[.string l, .string h]] W fun e w' => e = .returned (.bool false) ∧ Below W.heap.size W w') :
    Calls Tryz.prog 45 #[.agg #[.string l, .string h], .int .i64 n] w fun e w' => e = .returned (.tuple #[.agg #[.string ⟨#[]⟩, .string ⟨#[]⟩], .int .i64 1]) ∧ Below w.heap.size w w' := by
  have C1 := Lib.hid g1
  obtain ⟨w0, hw0⟩ : ∃ w0 : World, w0 = ((w.alloc (.cells #[.string l, .string h] 48)).alloc (.cells #[.string ⟨#[]⟩, .string ⟨#[]⟩] 48)) := ⟨_, rfl⟩
  have hz0 : w0.heap.size = w.heap.size + 2 := by rw [hw0]; simp
  have hB0 : Below w.heap.size w w0 := by
    rw [hw0]
    repeat (first | exact Below.refl _ _ | refine Below.setCell ?_ (by first | omega | (simp; omega) | simp) _ | refine Below.alloc ?_ (by first | omega | (simp; omega) | simp) _ | refine Below.drew ?_)
  have hS0 : w0.cell? ⟨w.heap.size, 0, none⟩ = some (.string l) ∧ w0.cell? ⟨w.heap.size, 1, none⟩ = some (.string h) := by rw [hw0]; exact ⟨((q_lt (by first | omega | (simp; done) | (simp; omega))).trans ((q_new (by first | omega | (simp; done) | (simp; omega))).trans rfl)), ((q_lt (by first | omega | (simp; done) | (simp; omega))).trans ((q_new (by first | omega | (simp; done) | (simp; omega))).trans rfl))⟩
  have KS := Lib.hid (show ∀ W : World, Below w0.heap.size w0 W → (W.cell? ⟨w.heap.size, 0, none⟩ = some (.string l) ∧ W.cell? ⟨w.heap.size, 1, none⟩ = some (.string h)) from fun W hB => by
    obtain ⟨c0, c1⟩ := hS0
    exact ⟨(hB.cell (p := ⟨w.heap.size, 0, none⟩) (by show w.heap.size < _; omega)).trans c0, (hB.cell (p := ⟨w.heap.size, 1, none⟩) (by show w.heap.size < _; omega)).trans c1⟩)
  have KZ := Lib.hid (show ∀ W : World, Below w0.heap.size w0 W → w.heap.size + 2 ≤ W.heap.size from fun W hB => by have := hB.size; omega)
  have KB := Lib.hid (show ∀ W : World, Below w0.heap.size w0 W → Below w.heap.size w W from fun W hB => hB0.trans (hB.mono (by omega)))
  have hR0 : w0.cell? ⟨w.heap.size + 1, 0, none⟩ = some (.string ⟨#[]⟩) ∧ w0.cell? ⟨w.heap.size + 1, 1, none⟩ = some (.string ⟨#[]⟩) ∧ w0.frozen? ⟨w.heap.size + 1, 0, none⟩ = false ∧ w0.frozen? ⟨w.heap.size + 1, 1, none⟩ = false := by rw [hw0]; exact ⟨((q_new (by first | omega | (simp; done) | (simp; omega))).trans rfl), ((q_new (by first | omega | (simp; done) | (simp; omega))).trans rfl), (fq_new (by first | omega | (simp; done) | (simp; omega))), (fq_new (by first | omega | (simp; done) | (simp; omega)))⟩
  have KR := Lib.hid (show ∀ W : World, Below w0.heap.size w0 W → (W.cell? ⟨w.heap.size + 1, 0, none⟩ = some (.string ⟨#[]⟩) ∧ W.cell? ⟨w.heap.size + 1, 1, none⟩ = some (.string ⟨#[]⟩) ∧ W.frozen? ⟨w.heap.size + 1, 0, none⟩ = false ∧ W.frozen? ⟨w.heap.size + 1, 1, none⟩ = false) from fun W hB => by
    obtain ⟨c0, c1, f0, f1⟩ := hR0
    exact ⟨(hB.cell (p := ⟨w.heap.size + 1, 0, none⟩) (by show w.heap.size + 1 < _; omega)).trans c0, (hB.cell (p := ⟨w.heap.size + 1, 1, none⟩) (by show w.heap.size + 1 < _; omega)).trans c1, (hB.frozen (p := ⟨w.heap.size + 1, 0, none⟩) (by show w.heap.size + 1 < _; omega)).trans f0, (hB.frozen (p := ⟨w.heap.size + 1, 1, none⟩) (by show w.heap.size + 1 < _; omega)).trans f1⟩)
  clear hR0
  have KT0 := Lib.hid (show ∀ (W : World) (v u : Value), Below w0.heap.size w0 W → (((W.setCell ⟨w.heap.size + 1, 0, none⟩ v).setCell ⟨w.heap.size + 1, 1, none⟩ u).cell? ⟨w.heap.size, 0, none⟩ = some (.string l) ∧ ((W.setCell ⟨w.heap.size + 1, 0, none⟩ v).setCell ⟨w.heap.size + 1, 1, none⟩ u).cell? ⟨w.heap.size, 1, none⟩ = some (.string h)) from fun W v u hB => by
    have hh := KS.out W hB
    obtain ⟨c0, c1⟩ := hh
    exact ⟨(q_set (by omega)).trans ((q_set (by omega)).trans c0), (q_set (by omega)).trans ((q_set (by omega)).trans c1)⟩)
  have F0 := Lib.hid (Below.refl w0.heap.size w0)
  have HW0 := Lib.hid hw0
  clear hz0 hB0 hS0 hw0
  have HL := Lib.hid (show ∀ W : World, Below w0.heap.size w0 W → La W from fun W hB => hl.on (KB.out W hB))
  clear hl
  clear g1
  go_enter Tryz.func45, Tryz.ntmps45
  go_wp2_with fail
  rw [← HW0.out]
  obtain ⟨d0, d1⟩ := KS.out _ F0.out
  go_wp2_with fail
  refine (C1.out _ (HL.out _ F0.out)).mono ?_
  rintro e w1 ⟨rfl, hb⟩
  have F1 := Lib.hid (fr_chain F0.out hb)
  clear hb
  clear d0 d1
  obtain ⟨d0, d1⟩ := KS.out _ F1.out
  all_goals
    obtain ⟨m0, m1, n0, n1⟩ := KR.out _ F1.out
    have hz := KZ.out _ F1.out
    go_wp2
    refine bodyPost_ret (v := .tuple #[.agg #[.string ⟨#[]⟩, .string ⟨#[]⟩], .int .i64 1]) (by simp [results, Tryz.results45, go_sem, m0, m1]) rfl ⟨rfl, ?_⟩
    repeat (first | exact KB.out _ F1.out | refine Below.setCell ?_ (by first | omega | (simp; omega) | simp) _ | refine Below.alloc ?_ (by first | omega | (simp; omega) | simp) _ | refine Below.drew ?_)

end Go.Proofs.YtlagimghlngdgaaGreatDoor
/- interval in numbers: Valid, has, Has, Sign, Add, Sub, Mul, Div, Square, Exact. -/
namespace Go.Proofs.YtlagimghlngdgaaGreatDoor
open Go.RowKit Go.Gb

def Vq (x y : Rat) : Value := .agg #[.string (Sq x), .string (Sq y)]
theorem cmp_le {x y : Rat} (h : x ≤ y) : cmpQ x y ≤ 0 := by
  rcases cmpQ_cases x y with ⟨h, e⟩ | ⟨h, e⟩ | ⟨h, e⟩ <;> rw [e] <;> grind
theorem iValid_yes (x y : Rat) (h : x ≤ y) (hx : FitQ x) (hy : FitQ y) (w : World) (hl : La w) :
    Calls Tryz.prog 34 #[Vq x y] w fun e w' => e = .returned (.bool true) ∧ Below w.heap.size w w' :=
  ivalid_yes_raw _ _ _ (cmp_le h) w hl (fun W hW => qCompare x y _ rfl hx hy W hW)
theorem iValid_gt (x y : Rat) (h : y < x) (hx : FitQ x) (hy : FitQ y) (w : World) (hl : La w) :
    Calls Tryz.prog 34 #[Vq x y] w fun e w' => e = .returned (.bool false) ∧ Below w.heap.size w w' :=
  ivalid_gt_raw _ _ w hl (fun W hW => qCompare x y 1 (cmpQ_gt h) hx hy W hW)
theorem read_some (a : ByteArray) (ha : a.size ≤ 900) (w : World) (hl : La w) :
    Calls Tryz.prog 48 #[.string a] w fun e w' => (∃ s b : ByteArray, e = .returned (.tuple #[.agg #[.string s, .string b], .bool (vldQ a.data.toList)])) ∧ Below w.heap.size w w' := by
  cases h : vldQ a.data.toList with
  | false => exact fread_no a h ha w hl
  | true =>
    have e := sq_of h
    rw [e]
    have hq : (Sq (qval a.data.toList)).size ≤ 900 := by rw [← e]; exact ha
    exact (fread_yes (qval a.data.toList) (smq_of hq (by decide)) w hl).mono (fun _ _ ⟨h1, h2⟩ => ⟨⟨_, _, h1⟩, h2⟩)
theorem iValid_bad (l h : ByteArray) (hv : (vldQ l.data.toList && vldQ h.data.toList) = false) (hl1 : l.size ≤ 900) (hh : h.size ≤ 900) (w : World) (hl : La w) :
    Calls Tryz.prog 34 #[.agg #[.string l, .string h]] w fun e w' => e = .returned (.bool false) ∧ Below w.heap.size w w' := by
  refine ivalid_no_raw l h w hl (fun W hW => compare_no l h W ?_)
  have h2 := fboth_no_walk l h _ _ W hW (fun V hV => read_some l hl1 V hV) (fun V hV => read_some h hh V hV)
  rwa [hv] at h2
theorem iHas_in (x y z : Rat) (r : Bool) (hr : decide (x ≤ z ∧ z ≤ y) = r) (hx : FitQ x) (hy : FitQ y) (hz : FitQ z) (w : World) (hl : La w) :
    Calls Tryz.prog 78 #[Vq x y, .string (Sq z)] w fun e w' => e = .returned (.bool r) ∧ Below w.heap.size w w' := by
  subst hr
  by_cases h1 : x ≤ z
  · by_cases h2 : z ≤ y
    · rw [show decide (x ≤ z ∧ z ≤ y) = true by rw [decide_eq_true_iff]; exact ⟨h1, h2⟩]
      exact ihas_yes_raw _ _ _ _ _ (cmp_le h1) (cmp_le h2) w hl (fun W hW => iOrder x z _ rfl hx hz W hW) (fun W hW => iOrder z y _ rfl hz hy W hW)
    · rw [show decide (x ≤ z ∧ z ≤ y) = false by rw [decide_eq_false_iff_not]; exact fun h => h2 h.2]
      exact ihas_no2_raw _ _ _ _ (cmp_le h1) w hl (fun W hW => iOrder x z _ rfl hx hz W hW) (fun W hW => iOrder z y 1 (cmpQ_gt (by grind)) hz hy W hW)
  · rw [show decide (x ≤ z ∧ z ≤ y) = false by rw [decide_eq_false_iff_not]; exact fun h => h1 h.1]
    exact ihas_no1_raw _ _ _ w hl (fun W hW => iOrder x z 1 (cmpQ_gt (by grind)) hx hz W hW)
theorem iHas (x y z : Rat) (r : Bool) (hr : decide (x ≤ z ∧ z ≤ y) = r) (h : x ≤ y) (hx : FitQ x) (hy : FitQ y) (hz : FitQ z) (w : World) (hl : La w) :
    Calls Tryz.prog 36 #[Vq x y, .string (Sq z)] w fun e w' => e = .returned (.bool r) ∧ Below w.heap.size w w' :=
  iHas_raw _ _ _ r w hl (fun W hW => iValid_yes x y h hx hy W hW) (fun W hW => qvalid_yes z hz W hW) (fun W hW => iHas_in x y z r hr hx hy hz W hW)
theorem iAdd (a b c d s t : Rat) (hs : a + c = s) (ht : b + d = t) (h1 : a ≤ b) (h2 : c ≤ d) (ha : FitQ a) (hb : FitQ b) (hc : FitQ c) (hd : FitQ d) (w : World) (hl : La w) :
    Calls Tryz.prog 37 #[Vq a b, Vq c d] w fun e w' => e = .returned (.tuple #[Vq s t, .int .i64 0]) ∧ Below w.heap.size w w' :=
  iAdd_raw _ _ _ _ _ _ w hl (fun W hW => iValid_yes a b h1 ha hb W hW) (fun W hW => iValid_yes c d h2 hc hd W hW) (fun W hW => qAdd a c s hs ha hc W hW) (fun W hW => qAdd b d t ht hb hd W hW)
theorem iSub (a b c d s t : Rat) (hs : a - d = s) (ht : b - c = t) (h1 : a ≤ b) (h2 : c ≤ d) (ha : FitQ a) (hb : FitQ b) (hc : FitQ c) (hd : FitQ d) (w : World) (hl : La w) :
    Calls Tryz.prog 38 #[Vq a b, Vq c d] w fun e w' => e = .returned (.tuple #[Vq s t, .int .i64 0]) ∧ Below w.heap.size w w' :=
  iSub_raw _ _ _ _ _ _ w hl (fun W hW => iValid_yes a b h1 ha hb W hW) (fun W hW => iValid_yes c d h2 hc hd W hW) (fun W hW => qSub a d s hs ha hd W hW) (fun W hW => qSub b c t ht hb hc W hW)
/-- Four numbers as a row. -/
def row4 (p0 p1 p2 p3 : Rat) : Nat → Rat
  | 0 => p0
  | 1 => p1
  | 2 => p2
  | _ => p3
theorem ext4 (p0 p1 p2 p3 : Rat) (f0 : FitQ p0) (f1 : FitQ p1) (f2 : FitQ p2) (f3 : FitQ p3) (W : World) (g : Nat) (hW : La W) (hg : g < W.heap.size)
    (c0 : W.cell? ⟨g, 0, none⟩ = some (.string (Sq p0))) (c1 : W.cell? ⟨g, 1, none⟩ = some (.string (Sq p1))) (c2 : W.cell? ⟨g, 2, none⟩ = some (.string (Sq p2))) (c3 : W.cell? ⟨g, 3, none⟩ = some (.string (Sq p3))) :
    Calls Tryz.prog 80 #[.slice (some ⟨g, 0, none⟩) 4 4] W fun e w' => e = .returned (.agg #[.string (Sq (exOf (row4 p0 p1 p2 p3) 3).1), .string (Sq (exOf (row4 p0 p1 p2 p3) 3).2)]) ∧ Below W.heap.size W w' :=
  extremes_any g 4 4 (row4 p0 p1 p2 p3) (by decide) (by decide) (by decide) W hW hg
    (fun i hi => match i, hi with
      | 0, _ => f0
      | 1, _ => f1
      | 2, _ => f2
      | 3, _ => f3)
    (fun i hi => match i, hi with
      | 0, _ => c0
      | 1, _ => c1
      | 2, _ => c2
      | 3, _ => c3)
theorem iMul (a b c d p0 p1 p2 p3 : Rat) (e0 : a * c = p0) (e1 : a * d = p1) (e2 : b * c = p2) (e3 : b * d = p3) (h1 : a ≤ b) (h2 : c ≤ d) (ha : FitQ a) (hb : FitQ b) (hc : FitQ c) (hd : FitQ d) (f0 : FitQ p0) (f1 : FitQ p1) (f2 : FitQ p2) (f3 : FitQ p3) (w : World) (hl : La w) :
    Calls Tryz.prog 39 #[Vq a b, Vq c d] w fun e w' => e = .returned (.tuple #[Vq (exOf (row4 p0 p1 p2 p3) 3).1 (exOf (row4 p0 p1 p2 p3) 3).2, .int .i64 0]) ∧ Below w.heap.size w w' :=
  iMul_raw _ _ _ _ _ _ w hl (fun W hW => iValid_yes a b h1 ha hb W hW) (fun W hW => iValid_yes c d h2 hc hd W hW)
    (fun W hW => combineMul_raw _ _ _ _ _ _ _ _ _ _ W hW (fun V hV => qMul a c p0 e0 ha hc V hV) (fun V hV => qMul a d p1 e1 ha hd V hV) (fun V hV => qMul b c p2 e2 hb hc V hV) (fun V hV => qMul b d p3 e3 hb hd V hV) (fun V g hV => ext4 p0 p1 p2 p3 f0 f1 f2 f3 V g hV))
theorem iDiv (a b c d p0 p1 p2 p3 : Rat) (e0 : a / c = p0) (e1 : a / d = p1) (e2 : b / c = p2) (e3 : b / d = p3) (h1 : a ≤ b) (h2 : c ≤ d) (hz : decide (c ≤ 0 ∧ 0 ≤ d) = false) (ha : FitQ a) (hb : FitQ b) (hc : FitQ c) (hd : FitQ d) (f0 : FitQ p0) (f1 : FitQ p1) (f2 : FitQ p2) (f3 : FitQ p3) (w : World) (hl : La w) :
    Calls Tryz.prog 41 #[Vq a b, Vq c d] w fun e w' => e = .returned (.tuple #[Vq (exOf (row4 p0 p1 p2 p3) 3).1 (exOf (row4 p0 p1 p2 p3) 3).2, .int .i64 0]) ∧ Below w.heap.size w w' := by
  have hz2 := of_decide_eq_false hz
  have hc0 : c ≠ 0 := by rintro rfl; exact hz2 ⟨by grind, h2⟩
  have hd0 : d ≠ 0 := by rintro rfl; exact hz2 ⟨h2, by grind⟩
  have h3 := fun W hW => iHas_in c d 0 false hz hc hd (fitq_small (by decide +kernel) (by decide +kernel)) W hW
  rw [q_0] at h3
  exact iDiv_raw _ _ _ _ _ _ w hl (fun W hW => iValid_yes a b h1 ha hb W hW) (fun W hW => iValid_yes c d h2 hc hd W hW) h3
    (fun W hW => combineDiv_raw _ _ _ _ _ _ _ _ _ _ W hW (fun V hV => qDiv a c p0 e0 ha hc hc0 V hV) (fun V hV => qDiv a d p1 e1 ha hd hd0 V hV) (fun V hV => qDiv b c p2 e2 hb hc hc0 V hV) (fun V hV => qDiv b d p3 e3 hb hd hd0 V hV) (fun V g hV => ext4 p0 p1 p2 p3 f0 f1 f2 f3 V g hV))
theorem iExact (x : Rat) (hx : FitQ x) (w : World) (hl : La w) :
    Calls Tryz.prog 74 #[.string (Sq x)] w fun e w' => e = .returned (.tuple #[Vq x x, .int .i64 0]) ∧ Below w.heap.size w w' :=
  iExact_raw _ w hl (fun W hW => qvalid_yes x hx W hW)

end Go.Proofs.YtlagimghlngdgaaGreatDoor
/- interval in numbers: Square, Round. -/
namespace Go.Proofs.YtlagimghlngdgaaGreatDoor
open Go.RowKit Go.Gb

def row2 (p0 p1 : Rat) : Nat → Rat
  | 0 => p0
  | _ => p1
def row3 (p0 p1 p2 : Rat) : Nat → Rat
  | 0 => p0
  | 1 => p1
  | _ => p2
theorem ext2 (p0 p1 : Rat) (f0 : FitQ p0) (f1 : FitQ p1) (W : World) (g : Nat) (hW : La W) (hg : g < W.heap.size)
    (c0 : W.cell? ⟨g, 0, none⟩ = some (.string (Sq p0))) (c1 : W.cell? ⟨g, 1, none⟩ = some (.string (Sq p1))) :
    Calls Tryz.prog 80 #[.slice (some ⟨g, 0, none⟩) 2 2] W fun e w' => e = .returned (.agg #[.string (Sq (exOf (row2 p0 p1) 1).1), .string (Sq (exOf (row2 p0 p1) 1).2)]) ∧ Below W.heap.size W w' :=
  extremes_any g 2 2 (row2 p0 p1) (by decide) (by decide) (by decide) W hW hg
    (fun i hi => match i, hi with
      | 0, _ => f0
      | 1, _ => f1)
    (fun i hi => match i, hi with
      | 0, _ => c0
      | 1, _ => c1)
theorem ext3 (p0 p1 p2 : Rat) (f0 : FitQ p0) (f1 : FitQ p1) (f2 : FitQ p2) (W : World) (g : Nat) (hW : La W) (hg : g < W.heap.size)
    (c0 : W.cell? ⟨g, 0, none⟩ = some (.string (Sq p0))) (c1 : W.cell? ⟨g, 1, none⟩ = some (.string (Sq p1))) (c2 : W.cell? ⟨g, 2, none⟩ = some (.string (Sq p2))) :
    Calls Tryz.prog 80 #[.slice (some ⟨g, 0, none⟩) 3 3] W fun e w' => e = .returned (.agg #[.string (Sq (exOf (row3 p0 p1 p2) 2).1), .string (Sq (exOf (row3 p0 p1 p2) 2).2)]) ∧ Below W.heap.size W w' :=
  extremes_any g 3 3 (row3 p0 p1 p2) (by decide) (by decide) (by decide) W hW hg
    (fun i hi => match i, hi with
      | 0, _ => f0
      | 1, _ => f1
      | 2, _ => f2)
    (fun i hi => match i, hi with
      | 0, _ => c0
      | 1, _ => c1
      | 2, _ => c2)
theorem fq00 : FitQ 0 := fitq_small (by decide +kernel) (by decide +kernel)
/-- The square of an interval. -/
def sqI (a b : Rat) : Rat × Rat := if a ≤ 0 ∧ 0 ≤ b then exOf (row3 0 (a * a) (b * b)) 2 else exOf (row2 (a * a) (b * b)) 1
theorem iSquare (a b p q : Rat) (e0 : a * a = p) (e1 : b * b = q) (h : a ≤ b) (ha : FitQ a) (hb : FitQ b) (f0 : FitQ p) (f1 : FitQ q) (w : World) (hl : La w) :
    Calls Tryz.prog 40 #[Vq a b] w fun e w' => e = .returned (.tuple #[Vq (sqI a b).1 (sqI a b).2, .int .i64 0]) ∧ Below w.heap.size w w' := by
  unfold sqI
  by_cases hz : a ≤ 0 ∧ 0 ≤ b
  · rw [if_pos hz, e0, e1]
    have h3 := fun W hW => iHas_in a b 0 true (by rw [decide_eq_true_iff]; exact hz) ha hb fq00 W hW
    rw [q_0] at h3
    refine iSquare_zero_raw _ _ _ _ _ _ w hl (fun W hW => iValid_yes a b h ha hb W hW) (fun W hW => qMul a a p e0 ha ha W hW) (fun W hW => qMul b b q e1 hb hb W hW) h3 (fun W g hW hg c0 c1 c2 => ?_)
    rw [← q_0] at c0
    exact ext3 0 p q fq00 f0 f1 W g hW hg c0 c1 c2
  · rw [if_neg hz, e0, e1]
    have h3 := fun W hW => iHas_in a b 0 false (by rw [decide_eq_false_iff_not]; exact hz) ha hb fq00 W hW
    rw [q_0] at h3
    exact iSquare_raw _ _ _ _ _ _ w hl (fun W hW => iValid_yes a b h ha hb W hW) (fun W hW => qMul a a p e0 ha ha W hW) (fun W hW => qMul b b q e1 hb hb W hW) h3 (fun W g hW => ext2 p q f0 f1 W g hW)
/-- A number rounded down to a denominator. -/
def rdQ (x : Rat) (n : Int) : Rat := Rat.divInt ((x * Rat.ofInt n).num / ((x * Rat.ofInt n).den : Int)) n
theorem sm_int {k : Nat} {z : Int} (h : Sm k z.natAbs) (hk : 1 ≤ k) : SmQ k (Rat.ofInt z) := ⟨h, (show Sm 1 1 by simp [Sm]).mono hk⟩
theorem sm_floor {k : Nat} {x : Rat} (h : SmQ k x) (hk : 1 ≤ k) : Sm (k + 1) (x.num / (x.den : Int)).natAbs := by
  refine Sm.le (n := x.num.natAbs + 1) (Sm.add h.1 ((show Sm 1 1 by simp [Sm]).mono hk)) ?_
  have := Int.natAbs_ediv_le_natAbs x.num (x.den : Int)
  omega
theorem sm_rd {k : Nat} {x : Rat} {n : Int} (hx : SmQ k x) (hn : Sm 10 n.natAbs) (hn0 : n ≠ 0) : SmQ (k + 10 + 1) (rdQ x n) := by
  unfold rdQ
  exact smq_divInt hn0 (sm_floor (hx.mul (sm_int hn (by decide))) (by omega)) (hn.mono (by omega))
theorem iRoundDown {k : Nat} (x : Rat) (n : Int) (hk : k ≤ 800) (hx : SmQ k x) (hn : Sm 10 n.natAbs) (hn0 : n ≠ 0) (w : World) (hl : La w) :
    Calls Tryz.prog 84 #[.string (Sq x), .string (Sz n)] w fun e w' => e = .returned (.string (Sq (rdQ x n))) ∧ Below w.heap.size w w' := by
  have hm : SmQ (k + 10) (x * Rat.ofInt n) := hx.mul (sm_int hn (by decide))
  have h1 := fun W hW => qMul x (Rat.ofInt n) _ rfl (hx.fit (by omega)) ((sm_int hn (by decide)).fit (by decide)) W hW
  rw [sq_ofInt] at h1
  exact iround_down_raw _ _ _ _ _ w hl h1 (fun W hW => qfloor _ (hm.fit (by omega)) W hW)
    (fun W hW => qMake _ n hn0 (FitL.of (sm_floor hm (by omega)) (by omega)) (FitL.of hn (by decide)) W hW)
theorem iNeg (x y : Rat) (h : 0 - x = y) (hx : FitQ x) (w : World) (hl : La w) :
    Calls Tryz.prog 85 #[.string (Sq x)] w fun e w' => e = .returned (.string (Sq y)) ∧ Below w.heap.size w w' := by
  have h1 := fun W hW => qSub 0 x y h fq00 hx W hW
  rw [q_0] at h1
  exact ineg_raw _ _ w hl h1
theorem itoaB (n : Int) (h0 : -9223372036854775808 ≤ n) (h1 : n ≤ 9223372036854775807) (w : World) (hl : La w) :
    Calls Tryz.prog 83 #[.int .i64 n] w fun e w' => e = .returned (.string (Sz n)) ∧ Below w.heap.size w w' := by
  have h := Tryz.strconv_Itoa n h0 h1 w hl.tb
  rw [itoa_sz] at h
  exact h.mono (fun e w' ⟨e1, k, os, e2⟩ => ⟨e1, e2 ▸ Lib.below_grow w.heap.size w (Nat.le_refl _) k os⟩)
theorem iRound {k : Nat} (a b : Rat) (n : Int) (hk : k ≤ 400) (h : a ≤ b) (ha : SmQ k a) (hb : SmQ k b) (hn1 : 1 ≤ n) (hn2 : n ≤ 1000000000) (w : World) (hl : La w) :
    Calls Tryz.prog 45 #[Vq a b, .int .i64 n] w fun e w' => e = .returned (.tuple #[Vq (rdQ a n) (0 - rdQ (0 - b) n), .int .i64 0]) ∧ Below w.heap.size w w' := by
  have hn : Sm 10 n.natAbs := by
    have : n.natAbs < 10 ^ 10 := by omega
    exact this
  have hq : SmQ (k + 2) (0 - b) := ((show SmQ 1 0 from ⟨by unfold Sm; decide +kernel, by unfold Sm; decide +kernel⟩).sub hb).mono (by omega)
  have hr := sm_rd (n := n) hq hn (by omega)
  exact iRound_raw _ _ _ _ _ _ _ n (by rw [decide_eq_false_iff_not]; omega) (by rw [decide_eq_false_iff_not]; omega) w hl (fun W hW => iValid_yes a b h (ha.fit (by omega)) (hb.fit (by omega)) W hW)
    (fun W hW => itoaB n (by omega) (by omega) W hW) (fun W hW => iRoundDown a n (by omega) ha hn (by omega) W hW) (fun W hW => iNeg b _ rfl (hb.fit (by omega)) W hW)
    (fun W hW => iRoundDown _ n (by omega) hq hn (by omega) W hW) (fun W hW => iNeg _ _ rfl (hr.fit (by omega)) W hW)

end Go.Proofs.YtlagimghlngdgaaGreatDoor
/- interval's mathematics: extremes of rows, products, quotients, squares, rounding. -/
namespace Go.Proofs.YtlagimghlngdgaaGreatDoor
open Go.RowKit Go.Gb

theorem exStep_le (p : Rat × Rat) (x : Rat) : (exStep p x).1 ≤ p.1 ∧ p.2 ≤ (exStep p x).2 := by
  unfold exStep
  split
  · constructor <;> grind
  · split
    · constructor <;> grind
    · constructor <;> grind
theorem exStep_in (p : Rat × Rat) (x : Rat) (h : p.1 ≤ p.2) : (exStep p x).1 ≤ x ∧ x ≤ (exStep p x).2 := by
  unfold exStep
  split
  · constructor <;> grind
  · split
    · constructor <;> grind
    · constructor <;> grind
theorem exOf_order (q : Nat → Rat) : ∀ n, (exOf q n).1 ≤ (exOf q n).2
  | 0 => Rat.le_refl
  | n + 1 => by
    have h := exOf_order q n
    have h2 := exStep_in (exOf q n) (q (n + 1)) h
    show (exStep (exOf q n) (q (n + 1))).1 ≤ (exStep (exOf q n) (q (n + 1))).2
    grind
theorem exOf_in (q : Nat → Rat) : ∀ n i, i ≤ n → (exOf q n).1 ≤ q i ∧ q i ≤ (exOf q n).2
  | 0, i, h => by
    obtain rfl : i = 0 := by omega
    exact ⟨Rat.le_refl, Rat.le_refl⟩
  | n + 1, i, h => by
    have h1 := exStep_le (exOf q n) (q (n + 1))
    have h2 := exStep_in (exOf q n) (q (n + 1)) (exOf_order q n)
    by_cases hi : i = n + 1
    · subst hi; exact h2
    · have h3 := exOf_in q n i (by omega)
      exact ⟨Rat.le_trans h1.1 h3.1, Rat.le_trans h3.2 h1.2⟩
theorem exOf_one (q : Nat → Rat) : ∀ n, (∃ i, i ≤ n ∧ (exOf q n).1 = q i) ∧ (∃ i, i ≤ n ∧ (exOf q n).2 = q i)
  | 0 => ⟨⟨0, Nat.le_refl _, rfl⟩, ⟨0, Nat.le_refl _, rfl⟩⟩
  | n + 1 => by
    obtain ⟨⟨i, hi, h1⟩, ⟨j, hj, h2⟩⟩ := exOf_one q n
    show (∃ i, i ≤ n + 1 ∧ (exStep (exOf q n) (q (n + 1))).1 = q i) ∧ (∃ i, i ≤ n + 1 ∧ (exStep (exOf q n) (q (n + 1))).2 = q i)
    unfold exStep
    split
    · exact ⟨⟨n + 1, Nat.le_refl _, rfl⟩, ⟨j, by omega, h2⟩⟩
    · split
      · exact ⟨⟨i, by omega, h1⟩, ⟨n + 1, Nat.le_refl _, rfl⟩⟩
      · exact ⟨⟨i, by omega, h1⟩, ⟨j, by omega, h2⟩⟩
theorem row4_in (p0 p1 p2 p3 : Rat) : ((exOf (row4 p0 p1 p2 p3) 3).1 ≤ p0 ∧ (exOf (row4 p0 p1 p2 p3) 3).1 ≤ p1 ∧ (exOf (row4 p0 p1 p2 p3) 3).1 ≤ p2 ∧ (exOf (row4 p0 p1 p2 p3) 3).1 ≤ p3) ∧ (p0 ≤ (exOf (row4 p0 p1 p2 p3) 3).2 ∧ p1 ≤ (exOf (row4 p0 p1 p2 p3) 3).2 ∧ p2 ≤ (exOf (row4 p0 p1 p2 p3) 3).2 ∧ p3 ≤ (exOf (row4 p0 p1 p2 p3) 3).2) := by
  have h := exOf_in (row4 p0 p1 p2 p3) 3
  exact ⟨⟨(h 0 (by decide)).1, (h 1 (by decide)).1, (h 2 (by decide)).1, (h 3 (by decide)).1⟩, ⟨(h 0 (by decide)).2, (h 1 (by decide)).2, (h 2 (by decide)).2, (h 3 (by decide)).2⟩⟩
theorem row4_one (p0 p1 p2 p3 : Rat) : ((exOf (row4 p0 p1 p2 p3) 3).1 = p0 ∨ (exOf (row4 p0 p1 p2 p3) 3).1 = p1 ∨ (exOf (row4 p0 p1 p2 p3) 3).1 = p2 ∨ (exOf (row4 p0 p1 p2 p3) 3).1 = p3) ∧ ((exOf (row4 p0 p1 p2 p3) 3).2 = p0 ∨ (exOf (row4 p0 p1 p2 p3) 3).2 = p1 ∨ (exOf (row4 p0 p1 p2 p3) 3).2 = p2 ∨ (exOf (row4 p0 p1 p2 p3) 3).2 = p3) := by
  obtain ⟨⟨i, hi, e⟩, ⟨j, hj, f⟩⟩ := exOf_one (row4 p0 p1 p2 p3) 3
  rw [e, f]
  constructor
  · match i, hi with
    | 0, _ => exact Or.inl rfl
    | 1, _ => exact Or.inr (Or.inl rfl)
    | 2, _ => exact Or.inr (Or.inr (Or.inl rfl))
    | 3, _ => exact Or.inr (Or.inr (Or.inr rfl))
  · match j, hj with
    | 0, _ => exact Or.inl rfl
    | 1, _ => exact Or.inr (Or.inl rfl)
    | 2, _ => exact Or.inr (Or.inr (Or.inl rfl))
    | 3, _ => exact Or.inr (Or.inr (Or.inr rfl))
/-- What is linear lies between its values at the ends. -/
theorem lin_le {a b x t l : Rat} (h1 : a ≤ x) (h2 : x ≤ b) (ha : l ≤ a * t) (hb : l ≤ b * t) : l ≤ x * t := by
  by_cases ht : 0 ≤ t
  · have := Rat.mul_nonneg (show 0 ≤ x - a by grind) ht
    grind
  · have := Rat.mul_nonneg (show 0 ≤ b - x by grind) (show 0 ≤ -t by grind)
    grind
theorem lin_ge {a b x t l : Rat} (h1 : a ≤ x) (h2 : x ≤ b) (ha : a * t ≤ l) (hb : b * t ≤ l) : x * t ≤ l := by
  by_cases ht : 0 ≤ t
  · have := Rat.mul_nonneg (show 0 ≤ b - x by grind) ht
    grind
  · have := Rat.mul_nonneg (show 0 ≤ x - a by grind) (show 0 ≤ -t by grind)
    grind
theorem bil_le {a b c d x y l : Rat} (h1 : a ≤ x) (h2 : x ≤ b) (h3 : c ≤ y) (h4 : y ≤ d) (k0 : l ≤ a * c) (k1 : l ≤ a * d) (k2 : l ≤ b * c) (k3 : l ≤ b * d) : l ≤ x * y := by
  have m0 : l ≤ x * c := lin_le h1 h2 k0 k2
  have m1 : l ≤ x * d := lin_le h1 h2 k1 k3
  rw [Rat.mul_comm] at m0 m1
  have := lin_le (t := x) h3 h4 m0 m1
  rwa [Rat.mul_comm] at this
theorem bil_ge {a b c d x y l : Rat} (h1 : a ≤ x) (h2 : x ≤ b) (h3 : c ≤ y) (h4 : y ≤ d) (k0 : a * c ≤ l) (k1 : a * d ≤ l) (k2 : b * c ≤ l) (k3 : b * d ≤ l) : x * y ≤ l := by
  have m0 : x * c ≤ l := lin_ge h1 h2 k0 k2
  have m1 : x * d ≤ l := lin_ge h1 h2 k1 k3
  rw [Rat.mul_comm] at m0 m1
  have := lin_ge (t := x) h3 h4 m0 m1
  rwa [Rat.mul_comm] at this
theorem mul_in {a b c d x y : Rat} (h1 : a ≤ x) (h2 : x ≤ b) (h3 : c ≤ y) (h4 : y ≤ d) : (exOf (row4 (a * c) (a * d) (b * c) (b * d)) 3).1 ≤ x * y ∧ x * y ≤ (exOf (row4 (a * c) (a * d) (b * c) (b * d)) 3).2 := by
  obtain ⟨⟨k0, k1, k2, k3⟩, ⟨l0, l1, l2, l3⟩⟩ := row4_in (a * c) (a * d) (b * c) (b * d)
  exact ⟨bil_le h1 h2 h3 h4 k0 k1 k2 k3, bil_ge h1 h2 h3 h4 l0 l1 l2 l3⟩
/-- The product of a narrower interval is narrower. -/
theorem mul_narrow {a b a' b' c d : Rat} (h : a' ≤ b') (h1 : a ≤ a') (h2 : b' ≤ b) (hc : c ≤ d) :
    (exOf (row4 (a * c) (a * d) (b * c) (b * d)) 3).1 ≤ (exOf (row4 (a' * c) (a' * d) (b' * c) (b' * d)) 3).1 ∧ (exOf (row4 (a' * c) (a' * d) (b' * c) (b' * d)) 3).2 ≤ (exOf (row4 (a * c) (a * d) (b * c) (b * d)) 3).2 := by
  have m0 := mul_in (a := a) (b := b) (c := c) (d := d) (x := a') (y := c) h1 (Rat.le_trans h h2) Rat.le_refl hc
  have m1 := mul_in (a := a) (b := b) (c := c) (d := d) (x := a') (y := d) h1 (Rat.le_trans h h2) hc Rat.le_refl
  have m2 := mul_in (a := a) (b := b) (c := c) (d := d) (x := b') (y := c) (Rat.le_trans h1 h) h2 Rat.le_refl hc
  have m3 := mul_in (a := a) (b := b) (c := c) (d := d) (x := b') (y := d) (Rat.le_trans h1 h) h2 hc Rat.le_refl
  obtain ⟨e, f⟩ := row4_one (a' * c) (a' * d) (b' * c) (b' * d)
  constructor
  · rcases e with e | e | e | e <;> rw [e]
    · exact m0.1
    · exact m1.1
    · exact m2.1
    · exact m3.1
  · rcases f with f | f | f | f <;> rw [f]
    · exact m0.2
    · exact m1.2
    · exact m2.2
    · exact m3.2
theorem inv_le {c d : Rat} (h : c ≤ d) (h0 : 0 < c ∨ d < 0) : d⁻¹ ≤ c⁻¹ := by
  have hc : c ≠ 0 := by rintro rfl; grind
  have hd : d ≠ 0 := by rintro rfl; grind
  have e1 : c * c⁻¹ = 1 := Rat.mul_inv_cancel c hc
  have e2 : d * d⁻¹ = 1 := Rat.mul_inv_cancel d hd
  have hp : 0 ≤ c⁻¹ * d⁻¹ := by
    rcases h0 with h0 | h0
    · exact Rat.mul_nonneg (Rat.le_of_lt (Rat.inv_pos.2 h0)) (Rat.le_of_lt (Rat.inv_pos.2 (by grind)))
    · have k1 : 0 ≤ -c⁻¹ := by
        by_cases hk : 0 ≤ c⁻¹
        · have := Rat.mul_nonneg (show 0 ≤ -c by grind) hk
          grind
        · grind
      have k2 : 0 ≤ -d⁻¹ := by
        by_cases hk : 0 ≤ d⁻¹
        · have := Rat.mul_nonneg (show 0 ≤ -d by grind) hk
          grind
        · grind
      have := Rat.mul_nonneg k1 k2
      grind
  have := Rat.mul_nonneg (show 0 ≤ d - c by grind) hp
  have e3 : (d - c) * (c⁻¹ * d⁻¹) = c⁻¹ - d⁻¹ := by
    have : (d - c) * (c⁻¹ * d⁻¹) = (d * d⁻¹) * c⁻¹ - (c * c⁻¹) * d⁻¹ := by grind
    rw [this, e1, e2]; grind
  grind
theorem div_in {a b c d x y : Rat} (h1 : a ≤ x) (h2 : x ≤ b) (h3 : c ≤ y) (h4 : y ≤ d) (h0 : ¬ (c ≤ 0 ∧ 0 ≤ d)) : (exOf (row4 (a / c) (a / d) (b / c) (b / d)) 3).1 ≤ x / y ∧ x / y ≤ (exOf (row4 (a / c) (a / d) (b / c) (b / d)) 3).2 := by
  obtain ⟨⟨k0, k1, k2, k3⟩, ⟨l0, l1, l2, l3⟩⟩ := row4_in (a / c) (a / d) (b / c) (b / d)
  have i1 : d⁻¹ ≤ y⁻¹ := inv_le h4 (by grind)
  have i2 : y⁻¹ ≤ c⁻¹ := inv_le h3 (by grind)
  simp only [Rat.div_def] at *
  exact ⟨bil_le h1 h2 i1 i2 k1 k0 k3 k2, bil_ge h1 h2 i1 i2 l1 l0 l3 l2⟩
theorem row3_in (p0 p1 p2 : Rat) : ((exOf (row3 p0 p1 p2) 2).1 ≤ p0 ∧ (exOf (row3 p0 p1 p2) 2).1 ≤ p1 ∧ (exOf (row3 p0 p1 p2) 2).1 ≤ p2) ∧ (p0 ≤ (exOf (row3 p0 p1 p2) 2).2 ∧ p1 ≤ (exOf (row3 p0 p1 p2) 2).2 ∧ p2 ≤ (exOf (row3 p0 p1 p2) 2).2) := by
  have h := exOf_in (row3 p0 p1 p2) 2
  exact ⟨⟨(h 0 (by decide)).1, (h 1 (by decide)).1, (h 2 (by decide)).1⟩, ⟨(h 0 (by decide)).2, (h 1 (by decide)).2, (h 2 (by decide)).2⟩⟩
theorem row3_one (p0 p1 p2 : Rat) : ((exOf (row3 p0 p1 p2) 2).1 = p0 ∨ (exOf (row3 p0 p1 p2) 2).1 = p1 ∨ (exOf (row3 p0 p1 p2) 2).1 = p2) ∧ ((exOf (row3 p0 p1 p2) 2).2 = p0 ∨ (exOf (row3 p0 p1 p2) 2).2 = p1 ∨ (exOf (row3 p0 p1 p2) 2).2 = p2) := by
  obtain ⟨⟨i, hi, e⟩, ⟨j, hj, f⟩⟩ := exOf_one (row3 p0 p1 p2) 2
  rw [e, f]
  constructor
  · match i, hi with
    | 0, _ => exact Or.inl rfl
    | 1, _ => exact Or.inr (Or.inl rfl)
    | 2, _ => exact Or.inr (Or.inr rfl)
  · match j, hj with
    | 0, _ => exact Or.inl rfl
    | 1, _ => exact Or.inr (Or.inl rfl)
    | 2, _ => exact Or.inr (Or.inr rfl)
theorem row2_in (p0 p1 : Rat) : ((exOf (row2 p0 p1) 1).1 ≤ p0 ∧ (exOf (row2 p0 p1) 1).1 ≤ p1) ∧ (p0 ≤ (exOf (row2 p0 p1) 1).2 ∧ p1 ≤ (exOf (row2 p0 p1) 1).2) := by
  have h := exOf_in (row2 p0 p1) 1
  exact ⟨⟨(h 0 (by decide)).1, (h 1 (by decide)).1⟩, ⟨(h 0 (by decide)).2, (h 1 (by decide)).2⟩⟩
theorem row2_one (p0 p1 : Rat) : ((exOf (row2 p0 p1) 1).1 = p0 ∨ (exOf (row2 p0 p1) 1).1 = p1) ∧ ((exOf (row2 p0 p1) 1).2 = p0 ∨ (exOf (row2 p0 p1) 1).2 = p1) := by
  obtain ⟨⟨i, hi, e⟩, ⟨j, hj, f⟩⟩ := exOf_one (row2 p0 p1) 1
  rw [e, f]
  constructor
  · match i, hi with
    | 0, _ => exact Or.inl rfl
    | 1, _ => exact Or.inr rfl
  · match j, hj with
    | 0, _ => exact Or.inl rfl
    | 1, _ => exact Or.inr rfl
theorem sq_nonneg (x : Rat) : 0 ≤ x * x := by
  by_cases h : 0 ≤ x
  · exact Rat.mul_nonneg h h
  · have := Rat.mul_nonneg (show 0 ≤ -x by grind) (show 0 ≤ -x by grind)
    grind
theorem sq_in {a b x : Rat} (h1 : a ≤ x) (h2 : x ≤ b) : (sqI a b).1 ≤ x * x ∧ x * x ≤ (sqI a b).2 := by
  have n0 := sq_nonneg x
  have c1 := Rat.mul_nonneg (show 0 ≤ x - a by grind) (show 0 ≤ b - x by grind)
  have c2 := Rat.mul_nonneg (show 0 ≤ x - a by grind) (show 0 ≤ x - a by grind)
  have c3 := Rat.mul_nonneg (show 0 ≤ b - x by grind) (show 0 ≤ b - x by grind)
  unfold sqI
  split
  · rename_i h0
    have hr := row3_in 0 (a * a) (b * b)
    refine ⟨Rat.le_trans hr.1.1 n0, ?_⟩
    by_cases hx : 0 ≤ x
    · have := Rat.mul_nonneg (show 0 ≤ b - x by grind) (show 0 ≤ b + x by grind)
      grind
    · have := Rat.mul_nonneg (show 0 ≤ x - a by grind) (show 0 ≤ -a - x by grind)
      grind
  · rename_i h0
    have hr := row2_in (a * a) (b * b)
    by_cases ha : 0 < a
    · have k1 := Rat.mul_nonneg (show 0 ≤ b - x by grind) (show 0 ≤ b + x by grind)
      have k2 := Rat.mul_nonneg (show 0 ≤ x - a by grind) (show 0 ≤ a + x by grind)
      constructor <;> grind
    · have hb : b < 0 := by grind
      have k1 := Rat.mul_nonneg (show 0 ≤ b - x by grind) (show 0 ≤ -b - x by grind)
      have k2 := Rat.mul_nonneg (show 0 ≤ x - a by grind) (show 0 ≤ -a - x by grind)
      constructor <;> grind
theorem sq_order (a b : Rat) : (sqI a b).1 ≤ (sqI a b).2 := by
  unfold sqI
  split <;> exact exOf_order _ _
/-- The square lies in the product with itself, and ends where it ends. -/
theorem sq_mul {a b : Rat} (h : a ≤ b) : (exOf (row4 (a * a) (a * b) (b * a) (b * b)) 3).1 ≤ (sqI a b).1 ∧ (sqI a b).2 = (exOf (row4 (a * a) (a * b) (b * a) (b * b)) 3).2 := by
  have hr := row4_in (a * a) (a * b) (b * a) (b * b)
  have ho := row4_one (a * a) (a * b) (b * a) (b * b)
  have n0 := sq_nonneg a
  have n1 := sq_nonneg b
  have n2 := sq_nonneg (b - a)
  unfold sqI
  split
  · rename_i h0
    have h3 := row3_in 0 (a * a) (b * b)
    have h4 := row3_one 0 (a * a) (b * b)
    have k := Rat.mul_nonneg (show 0 ≤ -a by grind) h0.2
    constructor
    · grind
    · grind
  · rename_i h0
    have h3 := row2_in (a * a) (b * b)
    have h4 := row2_one (a * a) (b * b)
    by_cases ha : 0 < a
    · have k1 := Rat.mul_nonneg (show 0 ≤ b - a by grind) (show 0 ≤ a by grind)
      have k2 := Rat.mul_nonneg (show 0 ≤ b - a by grind) (show 0 ≤ b by grind)
      constructor <;> grind
    · have hb : b < 0 := by grind
      have k1 := Rat.mul_nonneg (show 0 ≤ b - a by grind) (show 0 ≤ -a by grind)
      have k2 := Rat.mul_nonneg (show 0 ≤ b - a by grind) (show 0 ≤ -b by grind)
      constructor <;> grind
theorem rdQ_eq (x : Rat) (n : Int) : rdQ x n = (((x * (n : Rat)).floor : Int) : Rat) / (n : Rat) := by
  unfold rdQ
  rw [Rat.divInt_eq_div, Rat.floor_def]
  rfl
theorem rdQ_mul (x : Rat) {n : Int} (hn : 1 ≤ n) : rdQ x n * (n : Rat) = (((x * (n : Rat)).floor : Int) : Rat) := by
  have h0 : ((n : Int) : Rat) ≠ 0 := by
    intro h
    have : n = 0 := by exact_mod_cast h
    omega
  rw [rdQ_eq, Rat.div_mul_cancel h0]
theorem rdQ_again (x : Rat) {n : Int} (hn : 1 ≤ n) : rdQ (rdQ x n) n = rdQ x n := by
  rw [rdQ_eq (rdQ x n), rdQ_mul x hn, Rat.floor_intCast, rdQ_eq]
theorem rdQ_near (x : Rat) {n : Int} (hn : 1 ≤ n) : 0 ≤ (x - rdQ x n) * (n : Rat) ∧ (x - rdQ x n) * (n : Rat) < 1 := by
  have h1 := Rat.floor_le (x * (n : Rat))
  have h2 := Rat.lt_floor_add_one (x * (n : Rat))
  have h3 := rdQ_mul x hn
  have e : (x - rdQ x n) * (n : Rat) = x * (n : Rat) - rdQ x n * (n : Rat) := by grind
  rw [e, h3]
  have e2 : (((x * (n : Rat)).floor + 1 : Int) : Rat) = (((x * (n : Rat)).floor : Int) : Rat) + 1 := by
    rw [Rat.intCast_add]; rfl
  rw [e2] at h2
  constructor <;> grind
theorem rdQ_le (x : Rat) {n : Int} (hn : 1 ≤ n) : rdQ x n ≤ x := by
  have h := (rdQ_near x hn).1
  have hp : (0 : Rat) < (n : Rat) := by
    have : (0 : Int) < n := by omega
    exact_mod_cast this
  by_cases hl : rdQ x n ≤ x
  · exact hl
  · exfalso
    have := Rat.mul_pos (show 0 < rdQ x n - x by grind) hp
    grind
end Go.Proofs.YtlagimghlngdgaaGreatDoor
