/- words.Divide, of any two numbers: a walk. -/
import Derived.Test.YtpdchplppkfdhaaDoorKe
namespace Go.Proofs.YtpdchplppkfdhaaDoor
open Go.RowKit Go.Gb

set_option maxHeartbeats 2000000 in
theorem Divide_long (v1 v2 : Value) (a b : Nat) (hab : ¬ a < b) (hlb : 2 ≤ (digs b).length) (hl : (digs a).length ≤ 90000) (w : World) (h1 : Rd .u64 w v1 (digs a)) (h2 : Rd .u64 w v2 (digs b)) :
    Calls Tryd.prog 33 #[v1, v2] w fun e w' => ∃ q r, e = .returned (.tuple #[q, r]) ∧ Own .u64 46 w.heap.size w' q (digs (a / b)) ∧ Own .u64 46 w.heap.size w' r (digs (a % b)) ∧ Below w.heap.size w w' := by
  have hless := Less_any v1 v2 a b (by omega) w h1 h2
  rw [show decide (a < b) = false by simpa using hab] at hless
  have hlong := fun (w' : World) (hb : Below w.heap.size w w') => divLong_any v1 v2 a b hlb (by omega) hl w' (h1.below hb) (h2.below hb)
  obtain ⟨b2, o2, c2, rfl, _, _, k2, r2⟩ := rd_pos h2 (by omega)
  generalize hn : (digs b).length = n at *
  have HL := Lib.hid hless
  have HD := Lib.hid hlong
  have Hn := Lib.hid hn
  have hne : ((n : Int) == 1) = false := beq_eq_false_iff_ne.2 (by omega)
  clear hless h1 h2 hab hl hlong r2 hn
  go_enter Tryd.func33, Tryd.ntmps33
  go_wp2_with fail
  refine HL.out.mono ?_
  rintro e w1 ⟨rfl, hb1⟩
  have HDw := Lib.hid (HD.out w1 hb1)
  have HB1 := Lib.hid hb1
  clear hb1
  go_wp2_with fail
  refine HDw.out.mono ?_
  rintro e w2 ⟨q, r, rfl, hq, hr, hb2⟩
  have HQ := Lib.hid (hq.mono HB1.out.size)
  have HR := Lib.hid (hr.mono HB1.out.size)
  have HB2 := Lib.hid (HB1.out.trans (hb2.mono HB1.out.size))
  clear hq hr hb2
  go_wp2
  go_ret2
  exact ⟨q, r, rfl, HQ.out, HR.out, HB2.out⟩

/-- Divide, of any two numbers. -/
theorem Divide_any (v1 v2 : Value) (a b : Nat) (hb : b ≠ 0) (hl : (digs a).length ≤ 90000) (w : World) (h1 : Rd .u64 w v1 (digs a)) (h2 : Rd .u64 w v2 (digs b)) :
    Calls Tryd.prog 33 #[v1, v2] w fun e w' => ∃ q r, e = .returned (.tuple #[q, r]) ∧ Own .u64 46 w.heap.size w' q (digs (a / b)) ∧ Own .u64 46 w.heap.size w' r (digs (a % b)) ∧ Below w.heap.size w w' := by
  by_cases hab : a < b
  · exact (Divide_less v1 v2 a b hab (by omega) w h1 h2).mono fun e w' ⟨r, he, hr, hb⟩ => ⟨_, r, he, by rw [Nat.div_eq_of_lt hab, digs_zero]; exact Own.nil _ _ _ _, by rw [Nat.mod_eq_of_lt hab]; exact hr, hb⟩
  · rcases Nat.lt_or_ge (digs b).length 2 with h | h
    · exact Divide_word v1 v2 a b hab (by have : 0 < (digs b).length := by { rw [digs_pos hb]; simp }; omega) (by omega) w h1 h2
    · exact Divide_long v1 v2 a b hab h hl w h1 h2

end Go.Proofs.YtpdchplppkfdhaaDoor
