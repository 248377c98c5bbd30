/- integer: quotients of numbers as structs: walks. -/
import Derived.Test.YtgbcjlknlagoeaaGreatDoorIg
namespace Go.Proofs.YtgbcjlknlagoeaaGreatDoor
open Go.RowKit Go.Gb

set_option maxHeartbeats 2000000 in
set_option maxRecDepth 100000 in
theorem divPos_raw (s t : Int) (m n : Nat) (q r : Int) (ht : t = 1 ∨ t = -1) (hn : n ≠ 0) (hq : q = t * ((m / n : Nat) : Int)) (hr : r = ((m % n : Nat) : Int)) (hfm : Fit m) (hfn : Fit n) (w : World) (hl : La w) :
    Calls Tryz.prog 135 #[Zr s m, Zr t n] w fun e w' => e = .returned (.tuple #[Zv q, Zv r]) ∧ Below w.heap.size w w' := by
  have HD := Lib.hid (fun (W : World) (T : Tb W) => nDivMod m n hfm hfn hn W T)
  have HQ := Lib.hid (fun (W : World) (Z : Zz W) => signed_any t (m / n) q hq ht W Z)
  have HR := Lib.hid (fun (W : World) (Z : Zz W) => signed_any 1 (m % n) r (by rw [hr]; omega) (Or.inl rfl) W Z)
  have HL := Lib.hid hl
  unfold Zr
  unfold Zv at *
  generalize q.sign = qs at *
  generalize Sn q.natAbs = qb at *
  generalize r.sign = rs at *
  generalize Sn r.natAbs = rb at *
  have HB0 := Lib.hid (((((Below.refl w.heap.size w).alloc (Nat.le_refl _) (.cells #[.int .i64 s, .string (Sn m)] 66)).alloc (by simp) (.cells #[.int .i64 t, .string (Sn n)] 66)).alloc (by simp; omega) (.cells #[.int .i64 0, .string ⟨#[]⟩] 66)).alloc (by simp; omega) (.cells #[.int .i64 0, .string ⟨#[]⟩] 66))
  generalize Sn (m / n) = sq at *
  generalize Sn (m % n) = sr at *
  clear ht hn hq hr hfm hfn hl
  go_enter Tryz.func135, Tryz.ntmps135
  go_wp2_with fail
  refine (HD.out _ (HL.out.on HB0.out).tb).mono ?_
  rintro e w1 ⟨rfl, hb1⟩
  have HB1 := Lib.hid (HB0.out.trans (hb1.mono HB0.out.size))
  obtain ⟨hc1, hf1⟩ := bcell hb1
  have hz1 := hb1.size
  simp at hz1
  clear hb1
  go_wp2_with fail
  refine (HQ.out _ (HL.out.on HB1.out).zz).mono ?_
  rintro e w2 ⟨rfl, hb2⟩
  have HB2 := Lib.hid (HB1.out.trans (hb2.mono HB1.out.size))
  have p1 : w.heap.size < w1.heap.size := by omega
  have p2 : w.heap.size + 1 < w1.heap.size := by omega
  have p3 : w.heap.size + 1 + 1 < w1.heap.size := by omega
  have p4 : w.heap.size + 1 + 1 + 1 < w1.heap.size := by omega
  obtain ⟨hc2, hf2⟩ := bcell hb2
  have hz2 := hb2.size
  clear hb2
  go_wp2_with fail
  refine (HR.out _ (HL.out.on HB2.out).zz).mono ?_
  rintro e w3 ⟨rfl, hb3⟩
  have HB3 := Lib.hid (HB2.out.trans (hb3.mono HB2.out.size))
  have q1 : w.heap.size < w2.heap.size := by omega
  have q2 : w.heap.size + 1 < w2.heap.size := by omega
  have q3 : w.heap.size + 1 + 1 < w2.heap.size := by omega
  have q4 : w.heap.size + 1 + 1 + 1 < w2.heap.size := by omega
  obtain ⟨hc3, hf3⟩ := bcell hb3
  have hz3 := hb3.size
  have r4 : w.heap.size + 1 + 1 + 1 < w3.heap.size := by omega
  clear hb3 hz1 hz2 hz3
  go_wp2
  refine bodyPost_ret (v := .tuple #[.agg #[.int .i64 qs, .string qb], .agg #[.int .i64 rs, .string rb]]) (by simp [results, Tryz.results135, go_sem, hc1, hc2, hc3, p3, p4, q3, q4]) rfl ⟨rfl, ?_⟩
  repeat (first | exact HB3.out | refine Below.setCell ?_ (by first | omega | (simp; omega) | simp) _ | refine Below.drew ?_)

set_option maxHeartbeats 1000000 in
theorem divZero_raw (b c : ByteArray) (s t : Int) (w : World) (hl : Zz w) :
    Calls Tryz.prog 134 #[.agg #[.int .i64 s, .string b], .agg #[.int .i64 t, .string c]] w fun e w' => e = .returned (.tuple #[Zv 0, Zv 0]) ∧ Below w.heap.size w w' := by
  rw [zv_zero]
  obtain ⟨h0, h1, h2⟩ := hl
  go_enter Tryz.func134, Tryz.ntmps134
  go_wp2
  have n1 : 0 ≠ w.heap.size + 1 + 1 := by omega
  have n2 : 0 ≠ w.heap.size + 1 + 1 + 1 := by omega
  have n3 : ¬ w.heap.size = 0 := by omega
  go_region
  all_goals
    go_wp2
    refine bodyPost_ret (v := .tuple #[.agg #[.int .i64 0, .string ⟨#[48]⟩], .agg #[.int .i64 0, .string ⟨#[48]⟩]]) (by simp [results, Tryz.results134, go_sem]) rfl ⟨rfl, ?_⟩
    repeat (first | exact Below.refl _ _ | refine Below.setCell ?_ (by simp <;> omega) _ | refine Below.alloc ?_ (by simp <;> omega) _ | refine Below.drew ?_)

end Go.Proofs.YtgbcjlknlagoeaaGreatDoor
