/- integer: sums, differences and products of numbers as structs: walks. -/
import Derived.Test.YtpdchplppkfdhaaGreatDoorIc
import Derived.Deep.RegionWith
namespace Go.Proofs.YtpdchplppkfdhaaGreatDoor
open Go.RowKit Go.Gb

/-- A number as a struct, by its sign and its size. -/
def Zr (s : Int) (n : Nat) : Value := .agg #[.int .i64 s, .string (Sn n)]

set_option maxHeartbeats 1000000 in
theorem addAlike_raw (s t : Int) (m n k : Nat) (hk : m + n = k) (hm : Fit m) (hn : Fit n) (w : World) (htab : Tb w) :
    Calls Tryz.prog 138 #[Zr s m, Zr t n] w fun e w' => e = .returned (Zr s k) ∧ Below w.heap.size w w' := by
  subst hk
  have hb0 := ((((Below.refl w.heap.size w).alloc (Nat.le_refl _) (.cells #[.int .i64 s, .string (Sn m)] 68)).alloc (by simp) (.cells #[.int .i64 t, .string (Sn n)] 68)).alloc (by simp; omega) (.cells #[.int .i64 0, .string ⟨#[]⟩] 68))
  have HC := Lib.hid (nAdd m n hm hn _ (htab.on hb0))
  have HB0 := Lib.hid hb0
  unfold Zr
  generalize m + n = k at *
  clear hm hn htab hb0
  go_enter Tryz.func138, Tryz.ntmps138
  go_wp2_with fail
  refine HC.out.mono ?_
  rintro e w1 ⟨rfl, hb1⟩
  have HB := Lib.hid (HB0.out.trans (hb1.mono HB0.out.size))
  obtain ⟨hc, hf⟩ := bcell hb1
  have hz : w.heap.size + 2 < w1.heap.size := by have := hb1.size; simp at this; omega
  clear hb1
  go_wp2
  refine bodyPost_ret (v := .agg #[.int .i64 s, .string (Sn k)]) (by simp [results, Tryz.results138, go_sem, hc]) rfl ⟨rfl, ?_⟩
  repeat (first | exact HB.out | refine Below.setCell ?_ (by simp <;> omega) _ | refine Below.alloc ?_ (by simp <;> omega) _ | refine Below.drew ?_)

set_option maxHeartbeats 1000000 in
theorem multiply_raw (s t r : Int) (m n k : Nat) (hr : s * t = r) (hk : m * n = k) (hs : -1 ≤ r ∧ r ≤ 1) (hm : Fit m) (hn : Fit n) (w : World) (htab : Tb w) :
    Calls Tryz.prog 99 #[Zr s m, Zr t n] w fun e w' => e = .returned (Zr r k) ∧ Below w.heap.size w w' := by
  subst hk
  have hb0 := ((((Below.refl w.heap.size w).alloc (Nat.le_refl _) (.cells #[.int .i64 s, .string (Sn m)] 68)).alloc (by simp) (.cells #[.int .i64 t, .string (Sn n)] 68)).alloc (by simp; omega) (.cells #[.int .i64 0, .string ⟨#[]⟩] 68))
  have HC := Lib.hid (nMul m n hm hn _ (htab.on hb0))
  have HB0 := Lib.hid hb0
  unfold Zr
  generalize m * n = k at *
  have h1 := hs.1
  have h2 := hs.2
  clear hm hn htab hb0 hs
  go_enter Tryz.func99, Tryz.ntmps99
  go_wp2_with fail
  refine HC.out.mono ?_
  rintro e w1 ⟨rfl, hb1⟩
  have HB := Lib.hid (HB0.out.trans (hb1.mono HB0.out.size))
  obtain ⟨hc, hf⟩ := bcell hb1
  have hz : w.heap.size + 2 < w1.heap.size := by have := hb1.size; simp at this; omega
  clear hb1
  go_wp2
  refine bodyPost_ret (v := .agg #[.int .i64 r, .string (Sn k)]) (by simp [results, Tryz.results99, go_sem, hc]) rfl ⟨rfl, ?_⟩
  repeat (first | exact HB.out | refine Below.setCell ?_ (by simp <;> omega) _ | refine Below.alloc ?_ (by simp <;> omega) _ | refine Below.drew ?_)

/-! ### addZero -/
set_option maxHeartbeats 1000000 in
theorem addZero_first (t : Int) (b : ByteArray) (w : World) (hl : Zz w) :
    Calls Tryz.prog 137 #[.agg #[.int .i64 0, .string ⟨#[48]⟩], .agg #[.int .i64 t, .string b]] w fun e w' => e = .returned (.agg #[.int .i64 t, .string b]) ∧ Below w.heap.size w w' := by
  obtain ⟨h0, h1, h2⟩ := hl
  go_enter Tryz.func137, Tryz.ntmps137
  go_wp2
  refine bodyPost_ret (v := .agg #[.int .i64 t, .string b]) (by simp [results, Tryz.results137, go_sem]) rfl ⟨rfl, ?_⟩
  repeat (first | exact Below.refl _ _ | refine Below.setCell ?_ (by simp <;> omega) _ | refine Below.alloc ?_ (by simp <;> omega) _ | refine Below.drew ?_)
set_option maxHeartbeats 1000000 in
theorem addZero_second (s : Int) (hs : s ≠ 0) (b : ByteArray) (v : ByteArray) (t : Int) (w : World) (hl : Zz w) :
    Calls Tryz.prog 137 #[.agg #[.int .i64 s, .string b], .agg #[.int .i64 t, .string v]] w fun e w' => e = .returned (.agg #[.int .i64 s, .string b]) ∧ Below w.heap.size w w' := by
  obtain ⟨h0, h1, h2⟩ := hl
  have hs1 : (s == 0) = false := by simpa using hs
  have hs2 : ¬ s = 0 := hs
  go_enter Tryz.func137, Tryz.ntmps137
  go_wp2
  refine bodyPost_ret (v := .agg #[.int .i64 s, .string b]) (by simp [results, Tryz.results137, go_sem]) rfl ⟨rfl, ?_⟩
  repeat (first | exact Below.refl _ _ | refine Below.setCell ?_ (by simp <;> omega) _ | refine Below.alloc ?_ (by simp <;> omega) _ | refine Below.drew ?_)

/-! ### addOpposite -/
set_option maxHeartbeats 2000000 in
set_option maxRecDepth 100000 in
theorem addOpp_same (s t : Int) (n : Nat) (h1 : -1 ≤ t) (h2 : t ≤ 1) (hst : s = -t) (w : World) (hl : Zz w) :
    Calls Tryz.prog 136 #[Zr s n, Zr t n] w fun e w' => e = .returned (.agg #[.int .i64 0, .string ⟨#[48]⟩]) ∧ Below w.heap.size w w' := by
  have HN := Lib.hid (fun W => negative_raw t (Sn n) h1 h2 W)
  rw [← hst] at HN
  unfold Zr
  have hb0 := ((((Below.refl w.heap.size w).alloc (Nat.le_refl _) (.cells #[.int .i64 s, .string (Sn n)] 68)).alloc (by simp) (.cells #[.int .i64 t, .string (Sn n)] 68)).alloc (by simp; omega) (.cells #[.int .i64 0, .string ⟨#[]⟩] 68))
  have HB0 := Lib.hid hb0
  obtain ⟨z0, z1, z2⟩ := hl.on hb0
  clear hst h1 h2 hb0
  go_enter Tryz.func136, Tryz.ntmps136
  go_wp2
  go_region_with (go_at_call 86; go_must (refine (HN.out _).mono ?_; rintro e w1 ⟨rfl, hb1⟩; obtain ⟨hc1, hf1⟩ := bcell hb1; have hz1 : w.heap.size + 2 < w1.heap.size := by have := hb1.size; simp at this; omega))
  all_goals
    go_wp2
    refine bodyPost_ret (v := .agg #[.int .i64 0, .string ⟨#[48]⟩]) (by simp [results, Tryz.results136, go_sem, hc1]) rfl ⟨rfl, ?_⟩
    repeat (first | exact HB0.out.trans (hb1.mono HB0.out.size) | exact HB0.out.drew.trans (hb1.mono HB0.out.drew.size) | refine Below.setCell ?_ (by simp <;> omega) _ | refine Below.alloc ?_ (by simp <;> omega) _ | refine Below.drew ?_)

end Go.Proofs.YtpdchplppkfdhaaGreatDoor
