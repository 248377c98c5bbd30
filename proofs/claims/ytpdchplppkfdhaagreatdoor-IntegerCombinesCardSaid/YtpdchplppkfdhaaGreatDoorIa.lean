/- integer: numbers as structs and as texts; negative, String, signed, read, readBoth: walks. -/
import Derived.Test.YtpdchplppkfdhaaGreatDoorNz
import Derived.Deep.RegionHeld3
import Derived.Laws.Concat
namespace Go.Proofs.YtpdchplppkfdhaaGreatDoor
open Go.RowKit Go.Gb

theorem bcell {W w1 : World} (hb : Below W.heap.size W w1) : (∀ b o, b < W.heap.size → w1.cell? ⟨b, o, none⟩ = W.cell? ⟨b, o, none⟩) ∧ (∀ b o, b < W.heap.size → w1.frozen? ⟨b, o, none⟩ = W.frozen? ⟨b, o, none⟩) :=
  ⟨fun b o h => hb.cell (p := ⟨b, o, none⟩) h, fun b o h => hb.frozen (p := ⟨b, o, none⟩) h⟩

/-- The variable zero reads as its initialiser lays it. -/
def Zz (w : World) : Prop := 0 < w.heap.size ∧ w.cell? ⟨0, 0, none⟩ = some (.int .i64 0) ∧ w.cell? ⟨0, 1, none⟩ = some (.string ⟨#[48]⟩)
theorem Zz.on {w w' : World} (h : Zz w) (hb : Below w.heap.size w w') : Zz w' :=
  ⟨Nat.lt_of_lt_of_le h.1 hb.size, (hb.cell (p := ⟨0, 0, none⟩) h.1).trans h.2.1, (hb.cell (p := ⟨0, 1, none⟩) h.1).trans h.2.2⟩
/-- What the integers' functions take as laid. -/
structure La (w : World) : Prop where
  tb : Tb w
  zz : Zz w
theorem La.on {w w' : World} (h : La w) (hb : Below w.heap.size w w') : La w' := ⟨h.tb.on hb, h.zz.on hb⟩

theorem sn_zero : Sn 0 = ⟨#[48]⟩ := by decide +kernel
theorem sn_one : Sn 1 = ⟨#[49]⟩ := by decide +kernel
theorem sn_list2 (n : Nat) : (Sn n).toList = Lib.decDigits n := by rw [toList_data, sn_list]
theorem sn_neq {x y : Nat} (h : x ≠ y) : ((Sn x).toList == (Sn y).toList) = false := by
  rw [beq_eq_false_iff_ne, sn_list2, sn_list2]
  exact fun h2 => h (dec_inj h2)
theorem sn_neq0 {x : Nat} (h : x ≠ 0) : ((Sn x).toList == [48]) = false := by
  rw [beq_eq_false_iff_ne, sn_list2]
  intro h2
  apply h
  rw [← dval_dec x, h2]; rfl

/-- An integer as a struct, as a text. -/
def Zv (z : Int) : Value := .agg #[.int .i64 z.sign, .string (Sn z.natAbs)]
def Sz (z : Int) : ByteArray := if z < 0 then ⟨(45 :: Lib.decDigits z.natAbs).toArray⟩ else Sn z.natAbs
theorem sz_neg {n : Nat} (h : n ≠ 0) : Sz (-(n : Int)) = ⟨(45 :: Lib.decDigits n).toArray⟩ := by
  unfold Sz; rw [if_pos (by omega), Int.natAbs_neg, Int.natAbs_natCast]
theorem sz_nat (n : Nat) : Sz (n : Int) = Sn n := by
  unfold Sz; rw [if_neg (by omega), Int.natAbs_natCast]
theorem zv_neg {n : Nat} (h : n ≠ 0) : Zv (-(n : Int)) = .agg #[.int .i64 (-1), .string (Sn n)] := by
  unfold Zv; rw [Int.natAbs_neg, Int.natAbs_natCast, Int.sign_neg, Int.sign_natCast_of_ne_zero h]
theorem zv_pos {n : Nat} (h : n ≠ 0) : Zv (n : Int) = .agg #[.int .i64 1, .string (Sn n)] := by
  unfold Zv; rw [Int.natAbs_natCast, Int.sign_natCast_of_ne_zero h]
theorem zv_zero : Zv 0 = .agg #[.int .i64 0, .string ⟨#[48]⟩] := by
  unfold Zv; rw [← sn_zero]; rfl
/-- Every integer is the opposite of a number, 0, or a number. -/
theorem int_cases (z : Int) : (∃ n : Nat, n ≠ 0 ∧ z = -(n : Int)) ∨ z = 0 ∨ ∃ n : Nat, n ≠ 0 ∧ z = (n : Int) := by
  rcases Int.lt_trichotomy z 0 with h | h | h
  · left; exact ⟨z.natAbs, by omega, by omega⟩
  · right; left; exact h
  · right; right; exact ⟨z.natAbs, by omega, by omega⟩
/-- What all integers of the statements keep. -/
def FitZ (z : Int) : Prop := Fit z.natAbs
theorem FitZ.neg {n : Nat} (h : FitZ (-(n : Int))) : Fit n := by unfold FitZ at h; rwa [Int.natAbs_neg, Int.natAbs_natCast] at h
theorem FitZ.nat {n : Nat} (h : FitZ (n : Int)) : Fit n := by unfold FitZ at h; rwa [Int.natAbs_natCast] at h
theorem Fit.neg {n : Nat} (h : Fit n) : FitZ (-(n : Int)) := by unfold FitZ; rwa [Int.natAbs_neg, Int.natAbs_natCast]
theorem Fit.nat {n : Nat} (h : Fit n) : FitZ (n : Int) := by unfold FitZ; rwa [Int.natAbs_natCast]
theorem fit0 : Fit 0 := (show Sm 1 0 by simp [Sm]).mono (by decide)
theorem fit1 : Fit 1 := (show Sm 1 1 by simp [Sm]).mono (by decide)

set_option maxHeartbeats 1000000 in
theorem negative_raw (s : Int) (b : ByteArray) (h1 : -1 ≤ s) (h2 : s ≤ 1) (w : World) :
    Calls Tryz.prog 86 #[.agg #[.int .i64 s, .string b]] w fun e w' => e = .returned (.agg #[.int .i64 (-s), .string b]) ∧ Below w.heap.size w w' := by
  go_enter Tryz.func86, Tryz.ntmps86
  go_wp2
  refine bodyPost_ret (v := .agg #[.int .i64 (-s), .string b]) (by simp [results, Tryz.results86, go_sem]) rfl ⟨rfl, ?_⟩
  repeat (first | exact Below.refl _ _ | refine Below.setCell ?_ (by simp) _ | refine Below.alloc ?_ (by simp) _ | refine Below.drew ?_)
theorem negative_any (z : Int) (w : World) :
    Calls Tryz.prog 86 #[Zv z] w fun e w' => e = .returned (Zv (-z)) ∧ Below w.heap.size w w' := by
  have h := negative_raw z.sign (Sn z.natAbs) (by rcases Int.sign_trichotomy z with h | h | h <;> omega) (by rcases Int.sign_trichotomy z with h | h | h <;> omega) w
  unfold Zv
  rw [Int.sign_neg, Int.natAbs_neg]
  exact h

set_option maxHeartbeats 1000000 in
theorem string_any (z : Int) (hf : FitZ z) (w : World) :
    Calls Tryz.prog 87 #[Zv z] w fun e w' => e = .returned (.string (Sz z)) ∧ Below w.heap.size w w' := by
  rcases int_cases z with ⟨n, hn, rfl⟩ | rfl | ⟨n, hn, rfl⟩
  · rw [zv_neg hn, sz_neg hn]
    have hadd := run_string_add_sum (P := Tryz.prog) (w.alloc (.cells #[.int .i64 (-1), .string (Sn n)] 68)) ⟨#[45]⟩ (Sn n) (by have := hf.neg.size; have e : (⟨#[45]⟩ : ByteArray).size = 1 := rfl; omega)
    clear hn hf
    go_enter Tryz.func87, Tryz.ntmps87
    go_wp2
    go_ret
    refine ⟨?_, (Below.refl _ _).alloc (Nat.le_refl _) _⟩
    have e : (⟨#[45]⟩ : ByteArray) ++ Sn n = ⟨(45 :: Lib.decDigits n).toArray⟩ := by
      apply ByteArray.ext
      apply Array.ext'
      simp [Sn]
    rw [e]
    rfl
  · rw [zv_zero, show Sz 0 = ⟨#[48]⟩ from (sz_nat 0).trans sn_zero]
    go_enter Tryz.func87, Tryz.ntmps87
    go_wp2
    go_ret
    exact ⟨rfl, (Below.refl _ _).alloc (Nat.le_refl _) _⟩
  · rw [zv_pos hn, sz_nat]
    go_enter Tryz.func87, Tryz.ntmps87
    go_wp2
    go_ret
    exact ⟨rfl, (Below.refl _ _).alloc (Nat.le_refl _) _⟩

set_option maxHeartbeats 1000000 in
theorem signed_zero (s : Int) (w : World) (hz : Zz w) :
    Calls Tryz.prog 133 #[.int .i64 s, .string ⟨#[48]⟩] w fun e w' => e = .returned (Zv 0) ∧ Below w.heap.size w w' := by
  rw [zv_zero]
  obtain ⟨h0, h1, h2⟩ := hz
  go_enter Tryz.func133, Tryz.ntmps133
  go_wp2
  refine bodyPost_ret (v := .agg #[.int .i64 0, .string ⟨#[48]⟩]) (by simp [results, Tryz.results133, go_sem]) rfl ⟨rfl, ?_⟩
  repeat (first | exact Below.refl _ _ | refine Below.setCell ?_ (by simp) _ | refine Below.alloc ?_ (by simp) _ | refine Below.drew ?_)
set_option maxHeartbeats 1000000 in
theorem signed_some (s : Int) (n : Nat) (hn : n ≠ 0) (w : World) :
    Calls Tryz.prog 133 #[.int .i64 s, .string (Sn n)] w fun e w' => e = .returned (.agg #[.int .i64 s, .string (Sn n)]) ∧ Below w.heap.size w w' := by
  have h0 := sn_neq0 hn
  clear hn
  go_enter Tryz.func133, Tryz.ntmps133
  go_wp2
  refine bodyPost_ret (v := .agg #[.int .i64 s, .string (Sn n)]) (by simp [results, Tryz.results133, go_sem]) rfl ⟨rfl, ?_⟩
  repeat (first | exact Below.refl _ _ | refine Below.setCell ?_ (by simp) _ | refine Below.alloc ?_ (by simp) _ | refine Below.drew ?_)
/-- signed, of a sign and a size. -/
theorem signed_any (s : Int) (n : Nat) (z : Int) (hz : z = s * (n : Int)) (hs : s = 1 ∨ s = -1) (w : World) (hl : Zz w) :
    Calls Tryz.prog 133 #[.int .i64 s, .string (Sn n)] w fun e w' => e = .returned (Zv z) ∧ Below w.heap.size w w' := by
  by_cases hn : n = 0
  · subst hn
    obtain rfl : z = 0 := by rw [hz]; simp
    rw [sn_zero]
    exact signed_zero s w hl
  · have h := signed_some s n hn w
    rcases hs with rfl | rfl
    · rw [show z = (n : Int) by omega, zv_pos hn]; exact h
    · rw [show z = -(n : Int) by omega, zv_neg hn]; exact h

end Go.Proofs.YtpdchplppkfdhaaGreatDoor
