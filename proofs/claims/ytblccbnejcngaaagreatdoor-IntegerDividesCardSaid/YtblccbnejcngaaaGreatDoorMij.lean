/- Texts of this proof, one behind the other. -/
import Derived.Test.YtblccbnejcngaaaGreatDoorIi
/- integer: the quotient and the remainder of any numbers as structs: walks. -/
namespace Go.Proofs.YtblccbnejcngaaaGreatDoor
open Go.RowKit Go.Gb

theorem divNeg_any (m n : Nat) (t q r : Int) (ht : t = 1 ∨ t = -1) (hn : n ≠ 0) (hfm : Fit m) (hfn : Fit n)
    (hq : q = if m % n = 0 then -(t * ((m / n : Nat) : Int)) else -(t * ((m / n : Nat) : Int)) - t) (hr : r = if m % n = 0 then 0 else (n : Int) - ((m % n : Nat) : Int)) (fq : Fit (m / n + 1)) (w : World) (hl : La w) :
    Calls Tryz.prog 41 #[Zr (-1) m, Zr t n] w fun e w' => e = .returned (.tuple #[Zv q, Zv r]) ∧ Below w.heap.size w w' := by
  have hneg := fun W => negative_raw (-1) (Sn m) (by decide) (by decide) W
  have hdiv := fun W (hW : Below w.heap.size w W) => divPos_raw 1 t m n (t * ((m / n : Nat) : Int)) ((m % n : Nat) : Int) ht hn rfl rfl hfm hfn W (hl.on hW)
  have hn1 : 0 < n := by omega
  have hrl := Nat.mod_lt m hn1
  have fm : Fit (m / n) := Sm.le fq (Nat.le_succ _)
  have fr : Fit (m % n) := Sm.le hfn (Nat.le_of_lt hrl)
  by_cases h0 : m % n = 0
  · rw [if_pos h0] at hq hr
    subst hq hr
    rw [h0] at hdiv
    rw [show ((0 : Nat) : Int) = 0 from rfl, zv_zero] at hdiv
    rw [zv_zero]
    have hneg2 := fun W => negative_any (t * ((m / n : Nat) : Int)) W
    unfold Zv at *
    unfold Zr at *
    rw [Int.natAbs_neg] at hneg2 ⊢
    exact divNeg_zero _ _ _ _ _ _ _ _ w hl hneg hdiv hneg2
  · rw [if_neg h0] at hq hr
    have ha1 := fun W (hW : Below w.heap.size w W) => add_any' (t * ((m / n : Nat) : Int)) t (by
      unfold FitZ
      rw [Int.natAbs_mul]
      rw [Int.natAbs_natCast]
      rcases ht with rfl | rfl <;> simpa using fm) (by rcases ht with rfl | rfl <;> exact fit1) W (hl.on hW)
    have hn1 := fun W => negative_any (t * ((m / n : Nat) : Int) + t) W
    have hn2 := fun W => negative_any ((m % n : Nat) : Int) W
    have ha2 := fun W (hW : Below w.heap.size w W) => add_any' (n : Int) (-((m % n : Nat) : Int)) hfn.nat fr.neg W (hl.on hW)
    rw [show q = -(t * ((m / n : Nat) : Int) + t) by rw [hq, Int.neg_add, Int.sub_eq_add_neg], show r = (n : Int) + -((m % n : Nat) : Int) by rw [hr, Int.sub_eq_add_neg]]
    have et : Zv t = .agg #[.int .i64 t, .string ⟨#[49]⟩] := by
      rw [← sn_one]
      rcases ht with rfl | rfl
      · exact zv_pos (n := 1) (by decide)
      · exact zv_neg (n := 1) (by decide)
    rw [et] at ha1
    rw [zv_pos hn] at ha2
    have hr0 : (((m % n : Nat) : Int)).sign ≠ 0 := by
      intro h
      have := Int.sign_eq_zero_iff_zero.1 h
      omega
    unfold Zv at *
    unfold Zr at *
    rw [Int.natAbs_neg] at hn1 hn2 ⊢
    rw [Int.natAbs_neg] at ha2
    exact divNeg_some _ _ _ _ _ _ _ _ _ _ _ _ _ _ _ _ hr0 w hl hneg hdiv ha1 hn1 hn2 ha2

/-! ### divide, by the sign of the first number -/
set_option maxHeartbeats 2000000 in
set_option maxRecDepth 100000 in
theorem divide_way0 (t q1 q2 : Int) (b c d1 d2 : ByteArray) (w : World)
    (hcall : ∀ W, Below w.heap.size w W → Calls Tryz.prog 41 #[.agg #[.int .i64 (-1), .string b], .agg #[.int .i64 t, .string c]] W fun e w' => e = .returned (.tuple #[.agg #[.int .i64 q1, .string d1], .agg #[.int .i64 q2, .string d2]]) ∧ Below W.heap.size W w') :
    Calls Tryz.prog 20 #[.agg #[.int .i64 (-1), .string b], .agg #[.int .i64 t, .string c]] w fun e w' => e = .returned (.tuple #[.agg #[.int .i64 q1, .string d1], .agg #[.int .i64 q2, .string d2]]) ∧ Below w.heap.size w w' := by
  have HC := Lib.hid hcall
  clear hcall
  have e1 : IntKind.i64.wrap (-1) = -1 := by decide
  have e2 : IntKind.i64.wrap (-1 + 1) = 0 := by decide
  have e3 : IntKind.i64.wrap 0 = 0 := by decide
  have e4 : IntKind.i64.wrap 1 = 1 := by decide
  have e5 : IntKind.i64.wrap (0 + 1) = 1 := by decide
  have e6 : IntKind.i64.wrap (1 + 1) = 2 := by decide
  have e7 : IntKind.i64.wrap 2 = 2 := by decide
  go_enter Tryz.func20, Tryz.ntmps20
  go_wp2
  go_region_held3 (fun w' => w'.cell? ⟨w.heap.size, 0, none⟩ = some (.int .i64 (-1)) ∧ w'.cell? ⟨w.heap.size, 1, none⟩ = some (.string b) ∧ w'.cell? ⟨w.heap.size + 1, 0, none⟩ = some (.int .i64 t) ∧ w'.cell? ⟨w.heap.size + 1, 1, none⟩ = some (.string c) ∧ w'.cell? ⟨w.heap.size + 1 + 1 + 1 + 1, 0, none⟩ = some (.func (.func 41) #[] #[])) (first | ((try go_split_ands); refine ⟨?_, ?_, ?_, ?_, ?_⟩ <;> (first | (with_reducible assumption) | ((repeat (first | rw [cell_drew] | rw [cell_alloc_lt (by first | assumption | omega | (simp; done) | (simp; omega))] | rw [cell_set_ne (by omega)])); first | (with_reducible assumption) | (rw [cell_new (by first | rfl | simp)]; rfl) | (simp; done)))) | (go_keep; done))
    (first
      | (go_at_call 41; refine (HC.out _ ?bb).mono ?_; (case bb => repeat (first | exact Below.refl _ _ | refine Below.alloc ?_ (by first | omega | (simp; omega) | simp) _ | refine Below.drew ?_)); rintro e w1 ⟨rfl, hb1⟩; obtain ⟨hc1, hf1⟩ := bcell hb1; have hz1 : w.heap.size + 4 < w1.heap.size := (by have := hb1.size; (try simp at this); omega); have HB2 : Below w.heap.size w w1 := (by refine Below.trans ?_ (hb1.mono (by first | omega | (simp; omega) | simp)); repeat (first | exact Below.refl _ _ | refine Below.alloc ?_ (by first | omega | (simp; omega) | simp) _ | refine Below.drew ?_)); have m0 : w1.cell? ⟨w.heap.size, 0, none⟩ = some (.int .i64 (-1)) := (by rw [hc1 _ _ (by first | omega | (simp; omega) | simp)]; (repeat (first | rw [cell_drew] | rw [cell_alloc_lt (by first | assumption | omega | (simp; done) | (simp; omega))] | rw [cell_set_ne (by omega)])); first | (with_reducible assumption) | (rw [cell_new (by first | rfl | simp)]; rfl) | (simp; done)); have m1 : w1.cell? ⟨w.heap.size, 1, none⟩ = some (.string b) := (by rw [hc1 _ _ (by first | omega | (simp; omega) | simp)]; (repeat (first | rw [cell_drew] | rw [cell_alloc_lt (by first | assumption | omega | (simp; done) | (simp; omega))] | rw [cell_set_ne (by omega)])); first | (with_reducible assumption) | (rw [cell_new (by first | rfl | simp)]; rfl) | (simp; done)); have m2 : w1.cell? ⟨w.heap.size + 1, 0, none⟩ = some (.int .i64 t) := (by rw [hc1 _ _ (by first | omega | (simp; omega) | simp)]; (repeat (first | rw [cell_drew] | rw [cell_alloc_lt (by first | assumption | omega | (simp; done) | (simp; omega))] | rw [cell_set_ne (by omega)])); first | (with_reducible assumption) | (rw [cell_new (by first | rfl | simp)]; rfl) | (simp; done)); have m3 : w1.cell? ⟨w.heap.size + 1, 1, none⟩ = some (.string c) := (by rw [hc1 _ _ (by first | omega | (simp; omega) | simp)]; (repeat (first | rw [cell_drew] | rw [cell_alloc_lt (by first | assumption | omega | (simp; done) | (simp; omega))] | rw [cell_set_ne (by omega)])); first | (with_reducible assumption) | (rw [cell_new (by first | rfl | simp)]; rfl) | (simp; done)); have m4 : w1.cell? ⟨w.heap.size + 1 + 1 + 1 + 1, 0, none⟩ = some (.func (.func 41) #[] #[]) := (by rw [hc1 _ _ (by first | omega | (simp; omega) | simp)]; (repeat (first | rw [cell_drew] | rw [cell_alloc_lt (by first | assumption | omega | (simp; done) | (simp; omega))] | rw [cell_set_ne (by omega)])); first | (with_reducible assumption) | (rw [cell_new (by first | rfl | simp)]; rfl) | (simp; done)); have m5 : w1.cell? ⟨w.heap.size + 1 + 1, 0, none⟩ = some (.int .i64 0) := (by rw [hc1 _ _ (by first | omega | (simp; omega) | simp)]; (repeat (first | rw [cell_drew] | rw [cell_alloc_lt (by first | assumption | omega | (simp; done) | (simp; omega))] | rw [cell_set_ne (by omega)])); first | (with_reducible assumption) | (rw [cell_new (by first | rfl | simp)]; rfl) | (simp; done)); have m6 : w1.cell? ⟨w.heap.size + 1 + 1, 1, none⟩ = some (.string ⟨#[]⟩) := (by rw [hc1 _ _ (by first | omega | (simp; omega) | simp)]; (repeat (first | rw [cell_drew] | rw [cell_alloc_lt (by first | assumption | omega | (simp; done) | (simp; omega))] | rw [cell_set_ne (by omega)])); first | (with_reducible assumption) | (rw [cell_new (by first | rfl | simp)]; rfl) | (simp; done)); have m7 : w1.cell? ⟨w.heap.size + 1 + 1 + 1, 0, none⟩ = some (.int .i64 0) := (by rw [hc1 _ _ (by first | omega | (simp; omega) | simp)]; (repeat (first | rw [cell_drew] | rw [cell_alloc_lt (by first | assumption | omega | (simp; done) | (simp; omega))] | rw [cell_set_ne (by omega)])); first | (with_reducible assumption) | (rw [cell_new (by first | rfl | simp)]; rfl) | (simp; done)); have m8 : w1.cell? ⟨w.heap.size + 1 + 1 + 1, 1, none⟩ = some (.string ⟨#[]⟩) := (by rw [hc1 _ _ (by first | omega | (simp; omega) | simp)]; (repeat (first | rw [cell_drew] | rw [cell_alloc_lt (by first | assumption | omega | (simp; done) | (simp; omega))] | rw [cell_set_ne (by omega)])); first | (with_reducible assumption) | (rw [cell_new (by first | rfl | simp)]; rfl) | (simp; done)); have mf0 : w1.frozen? ⟨w.heap.size + 1 + 1, 0, none⟩ = false := (by rw [hf1 _ _ (by first | omega | (simp; omega) | simp)]; (repeat (first | rw [froz_drew] | rw [froz_alloc_lt (by first | assumption | omega | (simp; done) | (simp; omega))])); first | (rw [froz_new (by first | rfl | simp)]) | (simp; done)); have mf1 : w1.frozen? ⟨w.heap.size + 1 + 1, 1, none⟩ = false := (by rw [hf1 _ _ (by first | omega | (simp; omega) | simp)]; (repeat (first | rw [froz_drew] | rw [froz_alloc_lt (by first | assumption | omega | (simp; done) | (simp; omega))])); first | (rw [froz_new (by first | rfl | simp)]) | (simp; done)); have mf2 : w1.frozen? ⟨w.heap.size + 1 + 1 + 1, 0, none⟩ = false := (by rw [hf1 _ _ (by first | omega | (simp; omega) | simp)]; (repeat (first | rw [froz_drew] | rw [froz_alloc_lt (by first | assumption | omega | (simp; done) | (simp; omega))])); first | (rw [froz_new (by first | rfl | simp)]) | (simp; done)); have mf3 : w1.frozen? ⟨w.heap.size + 1 + 1 + 1, 1, none⟩ = false := (by rw [hf1 _ _ (by first | omega | (simp; omega) | simp)]; (repeat (first | rw [froz_drew] | rw [froz_alloc_lt (by first | assumption | omega | (simp; done) | (simp; omega))])); first | (rw [froz_new (by first | rfl | simp)]) | (simp; done))))
  all_goals
    clear hb1
    go_wp2
    refine bodyPost_ret (v := .tuple #[.agg #[.int .i64 q1, .string d1], .agg #[.int .i64 q2, .string d2]]) (by simp [results, Tryz.results20, go_sem, m5, m6, m7, m8]) rfl ⟨rfl, ?_⟩
    repeat (first | exact HB2 | refine Below.setCell ?_ (by first | omega | (simp; omega) | simp) _ | refine Below.drew ?_)
set_option maxHeartbeats 2000000 in
set_option maxRecDepth 100000 in
theorem divide_way1 (t q1 q2 : Int) (b c d1 d2 : ByteArray) (w : World)
    (hcall : ∀ W, Below w.heap.size w W → Calls Tryz.prog 42 #[.agg #[.int .i64 (0), .string b], .agg #[.int .i64 t, .string c]] W fun e w' => e = .returned (.tuple #[.agg #[.int .i64 q1, .string d1], .agg #[.int .i64 q2, .string d2]]) ∧ Below W.heap.size W w') :
    Calls Tryz.prog 20 #[.agg #[.int .i64 (0), .string b], .agg #[.int .i64 t, .string c]] w fun e w' => e = .returned (.tuple #[.agg #[.int .i64 q1, .string d1], .agg #[.int .i64 q2, .string d2]]) ∧ Below w.heap.size w w' := by
  have HC := Lib.hid hcall
  clear hcall
  have e1 : IntKind.i64.wrap (-1) = -1 := by decide
  have e2 : IntKind.i64.wrap (-1 + 1) = 0 := by decide
  have e3 : IntKind.i64.wrap 0 = 0 := by decide
  have e4 : IntKind.i64.wrap 1 = 1 := by decide
  have e5 : IntKind.i64.wrap (0 + 1) = 1 := by decide
  have e6 : IntKind.i64.wrap (1 + 1) = 2 := by decide
  have e7 : IntKind.i64.wrap 2 = 2 := by decide
  go_enter Tryz.func20, Tryz.ntmps20
  go_wp2
  go_region_held3 (fun w' => w'.cell? ⟨w.heap.size, 0, none⟩ = some (.int .i64 (0)) ∧ w'.cell? ⟨w.heap.size, 1, none⟩ = some (.string b) ∧ w'.cell? ⟨w.heap.size + 1, 0, none⟩ = some (.int .i64 t) ∧ w'.cell? ⟨w.heap.size + 1, 1, none⟩ = some (.string c) ∧ w'.cell? ⟨w.heap.size + 1 + 1 + 1 + 1, 1, none⟩ = some (.func (.func 42) #[] #[])) (first | ((try go_split_ands); refine ⟨?_, ?_, ?_, ?_, ?_⟩ <;> (first | (with_reducible assumption) | ((repeat (first | rw [cell_drew] | rw [cell_alloc_lt (by first | assumption | omega | (simp; done) | (simp; omega))] | rw [cell_set_ne (by omega)])); first | (with_reducible assumption) | (rw [cell_new (by first | rfl | simp)]; rfl) | (simp; done)))) | (go_keep; done))
    (first
      | (go_at_call 42; refine (HC.out _ ?bb).mono ?_; (case bb => repeat (first | exact Below.refl _ _ | refine Below.alloc ?_ (by first | omega | (simp; omega) | simp) _ | refine Below.drew ?_)); rintro e w1 ⟨rfl, hb1⟩; obtain ⟨hc1, hf1⟩ := bcell hb1; have hz1 : w.heap.size + 4 < w1.heap.size := (by have := hb1.size; (try simp at this); omega); have HB2 : Below w.heap.size w w1 := (by refine Below.trans ?_ (hb1.mono (by first | omega | (simp; omega) | simp)); repeat (first | exact Below.refl _ _ | refine Below.alloc ?_ (by first | omega | (simp; omega) | simp) _ | refine Below.drew ?_)); have m0 : w1.cell? ⟨w.heap.size, 0, none⟩ = some (.int .i64 (0)) := (by rw [hc1 _ _ (by first | omega | (simp; omega) | simp)]; (repeat (first | rw [cell_drew] | rw [cell_alloc_lt (by first | assumption | omega | (simp; done) | (simp; omega))] | rw [cell_set_ne (by omega)])); first | (with_reducible assumption) | (rw [cell_new (by first | rfl | simp)]; rfl) | (simp; done)); have m1 : w1.cell? ⟨w.heap.size, 1, none⟩ = some (.string b) := (by rw [hc1 _ _ (by first | omega | (simp; omega) | simp)]; (repeat (first | rw [cell_drew] | rw [cell_alloc_lt (by first | assumption | omega | (simp; done) | (simp; omega))] | rw [cell_set_ne (by omega)])); first | (with_reducible assumption) | (rw [cell_new (by first | rfl | simp)]; rfl) | (simp; done)); have m2 : w1.cell? ⟨w.heap.size + 1, 0, none⟩ = some (.int .i64 t) := (by rw [hc1 _ _ (by first | omega | (simp; omega) | simp)]; (repeat (first | rw [cell_drew] | rw [cell_alloc_lt (by first | assumption | omega | (simp; done) | (simp; omega))] | rw [cell_set_ne (by omega)])); first | (with_reducible assumption) | (rw [cell_new (by first | rfl | simp)]; rfl) | (simp; done)); have m3 : w1.cell? ⟨w.heap.size + 1, 1, none⟩ = some (.string c) := (by rw [hc1 _ _ (by first | omega | (simp; omega) | simp)]; (repeat (first | rw [cell_drew] | rw [cell_alloc_lt (by first | assumption | omega | (simp; done) | (simp; omega))] | rw [cell_set_ne (by omega)])); first | (with_reducible assumption) | (rw [cell_new (by first | rfl | simp)]; rfl) | (simp; done)); have m4 : w1.cell? ⟨w.heap.size + 1 + 1 + 1 + 1, 1, none⟩ = some (.func (.func 42) #[] #[]) := (by rw [hc1 _ _ (by first | omega | (simp; omega) | simp)]; (repeat (first | rw [cell_drew] | rw [cell_alloc_lt (by first | assumption | omega | (simp; done) | (simp; omega))] | rw [cell_set_ne (by omega)])); first | (with_reducible assumption) | (rw [cell_new (by first | rfl | simp)]; rfl) | (simp; done)); have m5 : w1.cell? ⟨w.heap.size + 1 + 1, 0, none⟩ = some (.int .i64 0) := (by rw [hc1 _ _ (by first | omega | (simp; omega) | simp)]; (repeat (first | rw [cell_drew] | rw [cell_alloc_lt (by first | assumption | omega | (simp; done) | (simp; omega))] | rw [cell_set_ne (by omega)])); first | (with_reducible assumption) | (rw [cell_new (by first | rfl | simp)]; rfl) | (simp; done)); have m6 : w1.cell? ⟨w.heap.size + 1 + 1, 1, none⟩ = some (.string ⟨#[]⟩) := (by rw [hc1 _ _ (by first | omega | (simp; omega) | simp)]; (repeat (first | rw [cell_drew] | rw [cell_alloc_lt (by first | assumption | omega | (simp; done) | (simp; omega))] | rw [cell_set_ne (by omega)])); first | (with_reducible assumption) | (rw [cell_new (by first | rfl | simp)]; rfl) | (simp; done)); have m7 : w1.cell? ⟨w.heap.size + 1 + 1 + 1, 0, none⟩ = some (.int .i64 0) := (by rw [hc1 _ _ (by first | omega | (simp; omega) | simp)]; (repeat (first | rw [cell_drew] | rw [cell_alloc_lt (by first | assumption | omega | (simp; done) | (simp; omega))] | rw [cell_set_ne (by omega)])); first | (with_reducible assumption) | (rw [cell_new (by first | rfl | simp)]; rfl) | (simp; done)); have m8 : w1.cell? ⟨w.heap.size + 1 + 1 + 1, 1, none⟩ = some (.string ⟨#[]⟩) := (by rw [hc1 _ _ (by first | omega | (simp; omega) | simp)]; (repeat (first | rw [cell_drew] | rw [cell_alloc_lt (by first | assumption | omega | (simp; done) | (simp; omega))] | rw [cell_set_ne (by omega)])); first | (with_reducible assumption) | (rw [cell_new (by first | rfl | simp)]; rfl) | (simp; done)); have mf0 : w1.frozen? ⟨w.heap.size + 1 + 1, 0, none⟩ = false := (by rw [hf1 _ _ (by first | omega | (simp; omega) | simp)]; (repeat (first | rw [froz_drew] | rw [froz_alloc_lt (by first | assumption | omega | (simp; done) | (simp; omega))])); first | (rw [froz_new (by first | rfl | simp)]) | (simp; done)); have mf1 : w1.frozen? ⟨w.heap.size + 1 + 1, 1, none⟩ = false := (by rw [hf1 _ _ (by first | omega | (simp; omega) | simp)]; (repeat (first | rw [froz_drew] | rw [froz_alloc_lt (by first | assumption | omega | (simp; done) | (simp; omega))])); first | (rw [froz_new (by first | rfl | simp)]) | (simp; done)); have mf2 : w1.frozen? ⟨w.heap.size + 1 + 1 + 1, 0, none⟩ = false := (by rw [hf1 _ _ (by first | omega | (simp; omega) | simp)]; (repeat (first | rw [froz_drew] | rw [froz_alloc_lt (by first | assumption | omega | (simp; done) | (simp; omega))])); first | (rw [froz_new (by first | rfl | simp)]) | (simp; done)); have mf3 : w1.frozen? ⟨w.heap.size + 1 + 1 + 1, 1, none⟩ = false := (by rw [hf1 _ _ (by first | omega | (simp; omega) | simp)]; (repeat (first | rw [froz_drew] | rw [froz_alloc_lt (by first | assumption | omega | (simp; done) | (simp; omega))])); first | (rw [froz_new (by first | rfl | simp)]) | (simp; done))))
  all_goals
    clear hb1
    go_wp2
    refine bodyPost_ret (v := .tuple #[.agg #[.int .i64 q1, .string d1], .agg #[.int .i64 q2, .string d2]]) (by simp [results, Tryz.results20, go_sem, m5, m6, m7, m8]) rfl ⟨rfl, ?_⟩
    repeat (first | exact HB2 | refine Below.setCell ?_ (by first | omega | (simp; omega) | simp) _ | refine Below.drew ?_)
set_option maxHeartbeats 2000000 in
set_option maxRecDepth 100000 in
theorem divide_way2 (t q1 q2 : Int) (b c d1 d2 : ByteArray) (w : World)
    (hcall : ∀ W, Below w.heap.size w W → Calls Tryz.prog 43 #[.agg #[.int .i64 (1), .string b], .agg #[.int .i64 t, .string c]] W fun e w' => e = .returned (.tuple #[.agg #[.int .i64 q1, .string d1], .agg #[.int .i64 q2, .string d2]]) ∧ Below W.heap.size W w') :
    Calls Tryz.prog 20 #[.agg #[.int .i64 (1), .string b], .agg #[.int .i64 t, .string c]] w fun e w' => e = .returned (.tuple #[.agg #[.int .i64 q1, .string d1], .agg #[.int .i64 q2, .string d2]]) ∧ Below w.heap.size w w' := by
  have HC := Lib.hid hcall
  clear hcall
  have e1 : IntKind.i64.wrap (-1) = -1 := by decide
  have e2 : IntKind.i64.wrap (-1 + 1) = 0 := by decide
  have e3 : IntKind.i64.wrap 0 = 0 := by decide
  have e4 : IntKind.i64.wrap 1 = 1 := by decide
  have e5 : IntKind.i64.wrap (0 + 1) = 1 := by decide
  have e6 : IntKind.i64.wrap (1 + 1) = 2 := by decide
  have e7 : IntKind.i64.wrap 2 = 2 := by decide
  go_enter Tryz.func20, Tryz.ntmps20
  go_wp2
  go_region_held3 (fun w' => w'.cell? ⟨w.heap.size, 0, none⟩ = some (.int .i64 (1)) ∧ w'.cell? ⟨w.heap.size, 1, none⟩ = some (.string b) ∧ w'.cell? ⟨w.heap.size + 1, 0, none⟩ = some (.int .i64 t) ∧ w'.cell? ⟨w.heap.size + 1, 1, none⟩ = some (.string c) ∧ w'.cell? ⟨w.heap.size + 1 + 1 + 1 + 1, 2, none⟩ = some (.func (.func 43) #[] #[])) (first | ((try go_split_ands); refine ⟨?_, ?_, ?_, ?_, ?_⟩ <;> (first | (with_reducible assumption) | ((repeat (first | rw [cell_drew] | rw [cell_alloc_lt (by first | assumption | omega | (simp; done) | (simp; omega))] | rw [cell_set_ne (by omega)])); first | (with_reducible assumption) | (rw [cell_new (by first | rfl | simp)]; rfl) | (simp; done)))) | (go_keep; done))
    (first
      | (go_at_call 43; refine (HC.out _ ?bb).mono ?_; (case bb => repeat (first | exact Below.refl _ _ | refine Below.alloc ?_ (by first | omega | (simp; omega) | simp) _ | refine Below.drew ?_)); rintro e w1 ⟨rfl, hb1⟩; obtain ⟨hc1, hf1⟩ := bcell hb1; have hz1 : w.heap.size + 4 < w1.heap.size := (by have := hb1.size; (try simp at this); omega); have HB2 : Below w.heap.size w w1 := (by refine Below.trans ?_ (hb1.mono (by first | omega | (simp; omega) | simp)); repeat (first | exact Below.refl _ _ | refine Below.alloc ?_ (by first | omega | (simp; omega) | simp) _ | refine Below.drew ?_)); have m0 : w1.cell? ⟨w.heap.size, 0, none⟩ = some (.int .i64 (1)) := (by rw [hc1 _ _ (by first | omega | (simp; omega) | simp)]; (repeat (first | rw [cell_drew] | rw [cell_alloc_lt (by first | assumption | omega | (simp; done) | (simp; omega))] | rw [cell_set_ne (by omega)])); first | (with_reducible assumption) | (rw [cell_new (by first | rfl | simp)]; rfl) | (simp; done)); have m1 : w1.cell? ⟨w.heap.size, 1, none⟩ = some (.string b) := (by rw [hc1 _ _ (by first | omega | (simp; omega) | simp)]; (repeat (first | rw [cell_drew] | rw [cell_alloc_lt (by first | assumption | omega | (simp; done) | (simp; omega))] | rw [cell_set_ne (by omega)])); first | (with_reducible assumption) | (rw [cell_new (by first | rfl | simp)]; rfl) | (simp; done)); have m2 : w1.cell? ⟨w.heap.size + 1, 0, none⟩ = some (.int .i64 t) := (by rw [hc1 _ _ (by first | omega | (simp; omega) | simp)]; (repeat (first | rw [cell_drew] | rw [cell_alloc_lt (by first | assumption | omega | (simp; done) | (simp; omega))] | rw [cell_set_ne (by omega)])); first | (with_reducible assumption) | (rw [cell_new (by first | rfl | simp)]; rfl) | (simp; done)); have m3 : w1.cell? ⟨w.heap.size + 1, 1, none⟩ = some (.string c) := (by rw [hc1 _ _ (by first | omega | (simp; omega) | simp)]; (repeat (first | rw [cell_drew] | rw [cell_alloc_lt (by first | assumption | omega | (simp; done) | (simp; omega))] | rw [cell_set_ne (by omega)])); first | (with_reducible assumption) | (rw [cell_new (by first | rfl | simp)]; rfl) | (simp; done)); have m4 : w1.cell? ⟨w.heap.size + 1 + 1 + 1 + 1, 2, none⟩ = some (.func (.func 43) #[] #[]) := (by rw [hc1 _ _ (by first | omega | (simp; omega) | simp)]; (repeat (first | rw [cell_drew] | rw [cell_alloc_lt (by first | assumption | omega | (simp; done) | (simp; omega))] | rw [cell_set_ne (by omega)])); first | (with_reducible assumption) | (rw [cell_new (by first | rfl | simp)]; rfl) | (simp; done)); have m5 : w1.cell? ⟨w.heap.size + 1 + 1, 0, none⟩ = some (.int .i64 0) := (by rw [hc1 _ _ (by first | omega | (simp; omega) | simp)]; (repeat (first | rw [cell_drew] | rw [cell_alloc_lt (by first | assumption | omega | (simp; done) | (simp; omega))] | rw [cell_set_ne (by omega)])); first | (with_reducible assumption) | (rw [cell_new (by first | rfl | simp)]; rfl) | (simp; done)); have m6 : w1.cell? ⟨w.heap.size + 1 + 1, 1, none⟩ = some (.string ⟨#[]⟩) := (by rw [hc1 _ _ (by first | omega | (simp; omega) | simp)]; (repeat (first | rw [cell_drew] | rw [cell_alloc_lt (by first | assumption | omega | (simp; done) | (simp; omega))] | rw [cell_set_ne (by omega)])); first | (with_reducible assumption) | (rw [cell_new (by first | rfl | simp)]; rfl) | (simp; done)); have m7 : w1.cell? ⟨w.heap.size + 1 + 1 + 1, 0, none⟩ = some (.int .i64 0) := (by rw [hc1 _ _ (by first | omega | (simp; omega) | simp)]; (repeat (first | rw [cell_drew] | rw [cell_alloc_lt (by first | assumption | omega | (simp; done) | (simp; omega))] | rw [cell_set_ne (by omega)])); first | (with_reducible assumption) | (rw [cell_new (by first | rfl | simp)]; rfl) | (simp; done)); have m8 : w1.cell? ⟨w.heap.size + 1 + 1 + 1, 1, none⟩ = some (.string ⟨#[]⟩) := (by rw [hc1 _ _ (by first | omega | (simp; omega) | simp)]; (repeat (first | rw [cell_drew] | rw [cell_alloc_lt (by first | assumption | omega | (simp; done) | (simp; omega))] | rw [cell_set_ne (by omega)])); first | (with_reducible assumption) | (rw [cell_new (by first | rfl | simp)]; rfl) | (simp; done)); have mf0 : w1.frozen? ⟨w.heap.size + 1 + 1, 0, none⟩ = false := (by rw [hf1 _ _ (by first | omega | (simp; omega) | simp)]; (repeat (first | rw [froz_drew] | rw [froz_alloc_lt (by first | assumption | omega | (simp; done) | (simp; omega))])); first | (rw [froz_new (by first | rfl | simp)]) | (simp; done)); have mf1 : w1.frozen? ⟨w.heap.size + 1 + 1, 1, none⟩ = false := (by rw [hf1 _ _ (by first | omega | (simp; omega) | simp)]; (repeat (first | rw [froz_drew] | rw [froz_alloc_lt (by first | assumption | omega | (simp; done) | (simp; omega))])); first | (rw [froz_new (by first | rfl | simp)]) | (simp; done)); have mf2 : w1.frozen? ⟨w.heap.size + 1 + 1 + 1, 0, none⟩ = false := (by rw [hf1 _ _ (by first | omega | (simp; omega) | simp)]; (repeat (first | rw [froz_drew] | rw [froz_alloc_lt (by first | assumption | omega | (simp; done) | (simp; omega))])); first | (rw [froz_new (by first | rfl | simp)]) | (simp; done)); have mf3 : w1.frozen? ⟨w.heap.size + 1 + 1 + 1, 1, none⟩ = false := (by rw [hf1 _ _ (by first | omega | (simp; omega) | simp)]; (repeat (first | rw [froz_drew] | rw [froz_alloc_lt (by first | assumption | omega | (simp; done) | (simp; omega))])); first | (rw [froz_new (by first | rfl | simp)]) | (simp; done))))
  all_goals
    clear hb1
    go_wp2
    refine bodyPost_ret (v := .tuple #[.agg #[.int .i64 q1, .string d1], .agg #[.int .i64 q2, .string d2]]) (by simp [results, Tryz.results20, go_sem, m5, m6, m7, m8]) rfl ⟨rfl, ?_⟩
    repeat (first | exact HB2 | refine Below.setCell ?_ (by first | omega | (simp; omega) | simp) _ | refine Below.drew ?_)

/-- The quotient and the remainder of two integers, the second one of which is not 0. -/
theorem divide_any' (x y : Int) (hy : y ≠ 0) (q r : Int) (hq : q = if 0 ≤ x ∨ x.natAbs % y.natAbs = 0 then x.sign * (y.sign * ((x.natAbs / y.natAbs : Nat) : Int)) else -(y.sign * ((x.natAbs / y.natAbs : Nat) : Int)) - y.sign)
    (hr : r = if 0 ≤ x ∨ x.natAbs % y.natAbs = 0 then ((x.natAbs % y.natAbs : Nat) : Int) else (y.natAbs : Int) - ((x.natAbs % y.natAbs : Nat) : Int)) (fx : FitZ x) (fy : FitZ y) (fq : Fit (x.natAbs / y.natAbs + 1)) (w : World) (hl : La w) :
    Calls Tryz.prog 20 #[Zv x, Zv y] w fun e w' => e = .returned (.tuple #[Zv q, Zv r]) ∧ Below w.heap.size w w' := by
  have ht : y.sign = 1 ∨ y.sign = -1 := by
    rcases Int.sign_trichotomy y with h | h | h
    · exact Or.inl h
    · exact absurd (Int.sign_eq_zero_iff_zero.1 h) hy
    · exact Or.inr h
  have hn : y.natAbs ≠ 0 := by omega
  have ey : Zv y = Zr y.sign y.natAbs := rfl
  rw [ey]
  rcases int_cases x with ⟨m, hm, rfl⟩ | rfl | ⟨m, hm, rfl⟩
  · rw [zv_neg hm]
    rw [Int.natAbs_neg, Int.natAbs_natCast] at hq hr fq
    have h := fun W (hW : Below w.heap.size w W) => divNeg_any m y.natAbs y.sign q r ht hn fx.neg fy (by
      rw [hq]
      by_cases h0 : m % y.natAbs = 0
      · rw [if_pos h0, if_pos (Or.inr h0), Int.sign_neg, Int.sign_natCast_of_ne_zero hm, Int.neg_one_mul]
      · rw [if_neg h0, if_neg (by omega)]) (by
      rw [hr]
      by_cases h0 : m % y.natAbs = 0
      · rw [if_pos h0, if_pos (Or.inr h0), h0]; rfl
      · rw [if_neg h0, if_neg (by omega)]) fq W (hl.on hW)
    unfold Zr Zv at *
    exact divide_way0 _ _ _ _ _ _ _ w h
  · rw [zv_zero]
    obtain rfl : q = 0 := by rw [hq]; simp
    obtain rfl : r = 0 := by rw [hr]; simp
    have h := fun W (hW : Below w.heap.size w W) => divZero_raw ⟨#[48]⟩ (Sn y.natAbs) 0 y.sign W (hl.on hW).zz
    unfold Zr Zv at *
    exact divide_way1 _ _ _ _ _ _ _ w h
  · rw [zv_pos hm]
    rw [Int.natAbs_natCast] at hq hr fq
    rw [if_pos (Or.inl (by omega)), Int.sign_natCast_of_ne_zero hm, Int.one_mul] at hq
    rw [if_pos (Or.inl (by omega))] at hr
    have h := fun W (hW : Below w.heap.size w W) => divPos_raw 1 y.sign m y.natAbs q r ht hn hq hr fx.nat fy W (hl.on hW)
    unfold Zr Zv at *
    exact divide_way2 _ _ _ _ _ _ _ w h

end Go.Proofs.YtblccbnejcngaaaGreatDoor
/- integer.DivMod: walks. -/
namespace Go.Proofs.YtblccbnejcngaaaGreatDoor
open Go.RowKit Go.Gb

set_option maxHeartbeats 2000000 in
set_option maxRecDepth 100000 in
theorem divMod_walk (a1 a2 : ByteArray) (s t q1 q2 : Int) (b c d1 d2 r1 r2 : ByteArray) (ht : t ≠ 0) (w : World) (hl : Zz w)
    (hread : Calls Tryz.prog 19 #[.string a1, .string a2] w fun e w' => e = .returned (.tuple #[.agg #[.int .i64 s, .string b], .agg #[.int .i64 t, .string c], .bool true]) ∧ Below w.heap.size w w')
    (hop : ∀ W, Below w.heap.size w W → Calls Tryz.prog 20 #[.agg #[.int .i64 s, .string b], .agg #[.int .i64 t, .string c]] W fun e w' => e = .returned (.tuple #[.agg #[.int .i64 q1, .string d1], .agg #[.int .i64 q2, .string d2]]) ∧ Below W.heap.size W w')
    (hs1 : ∀ W, Calls Tryz.prog 21 #[.agg #[.int .i64 q1, .string d1]] W fun e w' => e = .returned (.string r1) ∧ Below W.heap.size W w')
    (hs2 : ∀ W, Calls Tryz.prog 21 #[.agg #[.int .i64 q2, .string d2]] W fun e w' => e = .returned (.string r2) ∧ Below W.heap.size W w') :
    Calls Tryz.prog 6 #[.string a1, .string a2] w fun e w' => e = .returned (.tuple #[.string r1, .string r2, .int .i64 0]) ∧ Below w.heap.size w w' := by
  have HR := Lib.hid hread
  have HO := Lib.hid hop
  have HS1 := Lib.hid hs1
  have HS2 := Lib.hid hs2
  have HZ := Lib.hid hl
  have ht1 : (t == 0) = false := by simpa using ht
  clear hread hop hs1 hs2 hl
  go_enter Tryz.func6, Tryz.ntmps6
  go_wp2_with fail
  refine HR.out.mono ?_
  rintro e w1 ⟨rfl, hb1⟩
  have HB1 := Lib.hid ((hb1.alloc hb1.size (.cells #[.int .i64 s, .string b] 40)).alloc (by have := hb1.size; simp; omega) (.cells #[.int .i64 t, .string c] 40))
  obtain ⟨z0, z1, z2⟩ := HZ.out.on HB1.out
  clear hb1
  go_wp2_with fail
  refine (HO.out _ HB1.out).mono ?_
  rintro e w2 ⟨rfl, hb2⟩
  have HB2 := Lib.hid (((HB1.out.trans (hb2.mono HB1.out.size)).alloc (HB1.out.trans (hb2.mono HB1.out.size)).size (.cells #[.int .i64 q1, .string d1] 40)).alloc (by have := (HB1.out.trans (hb2.mono HB1.out.size)).size; simp; omega) (.cells #[.int .i64 q2, .string d2] 40))
  clear hb2 z0 z1 z2
  go_wp2
  go_region_with (first | (go_at_call 21; (with_reducible refine (HS1.out _).mono ?_); rintro e w3 ⟨rfl, hb3⟩; have HB3 : Below w.heap.size w w3 := (by first | exact HB2.out.trans (hb3.mono HB2.out.size) | exact HB2.out.drew.trans (hb3.mono HB2.out.drew.size)); obtain ⟨hc3, hf3⟩ := bcell hb3) | (go_at_call 21; (with_reducible refine (HS2.out _).mono ?_); rintro e w4 ⟨rfl, hb4⟩; have HB4 : Below w.heap.size w w4 := (HB3.trans (hb4.mono HB3.size))))
  all_goals
    clear hb3 hb4
    go_wp2
    go_ret3
    exact ⟨rfl, HB4⟩

set_option maxHeartbeats 1000000 in
theorem divMod_zero_walk (a1 a2 : ByteArray) (s : Int) (b : ByteArray) (w : World) (hl : Zz w)
    (hread : Calls Tryz.prog 19 #[.string a1, .string a2] w fun e w' => e = .returned (.tuple #[.agg #[.int .i64 s, .string b], .agg #[.int .i64 0, .string ⟨#[48]⟩], .bool true]) ∧ Below w.heap.size w w') :
    Calls Tryz.prog 6 #[.string a1, .string a2] w fun e w' => e = .returned (.tuple #[.string ⟨#[]⟩, .string ⟨#[]⟩, .int .i64 16]) ∧ Below w.heap.size w w' := by
  have HR := Lib.hid hread
  have HZ := Lib.hid hl
  clear hread hl
  go_enter Tryz.func6, Tryz.ntmps6
  go_wp2_with fail
  refine HR.out.mono ?_
  rintro e w1 ⟨rfl, hb1⟩
  have HB1 := Lib.hid ((hb1.alloc hb1.size (.cells #[.int .i64 s, .string b] 40)).alloc (by have := hb1.size; simp; omega) (.cells #[.int .i64 0, .string ⟨#[48]⟩] 40))
  obtain ⟨z0, z1, z2⟩ := HZ.out.on HB1.out
  clear hb1
  go_wp2
  go_ret3
  exact ⟨rfl, HB1.out⟩
set_option maxHeartbeats 1000000 in
theorem zDivMod_no (a b : ByteArray) (h : (vldZ a.data.toList && vldZ b.data.toList) = false) (ha : a.size ≤ 1000) (hb : b.size ≤ 1000) (w : World) (hl : La w) :
    Calls Tryz.prog 6 #[.string a, .string b] w fun e w' => e = .returned (.tuple #[.string ⟨#[]⟩, .string ⟨#[]⟩, .int .i64 1]) ∧ Below w.heap.size w w' := by
  have HR := Lib.hid (readBoth_no a b h ha hb w hl.zz)
  clear hl h
  go_enter Tryz.func6, Tryz.ntmps6
  go_wp2_with fail
  refine HR.out.mono ?_
  rintro e w1 ⟨s, t, b, c, rfl, hb1⟩
  have HB1 := Lib.hid ((hb1.alloc hb1.size (.cells #[.int .i64 s, .string b] 40)).alloc (by have := hb1.size; simp; omega) (.cells #[.int .i64 t, .string c] 40))
  clear hb1
  go_wp2
  go_ret3
  exact ⟨rfl, HB1.out⟩

theorem div_formula (x y : Int) (hy : y ≠ 0) (Q R : Int) (hQ : Q = if 0 ≤ x ∨ x.natAbs % y.natAbs = 0 then x.sign * (y.sign * ((x.natAbs / y.natAbs : Nat) : Int)) else -(y.sign * ((x.natAbs / y.natAbs : Nat) : Int)) - y.sign)
    (hR : R = if 0 ≤ x ∨ x.natAbs % y.natAbs = 0 then ((x.natAbs % y.natAbs : Nat) : Int) else (y.natAbs : Int) - ((x.natAbs % y.natAbs : Nat) : Int)) :
    R + y * Q = x ∧ 0 ≤ R ∧ R < (y.natAbs : Int) := by
  have hn : 0 < y.natAbs := by omega
  have hdm := Nat.div_add_mod x.natAbs y.natAbs
  have hml := Nat.mod_lt x.natAbs hn
  have hp : (y.natAbs : Int) * ((x.natAbs / y.natAbs : Nat) : Int) + ((x.natAbs % y.natAbs : Nat) : Int) = (x.natAbs : Int) := by
    rw [← Int.natCast_mul, ← Int.natCast_add, hdm]
  generalize hk : x.natAbs / y.natAbs = k at *
  generalize hr : x.natAbs % y.natAbs = r at *
  have ys : (y.sign = 1 ∧ y = (y.natAbs : Int)) ∨ (y.sign = -1 ∧ y = -(y.natAbs : Int)) := by
    rcases int_cases y with ⟨n, hn2, rfl⟩ | rfl | ⟨n, hn2, rfl⟩
    · right; rw [Int.sign_neg, Int.sign_natCast_of_ne_zero hn2]; simp
    · exact absurd rfl hy
    · left; rw [Int.sign_natCast_of_ne_zero hn2]; simp
  have xs : (x.sign = 1 ∧ x = (x.natAbs : Int) ∧ 0 ≤ x) ∨ (x.sign = 0 ∧ x = 0 ∧ x.natAbs = 0) ∨ (x.sign = -1 ∧ x = -(x.natAbs : Int) ∧ ¬ 0 ≤ x) := by
    rcases int_cases x with ⟨n, hn, rfl⟩ | rfl | ⟨n, hn, rfl⟩
    · right; right; rw [Int.sign_neg, Int.sign_natCast_of_ne_zero hn]; simp; omega
    · right; left; simp
    · left; rw [Int.sign_natCast_of_ne_zero hn]; simp
  generalize y.natAbs = n at *
  generalize x.natAbs = m at *
  rcases ys with ⟨e1, e2⟩ | ⟨e1, e2⟩ <;> rcases xs with ⟨f1, f2, f3⟩ | ⟨f1, f2, f3⟩ | ⟨f1, f2, f3⟩
  all_goals
    rw [e1] at hQ
    rw [f1] at hQ
    by_cases hc : 0 ≤ x ∨ r = 0
    · rw [if_pos hc] at hQ hR
      refine ⟨by rw [hQ, hR]; first | grind | (rcases hc with hc | hc <;> grind), by omega, by omega⟩
    · rw [if_neg hc] at hQ hR
      refine ⟨by rw [hQ, hR]; grind, by omega, by omega⟩
theorem div_of_formula (x y : Int) (hy : y ≠ 0) (Q R : Int) (h : R + y * Q = x ∧ 0 ≤ R ∧ R < (y.natAbs : Int)) : x / y = Q ∧ x % y = R := by
  rcases Int.lt_or_gt_of_ne hy with h0 | h0
  · exact (Int.ediv_emod_unique' h0).2 ⟨h.1, h.2.1, by omega⟩
  · exact (Int.ediv_emod_unique h0).2 ⟨h.1, h.2.1, by omega⟩

theorem Fit.le {m n : Nat} (h : Fit n) (hm : m ≤ n) : Fit m := by unfold Fit at *; exact Sm.le h hm
theorem fitZ_le {x : Int} {n : Nat} (h : Fit n) (hx : x.natAbs ≤ n) : FitZ x := by unfold FitZ; exact Fit.le h hx
/-- DivMod by Euclid's quotient and remainder. -/
theorem divide_e (x y q r : Int) (hy : y ≠ 0) (hq : x / y = q) (hr : x % y = r) (fx : FitZ x) (fy : FitZ y) (fq : Fit (x.natAbs + 1)) (w : World) (hl : La w) :
    Calls Tryz.prog 20 #[Zv x, Zv y] w fun e w' => e = .returned (.tuple #[Zv q, Zv r]) ∧ Below w.heap.size w w' := by
  have h := div_of_formula x y hy _ _ (div_formula x y hy _ _ rfl rfl)
  rw [hq, hr] at h
  exact divide_any' x y hy q r h.1 h.2 fx fy (Fit.le fq (Nat.succ_le_succ (Nat.div_le_self x.natAbs y.natAbs))) w hl
theorem quo_le (x y : Int) (hy : y ≠ 0) : (x / y).natAbs ≤ x.natAbs + 1 := by
  obtain ⟨h1, h2⟩ := div_of_formula x y hy _ _ (div_formula x y hy _ _ rfl rfl)
  rw [h1]
  have hk := Nat.div_le_self x.natAbs y.natAbs
  have ys := Int.sign_trichotomy y
  have xs := Int.sign_trichotomy x
  generalize x.natAbs / y.natAbs = k at *
  generalize x.natAbs % y.natAbs = r at *
  split
  · rcases ys with e | e | e <;> rcases xs with f | f | f <;> rw [e, f] <;> simp <;> omega
  · rcases ys with e | e | e <;> rw [e] <;> simp <;> omega
theorem zDivMod (x y q r : Int) (hy : y ≠ 0) (hq : x / y = q) (hr : x % y = r) (fx : FitZ x) (fy : FitZ y) (fq : Fit (x.natAbs + 1)) (w : World) (hl : La w) :
    Calls Tryz.prog 6 #[.string (Sz x), .string (Sz y)] w fun e w' => e = .returned (.tuple #[.string (Sz q), .string (Sz r), .int .i64 0]) ∧ Below w.heap.size w w' := by
  have fQ : FitZ q := by
    rw [← hq]
    exact fitZ_le fq (quo_le x y hy)
  have fR : FitZ r := by
    have hf := div_formula x y hy _ _ rfl rfl
    have he := (div_of_formula x y hy _ _ hf).2
    rw [hr] at he
    rw [← he] at hf
    have h1 := hf.2.1
    have h2 := hf.2.2
    exact fitZ_le fy (by omega)
  have hs : y.sign ≠ 0 := fun h => hy (Int.sign_eq_zero_iff_zero.1 h)
  have h1 := readBoth_yes x y fx fy w hl.zz
  have h2 := fun W (hW : Below w.heap.size w W) => divide_e x y q r hy hq hr fx fy fq W (hl.on hW)
  have h3 := fun W => string_any q fQ W
  have h4 := fun W => string_any r fR W
  unfold Zv at h1 h2 h3 h4
  exact divMod_walk _ _ _ _ _ _ _ _ _ _ _ _ hs w hl.zz h1 h2 h3 h4
theorem zDivMod_zero (x : Int) (fx : FitZ x) (w : World) (hl : La w) :
    Calls Tryz.prog 6 #[.string (Sz x), .string ⟨#[48]⟩] w fun e w' => e = .returned (.tuple #[.string ⟨#[]⟩, .string ⟨#[]⟩, .int .i64 16]) ∧ Below w.heap.size w w' := by
  have h1 := readBoth_yes x 0 fx fit0 w hl.zz
  rw [zv_zero, show Sz 0 = ⟨#[48]⟩ from (sz_nat 0).trans sn_zero] at h1
  unfold Zv at h1
  exact divMod_zero_walk _ _ _ _ w hl.zz h1

end Go.Proofs.YtblccbnejcngaaaGreatDoor
