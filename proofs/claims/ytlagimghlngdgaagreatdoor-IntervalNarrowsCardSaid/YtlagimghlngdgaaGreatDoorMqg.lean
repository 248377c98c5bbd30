/- Texts of this proof, one behind the other. -/
import Derived.Test.YtlagimghlngdgaaGreatDoorQf
import Derived.Lib.MinMax
/- rational: small numbers: cmp.Compare, FormatInt, addSmall .., compareSmall, small.write, smallBoth: walks. -/
namespace Go.Proofs.YtlagimghlngdgaaGreatDoor
open Go.RowKit Go.Gb

/-- Nothing is asked of a world. -/
def Nix (w : World) : Prop := w = w
theorem nix (w : World) : Nix w := rfl
theorem cmp_nan (x : Int) (w : World) : Calls Tryz.prog 178 #[.int .i64 x] w fun e w' => e = .returned (.bool false) ∧ w = w' := by
  go_enter Tryz.func178, Tryz.ntmps178
  go_wp2
  go_ret
  exact ⟨rfl, rfl⟩
theorem cmp64_lt (x y : Int) (h : x < y) (w : World) : Calls Tryz.prog 140 #[.int .i64 x, .int .i64 y] w fun e w' => e = .returned (.int .i64 (-1)) ∧ w = w' := by
  have h1 : x < y := h
  clear h
  go_enter Tryz.func140, Tryz.ntmps140
  go_wp2_with fail
  refine (cmp_nan _ _).mono ?_
  rintro e w' ⟨rfl, rfl⟩
  go_wp2_with fail
  refine (cmp_nan _ _).mono ?_
  rintro e w' ⟨rfl, rfl⟩
  go_wp2
  go_ret
  exact ⟨rfl, rfl⟩
theorem cmp64_eq (x : Int) (w : World) : Calls Tryz.prog 140 #[.int .i64 x, .int .i64 x] w fun e w' => e = .returned (.int .i64 0) ∧ w = w' := by
  go_enter Tryz.func140, Tryz.ntmps140
  go_wp2_with fail
  refine (cmp_nan _ _).mono ?_
  rintro e w' ⟨rfl, rfl⟩
  go_wp2_with fail
  refine (cmp_nan _ _).mono ?_
  rintro e w' ⟨rfl, rfl⟩
  go_wp2
  go_ret
  exact ⟨rfl, rfl⟩
theorem cmp64_gt (x y : Int) (h : y < x) (w : World) : Calls Tryz.prog 140 #[.int .i64 x, .int .i64 y] w fun e w' => e = .returned (.int .i64 1) ∧ w = w' := by
  have h1 : decide (x < y) = false := by rw [decide_eq_false_iff_not]; omega
  have h2 : y < x := h
  clear h
  go_enter Tryz.func140, Tryz.ntmps140
  go_wp2_with fail
  refine (cmp_nan _ _).mono ?_
  rintro e w' ⟨rfl, rfl⟩
  go_wp2_with fail
  refine (cmp_nan _ _).mono ?_
  rintro e w' ⟨rfl, rfl⟩
  go_wp2
  go_ret
  exact ⟨rfl, rfl⟩
theorem cmp64 (x y : Int) (w : World) : Calls Tryz.prog 140 #[.int .i64 x, .int .i64 y] w fun e w' => e = .returned (.int .i64 (cmpZ x y)) ∧ w = w' := by
  rcases Int.lt_trichotomy x y with h | h | h
  · rw [cmpZ_lt h]; exact cmp64_lt x y h w
  · subst h; rw [cmpZ_eq]; exact cmp64_eq x w
  · rw [cmpZ_gt h]; exact cmp64_gt x y h w
theorem rfmt (z : Int) (h0 : -9223372036854775808 ≤ z) (h1 : z ≤ 9223372036854775807) (w : World) (hl : La w) :
    Calls Tryz.prog 139 #[.int .i64 z, .int .i64 10] w fun e w' => e = .returned (.string (Sz z)) ∧ Below w.heap.size w w' := by
  refine (Tryz.strconv_FormatInt_10 z h0 h1 w hl.tb).mono ?_
  rintro e w' ⟨rfl, k, os, rfl⟩
  refine ⟨by rw [itoa_sz], Lib.below_grow w.heap.size w (Nat.le_refl _) k os⟩

/-- A product of two small numbers. -/
theorem small_mul {a b : Int} (ha : a.natAbs < 1000000000) (hb : b.natAbs < 1000000000) : (a * b).natAbs < 1000000000000000000 := by
  rw [Int.natAbs_mul]
  have h := Nat.mul_le_mul (Nat.le_of_lt_succ ha) (Nat.le_of_lt_succ hb)
  have h2 : (999999999 : Nat) * 999999999 < 1000000000000000000 := by decide
  exact Nat.lt_of_le_of_lt h h2
set_option maxHeartbeats 1000000 in
set_option maxRecDepth 100000 in
theorem sadd (x1 x2 y1 y2 : Int) (hx1 : x1.natAbs < 1000000000) (hx2 : x2.natAbs < 1000000000) (hy1 : y1.natAbs < 1000000000) (hy2 : y2.natAbs < 1000000000) (w : World) :
    Calls Tryz.prog 90 #[.agg #[.int .i64 x1, .int .i64 x2], .agg #[.int .i64 y1, .int .i64 y2]] w fun e w' => e = .returned (.agg #[.int .i64 (x1 * y2 + y1 * x2), .int .i64 (x2 * y2)]) ∧ Below w.heap.size w w' := by
  obtain ⟨p, hp⟩ : ∃ p : Int, x1 * y2 = p := ⟨_, rfl⟩
  have bp : p.natAbs < 1000000000000000000 := by rw [← hp]; exact small_mul hx1 hy2
  have vp : IntKind.i64.wrap p = p := IntWalk.i64_in _ (by omega)
  obtain ⟨q, hq⟩ : ∃ p : Int, y1 * x2 = p := ⟨_, rfl⟩
  have bq : q.natAbs < 1000000000000000000 := by rw [← hq]; exact small_mul hy1 hx2
  have vq : IntKind.i64.wrap q = q := IntWalk.i64_in _ (by omega)
  obtain ⟨r, hr⟩ : ∃ p : Int, x2 * y2 = p := ⟨_, rfl⟩
  have br : r.natAbs < 1000000000000000000 := by rw [← hr]; exact small_mul hx2 hy2
  have vr : IntKind.i64.wrap r = r := IntWalk.i64_in _ (by omega)
  have vs : IntKind.i64.wrap (p + q) = p + q := IntWalk.i64_in _ (by omega)
  rw [hp, hq, hr]
  clear hx1 hx2 hy1 hy2 bp bq br
  go_enter Tryz.func90, Tryz.ntmps90
  go_wp2
  refine bodyPost_ret (v := .agg #[.int .i64 (p + q), .int .i64 r]) (by simp [results, Tryz.results90, go_sem]) rfl ⟨rfl, ?_⟩
  repeat (first | exact Below.refl _ _ | refine Below.setCell ?_ (by first | omega | (simp; omega) | simp) _ | refine Below.alloc ?_ (by first | omega | (simp; omega) | simp) _ | refine Below.drew ?_)

set_option maxHeartbeats 1000000 in
set_option maxRecDepth 100000 in
theorem ssub (x1 x2 y1 y2 : Int) (hx1 : x1.natAbs < 1000000000) (hx2 : x2.natAbs < 1000000000) (hy1 : y1.natAbs < 1000000000) (hy2 : y2.natAbs < 1000000000) (w : World) :
    Calls Tryz.prog 92 #[.agg #[.int .i64 x1, .int .i64 x2], .agg #[.int .i64 y1, .int .i64 y2]] w fun e w' => e = .returned (.agg #[.int .i64 (x1 * y2 - y1 * x2), .int .i64 (x2 * y2)]) ∧ Below w.heap.size w w' := by
  obtain ⟨p, hp⟩ : ∃ p : Int, x1 * y2 = p := ⟨_, rfl⟩
  have bp : p.natAbs < 1000000000000000000 := by rw [← hp]; exact small_mul hx1 hy2
  have vp : IntKind.i64.wrap p = p := IntWalk.i64_in _ (by omega)
  obtain ⟨q, hq⟩ : ∃ p : Int, y1 * x2 = p := ⟨_, rfl⟩
  have bq : q.natAbs < 1000000000000000000 := by rw [← hq]; exact small_mul hy1 hx2
  have vq : IntKind.i64.wrap q = q := IntWalk.i64_in _ (by omega)
  obtain ⟨r, hr⟩ : ∃ p : Int, x2 * y2 = p := ⟨_, rfl⟩
  have br : r.natAbs < 1000000000000000000 := by rw [← hr]; exact small_mul hx2 hy2
  have vr : IntKind.i64.wrap r = r := IntWalk.i64_in _ (by omega)
  have vs : IntKind.i64.wrap (p - q) = p - q := IntWalk.i64_in _ (by omega)
  rw [hp, hq, hr]
  clear hx1 hx2 hy1 hy2 bp bq br
  go_enter Tryz.func92, Tryz.ntmps92
  go_wp2
  refine bodyPost_ret (v := .agg #[.int .i64 (p - q), .int .i64 r]) (by simp [results, Tryz.results92, go_sem]) rfl ⟨rfl, ?_⟩
  repeat (first | exact Below.refl _ _ | refine Below.setCell ?_ (by first | omega | (simp; omega) | simp) _ | refine Below.alloc ?_ (by first | omega | (simp; omega) | simp) _ | refine Below.drew ?_)

set_option maxHeartbeats 1000000 in
set_option maxRecDepth 100000 in
theorem smul (x1 x2 y1 y2 : Int) (hx1 : x1.natAbs < 1000000000) (hx2 : x2.natAbs < 1000000000) (hy1 : y1.natAbs < 1000000000) (hy2 : y2.natAbs < 1000000000) (w : World) :
    Calls Tryz.prog 94 #[.agg #[.int .i64 x1, .int .i64 x2], .agg #[.int .i64 y1, .int .i64 y2]] w fun e w' => e = .returned (.agg #[.int .i64 (x1 * y1), .int .i64 (x2 * y2)]) ∧ Below w.heap.size w w' := by
  obtain ⟨p, hp⟩ : ∃ p : Int, x1 * y1 = p := ⟨_, rfl⟩
  have bp : p.natAbs < 1000000000000000000 := by rw [← hp]; exact small_mul hx1 hy1
  have vp : IntKind.i64.wrap p = p := IntWalk.i64_in _ (by omega)
  obtain ⟨r, hr⟩ : ∃ p : Int, x2 * y2 = p := ⟨_, rfl⟩
  have br : r.natAbs < 1000000000000000000 := by rw [← hr]; exact small_mul hx2 hy2
  have vr : IntKind.i64.wrap r = r := IntWalk.i64_in _ (by omega)
  rw [hp, hr]
  clear hx1 hx2 hy1 hy2 bp br
  go_enter Tryz.func94, Tryz.ntmps94
  go_wp2
  refine bodyPost_ret (v := .agg #[.int .i64 p, .int .i64 r]) (by simp [results, Tryz.results94, go_sem]) rfl ⟨rfl, ?_⟩
  repeat (first | exact Below.refl _ _ | refine Below.setCell ?_ (by first | omega | (simp; omega) | simp) _ | refine Below.alloc ?_ (by first | omega | (simp; omega) | simp) _ | refine Below.drew ?_)

set_option maxHeartbeats 1000000 in
set_option maxRecDepth 100000 in
theorem sdiv (x1 x2 y1 y2 : Int) (hx1 : x1.natAbs < 1000000000) (hx2 : x2.natAbs < 1000000000) (hy1 : y1.natAbs < 1000000000) (hy2 : y2.natAbs < 1000000000) (w : World) :
    Calls Tryz.prog 96 #[.agg #[.int .i64 x1, .int .i64 x2], .agg #[.int .i64 y1, .int .i64 y2]] w fun e w' => e = .returned (.agg #[.int .i64 (x1 * y2), .int .i64 (x2 * y1)]) ∧ Below w.heap.size w w' := by
  obtain ⟨p, hp⟩ : ∃ p : Int, x1 * y2 = p := ⟨_, rfl⟩
  have bp : p.natAbs < 1000000000000000000 := by rw [← hp]; exact small_mul hx1 hy2
  have vp : IntKind.i64.wrap p = p := IntWalk.i64_in _ (by omega)
  obtain ⟨r, hr⟩ : ∃ p : Int, x2 * y1 = p := ⟨_, rfl⟩
  have br : r.natAbs < 1000000000000000000 := by rw [← hr]; exact small_mul hx2 hy1
  have vr : IntKind.i64.wrap r = r := IntWalk.i64_in _ (by omega)
  rw [hp, hr]
  clear hx1 hx2 hy1 hy2 bp br
  go_enter Tryz.func96, Tryz.ntmps96
  go_wp2
  refine bodyPost_ret (v := .agg #[.int .i64 p, .int .i64 r]) (by simp [results, Tryz.results96, go_sem]) rfl ⟨rfl, ?_⟩
  repeat (first | exact Below.refl _ _ | refine Below.setCell ?_ (by first | omega | (simp; omega) | simp) _ | refine Below.alloc ?_ (by first | omega | (simp; omega) | simp) _ | refine Below.drew ?_)

set_option maxHeartbeats 1000000 in
set_option maxRecDepth 100000 in
theorem scmp (x1 x2 y1 y2 c : Int) (hx1 : x1.natAbs < 1000000000) (hx2 : x2.natAbs < 1000000000) (hy1 : y1.natAbs < 1000000000) (hy2 : y2.natAbs < 1000000000) (hc : cmpZ (x1 * y2) (y1 * x2) = c) (w : World) :
    Calls Tryz.prog 100 #[.agg #[.int .i64 x1, .int .i64 x2], .agg #[.int .i64 y1, .int .i64 y2]] w fun e w' => e = .returned (.int .i64 c) ∧ Below w.heap.size w w' := by
  obtain ⟨p, hp⟩ : ∃ p : Int, x1 * y2 = p := ⟨_, rfl⟩
  have bp : p.natAbs < 1000000000000000000 := by rw [← hp]; exact small_mul hx1 hy2
  have vp : IntKind.i64.wrap p = p := IntWalk.i64_in _ (by omega)
  obtain ⟨q, hq⟩ : ∃ p : Int, y1 * x2 = p := ⟨_, rfl⟩
  have bq : q.natAbs < 1000000000000000000 := by rw [← hq]; exact small_mul hy1 hx2
  have vq : IntKind.i64.wrap q = q := IntWalk.i64_in _ (by omega)
  rw [hp, hq] at hc
  subst hc
  clear hx1 hx2 hy1 hy2 bp bq
  go_enter Tryz.func100, Tryz.ntmps100
  go_wp2_with fail
  refine (cmp64 _ _ _).mono ?_
  rintro e w' ⟨rfl, rfl⟩
  go_wp2
  go_ret
  refine ⟨rfl, ?_⟩
  repeat (first | exact Below.refl _ _ | refine Below.setCell ?_ (by first | omega | (simp; omega) | simp) _ | refine Below.alloc ?_ (by first | omega | (simp; omega) | simp) _ | refine Below.drew ?_)
set_option maxHeartbeats 1000000 in
set_option maxRecDepth 100000 in
theorem swrite_neg_one (a b g u n : Int) (t1 t2 : ByteArray) (hn : -a = n) (hd : -b = g) (hb : b < 0) (ba : a.natAbs ≤ 4000000000000000000) (hg : 0 < g) (bg : g ≤ 4000000000000000000)
    (hu : n.tdiv g = u) (bu : u.natAbs ≤ 4000000000000000000) (w : World) (hl : La w)
    (s1 : t1.size ≤ 1000) (s2 : t2.size ≤ 1000)
    (h1 : ∀ W, Calls Tryz.prog 136 #[.int .i64 n, .int .i64 g] W fun e w' => e = .returned (.int .i64 g) ∧ Below W.heap.size W w')
    (h2 : ∀ W, La W → Calls Tryz.prog 139 #[.int .i64 u, .int .i64 10] W fun e w' => e = .returned (.string t1) ∧ Below W.heap.size W w') :
    Calls Tryz.prog 99 #[.agg #[.int .i64 a, .int .i64 b]] w fun e w' => e = .returned (.string t1) ∧ Below w.heap.size w w' := by
  have k1 : b < 0 := hb
  have x1 : IntKind.i64.wrap (-a) = n := by rw [← hn]; exact IntWalk.i64_in _ (by omega)
  have x2 : IntKind.i64.wrap (-b) = g := by rw [← hd]; exact IntWalk.i64_in _ (by omega)
  clear hn hd
  have C1 := Lib.hid h1
  have C2 := Lib.hid h2
  have HL := Lib.hid hl
  have g0 : (g == 0) = false := by rw [beq_eq_false_iff_ne]; omega
  have wu : IntKind.i64.wrap u = u := IntWalk.i64_in _ (by omega)
  have z1 : (⟨#[47]⟩ : ByteArray).size = 1 := rfl
  have z2 : (t1 ++ ⟨#[47]⟩ : ByteArray).size = t1.size + 1 := by rw [ByteArray.size_append, z1]
  have e1 := fun W : World => run_string_add_sum (P := Tryz.prog) W t1 ⟨#[47]⟩ (by rw [z1]; omega)
  have e2 := fun W : World => run_string_add_sum (P := Tryz.prog) W (t1 ++ ⟨#[47]⟩) t2 (by rw [z2]; omega)
  have HB0 := Lib.hid ((Below.refl w.heap.size w).alloc (Nat.le_refl _) (.cells #[.int .i64 a, .int .i64 b] 119))
  have gg : ¬ g = 0 := by omega
  clear h1 h2  hl hb ba hg bg bu s1 s2 z1 z2
  go_enter Tryz.func99, Tryz.ntmps99
  go_wp2
  go_region
  go_wp2_with fail
  refine (C1.out _).mono ?_
  rintro e w1 ⟨rfl, hb⟩
  have HB1 := Lib.hid (HB0.out.drew.trans (hb.mono HB0.out.drew.size))
  clear hb
  go_wp2_with fail
  refine (C2.out _ (HL.out.on HB1.out)).mono ?_
  rintro e w2 ⟨rfl, hb⟩
  have HB2 := Lib.hid (HB1.out.trans (hb.mono HB1.out.size))
  clear hb
  go_wp2
  go_ret
  exact ⟨rfl, HB2.out⟩
set_option maxHeartbeats 1000000 in
set_option maxRecDepth 100000 in
theorem swrite_neg_more (a b g u v n d : Int) (t1 t2 : ByteArray) (hn : -a = n) (hd : -b = d) (hb : b < 0) (ba : a.natAbs ≤ 4000000000000000000) (bb : b.natAbs ≤ 4000000000000000000) (hg : 0 < g) (bg : g ≤ 4000000000000000000)
    (hu : n.tdiv g = u) (bu : u.natAbs ≤ 4000000000000000000) (hv : d.tdiv g = v) (bv : v.natAbs ≤ 4000000000000000000) (he : (d == g) = false) (w : World) (hl : La w)
    (s1 : t1.size ≤ 1000) (s2 : t2.size ≤ 1000)
    (h1 : ∀ W, Calls Tryz.prog 136 #[.int .i64 n, .int .i64 d] W fun e w' => e = .returned (.int .i64 g) ∧ Below W.heap.size W w')
    (h2 : ∀ W, La W → Calls Tryz.prog 139 #[.int .i64 u, .int .i64 10] W fun e w' => e = .returned (.string t1) ∧ Below W.heap.size W w')
    (h3 : ∀ W, La W → Calls Tryz.prog 139 #[.int .i64 v, .int .i64 10] W fun e w' => e = .returned (.string t2) ∧ Below W.heap.size W w') :
    Calls Tryz.prog 99 #[.agg #[.int .i64 a, .int .i64 b]] w fun e w' => e = .returned (.string (t1 ++ ⟨#[47]⟩ ++ t2)) ∧ Below w.heap.size w w' := by
  have k1 : b < 0 := hb
  have x1 : IntKind.i64.wrap (-a) = n := by rw [← hn]; exact IntWalk.i64_in _ (by omega)
  have x2 : IntKind.i64.wrap (-b) = d := by rw [← hd]; exact IntWalk.i64_in _ (by omega)
  clear hn hd
  have C1 := Lib.hid h1
  have C2 := Lib.hid h2
  have C3 := Lib.hid h3
  have HL := Lib.hid hl
  have g0 : (g == 0) = false := by rw [beq_eq_false_iff_ne]; omega
  have wu : IntKind.i64.wrap u = u := IntWalk.i64_in _ (by omega)
  have wv : IntKind.i64.wrap v = v := IntWalk.i64_in _ (by omega)
  have z1 : (⟨#[47]⟩ : ByteArray).size = 1 := rfl
  have z2 : (t1 ++ ⟨#[47]⟩ : ByteArray).size = t1.size + 1 := by rw [ByteArray.size_append, z1]
  have e1 := fun W : World => run_string_add_sum (P := Tryz.prog) W t1 ⟨#[47]⟩ (by rw [z1]; omega)
  have e2 := fun W : World => run_string_add_sum (P := Tryz.prog) W (t1 ++ ⟨#[47]⟩) t2 (by rw [z2]; omega)
  have HB0 := Lib.hid ((Below.refl w.heap.size w).alloc (Nat.le_refl _) (.cells #[.int .i64 a, .int .i64 b] 119))
  have gg : ¬ g = 0 := by omega
  clear h1 h2 h3 bv hl hb ba bb hg bg bu s1 s2 z1 z2
  go_enter Tryz.func99, Tryz.ntmps99
  go_wp2
  go_region
  go_wp2_with fail
  refine (C1.out _).mono ?_
  rintro e w1 ⟨rfl, hb⟩
  have HB1 := Lib.hid (HB0.out.drew.trans (hb.mono HB0.out.drew.size))
  clear hb
  go_wp2_with fail
  go_region_held3 (fun w' => Nix w') (first | exact nix _)
    (first
      | (go_at_call 139; (with_reducible refine (C2.out _ ?la1).mono ?_); (case la1 => first | exact HL.out.on HB1.out | exact HL.out.on HB1.out.drew); rintro e w2 ⟨rfl, hb⟩; have HB2 := Lib.hid (show Below w.heap.size w w2 by first | exact HB1.out.trans (hb.mono HB1.out.size) | exact HB1.out.drew.trans (hb.mono HB1.out.drew.size)); clear hb)
      | (go_at_call 139; (with_reducible refine (C3.out _ ?la2).mono ?_); (case la2 => first | exact HL.out.on HB2.out | exact HL.out.on HB2.out.drew); rintro e w3 ⟨rfl, hb⟩; have HB3 := Lib.hid (show Below w.heap.size w w3 by first | exact HB2.out.trans (hb.mono HB2.out.size) | exact HB2.out.drew.trans (hb.mono HB2.out.drew.size)); clear hb)
      | fail)
  all_goals
    go_wp2
    go_ret
    exact ⟨rfl, by first | exact HB3.out | exact HB3.out.drew⟩
set_option maxHeartbeats 1000000 in
set_option maxRecDepth 100000 in
theorem swrite_pos_one (a g u : Int) (t1 t2 : ByteArray) (hb : 0 < g)   (bg : g ≤ 4000000000000000000)
    (hu : a.tdiv g = u) (bu : u.natAbs ≤ 4000000000000000000) (w : World) (hl : La w)
    (s1 : t1.size ≤ 1000) (s2 : t2.size ≤ 1000)
    (h1 : ∀ W, Calls Tryz.prog 136 #[.int .i64 a, .int .i64 g] W fun e w' => e = .returned (.int .i64 g) ∧ Below W.heap.size W w')
    (h2 : ∀ W, La W → Calls Tryz.prog 139 #[.int .i64 u, .int .i64 10] W fun e w' => e = .returned (.string t1) ∧ Below W.heap.size W w') :
    Calls Tryz.prog 99 #[.agg #[.int .i64 a, .int .i64 g]] w fun e w' => e = .returned (.string t1) ∧ Below w.heap.size w w' := by
  have k1 : decide (g < 0) = false := by rw [decide_eq_false_iff_not]; omega
  have C1 := Lib.hid h1
  have C2 := Lib.hid h2
  have HL := Lib.hid hl
  have g0 : (g == 0) = false := by rw [beq_eq_false_iff_ne]; omega
  have wu : IntKind.i64.wrap u = u := IntWalk.i64_in _ (by omega)
  have z1 : (⟨#[47]⟩ : ByteArray).size = 1 := rfl
  have z2 : (t1 ++ ⟨#[47]⟩ : ByteArray).size = t1.size + 1 := by rw [ByteArray.size_append, z1]
  have e1 := fun W : World => run_string_add_sum (P := Tryz.prog) W t1 ⟨#[47]⟩ (by rw [z1]; omega)
  have e2 := fun W : World => run_string_add_sum (P := Tryz.prog) W (t1 ++ ⟨#[47]⟩) t2 (by rw [z2]; omega)
  have HB0 := Lib.hid ((Below.refl w.heap.size w).alloc (Nat.le_refl _) (.cells #[.int .i64 a, .int .i64 g] 119))
  have gg : ¬ g = 0 := by omega
  clear h1 h2  hl hb bg bu s1 s2 z1 z2
  go_enter Tryz.func99, Tryz.ntmps99
  go_wp2
  go_region
  go_wp2_with fail
  refine (C1.out _).mono ?_
  rintro e w1 ⟨rfl, hb⟩
  have HB1 := Lib.hid (HB0.out.drew.trans (hb.mono HB0.out.drew.size))
  clear hb
  go_wp2_with fail
  refine (C2.out _ (HL.out.on HB1.out)).mono ?_
  rintro e w2 ⟨rfl, hb⟩
  have HB2 := Lib.hid (HB1.out.trans (hb.mono HB1.out.size))
  clear hb
  go_wp2
  go_ret
  exact ⟨rfl, HB2.out⟩
set_option maxHeartbeats 1000000 in
set_option maxRecDepth 100000 in
theorem swrite_pos_more (a b g u v : Int) (t1 t2 : ByteArray) (hb : 0 < b)  (hg : 0 < g) (bg : g ≤ 4000000000000000000)
    (hu : a.tdiv g = u) (bu : u.natAbs ≤ 4000000000000000000) (hv : b.tdiv g = v) (bv : v.natAbs ≤ 4000000000000000000) (he : (b == g) = false) (w : World) (hl : La w)
    (s1 : t1.size ≤ 1000) (s2 : t2.size ≤ 1000)
    (h1 : ∀ W, Calls Tryz.prog 136 #[.int .i64 a, .int .i64 b] W fun e w' => e = .returned (.int .i64 g) ∧ Below W.heap.size W w')
    (h2 : ∀ W, La W → Calls Tryz.prog 139 #[.int .i64 u, .int .i64 10] W fun e w' => e = .returned (.string t1) ∧ Below W.heap.size W w')
    (h3 : ∀ W, La W → Calls Tryz.prog 139 #[.int .i64 v, .int .i64 10] W fun e w' => e = .returned (.string t2) ∧ Below W.heap.size W w') :
    Calls Tryz.prog 99 #[.agg #[.int .i64 a, .int .i64 b]] w fun e w' => e = .returned (.string (t1 ++ ⟨#[47]⟩ ++ t2)) ∧ Below w.heap.size w w' := by
  have k1 : decide (b < 0) = false := by rw [decide_eq_false_iff_not]; omega
  have C1 := Lib.hid h1
  have C2 := Lib.hid h2
  have C3 := Lib.hid h3
  have HL := Lib.hid hl
  have g0 : (g == 0) = false := by rw [beq_eq_false_iff_ne]; omega
  have wu : IntKind.i64.wrap u = u := IntWalk.i64_in _ (by omega)
  have wv : IntKind.i64.wrap v = v := IntWalk.i64_in _ (by omega)
  have z1 : (⟨#[47]⟩ : ByteArray).size = 1 := rfl
  have z2 : (t1 ++ ⟨#[47]⟩ : ByteArray).size = t1.size + 1 := by rw [ByteArray.size_append, z1]
  have e1 := fun W : World => run_string_add_sum (P := Tryz.prog) W t1 ⟨#[47]⟩ (by rw [z1]; omega)
  have e2 := fun W : World => run_string_add_sum (P := Tryz.prog) W (t1 ++ ⟨#[47]⟩) t2 (by rw [z2]; omega)
  have HB0 := Lib.hid ((Below.refl w.heap.size w).alloc (Nat.le_refl _) (.cells #[.int .i64 a, .int .i64 b] 119))
  have gg : ¬ g = 0 := by omega
  clear h1 h2 h3 bv hl hb hg bg bu s1 s2 z1 z2
  go_enter Tryz.func99, Tryz.ntmps99
  go_wp2
  go_region
  go_wp2_with fail
  refine (C1.out _).mono ?_
  rintro e w1 ⟨rfl, hb⟩
  have HB1 := Lib.hid (HB0.out.drew.trans (hb.mono HB0.out.drew.size))
  clear hb
  go_wp2_with fail
  go_region_held3 (fun w' => Nix w') (first | exact nix _)
    (first
      | (go_at_call 139; (with_reducible refine (C2.out _ ?la1).mono ?_); (case la1 => first | exact HL.out.on HB1.out | exact HL.out.on HB1.out.drew); rintro e w2 ⟨rfl, hb⟩; have HB2 := Lib.hid (show Below w.heap.size w w2 by first | exact HB1.out.trans (hb.mono HB1.out.size) | exact HB1.out.drew.trans (hb.mono HB1.out.drew.size)); clear hb)
      | (go_at_call 139; (with_reducible refine (C3.out _ ?la2).mono ?_); (case la2 => first | exact HL.out.on HB2.out | exact HL.out.on HB2.out.drew); rintro e w3 ⟨rfl, hb⟩; have HB3 := Lib.hid (show Below w.heap.size w w3 by first | exact HB2.out.trans (hb.mono HB2.out.size) | exact HB2.out.drew.trans (hb.mono HB2.out.drew.size)); clear hb)
      | fail)
  all_goals
    go_wp2
    go_ret
    exact ⟨rfl, by first | exact HB3.out | exact HB3.out.drew⟩
end Go.Proofs.YtlagimghlngdgaaGreatDoor
/- rational.smallBoth: walks. -/
namespace Go.Proofs.YtlagimghlngdgaaGreatDoor
open Go.RowKit Go.Gb


theorem max_int (a b : Int) : (if b > a then b else a) = max a b := by rw [Int.max_def]; split <;> split <;> omega
theorem run_max4 {P : Program} (w : World) (ts : Array TypeId) (t : TypeId) (k : IntKind) (a b c d : Int) :
    (Builtin.max_ ts t #[.int k a, .int k b, .int k c, .int k d]).run P w = .ok (.int k (max (max (max a b) c) d)) w := by
  simp [Builtin.max_, Builtin.max2, ← max_int]
set_option maxHeartbeats 1000000 in
set_option maxRecDepth 100000 in
theorem smallBoth_no (x1 x2 y1 y2 : ByteArray) (h : 9 < x1.size ∨ 9 < x2.size ∨ 9 < y1.size ∨ 9 < y2.size) (w : World) :
    Calls Tryz.prog 98 #[.agg #[.string x1, .string x2], .agg #[.string y1, .string y2]] w fun e w' => e = .returned (.tuple #[.agg #[.int .i64 0, .int .i64 0], .agg #[.int .i64 0, .int .i64 0], .bool false]) ∧ Below w.heap.size w w' := by
  have hm := @run_max4 Tryz.prog
  have k1 : 9 < max (max (max (x1.size : Int) (x2.size : Int)) (y1.size : Int)) (y2.size : Int) := by omega
  clear h
  go_enter Tryz.func98, Tryz.ntmps98
  go_wp2
  refine bodyPost_ret (v := .tuple #[.agg #[.int .i64 0, .int .i64 0], .agg #[.int .i64 0, .int .i64 0], .bool false]) (by simp [results, Tryz.results98, go_sem]) rfl ⟨rfl, ?_⟩
  repeat (first | exact Below.refl _ _ | refine Below.setCell ?_ (by first | omega | (simp; omega) | simp) _ | refine Below.alloc ?_ (by first | omega | (simp; omega) | simp) _ | refine Below.drew ?_)
set_option maxHeartbeats 1000000 in
set_option maxRecDepth 100000 in
theorem smallBoth_raw (x1 x2 y1 y2 : ByteArray) (a b c d : Int) (h : x1.size ≤ 9 ∧ x2.size ≤ 9 ∧ y1.size ≤ 9 ∧ y2.size ≤ 9) (w : World)
    (h1 : ∀ W, Calls Tryz.prog 137 #[.string x1] W fun e w' => e = .returned (.int .i64 a) ∧ Below W.heap.size W w')
    (h2 : ∀ W, Calls Tryz.prog 137 #[.string x2] W fun e w' => e = .returned (.int .i64 b) ∧ Below W.heap.size W w')
    (h3 : ∀ W, Calls Tryz.prog 137 #[.string y1] W fun e w' => e = .returned (.int .i64 c) ∧ Below W.heap.size W w')
    (h4 : ∀ W, Calls Tryz.prog 137 #[.string y2] W fun e w' => e = .returned (.int .i64 d) ∧ Below W.heap.size W w') :
    Calls Tryz.prog 98 #[.agg #[.string x1, .string x2], .agg #[.string y1, .string y2]] w fun e w' => e = .returned (.tuple #[.agg #[.int .i64 a, .int .i64 b], .agg #[.int .i64 c, .int .i64 d], .bool true]) ∧ Below w.heap.size w w' := by
  have hm := @run_max4 Tryz.prog
  have k1 : decide (9 < max (x1.size : Int) (max (x2.size : Int) (max (y1.size : Int) (y2.size : Int)))) = false := by rw [decide_eq_false_iff_not]; omega
  clear h
  have C1 := Lib.hid h1
  have C2 := Lib.hid h2
  have C3 := Lib.hid h3
  have C4 := Lib.hid h4
  obtain ⟨w0, hw0⟩ : ∃ w0 : World, w0 = ((((w.alloc (.cells #[.string x1, .string x2] 70)).alloc (.cells #[.string y1, .string y2] 70)).alloc (.cells #[.int .i64 0, .int .i64 0] 119)).alloc (.cells #[.int .i64 0, .int .i64 0] 119)) := ⟨_, rfl⟩
  have hz0 : w0.heap.size = w.heap.size + 4 := by rw [hw0]; simp
  have hB0 : Below w.heap.size w w0 := by
    rw [hw0]
    repeat (first | exact Below.refl _ _ | refine Below.setCell ?_ (by first | omega | (simp; omega) | simp) _ | refine Below.alloc ?_ (by first | omega | (simp; omega) | simp) _ | refine Below.drew ?_)
  have hS0 : w0.cell? ⟨w.heap.size, 0, none⟩ = some (.string x1) ∧ w0.cell? ⟨w.heap.size, 1, none⟩ = some (.string x2) ∧ w0.cell? ⟨w.heap.size + 1, 0, none⟩ = some (.string y1) ∧ w0.cell? ⟨w.heap.size + 1, 1, none⟩ = some (.string y2) := by rw [hw0]; exact ⟨((q_lt (by first | omega | (simp; done) | (simp; omega))).trans ((q_lt (by first | omega | (simp; done) | (simp; omega))).trans ((q_lt (by first | omega | (simp; done) | (simp; omega))).trans ((q_new (by first | omega | (simp; done) | (simp; omega))).trans rfl)))), ((q_lt (by first | omega | (simp; done) | (simp; omega))).trans ((q_lt (by first | omega | (simp; done) | (simp; omega))).trans ((q_lt (by first | omega | (simp; done) | (simp; omega))).trans ((q_new (by first | omega | (simp; done) | (simp; omega))).trans rfl)))), ((q_lt (by first | omega | (simp; done) | (simp; omega))).trans ((q_lt (by first | omega | (simp; done) | (simp; omega))).trans ((q_new (by first | omega | (simp; done) | (simp; omega))).trans rfl))), ((q_lt (by first | omega | (simp; done) | (simp; omega))).trans ((q_lt (by first | omega | (simp; done) | (simp; omega))).trans ((q_new (by first | omega | (simp; done) | (simp; omega))).trans rfl)))⟩
  have KS := Lib.hid (show ∀ W : World, Below w0.heap.size w0 W → (W.cell? ⟨w.heap.size, 0, none⟩ = some (.string x1) ∧ W.cell? ⟨w.heap.size, 1, none⟩ = some (.string x2) ∧ W.cell? ⟨w.heap.size + 1, 0, none⟩ = some (.string y1) ∧ W.cell? ⟨w.heap.size + 1, 1, none⟩ = some (.string y2)) from fun W hB => by
    obtain ⟨c0, c1, c2, c3⟩ := hS0
    exact ⟨(hB.cell (p := ⟨w.heap.size, 0, none⟩) (by show w.heap.size < _; omega)).trans c0, (hB.cell (p := ⟨w.heap.size, 1, none⟩) (by show w.heap.size < _; omega)).trans c1, (hB.cell (p := ⟨w.heap.size + 1, 0, none⟩) (by show w.heap.size + 1 < _; omega)).trans c2, (hB.cell (p := ⟨w.heap.size + 1, 1, none⟩) (by show w.heap.size + 1 < _; omega)).trans c3⟩)
  have KZ := Lib.hid (show ∀ W : World, Below w0.heap.size w0 W → w.heap.size + 4 ≤ W.heap.size from fun W hB => by have := hB.size; omega)
  have KB := Lib.hid (show ∀ W : World, Below w0.heap.size w0 W → Below w.heap.size w W from fun W hB => hB0.trans (hB.mono (by omega)))
  have hR0 : w0.cell? ⟨w.heap.size + 1 + 1, 0, none⟩ = some (.int .i64 0) ∧ w0.cell? ⟨w.heap.size + 1 + 1, 1, none⟩ = some (.int .i64 0) ∧ w0.cell? ⟨w.heap.size + 1 + 1 + 1, 0, none⟩ = some (.int .i64 0) ∧ w0.cell? ⟨w.heap.size + 1 + 1 + 1, 1, none⟩ = some (.int .i64 0) ∧ w0.frozen? ⟨w.heap.size + 1 + 1, 0, none⟩ = false ∧ w0.frozen? ⟨w.heap.size + 1 + 1, 1, none⟩ = false ∧ w0.frozen? ⟨w.heap.size + 1 + 1 + 1, 0, none⟩ = false ∧ w0.frozen? ⟨w.heap.size + 1 + 1 + 1, 1, none⟩ = false := by rw [hw0]; exact ⟨((q_lt (by first | omega | (simp; done) | (simp; omega))).trans ((q_new (by first | omega | (simp; done) | (simp; omega))).trans rfl)), ((q_lt (by first | omega | (simp; done) | (simp; omega))).trans ((q_new (by first | omega | (simp; done) | (simp; omega))).trans rfl)), ((q_new (by first | omega | (simp; done) | (simp; omega))).trans rfl), ((q_new (by first | omega | (simp; done) | (simp; omega))).trans rfl), ((fq_lt (by first | omega | (simp; done) | (simp; omega))).trans (fq_new (by first | omega | (simp; done) | (simp; omega)))), ((fq_lt (by first | omega | (simp; done) | (simp; omega))).trans (fq_new (by first | omega | (simp; done) | (simp; omega)))), (fq_new (by first | omega | (simp; done) | (simp; omega))), (fq_new (by first | omega | (simp; done) | (simp; omega)))⟩
  have KR := Lib.hid (show ∀ W : World, Below w0.heap.size w0 W → (W.cell? ⟨w.heap.size + 1 + 1, 0, none⟩ = some (.int .i64 0) ∧ W.cell? ⟨w.heap.size + 1 + 1, 1, none⟩ = some (.int .i64 0) ∧ W.cell? ⟨w.heap.size + 1 + 1 + 1, 0, none⟩ = some (.int .i64 0) ∧ W.cell? ⟨w.heap.size + 1 + 1 + 1, 1, none⟩ = some (.int .i64 0) ∧ W.frozen? ⟨w.heap.size + 1 + 1, 0, none⟩ = false ∧ W.frozen? ⟨w.heap.size + 1 + 1, 1, none⟩ = false ∧ W.frozen? ⟨w.heap.size + 1 + 1 + 1, 0, none⟩ = false ∧ W.frozen? ⟨w.heap.size + 1 + 1 + 1, 1, none⟩ = false) from fun W hB => by
    obtain ⟨c0, c1, c2, c3, f0, f1, f2, f3⟩ := hR0
    exact ⟨(hB.cell (p := ⟨w.heap.size + 1 + 1, 0, none⟩) (by show w.heap.size + 1 + 1 < _; omega)).trans c0, (hB.cell (p := ⟨w.heap.size + 1 + 1, 1, none⟩) (by show w.heap.size + 1 + 1 < _; omega)).trans c1, (hB.cell (p := ⟨w.heap.size + 1 + 1 + 1, 0, none⟩) (by show w.heap.size + 1 + 1 + 1 < _; omega)).trans c2, (hB.cell (p := ⟨w.heap.size + 1 + 1 + 1, 1, none⟩) (by show w.heap.size + 1 + 1 + 1 < _; omega)).trans c3, (hB.frozen (p := ⟨w.heap.size + 1 + 1, 0, none⟩) (by show w.heap.size + 1 + 1 < _; omega)).trans f0, (hB.frozen (p := ⟨w.heap.size + 1 + 1, 1, none⟩) (by show w.heap.size + 1 + 1 < _; omega)).trans f1, (hB.frozen (p := ⟨w.heap.size + 1 + 1 + 1, 0, none⟩) (by show w.heap.size + 1 + 1 + 1 < _; omega)).trans f2, (hB.frozen (p := ⟨w.heap.size + 1 + 1 + 1, 1, none⟩) (by show w.heap.size + 1 + 1 + 1 < _; omega)).trans f3⟩)
  clear hR0
  have KT0 := Lib.hid (show ∀ (W : World) (v u : Value), Below w0.heap.size w0 W → (((W.setCell ⟨w.heap.size + 1 + 1, 0, none⟩ v).setCell ⟨w.heap.size + 1 + 1, 1, none⟩ u).cell? ⟨w.heap.size, 0, none⟩ = some (.string x1) ∧ ((W.setCell ⟨w.heap.size + 1 + 1, 0, none⟩ v).setCell ⟨w.heap.size + 1 + 1, 1, none⟩ u).cell? ⟨w.heap.size, 1, none⟩ = some (.string x2) ∧ ((W.setCell ⟨w.heap.size + 1 + 1, 0, none⟩ v).setCell ⟨w.heap.size + 1 + 1, 1, none⟩ u).cell? ⟨w.heap.size + 1, 0, none⟩ = some (.string y1) ∧ ((W.setCell ⟨w.heap.size + 1 + 1, 0, none⟩ v).setCell ⟨w.heap.size + 1 + 1, 1, none⟩ u).cell? ⟨w.heap.size + 1, 1, none⟩ = some (.string y2)) from fun W v u hB => by
    have hh := KS.out W hB
    obtain ⟨c0, c1, c2, c3⟩ := hh
    exact ⟨(q_set (by omega)).trans ((q_set (by omega)).trans c0), (q_set (by omega)).trans ((q_set (by omega)).trans c1), (q_set (by omega)).trans ((q_set (by omega)).trans c2), (q_set (by omega)).trans ((q_set (by omega)).trans c3)⟩)
  have KT1 := Lib.hid (show ∀ (W : World) (v u : Value), Below w0.heap.size w0 W → (((W.setCell ⟨w.heap.size + 1 + 1 + 1, 0, none⟩ v).setCell ⟨w.heap.size + 1 + 1 + 1, 1, none⟩ u).cell? ⟨w.heap.size, 0, none⟩ = some (.string x1) ∧ ((W.setCell ⟨w.heap.size + 1 + 1 + 1, 0, none⟩ v).setCell ⟨w.heap.size + 1 + 1 + 1, 1, none⟩ u).cell? ⟨w.heap.size, 1, none⟩ = some (.string x2) ∧ ((W.setCell ⟨w.heap.size + 1 + 1 + 1, 0, none⟩ v).setCell ⟨w.heap.size + 1 + 1 + 1, 1, none⟩ u).cell? ⟨w.heap.size + 1, 0, none⟩ = some (.string y1) ∧ ((W.setCell ⟨w.heap.size + 1 + 1 + 1, 0, none⟩ v).setCell ⟨w.heap.size + 1 + 1 + 1, 1, none⟩ u).cell? ⟨w.heap.size + 1, 1, none⟩ = some (.string y2)) from fun W v u hB => by
    have hh := KS.out W hB
    obtain ⟨c0, c1, c2, c3⟩ := hh
    exact ⟨(q_set (by omega)).trans ((q_set (by omega)).trans c0), (q_set (by omega)).trans ((q_set (by omega)).trans c1), (q_set (by omega)).trans ((q_set (by omega)).trans c2), (q_set (by omega)).trans ((q_set (by omega)).trans c3)⟩)
  have KT2 := Lib.hid (show ∀ (W : World) (v u v2 u2 : Value), Below w0.heap.size w0 W → (((((W.setCell ⟨w.heap.size + 1 + 1, 0, none⟩ v).setCell ⟨w.heap.size + 1 + 1, 1, none⟩ u).setCell ⟨w.heap.size + 1 + 1 + 1, 0, none⟩ v2).setCell ⟨w.heap.size + 1 + 1 + 1, 1, none⟩ u2).cell? ⟨w.heap.size, 0, none⟩ = some (.string x1) ∧ ((((W.setCell ⟨w.heap.size + 1 + 1, 0, none⟩ v).setCell ⟨w.heap.size + 1 + 1, 1, none⟩ u).setCell ⟨w.heap.size + 1 + 1 + 1, 0, none⟩ v2).setCell ⟨w.heap.size + 1 + 1 + 1, 1, none⟩ u2).cell? ⟨w.heap.size, 1, none⟩ = some (.string x2) ∧ ((((W.setCell ⟨w.heap.size + 1 + 1, 0, none⟩ v).setCell ⟨w.heap.size + 1 + 1, 1, none⟩ u).setCell ⟨w.heap.size + 1 + 1 + 1, 0, none⟩ v2).setCell ⟨w.heap.size + 1 + 1 + 1, 1, none⟩ u2).cell? ⟨w.heap.size + 1, 0, none⟩ = some (.string y1) ∧ ((((W.setCell ⟨w.heap.size + 1 + 1, 0, none⟩ v).setCell ⟨w.heap.size + 1 + 1, 1, none⟩ u).setCell ⟨w.heap.size + 1 + 1 + 1, 0, none⟩ v2).setCell ⟨w.heap.size + 1 + 1 + 1, 1, none⟩ u2).cell? ⟨w.heap.size + 1, 1, none⟩ = some (.string y2)) from fun W v u v2 u2 hB => by
    have hh := KS.out W hB
    obtain ⟨c0, c1, c2, c3⟩ := hh
    exact ⟨(q_set (by omega)).trans ((q_set (by omega)).trans ((q_set (by omega)).trans ((q_set (by omega)).trans c0))), (q_set (by omega)).trans ((q_set (by omega)).trans ((q_set (by omega)).trans ((q_set (by omega)).trans c1))), (q_set (by omega)).trans ((q_set (by omega)).trans ((q_set (by omega)).trans ((q_set (by omega)).trans c2))), (q_set (by omega)).trans ((q_set (by omega)).trans ((q_set (by omega)).trans ((q_set (by omega)).trans c3)))⟩)
  have F0 := Lib.hid (Below.refl w0.heap.size w0)
  have HW0 := Lib.hid hw0
  clear hz0 hB0 hS0 hw0
  clear h1 h2 h3 h4
  go_enter Tryz.func98, Tryz.ntmps98
  go_wp2_with fail
  rw [← HW0.out]
  obtain ⟨d0, d1, d2, d3⟩ := KS.out _ F0.out
  go_wp2_with fail
  go_region_held3 (fun w' => w'.cell? ⟨w.heap.size, 0, none⟩ = some (.string x1) ∧ w'.cell? ⟨w.heap.size, 1, none⟩ = some (.string x2) ∧ w'.cell? ⟨w.heap.size + 1, 0, none⟩ = some (.string y1) ∧ w'.cell? ⟨w.heap.size + 1, 1, none⟩ = some (.string y2)) (first | (with_reducible exact KS.out _ F4.out) | (with_reducible exact KS.out _ F4.out.drew) | (with_reducible exact KS.out _ F3.out) | (with_reducible exact KS.out _ F3.out.drew) | (with_reducible exact KS.out _ F2.out) | (with_reducible exact KS.out _ F2.out.drew) | (with_reducible exact KS.out _ F1.out) | (with_reducible exact KS.out _ F1.out.drew) | (with_reducible exact KS.out _ F0.out) | (with_reducible exact KS.out _ F0.out.drew) | (with_reducible exact KT2.out _ _ _ _ _ F4.out) | (with_reducible exact KT2.out _ _ _ _ _ F4.out.drew) | (with_reducible exact KT0.out _ _ _ F4.out) | (with_reducible exact KT0.out _ _ _ F4.out.drew) | (with_reducible exact KT1.out _ _ _ F4.out) | (with_reducible exact KT1.out _ _ _ F4.out.drew))
    (first
      | (go_at_call 137; (with_reducible refine (C1.out _).mono ?_); rintro e w1 ⟨rfl, hb⟩; have F1 := Lib.hid (show Below w0.heap.size w0 w1 by first | exact fr_chain F0.out hb | exact fr_chain F0.out.drew hb); clear hb)
      | (go_at_call 137; (with_reducible refine (C2.out _).mono ?_); rintro e w2 ⟨rfl, hb⟩; have F2 := Lib.hid (show Below w0.heap.size w0 w2 by first | exact fr_chain F1.out hb | exact fr_chain F1.out.drew hb); clear hb)
      | (go_at_call 137; (with_reducible refine (C3.out _).mono ?_); rintro e w3 ⟨rfl, hb⟩; have F3 := Lib.hid (show Below w0.heap.size w0 w3 by first | exact fr_chain F2.out hb | exact fr_chain F2.out.drew hb); clear hb)
      | (go_at_call 137; (with_reducible refine (C4.out _).mono ?_); rintro e w4 ⟨rfl, hb⟩; have F4 := Lib.hid (show Below w0.heap.size w0 w4 by first | exact fr_chain F3.out hb | exact fr_chain F3.out.drew hb); clear hb; have hz := KZ.out _ F4.out; obtain ⟨m0, m1, m2, m3, n0, n1, n2, n3⟩ := KR.out _ F4.out)
      | fail)
  all_goals
    have hz := KZ.out _ F4.out
    go_wp2
    refine bodyPost_ret (v := .tuple #[.agg #[.int .i64 a, .int .i64 b], .agg #[.int .i64 c, .int .i64 d], .bool true]) (by simp [results, Tryz.results98, go_sem, m0, m1, m2, m3]) rfl ⟨rfl, ?_⟩
    repeat (first | exact KB.out _ F4.out | refine Below.setCell ?_ (by first | omega | (simp; omega) | simp) _ | refine Below.alloc ?_ (by first | omega | (simp; omega) | simp) _ | refine Below.drew ?_)

end Go.Proofs.YtlagimghlngdgaaGreatDoor
