/- Texts of this proof, one behind the other. -/
import Derived.Test.YtohaocgbclpknaaGreatDoorMz16q
/- integer: differences, products, comparison of numbers as structs: walks. -/
namespace Go.Proofs.YtohaocgbclpknaaGreatDoor
open Go.RowKit Go.Gb

set_option maxHeartbeats 2000000 in
set_option maxRecDepth 100000 in
theorem subtract_walk (s t t' r : Int) (b c d : ByteArray) (w : World)
    (hneg : ∀ W, Calls Tryz.prog 38 #[.agg #[.int .i64 t, .string c]] W fun e w' => e = .returned (.agg #[.int .i64 t', .string c]) ∧ Below W.heap.size W w')
    (hadd : ∀ W, Below w.heap.size w W → Calls Tryz.prog 36 #[.agg #[.int .i64 s, .string b], .agg #[.int .i64 t', .string c]] W fun e w' => e = .returned (.agg #[.int .i64 r, .string d]) ∧ Below W.heap.size W w') :
    Calls Tryz.prog 27 #[.agg #[.int .i64 s, .string b], .agg #[.int .i64 t, .string c]] w fun e w' => e = .returned (.agg #[.int .i64 r, .string d]) ∧ Below w.heap.size w w' := by
  have HN := Lib.hid hneg
  have HA := Lib.hid hadd
  clear hneg hadd
  have hb0 := ((((Below.refl w.heap.size w).alloc (Nat.le_refl _) (.cells #[.int .i64 s, .string b] 40)).alloc (by simp) (.cells #[.int .i64 t, .string c] 40)).alloc (by simp; omega) (.cells #[.int .i64 0, .string ⟨#[]⟩] 40))
  have HB0 := Lib.hid hb0
  clear hb0
  go_enter Tryz.func27, Tryz.ntmps27
  go_wp2
  go_region_with (first | (go_at_call 38; go_must (refine (HN.out _).mono ?_; rintro e w1 ⟨rfl, hb1⟩; obtain ⟨hc1, hf1⟩ := bcell hb1; have HB1 : Below w.heap.size w w1 := (by first | exact HB0.out.trans (hb1.mono HB0.out.size) | exact HB0.out.drew.trans (hb1.mono HB0.out.drew.size)); have hz1 : w.heap.size + 2 < w1.heap.size := (by have := hb1.size; (try simp at this); omega); have q1 : w.heap.size < w1.heap.size := (by omega); have q2 : w.heap.size + 1 < w1.heap.size := (by omega); have q3 : w.heap.size + 1 + 1 < w1.heap.size := (by omega))) | (go_at_call 36; go_must (refine (HA.out _ HB1).mono ?_; rintro e w2 ⟨rfl, hb2⟩; obtain ⟨hc2, hf2⟩ := bcell hb2; have HB2 : Below w.heap.size w w2 := HB1.trans (hb2.mono HB1.size); have hz2 : w.heap.size + 2 < w2.heap.size := (by have := hb2.size; omega))))
  all_goals
    clear hb1 hb2
    go_wp2
    refine bodyPost_ret (v := .agg #[.int .i64 r, .string d]) (by simp [results, Tryz.results27, go_sem, hc1, hc2, q3]) rfl ⟨rfl, ?_⟩
    repeat (first | exact HB2 | refine Below.setCell ?_ (by first | omega | (simp; omega) | simp) _ | refine Below.drew ?_)
theorem zsubtract (x y : Int) (hx : FitZ x) (hy : FitZ y) (w : World) (hl : La w) :
    Calls Tryz.prog 27 #[Zv x, Zv y] w fun e w' => e = .returned (Zv (x - y)) ∧ Below w.heap.size w w' := by
  have hn := fun W => negative_any y W
  have ha := fun W (hW : Below w.heap.size w W) => add_any' x (-y) hx (by unfold FitZ; rw [Int.natAbs_neg]; exact hy) W (hl.on hW)
  rw [Int.sub_eq_add_neg]
  unfold Zv at *
  rw [Int.natAbs_neg] at hn ha
  exact subtract_walk _ _ _ _ _ _ _ w hn ha
theorem multiply_any (x y : Int) (hx : FitZ x) (hy : FitZ y) (w : World) (hl : La w) :
    Calls Tryz.prog 28 #[Zv x, Zv y] w fun e w' => e = .returned (Zv (x * y)) ∧ Below w.heap.size w w' := by
  have h := multiply_raw x.sign y.sign (x * y).sign x.natAbs y.natAbs (x * y).natAbs (Int.sign_mul x y).symm (Int.natAbs_mul x y).symm (by rcases Int.sign_trichotomy (x * y) with h | h | h <;> omega) hx hy w hl.tb
  exact h

/-! ### comparison -/
def cmpZ (x y : Int) : Int := if x < y then -1 else if y < x then 1 else 0
theorem cmpZ_lt {x y : Int} (h : x < y) : cmpZ x y = -1 := by unfold cmpZ; rw [if_pos h]
theorem cmpZ_gt {x y : Int} (h : y < x) : cmpZ x y = 1 := by unfold cmpZ; rw [if_neg (by omega), if_pos h]
theorem cmpZ_eq (x : Int) : cmpZ x x = 0 := by unfold cmpZ; rw [if_neg (by omega), if_neg (by omega)]
set_option maxHeartbeats 1000000 in
theorem compare_same (s : Int) (b : ByteArray) (w : World) :
    Calls Tryz.prog 39 #[.agg #[.int .i64 s, .string b], .agg #[.int .i64 s, .string b]] w fun e w' => e = .returned (.int .i64 0) ∧ Below w.heap.size w w' := by
  go_enter Tryz.func39, Tryz.ntmps39
  go_wp2
  go_ret
  refine ⟨rfl, ?_⟩
  repeat (first | exact Below.refl _ _ | refine Below.alloc ?_ (by simp) _)
set_option maxHeartbeats 1000000 in
theorem compare_signs (s t r : Int) (b c : ByteArray) (hst : s ≠ t) (hr : Lib.compareInt s t = r) (w : World) :
    Calls Tryz.prog 39 #[.agg #[.int .i64 s, .string b], .agg #[.int .i64 t, .string c]] w fun e w' => e = .returned (.int .i64 r) ∧ Below w.heap.size w w' := by
  have HC := Lib.hid (fun (W : World) => Tryz.cmp_Compare_int s t W)
  rw [hr] at HC
  have h1 : (s == t) = false := by simpa using hst
  clear hr
  go_enter Tryz.func39, Tryz.ntmps39
  go_wp2_with fail
  refine (HC.out _).mono ?_
  rintro e w' ⟨rfl, rfl⟩
  go_wp2
  go_ret
  refine ⟨rfl, ?_⟩
  repeat (first | exact Below.refl _ _ | refine Below.alloc ?_ (by simp) _)
set_option maxHeartbeats 1000000 in
theorem compare_sizes (s r : Int) (m n : Nat) (hmn : m ≠ n) (hr : cmpN m n * s = r) (h1 : -1 ≤ r) (h2 : r ≤ 1) (hm : Fit m) (hn : Fit n) (w : World) :
    Calls Tryz.prog 39 #[Zr s m, Zr s n] w fun e w' => e = .returned (.int .i64 r) ∧ Below w.heap.size w w' := by
  have HC := Lib.hid (fun (W : World) => nCompare m n hm hn W)
  have hne := sn_neq hmn
  unfold Zr
  generalize cmpN m n = cc at *
  clear hm hn
  go_enter Tryz.func39, Tryz.ntmps39
  go_wp2_with fail
  refine (HC.out _).mono ?_
  rintro e w' ⟨rfl, rfl⟩
  go_wp2
  go_ret
  refine ⟨rfl, ?_⟩
  repeat (first | exact Below.refl _ _ | refine Below.alloc ?_ (by simp) _)
theorem compare_any (x y : Int) (hx : FitZ x) (hy : FitZ y) (w : World) :
    Calls Tryz.prog 39 #[Zv x, Zv y] w fun e w' => e = .returned (.int .i64 (cmpZ x y)) ∧ Below w.heap.size w w' := by
  by_cases hxy : x = y
  · subst hxy
    rw [cmpZ_eq]
    exact compare_same _ _ w
  · by_cases hs : x.sign = y.sign
    · rcases int_cases x with ⟨m, hm, rfl⟩ | rfl | ⟨m, hm, rfl⟩
      · rcases int_cases y with ⟨n, hn, rfl⟩ | rfl | ⟨n, hn, rfl⟩
        · rw [zv_neg hm, zv_neg hn]
          rcases Nat.lt_or_gt_of_ne (show m ≠ n by omega) with h | h
          · rw [cmpZ_gt (by omega)]
            exact compare_sizes (-1) 1 m n (by omega) (by rw [cmpN_lt h]; rfl) (by decide) (by decide) hx.neg hy.neg w
          · rw [cmpZ_lt (by omega)]
            exact compare_sizes (-1) (-1) m n (by omega) (by rw [cmpN_gt h]; rfl) (by decide) (by decide) hx.neg hy.neg w
        · rw [Int.sign_neg, Int.sign_natCast_of_ne_zero hm] at hs; simp at hs
        · rw [Int.sign_neg, Int.sign_natCast_of_ne_zero hm, Int.sign_natCast_of_ne_zero hn] at hs; simp at hs
      · rw [Int.sign_zero] at hs
        exact absurd (Int.sign_eq_zero_iff_zero.1 hs.symm).symm hxy
      · rcases int_cases y with ⟨n, hn, rfl⟩ | rfl | ⟨n, hn, rfl⟩
        · rw [Int.sign_neg, Int.sign_natCast_of_ne_zero hm, Int.sign_natCast_of_ne_zero hn] at hs; simp at hs
        · rw [Int.sign_natCast_of_ne_zero hm] at hs; simp at hs
        · rw [zv_pos hm, zv_pos hn]
          rcases Nat.lt_or_gt_of_ne (show m ≠ n by omega) with h | h
          · rw [cmpZ_lt (by omega)]
            exact compare_sizes 1 (-1) m n (by omega) (by rw [cmpN_lt h]; rfl) (by decide) (by decide) hx.nat hy.nat w
          · rw [cmpZ_gt (by omega)]
            exact compare_sizes 1 1 m n (by omega) (by rw [cmpN_gt h]; rfl) (by decide) (by decide) hx.nat hy.nat w
    · refine compare_signs _ _ (cmpZ x y) _ _ hs ?_ w
      unfold Lib.compareInt cmpZ
      rcases Int.sign_trichotomy x with h1 | h1 | h1 <;> rcases Int.sign_trichotomy y with h2 | h2 | h2 <;> rw [h1, h2] at hs ⊢
      all_goals first | exact absurd rfl hs | skip
      all_goals
        have g1 := @Int.sign_eq_one_iff_pos x
        have g2 := @Int.sign_eq_neg_one_iff_neg x
        have g3 := @Int.sign_eq_zero_iff_zero x
        have k1 := @Int.sign_eq_one_iff_pos y
        have k2 := @Int.sign_eq_neg_one_iff_neg y
        have k3 := @Int.sign_eq_zero_iff_zero y
        rw [h1] at g1 g2 g3
        rw [h2] at k1 k2 k3
        simp at g1 g2 g3 k1 k2 k3
        repeat (first | rw [if_pos (by omega)] | rw [if_neg (by omega)])

end Go.Proofs.YtohaocgbclpknaaGreatDoor
/- integer: Add, Sub, Mul, Compare, Sign, Abs, Neg: walks. -/
namespace Go.Proofs.YtohaocgbclpknaaGreatDoor
open Go.RowKit Go.Gb


set_option maxHeartbeats 1000000 in
set_option maxRecDepth 100000 in
theorem operate_add (a1 a2 : ByteArray) (s t r : Int) (b c d : ByteArray) (res : ByteArray) (w : World)
    (hread : Calls Tryz.prog 19 #[.string a1, .string a2] w fun e w' => e = .returned (.tuple #[.agg #[.int .i64 s, .string b], .agg #[.int .i64 t, .string c], .bool true]) ∧ Below w.heap.size w w')
    (hop : ∀ W, Below w.heap.size w W → Calls Tryz.prog 36 #[.agg #[.int .i64 s, .string b], .agg #[.int .i64 t, .string c]] W fun e w' => e = .returned (.agg #[.int .i64 r, .string d]) ∧ Below W.heap.size W w')
    (hstr : ∀ W, Calls Tryz.prog 21 #[.agg #[.int .i64 r, .string d]] W fun e w' => e = .returned (.string res) ∧ Below W.heap.size W w') :
    Calls Tryz.prog 35 #[.string a1, .string a2, .func (.func 36) #[] #[]] w fun e w' => e = .returned (.tuple #[.string res, .int .i64 0]) ∧ Below w.heap.size w w' := by
  have HR := Lib.hid hread
  have HO := Lib.hid hop
  have HS := Lib.hid hstr
  clear hread hop hstr
  go_enter Tryz.func35, Tryz.ntmps35
  go_wp2_with fail
  refine HR.out.mono ?_
  rintro e w1 ⟨rfl, hb1⟩
  have HB1 := Lib.hid ((hb1.alloc hb1.size (.cells #[.int .i64 s, .string b] 40)).alloc (by have := hb1.size; simp; omega) (.cells #[.int .i64 t, .string c] 40))
  clear hb1
  go_wp2_with fail
  refine (HO.out _ HB1.out).mono ?_
  rintro e w2 ⟨rfl, hb2⟩
  have HB2 := Lib.hid (HB1.out.trans (hb2.mono HB1.out.size))
  clear hb2
  go_wp2_with fail
  refine (HS.out _).mono ?_
  rintro e w3 ⟨rfl, hb3⟩
  have HB3 := Lib.hid (HB2.out.trans (hb3.mono HB2.out.size))
  clear hb3
  go_wp2
  go_ret2
  exact ⟨rfl, HB3.out⟩
set_option maxHeartbeats 1000000 in
set_option maxRecDepth 100000 in
theorem operate_subtract (a1 a2 : ByteArray) (s t r : Int) (b c d : ByteArray) (res : ByteArray) (w : World)
    (hread : Calls Tryz.prog 19 #[.string a1, .string a2] w fun e w' => e = .returned (.tuple #[.agg #[.int .i64 s, .string b], .agg #[.int .i64 t, .string c], .bool true]) ∧ Below w.heap.size w w')
    (hop : ∀ W, Below w.heap.size w W → Calls Tryz.prog 27 #[.agg #[.int .i64 s, .string b], .agg #[.int .i64 t, .string c]] W fun e w' => e = .returned (.agg #[.int .i64 r, .string d]) ∧ Below W.heap.size W w')
    (hstr : ∀ W, Calls Tryz.prog 21 #[.agg #[.int .i64 r, .string d]] W fun e w' => e = .returned (.string res) ∧ Below W.heap.size W w') :
    Calls Tryz.prog 35 #[.string a1, .string a2, .func (.func 27) #[] #[]] w fun e w' => e = .returned (.tuple #[.string res, .int .i64 0]) ∧ Below w.heap.size w w' := by
  have HR := Lib.hid hread
  have HO := Lib.hid hop
  have HS := Lib.hid hstr
  clear hread hop hstr
  go_enter Tryz.func35, Tryz.ntmps35
  go_wp2_with fail
  refine HR.out.mono ?_
  rintro e w1 ⟨rfl, hb1⟩
  have HB1 := Lib.hid ((hb1.alloc hb1.size (.cells #[.int .i64 s, .string b] 40)).alloc (by have := hb1.size; simp; omega) (.cells #[.int .i64 t, .string c] 40))
  clear hb1
  go_wp2_with fail
  refine (HO.out _ HB1.out).mono ?_
  rintro e w2 ⟨rfl, hb2⟩
  have HB2 := Lib.hid (HB1.out.trans (hb2.mono HB1.out.size))
  clear hb2
  go_wp2_with fail
  refine (HS.out _).mono ?_
  rintro e w3 ⟨rfl, hb3⟩
  have HB3 := Lib.hid (HB2.out.trans (hb3.mono HB2.out.size))
  clear hb3
  go_wp2
  go_ret2
  exact ⟨rfl, HB3.out⟩
set_option maxHeartbeats 1000000 in
set_option maxRecDepth 100000 in
theorem operate_multiply (a1 a2 : ByteArray) (s t r : Int) (b c d : ByteArray) (res : ByteArray) (w : World)
    (hread : Calls Tryz.prog 19 #[.string a1, .string a2] w fun e w' => e = .returned (.tuple #[.agg #[.int .i64 s, .string b], .agg #[.int .i64 t, .string c], .bool true]) ∧ Below w.heap.size w w')
    (hop : ∀ W, Below w.heap.size w W → Calls Tryz.prog 28 #[.agg #[.int .i64 s, .string b], .agg #[.int .i64 t, .string c]] W fun e w' => e = .returned (.agg #[.int .i64 r, .string d]) ∧ Below W.heap.size W w')
    (hstr : ∀ W, Calls Tryz.prog 21 #[.agg #[.int .i64 r, .string d]] W fun e w' => e = .returned (.string res) ∧ Below W.heap.size W w') :
    Calls Tryz.prog 35 #[.string a1, .string a2, .func (.func 28) #[] #[]] w fun e w' => e = .returned (.tuple #[.string res, .int .i64 0]) ∧ Below w.heap.size w w' := by
  have HR := Lib.hid hread
  have HO := Lib.hid hop
  have HS := Lib.hid hstr
  clear hread hop hstr
  go_enter Tryz.func35, Tryz.ntmps35
  go_wp2_with fail
  refine HR.out.mono ?_
  rintro e w1 ⟨rfl, hb1⟩
  have HB1 := Lib.hid ((hb1.alloc hb1.size (.cells #[.int .i64 s, .string b] 40)).alloc (by have := hb1.size; simp; omega) (.cells #[.int .i64 t, .string c] 40))
  clear hb1
  go_wp2_with fail
  refine (HO.out _ HB1.out).mono ?_
  rintro e w2 ⟨rfl, hb2⟩
  have HB2 := Lib.hid (HB1.out.trans (hb2.mono HB1.out.size))
  clear hb2
  go_wp2_with fail
  refine (HS.out _).mono ?_
  rintro e w3 ⟨rfl, hb3⟩
  have HB3 := Lib.hid (HB2.out.trans (hb3.mono HB2.out.size))
  clear hb3
  go_wp2
  go_ret2
  exact ⟨rfl, HB3.out⟩
set_option maxHeartbeats 1000000 in
theorem zAdd (x y z : Int) (hz : x + y = z) (hx : FitZ x) (hy : FitZ y) (fz : FitZ z) (w : World) (hl : La w) :
    Calls Tryz.prog 10 #[.string (Sz x), .string (Sz y)] w fun e w' => e = .returned (.tuple #[.string (Sz z), .int .i64 0]) ∧ Below w.heap.size w w' := by
  subst hz
  have HO := Lib.hid (operate_add (Sz x) (Sz y) _ _ _ _ _ _ (Sz (x + y)) w (readBoth_yes x y hx hy w hl.zz) (fun W hW => add_any' x y hx hy W (hl.on hW)) (fun W => string_any (x + y) fz W))
  clear hl
  generalize Sz (x + y) = d at *
  go_enter Tryz.func10, Tryz.ntmps10
  go_wp2_with fail
  refine HO.out.mono ?_
  rintro e w1 ⟨rfl, hb1⟩
  go_wp2
  go_ret2
  exact ⟨rfl, hb1⟩
set_option maxHeartbeats 1000000 in
theorem zSub (x y z : Int) (hz : x - y = z) (hx : FitZ x) (hy : FitZ y) (fz : FitZ z) (w : World) (hl : La w) :
    Calls Tryz.prog 11 #[.string (Sz x), .string (Sz y)] w fun e w' => e = .returned (.tuple #[.string (Sz z), .int .i64 0]) ∧ Below w.heap.size w w' := by
  subst hz
  have HO := Lib.hid (operate_subtract (Sz x) (Sz y) _ _ _ _ _ _ (Sz (x - y)) w (readBoth_yes x y hx hy w hl.zz) (fun W hW => zsubtract x y hx hy W (hl.on hW)) (fun W => string_any (x - y) fz W))
  clear hl
  generalize Sz (x - y) = d at *
  go_enter Tryz.func11, Tryz.ntmps11
  go_wp2_with fail
  refine HO.out.mono ?_
  rintro e w1 ⟨rfl, hb1⟩
  go_wp2
  go_ret2
  exact ⟨rfl, hb1⟩
set_option maxHeartbeats 1000000 in
theorem zMul (x y z : Int) (hz : x * y = z) (hx : FitZ x) (hy : FitZ y) (fz : FitZ z) (w : World) (hl : La w) :
    Calls Tryz.prog 12 #[.string (Sz x), .string (Sz y)] w fun e w' => e = .returned (.tuple #[.string (Sz z), .int .i64 0]) ∧ Below w.heap.size w w' := by
  subst hz
  have HO := Lib.hid (operate_multiply (Sz x) (Sz y) _ _ _ _ _ _ (Sz (x * y)) w (readBoth_yes x y hx hy w hl.zz) (fun W hW => multiply_any x y hx hy W (hl.on hW)) (fun W => string_any (x * y) fz W))
  clear hl
  generalize Sz (x * y) = d at *
  go_enter Tryz.func12, Tryz.ntmps12
  go_wp2_with fail
  refine HO.out.mono ?_
  rintro e w1 ⟨rfl, hb1⟩
  go_wp2
  go_ret2
  exact ⟨rfl, hb1⟩
set_option maxHeartbeats 1000000 in
theorem zCompare (x y : Int) (c : Int) (hc : cmpZ x y = c) (hx : FitZ x) (hy : FitZ y) (w : World) (hl : La w) :
    Calls Tryz.prog 16 #[.string (Sz x), .string (Sz y)] w fun e w' => e = .returned (.tuple #[.int .i64 c, .int .i64 0]) ∧ Below w.heap.size w w' := by
  have HR := Lib.hid (readBoth_yes x y hx hy w hl.zz)
  have HC := Lib.hid (fun W => compare_any x y hx hy W)
  rw [hc] at HC
  unfold Zv at *
  generalize x.sign = s at *
  generalize y.sign = t at *
  generalize Sn x.natAbs = b at *
  generalize Sn y.natAbs = d at *
  clear hl hc hx hy
  go_enter Tryz.func16, Tryz.ntmps16
  go_wp2_with fail
  refine HR.out.mono ?_
  rintro e w1 ⟨rfl, hb1⟩
  have HB1 := Lib.hid ((hb1.alloc hb1.size (.cells #[.int .i64 s, .string b] 40)).alloc (by have := hb1.size; simp; omega) (.cells #[.int .i64 t, .string d] 40))
  clear hb1
  go_wp2_with fail
  refine (HC.out _).mono ?_
  rintro e w2 ⟨rfl, hb2⟩
  have HB2 := Lib.hid (HB1.out.trans (hb2.mono HB1.out.size))
  clear hb2
  go_wp2
  go_ret2
  exact ⟨rfl, HB2.out⟩
set_option maxHeartbeats 1000000 in
theorem zSign (x : Int) (hx : FitZ x) (w : World) (hl : La w) :
    Calls Tryz.prog 13 #[.string (Sz x)] w fun e w' => e = .returned (.tuple #[.int .i64 x.sign, .int .i64 0]) ∧ Below w.heap.size w w' := by
  have HR := Lib.hid (read_yes x hx w hl.zz)
  unfold Zv at *
  generalize x.sign = s at *
  generalize Sn x.natAbs = b at *
  clear hl hx
  go_enter Tryz.func13, Tryz.ntmps13
  go_wp2_with fail
  refine HR.out.mono ?_
  rintro e w1 ⟨rfl, hb1⟩
  have HB1 := Lib.hid (hb1.alloc hb1.size (.cells #[.int .i64 s, .string b] 40))
  clear hb1
  go_wp2
  go_ret2
  exact ⟨rfl, HB1.out⟩
set_option maxHeartbeats 1000000 in
theorem zAbs (x : Int) (hx : FitZ x) (w : World) (hl : La w) :
    Calls Tryz.prog 14 #[.string (Sz x)] w fun e w' => e = .returned (.tuple #[.string (Sn x.natAbs), .int .i64 0]) ∧ Below w.heap.size w w' := by
  have HR := Lib.hid (read_yes x hx w hl.zz)
  unfold Zv at *
  generalize x.sign = s at *
  generalize Sn x.natAbs = b at *
  clear hl hx
  go_enter Tryz.func14, Tryz.ntmps14
  go_wp2_with fail
  refine HR.out.mono ?_
  rintro e w1 ⟨rfl, hb1⟩
  have HB1 := Lib.hid (hb1.alloc hb1.size (.cells #[.int .i64 s, .string b] 40))
  clear hb1
  go_wp2
  go_ret2
  exact ⟨rfl, HB1.out⟩
set_option maxHeartbeats 1000000 in
theorem zNeg (x : Int) (hx : FitZ x) (w : World) (hl : La w) :
    Calls Tryz.prog 15 #[.string (Sz x)] w fun e w' => e = .returned (.tuple #[.string (Sz (-x)), .int .i64 0]) ∧ Below w.heap.size w w' := by
  have HR := Lib.hid (read_yes x hx w hl.zz)
  have HN := Lib.hid (fun W => negative_any x W)
  have HS := Lib.hid (fun W => string_any (-x) (by unfold FitZ; rw [Int.natAbs_neg]; exact hx) W)
  unfold Zv at *
  rw [Int.sign_neg, Int.natAbs_neg] at HN HS
  generalize Sz (-x) = dd at *
  generalize x.sign = s at *
  generalize Sn x.natAbs = b at *
  generalize hns : -s = ns at *
  clear hns
  clear hl hx
  go_enter Tryz.func15, Tryz.ntmps15
  go_wp2_with fail
  refine HR.out.mono ?_
  rintro e w1 ⟨rfl, hb1⟩
  have HB1 := Lib.hid (hb1.alloc hb1.size (.cells #[.int .i64 s, .string b] 40))
  clear hb1
  go_wp2_with fail
  refine (HN.out _).mono ?_
  rintro e w2 ⟨rfl, hb2⟩
  have HB2 := Lib.hid (HB1.out.trans (hb2.mono HB1.out.size))
  clear hb2
  go_wp2_with fail
  refine (HS.out _).mono ?_
  rintro e w3 ⟨rfl, hb3⟩
  have HB3 := Lib.hid (HB2.out.trans (hb3.mono HB2.out.size))
  clear hb3
  go_wp2
  go_ret2
  exact ⟨rfl, HB3.out⟩
end Go.Proofs.YtohaocgbclpknaaGreatDoor
/- integer: quotients of numbers as structs: walks. -/
namespace Go.Proofs.YtohaocgbclpknaaGreatDoor
open Go.RowKit Go.Gb

set_option maxHeartbeats 2000000 in
set_option maxRecDepth 100000 in
theorem divPos_raw (s t : Int) (m n : Nat) (q r : Int) (ht : t = 1 ∨ t = -1) (hn : n ≠ 0) (hq : q = t * ((m / n : Nat) : Int)) (hr : r = ((m % n : Nat) : Int)) (hfm : Fit m) (hfn : Fit n) (w : World) (hl : La w) :
    Calls Tryz.prog 43 #[Zr s m, Zr t n] w fun e w' => e = .returned (.tuple #[Zv q, Zv r]) ∧ Below w.heap.size w w' := by
  have HD := Lib.hid (fun (W : World) (T : Tb W) => nDivMod m n hfm hfn hn W T)
  have HQ := Lib.hid (fun (W : World) (Z : Zz W) => signed_any t (m / n) q hq ht W Z)
  have HR := Lib.hid (fun (W : World) (Z : Zz W) => signed_any 1 (m % n) r (by rw [hr]; omega) (Or.inl rfl) W Z)
  have HL := Lib.hid hl
  unfold Zr
  unfold Zv at *
  generalize q.sign = qs at *
  generalize Sn q.natAbs = qb at *
  generalize r.sign = rs at *
  generalize Sn r.natAbs = rb at *
  have HB0 := Lib.hid (((((Below.refl w.heap.size w).alloc (Nat.le_refl _) (.cells #[.int .i64 s, .string (Sn m)] 40)).alloc (by simp) (.cells #[.int .i64 t, .string (Sn n)] 40)).alloc (by simp; omega) (.cells #[.int .i64 0, .string ⟨#[]⟩] 40)).alloc (by simp; omega) (.cells #[.int .i64 0, .string ⟨#[]⟩] 40))
  generalize Sn (m / n) = sq at *
  generalize Sn (m % n) = sr at *
  clear ht hn hq hr hfm hfn hl
  go_enter Tryz.func43, Tryz.ntmps43
  go_wp2_with fail
  refine (HD.out _ (HL.out.on HB0.out).tb).mono ?_
  rintro e w1 ⟨rfl, hb1⟩
  have HB1 := Lib.hid (HB0.out.trans (hb1.mono HB0.out.size))
  obtain ⟨hc1, hf1⟩ := bcell hb1
  have hz1 := hb1.size
  simp at hz1
  clear hb1
  go_wp2_with fail
  refine (HQ.out _ (HL.out.on HB1.out).zz).mono ?_
  rintro e w2 ⟨rfl, hb2⟩
  have HB2 := Lib.hid (HB1.out.trans (hb2.mono HB1.out.size))
  have p1 : w.heap.size < w1.heap.size := by omega
  have p2 : w.heap.size + 1 < w1.heap.size := by omega
  have p3 : w.heap.size + 1 + 1 < w1.heap.size := by omega
  have p4 : w.heap.size + 1 + 1 + 1 < w1.heap.size := by omega
  obtain ⟨hc2, hf2⟩ := bcell hb2
  have hz2 := hb2.size
  clear hb2
  go_wp2_with fail
  refine (HR.out _ (HL.out.on HB2.out).zz).mono ?_
  rintro e w3 ⟨rfl, hb3⟩
  have HB3 := Lib.hid (HB2.out.trans (hb3.mono HB2.out.size))
  have q1 : w.heap.size < w2.heap.size := by omega
  have q2 : w.heap.size + 1 < w2.heap.size := by omega
  have q3 : w.heap.size + 1 + 1 < w2.heap.size := by omega
  have q4 : w.heap.size + 1 + 1 + 1 < w2.heap.size := by omega
  obtain ⟨hc3, hf3⟩ := bcell hb3
  have hz3 := hb3.size
  have r4 : w.heap.size + 1 + 1 + 1 < w3.heap.size := by omega
  clear hb3 hz1 hz2 hz3
  go_wp2
  refine bodyPost_ret (v := .tuple #[.agg #[.int .i64 qs, .string qb], .agg #[.int .i64 rs, .string rb]]) (by simp [results, Tryz.results43, go_sem, hc1, hc2, hc3, p3, p4, q3, q4]) rfl ⟨rfl, ?_⟩
  repeat (first | exact HB3.out | refine Below.setCell ?_ (by first | omega | (simp; omega) | simp) _ | refine Below.drew ?_)

set_option maxHeartbeats 1000000 in
theorem divZero_raw (b c : ByteArray) (s t : Int) (w : World) (hl : Zz w) :
    Calls Tryz.prog 42 #[.agg #[.int .i64 s, .string b], .agg #[.int .i64 t, .string c]] w fun e w' => e = .returned (.tuple #[Zv 0, Zv 0]) ∧ Below w.heap.size w w' := by
  rw [zv_zero]
  obtain ⟨h0, h1, h2⟩ := hl
  go_enter Tryz.func42, Tryz.ntmps42
  go_wp2
  have n1 : 0 ≠ w.heap.size + 1 + 1 := by omega
  have n2 : 0 ≠ w.heap.size + 1 + 1 + 1 := by omega
  have n3 : ¬ w.heap.size = 0 := by omega
  go_region
  all_goals
    go_wp2
    refine bodyPost_ret (v := .tuple #[.agg #[.int .i64 0, .string ⟨#[48]⟩], .agg #[.int .i64 0, .string ⟨#[48]⟩]]) (by simp [results, Tryz.results42, go_sem]) rfl ⟨rfl, ?_⟩
    repeat (first | exact Below.refl _ _ | refine Below.setCell ?_ (by simp <;> omega) _ | refine Below.alloc ?_ (by simp <;> omega) _ | refine Below.drew ?_)

end Go.Proofs.YtohaocgbclpknaaGreatDoor
