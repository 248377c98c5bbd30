/- Texts of this proof, one behind the other. -/
import Derived.Test.YtlagimghlngdgaaGreatDoorMkf
import Derived.BigRegion
import Derived.Test.YtlagimghlngdgaaGreatDoorMnb
import Derived.Lib.CutLaws
/- integer.read, Valid, readBoth: walks. -/
namespace Go.Proofs.YtlagimghlngdgaaGreatDoor
open Go.RowKit Go.Gb

/-- Is a text an integer; its value. -/
def vldZ (l : List UInt8) : Bool := match l with
  | [] => false
  | c :: t => if c = 45 then vld t && !(t == [48]) else vld (c :: t)
def zval (l : List UInt8) : Int := match l with
  | [] => 0
  | c :: t => if c = 45 then -(dval t : Int) else (dval (c :: t) : Int)
theorem head_dig {n : Nat} : ∃ c t, Lib.decDigits n = c :: t ∧ c ≠ 45 := by
  cases h : Lib.decDigits n with
  | nil => exact absurd h (dec_ne_nil n)
  | cons c t =>
    refine ⟨c, t, rfl, ?_⟩
    have h1 := dec_all n
    rw [h] at h1
    simp only [List.all_cons, Bool.and_eq_true] at h1
    have h2 := (isD_iff c).1 h1.1
    intro h3; subst h3; simp at h2
theorem zval_nat (n : Nat) : zval (Lib.decDigits n) = (n : Int) := by
  obtain ⟨c, t, h, hc⟩ := head_dig (n := n)
  have hv := dval_dec n
  rw [h] at hv ⊢
  unfold zval
  simp only [if_neg hc, hv]
theorem zval_neg (n : Nat) : zval (45 :: Lib.decDigits n) = -(n : Int) := by
  unfold zval
  simp [dval_dec n]
/-- A text that is an integer is that of its value. -/
theorem sz_of {a : ByteArray} (h : vldZ a.data.toList = true) : a = Sz (zval a.data.toList) := by
  cases a with
  | mk d =>
    cases hl : d.toList with
    | nil => simp [hl, vldZ] at h
    | cons c t =>
      simp only [hl] at h ⊢
      by_cases hc : c = 45
      · subst hc
        simp only [vldZ, if_true, Bool.and_eq_true] at h
        obtain ⟨h1, h2⟩ := h
        have hd := dec_dval t h1
        have hne : dval t ≠ 0 := by
          intro h0
          rw [h0, Lib.decDigits_one (by decide)] at hd
          rw [← hd] at h2
          simp at h2
        have e : zval (45 :: t) = -(dval t : Int) := by simp [zval]
        rw [e, sz_neg hne, hd, ← hl]
      · simp only [vldZ, if_neg hc] at h
        have hd := dec_dval (c :: t) h
        have e : zval (c :: t) = (dval (c :: t) : Int) := by simp [zval, hc]
        rw [e, sz_nat]
        unfold Sn
        rw [hd, ← hl]
theorem sz_val (z : Int) : zval (Sz z).data.toList = z := by
  rcases int_cases z with ⟨n, hn, rfl⟩ | rfl | ⟨n, hn, rfl⟩
  · rw [sz_neg hn]; simpa using zval_neg n
  · rw [show Sz 0 = Sn 0 from sz_nat 0, sn_list]; exact zval_nat 0
  · rw [sz_nat, sn_list]; exact zval_nat n
/-! ### CutPrefix of "-" -/
theorem cut_neg (l : List UInt8) (w : World) :
    Calls Tryz.prog 68 #[.string ⟨(45 :: l).toArray⟩, .string ⟨#[45]⟩] w fun e w' => e = .returned (.tuple #[.string ⟨l.toArray⟩, .bool true]) ∧ w = w' := by
  refine (Tryz.strings_CutPrefix _ _ w).mono ?_
  rintro e w' ⟨rfl, rfl⟩
  refine ⟨?_, rfl⟩
  simp [Lib.trimPrefix, Lib.hasPrefix, List.isPrefixOf]
theorem cut_not (s : ByteArray) (h : ∀ t, s.data.toList ≠ 45 :: t) (w : World) :
    Calls Tryz.prog 68 #[.string s, .string ⟨#[45]⟩] w fun e w' => e = .returned (.tuple #[.string s, .bool false]) ∧ w = w' := by
  refine (Tryz.strings_CutPrefix _ _ w).mono ?_
  rintro e w' ⟨rfl, rfl⟩
  refine ⟨?_, rfl⟩
  have hp : Lib.hasPrefix s.data.toList [45] = false := by
    unfold Lib.hasPrefix
    cases hl : s.data.toList with
    | nil => rfl
    | cons c t =>
      have : ¬ 45 = c := by intro hc; subst hc; exact h t hl
      simp [List.isPrefixOf, this]
  have e : (⟨#[45]⟩ : ByteArray).data.toList = [45] := rfl
  rw [e, hp]
  unfold Lib.trimPrefix
  rw [hp]
  cases s
  simp

/-! ### read -/
def Zno : Value := .agg #[.int .i64 0, .string ⟨#[]⟩]
set_option maxHeartbeats 1000000 in
theorem read_neg (n : Nat) (hn : n ≠ 0) (hf : Fit n) (w : World) :
    Calls Tryz.prog 52 #[.string ⟨(45 :: Lib.decDigits n).toArray⟩] w fun e w' => e = .returned (.tuple #[.agg #[.int .i64 (-1), .string (Sn n)], .bool true]) ∧ Below w.heap.size w w' := by
  have HC := Lib.hid (cut_neg (Lib.decDigits n))
  rw [show (⟨(Lib.decDigits n).toArray⟩ : ByteArray) = Sn n from rfl] at HC
  have HV := Lib.hid (nValid n hf)
  have h0 := sn_neq0 hn
  clear hn hf
  go_enter Tryz.func52, Tryz.ntmps52
  go_wp2_with fail
  refine (HC.out _).mono ?_
  rintro e w' ⟨rfl, rfl⟩
  go_wp2_with fail
  refine (HV.out _).mono ?_
  rintro e w' ⟨rfl, rfl⟩
  go_wp2
  refine bodyPost_ret (v := .tuple #[.agg #[.int .i64 (-1), .string (Sn n)], .bool true]) (by simp [results, Tryz.results52, go_sem]) rfl ⟨rfl, ?_⟩
  repeat (first | exact Below.refl _ _ | refine Below.setCell ?_ (by simp) _ | refine Below.alloc ?_ (by simp) _ | refine Below.drew ?_)
theorem not45 {n : Nat} : ∀ t, (Sn n).data.toList ≠ 45 :: t := by
  intro t h
  rw [sn_list] at h
  obtain ⟨c, t', h2, hc⟩ := head_dig (n := n)
  rw [h2] at h
  injection h with h3 h4
  exact hc h3
set_option maxHeartbeats 1000000 in
theorem read_nat (n : Nat) (hf : Fit n) (w : World) (hl : Zz w) :
    Calls Tryz.prog 52 #[.string (Sn n)] w fun e w' => e = .returned (.tuple #[Zv (n : Int), .bool true]) ∧ Below w.heap.size w w' := by
  have HC := Lib.hid (cut_not (Sn n) not45)
  have HV := Lib.hid (nValid n hf)
  have hb0 := (Below.refl w.heap.size w).alloc (Nat.le_refl _) (.cells #[.int .i64 0, .string ⟨#[]⟩] 78)
  have HS := Lib.hid (signed_any 1 n (n : Int) (by omega) (Or.inl rfl) _ (hl.on hb0))
  unfold Zv at *
  generalize (n : Int).sign = s at *
  generalize Sn (n : Int).natAbs = b at *
  clear hf hl hb0
  go_enter Tryz.func52, Tryz.ntmps52
  go_wp2_with fail
  refine (HC.out _).mono ?_
  rintro e w' ⟨rfl, rfl⟩
  go_wp2_with fail
  refine (HV.out _).mono ?_
  rintro e w' ⟨rfl, rfl⟩
  go_wp2_with fail
  refine HS.out.mono ?_
  rintro e w1 ⟨rfl, hb1⟩
  have HB := Lib.hid (((Below.refl w.heap.size w).alloc (Nat.le_refl _) (.cells #[.int .i64 0, .string ⟨#[]⟩] 78)).trans (hb1.mono (by simp)))
  obtain ⟨hc, hf⟩ := bcell hb1
  have hz : w.heap.size < w1.heap.size := by have := hb1.size; simp at this; omega
  clear hb1
  go_wp2
  refine bodyPost_ret (v := .tuple #[.agg #[.int .i64 s, .string b], .bool true]) (by simp [results, Tryz.results52, go_sem, hc]) rfl ⟨rfl, ?_⟩
  repeat (first | exact HB.out | refine Below.setCell ?_ (by simp) _ | refine Below.alloc ?_ (by simp) _ | refine Below.drew ?_)
theorem read_yes (z : Int) (hf : FitZ z) (w : World) (hl : Zz w) :
    Calls Tryz.prog 52 #[.string (Sz z)] w fun e w' => e = .returned (.tuple #[Zv z, .bool true]) ∧ Below w.heap.size w w' := by
  rcases int_cases z with ⟨n, hn, rfl⟩ | rfl | ⟨n, hn, rfl⟩
  · rw [sz_neg hn, zv_neg hn]; exact read_neg n hn hf.neg w
  · rw [show Sz 0 = Sn 0 from sz_nat 0]; exact read_nat 0 fit0 w hl
  · rw [sz_nat]; exact read_nat n hf.nat w hl
set_option maxHeartbeats 1000000 in
theorem read_bad1 (l : List UInt8) (h : vld l = false) (hs : l.length ≤ maxLen) (w : World) :
    Calls Tryz.prog 52 #[.string ⟨(45 :: l).toArray⟩] w fun e w' => e = .returned (.tuple #[Zno, .bool false]) ∧ Below w.heap.size w w' := by
  have HC := Lib.hid (cut_neg l)
  have HV := Lib.hid (Valid_no ⟨l.toArray⟩ (by simpa using h) (by simpa [ByteArray.size] using hs))
  clear h hs
  go_enter Tryz.func52, Tryz.ntmps52
  go_wp2_with fail
  refine (HC.out _).mono ?_
  rintro e w' ⟨rfl, rfl⟩
  go_wp2_with fail
  refine (HV.out _).mono ?_
  rintro e w' ⟨rfl, rfl⟩
  go_wp2
  refine bodyPost_ret (v := .tuple #[Zno, .bool false]) (by simp [results, Tryz.results52, go_sem, Zno]) rfl ⟨rfl, ?_⟩
  repeat (first | exact Below.refl _ _ | refine Below.setCell ?_ (by simp) _ | refine Below.alloc ?_ (by simp) _ | refine Below.drew ?_)
set_option maxHeartbeats 1000000 in
theorem read_bad2 (w : World) :
    Calls Tryz.prog 52 #[.string ⟨(45 :: [48]).toArray⟩] w fun e w' => e = .returned (.tuple #[Zno, .bool false]) ∧ Below w.heap.size w w' := by
  have HC := Lib.hid (cut_neg [48])
  have HV := Lib.hid (Valid_yes ⟨#[48]⟩ (by decide +kernel) (by decide))
  go_enter Tryz.func52, Tryz.ntmps52
  go_wp2_with fail
  refine (HC.out _).mono ?_
  rintro e w' ⟨rfl, rfl⟩
  go_wp2_with fail
  refine (HV.out _).mono ?_
  rintro e w' ⟨rfl, rfl⟩
  go_wp2
  refine bodyPost_ret (v := .tuple #[Zno, .bool false]) (by simp [results, Tryz.results52, go_sem, Zno]) rfl ⟨rfl, ?_⟩
  repeat (first | exact Below.refl _ _ | refine Below.setCell ?_ (by simp) _ | refine Below.alloc ?_ (by simp) _ | refine Below.drew ?_)
set_option maxHeartbeats 1000000 in
theorem read_bad3 (s : ByteArray) (h0 : ∀ t, s.data.toList ≠ 45 :: t) (h : vld s.data.toList = false) (hs : s.size ≤ maxLen) (w : World) :
    Calls Tryz.prog 52 #[.string s] w fun e w' => e = .returned (.tuple #[Zno, .bool false]) ∧ Below w.heap.size w w' := by
  have HC := Lib.hid (cut_not s h0)
  have HV := Lib.hid (Valid_no s h hs)
  clear h hs h0
  go_enter Tryz.func52, Tryz.ntmps52
  go_wp2_with fail
  refine (HC.out _).mono ?_
  rintro e w' ⟨rfl, rfl⟩
  go_wp2_with fail
  refine (HV.out _).mono ?_
  rintro e w' ⟨rfl, rfl⟩
  go_wp2
  refine bodyPost_ret (v := .tuple #[Zno, .bool false]) (by simp [results, Tryz.results52, go_sem, Zno]) rfl ⟨rfl, ?_⟩
  repeat (first | exact Below.refl _ _ | refine Below.setCell ?_ (by simp) _ | refine Below.alloc ?_ (by simp) _ | refine Below.drew ?_)
theorem read_no (s : ByteArray) (h : vldZ s.data.toList = false) (hs : s.size ≤ maxLen) (w : World) :
    Calls Tryz.prog 52 #[.string s] w fun e w' => e = .returned (.tuple #[Zno, .bool false]) ∧ Below w.heap.size w w' := by
  cases s with
  | mk d =>
    cases hl : d.toList with
    | nil =>
      refine read_bad3 ⟨d⟩ (fun t => by simp [hl]) (by simp [hl, vld]) hs w
    | cons c t =>
      by_cases hc : c = 45
      · subst hc
        have hd : d = (45 :: t).toArray := by rw [← hl]
        have ht : t.length ≤ maxLen := by
          have : d.size = t.length + 1 := by rw [← Array.length_toList, hl]; simp
          simp [ByteArray.size] at hs; omega
        simp only [hl, vldZ, if_true, Bool.and_eq_false_iff] at h
        rw [hd]
        rcases h with h | h
        · exact read_bad1 t h ht w
        · obtain rfl : t = [48] := by simpa using h
          exact read_bad2 w
      · refine read_bad3 ⟨d⟩ (fun t' => ?_) ?_ hs w
        · simp only [hl]; intro h2; injection h2 with h3 h4; exact hc h3
        · simp only [hl, vldZ, if_neg hc] at h ⊢; exact h

set_option maxHeartbeats 1000000 in
theorem zValid_yes (z : Int) (hf : FitZ z) (w : World) (hl : Zz w) :
    Calls Tryz.prog 57 #[.string (Sz z)] w fun e w' => e = .returned (.bool true) ∧ Below w.heap.size w w' := by
  have HR := Lib.hid (read_yes z hf w hl)
  unfold Zv at HR
  generalize z.sign = s at *
  generalize Sn z.natAbs = b at *
  clear hf hl
  go_enter Tryz.func57, Tryz.ntmps57
  go_wp2_with fail
  refine HR.out.mono ?_
  rintro e w1 ⟨rfl, hb1⟩
  have HB := Lib.hid hb1
  clear hb1
  go_wp2
  go_ret
  refine ⟨rfl, ?_⟩
  repeat (first | exact HB.out | refine Below.setCell ?_ (by have := HB.out.size; simp; omega) _ | refine Below.alloc ?_ (by have := HB.out.size; simp; omega) _ | refine Below.drew ?_)
set_option maxHeartbeats 1000000 in
theorem zValid_no (a : ByteArray) (h : vldZ a.data.toList = false) (hs : a.size ≤ maxLen) (w : World) :
    Calls Tryz.prog 57 #[.string a] w fun e w' => e = .returned (.bool false) ∧ Below w.heap.size w w' := by
  have HR := Lib.hid (read_no a h hs w)
  unfold Zno at HR
  clear h hs
  go_enter Tryz.func57, Tryz.ntmps57
  go_wp2_with fail
  refine HR.out.mono ?_
  rintro e w1 ⟨rfl, hb1⟩
  have HB := Lib.hid hb1
  clear hb1
  go_wp2
  go_ret
  refine ⟨rfl, ?_⟩
  repeat (first | exact HB.out | refine Below.setCell ?_ (by have := HB.out.size; simp; omega) _ | refine Below.alloc ?_ (by have := HB.out.size; simp; omega) _ | refine Below.drew ?_)

end Go.Proofs.YtlagimghlngdgaaGreatDoor
/- Plain facts about fractions in lowest terms: what the ways of adding and multiplying give. No program is mentioned. -/
namespace Go.Gb

/-- A fraction with a positive denominator, made shorter by the common divisor. -/
theorem mk_parts (num : Int) (den : Nat) (hd : den ≠ 0) : (mkRat num den).num = num / ((Nat.gcd num.natAbs den : Nat) : Int) ∧ (mkRat num den).den = den / Nat.gcd num.natAbs den := by
  rw [← Rat.normalize_eq_mkRat hd, Rat.normalize_eq hd]
  exact ⟨rfl, rfl⟩

/-- Sums: common divisors among the denominators alone. -/
theorem add_parts (X Y : Rat) (g more rest : Nat) (num : Int) (hg : g = Nat.gcd X.den Y.den) (hm : more = Y.den / g) (hnum : num = X.num * (more : Int) + Y.num * ((X.den / g : Nat) : Int)) (hr : rest = Nat.gcd num.natAbs g) :
    (X + Y).num = num / (rest : Int) ∧ (X + Y).den = X.den / rest * more := by
  have hY := Y.den_nz
  have hX := X.den_nz
  have hg0 : 0 < g := by rw [hg]; exact Nat.gcd_pos_of_pos_left _ (by omega)
  have dX : g ∣ X.den := by rw [hg]; exact Nat.gcd_dvd_left _ _
  have dY : g ∣ Y.den := by rw [hg]; exact Nat.gcd_dvd_right _ _
  have hr0 : 0 < rest := by rw [hr]; exact Nat.gcd_pos_of_pos_right _ hg0
  have drg : rest ∣ g := by rw [hr]; exact Nat.gcd_dvd_right _ _
  have hden : X.den / g * Y.den / rest = X.den / rest * more := by
    obtain ⟨p, hp⟩ := dX
    obtain ⟨q, hq⟩ := dY
    obtain ⟨t, ht⟩ := drg
    rw [hm, hp, hq, Nat.mul_div_cancel_left _ hg0, Nat.mul_div_cancel_left _ hg0]
    have e3 : p * (g * q) = rest * (t * p * q) := by rw [ht]; ac_rfl
    have e4 : g * p = rest * (t * p) := by rw [ht]; ac_rfl
    rw [e3, e4, Nat.mul_div_cancel_left _ hr0, Nat.mul_div_cancel_left _ hr0]
  have h : X + Y = Rat.add X Y := rfl
  rw [h]
  subst hg hm hr
  unfold Rat.add
  simp only
  split
  · rename_i h1
    rw [h1, Nat.div_one, Nat.div_one] at hnum
    simp only
    rw [h1, Nat.gcd_one_right, Nat.div_one, Nat.div_one]
    exact ⟨by rw [hnum]; simp, rfl⟩
  · rw [Rat.maybeNormalize_eq]
    simp only [Int.divExact_eq_ediv, ← hnum]
    exact ⟨trivial, hden⟩

/-- Products: common divisors crosswise. -/
theorem mul_parts (X Y : Rat) (g1 g2 : Nat) (h1 : g1 = Nat.gcd X.num.natAbs Y.den) (h2 : g2 = Nat.gcd Y.num.natAbs X.den) :
    (X * Y).num = X.num / (g1 : Int) * (Y.num / (g2 : Int)) ∧ (X * Y).den = X.den / g2 * (Y.den / g1) := by
  subst h1 h2
  have h : X * Y = Rat.mul X Y := rfl
  rw [h]
  unfold Rat.mul
  simp only [Int.divExact_eq_ediv, Nat.divExact_eq_div]
  exact ⟨trivial, trivial⟩
theorem neg_parts (X : Rat) : (-X).num = -X.num ∧ (-X).den = X.den := ⟨rfl, rfl⟩
theorem inv_pos {X : Rat} (h : 0 < X.num) : (X⁻¹).num = (X.den : Int) ∧ ((X⁻¹).den : Int) = X.num := by
  have e : X⁻¹ = Rat.inv X := rfl
  rw [e]
  unfold Rat.inv
  rw [dif_neg (by omega), dif_pos h]
  exact ⟨rfl, by simp only; omega⟩
theorem inv_neg' {X : Rat} (h : X.num < 0) : (X⁻¹).num = -(X.den : Int) ∧ ((X⁻¹).den : Int) = -X.num := by
  have e : X⁻¹ = Rat.inv X := rfl
  rw [e]
  unfold Rat.inv
  rw [dif_pos h]
  exact ⟨rfl, by simp only; omega⟩

/-- Two fractions, computed with as they are. -/
theorem add_small (X Y : Rat) : X + Y = mkRat (X.num * (Y.den : Int) + Y.num * (X.den : Int)) (X.den * Y.den) := by
  have h1 := X.den_nz
  have h2 := Y.den_nz
  rw [Rat.add_def, Rat.normalize_eq_mkRat]
theorem mul_small (X Y : Rat) : X * Y = mkRat (X.num * Y.num) (X.den * Y.den) := by
  rw [Rat.mul_def, Rat.normalize_eq_mkRat]
theorem sub_small (X Y : Rat) : X - Y = mkRat (X.num * (Y.den : Int) - Y.num * (X.den : Int)) (X.den * Y.den) := by
  rw [Rat.sub_eq_add_neg, add_small]
  show mkRat (X.num * (Y.den : Int) + -Y.num * (X.den : Int)) (X.den * Y.den) = _
  rw [Int.neg_mul]; congr 1
theorem div_small_pos (X Y : Rat) (h : 0 < Y.num) : X / Y = mkRat (X.num * (Y.den : Int)) (X.den * Y.num.toNat) := by
  obtain ⟨e1, e2⟩ := inv_pos h
  rw [Rat.div_def, mul_small, e1]
  congr 2
  omega
theorem div_small_neg (X Y : Rat) (h : Y.num < 0) : X / Y = mkRat (-(X.num * (Y.den : Int))) (X.den * (-Y.num).toNat) := by
  obtain ⟨e1, e2⟩ := inv_neg' h
  rw [Rat.div_def, mul_small, e1, Int.mul_neg]
  congr 2
  omega

/-- The sign of a comparison. -/
def cmpQ (x y : Rat) : Int := if x < y then -1 else if y < x then 1 else 0
theorem cmpQ_lt {x y : Rat} (h : x < y) : cmpQ x y = -1 := by unfold cmpQ; rw [if_pos h]
theorem cmpQ_gt {x y : Rat} (h : y < x) : cmpQ x y = 1 := by
  unfold cmpQ; rw [if_neg (by grind), if_pos h]
theorem cmpQ_eq (x : Rat) : cmpQ x x = 0 := by
  unfold cmpQ; rw [if_neg (by grind), if_neg (by grind)]
theorem cmpQ_cross (X Y : Rat) (a b : Int) (ha : a = X.num * (Y.den : Int)) (hb : b = Y.num * (X.den : Int)) : cmpQ X Y = if a < b then -1 else if b < a then 1 else 0 := by
  unfold cmpQ
  simp only [Rat.lt_iff, ← ha, ← hb]
theorem cmpQ_cases (x y : Rat) : (x < y ∧ cmpQ x y = -1) ∨ (x = y ∧ cmpQ x y = 0) ∨ (y < x ∧ cmpQ x y = 1) := by
  by_cases h1 : x < y
  · exact Or.inl ⟨h1, cmpQ_lt h1⟩
  · by_cases h2 : y < x
    · exact Or.inr (Or.inr ⟨h2, cmpQ_gt h2⟩)
    · have : x = y := by grind
      subst this
      exact Or.inr (Or.inl ⟨rfl, cmpQ_eq x⟩)
end Go.Gb
/- Rational numbers as texts and as structs; what strings.Cut gives of them; how long they are. -/
namespace Go.Proofs.YtlagimghlngdgaaGreatDoor
open Go.RowKit Go.Gb

/-! ### cut at a slash -/
theorem index_hit (c : UInt8) (a b : List UInt8) (h : c ∉ a) : Lib.index (a ++ c :: b) [c] = a.length := by
  refine Lib.index_first (by simp) ?_ ?_
  · simp [Lib.occAt, List.isPrefixOf]
  · intro j hj
    unfold Lib.occAt
    rw [List.drop_append_of_le_length (by omega)]
    cases hd : a.drop j with
    | nil => exact absurd (List.drop_eq_nil_iff.1 hd) (by omega)
    | cons x t =>
      have hx : x ∈ a := List.mem_of_mem_drop (hd ▸ List.mem_cons_self)
      have h1 : ¬ c = x := by rintro rfl; exact h hx
      simp [List.isPrefixOf, h1]
theorem index_miss (c : UInt8) : ∀ l : List UInt8, c ∉ l → Lib.index l [c] = -1
  | [], _ => rfl
  | x :: l, h => by
    have h1 : ¬ c = x := by rintro rfl; exact h List.mem_cons_self
    have h2 := index_miss c l (fun hm => h (List.mem_cons_of_mem _ hm))
    unfold Lib.index
    rw [h2]
    simp [List.isPrefixOf, h1]
theorem cut_hit (c : UInt8) (a b : List UInt8) (h : c ∉ a) : Lib.cut (a ++ c :: b) [c] = (a, b, true) := by
  unfold Lib.cut
  rw [index_hit c a b h, if_pos (by omega)]
  simp
theorem cut_miss (c : UInt8) (l : List UInt8) (h : c ∉ l) : Lib.cut l [c] = (l, [], false) := by
  unfold Lib.cut
  rw [index_miss c l h]
  rfl
theorem cut_parts (c : UInt8) (l : List UInt8) : (c ∉ l ∧ Lib.cut l [c] = (l, [], false)) ∨ ∃ a b, c ∉ a ∧ l = a ++ c :: b ∧ Lib.cut l [c] = (a, b, true) := by
  by_cases h : c ∈ l
  · obtain ⟨a, b, e, hn⟩ := List.eq_append_cons_of_mem h
    exact Or.inr ⟨a, b, hn, e, by rw [e]; exact cut_hit c a b hn⟩
  · exact Or.inl ⟨h, cut_miss c l h⟩

theorem dec_no (c : UInt8) (hc : isD c = false) (n : Nat) : c ∉ Lib.decDigits n := by
  intro h
  have := List.all_eq_true.1 (dec_all n) c h
  rw [hc] at this; cases this
theorem sz_no (c : UInt8) (hc : isD c = false) (h45 : c ≠ 45) (z : Int) : c ∉ (Sz z).data.toList := by
  rcases int_cases z with ⟨n, hn, rfl⟩ | rfl | ⟨n, hn, rfl⟩
  · rw [sz_neg hn]
    intro h
    rcases List.mem_cons.1 h with h | h
    · exact h45 h
    · exact dec_no c hc n h
  · rw [show Sz 0 = Sn 0 from sz_nat 0, sn_list]; exact dec_no c hc 0
  · rw [sz_nat, sn_list]; exact dec_no c hc n

/-! ### texts -/
/-- A rational number as a text, as a struct. -/
def Sq (q : Rat) : ByteArray := if q.den = 1 then Sz q.num else ⟨((Sz q.num).data.toList ++ 47 :: Lib.decDigits q.den).toArray⟩
theorem sq_int {q : Rat} (h : q.den = 1) : Sq q = Sz q.num := by unfold Sq; rw [if_pos h]
theorem sq_frac {q : Rat} (h : q.den ≠ 1) : Sq q = ⟨((Sz q.num).data.toList ++ 47 :: Lib.decDigits q.den).toArray⟩ := by unfold Sq; rw [if_neg h]
theorem sq_frac_list {q : Rat} (h : q.den ≠ 1) : (Sq q).data.toList = (Sz q.num).data.toList ++ 47 :: Lib.decDigits q.den := by rw [sq_frac h]
theorem sq_ofInt (z : Int) : Sq (Rat.ofInt z) = Sz z := sq_int rfl
theorem cut_frac {q : Rat} (h : q.den ≠ 1) : Lib.cut (Sq q).data.toList [47] = ((Sz q.num).data.toList, Lib.decDigits q.den, true) := by
  rw [sq_frac_list h]
  exact cut_hit 47 _ _ (sz_no 47 (by decide) (by decide) _)
theorem cut_int (z : Int) : Lib.cut (Sz z).data.toList [47] = ((Sz z).data.toList, [], false) := cut_miss 47 _ (sz_no 47 (by decide) (by decide) _)

/-- Is a text a rational number; its value. -/
def vldP (n d : List UInt8) : Bool := vldZ n && vldZ d && !(d == [49]) && decide (1 ≤ zval d) && (Nat.gcd (zval n).natAbs (zval d).natAbs == 1)
def vldQ (l : List UInt8) : Bool := if (Lib.cut l [47]).2.2 then vldP (Lib.cut l [47]).1 (Lib.cut l [47]).2.1 else vldZ l
def qval (l : List UInt8) : Rat := if (Lib.cut l [47]).2.2 then mkRat (zval (Lib.cut l [47]).1) (zval (Lib.cut l [47]).2.1).toNat else Rat.ofInt (zval l)

theorem szl_of {l : List UInt8} (h : vldZ l = true) : (Sz (zval l)).data.toList = l := by
  have h1 := sz_of (a := ⟨l.toArray⟩) (by simpa using h)
  have h2 := congrArg (fun b : ByteArray => b.data.toList) h1
  simpa using h2.symm
theorem dec_of_z {l : List UInt8} (h : vldZ l = true) (h1 : 1 ≤ zval l) : l = Lib.decDigits (zval l).toNat := by
  have h2 := szl_of h
  obtain ⟨n, hn⟩ : ∃ n : Nat, zval l = n := ⟨(zval l).toNat, by omega⟩
  rw [hn, sz_nat, sn_list] at h2
  rw [hn, Int.toNat_natCast, h2]
theorem mk_coprime (z : Int) (n : Nat) (hn : n ≠ 0) (hg : Nat.gcd z.natAbs n = 1) : (mkRat z n).num = z ∧ (mkRat z n).den = n := by
  have h := mk_parts z n hn
  rw [hg] at h
  simpa using h
theorem sq_of {a : ByteArray} (h : vldQ a.data.toList = true) : a = Sq (qval a.data.toList) := by
  cases a with
  | mk d =>
    simp only at h ⊢
    obtain ⟨l, rfl⟩ : ∃ l : List UInt8, d = l.toArray := ⟨d.toList, rfl⟩
    simp only at h ⊢
    rcases cut_parts 47 l with ⟨_, e⟩ | ⟨x, y, _, el, e⟩
    · unfold vldQ at h
      unfold qval
      rw [e] at h ⊢
      simp only [Bool.false_eq_true, if_false] at h ⊢
      rw [sq_ofInt]
      have h2 := sz_of (a := ⟨l.toArray⟩) (by simpa using h)
      simpa using h2
    · unfold vldQ at h
      unfold qval
      rw [e] at h ⊢
      simp only [if_true] at h ⊢
      unfold vldP at h
      simp only [Bool.and_eq_true, decide_eq_true_eq, Bool.not_eq_true', beq_iff_eq] at h
      obtain ⟨⟨⟨⟨h1, h2⟩, h3⟩, h4⟩, h5⟩ := h
      have hy := dec_of_z h2 h4
      have hx := szl_of h1
      obtain ⟨m, hm⟩ : ∃ m : Nat, zval y = m := ⟨(zval y).toNat, by omega⟩
      rw [hm] at h4 h5 hy ⊢
      rw [Int.toNat_natCast] at hy ⊢
      rw [Int.natAbs_natCast] at h5
      obtain ⟨p1, p2⟩ := mk_coprime (zval x) m (by omega) h5
      have hm1 : m ≠ 1 := by
        intro h6
        subst h6
        rw [Lib.decDigits_one (by decide)] at hy
        rw [hy] at h3
        simp at h3
      rw [sq_frac (by rw [p2]; exact hm1), p1, p2, hx, ← hy, el]
theorem sq_val (q : Rat) : qval (Sq q).data.toList = q := by
  unfold qval
  by_cases h : q.den = 1
  · rw [sq_int h, cut_int]
    simp only [Bool.false_eq_true, if_false]
    rw [sz_val]
    exact Rat.ext rfl h.symm
  · rw [cut_frac h]
    simp only [if_true]
    rw [sz_val, zval_nat, Int.toNat_natCast]
    exact Rat.mkRat_self q
theorem sq_list (q : Rat) : (Sq q).toList = (Sq q).data.toList := toList_data _
theorem sq_neq {x y : Rat} (h : x ≠ y) : ((Sq x).toList == (Sq y).toList) = false := by
  rw [beq_eq_false_iff_ne, sq_list, sq_list]
  intro h2
  apply h
  rw [← sq_val x, ← sq_val y, h2]

/-! ### sizes -/
def SmQ (k : Nat) (q : Rat) : Prop := Sm k q.num.natAbs ∧ Sm k q.den
/-- What the operations take. -/
def FitQ (q : Rat) : Prop := SmQ 900 q
theorem SmQ.mono {k l : Nat} {q : Rat} (h : SmQ k q) (hkl : k ≤ l) : SmQ l q := ⟨h.1.mono hkl, h.2.mono hkl⟩
theorem SmQ.fit {k : Nat} {q : Rat} (h : SmQ k q) (hk : k ≤ 900) : FitQ q := SmQ.mono h hk
theorem SmQ.neg {k : Nat} {q : Rat} (h : SmQ k q) : SmQ k (-q) := by
  obtain ⟨e1, e2⟩ := neg_parts q
  unfold SmQ
  rw [e1, e2, Int.natAbs_neg]
  exact h
theorem mk_le (z : Int) (n : Nat) (hn : n ≠ 0) : (mkRat z n).num.natAbs ≤ z.natAbs ∧ (mkRat z n).den ≤ n := by
  obtain ⟨e1, e2⟩ := mk_parts z n hn
  rw [e1, e2]
  exact ⟨Int.natAbs_ediv_le_natAbs _ _, Nat.div_le_self _ _⟩
theorem smq_mk {k : Nat} {z : Int} {n : Nat} (hn : n ≠ 0) (h1 : Sm k z.natAbs) (h2 : Sm k n) : SmQ k (mkRat z n) := by
  obtain ⟨e1, e2⟩ := mk_le z n hn
  exact ⟨h1.le e1, h2.le e2⟩
theorem den_mul_nz (x y : Rat) : x.den * y.den ≠ 0 := Nat.mul_ne_zero x.den_nz y.den_nz
theorem SmQ.add {k l : Nat} {x y : Rat} (hx : SmQ k x) (hy : SmQ l y) : SmQ (k + l + 1) (x + y) := by
  rw [add_small]
  refine smq_mk (den_mul_nz x y) ?_ ((hx.2.mul hy.2).mono (by omega))
  refine Sm.le ?_ (Int.natAbs_add_le _ _)
  rw [Int.natAbs_mul, Int.natAbs_mul, Int.natAbs_natCast, Int.natAbs_natCast]
  exact Sm.add (hx.1.mul hy.2) ((hy.1.mul hx.2).mono (by omega))
theorem SmQ.sub {k l : Nat} {x y : Rat} (hx : SmQ k x) (hy : SmQ l y) : SmQ (k + l + 1) (x - y) := by
  rw [Rat.sub_eq_add_neg]; exact hx.add hy.neg
theorem SmQ.mul {k l : Nat} {x y : Rat} (hx : SmQ k x) (hy : SmQ l y) : SmQ (k + l) (x * y) := by
  rw [mul_small]
  refine smq_mk (den_mul_nz x y) ?_ (hx.2.mul hy.2)
  rw [Int.natAbs_mul]
  exact hx.1.mul hy.1
theorem SmQ.inv {k : Nat} {x : Rat} (hx : SmQ k x) (h0 : x ≠ 0) : SmQ k x⁻¹ := by
  have hn : x.num ≠ 0 := fun h => h0 (Rat.num_eq_zero.1 h)
  rcases Int.lt_or_gt_of_ne hn with h | h
  · obtain ⟨e1, e2⟩ := inv_neg' h
    unfold SmQ
    rw [e1, Int.natAbs_neg, Int.natAbs_natCast, show (x⁻¹).den = x.num.natAbs by omega]
    exact ⟨hx.2, hx.1⟩
  · obtain ⟨e1, e2⟩ := inv_pos h
    unfold SmQ
    rw [e1, Int.natAbs_natCast, show (x⁻¹).den = x.num.natAbs by omega]
    exact ⟨hx.2, hx.1⟩
theorem SmQ.div {k l : Nat} {x y : Rat} (hx : SmQ k x) (hy : SmQ l y) (h0 : y ≠ 0) : SmQ (k + l) (x / y) := by
  rw [Rat.div_def]; exact hx.mul (hy.inv h0)
theorem smz_of' {z : Int} {k : Nat} (h : (Sz z).size ≤ k) : Sm k z.natAbs := by
  rcases int_cases z with ⟨n, hn, rfl⟩ | rfl | ⟨n, hn, rfl⟩
  · rw [Int.natAbs_neg, Int.natAbs_natCast]
    rw [sz_neg hn] at h
    have h1 := Sm.of (a := Sn n) (k := k) (sn_vld n) (by
      have h2 : (Sn n).size = (Lib.decDigits n).length := by rw [← size_list, sn_list]
      have h3 : (⟨(45 :: Lib.decDigits n).toArray⟩ : ByteArray).size = (Lib.decDigits n).length + 1 := by simp [ByteArray.size]
      omega)
    rwa [sn_dval] at h1
  · rw [show Sz 0 = Sn 0 from sz_nat 0] at h
    have h1 := Sm.of (a := Sn 0) (k := k) (sn_vld 0) h
    rwa [sn_dval] at h1
  · rw [Int.natAbs_natCast]
    rw [sz_nat] at h
    have h1 := Sm.of (a := Sn n) (k := k) (sn_vld n) h
    rwa [sn_dval] at h1
theorem smq_of {q : Rat} {k : Nat} (h : (Sq q).size ≤ k) (hk : 0 < k) : SmQ k q := by
  by_cases h1 : q.den = 1
  · rw [sq_int h1] at h
    refine ⟨smz_of' h, ?_⟩
    rw [h1]
    exact Nat.one_lt_pow (by omega) (by decide)
  · have h2 : (Sq q).size = (Sz q.num).size + 1 + (Sn q.den).size := by
      rw [← size_list, sq_frac_list h1, ← size_list, ← size_list, sn_list]
      simp; omega
    refine ⟨smz_of' (by omega), ?_⟩
    have h3 := Sm.of (a := Sn q.den) (k := k) (sn_vld _) (by omega)
    rwa [sn_dval] at h3
theorem FitQ.num {q : Rat} (h : FitQ q) : FitZ q.num := by unfold FitZ Fit; exact Sm.mono (k := 900) h.1 (by decide)
theorem FitQ.den {q : Rat} (h : FitQ q) : Fit q.den := by unfold Fit; exact Sm.mono (k := 900) h.2 (by decide)
theorem sz_size {z : Int} {k : Nat} (h : Sm k z.natAbs) (hk : 0 < k) : (Sz z).size ≤ k + 1 := by
  rcases int_cases z with ⟨n, hn, rfl⟩ | rfl | ⟨n, hn, rfl⟩
  · rw [Int.natAbs_neg, Int.natAbs_natCast] at h
    have h1 := sn_size h hk
    have h2 : (Sn n).size = (Lib.decDigits n).length := by rw [← size_list, sn_list]
    have h3 : (Sz (-(n : Int))).size = (Lib.decDigits n).length + 1 := by rw [sz_neg hn]; simp [ByteArray.size]
    omega
  · have h1 := sn_size h hk
    rw [show Sz 0 = Sn 0 from sz_nat 0]
    simp at h1
    omega
  · rw [Int.natAbs_natCast] at h
    have h1 := sn_size h hk
    rw [sz_nat]; omega
theorem sq_size {q : Rat} {k : Nat} (h : SmQ k q) (hk : 0 < k) : (Sq q).size ≤ k + 1 + 1 + k := by
  have h1 := sz_size h.1 hk
  have h2 := sn_size h.2 hk
  by_cases h3 : q.den = 1
  · rw [sq_int h3]; omega
  · have h4 : (Sq q).size = (Sz q.num).size + 1 + (Sn q.den).size := by
      rw [← size_list, sq_frac_list h3, ← size_list, ← size_list, sn_list]
      simp; omega
    omega
/-! ### short integers as words -/
theorem parseI_nat {n : Nat} (h : n < 10 ^ 18) : Lib.parseIntB 64 (Lib.decDigits n) = .ok (n : Int) := by
  have hl : (Lib.decDigits n).length ≤ 18 := dec_len 18 n h (by decide)
  have hp := parse_num (Lib.decDigits n) (vld_dec n) (by omega)
  rw [dval_dec] at hp
  obtain ⟨c, t, hd, hc⟩ := head_dig (n := n)
  have hD : isD c = true := List.all_eq_true.1 (dec_all n) c (by rw [hd]; exact List.mem_cons_self)
  have hD' := (isD_iff c).1 hD
  rw [hd] at hp ⊢
  unfold Lib.parseIntB
  have h1 : ¬ c.toNat = 43 := by omega
  have h2 : ¬ c.toNat = 45 := by omega
  simp only [h1, h2, or_self, if_false, hp]
  have h3 : ¬ (2 ^ (64 - 1) ≤ n) := by
    have : (10 : Nat) ^ 18 < 2 ^ (64 - 1) := by decide
    omega
  simp [h3]
theorem parseI_neg {n : Nat} (h : n < 10 ^ 18) : Lib.parseIntB 64 (45 :: Lib.decDigits n) = .ok (-(n : Int)) := by
  have hl : (Lib.decDigits n).length ≤ 18 := dec_len 18 n h (by decide)
  have hp := parse_num (Lib.decDigits n) (vld_dec n) (by omega)
  rw [dval_dec] at hp
  unfold Lib.parseIntB
  have e : (45 : UInt8).toNat = 45 := rfl
  simp only [e, or_true, if_true, hp]
  have h3 : ¬ (2 ^ (64 - 1) < n) := by
    have : (10 : Nat) ^ 18 < 2 ^ (64 - 1) := by decide
    omega
  simp [h3]
theorem parseI_z {z : Int} (h : (Sz z).size ≤ 18) : Lib.parseIntB 64 (Sz z).data.toList = .ok z := by
  have hs := smz_of' h
  rcases int_cases z with ⟨n, hn, rfl⟩ | rfl | ⟨n, hn, rfl⟩
  · rw [Int.natAbs_neg, Int.natAbs_natCast] at hs
    rw [sz_neg hn]
    exact parseI_neg hs
  · rw [show Sz 0 = Sn 0 from sz_nat 0, sn_list]
    exact parseI_nat (by decide)
  · rw [Int.natAbs_natCast] at hs
    rw [sz_nat, sn_list]
    exact parseI_nat hs
/-- FormatInt's text. -/
theorem itoa_sz (z : Int) : (⟨(Lib.itoa z).toArray⟩ : ByteArray) = Sz z := by
  unfold Lib.itoa Sz
  split
  · rfl
  · unfold Sn
    rw [show z.toNat = z.natAbs by omega]

end Go.Proofs.YtlagimghlngdgaaGreatDoor
