/- Texts of this proof, one behind the other. -/
import Derived.Test.YtohaocgbclpknaaGreatDoorSg
import Derived.Test.YtohaocgbclpknaaGreatDoorMz31q
import Derived.Test.YtohaocgbclpknaaGreatDoorMz22q
/- garboardref02: DivMod and Bezout of texts, in numbers. -/
namespace Go.Proofs.YtohaocgbclpknaaGreatDoor
open Go.RowKit Go.Gb

set_option maxRecDepth 100000 in
set_option maxHeartbeats 4000000 in
theorem zrDivMod_no (a b : ByteArray) (hv : (vldZ a.data.toList && vldZ b.data.toList) = false) (ha : a.size ≤ 1000) (hb : b.size ≤ 1000) (w : World) :
    Calls Tryz.prog 7 #[.string a, .string b] w fun e w' => e = .returned (.tuple #[.string ⟨#[]⟩, .string ⟨#[]⟩, .int .i64 1]) ∧ Below w.heap.size w w' := by
  have C1 := Lib.hid (fun W => zBoth_no a b hv ha hb W)
  clear hv ha hb
  go_enter Tryz.func7, Tryz.ntmps7
  have HB0 := Lib.hid (Below.refl w.heap.size w)
  go_wp2_with fail
  with_reducible refine (C1.out _).mono ?_
  rintro e W1 ⟨rfl, hb⟩
  have HB1 := Lib.hid (HB0.out.trans (hb.mono HB0.out.size))
  clear hb
  go_upto_region 2 with fail
  refine wp_boxes W1 [(#[.bool false, .slice none 0 0], 49), (#[.bool false, .slice none 0 0], 49)] rfl ?_
  have L1 := Lib.hid (HB1.out.size)
  rintro W2 ⟨k1, k2, hb⟩
  have hb : Below W1.heap.size W1 W2 := hb
  have HB2 := Lib.hid (HB1.out.trans (hb.mono HB1.out.size))
  have K1 := Lib.hid k1
  have K2 := Lib.hid k2
  clear k1 k2 hb
  go_wp2
  exact bodyPost_ret (v := .tuple #[.string ⟨#[]⟩, .string ⟨#[]⟩, .int .i64 1]) (by simp [results, Tryz.results7, go_sem]) rfl ⟨rfl, HB2.out⟩

set_option maxRecDepth 100000 in
set_option maxHeartbeats 4000000 in
theorem zrBezout_no (a b : ByteArray) (hv : (vldZ a.data.toList && vldZ b.data.toList) = false) (ha : a.size ≤ 1000) (hb : b.size ≤ 1000) (w : World) :
    Calls Tryz.prog 9 #[.string a, .string b] w fun e w' => e = .returned (.tuple #[.string ⟨#[]⟩, .string ⟨#[]⟩, .string ⟨#[]⟩, .int .i64 1]) ∧ Below w.heap.size w w' := by
  have C1 := Lib.hid (fun W => zBoth_no a b hv ha hb W)
  clear hv ha hb
  go_enter Tryz.func9, Tryz.ntmps9
  have HB0 := Lib.hid (Below.refl w.heap.size w)
  go_wp2_with fail
  with_reducible refine (C1.out _).mono ?_
  rintro e W1 ⟨rfl, hb⟩
  have HB1 := Lib.hid (HB0.out.trans (hb.mono HB0.out.size))
  clear hb
  go_upto_region 2 with fail
  refine wp_boxes W1 [(#[.bool false, .slice none 0 0], 49), (#[.bool false, .slice none 0 0], 49)] rfl ?_
  have L1 := Lib.hid (HB1.out.size)
  rintro W2 ⟨k1, k2, hb⟩
  have hb : Below W1.heap.size W1 W2 := hb
  have HB2 := Lib.hid (HB1.out.trans (hb.mono HB1.out.size))
  have K1 := Lib.hid k1
  have K2 := Lib.hid k2
  clear k1 k2 hb
  go_wp2
  exact bodyPost_ret (v := .tuple #[.string ⟨#[]⟩, .string ⟨#[]⟩, .string ⟨#[]⟩, .int .i64 1]) (by simp [results, Tryz.results9, go_sem]) rfl ⟨rfl, HB2.out⟩

set_option maxRecDepth 100000 in
set_option maxHeartbeats 4000000 in
theorem ZDivMod_zero (a b : ByteArray) (x : Int) (w : World) (h1 : ∀ W, Calls Tryz.prog 22 #[.string a, .string b] W fun e w' => ∃ p1 c1 p2 c2, e = .returned (.tuple #[.agg #[.bool (zneg x), .slice p1 (zlen x) c1], .agg #[.bool (zneg 0), .slice p2 (zlen 0) c2], .int .i64 0]) ∧ RN w' (.slice p1 (zlen x) c1) x.natAbs ∧ RN w' (.slice p2 (zlen 0) c2) (0 : Int).natAbs ∧ Below W.heap.size W w') :
    Calls Tryz.prog 7 #[.string a, .string b] w fun e w' => e = .returned (.tuple #[.string ⟨#[]⟩, .string ⟨#[]⟩, .int .i64 16]) ∧ Below w.heap.size w w' := by
  have C1 := Lib.hid h1
  have C2 := Lib.hid (fun p c W h => sSignum 0 0 rfl p c W h)
  clear h1
  go_enter Tryz.func7, Tryz.ntmps7
  have HB0 := Lib.hid (Below.refl w.heap.size w)
  go_wp2_with fail
  with_reducible refine (C1.out _).mono ?_
  rintro e W1 ⟨pa_1, ca_1, pb_1, cb_1, rfl, r1_0, r1_1, hb⟩
  have HB1 := Lib.hid (HB0.out.trans (hb.mono HB0.out.size))
  have RX := Lib.hid r1_0
  have RY := Lib.hid r1_1
  clear hb r1_0 r1_1
  go_upto_region 2 with fail
  refine wp_boxes W1 [(#[.bool (zneg (x)), .slice pa_1 (zlen (x)) ca_1], 49), (#[.bool (zneg (0)), .slice pb_1 (zlen (0)) cb_1], 49)] rfl ?_
  have L1 := Lib.hid (HB1.out.size)
  rintro W2 ⟨k1, k2, hb⟩
  have hb : Below W1.heap.size W1 W2 := hb
  have RY := Lib.hid (RY.out.below hb)
  have HB2 := Lib.hid (HB1.out.trans (hb.mono HB1.out.size))
  have K1 := Lib.hid k1
  have K2 := Lib.hid k2
  clear k1 k2 hb
  have dK20 := K2.out.cell (i := 0) rfl
  have dK21 := K2.out.cell (i := 1) rfl
  go_wp2_with fail
  with_reducible refine (C2.out _ _ _ RY.out).mono ?_
  rintro e W3 ⟨rfl, hb⟩
  clear dK20 dK21
  have HB3 := Lib.hid (HB2.out.trans (hb.mono HB2.out.size))
  clear hb
  go_wp2
  exact bodyPost_ret (v := .tuple #[.string ⟨#[]⟩, .string ⟨#[]⟩, .int .i64 16]) (by simp [results, Tryz.results7, go_sem]) rfl ⟨rfl, HB3.out⟩

theorem sm_nlen {k n : Nat} (h : Sm k n) (hk : 0 < k ∧ k ≤ 1000) : nlen n ≤ 1000 := Nat.le_trans (sm_digs h hk.1) hk.2
theorem len_of {z : Int} {k : Nat} (h : SmZ k z) (hk : 0 < k ∧ k ≤ 1000) : zlen z ≤ 1000 := sm_nlen h hk
theorem sm_ten {k m n : Nat} (h : Sm k m) (hn : n ≤ 9 * m + 9) : Sm (k + 1) n := by
  unfold Sm at *
  rw [Nat.pow_succ]
  omega
theorem sm_succ {k m : Nat} (h : Sm k m) : Sm (k + 1) (m + 1) := sm_ten h (by omega)
theorem sm_three {k m : Nat} (h : Sm k m) : Sm (k + 1) (3 * m) := sm_ten h (by omega)
theorem sm_two {k a b n : Nat} (ha : Sm k a) (hb : Sm k b) (hn : n ≤ a + b + 1) : Sm (k + 1) n := by
  rcases Nat.le_total a b with h | h
  · exact sm_ten hb (by omega)
  · exact sm_ten ha (by omega)
theorem zrDivMod_zero (x : Int) (fx : FitZ x) (hx : (Sz x).size ≤ 1000) (w : World) :
    Calls Tryz.prog 7 #[.string (Sz x), .string (Sz 0)] w fun e w' => e = .returned (.tuple #[.string ⟨#[]⟩, .string ⟨#[]⟩, .int .i64 16]) ∧ Below w.heap.size w w' :=
  ZDivMod_zero _ _ x w (fun W => sBoth x 0 fx fit0 hx (by decide +kernel) W)
theorem to_any (z : Int) (k : Nat) (hk : 0 < k ∧ k ≤ 1000) (h : SmZ k z) (p : Option Addr) (c : Nat) (W : World) (hr : RN W (.slice p (zlen z) c) z.natAbs) :
    Calls Tryz.prog 25 #[.agg #[.bool (zneg z), .slice p (zlen z) c]] W fun e w' => e = .returned (.string (Sz z)) ∧ Below W.heap.size W w' :=
  sTo z _ rfl (Nat.le_trans (len_of h hk) (by decide)) (by have := Fit.size (show Fit z.natAbs from h.fit (by omega)); omega) p c W hr
theorem zrDivMod (x y q r : Int) (hy : y ≠ 0) (hq : x / y = q) (hr : x % y = r) (sx : SmZ 120 x) (sy : SmZ 120 y) (hx : (Sz x).size ≤ 1000) (hy2 : (Sz y).size ≤ 1000) (w : World) :
    Calls Tryz.prog 7 #[.string (Sz x), .string (Sz y)] w fun e w' => e = .returned (.tuple #[.string (Sz q), .string (Sz r), .int .i64 0]) ∧ Below w.heap.size w w' := by
  have lx := len_of sx (by decide)
  have ly := len_of sy (by decide)
  have sq : SmZ 121 q := by
    have h := quo_le x y hy
    rw [hq] at h
    exact Sm.le (sm_succ sx) h
  have sr : SmZ 120 r := by
    have h0 := Int.emod_nonneg x hy
    have h1 := Int.emod_lt x hy
    rw [hr] at h0 h1
    exact Sm.le sy (by omega)
  exact ZDivMod_raw _ _ _ _ x y q r y.sign (fun e => hy (Int.sign_eq_zero_iff_zero.1 e)) w (fun W => sBoth x y (sx.fit (by decide)) (sy.fit (by decide)) hx hy2 W) (fun p c W h => sSignum y _ rfl p c W h)
    (fun p1 c1 p2 c2 W h1 h2 => sOver x y q r hq hr hy (by omega) (by omega) p1 c1 p2 c2 W h1 h2) (to_any q 121 (by decide) sq) (to_any r 120 (by decide) sr)

theorem bzi_range {x y r s u v : Int} (h : BzI x y r s u v) : r.natAbs ≤ x.natAbs + y.natAbs ∧ s.natAbs ≤ y.natAbs := by
  rcases h.st with ⟨_, _, rfl, rfl⟩ | ⟨_, _, rfl, h3, h4⟩ | ⟨h1, h2, h3, h4, h5, h6⟩ <;> constructor <;> omega

theorem zrBezout_zero (z : Int) (sz : SmZ 120 z) (hx : (Sz z).size ≤ 1000) (w : World) :
    Calls Tryz.prog 9 #[.string (Sz z), .string (Sz 0)] w fun e w' => e = .returned (.tuple #[.string (Sn z.natAbs), .string (Sz z.sign), .string ⟨#[48]⟩, .int .i64 0]) ∧ Below w.heap.size w w' := by
  have lz := len_of sz (by decide)
  have hs : SmZ 1 z.sign := by
    unfold SmZ Sm
    rcases Int.lt_trichotomy z 0 with h | h | h; (rw [Int.sign_eq_neg_one_of_neg h]; decide); (rw [h]; decide); (rw [Int.sign_eq_one_of_pos h]; decide)
  have lg : nlen z.natAbs ≤ 1000 := lz
  have l0 : nlen (0 : Int).natAbs ≤ 50000 := by show nlen 0 ≤ 50000; rw [nlen_zero]; decide
  have ht := to_any (z.natAbs : Int) 120 (by decide) (show Sm 120 (z.natAbs : Int).natAbs by rw [Int.natAbs_natCast]; exact sz)
  rw [sz_nat] at ht
  refine ZBezout_zero_raw _ _ _ _ z 0 (z.natAbs : Int) z.sign z.natAbs w (fun W => sBoth z 0 (sz.fit (by decide)) fit0 hx (by decide +kernel) W)
    (fun v1 v2 W h1 h2 => cCommon v1 v2 _ _ _ (by simp) (Nat.le_trans lg (by decide)) l0 W h1 h2) (fun v W h => cMake false v _ _ rfl (Nat.le_trans lg (by decide)) W h)
    (fun p c W h => sSignum 0 0 rfl p c W h) ht (fun p c W h => sSignum z _ rfl p c W h) ?_ (to_any z.sign 1 (by decide) hs)
  intro W
  rcases Int.lt_trichotomy z 0 with h | h | h
  · rw [Int.sign_eq_neg_one_of_neg h]; exact sSmall_neg W
  · rw [h]; exact sSmall 0 0 rfl (by decide) (by decide) W
  · rw [Int.sign_eq_one_of_pos h]; exact sSmall 1 1 rfl (by decide) (by decide) W

theorem zrBezout (x y : Int) (hy : y ≠ 0) (sx : SmZ 120 x) (sy : SmZ 120 y) (hx1 : (Sz x).size ≤ 1000) (hy1 : (Sz y).size ≤ 1000) (g h : Nat) (a b : Int) (hg : g = Nat.gcd x.natAbs y.natAbs) (hh : y.natAbs / g = h) (g0 : g ≠ 0) (h0 : h ≠ 0)
    (ha0 : 0 ≤ a) (hah : a < (h : Int)) (hab : x * a + y * b = (g : Int)) (huq : ∀ x' : Int, (∃ k : Int, x * x' = (g : Int) + k * (y.natAbs : Int)) → x' % (h : Int) = a) (w : World) :
    Calls Tryz.prog 9 #[.string (Sz x), .string (Sz y)] w fun e w' => e = .returned (.tuple #[.string (Sn g), .string (Sz a), .string (Sz b), .int .i64 0]) ∧ Below w.heap.size w w' := by
  have hgn : g ≤ y.natAbs := by rw [hg]; exact Nat.gcd_le_right _ (by omega)
  have hhn : h ≤ y.natAbs := by rw [← hh]; exact Nat.div_le_self _ _
  have sa : SmZ 120 a := Sm.le sy (by omega)
  have sg : SmZ 120 (g : Int) := Sm.le sy (by rw [Int.natAbs_natCast]; exact hgn)
  have sh : SmZ 120 (h : Int) := Sm.le sy (by rw [Int.natAbs_natCast]; exact hhn)
  have syy : SmZ 120 (y.natAbs : Int) := Sm.le sy (by rw [Int.natAbs_natCast]; exact Nat.le_refl _)
  have sp := sx.mul sa
  have sr := SmZ.sub (k := 240) (show SmZ 240 (g : Int) from Sm.mono sg (by decide)) sp
  have er : (g : Int) - x * a = y * b := by omega
  have hbm : b.natAbs ≤ (y * b).natAbs := by
    rw [Int.natAbs_mul]
    have : 1 * b.natAbs ≤ y.natAbs * b.natAbs := Nat.mul_le_mul_right _ (by omega)
    omega
  have sb : SmZ 241 b := Sm.le (er ▸ sr) hbm
  have s3 : ∀ n : Nat, n ≤ 3 * y.natAbs → nlen n ≤ 1000 := fun n hn => sm_nlen (k := 121) (Sm.le (sm_three sy) hn) (by decide)
  have sxy : ∀ n : Nat, n ≤ x.natAbs + y.natAbs + 1 → nlen n ≤ 1000 := fun n hn => sm_nlen (k := 121) (sm_two sx sy hn) (by decide)
  have lx := len_of sx (by decide)
  have ly := len_of sy (by decide)
  have la := len_of sa (by decide)
  have lg := len_of sg (by decide)
  have lh := len_of sh (by decide)
  have lyy := len_of syy (by decide)
  have lp := len_of sp (by decide)
  have lr := len_of sr (by decide)
  have lgn : nlen g ≤ 1000 := sm_nlen (k := 120) (Sm.le sy hgn) (by decide)
  have hsg := to_any (g : Int) 120 (by decide) sg
  rw [sz_nat] at hsg
  refine ZBezout_raw (Sz x) (Sz y) (Sn g) (Sz a) (Sz b) x y (g : Int) (y.natAbs : Int) (h : Int) ((y.natAbs : Int) % (g : Int)) a (x * a) ((g : Int) - x * a) b (((g : Int) - x * a) % y) y.sign g hy (fun e => hy (Int.sign_eq_zero_iff_zero.1 e)) w
    (fun W => sBoth x y (sx.fit (by decide)) (sy.fit (by decide)) hx1 hy1 W)
    (fun v1 v2 W h1 h2 => cCommon v1 v2 _ _ _ hg.symm (Nat.le_trans lx (by decide)) (Nat.le_trans ly (by decide)) W h1 h2)
    (fun v W hr => cMake false v _ _ rfl (Nat.le_trans lgn (by decide)) W hr)
    (fun v W hr => cMake false v _ _ rfl (Nat.le_trans ly (by decide)) W hr)
    (fun p c W hr => sSignum y _ rfl p c W hr) (fun p c W hr => sSignum 0 0 rfl p c W hr)
    (fun p0 c0 p1 c1 W h1 h2 => sOver _ _ _ _ (by rw [← hh, Int.natCast_ediv]) rfl (by omega) (by omega) (by omega) p0 c0 p1 c1 W h1 h2)
    (fun p0 c0 p1 c1 W h1 h2 => sTimes _ _ _ rfl (by omega) (by omega) p0 c0 p1 c1 W h1 h2)
    (fun p0 c0 p1 c1 W h1 h2 => sMinus _ _ _ rfl (by omega) (by omega) p0 c0 p1 c1 W h1 h2)
    (fun p0 c0 p1 c1 W h1 h2 => sOver _ _ _ _ (by rw [er]; exact Int.mul_ediv_cancel_left b hy) rfl hy (by omega) (by omega) p0 c0 p1 c1 W h1 h2)
    hsg (to_any a 120 (by decide) sa) (to_any b 241 (by decide) sb) ?_ ?_ ?_
  · intro r u v hI
    obtain ⟨_, hk⟩ := hI.last
    rw [← hg] at hk
    have hsm := (hI.small hy).1
    have eq1 : (if zneg r then -u else u) = (if r < 0 then -u else u) := by unfold zneg; by_cases hr : r < 0 <;> simp [hr]
    rw [eq1]
    refine ⟨(if r < 0 then -u else u) / (h : Int), fun p0 c0 p1 c1 W h1 h2 => sOver _ _ _ _ rfl (huq _ hk) (by omega) ?_ (by omega) p0 c0 p1 c1 W h1 h2⟩
    refine Nat.le_trans (s3 _ ?_) (by decide)
    split
    · rw [Int.natAbs_neg]; exact hsm
    · exact hsm
  · intro r u v hI p0 c0 W h1
    exact sOpposite u _ rfl (Nat.le_trans (s3 _ (hI.small hy).1) (by decide)) p0 c0 W h1
  · intro r s u v hI hs
    obtain ⟨h1, h2⟩ := bzi_range hI
    obtain ⟨h3, h4⟩ := hI.small hy
    have lr' : zlen r ≤ 1000 := sxy _ (by omega)
    have ls' : zlen s ≤ 1000 := sxy _ (by omega)
    have lu : zlen u ≤ 1000 := s3 _ h3
    have lv : zlen v ≤ 1000 := s3 _ h4
    have lq : zlen (r / s) ≤ 1000 := sxy _ (by have := quo_le r s hs; omega)
    have lqv : zlen (r / s * v) ≤ 2000 := by
      have := digs_mul_len (r / s).natAbs v.natAbs
      unfold zlen nlen at *
      rw [Int.natAbs_mul]; omega
    exact ⟨fun p c W h => sSignum s _ rfl p c W h, fun p0 c0 p1 c1 W h1 h2 => sOver _ _ _ _ rfl rfl hs (by omega) (by omega) p0 c0 p1 c1 W h1 h2, fun p0 c0 p1 c1 W h1 h2 => sTimes _ _ _ rfl (by omega) (by omega) p0 c0 p1 c1 W h1 h2,
      fun p0 c0 p1 c1 W h1 h2 => sMinus _ _ _ rfl (by omega) (by omega) p0 c0 p1 c1 W h1 h2, trivial⟩

end Go.Proofs.YtohaocgbclpknaaGreatDoor
/- garboardlaw02.IntegerDivides returns true, for any two strings: walks. -/
namespace Go.Proofs.YtohaocgbclpknaaGreatDoor
open Go.RowKit Go.Gb

set_option maxHeartbeats 8000000 in
set_option maxRecDepth 100000 in
theorem idiv_long (a b : ByteArray) (hab : 120 < a.size ∨ 120 < b.size) (w : World) (hl : La w) :
    Calls Tryz.prog 3 #[.string a, .string b] w fun e w' => e = .returned (.bool true) ∧ Below w.heap.size w w' := by
  have HT := Lib.hid hl
  clear hl
  have HL := Lib.hid hab
  clear hab
  go_enter Tryz.func3, Tryz.ntmps3
  go_wp2_with fail
  refine (iawake _ HT.out).mono ?_
  rintro e w1 ⟨rfl, hb1⟩
  have HB1 := Lib.hid (hb1.alloc hb1.size (.cells #[.string a, .string b] 9))
  have hc := strs_cells2 w1 a b
  have HLo := Lib.hid (long2_yes w1.heap.size a b _ HL.out hc)
  clear hb1 hc
  go_wp2_with fail
  refine HLo.out.mono ?_
  rintro e w' ⟨rfl, rfl⟩
  go_wp2_with fail
  refine (iawake _ (HT.out.on HB1.out)).mono ?_
  rintro e w2 ⟨rfl, hb⟩
  have HB2 := Lib.hid (HB1.out.trans (hb.mono HB1.out.size))
  clear hb
  go_wp2
  go_ret
  exact ⟨rfl, HB2.out⟩

set_option maxHeartbeats 8000000 in
set_option maxRecDepth 100000 in
theorem idiv_no (a b : ByteArray) (ha : a.size ≤ 120) (hb : b.size ≤ 120) (hv : (vldZ a.data.toList && vldZ b.data.toList) = false) (w : World) (hl : La w) :
    Calls Tryz.prog 3 #[.string a, .string b] w fun e w' => e = .returned (.bool true) ∧ Below w.heap.size w w' := by
  have HT := Lib.hid hl
  clear hl
  have SA := Lib.hid ha
  have SB := Lib.hid hb
  have HA := Lib.hid (show a.size ≤ 1000 by omega)
  have HB' := Lib.hid (show b.size ≤ 1000 by omega)
  have HV := Lib.hid hv
  clear ha hb hv
  go_enter Tryz.func3, Tryz.ntmps3
  go_wp2_with fail
  refine (iawake _ HT.out).mono ?_
  rintro e w1 ⟨rfl, hb1⟩
  have HB1 := Lib.hid (hb1.alloc hb1.size (.cells #[.string a, .string b] 9))
  have hc := strs_cells2 w1 a b
  have HLo := Lib.hid (long2_no w1.heap.size a b _ SA.out SB.out hc)
  clear hb1 hc
  go_wp2_with fail
  refine HLo.out.mono ?_
  rintro e w' ⟨rfl, rfl⟩
  go_wp2_with fail
  refine (zDivMod_no a b HV.out HA.out HB'.out _ (HT.out.on HB1.out)).mono ?_
  rintro e w2 ⟨rfl, hb⟩
  have HB2 := Lib.hid (HB1.out.trans (hb.mono HB1.out.size))
  clear hb
  go_wp2_with fail
  refine (zrDivMod_no a b HV.out HA.out HB'.out _).mono ?_
  rintro e w3 ⟨rfl, hb⟩
  have HB3 := Lib.hid (HB2.out.trans (hb.mono HB2.out.size))
  clear hb
  go_wp2_with fail
  refine (zBezout_no a b HV.out HA.out HB'.out _ (HT.out.on HB3.out)).mono ?_
  rintro e w4 ⟨rfl, hb⟩
  have HB4 := Lib.hid (HB3.out.trans (hb.mono HB3.out.size))
  clear hb
  go_wp2_with fail
  refine (zrBezout_no a b HV.out HA.out HB'.out _).mono ?_
  rintro e w5 ⟨rfl, hb⟩
  have HB5 := Lib.hid (HB4.out.trans (hb.mono HB4.out.size))
  clear hb
  go_wp2
  go_ret
  exact ⟨rfl, HB5.out⟩

set_option maxHeartbeats 8000000 in
set_option maxRecDepth 100000 in
theorem idiv_zero (x : Int) (sa : (Sz x).size ≤ 120) (w : World) (hl : La w) :
    Calls Tryz.prog 3 #[.string (Sz x), .string ⟨#[48]⟩] w fun e w' => e = .returned (.bool true) ∧ Below w.heap.size w w' := by
  have HT := Lib.hid hl
  clear hl
  have SA := Lib.hid sa
  have SB := Lib.hid (show (⟨#[48]⟩ : ByteArray).size ≤ 120 by decide)
  have kx := smz_of sa
  have fx : FitZ x := kx.fit (by decide)
  have hx : (Sz x).size ≤ 1000 := by omega
  clear sa
  have e0 := sz_zero'
  have C1 := Lib.hid (fun (W : World) (T : La W) => zDivMod_zero x fx W T)
  have C2 := Lib.hid (fun (W : World) => e0 ▸ zrDivMod_zero x fx hx W)
  have C3 := Lib.hid (fun (W : World) (T : La W) => zBezout_zero x fx W T)
  have C4 := Lib.hid (fun (W : World) => e0 ▸ zrBezout_zero x kx hx W)
  clear fx hx kx e0
  generalize Sz x.sign = s1 at *
  generalize Sz x = a at *
  go_enter Tryz.func3, Tryz.ntmps3
  go_wp2_with fail
  refine (iawake _ HT.out).mono ?_
  rintro e w1 ⟨rfl, hb1⟩
  have HB1 := Lib.hid (hb1.alloc hb1.size (.cells #[.string a, .string ⟨#[48]⟩] 9))
  have hc := strs_cells2 w1 a ⟨#[48]⟩
  have HLo := Lib.hid (long2_no w1.heap.size a ⟨#[48]⟩ _ SA.out SB.out hc)
  clear hb1 hc
  go_wp2_with fail
  refine HLo.out.mono ?_
  rintro e w' ⟨rfl, rfl⟩
  go_wp2_with fail
  refine (C1.out _ (HT.out.on HB1.out)).mono ?_
  rintro e w2 ⟨rfl, hb⟩
  have HB2 := Lib.hid (HB1.out.trans (hb.mono HB1.out.size))
  clear hb
  go_wp2_with fail
  refine (C2.out _).mono ?_
  rintro e w3 ⟨rfl, hb⟩
  have HB3 := Lib.hid (HB2.out.trans (hb.mono HB2.out.size))
  clear hb
  go_wp2_with fail
  refine (C3.out _ (HT.out.on HB3.out)).mono ?_
  rintro e w4 ⟨rfl, hb⟩
  have HB4 := Lib.hid (HB3.out.trans (hb.mono HB3.out.size))
  clear hb
  go_wp2_with fail
  refine (C4.out _).mono ?_
  rintro e w5 ⟨rfl, hb⟩
  have HB5 := Lib.hid (HB4.out.trans (hb.mono HB4.out.size))
  clear hb
  go_wp2
  go_ret
  exact ⟨rfl, HB5.out⟩

set_option maxHeartbeats 8000000 in
set_option maxRecDepth 100000 in
theorem idiv_yes (x y : Int) (sa : (Sz x).size ≤ 120) (sb : (Sz y).size ≤ 120) (hy0 : y ≠ 0) (w : World) (hl : La w) :
    Calls Tryz.prog 3 #[.string (Sz x), .string (Sz y)] w fun e w' => e = .returned (.bool true) ∧ Below w.heap.size w w' := by
  have HT := Lib.hid hl
  clear hl
  have SA := Lib.hid sa
  have SB := Lib.hid sb
  have kx := smz_of sa
  have ky := smz_of sb
  have fx : FitZ x := kx.fit (by decide)
  have fy : FitZ y := ky.fit (by decide)
  have hx : (Sz x).size ≤ 1000 := by omega
  have hy : (Sz y).size ≤ 1000 := by omega
  have fq : Fit (x.natAbs + 1) := kx.succ (by decide)
  clear sa sb
  obtain ⟨g, h, b1, b2, hg, hh, g0, h0, ha0, hah, hab, huq⟩ := bez_all x y hy0
  have C1 := Lib.hid (fun (W : World) (T : La W) => zDivMod x y _ _ hy0 rfl rfl fx fy fq W T)
  have C2 := Lib.hid (fun (W : World) => zrDivMod x y _ _ hy0 rfl rfl kx ky hx hy W)
  have C3 := Lib.hid (fun (W : World) (T : La W) => zBezout x y hy0 kx ky g h b1 b2 hg hh g0 h0 ha0 hah hab huq W T)
  have C4 := Lib.hid (fun (W : World) => zrBezout x y hy0 kx ky hx hy g h b1 b2 hg hh g0 h0 ha0 hah hab huq W)
  clear fx fy fq hx hy kx ky hg hh g0 h0 ha0 hah hab huq hy0
  generalize Sz (x / y) = s1 at *
  generalize Sz (x % y) = s2 at *
  generalize Sn g = s3 at *
  generalize Sz b1 = s4 at *
  generalize Sz b2 = s5 at *
  generalize Sz x = a at *
  generalize Sz y = b at *
  go_enter Tryz.func3, Tryz.ntmps3
  go_wp2_with fail
  refine (iawake _ HT.out).mono ?_
  rintro e w1 ⟨rfl, hb1⟩
  have HB1 := Lib.hid (hb1.alloc hb1.size (.cells #[.string a, .string b] 9))
  have hc := strs_cells2 w1 a b
  have HLo := Lib.hid (long2_no w1.heap.size a b _ SA.out SB.out hc)
  clear hb1 hc
  go_wp2_with fail
  refine HLo.out.mono ?_
  rintro e w' ⟨rfl, rfl⟩
  go_wp2_with fail
  refine (C1.out _ (HT.out.on HB1.out)).mono ?_
  rintro e w2 ⟨rfl, hb⟩
  have HB2 := Lib.hid (HB1.out.trans (hb.mono HB1.out.size))
  clear hb
  go_wp2_with fail
  refine (C2.out _).mono ?_
  rintro e w3 ⟨rfl, hb⟩
  have HB3 := Lib.hid (HB2.out.trans (hb.mono HB2.out.size))
  clear hb
  go_wp2_with fail
  refine (C3.out _ (HT.out.on HB3.out)).mono ?_
  rintro e w4 ⟨rfl, hb⟩
  have HB4 := Lib.hid (HB3.out.trans (hb.mono HB3.out.size))
  clear hb
  go_wp2_with fail
  refine (C4.out _).mono ?_
  rintro e w5 ⟨rfl, hb⟩
  have HB5 := Lib.hid (HB4.out.trans (hb.mono HB4.out.size))
  clear hb
  go_wp2
  go_ret
  exact ⟨rfl, HB5.out⟩

theorem idiv_any (a b : ByteArray) (w : World) (hl : La w) :
    Calls Tryz.prog 3 #[.string a, .string b] w fun e w' => e = .returned (.bool true) ∧ Below w.heap.size w w' := by
  by_cases hab : 120 < a.size ∨ 120 < b.size
  · exact idiv_long a b hab w hl
  · have ha : a.size ≤ 120 := by omega
    have hb : b.size ≤ 120 := by omega
    cases hv : (vldZ a.data.toList && vldZ b.data.toList) with
    | false => exact idiv_no a b ha hb hv w hl
    | true =>
      have hv' := hv
      rw [Bool.and_eq_true] at hv'
      have ea := sz_of hv'.1
      have eb := sz_of hv'.2
      generalize zval a.data.toList = x at ea
      generalize zval b.data.toList = y at eb
      subst ea
      subst eb
      by_cases hy0 : y = 0
      · subst hy0
        rw [sz_zero'] at hb ⊢
        exact idiv_zero x ha w hl
      · exact idiv_yes x y ha hb hy0 w hl

end Go.Proofs.YtohaocgbclpknaaGreatDoor
