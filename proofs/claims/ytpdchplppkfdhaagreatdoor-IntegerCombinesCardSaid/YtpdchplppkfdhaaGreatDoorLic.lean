/- garboardlaw02.IntegerCombines returns true: walks. -/
import Derived.Test.YtpdchplppkfdhaaGreatDoorMl
import Derived.Test.YtpdchplppkfdhaaGreatDoorMi
namespace Go.Proofs.YtpdchplppkfdhaaGreatDoor
open Go.RowKit Go.Gb

theorem sz_zero' : Sz 0 = ⟨#[48]⟩ := by decide +kernel
theorem sz_neq0 {z : Int} (h : z ≠ 0) : ((Sz z).toList == [48]) = false := by
  rw [beq_eq_false_iff_ne, toList_data]
  intro h2
  apply h
  have e : Sz z = ⟨#[48]⟩ := by
    cases hz : Sz z with
    | mk d => rw [hz] at h2; exact congrArg ByteArray.mk (Array.ext' h2)
  rw [← sz_zero'] at e
  exact sz_inj e
theorem zAbsV (x : Int) (n : Nat) (hn : x.natAbs = n) (hx : FitZ x) (w : World) (hl : La w) :
    Calls Tryz.prog 33 #[.string (Sz x)] w fun e w' => e = .returned (.tuple #[.string (Sn n), .int .i64 0]) ∧ Below w.heap.size w w' := by
  subst hn; exact zAbs x hx w hl
theorem zCompareN (x : Int) (n : Nat) (hc : x < (n : Int)) (hx : FitZ x) (hn : Fit n) (w : World) (hl : La w) :
    Calls Tryz.prog 41 #[.string (Sz x), .string (Sn n)] w fun e w' => e = .returned (.tuple #[.int .i64 (-1), .int .i64 0]) ∧ Below w.heap.size w w' := by
  have h := zCompare x (n : Int) (-1) (cmpZ_lt hc) hx hn.nat w hl
  rwa [sz_nat] at h
theorem zAddN2 (x y : Int) (g : Nat) (hg : x + y = (g : Int)) (hx : FitZ x) (hy : FitZ y) (fg : Fit g) (w : World) (hl : La w) :
    Calls Tryz.prog 43 #[.string (Sz x), .string (Sz y)] w fun e w' => e = .returned (.tuple #[.string (Sn g), .int .i64 0]) ∧ Below w.heap.size w w' := by
  have h := zAdd x y (g : Int) hg hx hy fg.nat w hl
  rwa [sz_nat] at h

/-- Bezout of two strings one of which is no integer. -/
theorem zBezout_no (a b : ByteArray) (h : (vldZ a.data.toList && vldZ b.data.toList) = false) (ha : a.size ≤ 1000) (hb : b.size ≤ 1000) (w : World) (hl : La w) :
    Calls Tryz.prog 51 #[.string a, .string b] w fun e w' => e = .returned (.tuple #[.string ⟨#[]⟩, .string ⟨#[]⟩, .string ⟨#[]⟩, .int .i64 1]) ∧ Below w.heap.size w w' := by
  have HR := Lib.hid (readBoth_no a b h ha hb w hl.zz)
  clear hl h
  go_enter Tryz.func51, Tryz.ntmps51
  go_wp2_with fail
  refine HR.out.mono ?_
  rintro e w1 ⟨s, t, b, c, rfl, hb1⟩
  have HB1 := Lib.hid ((hb1.alloc hb1.size (.cells #[.int .i64 s, .string b] 68)).alloc (by have := hb1.size; simp; omega) (.cells #[.int .i64 t, .string c] 68))
  clear hb1
  go_wp2
  exact bodyPost_ret (v := .tuple #[.string ⟨#[]⟩, .string ⟨#[]⟩, .string ⟨#[]⟩, .int .i64 1]) (by simp [results, Tryz.results51, go_sem]) rfl ⟨rfl, HB1.out⟩
/-- Bezout of a number and 0. -/
theorem zBezout_zero (z : Int) (fz : FitZ z) (w : World) (hl : La w) :
    Calls Tryz.prog 51 #[.string (Sz z), .string ⟨#[48]⟩] w fun e w' => e = .returned (.tuple #[.string (Sn z.natAbs), .string (Sz z.sign), .string ⟨#[48]⟩, .int .i64 0]) ∧ Below w.heap.size w w' := by
  have hr := readBoth_yes z 0 fz fit0 w hl.zz
  rw [sz_zero', zv_zero] at hr
  unfold Zv at hr
  have HR := Lib.hid hr
  have HF := Lib.hid (show ∀ W, La W → Calls Tryz.prog 39 #[.int .i64 z.sign] W fun e w' => e = .returned (.string (Sz z.sign)) ∧ Below W.heap.size W w' from fun W hW => by
    have h := From_any z.sign (by rcases Int.lt_trichotomy z 0 with h | h | h; (rw [Int.sign_eq_neg_one_of_neg h]; decide); (rw [h]; decide); (rw [Int.sign_eq_one_of_pos h]; decide)) (by rcases Int.lt_trichotomy z 0 with h | h | h; (rw [Int.sign_eq_neg_one_of_neg h]; decide); (rw [h]; decide); (rw [Int.sign_eq_one_of_pos h]; decide)) W hW
    have e : (⟨(Lib.itoa z.sign).toArray⟩ : ByteArray) = Sz z.sign := by
      rcases Int.lt_trichotomy z 0 with h | h | h
      · rw [Int.sign_eq_neg_one_of_neg h]; decide +kernel
      · rw [h]; decide +kernel
      · rw [Int.sign_eq_one_of_pos h]; decide +kernel
    rw [e] at h
    exact h)
  have HL := Lib.hid hl
  clear hr hl fz
  generalize Sz z.sign = rs at *
  go_enter Tryz.func51, Tryz.ntmps51
  go_wp2_with fail
  refine HR.out.mono ?_
  rintro e w1 ⟨rfl, hb1⟩
  have HB1 := Lib.hid ((hb1.alloc hb1.size (.cells #[.int .i64 z.sign, .string (Sn z.natAbs)] 68)).alloc (by have := hb1.size; simp; omega) (.cells #[.int .i64 0, .string ⟨#[48]⟩] 68))
  have HN8 := Lib.hid ((Nb.new w1 z.sign (Sn z.natAbs)).alloc (.cells #[.int .i64 0, .string ⟨#[48]⟩] 68))
  have hn9 := Nb.new (w1.alloc (.cells #[.int .i64 z.sign, .string (Sn z.natAbs)] 68)) 0 ⟨#[48]⟩
  rw [World.size_alloc] at hn9
  obtain ⟨z0, z1, z2⟩ := HL.out.zz.on HB1.out
  have a0 := HN8.out.c0
  have a1 := HN8.out.c1
  have b0 := hn9.c0
  have b1 := hn9.c1
  clear hb1 hn9
  have HLd := Lib.hid (HL.out.on HB1.out.drew)
  go_wp2
  go_region_with (go_at_call 39; go_must (refine (HF.out _ HLd.out).mono ?_; rintro e w2 ⟨rfl, hb2⟩; have n8 := Nb.belowD HN8.out hb2; have d0 := n8.c0; have d1 := n8.c1; have HB2 := Lib.hid (HB1.out.drew.trans (hb2.mono HB1.out.drew.size)); clear hb2 n8))
  all_goals
    go_wp2
    refine bodyPost_ret (v := .tuple #[.string (Sn z.natAbs), .string rs, .string ⟨#[48]⟩, .int .i64 0]) (by simp [results, Tryz.results51, go_sem]) rfl ⟨rfl, HB2.out⟩

set_option maxHeartbeats 8000000 in
set_option maxRecDepth 100000 in
theorem icom_long (a b : ByteArray) (hab : 120 < a.size ∨ 120 < b.size) (w : World) (hl : La w) :
    Calls Tryz.prog 12 #[.string a, .string b] w fun e w' => e = .returned (.bool true) ∧ Below w.heap.size w w' := by
  have HT := Lib.hid hl
  clear hl
  have HL := Lib.hid hab
  clear hab
  go_enter Tryz.func12, Tryz.ntmps12
  go_wp2_with fail
  refine (iawake _ HT.out).mono ?_
  rintro e w1 ⟨rfl, hb1⟩
  have HB1 := Lib.hid (hb1.alloc hb1.size (.cells #[.string a, .string b] 9))
  have hc := strs_cells2 w1 a b
  have HLo := Lib.hid (long2_yes w1.heap.size a b _ HL.out hc)
  clear hb1 hc
  go_wp2_with fail
  refine HLo.out.mono ?_
  rintro e w' ⟨rfl, rfl⟩
  go_wp2_with fail
  refine (iawake _ (HT.out.on HB1.out)).mono ?_
  rintro e w2 ⟨rfl, hb⟩
  have HB2 := Lib.hid (HB1.out.trans (hb.mono HB1.out.size))
  clear hb
  go_wp2
  go_ret
  exact ⟨rfl, HB2.out⟩

set_option maxHeartbeats 8000000 in
set_option maxRecDepth 100000 in
theorem icom_no0 (a b : ByteArray) (ha : a.size ≤ 120) (hb : b.size ≤ 120) (hv : vldZ a.data.toList = false) (w : World) (hl : La w) :
    Calls Tryz.prog 12 #[.string a, .string b] w fun e w' => e = .returned (.bool true) ∧ Below w.heap.size w w' := by
  have HT := Lib.hid hl
  clear hl
  have Hla := Lib.hid ha
  have Hlb := Lib.hid hb
  have Hma := Lib.hid (show a.size ≤ maxLen by unfold maxLen; omega)
  have HV := Lib.hid hv
  have HVV := Lib.hid (show (vldZ a.data.toList && vldZ b.data.toList) = false by rw [hv]; rfl)
  have K1 := Lib.hid (show a.size ≤ 1000 by omega)
  have K2 := Lib.hid (show b.size ≤ 1000 by omega)
  clear ha hb hv
  go_enter Tryz.func12, Tryz.ntmps12
  go_wp2_with fail
  refine (iawake _ HT.out).mono ?_
  rintro e w1 ⟨rfl, hb1⟩
  have HB1 := Lib.hid (hb1.alloc hb1.size (.cells #[.string a, .string b] 9))
  have hc := strs_cells2 w1 a b
  have HLo := Lib.hid (long2_no w1.heap.size a b _ Hla.out Hlb.out hc)
  clear hb1 hc
  go_wp2_with fail
  refine HLo.out.mono ?_
  rintro e w' ⟨rfl, rfl⟩
  go_wp2_with fail
  refine (zBezout_no a b HVV.out K1.out K2.out _ (HT.out.on HB1.out)).mono ?_
  rintro e w2 ⟨rfl, hb⟩
  have HB2 := Lib.hid (HB1.out.trans (hb.mono HB1.out.size))
  clear hb
  go_wp2_with fail
  refine (zValid_no a HV.out Hma.out _).mono ?_
  rintro e w3 ⟨rfl, hb⟩
  have HB3 := Lib.hid (HB2.out.trans (hb.mono HB2.out.size))
  clear hb
  go_wp2
  go_ret
  exact ⟨rfl, HB3.out⟩

set_option maxHeartbeats 8000000 in
set_option maxRecDepth 100000 in
theorem icom_no1 (x : Int) (b : ByteArray) (sa : (Sz x).size ≤ 120) (hb : b.size ≤ 120) (hv : vldZ b.data.toList = false) (w : World) (hl : La w) :
    Calls Tryz.prog 12 #[.string (Sz x), .string b] w fun e w' => e = .returned (.bool true) ∧ Below w.heap.size w w' := by
  have HT := Lib.hid hl
  clear hl
  have SA := Lib.hid sa
  have Hlb := Lib.hid hb
  have Hmb := Lib.hid (show b.size ≤ maxLen by unfold maxLen; omega)
  have FX := Lib.hid ((smz_of sa).fit (show 120 ≤ 2000 by decide))
  have HV := Lib.hid hv
  have HVV := Lib.hid (show (vldZ (Sz x).data.toList && vldZ b.data.toList) = false by rw [hv, Bool.and_false])
  have K1 := Lib.hid (show (Sz x).size ≤ 1000 by omega)
  have K2 := Lib.hid (show b.size ≤ 1000 by omega)
  clear sa hb hv
  go_enter Tryz.func12, Tryz.ntmps12
  go_wp2_with fail
  refine (iawake _ HT.out).mono ?_
  rintro e w1 ⟨rfl, hb1⟩
  have HB1 := Lib.hid (hb1.alloc hb1.size (.cells #[.string (Sz x), .string b] 9))
  have hc := strs_cells2 w1 (Sz x) b
  have HLo := Lib.hid (long2_no w1.heap.size (Sz x) b _ SA.out Hlb.out hc)
  clear hb1 hc
  go_wp2_with fail
  refine HLo.out.mono ?_
  rintro e w' ⟨rfl, rfl⟩
  go_wp2_with fail
  refine (zBezout_no (Sz x) b HVV.out K1.out K2.out _ (HT.out.on HB1.out)).mono ?_
  rintro e w2 ⟨rfl, hb⟩
  have HB2 := Lib.hid (HB1.out.trans (hb.mono HB1.out.size))
  clear hb
  go_wp2_with fail
  refine (zValid_yes x FX.out _ (HT.out.on HB2.out).zz).mono ?_
  rintro e w3 ⟨rfl, hb⟩
  have HB3 := Lib.hid (HB2.out.trans (hb.mono HB2.out.size))
  clear hb
  go_wp2_with fail
  refine (zValid_no b HV.out Hmb.out _).mono ?_
  rintro e w4 ⟨rfl, hb⟩
  have HB4 := Lib.hid (HB3.out.trans (hb.mono HB3.out.size))
  clear hb
  go_wp2
  go_ret
  exact ⟨rfl, HB4.out⟩

set_option maxHeartbeats 8000000 in
set_option maxRecDepth 100000 in
theorem icom_zero (x : Int) (sa : (Sz x).size ≤ 120) (w : World) (hl : La w) :
    Calls Tryz.prog 12 #[.string (Sz x), .string ⟨#[48]⟩] w fun e w' => e = .returned (.bool true) ∧ Below w.heap.size w w' := by
  have HT := Lib.hid hl
  clear hl
  have SA := Lib.hid sa
  have SB := Lib.hid (show (⟨#[48]⟩ : ByteArray).size ≤ 120 by decide)
  have hx := smz_of sa
  have FX := Lib.hid (hx.fit (show 120 ≤ 2000 by decide))
  obtain ⟨n, hn⟩ : ∃ n, x.natAbs = n := ⟨_, rfl⟩
  have Fn := Lib.hid (show Fit n from hn ▸ hx.fit (by decide))
  have hs1 : x.sign.natAbs ≤ 1 := by
    rcases Int.lt_trichotomy x 0 with h | h | h
    · rw [Int.sign_eq_neg_one_of_neg h]; decide
    · rw [h]; decide
    · rw [Int.sign_eq_one_of_pos h]; decide
  have Fs := Lib.hid (show FitZ x.sign from fitZ_le fit1 hs1)
  have E1 := Lib.hid (show x * x.sign = (n : Int) by rw [Int.mul_sign_self, hn])
  have E2 := Lib.hid (show (0 : Int) * 0 = 0 from rfl)
  have E3 := Lib.hid (show (n : Int) + 0 = (n : Int) by omega)
  have E4 := Lib.hid hn
  have E5 := Lib.hid (Nat.gcd_zero_right n)
  have hz := zBezout_zero x (hx.fit (by decide))
  rw [hn] at hz
  have HZ := Lib.hid hz
  have C1 := Lib.hid (fun (W : World) (T : La W) => zMul x x.sign (n : Int) E1.out FX.out Fs.out Fn.out.nat W T)
  have C2 := Lib.hid (fun (W : World) (T : La W) => zMul 0 0 0 E2.out fit0 fit0 fit0 W T)
  have C3 := Lib.hid (fun (W : World) (T : La W) => zAddN2 (n : Int) 0 n E3.out Fn.out.nat fit0 Fn.out W T)
  have C4 := Lib.hid (fun (W : World) (T : La W) => zAbsV x n E4.out FX.out W T)
  have C5 := Lib.hid (fun (W : World) (T : La W) => zAbsV 0 0 rfl fit0 W T)
  have C6 := Lib.hid (fun (W : World) (T : La W) => nGCDV n 0 n E5.out Fn.out fit0 W T.tb)
  rw [sz_nat] at C1 C3
  rw [sz_zero'] at C2 C3 C5
  rw [sn_zero] at C5 C6
  clear sa hx hn hs1 hz
  generalize Sz x.sign = rs at *
  go_enter Tryz.func12, Tryz.ntmps12
  go_wp2_with fail
  refine (iawake _ HT.out).mono ?_
  rintro e w1 ⟨rfl, hb1⟩
  have HB1 := Lib.hid (hb1.alloc hb1.size (.cells #[.string (Sz x), .string ⟨#[48]⟩] 9))
  have hc := strs_cells2 w1 (Sz x) ⟨#[48]⟩
  have HLo := Lib.hid (long2_no w1.heap.size (Sz x) ⟨#[48]⟩ _ SA.out SB.out hc)
  clear hb1 hc
  go_wp2_with fail
  refine HLo.out.mono ?_
  rintro e w' ⟨rfl, rfl⟩
  go_wp2_with fail
  refine (HZ.out _ (HT.out.on HB1.out)).mono ?_
  rintro e w2 ⟨rfl, hb⟩
  have HB2 := Lib.hid (HB1.out.trans (hb.mono HB1.out.size))
  clear hb
  go_wp2_with fail
  refine (C1.out _ (HT.out.on HB2.out)).mono ?_
  rintro e w3 ⟨rfl, hb⟩
  have HB3 := Lib.hid (HB2.out.trans (hb.mono HB2.out.size))
  clear hb
  go_wp2_with fail
  refine (C2.out _ (HT.out.on HB3.out)).mono ?_
  rintro e w4 ⟨rfl, hb⟩
  have HB4 := Lib.hid (HB3.out.trans (hb.mono HB3.out.size))
  clear hb
  go_wp2_with fail
  refine (C3.out _ (HT.out.on HB4.out)).mono ?_
  rintro e w5 ⟨rfl, hb⟩
  have HB5 := Lib.hid (HB4.out.trans (hb.mono HB4.out.size))
  clear hb
  go_wp2_with fail
  refine (C4.out _ (HT.out.on HB5.out)).mono ?_
  rintro e w6 ⟨rfl, hb⟩
  have HB6 := Lib.hid (HB5.out.trans (hb.mono HB5.out.size))
  clear hb
  go_wp2_with fail
  refine (C5.out _ (HT.out.on HB6.out)).mono ?_
  rintro e w7 ⟨rfl, hb⟩
  have HB7 := Lib.hid (HB6.out.trans (hb.mono HB6.out.size))
  clear hb
  go_wp2_with fail
  refine (C6.out _ (HT.out.on HB7.out)).mono ?_
  rintro e w8 ⟨rfl, hb⟩
  have HB8 := Lib.hid (HB7.out.trans (hb.mono HB7.out.size))
  clear hb
  go_wp2
  go_ret
  exact ⟨rfl, HB8.out⟩

set_option maxHeartbeats 8000000 in
set_option maxRecDepth 100000 in
theorem icom_yes (x y : Int) (sa : (Sz x).size ≤ 120) (sb : (Sz y).size ≤ 120) (hy0 : y ≠ 0) (w : World) (hl : La w) :
    Calls Tryz.prog 12 #[.string (Sz x), .string (Sz y)] w fun e w' => e = .returned (.bool true) ∧ Below w.heap.size w w' := by
  have HT := Lib.hid hl
  clear hl
  have SA := Lib.hid sa
  have SB := Lib.hid sb
  have hx := smz_of sa
  have hy := smz_of sb
  have FX := Lib.hid (hx.fit (show 120 ≤ 2000 by decide))
  have FY := Lib.hid (hy.fit (show 120 ≤ 2000 by decide))
  obtain ⟨g, h, u, v, hg, hh, g0, h0, hu0, huh, huv, huniq⟩ := bez_all x y hy0
  obtain ⟨m, hm⟩ : ∃ m, x.natAbs = m := ⟨_, rfl⟩
  obtain ⟨n, hn⟩ : ∃ n, y.natAbs = n := ⟨_, rfl⟩
  have hgn : g ≤ n := by rw [hg, hn]; exact Nat.gcd_le_right _ (by omega)
  have hhn : h ≤ n := by rw [← hh, hn]; exact Nat.div_le_self _ _
  have hyn : Sm 120 n := hn ▸ hy
  have hxm : Sm 120 m := hm ▸ hx
  have su : SmZ 120 u := Sm.le hyn (by omega)
  have HZ := Lib.hid (fun (W : World) (T : La W) => zBezout x y hy0 hx hy g h u v hg hh g0 h0 hu0 huh huv huniq W T)
  obtain ⟨p, hp⟩ : ∃ p, x * u = p := ⟨_, rfl⟩
  obtain ⟨q, hq⟩ : ∃ q, y * v = q := ⟨_, rfl⟩
  have sp : SmZ 240 p := hp ▸ hx.mul su
  have sg : SmZ 240 (g : Int) := show Sm 240 (g : Int).natAbs by rw [Int.natAbs_natCast]; exact Sm.mono (Sm.le hyn hgn) (by decide)
  have hpq : p + q = (g : Int) := by rw [← hp, ← hq]; exact huv
  have sq : SmZ 241 q := by
    have := SmZ.sub sg sp
    rwa [show (g : Int) - p = q by omega] at this
  have hvq : v.natAbs ≤ q.natAbs := by
    rw [← hq, Int.natAbs_mul]
    have : 1 * v.natAbs ≤ y.natAbs * v.natAbs := Nat.mul_le_mul_right _ (by omega)
    omega
  have sv : SmZ 241 v := Sm.le sq hvq
  have Fu := Lib.hid (su.fit (show 120 ≤ 2000 by decide))
  have Fv := Lib.hid (sv.fit (show 241 ≤ 2000 by decide))
  have Fp := Lib.hid (sp.fit (show 240 ≤ 2000 by decide))
  have Fq := Lib.hid (sq.fit (show 241 ≤ 2000 by decide))
  have Fg := Lib.hid (show Fit g from Fit.le (hyn.mono (by decide)) hgn)
  have Fh := Lib.hid (show Fit h from Fit.le (hyn.mono (by decide)) hhn)
  have Fm := Lib.hid (show Fit m from hxm.mono (by decide))
  have Fn := Lib.hid (show Fit n from hyn.mono (by decide))
  have E1 := Lib.hid hp
  have E2 := Lib.hid hq
  have E3 := Lib.hid hpq
  have E4 := Lib.hid hm
  have E5 := Lib.hid hn
  have E6 := Lib.hid (show Nat.gcd m n = g by rw [hg, hm, hn])
  have hdm := nDivMod n g Fn.out Fg.out g0
  rw [show n / g = h by rw [← hn]; exact hh] at hdm
  have HDM := Lib.hid (fun (W : World) (T : La W) => hdm W T.tb)
  have E7 := Lib.hid huh
  have hsg : 0 ≤ u.sign := Int.sign_nonneg_iff.2 hu0
  have hne := sz_neq0 hy0
  clear sa sb hx hy hg hh g0 h0 hu0 huh huv huniq hm hn hgn hhn hyn hxm su hp hq sp sg hpq sq hvq sv hdm hy0
  generalize n % g = rr at *
  have C1 := Lib.hid (fun (W : World) (T : La W) => zMul x u p E1.out FX.out Fu.out Fp.out W T)
  have C2 := Lib.hid (fun (W : World) (T : La W) => zMul y v q E2.out FY.out Fv.out Fq.out W T)
  have C3 := Lib.hid (fun (W : World) (T : La W) => zAddN2 p q g E3.out Fp.out Fq.out Fg.out W T)
  have C4 := Lib.hid (fun (W : World) (T : La W) => zAbsV x m E4.out FX.out W T)
  have C5 := Lib.hid (fun (W : World) (T : La W) => zAbsV y n E5.out FY.out W T)
  have C6 := Lib.hid (fun (W : World) (T : La W) => nGCDV m n g E6.out Fm.out Fn.out W T.tb)
  have C8 := Lib.hid (fun (W : World) (T : La W) => zCompareN u h E7.out Fu.out Fh.out W T)
  have C9 := Lib.hid (fun (W : World) (T : La W) => zSign u Fu.out W T)
  generalize u.sign = us at *
  go_enter Tryz.func12, Tryz.ntmps12
  go_wp2_with fail
  refine (iawake _ HT.out).mono ?_
  rintro e w1 ⟨rfl, hb1⟩
  have HB1 := Lib.hid (hb1.alloc hb1.size (.cells #[.string (Sz x), .string (Sz y)] 9))
  have hc := strs_cells2 w1 (Sz x) (Sz y)
  have HLo := Lib.hid (long2_no w1.heap.size (Sz x) (Sz y) _ SA.out SB.out hc)
  clear hb1 hc
  go_wp2_with fail
  refine HLo.out.mono ?_
  rintro e w' ⟨rfl, rfl⟩
  go_wp2_with fail
  refine (HZ.out _ (HT.out.on HB1.out)).mono ?_
  rintro e w2 ⟨rfl, hb⟩
  have HB2 := Lib.hid (HB1.out.trans (hb.mono HB1.out.size))
  clear hb
  go_wp2_with fail
  refine (C1.out _ (HT.out.on HB2.out)).mono ?_
  rintro e w3 ⟨rfl, hb⟩
  have HB3 := Lib.hid (HB2.out.trans (hb.mono HB2.out.size))
  clear hb
  go_wp2_with fail
  refine (C2.out _ (HT.out.on HB3.out)).mono ?_
  rintro e w4 ⟨rfl, hb⟩
  have HB4 := Lib.hid (HB3.out.trans (hb.mono HB3.out.size))
  clear hb
  go_wp2_with fail
  refine (C3.out _ (HT.out.on HB4.out)).mono ?_
  rintro e w5 ⟨rfl, hb⟩
  have HB5 := Lib.hid (HB4.out.trans (hb.mono HB4.out.size))
  clear hb
  go_wp2_with fail
  refine (C4.out _ (HT.out.on HB5.out)).mono ?_
  rintro e w6 ⟨rfl, hb⟩
  have HB6 := Lib.hid (HB5.out.trans (hb.mono HB5.out.size))
  clear hb
  go_wp2_with fail
  refine (C5.out _ (HT.out.on HB6.out)).mono ?_
  rintro e w7 ⟨rfl, hb⟩
  have HB7 := Lib.hid (HB6.out.trans (hb.mono HB6.out.size))
  clear hb
  go_wp2_with fail
  refine (C6.out _ (HT.out.on HB7.out)).mono ?_
  rintro e w8 ⟨rfl, hb⟩
  have HB8 := Lib.hid (HB7.out.trans (hb.mono HB7.out.size))
  clear hb
  go_wp2_with fail
  refine (HDM.out _ (HT.out.on HB8.out)).mono ?_
  rintro e w9 ⟨rfl, hb⟩
  have HB9 := Lib.hid (HB8.out.trans (hb.mono HB8.out.size))
  clear hb
  go_wp2_with fail
  refine (C8.out _ (HT.out.on HB9.out)).mono ?_
  rintro e w10 ⟨rfl, hb⟩
  have HB10 := Lib.hid (HB9.out.trans (hb.mono HB9.out.size))
  clear hb
  go_wp2_with fail
  refine (C9.out _ (HT.out.on HB10.out)).mono ?_
  rintro e w11 ⟨rfl, hb⟩
  have HB11 := Lib.hid (HB10.out.trans (hb.mono HB10.out.size))
  clear hb
  go_wp2
  go_ret
  exact ⟨rfl, HB11.out⟩

theorem icom_any (a b : ByteArray) (w : World) (hl : La w) :
    Calls Tryz.prog 12 #[.string a, .string b] w fun e w' => e = .returned (.bool true) ∧ Below w.heap.size w w' := by
  by_cases hab : 120 < a.size ∨ 120 < b.size
  · exact icom_long a b hab w hl
  · have ha : a.size ≤ 120 := by omega
    have hb : b.size ≤ 120 := by omega
    cases va : vldZ a.data.toList with
    | false => exact icom_no0 a b ha hb va w hl
    | true =>
      have ea := sz_of va
      generalize zval a.data.toList = x at ea
      subst ea
      cases vb : vldZ b.data.toList with
      | false => exact icom_no1 x b ha hb vb w hl
      | true =>
        have eb := sz_of vb
        generalize zval b.data.toList = y at eb
        subst eb
        by_cases hy0 : y = 0
        · subst hy0
          rw [sz_zero']
          exact icom_zero x ha w hl
        · exact icom_yes x y ha hb hy0 w hl

end Go.Proofs.YtpdchplppkfdhaaGreatDoor
