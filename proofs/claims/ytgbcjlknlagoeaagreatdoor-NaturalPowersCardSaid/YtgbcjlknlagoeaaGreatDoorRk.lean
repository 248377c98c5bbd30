/- The functions of garboardref01 on numerals: contracts in numbers. -/
import Derived.Test.YtgbcjlknlagoeaaGreatDoorRgd
import Derived.Test.YtgbcjlknlagoeaaGreatDoorMri
import Derived.Test.YtgbcjlknlagoeaaGreatDoorMkf
namespace Go.Proofs.YtgbcjlknlagoeaaGreatDoor
open Go.RowKit Go.Gb

set_option maxRecDepth 100000 in
theorem RTo_zero (a : Option Addr) (c : Nat) (w : World) : Calls Tryz.prog 57 #[.slice a 0 c] w fun e w' => e = .returned (.string (Sn 0)) ∧ w = w' := by
  go_enter Tryz.func57, Tryz.ntmps57
  go_wp2
  go_ret
  refine ⟨?_, rfl⟩
  unfold Sn
  rw [Lib.decDigits_one (by decide)]
  rfl
theorem RTo_any (v : Value) (n : Nat) (hl : (digs n).length ≤ 10000) (w : World) (h : Rd .u32 w v (digs n)) :
    Calls Tryz.prog 57 #[v] w fun e w' => e = .returned (.string (Sn n)) ∧ Below w.heap.size w w' := by
  by_cases h0 : n = 0
  · subst h0
    rw [digs_zero] at h
    obtain ⟨a, c, rfl⟩ := rd_form h
    exact (RTo_zero a c w).mono fun e w' ⟨h1, h2⟩ => ⟨h1, h2 ▸ Below.refl _ _⟩
  · have hne : digs n ≠ [] := by rw [digs_pos h0]; simp
    have hp : 0 < (digs n).length := List.length_pos_iff.2 hne
    obtain ⟨b, o, c, rfl, _, _, hb, hc⟩ := rd_pos h hp
    have hlast : (digs n).getD ((digs n).length - 1) 0 ≠ 0 := by
      have := digs_last n hne
      rw [List.getLast_eq_getElem] at this
      rwa [getD_of_lt (by omega)]
    have := RTo_some b o c (digs n) (digs_lt n) hp hlast hl w hb hc
    rw [wval_digs] at this
    exact this

set_option maxHeartbeats 1000000 in
theorem Rboth_any (a b : ByteArray) (ha : vld a.data.toList = true) (hb : vld b.data.toList = true) (hla : a.size ≤ 100000) (hlb : b.size ≤ 100000) (w : World) :
    Calls Tryz.prog 56 #[.string a, .string b] w fun e w' => ∃ x y, e = .returned (.tuple #[x, y, .int .i64 0]) ∧ Own .u32 106 w.heap.size w' x (digs (dval a.data.toList)) ∧ Own .u32 106 w.heap.size w' y (digs (dval b.data.toList)) ∧ Below w.heap.size w w' := by
  have HA := Lib.hid ha
  have HB := Lib.hid hb
  have hra := Lib.hid (all_of_vld ha)
  have hrb := Lib.hid (all_of_vld hb)
  have Hla := Lib.hid (show a.size ≤ maxLen by unfold maxLen; omega)
  have Hlb := Lib.hid (show b.size ≤ maxLen by unfold maxLen; omega)
  clear ha hb
  go_enter Tryz.func56, Tryz.ntmps56
  go_wp2_with fail
  refine (RValid_yes a HA.out Hla.out _).mono ?_
  rintro e w' ⟨rfl, rfl⟩
  go_wp2_with fail
  refine (RValid_yes b HB.out Hlb.out _).mono ?_
  rintro e w' ⟨rfl, rfl⟩
  go_wp2_with fail
  refine (RFrom_any a hra.out hla _).mono ?_
  rintro e w1 ⟨x, rfl, ho1, hb1⟩
  have HO1 := Lib.hid ho1
  have HB1 := Lib.hid hb1
  clear ho1 hb1
  go_wp2_with fail
  refine (RFrom_any b hrb.out hlb _).mono ?_
  rintro e w2 ⟨y, rfl, ho2, hb2⟩
  have HO2 := Lib.hid (ho2.mono HB1.out.size)
  have HO1' := Lib.hid (HO1.out.below hb2)
  have HB2 := Lib.hid (HB1.out.trans (hb2.mono HB1.out.size))
  clear ho2 hb2
  go_wp2
  go_ret3
  exact ⟨x, y, rfl, HO1'.out, HO2.out, HB2.out⟩
theorem Rboth_no (a b : ByteArray) (h : (vld a.data.toList && vld b.data.toList) = false) (hsa : a.size ≤ maxLen) (hsb : b.size ≤ maxLen) (w : World) :
    Calls Tryz.prog 56 #[.string a, .string b] w fun e w' => e = .returned (.tuple #[.slice none 0 0, .slice none 0 0, .int .i64 1]) ∧ w = w' := by
  rcases both_no h with ha | ⟨ha, hb⟩
  · have HA := Lib.hid ha
    clear h ha
    go_enter Tryz.func56, Tryz.ntmps56
    go_wp2_with fail
    refine (RValid_no a HA.out hsa _).mono ?_
    rintro e w' ⟨rfl, rfl⟩
    go_wp2
    go_ret3
    exact ⟨rfl, rfl⟩
  · have HA := Lib.hid ha
    have HB := Lib.hid hb
    clear h ha hb
    go_enter Tryz.func56, Tryz.ntmps56
    go_wp2_with fail
    refine (RValid_yes a HA.out hsa _).mono ?_
    rintro e w' ⟨rfl, rfl⟩
    go_wp2_with fail
    refine (RValid_no b HB.out hsb _).mono ?_
    rintro e w' ⟨rfl, rfl⟩
    go_wp2
    go_ret3
    exact ⟨rfl, rfl⟩
theorem rboth (x y : Nat) (hx : Fit x) (hy : Fit y) (w : World) :
    Calls Tryz.prog 56 #[.string (Sn x), .string (Sn y)] w fun e w' => ∃ u v, e = .returned (.tuple #[u, v, .int .i64 0]) ∧ Own .u32 106 w.heap.size w' u (digs x) ∧ Own .u32 106 w.heap.size w' v (digs y) ∧ Below w.heap.size w w' := by
  have h := Rboth_any (Sn x) (Sn y) (sn_vld x) (sn_vld y) (by have := hx.size; omega) (by have := hy.size; omega) w
  rwa [sn_dval, sn_dval] at h
theorem fit_len {x : Nat} (h : Fit x) : (digs x).length ≤ 2000 := sm_digs h (by decide)

theorem RAdd_no (a b : ByteArray) (h : (vld a.data.toList && vld b.data.toList) = false) (hsa : a.size ≤ maxLen) (hsb : b.size ≤ maxLen) (w : World) :
    Calls Tryz.prog 12 #[.string a, .string b] w fun e w' => e = .returned (.tuple #[St [], .int .i64 1]) ∧ w = w' := by
  have H := Lib.hid h
  clear h
  go_enter Tryz.func12, Tryz.ntmps12
  go_wp2_with fail
  refine (Rboth_no a b H.out hsa hsb _).mono ?_
  rintro e w' ⟨rfl, rfl⟩
  go_wp2
  go_ret2
  exact ⟨rfl, rfl⟩

theorem RSub_no (a b : ByteArray) (h : (vld a.data.toList && vld b.data.toList) = false) (hsa : a.size ≤ maxLen) (hsb : b.size ≤ maxLen) (w : World) :
    Calls Tryz.prog 14 #[.string a, .string b] w fun e w' => e = .returned (.tuple #[St [], .int .i64 1]) ∧ w = w' := by
  have H := Lib.hid h
  clear h
  go_enter Tryz.func14, Tryz.ntmps14
  go_wp2_with fail
  refine (Rboth_no a b H.out hsa hsb _).mono ?_
  rintro e w' ⟨rfl, rfl⟩
  go_wp2
  go_ret2
  exact ⟨rfl, rfl⟩

theorem RMul_no (a b : ByteArray) (h : (vld a.data.toList && vld b.data.toList) = false) (hsa : a.size ≤ maxLen) (hsb : b.size ≤ maxLen) (w : World) :
    Calls Tryz.prog 16 #[.string a, .string b] w fun e w' => e = .returned (.tuple #[St [], .int .i64 1]) ∧ w = w' := by
  have H := Lib.hid h
  clear h
  go_enter Tryz.func16, Tryz.ntmps16
  go_wp2_with fail
  refine (Rboth_no a b H.out hsa hsb _).mono ?_
  rintro e w' ⟨rfl, rfl⟩
  go_wp2
  go_ret2
  exact ⟨rfl, rfl⟩

theorem RGCD_no (a b : ByteArray) (h : (vld a.data.toList && vld b.data.toList) = false) (hsa : a.size ≤ maxLen) (hsb : b.size ≤ maxLen) (w : World) :
    Calls Tryz.prog 20 #[.string a, .string b] w fun e w' => e = .returned (.tuple #[St [], .int .i64 1]) ∧ w = w' := by
  have H := Lib.hid h
  clear h
  go_enter Tryz.func20, Tryz.ntmps20
  go_wp2_with fail
  refine (Rboth_no a b H.out hsa hsb _).mono ?_
  rintro e w' ⟨rfl, rfl⟩
  go_wp2
  go_ret2
  exact ⟨rfl, rfl⟩

theorem RDivMod_no (a b : ByteArray) (h : (vld a.data.toList && vld b.data.toList) = false) (hsa : a.size ≤ maxLen) (hsb : b.size ≤ maxLen) (w : World) :
    Calls Tryz.prog 18 #[.string a, .string b] w fun e w' => e = .returned (.tuple #[St [], St [], .int .i64 1]) ∧ w = w' := by
  have H := Lib.hid h
  clear h
  go_enter Tryz.func18, Tryz.ntmps18
  go_wp2_with fail
  refine (Rboth_no a b H.out hsa hsb _).mono ?_
  rintro e w' ⟨rfl, rfl⟩
  go_wp2
  go_ret3
  exact ⟨rfl, rfl⟩

set_option maxRecDepth 100000 in
theorem rAdd (x y : Nat) (hx : Fit x) (hy : Fit y) (w : World) :
    Calls Tryz.prog 12 #[.string (Sn x), .string (Sn y)] w fun e w' => e = .returned (.tuple #[.string (Sn (x + y)), .int .i64 0]) ∧ Below w.heap.size w w' := by
  have HX := Lib.hid hx
  have HY := Lib.hid hy
  obtain ⟨s, hs⟩ : ∃ s, s = x + y := ⟨_, rfl⟩
  rw [← hs]
  have HSL := Lib.hid (show (digs s).length ≤ 10000 by rw [hs]; have := digs_add_len (fit_len hx) (fit_len hy); omega)
  have HS := Lib.hid hs
  clear hx hy hs
  go_enter Tryz.func12, Tryz.ntmps12
  go_wp2_with fail
  refine (rboth x y HX.out HY.out _).mono ?_
  rintro e w1 ⟨u, v, rfl, hu, hv, hb1⟩
  have HU := Lib.hid hu.rd
  have HV := Lib.hid hv.rd
  have HB1 := Lib.hid hb1
  clear hu hv hb1
  have hc := RPlus_any u v x y (by have := fit_len HX.out; omega) (by have := fit_len HY.out; omega) w1 HU.out HV.out
  rw [← HS.out] at hc
  have HC := Lib.hid hc
  clear hc
  go_wp2_with fail
  refine HC.out.mono ?_
  rintro e w2 ⟨r, rfl, hr, hb⟩
  have HB2 := Lib.hid (HB1.out.trans (hb.mono HB1.out.size))
  have HR := Lib.hid hr.rd
  clear hr hb
  go_wp2_with fail
  refine (RTo_any r s HSL.out w2 HR.out).mono ?_
  rintro e w3 ⟨rfl, hb⟩
  have HB3 := Lib.hid (HB2.out.trans (hb.mono HB2.out.size))
  clear hb
  go_wp2
  go_ret2
  exact ⟨rfl, HB3.out⟩

set_option maxRecDepth 100000 in
theorem rMul (x y : Nat) (hx : Fit x) (hy : Fit y) (w : World) :
    Calls Tryz.prog 16 #[.string (Sn x), .string (Sn y)] w fun e w' => e = .returned (.tuple #[.string (Sn (x * y)), .int .i64 0]) ∧ Below w.heap.size w w' := by
  have HX := Lib.hid hx
  have HY := Lib.hid hy
  obtain ⟨s, hs⟩ : ∃ s, s = x * y := ⟨_, rfl⟩
  rw [← hs]
  have HSL := Lib.hid (show (digs s).length ≤ 10000 by rw [hs]; have := digs_mul_len x y; have := fit_len hx; have := fit_len hy; omega)
  have HS := Lib.hid hs
  clear hx hy hs
  go_enter Tryz.func16, Tryz.ntmps16
  go_wp2_with fail
  refine (rboth x y HX.out HY.out _).mono ?_
  rintro e w1 ⟨u, v, rfl, hu, hv, hb1⟩
  have HU := Lib.hid hu.rd
  have HV := Lib.hid hv.rd
  have HB1 := Lib.hid hb1
  clear hu hv hb1
  have hc := RTimes_any u v x y (by have := fit_len HX.out; omega) (by have := fit_len HY.out; omega) w1 HU.out HV.out
  rw [← HS.out] at hc
  have HC := Lib.hid hc
  clear hc
  go_wp2_with fail
  refine HC.out.mono ?_
  rintro e w2 ⟨r, rfl, hr, hb⟩
  have HB2 := Lib.hid (HB1.out.trans (hb.mono HB1.out.size))
  have HR := Lib.hid hr.rd
  clear hr hb
  go_wp2_with fail
  refine (RTo_any r s HSL.out w2 HR.out).mono ?_
  rintro e w3 ⟨rfl, hb⟩
  have HB3 := Lib.hid (HB2.out.trans (hb.mono HB2.out.size))
  clear hb
  go_wp2
  go_ret2
  exact ⟨rfl, HB3.out⟩

set_option maxRecDepth 100000 in
theorem rSub (x y : Nat) (hyx : y ≤ x) (hx : Fit x) (hy : Fit y) (w : World) :
    Calls Tryz.prog 14 #[.string (Sn x), .string (Sn y)] w fun e w' => e = .returned (.tuple #[.string (Sn (x - y)), .int .i64 0]) ∧ Below w.heap.size w w' := by
  have HX := Lib.hid hx
  have HY := Lib.hid hy
  obtain ⟨s, hs⟩ : ∃ s, s = x - y := ⟨_, rfl⟩
  rw [← hs]
  have HSL := Lib.hid (show (digs s).length ≤ 10000 by rw [hs]; have := digs_length_mono (Nat.sub_le x y); have := fit_len hx; omega)
  have HS := Lib.hid hs
  obtain ⟨cc, hcc⟩ : ∃ cc, cc = cmpN x y := ⟨_, rfl⟩
  have HCN := Lib.hid hcc.symm
  have hc0 : (0 : Int) ≤ cc := by rw [hcc]; unfold cmpN; split <;> (try split) <;> omega
  have HYX := Lib.hid hyx
  clear hx hy hs hcc hyx
  go_enter Tryz.func14, Tryz.ntmps14
  go_wp2_with fail
  refine (rboth x y HX.out HY.out _).mono ?_
  rintro e w1 ⟨u, v, rfl, hu, hv, hb1⟩
  have HU := Lib.hid hu.rd
  have HV := Lib.hid hv.rd
  have HB1 := Lib.hid hb1
  clear hu hv hb1
  have hcm := RCmp_any u v x y (by have := fit_len HX.out; omega) w1 HU.out HV.out
  rw [HCN.out] at hcm
  have HCM := Lib.hid hcm
  clear hcm
  go_wp2_with fail
  refine HCM.out.mono ?_
  rintro e w2 ⟨rfl, hb⟩
  have HB2 := Lib.hid (HB1.out.trans (hb.mono HB1.out.size))
  have HU2 := Lib.hid (HU.out.below hb)
  have HV2 := Lib.hid (HV.out.below hb)
  clear hb
  have hc := RMinus_any u v x y HYX.out (by have := fit_len HX.out; omega) w2 HU2.out HV2.out
  rw [← HS.out] at hc
  have HC := Lib.hid hc
  clear hc
  go_wp2_with fail
  refine HC.out.mono ?_
  rintro e w3 ⟨r, rfl, hr, hb⟩
  have HB3 := Lib.hid (HB2.out.trans (hb.mono HB2.out.size))
  have HR := Lib.hid hr.rd
  clear hr hb
  go_wp2_with fail
  refine (RTo_any r s HSL.out w3 HR.out).mono ?_
  rintro e w4 ⟨rfl, hb⟩
  have HB4 := Lib.hid (HB3.out.trans (hb.mono HB3.out.size))
  clear hb
  go_wp2
  go_ret2
  exact ⟨rfl, HB4.out⟩

set_option maxRecDepth 100000 in
theorem rSubLess (x y : Nat) (hxy : x < y) (hx : Fit x) (hy : Fit y) (w : World) :
    Calls Tryz.prog 14 #[.string (Sn x), .string (Sn y)] w fun e w' => e = .returned (.tuple #[St [], .int .i64 2]) ∧ Below w.heap.size w w' := by
  have HX := Lib.hid hx
  have HY := Lib.hid hy
  have HCN := Lib.hid (cmpN_lt hxy)
  clear hx hy hxy
  go_enter Tryz.func14, Tryz.ntmps14
  go_wp2_with fail
  refine (rboth x y HX.out HY.out _).mono ?_
  rintro e w1 ⟨u, v, rfl, hu, hv, hb1⟩
  have HU := Lib.hid hu.rd
  have HV := Lib.hid hv.rd
  have HB1 := Lib.hid hb1
  clear hu hv hb1
  have hcm := RCmp_any u v x y (by have := fit_len HX.out; omega) w1 HU.out HV.out
  rw [HCN.out] at hcm
  have HCM := Lib.hid hcm
  clear hcm
  go_wp2_with fail
  refine HCM.out.mono ?_
  rintro e w2 ⟨rfl, hb⟩
  have HB2 := Lib.hid (HB1.out.trans (hb.mono HB1.out.size))
  have HU2 := Lib.hid (HU.out.below hb)
  have HV2 := Lib.hid (HV.out.below hb)
  clear hb
  go_wp2
  go_ret2
  exact ⟨rfl, HB2.out⟩

set_option maxRecDepth 100000 in
theorem rDivMod (x y : Nat) (h0 : y ≠ 0) (hx : Fit x) (hy : Fit y) (w : World) :
    Calls Tryz.prog 18 #[.string (Sn x), .string (Sn y)] w fun e w' => e = .returned (.tuple #[.string (Sn (x / y)), .string (Sn (x % y)), .int .i64 0]) ∧ Below w.heap.size w w' := by
  have HX := Lib.hid hx
  have HY := Lib.hid hy
  obtain ⟨s, hs⟩ : ∃ s, s = x / y := ⟨_, rfl⟩
  obtain ⟨t, ht⟩ : ∃ t, t = x % y := ⟨_, rfl⟩
  rw [← hs, ← ht]
  have HSL := Lib.hid (show (digs s).length ≤ 10000 by rw [hs]; have := digs_length_mono (Nat.div_le_self x y); have := fit_len hx; omega)
  have HTL := Lib.hid (show (digs t).length ≤ 10000 by rw [ht]; have := digs_length_mono (Nat.mod_le x y); have := fit_len hx; omega)
  have HS := Lib.hid hs
  have HT := Lib.hid ht
  have H0 := Lib.hid h0
  have hlp : 0 < (digs y).length := List.length_pos_iff.2 (by rw [digs_pos h0]; simp)
  clear hx hy hs ht h0
  go_enter Tryz.func18, Tryz.ntmps18
  go_wp2_with fail
  refine (rboth x y HX.out HY.out _).mono ?_
  rintro e w1 ⟨u, v, rfl, hu, hv, hb1⟩
  have HU := Lib.hid hu.rd
  have HV := Lib.hid hv.rd
  have HB1 := Lib.hid hb1
  clear hu hv hb1
  obtain ⟨pv, cv, hvv⟩ := rd_form HV.out
  subst hvv
  have hz : (((digs y).length : Int) == 0) = false := beq_eq_false_iff_ne.2 (by omega)
  have hc := ROver_any u _ x y H0.out (by have := fit_len HX.out; omega) w1 HU.out HV.out
  rw [← HS.out, ← HT.out] at hc
  obtain ⟨ly, hly⟩ : ∃ l, l = (digs y).length := ⟨_, rfl⟩
  rw [← hly] at hc hz hlp ⊢
  have HC := Lib.hid hc
  clear hc hly
  go_wp2_with fail
  refine HC.out.mono ?_
  rintro e w2 ⟨q, r, rfl, hq, hr, hb⟩
  have HB2 := Lib.hid (HB1.out.trans (hb.mono HB1.out.size))
  have HQ := Lib.hid hq
  have HR := Lib.hid hr
  clear hq hr hb
  go_wp2_with fail
  refine (RTo_any q s HSL.out w2 HQ.out).mono ?_
  rintro e w3 ⟨rfl, hb⟩
  have HB3 := Lib.hid (HB2.out.trans (hb.mono HB2.out.size))
  have HR3 := Lib.hid (HR.out.below hb)
  clear hb
  go_wp2_with fail
  refine (RTo_any r t HTL.out w3 HR3.out).mono ?_
  rintro e w4 ⟨rfl, hb⟩
  have HB4 := Lib.hid (HB3.out.trans (hb.mono HB3.out.size))
  clear hb
  go_wp2
  go_ret3
  exact ⟨rfl, HB4.out⟩

set_option maxRecDepth 100000 in
theorem rDivMod0 (x : Nat) (hx : Fit x) (w : World) :
    Calls Tryz.prog 18 #[.string (Sn x), .string (Sn 0)] w fun e w' => e = .returned (.tuple #[St [], St [], .int .i64 16]) ∧ Below w.heap.size w w' := by
  have HX := Lib.hid hx
  have HY := Lib.hid (show Fit 0 from (show Sm 1 0 by simp [Sm]).mono (by decide))
  clear hx
  obtain ⟨y, hy⟩ : ∃ y, y = 0 := ⟨_, rfl⟩
  rw [← hy] at HY ⊢
  have Hy := Lib.hid hy
  clear hy
  go_enter Tryz.func18, Tryz.ntmps18
  go_wp2_with fail
  refine (rboth x y HX.out HY.out _).mono ?_
  rintro e w1 ⟨u, v, rfl, hu, hv, hb1⟩
  have HU := Lib.hid hu.rd
  have HV := Lib.hid hv.rd
  have HB1 := Lib.hid hb1
  clear hu hv hb1
  have hv := HV.out
  rw [Hy.out, digs_zero] at hv
  obtain ⟨pv, cv, rfl⟩ := rd_form hv
  rw [show (([] : List Nat)).length = 0 from rfl] at *
  clear hv HV
  go_wp2
  go_ret3
  exact ⟨rfl, HB1.out⟩

set_option maxRecDepth 100000 in
theorem rGCD (x y : Nat) (hx : Fit x) (hy : Fit y) (w : World) :
    Calls Tryz.prog 20 #[.string (Sn x), .string (Sn y)] w fun e w' => e = .returned (.tuple #[.string (Sn (Nat.gcd x y)), .int .i64 0]) ∧ Below w.heap.size w w' := by
  have HX := Lib.hid hx
  have HY := Lib.hid hy
  obtain ⟨s, hs⟩ : ∃ s, s = Nat.gcd x y := ⟨_, rfl⟩
  rw [← hs]
  have HSL := Lib.hid (show (digs s).length ≤ 10000 by
    rw [hs]
    rcases Nat.eq_zero_or_pos x with h | h
    · rw [h, Nat.gcd_zero_left]; have := fit_len hy; omega
    · have := digs_length_mono (Nat.gcd_le_left y h); have := fit_len hx; omega)
  have HS := Lib.hid hs
  clear hx hy hs
  go_enter Tryz.func20, Tryz.ntmps20
  go_wp2_with fail
  refine (rboth x y HX.out HY.out _).mono ?_
  rintro e w1 ⟨u, v, rfl, hu, hv, hb1⟩
  have HU := Lib.hid hu.rd
  have HV := Lib.hid hv.rd
  have HB1 := Lib.hid hb1
  clear hu hv hb1
  have hc := RCommon_any u v x y (by have := fit_len HX.out; omega) (by have := fit_len HY.out; omega) w1 HU.out HV.out
  rw [← HS.out] at hc
  have HC := Lib.hid hc
  clear hc
  go_wp2_with fail
  refine HC.out.mono ?_
  rintro e w2 ⟨r, rfl, hr, hb⟩
  have HB2 := Lib.hid (HB1.out.trans (hb.mono HB1.out.size))
  have HR := Lib.hid hr
  clear hr hb
  go_wp2_with fail
  refine (RTo_any r s HSL.out w2 HR.out).mono ?_
  rintro e w3 ⟨rfl, hb⟩
  have HB3 := Lib.hid (HB2.out.trans (hb.mono HB2.out.size))
  clear hb
  go_wp2
  go_ret2
  exact ⟨rfl, HB3.out⟩

end Go.Proofs.YtgbcjlknlagoeaaGreatDoor
