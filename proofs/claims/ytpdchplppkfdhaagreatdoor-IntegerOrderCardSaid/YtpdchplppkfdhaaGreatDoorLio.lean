/- garboardlaw02.IntegerOrder returns true: walks. -/
import Derived.Test.YtpdchplppkfdhaaGreatDoorLir
namespace Go.Proofs.YtpdchplppkfdhaaGreatDoor
open Go.RowKit Go.Gb

theorem cmpZ_sign (x y : Int) : cmpZ x y = (x - y).sign := by
  rcases Int.lt_trichotomy x y with h | h | h
  · rw [cmpZ_lt h, Int.sign_eq_neg_one_of_neg (by omega)]
  · subst h; rw [cmpZ_eq, Int.sub_self]; rfl
  · rw [cmpZ_gt h, Int.sign_eq_one_of_pos (by omega)]
theorem cmpZ_add (x y z : Int) : cmpZ (x + z) (y + z) = cmpZ x y := by
  rw [cmpZ_sign, cmpZ_sign, show x + z - (y + z) = x - y by omega]
theorem cmpZ_mul (x y z : Int) : cmpZ (x * z) (y * z) = cmpZ x y * z.sign := by
  rw [cmpZ_sign, cmpZ_sign, ← Int.sub_mul, Int.sign_mul]
theorem cmpZ_swap (x y : Int) : cmpZ y x = -cmpZ x y := by
  rw [cmpZ_sign, cmpZ_sign, show y - x = -(x - y) by omega, Int.sign_neg]
theorem zSignV (x s : Int) (hs : x.sign = s) (hx : FitZ x) (w : World) (hl : La w) :
    Calls Tryz.prog 31 #[.string (Sz x)] w fun e w' => e = .returned (.tuple #[.int .i64 s, .int .i64 0]) ∧ Below w.heap.size w w' := by
  subst hs; exact zSign x hx w hl
theorem sz_toList (x : Int) : (Sz x).toList = (Sz x).data.toList := toList_data _
theorem sz_neq {x y : Int} (h : x ≠ y) : ((Sz x).toList == (Sz y).toList) = false := by
  rw [beq_eq_false_iff_ne, toList_data, toList_data]
  intro h2
  apply h
  rw [← sz_val x, h2, sz_val]

set_option maxHeartbeats 8000000 in
set_option maxRecDepth 100000 in
theorem iorder_long (a b c : ByteArray) (hab : 120 < a.size ∨ 120 < b.size ∨ 120 < c.size) (w : World) (hl : La w) :
    Calls Tryz.prog 10 #[.string a, .string b, .string c] w fun e w' => e = .returned (.bool true) ∧ Below w.heap.size w w' := by
  have HT := Lib.hid hl
  clear hl
  have HL := Lib.hid hab
  clear hab
  go_enter Tryz.func10, Tryz.ntmps10
  go_wp2_with fail
  refine (iawake _ HT.out).mono ?_
  rintro e w1 ⟨rfl, hb1⟩
  have HB1 := Lib.hid (hb1.alloc hb1.size (.cells #[.string a, .string b, .string c] 9))
  have hc := strs_cells3 w1 a b c
  have HLo := Lib.hid (long3_yes w1.heap.size a b c _ HL.out hc)
  clear hb1 hc
  go_wp2_with fail
  refine HLo.out.mono ?_
  rintro e w' ⟨rfl, rfl⟩
  go_wp2_with fail
  refine (iawake _ (HT.out.on HB1.out)).mono ?_
  rintro e w2 ⟨rfl, hb⟩
  have HB2 := Lib.hid (HB1.out.trans (hb.mono HB1.out.size))
  clear hb
  go_wp2
  go_ret
  exact ⟨rfl, HB2.out⟩

set_option maxHeartbeats 8000000 in
set_option maxRecDepth 100000 in
theorem iorder_no0 (a b c : ByteArray)  (ha : a.size ≤ 120) (hb : b.size ≤ 120) (hc : c.size ≤ 120) (hv : vldZ a.data.toList = false) (w : World) (hl : La w) :
    Calls Tryz.prog 10 #[.string a, .string b, .string c] w fun e w' => e = .returned (.bool true) ∧ Below w.heap.size w w' := by
  have HT := Lib.hid hl
  clear hl

  have Hla := Lib.hid ha
  have Hma := Lib.hid (show a.size ≤ maxLen by unfold maxLen; omega)
  have Hlb := Lib.hid hb
  have Hmb := Lib.hid (show b.size ≤ maxLen by unfold maxLen; omega)
  have Hlc := Lib.hid hc
  have Hmc := Lib.hid (show c.size ≤ maxLen by unfold maxLen; omega)
  clear ha hb hc
  have HV := Lib.hid hv
  clear hv
  go_enter Tryz.func10, Tryz.ntmps10
  go_wp2_with fail
  refine (iawake _ HT.out).mono ?_
  rintro e w1 ⟨rfl, hb1⟩
  have HB1 := Lib.hid (hb1.alloc hb1.size (.cells #[.string a, .string b, .string c] 9))
  have hc := strs_cells3 w1 a b c
  have HLo := Lib.hid (long3_no w1.heap.size a b c _ Hla.out Hlb.out Hlc.out hc)
  clear hb1 hc
  go_wp2_with fail
  refine HLo.out.mono ?_
  rintro e w' ⟨rfl, rfl⟩
  go_wp2_with fail
  refine (zValid_no a HV.out Hma.out _).mono ?_
  rintro e w2 ⟨rfl, hb⟩
  have HB2 := Lib.hid (HB1.out.trans (hb.mono HB1.out.size))
  clear hb
  go_wp2
  go_ret
  exact ⟨rfl, HB2.out⟩

set_option maxHeartbeats 8000000 in
set_option maxRecDepth 100000 in
theorem iorder_no1 (a : Int) (b c : ByteArray) (sa : (Sz a).size ≤ 120) (hb : b.size ≤ 120) (hc : c.size ≤ 120) (hv : vldZ b.data.toList = false) (w : World) (hl : La w) :
    Calls Tryz.prog 10 #[.string (Sz a), .string b, .string c] w fun e w' => e = .returned (.bool true) ∧ Below w.heap.size w w' := by
  have HT := Lib.hid hl
  clear hl
  have Sa := Lib.hid sa
  have Fa := Lib.hid ((smz_of sa).fit (by decide))
  clear sa
  have Hlb := Lib.hid hb
  have Hmb := Lib.hid (show b.size ≤ maxLen by unfold maxLen; omega)
  have Hlc := Lib.hid hc
  have Hmc := Lib.hid (show c.size ≤ maxLen by unfold maxLen; omega)
  clear hb hc
  have HV := Lib.hid hv
  clear hv
  go_enter Tryz.func10, Tryz.ntmps10
  go_wp2_with fail
  refine (iawake _ HT.out).mono ?_
  rintro e w1 ⟨rfl, hb1⟩
  have HB1 := Lib.hid (hb1.alloc hb1.size (.cells #[.string (Sz a), .string b, .string c] 9))
  have hc := strs_cells3 w1 (Sz a) b c
  have HLo := Lib.hid (long3_no w1.heap.size (Sz a) b c _ Sa.out Hlb.out Hlc.out hc)
  clear hb1 hc
  go_wp2_with fail
  refine HLo.out.mono ?_
  rintro e w' ⟨rfl, rfl⟩
  go_wp2_with fail
  refine (zValid_yes a Fa.out _ (HT.out.on HB1.out).zz).mono ?_
  rintro e w2 ⟨rfl, hb⟩
  have HB2 := Lib.hid (HB1.out.trans (hb.mono HB1.out.size))
  clear hb
  go_wp2_with fail
  refine (zValid_no b HV.out Hmb.out _).mono ?_
  rintro e w3 ⟨rfl, hb⟩
  have HB3 := Lib.hid (HB2.out.trans (hb.mono HB2.out.size))
  clear hb
  go_wp2
  go_ret
  exact ⟨rfl, HB3.out⟩

set_option maxHeartbeats 8000000 in
set_option maxRecDepth 100000 in
theorem iorder_no2 (a b : Int) (c : ByteArray) (sa : (Sz a).size ≤ 120) (sb : (Sz b).size ≤ 120) (hc : c.size ≤ 120) (hv : vldZ c.data.toList = false) (w : World) (hl : La w) :
    Calls Tryz.prog 10 #[.string (Sz a), .string (Sz b), .string c] w fun e w' => e = .returned (.bool true) ∧ Below w.heap.size w w' := by
  have HT := Lib.hid hl
  clear hl
  have Sa := Lib.hid sa
  have Fa := Lib.hid ((smz_of sa).fit (by decide))
  clear sa
  have Sb := Lib.hid sb
  have Fb := Lib.hid ((smz_of sb).fit (by decide))
  clear sb
  have Hlc := Lib.hid hc
  have Hmc := Lib.hid (show c.size ≤ maxLen by unfold maxLen; omega)
  clear hc
  have HV := Lib.hid hv
  clear hv
  go_enter Tryz.func10, Tryz.ntmps10
  go_wp2_with fail
  refine (iawake _ HT.out).mono ?_
  rintro e w1 ⟨rfl, hb1⟩
  have HB1 := Lib.hid (hb1.alloc hb1.size (.cells #[.string (Sz a), .string (Sz b), .string c] 9))
  have hc := strs_cells3 w1 (Sz a) (Sz b) c
  have HLo := Lib.hid (long3_no w1.heap.size (Sz a) (Sz b) c _ Sa.out Sb.out Hlc.out hc)
  clear hb1 hc
  go_wp2_with fail
  refine HLo.out.mono ?_
  rintro e w' ⟨rfl, rfl⟩
  go_wp2_with fail
  refine (zValid_yes a Fa.out _ (HT.out.on HB1.out).zz).mono ?_
  rintro e w2 ⟨rfl, hb⟩
  have HB2 := Lib.hid (HB1.out.trans (hb.mono HB1.out.size))
  clear hb
  go_wp2_with fail
  refine (zValid_yes b Fb.out _ (HT.out.on HB2.out).zz).mono ?_
  rintro e w3 ⟨rfl, hb⟩
  have HB3 := Lib.hid (HB2.out.trans (hb.mono HB2.out.size))
  clear hb
  go_wp2_with fail
  refine (zValid_no c HV.out Hmc.out _).mono ?_
  rintro e w4 ⟨rfl, hb⟩
  have HB4 := Lib.hid (HB3.out.trans (hb.mono HB3.out.size))
  clear hb
  go_wp2
  go_ret
  exact ⟨rfl, HB4.out⟩

set_option maxHeartbeats 8000000 in
set_option maxRecDepth 100000 in
theorem iorder_mm (x y z : Int) (sa : (Sz x).size ≤ 120) (sb : (Sz y).size ≤ 120) (sc : (Sz z).size ≤ 120) (hn : cmpZ x y = (-1)) (hw : z.sign = (-1)) (w : World) (hl : La w) :
    Calls Tryz.prog 10 #[.string (Sz x), .string (Sz y), .string (Sz z)] w fun e w' => e = .returned (.bool true) ∧ Below w.heap.size w w' := by
  have HT := Lib.hid hl
  clear hl
  have hx := smz_of sa
  have hy := smz_of sb
  have hz := smz_of sc
  have FX := Lib.hid (hx.fit (by decide))
  have FY := Lib.hid (hy.fit (by decide))
  have FZ := Lib.hid (hz.fit (by decide))
  obtain ⟨d, hd⟩ : ∃ s, x - y = s := ⟨_, rfl⟩
  have Fd := Lib.hid (show FitZ d by rw [← hd]; exact (hx.sub hy).fit (by decide))
  have Ed := Lib.hid hd
  obtain ⟨s1, hs1⟩ : ∃ s, x + z = s := ⟨_, rfl⟩
  have Fs1 := Lib.hid (show FitZ s1 by rw [← hs1]; exact (hx.add hz).fit (by decide))
  have Es1 := Lib.hid hs1
  obtain ⟨s2, hs2⟩ : ∃ s, y + z = s := ⟨_, rfl⟩
  have Fs2 := Lib.hid (show FitZ s2 by rw [← hs2]; exact (hy.add hz).fit (by decide))
  have Es2 := Lib.hid hs2
  obtain ⟨u, hu⟩ : ∃ s, x * z = s := ⟨_, rfl⟩
  have Fu := Lib.hid (show FitZ u by rw [← hu]; exact (hx.mul hz).fit (by decide))
  have Eu := Lib.hid hu
  obtain ⟨v, hv⟩ : ∃ s, y * z = s := ⟨_, rfl⟩
  have Fv := Lib.hid (show FitZ v by rw [← hv]; exact (hy.mul hz).fit (by decide))
  have Ev := Lib.hid hv
  have K1 := Lib.hid (show cmpZ x y = (-1) from hn)
  have K2 := Lib.hid (show cmpZ y x = 1 by rw [cmpZ_swap, hn]; first | done | rfl)
  have K3 := Lib.hid (show d.sign = (-1) by rw [← hd, ← cmpZ_sign, hn])
  have K4 := Lib.hid (show cmpZ s1 s2 = (-1) by rw [← hs1, ← hs2, cmpZ_add, hn])
  have K5 := Lib.hid (show cmpZ u v = 1 by rw [← hu, ← hv, cmpZ_mul, hn, hw]; rfl)
  have K6 := Lib.hid hw
  have hne := sz_neq (show x ≠ y by rintro rfl; rw [cmpZ_eq] at hn; exact absurd hn (by decide))
  have W0 : IntKind.i64.wrap (0 + 0) = 0 := by decide
  have W1 : IntKind.i64.wrap (-1) = (-1) := by decide
  have W2 : IntKind.i64.wrap ((-1) * (-1)) = 1 := by decide
  have SA := Lib.hid sa
  have SB := Lib.hid sb
  have SC := Lib.hid sc
  clear hx hy hz hd hs1 hs2 hu hv hw sa sc hn sb
  go_enter Tryz.func10, Tryz.ntmps10
  go_wp2_with fail
  refine (iawake _ HT.out).mono ?_
  rintro e w1 ⟨rfl, hb1⟩
  have HB1 := Lib.hid (hb1.alloc hb1.size (.cells #[.string (Sz x), .string (Sz y), .string (Sz z)] 9))
  have hc := strs_cells3 w1 (Sz x) (Sz y) (Sz z)
  have HLo := Lib.hid (long3_no w1.heap.size (Sz x) (Sz y) (Sz z) _ SA.out SB.out SC.out hc)
  clear hb1 hc
  go_wp2_with fail
  refine HLo.out.mono ?_
  rintro e w' ⟨rfl, rfl⟩
  go_wp2_with fail
  refine (zValid_yes x FX.out _ (HT.out.on HB1.out).zz).mono ?_
  rintro e w2 ⟨rfl, hb⟩
  have HB2 := Lib.hid (HB1.out.trans (hb.mono HB1.out.size))
  clear hb
  go_wp2_with fail
  refine (zValid_yes y FY.out _ (HT.out.on HB2.out).zz).mono ?_
  rintro e w3 ⟨rfl, hb⟩
  have HB3 := Lib.hid (HB2.out.trans (hb.mono HB2.out.size))
  clear hb
  go_wp2_with fail
  refine (zValid_yes z FZ.out _ (HT.out.on HB3.out).zz).mono ?_
  rintro e w4 ⟨rfl, hb⟩
  have HB4 := Lib.hid (HB3.out.trans (hb.mono HB3.out.size))
  clear hb
  go_wp2_with fail
  refine (zCompare x y (-1) K1.out FX.out FY.out _ (HT.out.on HB4.out)).mono ?_
  rintro e w5 ⟨rfl, hb⟩
  have HB5 := Lib.hid (HB4.out.trans (hb.mono HB4.out.size))
  clear hb
  go_wp2_with fail
  refine (zCompare y x 1 K2.out FY.out FX.out _ (HT.out.on HB5.out)).mono ?_
  rintro e w6 ⟨rfl, hb⟩
  have HB6 := Lib.hid (HB5.out.trans (hb.mono HB5.out.size))
  clear hb
  go_wp2_with fail
  refine (zSub x y d Ed.out FX.out FY.out Fd.out _ (HT.out.on HB6.out)).mono ?_
  rintro e w7 ⟨rfl, hb⟩
  have HB7 := Lib.hid (HB6.out.trans (hb.mono HB6.out.size))
  clear hb
  go_wp2_with fail
  refine (zSignV d (-1) K3.out Fd.out _ (HT.out.on HB7.out)).mono ?_
  rintro e w8 ⟨rfl, hb⟩
  have HB8 := Lib.hid (HB7.out.trans (hb.mono HB7.out.size))
  clear hb
  go_wp2_with fail
  refine (zAdd x z s1 Es1.out FX.out FZ.out Fs1.out _ (HT.out.on HB8.out)).mono ?_
  rintro e w9 ⟨rfl, hb⟩
  have HB9 := Lib.hid (HB8.out.trans (hb.mono HB8.out.size))
  clear hb
  go_wp2_with fail
  refine (zAdd y z s2 Es2.out FY.out FZ.out Fs2.out _ (HT.out.on HB9.out)).mono ?_
  rintro e w10 ⟨rfl, hb⟩
  have HB10 := Lib.hid (HB9.out.trans (hb.mono HB9.out.size))
  clear hb
  go_wp2_with fail
  refine (zCompare s1 s2 (-1) K4.out Fs1.out Fs2.out _ (HT.out.on HB10.out)).mono ?_
  rintro e w11 ⟨rfl, hb⟩
  have HB11 := Lib.hid (HB10.out.trans (hb.mono HB10.out.size))
  clear hb
  go_wp2_with fail
  refine (zMul x z u Eu.out FX.out FZ.out Fu.out _ (HT.out.on HB11.out)).mono ?_
  rintro e w12 ⟨rfl, hb⟩
  have HB12 := Lib.hid (HB11.out.trans (hb.mono HB11.out.size))
  clear hb
  go_wp2_with fail
  refine (zMul y z v Ev.out FY.out FZ.out Fv.out _ (HT.out.on HB12.out)).mono ?_
  rintro e w13 ⟨rfl, hb⟩
  have HB13 := Lib.hid (HB12.out.trans (hb.mono HB12.out.size))
  clear hb
  go_wp2_with fail
  refine (zCompare u v 1 K5.out Fu.out Fv.out _ (HT.out.on HB13.out)).mono ?_
  rintro e w14 ⟨rfl, hb⟩
  have HB14 := Lib.hid (HB13.out.trans (hb.mono HB13.out.size))
  clear hb
  go_wp2_with fail
  refine (zSignV z (-1) K6.out FZ.out _ (HT.out.on HB14.out)).mono ?_
  rintro e w15 ⟨rfl, hb⟩
  have HB15 := Lib.hid (HB14.out.trans (hb.mono HB14.out.size))
  clear hb
  go_wp2
  go_ret
  exact ⟨rfl, HB15.out⟩

set_option maxHeartbeats 8000000 in
set_option maxRecDepth 100000 in
theorem iorder_mz (x y z : Int) (sa : (Sz x).size ≤ 120) (sb : (Sz y).size ≤ 120) (sc : (Sz z).size ≤ 120) (hn : cmpZ x y = (-1)) (hw : z.sign = 0) (w : World) (hl : La w) :
    Calls Tryz.prog 10 #[.string (Sz x), .string (Sz y), .string (Sz z)] w fun e w' => e = .returned (.bool true) ∧ Below w.heap.size w w' := by
  have HT := Lib.hid hl
  clear hl
  have hx := smz_of sa
  have hy := smz_of sb
  have hz := smz_of sc
  have FX := Lib.hid (hx.fit (by decide))
  have FY := Lib.hid (hy.fit (by decide))
  have FZ := Lib.hid (hz.fit (by decide))
  obtain ⟨d, hd⟩ : ∃ s, x - y = s := ⟨_, rfl⟩
  have Fd := Lib.hid (show FitZ d by rw [← hd]; exact (hx.sub hy).fit (by decide))
  have Ed := Lib.hid hd
  obtain ⟨s1, hs1⟩ : ∃ s, x + z = s := ⟨_, rfl⟩
  have Fs1 := Lib.hid (show FitZ s1 by rw [← hs1]; exact (hx.add hz).fit (by decide))
  have Es1 := Lib.hid hs1
  obtain ⟨s2, hs2⟩ : ∃ s, y + z = s := ⟨_, rfl⟩
  have Fs2 := Lib.hid (show FitZ s2 by rw [← hs2]; exact (hy.add hz).fit (by decide))
  have Es2 := Lib.hid hs2
  obtain ⟨u, hu⟩ : ∃ s, x * z = s := ⟨_, rfl⟩
  have Fu := Lib.hid (show FitZ u by rw [← hu]; exact (hx.mul hz).fit (by decide))
  have Eu := Lib.hid hu
  obtain ⟨v, hv⟩ : ∃ s, y * z = s := ⟨_, rfl⟩
  have Fv := Lib.hid (show FitZ v by rw [← hv]; exact (hy.mul hz).fit (by decide))
  have Ev := Lib.hid hv
  have K1 := Lib.hid (show cmpZ x y = (-1) from hn)
  have K2 := Lib.hid (show cmpZ y x = 1 by rw [cmpZ_swap, hn]; first | done | rfl)
  have K3 := Lib.hid (show d.sign = (-1) by rw [← hd, ← cmpZ_sign, hn])
  have K4 := Lib.hid (show cmpZ s1 s2 = (-1) by rw [← hs1, ← hs2, cmpZ_add, hn])
  have K5 := Lib.hid (show cmpZ u v = 0 by rw [← hu, ← hv, cmpZ_mul, hn, hw]; rfl)
  have K6 := Lib.hid hw
  have hne := sz_neq (show x ≠ y by rintro rfl; rw [cmpZ_eq] at hn; exact absurd hn (by decide))
  have W0 : IntKind.i64.wrap (0 + 0) = 0 := by decide
  have W1 : IntKind.i64.wrap (-1) = (-1) := by decide
  have W2 : IntKind.i64.wrap ((-1) * 0) = 0 := by decide
  have SA := Lib.hid sa
  have SB := Lib.hid sb
  have SC := Lib.hid sc
  clear hx hy hz hd hs1 hs2 hu hv hw sa sc hn sb
  go_enter Tryz.func10, Tryz.ntmps10
  go_wp2_with fail
  refine (iawake _ HT.out).mono ?_
  rintro e w1 ⟨rfl, hb1⟩
  have HB1 := Lib.hid (hb1.alloc hb1.size (.cells #[.string (Sz x), .string (Sz y), .string (Sz z)] 9))
  have hc := strs_cells3 w1 (Sz x) (Sz y) (Sz z)
  have HLo := Lib.hid (long3_no w1.heap.size (Sz x) (Sz y) (Sz z) _ SA.out SB.out SC.out hc)
  clear hb1 hc
  go_wp2_with fail
  refine HLo.out.mono ?_
  rintro e w' ⟨rfl, rfl⟩
  go_wp2_with fail
  refine (zValid_yes x FX.out _ (HT.out.on HB1.out).zz).mono ?_
  rintro e w2 ⟨rfl, hb⟩
  have HB2 := Lib.hid (HB1.out.trans (hb.mono HB1.out.size))
  clear hb
  go_wp2_with fail
  refine (zValid_yes y FY.out _ (HT.out.on HB2.out).zz).mono ?_
  rintro e w3 ⟨rfl, hb⟩
  have HB3 := Lib.hid (HB2.out.trans (hb.mono HB2.out.size))
  clear hb
  go_wp2_with fail
  refine (zValid_yes z FZ.out _ (HT.out.on HB3.out).zz).mono ?_
  rintro e w4 ⟨rfl, hb⟩
  have HB4 := Lib.hid (HB3.out.trans (hb.mono HB3.out.size))
  clear hb
  go_wp2_with fail
  refine (zCompare x y (-1) K1.out FX.out FY.out _ (HT.out.on HB4.out)).mono ?_
  rintro e w5 ⟨rfl, hb⟩
  have HB5 := Lib.hid (HB4.out.trans (hb.mono HB4.out.size))
  clear hb
  go_wp2_with fail
  refine (zCompare y x 1 K2.out FY.out FX.out _ (HT.out.on HB5.out)).mono ?_
  rintro e w6 ⟨rfl, hb⟩
  have HB6 := Lib.hid (HB5.out.trans (hb.mono HB5.out.size))
  clear hb
  go_wp2_with fail
  refine (zSub x y d Ed.out FX.out FY.out Fd.out _ (HT.out.on HB6.out)).mono ?_
  rintro e w7 ⟨rfl, hb⟩
  have HB7 := Lib.hid (HB6.out.trans (hb.mono HB6.out.size))
  clear hb
  go_wp2_with fail
  refine (zSignV d (-1) K3.out Fd.out _ (HT.out.on HB7.out)).mono ?_
  rintro e w8 ⟨rfl, hb⟩
  have HB8 := Lib.hid (HB7.out.trans (hb.mono HB7.out.size))
  clear hb
  go_wp2_with fail
  refine (zAdd x z s1 Es1.out FX.out FZ.out Fs1.out _ (HT.out.on HB8.out)).mono ?_
  rintro e w9 ⟨rfl, hb⟩
  have HB9 := Lib.hid (HB8.out.trans (hb.mono HB8.out.size))
  clear hb
  go_wp2_with fail
  refine (zAdd y z s2 Es2.out FY.out FZ.out Fs2.out _ (HT.out.on HB9.out)).mono ?_
  rintro e w10 ⟨rfl, hb⟩
  have HB10 := Lib.hid (HB9.out.trans (hb.mono HB9.out.size))
  clear hb
  go_wp2_with fail
  refine (zCompare s1 s2 (-1) K4.out Fs1.out Fs2.out _ (HT.out.on HB10.out)).mono ?_
  rintro e w11 ⟨rfl, hb⟩
  have HB11 := Lib.hid (HB10.out.trans (hb.mono HB10.out.size))
  clear hb
  go_wp2_with fail
  refine (zMul x z u Eu.out FX.out FZ.out Fu.out _ (HT.out.on HB11.out)).mono ?_
  rintro e w12 ⟨rfl, hb⟩
  have HB12 := Lib.hid (HB11.out.trans (hb.mono HB11.out.size))
  clear hb
  go_wp2_with fail
  refine (zMul y z v Ev.out FY.out FZ.out Fv.out _ (HT.out.on HB12.out)).mono ?_
  rintro e w13 ⟨rfl, hb⟩
  have HB13 := Lib.hid (HB12.out.trans (hb.mono HB12.out.size))
  clear hb
  go_wp2_with fail
  refine (zCompare u v 0 K5.out Fu.out Fv.out _ (HT.out.on HB13.out)).mono ?_
  rintro e w14 ⟨rfl, hb⟩
  have HB14 := Lib.hid (HB13.out.trans (hb.mono HB13.out.size))
  clear hb
  go_wp2_with fail
  refine (zSignV z 0 K6.out FZ.out _ (HT.out.on HB14.out)).mono ?_
  rintro e w15 ⟨rfl, hb⟩
  have HB15 := Lib.hid (HB14.out.trans (hb.mono HB14.out.size))
  clear hb
  go_wp2
  go_ret
  exact ⟨rfl, HB15.out⟩

set_option maxHeartbeats 8000000 in
set_option maxRecDepth 100000 in
theorem iorder_mp (x y z : Int) (sa : (Sz x).size ≤ 120) (sb : (Sz y).size ≤ 120) (sc : (Sz z).size ≤ 120) (hn : cmpZ x y = (-1)) (hw : z.sign = 1) (w : World) (hl : La w) :
    Calls Tryz.prog 10 #[.string (Sz x), .string (Sz y), .string (Sz z)] w fun e w' => e = .returned (.bool true) ∧ Below w.heap.size w w' := by
  have HT := Lib.hid hl
  clear hl
  have hx := smz_of sa
  have hy := smz_of sb
  have hz := smz_of sc
  have FX := Lib.hid (hx.fit (by decide))
  have FY := Lib.hid (hy.fit (by decide))
  have FZ := Lib.hid (hz.fit (by decide))
  obtain ⟨d, hd⟩ : ∃ s, x - y = s := ⟨_, rfl⟩
  have Fd := Lib.hid (show FitZ d by rw [← hd]; exact (hx.sub hy).fit (by decide))
  have Ed := Lib.hid hd
  obtain ⟨s1, hs1⟩ : ∃ s, x + z = s := ⟨_, rfl⟩
  have Fs1 := Lib.hid (show FitZ s1 by rw [← hs1]; exact (hx.add hz).fit (by decide))
  have Es1 := Lib.hid hs1
  obtain ⟨s2, hs2⟩ : ∃ s, y + z = s := ⟨_, rfl⟩
  have Fs2 := Lib.hid (show FitZ s2 by rw [← hs2]; exact (hy.add hz).fit (by decide))
  have Es2 := Lib.hid hs2
  obtain ⟨u, hu⟩ : ∃ s, x * z = s := ⟨_, rfl⟩
  have Fu := Lib.hid (show FitZ u by rw [← hu]; exact (hx.mul hz).fit (by decide))
  have Eu := Lib.hid hu
  obtain ⟨v, hv⟩ : ∃ s, y * z = s := ⟨_, rfl⟩
  have Fv := Lib.hid (show FitZ v by rw [← hv]; exact (hy.mul hz).fit (by decide))
  have Ev := Lib.hid hv
  have K1 := Lib.hid (show cmpZ x y = (-1) from hn)
  have K2 := Lib.hid (show cmpZ y x = 1 by rw [cmpZ_swap, hn]; first | done | rfl)
  have K3 := Lib.hid (show d.sign = (-1) by rw [← hd, ← cmpZ_sign, hn])
  have K4 := Lib.hid (show cmpZ s1 s2 = (-1) by rw [← hs1, ← hs2, cmpZ_add, hn])
  have K5 := Lib.hid (show cmpZ u v = (-1) by rw [← hu, ← hv, cmpZ_mul, hn, hw]; rfl)
  have K6 := Lib.hid hw
  have hne := sz_neq (show x ≠ y by rintro rfl; rw [cmpZ_eq] at hn; exact absurd hn (by decide))
  have W0 : IntKind.i64.wrap (0 + 0) = 0 := by decide
  have W1 : IntKind.i64.wrap (-1) = (-1) := by decide
  have W2 : IntKind.i64.wrap ((-1) * 1) = (-1) := by decide
  have SA := Lib.hid sa
  have SB := Lib.hid sb
  have SC := Lib.hid sc
  clear hx hy hz hd hs1 hs2 hu hv hw sa sc hn sb
  go_enter Tryz.func10, Tryz.ntmps10
  go_wp2_with fail
  refine (iawake _ HT.out).mono ?_
  rintro e w1 ⟨rfl, hb1⟩
  have HB1 := Lib.hid (hb1.alloc hb1.size (.cells #[.string (Sz x), .string (Sz y), .string (Sz z)] 9))
  have hc := strs_cells3 w1 (Sz x) (Sz y) (Sz z)
  have HLo := Lib.hid (long3_no w1.heap.size (Sz x) (Sz y) (Sz z) _ SA.out SB.out SC.out hc)
  clear hb1 hc
  go_wp2_with fail
  refine HLo.out.mono ?_
  rintro e w' ⟨rfl, rfl⟩
  go_wp2_with fail
  refine (zValid_yes x FX.out _ (HT.out.on HB1.out).zz).mono ?_
  rintro e w2 ⟨rfl, hb⟩
  have HB2 := Lib.hid (HB1.out.trans (hb.mono HB1.out.size))
  clear hb
  go_wp2_with fail
  refine (zValid_yes y FY.out _ (HT.out.on HB2.out).zz).mono ?_
  rintro e w3 ⟨rfl, hb⟩
  have HB3 := Lib.hid (HB2.out.trans (hb.mono HB2.out.size))
  clear hb
  go_wp2_with fail
  refine (zValid_yes z FZ.out _ (HT.out.on HB3.out).zz).mono ?_
  rintro e w4 ⟨rfl, hb⟩
  have HB4 := Lib.hid (HB3.out.trans (hb.mono HB3.out.size))
  clear hb
  go_wp2_with fail
  refine (zCompare x y (-1) K1.out FX.out FY.out _ (HT.out.on HB4.out)).mono ?_
  rintro e w5 ⟨rfl, hb⟩
  have HB5 := Lib.hid (HB4.out.trans (hb.mono HB4.out.size))
  clear hb
  go_wp2_with fail
  refine (zCompare y x 1 K2.out FY.out FX.out _ (HT.out.on HB5.out)).mono ?_
  rintro e w6 ⟨rfl, hb⟩
  have HB6 := Lib.hid (HB5.out.trans (hb.mono HB5.out.size))
  clear hb
  go_wp2_with fail
  refine (zSub x y d Ed.out FX.out FY.out Fd.out _ (HT.out.on HB6.out)).mono ?_
  rintro e w7 ⟨rfl, hb⟩
  have HB7 := Lib.hid (HB6.out.trans (hb.mono HB6.out.size))
  clear hb
  go_wp2_with fail
  refine (zSignV d (-1) K3.out Fd.out _ (HT.out.on HB7.out)).mono ?_
  rintro e w8 ⟨rfl, hb⟩
  have HB8 := Lib.hid (HB7.out.trans (hb.mono HB7.out.size))
  clear hb
  go_wp2_with fail
  refine (zAdd x z s1 Es1.out FX.out FZ.out Fs1.out _ (HT.out.on HB8.out)).mono ?_
  rintro e w9 ⟨rfl, hb⟩
  have HB9 := Lib.hid (HB8.out.trans (hb.mono HB8.out.size))
  clear hb
  go_wp2_with fail
  refine (zAdd y z s2 Es2.out FY.out FZ.out Fs2.out _ (HT.out.on HB9.out)).mono ?_
  rintro e w10 ⟨rfl, hb⟩
  have HB10 := Lib.hid (HB9.out.trans (hb.mono HB9.out.size))
  clear hb
  go_wp2_with fail
  refine (zCompare s1 s2 (-1) K4.out Fs1.out Fs2.out _ (HT.out.on HB10.out)).mono ?_
  rintro e w11 ⟨rfl, hb⟩
  have HB11 := Lib.hid (HB10.out.trans (hb.mono HB10.out.size))
  clear hb
  go_wp2_with fail
  refine (zMul x z u Eu.out FX.out FZ.out Fu.out _ (HT.out.on HB11.out)).mono ?_
  rintro e w12 ⟨rfl, hb⟩
  have HB12 := Lib.hid (HB11.out.trans (hb.mono HB11.out.size))
  clear hb
  go_wp2_with fail
  refine (zMul y z v Ev.out FY.out FZ.out Fv.out _ (HT.out.on HB12.out)).mono ?_
  rintro e w13 ⟨rfl, hb⟩
  have HB13 := Lib.hid (HB12.out.trans (hb.mono HB12.out.size))
  clear hb
  go_wp2_with fail
  refine (zCompare u v (-1) K5.out Fu.out Fv.out _ (HT.out.on HB13.out)).mono ?_
  rintro e w14 ⟨rfl, hb⟩
  have HB14 := Lib.hid (HB13.out.trans (hb.mono HB13.out.size))
  clear hb
  go_wp2_with fail
  refine (zSignV z 1 K6.out FZ.out _ (HT.out.on HB14.out)).mono ?_
  rintro e w15 ⟨rfl, hb⟩
  have HB15 := Lib.hid (HB14.out.trans (hb.mono HB14.out.size))
  clear hb
  go_wp2
  go_ret
  exact ⟨rfl, HB15.out⟩

set_option maxHeartbeats 8000000 in
set_option maxRecDepth 100000 in
theorem iorder_zm (x z : Int) (sa : (Sz x).size ≤ 120) (sc : (Sz z).size ≤ 120) (hw : z.sign = (-1)) (w : World) (hl : La w) :
    Calls Tryz.prog 10 #[.string (Sz x), .string (Sz x), .string (Sz z)] w fun e w' => e = .returned (.bool true) ∧ Below w.heap.size w w' := by
  have HT := Lib.hid hl
  clear hl
  have hx := smz_of sa
  have hy := hx
  have hz := smz_of sc
  have FX := Lib.hid (hx.fit (by decide))
  have FY := Lib.hid (hy.fit (by decide))
  have FZ := Lib.hid (hz.fit (by decide))
  obtain ⟨d, hd⟩ : ∃ s, x - x = s := ⟨_, rfl⟩
  have Fd := Lib.hid (show FitZ d by rw [← hd]; exact (hx.sub hy).fit (by decide))
  have Ed := Lib.hid hd
  obtain ⟨s1, hs1⟩ : ∃ s, x + z = s := ⟨_, rfl⟩
  have Fs1 := Lib.hid (show FitZ s1 by rw [← hs1]; exact (hx.add hz).fit (by decide))
  have Es1 := Lib.hid hs1
  obtain ⟨s2, hs2⟩ : ∃ s, x + z = s := ⟨_, rfl⟩
  have Fs2 := Lib.hid (show FitZ s2 by rw [← hs2]; exact (hy.add hz).fit (by decide))
  have Es2 := Lib.hid hs2
  obtain ⟨u, hu⟩ : ∃ s, x * z = s := ⟨_, rfl⟩
  have Fu := Lib.hid (show FitZ u by rw [← hu]; exact (hx.mul hz).fit (by decide))
  have Eu := Lib.hid hu
  obtain ⟨v, hv⟩ : ∃ s, x * z = s := ⟨_, rfl⟩
  have Fv := Lib.hid (show FitZ v by rw [← hv]; exact (hy.mul hz).fit (by decide))
  have Ev := Lib.hid hv
  have K1 := Lib.hid (show cmpZ x x = 0 from (cmpZ_eq x))
  have K2 := Lib.hid (show cmpZ x x = 0 by rw [cmpZ_swap, (cmpZ_eq x)]; first | done | rfl)
  have K3 := Lib.hid (show d.sign = 0 by rw [← hd, ← cmpZ_sign, (cmpZ_eq x)])
  have K4 := Lib.hid (show cmpZ s1 s2 = 0 by rw [← hs1, ← hs2, cmpZ_add, (cmpZ_eq x)])
  have K5 := Lib.hid (show cmpZ u v = 0 by rw [← hu, ← hv, cmpZ_mul, (cmpZ_eq x), hw]; rfl)
  have K6 := Lib.hid hw
  have W0 : IntKind.i64.wrap (0 + 0) = 0 := by decide
  have W1 : IntKind.i64.wrap (-0) = 0 := by decide
  have W2 : IntKind.i64.wrap (0 * (-1)) = 0 := by decide
  have SA := Lib.hid sa
  have SB := SA
  have SC := Lib.hid sc
  clear hx hy hz hd hs1 hs2 hu hv hw sa sc
  go_enter Tryz.func10, Tryz.ntmps10
  go_wp2_with fail
  refine (iawake _ HT.out).mono ?_
  rintro e w1 ⟨rfl, hb1⟩
  have HB1 := Lib.hid (hb1.alloc hb1.size (.cells #[.string (Sz x), .string (Sz x), .string (Sz z)] 9))
  have hc := strs_cells3 w1 (Sz x) (Sz x) (Sz z)
  have HLo := Lib.hid (long3_no w1.heap.size (Sz x) (Sz x) (Sz z) _ SA.out SB.out SC.out hc)
  clear hb1 hc
  go_wp2_with fail
  refine HLo.out.mono ?_
  rintro e w' ⟨rfl, rfl⟩
  go_wp2_with fail
  refine (zValid_yes x FX.out _ (HT.out.on HB1.out).zz).mono ?_
  rintro e w2 ⟨rfl, hb⟩
  have HB2 := Lib.hid (HB1.out.trans (hb.mono HB1.out.size))
  clear hb
  go_wp2_with fail
  refine (zValid_yes x FY.out _ (HT.out.on HB2.out).zz).mono ?_
  rintro e w3 ⟨rfl, hb⟩
  have HB3 := Lib.hid (HB2.out.trans (hb.mono HB2.out.size))
  clear hb
  go_wp2_with fail
  refine (zValid_yes z FZ.out _ (HT.out.on HB3.out).zz).mono ?_
  rintro e w4 ⟨rfl, hb⟩
  have HB4 := Lib.hid (HB3.out.trans (hb.mono HB3.out.size))
  clear hb
  go_wp2_with fail
  refine (zCompare x x 0 K1.out FX.out FY.out _ (HT.out.on HB4.out)).mono ?_
  rintro e w5 ⟨rfl, hb⟩
  have HB5 := Lib.hid (HB4.out.trans (hb.mono HB4.out.size))
  clear hb
  go_wp2_with fail
  refine (zCompare x x 0 K2.out FY.out FX.out _ (HT.out.on HB5.out)).mono ?_
  rintro e w6 ⟨rfl, hb⟩
  have HB6 := Lib.hid (HB5.out.trans (hb.mono HB5.out.size))
  clear hb
  go_wp2_with fail
  refine (zSub x x d Ed.out FX.out FY.out Fd.out _ (HT.out.on HB6.out)).mono ?_
  rintro e w7 ⟨rfl, hb⟩
  have HB7 := Lib.hid (HB6.out.trans (hb.mono HB6.out.size))
  clear hb
  go_wp2_with fail
  refine (zSignV d 0 K3.out Fd.out _ (HT.out.on HB7.out)).mono ?_
  rintro e w8 ⟨rfl, hb⟩
  have HB8 := Lib.hid (HB7.out.trans (hb.mono HB7.out.size))
  clear hb
  go_wp2_with fail
  refine (zAdd x z s1 Es1.out FX.out FZ.out Fs1.out _ (HT.out.on HB8.out)).mono ?_
  rintro e w9 ⟨rfl, hb⟩
  have HB9 := Lib.hid (HB8.out.trans (hb.mono HB8.out.size))
  clear hb
  go_wp2_with fail
  refine (zAdd x z s2 Es2.out FY.out FZ.out Fs2.out _ (HT.out.on HB9.out)).mono ?_
  rintro e w10 ⟨rfl, hb⟩
  have HB10 := Lib.hid (HB9.out.trans (hb.mono HB9.out.size))
  clear hb
  go_wp2_with fail
  refine (zCompare s1 s2 0 K4.out Fs1.out Fs2.out _ (HT.out.on HB10.out)).mono ?_
  rintro e w11 ⟨rfl, hb⟩
  have HB11 := Lib.hid (HB10.out.trans (hb.mono HB10.out.size))
  clear hb
  go_wp2_with fail
  refine (zMul x z u Eu.out FX.out FZ.out Fu.out _ (HT.out.on HB11.out)).mono ?_
  rintro e w12 ⟨rfl, hb⟩
  have HB12 := Lib.hid (HB11.out.trans (hb.mono HB11.out.size))
  clear hb
  go_wp2_with fail
  refine (zMul x z v Ev.out FY.out FZ.out Fv.out _ (HT.out.on HB12.out)).mono ?_
  rintro e w13 ⟨rfl, hb⟩
  have HB13 := Lib.hid (HB12.out.trans (hb.mono HB12.out.size))
  clear hb
  go_wp2_with fail
  refine (zCompare u v 0 K5.out Fu.out Fv.out _ (HT.out.on HB13.out)).mono ?_
  rintro e w14 ⟨rfl, hb⟩
  have HB14 := Lib.hid (HB13.out.trans (hb.mono HB13.out.size))
  clear hb
  go_wp2_with fail
  refine (zSignV z (-1) K6.out FZ.out _ (HT.out.on HB14.out)).mono ?_
  rintro e w15 ⟨rfl, hb⟩
  have HB15 := Lib.hid (HB14.out.trans (hb.mono HB14.out.size))
  clear hb
  go_wp2
  go_ret
  exact ⟨rfl, HB15.out⟩

set_option maxHeartbeats 8000000 in
set_option maxRecDepth 100000 in
theorem iorder_zz (x z : Int) (sa : (Sz x).size ≤ 120) (sc : (Sz z).size ≤ 120) (hw : z.sign = 0) (w : World) (hl : La w) :
    Calls Tryz.prog 10 #[.string (Sz x), .string (Sz x), .string (Sz z)] w fun e w' => e = .returned (.bool true) ∧ Below w.heap.size w w' := by
  have HT := Lib.hid hl
  clear hl
  have hx := smz_of sa
  have hy := hx
  have hz := smz_of sc
  have FX := Lib.hid (hx.fit (by decide))
  have FY := Lib.hid (hy.fit (by decide))
  have FZ := Lib.hid (hz.fit (by decide))
  obtain ⟨d, hd⟩ : ∃ s, x - x = s := ⟨_, rfl⟩
  have Fd := Lib.hid (show FitZ d by rw [← hd]; exact (hx.sub hy).fit (by decide))
  have Ed := Lib.hid hd
  obtain ⟨s1, hs1⟩ : ∃ s, x + z = s := ⟨_, rfl⟩
  have Fs1 := Lib.hid (show FitZ s1 by rw [← hs1]; exact (hx.add hz).fit (by decide))
  have Es1 := Lib.hid hs1
  obtain ⟨s2, hs2⟩ : ∃ s, x + z = s := ⟨_, rfl⟩
  have Fs2 := Lib.hid (show FitZ s2 by rw [← hs2]; exact (hy.add hz).fit (by decide))
  have Es2 := Lib.hid hs2
  obtain ⟨u, hu⟩ : ∃ s, x * z = s := ⟨_, rfl⟩
  have Fu := Lib.hid (show FitZ u by rw [← hu]; exact (hx.mul hz).fit (by decide))
  have Eu := Lib.hid hu
  obtain ⟨v, hv⟩ : ∃ s, x * z = s := ⟨_, rfl⟩
  have Fv := Lib.hid (show FitZ v by rw [← hv]; exact (hy.mul hz).fit (by decide))
  have Ev := Lib.hid hv
  have K1 := Lib.hid (show cmpZ x x = 0 from (cmpZ_eq x))
  have K2 := Lib.hid (show cmpZ x x = 0 by rw [cmpZ_swap, (cmpZ_eq x)]; first | done | rfl)
  have K3 := Lib.hid (show d.sign = 0 by rw [← hd, ← cmpZ_sign, (cmpZ_eq x)])
  have K4 := Lib.hid (show cmpZ s1 s2 = 0 by rw [← hs1, ← hs2, cmpZ_add, (cmpZ_eq x)])
  have K5 := Lib.hid (show cmpZ u v = 0 by rw [← hu, ← hv, cmpZ_mul, (cmpZ_eq x), hw]; rfl)
  have K6 := Lib.hid hw
  have W0 : IntKind.i64.wrap (0 + 0) = 0 := by decide
  have W1 : IntKind.i64.wrap (-0) = 0 := by decide
  have W2 : IntKind.i64.wrap (0 * 0) = 0 := by decide
  have SA := Lib.hid sa
  have SB := SA
  have SC := Lib.hid sc
  clear hx hy hz hd hs1 hs2 hu hv hw sa sc
  go_enter Tryz.func10, Tryz.ntmps10
  go_wp2_with fail
  refine (iawake _ HT.out).mono ?_
  rintro e w1 ⟨rfl, hb1⟩
  have HB1 := Lib.hid (hb1.alloc hb1.size (.cells #[.string (Sz x), .string (Sz x), .string (Sz z)] 9))
  have hc := strs_cells3 w1 (Sz x) (Sz x) (Sz z)
  have HLo := Lib.hid (long3_no w1.heap.size (Sz x) (Sz x) (Sz z) _ SA.out SB.out SC.out hc)
  clear hb1 hc
  go_wp2_with fail
  refine HLo.out.mono ?_
  rintro e w' ⟨rfl, rfl⟩
  go_wp2_with fail
  refine (zValid_yes x FX.out _ (HT.out.on HB1.out).zz).mono ?_
  rintro e w2 ⟨rfl, hb⟩
  have HB2 := Lib.hid (HB1.out.trans (hb.mono HB1.out.size))
  clear hb
  go_wp2_with fail
  refine (zValid_yes x FY.out _ (HT.out.on HB2.out).zz).mono ?_
  rintro e w3 ⟨rfl, hb⟩
  have HB3 := Lib.hid (HB2.out.trans (hb.mono HB2.out.size))
  clear hb
  go_wp2_with fail
  refine (zValid_yes z FZ.out _ (HT.out.on HB3.out).zz).mono ?_
  rintro e w4 ⟨rfl, hb⟩
  have HB4 := Lib.hid (HB3.out.trans (hb.mono HB3.out.size))
  clear hb
  go_wp2_with fail
  refine (zCompare x x 0 K1.out FX.out FY.out _ (HT.out.on HB4.out)).mono ?_
  rintro e w5 ⟨rfl, hb⟩
  have HB5 := Lib.hid (HB4.out.trans (hb.mono HB4.out.size))
  clear hb
  go_wp2_with fail
  refine (zCompare x x 0 K2.out FY.out FX.out _ (HT.out.on HB5.out)).mono ?_
  rintro e w6 ⟨rfl, hb⟩
  have HB6 := Lib.hid (HB5.out.trans (hb.mono HB5.out.size))
  clear hb
  go_wp2_with fail
  refine (zSub x x d Ed.out FX.out FY.out Fd.out _ (HT.out.on HB6.out)).mono ?_
  rintro e w7 ⟨rfl, hb⟩
  have HB7 := Lib.hid (HB6.out.trans (hb.mono HB6.out.size))
  clear hb
  go_wp2_with fail
  refine (zSignV d 0 K3.out Fd.out _ (HT.out.on HB7.out)).mono ?_
  rintro e w8 ⟨rfl, hb⟩
  have HB8 := Lib.hid (HB7.out.trans (hb.mono HB7.out.size))
  clear hb
  go_wp2_with fail
  refine (zAdd x z s1 Es1.out FX.out FZ.out Fs1.out _ (HT.out.on HB8.out)).mono ?_
  rintro e w9 ⟨rfl, hb⟩
  have HB9 := Lib.hid (HB8.out.trans (hb.mono HB8.out.size))
  clear hb
  go_wp2_with fail
  refine (zAdd x z s2 Es2.out FY.out FZ.out Fs2.out _ (HT.out.on HB9.out)).mono ?_
  rintro e w10 ⟨rfl, hb⟩
  have HB10 := Lib.hid (HB9.out.trans (hb.mono HB9.out.size))
  clear hb
  go_wp2_with fail
  refine (zCompare s1 s2 0 K4.out Fs1.out Fs2.out _ (HT.out.on HB10.out)).mono ?_
  rintro e w11 ⟨rfl, hb⟩
  have HB11 := Lib.hid (HB10.out.trans (hb.mono HB10.out.size))
  clear hb
  go_wp2_with fail
  refine (zMul x z u Eu.out FX.out FZ.out Fu.out _ (HT.out.on HB11.out)).mono ?_
  rintro e w12 ⟨rfl, hb⟩
  have HB12 := Lib.hid (HB11.out.trans (hb.mono HB11.out.size))
  clear hb
  go_wp2_with fail
  refine (zMul x z v Ev.out FY.out FZ.out Fv.out _ (HT.out.on HB12.out)).mono ?_
  rintro e w13 ⟨rfl, hb⟩
  have HB13 := Lib.hid (HB12.out.trans (hb.mono HB12.out.size))
  clear hb
  go_wp2_with fail
  refine (zCompare u v 0 K5.out Fu.out Fv.out _ (HT.out.on HB13.out)).mono ?_
  rintro e w14 ⟨rfl, hb⟩
  have HB14 := Lib.hid (HB13.out.trans (hb.mono HB13.out.size))
  clear hb
  go_wp2_with fail
  refine (zSignV z 0 K6.out FZ.out _ (HT.out.on HB14.out)).mono ?_
  rintro e w15 ⟨rfl, hb⟩
  have HB15 := Lib.hid (HB14.out.trans (hb.mono HB14.out.size))
  clear hb
  go_wp2
  go_ret
  exact ⟨rfl, HB15.out⟩

set_option maxHeartbeats 8000000 in
set_option maxRecDepth 100000 in
theorem iorder_zp (x z : Int) (sa : (Sz x).size ≤ 120) (sc : (Sz z).size ≤ 120) (hw : z.sign = 1) (w : World) (hl : La w) :
    Calls Tryz.prog 10 #[.string (Sz x), .string (Sz x), .string (Sz z)] w fun e w' => e = .returned (.bool true) ∧ Below w.heap.size w w' := by
  have HT := Lib.hid hl
  clear hl
  have hx := smz_of sa
  have hy := hx
  have hz := smz_of sc
  have FX := Lib.hid (hx.fit (by decide))
  have FY := Lib.hid (hy.fit (by decide))
  have FZ := Lib.hid (hz.fit (by decide))
  obtain ⟨d, hd⟩ : ∃ s, x - x = s := ⟨_, rfl⟩
  have Fd := Lib.hid (show FitZ d by rw [← hd]; exact (hx.sub hy).fit (by decide))
  have Ed := Lib.hid hd
  obtain ⟨s1, hs1⟩ : ∃ s, x + z = s := ⟨_, rfl⟩
  have Fs1 := Lib.hid (show FitZ s1 by rw [← hs1]; exact (hx.add hz).fit (by decide))
  have Es1 := Lib.hid hs1
  obtain ⟨s2, hs2⟩ : ∃ s, x + z = s := ⟨_, rfl⟩
  have Fs2 := Lib.hid (show FitZ s2 by rw [← hs2]; exact (hy.add hz).fit (by decide))
  have Es2 := Lib.hid hs2
  obtain ⟨u, hu⟩ : ∃ s, x * z = s := ⟨_, rfl⟩
  have Fu := Lib.hid (show FitZ u by rw [← hu]; exact (hx.mul hz).fit (by decide))
  have Eu := Lib.hid hu
  obtain ⟨v, hv⟩ : ∃ s, x * z = s := ⟨_, rfl⟩
  have Fv := Lib.hid (show FitZ v by rw [← hv]; exact (hy.mul hz).fit (by decide))
  have Ev := Lib.hid hv
  have K1 := Lib.hid (show cmpZ x x = 0 from (cmpZ_eq x))
  have K2 := Lib.hid (show cmpZ x x = 0 by rw [cmpZ_swap, (cmpZ_eq x)]; first | done | rfl)
  have K3 := Lib.hid (show d.sign = 0 by rw [← hd, ← cmpZ_sign, (cmpZ_eq x)])
  have K4 := Lib.hid (show cmpZ s1 s2 = 0 by rw [← hs1, ← hs2, cmpZ_add, (cmpZ_eq x)])
  have K5 := Lib.hid (show cmpZ u v = 0 by rw [← hu, ← hv, cmpZ_mul, (cmpZ_eq x), hw]; rfl)
  have K6 := Lib.hid hw
  have W0 : IntKind.i64.wrap (0 + 0) = 0 := by decide
  have W1 : IntKind.i64.wrap (-0) = 0 := by decide
  have W2 : IntKind.i64.wrap (0 * 1) = 0 := by decide
  have SA := Lib.hid sa
  have SB := SA
  have SC := Lib.hid sc
  clear hx hy hz hd hs1 hs2 hu hv hw sa sc
  go_enter Tryz.func10, Tryz.ntmps10
  go_wp2_with fail
  refine (iawake _ HT.out).mono ?_
  rintro e w1 ⟨rfl, hb1⟩
  have HB1 := Lib.hid (hb1.alloc hb1.size (.cells #[.string (Sz x), .string (Sz x), .string (Sz z)] 9))
  have hc := strs_cells3 w1 (Sz x) (Sz x) (Sz z)
  have HLo := Lib.hid (long3_no w1.heap.size (Sz x) (Sz x) (Sz z) _ SA.out SB.out SC.out hc)
  clear hb1 hc
  go_wp2_with fail
  refine HLo.out.mono ?_
  rintro e w' ⟨rfl, rfl⟩
  go_wp2_with fail
  refine (zValid_yes x FX.out _ (HT.out.on HB1.out).zz).mono ?_
  rintro e w2 ⟨rfl, hb⟩
  have HB2 := Lib.hid (HB1.out.trans (hb.mono HB1.out.size))
  clear hb
  go_wp2_with fail
  refine (zValid_yes x FY.out _ (HT.out.on HB2.out).zz).mono ?_
  rintro e w3 ⟨rfl, hb⟩
  have HB3 := Lib.hid (HB2.out.trans (hb.mono HB2.out.size))
  clear hb
  go_wp2_with fail
  refine (zValid_yes z FZ.out _ (HT.out.on HB3.out).zz).mono ?_
  rintro e w4 ⟨rfl, hb⟩
  have HB4 := Lib.hid (HB3.out.trans (hb.mono HB3.out.size))
  clear hb
  go_wp2_with fail
  refine (zCompare x x 0 K1.out FX.out FY.out _ (HT.out.on HB4.out)).mono ?_
  rintro e w5 ⟨rfl, hb⟩
  have HB5 := Lib.hid (HB4.out.trans (hb.mono HB4.out.size))
  clear hb
  go_wp2_with fail
  refine (zCompare x x 0 K2.out FY.out FX.out _ (HT.out.on HB5.out)).mono ?_
  rintro e w6 ⟨rfl, hb⟩
  have HB6 := Lib.hid (HB5.out.trans (hb.mono HB5.out.size))
  clear hb
  go_wp2_with fail
  refine (zSub x x d Ed.out FX.out FY.out Fd.out _ (HT.out.on HB6.out)).mono ?_
  rintro e w7 ⟨rfl, hb⟩
  have HB7 := Lib.hid (HB6.out.trans (hb.mono HB6.out.size))
  clear hb
  go_wp2_with fail
  refine (zSignV d 0 K3.out Fd.out _ (HT.out.on HB7.out)).mono ?_
  rintro e w8 ⟨rfl, hb⟩
  have HB8 := Lib.hid (HB7.out.trans (hb.mono HB7.out.size))
  clear hb
  go_wp2_with fail
  refine (zAdd x z s1 Es1.out FX.out FZ.out Fs1.out _ (HT.out.on HB8.out)).mono ?_
  rintro e w9 ⟨rfl, hb⟩
  have HB9 := Lib.hid (HB8.out.trans (hb.mono HB8.out.size))
  clear hb
  go_wp2_with fail
  refine (zAdd x z s2 Es2.out FY.out FZ.out Fs2.out _ (HT.out.on HB9.out)).mono ?_
  rintro e w10 ⟨rfl, hb⟩
  have HB10 := Lib.hid (HB9.out.trans (hb.mono HB9.out.size))
  clear hb
  go_wp2_with fail
  refine (zCompare s1 s2 0 K4.out Fs1.out Fs2.out _ (HT.out.on HB10.out)).mono ?_
  rintro e w11 ⟨rfl, hb⟩
  have HB11 := Lib.hid (HB10.out.trans (hb.mono HB10.out.size))
  clear hb
  go_wp2_with fail
  refine (zMul x z u Eu.out FX.out FZ.out Fu.out _ (HT.out.on HB11.out)).mono ?_
  rintro e w12 ⟨rfl, hb⟩
  have HB12 := Lib.hid (HB11.out.trans (hb.mono HB11.out.size))
  clear hb
  go_wp2_with fail
  refine (zMul x z v Ev.out FY.out FZ.out Fv.out _ (HT.out.on HB12.out)).mono ?_
  rintro e w13 ⟨rfl, hb⟩
  have HB13 := Lib.hid (HB12.out.trans (hb.mono HB12.out.size))
  clear hb
  go_wp2_with fail
  refine (zCompare u v 0 K5.out Fu.out Fv.out _ (HT.out.on HB13.out)).mono ?_
  rintro e w14 ⟨rfl, hb⟩
  have HB14 := Lib.hid (HB13.out.trans (hb.mono HB13.out.size))
  clear hb
  go_wp2_with fail
  refine (zSignV z 1 K6.out FZ.out _ (HT.out.on HB14.out)).mono ?_
  rintro e w15 ⟨rfl, hb⟩
  have HB15 := Lib.hid (HB14.out.trans (hb.mono HB14.out.size))
  clear hb
  go_wp2
  go_ret
  exact ⟨rfl, HB15.out⟩

set_option maxHeartbeats 8000000 in
set_option maxRecDepth 100000 in
theorem iorder_pm (x y z : Int) (sa : (Sz x).size ≤ 120) (sb : (Sz y).size ≤ 120) (sc : (Sz z).size ≤ 120) (hn : cmpZ x y = 1) (hw : z.sign = (-1)) (w : World) (hl : La w) :
    Calls Tryz.prog 10 #[.string (Sz x), .string (Sz y), .string (Sz z)] w fun e w' => e = .returned (.bool true) ∧ Below w.heap.size w w' := by
  have HT := Lib.hid hl
  clear hl
  have hx := smz_of sa
  have hy := smz_of sb
  have hz := smz_of sc
  have FX := Lib.hid (hx.fit (by decide))
  have FY := Lib.hid (hy.fit (by decide))
  have FZ := Lib.hid (hz.fit (by decide))
  obtain ⟨d, hd⟩ : ∃ s, x - y = s := ⟨_, rfl⟩
  have Fd := Lib.hid (show FitZ d by rw [← hd]; exact (hx.sub hy).fit (by decide))
  have Ed := Lib.hid hd
  obtain ⟨s1, hs1⟩ : ∃ s, x + z = s := ⟨_, rfl⟩
  have Fs1 := Lib.hid (show FitZ s1 by rw [← hs1]; exact (hx.add hz).fit (by decide))
  have Es1 := Lib.hid hs1
  obtain ⟨s2, hs2⟩ : ∃ s, y + z = s := ⟨_, rfl⟩
  have Fs2 := Lib.hid (show FitZ s2 by rw [← hs2]; exact (hy.add hz).fit (by decide))
  have Es2 := Lib.hid hs2
  obtain ⟨u, hu⟩ : ∃ s, x * z = s := ⟨_, rfl⟩
  have Fu := Lib.hid (show FitZ u by rw [← hu]; exact (hx.mul hz).fit (by decide))
  have Eu := Lib.hid hu
  obtain ⟨v, hv⟩ : ∃ s, y * z = s := ⟨_, rfl⟩
  have Fv := Lib.hid (show FitZ v by rw [← hv]; exact (hy.mul hz).fit (by decide))
  have Ev := Lib.hid hv
  have K1 := Lib.hid (show cmpZ x y = 1 from hn)
  have K2 := Lib.hid (show cmpZ y x = (-1) by rw [cmpZ_swap, hn]; first | done | rfl)
  have K3 := Lib.hid (show d.sign = 1 by rw [← hd, ← cmpZ_sign, hn])
  have K4 := Lib.hid (show cmpZ s1 s2 = 1 by rw [← hs1, ← hs2, cmpZ_add, hn])
  have K5 := Lib.hid (show cmpZ u v = (-1) by rw [← hu, ← hv, cmpZ_mul, hn, hw]; rfl)
  have K6 := Lib.hid hw
  have hne := sz_neq (show x ≠ y by rintro rfl; rw [cmpZ_eq] at hn; exact absurd hn (by decide))
  have W0 : IntKind.i64.wrap (0 + 0) = 0 := by decide
  have W1 : IntKind.i64.wrap (-(-1)) = 1 := by decide
  have W2 : IntKind.i64.wrap (1 * (-1)) = (-1) := by decide
  have SA := Lib.hid sa
  have SB := Lib.hid sb
  have SC := Lib.hid sc
  clear hx hy hz hd hs1 hs2 hu hv hw sa sc hn sb
  go_enter Tryz.func10, Tryz.ntmps10
  go_wp2_with fail
  refine (iawake _ HT.out).mono ?_
  rintro e w1 ⟨rfl, hb1⟩
  have HB1 := Lib.hid (hb1.alloc hb1.size (.cells #[.string (Sz x), .string (Sz y), .string (Sz z)] 9))
  have hc := strs_cells3 w1 (Sz x) (Sz y) (Sz z)
  have HLo := Lib.hid (long3_no w1.heap.size (Sz x) (Sz y) (Sz z) _ SA.out SB.out SC.out hc)
  clear hb1 hc
  go_wp2_with fail
  refine HLo.out.mono ?_
  rintro e w' ⟨rfl, rfl⟩
  go_wp2_with fail
  refine (zValid_yes x FX.out _ (HT.out.on HB1.out).zz).mono ?_
  rintro e w2 ⟨rfl, hb⟩
  have HB2 := Lib.hid (HB1.out.trans (hb.mono HB1.out.size))
  clear hb
  go_wp2_with fail
  refine (zValid_yes y FY.out _ (HT.out.on HB2.out).zz).mono ?_
  rintro e w3 ⟨rfl, hb⟩
  have HB3 := Lib.hid (HB2.out.trans (hb.mono HB2.out.size))
  clear hb
  go_wp2_with fail
  refine (zValid_yes z FZ.out _ (HT.out.on HB3.out).zz).mono ?_
  rintro e w4 ⟨rfl, hb⟩
  have HB4 := Lib.hid (HB3.out.trans (hb.mono HB3.out.size))
  clear hb
  go_wp2_with fail
  refine (zCompare x y 1 K1.out FX.out FY.out _ (HT.out.on HB4.out)).mono ?_
  rintro e w5 ⟨rfl, hb⟩
  have HB5 := Lib.hid (HB4.out.trans (hb.mono HB4.out.size))
  clear hb
  go_wp2_with fail
  refine (zCompare y x (-1) K2.out FY.out FX.out _ (HT.out.on HB5.out)).mono ?_
  rintro e w6 ⟨rfl, hb⟩
  have HB6 := Lib.hid (HB5.out.trans (hb.mono HB5.out.size))
  clear hb
  go_wp2_with fail
  refine (zSub x y d Ed.out FX.out FY.out Fd.out _ (HT.out.on HB6.out)).mono ?_
  rintro e w7 ⟨rfl, hb⟩
  have HB7 := Lib.hid (HB6.out.trans (hb.mono HB6.out.size))
  clear hb
  go_wp2_with fail
  refine (zSignV d 1 K3.out Fd.out _ (HT.out.on HB7.out)).mono ?_
  rintro e w8 ⟨rfl, hb⟩
  have HB8 := Lib.hid (HB7.out.trans (hb.mono HB7.out.size))
  clear hb
  go_wp2_with fail
  refine (zAdd x z s1 Es1.out FX.out FZ.out Fs1.out _ (HT.out.on HB8.out)).mono ?_
  rintro e w9 ⟨rfl, hb⟩
  have HB9 := Lib.hid (HB8.out.trans (hb.mono HB8.out.size))
  clear hb
  go_wp2_with fail
  refine (zAdd y z s2 Es2.out FY.out FZ.out Fs2.out _ (HT.out.on HB9.out)).mono ?_
  rintro e w10 ⟨rfl, hb⟩
  have HB10 := Lib.hid (HB9.out.trans (hb.mono HB9.out.size))
  clear hb
  go_wp2_with fail
  refine (zCompare s1 s2 1 K4.out Fs1.out Fs2.out _ (HT.out.on HB10.out)).mono ?_
  rintro e w11 ⟨rfl, hb⟩
  have HB11 := Lib.hid (HB10.out.trans (hb.mono HB10.out.size))
  clear hb
  go_wp2_with fail
  refine (zMul x z u Eu.out FX.out FZ.out Fu.out _ (HT.out.on HB11.out)).mono ?_
  rintro e w12 ⟨rfl, hb⟩
  have HB12 := Lib.hid (HB11.out.trans (hb.mono HB11.out.size))
  clear hb
  go_wp2_with fail
  refine (zMul y z v Ev.out FY.out FZ.out Fv.out _ (HT.out.on HB12.out)).mono ?_
  rintro e w13 ⟨rfl, hb⟩
  have HB13 := Lib.hid (HB12.out.trans (hb.mono HB12.out.size))
  clear hb
  go_wp2_with fail
  refine (zCompare u v (-1) K5.out Fu.out Fv.out _ (HT.out.on HB13.out)).mono ?_
  rintro e w14 ⟨rfl, hb⟩
  have HB14 := Lib.hid (HB13.out.trans (hb.mono HB13.out.size))
  clear hb
  go_wp2_with fail
  refine (zSignV z (-1) K6.out FZ.out _ (HT.out.on HB14.out)).mono ?_
  rintro e w15 ⟨rfl, hb⟩
  have HB15 := Lib.hid (HB14.out.trans (hb.mono HB14.out.size))
  clear hb
  go_wp2
  go_ret
  exact ⟨rfl, HB15.out⟩

set_option maxHeartbeats 8000000 in
set_option maxRecDepth 100000 in
theorem iorder_pz (x y z : Int) (sa : (Sz x).size ≤ 120) (sb : (Sz y).size ≤ 120) (sc : (Sz z).size ≤ 120) (hn : cmpZ x y = 1) (hw : z.sign = 0) (w : World) (hl : La w) :
    Calls Tryz.prog 10 #[.string (Sz x), .string (Sz y), .string (Sz z)] w fun e w' => e = .returned (.bool true) ∧ Below w.heap.size w w' := by
  have HT := Lib.hid hl
  clear hl
  have hx := smz_of sa
  have hy := smz_of sb
  have hz := smz_of sc
  have FX := Lib.hid (hx.fit (by decide))
  have FY := Lib.hid (hy.fit (by decide))
  have FZ := Lib.hid (hz.fit (by decide))
  obtain ⟨d, hd⟩ : ∃ s, x - y = s := ⟨_, rfl⟩
  have Fd := Lib.hid (show FitZ d by rw [← hd]; exact (hx.sub hy).fit (by decide))
  have Ed := Lib.hid hd
  obtain ⟨s1, hs1⟩ : ∃ s, x + z = s := ⟨_, rfl⟩
  have Fs1 := Lib.hid (show FitZ s1 by rw [← hs1]; exact (hx.add hz).fit (by decide))
  have Es1 := Lib.hid hs1
  obtain ⟨s2, hs2⟩ : ∃ s, y + z = s := ⟨_, rfl⟩
  have Fs2 := Lib.hid (show FitZ s2 by rw [← hs2]; exact (hy.add hz).fit (by decide))
  have Es2 := Lib.hid hs2
  obtain ⟨u, hu⟩ : ∃ s, x * z = s := ⟨_, rfl⟩
  have Fu := Lib.hid (show FitZ u by rw [← hu]; exact (hx.mul hz).fit (by decide))
  have Eu := Lib.hid hu
  obtain ⟨v, hv⟩ : ∃ s, y * z = s := ⟨_, rfl⟩
  have Fv := Lib.hid (show FitZ v by rw [← hv]; exact (hy.mul hz).fit (by decide))
  have Ev := Lib.hid hv
  have K1 := Lib.hid (show cmpZ x y = 1 from hn)
  have K2 := Lib.hid (show cmpZ y x = (-1) by rw [cmpZ_swap, hn]; first | done | rfl)
  have K3 := Lib.hid (show d.sign = 1 by rw [← hd, ← cmpZ_sign, hn])
  have K4 := Lib.hid (show cmpZ s1 s2 = 1 by rw [← hs1, ← hs2, cmpZ_add, hn])
  have K5 := Lib.hid (show cmpZ u v = 0 by rw [← hu, ← hv, cmpZ_mul, hn, hw]; rfl)
  have K6 := Lib.hid hw
  have hne := sz_neq (show x ≠ y by rintro rfl; rw [cmpZ_eq] at hn; exact absurd hn (by decide))
  have W0 : IntKind.i64.wrap (0 + 0) = 0 := by decide
  have W1 : IntKind.i64.wrap (-(-1)) = 1 := by decide
  have W2 : IntKind.i64.wrap (1 * 0) = 0 := by decide
  have SA := Lib.hid sa
  have SB := Lib.hid sb
  have SC := Lib.hid sc
  clear hx hy hz hd hs1 hs2 hu hv hw sa sc hn sb
  go_enter Tryz.func10, Tryz.ntmps10
  go_wp2_with fail
  refine (iawake _ HT.out).mono ?_
  rintro e w1 ⟨rfl, hb1⟩
  have HB1 := Lib.hid (hb1.alloc hb1.size (.cells #[.string (Sz x), .string (Sz y), .string (Sz z)] 9))
  have hc := strs_cells3 w1 (Sz x) (Sz y) (Sz z)
  have HLo := Lib.hid (long3_no w1.heap.size (Sz x) (Sz y) (Sz z) _ SA.out SB.out SC.out hc)
  clear hb1 hc
  go_wp2_with fail
  refine HLo.out.mono ?_
  rintro e w' ⟨rfl, rfl⟩
  go_wp2_with fail
  refine (zValid_yes x FX.out _ (HT.out.on HB1.out).zz).mono ?_
  rintro e w2 ⟨rfl, hb⟩
  have HB2 := Lib.hid (HB1.out.trans (hb.mono HB1.out.size))
  clear hb
  go_wp2_with fail
  refine (zValid_yes y FY.out _ (HT.out.on HB2.out).zz).mono ?_
  rintro e w3 ⟨rfl, hb⟩
  have HB3 := Lib.hid (HB2.out.trans (hb.mono HB2.out.size))
  clear hb
  go_wp2_with fail
  refine (zValid_yes z FZ.out _ (HT.out.on HB3.out).zz).mono ?_
  rintro e w4 ⟨rfl, hb⟩
  have HB4 := Lib.hid (HB3.out.trans (hb.mono HB3.out.size))
  clear hb
  go_wp2_with fail
  refine (zCompare x y 1 K1.out FX.out FY.out _ (HT.out.on HB4.out)).mono ?_
  rintro e w5 ⟨rfl, hb⟩
  have HB5 := Lib.hid (HB4.out.trans (hb.mono HB4.out.size))
  clear hb
  go_wp2_with fail
  refine (zCompare y x (-1) K2.out FY.out FX.out _ (HT.out.on HB5.out)).mono ?_
  rintro e w6 ⟨rfl, hb⟩
  have HB6 := Lib.hid (HB5.out.trans (hb.mono HB5.out.size))
  clear hb
  go_wp2_with fail
  refine (zSub x y d Ed.out FX.out FY.out Fd.out _ (HT.out.on HB6.out)).mono ?_
  rintro e w7 ⟨rfl, hb⟩
  have HB7 := Lib.hid (HB6.out.trans (hb.mono HB6.out.size))
  clear hb
  go_wp2_with fail
  refine (zSignV d 1 K3.out Fd.out _ (HT.out.on HB7.out)).mono ?_
  rintro e w8 ⟨rfl, hb⟩
  have HB8 := Lib.hid (HB7.out.trans (hb.mono HB7.out.size))
  clear hb
  go_wp2_with fail
  refine (zAdd x z s1 Es1.out FX.out FZ.out Fs1.out _ (HT.out.on HB8.out)).mono ?_
  rintro e w9 ⟨rfl, hb⟩
  have HB9 := Lib.hid (HB8.out.trans (hb.mono HB8.out.size))
  clear hb
  go_wp2_with fail
  refine (zAdd y z s2 Es2.out FY.out FZ.out Fs2.out _ (HT.out.on HB9.out)).mono ?_
  rintro e w10 ⟨rfl, hb⟩
  have HB10 := Lib.hid (HB9.out.trans (hb.mono HB9.out.size))
  clear hb
  go_wp2_with fail
  refine (zCompare s1 s2 1 K4.out Fs1.out Fs2.out _ (HT.out.on HB10.out)).mono ?_
  rintro e w11 ⟨rfl, hb⟩
  have HB11 := Lib.hid (HB10.out.trans (hb.mono HB10.out.size))
  clear hb
  go_wp2_with fail
  refine (zMul x z u Eu.out FX.out FZ.out Fu.out _ (HT.out.on HB11.out)).mono ?_
  rintro e w12 ⟨rfl, hb⟩
  have HB12 := Lib.hid (HB11.out.trans (hb.mono HB11.out.size))
  clear hb
  go_wp2_with fail
  refine (zMul y z v Ev.out FY.out FZ.out Fv.out _ (HT.out.on HB12.out)).mono ?_
  rintro e w13 ⟨rfl, hb⟩
  have HB13 := Lib.hid (HB12.out.trans (hb.mono HB12.out.size))
  clear hb
  go_wp2_with fail
  refine (zCompare u v 0 K5.out Fu.out Fv.out _ (HT.out.on HB13.out)).mono ?_
  rintro e w14 ⟨rfl, hb⟩
  have HB14 := Lib.hid (HB13.out.trans (hb.mono HB13.out.size))
  clear hb
  go_wp2_with fail
  refine (zSignV z 0 K6.out FZ.out _ (HT.out.on HB14.out)).mono ?_
  rintro e w15 ⟨rfl, hb⟩
  have HB15 := Lib.hid (HB14.out.trans (hb.mono HB14.out.size))
  clear hb
  go_wp2
  go_ret
  exact ⟨rfl, HB15.out⟩

set_option maxHeartbeats 8000000 in
set_option maxRecDepth 100000 in
theorem iorder_pp (x y z : Int) (sa : (Sz x).size ≤ 120) (sb : (Sz y).size ≤ 120) (sc : (Sz z).size ≤ 120) (hn : cmpZ x y = 1) (hw : z.sign = 1) (w : World) (hl : La w) :
    Calls Tryz.prog 10 #[.string (Sz x), .string (Sz y), .string (Sz z)] w fun e w' => e = .returned (.bool true) ∧ Below w.heap.size w w' := by
  have HT := Lib.hid hl
  clear hl
  have hx := smz_of sa
  have hy := smz_of sb
  have hz := smz_of sc
  have FX := Lib.hid (hx.fit (by decide))
  have FY := Lib.hid (hy.fit (by decide))
  have FZ := Lib.hid (hz.fit (by decide))
  obtain ⟨d, hd⟩ : ∃ s, x - y = s := ⟨_, rfl⟩
  have Fd := Lib.hid (show FitZ d by rw [← hd]; exact (hx.sub hy).fit (by decide))
  have Ed := Lib.hid hd
  obtain ⟨s1, hs1⟩ : ∃ s, x + z = s := ⟨_, rfl⟩
  have Fs1 := Lib.hid (show FitZ s1 by rw [← hs1]; exact (hx.add hz).fit (by decide))
  have Es1 := Lib.hid hs1
  obtain ⟨s2, hs2⟩ : ∃ s, y + z = s := ⟨_, rfl⟩
  have Fs2 := Lib.hid (show FitZ s2 by rw [← hs2]; exact (hy.add hz).fit (by decide))
  have Es2 := Lib.hid hs2
  obtain ⟨u, hu⟩ : ∃ s, x * z = s := ⟨_, rfl⟩
  have Fu := Lib.hid (show FitZ u by rw [← hu]; exact (hx.mul hz).fit (by decide))
  have Eu := Lib.hid hu
  obtain ⟨v, hv⟩ : ∃ s, y * z = s := ⟨_, rfl⟩
  have Fv := Lib.hid (show FitZ v by rw [← hv]; exact (hy.mul hz).fit (by decide))
  have Ev := Lib.hid hv
  have K1 := Lib.hid (show cmpZ x y = 1 from hn)
  have K2 := Lib.hid (show cmpZ y x = (-1) by rw [cmpZ_swap, hn]; first | done | rfl)
  have K3 := Lib.hid (show d.sign = 1 by rw [← hd, ← cmpZ_sign, hn])
  have K4 := Lib.hid (show cmpZ s1 s2 = 1 by rw [← hs1, ← hs2, cmpZ_add, hn])
  have K5 := Lib.hid (show cmpZ u v = 1 by rw [← hu, ← hv, cmpZ_mul, hn, hw]; rfl)
  have K6 := Lib.hid hw
  have hne := sz_neq (show x ≠ y by rintro rfl; rw [cmpZ_eq] at hn; exact absurd hn (by decide))
  have W0 : IntKind.i64.wrap (0 + 0) = 0 := by decide
  have W1 : IntKind.i64.wrap (-(-1)) = 1 := by decide
  have W2 : IntKind.i64.wrap (1 * 1) = 1 := by decide
  have SA := Lib.hid sa
  have SB := Lib.hid sb
  have SC := Lib.hid sc
  clear hx hy hz hd hs1 hs2 hu hv hw sa sc hn sb
  go_enter Tryz.func10, Tryz.ntmps10
  go_wp2_with fail
  refine (iawake _ HT.out).mono ?_
  rintro e w1 ⟨rfl, hb1⟩
  have HB1 := Lib.hid (hb1.alloc hb1.size (.cells #[.string (Sz x), .string (Sz y), .string (Sz z)] 9))
  have hc := strs_cells3 w1 (Sz x) (Sz y) (Sz z)
  have HLo := Lib.hid (long3_no w1.heap.size (Sz x) (Sz y) (Sz z) _ SA.out SB.out SC.out hc)
  clear hb1 hc
  go_wp2_with fail
  refine HLo.out.mono ?_
  rintro e w' ⟨rfl, rfl⟩
  go_wp2_with fail
  refine (zValid_yes x FX.out _ (HT.out.on HB1.out).zz).mono ?_
  rintro e w2 ⟨rfl, hb⟩
  have HB2 := Lib.hid (HB1.out.trans (hb.mono HB1.out.size))
  clear hb
  go_wp2_with fail
  refine (zValid_yes y FY.out _ (HT.out.on HB2.out).zz).mono ?_
  rintro e w3 ⟨rfl, hb⟩
  have HB3 := Lib.hid (HB2.out.trans (hb.mono HB2.out.size))
  clear hb
  go_wp2_with fail
  refine (zValid_yes z FZ.out _ (HT.out.on HB3.out).zz).mono ?_
  rintro e w4 ⟨rfl, hb⟩
  have HB4 := Lib.hid (HB3.out.trans (hb.mono HB3.out.size))
  clear hb
  go_wp2_with fail
  refine (zCompare x y 1 K1.out FX.out FY.out _ (HT.out.on HB4.out)).mono ?_
  rintro e w5 ⟨rfl, hb⟩
  have HB5 := Lib.hid (HB4.out.trans (hb.mono HB4.out.size))
  clear hb
  go_wp2_with fail
  refine (zCompare y x (-1) K2.out FY.out FX.out _ (HT.out.on HB5.out)).mono ?_
  rintro e w6 ⟨rfl, hb⟩
  have HB6 := Lib.hid (HB5.out.trans (hb.mono HB5.out.size))
  clear hb
  go_wp2_with fail
  refine (zSub x y d Ed.out FX.out FY.out Fd.out _ (HT.out.on HB6.out)).mono ?_
  rintro e w7 ⟨rfl, hb⟩
  have HB7 := Lib.hid (HB6.out.trans (hb.mono HB6.out.size))
  clear hb
  go_wp2_with fail
  refine (zSignV d 1 K3.out Fd.out _ (HT.out.on HB7.out)).mono ?_
  rintro e w8 ⟨rfl, hb⟩
  have HB8 := Lib.hid (HB7.out.trans (hb.mono HB7.out.size))
  clear hb
  go_wp2_with fail
  refine (zAdd x z s1 Es1.out FX.out FZ.out Fs1.out _ (HT.out.on HB8.out)).mono ?_
  rintro e w9 ⟨rfl, hb⟩
  have HB9 := Lib.hid (HB8.out.trans (hb.mono HB8.out.size))
  clear hb
  go_wp2_with fail
  refine (zAdd y z s2 Es2.out FY.out FZ.out Fs2.out _ (HT.out.on HB9.out)).mono ?_
  rintro e w10 ⟨rfl, hb⟩
  have HB10 := Lib.hid (HB9.out.trans (hb.mono HB9.out.size))
  clear hb
  go_wp2_with fail
  refine (zCompare s1 s2 1 K4.out Fs1.out Fs2.out _ (HT.out.on HB10.out)).mono ?_
  rintro e w11 ⟨rfl, hb⟩
  have HB11 := Lib.hid (HB10.out.trans (hb.mono HB10.out.size))
  clear hb
  go_wp2_with fail
  refine (zMul x z u Eu.out FX.out FZ.out Fu.out _ (HT.out.on HB11.out)).mono ?_
  rintro e w12 ⟨rfl, hb⟩
  have HB12 := Lib.hid (HB11.out.trans (hb.mono HB11.out.size))
  clear hb
  go_wp2_with fail
  refine (zMul y z v Ev.out FY.out FZ.out Fv.out _ (HT.out.on HB12.out)).mono ?_
  rintro e w13 ⟨rfl, hb⟩
  have HB13 := Lib.hid (HB12.out.trans (hb.mono HB12.out.size))
  clear hb
  go_wp2_with fail
  refine (zCompare u v 1 K5.out Fu.out Fv.out _ (HT.out.on HB13.out)).mono ?_
  rintro e w14 ⟨rfl, hb⟩
  have HB14 := Lib.hid (HB13.out.trans (hb.mono HB13.out.size))
  clear hb
  go_wp2_with fail
  refine (zSignV z 1 K6.out FZ.out _ (HT.out.on HB14.out)).mono ?_
  rintro e w15 ⟨rfl, hb⟩
  have HB15 := Lib.hid (HB14.out.trans (hb.mono HB14.out.size))
  clear hb
  go_wp2
  go_ret
  exact ⟨rfl, HB15.out⟩

theorem sign_cases (z : Int) : z.sign = -1 ∨ z.sign = 0 ∨ z.sign = 1 := by
  rcases Int.lt_trichotomy z 0 with h | h | h
  · exact Or.inl (Int.sign_eq_neg_one_of_neg h)
  · subst h; exact Or.inr (Or.inl rfl)
  · exact Or.inr (Or.inr (Int.sign_eq_one_of_pos h))
theorem iorder_yes (x y z : Int) (sa : (Sz x).size ≤ 120) (sb : (Sz y).size ≤ 120) (sc : (Sz z).size ≤ 120) (w : World) (hl : La w) :
    Calls Tryz.prog 10 #[.string (Sz x), .string (Sz y), .string (Sz z)] w fun e w' => e = .returned (.bool true) ∧ Below w.heap.size w w' := by
  rcases Int.lt_trichotomy x y with h | h | h
  · have hn := cmpZ_lt h
    rcases sign_cases z with hw | hw | hw
    · exact iorder_mm x y z sa sb sc hn hw w hl
    · exact iorder_mz x y z sa sb sc hn hw w hl
    · exact iorder_mp x y z sa sb sc hn hw w hl
  · subst h
    rcases sign_cases z with hw | hw | hw
    · exact iorder_zm x z sa sc hw w hl
    · exact iorder_zz x z sa sc hw w hl
    · exact iorder_zp x z sa sc hw w hl
  · have hn := cmpZ_gt h
    rcases sign_cases z with hw | hw | hw
    · exact iorder_pm x y z sa sb sc hn hw w hl
    · exact iorder_pz x y z sa sb sc hn hw w hl
    · exact iorder_pp x y z sa sb sc hn hw w hl

theorem iorder_any (a b c : ByteArray) (w : World) (hl : La w) :
    Calls Tryz.prog 10 #[.string a, .string b, .string c] w fun e w' => e = .returned (.bool true) ∧ Below w.heap.size w w' := by
  by_cases hlo : 120 < a.size ∨ 120 < b.size ∨ 120 < c.size
  · exact iorder_long a b c hlo w hl
  · have ha : a.size ≤ 120 := by omega
    have hb : b.size ≤ 120 := by omega
    have hc : c.size ≤ 120 := by omega
    clear hlo
    cases va : vldZ a.data.toList with
    | false => exact iorder_no0 a b c ha hb hc va w hl
    | true =>
      have ea := sz_of va
      generalize zval a.data.toList = x at ea
      subst ea
      cases vb : vldZ b.data.toList with
      | false => exact iorder_no1 x b c ha hb hc vb w hl
      | true =>
        have eb := sz_of vb
        generalize zval b.data.toList = y at eb
        subst eb
        cases vc : vldZ c.data.toList with
        | false => exact iorder_no2 x y c ha hb hc vc w hl
        | true =>
          have ec := sz_of vc
          generalize zval c.data.toList = z at ec
          subst ec
          exact iorder_yes x y z ha hb hc w hl

end Go.Proofs.YtpdchplppkfdhaaGreatDoor
