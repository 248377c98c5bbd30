/- garboardlaw03.RationalOrder returns true: walks. -/
import Derived.Test.YtlagimghlngdgaaGreatDoorMqn
namespace Go.Proofs.YtlagimghlngdgaaGreatDoor
open Go.RowKit Go.Gb

theorem cmpQ_add (x y z : Rat) : cmpQ (x + z) (y + z) = cmpQ x y := by
  rcases cmpQ_cases x y with ⟨h, e⟩ | ⟨h, e⟩ | ⟨h, e⟩ <;> rw [e]
  · exact cmpQ_lt (by grind)
  · rw [h]; exact cmpQ_eq _
  · exact cmpQ_gt (by grind)
theorem cmpQ_sub (x y : Rat) : cmpQ (x - y) 0 = cmpQ x y := by
  rcases cmpQ_cases x y with ⟨h, e⟩ | ⟨h, e⟩ | ⟨h, e⟩ <;> rw [e]
  · exact cmpQ_lt (by grind)
  · rw [h, show y - y = 0 by grind]; exact cmpQ_eq _
  · exact cmpQ_gt (by grind)
theorem mul_lt_pos {x y z : Rat} (h : x < y) (hz : 0 < z) : x * z < y * z := by
  have h1 : 0 < (y - x) * z := Rat.mul_pos (by grind) hz
  grind
theorem mul_lt_neg {x y z : Rat} (h : x < y) (hz : z < 0) : y * z < x * z := by
  have h1 : 0 < (y - x) * (-z) := Rat.mul_pos (by grind) (by grind)
  grind
theorem cmpQ_mul (x y z : Rat) : cmpQ (x * z) (y * z) = cmpQ x y * cmpQ z 0 := by
  rcases cmpQ_cases z 0 with ⟨hz, ez⟩ | ⟨hz, ez⟩ | ⟨hz, ez⟩ <;> rw [ez]
  · rcases cmpQ_cases x y with ⟨h, e⟩ | ⟨h, e⟩ | ⟨h, e⟩ <;> rw [e]
    · exact cmpQ_gt (mul_lt_neg h hz)
    · rw [h]; exact cmpQ_eq _
    · exact cmpQ_lt (mul_lt_neg h hz)
  · rw [hz, Int.mul_zero, Rat.mul_zero, Rat.mul_zero]; exact cmpQ_eq _
  · rcases cmpQ_cases x y with ⟨h, e⟩ | ⟨h, e⟩ | ⟨h, e⟩ <;> rw [e]
    · exact cmpQ_lt (mul_lt_pos h hz)
    · rw [h]; exact cmpQ_eq _
    · exact cmpQ_gt (mul_lt_pos h hz)
theorem fq0 : FitQ 0 := fitq_small (by decide +kernel) (by decide +kernel)
theorem qCompare0 (x : Rat) (c : Int) (hc : cmpQ x 0 = c) (hx : FitQ x) (w : World) (hl : La w) :
    Calls Tryz.prog 21 #[.string (Sq x), .string ⟨#[48]⟩] w fun e w' => e = .returned (.tuple #[.int .i64 c, .int .i64 0]) ∧ Below w.heap.size w w' := by
  have h := qCompare x 0 c hc hx fq0 w hl
  rwa [q_0] at h

set_option maxHeartbeats 8000000 in
set_option maxRecDepth 100000 in
theorem qorder_long (a b c : ByteArray) (hab : 60 < a.size ∨ 60 < b.size ∨ 60 < c.size) (w : World) (hl : La w) :
    Calls Tryz.prog 4 #[.string a, .string b, .string c] w fun e w' => e = .returned (.bool true) ∧ Below w.heap.size w w' := by
  have HT := Lib.hid hl
  clear hl
  have HL := Lib.hid hab
  clear hab
  go_enter Tryz.func4, Tryz.ntmps4
  go_wp2_with fail
  refine (qawake _ HT.out).mono ?_
  rintro e w1 ⟨rfl, hb1⟩
  have HB1 := Lib.hid (hb1.alloc hb1.size (.cells #[.string a, .string b, .string c] 22))
  have hc := strs_cells3 w1 a b c
  have HLo := Lib.hid (long3_yes w1.heap.size a b c _ HL.out hc)
  clear hb1 hc
  go_wp2_with fail
  refine HLo.out.mono ?_
  rintro e w' ⟨rfl, rfl⟩
  go_wp2_with fail
  refine (qawake _ (HT.out.on HB1.out)).mono ?_
  rintro e w2 ⟨rfl, hb⟩
  have HB2 := Lib.hid (HB1.out.trans (hb.mono HB1.out.size))
  clear hb
  go_wp2
  go_ret
  exact ⟨rfl, HB2.out⟩

set_option maxHeartbeats 8000000 in
set_option maxRecDepth 100000 in
theorem qorder_no0 (a b c : ByteArray)  (ha : a.size ≤ 60) (hb : b.size ≤ 60) (hc : c.size ≤ 60) (hv : vldQ a.data.toList = false) (w : World) (hl : La w) :
    Calls Tryz.prog 4 #[.string a, .string b, .string c] w fun e w' => e = .returned (.bool true) ∧ Below w.heap.size w w' := by
  have HT := Lib.hid hl
  clear hl

  have Hla := Lib.hid ha
  have Hma := Lib.hid (show a.size ≤ 900 by omega)
  have Hlb := Lib.hid hb
  have Hmb := Lib.hid (show b.size ≤ 900 by omega)
  have Hlc := Lib.hid hc
  have Hmc := Lib.hid (show c.size ≤ 900 by omega)
  clear ha hb hc
  have HV := Lib.hid hv
  clear hv
  go_enter Tryz.func4, Tryz.ntmps4
  go_wp2_with fail
  refine (qawake _ HT.out).mono ?_
  rintro e w1 ⟨rfl, hb1⟩
  have HB1 := Lib.hid (hb1.alloc hb1.size (.cells #[.string a, .string b, .string c] 22))
  have hc := strs_cells3 w1 a b c
  have HLo := Lib.hid (long3_no w1.heap.size a b c _ Hla.out Hlb.out Hlc.out hc)
  clear hb1 hc
  go_wp2_with fail
  refine HLo.out.mono ?_
  rintro e w' ⟨rfl, rfl⟩
  go_wp2_with fail
  refine (qvalid_no a HV.out Hma.out _ (HT.out.on HB1.out)).mono ?_
  rintro e w2 ⟨rfl, hb⟩
  have HB2 := Lib.hid (HB1.out.trans (hb.mono HB1.out.size))
  clear hb
  go_wp2
  go_ret
  exact ⟨rfl, HB2.out⟩

set_option maxHeartbeats 8000000 in
set_option maxRecDepth 100000 in
theorem qorder_no1 (a : Rat) (b c : ByteArray) (sa : (Sq a).size ≤ 60) (hb : b.size ≤ 60) (hc : c.size ≤ 60) (hv : vldQ b.data.toList = false) (w : World) (hl : La w) :
    Calls Tryz.prog 4 #[.string (Sq a), .string b, .string c] w fun e w' => e = .returned (.bool true) ∧ Below w.heap.size w w' := by
  have HT := Lib.hid hl
  clear hl
  have Sa := Lib.hid sa
  have Fa := Lib.hid ((smq_of sa (by decide)).fit (by decide))
  clear sa
  have Hlb := Lib.hid hb
  have Hmb := Lib.hid (show b.size ≤ 900 by omega)
  have Hlc := Lib.hid hc
  have Hmc := Lib.hid (show c.size ≤ 900 by omega)
  clear hb hc
  have HV := Lib.hid hv
  clear hv
  go_enter Tryz.func4, Tryz.ntmps4
  go_wp2_with fail
  refine (qawake _ HT.out).mono ?_
  rintro e w1 ⟨rfl, hb1⟩
  have HB1 := Lib.hid (hb1.alloc hb1.size (.cells #[.string (Sq a), .string b, .string c] 22))
  have hc := strs_cells3 w1 (Sq a) b c
  have HLo := Lib.hid (long3_no w1.heap.size (Sq a) b c _ Sa.out Hlb.out Hlc.out hc)
  clear hb1 hc
  go_wp2_with fail
  refine HLo.out.mono ?_
  rintro e w' ⟨rfl, rfl⟩
  go_wp2_with fail
  refine (qvalid_yes a Fa.out _ (HT.out.on HB1.out)).mono ?_
  rintro e w2 ⟨rfl, hb⟩
  have HB2 := Lib.hid (HB1.out.trans (hb.mono HB1.out.size))
  clear hb
  go_wp2_with fail
  refine (qvalid_no b HV.out Hmb.out _ (HT.out.on HB2.out)).mono ?_
  rintro e w3 ⟨rfl, hb⟩
  have HB3 := Lib.hid (HB2.out.trans (hb.mono HB2.out.size))
  clear hb
  go_wp2
  go_ret
  exact ⟨rfl, HB3.out⟩

set_option maxHeartbeats 8000000 in
set_option maxRecDepth 100000 in
theorem qorder_no2 (a b : Rat) (c : ByteArray) (sa : (Sq a).size ≤ 60) (sb : (Sq b).size ≤ 60) (hc : c.size ≤ 60) (hv : vldQ c.data.toList = false) (w : World) (hl : La w) :
    Calls Tryz.prog 4 #[.string (Sq a), .string (Sq b), .string c] w fun e w' => e = .returned (.bool true) ∧ Below w.heap.size w w' := by
  have HT := Lib.hid hl
  clear hl
  have Sa := Lib.hid sa
  have Fa := Lib.hid ((smq_of sa (by decide)).fit (by decide))
  clear sa
  have Sb := Lib.hid sb
  have Fb := Lib.hid ((smq_of sb (by decide)).fit (by decide))
  clear sb
  have Hlc := Lib.hid hc
  have Hmc := Lib.hid (show c.size ≤ 900 by omega)
  clear hc
  have HV := Lib.hid hv
  clear hv
  go_enter Tryz.func4, Tryz.ntmps4
  go_wp2_with fail
  refine (qawake _ HT.out).mono ?_
  rintro e w1 ⟨rfl, hb1⟩
  have HB1 := Lib.hid (hb1.alloc hb1.size (.cells #[.string (Sq a), .string (Sq b), .string c] 22))
  have hc := strs_cells3 w1 (Sq a) (Sq b) c
  have HLo := Lib.hid (long3_no w1.heap.size (Sq a) (Sq b) c _ Sa.out Sb.out Hlc.out hc)
  clear hb1 hc
  go_wp2_with fail
  refine HLo.out.mono ?_
  rintro e w' ⟨rfl, rfl⟩
  go_wp2_with fail
  refine (qvalid_yes a Fa.out _ (HT.out.on HB1.out)).mono ?_
  rintro e w2 ⟨rfl, hb⟩
  have HB2 := Lib.hid (HB1.out.trans (hb.mono HB1.out.size))
  clear hb
  go_wp2_with fail
  refine (qvalid_yes b Fb.out _ (HT.out.on HB2.out)).mono ?_
  rintro e w3 ⟨rfl, hb⟩
  have HB3 := Lib.hid (HB2.out.trans (hb.mono HB2.out.size))
  clear hb
  go_wp2_with fail
  refine (qvalid_no c HV.out Hmc.out _ (HT.out.on HB3.out)).mono ?_
  rintro e w4 ⟨rfl, hb⟩
  have HB4 := Lib.hid (HB3.out.trans (hb.mono HB3.out.size))
  clear hb
  go_wp2
  go_ret
  exact ⟨rfl, HB4.out⟩

set_option maxHeartbeats 8000000 in
set_option maxRecDepth 100000 in
theorem qorder_mm (x y z : Rat) (sa : (Sq x).size ≤ 60) (sb : (Sq y).size ≤ 60) (sc : (Sq z).size ≤ 60) (hn : cmpQ x y = (-1)) (hw : cmpQ z 0 = (-1)) (w : World) (hl : La w) :
    Calls Tryz.prog 4 #[.string (Sq x), .string (Sq y), .string (Sq z)] w fun e w' => e = .returned (.bool true) ∧ Below w.heap.size w w' := by
  have HT := Lib.hid hl
  clear hl
  have hx := smq_of sa (by decide)
  have hy := smq_of sb (by decide)
  have hz := smq_of sc (by decide)
  have FX := Lib.hid (hx.fit (by decide))
  have FY := Lib.hid (hy.fit (by decide))
  have FZ := Lib.hid (hz.fit (by decide))
  obtain ⟨d, hd⟩ : ∃ s, x - y = s := ⟨_, rfl⟩
  have Fd := Lib.hid (show FitQ d by rw [← hd]; exact (hx.sub hy).fit (by decide))
  have Ed := Lib.hid hd
  obtain ⟨s1, hs1⟩ : ∃ s, x + z = s := ⟨_, rfl⟩
  have Fs1 := Lib.hid (show FitQ s1 by rw [← hs1]; exact (hx.add hz).fit (by decide))
  have Es1 := Lib.hid hs1
  obtain ⟨s2, hs2⟩ : ∃ s, y + z = s := ⟨_, rfl⟩
  have Fs2 := Lib.hid (show FitQ s2 by rw [← hs2]; exact (hy.add hz).fit (by decide))
  have Es2 := Lib.hid hs2
  obtain ⟨u, hu⟩ : ∃ s, x * z = s := ⟨_, rfl⟩
  have Fu := Lib.hid (show FitQ u by rw [← hu]; exact (hx.mul hz).fit (by decide))
  have Eu := Lib.hid hu
  obtain ⟨v, hv⟩ : ∃ s, y * z = s := ⟨_, rfl⟩
  have Fv := Lib.hid (show FitQ v by rw [← hv]; exact (hy.mul hz).fit (by decide))
  have Ev := Lib.hid hv
  have K1 := Lib.hid (show cmpQ x y = (-1) from hn)
  have K2 := Lib.hid (show cmpQ y x = 1 by rw [cmpQ_swap, hn]; first | done | rfl)
  have K3 := Lib.hid (show cmpQ d 0 = (-1) by rw [← hd, cmpQ_sub, hn])
  have K4 := Lib.hid (show cmpQ s1 s2 = (-1) by rw [← hs1, ← hs2, cmpQ_add, hn])
  have K5 := Lib.hid (show cmpQ u v = 1 by rw [← hu, ← hv, cmpQ_mul, hn, hw]; rfl)
  have K6 := Lib.hid hw
  have hne := sq_neq (show x ≠ y by rintro rfl; rw [cmpQ_eq] at hn; exact absurd hn (by decide))
  have W0 : IntKind.i64.wrap (0 + 0) = 0 := by decide
  have W1 : IntKind.i64.wrap (-1) = (-1) := by decide
  have W2 : IntKind.i64.wrap ((-1) * (-1)) = 1 := by decide
  have SA := Lib.hid sa
  have SB := Lib.hid sb
  have SC := Lib.hid sc
  clear hx hy hz hd hs1 hs2 hu hv hw sa sc hn sb
  go_enter Tryz.func4, Tryz.ntmps4
  go_wp2_with fail
  refine (qawake _ HT.out).mono ?_
  rintro e w1 ⟨rfl, hb1⟩
  have HB1 := Lib.hid (hb1.alloc hb1.size (.cells #[.string (Sq x), .string (Sq y), .string (Sq z)] 22))
  have hc := strs_cells3 w1 (Sq x) (Sq y) (Sq z)
  have HLo := Lib.hid (long3_no w1.heap.size (Sq x) (Sq y) (Sq z) _ SA.out SB.out SC.out hc)
  clear hb1 hc
  go_wp2_with fail
  refine HLo.out.mono ?_
  rintro e w' ⟨rfl, rfl⟩
  go_wp2_with fail
  refine (qvalid_yes x FX.out _ (HT.out.on HB1.out)).mono ?_
  rintro e w2 ⟨rfl, hb⟩
  have HB2 := Lib.hid (HB1.out.trans (hb.mono HB1.out.size))
  clear hb
  go_wp2_with fail
  refine (qvalid_yes y FY.out _ (HT.out.on HB2.out)).mono ?_
  rintro e w3 ⟨rfl, hb⟩
  have HB3 := Lib.hid (HB2.out.trans (hb.mono HB2.out.size))
  clear hb
  go_wp2_with fail
  refine (qvalid_yes z FZ.out _ (HT.out.on HB3.out)).mono ?_
  rintro e w4 ⟨rfl, hb⟩
  have HB4 := Lib.hid (HB3.out.trans (hb.mono HB3.out.size))
  clear hb
  go_wp2_with fail
  refine (qCompare x y (-1) K1.out FX.out FY.out _ (HT.out.on HB4.out)).mono ?_
  rintro e w5 ⟨rfl, hb⟩
  have HB5 := Lib.hid (HB4.out.trans (hb.mono HB4.out.size))
  clear hb
  go_wp2_with fail
  refine (qCompare y x 1 K2.out FY.out FX.out _ (HT.out.on HB5.out)).mono ?_
  rintro e w6 ⟨rfl, hb⟩
  have HB6 := Lib.hid (HB5.out.trans (hb.mono HB5.out.size))
  clear hb
  go_wp2_with fail
  refine (qSub x y d Ed.out FX.out FY.out _ (HT.out.on HB6.out)).mono ?_
  rintro e w7 ⟨rfl, hb⟩
  have HB7 := Lib.hid (HB6.out.trans (hb.mono HB6.out.size))
  clear hb
  go_wp2_with fail
  refine (qCompare0 d (-1) K3.out Fd.out _ (HT.out.on HB7.out)).mono ?_
  rintro e w8 ⟨rfl, hb⟩
  have HB8 := Lib.hid (HB7.out.trans (hb.mono HB7.out.size))
  clear hb
  go_wp2_with fail
  refine (qAdd x z s1 Es1.out FX.out FZ.out _ (HT.out.on HB8.out)).mono ?_
  rintro e w9 ⟨rfl, hb⟩
  have HB9 := Lib.hid (HB8.out.trans (hb.mono HB8.out.size))
  clear hb
  go_wp2_with fail
  refine (qAdd y z s2 Es2.out FY.out FZ.out _ (HT.out.on HB9.out)).mono ?_
  rintro e w10 ⟨rfl, hb⟩
  have HB10 := Lib.hid (HB9.out.trans (hb.mono HB9.out.size))
  clear hb
  go_wp2_with fail
  refine (qCompare s1 s2 (-1) K4.out Fs1.out Fs2.out _ (HT.out.on HB10.out)).mono ?_
  rintro e w11 ⟨rfl, hb⟩
  have HB11 := Lib.hid (HB10.out.trans (hb.mono HB10.out.size))
  clear hb
  go_wp2_with fail
  refine (qMul x z u Eu.out FX.out FZ.out _ (HT.out.on HB11.out)).mono ?_
  rintro e w12 ⟨rfl, hb⟩
  have HB12 := Lib.hid (HB11.out.trans (hb.mono HB11.out.size))
  clear hb
  go_wp2_with fail
  refine (qMul y z v Ev.out FY.out FZ.out _ (HT.out.on HB12.out)).mono ?_
  rintro e w13 ⟨rfl, hb⟩
  have HB13 := Lib.hid (HB12.out.trans (hb.mono HB12.out.size))
  clear hb
  go_wp2_with fail
  refine (qCompare u v 1 K5.out Fu.out Fv.out _ (HT.out.on HB13.out)).mono ?_
  rintro e w14 ⟨rfl, hb⟩
  have HB14 := Lib.hid (HB13.out.trans (hb.mono HB13.out.size))
  clear hb
  go_wp2_with fail
  refine (qCompare0 z (-1) K6.out FZ.out _ (HT.out.on HB14.out)).mono ?_
  rintro e w15 ⟨rfl, hb⟩
  have HB15 := Lib.hid (HB14.out.trans (hb.mono HB14.out.size))
  clear hb
  go_wp2
  go_ret
  exact ⟨rfl, HB15.out⟩

set_option maxHeartbeats 8000000 in
set_option maxRecDepth 100000 in
theorem qorder_mz (x y z : Rat) (sa : (Sq x).size ≤ 60) (sb : (Sq y).size ≤ 60) (sc : (Sq z).size ≤ 60) (hn : cmpQ x y = (-1)) (hw : cmpQ z 0 = 0) (w : World) (hl : La w) :
    Calls Tryz.prog 4 #[.string (Sq x), .string (Sq y), .string (Sq z)] w fun e w' => e = .returned (.bool true) ∧ Below w.heap.size w w' := by
  have HT := Lib.hid hl
  clear hl
  have hx := smq_of sa (by decide)
  have hy := smq_of sb (by decide)
  have hz := smq_of sc (by decide)
  have FX := Lib.hid (hx.fit (by decide))
  have FY := Lib.hid (hy.fit (by decide))
  have FZ := Lib.hid (hz.fit (by decide))
  obtain ⟨d, hd⟩ : ∃ s, x - y = s := ⟨_, rfl⟩
  have Fd := Lib.hid (show FitQ d by rw [← hd]; exact (hx.sub hy).fit (by decide))
  have Ed := Lib.hid hd
  obtain ⟨s1, hs1⟩ : ∃ s, x + z = s := ⟨_, rfl⟩
  have Fs1 := Lib.hid (show FitQ s1 by rw [← hs1]; exact (hx.add hz).fit (by decide))
  have Es1 := Lib.hid hs1
  obtain ⟨s2, hs2⟩ : ∃ s, y + z = s := ⟨_, rfl⟩
  have Fs2 := Lib.hid (show FitQ s2 by rw [← hs2]; exact (hy.add hz).fit (by decide))
  have Es2 := Lib.hid hs2
  obtain ⟨u, hu⟩ : ∃ s, x * z = s := ⟨_, rfl⟩
  have Fu := Lib.hid (show FitQ u by rw [← hu]; exact (hx.mul hz).fit (by decide))
  have Eu := Lib.hid hu
  obtain ⟨v, hv⟩ : ∃ s, y * z = s := ⟨_, rfl⟩
  have Fv := Lib.hid (show FitQ v by rw [← hv]; exact (hy.mul hz).fit (by decide))
  have Ev := Lib.hid hv
  have K1 := Lib.hid (show cmpQ x y = (-1) from hn)
  have K2 := Lib.hid (show cmpQ y x = 1 by rw [cmpQ_swap, hn]; first | done | rfl)
  have K3 := Lib.hid (show cmpQ d 0 = (-1) by rw [← hd, cmpQ_sub, hn])
  have K4 := Lib.hid (show cmpQ s1 s2 = (-1) by rw [← hs1, ← hs2, cmpQ_add, hn])
  have K5 := Lib.hid (show cmpQ u v = 0 by rw [← hu, ← hv, cmpQ_mul, hn, hw]; rfl)
  have K6 := Lib.hid hw
  have hne := sq_neq (show x ≠ y by rintro rfl; rw [cmpQ_eq] at hn; exact absurd hn (by decide))
  have W0 : IntKind.i64.wrap (0 + 0) = 0 := by decide
  have W1 : IntKind.i64.wrap (-1) = (-1) := by decide
  have W2 : IntKind.i64.wrap ((-1) * 0) = 0 := by decide
  have SA := Lib.hid sa
  have SB := Lib.hid sb
  have SC := Lib.hid sc
  clear hx hy hz hd hs1 hs2 hu hv hw sa sc hn sb
  go_enter Tryz.func4, Tryz.ntmps4
  go_wp2_with fail
  refine (qawake _ HT.out).mono ?_
  rintro e w1 ⟨rfl, hb1⟩
  have HB1 := Lib.hid (hb1.alloc hb1.size (.cells #[.string (Sq x), .string (Sq y), .string (Sq z)] 22))
  have hc := strs_cells3 w1 (Sq x) (Sq y) (Sq z)
  have HLo := Lib.hid (long3_no w1.heap.size (Sq x) (Sq y) (Sq z) _ SA.out SB.out SC.out hc)
  clear hb1 hc
  go_wp2_with fail
  refine HLo.out.mono ?_
  rintro e w' ⟨rfl, rfl⟩
  go_wp2_with fail
  refine (qvalid_yes x FX.out _ (HT.out.on HB1.out)).mono ?_
  rintro e w2 ⟨rfl, hb⟩
  have HB2 := Lib.hid (HB1.out.trans (hb.mono HB1.out.size))
  clear hb
  go_wp2_with fail
  refine (qvalid_yes y FY.out _ (HT.out.on HB2.out)).mono ?_
  rintro e w3 ⟨rfl, hb⟩
  have HB3 := Lib.hid (HB2.out.trans (hb.mono HB2.out.size))
  clear hb
  go_wp2_with fail
  refine (qvalid_yes z FZ.out _ (HT.out.on HB3.out)).mono ?_
  rintro e w4 ⟨rfl, hb⟩
  have HB4 := Lib.hid (HB3.out.trans (hb.mono HB3.out.size))
  clear hb
  go_wp2_with fail
  refine (qCompare x y (-1) K1.out FX.out FY.out _ (HT.out.on HB4.out)).mono ?_
  rintro e w5 ⟨rfl, hb⟩
  have HB5 := Lib.hid (HB4.out.trans (hb.mono HB4.out.size))
  clear hb
  go_wp2_with fail
  refine (qCompare y x 1 K2.out FY.out FX.out _ (HT.out.on HB5.out)).mono ?_
  rintro e w6 ⟨rfl, hb⟩
  have HB6 := Lib.hid (HB5.out.trans (hb.mono HB5.out.size))
  clear hb
  go_wp2_with fail
  refine (qSub x y d Ed.out FX.out FY.out _ (HT.out.on HB6.out)).mono ?_
  rintro e w7 ⟨rfl, hb⟩
  have HB7 := Lib.hid (HB6.out.trans (hb.mono HB6.out.size))
  clear hb
  go_wp2_with fail
  refine (qCompare0 d (-1) K3.out Fd.out _ (HT.out.on HB7.out)).mono ?_
  rintro e w8 ⟨rfl, hb⟩
  have HB8 := Lib.hid (HB7.out.trans (hb.mono HB7.out.size))
  clear hb
  go_wp2_with fail
  refine (qAdd x z s1 Es1.out FX.out FZ.out _ (HT.out.on HB8.out)).mono ?_
  rintro e w9 ⟨rfl, hb⟩
  have HB9 := Lib.hid (HB8.out.trans (hb.mono HB8.out.size))
  clear hb
  go_wp2_with fail
  refine (qAdd y z s2 Es2.out FY.out FZ.out _ (HT.out.on HB9.out)).mono ?_
  rintro e w10 ⟨rfl, hb⟩
  have HB10 := Lib.hid (HB9.out.trans (hb.mono HB9.out.size))
  clear hb
  go_wp2_with fail
  refine (qCompare s1 s2 (-1) K4.out Fs1.out Fs2.out _ (HT.out.on HB10.out)).mono ?_
  rintro e w11 ⟨rfl, hb⟩
  have HB11 := Lib.hid (HB10.out.trans (hb.mono HB10.out.size))
  clear hb
  go_wp2_with fail
  refine (qMul x z u Eu.out FX.out FZ.out _ (HT.out.on HB11.out)).mono ?_
  rintro e w12 ⟨rfl, hb⟩
  have HB12 := Lib.hid (HB11.out.trans (hb.mono HB11.out.size))
  clear hb
  go_wp2_with fail
  refine (qMul y z v Ev.out FY.out FZ.out _ (HT.out.on HB12.out)).mono ?_
  rintro e w13 ⟨rfl, hb⟩
  have HB13 := Lib.hid (HB12.out.trans (hb.mono HB12.out.size))
  clear hb
  go_wp2_with fail
  refine (qCompare u v 0 K5.out Fu.out Fv.out _ (HT.out.on HB13.out)).mono ?_
  rintro e w14 ⟨rfl, hb⟩
  have HB14 := Lib.hid (HB13.out.trans (hb.mono HB13.out.size))
  clear hb
  go_wp2_with fail
  refine (qCompare0 z 0 K6.out FZ.out _ (HT.out.on HB14.out)).mono ?_
  rintro e w15 ⟨rfl, hb⟩
  have HB15 := Lib.hid (HB14.out.trans (hb.mono HB14.out.size))
  clear hb
  go_wp2
  go_ret
  exact ⟨rfl, HB15.out⟩

set_option maxHeartbeats 8000000 in
set_option maxRecDepth 100000 in
theorem qorder_mp (x y z : Rat) (sa : (Sq x).size ≤ 60) (sb : (Sq y).size ≤ 60) (sc : (Sq z).size ≤ 60) (hn : cmpQ x y = (-1)) (hw : cmpQ z 0 = 1) (w : World) (hl : La w) :
    Calls Tryz.prog 4 #[.string (Sq x), .string (Sq y), .string (Sq z)] w fun e w' => e = .returned (.bool true) ∧ Below w.heap.size w w' := by
  have HT := Lib.hid hl
  clear hl
  have hx := smq_of sa (by decide)
  have hy := smq_of sb (by decide)
  have hz := smq_of sc (by decide)
  have FX := Lib.hid (hx.fit (by decide))
  have FY := Lib.hid (hy.fit (by decide))
  have FZ := Lib.hid (hz.fit (by decide))
  obtain ⟨d, hd⟩ : ∃ s, x - y = s := ⟨_, rfl⟩
  have Fd := Lib.hid (show FitQ d by rw [← hd]; exact (hx.sub hy).fit (by decide))
  have Ed := Lib.hid hd
  obtain ⟨s1, hs1⟩ : ∃ s, x + z = s := ⟨_, rfl⟩
  have Fs1 := Lib.hid (show FitQ s1 by rw [← hs1]; exact (hx.add hz).fit (by decide))
  have Es1 := Lib.hid hs1
  obtain ⟨s2, hs2⟩ : ∃ s, y + z = s := ⟨_, rfl⟩
  have Fs2 := Lib.hid (show FitQ s2 by rw [← hs2]; exact (hy.add hz).fit (by decide))
  have Es2 := Lib.hid hs2
  obtain ⟨u, hu⟩ : ∃ s, x * z = s := ⟨_, rfl⟩
  have Fu := Lib.hid (show FitQ u by rw [← hu]; exact (hx.mul hz).fit (by decide))
  have Eu := Lib.hid hu
  obtain ⟨v, hv⟩ : ∃ s, y * z = s := ⟨_, rfl⟩
  have Fv := Lib.hid (show FitQ v by rw [← hv]; exact (hy.mul hz).fit (by decide))
  have Ev := Lib.hid hv
  have K1 := Lib.hid (show cmpQ x y = (-1) from hn)
  have K2 := Lib.hid (show cmpQ y x = 1 by rw [cmpQ_swap, hn]; first | done | rfl)
  have K3 := Lib.hid (show cmpQ d 0 = (-1) by rw [← hd, cmpQ_sub, hn])
  have K4 := Lib.hid (show cmpQ s1 s2 = (-1) by rw [← hs1, ← hs2, cmpQ_add, hn])
  have K5 := Lib.hid (show cmpQ u v = (-1) by rw [← hu, ← hv, cmpQ_mul, hn, hw]; rfl)
  have K6 := Lib.hid hw
  have hne := sq_neq (show x ≠ y by rintro rfl; rw [cmpQ_eq] at hn; exact absurd hn (by decide))
  have W0 : IntKind.i64.wrap (0 + 0) = 0 := by decide
  have W1 : IntKind.i64.wrap (-1) = (-1) := by decide
  have W2 : IntKind.i64.wrap ((-1) * 1) = (-1) := by decide
  have SA := Lib.hid sa
  have SB := Lib.hid sb
  have SC := Lib.hid sc
  clear hx hy hz hd hs1 hs2 hu hv hw sa sc hn sb
  go_enter Tryz.func4, Tryz.ntmps4
  go_wp2_with fail
  refine (qawake _ HT.out).mono ?_
  rintro e w1 ⟨rfl, hb1⟩
  have HB1 := Lib.hid (hb1.alloc hb1.size (.cells #[.string (Sq x), .string (Sq y), .string (Sq z)] 22))
  have hc := strs_cells3 w1 (Sq x) (Sq y) (Sq z)
  have HLo := Lib.hid (long3_no w1.heap.size (Sq x) (Sq y) (Sq z) _ SA.out SB.out SC.out hc)
  clear hb1 hc
  go_wp2_with fail
  refine HLo.out.mono ?_
  rintro e w' ⟨rfl, rfl⟩
  go_wp2_with fail
  refine (qvalid_yes x FX.out _ (HT.out.on HB1.out)).mono ?_
  rintro e w2 ⟨rfl, hb⟩
  have HB2 := Lib.hid (HB1.out.trans (hb.mono HB1.out.size))
  clear hb
  go_wp2_with fail
  refine (qvalid_yes y FY.out _ (HT.out.on HB2.out)).mono ?_
  rintro e w3 ⟨rfl, hb⟩
  have HB3 := Lib.hid (HB2.out.trans (hb.mono HB2.out.size))
  clear hb
  go_wp2_with fail
  refine (qvalid_yes z FZ.out _ (HT.out.on HB3.out)).mono ?_
  rintro e w4 ⟨rfl, hb⟩
  have HB4 := Lib.hid (HB3.out.trans (hb.mono HB3.out.size))
  clear hb
  go_wp2_with fail
  refine (qCompare x y (-1) K1.out FX.out FY.out _ (HT.out.on HB4.out)).mono ?_
  rintro e w5 ⟨rfl, hb⟩
  have HB5 := Lib.hid (HB4.out.trans (hb.mono HB4.out.size))
  clear hb
  go_wp2_with fail
  refine (qCompare y x 1 K2.out FY.out FX.out _ (HT.out.on HB5.out)).mono ?_
  rintro e w6 ⟨rfl, hb⟩
  have HB6 := Lib.hid (HB5.out.trans (hb.mono HB5.out.size))
  clear hb
  go_wp2_with fail
  refine (qSub x y d Ed.out FX.out FY.out _ (HT.out.on HB6.out)).mono ?_
  rintro e w7 ⟨rfl, hb⟩
  have HB7 := Lib.hid (HB6.out.trans (hb.mono HB6.out.size))
  clear hb
  go_wp2_with fail
  refine (qCompare0 d (-1) K3.out Fd.out _ (HT.out.on HB7.out)).mono ?_
  rintro e w8 ⟨rfl, hb⟩
  have HB8 := Lib.hid (HB7.out.trans (hb.mono HB7.out.size))
  clear hb
  go_wp2_with fail
  refine (qAdd x z s1 Es1.out FX.out FZ.out _ (HT.out.on HB8.out)).mono ?_
  rintro e w9 ⟨rfl, hb⟩
  have HB9 := Lib.hid (HB8.out.trans (hb.mono HB8.out.size))
  clear hb
  go_wp2_with fail
  refine (qAdd y z s2 Es2.out FY.out FZ.out _ (HT.out.on HB9.out)).mono ?_
  rintro e w10 ⟨rfl, hb⟩
  have HB10 := Lib.hid (HB9.out.trans (hb.mono HB9.out.size))
  clear hb
  go_wp2_with fail
  refine (qCompare s1 s2 (-1) K4.out Fs1.out Fs2.out _ (HT.out.on HB10.out)).mono ?_
  rintro e w11 ⟨rfl, hb⟩
  have HB11 := Lib.hid (HB10.out.trans (hb.mono HB10.out.size))
  clear hb
  go_wp2_with fail
  refine (qMul x z u Eu.out FX.out FZ.out _ (HT.out.on HB11.out)).mono ?_
  rintro e w12 ⟨rfl, hb⟩
  have HB12 := Lib.hid (HB11.out.trans (hb.mono HB11.out.size))
  clear hb
  go_wp2_with fail
  refine (qMul y z v Ev.out FY.out FZ.out _ (HT.out.on HB12.out)).mono ?_
  rintro e w13 ⟨rfl, hb⟩
  have HB13 := Lib.hid (HB12.out.trans (hb.mono HB12.out.size))
  clear hb
  go_wp2_with fail
  refine (qCompare u v (-1) K5.out Fu.out Fv.out _ (HT.out.on HB13.out)).mono ?_
  rintro e w14 ⟨rfl, hb⟩
  have HB14 := Lib.hid (HB13.out.trans (hb.mono HB13.out.size))
  clear hb
  go_wp2_with fail
  refine (qCompare0 z 1 K6.out FZ.out _ (HT.out.on HB14.out)).mono ?_
  rintro e w15 ⟨rfl, hb⟩
  have HB15 := Lib.hid (HB14.out.trans (hb.mono HB14.out.size))
  clear hb
  go_wp2
  go_ret
  exact ⟨rfl, HB15.out⟩

set_option maxHeartbeats 8000000 in
set_option maxRecDepth 100000 in
theorem qorder_zm (x z : Rat) (sa : (Sq x).size ≤ 60) (sc : (Sq z).size ≤ 60) (hw : cmpQ z 0 = (-1)) (w : World) (hl : La w) :
    Calls Tryz.prog 4 #[.string (Sq x), .string (Sq x), .string (Sq z)] w fun e w' => e = .returned (.bool true) ∧ Below w.heap.size w w' := by
  have HT := Lib.hid hl
  clear hl
  have hx := smq_of sa (by decide)
  have hy := hx
  have hz := smq_of sc (by decide)
  have FX := Lib.hid (hx.fit (by decide))
  have FY := Lib.hid (hy.fit (by decide))
  have FZ := Lib.hid (hz.fit (by decide))
  obtain ⟨d, hd⟩ : ∃ s, x - x = s := ⟨_, rfl⟩
  have Fd := Lib.hid (show FitQ d by rw [← hd]; exact (hx.sub hy).fit (by decide))
  have Ed := Lib.hid hd
  obtain ⟨s1, hs1⟩ : ∃ s, x + z = s := ⟨_, rfl⟩
  have Fs1 := Lib.hid (show FitQ s1 by rw [← hs1]; exact (hx.add hz).fit (by decide))
  have Es1 := Lib.hid hs1
  obtain ⟨s2, hs2⟩ : ∃ s, x + z = s := ⟨_, rfl⟩
  have Fs2 := Lib.hid (show FitQ s2 by rw [← hs2]; exact (hy.add hz).fit (by decide))
  have Es2 := Lib.hid hs2
  obtain ⟨u, hu⟩ : ∃ s, x * z = s := ⟨_, rfl⟩
  have Fu := Lib.hid (show FitQ u by rw [← hu]; exact (hx.mul hz).fit (by decide))
  have Eu := Lib.hid hu
  obtain ⟨v, hv⟩ : ∃ s, x * z = s := ⟨_, rfl⟩
  have Fv := Lib.hid (show FitQ v by rw [← hv]; exact (hy.mul hz).fit (by decide))
  have Ev := Lib.hid hv
  have K1 := Lib.hid (show cmpQ x x = 0 from (cmpQ_eq x))
  have K2 := Lib.hid (show cmpQ x x = 0 by rw [cmpQ_swap, cmpQ_eq]; first | done | rfl)
  have K3 := Lib.hid (show cmpQ d 0 = 0 by rw [← hd, cmpQ_sub, cmpQ_eq])
  have K4 := Lib.hid (show cmpQ s1 s2 = 0 by rw [← hs1, ← hs2, cmpQ_add, cmpQ_eq])
  have K5 := Lib.hid (show cmpQ u v = 0 by rw [← hu, ← hv, cmpQ_mul, cmpQ_eq, hw]; rfl)
  have K6 := Lib.hid hw
  have W0 : IntKind.i64.wrap (0 + 0) = 0 := by decide
  have W1 : IntKind.i64.wrap (-0) = 0 := by decide
  have W2 : IntKind.i64.wrap (0 * (-1)) = 0 := by decide
  have SA := Lib.hid sa
  have SB := SA
  have SC := Lib.hid sc
  clear hx hy hz hd hs1 hs2 hu hv hw sa sc
  go_enter Tryz.func4, Tryz.ntmps4
  go_wp2_with fail
  refine (qawake _ HT.out).mono ?_
  rintro e w1 ⟨rfl, hb1⟩
  have HB1 := Lib.hid (hb1.alloc hb1.size (.cells #[.string (Sq x), .string (Sq x), .string (Sq z)] 22))
  have hc := strs_cells3 w1 (Sq x) (Sq x) (Sq z)
  have HLo := Lib.hid (long3_no w1.heap.size (Sq x) (Sq x) (Sq z) _ SA.out SB.out SC.out hc)
  clear hb1 hc
  go_wp2_with fail
  refine HLo.out.mono ?_
  rintro e w' ⟨rfl, rfl⟩
  go_wp2_with fail
  refine (qvalid_yes x FX.out _ (HT.out.on HB1.out)).mono ?_
  rintro e w2 ⟨rfl, hb⟩
  have HB2 := Lib.hid (HB1.out.trans (hb.mono HB1.out.size))
  clear hb
  go_wp2_with fail
  refine (qvalid_yes x FY.out _ (HT.out.on HB2.out)).mono ?_
  rintro e w3 ⟨rfl, hb⟩
  have HB3 := Lib.hid (HB2.out.trans (hb.mono HB2.out.size))
  clear hb
  go_wp2_with fail
  refine (qvalid_yes z FZ.out _ (HT.out.on HB3.out)).mono ?_
  rintro e w4 ⟨rfl, hb⟩
  have HB4 := Lib.hid (HB3.out.trans (hb.mono HB3.out.size))
  clear hb
  go_wp2_with fail
  refine (qCompare x x 0 K1.out FX.out FY.out _ (HT.out.on HB4.out)).mono ?_
  rintro e w5 ⟨rfl, hb⟩
  have HB5 := Lib.hid (HB4.out.trans (hb.mono HB4.out.size))
  clear hb
  go_wp2_with fail
  refine (qCompare x x 0 K2.out FY.out FX.out _ (HT.out.on HB5.out)).mono ?_
  rintro e w6 ⟨rfl, hb⟩
  have HB6 := Lib.hid (HB5.out.trans (hb.mono HB5.out.size))
  clear hb
  go_wp2_with fail
  refine (qSub x x d Ed.out FX.out FY.out _ (HT.out.on HB6.out)).mono ?_
  rintro e w7 ⟨rfl, hb⟩
  have HB7 := Lib.hid (HB6.out.trans (hb.mono HB6.out.size))
  clear hb
  go_wp2_with fail
  refine (qCompare0 d 0 K3.out Fd.out _ (HT.out.on HB7.out)).mono ?_
  rintro e w8 ⟨rfl, hb⟩
  have HB8 := Lib.hid (HB7.out.trans (hb.mono HB7.out.size))
  clear hb
  go_wp2_with fail
  refine (qAdd x z s1 Es1.out FX.out FZ.out _ (HT.out.on HB8.out)).mono ?_
  rintro e w9 ⟨rfl, hb⟩
  have HB9 := Lib.hid (HB8.out.trans (hb.mono HB8.out.size))
  clear hb
  go_wp2_with fail
  refine (qAdd x z s2 Es2.out FY.out FZ.out _ (HT.out.on HB9.out)).mono ?_
  rintro e w10 ⟨rfl, hb⟩
  have HB10 := Lib.hid (HB9.out.trans (hb.mono HB9.out.size))
  clear hb
  go_wp2_with fail
  refine (qCompare s1 s2 0 K4.out Fs1.out Fs2.out _ (HT.out.on HB10.out)).mono ?_
  rintro e w11 ⟨rfl, hb⟩
  have HB11 := Lib.hid (HB10.out.trans (hb.mono HB10.out.size))
  clear hb
  go_wp2_with fail
  refine (qMul x z u Eu.out FX.out FZ.out _ (HT.out.on HB11.out)).mono ?_
  rintro e w12 ⟨rfl, hb⟩
  have HB12 := Lib.hid (HB11.out.trans (hb.mono HB11.out.size))
  clear hb
  go_wp2_with fail
  refine (qMul x z v Ev.out FY.out FZ.out _ (HT.out.on HB12.out)).mono ?_
  rintro e w13 ⟨rfl, hb⟩
  have HB13 := Lib.hid (HB12.out.trans (hb.mono HB12.out.size))
  clear hb
  go_wp2_with fail
  refine (qCompare u v 0 K5.out Fu.out Fv.out _ (HT.out.on HB13.out)).mono ?_
  rintro e w14 ⟨rfl, hb⟩
  have HB14 := Lib.hid (HB13.out.trans (hb.mono HB13.out.size))
  clear hb
  go_wp2_with fail
  refine (qCompare0 z (-1) K6.out FZ.out _ (HT.out.on HB14.out)).mono ?_
  rintro e w15 ⟨rfl, hb⟩
  have HB15 := Lib.hid (HB14.out.trans (hb.mono HB14.out.size))
  clear hb
  go_wp2
  go_ret
  exact ⟨rfl, HB15.out⟩

set_option maxHeartbeats 8000000 in
set_option maxRecDepth 100000 in
theorem qorder_zz (x z : Rat) (sa : (Sq x).size ≤ 60) (sc : (Sq z).size ≤ 60) (hw : cmpQ z 0 = 0) (w : World) (hl : La w) :
    Calls Tryz.prog 4 #[.string (Sq x), .string (Sq x), .string (Sq z)] w fun e w' => e = .returned (.bool true) ∧ Below w.heap.size w w' := by
  have HT := Lib.hid hl
  clear hl
  have hx := smq_of sa (by decide)
  have hy := hx
  have hz := smq_of sc (by decide)
  have FX := Lib.hid (hx.fit (by decide))
  have FY := Lib.hid (hy.fit (by decide))
  have FZ := Lib.hid (hz.fit (by decide))
  obtain ⟨d, hd⟩ : ∃ s, x - x = s := ⟨_, rfl⟩
  have Fd := Lib.hid (show FitQ d by rw [← hd]; exact (hx.sub hy).fit (by decide))
  have Ed := Lib.hid hd
  obtain ⟨s1, hs1⟩ : ∃ s, x + z = s := ⟨_, rfl⟩
  have Fs1 := Lib.hid (show FitQ s1 by rw [← hs1]; exact (hx.add hz).fit (by decide))
  have Es1 := Lib.hid hs1
  obtain ⟨s2, hs2⟩ : ∃ s, x + z = s := ⟨_, rfl⟩
  have Fs2 := Lib.hid (show FitQ s2 by rw [← hs2]; exact (hy.add hz).fit (by decide))
  have Es2 := Lib.hid hs2
  obtain ⟨u, hu⟩ : ∃ s, x * z = s := ⟨_, rfl⟩
  have Fu := Lib.hid (show FitQ u by rw [← hu]; exact (hx.mul hz).fit (by decide))
  have Eu := Lib.hid hu
  obtain ⟨v, hv⟩ : ∃ s, x * z = s := ⟨_, rfl⟩
  have Fv := Lib.hid (show FitQ v by rw [← hv]; exact (hy.mul hz).fit (by decide))
  have Ev := Lib.hid hv
  have K1 := Lib.hid (show cmpQ x x = 0 from (cmpQ_eq x))
  have K2 := Lib.hid (show cmpQ x x = 0 by rw [cmpQ_swap, cmpQ_eq]; first | done | rfl)
  have K3 := Lib.hid (show cmpQ d 0 = 0 by rw [← hd, cmpQ_sub, cmpQ_eq])
  have K4 := Lib.hid (show cmpQ s1 s2 = 0 by rw [← hs1, ← hs2, cmpQ_add, cmpQ_eq])
  have K5 := Lib.hid (show cmpQ u v = 0 by rw [← hu, ← hv, cmpQ_mul, cmpQ_eq, hw]; rfl)
  have K6 := Lib.hid hw
  have W0 : IntKind.i64.wrap (0 + 0) = 0 := by decide
  have W1 : IntKind.i64.wrap (-0) = 0 := by decide
  have W2 : IntKind.i64.wrap (0 * 0) = 0 := by decide
  have SA := Lib.hid sa
  have SB := SA
  have SC := Lib.hid sc
  clear hx hy hz hd hs1 hs2 hu hv hw sa sc
  go_enter Tryz.func4, Tryz.ntmps4
  go_wp2_with fail
  refine (qawake _ HT.out).mono ?_
  rintro e w1 ⟨rfl, hb1⟩
  have HB1 := Lib.hid (hb1.alloc hb1.size (.cells #[.string (Sq x), .string (Sq x), .string (Sq z)] 22))
  have hc := strs_cells3 w1 (Sq x) (Sq x) (Sq z)
  have HLo := Lib.hid (long3_no w1.heap.size (Sq x) (Sq x) (Sq z) _ SA.out SB.out SC.out hc)
  clear hb1 hc
  go_wp2_with fail
  refine HLo.out.mono ?_
  rintro e w' ⟨rfl, rfl⟩
  go_wp2_with fail
  refine (qvalid_yes x FX.out _ (HT.out.on HB1.out)).mono ?_
  rintro e w2 ⟨rfl, hb⟩
  have HB2 := Lib.hid (HB1.out.trans (hb.mono HB1.out.size))
  clear hb
  go_wp2_with fail
  refine (qvalid_yes x FY.out _ (HT.out.on HB2.out)).mono ?_
  rintro e w3 ⟨rfl, hb⟩
  have HB3 := Lib.hid (HB2.out.trans (hb.mono HB2.out.size))
  clear hb
  go_wp2_with fail
  refine (qvalid_yes z FZ.out _ (HT.out.on HB3.out)).mono ?_
  rintro e w4 ⟨rfl, hb⟩
  have HB4 := Lib.hid (HB3.out.trans (hb.mono HB3.out.size))
  clear hb
  go_wp2_with fail
  refine (qCompare x x 0 K1.out FX.out FY.out _ (HT.out.on HB4.out)).mono ?_
  rintro e w5 ⟨rfl, hb⟩
  have HB5 := Lib.hid (HB4.out.trans (hb.mono HB4.out.size))
  clear hb
  go_wp2_with fail
  refine (qCompare x x 0 K2.out FY.out FX.out _ (HT.out.on HB5.out)).mono ?_
  rintro e w6 ⟨rfl, hb⟩
  have HB6 := Lib.hid (HB5.out.trans (hb.mono HB5.out.size))
  clear hb
  go_wp2_with fail
  refine (qSub x x d Ed.out FX.out FY.out _ (HT.out.on HB6.out)).mono ?_
  rintro e w7 ⟨rfl, hb⟩
  have HB7 := Lib.hid (HB6.out.trans (hb.mono HB6.out.size))
  clear hb
  go_wp2_with fail
  refine (qCompare0 d 0 K3.out Fd.out _ (HT.out.on HB7.out)).mono ?_
  rintro e w8 ⟨rfl, hb⟩
  have HB8 := Lib.hid (HB7.out.trans (hb.mono HB7.out.size))
  clear hb
  go_wp2_with fail
  refine (qAdd x z s1 Es1.out FX.out FZ.out _ (HT.out.on HB8.out)).mono ?_
  rintro e w9 ⟨rfl, hb⟩
  have HB9 := Lib.hid (HB8.out.trans (hb.mono HB8.out.size))
  clear hb
  go_wp2_with fail
  refine (qAdd x z s2 Es2.out FY.out FZ.out _ (HT.out.on HB9.out)).mono ?_
  rintro e w10 ⟨rfl, hb⟩
  have HB10 := Lib.hid (HB9.out.trans (hb.mono HB9.out.size))
  clear hb
  go_wp2_with fail
  refine (qCompare s1 s2 0 K4.out Fs1.out Fs2.out _ (HT.out.on HB10.out)).mono ?_
  rintro e w11 ⟨rfl, hb⟩
  have HB11 := Lib.hid (HB10.out.trans (hb.mono HB10.out.size))
  clear hb
  go_wp2_with fail
  refine (qMul x z u Eu.out FX.out FZ.out _ (HT.out.on HB11.out)).mono ?_
  rintro e w12 ⟨rfl, hb⟩
  have HB12 := Lib.hid (HB11.out.trans (hb.mono HB11.out.size))
  clear hb
  go_wp2_with fail
  refine (qMul x z v Ev.out FY.out FZ.out _ (HT.out.on HB12.out)).mono ?_
  rintro e w13 ⟨rfl, hb⟩
  have HB13 := Lib.hid (HB12.out.trans (hb.mono HB12.out.size))
  clear hb
  go_wp2_with fail
  refine (qCompare u v 0 K5.out Fu.out Fv.out _ (HT.out.on HB13.out)).mono ?_
  rintro e w14 ⟨rfl, hb⟩
  have HB14 := Lib.hid (HB13.out.trans (hb.mono HB13.out.size))
  clear hb
  go_wp2_with fail
  refine (qCompare0 z 0 K6.out FZ.out _ (HT.out.on HB14.out)).mono ?_
  rintro e w15 ⟨rfl, hb⟩
  have HB15 := Lib.hid (HB14.out.trans (hb.mono HB14.out.size))
  clear hb
  go_wp2
  go_ret
  exact ⟨rfl, HB15.out⟩

set_option maxHeartbeats 8000000 in
set_option maxRecDepth 100000 in
theorem qorder_zp (x z : Rat) (sa : (Sq x).size ≤ 60) (sc : (Sq z).size ≤ 60) (hw : cmpQ z 0 = 1) (w : World) (hl : La w) :
    Calls Tryz.prog 4 #[.string (Sq x), .string (Sq x), .string (Sq z)] w fun e w' => e = .returned (.bool true) ∧ Below w.heap.size w w' := by
  have HT := Lib.hid hl
  clear hl
  have hx := smq_of sa (by decide)
  have hy := hx
  have hz := smq_of sc (by decide)
  have FX := Lib.hid (hx.fit (by decide))
  have FY := Lib.hid (hy.fit (by decide))
  have FZ := Lib.hid (hz.fit (by decide))
  obtain ⟨d, hd⟩ : ∃ s, x - x = s := ⟨_, rfl⟩
  have Fd := Lib.hid (show FitQ d by rw [← hd]; exact (hx.sub hy).fit (by decide))
  have Ed := Lib.hid hd
  obtain ⟨s1, hs1⟩ : ∃ s, x + z = s := ⟨_, rfl⟩
  have Fs1 := Lib.hid (show FitQ s1 by rw [← hs1]; exact (hx.add hz).fit (by decide))
  have Es1 := Lib.hid hs1
  obtain ⟨s2, hs2⟩ : ∃ s, x + z = s := ⟨_, rfl⟩
  have Fs2 := Lib.hid (show FitQ s2 by rw [← hs2]; exact (hy.add hz).fit (by decide))
  have Es2 := Lib.hid hs2
  obtain ⟨u, hu⟩ : ∃ s, x * z = s := ⟨_, rfl⟩
  have Fu := Lib.hid (show FitQ u by rw [← hu]; exact (hx.mul hz).fit (by decide))
  have Eu := Lib.hid hu
  obtain ⟨v, hv⟩ : ∃ s, x * z = s := ⟨_, rfl⟩
  have Fv := Lib.hid (show FitQ v by rw [← hv]; exact (hy.mul hz).fit (by decide))
  have Ev := Lib.hid hv
  have K1 := Lib.hid (show cmpQ x x = 0 from (cmpQ_eq x))
  have K2 := Lib.hid (show cmpQ x x = 0 by rw [cmpQ_swap, cmpQ_eq]; first | done | rfl)
  have K3 := Lib.hid (show cmpQ d 0 = 0 by rw [← hd, cmpQ_sub, cmpQ_eq])
  have K4 := Lib.hid (show cmpQ s1 s2 = 0 by rw [← hs1, ← hs2, cmpQ_add, cmpQ_eq])
  have K5 := Lib.hid (show cmpQ u v = 0 by rw [← hu, ← hv, cmpQ_mul, cmpQ_eq, hw]; rfl)
  have K6 := Lib.hid hw
  have W0 : IntKind.i64.wrap (0 + 0) = 0 := by decide
  have W1 : IntKind.i64.wrap (-0) = 0 := by decide
  have W2 : IntKind.i64.wrap (0 * 1) = 0 := by decide
  have SA := Lib.hid sa
  have SB := SA
  have SC := Lib.hid sc
  clear hx hy hz hd hs1 hs2 hu hv hw sa sc
  go_enter Tryz.func4, Tryz.ntmps4
  go_wp2_with fail
  refine (qawake _ HT.out).mono ?_
  rintro e w1 ⟨rfl, hb1⟩
  have HB1 := Lib.hid (hb1.alloc hb1.size (.cells #[.string (Sq x), .string (Sq x), .string (Sq z)] 22))
  have hc := strs_cells3 w1 (Sq x) (Sq x) (Sq z)
  have HLo := Lib.hid (long3_no w1.heap.size (Sq x) (Sq x) (Sq z) _ SA.out SB.out SC.out hc)
  clear hb1 hc
  go_wp2_with fail
  refine HLo.out.mono ?_
  rintro e w' ⟨rfl, rfl⟩
  go_wp2_with fail
  refine (qvalid_yes x FX.out _ (HT.out.on HB1.out)).mono ?_
  rintro e w2 ⟨rfl, hb⟩
  have HB2 := Lib.hid (HB1.out.trans (hb.mono HB1.out.size))
  clear hb
  go_wp2_with fail
  refine (qvalid_yes x FY.out _ (HT.out.on HB2.out)).mono ?_
  rintro e w3 ⟨rfl, hb⟩
  have HB3 := Lib.hid (HB2.out.trans (hb.mono HB2.out.size))
  clear hb
  go_wp2_with fail
  refine (qvalid_yes z FZ.out _ (HT.out.on HB3.out)).mono ?_
  rintro e w4 ⟨rfl, hb⟩
  have HB4 := Lib.hid (HB3.out.trans (hb.mono HB3.out.size))
  clear hb
  go_wp2_with fail
  refine (qCompare x x 0 K1.out FX.out FY.out _ (HT.out.on HB4.out)).mono ?_
  rintro e w5 ⟨rfl, hb⟩
  have HB5 := Lib.hid (HB4.out.trans (hb.mono HB4.out.size))
  clear hb
  go_wp2_with fail
  refine (qCompare x x 0 K2.out FY.out FX.out _ (HT.out.on HB5.out)).mono ?_
  rintro e w6 ⟨rfl, hb⟩
  have HB6 := Lib.hid (HB5.out.trans (hb.mono HB5.out.size))
  clear hb
  go_wp2_with fail
  refine (qSub x x d Ed.out FX.out FY.out _ (HT.out.on HB6.out)).mono ?_
  rintro e w7 ⟨rfl, hb⟩
  have HB7 := Lib.hid (HB6.out.trans (hb.mono HB6.out.size))
  clear hb
  go_wp2_with fail
  refine (qCompare0 d 0 K3.out Fd.out _ (HT.out.on HB7.out)).mono ?_
  rintro e w8 ⟨rfl, hb⟩
  have HB8 := Lib.hid (HB7.out.trans (hb.mono HB7.out.size))
  clear hb
  go_wp2_with fail
  refine (qAdd x z s1 Es1.out FX.out FZ.out _ (HT.out.on HB8.out)).mono ?_
  rintro e w9 ⟨rfl, hb⟩
  have HB9 := Lib.hid (HB8.out.trans (hb.mono HB8.out.size))
  clear hb
  go_wp2_with fail
  refine (qAdd x z s2 Es2.out FY.out FZ.out _ (HT.out.on HB9.out)).mono ?_
  rintro e w10 ⟨rfl, hb⟩
  have HB10 := Lib.hid (HB9.out.trans (hb.mono HB9.out.size))
  clear hb
  go_wp2_with fail
  refine (qCompare s1 s2 0 K4.out Fs1.out Fs2.out _ (HT.out.on HB10.out)).mono ?_
  rintro e w11 ⟨rfl, hb⟩
  have HB11 := Lib.hid (HB10.out.trans (hb.mono HB10.out.size))
  clear hb
  go_wp2_with fail
  refine (qMul x z u Eu.out FX.out FZ.out _ (HT.out.on HB11.out)).mono ?_
  rintro e w12 ⟨rfl, hb⟩
  have HB12 := Lib.hid (HB11.out.trans (hb.mono HB11.out.size))
  clear hb
  go_wp2_with fail
  refine (qMul x z v Ev.out FY.out FZ.out _ (HT.out.on HB12.out)).mono ?_
  rintro e w13 ⟨rfl, hb⟩
  have HB13 := Lib.hid (HB12.out.trans (hb.mono HB12.out.size))
  clear hb
  go_wp2_with fail
  refine (qCompare u v 0 K5.out Fu.out Fv.out _ (HT.out.on HB13.out)).mono ?_
  rintro e w14 ⟨rfl, hb⟩
  have HB14 := Lib.hid (HB13.out.trans (hb.mono HB13.out.size))
  clear hb
  go_wp2_with fail
  refine (qCompare0 z 1 K6.out FZ.out _ (HT.out.on HB14.out)).mono ?_
  rintro e w15 ⟨rfl, hb⟩
  have HB15 := Lib.hid (HB14.out.trans (hb.mono HB14.out.size))
  clear hb
  go_wp2
  go_ret
  exact ⟨rfl, HB15.out⟩

set_option maxHeartbeats 8000000 in
set_option maxRecDepth 100000 in
theorem qorder_pm (x y z : Rat) (sa : (Sq x).size ≤ 60) (sb : (Sq y).size ≤ 60) (sc : (Sq z).size ≤ 60) (hn : cmpQ x y = 1) (hw : cmpQ z 0 = (-1)) (w : World) (hl : La w) :
    Calls Tryz.prog 4 #[.string (Sq x), .string (Sq y), .string (Sq z)] w fun e w' => e = .returned (.bool true) ∧ Below w.heap.size w w' := by
  have HT := Lib.hid hl
  clear hl
  have hx := smq_of sa (by decide)
  have hy := smq_of sb (by decide)
  have hz := smq_of sc (by decide)
  have FX := Lib.hid (hx.fit (by decide))
  have FY := Lib.hid (hy.fit (by decide))
  have FZ := Lib.hid (hz.fit (by decide))
  obtain ⟨d, hd⟩ : ∃ s, x - y = s := ⟨_, rfl⟩
  have Fd := Lib.hid (show FitQ d by rw [← hd]; exact (hx.sub hy).fit (by decide))
  have Ed := Lib.hid hd
  obtain ⟨s1, hs1⟩ : ∃ s, x + z = s := ⟨_, rfl⟩
  have Fs1 := Lib.hid (show FitQ s1 by rw [← hs1]; exact (hx.add hz).fit (by decide))
  have Es1 := Lib.hid hs1
  obtain ⟨s2, hs2⟩ : ∃ s, y + z = s := ⟨_, rfl⟩
  have Fs2 := Lib.hid (show FitQ s2 by rw [← hs2]; exact (hy.add hz).fit (by decide))
  have Es2 := Lib.hid hs2
  obtain ⟨u, hu⟩ : ∃ s, x * z = s := ⟨_, rfl⟩
  have Fu := Lib.hid (show FitQ u by rw [← hu]; exact (hx.mul hz).fit (by decide))
  have Eu := Lib.hid hu
  obtain ⟨v, hv⟩ : ∃ s, y * z = s := ⟨_, rfl⟩
  have Fv := Lib.hid (show FitQ v by rw [← hv]; exact (hy.mul hz).fit (by decide))
  have Ev := Lib.hid hv
  have K1 := Lib.hid (show cmpQ x y = 1 from hn)
  have K2 := Lib.hid (show cmpQ y x = (-1) by rw [cmpQ_swap, hn]; first | done | rfl)
  have K3 := Lib.hid (show cmpQ d 0 = 1 by rw [← hd, cmpQ_sub, hn])
  have K4 := Lib.hid (show cmpQ s1 s2 = 1 by rw [← hs1, ← hs2, cmpQ_add, hn])
  have K5 := Lib.hid (show cmpQ u v = (-1) by rw [← hu, ← hv, cmpQ_mul, hn, hw]; rfl)
  have K6 := Lib.hid hw
  have hne := sq_neq (show x ≠ y by rintro rfl; rw [cmpQ_eq] at hn; exact absurd hn (by decide))
  have W0 : IntKind.i64.wrap (0 + 0) = 0 := by decide
  have W1 : IntKind.i64.wrap (-(-1)) = 1 := by decide
  have W2 : IntKind.i64.wrap (1 * (-1)) = (-1) := by decide
  have SA := Lib.hid sa
  have SB := Lib.hid sb
  have SC := Lib.hid sc
  clear hx hy hz hd hs1 hs2 hu hv hw sa sc hn sb
  go_enter Tryz.func4, Tryz.ntmps4
  go_wp2_with fail
  refine (qawake _ HT.out).mono ?_
  rintro e w1 ⟨rfl, hb1⟩
  have HB1 := Lib.hid (hb1.alloc hb1.size (.cells #[.string (Sq x), .string (Sq y), .string (Sq z)] 22))
  have hc := strs_cells3 w1 (Sq x) (Sq y) (Sq z)
  have HLo := Lib.hid (long3_no w1.heap.size (Sq x) (Sq y) (Sq z) _ SA.out SB.out SC.out hc)
  clear hb1 hc
  go_wp2_with fail
  refine HLo.out.mono ?_
  rintro e w' ⟨rfl, rfl⟩
  go_wp2_with fail
  refine (qvalid_yes x FX.out _ (HT.out.on HB1.out)).mono ?_
  rintro e w2 ⟨rfl, hb⟩
  have HB2 := Lib.hid (HB1.out.trans (hb.mono HB1.out.size))
  clear hb
  go_wp2_with fail
  refine (qvalid_yes y FY.out _ (HT.out.on HB2.out)).mono ?_
  rintro e w3 ⟨rfl, hb⟩
  have HB3 := Lib.hid (HB2.out.trans (hb.mono HB2.out.size))
  clear hb
  go_wp2_with fail
  refine (qvalid_yes z FZ.out _ (HT.out.on HB3.out)).mono ?_
  rintro e w4 ⟨rfl, hb⟩
  have HB4 := Lib.hid (HB3.out.trans (hb.mono HB3.out.size))
  clear hb
  go_wp2_with fail
  refine (qCompare x y 1 K1.out FX.out FY.out _ (HT.out.on HB4.out)).mono ?_
  rintro e w5 ⟨rfl, hb⟩
  have HB5 := Lib.hid (HB4.out.trans (hb.mono HB4.out.size))
  clear hb
  go_wp2_with fail
  refine (qCompare y x (-1) K2.out FY.out FX.out _ (HT.out.on HB5.out)).mono ?_
  rintro e w6 ⟨rfl, hb⟩
  have HB6 := Lib.hid (HB5.out.trans (hb.mono HB5.out.size))
  clear hb
  go_wp2_with fail
  refine (qSub x y d Ed.out FX.out FY.out _ (HT.out.on HB6.out)).mono ?_
  rintro e w7 ⟨rfl, hb⟩
  have HB7 := Lib.hid (HB6.out.trans (hb.mono HB6.out.size))
  clear hb
  go_wp2_with fail
  refine (qCompare0 d 1 K3.out Fd.out _ (HT.out.on HB7.out)).mono ?_
  rintro e w8 ⟨rfl, hb⟩
  have HB8 := Lib.hid (HB7.out.trans (hb.mono HB7.out.size))
  clear hb
  go_wp2_with fail
  refine (qAdd x z s1 Es1.out FX.out FZ.out _ (HT.out.on HB8.out)).mono ?_
  rintro e w9 ⟨rfl, hb⟩
  have HB9 := Lib.hid (HB8.out.trans (hb.mono HB8.out.size))
  clear hb
  go_wp2_with fail
  refine (qAdd y z s2 Es2.out FY.out FZ.out _ (HT.out.on HB9.out)).mono ?_
  rintro e w10 ⟨rfl, hb⟩
  have HB10 := Lib.hid (HB9.out.trans (hb.mono HB9.out.size))
  clear hb
  go_wp2_with fail
  refine (qCompare s1 s2 1 K4.out Fs1.out Fs2.out _ (HT.out.on HB10.out)).mono ?_
  rintro e w11 ⟨rfl, hb⟩
  have HB11 := Lib.hid (HB10.out.trans (hb.mono HB10.out.size))
  clear hb
  go_wp2_with fail
  refine (qMul x z u Eu.out FX.out FZ.out _ (HT.out.on HB11.out)).mono ?_
  rintro e w12 ⟨rfl, hb⟩
  have HB12 := Lib.hid (HB11.out.trans (hb.mono HB11.out.size))
  clear hb
  go_wp2_with fail
  refine (qMul y z v Ev.out FY.out FZ.out _ (HT.out.on HB12.out)).mono ?_
  rintro e w13 ⟨rfl, hb⟩
  have HB13 := Lib.hid (HB12.out.trans (hb.mono HB12.out.size))
  clear hb
  go_wp2_with fail
  refine (qCompare u v (-1) K5.out Fu.out Fv.out _ (HT.out.on HB13.out)).mono ?_
  rintro e w14 ⟨rfl, hb⟩
  have HB14 := Lib.hid (HB13.out.trans (hb.mono HB13.out.size))
  clear hb
  go_wp2_with fail
  refine (qCompare0 z (-1) K6.out FZ.out _ (HT.out.on HB14.out)).mono ?_
  rintro e w15 ⟨rfl, hb⟩
  have HB15 := Lib.hid (HB14.out.trans (hb.mono HB14.out.size))
  clear hb
  go_wp2
  go_ret
  exact ⟨rfl, HB15.out⟩

set_option maxHeartbeats 8000000 in
set_option maxRecDepth 100000 in
theorem qorder_pz (x y z : Rat) (sa : (Sq x).size ≤ 60) (sb : (Sq y).size ≤ 60) (sc : (Sq z).size ≤ 60) (hn : cmpQ x y = 1) (hw : cmpQ z 0 = 0) (w : World) (hl : La w) :
    Calls Tryz.prog 4 #[.string (Sq x), .string (Sq y), .string (Sq z)] w fun e w' => e = .returned (.bool true) ∧ Below w.heap.size w w' := by
  have HT := Lib.hid hl
  clear hl
  have hx := smq_of sa (by decide)
  have hy := smq_of sb (by decide)
  have hz := smq_of sc (by decide)
  have FX := Lib.hid (hx.fit (by decide))
  have FY := Lib.hid (hy.fit (by decide))
  have FZ := Lib.hid (hz.fit (by decide))
  obtain ⟨d, hd⟩ : ∃ s, x - y = s := ⟨_, rfl⟩
  have Fd := Lib.hid (show FitQ d by rw [← hd]; exact (hx.sub hy).fit (by decide))
  have Ed := Lib.hid hd
  obtain ⟨s1, hs1⟩ : ∃ s, x + z = s := ⟨_, rfl⟩
  have Fs1 := Lib.hid (show FitQ s1 by rw [← hs1]; exact (hx.add hz).fit (by decide))
  have Es1 := Lib.hid hs1
  obtain ⟨s2, hs2⟩ : ∃ s, y + z = s := ⟨_, rfl⟩
  have Fs2 := Lib.hid (show FitQ s2 by rw [← hs2]; exact (hy.add hz).fit (by decide))
  have Es2 := Lib.hid hs2
  obtain ⟨u, hu⟩ : ∃ s, x * z = s := ⟨_, rfl⟩
  have Fu := Lib.hid (show FitQ u by rw [← hu]; exact (hx.mul hz).fit (by decide))
  have Eu := Lib.hid hu
  obtain ⟨v, hv⟩ : ∃ s, y * z = s := ⟨_, rfl⟩
  have Fv := Lib.hid (show FitQ v by rw [← hv]; exact (hy.mul hz).fit (by decide))
  have Ev := Lib.hid hv
  have K1 := Lib.hid (show cmpQ x y = 1 from hn)
  have K2 := Lib.hid (show cmpQ y x = (-1) by rw [cmpQ_swap, hn]; first | done | rfl)
  have K3 := Lib.hid (show cmpQ d 0 = 1 by rw [← hd, cmpQ_sub, hn])
  have K4 := Lib.hid (show cmpQ s1 s2 = 1 by rw [← hs1, ← hs2, cmpQ_add, hn])
  have K5 := Lib.hid (show cmpQ u v = 0 by rw [← hu, ← hv, cmpQ_mul, hn, hw]; rfl)
  have K6 := Lib.hid hw
  have hne := sq_neq (show x ≠ y by rintro rfl; rw [cmpQ_eq] at hn; exact absurd hn (by decide))
  have W0 : IntKind.i64.wrap (0 + 0) = 0 := by decide
  have W1 : IntKind.i64.wrap (-(-1)) = 1 := by decide
  have W2 : IntKind.i64.wrap (1 * 0) = 0 := by decide
  have SA := Lib.hid sa
  have SB := Lib.hid sb
  have SC := Lib.hid sc
  clear hx hy hz hd hs1 hs2 hu hv hw sa sc hn sb
  go_enter Tryz.func4, Tryz.ntmps4
  go_wp2_with fail
  refine (qawake _ HT.out).mono ?_
  rintro e w1 ⟨rfl, hb1⟩
  have HB1 := Lib.hid (hb1.alloc hb1.size (.cells #[.string (Sq x), .string (Sq y), .string (Sq z)] 22))
  have hc := strs_cells3 w1 (Sq x) (Sq y) (Sq z)
  have HLo := Lib.hid (long3_no w1.heap.size (Sq x) (Sq y) (Sq z) _ SA.out SB.out SC.out hc)
  clear hb1 hc
  go_wp2_with fail
  refine HLo.out.mono ?_
  rintro e w' ⟨rfl, rfl⟩
  go_wp2_with fail
  refine (qvalid_yes x FX.out _ (HT.out.on HB1.out)).mono ?_
  rintro e w2 ⟨rfl, hb⟩
  have HB2 := Lib.hid (HB1.out.trans (hb.mono HB1.out.size))
  clear hb
  go_wp2_with fail
  refine (qvalid_yes y FY.out _ (HT.out.on HB2.out)).mono ?_
  rintro e w3 ⟨rfl, hb⟩
  have HB3 := Lib.hid (HB2.out.trans (hb.mono HB2.out.size))
  clear hb
  go_wp2_with fail
  refine (qvalid_yes z FZ.out _ (HT.out.on HB3.out)).mono ?_
  rintro e w4 ⟨rfl, hb⟩
  have HB4 := Lib.hid (HB3.out.trans (hb.mono HB3.out.size))
  clear hb
  go_wp2_with fail
  refine (qCompare x y 1 K1.out FX.out FY.out _ (HT.out.on HB4.out)).mono ?_
  rintro e w5 ⟨rfl, hb⟩
  have HB5 := Lib.hid (HB4.out.trans (hb.mono HB4.out.size))
  clear hb
  go_wp2_with fail
  refine (qCompare y x (-1) K2.out FY.out FX.out _ (HT.out.on HB5.out)).mono ?_
  rintro e w6 ⟨rfl, hb⟩
  have HB6 := Lib.hid (HB5.out.trans (hb.mono HB5.out.size))
  clear hb
  go_wp2_with fail
  refine (qSub x y d Ed.out FX.out FY.out _ (HT.out.on HB6.out)).mono ?_
  rintro e w7 ⟨rfl, hb⟩
  have HB7 := Lib.hid (HB6.out.trans (hb.mono HB6.out.size))
  clear hb
  go_wp2_with fail
  refine (qCompare0 d 1 K3.out Fd.out _ (HT.out.on HB7.out)).mono ?_
  rintro e w8 ⟨rfl, hb⟩
  have HB8 := Lib.hid (HB7.out.trans (hb.mono HB7.out.size))
  clear hb
  go_wp2_with fail
  refine (qAdd x z s1 Es1.out FX.out FZ.out _ (HT.out.on HB8.out)).mono ?_
  rintro e w9 ⟨rfl, hb⟩
  have HB9 := Lib.hid (HB8.out.trans (hb.mono HB8.out.size))
  clear hb
  go_wp2_with fail
  refine (qAdd y z s2 Es2.out FY.out FZ.out _ (HT.out.on HB9.out)).mono ?_
  rintro e w10 ⟨rfl, hb⟩
  have HB10 := Lib.hid (HB9.out.trans (hb.mono HB9.out.size))
  clear hb
  go_wp2_with fail
  refine (qCompare s1 s2 1 K4.out Fs1.out Fs2.out _ (HT.out.on HB10.out)).mono ?_
  rintro e w11 ⟨rfl, hb⟩
  have HB11 := Lib.hid (HB10.out.trans (hb.mono HB10.out.size))
  clear hb
  go_wp2_with fail
  refine (qMul x z u Eu.out FX.out FZ.out _ (HT.out.on HB11.out)).mono ?_
  rintro e w12 ⟨rfl, hb⟩
  have HB12 := Lib.hid (HB11.out.trans (hb.mono HB11.out.size))
  clear hb
  go_wp2_with fail
  refine (qMul y z v Ev.out FY.out FZ.out _ (HT.out.on HB12.out)).mono ?_
  rintro e w13 ⟨rfl, hb⟩
  have HB13 := Lib.hid (HB12.out.trans (hb.mono HB12.out.size))
  clear hb
  go_wp2_with fail
  refine (qCompare u v 0 K5.out Fu.out Fv.out _ (HT.out.on HB13.out)).mono ?_
  rintro e w14 ⟨rfl, hb⟩
  have HB14 := Lib.hid (HB13.out.trans (hb.mono HB13.out.size))
  clear hb
  go_wp2_with fail
  refine (qCompare0 z 0 K6.out FZ.out _ (HT.out.on HB14.out)).mono ?_
  rintro e w15 ⟨rfl, hb⟩
  have HB15 := Lib.hid (HB14.out.trans (hb.mono HB14.out.size))
  clear hb
  go_wp2
  go_ret
  exact ⟨rfl, HB15.out⟩

set_option maxHeartbeats 8000000 in
set_option maxRecDepth 100000 in
theorem qorder_pp (x y z : Rat) (sa : (Sq x).size ≤ 60) (sb : (Sq y).size ≤ 60) (sc : (Sq z).size ≤ 60) (hn : cmpQ x y = 1) (hw : cmpQ z 0 = 1) (w : World) (hl : La w) :
    Calls Tryz.prog 4 #[.string (Sq x), .string (Sq y), .string (Sq z)] w fun e w' => e = .returned (.bool true) ∧ Below w.heap.size w w' := by
  have HT := Lib.hid hl
  clear hl
  have hx := smq_of sa (by decide)
  have hy := smq_of sb (by decide)
  have hz := smq_of sc (by decide)
  have FX := Lib.hid (hx.fit (by decide))
  have FY := Lib.hid (hy.fit (by decide))
  have FZ := Lib.hid (hz.fit (by decide))
  obtain ⟨d, hd⟩ : ∃ s, x - y = s := ⟨_, rfl⟩
  have Fd := Lib.hid (show FitQ d by rw [← hd]; exact (hx.sub hy).fit (by decide))
  have Ed := Lib.hid hd
  obtain ⟨s1, hs1⟩ : ∃ s, x + z = s := ⟨_, rfl⟩
  have Fs1 := Lib.hid (show FitQ s1 by rw [← hs1]; exact (hx.add hz).fit (by decide))
  have Es1 := Lib.hid hs1
  obtain ⟨s2, hs2⟩ : ∃ s, y + z = s := ⟨_, rfl⟩
  have Fs2 := Lib.hid (show FitQ s2 by rw [← hs2]; exact (hy.add hz).fit (by decide))
  have Es2 := Lib.hid hs2
  obtain ⟨u, hu⟩ : ∃ s, x * z = s := ⟨_, rfl⟩
  have Fu := Lib.hid (show FitQ u by rw [← hu]; exact (hx.mul hz).fit (by decide))
  have Eu := Lib.hid hu
  obtain ⟨v, hv⟩ : ∃ s, y * z = s := ⟨_, rfl⟩
  have Fv := Lib.hid (show FitQ v by rw [← hv]; exact (hy.mul hz).fit (by decide))
  have Ev := Lib.hid hv
  have K1 := Lib.hid (show cmpQ x y = 1 from hn)
  have K2 := Lib.hid (show cmpQ y x = (-1) by rw [cmpQ_swap, hn]; first | done | rfl)
  have K3 := Lib.hid (show cmpQ d 0 = 1 by rw [← hd, cmpQ_sub, hn])
  have K4 := Lib.hid (show cmpQ s1 s2 = 1 by rw [← hs1, ← hs2, cmpQ_add, hn])
  have K5 := Lib.hid (show cmpQ u v = 1 by rw [← hu, ← hv, cmpQ_mul, hn, hw]; rfl)
  have K6 := Lib.hid hw
  have hne := sq_neq (show x ≠ y by rintro rfl; rw [cmpQ_eq] at hn; exact absurd hn (by decide))
  have W0 : IntKind.i64.wrap (0 + 0) = 0 := by decide
  have W1 : IntKind.i64.wrap (-(-1)) = 1 := by decide
  have W2 : IntKind.i64.wrap (1 * 1) = 1 := by decide
  have SA := Lib.hid sa
  have SB := Lib.hid sb
  have SC := Lib.hid sc
  clear hx hy hz hd hs1 hs2 hu hv hw sa sc hn sb
  go_enter Tryz.func4, Tryz.ntmps4
  go_wp2_with fail
  refine (qawake _ HT.out).mono ?_
  rintro e w1 ⟨rfl, hb1⟩
  have HB1 := Lib.hid (hb1.alloc hb1.size (.cells #[.string (Sq x), .string (Sq y), .string (Sq z)] 22))
  have hc := strs_cells3 w1 (Sq x) (Sq y) (Sq z)
  have HLo := Lib.hid (long3_no w1.heap.size (Sq x) (Sq y) (Sq z) _ SA.out SB.out SC.out hc)
  clear hb1 hc
  go_wp2_with fail
  refine HLo.out.mono ?_
  rintro e w' ⟨rfl, rfl⟩
  go_wp2_with fail
  refine (qvalid_yes x FX.out _ (HT.out.on HB1.out)).mono ?_
  rintro e w2 ⟨rfl, hb⟩
  have HB2 := Lib.hid (HB1.out.trans (hb.mono HB1.out.size))
  clear hb
  go_wp2_with fail
  refine (qvalid_yes y FY.out _ (HT.out.on HB2.out)).mono ?_
  rintro e w3 ⟨rfl, hb⟩
  have HB3 := Lib.hid (HB2.out.trans (hb.mono HB2.out.size))
  clear hb
  go_wp2_with fail
  refine (qvalid_yes z FZ.out _ (HT.out.on HB3.out)).mono ?_
  rintro e w4 ⟨rfl, hb⟩
  have HB4 := Lib.hid (HB3.out.trans (hb.mono HB3.out.size))
  clear hb
  go_wp2_with fail
  refine (qCompare x y 1 K1.out FX.out FY.out _ (HT.out.on HB4.out)).mono ?_
  rintro e w5 ⟨rfl, hb⟩
  have HB5 := Lib.hid (HB4.out.trans (hb.mono HB4.out.size))
  clear hb
  go_wp2_with fail
  refine (qCompare y x (-1) K2.out FY.out FX.out _ (HT.out.on HB5.out)).mono ?_
  rintro e w6 ⟨rfl, hb⟩
  have HB6 := Lib.hid (HB5.out.trans (hb.mono HB5.out.size))
  clear hb
  go_wp2_with fail
  refine (qSub x y d Ed.out FX.out FY.out _ (HT.out.on HB6.out)).mono ?_
  rintro e w7 ⟨rfl, hb⟩
  have HB7 := Lib.hid (HB6.out.trans (hb.mono HB6.out.size))
  clear hb
  go_wp2_with fail
  refine (qCompare0 d 1 K3.out Fd.out _ (HT.out.on HB7.out)).mono ?_
  rintro e w8 ⟨rfl, hb⟩
  have HB8 := Lib.hid (HB7.out.trans (hb.mono HB7.out.size))
  clear hb
  go_wp2_with fail
  refine (qAdd x z s1 Es1.out FX.out FZ.out _ (HT.out.on HB8.out)).mono ?_
  rintro e w9 ⟨rfl, hb⟩
  have HB9 := Lib.hid (HB8.out.trans (hb.mono HB8.out.size))
  clear hb
  go_wp2_with fail
  refine (qAdd y z s2 Es2.out FY.out FZ.out _ (HT.out.on HB9.out)).mono ?_
  rintro e w10 ⟨rfl, hb⟩
  have HB10 := Lib.hid (HB9.out.trans (hb.mono HB9.out.size))
  clear hb
  go_wp2_with fail
  refine (qCompare s1 s2 1 K4.out Fs1.out Fs2.out _ (HT.out.on HB10.out)).mono ?_
  rintro e w11 ⟨rfl, hb⟩
  have HB11 := Lib.hid (HB10.out.trans (hb.mono HB10.out.size))
  clear hb
  go_wp2_with fail
  refine (qMul x z u Eu.out FX.out FZ.out _ (HT.out.on HB11.out)).mono ?_
  rintro e w12 ⟨rfl, hb⟩
  have HB12 := Lib.hid (HB11.out.trans (hb.mono HB11.out.size))
  clear hb
  go_wp2_with fail
  refine (qMul y z v Ev.out FY.out FZ.out _ (HT.out.on HB12.out)).mono ?_
  rintro e w13 ⟨rfl, hb⟩
  have HB13 := Lib.hid (HB12.out.trans (hb.mono HB12.out.size))
  clear hb
  go_wp2_with fail
  refine (qCompare u v 1 K5.out Fu.out Fv.out _ (HT.out.on HB13.out)).mono ?_
  rintro e w14 ⟨rfl, hb⟩
  have HB14 := Lib.hid (HB13.out.trans (hb.mono HB13.out.size))
  clear hb
  go_wp2_with fail
  refine (qCompare0 z 1 K6.out FZ.out _ (HT.out.on HB14.out)).mono ?_
  rintro e w15 ⟨rfl, hb⟩
  have HB15 := Lib.hid (HB14.out.trans (hb.mono HB14.out.size))
  clear hb
  go_wp2
  go_ret
  exact ⟨rfl, HB15.out⟩

theorem qorder_yes (x y z : Rat) (sa : (Sq x).size ≤ 60) (sb : (Sq y).size ≤ 60) (sc : (Sq z).size ≤ 60) (w : World) (hl : La w) :
    Calls Tryz.prog 4 #[.string (Sq x), .string (Sq y), .string (Sq z)] w fun e w' => e = .returned (.bool true) ∧ Below w.heap.size w w' := by
  rcases cmpQ_cases x y with ⟨_, hn⟩ | ⟨h, _⟩ | ⟨_, hn⟩
  · rcases cmpQ_cases z 0 with ⟨_, hw⟩ | ⟨_, hw⟩ | ⟨_, hw⟩
    · exact qorder_mm x y z sa sb sc hn hw w hl
    · exact qorder_mz x y z sa sb sc hn hw w hl
    · exact qorder_mp x y z sa sb sc hn hw w hl
  · subst h
    rcases cmpQ_cases z 0 with ⟨_, hw⟩ | ⟨_, hw⟩ | ⟨_, hw⟩
    · exact qorder_zm x z sa sc hw w hl
    · exact qorder_zz x z sa sc hw w hl
    · exact qorder_zp x z sa sc hw w hl
  · rcases cmpQ_cases z 0 with ⟨_, hw⟩ | ⟨_, hw⟩ | ⟨_, hw⟩
    · exact qorder_pm x y z sa sb sc hn hw w hl
    · exact qorder_pz x y z sa sb sc hn hw w hl
    · exact qorder_pp x y z sa sb sc hn hw w hl

theorem qorder_any (a b c : ByteArray) (w : World) (hl : La w) :
    Calls Tryz.prog 4 #[.string a, .string b, .string c] w fun e w' => e = .returned (.bool true) ∧ Below w.heap.size w w' := by
  by_cases hlo : 60 < a.size ∨ 60 < b.size ∨ 60 < c.size
  · exact qorder_long a b c hlo w hl
  · have ha : a.size ≤ 60 := by omega
    have hb : b.size ≤ 60 := by omega
    have hc : c.size ≤ 60 := by omega
    clear hlo
    cases va : vldQ a.data.toList with
    | false => exact qorder_no0 a b c ha hb hc va w hl
    | true =>
      have ea := sq_of va
      generalize qval a.data.toList = x at ea
      subst ea
      cases vb : vldQ b.data.toList with
      | false => exact qorder_no1 x b c ha hb hc vb w hl
      | true =>
        have eb := sq_of vb
        generalize qval b.data.toList = y at eb
        subst eb
        cases vc : vldQ c.data.toList with
        | false => exact qorder_no2 x y c ha hb hc vc w hl
        | true =>
          have ec := sq_of vc
          generalize qval c.data.toList = z at ec
          subst ec
          exact qorder_yes x y z ha hb hc w hl

end Go.Proofs.YtlagimghlngdgaaGreatDoor
