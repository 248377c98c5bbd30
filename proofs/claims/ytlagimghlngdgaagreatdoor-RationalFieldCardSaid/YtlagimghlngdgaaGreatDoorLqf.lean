/- garboardlaw03.RationalField returns true: walks. -/
import Derived.Test.YtlagimghlngdgaaGreatDoorMqn
namespace Go.Proofs.YtlagimghlngdgaaGreatDoor
open Go.RowKit Go.Gb

theorem qfAdd (x y s : Rat) (hs : x + y = s) (hx : FitQ x) (hy : FitQ y) (w : World) (hl : La w) :
    Calls Tryz.prog 14 #[.string (Sq x), .string (Sq y)] w fun e w' => e = .returned (.string (Sq s)) ∧ Below w.heap.size w w' := by
  have HC := Lib.hid (qAdd x y s hs hx hy w hl)
  clear hl hs hx hy
  generalize Sq x = a at *
  generalize Sq y = b at *
  generalize Sq s = c at *
  go_enter Tryz.func14, Tryz.ntmps14
  go_wp2_with fail
  refine HC.out.mono ?_
  rintro e w1 ⟨rfl, hb⟩
  go_wp2
  go_ret
  exact ⟨rfl, hb⟩
theorem qfSub (x y s : Rat) (hs : x - y = s) (hx : FitQ x) (hy : FitQ y) (w : World) (hl : La w) :
    Calls Tryz.prog 16 #[.string (Sq x), .string (Sq y)] w fun e w' => e = .returned (.string (Sq s)) ∧ Below w.heap.size w w' := by
  have HC := Lib.hid (qSub x y s hs hx hy w hl)
  clear hl hs hx hy
  generalize Sq x = a at *
  generalize Sq y = b at *
  generalize Sq s = c at *
  go_enter Tryz.func16, Tryz.ntmps16
  go_wp2_with fail
  refine HC.out.mono ?_
  rintro e w1 ⟨rfl, hb⟩
  go_wp2
  go_ret
  exact ⟨rfl, hb⟩
theorem qfMul (x y s : Rat) (hs : x * y = s) (hx : FitQ x) (hy : FitQ y) (w : World) (hl : La w) :
    Calls Tryz.prog 18 #[.string (Sq x), .string (Sq y)] w fun e w' => e = .returned (.string (Sq s)) ∧ Below w.heap.size w w' := by
  have HC := Lib.hid (qMul x y s hs hx hy w hl)
  clear hl hs hx hy
  generalize Sq x = a at *
  generalize Sq y = b at *
  generalize Sq s = c at *
  go_enter Tryz.func18, Tryz.ntmps18
  go_wp2_with fail
  refine HC.out.mono ?_
  rintro e w1 ⟨rfl, hb⟩
  go_wp2
  go_ret
  exact ⟨rfl, hb⟩
theorem qfMul1 (x : Rat) (hx : FitQ x) (w : World) (hl : La w) :
    Calls Tryz.prog 18 #[.string (Sq x), .string ⟨#[49]⟩] w fun e w' => e = .returned (.string (Sq x)) ∧ Below w.heap.size w w' := by
  have h := qfMul x 1 x (Rat.mul_one x) hx (fitq_small (by decide +kernel) (by decide +kernel)) w hl
  rwa [q_1] at h
theorem qDivZ (x y : Rat) (h0 : y = 0) (hx : FitQ x) (w : World) (hl : La w) :
    Calls Tryz.prog 20 #[.string (Sq x), .string (Sq y)] w fun e w' => e = .returned (.tuple #[.string ⟨#[]⟩, .int .i64 16]) ∧ Below w.heap.size w w' := by
  subst h0
  rw [q_0]
  exact qDiv_zero x hx w hl

set_option maxHeartbeats 8000000 in
set_option maxRecDepth 100000 in
theorem qfield_long (a b c : ByteArray) (hab : 60 < a.size ∨ 60 < b.size ∨ 60 < c.size) (w : World) (hl : La w) :
    Calls Tryz.prog 3 #[.string a, .string b, .string c] w fun e w' => e = .returned (.bool true) ∧ Below w.heap.size w w' := by
  have HT := Lib.hid hl
  clear hl
  have HL := Lib.hid hab
  clear hab
  go_enter Tryz.func3, Tryz.ntmps3
  go_wp2_with fail
  refine (qawake _ HT.out).mono ?_
  rintro e w1 ⟨rfl, hb1⟩
  have HB1 := Lib.hid (hb1.alloc hb1.size (.cells #[.string a, .string b, .string c] 22))
  have hc := strs_cells3 w1 a b c
  have HLo := Lib.hid (long3_yes w1.heap.size a b c _ HL.out hc)
  clear hb1 hc
  go_wp2_with fail
  refine HLo.out.mono ?_
  rintro e w' ⟨rfl, rfl⟩
  go_wp2_with fail
  refine (qawake _ (HT.out.on HB1.out)).mono ?_
  rintro e w2 ⟨rfl, hb⟩
  have HB2 := Lib.hid (HB1.out.trans (hb.mono HB1.out.size))
  clear hb
  go_wp2
  go_ret
  exact ⟨rfl, HB2.out⟩

set_option maxHeartbeats 8000000 in
set_option maxRecDepth 100000 in
theorem qfield_no0 (a b c : ByteArray)  (ha : a.size ≤ 60) (hb : b.size ≤ 60) (hc : c.size ≤ 60) (hv : vldQ a.data.toList = false) (w : World) (hl : La w) :
    Calls Tryz.prog 3 #[.string a, .string b, .string c] w fun e w' => e = .returned (.bool true) ∧ Below w.heap.size w w' := by
  have HT := Lib.hid hl
  clear hl

  have Hla := Lib.hid ha
  have Hma := Lib.hid (show a.size ≤ 900 by omega)
  have Hlb := Lib.hid hb
  have Hmb := Lib.hid (show b.size ≤ 900 by omega)
  have Hlc := Lib.hid hc
  have Hmc := Lib.hid (show c.size ≤ 900 by omega)
  clear ha hb hc
  have HV := Lib.hid hv
  clear hv
  go_enter Tryz.func3, Tryz.ntmps3
  go_wp2_with fail
  refine (qawake _ HT.out).mono ?_
  rintro e w1 ⟨rfl, hb1⟩
  have HB1 := Lib.hid (hb1.alloc hb1.size (.cells #[.string a, .string b, .string c] 22))
  have hc := strs_cells3 w1 a b c
  have HLo := Lib.hid (long3_no w1.heap.size a b c _ Hla.out Hlb.out Hlc.out hc)
  clear hb1 hc
  go_wp2_with fail
  refine HLo.out.mono ?_
  rintro e w' ⟨rfl, rfl⟩
  go_wp2_with fail
  refine (qvalid_no a HV.out Hma.out _ (HT.out.on HB1.out)).mono ?_
  rintro e w2 ⟨rfl, hb⟩
  have HB2 := Lib.hid (HB1.out.trans (hb.mono HB1.out.size))
  clear hb
  go_wp2
  go_ret
  exact ⟨rfl, HB2.out⟩

set_option maxHeartbeats 8000000 in
set_option maxRecDepth 100000 in
theorem qfield_no1 (a : Rat) (b c : ByteArray) (sa : (Sq a).size ≤ 60) (hb : b.size ≤ 60) (hc : c.size ≤ 60) (hv : vldQ b.data.toList = false) (w : World) (hl : La w) :
    Calls Tryz.prog 3 #[.string (Sq a), .string b, .string c] w fun e w' => e = .returned (.bool true) ∧ Below w.heap.size w w' := by
  have HT := Lib.hid hl
  clear hl
  have Sa := Lib.hid sa
  have Fa := Lib.hid ((smq_of sa (by decide)).fit (by decide))
  clear sa
  have Hlb := Lib.hid hb
  have Hmb := Lib.hid (show b.size ≤ 900 by omega)
  have Hlc := Lib.hid hc
  have Hmc := Lib.hid (show c.size ≤ 900 by omega)
  clear hb hc
  have HV := Lib.hid hv
  clear hv
  go_enter Tryz.func3, Tryz.ntmps3
  go_wp2_with fail
  refine (qawake _ HT.out).mono ?_
  rintro e w1 ⟨rfl, hb1⟩
  have HB1 := Lib.hid (hb1.alloc hb1.size (.cells #[.string (Sq a), .string b, .string c] 22))
  have hc := strs_cells3 w1 (Sq a) b c
  have HLo := Lib.hid (long3_no w1.heap.size (Sq a) b c _ Sa.out Hlb.out Hlc.out hc)
  clear hb1 hc
  go_wp2_with fail
  refine HLo.out.mono ?_
  rintro e w' ⟨rfl, rfl⟩
  go_wp2_with fail
  refine (qvalid_yes a Fa.out _ (HT.out.on HB1.out)).mono ?_
  rintro e w2 ⟨rfl, hb⟩
  have HB2 := Lib.hid (HB1.out.trans (hb.mono HB1.out.size))
  clear hb
  go_wp2_with fail
  refine (qvalid_no b HV.out Hmb.out _ (HT.out.on HB2.out)).mono ?_
  rintro e w3 ⟨rfl, hb⟩
  have HB3 := Lib.hid (HB2.out.trans (hb.mono HB2.out.size))
  clear hb
  go_wp2
  go_ret
  exact ⟨rfl, HB3.out⟩

set_option maxHeartbeats 8000000 in
set_option maxRecDepth 100000 in
theorem qfield_no2 (a b : Rat) (c : ByteArray) (sa : (Sq a).size ≤ 60) (sb : (Sq b).size ≤ 60) (hc : c.size ≤ 60) (hv : vldQ c.data.toList = false) (w : World) (hl : La w) :
    Calls Tryz.prog 3 #[.string (Sq a), .string (Sq b), .string c] w fun e w' => e = .returned (.bool true) ∧ Below w.heap.size w w' := by
  have HT := Lib.hid hl
  clear hl
  have Sa := Lib.hid sa
  have Fa := Lib.hid ((smq_of sa (by decide)).fit (by decide))
  clear sa
  have Sb := Lib.hid sb
  have Fb := Lib.hid ((smq_of sb (by decide)).fit (by decide))
  clear sb
  have Hlc := Lib.hid hc
  have Hmc := Lib.hid (show c.size ≤ 900 by omega)
  clear hc
  have HV := Lib.hid hv
  clear hv
  go_enter Tryz.func3, Tryz.ntmps3
  go_wp2_with fail
  refine (qawake _ HT.out).mono ?_
  rintro e w1 ⟨rfl, hb1⟩
  have HB1 := Lib.hid (hb1.alloc hb1.size (.cells #[.string (Sq a), .string (Sq b), .string c] 22))
  have hc := strs_cells3 w1 (Sq a) (Sq b) c
  have HLo := Lib.hid (long3_no w1.heap.size (Sq a) (Sq b) c _ Sa.out Sb.out Hlc.out hc)
  clear hb1 hc
  go_wp2_with fail
  refine HLo.out.mono ?_
  rintro e w' ⟨rfl, rfl⟩
  go_wp2_with fail
  refine (qvalid_yes a Fa.out _ (HT.out.on HB1.out)).mono ?_
  rintro e w2 ⟨rfl, hb⟩
  have HB2 := Lib.hid (HB1.out.trans (hb.mono HB1.out.size))
  clear hb
  go_wp2_with fail
  refine (qvalid_yes b Fb.out _ (HT.out.on HB2.out)).mono ?_
  rintro e w3 ⟨rfl, hb⟩
  have HB3 := Lib.hid (HB2.out.trans (hb.mono HB2.out.size))
  clear hb
  go_wp2_with fail
  refine (qvalid_no c HV.out Hmc.out _ (HT.out.on HB3.out)).mono ?_
  rintro e w4 ⟨rfl, hb⟩
  have HB4 := Lib.hid (HB3.out.trans (hb.mono HB3.out.size))
  clear hb
  go_wp2
  go_ret
  exact ⟨rfl, HB4.out⟩

set_option maxHeartbeats 8000000 in
set_option maxRecDepth 100000 in
theorem qfield_zero (x y z : Rat) (sa : (Sq x).size ≤ 60) (sb : (Sq y).size ≤ 60) (sc : (Sq z).size ≤ 60) (hy0 : y = 0) (w : World) (hl : La w) :
    Calls Tryz.prog 3 #[.string (Sq x), .string (Sq y), .string (Sq z)] w fun e w' => e = .returned (.bool true) ∧ Below w.heap.size w w' := by
  have HT := Lib.hid hl
  clear hl
  have hx := smq_of sa (by decide)
  have hy := smq_of sb (by decide)
  have hz := smq_of sc (by decide)
  have FX := Lib.hid (hx.fit (by decide))
  have FY := Lib.hid (hy.fit (by decide))
  have FZ := Lib.hid (hz.fit (by decide))
  obtain ⟨sab, hsab⟩ : ∃ s, s = x + y := ⟨_, rfl⟩
  have Fsab := Lib.hid (show FitQ sab by rw [hsab]; exact (hx.add hy).fit (by decide))
  obtain ⟨sbc, hsbc⟩ : ∃ s, s = y + z := ⟨_, rfl⟩
  have Fsbc := Lib.hid (show FitQ sbc by rw [hsbc]; exact (hy.add hz).fit (by decide))
  obtain ⟨sabc, hsabc⟩ : ∃ s, s = x + y + z := ⟨_, rfl⟩
  have Fsabc := Lib.hid (show FitQ sabc by rw [hsabc]; exact ((hx.add hy).add hz).fit (by decide))
  obtain ⟨pab, hpab⟩ : ∃ s, s = x * y := ⟨_, rfl⟩
  have Fpab := Lib.hid (show FitQ pab by rw [hpab]; exact (hx.mul hy).fit (by decide))
  obtain ⟨pbc, hpbc⟩ : ∃ s, s = y * z := ⟨_, rfl⟩
  have Fpbc := Lib.hid (show FitQ pbc by rw [hpbc]; exact (hy.mul hz).fit (by decide))
  obtain ⟨pac, hpac⟩ : ∃ s, s = x * z := ⟨_, rfl⟩
  have Fpac := Lib.hid (show FitQ pac by rw [hpac]; exact (hx.mul hz).fit (by decide))
  obtain ⟨pabc, hpabc⟩ : ∃ s, s = x * y * z := ⟨_, rfl⟩
  have Fpabc := Lib.hid (show FitQ pabc by rw [hpabc]; exact ((hx.mul hy).mul hz).fit (by decide))
  obtain ⟨m, hm⟩ : ∃ s, s = x * (y + z) := ⟨_, rfl⟩
  have Fm := Lib.hid (show FitQ m by rw [hm]; exact (hx.mul (hy.add hz)).fit (by decide))
  have E1 := Lib.hid (show x + y = sab from hsab.symm)
  have E2 := Lib.hid (show y + x = sab  by rw [hsab, Rat.add_comm])
  have E3 := Lib.hid (show sab + z = sabc  by rw [hsab, hsabc])
  have E4 := Lib.hid (show y + z = sbc from hsbc.symm)
  have E5 := Lib.hid (show x + sbc = sabc  by rw [hsbc, hsabc, Rat.add_assoc])
  have E6 := Lib.hid (show x * y = pab from hpab.symm)
  have E7 := Lib.hid (show y * x = pab  by rw [hpab, Rat.mul_comm])
  have E8 := Lib.hid (show pab * z = pabc  by rw [hpab, hpabc])
  have E9 := Lib.hid (show y * z = pbc from hpbc.symm)
  have E10 := Lib.hid (show x * pbc = pabc  by rw [hpbc, hpabc, Rat.mul_assoc])
  have E11 := Lib.hid (show x * sbc = m  by rw [hsbc, hm])
  have E12 := Lib.hid (show x * z = pac from hpac.symm)
  have E13 := Lib.hid (show pab + pac = m  by rw [hpab, hpac, hm]; grind)
  have E14 := Lib.hid (show sab - y = x  by rw [hsab]; grind)
  have hb0 : ((Sq y).toList == [48]) = true := by rw [hy0, q_0, toList_data]; rfl
  have HY := Lib.hid hy0
  have SA := Lib.hid sa
  have SB := Lib.hid sb
  have SC := Lib.hid sc
  clear hx hy hz hy0 hsab hsbc hsabc hpab hpbc hpac hpabc hm sa sb sc
  go_enter Tryz.func3, Tryz.ntmps3
  go_wp2_with fail
  refine (qawake _ HT.out).mono ?_
  rintro e w1 ⟨rfl, hb1⟩
  have HB1 := Lib.hid (hb1.alloc hb1.size (.cells #[.string (Sq x), .string (Sq y), .string (Sq z)] 22))
  have hc := strs_cells3 w1 (Sq x) (Sq y) (Sq z)
  have HLo := Lib.hid (long3_no w1.heap.size (Sq x) (Sq y) (Sq z) _ SA.out SB.out SC.out hc)
  clear hb1 hc
  go_wp2_with fail
  refine HLo.out.mono ?_
  rintro e w' ⟨rfl, rfl⟩
  go_wp2_with fail
  refine (qvalid_yes x FX.out _ (HT.out.on HB1.out)).mono ?_
  rintro e w2 ⟨rfl, hb⟩
  have HB2 := Lib.hid (HB1.out.trans (hb.mono HB1.out.size))
  clear hb
  go_wp2_with fail
  refine (qvalid_yes y FY.out _ (HT.out.on HB2.out)).mono ?_
  rintro e w3 ⟨rfl, hb⟩
  have HB3 := Lib.hid (HB2.out.trans (hb.mono HB2.out.size))
  clear hb
  go_wp2_with fail
  refine (qvalid_yes z FZ.out _ (HT.out.on HB3.out)).mono ?_
  rintro e w4 ⟨rfl, hb⟩
  have HB4 := Lib.hid (HB3.out.trans (hb.mono HB3.out.size))
  clear hb
  go_wp2_with fail
  refine (qfAdd x y sab E1.out FX.out FY.out _ (HT.out.on HB4.out)).mono ?_
  rintro e w5 ⟨rfl, hb⟩
  have HB5 := Lib.hid (HB4.out.trans (hb.mono HB4.out.size))
  clear hb
  go_wp2_with fail
  refine (qfAdd y x sab E2.out FY.out FX.out _ (HT.out.on HB5.out)).mono ?_
  rintro e w6 ⟨rfl, hb⟩
  have HB6 := Lib.hid (HB5.out.trans (hb.mono HB5.out.size))
  clear hb
  go_wp2_with fail
  refine (qfAdd x y sab E1.out FX.out FY.out _ (HT.out.on HB6.out)).mono ?_
  rintro e w7 ⟨rfl, hb⟩
  have HB7 := Lib.hid (HB6.out.trans (hb.mono HB6.out.size))
  clear hb
  go_wp2_with fail
  refine (qfAdd sab z sabc E3.out Fsab.out FZ.out _ (HT.out.on HB7.out)).mono ?_
  rintro e w8 ⟨rfl, hb⟩
  have HB8 := Lib.hid (HB7.out.trans (hb.mono HB7.out.size))
  clear hb
  go_wp2_with fail
  refine (qfAdd y z sbc E4.out FY.out FZ.out _ (HT.out.on HB8.out)).mono ?_
  rintro e w9 ⟨rfl, hb⟩
  have HB9 := Lib.hid (HB8.out.trans (hb.mono HB8.out.size))
  clear hb
  go_wp2_with fail
  refine (qfAdd x sbc sabc E5.out FX.out Fsbc.out _ (HT.out.on HB9.out)).mono ?_
  rintro e w10 ⟨rfl, hb⟩
  have HB10 := Lib.hid (HB9.out.trans (hb.mono HB9.out.size))
  clear hb
  go_wp2_with fail
  refine (qfMul x y pab E6.out FX.out FY.out _ (HT.out.on HB10.out)).mono ?_
  rintro e w11 ⟨rfl, hb⟩
  have HB11 := Lib.hid (HB10.out.trans (hb.mono HB10.out.size))
  clear hb
  go_wp2_with fail
  refine (qfMul y x pab E7.out FY.out FX.out _ (HT.out.on HB11.out)).mono ?_
  rintro e w12 ⟨rfl, hb⟩
  have HB12 := Lib.hid (HB11.out.trans (hb.mono HB11.out.size))
  clear hb
  go_wp2_with fail
  refine (qfMul x y pab E6.out FX.out FY.out _ (HT.out.on HB12.out)).mono ?_
  rintro e w13 ⟨rfl, hb⟩
  have HB13 := Lib.hid (HB12.out.trans (hb.mono HB12.out.size))
  clear hb
  go_wp2_with fail
  refine (qfMul pab z pabc E8.out Fpab.out FZ.out _ (HT.out.on HB13.out)).mono ?_
  rintro e w14 ⟨rfl, hb⟩
  have HB14 := Lib.hid (HB13.out.trans (hb.mono HB13.out.size))
  clear hb
  go_wp2_with fail
  refine (qfMul y z pbc E9.out FY.out FZ.out _ (HT.out.on HB14.out)).mono ?_
  rintro e w15 ⟨rfl, hb⟩
  have HB15 := Lib.hid (HB14.out.trans (hb.mono HB14.out.size))
  clear hb
  go_wp2_with fail
  refine (qfMul x pbc pabc E10.out FX.out Fpbc.out _ (HT.out.on HB15.out)).mono ?_
  rintro e w16 ⟨rfl, hb⟩
  have HB16 := Lib.hid (HB15.out.trans (hb.mono HB15.out.size))
  clear hb
  go_wp2_with fail
  refine (qfAdd y z sbc E4.out FY.out FZ.out _ (HT.out.on HB16.out)).mono ?_
  rintro e w17 ⟨rfl, hb⟩
  have HB17 := Lib.hid (HB16.out.trans (hb.mono HB16.out.size))
  clear hb
  go_wp2_with fail
  refine (qfMul x sbc m E11.out FX.out Fsbc.out _ (HT.out.on HB17.out)).mono ?_
  rintro e w18 ⟨rfl, hb⟩
  have HB18 := Lib.hid (HB17.out.trans (hb.mono HB17.out.size))
  clear hb
  go_wp2_with fail
  refine (qfMul x y pab E6.out FX.out FY.out _ (HT.out.on HB18.out)).mono ?_
  rintro e w19 ⟨rfl, hb⟩
  have HB19 := Lib.hid (HB18.out.trans (hb.mono HB18.out.size))
  clear hb
  go_wp2_with fail
  refine (qfMul x z pac E12.out FX.out FZ.out _ (HT.out.on HB19.out)).mono ?_
  rintro e w20 ⟨rfl, hb⟩
  have HB20 := Lib.hid (HB19.out.trans (hb.mono HB19.out.size))
  clear hb
  go_wp2_with fail
  refine (qfAdd pab pac m E13.out Fpab.out Fpac.out _ (HT.out.on HB20.out)).mono ?_
  rintro e w21 ⟨rfl, hb⟩
  have HB21 := Lib.hid (HB20.out.trans (hb.mono HB20.out.size))
  clear hb
  go_wp2_with fail
  refine (qfAdd x y sab E1.out FX.out FY.out _ (HT.out.on HB21.out)).mono ?_
  rintro e w22 ⟨rfl, hb⟩
  have HB22 := Lib.hid (HB21.out.trans (hb.mono HB21.out.size))
  clear hb
  go_wp2_with fail
  refine (qfSub sab y x E14.out Fsab.out FY.out _ (HT.out.on HB22.out)).mono ?_
  rintro e w23 ⟨rfl, hb⟩
  have HB23 := Lib.hid (HB22.out.trans (hb.mono HB22.out.size))
  clear hb
  go_wp2_with fail
  refine (qfMul1 x FX.out _ (HT.out.on HB23.out)).mono ?_
  rintro e w24 ⟨rfl, hb⟩
  have HB24 := Lib.hid (HB23.out.trans (hb.mono HB23.out.size))
  clear hb
  go_wp2_with fail
  refine (qfMul x y pab E6.out FX.out FY.out _ (HT.out.on HB24.out)).mono ?_
  rintro e w25 ⟨rfl, hb⟩
  have HB25 := Lib.hid (HB24.out.trans (hb.mono HB24.out.size))
  clear hb
  go_wp2_with fail
  refine (qvalid_yes pab Fpab.out _ (HT.out.on HB25.out)).mono ?_
  rintro e w26 ⟨rfl, hb⟩
  have HB26 := Lib.hid (HB25.out.trans (hb.mono HB25.out.size))
  clear hb
  go_wp2_with fail
  refine (qDivZ x y HY.out FX.out _ (HT.out.on HB26.out)).mono ?_
  rintro e w27 ⟨rfl, hb⟩
  have HB27 := Lib.hid (HB26.out.trans (hb.mono HB26.out.size))
  clear hb
  go_wp2
  go_ret
  exact ⟨rfl, HB27.out⟩

set_option maxHeartbeats 8000000 in
set_option maxRecDepth 100000 in
theorem qfield_one (x y z : Rat) (sa : (Sq x).size ≤ 60) (sb : (Sq y).size ≤ 60) (sc : (Sq z).size ≤ 60) (hy0 : y ≠ 0) (w : World) (hl : La w) :
    Calls Tryz.prog 3 #[.string (Sq x), .string (Sq y), .string (Sq z)] w fun e w' => e = .returned (.bool true) ∧ Below w.heap.size w w' := by
  have HT := Lib.hid hl
  clear hl
  have hx := smq_of sa (by decide)
  have hy := smq_of sb (by decide)
  have hz := smq_of sc (by decide)
  have FX := Lib.hid (hx.fit (by decide))
  have FY := Lib.hid (hy.fit (by decide))
  have FZ := Lib.hid (hz.fit (by decide))
  obtain ⟨sab, hsab⟩ : ∃ s, s = x + y := ⟨_, rfl⟩
  have Fsab := Lib.hid (show FitQ sab by rw [hsab]; exact (hx.add hy).fit (by decide))
  obtain ⟨sbc, hsbc⟩ : ∃ s, s = y + z := ⟨_, rfl⟩
  have Fsbc := Lib.hid (show FitQ sbc by rw [hsbc]; exact (hy.add hz).fit (by decide))
  obtain ⟨sabc, hsabc⟩ : ∃ s, s = x + y + z := ⟨_, rfl⟩
  have Fsabc := Lib.hid (show FitQ sabc by rw [hsabc]; exact ((hx.add hy).add hz).fit (by decide))
  obtain ⟨pab, hpab⟩ : ∃ s, s = x * y := ⟨_, rfl⟩
  have Fpab := Lib.hid (show FitQ pab by rw [hpab]; exact (hx.mul hy).fit (by decide))
  obtain ⟨pbc, hpbc⟩ : ∃ s, s = y * z := ⟨_, rfl⟩
  have Fpbc := Lib.hid (show FitQ pbc by rw [hpbc]; exact (hy.mul hz).fit (by decide))
  obtain ⟨pac, hpac⟩ : ∃ s, s = x * z := ⟨_, rfl⟩
  have Fpac := Lib.hid (show FitQ pac by rw [hpac]; exact (hx.mul hz).fit (by decide))
  obtain ⟨pabc, hpabc⟩ : ∃ s, s = x * y * z := ⟨_, rfl⟩
  have Fpabc := Lib.hid (show FitQ pabc by rw [hpabc]; exact ((hx.mul hy).mul hz).fit (by decide))
  obtain ⟨m, hm⟩ : ∃ s, s = x * (y + z) := ⟨_, rfl⟩
  have Fm := Lib.hid (show FitQ m by rw [hm]; exact (hx.mul (hy.add hz)).fit (by decide))
  obtain ⟨q, hq⟩ : ∃ s, s = x / y := ⟨_, rfl⟩
  have Fq := Lib.hid (show FitQ q by rw [hq]; exact (hx.div hy hy0).fit (by decide))
  have E1 := Lib.hid (show x + y = sab from hsab.symm)
  have E2 := Lib.hid (show y + x = sab  by rw [hsab, Rat.add_comm])
  have E3 := Lib.hid (show sab + z = sabc  by rw [hsab, hsabc])
  have E4 := Lib.hid (show y + z = sbc from hsbc.symm)
  have E5 := Lib.hid (show x + sbc = sabc  by rw [hsbc, hsabc, Rat.add_assoc])
  have E6 := Lib.hid (show x * y = pab from hpab.symm)
  have E7 := Lib.hid (show y * x = pab  by rw [hpab, Rat.mul_comm])
  have E8 := Lib.hid (show pab * z = pabc  by rw [hpab, hpabc])
  have E9 := Lib.hid (show y * z = pbc from hpbc.symm)
  have E10 := Lib.hid (show x * pbc = pabc  by rw [hpbc, hpabc, Rat.mul_assoc])
  have E11 := Lib.hid (show x * sbc = m  by rw [hsbc, hm])
  have E12 := Lib.hid (show x * z = pac from hpac.symm)
  have E13 := Lib.hid (show pab + pac = m  by rw [hpab, hpac, hm]; grind)
  have E14 := Lib.hid (show sab - y = x  by rw [hsab]; grind)
  have E15 := Lib.hid (show x / y = q from hq.symm)
  have E16 := Lib.hid (show q * y = x  by rw [hq]; exact Rat.div_mul_cancel hy0)
  have hb0 : ((Sq y).toList == [48]) = false := by have h := sq_neq hy0; rwa [q_0, toList_data ⟨#[48]⟩] at h
  have HY := Lib.hid hy0
  have SA := Lib.hid sa
  have SB := Lib.hid sb
  have SC := Lib.hid sc
  clear hx hy hz hy0 hsab hsbc hsabc hpab hpbc hpac hpabc hm hq sa sb sc
  go_enter Tryz.func3, Tryz.ntmps3
  go_wp2_with fail
  refine (qawake _ HT.out).mono ?_
  rintro e w1 ⟨rfl, hb1⟩
  have HB1 := Lib.hid (hb1.alloc hb1.size (.cells #[.string (Sq x), .string (Sq y), .string (Sq z)] 22))
  have hc := strs_cells3 w1 (Sq x) (Sq y) (Sq z)
  have HLo := Lib.hid (long3_no w1.heap.size (Sq x) (Sq y) (Sq z) _ SA.out SB.out SC.out hc)
  clear hb1 hc
  go_wp2_with fail
  refine HLo.out.mono ?_
  rintro e w' ⟨rfl, rfl⟩
  go_wp2_with fail
  refine (qvalid_yes x FX.out _ (HT.out.on HB1.out)).mono ?_
  rintro e w2 ⟨rfl, hb⟩
  have HB2 := Lib.hid (HB1.out.trans (hb.mono HB1.out.size))
  clear hb
  go_wp2_with fail
  refine (qvalid_yes y FY.out _ (HT.out.on HB2.out)).mono ?_
  rintro e w3 ⟨rfl, hb⟩
  have HB3 := Lib.hid (HB2.out.trans (hb.mono HB2.out.size))
  clear hb
  go_wp2_with fail
  refine (qvalid_yes z FZ.out _ (HT.out.on HB3.out)).mono ?_
  rintro e w4 ⟨rfl, hb⟩
  have HB4 := Lib.hid (HB3.out.trans (hb.mono HB3.out.size))
  clear hb
  go_wp2_with fail
  refine (qfAdd x y sab E1.out FX.out FY.out _ (HT.out.on HB4.out)).mono ?_
  rintro e w5 ⟨rfl, hb⟩
  have HB5 := Lib.hid (HB4.out.trans (hb.mono HB4.out.size))
  clear hb
  go_wp2_with fail
  refine (qfAdd y x sab E2.out FY.out FX.out _ (HT.out.on HB5.out)).mono ?_
  rintro e w6 ⟨rfl, hb⟩
  have HB6 := Lib.hid (HB5.out.trans (hb.mono HB5.out.size))
  clear hb
  go_wp2_with fail
  refine (qfAdd x y sab E1.out FX.out FY.out _ (HT.out.on HB6.out)).mono ?_
  rintro e w7 ⟨rfl, hb⟩
  have HB7 := Lib.hid (HB6.out.trans (hb.mono HB6.out.size))
  clear hb
  go_wp2_with fail
  refine (qfAdd sab z sabc E3.out Fsab.out FZ.out _ (HT.out.on HB7.out)).mono ?_
  rintro e w8 ⟨rfl, hb⟩
  have HB8 := Lib.hid (HB7.out.trans (hb.mono HB7.out.size))
  clear hb
  go_wp2_with fail
  refine (qfAdd y z sbc E4.out FY.out FZ.out _ (HT.out.on HB8.out)).mono ?_
  rintro e w9 ⟨rfl, hb⟩
  have HB9 := Lib.hid (HB8.out.trans (hb.mono HB8.out.size))
  clear hb
  go_wp2_with fail
  refine (qfAdd x sbc sabc E5.out FX.out Fsbc.out _ (HT.out.on HB9.out)).mono ?_
  rintro e w10 ⟨rfl, hb⟩
  have HB10 := Lib.hid (HB9.out.trans (hb.mono HB9.out.size))
  clear hb
  go_wp2_with fail
  refine (qfMul x y pab E6.out FX.out FY.out _ (HT.out.on HB10.out)).mono ?_
  rintro e w11 ⟨rfl, hb⟩
  have HB11 := Lib.hid (HB10.out.trans (hb.mono HB10.out.size))
  clear hb
  go_wp2_with fail
  refine (qfMul y x pab E7.out FY.out FX.out _ (HT.out.on HB11.out)).mono ?_
  rintro e w12 ⟨rfl, hb⟩
  have HB12 := Lib.hid (HB11.out.trans (hb.mono HB11.out.size))
  clear hb
  go_wp2_with fail
  refine (qfMul x y pab E6.out FX.out FY.out _ (HT.out.on HB12.out)).mono ?_
  rintro e w13 ⟨rfl, hb⟩
  have HB13 := Lib.hid (HB12.out.trans (hb.mono HB12.out.size))
  clear hb
  go_wp2_with fail
  refine (qfMul pab z pabc E8.out Fpab.out FZ.out _ (HT.out.on HB13.out)).mono ?_
  rintro e w14 ⟨rfl, hb⟩
  have HB14 := Lib.hid (HB13.out.trans (hb.mono HB13.out.size))
  clear hb
  go_wp2_with fail
  refine (qfMul y z pbc E9.out FY.out FZ.out _ (HT.out.on HB14.out)).mono ?_
  rintro e w15 ⟨rfl, hb⟩
  have HB15 := Lib.hid (HB14.out.trans (hb.mono HB14.out.size))
  clear hb
  go_wp2_with fail
  refine (qfMul x pbc pabc E10.out FX.out Fpbc.out _ (HT.out.on HB15.out)).mono ?_
  rintro e w16 ⟨rfl, hb⟩
  have HB16 := Lib.hid (HB15.out.trans (hb.mono HB15.out.size))
  clear hb
  go_wp2_with fail
  refine (qfAdd y z sbc E4.out FY.out FZ.out _ (HT.out.on HB16.out)).mono ?_
  rintro e w17 ⟨rfl, hb⟩
  have HB17 := Lib.hid (HB16.out.trans (hb.mono HB16.out.size))
  clear hb
  go_wp2_with fail
  refine (qfMul x sbc m E11.out FX.out Fsbc.out _ (HT.out.on HB17.out)).mono ?_
  rintro e w18 ⟨rfl, hb⟩
  have HB18 := Lib.hid (HB17.out.trans (hb.mono HB17.out.size))
  clear hb
  go_wp2_with fail
  refine (qfMul x y pab E6.out FX.out FY.out _ (HT.out.on HB18.out)).mono ?_
  rintro e w19 ⟨rfl, hb⟩
  have HB19 := Lib.hid (HB18.out.trans (hb.mono HB18.out.size))
  clear hb
  go_wp2_with fail
  refine (qfMul x z pac E12.out FX.out FZ.out _ (HT.out.on HB19.out)).mono ?_
  rintro e w20 ⟨rfl, hb⟩
  have HB20 := Lib.hid (HB19.out.trans (hb.mono HB19.out.size))
  clear hb
  go_wp2_with fail
  refine (qfAdd pab pac m E13.out Fpab.out Fpac.out _ (HT.out.on HB20.out)).mono ?_
  rintro e w21 ⟨rfl, hb⟩
  have HB21 := Lib.hid (HB20.out.trans (hb.mono HB20.out.size))
  clear hb
  go_wp2_with fail
  refine (qfAdd x y sab E1.out FX.out FY.out _ (HT.out.on HB21.out)).mono ?_
  rintro e w22 ⟨rfl, hb⟩
  have HB22 := Lib.hid (HB21.out.trans (hb.mono HB21.out.size))
  clear hb
  go_wp2_with fail
  refine (qfSub sab y x E14.out Fsab.out FY.out _ (HT.out.on HB22.out)).mono ?_
  rintro e w23 ⟨rfl, hb⟩
  have HB23 := Lib.hid (HB22.out.trans (hb.mono HB22.out.size))
  clear hb
  go_wp2_with fail
  refine (qfMul1 x FX.out _ (HT.out.on HB23.out)).mono ?_
  rintro e w24 ⟨rfl, hb⟩
  have HB24 := Lib.hid (HB23.out.trans (hb.mono HB23.out.size))
  clear hb
  go_wp2_with fail
  refine (qfMul x y pab E6.out FX.out FY.out _ (HT.out.on HB24.out)).mono ?_
  rintro e w25 ⟨rfl, hb⟩
  have HB25 := Lib.hid (HB24.out.trans (hb.mono HB24.out.size))
  clear hb
  go_wp2_with fail
  refine (qvalid_yes pab Fpab.out _ (HT.out.on HB25.out)).mono ?_
  rintro e w26 ⟨rfl, hb⟩
  have HB26 := Lib.hid (HB25.out.trans (hb.mono HB25.out.size))
  clear hb
  go_wp2_with fail
  refine (qDiv x y q E15.out FX.out FY.out HY.out _ (HT.out.on HB26.out)).mono ?_
  rintro e w27 ⟨rfl, hb⟩
  have HB27 := Lib.hid (HB26.out.trans (hb.mono HB26.out.size))
  clear hb
  go_wp2_with fail
  refine (qfMul q y x E16.out Fq.out FY.out _ (HT.out.on HB27.out)).mono ?_
  rintro e w28 ⟨rfl, hb⟩
  have HB28 := Lib.hid (HB27.out.trans (hb.mono HB27.out.size))
  clear hb
  go_wp2
  go_ret
  exact ⟨rfl, HB28.out⟩

theorem qfield_yes (x y z : Rat) (sa : (Sq x).size ≤ 60) (sb : (Sq y).size ≤ 60) (sc : (Sq z).size ≤ 60) (w : World) (hl : La w) :
    Calls Tryz.prog 3 #[.string (Sq x), .string (Sq y), .string (Sq z)] w fun e w' => e = .returned (.bool true) ∧ Below w.heap.size w w' := by
  by_cases h : y = 0
  · exact qfield_zero x y z sa sb sc h w hl
  · exact qfield_one x y z sa sb sc h w hl

theorem qfield_any (a b c : ByteArray) (w : World) (hl : La w) :
    Calls Tryz.prog 3 #[.string a, .string b, .string c] w fun e w' => e = .returned (.bool true) ∧ Below w.heap.size w w' := by
  by_cases hlo : 60 < a.size ∨ 60 < b.size ∨ 60 < c.size
  · exact qfield_long a b c hlo w hl
  · have ha : a.size ≤ 60 := by omega
    have hb : b.size ≤ 60 := by omega
    have hc : c.size ≤ 60 := by omega
    clear hlo
    cases va : vldQ a.data.toList with
    | false => exact qfield_no0 a b c ha hb hc va w hl
    | true =>
      have ea := sq_of va
      generalize qval a.data.toList = x at ea
      subst ea
      cases vb : vldQ b.data.toList with
      | false => exact qfield_no1 x b c ha hb hc vb w hl
      | true =>
        have eb := sq_of vb
        generalize qval b.data.toList = y at eb
        subst eb
        cases vc : vldQ c.data.toList with
        | false => exact qfield_no2 x y c ha hb hc vc w hl
        | true =>
          have ec := sq_of vc
          generalize qval c.data.toList = z at ec
          subst ec
          exact qfield_yes x y z ha hb hc w hl

end Go.Proofs.YtlagimghlngdgaaGreatDoor
