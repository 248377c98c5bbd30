/- garboardlaw02.IntegerRing and IntegerQuotients return true: walks. -/
import Derived.Test.YtpdchplppkfdhaaGreatDoorIlon
namespace Go.Proofs.YtpdchplppkfdhaaGreatDoor
open Go.RowKit Go.Gb

theorem sz_zero : Sz 0 = ⟨#[48]⟩ := by decide +kernel
theorem sz_m1 : Sz (-1) = ⟨#[45, 49]⟩ := by decide +kernel

theorem iringAdd (x y s : Int) (hs : x + y = s) (hx : FitZ x) (hy : FitZ y) (fs : FitZ s) (w : World) (hl : La w) :
    Calls Tryz.prog 53 #[.string (Sz x), .string (Sz y)] w fun e w' => e = .returned (.string (Sz s)) ∧ Below w.heap.size w w' := by
  have HC := Lib.hid (zAdd x y s hs hx hy fs w hl)
  clear hl hs hx hy fs
  generalize Sz x = a at *
  generalize Sz y = b at *
  generalize Sz s = c at *
  go_enter Tryz.func53, Tryz.ntmps53
  go_wp2_with fail
  refine HC.out.mono ?_
  rintro e w1 ⟨rfl, hb⟩
  go_wp2
  go_ret
  exact ⟨rfl, hb⟩
theorem iringMul (x y s : Int) (hs : x * y = s) (hx : FitZ x) (hy : FitZ y) (fs : FitZ s) (w : World) (hl : La w) :
    Calls Tryz.prog 54 #[.string (Sz x), .string (Sz y)] w fun e w' => e = .returned (.string (Sz s)) ∧ Below w.heap.size w w' := by
  have HC := Lib.hid (zMul x y s hs hx hy fs w hl)
  clear hl hs hx hy fs
  generalize Sz x = a at *
  generalize Sz y = b at *
  generalize Sz s = c at *
  go_enter Tryz.func54, Tryz.ntmps54
  go_wp2_with fail
  refine HC.out.mono ?_
  rintro e w1 ⟨rfl, hb⟩
  go_wp2
  go_ret
  exact ⟨rfl, hb⟩
theorem iringAdd0 (x y : Int) (hs : x + y = 0) (hx : FitZ x) (hy : FitZ y) (w : World) (hl : La w) :
    Calls Tryz.prog 53 #[.string (Sz x), .string (Sz y)] w fun e w' => e = .returned (.string ⟨#[48]⟩) ∧ Below w.heap.size w w' := by
  have h := iringAdd x y 0 hs hx hy fit0 w hl
  rwa [sz_zero] at h
theorem iringMulM (x s : Int) (hs : x * (-1) = s) (hx : FitZ x) (fs : FitZ s) (w : World) (hl : La w) :
    Calls Tryz.prog 54 #[.string (Sz x), .string ⟨#[45, 49]⟩] w fun e w' => e = .returned (.string (Sz s)) ∧ Below w.heap.size w w' := by
  have h := iringMul x (-1) s hs hx fit1 fs w hl
  rwa [sz_m1] at h
theorem zNegV (x s : Int) (hs : -x = s) (hx : FitZ x) (w : World) (hl : La w) :
    Calls Tryz.prog 35 #[.string (Sz x)] w fun e w' => e = .returned (.tuple #[.string (Sz s), .int .i64 0]) ∧ Below w.heap.size w w' := by
  subst hs; exact zNeg x hx w hl

set_option maxHeartbeats 8000000 in
set_option maxRecDepth 100000 in
theorem iring_long (a b c : ByteArray) (hab : 120 < a.size ∨ 120 < b.size ∨ 120 < c.size) (w : World) (hl : La w) :
    Calls Tryz.prog 9 #[.string a, .string b, .string c] w fun e w' => e = .returned (.bool true) ∧ Below w.heap.size w w' := by
  have HT := Lib.hid hl
  clear hl
  have HL := Lib.hid hab
  clear hab
  go_enter Tryz.func9, Tryz.ntmps9
  go_wp2_with fail
  refine (iawake _ HT.out).mono ?_
  rintro e w1 ⟨rfl, hb1⟩
  have HB1 := Lib.hid (hb1.alloc hb1.size (.cells #[.string a, .string b, .string c] 9))
  have hc := strs_cells3 w1 a b c
  have HLo := Lib.hid (long3_yes w1.heap.size a b c _ HL.out hc)
  clear hb1 hc
  go_wp2_with fail
  refine HLo.out.mono ?_
  rintro e w' ⟨rfl, rfl⟩
  go_wp2_with fail
  refine (iawake _ (HT.out.on HB1.out)).mono ?_
  rintro e w2 ⟨rfl, hb⟩
  have HB2 := Lib.hid (HB1.out.trans (hb.mono HB1.out.size))
  clear hb
  go_wp2
  go_ret
  exact ⟨rfl, HB2.out⟩

set_option maxHeartbeats 8000000 in
set_option maxRecDepth 100000 in
theorem iring_no0 (a b c : ByteArray)  (ha : a.size ≤ 120) (hb : b.size ≤ 120) (hc : c.size ≤ 120) (hv : vldZ a.data.toList = false) (w : World) (hl : La w) :
    Calls Tryz.prog 9 #[.string a, .string b, .string c] w fun e w' => e = .returned (.bool true) ∧ Below w.heap.size w w' := by
  have HT := Lib.hid hl
  clear hl

  have Hla := Lib.hid ha
  have Hma := Lib.hid (show a.size ≤ maxLen by unfold maxLen; omega)
  have Hlb := Lib.hid hb
  have Hmb := Lib.hid (show b.size ≤ maxLen by unfold maxLen; omega)
  have Hlc := Lib.hid hc
  have Hmc := Lib.hid (show c.size ≤ maxLen by unfold maxLen; omega)
  clear ha hb hc
  have HV := Lib.hid hv
  clear hv
  go_enter Tryz.func9, Tryz.ntmps9
  go_wp2_with fail
  refine (iawake _ HT.out).mono ?_
  rintro e w1 ⟨rfl, hb1⟩
  have HB1 := Lib.hid (hb1.alloc hb1.size (.cells #[.string a, .string b, .string c] 9))
  have hc := strs_cells3 w1 a b c
  have HLo := Lib.hid (long3_no w1.heap.size a b c _ Hla.out Hlb.out Hlc.out hc)
  clear hb1 hc
  go_wp2_with fail
  refine HLo.out.mono ?_
  rintro e w' ⟨rfl, rfl⟩
  go_wp2_with fail
  refine (zValid_no a HV.out Hma.out _).mono ?_
  rintro e w2 ⟨rfl, hb⟩
  have HB2 := Lib.hid (HB1.out.trans (hb.mono HB1.out.size))
  clear hb
  go_wp2
  go_ret
  exact ⟨rfl, HB2.out⟩

set_option maxHeartbeats 8000000 in
set_option maxRecDepth 100000 in
theorem iring_no1 (a : Int) (b c : ByteArray) (sa : (Sz a).size ≤ 120) (hb : b.size ≤ 120) (hc : c.size ≤ 120) (hv : vldZ b.data.toList = false) (w : World) (hl : La w) :
    Calls Tryz.prog 9 #[.string (Sz a), .string b, .string c] w fun e w' => e = .returned (.bool true) ∧ Below w.heap.size w w' := by
  have HT := Lib.hid hl
  clear hl
  have Sa := Lib.hid sa
  have Fa := Lib.hid ((smz_of sa).fit (by decide))
  clear sa
  have Hlb := Lib.hid hb
  have Hmb := Lib.hid (show b.size ≤ maxLen by unfold maxLen; omega)
  have Hlc := Lib.hid hc
  have Hmc := Lib.hid (show c.size ≤ maxLen by unfold maxLen; omega)
  clear hb hc
  have HV := Lib.hid hv
  clear hv
  go_enter Tryz.func9, Tryz.ntmps9
  go_wp2_with fail
  refine (iawake _ HT.out).mono ?_
  rintro e w1 ⟨rfl, hb1⟩
  have HB1 := Lib.hid (hb1.alloc hb1.size (.cells #[.string (Sz a), .string b, .string c] 9))
  have hc := strs_cells3 w1 (Sz a) b c
  have HLo := Lib.hid (long3_no w1.heap.size (Sz a) b c _ Sa.out Hlb.out Hlc.out hc)
  clear hb1 hc
  go_wp2_with fail
  refine HLo.out.mono ?_
  rintro e w' ⟨rfl, rfl⟩
  go_wp2_with fail
  refine (zValid_yes a Fa.out _ (HT.out.on HB1.out).zz).mono ?_
  rintro e w2 ⟨rfl, hb⟩
  have HB2 := Lib.hid (HB1.out.trans (hb.mono HB1.out.size))
  clear hb
  go_wp2_with fail
  refine (zValid_no b HV.out Hmb.out _).mono ?_
  rintro e w3 ⟨rfl, hb⟩
  have HB3 := Lib.hid (HB2.out.trans (hb.mono HB2.out.size))
  clear hb
  go_wp2
  go_ret
  exact ⟨rfl, HB3.out⟩

set_option maxHeartbeats 8000000 in
set_option maxRecDepth 100000 in
theorem iring_no2 (a b : Int) (c : ByteArray) (sa : (Sz a).size ≤ 120) (sb : (Sz b).size ≤ 120) (hc : c.size ≤ 120) (hv : vldZ c.data.toList = false) (w : World) (hl : La w) :
    Calls Tryz.prog 9 #[.string (Sz a), .string (Sz b), .string c] w fun e w' => e = .returned (.bool true) ∧ Below w.heap.size w w' := by
  have HT := Lib.hid hl
  clear hl
  have Sa := Lib.hid sa
  have Fa := Lib.hid ((smz_of sa).fit (by decide))
  clear sa
  have Sb := Lib.hid sb
  have Fb := Lib.hid ((smz_of sb).fit (by decide))
  clear sb
  have Hlc := Lib.hid hc
  have Hmc := Lib.hid (show c.size ≤ maxLen by unfold maxLen; omega)
  clear hc
  have HV := Lib.hid hv
  clear hv
  go_enter Tryz.func9, Tryz.ntmps9
  go_wp2_with fail
  refine (iawake _ HT.out).mono ?_
  rintro e w1 ⟨rfl, hb1⟩
  have HB1 := Lib.hid (hb1.alloc hb1.size (.cells #[.string (Sz a), .string (Sz b), .string c] 9))
  have hc := strs_cells3 w1 (Sz a) (Sz b) c
  have HLo := Lib.hid (long3_no w1.heap.size (Sz a) (Sz b) c _ Sa.out Sb.out Hlc.out hc)
  clear hb1 hc
  go_wp2_with fail
  refine HLo.out.mono ?_
  rintro e w' ⟨rfl, rfl⟩
  go_wp2_with fail
  refine (zValid_yes a Fa.out _ (HT.out.on HB1.out).zz).mono ?_
  rintro e w2 ⟨rfl, hb⟩
  have HB2 := Lib.hid (HB1.out.trans (hb.mono HB1.out.size))
  clear hb
  go_wp2_with fail
  refine (zValid_yes b Fb.out _ (HT.out.on HB2.out).zz).mono ?_
  rintro e w3 ⟨rfl, hb⟩
  have HB3 := Lib.hid (HB2.out.trans (hb.mono HB2.out.size))
  clear hb
  go_wp2_with fail
  refine (zValid_no c HV.out Hmc.out _).mono ?_
  rintro e w4 ⟨rfl, hb⟩
  have HB4 := Lib.hid (HB3.out.trans (hb.mono HB3.out.size))
  clear hb
  go_wp2
  go_ret
  exact ⟨rfl, HB4.out⟩

set_option maxHeartbeats 8000000 in
set_option maxRecDepth 100000 in
theorem iring_yes (x y z : Int) (sa : (Sz x).size ≤ 120) (sb : (Sz y).size ≤ 120) (sc : (Sz z).size ≤ 120) (w : World) (hl : La w) :
    Calls Tryz.prog 9 #[.string (Sz x), .string (Sz y), .string (Sz z)] w fun e w' => e = .returned (.bool true) ∧ Below w.heap.size w w' := by
  have HT := Lib.hid hl
  clear hl
  have hx := smz_of sa
  have hy := smz_of sb
  have hz := smz_of sc
  have FX := Lib.hid (hx.fit (by decide))
  have FY := Lib.hid (hy.fit (by decide))
  have FZ := Lib.hid (hz.fit (by decide))
  obtain ⟨sab, hsab⟩ : ∃ s, s = x + y := ⟨_, rfl⟩
  have Fsab := Lib.hid (show FitZ sab by rw [hsab]; exact (hx.add hy).fit (by decide))
  obtain ⟨sbc, hsbc⟩ : ∃ s, s = y + z := ⟨_, rfl⟩
  have Fsbc := Lib.hid (show FitZ sbc by rw [hsbc]; exact (hy.add hz).fit (by decide))
  obtain ⟨sabc, hsabc⟩ : ∃ s, s = x + y + z := ⟨_, rfl⟩
  have Fsabc := Lib.hid (show FitZ sabc by rw [hsabc]; exact ((hx.add hy).add (hz.mono (by decide))).fit (by decide))
  obtain ⟨pab, hpab⟩ : ∃ s, s = x * y := ⟨_, rfl⟩
  have Fpab := Lib.hid (show FitZ pab by rw [hpab]; exact (hx.mul hy).fit (by decide))
  obtain ⟨pbc, hpbc⟩ : ∃ s, s = y * z := ⟨_, rfl⟩
  have Fpbc := Lib.hid (show FitZ pbc by rw [hpbc]; exact (hy.mul hz).fit (by decide))
  obtain ⟨pac, hpac⟩ : ∃ s, s = x * z := ⟨_, rfl⟩
  have Fpac := Lib.hid (show FitZ pac by rw [hpac]; exact (hx.mul hz).fit (by decide))
  obtain ⟨pabc, hpabc⟩ : ∃ s, s = x * y * z := ⟨_, rfl⟩
  have Fpabc := Lib.hid (show FitZ pabc by rw [hpabc]; exact ((hx.mul hy).mul hz).fit (by decide))
  obtain ⟨m, hm⟩ : ∃ s, s = x * (y + z) := ⟨_, rfl⟩
  have Fm := Lib.hid (show FitZ m by rw [hm]; exact (hx.mul (hy.add hz)).fit (by decide))
  obtain ⟨ny, hny⟩ : ∃ s, s = -y := ⟨_, rfl⟩
  have Fny := Lib.hid (show FitZ ny by rw [hny]; exact (hy.neg).fit (by decide))
  obtain ⟨d, hd⟩ : ∃ s, s = x - y := ⟨_, rfl⟩
  have Fd := Lib.hid (show FitZ d by rw [hd]; exact (hx.sub hy).fit (by decide))
  have E1 := Lib.hid (show x + y = sab from hsab.symm)
  have E2 := Lib.hid (show y + x = sab  by rw [hsab, Int.add_comm])
  have E3 := Lib.hid (show sab + z = sabc  by rw [hsab, hsabc])
  have E4 := Lib.hid (show y + z = sbc from hsbc.symm)
  have E5 := Lib.hid (show x + sbc = sabc  by rw [hsbc, hsabc, Int.add_assoc])
  have E6 := Lib.hid (show x * y = pab from hpab.symm)
  have E7 := Lib.hid (show y * x = pab  by rw [hpab, Int.mul_comm])
  have E8 := Lib.hid (show pab * z = pabc  by rw [hpab, hpabc])
  have E9 := Lib.hid (show y * z = pbc from hpbc.symm)
  have E10 := Lib.hid (show x * pbc = pabc  by rw [hpbc, hpabc, Int.mul_assoc])
  have E11 := Lib.hid (show x * sbc = m  by rw [hsbc, hm])
  have E12 := Lib.hid (show x * z = pac from hpac.symm)
  have E13 := Lib.hid (show pab + pac = m  by rw [hpab, hpac, hm, Int.mul_add])
  have E14 := Lib.hid (show -y = ny from hny.symm)
  have E15 := Lib.hid (show x - y = d from hd.symm)
  have E16 := Lib.hid (show y + ny = 0  by omega)
  have E17 := Lib.hid (show x + ny = d  by omega)
  have E18 := Lib.hid (show ny * (-1) = y  by rw [hny]; omega)
  have SA := Lib.hid sa
  have SB := Lib.hid sb
  have SC := Lib.hid sc
  clear hx hy hz hsab hsbc hsabc hpab hpbc hpac hpabc hm hny hd sa sb sc
  go_enter Tryz.func9, Tryz.ntmps9
  go_wp2_with fail
  refine (iawake _ HT.out).mono ?_
  rintro e w1 ⟨rfl, hb1⟩
  have HB1 := Lib.hid (hb1.alloc hb1.size (.cells #[.string (Sz x), .string (Sz y), .string (Sz z)] 9))
  have hc := strs_cells3 w1 (Sz x) (Sz y) (Sz z)
  have HLo := Lib.hid (long3_no w1.heap.size (Sz x) (Sz y) (Sz z) _ SA.out SB.out SC.out hc)
  clear hb1 hc
  go_wp2_with fail
  refine HLo.out.mono ?_
  rintro e w' ⟨rfl, rfl⟩
  go_wp2_with fail
  refine (zValid_yes x FX.out _ (HT.out.on HB1.out).zz).mono ?_
  rintro e w2 ⟨rfl, hb⟩
  have HB2 := Lib.hid (HB1.out.trans (hb.mono HB1.out.size))
  clear hb
  go_wp2_with fail
  refine (zValid_yes y FY.out _ (HT.out.on HB2.out).zz).mono ?_
  rintro e w3 ⟨rfl, hb⟩
  have HB3 := Lib.hid (HB2.out.trans (hb.mono HB2.out.size))
  clear hb
  go_wp2_with fail
  refine (zValid_yes z FZ.out _ (HT.out.on HB3.out).zz).mono ?_
  rintro e w4 ⟨rfl, hb⟩
  have HB4 := Lib.hid (HB3.out.trans (hb.mono HB3.out.size))
  clear hb
  go_wp2_with fail
  refine (zNegV y ny E14.out FY.out _ (HT.out.on HB4.out)).mono ?_
  rintro e w5 ⟨rfl, hb⟩
  have HB5 := Lib.hid (HB4.out.trans (hb.mono HB4.out.size))
  clear hb
  go_wp2_with fail
  refine (zSub x y d E15.out FX.out FY.out Fd.out _ (HT.out.on HB5.out)).mono ?_
  rintro e w6 ⟨rfl, hb⟩
  have HB6 := Lib.hid (HB5.out.trans (hb.mono HB5.out.size))
  clear hb
  go_wp2_with fail
  refine (iringAdd x y sab E1.out FX.out FY.out Fsab.out _ (HT.out.on HB6.out)).mono ?_
  rintro e w7 ⟨rfl, hb⟩
  have HB7 := Lib.hid (HB6.out.trans (hb.mono HB6.out.size))
  clear hb
  go_wp2_with fail
  refine (iringAdd y x sab E2.out FY.out FX.out Fsab.out _ (HT.out.on HB7.out)).mono ?_
  rintro e w8 ⟨rfl, hb⟩
  have HB8 := Lib.hid (HB7.out.trans (hb.mono HB7.out.size))
  clear hb
  go_wp2_with fail
  refine (iringAdd x y sab E1.out FX.out FY.out Fsab.out _ (HT.out.on HB8.out)).mono ?_
  rintro e w9 ⟨rfl, hb⟩
  have HB9 := Lib.hid (HB8.out.trans (hb.mono HB8.out.size))
  clear hb
  go_wp2_with fail
  refine (iringAdd sab z sabc E3.out Fsab.out FZ.out Fsabc.out _ (HT.out.on HB9.out)).mono ?_
  rintro e w10 ⟨rfl, hb⟩
  have HB10 := Lib.hid (HB9.out.trans (hb.mono HB9.out.size))
  clear hb
  go_wp2_with fail
  refine (iringAdd y z sbc E4.out FY.out FZ.out Fsbc.out _ (HT.out.on HB10.out)).mono ?_
  rintro e w11 ⟨rfl, hb⟩
  have HB11 := Lib.hid (HB10.out.trans (hb.mono HB10.out.size))
  clear hb
  go_wp2_with fail
  refine (iringAdd x sbc sabc E5.out FX.out Fsbc.out Fsabc.out _ (HT.out.on HB11.out)).mono ?_
  rintro e w12 ⟨rfl, hb⟩
  have HB12 := Lib.hid (HB11.out.trans (hb.mono HB11.out.size))
  clear hb
  go_wp2_with fail
  refine (iringMul x y pab E6.out FX.out FY.out Fpab.out _ (HT.out.on HB12.out)).mono ?_
  rintro e w13 ⟨rfl, hb⟩
  have HB13 := Lib.hid (HB12.out.trans (hb.mono HB12.out.size))
  clear hb
  go_wp2_with fail
  refine (iringMul y x pab E7.out FY.out FX.out Fpab.out _ (HT.out.on HB13.out)).mono ?_
  rintro e w14 ⟨rfl, hb⟩
  have HB14 := Lib.hid (HB13.out.trans (hb.mono HB13.out.size))
  clear hb
  go_wp2_with fail
  refine (iringMul x y pab E6.out FX.out FY.out Fpab.out _ (HT.out.on HB14.out)).mono ?_
  rintro e w15 ⟨rfl, hb⟩
  have HB15 := Lib.hid (HB14.out.trans (hb.mono HB14.out.size))
  clear hb
  go_wp2_with fail
  refine (iringMul pab z pabc E8.out Fpab.out FZ.out Fpabc.out _ (HT.out.on HB15.out)).mono ?_
  rintro e w16 ⟨rfl, hb⟩
  have HB16 := Lib.hid (HB15.out.trans (hb.mono HB15.out.size))
  clear hb
  go_wp2_with fail
  refine (iringMul y z pbc E9.out FY.out FZ.out Fpbc.out _ (HT.out.on HB16.out)).mono ?_
  rintro e w17 ⟨rfl, hb⟩
  have HB17 := Lib.hid (HB16.out.trans (hb.mono HB16.out.size))
  clear hb
  go_wp2_with fail
  refine (iringMul x pbc pabc E10.out FX.out Fpbc.out Fpabc.out _ (HT.out.on HB17.out)).mono ?_
  rintro e w18 ⟨rfl, hb⟩
  have HB18 := Lib.hid (HB17.out.trans (hb.mono HB17.out.size))
  clear hb
  go_wp2_with fail
  refine (iringAdd y z sbc E4.out FY.out FZ.out Fsbc.out _ (HT.out.on HB18.out)).mono ?_
  rintro e w19 ⟨rfl, hb⟩
  have HB19 := Lib.hid (HB18.out.trans (hb.mono HB18.out.size))
  clear hb
  go_wp2_with fail
  refine (iringMul x sbc m E11.out FX.out Fsbc.out Fm.out _ (HT.out.on HB19.out)).mono ?_
  rintro e w20 ⟨rfl, hb⟩
  have HB20 := Lib.hid (HB19.out.trans (hb.mono HB19.out.size))
  clear hb
  go_wp2_with fail
  refine (iringMul x y pab E6.out FX.out FY.out Fpab.out _ (HT.out.on HB20.out)).mono ?_
  rintro e w21 ⟨rfl, hb⟩
  have HB21 := Lib.hid (HB20.out.trans (hb.mono HB20.out.size))
  clear hb
  go_wp2_with fail
  refine (iringMul x z pac E12.out FX.out FZ.out Fpac.out _ (HT.out.on HB21.out)).mono ?_
  rintro e w22 ⟨rfl, hb⟩
  have HB22 := Lib.hid (HB21.out.trans (hb.mono HB21.out.size))
  clear hb
  go_wp2_with fail
  refine (iringAdd pab pac m E13.out Fpab.out Fpac.out Fm.out _ (HT.out.on HB22.out)).mono ?_
  rintro e w23 ⟨rfl, hb⟩
  have HB23 := Lib.hid (HB22.out.trans (hb.mono HB22.out.size))
  clear hb
  go_wp2_with fail
  refine (iringAdd0 y ny E16.out FY.out Fny.out _ (HT.out.on HB23.out)).mono ?_
  rintro e w24 ⟨rfl, hb⟩
  have HB24 := Lib.hid (HB23.out.trans (hb.mono HB23.out.size))
  clear hb
  go_wp2_with fail
  refine (iringAdd x ny d E17.out FX.out Fny.out Fd.out _ (HT.out.on HB24.out)).mono ?_
  rintro e w25 ⟨rfl, hb⟩
  have HB25 := Lib.hid (HB24.out.trans (hb.mono HB24.out.size))
  clear hb
  go_wp2_with fail
  refine (iringMulM ny y E18.out Fny.out FY.out _ (HT.out.on HB25.out)).mono ?_
  rintro e w26 ⟨rfl, hb⟩
  have HB26 := Lib.hid (HB25.out.trans (hb.mono HB25.out.size))
  clear hb
  go_wp2_with fail
  refine (zValid_yes d Fd.out _ (HT.out.on HB26.out).zz).mono ?_
  rintro e w27 ⟨rfl, hb⟩
  have HB27 := Lib.hid (HB26.out.trans (hb.mono HB26.out.size))
  clear hb
  go_wp2
  go_ret
  exact ⟨rfl, HB27.out⟩

theorem iring_any (a b c : ByteArray) (w : World) (hl : La w) :
    Calls Tryz.prog 9 #[.string a, .string b, .string c] w fun e w' => e = .returned (.bool true) ∧ Below w.heap.size w w' := by
  by_cases hlo : 120 < a.size ∨ 120 < b.size ∨ 120 < c.size
  · exact iring_long a b c hlo w hl
  · have ha : a.size ≤ 120 := by omega
    have hb : b.size ≤ 120 := by omega
    have hc : c.size ≤ 120 := by omega
    clear hlo
    cases va : vldZ a.data.toList with
    | false => exact iring_no0 a b c ha hb hc va w hl
    | true =>
      have ea := sz_of va
      generalize zval a.data.toList = x at ea
      subst ea
      cases vb : vldZ b.data.toList with
      | false => exact iring_no1 x b c ha hb hc vb w hl
      | true =>
        have eb := sz_of vb
        generalize zval b.data.toList = y at eb
        subst eb
        cases vc : vldZ c.data.toList with
        | false => exact iring_no2 x y c ha hb hc vc w hl
        | true =>
          have ec := sz_of vc
          generalize zval c.data.toList = z at ec
          subst ec
          exact iring_yes x y z ha hb hc w hl

end Go.Proofs.YtpdchplppkfdhaaGreatDoor
