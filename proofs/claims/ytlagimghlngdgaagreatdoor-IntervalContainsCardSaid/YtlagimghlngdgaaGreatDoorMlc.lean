/- Texts of this proof, one behind the other. -/
import Derived.Test.YtlagimghlngdgaaGreatDoorVpk
import Derived.Test.YtlagimghlngdgaaGreatDoorVn
import Derived.Test.YtlagimghlngdgaaGreatDoorMfr
/- garboardlaw04.IntervalContains returns true: walks. -/
namespace Go.Proofs.YtlagimghlngdgaaGreatDoor
open Go.RowKit Go.Gb

set_option maxHeartbeats 8000000 in
set_option maxRecDepth 100000 in
theorem vcon_long (l1 h1 l2 h2 : ByteArray) (j k : Int) (hab : 40 < l1.size ∨ 40 < h1.size ∨ 40 < l2.size ∨ 40 < h2.size) (w : World) (hl : La w) :
    Calls Tryz.prog 7 #[.agg #[.string l1, .string h1], .agg #[.string l2, .string h2], .int .u8 j, .int .u8 k] w fun e w' => e = .returned (.bool true) ∧ Below w.heap.size w w' := by
  have HW := Lib.hid hab
  clear hab
  have HT := Lib.hid hl
  clear hl
  have HB0 := Lib.hid (Below.refl w.heap.size w)
  have HB1 := Lib.hid (HB0.out.trans ((below_alloc w (.cells #[.string l1, .string h1] 48)).mono HB0.out.size))
  have Va_1 := Lib.hid (iv_boxg (W := w) (g := w.heap.size) (by simp) l1 h1)
  have HB2 := Lib.hid (HB1.out.trans ((below_alloc (w.alloc (.cells #[.string l1, .string h1] 48)) (.cells #[.string l2, .string h2] 48)).mono HB1.out.size))
  have Va_2 := Lib.hid (Va_1.out.al (.cells #[.string l2, .string h2] 48))
  clear Va_1
  have Vb_2 := Lib.hid (iv_boxg (W := (w.alloc (.cells #[.string l1, .string h1] 48))) (g := w.heap.size + 1) (by simp) l2 h2)
  go_enter Tryz.func7, Tryz.ntmps7
  go_wp2_with fail
  refine (vawake _ (HT.out.on HB2.out)).mono ?_
  rintro e w1 ⟨rfl, hb⟩
  have HB3 := Lib.hid (HB2.out.trans ((hb).mono HB2.out.size))
  have Va_3 := Lib.hid (Va_2.out.mono hb)
  have Vb_3 := Lib.hid (Vb_2.out.mono hb)
  clear Va_2 Vb_2
  clear hb
  obtain ⟨za, ac0, ac1⟩ := Va_3.out
  obtain ⟨zb, bc0, bc1⟩ := Vb_3.out
  have HB4 := Lib.hid (HB3.out.trans ((below_alloc w1 (.cells #[.string l1, .string h1, .string l2, .string h2] 48)).mono HB3.out.size))
  have Va_4 := Lib.hid (Va_3.out.al (.cells #[.string l1, .string h1, .string l2, .string h2] 48))
  have Vb_4 := Lib.hid (Vb_3.out.al (.cells #[.string l1, .string h1, .string l2, .string h2] 48))
  clear Va_3 Vb_3
  have hc := ivs_cells2 w1 l1 h1 l2 h2
  go_wp2_with fail
  clear za ac0 ac1 zb bc0 bc1
  refine (wide2_yes (w1.heap.size) l1 h1 l2 h2 _ HW.out (by simp) hc).mono ?_
  rintro e w2 ⟨rfl, hb⟩
  have HB5 := Lib.hid (HB4.out.trans ((hb).mono HB4.out.size))
  have Va_5 := Lib.hid (Va_4.out.mono hb)
  have Vb_5 := Lib.hid (Vb_4.out.mono hb)
  clear Va_4 Vb_4
  clear hb
  clear hc
  go_wp2_with fail
  refine (vawake _ (HT.out.on HB5.out)).mono ?_
  rintro e w3 ⟨rfl, hb⟩
  have HB6 := Lib.hid (HB5.out.trans ((hb).mono HB5.out.size))
  have Va_6 := Lib.hid (Va_5.out.mono hb)
  have Vb_6 := Lib.hid (Vb_5.out.mono hb)
  clear Va_5 Vb_5
  clear hb
  go_wp2
  go_ret
  exact ⟨rfl, HB6.out⟩

set_option maxHeartbeats 8000000 in
set_option maxRecDepth 100000 in
theorem vcon_no1 (l1 h1 l2 h2 : ByteArray) (j k : Int) (s0 : l1.size ≤ 40 ∧ h1.size ≤ 40) (s1 : l2.size ≤ 40 ∧ h2.size ≤ 40) (g1 : ∀ W, La W → Calls Tryz.prog 34 #[.agg #[.string l1, .string h1]] W fun e w' => e = .returned (.bool false) ∧ Below W.heap.size W w') (w : World) (hl : La w) :
    Calls Tryz.prog 7 #[.agg #[.string l1, .string h1], .agg #[.string l2, .string h2], .int .u8 j, .int .u8 k] w fun e w' => e = .returned (.bool true) ∧ Below w.heap.size w w' := by
  have SZ0 := Lib.hid s0
  clear s0
  have SZ1 := Lib.hid s1
  clear s1
  have G1 := Lib.hid g1
  clear g1
  have HT := Lib.hid hl
  clear hl
  have HB0 := Lib.hid (Below.refl w.heap.size w)
  have HB1 := Lib.hid (HB0.out.trans ((below_alloc w (.cells #[.string l1, .string h1] 48)).mono HB0.out.size))
  have Va_1 := Lib.hid (iv_boxg (W := w) (g := w.heap.size) (by simp) l1 h1)
  have HB2 := Lib.hid (HB1.out.trans ((below_alloc (w.alloc (.cells #[.string l1, .string h1] 48)) (.cells #[.string l2, .string h2] 48)).mono HB1.out.size))
  have Va_2 := Lib.hid (Va_1.out.al (.cells #[.string l2, .string h2] 48))
  clear Va_1
  have Vb_2 := Lib.hid (iv_boxg (W := (w.alloc (.cells #[.string l1, .string h1] 48))) (g := w.heap.size + 1) (by simp) l2 h2)
  go_enter Tryz.func7, Tryz.ntmps7
  go_wp2_with fail
  refine (vawake _ (HT.out.on HB2.out)).mono ?_
  rintro e w1 ⟨rfl, hb⟩
  have HB3 := Lib.hid (HB2.out.trans ((hb).mono HB2.out.size))
  have Va_3 := Lib.hid (Va_2.out.mono hb)
  have Vb_3 := Lib.hid (Vb_2.out.mono hb)
  clear Va_2 Vb_2
  clear hb
  obtain ⟨za, ac0, ac1⟩ := Va_3.out
  obtain ⟨zb, bc0, bc1⟩ := Vb_3.out
  have HB4 := Lib.hid (HB3.out.trans ((below_alloc w1 (.cells #[.string l1, .string h1, .string l2, .string h2] 48)).mono HB3.out.size))
  have Va_4 := Lib.hid (Va_3.out.al (.cells #[.string l1, .string h1, .string l2, .string h2] 48))
  have Vb_4 := Lib.hid (Vb_3.out.al (.cells #[.string l1, .string h1, .string l2, .string h2] 48))
  clear Va_3 Vb_3
  have hc := ivs_cells2 w1 l1 h1 l2 h2
  go_wp2_with fail
  clear za ac0 ac1 zb bc0 bc1
  refine (wide2_small (w1.heap.size) l1 h1 l2 h2 _ SZ0.out SZ1.out (by simp) hc).mono ?_
  rintro e w2 ⟨rfl, hb⟩
  have HB5 := Lib.hid (HB4.out.trans ((hb).mono HB4.out.size))
  have Va_5 := Lib.hid (Va_4.out.mono hb)
  have Vb_5 := Lib.hid (Vb_4.out.mono hb)
  clear Va_4 Vb_4
  clear hb
  clear hc
  obtain ⟨za, ac0, ac1⟩ := Va_5.out
  go_wp2_with fail
  clear za ac0 ac1
  refine (G1.out _ (HT.out.on HB5.out)).mono ?_
  rintro e w3 ⟨rfl, hb⟩
  have HB6 := Lib.hid (HB5.out.trans ((hb).mono HB5.out.size))
  have Va_6 := Lib.hid (Va_5.out.mono hb)
  have Vb_6 := Lib.hid (Vb_5.out.mono hb)
  clear Va_5 Vb_5
  clear hb
  go_wp2_with fail
  refine (vawake _ (HT.out.on HB6.out)).mono ?_
  rintro e w4 ⟨rfl, hb⟩
  have HB7 := Lib.hid (HB6.out.trans ((hb).mono HB6.out.size))
  have Va_7 := Lib.hid (Va_6.out.mono hb)
  have Vb_7 := Lib.hid (Vb_6.out.mono hb)
  clear Va_6 Vb_6
  clear hb
  go_wp2
  go_ret
  exact ⟨rfl, HB7.out⟩

set_option maxHeartbeats 8000000 in
set_option maxRecDepth 100000 in
theorem vcon_no2 (l1 h1 l2 h2 : ByteArray) (j k : Int) (s0 : l1.size ≤ 40 ∧ h1.size ≤ 40) (s1 : l2.size ≤ 40 ∧ h2.size ≤ 40) (g1 : ∀ W, La W → Calls Tryz.prog 34 #[.agg #[.string l1, .string h1]] W fun e w' => e = .returned (.bool true) ∧ Below W.heap.size W w') (g2 : ∀ W, La W → Calls Tryz.prog 34 #[.agg #[.string l2, .string h2]] W fun e w' => e = .returned (.bool false) ∧ Below W.heap.size W w') (w : World) (hl : La w) :
    Calls Tryz.prog 7 #[.agg #[.string l1, .string h1], .agg #[.string l2, .string h2], .int .u8 j, .int .u8 k] w fun e w' => e = .returned (.bool true) ∧ Below w.heap.size w w' := by
  have SZ0 := Lib.hid s0
  clear s0
  have SZ1 := Lib.hid s1
  clear s1
  have G1 := Lib.hid g1
  have G2 := Lib.hid g2
  clear g1 g2
  have HT := Lib.hid hl
  clear hl
  have HB0 := Lib.hid (Below.refl w.heap.size w)
  have HB1 := Lib.hid (HB0.out.trans ((below_alloc w (.cells #[.string l1, .string h1] 48)).mono HB0.out.size))
  have Va_1 := Lib.hid (iv_boxg (W := w) (g := w.heap.size) (by simp) l1 h1)
  have HB2 := Lib.hid (HB1.out.trans ((below_alloc (w.alloc (.cells #[.string l1, .string h1] 48)) (.cells #[.string l2, .string h2] 48)).mono HB1.out.size))
  have Va_2 := Lib.hid (Va_1.out.al (.cells #[.string l2, .string h2] 48))
  clear Va_1
  have Vb_2 := Lib.hid (iv_boxg (W := (w.alloc (.cells #[.string l1, .string h1] 48))) (g := w.heap.size + 1) (by simp) l2 h2)
  go_enter Tryz.func7, Tryz.ntmps7
  go_wp2_with fail
  refine (vawake _ (HT.out.on HB2.out)).mono ?_
  rintro e w1 ⟨rfl, hb⟩
  have HB3 := Lib.hid (HB2.out.trans ((hb).mono HB2.out.size))
  have Va_3 := Lib.hid (Va_2.out.mono hb)
  have Vb_3 := Lib.hid (Vb_2.out.mono hb)
  clear Va_2 Vb_2
  clear hb
  obtain ⟨za, ac0, ac1⟩ := Va_3.out
  obtain ⟨zb, bc0, bc1⟩ := Vb_3.out
  have HB4 := Lib.hid (HB3.out.trans ((below_alloc w1 (.cells #[.string l1, .string h1, .string l2, .string h2] 48)).mono HB3.out.size))
  have Va_4 := Lib.hid (Va_3.out.al (.cells #[.string l1, .string h1, .string l2, .string h2] 48))
  have Vb_4 := Lib.hid (Vb_3.out.al (.cells #[.string l1, .string h1, .string l2, .string h2] 48))
  clear Va_3 Vb_3
  have hc := ivs_cells2 w1 l1 h1 l2 h2
  go_wp2_with fail
  clear za ac0 ac1 zb bc0 bc1
  refine (wide2_small (w1.heap.size) l1 h1 l2 h2 _ SZ0.out SZ1.out (by simp) hc).mono ?_
  rintro e w2 ⟨rfl, hb⟩
  have HB5 := Lib.hid (HB4.out.trans ((hb).mono HB4.out.size))
  have Va_5 := Lib.hid (Va_4.out.mono hb)
  have Vb_5 := Lib.hid (Vb_4.out.mono hb)
  clear Va_4 Vb_4
  clear hb
  clear hc
  obtain ⟨za, ac0, ac1⟩ := Va_5.out
  go_wp2_with fail
  clear za ac0 ac1
  refine (G1.out _ (HT.out.on HB5.out)).mono ?_
  rintro e w3 ⟨rfl, hb⟩
  have HB6 := Lib.hid (HB5.out.trans ((hb).mono HB5.out.size))
  have Va_6 := Lib.hid (Va_5.out.mono hb)
  have Vb_6 := Lib.hid (Vb_5.out.mono hb)
  clear Va_5 Vb_5
  clear hb
  obtain ⟨zb, bc0, bc1⟩ := Vb_6.out
  go_wp2_with fail
  clear zb bc0 bc1
  refine (G2.out _ (HT.out.on HB6.out)).mono ?_
  rintro e w4 ⟨rfl, hb⟩
  have HB7 := Lib.hid (HB6.out.trans ((hb).mono HB6.out.size))
  have Va_7 := Lib.hid (Va_6.out.mono hb)
  have Vb_7 := Lib.hid (Vb_6.out.mono hb)
  clear Va_6 Vb_6
  clear hb
  go_wp2_with fail
  refine (vawake _ (HT.out.on HB7.out)).mono ?_
  rintro e w5 ⟨rfl, hb⟩
  have HB8 := Lib.hid (HB7.out.trans ((hb).mono HB7.out.size))
  have Va_8 := Lib.hid (Va_7.out.mono hb)
  have Vb_8 := Lib.hid (Vb_7.out.mono hb)
  clear Va_7 Vb_7
  clear hb
  go_wp2
  go_ret
  exact ⟨rfl, HB8.out⟩

set_option maxHeartbeats 8000000 in
set_option maxRecDepth 100000 in
theorem vcon_zero (a1 a2 b1 b2 : Rat) (j k : Int) (hj0 : 0 ≤ j) (hj1 : j ≤ 255) (hk0 : 0 ≤ k) (hk1 : k ≤ 255) (ha : a1 ≤ a2) (hb : b1 ≤ b2) (s0 : (Sq a1).size ≤ 40 ∧ (Sq a2).size ≤ 40) (s1 : (Sq b1).size ≤ 40 ∧ (Sq b2).size ≤ 40) (hz : decide (b1 ≤ 0 ∧ 0 ≤ b2) = true) (w : World) (hl : La w) :
    Calls Tryz.prog 7 #[.agg #[.string (Sq a1), .string (Sq a2)], .agg #[.string (Sq b1), .string (Sq b2)], .int .u8 j, .int .u8 k] w fun e w' => e = .returned (.bool true) ∧ Below w.heap.size w w' := by
  have SZ0 := Lib.hid s0
  clear s0
  have SZ1 := Lib.hid s1
  clear s1
  have m1 := smq_of SZ0.out.1 (by decide)
  have m2 := smq_of SZ0.out.2 (by decide)
  have n1 := smq_of SZ1.out.1 (by decide)
  have n2 := smq_of SZ1.out.2 (by decide)
  have HA := Lib.hid ha
  have HB := Lib.hid hb
  have HJ := Lib.hid (And.intro hj0 hj1)
  have HK := Lib.hid (And.intro hk0 hk1)
  have HZ := Lib.hid hz
  obtain ⟨px, hpx, px1, px2, mx⟩ := pick_in a1 a2 j hj0 hj1 ha m1 m2
  obtain ⟨py, hpy, py1, py2, my⟩ := pick_in b1 b2 k hk0 hk1 hb n1 n2
  have PX := Lib.hid hpx
  have PY := Lib.hid hpy
  clear hj0 hj1 hk0 hk1 hpx hpy
  obtain ⟨s, hs⟩ : ∃ s, s = px + py := ⟨_, rfl⟩
  have Fs := Lib.hid (show FitQ s by rw [hs]; exact (mx.add my).fit (by decide))
  have Es := Lib.hid hs.symm
  obtain ⟨d, hd⟩ : ∃ s, s = px - py := ⟨_, rfl⟩
  have Fd := Lib.hid (show FitQ d by rw [hd]; exact (mx.sub my).fit (by decide))
  have Ed := Lib.hid hd.symm
  obtain ⟨p, hp⟩ : ∃ s, s = px * py := ⟨_, rfl⟩
  have Fp := Lib.hid (show FitQ p by rw [hp]; exact (mx.mul my).fit (by decide))
  have Ep := Lib.hid hp.symm
  obtain ⟨q, hq⟩ : ∃ s, s = px * px := ⟨_, rfl⟩
  have Fq := Lib.hid (show FitQ q by rw [hq]; exact (mx.mul mx).fit (by decide))
  have Eq := Lib.hid hq.symm
  obtain ⟨u1, hu1⟩ : ∃ s, s = a1 + b1 := ⟨_, rfl⟩
  have Fu1 := Lib.hid (show FitQ u1 by rw [hu1]; exact (m1.add n1).fit (by decide))
  have Eu1 := Lib.hid hu1.symm
  obtain ⟨u2, hu2⟩ : ∃ s, s = a2 + b2 := ⟨_, rfl⟩
  have Fu2 := Lib.hid (show FitQ u2 by rw [hu2]; exact (m2.add n2).fit (by decide))
  have Eu2 := Lib.hid hu2.symm
  obtain ⟨v1, hv1⟩ : ∃ s, s = a1 - b2 := ⟨_, rfl⟩
  have Fv1 := Lib.hid (show FitQ v1 by rw [hv1]; exact (m1.sub n2).fit (by decide))
  have Ev1 := Lib.hid hv1.symm
  obtain ⟨v2, hv2⟩ : ∃ s, s = a2 - b1 := ⟨_, rfl⟩
  have Fv2 := Lib.hid (show FitQ v2 by rw [hv2]; exact (m2.sub n1).fit (by decide))
  have Ev2 := Lib.hid hv2.symm
  obtain ⟨p0, hp0⟩ : ∃ s, s = a1 * b1 := ⟨_, rfl⟩
  have Fp0 := Lib.hid (show FitQ p0 by rw [hp0]; exact (m1.mul n1).fit (by decide))
  have Ep0 := Lib.hid hp0.symm
  obtain ⟨p1, hp1⟩ : ∃ s, s = a1 * b2 := ⟨_, rfl⟩
  have Fp1 := Lib.hid (show FitQ p1 by rw [hp1]; exact (m1.mul n2).fit (by decide))
  have Ep1 := Lib.hid hp1.symm
  obtain ⟨p2, hp2⟩ : ∃ s, s = a2 * b1 := ⟨_, rfl⟩
  have Fp2 := Lib.hid (show FitQ p2 by rw [hp2]; exact (m2.mul n1).fit (by decide))
  have Ep2 := Lib.hid hp2.symm
  obtain ⟨p3, hp3⟩ : ∃ s, s = a2 * b2 := ⟨_, rfl⟩
  have Fp3 := Lib.hid (show FitQ p3 by rw [hp3]; exact (m2.mul n2).fit (by decide))
  have Ep3 := Lib.hid hp3.symm
  obtain ⟨q1, hq1⟩ : ∃ s, s = a1 * a1 := ⟨_, rfl⟩
  have Fq1 := Lib.hid (show FitQ q1 by rw [hq1]; exact (m1.mul m1).fit (by decide))
  have Eq1 := Lib.hid hq1.symm
  obtain ⟨q2, hq2⟩ : ∃ s, s = a2 * a2 := ⟨_, rfl⟩
  have Fq2 := Lib.hid (show FitQ q2 by rw [hq2]; exact (m2.mul m2).fit (by decide))
  have Eq2 := Lib.hid hq2.symm
  have Fa1 := Lib.hid (m1.fit (by decide))
  have Fa2 := Lib.hid (m2.fit (by decide))
  have Fb1 := Lib.hid (n1.fit (by decide))
  have Fb2 := Lib.hid (n2.fit (by decide))
  have Fpx := Lib.hid (mx.fit (by decide))
  have Fpy := Lib.hid (my.fit (by decide))
  have FW := Lib.hid (fit_row4 Fp0.out Fp1.out Fp2.out Fp3.out)
  have FZ := Lib.hid (show FitQ (sqI a1 a2).1 ∧ FitQ (sqI a1 a2).2 from fit_sqI (by rw [← hq1]; exact Fq1.out) (by rw [← hq2]; exact Fq2.out))
  have I1 := Lib.hid (show decide (a1 ≤ px ∧ px ≤ a2) = true by rw [decide_eq_true_iff]; exact ⟨px1, px2⟩)
  have I2 := Lib.hid (show decide (b1 ≤ py ∧ py ≤ b2) = true by rw [decide_eq_true_iff]; exact ⟨py1, py2⟩)
  have I3 := Lib.hid (show decide (u1 ≤ s ∧ s ≤ u2) = true by rw [decide_eq_true_iff]; rw [hu1, hu2, hs]; constructor <;> grind)
  have I4 := Lib.hid (show decide (v1 ≤ d ∧ d ≤ v2) = true by rw [decide_eq_true_iff]; rw [hv1, hv2, hd]; constructor <;> grind)
  have I5 := Lib.hid (show decide ((exOf (row4 p0 p1 p2 p3) 3).1 ≤ p ∧ p ≤ (exOf (row4 p0 p1 p2 p3) 3).2) = true by rw [decide_eq_true_iff]; rw [hp, hp0, hp1, hp2, hp3]; exact mul_in px1 px2 py1 py2)
  have I6 := Lib.hid (show decide ((sqI a1 a2).1 ≤ q ∧ q ≤ (sqI a1 a2).2) = true by rw [decide_eq_true_iff]; rw [hq]; exact sq_in px1 px2)
  have O3 := Lib.hid (show u1 ≤ u2 by rw [hu1, hu2]; grind)
  have O4 := Lib.hid (show v1 ≤ v2 by rw [hv1, hv2]; grind)
  clear ha hb hz m1 m2 n1 n2 mx my px1 px2 py1 py2 hs hd hp hq hu1 hu2 hv1 hv2 hp0 hp1 hp2 hp3 hq1 hq2
  have HT := Lib.hid hl
  clear hl
  have HB0 := Lib.hid (Below.refl w.heap.size w)
  have HB1 := Lib.hid (HB0.out.trans ((below_alloc w (.cells #[.string (Sq a1), .string (Sq a2)] 48)).mono HB0.out.size))
  have Va_1 := Lib.hid (iv_boxg (W := w) (g := w.heap.size) (by simp) (Sq a1) (Sq a2))
  have HB2 := Lib.hid (HB1.out.trans ((below_alloc (w.alloc (.cells #[.string (Sq a1), .string (Sq a2)] 48)) (.cells #[.string (Sq b1), .string (Sq b2)] 48)).mono HB1.out.size))
  have Va_2 := Lib.hid (Va_1.out.al (.cells #[.string (Sq b1), .string (Sq b2)] 48))
  clear Va_1
  have Vb_2 := Lib.hid (iv_boxg (W := (w.alloc (.cells #[.string (Sq a1), .string (Sq a2)] 48))) (g := w.heap.size + 1) (by simp) (Sq b1) (Sq b2))
  go_enter Tryz.func7, Tryz.ntmps7
  go_wp2_with fail
  refine (vawake _ (HT.out.on HB2.out)).mono ?_
  rintro e w1 ⟨rfl, hb⟩
  have HB3 := Lib.hid (HB2.out.trans ((hb).mono HB2.out.size))
  have Va_3 := Lib.hid (Va_2.out.mono hb)
  have Vb_3 := Lib.hid (Vb_2.out.mono hb)
  clear Va_2 Vb_2
  clear hb
  obtain ⟨za, ac0, ac1⟩ := Va_3.out
  obtain ⟨zb, bc0, bc1⟩ := Vb_3.out
  have HB4 := Lib.hid (HB3.out.trans ((below_alloc w1 (.cells #[.string (Sq a1), .string (Sq a2), .string (Sq b1), .string (Sq b2)] 48)).mono HB3.out.size))
  have Va_4 := Lib.hid (Va_3.out.al (.cells #[.string (Sq a1), .string (Sq a2), .string (Sq b1), .string (Sq b2)] 48))
  have Vb_4 := Lib.hid (Vb_3.out.al (.cells #[.string (Sq a1), .string (Sq a2), .string (Sq b1), .string (Sq b2)] 48))
  clear Va_3 Vb_3
  have hc := ivs_cells2 w1 (Sq a1) (Sq a2) (Sq b1) (Sq b2)
  go_wp2_with fail
  clear za ac0 ac1 zb bc0 bc1
  refine (wide2_small (w1.heap.size) (Sq a1) (Sq a2) (Sq b1) (Sq b2) _ SZ0.out SZ1.out (by simp) hc).mono ?_
  rintro e w2 ⟨rfl, hb⟩
  have HB5 := Lib.hid (HB4.out.trans ((hb).mono HB4.out.size))
  have Va_5 := Lib.hid (Va_4.out.mono hb)
  have Vb_5 := Lib.hid (Vb_4.out.mono hb)
  clear Va_4 Vb_4
  clear hb
  clear hc
  obtain ⟨za, ac0, ac1⟩ := Va_5.out
  go_wp2_with fail
  clear za ac0 ac1
  refine (xValid_yes a1 a2 HA.out Fa1.out Fa2.out _ (HT.out.on HB5.out)).mono ?_
  rintro e w3 ⟨rfl, hb⟩
  have HB6 := Lib.hid (HB5.out.trans ((hb).mono HB5.out.size))
  have Va_6 := Lib.hid (Va_5.out.mono hb)
  have Vb_6 := Lib.hid (Vb_5.out.mono hb)
  clear Va_5 Vb_5
  clear hb
  obtain ⟨zb, bc0, bc1⟩ := Vb_6.out
  go_wp2_with fail
  clear zb bc0 bc1
  refine (xValid_yes b1 b2 HB.out Fb1.out Fb2.out _ (HT.out.on HB6.out)).mono ?_
  rintro e w4 ⟨rfl, hb⟩
  have HB7 := Lib.hid (HB6.out.trans ((hb).mono HB6.out.size))
  have Va_7 := Lib.hid (Va_6.out.mono hb)
  have Vb_7 := Lib.hid (Vb_6.out.mono hb)
  clear Va_6 Vb_6
  clear hb
  go_upto_region 3 with fail
  have KS := Lib.hid (show ∀ X : World, Below w4.heap.size w4 X → (X.cell? ⟨w.heap.size, 0, none⟩ = some (.string (Sq a1)) ∧ X.cell? ⟨w.heap.size, 1, none⟩ = some (.string (Sq a2)) ∧ X.cell? ⟨w.heap.size + 1, 0, none⟩ = some (.string (Sq b1)) ∧ X.cell? ⟨w.heap.size + 1, 1, none⟩ = some (.string (Sq b2))) from fun X hB => ⟨(Va_7.out.mono hB).2.1, (Va_7.out.mono hB).2.2, (Vb_7.out.mono hB).2.1, (Vb_7.out.mono hB).2.2⟩)
  have KT := Lib.hid (show ∀ X : World, Below w4.heap.size w4 X → La X from fun X hB => HT.out.on (HB7.out.trans (hB.mono HB7.out.size)))
  have F0 := Lib.hid (Below.refl w4.heap.size w4)
  obtain ⟨r0, r1, r2, r3⟩ := KS.out _ F0.out
  go_region_held3 (fun w' => w'.cell? ⟨w.heap.size, 0, none⟩ = some (.string (Sq a1)) ∧ w'.cell? ⟨w.heap.size, 1, none⟩ = some (.string (Sq a2)) ∧ w'.cell? ⟨w.heap.size + 1, 0, none⟩ = some (.string (Sq b1)) ∧ w'.cell? ⟨w.heap.size + 1, 1, none⟩ = some (.string (Sq b2))) (first | (with_reducible exact KS.out _ F2.out) | (with_reducible exact KS.out _ F2.out.drew) | (with_reducible exact KS.out _ F1.out) | (with_reducible exact KS.out _ F1.out.drew) | (with_reducible exact KS.out _ F0.out) | (with_reducible exact KS.out _ F0.out.drew))
    (first
      | (go_at_call 35; (with_reducible refine (pick_any a1 a2 px j HJ.out.1 HJ.out.2 PX.out SZ0.out.1 SZ0.out.2 _ ?la0).mono ?_); (case la0 => first | exact KT.out _ F0.out | exact KT.out _ F0.out.drew); rintro e w5 ⟨rfl, hb⟩; have F1 := Lib.hid (show Below w4.heap.size w4 w5 by first | exact fr_chain F0.out hb | exact fr_chain F0.out.drew hb); clear hb)
      | (go_at_call 35; (with_reducible refine (pick_any b1 b2 py k HK.out.1 HK.out.2 PY.out SZ1.out.1 SZ1.out.2 _ ?la1).mono ?_); (case la1 => first | exact KT.out _ F1.out | exact KT.out _ F1.out.drew); rintro e w6 ⟨rfl, hb⟩; have F2 := Lib.hid (show Below w4.heap.size w4 w6 by first | exact fr_chain F1.out hb | exact fr_chain F1.out.drew hb); clear hb)
      | fail)
  clear r0 r1 r2 r3
  have HB8 := Lib.hid (HB7.out.trans ((F2.out).mono HB7.out.size))
  have Va_8 := Lib.hid (Va_7.out.mono F2.out)
  have Vb_8 := Lib.hid (Vb_7.out.mono F2.out)
  clear Va_7 Vb_7
  clear F0 F1 F2
  obtain ⟨za, ac0, ac1⟩ := Va_8.out
  go_wp2_with fail
  clear za ac0 ac1
  refine (xHas a1 a2 px true I1.out HA.out Fa1.out Fa2.out Fpx.out _ (HT.out.on HB8.out)).mono ?_
  rintro e w7 ⟨rfl, hb⟩
  have HB9 := Lib.hid (HB8.out.trans ((hb).mono HB8.out.size))
  have Va_9 := Lib.hid (Va_8.out.mono hb)
  have Vb_9 := Lib.hid (Vb_8.out.mono hb)
  clear Va_8 Vb_8
  clear hb
  obtain ⟨zb, bc0, bc1⟩ := Vb_9.out
  go_wp2_with fail
  clear zb bc0 bc1
  refine (xHas b1 b2 py true I2.out HB.out Fb1.out Fb2.out Fpy.out _ (HT.out.on HB9.out)).mono ?_
  rintro e w8 ⟨rfl, hb⟩
  have HB10 := Lib.hid (HB9.out.trans ((hb).mono HB9.out.size))
  have Va_10 := Lib.hid (Va_9.out.mono hb)
  have Vb_10 := Lib.hid (Vb_9.out.mono hb)
  clear Va_9 Vb_9
  clear hb
  go_wp2_with fail
  refine (qAdd px py s Es.out Fpx.out Fpy.out _ (HT.out.on HB10.out)).mono ?_
  rintro e w9 ⟨rfl, hb⟩
  have HB11 := Lib.hid (HB10.out.trans ((hb).mono HB10.out.size))
  have Va_11 := Lib.hid (Va_10.out.mono hb)
  have Vb_11 := Lib.hid (Vb_10.out.mono hb)
  clear Va_10 Vb_10
  clear hb
  go_wp2_with fail
  refine (qSub px py d Ed.out Fpx.out Fpy.out _ (HT.out.on HB11.out)).mono ?_
  rintro e w10 ⟨rfl, hb⟩
  have HB12 := Lib.hid (HB11.out.trans ((hb).mono HB11.out.size))
  have Va_12 := Lib.hid (Va_11.out.mono hb)
  have Vb_12 := Lib.hid (Vb_11.out.mono hb)
  clear Va_11 Vb_11
  clear hb
  go_wp2_with fail
  refine (qMul px py p Ep.out Fpx.out Fpy.out _ (HT.out.on HB12.out)).mono ?_
  rintro e w11 ⟨rfl, hb⟩
  have HB13 := Lib.hid (HB12.out.trans ((hb).mono HB12.out.size))
  have Va_13 := Lib.hid (Va_12.out.mono hb)
  have Vb_13 := Lib.hid (Vb_12.out.mono hb)
  clear Va_12 Vb_12
  clear hb
  go_wp2_with fail
  refine (qMul px px q Eq.out Fpx.out Fpx.out _ (HT.out.on HB13.out)).mono ?_
  rintro e w12 ⟨rfl, hb⟩
  have HB14 := Lib.hid (HB13.out.trans ((hb).mono HB13.out.size))
  have Va_14 := Lib.hid (Va_13.out.mono hb)
  have Vb_14 := Lib.hid (Vb_13.out.mono hb)
  clear Va_13 Vb_13
  clear hb
  obtain ⟨za, ac0, ac1⟩ := Va_14.out
  obtain ⟨zb, bc0, bc1⟩ := Vb_14.out
  go_wp2_with fail
  clear za ac0 ac1 zb bc0 bc1
  refine (xAdd a1 a2 b1 b2 u1 u2 Eu1.out Eu2.out HA.out HB.out Fa1.out Fa2.out Fb1.out Fb2.out _ (HT.out.on HB14.out)).mono ?_
  rintro e w13 ⟨rfl, hb⟩
  have HB15 := Lib.hid (HB14.out.trans ((hb).mono HB14.out.size))
  have Va_15 := Lib.hid (Va_14.out.mono hb)
  have Vb_15 := Lib.hid (Vb_14.out.mono hb)
  clear Va_14 Vb_14
  clear hb
  have HB16 := Lib.hid (HB15.out.trans ((below_alloc w13 (.cells #[.string (Sq u1), .string (Sq u2)] 48)).mono HB15.out.size))
  have Va_16 := Lib.hid (Va_15.out.al (.cells #[.string (Sq u1), .string (Sq u2)] 48))
  have Vb_16 := Lib.hid (Vb_15.out.al (.cells #[.string (Sq u1), .string (Sq u2)] 48))
  clear Va_15 Vb_15
  have Vu_16 := Lib.hid (iv_boxg (W := w13) (g := w13.heap.size) (by simp) (Sq u1) (Sq u2))
  obtain ⟨za, ac0, ac1⟩ := Va_16.out
  obtain ⟨zb, bc0, bc1⟩ := Vb_16.out
  go_wp2_with fail
  clear za ac0 ac1 zb bc0 bc1
  refine (xSub a1 a2 b1 b2 v1 v2 Ev1.out Ev2.out HA.out HB.out Fa1.out Fa2.out Fb1.out Fb2.out _ (HT.out.on HB16.out)).mono ?_
  rintro e w14 ⟨rfl, hb⟩
  have HB17 := Lib.hid (HB16.out.trans ((hb).mono HB16.out.size))
  have Va_17 := Lib.hid (Va_16.out.mono hb)
  have Vb_17 := Lib.hid (Vb_16.out.mono hb)
  have Vu_17 := Lib.hid (Vu_16.out.mono hb)
  clear Va_16 Vb_16 Vu_16
  clear hb
  have HB18 := Lib.hid (HB17.out.trans ((below_alloc w14 (.cells #[.string (Sq v1), .string (Sq v2)] 48)).mono HB17.out.size))
  have Va_18 := Lib.hid (Va_17.out.al (.cells #[.string (Sq v1), .string (Sq v2)] 48))
  have Vb_18 := Lib.hid (Vb_17.out.al (.cells #[.string (Sq v1), .string (Sq v2)] 48))
  have Vu_18 := Lib.hid (Vu_17.out.al (.cells #[.string (Sq v1), .string (Sq v2)] 48))
  clear Va_17 Vb_17 Vu_17
  have Vv_18 := Lib.hid (iv_boxg (W := w14) (g := w14.heap.size) (by simp) (Sq v1) (Sq v2))
  obtain ⟨za, ac0, ac1⟩ := Va_18.out
  obtain ⟨zb, bc0, bc1⟩ := Vb_18.out
  go_wp2_with fail
  clear za ac0 ac1 zb bc0 bc1
  refine (xMul a1 a2 b1 b2 p0 p1 p2 p3 Ep0.out Ep1.out Ep2.out Ep3.out HA.out HB.out Fa1.out Fa2.out Fb1.out Fb2.out Fp0.out Fp1.out Fp2.out Fp3.out _ (HT.out.on HB18.out)).mono ?_
  rintro e w15 ⟨rfl, hb⟩
  have HB19 := Lib.hid (HB18.out.trans ((hb).mono HB18.out.size))
  have Va_19 := Lib.hid (Va_18.out.mono hb)
  have Vb_19 := Lib.hid (Vb_18.out.mono hb)
  have Vu_19 := Lib.hid (Vu_18.out.mono hb)
  have Vv_19 := Lib.hid (Vv_18.out.mono hb)
  clear Va_18 Vb_18 Vu_18 Vv_18
  clear hb
  have HB20 := Lib.hid (HB19.out.trans ((below_alloc w15 (.cells #[.string (Sq (exOf (row4 p0 p1 p2 p3) 3).1), .string (Sq (exOf (row4 p0 p1 p2 p3) 3).2)] 48)).mono HB19.out.size))
  have Va_20 := Lib.hid (Va_19.out.al (.cells #[.string (Sq (exOf (row4 p0 p1 p2 p3) 3).1), .string (Sq (exOf (row4 p0 p1 p2 p3) 3).2)] 48))
  have Vb_20 := Lib.hid (Vb_19.out.al (.cells #[.string (Sq (exOf (row4 p0 p1 p2 p3) 3).1), .string (Sq (exOf (row4 p0 p1 p2 p3) 3).2)] 48))
  have Vu_20 := Lib.hid (Vu_19.out.al (.cells #[.string (Sq (exOf (row4 p0 p1 p2 p3) 3).1), .string (Sq (exOf (row4 p0 p1 p2 p3) 3).2)] 48))
  have Vv_20 := Lib.hid (Vv_19.out.al (.cells #[.string (Sq (exOf (row4 p0 p1 p2 p3) 3).1), .string (Sq (exOf (row4 p0 p1 p2 p3) 3).2)] 48))
  clear Va_19 Vb_19 Vu_19 Vv_19
  have Vx_20 := Lib.hid (iv_boxg (W := w15) (g := w15.heap.size) (by simp) (Sq (exOf (row4 p0 p1 p2 p3) 3).1) (Sq (exOf (row4 p0 p1 p2 p3) 3).2))
  obtain ⟨za, ac0, ac1⟩ := Va_20.out
  go_wp2_with fail
  clear za ac0 ac1
  refine (xSquare a1 a2 q1 q2 Eq1.out Eq2.out HA.out Fa1.out Fa2.out Fq1.out Fq2.out _ (HT.out.on HB20.out)).mono ?_
  rintro e w16 ⟨rfl, hb⟩
  have HB21 := Lib.hid (HB20.out.trans ((hb).mono HB20.out.size))
  have Va_21 := Lib.hid (Va_20.out.mono hb)
  have Vb_21 := Lib.hid (Vb_20.out.mono hb)
  have Vu_21 := Lib.hid (Vu_20.out.mono hb)
  have Vv_21 := Lib.hid (Vv_20.out.mono hb)
  have Vx_21 := Lib.hid (Vx_20.out.mono hb)
  clear Va_20 Vb_20 Vu_20 Vv_20 Vx_20
  clear hb
  have HB22 := Lib.hid (HB21.out.trans ((below_alloc w16 (.cells #[.string (Sq (sqI a1 a2).1), .string (Sq (sqI a1 a2).2)] 48)).mono HB21.out.size))
  have Va_22 := Lib.hid (Va_21.out.al (.cells #[.string (Sq (sqI a1 a2).1), .string (Sq (sqI a1 a2).2)] 48))
  have Vb_22 := Lib.hid (Vb_21.out.al (.cells #[.string (Sq (sqI a1 a2).1), .string (Sq (sqI a1 a2).2)] 48))
  have Vu_22 := Lib.hid (Vu_21.out.al (.cells #[.string (Sq (sqI a1 a2).1), .string (Sq (sqI a1 a2).2)] 48))
  have Vv_22 := Lib.hid (Vv_21.out.al (.cells #[.string (Sq (sqI a1 a2).1), .string (Sq (sqI a1 a2).2)] 48))
  have Vx_22 := Lib.hid (Vx_21.out.al (.cells #[.string (Sq (sqI a1 a2).1), .string (Sq (sqI a1 a2).2)] 48))
  clear Va_21 Vb_21 Vu_21 Vv_21 Vx_21
  have Vz_22 := Lib.hid (iv_boxg (W := w16) (g := w16.heap.size) (by simp) (Sq (sqI a1 a2).1) (Sq (sqI a1 a2).2))
  obtain ⟨zu, uc0, uc1⟩ := Vu_22.out
  go_wp2_with fail
  clear zu uc0 uc1
  refine (xHas u1 u2 s true I3.out O3.out Fu1.out Fu2.out Fs.out _ (HT.out.on HB22.out)).mono ?_
  rintro e w17 ⟨rfl, hb⟩
  have HB23 := Lib.hid (HB22.out.trans ((hb).mono HB22.out.size))
  have Va_23 := Lib.hid (Va_22.out.mono hb)
  have Vb_23 := Lib.hid (Vb_22.out.mono hb)
  have Vu_23 := Lib.hid (Vu_22.out.mono hb)
  have Vv_23 := Lib.hid (Vv_22.out.mono hb)
  have Vx_23 := Lib.hid (Vx_22.out.mono hb)
  have Vz_23 := Lib.hid (Vz_22.out.mono hb)
  clear Va_22 Vb_22 Vu_22 Vv_22 Vx_22 Vz_22
  clear hb
  obtain ⟨zv, vc0, vc1⟩ := Vv_23.out
  go_wp2_with fail
  clear zv vc0 vc1
  refine (xHas v1 v2 d true I4.out O4.out Fv1.out Fv2.out Fd.out _ (HT.out.on HB23.out)).mono ?_
  rintro e w18 ⟨rfl, hb⟩
  have HB24 := Lib.hid (HB23.out.trans ((hb).mono HB23.out.size))
  have Va_24 := Lib.hid (Va_23.out.mono hb)
  have Vb_24 := Lib.hid (Vb_23.out.mono hb)
  have Vu_24 := Lib.hid (Vu_23.out.mono hb)
  have Vv_24 := Lib.hid (Vv_23.out.mono hb)
  have Vx_24 := Lib.hid (Vx_23.out.mono hb)
  have Vz_24 := Lib.hid (Vz_23.out.mono hb)
  clear Va_23 Vb_23 Vu_23 Vv_23 Vx_23 Vz_23
  clear hb
  obtain ⟨zx, xc0, xc1⟩ := Vx_24.out
  go_wp2_with fail
  clear zx xc0 xc1
  refine (xHas (exOf (row4 p0 p1 p2 p3) 3).1 (exOf (row4 p0 p1 p2 p3) 3).2 p true I5.out (exOf_order _ _) FW.out.1 FW.out.2 Fp.out _ (HT.out.on HB24.out)).mono ?_
  rintro e w19 ⟨rfl, hb⟩
  have HB25 := Lib.hid (HB24.out.trans ((hb).mono HB24.out.size))
  have Va_25 := Lib.hid (Va_24.out.mono hb)
  have Vb_25 := Lib.hid (Vb_24.out.mono hb)
  have Vu_25 := Lib.hid (Vu_24.out.mono hb)
  have Vv_25 := Lib.hid (Vv_24.out.mono hb)
  have Vx_25 := Lib.hid (Vx_24.out.mono hb)
  have Vz_25 := Lib.hid (Vz_24.out.mono hb)
  clear Va_24 Vb_24 Vu_24 Vv_24 Vx_24 Vz_24
  clear hb
  obtain ⟨zz, zc0, zc1⟩ := Vz_25.out
  go_wp2_with fail
  clear zz zc0 zc1
  refine (xHas (sqI a1 a2).1 (sqI a1 a2).2 q true I6.out (sq_order _ _) FZ.out.1 FZ.out.2 Fq.out _ (HT.out.on HB25.out)).mono ?_
  rintro e w20 ⟨rfl, hb⟩
  have HB26 := Lib.hid (HB25.out.trans ((hb).mono HB25.out.size))
  have Va_26 := Lib.hid (Va_25.out.mono hb)
  have Vb_26 := Lib.hid (Vb_25.out.mono hb)
  have Vu_26 := Lib.hid (Vu_25.out.mono hb)
  have Vv_26 := Lib.hid (Vv_25.out.mono hb)
  have Vx_26 := Lib.hid (Vx_25.out.mono hb)
  have Vz_26 := Lib.hid (Vz_25.out.mono hb)
  clear Va_25 Vb_25 Vu_25 Vv_25 Vx_25 Vz_25
  clear hb
  obtain ⟨za, ac0, ac1⟩ := Va_26.out
  obtain ⟨zb, bc0, bc1⟩ := Vb_26.out
  go_wp2_with fail
  clear za ac0 ac1 zb bc0 bc1
  refine (xDiv_has a1 a2 b1 b2 HA.out HB.out HZ.out Fa1.out Fa2.out Fb1.out Fb2.out _ (HT.out.on HB26.out)).mono ?_
  rintro e w21 ⟨rfl, hb⟩
  have HB27 := Lib.hid (HB26.out.trans ((hb).mono HB26.out.size))
  have Va_27 := Lib.hid (Va_26.out.mono hb)
  have Vb_27 := Lib.hid (Vb_26.out.mono hb)
  have Vu_27 := Lib.hid (Vu_26.out.mono hb)
  have Vv_27 := Lib.hid (Vv_26.out.mono hb)
  have Vx_27 := Lib.hid (Vx_26.out.mono hb)
  have Vz_27 := Lib.hid (Vz_26.out.mono hb)
  clear Va_26 Vb_26 Vu_26 Vv_26 Vx_26 Vz_26
  clear hb
  have HB28 := Lib.hid (HB27.out.trans ((below_alloc w21 (.cells #[.string ⟨#[]⟩, .string ⟨#[]⟩] 48)).mono HB27.out.size))
  have Va_28 := Lib.hid (Va_27.out.al (.cells #[.string ⟨#[]⟩, .string ⟨#[]⟩] 48))
  have Vb_28 := Lib.hid (Vb_27.out.al (.cells #[.string ⟨#[]⟩, .string ⟨#[]⟩] 48))
  have Vu_28 := Lib.hid (Vu_27.out.al (.cells #[.string ⟨#[]⟩, .string ⟨#[]⟩] 48))
  have Vv_28 := Lib.hid (Vv_27.out.al (.cells #[.string ⟨#[]⟩, .string ⟨#[]⟩] 48))
  have Vx_28 := Lib.hid (Vx_27.out.al (.cells #[.string ⟨#[]⟩, .string ⟨#[]⟩] 48))
  have Vz_28 := Lib.hid (Vz_27.out.al (.cells #[.string ⟨#[]⟩, .string ⟨#[]⟩] 48))
  clear Va_27 Vb_27 Vu_27 Vv_27 Vx_27 Vz_27
  have Vt_28 := Lib.hid (iv_boxg (W := w21) (g := w21.heap.size) (by simp) ⟨#[]⟩ ⟨#[]⟩)
  obtain ⟨zb, bc0, bc1⟩ := Vb_28.out
  go_wp2_with fail
  clear zb bc0 bc1
  refine (xHas_zero b1 b2 true HZ.out HB.out Fb1.out Fb2.out _ (HT.out.on HB28.out)).mono ?_
  rintro e w22 ⟨rfl, hb⟩
  have HB29 := Lib.hid (HB28.out.trans ((hb).mono HB28.out.size))
  have Va_29 := Lib.hid (Va_28.out.mono hb)
  have Vb_29 := Lib.hid (Vb_28.out.mono hb)
  have Vu_29 := Lib.hid (Vu_28.out.mono hb)
  have Vv_29 := Lib.hid (Vv_28.out.mono hb)
  have Vx_29 := Lib.hid (Vx_28.out.mono hb)
  have Vz_29 := Lib.hid (Vz_28.out.mono hb)
  have Vt_29 := Lib.hid (Vt_28.out.mono hb)
  clear Va_28 Vb_28 Vu_28 Vv_28 Vx_28 Vz_28 Vt_28
  clear hb
  obtain ⟨zt, tc0, tc1⟩ := Vt_29.out
  go_wp2
  go_ret
  exact ⟨rfl, HB29.out⟩

set_option maxHeartbeats 8000000 in
set_option maxRecDepth 100000 in
theorem vcon_yes (a1 a2 b1 b2 : Rat) (j k : Int) (hj0 : 0 ≤ j) (hj1 : j ≤ 255) (hk0 : 0 ≤ k) (hk1 : k ≤ 255) (ha : a1 ≤ a2) (hb : b1 ≤ b2) (s0 : (Sq a1).size ≤ 40 ∧ (Sq a2).size ≤ 40) (s1 : (Sq b1).size ≤ 40 ∧ (Sq b2).size ≤ 40) (hz : decide (b1 ≤ 0 ∧ 0 ≤ b2) = false) (w : World) (hl : La w) :
    Calls Tryz.prog 7 #[.agg #[.string (Sq a1), .string (Sq a2)], .agg #[.string (Sq b1), .string (Sq b2)], .int .u8 j, .int .u8 k] w fun e w' => e = .returned (.bool true) ∧ Below w.heap.size w w' := by
  have SZ0 := Lib.hid s0
  clear s0
  have SZ1 := Lib.hid s1
  clear s1
  have m1 := smq_of SZ0.out.1 (by decide)
  have m2 := smq_of SZ0.out.2 (by decide)
  have n1 := smq_of SZ1.out.1 (by decide)
  have n2 := smq_of SZ1.out.2 (by decide)
  have HA := Lib.hid ha
  have HB := Lib.hid hb
  have HJ := Lib.hid (And.intro hj0 hj1)
  have HK := Lib.hid (And.intro hk0 hk1)
  have HZ := Lib.hid hz
  obtain ⟨px, hpx, px1, px2, mx⟩ := pick_in a1 a2 j hj0 hj1 ha m1 m2
  obtain ⟨py, hpy, py1, py2, my⟩ := pick_in b1 b2 k hk0 hk1 hb n1 n2
  have PX := Lib.hid hpx
  have PY := Lib.hid hpy
  clear hj0 hj1 hk0 hk1 hpx hpy
  have hz2 := of_decide_eq_false hz
  have hb10 : b1 ≠ 0 := by rintro rfl; exact hz2 ⟨by grind, hb⟩
  have hb20 : b2 ≠ 0 := by rintro rfl; exact hz2 ⟨hb, by grind⟩
  have hy0 : py ≠ 0 := by rintro rfl; exact hz2 ⟨py1, py2⟩
  have HY := Lib.hid hy0
  obtain ⟨s, hs⟩ : ∃ s, s = px + py := ⟨_, rfl⟩
  have Fs := Lib.hid (show FitQ s by rw [hs]; exact (mx.add my).fit (by decide))
  have Es := Lib.hid hs.symm
  obtain ⟨d, hd⟩ : ∃ s, s = px - py := ⟨_, rfl⟩
  have Fd := Lib.hid (show FitQ d by rw [hd]; exact (mx.sub my).fit (by decide))
  have Ed := Lib.hid hd.symm
  obtain ⟨p, hp⟩ : ∃ s, s = px * py := ⟨_, rfl⟩
  have Fp := Lib.hid (show FitQ p by rw [hp]; exact (mx.mul my).fit (by decide))
  have Ep := Lib.hid hp.symm
  obtain ⟨q, hq⟩ : ∃ s, s = px * px := ⟨_, rfl⟩
  have Fq := Lib.hid (show FitQ q by rw [hq]; exact (mx.mul mx).fit (by decide))
  have Eq := Lib.hid hq.symm
  obtain ⟨u1, hu1⟩ : ∃ s, s = a1 + b1 := ⟨_, rfl⟩
  have Fu1 := Lib.hid (show FitQ u1 by rw [hu1]; exact (m1.add n1).fit (by decide))
  have Eu1 := Lib.hid hu1.symm
  obtain ⟨u2, hu2⟩ : ∃ s, s = a2 + b2 := ⟨_, rfl⟩
  have Fu2 := Lib.hid (show FitQ u2 by rw [hu2]; exact (m2.add n2).fit (by decide))
  have Eu2 := Lib.hid hu2.symm
  obtain ⟨v1, hv1⟩ : ∃ s, s = a1 - b2 := ⟨_, rfl⟩
  have Fv1 := Lib.hid (show FitQ v1 by rw [hv1]; exact (m1.sub n2).fit (by decide))
  have Ev1 := Lib.hid hv1.symm
  obtain ⟨v2, hv2⟩ : ∃ s, s = a2 - b1 := ⟨_, rfl⟩
  have Fv2 := Lib.hid (show FitQ v2 by rw [hv2]; exact (m2.sub n1).fit (by decide))
  have Ev2 := Lib.hid hv2.symm
  obtain ⟨p0, hp0⟩ : ∃ s, s = a1 * b1 := ⟨_, rfl⟩
  have Fp0 := Lib.hid (show FitQ p0 by rw [hp0]; exact (m1.mul n1).fit (by decide))
  have Ep0 := Lib.hid hp0.symm
  obtain ⟨p1, hp1⟩ : ∃ s, s = a1 * b2 := ⟨_, rfl⟩
  have Fp1 := Lib.hid (show FitQ p1 by rw [hp1]; exact (m1.mul n2).fit (by decide))
  have Ep1 := Lib.hid hp1.symm
  obtain ⟨p2, hp2⟩ : ∃ s, s = a2 * b1 := ⟨_, rfl⟩
  have Fp2 := Lib.hid (show FitQ p2 by rw [hp2]; exact (m2.mul n1).fit (by decide))
  have Ep2 := Lib.hid hp2.symm
  obtain ⟨p3, hp3⟩ : ∃ s, s = a2 * b2 := ⟨_, rfl⟩
  have Fp3 := Lib.hid (show FitQ p3 by rw [hp3]; exact (m2.mul n2).fit (by decide))
  have Ep3 := Lib.hid hp3.symm
  obtain ⟨q1, hq1⟩ : ∃ s, s = a1 * a1 := ⟨_, rfl⟩
  have Fq1 := Lib.hid (show FitQ q1 by rw [hq1]; exact (m1.mul m1).fit (by decide))
  have Eq1 := Lib.hid hq1.symm
  obtain ⟨q2, hq2⟩ : ∃ s, s = a2 * a2 := ⟨_, rfl⟩
  have Fq2 := Lib.hid (show FitQ q2 by rw [hq2]; exact (m2.mul m2).fit (by decide))
  have Eq2 := Lib.hid hq2.symm
  obtain ⟨d0, hd0⟩ : ∃ s, s = a1 / b1 := ⟨_, rfl⟩
  have Fd0 := Lib.hid (show FitQ d0 by rw [hd0]; exact (m1.div n1 hb10).fit (by decide))
  have Ed0 := Lib.hid hd0.symm
  obtain ⟨d1, hd1⟩ : ∃ s, s = a1 / b2 := ⟨_, rfl⟩
  have Fd1 := Lib.hid (show FitQ d1 by rw [hd1]; exact (m1.div n2 hb20).fit (by decide))
  have Ed1 := Lib.hid hd1.symm
  obtain ⟨d2, hd2⟩ : ∃ s, s = a2 / b1 := ⟨_, rfl⟩
  have Fd2 := Lib.hid (show FitQ d2 by rw [hd2]; exact (m2.div n1 hb10).fit (by decide))
  have Ed2 := Lib.hid hd2.symm
  obtain ⟨d3, hd3⟩ : ∃ s, s = a2 / b2 := ⟨_, rfl⟩
  have Fd3 := Lib.hid (show FitQ d3 by rw [hd3]; exact (m2.div n2 hb20).fit (by decide))
  have Ed3 := Lib.hid hd3.symm
  obtain ⟨r, hr⟩ : ∃ s, s = px / py := ⟨_, rfl⟩
  have Fr := Lib.hid (show FitQ r by rw [hr]; exact (mx.div my hy0).fit (by decide))
  have Er := Lib.hid hr.symm
  have Fa1 := Lib.hid (m1.fit (by decide))
  have Fa2 := Lib.hid (m2.fit (by decide))
  have Fb1 := Lib.hid (n1.fit (by decide))
  have Fb2 := Lib.hid (n2.fit (by decide))
  have Fpx := Lib.hid (mx.fit (by decide))
  have Fpy := Lib.hid (my.fit (by decide))
  have FW := Lib.hid (fit_row4 Fp0.out Fp1.out Fp2.out Fp3.out)
  have FZ := Lib.hid (show FitQ (sqI a1 a2).1 ∧ FitQ (sqI a1 a2).2 from fit_sqI (by rw [← hq1]; exact Fq1.out) (by rw [← hq2]; exact Fq2.out))
  have I1 := Lib.hid (show decide (a1 ≤ px ∧ px ≤ a2) = true by rw [decide_eq_true_iff]; exact ⟨px1, px2⟩)
  have I2 := Lib.hid (show decide (b1 ≤ py ∧ py ≤ b2) = true by rw [decide_eq_true_iff]; exact ⟨py1, py2⟩)
  have I3 := Lib.hid (show decide (u1 ≤ s ∧ s ≤ u2) = true by rw [decide_eq_true_iff]; rw [hu1, hu2, hs]; constructor <;> grind)
  have I4 := Lib.hid (show decide (v1 ≤ d ∧ d ≤ v2) = true by rw [decide_eq_true_iff]; rw [hv1, hv2, hd]; constructor <;> grind)
  have I5 := Lib.hid (show decide ((exOf (row4 p0 p1 p2 p3) 3).1 ≤ p ∧ p ≤ (exOf (row4 p0 p1 p2 p3) 3).2) = true by rw [decide_eq_true_iff]; rw [hp, hp0, hp1, hp2, hp3]; exact mul_in px1 px2 py1 py2)
  have I6 := Lib.hid (show decide ((sqI a1 a2).1 ≤ q ∧ q ≤ (sqI a1 a2).2) = true by rw [decide_eq_true_iff]; rw [hq]; exact sq_in px1 px2)
  have O3 := Lib.hid (show u1 ≤ u2 by rw [hu1, hu2]; grind)
  have O4 := Lib.hid (show v1 ≤ v2 by rw [hv1, hv2]; grind)
  have FT := Lib.hid (fit_row4 Fd0.out Fd1.out Fd2.out Fd3.out)
  have I7 := Lib.hid (show decide ((exOf (row4 d0 d1 d2 d3) 3).1 ≤ r ∧ r ≤ (exOf (row4 d0 d1 d2 d3) 3).2) = true by rw [decide_eq_true_iff]; rw [hr, hd0, hd1, hd2, hd3]; exact div_in px1 px2 py1 py2 hz2)
  clear ha hb hz m1 m2 n1 n2 mx my px1 px2 py1 py2 hs hd hp hq hu1 hu2 hv1 hv2 hp0 hp1 hp2 hp3 hq1 hq2 hd0 hd1 hd2 hd3 hr hz2 hb10 hb20 hy0
  have HT := Lib.hid hl
  clear hl
  have HB0 := Lib.hid (Below.refl w.heap.size w)
  have HB1 := Lib.hid (HB0.out.trans ((below_alloc w (.cells #[.string (Sq a1), .string (Sq a2)] 48)).mono HB0.out.size))
  have Va_1 := Lib.hid (iv_boxg (W := w) (g := w.heap.size) (by simp) (Sq a1) (Sq a2))
  have HB2 := Lib.hid (HB1.out.trans ((below_alloc (w.alloc (.cells #[.string (Sq a1), .string (Sq a2)] 48)) (.cells #[.string (Sq b1), .string (Sq b2)] 48)).mono HB1.out.size))
  have Va_2 := Lib.hid (Va_1.out.al (.cells #[.string (Sq b1), .string (Sq b2)] 48))
  clear Va_1
  have Vb_2 := Lib.hid (iv_boxg (W := (w.alloc (.cells #[.string (Sq a1), .string (Sq a2)] 48))) (g := w.heap.size + 1) (by simp) (Sq b1) (Sq b2))
  go_enter Tryz.func7, Tryz.ntmps7
  go_wp2_with fail
  refine (vawake _ (HT.out.on HB2.out)).mono ?_
  rintro e w1 ⟨rfl, hb⟩
  have HB3 := Lib.hid (HB2.out.trans ((hb).mono HB2.out.size))
  have Va_3 := Lib.hid (Va_2.out.mono hb)
  have Vb_3 := Lib.hid (Vb_2.out.mono hb)
  clear Va_2 Vb_2
  clear hb
  obtain ⟨za, ac0, ac1⟩ := Va_3.out
  obtain ⟨zb, bc0, bc1⟩ := Vb_3.out
  have HB4 := Lib.hid (HB3.out.trans ((below_alloc w1 (.cells #[.string (Sq a1), .string (Sq a2), .string (Sq b1), .string (Sq b2)] 48)).mono HB3.out.size))
  have Va_4 := Lib.hid (Va_3.out.al (.cells #[.string (Sq a1), .string (Sq a2), .string (Sq b1), .string (Sq b2)] 48))
  have Vb_4 := Lib.hid (Vb_3.out.al (.cells #[.string (Sq a1), .string (Sq a2), .string (Sq b1), .string (Sq b2)] 48))
  clear Va_3 Vb_3
  have hc := ivs_cells2 w1 (Sq a1) (Sq a2) (Sq b1) (Sq b2)
  go_wp2_with fail
  clear za ac0 ac1 zb bc0 bc1
  refine (wide2_small (w1.heap.size) (Sq a1) (Sq a2) (Sq b1) (Sq b2) _ SZ0.out SZ1.out (by simp) hc).mono ?_
  rintro e w2 ⟨rfl, hb⟩
  have HB5 := Lib.hid (HB4.out.trans ((hb).mono HB4.out.size))
  have Va_5 := Lib.hid (Va_4.out.mono hb)
  have Vb_5 := Lib.hid (Vb_4.out.mono hb)
  clear Va_4 Vb_4
  clear hb
  clear hc
  obtain ⟨za, ac0, ac1⟩ := Va_5.out
  go_wp2_with fail
  clear za ac0 ac1
  refine (xValid_yes a1 a2 HA.out Fa1.out Fa2.out _ (HT.out.on HB5.out)).mono ?_
  rintro e w3 ⟨rfl, hb⟩
  have HB6 := Lib.hid (HB5.out.trans ((hb).mono HB5.out.size))
  have Va_6 := Lib.hid (Va_5.out.mono hb)
  have Vb_6 := Lib.hid (Vb_5.out.mono hb)
  clear Va_5 Vb_5
  clear hb
  obtain ⟨zb, bc0, bc1⟩ := Vb_6.out
  go_wp2_with fail
  clear zb bc0 bc1
  refine (xValid_yes b1 b2 HB.out Fb1.out Fb2.out _ (HT.out.on HB6.out)).mono ?_
  rintro e w4 ⟨rfl, hb⟩
  have HB7 := Lib.hid (HB6.out.trans ((hb).mono HB6.out.size))
  have Va_7 := Lib.hid (Va_6.out.mono hb)
  have Vb_7 := Lib.hid (Vb_6.out.mono hb)
  clear Va_6 Vb_6
  clear hb
  go_upto_region 3 with fail
  have KS := Lib.hid (show ∀ X : World, Below w4.heap.size w4 X → (X.cell? ⟨w.heap.size, 0, none⟩ = some (.string (Sq a1)) ∧ X.cell? ⟨w.heap.size, 1, none⟩ = some (.string (Sq a2)) ∧ X.cell? ⟨w.heap.size + 1, 0, none⟩ = some (.string (Sq b1)) ∧ X.cell? ⟨w.heap.size + 1, 1, none⟩ = some (.string (Sq b2))) from fun X hB => ⟨(Va_7.out.mono hB).2.1, (Va_7.out.mono hB).2.2, (Vb_7.out.mono hB).2.1, (Vb_7.out.mono hB).2.2⟩)
  have KT := Lib.hid (show ∀ X : World, Below w4.heap.size w4 X → La X from fun X hB => HT.out.on (HB7.out.trans (hB.mono HB7.out.size)))
  have F0 := Lib.hid (Below.refl w4.heap.size w4)
  obtain ⟨r0, r1, r2, r3⟩ := KS.out _ F0.out
  go_region_held3 (fun w' => w'.cell? ⟨w.heap.size, 0, none⟩ = some (.string (Sq a1)) ∧ w'.cell? ⟨w.heap.size, 1, none⟩ = some (.string (Sq a2)) ∧ w'.cell? ⟨w.heap.size + 1, 0, none⟩ = some (.string (Sq b1)) ∧ w'.cell? ⟨w.heap.size + 1, 1, none⟩ = some (.string (Sq b2))) (first | (with_reducible exact KS.out _ F2.out) | (with_reducible exact KS.out _ F2.out.drew) | (with_reducible exact KS.out _ F1.out) | (with_reducible exact KS.out _ F1.out.drew) | (with_reducible exact KS.out _ F0.out) | (with_reducible exact KS.out _ F0.out.drew))
    (first
      | (go_at_call 35; (with_reducible refine (pick_any a1 a2 px j HJ.out.1 HJ.out.2 PX.out SZ0.out.1 SZ0.out.2 _ ?la0).mono ?_); (case la0 => first | exact KT.out _ F0.out | exact KT.out _ F0.out.drew); rintro e w5 ⟨rfl, hb⟩; have F1 := Lib.hid (show Below w4.heap.size w4 w5 by first | exact fr_chain F0.out hb | exact fr_chain F0.out.drew hb); clear hb)
      | (go_at_call 35; (with_reducible refine (pick_any b1 b2 py k HK.out.1 HK.out.2 PY.out SZ1.out.1 SZ1.out.2 _ ?la1).mono ?_); (case la1 => first | exact KT.out _ F1.out | exact KT.out _ F1.out.drew); rintro e w6 ⟨rfl, hb⟩; have F2 := Lib.hid (show Below w4.heap.size w4 w6 by first | exact fr_chain F1.out hb | exact fr_chain F1.out.drew hb); clear hb)
      | fail)
  clear r0 r1 r2 r3
  have HB8 := Lib.hid (HB7.out.trans ((F2.out).mono HB7.out.size))
  have Va_8 := Lib.hid (Va_7.out.mono F2.out)
  have Vb_8 := Lib.hid (Vb_7.out.mono F2.out)
  clear Va_7 Vb_7
  clear F0 F1 F2
  obtain ⟨za, ac0, ac1⟩ := Va_8.out
  go_wp2_with fail
  clear za ac0 ac1
  refine (xHas a1 a2 px true I1.out HA.out Fa1.out Fa2.out Fpx.out _ (HT.out.on HB8.out)).mono ?_
  rintro e w7 ⟨rfl, hb⟩
  have HB9 := Lib.hid (HB8.out.trans ((hb).mono HB8.out.size))
  have Va_9 := Lib.hid (Va_8.out.mono hb)
  have Vb_9 := Lib.hid (Vb_8.out.mono hb)
  clear Va_8 Vb_8
  clear hb
  obtain ⟨zb, bc0, bc1⟩ := Vb_9.out
  go_wp2_with fail
  clear zb bc0 bc1
  refine (xHas b1 b2 py true I2.out HB.out Fb1.out Fb2.out Fpy.out _ (HT.out.on HB9.out)).mono ?_
  rintro e w8 ⟨rfl, hb⟩
  have HB10 := Lib.hid (HB9.out.trans ((hb).mono HB9.out.size))
  have Va_10 := Lib.hid (Va_9.out.mono hb)
  have Vb_10 := Lib.hid (Vb_9.out.mono hb)
  clear Va_9 Vb_9
  clear hb
  go_wp2_with fail
  refine (qAdd px py s Es.out Fpx.out Fpy.out _ (HT.out.on HB10.out)).mono ?_
  rintro e w9 ⟨rfl, hb⟩
  have HB11 := Lib.hid (HB10.out.trans ((hb).mono HB10.out.size))
  have Va_11 := Lib.hid (Va_10.out.mono hb)
  have Vb_11 := Lib.hid (Vb_10.out.mono hb)
  clear Va_10 Vb_10
  clear hb
  go_wp2_with fail
  refine (qSub px py d Ed.out Fpx.out Fpy.out _ (HT.out.on HB11.out)).mono ?_
  rintro e w10 ⟨rfl, hb⟩
  have HB12 := Lib.hid (HB11.out.trans ((hb).mono HB11.out.size))
  have Va_12 := Lib.hid (Va_11.out.mono hb)
  have Vb_12 := Lib.hid (Vb_11.out.mono hb)
  clear Va_11 Vb_11
  clear hb
  go_wp2_with fail
  refine (qMul px py p Ep.out Fpx.out Fpy.out _ (HT.out.on HB12.out)).mono ?_
  rintro e w11 ⟨rfl, hb⟩
  have HB13 := Lib.hid (HB12.out.trans ((hb).mono HB12.out.size))
  have Va_13 := Lib.hid (Va_12.out.mono hb)
  have Vb_13 := Lib.hid (Vb_12.out.mono hb)
  clear Va_12 Vb_12
  clear hb
  go_wp2_with fail
  refine (qMul px px q Eq.out Fpx.out Fpx.out _ (HT.out.on HB13.out)).mono ?_
  rintro e w12 ⟨rfl, hb⟩
  have HB14 := Lib.hid (HB13.out.trans ((hb).mono HB13.out.size))
  have Va_14 := Lib.hid (Va_13.out.mono hb)
  have Vb_14 := Lib.hid (Vb_13.out.mono hb)
  clear Va_13 Vb_13
  clear hb
  obtain ⟨za, ac0, ac1⟩ := Va_14.out
  obtain ⟨zb, bc0, bc1⟩ := Vb_14.out
  go_wp2_with fail
  clear za ac0 ac1 zb bc0 bc1
  refine (xAdd a1 a2 b1 b2 u1 u2 Eu1.out Eu2.out HA.out HB.out Fa1.out Fa2.out Fb1.out Fb2.out _ (HT.out.on HB14.out)).mono ?_
  rintro e w13 ⟨rfl, hb⟩
  have HB15 := Lib.hid (HB14.out.trans ((hb).mono HB14.out.size))
  have Va_15 := Lib.hid (Va_14.out.mono hb)
  have Vb_15 := Lib.hid (Vb_14.out.mono hb)
  clear Va_14 Vb_14
  clear hb
  have HB16 := Lib.hid (HB15.out.trans ((below_alloc w13 (.cells #[.string (Sq u1), .string (Sq u2)] 48)).mono HB15.out.size))
  have Va_16 := Lib.hid (Va_15.out.al (.cells #[.string (Sq u1), .string (Sq u2)] 48))
  have Vb_16 := Lib.hid (Vb_15.out.al (.cells #[.string (Sq u1), .string (Sq u2)] 48))
  clear Va_15 Vb_15
  have Vu_16 := Lib.hid (iv_boxg (W := w13) (g := w13.heap.size) (by simp) (Sq u1) (Sq u2))
  obtain ⟨za, ac0, ac1⟩ := Va_16.out
  obtain ⟨zb, bc0, bc1⟩ := Vb_16.out
  go_wp2_with fail
  clear za ac0 ac1 zb bc0 bc1
  refine (xSub a1 a2 b1 b2 v1 v2 Ev1.out Ev2.out HA.out HB.out Fa1.out Fa2.out Fb1.out Fb2.out _ (HT.out.on HB16.out)).mono ?_
  rintro e w14 ⟨rfl, hb⟩
  have HB17 := Lib.hid (HB16.out.trans ((hb).mono HB16.out.size))
  have Va_17 := Lib.hid (Va_16.out.mono hb)
  have Vb_17 := Lib.hid (Vb_16.out.mono hb)
  have Vu_17 := Lib.hid (Vu_16.out.mono hb)
  clear Va_16 Vb_16 Vu_16
  clear hb
  have HB18 := Lib.hid (HB17.out.trans ((below_alloc w14 (.cells #[.string (Sq v1), .string (Sq v2)] 48)).mono HB17.out.size))
  have Va_18 := Lib.hid (Va_17.out.al (.cells #[.string (Sq v1), .string (Sq v2)] 48))
  have Vb_18 := Lib.hid (Vb_17.out.al (.cells #[.string (Sq v1), .string (Sq v2)] 48))
  have Vu_18 := Lib.hid (Vu_17.out.al (.cells #[.string (Sq v1), .string (Sq v2)] 48))
  clear Va_17 Vb_17 Vu_17
  have Vv_18 := Lib.hid (iv_boxg (W := w14) (g := w14.heap.size) (by simp) (Sq v1) (Sq v2))
  obtain ⟨za, ac0, ac1⟩ := Va_18.out
  obtain ⟨zb, bc0, bc1⟩ := Vb_18.out
  go_wp2_with fail
  clear za ac0 ac1 zb bc0 bc1
  refine (xMul a1 a2 b1 b2 p0 p1 p2 p3 Ep0.out Ep1.out Ep2.out Ep3.out HA.out HB.out Fa1.out Fa2.out Fb1.out Fb2.out Fp0.out Fp1.out Fp2.out Fp3.out _ (HT.out.on HB18.out)).mono ?_
  rintro e w15 ⟨rfl, hb⟩
  have HB19 := Lib.hid (HB18.out.trans ((hb).mono HB18.out.size))
  have Va_19 := Lib.hid (Va_18.out.mono hb)
  have Vb_19 := Lib.hid (Vb_18.out.mono hb)
  have Vu_19 := Lib.hid (Vu_18.out.mono hb)
  have Vv_19 := Lib.hid (Vv_18.out.mono hb)
  clear Va_18 Vb_18 Vu_18 Vv_18
  clear hb
  have HB20 := Lib.hid (HB19.out.trans ((below_alloc w15 (.cells #[.string (Sq (exOf (row4 p0 p1 p2 p3) 3).1), .string (Sq (exOf (row4 p0 p1 p2 p3) 3).2)] 48)).mono HB19.out.size))
  have Va_20 := Lib.hid (Va_19.out.al (.cells #[.string (Sq (exOf (row4 p0 p1 p2 p3) 3).1), .string (Sq (exOf (row4 p0 p1 p2 p3) 3).2)] 48))
  have Vb_20 := Lib.hid (Vb_19.out.al (.cells #[.string (Sq (exOf (row4 p0 p1 p2 p3) 3).1), .string (Sq (exOf (row4 p0 p1 p2 p3) 3).2)] 48))
  have Vu_20 := Lib.hid (Vu_19.out.al (.cells #[.string (Sq (exOf (row4 p0 p1 p2 p3) 3).1), .string (Sq (exOf (row4 p0 p1 p2 p3) 3).2)] 48))
  have Vv_20 := Lib.hid (Vv_19.out.al (.cells #[.string (Sq (exOf (row4 p0 p1 p2 p3) 3).1), .string (Sq (exOf (row4 p0 p1 p2 p3) 3).2)] 48))
  clear Va_19 Vb_19 Vu_19 Vv_19
  have Vx_20 := Lib.hid (iv_boxg (W := w15) (g := w15.heap.size) (by simp) (Sq (exOf (row4 p0 p1 p2 p3) 3).1) (Sq (exOf (row4 p0 p1 p2 p3) 3).2))
  obtain ⟨za, ac0, ac1⟩ := Va_20.out
  go_wp2_with fail
  clear za ac0 ac1
  refine (xSquare a1 a2 q1 q2 Eq1.out Eq2.out HA.out Fa1.out Fa2.out Fq1.out Fq2.out _ (HT.out.on HB20.out)).mono ?_
  rintro e w16 ⟨rfl, hb⟩
  have HB21 := Lib.hid (HB20.out.trans ((hb).mono HB20.out.size))
  have Va_21 := Lib.hid (Va_20.out.mono hb)
  have Vb_21 := Lib.hid (Vb_20.out.mono hb)
  have Vu_21 := Lib.hid (Vu_20.out.mono hb)
  have Vv_21 := Lib.hid (Vv_20.out.mono hb)
  have Vx_21 := Lib.hid (Vx_20.out.mono hb)
  clear Va_20 Vb_20 Vu_20 Vv_20 Vx_20
  clear hb
  have HB22 := Lib.hid (HB21.out.trans ((below_alloc w16 (.cells #[.string (Sq (sqI a1 a2).1), .string (Sq (sqI a1 a2).2)] 48)).mono HB21.out.size))
  have Va_22 := Lib.hid (Va_21.out.al (.cells #[.string (Sq (sqI a1 a2).1), .string (Sq (sqI a1 a2).2)] 48))
  have Vb_22 := Lib.hid (Vb_21.out.al (.cells #[.string (Sq (sqI a1 a2).1), .string (Sq (sqI a1 a2).2)] 48))
  have Vu_22 := Lib.hid (Vu_21.out.al (.cells #[.string (Sq (sqI a1 a2).1), .string (Sq (sqI a1 a2).2)] 48))
  have Vv_22 := Lib.hid (Vv_21.out.al (.cells #[.string (Sq (sqI a1 a2).1), .string (Sq (sqI a1 a2).2)] 48))
  have Vx_22 := Lib.hid (Vx_21.out.al (.cells #[.string (Sq (sqI a1 a2).1), .string (Sq (sqI a1 a2).2)] 48))
  clear Va_21 Vb_21 Vu_21 Vv_21 Vx_21
  have Vz_22 := Lib.hid (iv_boxg (W := w16) (g := w16.heap.size) (by simp) (Sq (sqI a1 a2).1) (Sq (sqI a1 a2).2))
  obtain ⟨zu, uc0, uc1⟩ := Vu_22.out
  go_wp2_with fail
  clear zu uc0 uc1
  refine (xHas u1 u2 s true I3.out O3.out Fu1.out Fu2.out Fs.out _ (HT.out.on HB22.out)).mono ?_
  rintro e w17 ⟨rfl, hb⟩
  have HB23 := Lib.hid (HB22.out.trans ((hb).mono HB22.out.size))
  have Va_23 := Lib.hid (Va_22.out.mono hb)
  have Vb_23 := Lib.hid (Vb_22.out.mono hb)
  have Vu_23 := Lib.hid (Vu_22.out.mono hb)
  have Vv_23 := Lib.hid (Vv_22.out.mono hb)
  have Vx_23 := Lib.hid (Vx_22.out.mono hb)
  have Vz_23 := Lib.hid (Vz_22.out.mono hb)
  clear Va_22 Vb_22 Vu_22 Vv_22 Vx_22 Vz_22
  clear hb
  obtain ⟨zv, vc0, vc1⟩ := Vv_23.out
  go_wp2_with fail
  clear zv vc0 vc1
  refine (xHas v1 v2 d true I4.out O4.out Fv1.out Fv2.out Fd.out _ (HT.out.on HB23.out)).mono ?_
  rintro e w18 ⟨rfl, hb⟩
  have HB24 := Lib.hid (HB23.out.trans ((hb).mono HB23.out.size))
  have Va_24 := Lib.hid (Va_23.out.mono hb)
  have Vb_24 := Lib.hid (Vb_23.out.mono hb)
  have Vu_24 := Lib.hid (Vu_23.out.mono hb)
  have Vv_24 := Lib.hid (Vv_23.out.mono hb)
  have Vx_24 := Lib.hid (Vx_23.out.mono hb)
  have Vz_24 := Lib.hid (Vz_23.out.mono hb)
  clear Va_23 Vb_23 Vu_23 Vv_23 Vx_23 Vz_23
  clear hb
  obtain ⟨zx, xc0, xc1⟩ := Vx_24.out
  go_wp2_with fail
  clear zx xc0 xc1
  refine (xHas (exOf (row4 p0 p1 p2 p3) 3).1 (exOf (row4 p0 p1 p2 p3) 3).2 p true I5.out (exOf_order _ _) FW.out.1 FW.out.2 Fp.out _ (HT.out.on HB24.out)).mono ?_
  rintro e w19 ⟨rfl, hb⟩
  have HB25 := Lib.hid (HB24.out.trans ((hb).mono HB24.out.size))
  have Va_25 := Lib.hid (Va_24.out.mono hb)
  have Vb_25 := Lib.hid (Vb_24.out.mono hb)
  have Vu_25 := Lib.hid (Vu_24.out.mono hb)
  have Vv_25 := Lib.hid (Vv_24.out.mono hb)
  have Vx_25 := Lib.hid (Vx_24.out.mono hb)
  have Vz_25 := Lib.hid (Vz_24.out.mono hb)
  clear Va_24 Vb_24 Vu_24 Vv_24 Vx_24 Vz_24
  clear hb
  obtain ⟨zz, zc0, zc1⟩ := Vz_25.out
  go_wp2_with fail
  clear zz zc0 zc1
  refine (xHas (sqI a1 a2).1 (sqI a1 a2).2 q true I6.out (sq_order _ _) FZ.out.1 FZ.out.2 Fq.out _ (HT.out.on HB25.out)).mono ?_
  rintro e w20 ⟨rfl, hb⟩
  have HB26 := Lib.hid (HB25.out.trans ((hb).mono HB25.out.size))
  have Va_26 := Lib.hid (Va_25.out.mono hb)
  have Vb_26 := Lib.hid (Vb_25.out.mono hb)
  have Vu_26 := Lib.hid (Vu_25.out.mono hb)
  have Vv_26 := Lib.hid (Vv_25.out.mono hb)
  have Vx_26 := Lib.hid (Vx_25.out.mono hb)
  have Vz_26 := Lib.hid (Vz_25.out.mono hb)
  clear Va_25 Vb_25 Vu_25 Vv_25 Vx_25 Vz_25
  clear hb
  obtain ⟨za, ac0, ac1⟩ := Va_26.out
  obtain ⟨zb, bc0, bc1⟩ := Vb_26.out
  go_wp2_with fail
  clear za ac0 ac1 zb bc0 bc1
  refine (xDiv a1 a2 b1 b2 d0 d1 d2 d3 Ed0.out Ed1.out Ed2.out Ed3.out HA.out HB.out HZ.out Fa1.out Fa2.out Fb1.out Fb2.out Fd0.out Fd1.out Fd2.out Fd3.out _ (HT.out.on HB26.out)).mono ?_
  rintro e w21 ⟨rfl, hb⟩
  have HB27 := Lib.hid (HB26.out.trans ((hb).mono HB26.out.size))
  have Va_27 := Lib.hid (Va_26.out.mono hb)
  have Vb_27 := Lib.hid (Vb_26.out.mono hb)
  have Vu_27 := Lib.hid (Vu_26.out.mono hb)
  have Vv_27 := Lib.hid (Vv_26.out.mono hb)
  have Vx_27 := Lib.hid (Vx_26.out.mono hb)
  have Vz_27 := Lib.hid (Vz_26.out.mono hb)
  clear Va_26 Vb_26 Vu_26 Vv_26 Vx_26 Vz_26
  clear hb
  have HB28 := Lib.hid (HB27.out.trans ((below_alloc w21 (.cells #[.string (Sq (exOf (row4 d0 d1 d2 d3) 3).1), .string (Sq (exOf (row4 d0 d1 d2 d3) 3).2)] 48)).mono HB27.out.size))
  have Va_28 := Lib.hid (Va_27.out.al (.cells #[.string (Sq (exOf (row4 d0 d1 d2 d3) 3).1), .string (Sq (exOf (row4 d0 d1 d2 d3) 3).2)] 48))
  have Vb_28 := Lib.hid (Vb_27.out.al (.cells #[.string (Sq (exOf (row4 d0 d1 d2 d3) 3).1), .string (Sq (exOf (row4 d0 d1 d2 d3) 3).2)] 48))
  have Vu_28 := Lib.hid (Vu_27.out.al (.cells #[.string (Sq (exOf (row4 d0 d1 d2 d3) 3).1), .string (Sq (exOf (row4 d0 d1 d2 d3) 3).2)] 48))
  have Vv_28 := Lib.hid (Vv_27.out.al (.cells #[.string (Sq (exOf (row4 d0 d1 d2 d3) 3).1), .string (Sq (exOf (row4 d0 d1 d2 d3) 3).2)] 48))
  have Vx_28 := Lib.hid (Vx_27.out.al (.cells #[.string (Sq (exOf (row4 d0 d1 d2 d3) 3).1), .string (Sq (exOf (row4 d0 d1 d2 d3) 3).2)] 48))
  have Vz_28 := Lib.hid (Vz_27.out.al (.cells #[.string (Sq (exOf (row4 d0 d1 d2 d3) 3).1), .string (Sq (exOf (row4 d0 d1 d2 d3) 3).2)] 48))
  clear Va_27 Vb_27 Vu_27 Vv_27 Vx_27 Vz_27
  have Vt_28 := Lib.hid (iv_boxg (W := w21) (g := w21.heap.size) (by simp) (Sq (exOf (row4 d0 d1 d2 d3) 3).1) (Sq (exOf (row4 d0 d1 d2 d3) 3).2))
  obtain ⟨zb, bc0, bc1⟩ := Vb_28.out
  go_wp2_with fail
  clear zb bc0 bc1
  refine (xHas_zero b1 b2 false HZ.out HB.out Fb1.out Fb2.out _ (HT.out.on HB28.out)).mono ?_
  rintro e w22 ⟨rfl, hb⟩
  have HB29 := Lib.hid (HB28.out.trans ((hb).mono HB28.out.size))
  have Va_29 := Lib.hid (Va_28.out.mono hb)
  have Vb_29 := Lib.hid (Vb_28.out.mono hb)
  have Vu_29 := Lib.hid (Vu_28.out.mono hb)
  have Vv_29 := Lib.hid (Vv_28.out.mono hb)
  have Vx_29 := Lib.hid (Vx_28.out.mono hb)
  have Vz_29 := Lib.hid (Vz_28.out.mono hb)
  have Vt_29 := Lib.hid (Vt_28.out.mono hb)
  clear Va_28 Vb_28 Vu_28 Vv_28 Vx_28 Vz_28 Vt_28
  clear hb
  go_wp2_with fail
  refine (qDiv px py r Er.out Fpx.out Fpy.out HY.out _ (HT.out.on HB29.out)).mono ?_
  rintro e w23 ⟨rfl, hb⟩
  have HB30 := Lib.hid (HB29.out.trans ((hb).mono HB29.out.size))
  have Va_30 := Lib.hid (Va_29.out.mono hb)
  have Vb_30 := Lib.hid (Vb_29.out.mono hb)
  have Vu_30 := Lib.hid (Vu_29.out.mono hb)
  have Vv_30 := Lib.hid (Vv_29.out.mono hb)
  have Vx_30 := Lib.hid (Vx_29.out.mono hb)
  have Vz_30 := Lib.hid (Vz_29.out.mono hb)
  have Vt_30 := Lib.hid (Vt_29.out.mono hb)
  clear Va_29 Vb_29 Vu_29 Vv_29 Vx_29 Vz_29 Vt_29
  clear hb
  obtain ⟨zt, tc0, tc1⟩ := Vt_30.out
  go_wp2_with fail
  clear zt tc0 tc1
  refine (xHas (exOf (row4 d0 d1 d2 d3) 3).1 (exOf (row4 d0 d1 d2 d3) 3).2 r true I7.out (exOf_order _ _) FT.out.1 FT.out.2 Fr.out _ (HT.out.on HB30.out)).mono ?_
  rintro e w24 ⟨rfl, hb⟩
  have HB31 := Lib.hid (HB30.out.trans ((hb).mono HB30.out.size))
  have Va_31 := Lib.hid (Va_30.out.mono hb)
  have Vb_31 := Lib.hid (Vb_30.out.mono hb)
  have Vu_31 := Lib.hid (Vu_30.out.mono hb)
  have Vv_31 := Lib.hid (Vv_30.out.mono hb)
  have Vx_31 := Lib.hid (Vx_30.out.mono hb)
  have Vz_31 := Lib.hid (Vz_30.out.mono hb)
  have Vt_31 := Lib.hid (Vt_30.out.mono hb)
  clear Va_30 Vb_30 Vu_30 Vv_30 Vx_30 Vz_30 Vt_30
  clear hb
  go_wp2
  go_ret
  exact ⟨rfl, HB31.out⟩

theorem vcon_any (l1 h1 l2 h2 : ByteArray) (j k : Int) (hj0 : 0 ≤ j) (hj1 : j ≤ 255) (hk0 : 0 ≤ k) (hk1 : k ≤ 255) (w : World) (hl : La w) :
    Calls Tryz.prog 7 #[.agg #[.string l1, .string h1], .agg #[.string l2, .string h2], .int .u8 j, .int .u8 k] w fun e w' => e = .returned (.bool true) ∧ Below w.heap.size w w' := by
  by_cases hlo : 40 < l1.size ∨ 40 < h1.size ∨ 40 < l2.size ∨ 40 < h2.size
  · exact vcon_long l1 h1 l2 h2 j k hlo w hl
  · have s0 : l1.size ≤ 40 ∧ h1.size ≤ 40 := by omega
    have s1 : l2.size ≤ 40 ∧ h2.size ≤ 40 := by omega
    clear hlo
    rcases iv_form l1 h1 s0.1 s0.2 with ⟨a1, a2, rfl, rfl, ha, m1, m2⟩ | g1
    · have g1 := fun W hW => xValid_yes a1 a2 ha (m1.fit (by decide)) (m2.fit (by decide)) W hW
      rcases iv_form l2 h2 s1.1 s1.2 with ⟨b1, b2, rfl, rfl, hb, n1, n2⟩ | g2
      · cases hz : decide (b1 ≤ 0 ∧ 0 ≤ b2) with
        | true => exact vcon_zero a1 a2 b1 b2 j k hj0 hj1 hk0 hk1 ha hb s0 s1 hz w hl
        | false => exact vcon_yes a1 a2 b1 b2 j k hj0 hj1 hk0 hk1 ha hb s0 s1 hz w hl
      · exact vcon_no2 _ _ _ _ j k s0 s1 g1 g2 w hl
    · exact vcon_no1 _ _ _ _ j k s0 s1 g1 w hl

end Go.Proofs.YtlagimghlngdgaaGreatDoor
/- garboardlaw04.IntervalContains: the card. -/
namespace Go.Proofs.YtlagimghlngdgaaGreatDoor
open Go.ChangeShapes Go.WideShapes Go.ChangeAt Go.WideMaps Go.WideElems Go.RowKit Go.Gb
open Go.ChangeMaps (open_string shut_string)

set_option maxRecDepth 100000 in
theorem intervalContains_post {H : Type} {enc : TypeId × Value → H} {f : Func} {s : ChangeSpec} {apart fresh handsOn again : Bool} {W W' : World} {al au : ByteArray} {bl bu : ByteArray} {c : Int} {d : Int} {ds gs : List (DataW H)}
    (hp : f.params.toList = [48, 48, 5, 5]) (hr : f.resultTypes = #[4])
    (hf : (s.fn H (ds ++ gs)).args = [.agg [.lit (.string al.data.toList), .lit (.string au.data.toList)], .agg [.lit (.string bl.data.toList), .lit (.string bu.data.toList)], .lit (.int .u8 c), .lit (.int .u8 d)]) (hf2 : (s.fn H (ds ++ gs)).results = [.lit (.bool true)])
    (hal : al.size ≤ maxLen) (hau : au.size ≤ maxLen) (hbl : bl.size ≤ maxLen) (hbu : bu.size ≤ maxLen) (hc : (Lit.int .u8 c).wf = true) (hd : (Lit.int .u8 d).wf = true)
    (hv : ∀ sp : Nat → Bool, DataW.TrodVars enc Tryz.prog W' sp s.vars (s.fn H (ds ++ gs)).vars [])
    (hW : DataW.Whole enc Tryz.prog f.params.toList s.vars apart W #[Value.agg #[.string al, .string au], Value.agg #[.string bl, .string bu], Value.int .u8 c, Value.int .u8 d].toList ds gs []) (hB : Below W.heap.size W W') :
    s.post enc Tryz.prog f apart fresh handsOn again W #[.agg #[.string al, .string au], .agg #[.string bl, .string bu], .int .u8 c, .int .u8 d] (.bool true) W' := by
  refine post_plain hW (fun _ _ _ => ?_) (fun _ => ?_) hv (hB.frame _) ?_
  · rw [hr, hf2]
    exact trodAll_mk1 (shut_bool Tryz.underlying4 _)
  · rw [hp, hf]
    exact trodAll_cons_mk (shut_iv hal hau) (trodAll_cons_mk (shut_iv hbl hbu) (trodAll_cons_mk (shut_int Tryz.underlying5 hc) (trodAll_mk1 (shut_int Tryz.underlying5 hd))))
  · exact ok_one hr rfl (okWide_bool_mk Tryz.underlying4 _)

set_option maxRecDepth 100000 in
theorem intervalContains_lifted (os : Os) (started : os.Started) (H : Type) (enc : TypeId × Value → H) :
    ReturnsInHanded {} Tryz.checked os 7 .any (fun w args => (Rows.intervalContainsSpec.pre enc Tryz.prog Tryz.f7 [] false w args ∧ laidMetH Tryz.prog laidListZ w) ∧ sizedMet enc Tryz.prog Tryz.f7 (OpenSpec.ofChange Rows.intervalContainsSpec) false w args)
      (Rows.intervalContainsSpec.post enc Tryz.prog Tryz.f7 false true false false) := by
  refine returnsInHanded_of_change_and (C := Tryz.checked) (X := fun w _ => laidMetH Tryz.prog laidListZ w) (fun _ _ _ hh h => h.of_heap hh) own started (by kernel_rfl) Tryz.func7
    (ChangeSpec.witness_shaped (enc := enc) (C := Tryz.checked) (os := os) (X := fun w _ => laidMetH Tryz.prog laidListZ w) false (World.doorLaid Tryz.prog 4000 os) #[.agg #[.string ⟨#[]⟩, .string ⟨#[]⟩], .agg #[.string ⟨#[]⟩, .string ⟨#[]⟩], .int .u8 0, .int .u8 0] 8 rfl (World.shaped_of_RefB (by kernel_rfl) (by kernel_rfl)) (by kernel_rfl) (by kernel_rfl) (by kernel_rfl) (door_metZ os _)) ?_
  intro W base args ds gs before hval0 hW _ _ hL _
  have hval : ∀ (j : Nat) t v, Tryz.f7.params[j]? = some t → args[j]? = some v → Value.okWide Tryz.prog W .any base t v := hval0
  have hW' := hW
  obtain ⟨p, q, hA0, hV, rfl, hfz, hnd⟩ := hW
  have hA : DataW.TrodAll enc Tryz.prog W 0 (fun _ => true) true Tryz.f7.params.toList args.toList ds p := hA0
  rw [Tryz.params7] at hA hval
  obtain ⟨v0, v1, v2, v3, d0, d1, d2, d3, p0, p1, p2, p3, rfl, rfl, rfl, h0, h1, h2, h3⟩ := trodAll_four hA
  obtain ⟨rfl, rfl⟩ := trodVars_none hV
  obtain ⟨al, au, rfl, rfl, rfl, hal, hau⟩ := open_iv (hval 0 48 v0 rfl rfl) h0
  obtain ⟨bl, bu, rfl, rfl, rfl, hbl, hbu⟩ := open_iv (hval 1 48 v1 rfl rfl) h1
  obtain ⟨c, rfl, rfl, rfl, hc⟩ := open_int Tryz.underlying5 (hval 2 5 v2 rfl rfl) h2
  have bc := int_bounds_u hc
  obtain ⟨d, rfl, rfl, rfl, hd⟩ := open_int Tryz.underlying5 (hval 3 5 v3 rfl rfl) h3
  have bd := int_bounds_u hd
  clear hA0 hval0
  simp only [List.append_nil] at hW'
  refine (vcon_any al au bl bu c d bc.1 bc.2 bd.1 bd.2 W (la_of_laid hL)).mono fun e W' ⟨he, hB⟩ => ?_
  subst he
  refine ⟨_, rfl, intervalContains_post (by kernel_rfl) (by kernel_rfl) ?_ ?_ hal hau hbl hbu hc hd ?_ hW' hB⟩
  · exact rfl
  · exact rfl
  · exact fun _ => rfl

theorem intervalContains_said : Rows.IntervalContainsSaid :=
  OpenClaim.holds_of_wide 7 Tryz.f7 rfl rfl rfl rfl rfl rfl rfl ⟨rfl, rfl, rfl, rfl, rfl⟩ rfl rfl rfl rfl rfl (by kernel_rfl) Tryz.func7 (by kernel_rfl)
    (of_decide_eq_true (by kernel_rfl)) (by unfold Func.isWrapper; first | (rw [if_pos (by decide +kernel)]; kernel_rfl) | (rw [if_neg (by decide +kernel)]; exact ⟨rfl, rfl⟩))
    (fun os started H enc _ => intervalContains_lifted os started H enc)

theorem intervalContains_plain (f : FuncId) (fn : Func) (hf : Tryz.pinned.checked.prog.funcNamed "garboard/garboardlaw04.IntervalContains" = some f) (hfn : Tryz.pinned.checked.prog.funcs[f]? = some fn) :
    true = Tryz.pinned.checked.prog.looks [] ∧ ∀ (j : Nat) t, fn.params[j]? = some t → Tryz.pinned.checked.prog.wantsStandIn t = false := by
  obtain rfl : f = 7 := Option.some.inj ((show Tryz.prog.funcNamed "garboard/garboardlaw04.IntervalContains" = some 7 by kernel_rfl).symm.trans hf) |>.symm
  obtain rfl : fn = Tryz.f7 := (Option.some.inj (Tryz.func7.symm.trans hfn)).symm
  refine ⟨by kernel_rfl, fun j t ht => ?_⟩
  rw [Tryz.params7] at ht
  have hm := Array.mem_of_getElem? ht
  have ho : t = 48 ∨ t = 5 := by simp at hm; omega
  rcases ho with rfl | rfl
  · exact (show Tryz.prog.wantsStandIn 48 = false by kernel_rfl)
  · exact (show Tryz.prog.wantsStandIn 5 = false by kernel_rfl)

theorem intervalContains_card : Rows.IntervalContainsCardSaid :=
  Claim7.holds_tied_plain_at .later [] _ _ _ _ intervalContains_said (fun _ h => by cases h) (by kernel_rfl) (fun _ h => by cases h) intervalContains_row_tie rfl ⟨rfl, rfl⟩ (by kernel_rfl) rfl intervalContains_plain (by kernel_rfl)

end Go.Proofs.YtlagimghlngdgaaGreatDoor
