/- Texts of this proof, one behind the other. -/
import Derived.Test.YtlagimghlngdgaaGreatDoorMvr
import Derived.Deep.AppendLies
import Derived.Test.YtlagimghlngdgaaGreatDoorVn
import Derived.Test.YtlagimghlngdgaaGreatDoorMfr
/- garboardlaw04.IntervalEnds returns true: walks. -/
namespace Go.Proofs.YtlagimghlngdgaaGreatDoor
open Go.RowKit Go.Gb

set_option maxHeartbeats 8000000 in
set_option maxRecDepth 100000 in
theorem vend_long (l1 h1 l2 h2 : ByteArray)  (hab : 40 < l1.size ∨ 40 < h1.size ∨ 40 < l2.size ∨ 40 < h2.size) (w : World) (hl : La w) :
    Calls Tryz.prog 8 #[.agg #[.string l1, .string h1], .agg #[.string l2, .string h2]] w fun e w' => e = .returned (.bool true) ∧ Below w.heap.size w w' := by
  have HW := Lib.hid hab
  clear hab
  have HT := Lib.hid hl
  clear hl
  have HB0 := Lib.hid (Below.refl w.heap.size w)
  have HB1 := Lib.hid (HB0.out.trans ((below_alloc w (.cells #[.string l1, .string h1] 48)).mono HB0.out.size))
  have Va_1 := Lib.hid (iv_boxg (W := w) (g := w.heap.size) (by simp) l1 h1)
  have HB2 := Lib.hid (HB1.out.trans ((below_alloc (w.alloc (.cells #[.string l1, .string h1] 48)) (.cells #[.string l2, .string h2] 48)).mono HB1.out.size))
  have Va_2 := Lib.hid (Va_1.out.al (.cells #[.string l2, .string h2] 48))
  clear Va_1
  have Vb_2 := Lib.hid (iv_boxg (W := (w.alloc (.cells #[.string l1, .string h1] 48))) (g := w.heap.size + 1) (by simp) l2 h2)
  go_enter Tryz.func8, Tryz.ntmps8
  go_wp2_with fail
  refine (vawake _ (HT.out.on HB2.out)).mono ?_
  rintro e w1 ⟨rfl, hb⟩
  have HB3 := Lib.hid (HB2.out.trans ((hb).mono HB2.out.size))
  have Va_3 := Lib.hid (Va_2.out.mono hb)
  have Vb_3 := Lib.hid (Vb_2.out.mono hb)
  clear Va_2 Vb_2
  clear hb
  obtain ⟨za, ac0, ac1⟩ := Va_3.out
  obtain ⟨zb, bc0, bc1⟩ := Vb_3.out
  have HB4 := Lib.hid (HB3.out.trans ((below_alloc w1 (.cells #[.string l1, .string h1, .string l2, .string h2] 48)).mono HB3.out.size))
  have Va_4 := Lib.hid (Va_3.out.al (.cells #[.string l1, .string h1, .string l2, .string h2] 48))
  have Vb_4 := Lib.hid (Vb_3.out.al (.cells #[.string l1, .string h1, .string l2, .string h2] 48))
  clear Va_3 Vb_3
  have hc := ivs_cells2 w1 l1 h1 l2 h2
  go_wp2_with fail
  clear za ac0 ac1 zb bc0 bc1
  refine (wide2_yes (w1.heap.size) l1 h1 l2 h2 _ HW.out (by simp) hc).mono ?_
  rintro e w2 ⟨rfl, hb⟩
  have HB5 := Lib.hid (HB4.out.trans ((hb).mono HB4.out.size))
  have Va_5 := Lib.hid (Va_4.out.mono hb)
  have Vb_5 := Lib.hid (Vb_4.out.mono hb)
  clear Va_4 Vb_4
  clear hb
  clear hc
  go_wp2_with fail
  refine (vawake _ (HT.out.on HB5.out)).mono ?_
  rintro e w3 ⟨rfl, hb⟩
  have HB6 := Lib.hid (HB5.out.trans ((hb).mono HB5.out.size))
  have Va_6 := Lib.hid (Va_5.out.mono hb)
  have Vb_6 := Lib.hid (Vb_5.out.mono hb)
  clear Va_5 Vb_5
  clear hb
  go_wp2
  go_ret
  exact ⟨rfl, HB6.out⟩

set_option maxHeartbeats 8000000 in
set_option maxRecDepth 100000 in
theorem vend_no1 (l1 h1 l2 h2 : ByteArray) (s0 : l1.size ≤ 40 ∧ h1.size ≤ 40) (s1 : l2.size ≤ 40 ∧ h2.size ≤ 40) (g1 : ∀ W, La W → Calls Tryz.prog 34 #[.agg #[.string l1, .string h1]] W fun e w' => e = .returned (.bool false) ∧ Below W.heap.size W w') (w : World) (hl : La w) :
    Calls Tryz.prog 8 #[.agg #[.string l1, .string h1], .agg #[.string l2, .string h2]] w fun e w' => e = .returned (.bool true) ∧ Below w.heap.size w w' := by
  have SZ0 := Lib.hid s0
  clear s0
  have SZ1 := Lib.hid s1
  clear s1
  have G1 := Lib.hid g1
  clear g1
  have HT := Lib.hid hl
  clear hl
  have HB0 := Lib.hid (Below.refl w.heap.size w)
  have HB1 := Lib.hid (HB0.out.trans ((below_alloc w (.cells #[.string l1, .string h1] 48)).mono HB0.out.size))
  have Va_1 := Lib.hid (iv_boxg (W := w) (g := w.heap.size) (by simp) l1 h1)
  have HB2 := Lib.hid (HB1.out.trans ((below_alloc (w.alloc (.cells #[.string l1, .string h1] 48)) (.cells #[.string l2, .string h2] 48)).mono HB1.out.size))
  have Va_2 := Lib.hid (Va_1.out.al (.cells #[.string l2, .string h2] 48))
  clear Va_1
  have Vb_2 := Lib.hid (iv_boxg (W := (w.alloc (.cells #[.string l1, .string h1] 48))) (g := w.heap.size + 1) (by simp) l2 h2)
  go_enter Tryz.func8, Tryz.ntmps8
  go_wp2_with fail
  refine (vawake _ (HT.out.on HB2.out)).mono ?_
  rintro e w1 ⟨rfl, hb⟩
  have HB3 := Lib.hid (HB2.out.trans ((hb).mono HB2.out.size))
  have Va_3 := Lib.hid (Va_2.out.mono hb)
  have Vb_3 := Lib.hid (Vb_2.out.mono hb)
  clear Va_2 Vb_2
  clear hb
  obtain ⟨za, ac0, ac1⟩ := Va_3.out
  obtain ⟨zb, bc0, bc1⟩ := Vb_3.out
  have HB4 := Lib.hid (HB3.out.trans ((below_alloc w1 (.cells #[.string l1, .string h1, .string l2, .string h2] 48)).mono HB3.out.size))
  have Va_4 := Lib.hid (Va_3.out.al (.cells #[.string l1, .string h1, .string l2, .string h2] 48))
  have Vb_4 := Lib.hid (Vb_3.out.al (.cells #[.string l1, .string h1, .string l2, .string h2] 48))
  clear Va_3 Vb_3
  have hc := ivs_cells2 w1 l1 h1 l2 h2
  go_wp2_with fail
  clear za ac0 ac1 zb bc0 bc1
  refine (wide2_small (w1.heap.size) l1 h1 l2 h2 _ SZ0.out SZ1.out (by simp) hc).mono ?_
  rintro e w2 ⟨rfl, hb⟩
  have HB5 := Lib.hid (HB4.out.trans ((hb).mono HB4.out.size))
  have Va_5 := Lib.hid (Va_4.out.mono hb)
  have Vb_5 := Lib.hid (Vb_4.out.mono hb)
  clear Va_4 Vb_4
  clear hb
  clear hc
  obtain ⟨za, ac0, ac1⟩ := Va_5.out
  go_wp2_with fail
  clear za ac0 ac1
  refine (G1.out _ (HT.out.on HB5.out)).mono ?_
  rintro e w3 ⟨rfl, hb⟩
  have HB6 := Lib.hid (HB5.out.trans ((hb).mono HB5.out.size))
  have Va_6 := Lib.hid (Va_5.out.mono hb)
  have Vb_6 := Lib.hid (Vb_5.out.mono hb)
  clear Va_5 Vb_5
  clear hb
  go_wp2_with fail
  refine (vawake _ (HT.out.on HB6.out)).mono ?_
  rintro e w4 ⟨rfl, hb⟩
  have HB7 := Lib.hid (HB6.out.trans ((hb).mono HB6.out.size))
  have Va_7 := Lib.hid (Va_6.out.mono hb)
  have Vb_7 := Lib.hid (Vb_6.out.mono hb)
  clear Va_6 Vb_6
  clear hb
  go_wp2
  go_ret
  exact ⟨rfl, HB7.out⟩

set_option maxHeartbeats 8000000 in
set_option maxRecDepth 100000 in
theorem vend_no2 (l1 h1 l2 h2 : ByteArray) (s0 : l1.size ≤ 40 ∧ h1.size ≤ 40) (s1 : l2.size ≤ 40 ∧ h2.size ≤ 40) (g1 : ∀ W, La W → Calls Tryz.prog 34 #[.agg #[.string l1, .string h1]] W fun e w' => e = .returned (.bool true) ∧ Below W.heap.size W w') (g2 : ∀ W, La W → Calls Tryz.prog 34 #[.agg #[.string l2, .string h2]] W fun e w' => e = .returned (.bool false) ∧ Below W.heap.size W w') (w : World) (hl : La w) :
    Calls Tryz.prog 8 #[.agg #[.string l1, .string h1], .agg #[.string l2, .string h2]] w fun e w' => e = .returned (.bool true) ∧ Below w.heap.size w w' := by
  have SZ0 := Lib.hid s0
  clear s0
  have SZ1 := Lib.hid s1
  clear s1
  have G1 := Lib.hid g1
  have G2 := Lib.hid g2
  clear g1 g2
  have HT := Lib.hid hl
  clear hl
  have HB0 := Lib.hid (Below.refl w.heap.size w)
  have HB1 := Lib.hid (HB0.out.trans ((below_alloc w (.cells #[.string l1, .string h1] 48)).mono HB0.out.size))
  have Va_1 := Lib.hid (iv_boxg (W := w) (g := w.heap.size) (by simp) l1 h1)
  have HB2 := Lib.hid (HB1.out.trans ((below_alloc (w.alloc (.cells #[.string l1, .string h1] 48)) (.cells #[.string l2, .string h2] 48)).mono HB1.out.size))
  have Va_2 := Lib.hid (Va_1.out.al (.cells #[.string l2, .string h2] 48))
  clear Va_1
  have Vb_2 := Lib.hid (iv_boxg (W := (w.alloc (.cells #[.string l1, .string h1] 48))) (g := w.heap.size + 1) (by simp) l2 h2)
  go_enter Tryz.func8, Tryz.ntmps8
  go_wp2_with fail
  refine (vawake _ (HT.out.on HB2.out)).mono ?_
  rintro e w1 ⟨rfl, hb⟩
  have HB3 := Lib.hid (HB2.out.trans ((hb).mono HB2.out.size))
  have Va_3 := Lib.hid (Va_2.out.mono hb)
  have Vb_3 := Lib.hid (Vb_2.out.mono hb)
  clear Va_2 Vb_2
  clear hb
  obtain ⟨za, ac0, ac1⟩ := Va_3.out
  obtain ⟨zb, bc0, bc1⟩ := Vb_3.out
  have HB4 := Lib.hid (HB3.out.trans ((below_alloc w1 (.cells #[.string l1, .string h1, .string l2, .string h2] 48)).mono HB3.out.size))
  have Va_4 := Lib.hid (Va_3.out.al (.cells #[.string l1, .string h1, .string l2, .string h2] 48))
  have Vb_4 := Lib.hid (Vb_3.out.al (.cells #[.string l1, .string h1, .string l2, .string h2] 48))
  clear Va_3 Vb_3
  have hc := ivs_cells2 w1 l1 h1 l2 h2
  go_wp2_with fail
  clear za ac0 ac1 zb bc0 bc1
  refine (wide2_small (w1.heap.size) l1 h1 l2 h2 _ SZ0.out SZ1.out (by simp) hc).mono ?_
  rintro e w2 ⟨rfl, hb⟩
  have HB5 := Lib.hid (HB4.out.trans ((hb).mono HB4.out.size))
  have Va_5 := Lib.hid (Va_4.out.mono hb)
  have Vb_5 := Lib.hid (Vb_4.out.mono hb)
  clear Va_4 Vb_4
  clear hb
  clear hc
  obtain ⟨za, ac0, ac1⟩ := Va_5.out
  go_wp2_with fail
  clear za ac0 ac1
  refine (G1.out _ (HT.out.on HB5.out)).mono ?_
  rintro e w3 ⟨rfl, hb⟩
  have HB6 := Lib.hid (HB5.out.trans ((hb).mono HB5.out.size))
  have Va_6 := Lib.hid (Va_5.out.mono hb)
  have Vb_6 := Lib.hid (Vb_5.out.mono hb)
  clear Va_5 Vb_5
  clear hb
  obtain ⟨zb, bc0, bc1⟩ := Vb_6.out
  go_wp2_with fail
  clear zb bc0 bc1
  refine (G2.out _ (HT.out.on HB6.out)).mono ?_
  rintro e w4 ⟨rfl, hb⟩
  have HB7 := Lib.hid (HB6.out.trans ((hb).mono HB6.out.size))
  have Va_7 := Lib.hid (Va_6.out.mono hb)
  have Vb_7 := Lib.hid (Vb_6.out.mono hb)
  clear Va_6 Vb_6
  clear hb
  go_wp2_with fail
  refine (vawake _ (HT.out.on HB7.out)).mono ?_
  rintro e w5 ⟨rfl, hb⟩
  have HB8 := Lib.hid (HB7.out.trans ((hb).mono HB7.out.size))
  have Va_8 := Lib.hid (Va_7.out.mono hb)
  have Vb_8 := Lib.hid (Vb_7.out.mono hb)
  clear Va_7 Vb_7
  clear hb
  go_wp2
  go_ret
  exact ⟨rfl, HB8.out⟩

set_option maxHeartbeats 16000000 in
set_option maxRecDepth 100000 in
theorem vend_yes (a1 a2 b1 b2 : Rat) (ha : a1 ≤ a2) (hb : b1 ≤ b2) (s0 : (Sq a1).size ≤ 40 ∧ (Sq a2).size ≤ 40) (s1 : (Sq b1).size ≤ 40 ∧ (Sq b2).size ≤ 40) (w : World) (hl : La w) :
    Calls Tryz.prog 8 #[.agg #[.string (Sq a1), .string (Sq a2)], .agg #[.string (Sq b1), .string (Sq b2)]] w fun e w' => e = .returned (.bool true) ∧ Below w.heap.size w w' := by
  have SZ0 := Lib.hid s0
  clear s0
  have SZ1 := Lib.hid s1
  clear s1
  obtain ⟨i0, hi, hz0, hz1, hz2⟩ := rat_info
  have m1 := smq_of SZ0.out.1 (by decide)
  have m2 := smq_of SZ0.out.2 (by decide)
  have n1 := smq_of SZ1.out.1 (by decide)
  have n2 := smq_of SZ1.out.2 (by decide)
  have HA := Lib.hid ha
  have HB := Lib.hid hb
  have Fb1 := Lib.hid (n1.fit (by decide))
  have Fb2 := Lib.hid (n2.fit (by decide))
  have Fa1 := Lib.hid (m1.fit (by decide))
  have Fa2 := Lib.hid (m2.fit (by decide))
  obtain ⟨s1, hs1⟩ : ∃ s, s = a1 + b1 := ⟨_, rfl⟩
  have Fs1 := Lib.hid (show FitQ s1 by rw [hs1]; exact (m1.add n1).fit (by decide))
  have Es1 := Lib.hid hs1.symm
  obtain ⟨s2, hs2⟩ : ∃ s, s = a2 + b2 := ⟨_, rfl⟩
  have Fs2 := Lib.hid (show FitQ s2 by rw [hs2]; exact (m2.add n2).fit (by decide))
  have Es2 := Lib.hid hs2.symm
  obtain ⟨p0, hp0⟩ : ∃ s, s = a1 * b1 := ⟨_, rfl⟩
  have Fp0 := Lib.hid (show FitQ p0 by rw [hp0]; exact (m1.mul n1).fit (by decide))
  have Ep0 := Lib.hid hp0.symm
  obtain ⟨p1, hp1⟩ : ∃ s, s = a1 * b2 := ⟨_, rfl⟩
  have Fp1 := Lib.hid (show FitQ p1 by rw [hp1]; exact (m1.mul n2).fit (by decide))
  have Ep1 := Lib.hid hp1.symm
  obtain ⟨p2, hp2⟩ : ∃ s, s = a2 * b1 := ⟨_, rfl⟩
  have Fp2 := Lib.hid (show FitQ p2 by rw [hp2]; exact (m2.mul n1).fit (by decide))
  have Ep2 := Lib.hid hp2.symm
  obtain ⟨p3, hp3⟩ : ∃ s, s = a2 * b2 := ⟨_, rfl⟩
  have Fp3 := Lib.hid (show FitQ p3 by rw [hp3]; exact (m2.mul n2).fit (by decide))
  have Ep3 := Lib.hid hp3.symm
  obtain ⟨q0, hq0⟩ : ∃ s, s = a1 * a1 := ⟨_, rfl⟩
  have Fq0 := Lib.hid (show FitQ q0 by rw [hq0]; exact (m1.mul m1).fit (by decide))
  have Eq0 := Lib.hid hq0.symm
  obtain ⟨q1, hq1⟩ : ∃ s, s = a1 * a2 := ⟨_, rfl⟩
  have Fq1 := Lib.hid (show FitQ q1 by rw [hq1]; exact (m1.mul m2).fit (by decide))
  have Eq1 := Lib.hid hq1.symm
  obtain ⟨q2, hq2⟩ : ∃ s, s = a2 * a1 := ⟨_, rfl⟩
  have Fq2 := Lib.hid (show FitQ q2 by rw [hq2]; exact (m2.mul m1).fit (by decide))
  have Eq2 := Lib.hid hq2.symm
  obtain ⟨q3, hq3⟩ : ∃ s, s = a2 * a2 := ⟨_, rfl⟩
  have Fq3 := Lib.hid (show FitQ q3 by rw [hq3]; exact (m2.mul m2).fit (by decide))
  have Eq3 := Lib.hid hq3.symm
  have FQ := Lib.hid (fit_row4 Fq0.out Fq1.out Fq2.out Fq3.out)
  have FS := Lib.hid (show FitQ (sqI a1 a2).1 ∧ FitQ (sqI a1 a2).2 from fit_sqI (by rw [← hq0]; exact Fq0.out) (by rw [← hq3]; exact Fq3.out))
  have SM := Lib.hid (show (exOf (row4 q0 q1 q2 q3) 3).1 ≤ (sqI a1 a2).1 ∧ (sqI a1 a2).2 = (exOf (row4 q0 q1 q2 q3) 3).2 by rw [hq0, hq1, hq2, hq3]; exact sq_mul ha)
  have ON := Lib.hid (row4_one p0 p1 p2 p3)
  have CM := Lib.hid (fun W hW => xMeet (sqI a1 a2).1 (sqI a1 a2).2 (exOf (row4 q0 q1 q2 q3) 3).1 (sqI a1 a2).2 (sqI a1 a2).1 (sqI a1 a2).2 (max_l SM.out.1) (min_l Rat.le_refl) (sq_order _ _) (Rat.le_trans SM.out.1 (sq_order _ _)) (sq_order _ _) FS.out.1 FS.out.2 FQ.out.1 FS.out.2 W hW)
  have CQ : Hid (∀ W, La W → Calls Tryz.prog 39 #[.agg #[.string (Sq a1), .string (Sq a2)], .agg #[.string (Sq a1), .string (Sq a2)]] W fun e w' => e = .returned (.tuple #[.agg #[.string (Sq (exOf (row4 q0 q1 q2 q3) 3).1), .string (Sq (sqI a1 a2).2)], .int .i64 0]) ∧ Below W.heap.size W w') := Lib.hid (fun W hW => by
    have h := xMul a1 a2 a1 a2 q0 q1 q2 q3 Eq0.out Eq1.out Eq2.out Eq3.out HA.out HA.out Fa1.out Fa2.out Fa1.out Fa2.out Fq0.out Fq1.out Fq2.out Fq3.out W hW
    rw [← SM.out.2] at h
    exact h)
  clear ha hb m1 m2 n1 n2 hs1 hs2 hp0 hp1 hp2 hp3 hq0 hq1 hq2 hq3
  have HT := Lib.hid hl
  clear hl
  have HB0 := Lib.hid (Below.refl w.heap.size w)
  have HB1 := Lib.hid (HB0.out.trans ((below_alloc w (.cells #[.string (Sq a1), .string (Sq a2)] 48)).mono HB0.out.size))
  have Va_1 := Lib.hid (iv_boxg (W := w) (g := w.heap.size) (by simp) (Sq a1) (Sq a2))
  have HB2 := Lib.hid (HB1.out.trans ((below_alloc (w.alloc (.cells #[.string (Sq a1), .string (Sq a2)] 48)) (.cells #[.string (Sq b1), .string (Sq b2)] 48)).mono HB1.out.size))
  have Va_2 := Lib.hid (Va_1.out.al (.cells #[.string (Sq b1), .string (Sq b2)] 48))
  clear Va_1
  have Vb_2 := Lib.hid (iv_boxg (W := (w.alloc (.cells #[.string (Sq a1), .string (Sq a2)] 48))) (g := w.heap.size + 1) (by simp) (Sq b1) (Sq b2))
  go_enter Tryz.func8, Tryz.ntmps8
  go_wp2_with fail
  refine (vawake _ (HT.out.on HB2.out)).mono ?_
  rintro e w1 ⟨rfl, hb⟩
  have HB3 := Lib.hid (HB2.out.trans ((hb).mono HB2.out.size))
  have Va_3 := Lib.hid (Va_2.out.mono hb)
  have Vb_3 := Lib.hid (Vb_2.out.mono hb)
  clear Va_2 Vb_2
  clear hb
  obtain ⟨za, ac0, ac1⟩ := Va_3.out
  obtain ⟨zb, bc0, bc1⟩ := Vb_3.out
  have HB4 := Lib.hid (HB3.out.trans ((below_alloc w1 (.cells #[.string (Sq a1), .string (Sq a2), .string (Sq b1), .string (Sq b2)] 48)).mono HB3.out.size))
  have Va_4 := Lib.hid (Va_3.out.al (.cells #[.string (Sq a1), .string (Sq a2), .string (Sq b1), .string (Sq b2)] 48))
  have Vb_4 := Lib.hid (Vb_3.out.al (.cells #[.string (Sq a1), .string (Sq a2), .string (Sq b1), .string (Sq b2)] 48))
  clear Va_3 Vb_3
  have hc := ivs_cells2 w1 (Sq a1) (Sq a2) (Sq b1) (Sq b2)
  go_wp2_with fail
  clear za ac0 ac1 zb bc0 bc1
  refine (wide2_small (w1.heap.size) (Sq a1) (Sq a2) (Sq b1) (Sq b2) _ SZ0.out SZ1.out (by simp) hc).mono ?_
  rintro e w2 ⟨rfl, hb⟩
  have HB5 := Lib.hid (HB4.out.trans ((hb).mono HB4.out.size))
  have Va_5 := Lib.hid (Va_4.out.mono hb)
  have Vb_5 := Lib.hid (Vb_4.out.mono hb)
  clear Va_4 Vb_4
  clear hb
  clear hc
  obtain ⟨za, ac0, ac1⟩ := Va_5.out
  go_wp2_with fail
  clear za ac0 ac1
  refine (xValid_yes a1 a2 HA.out Fa1.out Fa2.out _ (HT.out.on HB5.out)).mono ?_
  rintro e w3 ⟨rfl, hb⟩
  have HB6 := Lib.hid (HB5.out.trans ((hb).mono HB5.out.size))
  have Va_6 := Lib.hid (Va_5.out.mono hb)
  have Vb_6 := Lib.hid (Vb_5.out.mono hb)
  clear Va_5 Vb_5
  clear hb
  obtain ⟨zb, bc0, bc1⟩ := Vb_6.out
  go_wp2_with fail
  clear zb bc0 bc1
  refine (xValid_yes b1 b2 HB.out Fb1.out Fb2.out _ (HT.out.on HB6.out)).mono ?_
  rintro e w4 ⟨rfl, hb⟩
  have HB7 := Lib.hid (HB6.out.trans ((hb).mono HB6.out.size))
  have Va_7 := Lib.hid (Va_6.out.mono hb)
  have Vb_7 := Lib.hid (Vb_6.out.mono hb)
  clear Va_6 Vb_6
  clear hb
  obtain ⟨za, ac0, ac1⟩ := Va_7.out
  obtain ⟨zb, bc0, bc1⟩ := Vb_7.out
  go_wp2_with fail
  clear za ac0 ac1 zb bc0 bc1
  refine (xAdd a1 a2 b1 b2 s1 s2 Es1.out Es2.out HA.out HB.out Fa1.out Fa2.out Fb1.out Fb2.out _ (HT.out.on HB7.out)).mono ?_
  rintro e w5 ⟨rfl, hb⟩
  have HB8 := Lib.hid (HB7.out.trans ((hb).mono HB7.out.size))
  have Va_8 := Lib.hid (Va_7.out.mono hb)
  have Vb_8 := Lib.hid (Vb_7.out.mono hb)
  clear Va_7 Vb_7
  clear hb
  have HB9 := Lib.hid (HB8.out.trans ((below_alloc w5 (.cells #[.string (Sq s1), .string (Sq s2)] 48)).mono HB8.out.size))
  have Va_9 := Lib.hid (Va_8.out.al (.cells #[.string (Sq s1), .string (Sq s2)] 48))
  have Vb_9 := Lib.hid (Vb_8.out.al (.cells #[.string (Sq s1), .string (Sq s2)] 48))
  clear Va_8 Vb_8
  have Vs_9 := Lib.hid (iv_boxg (W := w5) (g := w5.heap.size) (by simp) (Sq s1) (Sq s2))
  obtain ⟨za, ac0, ac1⟩ := Va_9.out
  obtain ⟨zb, bc0, bc1⟩ := Vb_9.out
  go_wp2_with fail
  clear za ac0 ac1 zb bc0 bc1
  refine (xMul a1 a2 b1 b2 p0 p1 p2 p3 Ep0.out Ep1.out Ep2.out Ep3.out HA.out HB.out Fa1.out Fa2.out Fb1.out Fb2.out Fp0.out Fp1.out Fp2.out Fp3.out _ (HT.out.on HB9.out)).mono ?_
  rintro e w6 ⟨rfl, hb⟩
  have HB10 := Lib.hid (HB9.out.trans ((hb).mono HB9.out.size))
  have Va_10 := Lib.hid (Va_9.out.mono hb)
  have Vb_10 := Lib.hid (Vb_9.out.mono hb)
  have Vs_10 := Lib.hid (Vs_9.out.mono hb)
  clear Va_9 Vb_9 Vs_9
  clear hb
  have HB11 := Lib.hid (HB10.out.trans ((below_alloc w6 (.cells #[.string (Sq (exOf (row4 p0 p1 p2 p3) 3).1), .string (Sq (exOf (row4 p0 p1 p2 p3) 3).2)] 48)).mono HB10.out.size))
  have Va_11 := Lib.hid (Va_10.out.al (.cells #[.string (Sq (exOf (row4 p0 p1 p2 p3) 3).1), .string (Sq (exOf (row4 p0 p1 p2 p3) 3).2)] 48))
  have Vb_11 := Lib.hid (Vb_10.out.al (.cells #[.string (Sq (exOf (row4 p0 p1 p2 p3) 3).1), .string (Sq (exOf (row4 p0 p1 p2 p3) 3).2)] 48))
  have Vs_11 := Lib.hid (Vs_10.out.al (.cells #[.string (Sq (exOf (row4 p0 p1 p2 p3) 3).1), .string (Sq (exOf (row4 p0 p1 p2 p3) 3).2)] 48))
  clear Va_10 Vb_10 Vs_10
  have Vp_11 := Lib.hid (iv_boxg (W := w6) (g := w6.heap.size) (by simp) (Sq (exOf (row4 p0 p1 p2 p3) 3).1) (Sq (exOf (row4 p0 p1 p2 p3) 3).2))
  obtain ⟨za, ac0, ac1⟩ := Va_11.out
  obtain ⟨zb, bc0, bc1⟩ := Vb_11.out
  go_wp2_with fail
  clear za ac0 ac1 zb bc0 bc1
  refine (qAdd a1 b1 s1 Es1.out Fa1.out Fb1.out _ (HT.out.on HB11.out)).mono ?_
  rintro e w7 ⟨rfl, hb⟩
  have HB12 := Lib.hid (HB11.out.trans ((hb).mono HB11.out.size))
  have Va_12 := Lib.hid (Va_11.out.mono hb)
  have Vb_12 := Lib.hid (Vb_11.out.mono hb)
  have Vs_12 := Lib.hid (Vs_11.out.mono hb)
  have Vp_12 := Lib.hid (Vp_11.out.mono hb)
  clear Va_11 Vb_11 Vs_11 Vp_11
  clear hb
  obtain ⟨za, ac0, ac1⟩ := Va_12.out
  obtain ⟨zb, bc0, bc1⟩ := Vb_12.out
  go_wp2_with fail
  clear za ac0 ac1 zb bc0 bc1
  refine (qAdd a2 b2 s2 Es2.out Fa2.out Fb2.out _ (HT.out.on HB12.out)).mono ?_
  rintro e w8 ⟨rfl, hb⟩
  have HB13 := Lib.hid (HB12.out.trans ((hb).mono HB12.out.size))
  have Va_13 := Lib.hid (Va_12.out.mono hb)
  have Vb_13 := Lib.hid (Vb_12.out.mono hb)
  have Vs_13 := Lib.hid (Vs_12.out.mono hb)
  have Vp_13 := Lib.hid (Vp_12.out.mono hb)
  clear Va_12 Vb_12 Vs_12 Vp_12
  clear hb
  obtain ⟨za, ac0, ac1⟩ := Va_13.out
  obtain ⟨zb, bc0, bc1⟩ := Vb_13.out
  go_wp2
  refine wp_loop_rounds 3 ?_
  rw [rounds_succ]
  clear za ac0 ac1 zb bc0 bc1
  have HB14 := Lib.hid (HB13.out.trans ((below_alloc w8 (.cells #[.string (Sq a1), .string (Sq a2)] 22)).mono HB13.out.size))
  have Va_14 := Lib.hid (Va_13.out.al (.cells #[.string (Sq a1), .string (Sq a2)] 22))
  have Vb_14 := Lib.hid (Vb_13.out.al (.cells #[.string (Sq a1), .string (Sq a2)] 22))
  have Vs_14 := Lib.hid (Vs_13.out.al (.cells #[.string (Sq a1), .string (Sq a2)] 22))
  have Vp_14 := Lib.hid (Vp_13.out.al (.cells #[.string (Sq a1), .string (Sq a2)] 22))
  clear Va_13 Vb_13 Vs_13 Vp_13
  have e0 : (w8.alloc (.cells #[.string (Sq a1), .string (Sq a2)] 22)).cell? ⟨w8.heap.size, 0, none⟩ = some (.string (Sq a1)) := (q_new rfl).trans rfl
  have e1 : (w8.alloc (.cells #[.string (Sq a1), .string (Sq a2)] 22)).cell? ⟨w8.heap.size, 1, none⟩ = some (.string (Sq a2)) := (q_new rfl).trans rfl
  obtain ⟨za, ac0, ac1⟩ := Va_14.out
  obtain ⟨zb, bc0, bc1⟩ := Vb_14.out
  go_wp2
  clear za ac0 ac1 zb bc0 bc1
  have HB15 := Lib.hid (HB14.out.trans ((below_alloc (w8.alloc (.cells #[.string (Sq a1), .string (Sq a2)] 22)) (.cells #[.string (Sq b1), .string (Sq b2)] 22)).mono HB14.out.size))
  have Va_15 := Lib.hid (Va_14.out.al (.cells #[.string (Sq b1), .string (Sq b2)] 22))
  have Vb_15 := Lib.hid (Vb_14.out.al (.cells #[.string (Sq b1), .string (Sq b2)] 22))
  have Vs_15 := Lib.hid (Vs_14.out.al (.cells #[.string (Sq b1), .string (Sq b2)] 22))
  have Vp_15 := Lib.hid (Vp_14.out.al (.cells #[.string (Sq b1), .string (Sq b2)] 22))
  clear Va_14 Vb_14 Vs_14 Vp_14
  obtain ⟨wB, hwB⟩ : ∃ wB : World, wB = ((w8.alloc (.cells #[.string (Sq a1), .string (Sq a2)] 22)).alloc (.cells #[.string (Sq b1), .string (Sq b2)] 22)) := ⟨_, rfl⟩
  have zB : w8.heap.size + 2 = wB.heap.size := by rw [hwB]; simp
  have KV := Lib.hid (show ∀ X, Below wB.heap.size wB X → (X.cell? ⟨w.heap.size, 0, none⟩ = some (.string (Sq a1)) ∧ X.cell? ⟨w.heap.size, 1, none⟩ = some (.string (Sq a2)) ∧ X.cell? ⟨w.heap.size + 1, 0, none⟩ = some (.string (Sq b1)) ∧ X.cell? ⟨w.heap.size + 1, 1, none⟩ = some (.string (Sq b2)) ∧ X.cell? ⟨w5.heap.size, 0, none⟩ = some (.string (Sq s1)) ∧ X.cell? ⟨w5.heap.size, 1, none⟩ = some (.string (Sq s2)) ∧ X.cell? ⟨w6.heap.size, 0, none⟩ = some (.string (Sq (exOf (row4 p0 p1 p2 p3) 3).1)) ∧ X.cell? ⟨w6.heap.size, 1, none⟩ = some (.string (Sq (exOf (row4 p0 p1 p2 p3) 3).2))) from fun X hB => by
    rw [hwB] at hB
    exact ⟨(Va_15.out.mono hB).2.1, (Va_15.out.mono hB).2.2, (Vb_15.out.mono hB).2.1, (Vb_15.out.mono hB).2.2, (Vs_15.out.mono hB).2.1, (Vs_15.out.mono hB).2.2, (Vp_15.out.mono hB).2.1, (Vp_15.out.mono hB).2.2⟩)
  have KA := Lib.hid (show ∀ X, Below wB.heap.size wB X → (X.cell? ⟨w8.heap.size, 0, none⟩ = some (.string (Sq a1)) ∧ X.cell? ⟨w8.heap.size, 1, none⟩ = some (.string (Sq a2))) from fun X hB => by
    rw [hwB] at hB
    exact ⟨(hB.cell (p := ⟨w8.heap.size, 0, none⟩) (by simp; omega)).trans ((q_lt (by simp)).trans e0), (hB.cell (p := ⟨w8.heap.size, 1, none⟩) (by simp; omega)).trans ((q_lt (by simp)).trans e1)⟩)
  have KB := Lib.hid (show ∀ X, Below wB.heap.size wB X → (X.cell? ⟨w8.heap.size + 1, 0, none⟩ = some (.string (Sq b1)) ∧ X.cell? ⟨w8.heap.size + 1, 1, none⟩ = some (.string (Sq b2))) from fun X hB => by
    rw [hwB] at hB
    exact ⟨(hB.cell (p := ⟨w8.heap.size + 1, 0, none⟩) (by simp)).trans ((q_new (by simp)).trans rfl), (hB.cell (p := ⟨w8.heap.size + 1, 1, none⟩) (by simp)).trans ((q_new (by simp)).trans rfl)⟩)
  have KW := Lib.hid (show ∀ X, Below wB.heap.size wB X → Below w.heap.size w X from fun X hB => by
    rw [hwB] at hB
    exact HB15.out.trans (hB.mono HB15.out.size))
  have KT := Lib.hid (show ∀ X, Below wB.heap.size wB X → La X from fun X hB => HT.out.on (KW.out X hB))
  rw [← hwB]
  have Lya := Lib.hid (show w.heap.size < wB.heap.size by rw [hwB]; exact Va_15.out.1)
  have Lyb := Lib.hid (show w.heap.size + 1 < wB.heap.size by rw [hwB]; exact Vb_15.out.1)
  have Lys := Lib.hid (show w5.heap.size < wB.heap.size by rw [hwB]; exact Vs_15.out.1)
  have Lyp := Lib.hid (show w6.heap.size < wB.heap.size by rw [hwB]; exact Vp_15.out.1)
  have X0 := Lib.hid (Below.refl wB.heap.size wB)
  have O0 := Lib.hid (World.ownsRow_nil wB wB.heap.size 22 1)
  clear hwB zB e0 e1 Va_15 Vb_15 Vs_15 Vp_15
  refine wp_loop_rounds 3 ?_
  rw [rounds_succ]
  obtain ⟨y0, y1⟩ := KB.out _ X0.out
  go_wp2_with fail
  clear y0 y1
  refine (qMul a1 b1 p0 Ep0.out Fa1.out Fb1.out _ (KT.out _ X0.out)).mono ?_
  rintro e w9 ⟨rfl, hb⟩
  have X1 := Lib.hid (show Below wB.heap.size wB w9 from fr_chain X0.out hb)
  have O1 := Lib.hid (own_below O0.out hb)
  clear hb X0 O0
  go_wp2_with (at_builtin; refine wpList_append_own _ rfl _ _ 57 rfl wB.heap.size 22 i0 (.string ⟨#[]⟩) 1 16 Tryz.underlying57 hi hz0 hz1 hz2 rfl (by decide) _ 0 [] rfl (O1.out.alloc _) ⟨w9.heap.size, 0, none⟩ 1 1 [.string (Sq p0)] rfl rfl (cells_one _ _ _) (by intro u hu; simp at hu; subst hu; rfl) (by unfold maxLen; omega) (by omega) (by have := X1.out.size; simp; omega) ?_)
  intro v1 u1 hown hgrow _
  have X2 := Lib.hid ((X1.out.alloc X1.out.size _).grown hgrow (by have := X1.out.size; simp; omega) (fun k hk => (O1.out.lt k hk).1))
  have O2 := Lib.hid (show u1.ownsRow wB.heap.size 22 1 v1 1 [.string (Sq p0)] from hown)
  clear hown hgrow X1 O1
  go_wp2
  rw [rounds_succ]
  obtain ⟨y0, y1⟩ := KB.out _ X2.out
  go_wp2_with fail
  clear y0 y1
  refine (qMul a1 b2 p1 Ep1.out Fa1.out Fb2.out _ (KT.out _ X2.out)).mono ?_
  rintro e w10 ⟨rfl, hb⟩
  have X3 := Lib.hid (show Below wB.heap.size wB w10 from fr_chain X2.out hb)
  have O3 := Lib.hid (own_below O2.out hb)
  clear hb X2 O2
  go_wp2_with (at_builtin; refine wpList_append_own _ rfl _ _ 57 rfl wB.heap.size 22 i0 (.string ⟨#[]⟩) 1 16 Tryz.underlying57 hi hz0 hz1 hz2 rfl (by decide) _ 1 [.string (Sq p0)] rfl (O3.out.alloc _) ⟨w10.heap.size, 0, none⟩ 1 1 [.string (Sq p1)] rfl rfl (cells_one _ _ _) (by intro u hu; simp at hu; subst hu; rfl) (by unfold maxLen; omega) (by omega) (by have := X3.out.size; simp; omega) ?_)
  intro v2 u2 hown hgrow _
  have X4 := Lib.hid ((X3.out.alloc X3.out.size _).grown hgrow (by have := X3.out.size; simp; omega) (fun k hk => (O3.out.lt k hk).1))
  have O4 := Lib.hid (show u2.ownsRow wB.heap.size 22 1 v2 2 [.string (Sq p0), .string (Sq p1)] from hown)
  clear hown hgrow X3 O3
  go_wp2
  rw [rounds_succ]
  go_wp2
  rw [rounds_succ]
  obtain ⟨x0, x1⟩ := KA.out _ X4.out
  obtain ⟨c0, c1, c2, c3, c4, c5, c6, c7⟩ := KV.out _ X4.out
  go_wp2
  clear x0 x1 c0 c1 c2 c3 c4 c5 c6 c7
  have OB := Lib.hid (fun k (h : v2.ownBlock = some k) => (O4.out.lt k h).2)
  have X5 := Lib.hid (X4.out.alloc X4.out.size (.cells #[.string (Sq b1), .string (Sq b2)] 22))
  have O5 := Lib.hid (O4.out.alloc (.cells #[.string (Sq b1), .string (Sq b2)] 22))
  have Y0 := Lib.hid (show (u2.alloc (.cells #[.string (Sq b1), .string (Sq b2)] 22)).cell? ⟨u2.heap.size, 0, none⟩ = some (.string (Sq b1)) from (q_new rfl).trans rfl)
  have Y1 := Lib.hid (show (u2.alloc (.cells #[.string (Sq b1), .string (Sq b2)] 22)).cell? ⟨u2.heap.size, 1, none⟩ = some (.string (Sq b2)) from (q_new rfl).trans rfl)
  have YN := Lib.hid (show u2.heap.size < (u2.alloc (.cells #[.string (Sq b1), .string (Sq b2)] 22)).heap.size by simp)
  clear X4 O4
  refine wp_loop_rounds 3 ?_
  rw [rounds_succ]
  have y0 := Y0.out
  go_wp2_with fail
  clear y0 Y0
  refine (qMul a2 b1 p2 Ep2.out Fa2.out Fb1.out _ (KT.out _ X5.out)).mono ?_
  rintro e w11 ⟨rfl, hb⟩
  have X6 := Lib.hid (show Below wB.heap.size wB w11 from fr_chain X5.out hb)
  have O6 := Lib.hid (own_below O5.out hb)
  have Y1 := Lib.hid ((hb.cell (p := ⟨u2.heap.size, 1, none⟩) YN.out).trans Y1.out)
  have YN := Lib.hid (Nat.lt_of_lt_of_le YN.out hb.size)
  clear hb X5 O5
  go_wp2_with (at_builtin; refine wpList_append_own _ rfl _ _ 57 rfl wB.heap.size 22 i0 (.string ⟨#[]⟩) 1 16 Tryz.underlying57 hi hz0 hz1 hz2 rfl (by decide) _ 2 [.string (Sq p0), .string (Sq p1)] rfl (O6.out.alloc _) ⟨w11.heap.size, 0, none⟩ 1 1 [.string (Sq p2)] rfl rfl (cells_one _ _ _) (by intro u hu; simp at hu; subst hu; rfl) (by unfold maxLen; omega) (by omega) (by have := X6.out.size; simp; omega) ?_)
  intro v3 u3 hown hgrow _
  have X7 := Lib.hid ((X6.out.alloc X6.out.size _).grown hgrow (by have := X6.out.size; simp; omega) (fun k hk => (O6.out.lt k hk).1))
  have O7 := Lib.hid (show u3.ownsRow wB.heap.size 22 1 v3 3 [.string (Sq p0), .string (Sq p1), .string (Sq p2)] from hown)
  have Y1 := Lib.hid ((hgrow.cell_far ⟨u2.heap.size, 1, none⟩ (by have := YN.out; simp; omega) (fun e => Nat.lt_irrefl _ (OB.out _ e.symm))).trans ((q_lt YN.out).trans Y1.out))
  clear OB YN
  clear hown hgrow X6 O6
  go_wp2
  rw [rounds_succ]
  have y1 := Y1.out
  go_wp2_with fail
  clear y1 Y1
  refine (qMul a2 b2 p3 Ep3.out Fa2.out Fb2.out _ (KT.out _ X7.out)).mono ?_
  rintro e w12 ⟨rfl, hb⟩
  have X8 := Lib.hid (show Below wB.heap.size wB w12 from fr_chain X7.out hb)
  have O8 := Lib.hid (own_below O7.out hb)
  clear hb X7 O7
  go_wp2_with (at_builtin; refine wpList_append_own _ rfl _ _ 57 rfl wB.heap.size 22 i0 (.string ⟨#[]⟩) 1 16 Tryz.underlying57 hi hz0 hz1 hz2 rfl (by decide) _ 3 [.string (Sq p0), .string (Sq p1), .string (Sq p2)] rfl (O8.out.alloc _) ⟨w12.heap.size, 0, none⟩ 1 1 [.string (Sq p3)] rfl rfl (cells_one _ _ _) (by intro u hu; simp at hu; subst hu; rfl) (by unfold maxLen; omega) (by omega) (by have := X8.out.size; simp; omega) ?_)
  intro v4 u4 hown hgrow _
  have X9 := Lib.hid ((X8.out.alloc X8.out.size _).grown hgrow (by have := X8.out.size; simp; omega) (fun k hk => (O8.out.lt k hk).1))
  have O9 := Lib.hid (show u4.ownsRow wB.heap.size 22 1 v4 4 [.string (Sq p0), .string (Sq p1), .string (Sq p2), .string (Sq p3)] from hown)
  clear hown hgrow X8 O8
  go_wp2
  rw [rounds_succ]
  go_wp2
  rw [rounds_succ]
  obtain ⟨g, cap, rfl, hg1, hg2, hcap, hcs⟩ := own_read O9.out (by decide)
  have RW := Lib.hid (show Rw g [Sq p0, Sq p1, Sq p2, Sq p3] u4 from ⟨hg2, fun i x hx => by
    match i, hx with
    | 0, hx => simp at hx; subst hx; exact hcs 0 _ rfl
    | 1, hx => simp at hx; subst hx; exact hcs 1 _ rfl
    | 2, hx => simp at hx; subst hx; exact hcs 2 _ rfl
    | 3, hx => simp at hx; subst hx; exact hcs 3 _ rfl
    | n + 4, hx => simp at hx⟩)
  have HC4 := Lib.hid hcap
  have KX := KV.out _ X9.out
  have VZ := (KW.out _ X9.out).size
  clear hcs hg1 hg2 hcap O9
  have zB2 := X9.out.size
  have HB16 := Lib.hid (KW.out _ X9.out)
  have Va_16 := Lib.hid (show Iv (w.heap.size) (Sq a1) (Sq a2) u4 from ⟨Nat.lt_of_lt_of_le Lya.out X9.out.size, KX.1, KX.2.1⟩)
  have Vb_16 := Lib.hid (show Iv (w.heap.size + 1) (Sq b1) (Sq b2) u4 from ⟨Nat.lt_of_lt_of_le Lyb.out X9.out.size, KX.2.2.1, KX.2.2.2.1⟩)
  have Vs_16 := Lib.hid (show Iv (w5.heap.size) (Sq s1) (Sq s2) u4 from ⟨Nat.lt_of_lt_of_le Lys.out X9.out.size, KX.2.2.2.2.1, KX.2.2.2.2.2.1⟩)
  have Vp_16 := Lib.hid (show Iv (w6.heap.size) (Sq (exOf (row4 p0 p1 p2 p3) 3).1) (Sq (exOf (row4 p0 p1 p2 p3) 3).2) u4 from ⟨Nat.lt_of_lt_of_le Lyp.out X9.out.size, KX.2.2.2.2.2.2.1, KX.2.2.2.2.2.2.2⟩)
  clear KX VZ zB2 X9
  obtain ⟨za, ac0, ac1⟩ := Va_16.out
  go_wp2_with fail
  clear za ac0 ac1
  refine (xSquare a1 a2 q0 q3 Eq0.out Eq3.out HA.out Fa1.out Fa2.out Fq0.out Fq3.out _ (HT.out.on HB16.out)).mono ?_
  rintro e w13 ⟨rfl, hb⟩
  have HB17 := Lib.hid (HB16.out.trans ((hb).mono HB16.out.size))
  have Va_17 := Lib.hid (Va_16.out.mono hb)
  have Vb_17 := Lib.hid (Vb_16.out.mono hb)
  have Vs_17 := Lib.hid (Vs_16.out.mono hb)
  have Vp_17 := Lib.hid (Vp_16.out.mono hb)
  clear Va_16 Vb_16 Vs_16 Vp_16
  have RW := Lib.hid (RW.out.mono (hb))
  clear hb
  have HB18 := Lib.hid (HB17.out.trans ((below_alloc w13 (.cells #[.string (Sq (sqI a1 a2).1), .string (Sq (sqI a1 a2).2)] 48)).mono HB17.out.size))
  have Va_18 := Lib.hid (Va_17.out.al (.cells #[.string (Sq (sqI a1 a2).1), .string (Sq (sqI a1 a2).2)] 48))
  have Vb_18 := Lib.hid (Vb_17.out.al (.cells #[.string (Sq (sqI a1 a2).1), .string (Sq (sqI a1 a2).2)] 48))
  have Vs_18 := Lib.hid (Vs_17.out.al (.cells #[.string (Sq (sqI a1 a2).1), .string (Sq (sqI a1 a2).2)] 48))
  have Vp_18 := Lib.hid (Vp_17.out.al (.cells #[.string (Sq (sqI a1 a2).1), .string (Sq (sqI a1 a2).2)] 48))
  clear Va_17 Vb_17 Vs_17 Vp_17
  have Vq_18 := Lib.hid (iv_boxg (W := w13) (g := w13.heap.size) (by simp) (Sq (sqI a1 a2).1) (Sq (sqI a1 a2).2))
  have RW := Lib.hid (RW.out.mono (below_alloc w13 (.cells #[.string (Sq (sqI a1 a2).1), .string (Sq (sqI a1 a2).2)] 48)))
  obtain ⟨za, ac0, ac1⟩ := Va_18.out
  go_wp2_with fail
  clear za ac0 ac1
  refine (CQ.out _ (HT.out.on HB18.out)).mono ?_
  rintro e w14 ⟨rfl, hb⟩
  have HB19 := Lib.hid (HB18.out.trans ((hb).mono HB18.out.size))
  have Va_19 := Lib.hid (Va_18.out.mono hb)
  have Vb_19 := Lib.hid (Vb_18.out.mono hb)
  have Vs_19 := Lib.hid (Vs_18.out.mono hb)
  have Vp_19 := Lib.hid (Vp_18.out.mono hb)
  have Vq_19 := Lib.hid (Vq_18.out.mono hb)
  clear Va_18 Vb_18 Vs_18 Vp_18 Vq_18
  have RW := Lib.hid (RW.out.mono (hb))
  clear hb
  have HB20 := Lib.hid (HB19.out.trans ((below_alloc w14 (.cells #[.string (Sq (exOf (row4 q0 q1 q2 q3) 3).1), .string (Sq (sqI a1 a2).2)] 48)).mono HB19.out.size))
  have Va_20 := Lib.hid (Va_19.out.al (.cells #[.string (Sq (exOf (row4 q0 q1 q2 q3) 3).1), .string (Sq (sqI a1 a2).2)] 48))
  have Vb_20 := Lib.hid (Vb_19.out.al (.cells #[.string (Sq (exOf (row4 q0 q1 q2 q3) 3).1), .string (Sq (sqI a1 a2).2)] 48))
  have Vs_20 := Lib.hid (Vs_19.out.al (.cells #[.string (Sq (exOf (row4 q0 q1 q2 q3) 3).1), .string (Sq (sqI a1 a2).2)] 48))
  have Vp_20 := Lib.hid (Vp_19.out.al (.cells #[.string (Sq (exOf (row4 q0 q1 q2 q3) 3).1), .string (Sq (sqI a1 a2).2)] 48))
  have Vq_20 := Lib.hid (Vq_19.out.al (.cells #[.string (Sq (exOf (row4 q0 q1 q2 q3) 3).1), .string (Sq (sqI a1 a2).2)] 48))
  clear Va_19 Vb_19 Vs_19 Vp_19 Vq_19
  have Vr_20 := Lib.hid (iv_boxg (W := w14) (g := w14.heap.size) (by simp) (Sq (exOf (row4 q0 q1 q2 q3) 3).1) (Sq (sqI a1 a2).2))
  have RW := Lib.hid (RW.out.mono (below_alloc w14 (.cells #[.string (Sq (exOf (row4 q0 q1 q2 q3) 3).1), .string (Sq (sqI a1 a2).2)] 48)))
  obtain ⟨zq, qc0, qc1⟩ := Vq_20.out
  obtain ⟨zr, rc0, rc1⟩ := Vr_20.out
  go_wp2_with fail
  clear zq qc0 qc1 zr rc0 rc1
  refine (CM.out _ (HT.out.on HB20.out)).mono ?_
  rintro e w15 ⟨rfl, hb⟩
  have HB21 := Lib.hid (HB20.out.trans ((hb).mono HB20.out.size))
  have Va_21 := Lib.hid (Va_20.out.mono hb)
  have Vb_21 := Lib.hid (Vb_20.out.mono hb)
  have Vs_21 := Lib.hid (Vs_20.out.mono hb)
  have Vp_21 := Lib.hid (Vp_20.out.mono hb)
  have Vq_21 := Lib.hid (Vq_20.out.mono hb)
  have Vr_21 := Lib.hid (Vr_20.out.mono hb)
  clear Va_20 Vb_20 Vs_20 Vp_20 Vq_20 Vr_20
  have RW := Lib.hid (RW.out.mono (hb))
  clear hb
  have HB22 := Lib.hid (HB21.out.trans ((below_alloc w15 (.cells #[.string (Sq (sqI a1 a2).1), .string (Sq (sqI a1 a2).2)] 48)).mono HB21.out.size))
  have Va_22 := Lib.hid (Va_21.out.al (.cells #[.string (Sq (sqI a1 a2).1), .string (Sq (sqI a1 a2).2)] 48))
  have Vb_22 := Lib.hid (Vb_21.out.al (.cells #[.string (Sq (sqI a1 a2).1), .string (Sq (sqI a1 a2).2)] 48))
  have Vs_22 := Lib.hid (Vs_21.out.al (.cells #[.string (Sq (sqI a1 a2).1), .string (Sq (sqI a1 a2).2)] 48))
  have Vp_22 := Lib.hid (Vp_21.out.al (.cells #[.string (Sq (sqI a1 a2).1), .string (Sq (sqI a1 a2).2)] 48))
  have Vq_22 := Lib.hid (Vq_21.out.al (.cells #[.string (Sq (sqI a1 a2).1), .string (Sq (sqI a1 a2).2)] 48))
  have Vr_22 := Lib.hid (Vr_21.out.al (.cells #[.string (Sq (sqI a1 a2).1), .string (Sq (sqI a1 a2).2)] 48))
  clear Va_21 Vb_21 Vs_21 Vp_21 Vq_21 Vr_21
  have Vm_22 := Lib.hid (iv_boxg (W := w15) (g := w15.heap.size) (by simp) (Sq (sqI a1 a2).1) (Sq (sqI a1 a2).2))
  have RW := Lib.hid (RW.out.mono (below_alloc w15 (.cells #[.string (Sq (sqI a1 a2).1), .string (Sq (sqI a1 a2).2)] 48)))
  have ON1 := Lib.hid (show Sq (exOf (row4 p0 p1 p2 p3) 3).1 = Sq p0 ∨ Sq (exOf (row4 p0 p1 p2 p3) 3).1 = Sq p1 ∨ Sq (exOf (row4 p0 p1 p2 p3) 3).1 = Sq p2 ∨ Sq (exOf (row4 p0 p1 p2 p3) 3).1 = Sq p3 by rcases ON.out.1 with h | h | h | h <;> rw [h] <;> simp)
  have ON2 := Lib.hid (show Sq (exOf (row4 p0 p1 p2 p3) 3).2 = Sq p0 ∨ Sq (exOf (row4 p0 p1 p2 p3) 3).2 = Sq p1 ∨ Sq (exOf (row4 p0 p1 p2 p3) 3).2 = Sq p2 ∨ Sq (exOf (row4 p0 p1 p2 p3) 3).2 = Sq p3 by rcases ON.out.2 with h | h | h | h <;> rw [h] <;> simp)
  go_upto_region 23 with fail
  (try simp only [List.append])
  generalize (w15.alloc (.cells #[.string (Sq (sqI a1 a2).1), .string (Sq (sqI a1 a2).2)] 48)) = w16 at *
  have KS := Lib.hid (show ∀ X : World, Below w16.heap.size w16 X → (X.cell? ⟨w.heap.size, 0, none⟩ = some (.string (Sq a1)) ∧ X.cell? ⟨w.heap.size, 1, none⟩ = some (.string (Sq a2)) ∧ X.cell? ⟨w.heap.size + 1, 0, none⟩ = some (.string (Sq b1)) ∧ X.cell? ⟨w.heap.size + 1, 1, none⟩ = some (.string (Sq b2)) ∧ X.cell? ⟨w5.heap.size, 0, none⟩ = some (.string (Sq s1)) ∧ X.cell? ⟨w5.heap.size, 1, none⟩ = some (.string (Sq s2)) ∧ X.cell? ⟨w6.heap.size, 0, none⟩ = some (.string (Sq (exOf (row4 p0 p1 p2 p3) 3).1)) ∧ X.cell? ⟨w6.heap.size, 1, none⟩ = some (.string (Sq (exOf (row4 p0 p1 p2 p3) 3).2)) ∧ X.cell? ⟨w13.heap.size, 0, none⟩ = some (.string (Sq (sqI a1 a2).1)) ∧ X.cell? ⟨w13.heap.size, 1, none⟩ = some (.string (Sq (sqI a1 a2).2)) ∧ X.cell? ⟨w14.heap.size, 0, none⟩ = some (.string (Sq (exOf (row4 q0 q1 q2 q3) 3).1)) ∧ X.cell? ⟨w14.heap.size, 1, none⟩ = some (.string (Sq (sqI a1 a2).2)) ∧ X.cell? ⟨w15.heap.size, 0, none⟩ = some (.string (Sq (sqI a1 a2).1)) ∧ X.cell? ⟨w15.heap.size, 1, none⟩ = some (.string (Sq (sqI a1 a2).2))) from fun X hB => ⟨(Va_22.out.mono hB).2.1, (Va_22.out.mono hB).2.2, (Vb_22.out.mono hB).2.1, (Vb_22.out.mono hB).2.2, (Vs_22.out.mono hB).2.1, (Vs_22.out.mono hB).2.2, (Vp_22.out.mono hB).2.1, (Vp_22.out.mono hB).2.2, (Vq_22.out.mono hB).2.1, (Vq_22.out.mono hB).2.2, (Vr_22.out.mono hB).2.1, (Vr_22.out.mono hB).2.2, (Vm_22.out.mono hB).2.1, (Vm_22.out.mono hB).2.2⟩)
  have KT := Lib.hid (show ∀ X : World, Below w16.heap.size w16 X → La X from fun X hB => HT.out.on (HB22.out.trans (hB.mono HB22.out.size)))
  have F0 := Lib.hid (Below.refl w16.heap.size w16)
  obtain ⟨r0, r1, r2, r3, r4, r5, r6, r7, r8, r9, r10, r11, r12, r13⟩ := KS.out _ F0.out
  go_region_held3 (fun w' => w'.cell? ⟨w.heap.size, 0, none⟩ = some (.string (Sq a1)) ∧ w'.cell? ⟨w.heap.size, 1, none⟩ = some (.string (Sq a2)) ∧ w'.cell? ⟨w.heap.size + 1, 0, none⟩ = some (.string (Sq b1)) ∧ w'.cell? ⟨w.heap.size + 1, 1, none⟩ = some (.string (Sq b2)) ∧ w'.cell? ⟨w5.heap.size, 0, none⟩ = some (.string (Sq s1)) ∧ w'.cell? ⟨w5.heap.size, 1, none⟩ = some (.string (Sq s2)) ∧ w'.cell? ⟨w6.heap.size, 0, none⟩ = some (.string (Sq (exOf (row4 p0 p1 p2 p3) 3).1)) ∧ w'.cell? ⟨w6.heap.size, 1, none⟩ = some (.string (Sq (exOf (row4 p0 p1 p2 p3) 3).2)) ∧ w'.cell? ⟨w13.heap.size, 0, none⟩ = some (.string (Sq (sqI a1 a2).1)) ∧ w'.cell? ⟨w13.heap.size, 1, none⟩ = some (.string (Sq (sqI a1 a2).2)) ∧ w'.cell? ⟨w14.heap.size, 0, none⟩ = some (.string (Sq (exOf (row4 q0 q1 q2 q3) 3).1)) ∧ w'.cell? ⟨w14.heap.size, 1, none⟩ = some (.string (Sq (sqI a1 a2).2)) ∧ w'.cell? ⟨w15.heap.size, 0, none⟩ = some (.string (Sq (sqI a1 a2).1)) ∧ w'.cell? ⟨w15.heap.size, 1, none⟩ = some (.string (Sq (sqI a1 a2).2))) (first | (with_reducible exact KS.out _ F3.out) | (with_reducible exact KS.out _ F3.out.drew) | (with_reducible exact KS.out _ F2.out) | (with_reducible exact KS.out _ F2.out.drew) | (with_reducible exact KS.out _ F1.out) | (with_reducible exact KS.out _ F1.out.drew) | (with_reducible exact KS.out _ F0.out) | (with_reducible exact KS.out _ F0.out.drew))
    (first
      | (go_at_call 43; (with_reducible refine (in_raw (Sq s1) (Sq s2) _).mono ?_); rintro e w17 ⟨rfl, hb⟩; have F1 := Lib.hid (show Below w16.heap.size w16 w17 by first | exact fr_chain F0.out hb | exact fr_chain F0.out.drew hb); clear hb)
      | (go_at_call 44; (with_reducible refine (contains_4 g cap (Sq p0) (Sq p1) (Sq p2) (Sq p3) (Sq (exOf (row4 p0 p1 p2 p3) 3).1) _ ON1.out ?ra1 HC4.out).mono ?_); (case ra1 => first | exact RW.out.mono F1.out | exact RW.out.mono F1.out.drew); rintro e w' ⟨rfl, rfl⟩; have F2 := F1)
      | (go_at_call 44; (with_reducible refine (contains_4 g cap (Sq p0) (Sq p1) (Sq p2) (Sq p3) (Sq (exOf (row4 p0 p1 p2 p3) 3).2) _ ON2.out ?ra2 HC4.out).mono ?_); (case ra2 => first | exact RW.out.mono F2.out | exact RW.out.mono F2.out.drew); rintro e w' ⟨rfl, rfl⟩; have F3 := F2)
      | fail)
  clear r0 r1 r2 r3 r4 r5 r6 r7 r8 r9 r10 r11 r12 r13
  have HB23 := Lib.hid (HB22.out.trans ((F3.out).mono HB22.out.size))
  have Va_23 := Lib.hid (Va_22.out.mono F3.out)
  have Vb_23 := Lib.hid (Vb_22.out.mono F3.out)
  have Vs_23 := Lib.hid (Vs_22.out.mono F3.out)
  have Vp_23 := Lib.hid (Vp_22.out.mono F3.out)
  have Vq_23 := Lib.hid (Vq_22.out.mono F3.out)
  have Vr_23 := Lib.hid (Vr_22.out.mono F3.out)
  have Vm_23 := Lib.hid (Vm_22.out.mono F3.out)
  clear Va_22 Vb_22 Vs_22 Vp_22 Vq_22 Vr_22 Vm_22
  clear F0 F1 F2 F3
  go_wp2
  go_ret
  exact ⟨rfl, HB23.out⟩

theorem vend_any (l1 h1 l2 h2 : ByteArray) (w : World) (hl : La w) :
    Calls Tryz.prog 8 #[.agg #[.string l1, .string h1], .agg #[.string l2, .string h2]] w fun e w' => e = .returned (.bool true) ∧ Below w.heap.size w w' := by
  by_cases hlo : 40 < l1.size ∨ 40 < h1.size ∨ 40 < l2.size ∨ 40 < h2.size
  · exact vend_long l1 h1 l2 h2 hlo w hl
  · have s0 : l1.size ≤ 40 ∧ h1.size ≤ 40 := by omega
    have s1 : l2.size ≤ 40 ∧ h2.size ≤ 40 := by omega
    clear hlo
    rcases iv_form l1 h1 s0.1 s0.2 with ⟨a1, a2, rfl, rfl, ha, m1, m2⟩ | g1
    · have g1 := fun W hW => xValid_yes a1 a2 ha (m1.fit (by decide)) (m2.fit (by decide)) W hW
      rcases iv_form l2 h2 s1.1 s1.2 with ⟨b1, b2, rfl, rfl, hb, n1, n2⟩ | g2
      · exact vend_yes a1 a2 b1 b2 ha hb s0 s1 w hl
      · exact vend_no2 _ _ _ _ s0 s1 g1 g2 w hl
    · exact vend_no1 _ _ _ _ s0 s1 g1 w hl

end Go.Proofs.YtlagimghlngdgaaGreatDoor
/- garboardlaw04.IntervalEnds: the card. -/
namespace Go.Proofs.YtlagimghlngdgaaGreatDoor
open Go.ChangeShapes Go.WideShapes Go.ChangeAt Go.WideMaps Go.WideElems Go.RowKit Go.Gb
open Go.ChangeMaps (open_string shut_string)

set_option maxRecDepth 100000 in
theorem intervalEnds_post {H : Type} {enc : TypeId × Value → H} {f : Func} {s : ChangeSpec} {apart fresh handsOn again : Bool} {W W' : World} {al au : ByteArray} {bl bu : ByteArray} {ds gs : List (DataW H)}
    (hp : f.params.toList = [48, 48]) (hr : f.resultTypes = #[4])
    (hf : (s.fn H (ds ++ gs)).args = [.agg [.lit (.string al.data.toList), .lit (.string au.data.toList)], .agg [.lit (.string bl.data.toList), .lit (.string bu.data.toList)]]) (hf2 : (s.fn H (ds ++ gs)).results = [.lit (.bool true)])
    (hal : al.size ≤ maxLen) (hau : au.size ≤ maxLen) (hbl : bl.size ≤ maxLen) (hbu : bu.size ≤ maxLen)
    (hv : ∀ sp : Nat → Bool, DataW.TrodVars enc Tryz.prog W' sp s.vars (s.fn H (ds ++ gs)).vars [])
    (hW : DataW.Whole enc Tryz.prog f.params.toList s.vars apart W #[Value.agg #[.string al, .string au], Value.agg #[.string bl, .string bu]].toList ds gs []) (hB : Below W.heap.size W W') :
    s.post enc Tryz.prog f apart fresh handsOn again W #[.agg #[.string al, .string au], .agg #[.string bl, .string bu]] (.bool true) W' := by
  refine post_plain hW (fun _ _ _ => ?_) (fun _ => ?_) hv (hB.frame _) ?_
  · rw [hr, hf2]
    exact trodAll_mk1 (shut_bool Tryz.underlying4 _)
  · rw [hp, hf]
    exact trodAll_cons_mk (shut_iv hal hau) (trodAll_mk1 (shut_iv hbl hbu))
  · exact ok_one hr rfl (okWide_bool_mk Tryz.underlying4 _)

set_option maxRecDepth 100000 in
theorem intervalEnds_lifted (os : Os) (started : os.Started) (H : Type) (enc : TypeId × Value → H) :
    ReturnsInHanded {} Tryz.checked os 8 .any (fun w args => (Rows.intervalEndsSpec.pre enc Tryz.prog Tryz.f8 [] false w args ∧ laidMetH Tryz.prog laidListZ w) ∧ sizedMet enc Tryz.prog Tryz.f8 (OpenSpec.ofChange Rows.intervalEndsSpec) false w args)
      (Rows.intervalEndsSpec.post enc Tryz.prog Tryz.f8 false true false false) := by
  refine returnsInHanded_of_change_and (C := Tryz.checked) (X := fun w _ => laidMetH Tryz.prog laidListZ w) (fun _ _ _ hh h => h.of_heap hh) own started (by kernel_rfl) Tryz.func8
    (ChangeSpec.witness_shaped (enc := enc) (C := Tryz.checked) (os := os) (X := fun w _ => laidMetH Tryz.prog laidListZ w) false (World.doorLaid Tryz.prog 4000 os) #[.agg #[.string ⟨#[]⟩, .string ⟨#[]⟩], .agg #[.string ⟨#[]⟩, .string ⟨#[]⟩]] 8 rfl (World.shaped_of_RefB (by kernel_rfl) (by kernel_rfl)) (by kernel_rfl) (by kernel_rfl) (by kernel_rfl) (door_metZ os _)) ?_
  intro W base args ds gs before hval0 hW _ _ hL _
  have hval : ∀ (j : Nat) t v, Tryz.f8.params[j]? = some t → args[j]? = some v → Value.okWide Tryz.prog W .any base t v := hval0
  have hW' := hW
  obtain ⟨p, q, hA0, hV, rfl, hfz, hnd⟩ := hW
  have hA : DataW.TrodAll enc Tryz.prog W 0 (fun _ => true) true Tryz.f8.params.toList args.toList ds p := hA0
  rw [Tryz.params8] at hA hval
  obtain ⟨v0, v1, d0, d1, p0, p1, rfl, rfl, rfl, h0, h1⟩ := trodAll_two hA
  obtain ⟨rfl, rfl⟩ := trodVars_none hV
  obtain ⟨al, au, rfl, rfl, rfl, hal, hau⟩ := open_iv (hval 0 48 v0 rfl rfl) h0
  obtain ⟨bl, bu, rfl, rfl, rfl, hbl, hbu⟩ := open_iv (hval 1 48 v1 rfl rfl) h1
  clear hA0 hval0
  simp only [List.append_nil] at hW'
  refine (vend_any al au bl bu  W (la_of_laid hL)).mono fun e W' ⟨he, hB⟩ => ?_
  subst he
  refine ⟨_, rfl, intervalEnds_post (by kernel_rfl) (by kernel_rfl) ?_ ?_ hal hau hbl hbu ?_ hW' hB⟩
  · exact rfl
  · exact rfl
  · exact fun _ => rfl

theorem intervalEnds_said : Rows.IntervalEndsSaid :=
  OpenClaim.holds_of_wide 8 Tryz.f8 rfl rfl rfl rfl rfl rfl rfl ⟨rfl, rfl, rfl, rfl, rfl⟩ rfl rfl rfl rfl rfl (by kernel_rfl) Tryz.func8 (by kernel_rfl)
    (of_decide_eq_true (by kernel_rfl)) (by unfold Func.isWrapper; first | (rw [if_pos (by decide +kernel)]; kernel_rfl) | (rw [if_neg (by decide +kernel)]; exact ⟨rfl, rfl⟩))
    (fun os started H enc _ => intervalEnds_lifted os started H enc)

theorem intervalEnds_plain (f : FuncId) (fn : Func) (hf : Tryz.pinned.checked.prog.funcNamed "garboard/garboardlaw04.IntervalEnds" = some f) (hfn : Tryz.pinned.checked.prog.funcs[f]? = some fn) :
    true = Tryz.pinned.checked.prog.looks [] ∧ ∀ (j : Nat) t, fn.params[j]? = some t → Tryz.pinned.checked.prog.wantsStandIn t = false := by
  obtain rfl : f = 8 := Option.some.inj ((show Tryz.prog.funcNamed "garboard/garboardlaw04.IntervalEnds" = some 8 by kernel_rfl).symm.trans hf) |>.symm
  obtain rfl : fn = Tryz.f8 := (Option.some.inj (Tryz.func8.symm.trans hfn)).symm
  refine ⟨by kernel_rfl, fun j t ht => ?_⟩
  rw [Tryz.params8] at ht
  obtain rfl : t = 48 := by simpa using Array.mem_of_getElem? ht
  exact (show Tryz.prog.wantsStandIn 48 = false by kernel_rfl)

theorem intervalEnds_card : Rows.IntervalEndsCardSaid :=
  Claim7.holds_tied_plain_at .later [] _ _ _ _ intervalEnds_said (fun _ h => by cases h) (by kernel_rfl) (fun _ h => by cases h) intervalEnds_row_tie rfl ⟨rfl, rfl⟩ (by kernel_rfl) rfl intervalEnds_plain (by kernel_rfl)

end Go.Proofs.YtlagimghlngdgaaGreatDoor
