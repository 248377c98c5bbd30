/- Texts of this proof, one behind the other. -/
import Derived.Test.YtlagimghlngdgaaGreatDoorMvr
import Derived.Test.YtlagimghlngdgaaGreatDoorVn
import Derived.Test.YtlagimghlngdgaaGreatDoorMfr
/- garboardlaw04.IntervalNarrows returns true: walks. -/
namespace Go.Proofs.YtlagimghlngdgaaGreatDoor
open Go.RowKit Go.Gb

set_option maxHeartbeats 8000000 in
set_option maxRecDepth 100000 in
theorem vnar_long (l1 h1 l2 h2 l3 h3 : ByteArray)  (hab : 40 < l1.size ∨ 40 < h1.size ∨ 40 < l2.size ∨ 40 < h2.size ∨ 40 < l3.size ∨ 40 < h3.size) (w : World) (hl : La w) :
    Calls Tryz.prog 9 #[.agg #[.string l1, .string h1], .agg #[.string l2, .string h2], .agg #[.string l3, .string h3]] w fun e w' => e = .returned (.bool true) ∧ Below w.heap.size w w' := by
  have HW := Lib.hid hab
  clear hab
  have HT := Lib.hid hl
  clear hl
  have HB0 := Lib.hid (Below.refl w.heap.size w)
  have HB1 := Lib.hid (HB0.out.trans ((below_alloc w (.cells #[.string l1, .string h1] 48)).mono HB0.out.size))
  have Va_1 := Lib.hid (iv_boxg (W := w) (g := w.heap.size) (by simp) l1 h1)
  have HB2 := Lib.hid (HB1.out.trans ((below_alloc (w.alloc (.cells #[.string l1, .string h1] 48)) (.cells #[.string l2, .string h2] 48)).mono HB1.out.size))
  have Va_2 := Lib.hid (Va_1.out.al (.cells #[.string l2, .string h2] 48))
  clear Va_1
  have Vb_2 := Lib.hid (iv_boxg (W := (w.alloc (.cells #[.string l1, .string h1] 48))) (g := w.heap.size + 1) (by simp) l2 h2)
  have HB3 := Lib.hid (HB2.out.trans ((below_alloc ((w.alloc (.cells #[.string l1, .string h1] 48)).alloc (.cells #[.string l2, .string h2] 48)) (.cells #[.string l3, .string h3] 48)).mono HB2.out.size))
  have Va_3 := Lib.hid (Va_2.out.al (.cells #[.string l3, .string h3] 48))
  have Vb_3 := Lib.hid (Vb_2.out.al (.cells #[.string l3, .string h3] 48))
  clear Va_2 Vb_2
  have Vc_3 := Lib.hid (iv_boxg (W := ((w.alloc (.cells #[.string l1, .string h1] 48)).alloc (.cells #[.string l2, .string h2] 48))) (g := w.heap.size + 1 + 1) (by simp) l3 h3)
  go_enter Tryz.func9, Tryz.ntmps9
  go_wp2_with fail
  refine (vawake _ (HT.out.on HB3.out)).mono ?_
  rintro e w1 ⟨rfl, hb⟩
  have HB4 := Lib.hid (HB3.out.trans ((hb).mono HB3.out.size))
  have Va_4 := Lib.hid (Va_3.out.mono hb)
  have Vb_4 := Lib.hid (Vb_3.out.mono hb)
  have Vc_4 := Lib.hid (Vc_3.out.mono hb)
  clear Va_3 Vb_3 Vc_3
  clear hb
  obtain ⟨za, ac0, ac1⟩ := Va_4.out
  obtain ⟨zb, bc0, bc1⟩ := Vb_4.out
  obtain ⟨zc, cc0, cc1⟩ := Vc_4.out
  have HB5 := Lib.hid (HB4.out.trans ((below_alloc w1 (.cells #[.string l1, .string h1, .string l2, .string h2, .string l3, .string h3] 48)).mono HB4.out.size))
  have Va_5 := Lib.hid (Va_4.out.al (.cells #[.string l1, .string h1, .string l2, .string h2, .string l3, .string h3] 48))
  have Vb_5 := Lib.hid (Vb_4.out.al (.cells #[.string l1, .string h1, .string l2, .string h2, .string l3, .string h3] 48))
  have Vc_5 := Lib.hid (Vc_4.out.al (.cells #[.string l1, .string h1, .string l2, .string h2, .string l3, .string h3] 48))
  clear Va_4 Vb_4 Vc_4
  have hc := ivs_cells3 w1 l1 h1 l2 h2 l3 h3
  go_wp2_with fail
  clear za ac0 ac1 zb bc0 bc1 zc cc0 cc1
  refine (wide3_yes (w1.heap.size) l1 h1 l2 h2 l3 h3 _ HW.out (by simp) hc).mono ?_
  rintro e w2 ⟨rfl, hb⟩
  have HB6 := Lib.hid (HB5.out.trans ((hb).mono HB5.out.size))
  have Va_6 := Lib.hid (Va_5.out.mono hb)
  have Vb_6 := Lib.hid (Vb_5.out.mono hb)
  have Vc_6 := Lib.hid (Vc_5.out.mono hb)
  clear Va_5 Vb_5 Vc_5
  clear hb
  clear hc
  go_wp2_with fail
  refine (vawake _ (HT.out.on HB6.out)).mono ?_
  rintro e w3 ⟨rfl, hb⟩
  have HB7 := Lib.hid (HB6.out.trans ((hb).mono HB6.out.size))
  have Va_7 := Lib.hid (Va_6.out.mono hb)
  have Vb_7 := Lib.hid (Vb_6.out.mono hb)
  have Vc_7 := Lib.hid (Vc_6.out.mono hb)
  clear Va_6 Vb_6 Vc_6
  clear hb
  go_wp2
  go_ret
  exact ⟨rfl, HB7.out⟩

set_option maxHeartbeats 8000000 in
set_option maxRecDepth 100000 in
theorem vnar_none (l1 h1 l2 h2 l3 h3 : ByteArray) (s0 : l1.size ≤ 40 ∧ h1.size ≤ 40) (s1 : l2.size ≤ 40 ∧ h2.size ≤ 40) (s2 : l3.size ≤ 40 ∧ h3.size ≤ 40) (g1 : ∀ W, La W → Calls Tryz.prog 42 #[.agg #[.string l1, .string h1], .agg #[.string l3, .string h3]] W fun e w' => e = .returned (.tuple #[.agg #[.string ⟨#[]⟩, .string ⟨#[]⟩], .bool false]) ∧ Below W.heap.size W w') (w : World) (hl : La w) :
    Calls Tryz.prog 9 #[.agg #[.string l1, .string h1], .agg #[.string l2, .string h2], .agg #[.string l3, .string h3]] w fun e w' => e = .returned (.bool true) ∧ Below w.heap.size w w' := by
  have SZ0 := Lib.hid s0
  clear s0
  have SZ1 := Lib.hid s1
  clear s1
  have SZ2 := Lib.hid s2
  clear s2
  have G1 := Lib.hid g1
  clear g1
  have HT := Lib.hid hl
  clear hl
  have HB0 := Lib.hid (Below.refl w.heap.size w)
  have HB1 := Lib.hid (HB0.out.trans ((below_alloc w (.cells #[.string l1, .string h1] 48)).mono HB0.out.size))
  have Va_1 := Lib.hid (iv_boxg (W := w) (g := w.heap.size) (by simp) l1 h1)
  have HB2 := Lib.hid (HB1.out.trans ((below_alloc (w.alloc (.cells #[.string l1, .string h1] 48)) (.cells #[.string l2, .string h2] 48)).mono HB1.out.size))
  have Va_2 := Lib.hid (Va_1.out.al (.cells #[.string l2, .string h2] 48))
  clear Va_1
  have Vb_2 := Lib.hid (iv_boxg (W := (w.alloc (.cells #[.string l1, .string h1] 48))) (g := w.heap.size + 1) (by simp) l2 h2)
  have HB3 := Lib.hid (HB2.out.trans ((below_alloc ((w.alloc (.cells #[.string l1, .string h1] 48)).alloc (.cells #[.string l2, .string h2] 48)) (.cells #[.string l3, .string h3] 48)).mono HB2.out.size))
  have Va_3 := Lib.hid (Va_2.out.al (.cells #[.string l3, .string h3] 48))
  have Vb_3 := Lib.hid (Vb_2.out.al (.cells #[.string l3, .string h3] 48))
  clear Va_2 Vb_2
  have Vc_3 := Lib.hid (iv_boxg (W := ((w.alloc (.cells #[.string l1, .string h1] 48)).alloc (.cells #[.string l2, .string h2] 48))) (g := w.heap.size + 1 + 1) (by simp) l3 h3)
  go_enter Tryz.func9, Tryz.ntmps9
  go_wp2_with fail
  refine (vawake _ (HT.out.on HB3.out)).mono ?_
  rintro e w1 ⟨rfl, hb⟩
  have HB4 := Lib.hid (HB3.out.trans ((hb).mono HB3.out.size))
  have Va_4 := Lib.hid (Va_3.out.mono hb)
  have Vb_4 := Lib.hid (Vb_3.out.mono hb)
  have Vc_4 := Lib.hid (Vc_3.out.mono hb)
  clear Va_3 Vb_3 Vc_3
  clear hb
  obtain ⟨za, ac0, ac1⟩ := Va_4.out
  obtain ⟨zb, bc0, bc1⟩ := Vb_4.out
  obtain ⟨zc, cc0, cc1⟩ := Vc_4.out
  have HB5 := Lib.hid (HB4.out.trans ((below_alloc w1 (.cells #[.string l1, .string h1, .string l2, .string h2, .string l3, .string h3] 48)).mono HB4.out.size))
  have Va_5 := Lib.hid (Va_4.out.al (.cells #[.string l1, .string h1, .string l2, .string h2, .string l3, .string h3] 48))
  have Vb_5 := Lib.hid (Vb_4.out.al (.cells #[.string l1, .string h1, .string l2, .string h2, .string l3, .string h3] 48))
  have Vc_5 := Lib.hid (Vc_4.out.al (.cells #[.string l1, .string h1, .string l2, .string h2, .string l3, .string h3] 48))
  clear Va_4 Vb_4 Vc_4
  have hc := ivs_cells3 w1 l1 h1 l2 h2 l3 h3
  go_wp2_with fail
  clear za ac0 ac1 zb bc0 bc1 zc cc0 cc1
  refine (wide3_small (w1.heap.size) l1 h1 l2 h2 l3 h3 _ SZ0.out SZ1.out SZ2.out (by simp) hc).mono ?_
  rintro e w2 ⟨rfl, hb⟩
  have HB6 := Lib.hid (HB5.out.trans ((hb).mono HB5.out.size))
  have Va_6 := Lib.hid (Va_5.out.mono hb)
  have Vb_6 := Lib.hid (Vb_5.out.mono hb)
  have Vc_6 := Lib.hid (Vc_5.out.mono hb)
  clear Va_5 Vb_5 Vc_5
  clear hb
  clear hc
  obtain ⟨za, ac0, ac1⟩ := Va_6.out
  obtain ⟨zc, cc0, cc1⟩ := Vc_6.out
  go_wp2_with fail
  clear za ac0 ac1 zc cc0 cc1
  refine (G1.out _ (HT.out.on HB6.out)).mono ?_
  rintro e w3 ⟨rfl, hb⟩
  have HB7 := Lib.hid (HB6.out.trans ((hb).mono HB6.out.size))
  have Va_7 := Lib.hid (Va_6.out.mono hb)
  have Vb_7 := Lib.hid (Vb_6.out.mono hb)
  have Vc_7 := Lib.hid (Vc_6.out.mono hb)
  clear Va_6 Vb_6 Vc_6
  clear hb
  have HB8 := Lib.hid (HB7.out.trans ((below_alloc w3 (.cells #[.string ⟨#[]⟩, .string ⟨#[]⟩] 48)).mono HB7.out.size))
  have Va_8 := Lib.hid (Va_7.out.al (.cells #[.string ⟨#[]⟩, .string ⟨#[]⟩] 48))
  have Vb_8 := Lib.hid (Vb_7.out.al (.cells #[.string ⟨#[]⟩, .string ⟨#[]⟩] 48))
  have Vc_8 := Lib.hid (Vc_7.out.al (.cells #[.string ⟨#[]⟩, .string ⟨#[]⟩] 48))
  clear Va_7 Vb_7 Vc_7
  have Vn_8 := Lib.hid (iv_boxg (W := w3) (g := w3.heap.size) (by simp) ⟨#[]⟩ ⟨#[]⟩)
  obtain ⟨zb, bc0, bc1⟩ := Vb_8.out
  go_wp2
  go_ret
  exact ⟨rfl, HB8.out⟩

set_option maxHeartbeats 8000000 in
set_option maxRecDepth 100000 in
theorem vnar_no (l1 h1 l2 h2 l3 h3 p q : ByteArray) (s0 : l1.size ≤ 40 ∧ h1.size ≤ 40) (s1 : l2.size ≤ 40 ∧ h2.size ≤ 40) (s2 : l3.size ≤ 40 ∧ h3.size ≤ 40) (g1 : ∀ W, La W → Calls Tryz.prog 42 #[.agg #[.string l1, .string h1], .agg #[.string l3, .string h3]] W fun e w' => e = .returned (.tuple #[.agg #[.string p, .string q], .bool true]) ∧ Below W.heap.size W w') (g2 : ∀ W, La W → Calls Tryz.prog 34 #[.agg #[.string l2, .string h2]] W fun e w' => e = .returned (.bool false) ∧ Below W.heap.size W w') (w : World) (hl : La w) :
    Calls Tryz.prog 9 #[.agg #[.string l1, .string h1], .agg #[.string l2, .string h2], .agg #[.string l3, .string h3]] w fun e w' => e = .returned (.bool true) ∧ Below w.heap.size w w' := by
  have SZ0 := Lib.hid s0
  clear s0
  have SZ1 := Lib.hid s1
  clear s1
  have SZ2 := Lib.hid s2
  clear s2
  have G1 := Lib.hid g1
  have G2 := Lib.hid g2
  clear g1 g2
  have HT := Lib.hid hl
  clear hl
  have HB0 := Lib.hid (Below.refl w.heap.size w)
  have HB1 := Lib.hid (HB0.out.trans ((below_alloc w (.cells #[.string l1, .string h1] 48)).mono HB0.out.size))
  have Va_1 := Lib.hid (iv_boxg (W := w) (g := w.heap.size) (by simp) l1 h1)
  have HB2 := Lib.hid (HB1.out.trans ((below_alloc (w.alloc (.cells #[.string l1, .string h1] 48)) (.cells #[.string l2, .string h2] 48)).mono HB1.out.size))
  have Va_2 := Lib.hid (Va_1.out.al (.cells #[.string l2, .string h2] 48))
  clear Va_1
  have Vb_2 := Lib.hid (iv_boxg (W := (w.alloc (.cells #[.string l1, .string h1] 48))) (g := w.heap.size + 1) (by simp) l2 h2)
  have HB3 := Lib.hid (HB2.out.trans ((below_alloc ((w.alloc (.cells #[.string l1, .string h1] 48)).alloc (.cells #[.string l2, .string h2] 48)) (.cells #[.string l3, .string h3] 48)).mono HB2.out.size))
  have Va_3 := Lib.hid (Va_2.out.al (.cells #[.string l3, .string h3] 48))
  have Vb_3 := Lib.hid (Vb_2.out.al (.cells #[.string l3, .string h3] 48))
  clear Va_2 Vb_2
  have Vc_3 := Lib.hid (iv_boxg (W := ((w.alloc (.cells #[.string l1, .string h1] 48)).alloc (.cells #[.string l2, .string h2] 48))) (g := w.heap.size + 1 + 1) (by simp) l3 h3)
  go_enter Tryz.func9, Tryz.ntmps9
  go_wp2_with fail
  refine (vawake _ (HT.out.on HB3.out)).mono ?_
  rintro e w1 ⟨rfl, hb⟩
  have HB4 := Lib.hid (HB3.out.trans ((hb).mono HB3.out.size))
  have Va_4 := Lib.hid (Va_3.out.mono hb)
  have Vb_4 := Lib.hid (Vb_3.out.mono hb)
  have Vc_4 := Lib.hid (Vc_3.out.mono hb)
  clear Va_3 Vb_3 Vc_3
  clear hb
  obtain ⟨za, ac0, ac1⟩ := Va_4.out
  obtain ⟨zb, bc0, bc1⟩ := Vb_4.out
  obtain ⟨zc, cc0, cc1⟩ := Vc_4.out
  have HB5 := Lib.hid (HB4.out.trans ((below_alloc w1 (.cells #[.string l1, .string h1, .string l2, .string h2, .string l3, .string h3] 48)).mono HB4.out.size))
  have Va_5 := Lib.hid (Va_4.out.al (.cells #[.string l1, .string h1, .string l2, .string h2, .string l3, .string h3] 48))
  have Vb_5 := Lib.hid (Vb_4.out.al (.cells #[.string l1, .string h1, .string l2, .string h2, .string l3, .string h3] 48))
  have Vc_5 := Lib.hid (Vc_4.out.al (.cells #[.string l1, .string h1, .string l2, .string h2, .string l3, .string h3] 48))
  clear Va_4 Vb_4 Vc_4
  have hc := ivs_cells3 w1 l1 h1 l2 h2 l3 h3
  go_wp2_with fail
  clear za ac0 ac1 zb bc0 bc1 zc cc0 cc1
  refine (wide3_small (w1.heap.size) l1 h1 l2 h2 l3 h3 _ SZ0.out SZ1.out SZ2.out (by simp) hc).mono ?_
  rintro e w2 ⟨rfl, hb⟩
  have HB6 := Lib.hid (HB5.out.trans ((hb).mono HB5.out.size))
  have Va_6 := Lib.hid (Va_5.out.mono hb)
  have Vb_6 := Lib.hid (Vb_5.out.mono hb)
  have Vc_6 := Lib.hid (Vc_5.out.mono hb)
  clear Va_5 Vb_5 Vc_5
  clear hb
  clear hc
  obtain ⟨za, ac0, ac1⟩ := Va_6.out
  obtain ⟨zc, cc0, cc1⟩ := Vc_6.out
  go_wp2_with fail
  clear za ac0 ac1 zc cc0 cc1
  refine (G1.out _ (HT.out.on HB6.out)).mono ?_
  rintro e w3 ⟨rfl, hb⟩
  have HB7 := Lib.hid (HB6.out.trans ((hb).mono HB6.out.size))
  have Va_7 := Lib.hid (Va_6.out.mono hb)
  have Vb_7 := Lib.hid (Vb_6.out.mono hb)
  have Vc_7 := Lib.hid (Vc_6.out.mono hb)
  clear Va_6 Vb_6 Vc_6
  clear hb
  have HB8 := Lib.hid (HB7.out.trans ((below_alloc w3 (.cells #[.string p, .string q] 48)).mono HB7.out.size))
  have Va_8 := Lib.hid (Va_7.out.al (.cells #[.string p, .string q] 48))
  have Vb_8 := Lib.hid (Vb_7.out.al (.cells #[.string p, .string q] 48))
  have Vc_8 := Lib.hid (Vc_7.out.al (.cells #[.string p, .string q] 48))
  clear Va_7 Vb_7 Vc_7
  have Vn_8 := Lib.hid (iv_boxg (W := w3) (g := w3.heap.size) (by simp) p q)
  obtain ⟨zb, bc0, bc1⟩ := Vb_8.out
  go_wp2_with fail
  clear zb bc0 bc1
  refine (G2.out _ (HT.out.on HB8.out)).mono ?_
  rintro e w4 ⟨rfl, hb⟩
  have HB9 := Lib.hid (HB8.out.trans ((hb).mono HB8.out.size))
  have Va_9 := Lib.hid (Va_8.out.mono hb)
  have Vb_9 := Lib.hid (Vb_8.out.mono hb)
  have Vc_9 := Lib.hid (Vc_8.out.mono hb)
  have Vn_9 := Lib.hid (Vn_8.out.mono hb)
  clear Va_8 Vb_8 Vc_8 Vn_8
  clear hb
  go_wp2
  go_ret
  exact ⟨rfl, HB9.out⟩

set_option maxHeartbeats 16000000 in
set_option maxRecDepth 100000 in
theorem vnar_yes (a1 a2 b1 b2 c1 c2 p q : Rat) (ha : a1 ≤ a2) (hb : b1 ≤ b2) (hpq : p ≤ q) (h1 : a1 ≤ p) (h2 : q ≤ a2) (mp : SmQ 40 p) (mq : SmQ 40 q) (s0 : (Sq a1).size ≤ 40 ∧ (Sq a2).size ≤ 40) (s1 : (Sq b1).size ≤ 40 ∧ (Sq b2).size ≤ 40) (s2 : (Sq c1).size ≤ 40 ∧ (Sq c2).size ≤ 40) (g1 : ∀ W, La W → Calls Tryz.prog 42 #[.agg #[.string (Sq a1), .string (Sq a2)], .agg #[.string (Sq c1), .string (Sq c2)]] W fun e w' => e = .returned (.tuple #[.agg #[.string (Sq p), .string (Sq q)], .bool true]) ∧ Below W.heap.size W w') (w : World) (hl : La w) :
    Calls Tryz.prog 9 #[.agg #[.string (Sq a1), .string (Sq a2)], .agg #[.string (Sq b1), .string (Sq b2)], .agg #[.string (Sq c1), .string (Sq c2)]] w fun e w' => e = .returned (.bool true) ∧ Below w.heap.size w w' := by
  have SZ0 := Lib.hid s0
  clear s0
  have SZ1 := Lib.hid s1
  clear s1
  have SZ2 := Lib.hid s2
  clear s2
  have m1 := smq_of SZ0.out.1 (by decide)
  have m2 := smq_of SZ0.out.2 (by decide)
  have n1 := smq_of SZ1.out.1 (by decide)
  have n2 := smq_of SZ1.out.2 (by decide)
  have HP := Lib.hid hpq
  have HA := Lib.hid ha
  have HB := Lib.hid hb
  have G1 := Lib.hid g1
  have Fb1 := Lib.hid (n1.fit (by decide))
  have Fb2 := Lib.hid (n2.fit (by decide))
  have Fa1 := Lib.hid (m1.fit (by decide))
  have Fa2 := Lib.hid (m2.fit (by decide))
  have Fp := Lib.hid (mp.fit (by decide))
  have Fq := Lib.hid (mq.fit (by decide))
  obtain ⟨s1, hs1⟩ : ∃ s, s = a1 + b1 := ⟨_, rfl⟩
  have Fs1 := Lib.hid (show FitQ s1 by rw [hs1]; exact (m1.add n1).fit (by decide))
  have Es1 := Lib.hid hs1.symm
  obtain ⟨s2, hs2⟩ : ∃ s, s = a2 + b2 := ⟨_, rfl⟩
  have Fs2 := Lib.hid (show FitQ s2 by rw [hs2]; exact (m2.add n2).fit (by decide))
  have Es2 := Lib.hid hs2.symm
  obtain ⟨t1, ht1⟩ : ∃ s, s = p + b1 := ⟨_, rfl⟩
  have Ft1 := Lib.hid (show FitQ t1 by rw [ht1]; exact (mp.add n1).fit (by decide))
  have Et1 := Lib.hid ht1.symm
  obtain ⟨t2, ht2⟩ : ∃ s, s = q + b2 := ⟨_, rfl⟩
  have Ft2 := Lib.hid (show FitQ t2 by rw [ht2]; exact (mq.add n2).fit (by decide))
  have Et2 := Lib.hid ht2.symm
  obtain ⟨d1, hd1⟩ : ∃ s, s = a1 - b2 := ⟨_, rfl⟩
  have Fd1 := Lib.hid (show FitQ d1 by rw [hd1]; exact (m1.sub n2).fit (by decide))
  have Ed1 := Lib.hid hd1.symm
  obtain ⟨d2, hd2⟩ : ∃ s, s = a2 - b1 := ⟨_, rfl⟩
  have Fd2 := Lib.hid (show FitQ d2 by rw [hd2]; exact (m2.sub n1).fit (by decide))
  have Ed2 := Lib.hid hd2.symm
  obtain ⟨e1, he1⟩ : ∃ s, s = p - b2 := ⟨_, rfl⟩
  have Fe1 := Lib.hid (show FitQ e1 by rw [he1]; exact (mp.sub n2).fit (by decide))
  have Ee1 := Lib.hid he1.symm
  obtain ⟨e2, he2⟩ : ∃ s, s = q - b1 := ⟨_, rfl⟩
  have Fe2 := Lib.hid (show FitQ e2 by rw [he2]; exact (mq.sub n1).fit (by decide))
  have Ee2 := Lib.hid he2.symm
  obtain ⟨p0, hp0⟩ : ∃ s, s = a1 * b1 := ⟨_, rfl⟩
  have Fp0 := Lib.hid (show FitQ p0 by rw [hp0]; exact (m1.mul n1).fit (by decide))
  have Ep0 := Lib.hid hp0.symm
  obtain ⟨p1, hp1⟩ : ∃ s, s = a1 * b2 := ⟨_, rfl⟩
  have Fp1 := Lib.hid (show FitQ p1 by rw [hp1]; exact (m1.mul n2).fit (by decide))
  have Ep1 := Lib.hid hp1.symm
  obtain ⟨p2, hp2⟩ : ∃ s, s = a2 * b1 := ⟨_, rfl⟩
  have Fp2 := Lib.hid (show FitQ p2 by rw [hp2]; exact (m2.mul n1).fit (by decide))
  have Ep2 := Lib.hid hp2.symm
  obtain ⟨p3, hp3⟩ : ∃ s, s = a2 * b2 := ⟨_, rfl⟩
  have Fp3 := Lib.hid (show FitQ p3 by rw [hp3]; exact (m2.mul n2).fit (by decide))
  have Ep3 := Lib.hid hp3.symm
  obtain ⟨q0, hq0⟩ : ∃ s, s = p * b1 := ⟨_, rfl⟩
  have Fq0 := Lib.hid (show FitQ q0 by rw [hq0]; exact (mp.mul n1).fit (by decide))
  have Eq0 := Lib.hid hq0.symm
  obtain ⟨q1, hq1⟩ : ∃ s, s = p * b2 := ⟨_, rfl⟩
  have Fq1 := Lib.hid (show FitQ q1 by rw [hq1]; exact (mp.mul n2).fit (by decide))
  have Eq1 := Lib.hid hq1.symm
  obtain ⟨q2, hq2⟩ : ∃ s, s = q * b1 := ⟨_, rfl⟩
  have Fq2 := Lib.hid (show FitQ q2 by rw [hq2]; exact (mq.mul n1).fit (by decide))
  have Eq2 := Lib.hid hq2.symm
  obtain ⟨q3, hq3⟩ : ∃ s, s = q * b2 := ⟨_, rfl⟩
  have Fq3 := Lib.hid (show FitQ q3 by rw [hq3]; exact (mq.mul n2).fit (by decide))
  have Eq3 := Lib.hid hq3.symm
  have FX := Lib.hid (fit_row4 Fp0.out Fp1.out Fp2.out Fp3.out)
  have FY := Lib.hid (fit_row4 Fq0.out Fq1.out Fq2.out Fq3.out)
  have O1 := Lib.hid (show s1 ≤ s2 ∧ t1 ≤ t2 ∧ s1 ≤ t1 ∧ t2 ≤ s2 by rw [hs1, hs2, ht1, ht2]; refine ⟨?_, ?_, ?_, ?_⟩ <;> grind)
  have O2 := Lib.hid (show d1 ≤ d2 ∧ e1 ≤ e2 ∧ d1 ≤ e1 ∧ e2 ≤ d2 by rw [hd1, hd2, he1, he2]; refine ⟨?_, ?_, ?_, ?_⟩ <;> grind)
  have O3 := Lib.hid (show (exOf (row4 p0 p1 p2 p3) 3).1 ≤ (exOf (row4 p0 p1 p2 p3) 3).2 ∧ (exOf (row4 q0 q1 q2 q3) 3).1 ≤ (exOf (row4 q0 q1 q2 q3) 3).2 ∧ (exOf (row4 p0 p1 p2 p3) 3).1 ≤ (exOf (row4 q0 q1 q2 q3) 3).1 ∧ (exOf (row4 q0 q1 q2 q3) 3).2 ≤ (exOf (row4 p0 p1 p2 p3) 3).2 from ⟨exOf_order _ _, exOf_order _ _, by rw [hp0, hp1, hp2, hp3, hq0, hq1, hq2, hq3]; exact (mul_narrow hpq h1 h2 hb).1, by rw [hp0, hp1, hp2, hp3, hq0, hq1, hq2, hq3]; exact (mul_narrow hpq h1 h2 hb).2⟩)
  clear g1 ha hb hpq h1 h2 m1 m2 n1 n2 mp mq hs1 hs2 ht1 ht2 hd1 hd2 he1 he2 hp0 hp1 hp2 hp3 hq0 hq1 hq2 hq3
  have HT := Lib.hid hl
  clear hl
  have HB0 := Lib.hid (Below.refl w.heap.size w)
  have HB1 := Lib.hid (HB0.out.trans ((below_alloc w (.cells #[.string (Sq a1), .string (Sq a2)] 48)).mono HB0.out.size))
  have Va_1 := Lib.hid (iv_boxg (W := w) (g := w.heap.size) (by simp) (Sq a1) (Sq a2))
  have HB2 := Lib.hid (HB1.out.trans ((below_alloc (w.alloc (.cells #[.string (Sq a1), .string (Sq a2)] 48)) (.cells #[.string (Sq b1), .string (Sq b2)] 48)).mono HB1.out.size))
  have Va_2 := Lib.hid (Va_1.out.al (.cells #[.string (Sq b1), .string (Sq b2)] 48))
  clear Va_1
  have Vb_2 := Lib.hid (iv_boxg (W := (w.alloc (.cells #[.string (Sq a1), .string (Sq a2)] 48))) (g := w.heap.size + 1) (by simp) (Sq b1) (Sq b2))
  have HB3 := Lib.hid (HB2.out.trans ((below_alloc ((w.alloc (.cells #[.string (Sq a1), .string (Sq a2)] 48)).alloc (.cells #[.string (Sq b1), .string (Sq b2)] 48)) (.cells #[.string (Sq c1), .string (Sq c2)] 48)).mono HB2.out.size))
  have Va_3 := Lib.hid (Va_2.out.al (.cells #[.string (Sq c1), .string (Sq c2)] 48))
  have Vb_3 := Lib.hid (Vb_2.out.al (.cells #[.string (Sq c1), .string (Sq c2)] 48))
  clear Va_2 Vb_2
  have Vc_3 := Lib.hid (iv_boxg (W := ((w.alloc (.cells #[.string (Sq a1), .string (Sq a2)] 48)).alloc (.cells #[.string (Sq b1), .string (Sq b2)] 48))) (g := w.heap.size + 1 + 1) (by simp) (Sq c1) (Sq c2))
  go_enter Tryz.func9, Tryz.ntmps9
  go_wp2_with fail
  refine (vawake _ (HT.out.on HB3.out)).mono ?_
  rintro e w1 ⟨rfl, hb⟩
  have HB4 := Lib.hid (HB3.out.trans ((hb).mono HB3.out.size))
  have Va_4 := Lib.hid (Va_3.out.mono hb)
  have Vb_4 := Lib.hid (Vb_3.out.mono hb)
  have Vc_4 := Lib.hid (Vc_3.out.mono hb)
  clear Va_3 Vb_3 Vc_3
  clear hb
  obtain ⟨za, ac0, ac1⟩ := Va_4.out
  obtain ⟨zb, bc0, bc1⟩ := Vb_4.out
  obtain ⟨zc, cc0, cc1⟩ := Vc_4.out
  have HB5 := Lib.hid (HB4.out.trans ((below_alloc w1 (.cells #[.string (Sq a1), .string (Sq a2), .string (Sq b1), .string (Sq b2), .string (Sq c1), .string (Sq c2)] 48)).mono HB4.out.size))
  have Va_5 := Lib.hid (Va_4.out.al (.cells #[.string (Sq a1), .string (Sq a2), .string (Sq b1), .string (Sq b2), .string (Sq c1), .string (Sq c2)] 48))
  have Vb_5 := Lib.hid (Vb_4.out.al (.cells #[.string (Sq a1), .string (Sq a2), .string (Sq b1), .string (Sq b2), .string (Sq c1), .string (Sq c2)] 48))
  have Vc_5 := Lib.hid (Vc_4.out.al (.cells #[.string (Sq a1), .string (Sq a2), .string (Sq b1), .string (Sq b2), .string (Sq c1), .string (Sq c2)] 48))
  clear Va_4 Vb_4 Vc_4
  have hc := ivs_cells3 w1 (Sq a1) (Sq a2) (Sq b1) (Sq b2) (Sq c1) (Sq c2)
  go_wp2_with fail
  clear za ac0 ac1 zb bc0 bc1 zc cc0 cc1
  refine (wide3_small (w1.heap.size) (Sq a1) (Sq a2) (Sq b1) (Sq b2) (Sq c1) (Sq c2) _ SZ0.out SZ1.out SZ2.out (by simp) hc).mono ?_
  rintro e w2 ⟨rfl, hb⟩
  have HB6 := Lib.hid (HB5.out.trans ((hb).mono HB5.out.size))
  have Va_6 := Lib.hid (Va_5.out.mono hb)
  have Vb_6 := Lib.hid (Vb_5.out.mono hb)
  have Vc_6 := Lib.hid (Vc_5.out.mono hb)
  clear Va_5 Vb_5 Vc_5
  clear hb
  clear hc
  obtain ⟨za, ac0, ac1⟩ := Va_6.out
  obtain ⟨zc, cc0, cc1⟩ := Vc_6.out
  go_wp2_with fail
  clear za ac0 ac1 zc cc0 cc1
  refine (G1.out _ (HT.out.on HB6.out)).mono ?_
  rintro e w3 ⟨rfl, hb⟩
  have HB7 := Lib.hid (HB6.out.trans ((hb).mono HB6.out.size))
  have Va_7 := Lib.hid (Va_6.out.mono hb)
  have Vb_7 := Lib.hid (Vb_6.out.mono hb)
  have Vc_7 := Lib.hid (Vc_6.out.mono hb)
  clear Va_6 Vb_6 Vc_6
  clear hb
  have HB8 := Lib.hid (HB7.out.trans ((below_alloc w3 (.cells #[.string (Sq p), .string (Sq q)] 48)).mono HB7.out.size))
  have Va_8 := Lib.hid (Va_7.out.al (.cells #[.string (Sq p), .string (Sq q)] 48))
  have Vb_8 := Lib.hid (Vb_7.out.al (.cells #[.string (Sq p), .string (Sq q)] 48))
  have Vc_8 := Lib.hid (Vc_7.out.al (.cells #[.string (Sq p), .string (Sq q)] 48))
  clear Va_7 Vb_7 Vc_7
  have Vn_8 := Lib.hid (iv_boxg (W := w3) (g := w3.heap.size) (by simp) (Sq p) (Sq q))
  obtain ⟨zb, bc0, bc1⟩ := Vb_8.out
  go_wp2_with fail
  clear zb bc0 bc1
  refine (xValid_yes b1 b2 HB.out Fb1.out Fb2.out _ (HT.out.on HB8.out)).mono ?_
  rintro e w4 ⟨rfl, hb⟩
  have HB9 := Lib.hid (HB8.out.trans ((hb).mono HB8.out.size))
  have Va_9 := Lib.hid (Va_8.out.mono hb)
  have Vb_9 := Lib.hid (Vb_8.out.mono hb)
  have Vc_9 := Lib.hid (Vc_8.out.mono hb)
  have Vn_9 := Lib.hid (Vn_8.out.mono hb)
  clear Va_8 Vb_8 Vc_8 Vn_8
  clear hb
  go_wp2
  refine wp_loop_rounds 4 ?_
  have HB10 := Lib.hid (HB9.out.trans ((below_alloc w4 (.cells #[.func (.func 37) #[] #[], .func (.func 38) #[] #[], .func (.func 39) #[] #[]] 54)).mono HB9.out.size))
  have Va_10 := Lib.hid (Va_9.out.al (.cells #[.func (.func 37) #[] #[], .func (.func 38) #[] #[], .func (.func 39) #[] #[]] 54))
  have Vb_10 := Lib.hid (Vb_9.out.al (.cells #[.func (.func 37) #[] #[], .func (.func 38) #[] #[], .func (.func 39) #[] #[]] 54))
  have Vc_10 := Lib.hid (Vc_9.out.al (.cells #[.func (.func 37) #[] #[], .func (.func 38) #[] #[], .func (.func 39) #[] #[]] 54))
  have Vn_10 := Lib.hid (Vn_9.out.al (.cells #[.func (.func 37) #[] #[], .func (.func 38) #[] #[], .func (.func 39) #[] #[]] 54))
  clear Va_9 Vb_9 Vc_9 Vn_9
  have KF := Lib.hid (show ∀ X, Below (w4.alloc (.cells #[.func (.func 37) #[] #[], .func (.func 38) #[] #[], .func (.func 39) #[] #[]] 54)).heap.size (w4.alloc (.cells #[.func (.func 37) #[] #[], .func (.func 38) #[] #[], .func (.func 39) #[] #[]] 54)) X → (X.cell? ⟨w4.heap.size, 0, none⟩ = some (.func (.func 37) #[] #[]) ∧ X.cell? ⟨w4.heap.size, 1, none⟩ = some (.func (.func 38) #[] #[]) ∧ X.cell? ⟨w4.heap.size, 2, none⟩ = some (.func (.func 39) #[] #[])) from fun X hB => ⟨(hB.cell (p := ⟨w4.heap.size, 0, none⟩) (by simp)).trans ((q_new rfl).trans rfl), (hB.cell (p := ⟨w4.heap.size, 1, none⟩) (by simp)).trans ((q_new rfl).trans rfl), (hB.cell (p := ⟨w4.heap.size, 2, none⟩) (by simp)).trans ((q_new rfl).trans rfl)⟩)
  have B0 := Lib.hid (Below.refl (w4.alloc (.cells #[.func (.func 37) #[] #[], .func (.func 38) #[] #[], .func (.func 39) #[] #[]] 54)).heap.size (w4.alloc (.cells #[.func (.func 37) #[] #[], .func (.func 38) #[] #[], .func (.func 39) #[] #[]] 54)))
  rw [rounds_succ]
  obtain ⟨f0, f1, f2⟩ := KF.out _ B0.out
  obtain ⟨za, ac0, ac1⟩ := Va_10.out
  obtain ⟨zb, bc0, bc1⟩ := Vb_10.out
  go_wp2_with fail
  clear za ac0 ac1 zb bc0 bc1
  refine (xAdd a1 a2 b1 b2 s1 s2 Es1.out Es2.out HA.out HB.out Fa1.out Fa2.out Fb1.out Fb2.out _ (HT.out.on HB10.out)).mono ?_
  rintro e w5 ⟨rfl, hb⟩
  have HB11 := Lib.hid (HB10.out.trans ((hb).mono HB10.out.size))
  have Va_11 := Lib.hid (Va_10.out.mono hb)
  have Vb_11 := Lib.hid (Vb_10.out.mono hb)
  have Vc_11 := Lib.hid (Vc_10.out.mono hb)
  have Vn_11 := Lib.hid (Vn_10.out.mono hb)
  clear Va_10 Vb_10 Vc_10 Vn_10
  have B1 := Lib.hid (fr_chain B0.out (hb))
  clear B0
  clear hb
  clear f0 f1 f2
  have HB12 := Lib.hid (HB11.out.trans ((below_alloc w5 (.cells #[.string (Sq s1), .string (Sq s2)] 48)).mono HB11.out.size))
  have Va_12 := Lib.hid (Va_11.out.al (.cells #[.string (Sq s1), .string (Sq s2)] 48))
  have Vb_12 := Lib.hid (Vb_11.out.al (.cells #[.string (Sq s1), .string (Sq s2)] 48))
  have Vc_12 := Lib.hid (Vc_11.out.al (.cells #[.string (Sq s1), .string (Sq s2)] 48))
  have Vn_12 := Lib.hid (Vn_11.out.al (.cells #[.string (Sq s1), .string (Sq s2)] 48))
  clear Va_11 Vb_11 Vc_11 Vn_11
  have Vx_12 := Lib.hid (iv_boxg (W := w5) (g := w5.heap.size) (by simp) (Sq s1) (Sq s2))
  have B2 := Lib.hid (fr_chain B1.out (below_alloc w5 (.cells #[.string (Sq s1), .string (Sq s2)] 48)))
  clear B1
  obtain ⟨zn, nc0, nc1⟩ := Vn_12.out
  obtain ⟨zb, bc0, bc1⟩ := Vb_12.out
  go_wp2_with fail
  clear zn nc0 nc1 zb bc0 bc1
  refine (xAdd p q b1 b2 t1 t2 Et1.out Et2.out HP.out HB.out Fp.out Fq.out Fb1.out Fb2.out _ (HT.out.on HB12.out)).mono ?_
  rintro e w6 ⟨rfl, hb⟩
  have HB13 := Lib.hid (HB12.out.trans ((hb).mono HB12.out.size))
  have Va_13 := Lib.hid (Va_12.out.mono hb)
  have Vb_13 := Lib.hid (Vb_12.out.mono hb)
  have Vc_13 := Lib.hid (Vc_12.out.mono hb)
  have Vn_13 := Lib.hid (Vn_12.out.mono hb)
  have Vx_13 := Lib.hid (Vx_12.out.mono hb)
  clear Va_12 Vb_12 Vc_12 Vn_12 Vx_12
  have B3 := Lib.hid (fr_chain B2.out (hb))
  clear B2
  clear hb
  have HB14 := Lib.hid (HB13.out.trans ((below_alloc w6 (.cells #[.string (Sq t1), .string (Sq t2)] 48)).mono HB13.out.size))
  have Va_14 := Lib.hid (Va_13.out.al (.cells #[.string (Sq t1), .string (Sq t2)] 48))
  have Vb_14 := Lib.hid (Vb_13.out.al (.cells #[.string (Sq t1), .string (Sq t2)] 48))
  have Vc_14 := Lib.hid (Vc_13.out.al (.cells #[.string (Sq t1), .string (Sq t2)] 48))
  have Vn_14 := Lib.hid (Vn_13.out.al (.cells #[.string (Sq t1), .string (Sq t2)] 48))
  have Vx_14 := Lib.hid (Vx_13.out.al (.cells #[.string (Sq t1), .string (Sq t2)] 48))
  clear Va_13 Vb_13 Vc_13 Vn_13 Vx_13
  have Vy_14 := Lib.hid (iv_boxg (W := w6) (g := w6.heap.size) (by simp) (Sq t1) (Sq t2))
  have B4 := Lib.hid (fr_chain B3.out (below_alloc w6 (.cells #[.string (Sq t1), .string (Sq t2)] 48)))
  clear B3
  obtain ⟨zx, xc0, xc1⟩ := Vx_14.out
  obtain ⟨zy, yc0, yc1⟩ := Vy_14.out
  go_wp2_with fail
  clear zx xc0 xc1 zy yc0 yc1
  refine (xMeet s1 s2 t1 t2 t1 t2 (max_r O1.out.2.2.1) (min_r O1.out.2.2.2) O1.out.1 O1.out.2.1 O1.out.2.1 Fs1.out Fs2.out Ft1.out Ft2.out _ (HT.out.on HB14.out)).mono ?_
  rintro e w7 ⟨rfl, hb⟩
  have HB15 := Lib.hid (HB14.out.trans ((hb).mono HB14.out.size))
  have Va_15 := Lib.hid (Va_14.out.mono hb)
  have Vb_15 := Lib.hid (Vb_14.out.mono hb)
  have Vc_15 := Lib.hid (Vc_14.out.mono hb)
  have Vn_15 := Lib.hid (Vn_14.out.mono hb)
  have Vx_15 := Lib.hid (Vx_14.out.mono hb)
  have Vy_15 := Lib.hid (Vy_14.out.mono hb)
  clear Va_14 Vb_14 Vc_14 Vn_14 Vx_14 Vy_14
  have B5 := Lib.hid (fr_chain B4.out (hb))
  clear B4
  clear hb
  have HB16 := Lib.hid (HB15.out.trans ((below_alloc w7 (.cells #[.string (Sq t1), .string (Sq t2)] 48)).mono HB15.out.size))
  have Va_16 := Lib.hid (Va_15.out.al (.cells #[.string (Sq t1), .string (Sq t2)] 48))
  have Vb_16 := Lib.hid (Vb_15.out.al (.cells #[.string (Sq t1), .string (Sq t2)] 48))
  have Vc_16 := Lib.hid (Vc_15.out.al (.cells #[.string (Sq t1), .string (Sq t2)] 48))
  have Vn_16 := Lib.hid (Vn_15.out.al (.cells #[.string (Sq t1), .string (Sq t2)] 48))
  have Vx_16 := Lib.hid (Vx_15.out.al (.cells #[.string (Sq t1), .string (Sq t2)] 48))
  have Vy_16 := Lib.hid (Vy_15.out.al (.cells #[.string (Sq t1), .string (Sq t2)] 48))
  clear Va_15 Vb_15 Vc_15 Vn_15 Vx_15 Vy_15
  have Vm_16 := Lib.hid (iv_boxg (W := w7) (g := w7.heap.size) (by simp) (Sq t1) (Sq t2))
  have B6 := Lib.hid (fr_chain B5.out (below_alloc w7 (.cells #[.string (Sq t1), .string (Sq t2)] 48)))
  clear B5
  obtain ⟨zm, mc0, mc1⟩ := Vm_16.out
  obtain ⟨zy, yc0, yc1⟩ := Vy_16.out
  go_wp2
  clear zm mc0 mc1 zy yc0 yc1
  rw [rounds_succ]
  obtain ⟨f0, f1, f2⟩ := KF.out _ B6.out
  obtain ⟨za, ac0, ac1⟩ := Va_16.out
  obtain ⟨zb, bc0, bc1⟩ := Vb_16.out
  obtain ⟨zm, mc0, mc1⟩ := Vm_16.out
  obtain ⟨zy, yc0, yc1⟩ := Vy_16.out
  go_wp2_with fail
  clear za ac0 ac1 zb bc0 bc1 zm mc0 mc1 zy yc0 yc1
  refine (xSub a1 a2 b1 b2 d1 d2 Ed1.out Ed2.out HA.out HB.out Fa1.out Fa2.out Fb1.out Fb2.out _ (HT.out.on HB16.out)).mono ?_
  rintro e w8 ⟨rfl, hb⟩
  have HB17 := Lib.hid (HB16.out.trans ((hb).mono HB16.out.size))
  have Va_17 := Lib.hid (Va_16.out.mono hb)
  have Vb_17 := Lib.hid (Vb_16.out.mono hb)
  have Vc_17 := Lib.hid (Vc_16.out.mono hb)
  have Vn_17 := Lib.hid (Vn_16.out.mono hb)
  have Vx_17 := Lib.hid (Vx_16.out.mono hb)
  have Vy_17 := Lib.hid (Vy_16.out.mono hb)
  have Vm_17 := Lib.hid (Vm_16.out.mono hb)
  clear Va_16 Vb_16 Vc_16 Vn_16 Vx_16 Vy_16 Vm_16
  have B7 := Lib.hid (fr_chain B6.out (hb))
  clear B6
  clear hb
  clear f0 f1 f2
  have HB18 := Lib.hid (HB17.out.trans ((below_alloc w8 (.cells #[.string (Sq d1), .string (Sq d2)] 48)).mono HB17.out.size))
  have Va_18 := Lib.hid (Va_17.out.al (.cells #[.string (Sq d1), .string (Sq d2)] 48))
  have Vb_18 := Lib.hid (Vb_17.out.al (.cells #[.string (Sq d1), .string (Sq d2)] 48))
  have Vc_18 := Lib.hid (Vc_17.out.al (.cells #[.string (Sq d1), .string (Sq d2)] 48))
  have Vn_18 := Lib.hid (Vn_17.out.al (.cells #[.string (Sq d1), .string (Sq d2)] 48))
  have Vx_18 := Lib.hid (Vx_17.out.al (.cells #[.string (Sq d1), .string (Sq d2)] 48))
  have Vy_18 := Lib.hid (Vy_17.out.al (.cells #[.string (Sq d1), .string (Sq d2)] 48))
  have Vm_18 := Lib.hid (Vm_17.out.al (.cells #[.string (Sq d1), .string (Sq d2)] 48))
  clear Va_17 Vb_17 Vc_17 Vn_17 Vx_17 Vy_17 Vm_17
  have Vx_18 := Lib.hid (iv_boxg (W := w8) (g := w8.heap.size) (by simp) (Sq d1) (Sq d2))
  have B8 := Lib.hid (fr_chain B7.out (below_alloc w8 (.cells #[.string (Sq d1), .string (Sq d2)] 48)))
  clear B7
  obtain ⟨zn, nc0, nc1⟩ := Vn_18.out
  obtain ⟨zb, bc0, bc1⟩ := Vb_18.out
  go_wp2_with fail
  clear zn nc0 nc1 zb bc0 bc1
  refine (xSub p q b1 b2 e1 e2 Ee1.out Ee2.out HP.out HB.out Fp.out Fq.out Fb1.out Fb2.out _ (HT.out.on HB18.out)).mono ?_
  rintro e w9 ⟨rfl, hb⟩
  have HB19 := Lib.hid (HB18.out.trans ((hb).mono HB18.out.size))
  have Va_19 := Lib.hid (Va_18.out.mono hb)
  have Vb_19 := Lib.hid (Vb_18.out.mono hb)
  have Vc_19 := Lib.hid (Vc_18.out.mono hb)
  have Vn_19 := Lib.hid (Vn_18.out.mono hb)
  have Vx_19 := Lib.hid (Vx_18.out.mono hb)
  have Vy_19 := Lib.hid (Vy_18.out.mono hb)
  have Vm_19 := Lib.hid (Vm_18.out.mono hb)
  clear Va_18 Vb_18 Vc_18 Vn_18 Vx_18 Vy_18 Vm_18
  have B9 := Lib.hid (fr_chain B8.out (hb))
  clear B8
  clear hb
  have HB20 := Lib.hid (HB19.out.trans ((below_alloc w9 (.cells #[.string (Sq e1), .string (Sq e2)] 48)).mono HB19.out.size))
  have Va_20 := Lib.hid (Va_19.out.al (.cells #[.string (Sq e1), .string (Sq e2)] 48))
  have Vb_20 := Lib.hid (Vb_19.out.al (.cells #[.string (Sq e1), .string (Sq e2)] 48))
  have Vc_20 := Lib.hid (Vc_19.out.al (.cells #[.string (Sq e1), .string (Sq e2)] 48))
  have Vn_20 := Lib.hid (Vn_19.out.al (.cells #[.string (Sq e1), .string (Sq e2)] 48))
  have Vx_20 := Lib.hid (Vx_19.out.al (.cells #[.string (Sq e1), .string (Sq e2)] 48))
  have Vy_20 := Lib.hid (Vy_19.out.al (.cells #[.string (Sq e1), .string (Sq e2)] 48))
  have Vm_20 := Lib.hid (Vm_19.out.al (.cells #[.string (Sq e1), .string (Sq e2)] 48))
  clear Va_19 Vb_19 Vc_19 Vn_19 Vx_19 Vy_19 Vm_19
  have Vy_20 := Lib.hid (iv_boxg (W := w9) (g := w9.heap.size) (by simp) (Sq e1) (Sq e2))
  have B10 := Lib.hid (fr_chain B9.out (below_alloc w9 (.cells #[.string (Sq e1), .string (Sq e2)] 48)))
  clear B9
  obtain ⟨zx, xc0, xc1⟩ := Vx_20.out
  obtain ⟨zy, yc0, yc1⟩ := Vy_20.out
  go_wp2_with fail
  clear zx xc0 xc1 zy yc0 yc1
  refine (xMeet d1 d2 e1 e2 e1 e2 (max_r O2.out.2.2.1) (min_r O2.out.2.2.2) O2.out.1 O2.out.2.1 O2.out.2.1 Fd1.out Fd2.out Fe1.out Fe2.out _ (HT.out.on HB20.out)).mono ?_
  rintro e w10 ⟨rfl, hb⟩
  have HB21 := Lib.hid (HB20.out.trans ((hb).mono HB20.out.size))
  have Va_21 := Lib.hid (Va_20.out.mono hb)
  have Vb_21 := Lib.hid (Vb_20.out.mono hb)
  have Vc_21 := Lib.hid (Vc_20.out.mono hb)
  have Vn_21 := Lib.hid (Vn_20.out.mono hb)
  have Vx_21 := Lib.hid (Vx_20.out.mono hb)
  have Vy_21 := Lib.hid (Vy_20.out.mono hb)
  have Vm_21 := Lib.hid (Vm_20.out.mono hb)
  clear Va_20 Vb_20 Vc_20 Vn_20 Vx_20 Vy_20 Vm_20
  have B11 := Lib.hid (fr_chain B10.out (hb))
  clear B10
  clear hb
  have HB22 := Lib.hid (HB21.out.trans ((below_alloc w10 (.cells #[.string (Sq e1), .string (Sq e2)] 48)).mono HB21.out.size))
  have Va_22 := Lib.hid (Va_21.out.al (.cells #[.string (Sq e1), .string (Sq e2)] 48))
  have Vb_22 := Lib.hid (Vb_21.out.al (.cells #[.string (Sq e1), .string (Sq e2)] 48))
  have Vc_22 := Lib.hid (Vc_21.out.al (.cells #[.string (Sq e1), .string (Sq e2)] 48))
  have Vn_22 := Lib.hid (Vn_21.out.al (.cells #[.string (Sq e1), .string (Sq e2)] 48))
  have Vx_22 := Lib.hid (Vx_21.out.al (.cells #[.string (Sq e1), .string (Sq e2)] 48))
  have Vy_22 := Lib.hid (Vy_21.out.al (.cells #[.string (Sq e1), .string (Sq e2)] 48))
  have Vm_22 := Lib.hid (Vm_21.out.al (.cells #[.string (Sq e1), .string (Sq e2)] 48))
  clear Va_21 Vb_21 Vc_21 Vn_21 Vx_21 Vy_21 Vm_21
  have Vm_22 := Lib.hid (iv_boxg (W := w10) (g := w10.heap.size) (by simp) (Sq e1) (Sq e2))
  have B12 := Lib.hid (fr_chain B11.out (below_alloc w10 (.cells #[.string (Sq e1), .string (Sq e2)] 48)))
  clear B11
  obtain ⟨zm, mc0, mc1⟩ := Vm_22.out
  obtain ⟨zy, yc0, yc1⟩ := Vy_22.out
  go_wp2
  clear zm mc0 mc1 zy yc0 yc1
  rw [rounds_succ]
  obtain ⟨f0, f1, f2⟩ := KF.out _ B12.out
  obtain ⟨za, ac0, ac1⟩ := Va_22.out
  obtain ⟨zb, bc0, bc1⟩ := Vb_22.out
  obtain ⟨zm, mc0, mc1⟩ := Vm_22.out
  obtain ⟨zy, yc0, yc1⟩ := Vy_22.out
  go_wp2_with fail
  clear za ac0 ac1 zb bc0 bc1 zm mc0 mc1 zy yc0 yc1
  refine (xMul a1 a2 b1 b2 p0 p1 p2 p3 Ep0.out Ep1.out Ep2.out Ep3.out HA.out HB.out Fa1.out Fa2.out Fb1.out Fb2.out Fp0.out Fp1.out Fp2.out Fp3.out _ (HT.out.on HB22.out)).mono ?_
  rintro e w11 ⟨rfl, hb⟩
  have HB23 := Lib.hid (HB22.out.trans ((hb).mono HB22.out.size))
  have Va_23 := Lib.hid (Va_22.out.mono hb)
  have Vb_23 := Lib.hid (Vb_22.out.mono hb)
  have Vc_23 := Lib.hid (Vc_22.out.mono hb)
  have Vn_23 := Lib.hid (Vn_22.out.mono hb)
  have Vx_23 := Lib.hid (Vx_22.out.mono hb)
  have Vy_23 := Lib.hid (Vy_22.out.mono hb)
  have Vm_23 := Lib.hid (Vm_22.out.mono hb)
  clear Va_22 Vb_22 Vc_22 Vn_22 Vx_22 Vy_22 Vm_22
  have B13 := Lib.hid (fr_chain B12.out (hb))
  clear B12
  clear hb
  clear f0 f1 f2
  have HB24 := Lib.hid (HB23.out.trans ((below_alloc w11 (.cells #[.string (Sq (exOf (row4 p0 p1 p2 p3) 3).1), .string (Sq (exOf (row4 p0 p1 p2 p3) 3).2)] 48)).mono HB23.out.size))
  have Va_24 := Lib.hid (Va_23.out.al (.cells #[.string (Sq (exOf (row4 p0 p1 p2 p3) 3).1), .string (Sq (exOf (row4 p0 p1 p2 p3) 3).2)] 48))
  have Vb_24 := Lib.hid (Vb_23.out.al (.cells #[.string (Sq (exOf (row4 p0 p1 p2 p3) 3).1), .string (Sq (exOf (row4 p0 p1 p2 p3) 3).2)] 48))
  have Vc_24 := Lib.hid (Vc_23.out.al (.cells #[.string (Sq (exOf (row4 p0 p1 p2 p3) 3).1), .string (Sq (exOf (row4 p0 p1 p2 p3) 3).2)] 48))
  have Vn_24 := Lib.hid (Vn_23.out.al (.cells #[.string (Sq (exOf (row4 p0 p1 p2 p3) 3).1), .string (Sq (exOf (row4 p0 p1 p2 p3) 3).2)] 48))
  have Vx_24 := Lib.hid (Vx_23.out.al (.cells #[.string (Sq (exOf (row4 p0 p1 p2 p3) 3).1), .string (Sq (exOf (row4 p0 p1 p2 p3) 3).2)] 48))
  have Vy_24 := Lib.hid (Vy_23.out.al (.cells #[.string (Sq (exOf (row4 p0 p1 p2 p3) 3).1), .string (Sq (exOf (row4 p0 p1 p2 p3) 3).2)] 48))
  have Vm_24 := Lib.hid (Vm_23.out.al (.cells #[.string (Sq (exOf (row4 p0 p1 p2 p3) 3).1), .string (Sq (exOf (row4 p0 p1 p2 p3) 3).2)] 48))
  clear Va_23 Vb_23 Vc_23 Vn_23 Vx_23 Vy_23 Vm_23
  have Vx_24 := Lib.hid (iv_boxg (W := w11) (g := w11.heap.size) (by simp) (Sq (exOf (row4 p0 p1 p2 p3) 3).1) (Sq (exOf (row4 p0 p1 p2 p3) 3).2))
  have B14 := Lib.hid (fr_chain B13.out (below_alloc w11 (.cells #[.string (Sq (exOf (row4 p0 p1 p2 p3) 3).1), .string (Sq (exOf (row4 p0 p1 p2 p3) 3).2)] 48)))
  clear B13
  obtain ⟨zn, nc0, nc1⟩ := Vn_24.out
  obtain ⟨zb, bc0, bc1⟩ := Vb_24.out
  go_wp2_with fail
  clear zn nc0 nc1 zb bc0 bc1
  refine (xMul p q b1 b2 q0 q1 q2 q3 Eq0.out Eq1.out Eq2.out Eq3.out HP.out HB.out Fp.out Fq.out Fb1.out Fb2.out Fq0.out Fq1.out Fq2.out Fq3.out _ (HT.out.on HB24.out)).mono ?_
  rintro e w12 ⟨rfl, hb⟩
  have HB25 := Lib.hid (HB24.out.trans ((hb).mono HB24.out.size))
  have Va_25 := Lib.hid (Va_24.out.mono hb)
  have Vb_25 := Lib.hid (Vb_24.out.mono hb)
  have Vc_25 := Lib.hid (Vc_24.out.mono hb)
  have Vn_25 := Lib.hid (Vn_24.out.mono hb)
  have Vx_25 := Lib.hid (Vx_24.out.mono hb)
  have Vy_25 := Lib.hid (Vy_24.out.mono hb)
  have Vm_25 := Lib.hid (Vm_24.out.mono hb)
  clear Va_24 Vb_24 Vc_24 Vn_24 Vx_24 Vy_24 Vm_24
  have B15 := Lib.hid (fr_chain B14.out (hb))
  clear B14
  clear hb
  have HB26 := Lib.hid (HB25.out.trans ((below_alloc w12 (.cells #[.string (Sq (exOf (row4 q0 q1 q2 q3) 3).1), .string (Sq (exOf (row4 q0 q1 q2 q3) 3).2)] 48)).mono HB25.out.size))
  have Va_26 := Lib.hid (Va_25.out.al (.cells #[.string (Sq (exOf (row4 q0 q1 q2 q3) 3).1), .string (Sq (exOf (row4 q0 q1 q2 q3) 3).2)] 48))
  have Vb_26 := Lib.hid (Vb_25.out.al (.cells #[.string (Sq (exOf (row4 q0 q1 q2 q3) 3).1), .string (Sq (exOf (row4 q0 q1 q2 q3) 3).2)] 48))
  have Vc_26 := Lib.hid (Vc_25.out.al (.cells #[.string (Sq (exOf (row4 q0 q1 q2 q3) 3).1), .string (Sq (exOf (row4 q0 q1 q2 q3) 3).2)] 48))
  have Vn_26 := Lib.hid (Vn_25.out.al (.cells #[.string (Sq (exOf (row4 q0 q1 q2 q3) 3).1), .string (Sq (exOf (row4 q0 q1 q2 q3) 3).2)] 48))
  have Vx_26 := Lib.hid (Vx_25.out.al (.cells #[.string (Sq (exOf (row4 q0 q1 q2 q3) 3).1), .string (Sq (exOf (row4 q0 q1 q2 q3) 3).2)] 48))
  have Vy_26 := Lib.hid (Vy_25.out.al (.cells #[.string (Sq (exOf (row4 q0 q1 q2 q3) 3).1), .string (Sq (exOf (row4 q0 q1 q2 q3) 3).2)] 48))
  have Vm_26 := Lib.hid (Vm_25.out.al (.cells #[.string (Sq (exOf (row4 q0 q1 q2 q3) 3).1), .string (Sq (exOf (row4 q0 q1 q2 q3) 3).2)] 48))
  clear Va_25 Vb_25 Vc_25 Vn_25 Vx_25 Vy_25 Vm_25
  have Vy_26 := Lib.hid (iv_boxg (W := w12) (g := w12.heap.size) (by simp) (Sq (exOf (row4 q0 q1 q2 q3) 3).1) (Sq (exOf (row4 q0 q1 q2 q3) 3).2))
  have B16 := Lib.hid (fr_chain B15.out (below_alloc w12 (.cells #[.string (Sq (exOf (row4 q0 q1 q2 q3) 3).1), .string (Sq (exOf (row4 q0 q1 q2 q3) 3).2)] 48)))
  clear B15
  obtain ⟨zx, xc0, xc1⟩ := Vx_26.out
  obtain ⟨zy, yc0, yc1⟩ := Vy_26.out
  go_wp2_with fail
  clear zx xc0 xc1 zy yc0 yc1
  refine (xMeet (exOf (row4 p0 p1 p2 p3) 3).1 (exOf (row4 p0 p1 p2 p3) 3).2 (exOf (row4 q0 q1 q2 q3) 3).1 (exOf (row4 q0 q1 q2 q3) 3).2 (exOf (row4 q0 q1 q2 q3) 3).1 (exOf (row4 q0 q1 q2 q3) 3).2 (max_r O3.out.2.2.1) (min_r O3.out.2.2.2) O3.out.1 O3.out.2.1 O3.out.2.1 FX.out.1 FX.out.2 FY.out.1 FY.out.2 _ (HT.out.on HB26.out)).mono ?_
  rintro e w13 ⟨rfl, hb⟩
  have HB27 := Lib.hid (HB26.out.trans ((hb).mono HB26.out.size))
  have Va_27 := Lib.hid (Va_26.out.mono hb)
  have Vb_27 := Lib.hid (Vb_26.out.mono hb)
  have Vc_27 := Lib.hid (Vc_26.out.mono hb)
  have Vn_27 := Lib.hid (Vn_26.out.mono hb)
  have Vx_27 := Lib.hid (Vx_26.out.mono hb)
  have Vy_27 := Lib.hid (Vy_26.out.mono hb)
  have Vm_27 := Lib.hid (Vm_26.out.mono hb)
  clear Va_26 Vb_26 Vc_26 Vn_26 Vx_26 Vy_26 Vm_26
  have B17 := Lib.hid (fr_chain B16.out (hb))
  clear B16
  clear hb
  have HB28 := Lib.hid (HB27.out.trans ((below_alloc w13 (.cells #[.string (Sq (exOf (row4 q0 q1 q2 q3) 3).1), .string (Sq (exOf (row4 q0 q1 q2 q3) 3).2)] 48)).mono HB27.out.size))
  have Va_28 := Lib.hid (Va_27.out.al (.cells #[.string (Sq (exOf (row4 q0 q1 q2 q3) 3).1), .string (Sq (exOf (row4 q0 q1 q2 q3) 3).2)] 48))
  have Vb_28 := Lib.hid (Vb_27.out.al (.cells #[.string (Sq (exOf (row4 q0 q1 q2 q3) 3).1), .string (Sq (exOf (row4 q0 q1 q2 q3) 3).2)] 48))
  have Vc_28 := Lib.hid (Vc_27.out.al (.cells #[.string (Sq (exOf (row4 q0 q1 q2 q3) 3).1), .string (Sq (exOf (row4 q0 q1 q2 q3) 3).2)] 48))
  have Vn_28 := Lib.hid (Vn_27.out.al (.cells #[.string (Sq (exOf (row4 q0 q1 q2 q3) 3).1), .string (Sq (exOf (row4 q0 q1 q2 q3) 3).2)] 48))
  have Vx_28 := Lib.hid (Vx_27.out.al (.cells #[.string (Sq (exOf (row4 q0 q1 q2 q3) 3).1), .string (Sq (exOf (row4 q0 q1 q2 q3) 3).2)] 48))
  have Vy_28 := Lib.hid (Vy_27.out.al (.cells #[.string (Sq (exOf (row4 q0 q1 q2 q3) 3).1), .string (Sq (exOf (row4 q0 q1 q2 q3) 3).2)] 48))
  have Vm_28 := Lib.hid (Vm_27.out.al (.cells #[.string (Sq (exOf (row4 q0 q1 q2 q3) 3).1), .string (Sq (exOf (row4 q0 q1 q2 q3) 3).2)] 48))
  clear Va_27 Vb_27 Vc_27 Vn_27 Vx_27 Vy_27 Vm_27
  have Vm_28 := Lib.hid (iv_boxg (W := w13) (g := w13.heap.size) (by simp) (Sq (exOf (row4 q0 q1 q2 q3) 3).1) (Sq (exOf (row4 q0 q1 q2 q3) 3).2))
  have B18 := Lib.hid (fr_chain B17.out (below_alloc w13 (.cells #[.string (Sq (exOf (row4 q0 q1 q2 q3) 3).1), .string (Sq (exOf (row4 q0 q1 q2 q3) 3).2)] 48)))
  clear B17
  obtain ⟨zm, mc0, mc1⟩ := Vm_28.out
  obtain ⟨zy, yc0, yc1⟩ := Vy_28.out
  go_wp2
  clear zm mc0 mc1 zy yc0 yc1
  rw [rounds_succ]
  go_wp2
  go_ret
  exact ⟨rfl, HB28.out⟩

theorem vnar_any (l1 h1 l2 h2 l3 h3 : ByteArray) (w : World) (hl : La w) :
    Calls Tryz.prog 9 #[.agg #[.string l1, .string h1], .agg #[.string l2, .string h2], .agg #[.string l3, .string h3]] w fun e w' => e = .returned (.bool true) ∧ Below w.heap.size w w' := by
  by_cases hlo : 40 < l1.size ∨ 40 < h1.size ∨ 40 < l2.size ∨ 40 < h2.size ∨ 40 < l3.size ∨ 40 < h3.size
  · exact vnar_long l1 h1 l2 h2 l3 h3 hlo w hl
  · have s0 : l1.size ≤ 40 ∧ h1.size ≤ 40 := by omega
    have s1 : l2.size ≤ 40 ∧ h2.size ≤ 40 := by omega
    have s2 : l3.size ≤ 40 ∧ h3.size ≤ 40 := by omega
    clear hlo
    rcases iv_form l1 h1 s0.1 s0.2 with ⟨a1, a2, rfl, rfl, ha, m1, m2⟩ | ga
    · rcases iv_form l3 h3 s2.1 s2.2 with ⟨c1, c2, rfl, rfl, hc, k1, k2⟩ | gc
      · by_cases hpq : (exOf (row2 a1 c1) 1).2 ≤ (exOf (row2 a2 c2) 1).1
        · have g1 := fun W hW => xMeet a1 a2 c1 c2 _ _ rfl rfl ha hc hpq (m1.fit (by decide)) (m2.fit (by decide)) (k1.fit (by decide)) (k2.fit (by decide)) W hW
          rcases iv_form l2 h2 s1.1 s1.2 with ⟨b1, b2, rfl, rfl, hb, n1, n2⟩ | gb
          · have o1 := row2_one a1 c1
            have o2 := row2_one a2 c2
            have i1 := row2_in a1 c1
            have i2 := row2_in a2 c2
            refine vnar_yes a1 a2 b1 b2 c1 c2 _ _ ha hb hpq i1.2.1 i2.1.1 ?_ ?_ s0 s1 s2 g1 w hl
            · rcases o1.2 with e | e <;> rw [e] <;> assumption
            · rcases o2.1 with e | e <;> rw [e] <;> assumption
          · exact vnar_no _ _ _ _ _ _ _ _ s0 s1 s2 g1 gb w hl
        · exact vnar_none _ _ _ _ _ _ s0 s1 s2 (fun W hW => xMeet_empty a1 a2 c1 c2 _ _ rfl rfl ha hc (by grind) (m1.fit (by decide)) (m2.fit (by decide)) (k1.fit (by decide)) (k2.fit (by decide)) W hW) w hl
      · exact vnar_none _ _ _ _ _ _ s0 s1 s2 (fun W hW => iMeet_no2_raw _ _ _ _ W hW (fun V hV => xValid_yes a1 a2 ha (m1.fit (by decide)) (m2.fit (by decide)) V hV) gc) w hl
    · exact vnar_none _ _ _ _ _ _ s0 s1 s2 (fun W hW => iMeet_no1_raw _ _ _ _ W hW ga) w hl

end Go.Proofs.YtlagimghlngdgaaGreatDoor
/- garboardlaw04.IntervalNarrows: the card. -/
namespace Go.Proofs.YtlagimghlngdgaaGreatDoor
open Go.ChangeShapes Go.WideShapes Go.ChangeAt Go.WideMaps Go.WideElems Go.RowKit Go.Gb
open Go.ChangeMaps (open_string shut_string)

set_option maxRecDepth 100000 in
theorem intervalNarrows_post {H : Type} {enc : TypeId × Value → H} {f : Func} {s : ChangeSpec} {apart fresh handsOn again : Bool} {W W' : World} {al au : ByteArray} {bl bu : ByteArray} {cl cu : ByteArray} {ds gs : List (DataW H)}
    (hp : f.params.toList = [48, 48, 48]) (hr : f.resultTypes = #[4])
    (hf : (s.fn H (ds ++ gs)).args = [.agg [.lit (.string al.data.toList), .lit (.string au.data.toList)], .agg [.lit (.string bl.data.toList), .lit (.string bu.data.toList)], .agg [.lit (.string cl.data.toList), .lit (.string cu.data.toList)]]) (hf2 : (s.fn H (ds ++ gs)).results = [.lit (.bool true)])
    (hal : al.size ≤ maxLen) (hau : au.size ≤ maxLen) (hbl : bl.size ≤ maxLen) (hbu : bu.size ≤ maxLen) (hcl : cl.size ≤ maxLen) (hcu : cu.size ≤ maxLen)
    (hv : ∀ sp : Nat → Bool, DataW.TrodVars enc Tryz.prog W' sp s.vars (s.fn H (ds ++ gs)).vars [])
    (hW : DataW.Whole enc Tryz.prog f.params.toList s.vars apart W #[Value.agg #[.string al, .string au], Value.agg #[.string bl, .string bu], Value.agg #[.string cl, .string cu]].toList ds gs []) (hB : Below W.heap.size W W') :
    s.post enc Tryz.prog f apart fresh handsOn again W #[.agg #[.string al, .string au], .agg #[.string bl, .string bu], .agg #[.string cl, .string cu]] (.bool true) W' := by
  refine post_plain hW (fun _ _ _ => ?_) (fun _ => ?_) hv (hB.frame _) ?_
  · rw [hr, hf2]
    exact trodAll_mk1 (shut_bool Tryz.underlying4 _)
  · rw [hp, hf]
    exact trodAll_cons_mk (shut_iv hal hau) (trodAll_cons_mk (shut_iv hbl hbu) (trodAll_mk1 (shut_iv hcl hcu)))
  · exact ok_one hr rfl (okWide_bool_mk Tryz.underlying4 _)

set_option maxRecDepth 100000 in
theorem intervalNarrows_lifted (os : Os) (started : os.Started) (H : Type) (enc : TypeId × Value → H) :
    ReturnsInHanded {} Tryz.checked os 9 .any (fun w args => (Rows.intervalNarrowsSpec.pre enc Tryz.prog Tryz.f9 [] false w args ∧ laidMetH Tryz.prog laidListZ w) ∧ sizedMet enc Tryz.prog Tryz.f9 (OpenSpec.ofChange Rows.intervalNarrowsSpec) false w args)
      (Rows.intervalNarrowsSpec.post enc Tryz.prog Tryz.f9 false true false false) := by
  refine returnsInHanded_of_change_and (C := Tryz.checked) (X := fun w _ => laidMetH Tryz.prog laidListZ w) (fun _ _ _ hh h => h.of_heap hh) own started (by kernel_rfl) Tryz.func9
    (ChangeSpec.witness_shaped (enc := enc) (C := Tryz.checked) (os := os) (X := fun w _ => laidMetH Tryz.prog laidListZ w) false (World.doorLaid Tryz.prog 4000 os) #[.agg #[.string ⟨#[]⟩, .string ⟨#[]⟩], .agg #[.string ⟨#[]⟩, .string ⟨#[]⟩], .agg #[.string ⟨#[]⟩, .string ⟨#[]⟩]] 8 rfl (World.shaped_of_RefB (by kernel_rfl) (by kernel_rfl)) (by kernel_rfl) (by kernel_rfl) (by kernel_rfl) (door_metZ os _)) ?_
  intro W base args ds gs before hval0 hW _ _ hL _
  have hval : ∀ (j : Nat) t v, Tryz.f9.params[j]? = some t → args[j]? = some v → Value.okWide Tryz.prog W .any base t v := hval0
  have hW' := hW
  obtain ⟨p, q, hA0, hV, rfl, hfz, hnd⟩ := hW
  have hA : DataW.TrodAll enc Tryz.prog W 0 (fun _ => true) true Tryz.f9.params.toList args.toList ds p := hA0
  rw [Tryz.params9] at hA hval
  obtain ⟨v0, v1, v2, d0, d1, d2, p0, p1, p2, rfl, rfl, rfl, h0, h1, h2⟩ := trodAll_three hA
  obtain ⟨rfl, rfl⟩ := trodVars_none hV
  obtain ⟨al, au, rfl, rfl, rfl, hal, hau⟩ := open_iv (hval 0 48 v0 rfl rfl) h0
  obtain ⟨bl, bu, rfl, rfl, rfl, hbl, hbu⟩ := open_iv (hval 1 48 v1 rfl rfl) h1
  obtain ⟨cl, cu, rfl, rfl, rfl, hcl, hcu⟩ := open_iv (hval 2 48 v2 rfl rfl) h2
  clear hA0 hval0
  simp only [List.append_nil] at hW'
  refine (vnar_any al au bl bu cl cu  W (la_of_laid hL)).mono fun e W' ⟨he, hB⟩ => ?_
  subst he
  refine ⟨_, rfl, intervalNarrows_post (by kernel_rfl) (by kernel_rfl) ?_ ?_ hal hau hbl hbu hcl hcu ?_ hW' hB⟩
  · exact rfl
  · exact rfl
  · exact fun _ => rfl

theorem intervalNarrows_said : Rows.IntervalNarrowsSaid :=
  OpenClaim.holds_of_wide 9 Tryz.f9 rfl rfl rfl rfl rfl rfl rfl ⟨rfl, rfl, rfl, rfl, rfl⟩ rfl rfl rfl rfl rfl (by kernel_rfl) Tryz.func9 (by kernel_rfl)
    (of_decide_eq_true (by kernel_rfl)) (by unfold Func.isWrapper; first | (rw [if_pos (by decide +kernel)]; kernel_rfl) | (rw [if_neg (by decide +kernel)]; exact ⟨rfl, rfl⟩))
    (fun os started H enc _ => intervalNarrows_lifted os started H enc)

theorem intervalNarrows_plain (f : FuncId) (fn : Func) (hf : Tryz.pinned.checked.prog.funcNamed "garboard/garboardlaw04.IntervalNarrows" = some f) (hfn : Tryz.pinned.checked.prog.funcs[f]? = some fn) :
    true = Tryz.pinned.checked.prog.looks [] ∧ ∀ (j : Nat) t, fn.params[j]? = some t → Tryz.pinned.checked.prog.wantsStandIn t = false := by
  obtain rfl : f = 9 := Option.some.inj ((show Tryz.prog.funcNamed "garboard/garboardlaw04.IntervalNarrows" = some 9 by kernel_rfl).symm.trans hf) |>.symm
  obtain rfl : fn = Tryz.f9 := (Option.some.inj (Tryz.func9.symm.trans hfn)).symm
  refine ⟨by kernel_rfl, fun j t ht => ?_⟩
  rw [Tryz.params9] at ht
  obtain rfl : t = 48 := by simpa using Array.mem_of_getElem? ht
  exact (show Tryz.prog.wantsStandIn 48 = false by kernel_rfl)

theorem intervalNarrows_card : Rows.IntervalNarrowsCardSaid :=
  Claim7.holds_tied_plain_at .later [] _ _ _ _ intervalNarrows_said (fun _ h => by cases h) (by kernel_rfl) (fun _ h => by cases h) intervalNarrows_row_tie rfl ⟨rfl, rfl⟩ (by kernel_rfl) rfl intervalNarrows_plain (by kernel_rfl)

end Go.Proofs.YtlagimghlngdgaaGreatDoor
