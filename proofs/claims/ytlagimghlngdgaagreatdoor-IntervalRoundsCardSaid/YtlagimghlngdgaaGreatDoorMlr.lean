/- Texts of this proof, one behind the other. -/
import Derived.Test.YtlagimghlngdgaaGreatDoorMvr
import Derived.Test.YtlagimghlngdgaaGreatDoorVn
import Derived.Test.YtlagimghlngdgaaGreatDoorMfr
/- garboardlaw04.IntervalRounds returns true: walks. -/
namespace Go.Proofs.YtlagimghlngdgaaGreatDoor
open Go.RowKit Go.Gb

set_option maxHeartbeats 8000000 in
set_option maxRecDepth 100000 in
theorem vrou_long (l1 h1 : ByteArray) (n : Int) (hab : 40 < l1.size ∨ 40 < h1.size) (w : World) (hl : La w) :
    Calls Tryz.prog 10 #[.agg #[.string l1, .string h1], .int .u16 n] w fun e w' => e = .returned (.bool true) ∧ Below w.heap.size w w' := by
  have HW := Lib.hid hab
  clear hab
  have HT := Lib.hid hl
  clear hl
  have HB0 := Lib.hid (Below.refl w.heap.size w)
  have HB1 := Lib.hid (HB0.out.trans ((below_alloc w (.cells #[.string l1, .string h1] 48)).mono HB0.out.size))
  have Va_1 := Lib.hid (iv_boxg (W := w) (g := w.heap.size) (by simp) l1 h1)
  go_enter Tryz.func10, Tryz.ntmps10
  go_wp2_with fail
  refine (vawake _ (HT.out.on HB1.out)).mono ?_
  rintro e w1 ⟨rfl, hb⟩
  have HB2 := Lib.hid (HB1.out.trans ((hb).mono HB1.out.size))
  have Va_2 := Lib.hid (Va_1.out.mono hb)
  clear Va_1
  clear hb
  obtain ⟨za, ac0, ac1⟩ := Va_2.out
  have HB3 := Lib.hid (HB2.out.trans ((below_alloc w1 (.cells #[.string l1, .string h1] 48)).mono HB2.out.size))
  have Va_3 := Lib.hid (Va_2.out.al (.cells #[.string l1, .string h1] 48))
  clear Va_2
  have hc := ivs_cells1 w1 l1 h1
  go_wp2_with fail
  clear za ac0 ac1
  refine (wide1_yes (w1.heap.size) l1 h1 _ HW.out (by simp) hc).mono ?_
  rintro e w2 ⟨rfl, hb⟩
  have HB4 := Lib.hid (HB3.out.trans ((hb).mono HB3.out.size))
  have Va_4 := Lib.hid (Va_3.out.mono hb)
  clear Va_3
  clear hb
  clear hc
  go_wp2_with fail
  refine (vawake _ (HT.out.on HB4.out)).mono ?_
  rintro e w3 ⟨rfl, hb⟩
  have HB5 := Lib.hid (HB4.out.trans ((hb).mono HB4.out.size))
  have Va_5 := Lib.hid (Va_4.out.mono hb)
  clear Va_4
  clear hb
  go_wp2
  go_ret
  exact ⟨rfl, HB5.out⟩

set_option maxHeartbeats 8000000 in
set_option maxRecDepth 100000 in
theorem vrou_zero (l1 h1 : ByteArray) (n : Int) (hn : n = 0) (s0 : l1.size ≤ 40 ∧ h1.size ≤ 40) (w : World) (hl : La w) :
    Calls Tryz.prog 10 #[.agg #[.string l1, .string h1], .int .u16 n] w fun e w' => e = .returned (.bool true) ∧ Below w.heap.size w w' := by
  have SZ0 := Lib.hid s0
  clear s0
  subst hn
  have HT := Lib.hid hl
  clear hl
  have HB0 := Lib.hid (Below.refl w.heap.size w)
  have HB1 := Lib.hid (HB0.out.trans ((below_alloc w (.cells #[.string l1, .string h1] 48)).mono HB0.out.size))
  have Va_1 := Lib.hid (iv_boxg (W := w) (g := w.heap.size) (by simp) l1 h1)
  go_enter Tryz.func10, Tryz.ntmps10
  go_wp2_with fail
  refine (vawake _ (HT.out.on HB1.out)).mono ?_
  rintro e w1 ⟨rfl, hb⟩
  have HB2 := Lib.hid (HB1.out.trans ((hb).mono HB1.out.size))
  have Va_2 := Lib.hid (Va_1.out.mono hb)
  clear Va_1
  clear hb
  obtain ⟨za, ac0, ac1⟩ := Va_2.out
  have HB3 := Lib.hid (HB2.out.trans ((below_alloc w1 (.cells #[.string l1, .string h1] 48)).mono HB2.out.size))
  have Va_3 := Lib.hid (Va_2.out.al (.cells #[.string l1, .string h1] 48))
  clear Va_2
  have hc := ivs_cells1 w1 l1 h1
  go_wp2_with fail
  clear za ac0 ac1
  refine (wide1_small (w1.heap.size) l1 h1 _ SZ0.out (by simp) hc).mono ?_
  rintro e w2 ⟨rfl, hb⟩
  have HB4 := Lib.hid (HB3.out.trans ((hb).mono HB3.out.size))
  have Va_4 := Lib.hid (Va_3.out.mono hb)
  clear Va_3
  clear hb
  clear hc
  go_wp2_with fail
  refine (vawake _ (HT.out.on HB4.out)).mono ?_
  rintro e w3 ⟨rfl, hb⟩
  have HB5 := Lib.hid (HB4.out.trans ((hb).mono HB4.out.size))
  have Va_5 := Lib.hid (Va_4.out.mono hb)
  clear Va_4
  clear hb
  go_wp2
  go_ret
  exact ⟨rfl, HB5.out⟩

set_option maxHeartbeats 8000000 in
set_option maxRecDepth 100000 in
theorem vrou_no (l1 h1 : ByteArray) (n : Int) (n1 : 1 ≤ n) (n2 : n ≤ 65535) (s0 : l1.size ≤ 40 ∧ h1.size ≤ 40) (g1 : ∀ W, La W → Calls Tryz.prog 34 #[.agg #[.string l1, .string h1]] W fun e w' => e = .returned (.bool false) ∧ Below W.heap.size W w') (w : World) (hl : La w) :
    Calls Tryz.prog 10 #[.agg #[.string l1, .string h1], .int .u16 n] w fun e w' => e = .returned (.bool true) ∧ Below w.heap.size w w' := by
  have SZ0 := Lib.hid s0
  clear s0
  have nn0 : ¬ n = 0 := by omega
  have nw : IntKind.i64.wrap n = n := IntWalk.i64_in _ (by omega)
  have G1 := Lib.hid g1
  clear g1
  have HT := Lib.hid hl
  clear hl
  have HB0 := Lib.hid (Below.refl w.heap.size w)
  have HB1 := Lib.hid (HB0.out.trans ((below_alloc w (.cells #[.string l1, .string h1] 48)).mono HB0.out.size))
  have Va_1 := Lib.hid (iv_boxg (W := w) (g := w.heap.size) (by simp) l1 h1)
  go_enter Tryz.func10, Tryz.ntmps10
  go_wp2_with fail
  refine (vawake _ (HT.out.on HB1.out)).mono ?_
  rintro e w1 ⟨rfl, hb⟩
  have HB2 := Lib.hid (HB1.out.trans ((hb).mono HB1.out.size))
  have Va_2 := Lib.hid (Va_1.out.mono hb)
  clear Va_1
  clear hb
  obtain ⟨za, ac0, ac1⟩ := Va_2.out
  have HB3 := Lib.hid (HB2.out.trans ((below_alloc w1 (.cells #[.string l1, .string h1] 48)).mono HB2.out.size))
  have Va_3 := Lib.hid (Va_2.out.al (.cells #[.string l1, .string h1] 48))
  clear Va_2
  have hc := ivs_cells1 w1 l1 h1
  go_wp2_with fail
  clear za ac0 ac1
  refine (wide1_small (w1.heap.size) l1 h1 _ SZ0.out (by simp) hc).mono ?_
  rintro e w2 ⟨rfl, hb⟩
  have HB4 := Lib.hid (HB3.out.trans ((hb).mono HB3.out.size))
  have Va_4 := Lib.hid (Va_3.out.mono hb)
  clear Va_3
  clear hb
  clear hc
  obtain ⟨za, ac0, ac1⟩ := Va_4.out
  go_wp2_with fail
  clear za ac0 ac1
  refine (xRound_no l1 h1 n _ (HT.out.on HB4.out) G1.out).mono ?_
  rintro e w3 ⟨rfl, hb⟩
  have HB5 := Lib.hid (HB4.out.trans ((hb).mono HB4.out.size))
  have Va_5 := Lib.hid (Va_4.out.mono hb)
  clear Va_4
  clear hb
  have HB6 := Lib.hid (HB5.out.trans ((below_alloc w3 (.cells #[.string ⟨#[]⟩, .string ⟨#[]⟩] 48)).mono HB5.out.size))
  have Va_6 := Lib.hid (Va_5.out.al (.cells #[.string ⟨#[]⟩, .string ⟨#[]⟩] 48))
  clear Va_5
  have Vb_6 := Lib.hid (iv_boxg (W := w3) (g := w3.heap.size) (by simp) ⟨#[]⟩ ⟨#[]⟩)
  obtain ⟨za, ac0, ac1⟩ := Va_6.out
  obtain ⟨zb, bc0, bc1⟩ := Vb_6.out
  go_wp2_with fail
  clear za ac0 ac1 zb bc0 bc1
  refine (G1.out _ (HT.out.on HB6.out)).mono ?_
  rintro e w4 ⟨rfl, hb⟩
  have HB7 := Lib.hid (HB6.out.trans ((hb).mono HB6.out.size))
  have Va_7 := Lib.hid (Va_6.out.mono hb)
  have Vb_7 := Lib.hid (Vb_6.out.mono hb)
  clear Va_6 Vb_6
  clear hb
  go_wp2
  go_ret
  exact ⟨rfl, HB7.out⟩

set_option maxHeartbeats 8000000 in
set_option maxRecDepth 100000 in
theorem vrou_yes (a1 a2 : Rat) (n : Int) (n1 : 1 ≤ n) (n2 : n ≤ 65535) (ha : a1 ≤ a2) (s0 : (Sq a1).size ≤ 40 ∧ (Sq a2).size ≤ 40) (w : World) (hl : La w) :
    Calls Tryz.prog 10 #[.agg #[.string (Sq a1), .string (Sq a2)], .int .u16 n] w fun e w' => e = .returned (.bool true) ∧ Below w.heap.size w w' := by
  have SZ0 := Lib.hid s0
  clear s0
  have nn0 : ¬ n = 0 := by omega
  have nw : IntKind.i64.wrap n = n := IntWalk.i64_in _ (by omega)
  have m1 := smq_of SZ0.out.1 (by decide)
  have m2 := smq_of SZ0.out.2 (by decide)
  have R1 := round_sm n1 n2 m1 m2
  have R2 := round_in (a1 := a1) (a2 := a2) n1
  have R3 := round_again (a1 := a1) (a2 := a2) n1
  have R4 := round_near (a1 := a1) (a2 := a2) n1
  obtain ⟨b1, hb1⟩ : ∃ b1, b1 = rdQ a1 n := ⟨_, rfl⟩
  obtain ⟨b2, hb2⟩ : ∃ b2, b2 = 0 - rdQ (0 - a2) n := ⟨_, rfl⟩
  have C1 := Lib.hid (fun W hW => xRound (k := 40) a1 a2 n (by decide) ha m1 m2 n1 (by omega) W hW)
  rw [← hb1, ← hb2] at R1 R2 R3 R4 C1
  have hb : b1 ≤ b2 := by grind
  have C2 := Lib.hid (fun W hW => xRound (k := 60) b1 b2 n (by decide) hb R1.1 R1.2 n1 (by omega) W hW)
  rw [R3.1, R3.2] at C2
  have C3 := Lib.hid (fun W hW => xMeet a1 a2 b1 b2 a1 a2 (max_l R2.1) (min_l R2.2) ha hb ha (m1.fit (by decide)) (m2.fit (by decide)) (R1.1.fit (by decide)) (R1.2.fit (by decide)) W hW)
  have C4 := Lib.hid (fun W hW => near_yes a1 b1 n n1 n2 (m1.mono (by decide)) R1.1 R4.1 W hW)
  have C5 := Lib.hid (fun W hW => near_yes b2 a2 n n1 n2 R1.2 (m2.mono (by decide)) R4.2 W hW)
  clear hb1 hb2 R1 R2 R3 R4 hb ha m1 m2
  have HT := Lib.hid hl
  clear hl
  have HB0 := Lib.hid (Below.refl w.heap.size w)
  have HB1 := Lib.hid (HB0.out.trans ((below_alloc w (.cells #[.string (Sq a1), .string (Sq a2)] 48)).mono HB0.out.size))
  have Va_1 := Lib.hid (iv_boxg (W := w) (g := w.heap.size) (by simp) (Sq a1) (Sq a2))
  go_enter Tryz.func10, Tryz.ntmps10
  go_wp2_with fail
  refine (vawake _ (HT.out.on HB1.out)).mono ?_
  rintro e w1 ⟨rfl, hb⟩
  have HB2 := Lib.hid (HB1.out.trans ((hb).mono HB1.out.size))
  have Va_2 := Lib.hid (Va_1.out.mono hb)
  clear Va_1
  clear hb
  obtain ⟨za, ac0, ac1⟩ := Va_2.out
  have HB3 := Lib.hid (HB2.out.trans ((below_alloc w1 (.cells #[.string (Sq a1), .string (Sq a2)] 48)).mono HB2.out.size))
  have Va_3 := Lib.hid (Va_2.out.al (.cells #[.string (Sq a1), .string (Sq a2)] 48))
  clear Va_2
  have hc := ivs_cells1 w1 (Sq a1) (Sq a2)
  go_wp2_with fail
  clear za ac0 ac1
  refine (wide1_small (w1.heap.size) (Sq a1) (Sq a2) _ SZ0.out (by simp) hc).mono ?_
  rintro e w2 ⟨rfl, hb⟩
  have HB4 := Lib.hid (HB3.out.trans ((hb).mono HB3.out.size))
  have Va_4 := Lib.hid (Va_3.out.mono hb)
  clear Va_3
  clear hb
  clear hc
  obtain ⟨za, ac0, ac1⟩ := Va_4.out
  go_wp2_with fail
  clear za ac0 ac1
  refine (C1.out _ (HT.out.on HB4.out)).mono ?_
  rintro e w3 ⟨rfl, hb⟩
  have HB5 := Lib.hid (HB4.out.trans ((hb).mono HB4.out.size))
  have Va_5 := Lib.hid (Va_4.out.mono hb)
  clear Va_4
  clear hb
  have HB6 := Lib.hid (HB5.out.trans ((below_alloc w3 (.cells #[.string (Sq b1), .string (Sq b2)] 48)).mono HB5.out.size))
  have Va_6 := Lib.hid (Va_5.out.al (.cells #[.string (Sq b1), .string (Sq b2)] 48))
  clear Va_5
  have Vb_6 := Lib.hid (iv_boxg (W := w3) (g := w3.heap.size) (by simp) (Sq b1) (Sq b2))
  obtain ⟨za, ac0, ac1⟩ := Va_6.out
  obtain ⟨zb, bc0, bc1⟩ := Vb_6.out
  go_wp2_with fail
  clear za ac0 ac1 zb bc0 bc1
  refine (C2.out _ (HT.out.on HB6.out)).mono ?_
  rintro e w4 ⟨rfl, hb⟩
  have HB7 := Lib.hid (HB6.out.trans ((hb).mono HB6.out.size))
  have Va_7 := Lib.hid (Va_6.out.mono hb)
  have Vb_7 := Lib.hid (Vb_6.out.mono hb)
  clear Va_6 Vb_6
  clear hb
  have HB8 := Lib.hid (HB7.out.trans ((below_alloc w4 (.cells #[.string (Sq b1), .string (Sq b2)] 48)).mono HB7.out.size))
  have Va_8 := Lib.hid (Va_7.out.al (.cells #[.string (Sq b1), .string (Sq b2)] 48))
  have Vb_8 := Lib.hid (Vb_7.out.al (.cells #[.string (Sq b1), .string (Sq b2)] 48))
  clear Va_7 Vb_7
  have Vc_8 := Lib.hid (iv_boxg (W := w4) (g := w4.heap.size) (by simp) (Sq b1) (Sq b2))
  obtain ⟨za, ac0, ac1⟩ := Va_8.out
  obtain ⟨zb, bc0, bc1⟩ := Vb_8.out
  go_wp2_with fail
  clear za ac0 ac1 zb bc0 bc1
  refine (C3.out _ (HT.out.on HB8.out)).mono ?_
  rintro e w5 ⟨rfl, hb⟩
  have HB9 := Lib.hid (HB8.out.trans ((hb).mono HB8.out.size))
  have Va_9 := Lib.hid (Va_8.out.mono hb)
  have Vb_9 := Lib.hid (Vb_8.out.mono hb)
  have Vc_9 := Lib.hid (Vc_8.out.mono hb)
  clear Va_8 Vb_8 Vc_8
  clear hb
  have HB10 := Lib.hid (HB9.out.trans ((below_alloc w5 (.cells #[.string (Sq a1), .string (Sq a2)] 48)).mono HB9.out.size))
  have Va_10 := Lib.hid (Va_9.out.al (.cells #[.string (Sq a1), .string (Sq a2)] 48))
  have Vb_10 := Lib.hid (Vb_9.out.al (.cells #[.string (Sq a1), .string (Sq a2)] 48))
  have Vc_10 := Lib.hid (Vc_9.out.al (.cells #[.string (Sq a1), .string (Sq a2)] 48))
  clear Va_9 Vb_9 Vc_9
  have Vm_10 := Lib.hid (iv_boxg (W := w5) (g := w5.heap.size) (by simp) (Sq a1) (Sq a2))
  obtain ⟨za, ac0, ac1⟩ := Va_10.out
  obtain ⟨zb, bc0, bc1⟩ := Vb_10.out
  obtain ⟨zc, cc0, cc1⟩ := Vc_10.out
  obtain ⟨zm, mc0, mc1⟩ := Vm_10.out
  go_wp2_with fail
  clear za ac0 ac1 zb bc0 bc1 zc cc0 cc1 zm mc0 mc1
  refine (C4.out _ (HT.out.on HB10.out)).mono ?_
  rintro e w6 ⟨rfl, hb⟩
  have HB11 := Lib.hid (HB10.out.trans ((hb).mono HB10.out.size))
  have Va_11 := Lib.hid (Va_10.out.mono hb)
  have Vb_11 := Lib.hid (Vb_10.out.mono hb)
  have Vc_11 := Lib.hid (Vc_10.out.mono hb)
  have Vm_11 := Lib.hid (Vm_10.out.mono hb)
  clear Va_10 Vb_10 Vc_10 Vm_10
  clear hb
  obtain ⟨za, ac0, ac1⟩ := Va_11.out
  obtain ⟨zb, bc0, bc1⟩ := Vb_11.out
  obtain ⟨zc, cc0, cc1⟩ := Vc_11.out
  obtain ⟨zm, mc0, mc1⟩ := Vm_11.out
  go_wp2_with fail
  clear za ac0 ac1 zb bc0 bc1 zc cc0 cc1 zm mc0 mc1
  refine (C5.out _ (HT.out.on HB11.out)).mono ?_
  rintro e w7 ⟨rfl, hb⟩
  have HB12 := Lib.hid (HB11.out.trans ((hb).mono HB11.out.size))
  have Va_12 := Lib.hid (Va_11.out.mono hb)
  have Vb_12 := Lib.hid (Vb_11.out.mono hb)
  have Vc_12 := Lib.hid (Vc_11.out.mono hb)
  have Vm_12 := Lib.hid (Vm_11.out.mono hb)
  clear Va_11 Vb_11 Vc_11 Vm_11
  clear hb
  go_wp2
  go_ret
  exact ⟨rfl, HB12.out⟩

theorem vrou_any (l1 h1 : ByteArray) (n : Int) (n0 : 0 ≤ n) (n2 : n ≤ 65535) (w : World) (hl : La w) :
    Calls Tryz.prog 10 #[.agg #[.string l1, .string h1], .int .u16 n] w fun e w' => e = .returned (.bool true) ∧ Below w.heap.size w w' := by
  by_cases hlo : 40 < l1.size ∨ 40 < h1.size
  · exact vrou_long l1 h1 n hlo w hl
  · have s0 : l1.size ≤ 40 ∧ h1.size ≤ 40 := by omega
    clear hlo
    by_cases hn : n = 0
    · exact vrou_zero l1 h1 n hn s0 w hl
    · have n1 : 1 ≤ n := by omega
      rcases iv_form l1 h1 s0.1 s0.2 with ⟨a1, a2, rfl, rfl, ha, m1, m2⟩ | g1
      · exact vrou_yes a1 a2 n n1 n2 ha s0 w hl
      · exact vrou_no _ _ n n1 n2 s0 g1 w hl

end Go.Proofs.YtlagimghlngdgaaGreatDoor
/- garboardlaw04.IntervalRounds: the card. -/
namespace Go.Proofs.YtlagimghlngdgaaGreatDoor
open Go.ChangeShapes Go.WideShapes Go.ChangeAt Go.WideMaps Go.WideElems Go.RowKit Go.Gb
open Go.ChangeMaps (open_string shut_string)

set_option maxRecDepth 100000 in
theorem intervalRounds_post {H : Type} {enc : TypeId × Value → H} {f : Func} {s : ChangeSpec} {apart fresh handsOn again : Bool} {W W' : World} {al au : ByteArray} {b : Int} {ds gs : List (DataW H)}
    (hp : f.params.toList = [48, 65]) (hr : f.resultTypes = #[4])
    (hf : (s.fn H (ds ++ gs)).args = [.agg [.lit (.string al.data.toList), .lit (.string au.data.toList)], .lit (.int .u16 b)]) (hf2 : (s.fn H (ds ++ gs)).results = [.lit (.bool true)])
    (hal : al.size ≤ maxLen) (hau : au.size ≤ maxLen) (hb : (Lit.int .u16 b).wf = true)
    (hv : ∀ sp : Nat → Bool, DataW.TrodVars enc Tryz.prog W' sp s.vars (s.fn H (ds ++ gs)).vars [])
    (hW : DataW.Whole enc Tryz.prog f.params.toList s.vars apart W #[Value.agg #[.string al, .string au], Value.int .u16 b].toList ds gs []) (hB : Below W.heap.size W W') :
    s.post enc Tryz.prog f apart fresh handsOn again W #[.agg #[.string al, .string au], .int .u16 b] (.bool true) W' := by
  refine post_plain hW (fun _ _ _ => ?_) (fun _ => ?_) hv (hB.frame _) ?_
  · rw [hr, hf2]
    exact trodAll_mk1 (shut_bool Tryz.underlying4 _)
  · rw [hp, hf]
    exact trodAll_cons_mk (shut_iv hal hau) (trodAll_mk1 (shut_int Tryz.underlying65 hb))
  · exact ok_one hr rfl (okWide_bool_mk Tryz.underlying4 _)

set_option maxRecDepth 100000 in
theorem intervalRounds_lifted (os : Os) (started : os.Started) (H : Type) (enc : TypeId × Value → H) :
    ReturnsInHanded {} Tryz.checked os 10 .any (fun w args => (Rows.intervalRoundsSpec.pre enc Tryz.prog Tryz.f10 [] false w args ∧ laidMetH Tryz.prog laidListZ w) ∧ sizedMet enc Tryz.prog Tryz.f10 (OpenSpec.ofChange Rows.intervalRoundsSpec) false w args)
      (Rows.intervalRoundsSpec.post enc Tryz.prog Tryz.f10 false true false false) := by
  refine returnsInHanded_of_change_and (C := Tryz.checked) (X := fun w _ => laidMetH Tryz.prog laidListZ w) (fun _ _ _ hh h => h.of_heap hh) own started (by kernel_rfl) Tryz.func10
    (ChangeSpec.witness_shaped (enc := enc) (C := Tryz.checked) (os := os) (X := fun w _ => laidMetH Tryz.prog laidListZ w) false (World.doorLaid Tryz.prog 4000 os) #[.agg #[.string ⟨#[]⟩, .string ⟨#[]⟩], .int .u16 0] 8 rfl (World.shaped_of_RefB (by kernel_rfl) (by kernel_rfl)) (by kernel_rfl) (by kernel_rfl) (by kernel_rfl) (door_metZ os _)) ?_
  intro W base args ds gs before hval0 hW _ _ hL _
  have hval : ∀ (j : Nat) t v, Tryz.f10.params[j]? = some t → args[j]? = some v → Value.okWide Tryz.prog W .any base t v := hval0
  have hW' := hW
  obtain ⟨p, q, hA0, hV, rfl, hfz, hnd⟩ := hW
  have hA : DataW.TrodAll enc Tryz.prog W 0 (fun _ => true) true Tryz.f10.params.toList args.toList ds p := hA0
  rw [Tryz.params10] at hA hval
  obtain ⟨v0, v1, d0, d1, p0, p1, rfl, rfl, rfl, h0, h1⟩ := trodAll_two hA
  obtain ⟨rfl, rfl⟩ := trodVars_none hV
  obtain ⟨al, au, rfl, rfl, rfl, hal, hau⟩ := open_iv (hval 0 48 v0 rfl rfl) h0
  obtain ⟨b, rfl, rfl, rfl, hb⟩ := open_int Tryz.underlying65 (hval 1 65 v1 rfl rfl) h1
  have bb := int_bounds_h hb
  clear hA0 hval0
  simp only [List.append_nil] at hW'
  refine (vrou_any al au b bb.1 bb.2 W (la_of_laid hL)).mono fun e W' ⟨he, hB⟩ => ?_
  subst he
  refine ⟨_, rfl, intervalRounds_post (by kernel_rfl) (by kernel_rfl) ?_ ?_ hal hau hb ?_ hW' hB⟩
  · exact rfl
  · exact rfl
  · exact fun _ => rfl

theorem intervalRounds_said : Rows.IntervalRoundsSaid :=
  OpenClaim.holds_of_wide 10 Tryz.f10 rfl rfl rfl rfl rfl rfl rfl ⟨rfl, rfl, rfl, rfl, rfl⟩ rfl rfl rfl rfl rfl (by kernel_rfl) Tryz.func10 (by kernel_rfl)
    (of_decide_eq_true (by kernel_rfl)) (by unfold Func.isWrapper; first | (rw [if_pos (by decide +kernel)]; kernel_rfl) | (rw [if_neg (by decide +kernel)]; exact ⟨rfl, rfl⟩))
    (fun os started H enc _ => intervalRounds_lifted os started H enc)

theorem intervalRounds_plain (f : FuncId) (fn : Func) (hf : Tryz.pinned.checked.prog.funcNamed "garboard/garboardlaw04.IntervalRounds" = some f) (hfn : Tryz.pinned.checked.prog.funcs[f]? = some fn) :
    true = Tryz.pinned.checked.prog.looks [] ∧ ∀ (j : Nat) t, fn.params[j]? = some t → Tryz.pinned.checked.prog.wantsStandIn t = false := by
  obtain rfl : f = 10 := Option.some.inj ((show Tryz.prog.funcNamed "garboard/garboardlaw04.IntervalRounds" = some 10 by kernel_rfl).symm.trans hf) |>.symm
  obtain rfl : fn = Tryz.f10 := (Option.some.inj (Tryz.func10.symm.trans hfn)).symm
  refine ⟨by kernel_rfl, fun j t ht => ?_⟩
  rw [Tryz.params10] at ht
  have hm := Array.mem_of_getElem? ht
  have ho : t = 48 ∨ t = 65 := by simp at hm; omega
  rcases ho with rfl | rfl
  · exact (show Tryz.prog.wantsStandIn 48 = false by kernel_rfl)
  · exact (show Tryz.prog.wantsStandIn 65 = false by kernel_rfl)

theorem intervalRounds_card : Rows.IntervalRoundsCardSaid :=
  Claim7.holds_tied_plain_at .later [] _ _ _ _ intervalRounds_said (fun _ h => by cases h) (by kernel_rfl) (fun _ h => by cases h) intervalRounds_row_tie rfl ⟨rfl, rfl⟩ (by kernel_rfl) rfl intervalRounds_plain (by kernel_rfl)

end Go.Proofs.YtlagimghlngdgaaGreatDoor
