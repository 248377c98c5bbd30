/- garboardlaw01.NaturalComputes returns true, for any two strings: walks. -/
import Derived.Test.YtgbcjlknlagoeaaGreatDoorLnu
import Derived.Test.YtgbcjlknlagoeaaGreatDoorRk
namespace Go.Proofs.YtgbcjlknlagoeaaGreatDoor
open Go.RowKit Go.Gb

set_option maxHeartbeats 4000000 in
set_option maxRecDepth 100000 in
theorem computes_long (a b : ByteArray) (hab : 120 < a.size ∨ 120 < b.size) (w : World) (htab : Tb w) :
    Calls Tryz.prog 3 #[.string a, .string b] w fun e w' => e = .returned (.bool true) ∧ Below w.heap.size w w' := by
  have HT := Lib.hid htab
  clear htab
  have HL := Lib.hid hab
  clear hab
  go_enter Tryz.func3, Tryz.ntmps3
  go_wp2_with fail
  refine (awake_any _ HT.out).mono ?_
  rintro e w1 ⟨rfl, hb1⟩
  have HB1 := Lib.hid (hb1.alloc hb1.size (.cells #[.string a, .string b] 9))
  have hc := strs_cells2 w1 a b
  have HLo := Lib.hid (nlong2_yes w1.heap.size a b _ HL.out hc)
  clear hb1 hc
  go_wp2_with fail
  refine HLo.out.mono ?_
  rintro e w' ⟨rfl, rfl⟩
  go_wp2_with fail
  refine (awake_any _ (HT.out.on HB1.out)).mono ?_
  rintro e w2 ⟨rfl, hb⟩
  have HB2 := Lib.hid (HB1.out.trans (hb.mono HB1.out.size))
  clear hb
  go_wp2
  go_ret
  exact ⟨rfl, HB2.out⟩

set_option maxHeartbeats 4000000 in
set_option maxRecDepth 100000 in
theorem computes_no (a b : ByteArray) (ha : a.size ≤ 120) (hb : b.size ≤ 120) (hv : (vld a.data.toList && vld b.data.toList) = false) (w : World) (htab : Tb w) :
    Calls Tryz.prog 3 #[.string a, .string b] w fun e w' => e = .returned (.bool true) ∧ Below w.heap.size w w' := by
  have HT := Lib.hid htab
  clear htab
  have Hla := Lib.hid ha
  have Hlb := Lib.hid hb
  have Hma := Lib.hid (show a.size ≤ maxLen by unfold maxLen; omega)
  have Hmb := Lib.hid (show b.size ≤ maxLen by unfold maxLen; omega)
  have HV := Lib.hid hv
  clear ha hb hv
  have C0 := Lib.hid (fun (W : World) => Add_no a b HV.out Hma.out Hmb.out W)
  unfold St at C0
  have C1 := Lib.hid (fun (W : World) => RAdd_no a b HV.out Hma.out Hmb.out W)
  unfold St at C1
  have C2 := Lib.hid (fun (W : World) => Sub_no a b HV.out Hma.out Hmb.out W)
  unfold St at C2
  have C3 := Lib.hid (fun (W : World) => RSub_no a b HV.out Hma.out Hmb.out W)
  unfold St at C3
  have C4 := Lib.hid (fun (W : World) => Mul_no a b HV.out Hma.out Hmb.out W)
  unfold St at C4
  have C5 := Lib.hid (fun (W : World) => RMul_no a b HV.out Hma.out Hmb.out W)
  unfold St at C5
  go_enter Tryz.func3, Tryz.ntmps3
  go_wp2_with fail
  refine (awake_any _ HT.out).mono ?_
  rintro e w1 ⟨rfl, hb1⟩
  have HB1 := Lib.hid (hb1.alloc hb1.size (.cells #[.string a, .string b] 9))
  have hc := strs_cells2 w1 a b
  have HLo := Lib.hid (nlong2_no w1.heap.size a b _ Hla.out Hlb.out hc)
  clear hb1 hc
  go_wp2_with fail
  refine HLo.out.mono ?_
  rintro e w' ⟨rfl, rfl⟩
  go_wp2_with fail
  refine (C0.out _).mono ?_
  rintro e w' ⟨rfl, rfl⟩
  go_wp2_with fail
  refine (C1.out _).mono ?_
  rintro e w' ⟨rfl, rfl⟩
  go_wp2_with fail
  refine (C2.out _).mono ?_
  rintro e w' ⟨rfl, rfl⟩
  go_wp2_with fail
  refine (C3.out _).mono ?_
  rintro e w' ⟨rfl, rfl⟩
  go_wp2_with fail
  refine (C4.out _).mono ?_
  rintro e w' ⟨rfl, rfl⟩
  go_wp2_with fail
  refine (C5.out _).mono ?_
  rintro e w' ⟨rfl, rfl⟩
  go_wp2
  go_ret
  exact ⟨rfl, HB1.out⟩

set_option maxHeartbeats 4000000 in
set_option maxRecDepth 100000 in
theorem computes_le (x y : Nat) (hx : Sm 120 x) (hy : Sm 120 y) (sx : (Sn x).size ≤ 120) (sy : (Sn y).size ≤ 120) (hxy : y ≤ x) (w : World) (htab : Tb w) :
    Calls Tryz.prog 3 #[.string (Sn x), .string (Sn y)] w fun e w' => e = .returned (.bool true) ∧ Below w.heap.size w w' := by
  have HT := Lib.hid htab
  clear htab
  have Fx := Lib.hid (hx.fit (by decide))
  have Fy := Lib.hid (hy.fit (by decide))
  have Sx := Lib.hid sx
  have Sy := Lib.hid sy
  obtain ⟨s, hs⟩ : ∃ s, s = x + y := ⟨_, rfl⟩
  obtain ⟨p, hp⟩ : ∃ p, p = x * y := ⟨_, rfl⟩
  have ES := Lib.hid hs.symm
  have EP := Lib.hid hp.symm
  have HXY := Lib.hid hxy
  have C1 := Lib.hid (fun (W : World) (T : Tb W) => nAddV x y s ES.out Fx.out Fy.out W T)
  have c2 := fun (W : World) => rAdd x y Fx.out Fy.out W
  simp only [ES.out] at c2
  have C2 := Lib.hid c2
  obtain ⟨t, ht⟩ : ∃ t, y + t = x := ⟨x - y, by omega⟩
  have ET := Lib.hid ht
  have ET2 := Lib.hid (show x - y = t by omega)
  have C3 := Lib.hid (fun (W : World) (T : Tb W) => nSubV x y t ET.out Fx.out W T)
  have c4 := fun (W : World) => rSub x y HXY.out Fx.out Fy.out W
  simp only [ET2.out] at c4
  have C4 := Lib.hid c4
  have C5 := Lib.hid (fun (W : World) (T : Tb W) => nMulV x y p EP.out Fx.out Fy.out W T)
  have c6 := fun (W : World) => rMul x y Fx.out Fy.out W
  simp only [EP.out] at c6
  have C6 := Lib.hid c6
  clear hx hy sx sy hs hp hxy c2 c6 ht c4
  go_enter Tryz.func3, Tryz.ntmps3
  go_wp2_with fail
  refine (awake_any _ HT.out).mono ?_
  rintro e w1 ⟨rfl, hb1⟩
  have HB1 := Lib.hid (hb1.alloc hb1.size (.cells #[.string (Sn x), .string (Sn y)] 9))
  have hc := strs_cells2 w1 (Sn x) (Sn y)
  have HLo := Lib.hid (nlong2_no w1.heap.size (Sn x) (Sn y) _ Sx.out Sy.out hc)
  clear hb1 hc
  go_wp2_with fail
  refine HLo.out.mono ?_
  rintro e w' ⟨rfl, rfl⟩
  go_wp2_with fail
  refine (C1.out _ (HT.out.on HB1.out)).mono ?_
  rintro e w2 ⟨rfl, hb⟩
  have HB2 := Lib.hid (HB1.out.trans (hb.mono HB1.out.size))
  clear hb
  go_wp2_with fail
  refine (C2.out _).mono ?_
  rintro e w3 ⟨rfl, hb⟩
  have HB3 := Lib.hid (HB2.out.trans (hb.mono HB2.out.size))
  clear hb
  go_wp2_with fail
  refine (C3.out _ (HT.out.on HB3.out)).mono ?_
  rintro e w4 ⟨rfl, hb⟩
  have HB4 := Lib.hid (HB3.out.trans (hb.mono HB3.out.size))
  clear hb
  go_wp2_with fail
  refine (C4.out _).mono ?_
  rintro e w5 ⟨rfl, hb⟩
  have HB5 := Lib.hid (HB4.out.trans (hb.mono HB4.out.size))
  clear hb
  go_wp2_with fail
  refine (C5.out _ (HT.out.on HB5.out)).mono ?_
  rintro e w6 ⟨rfl, hb⟩
  have HB6 := Lib.hid (HB5.out.trans (hb.mono HB5.out.size))
  clear hb
  go_wp2_with fail
  refine (C6.out _).mono ?_
  rintro e w7 ⟨rfl, hb⟩
  have HB7 := Lib.hid (HB6.out.trans (hb.mono HB6.out.size))
  clear hb
  go_wp2
  go_ret
  exact ⟨rfl, HB7.out⟩

set_option maxHeartbeats 4000000 in
set_option maxRecDepth 100000 in
theorem computes_lt (x y : Nat) (hx : Sm 120 x) (hy : Sm 120 y) (sx : (Sn x).size ≤ 120) (sy : (Sn y).size ≤ 120) (hxy : x < y) (w : World) (htab : Tb w) :
    Calls Tryz.prog 3 #[.string (Sn x), .string (Sn y)] w fun e w' => e = .returned (.bool true) ∧ Below w.heap.size w w' := by
  have HT := Lib.hid htab
  clear htab
  have Fx := Lib.hid (hx.fit (by decide))
  have Fy := Lib.hid (hy.fit (by decide))
  have Sx := Lib.hid sx
  have Sy := Lib.hid sy
  obtain ⟨s, hs⟩ : ∃ s, s = x + y := ⟨_, rfl⟩
  obtain ⟨p, hp⟩ : ∃ p, p = x * y := ⟨_, rfl⟩
  have ES := Lib.hid hs.symm
  have EP := Lib.hid hp.symm
  have HXY := Lib.hid hxy
  have C1 := Lib.hid (fun (W : World) (T : Tb W) => nAddV x y s ES.out Fx.out Fy.out W T)
  have c2 := fun (W : World) => rAdd x y Fx.out Fy.out W
  simp only [ES.out] at c2
  have C2 := Lib.hid c2
  have C3 := Lib.hid (fun (W : World) => nSubLess x y Fy.out HXY.out W)
  have C4 := Lib.hid (fun (W : World) => rSubLess x y HXY.out Fx.out Fy.out W)
  unfold St at C3 C4
  have C5 := Lib.hid (fun (W : World) (T : Tb W) => nMulV x y p EP.out Fx.out Fy.out W T)
  have c6 := fun (W : World) => rMul x y Fx.out Fy.out W
  simp only [EP.out] at c6
  have C6 := Lib.hid c6
  clear hx hy sx sy hs hp hxy c2 c6 
  go_enter Tryz.func3, Tryz.ntmps3
  go_wp2_with fail
  refine (awake_any _ HT.out).mono ?_
  rintro e w1 ⟨rfl, hb1⟩
  have HB1 := Lib.hid (hb1.alloc hb1.size (.cells #[.string (Sn x), .string (Sn y)] 9))
  have hc := strs_cells2 w1 (Sn x) (Sn y)
  have HLo := Lib.hid (nlong2_no w1.heap.size (Sn x) (Sn y) _ Sx.out Sy.out hc)
  clear hb1 hc
  go_wp2_with fail
  refine HLo.out.mono ?_
  rintro e w' ⟨rfl, rfl⟩
  go_wp2_with fail
  refine (C1.out _ (HT.out.on HB1.out)).mono ?_
  rintro e w2 ⟨rfl, hb⟩
  have HB2 := Lib.hid (HB1.out.trans (hb.mono HB1.out.size))
  clear hb
  go_wp2_with fail
  refine (C2.out _).mono ?_
  rintro e w3 ⟨rfl, hb⟩
  have HB3 := Lib.hid (HB2.out.trans (hb.mono HB2.out.size))
  clear hb
  go_wp2_with fail
  refine (C3.out _).mono ?_
  rintro e w' ⟨rfl, rfl⟩
  go_wp2_with fail
  refine (C4.out _).mono ?_
  rintro e w4 ⟨rfl, hb⟩
  have HB4 := Lib.hid (HB3.out.trans (hb.mono HB3.out.size))
  clear hb
  go_wp2_with fail
  refine (C5.out _ (HT.out.on HB4.out)).mono ?_
  rintro e w5 ⟨rfl, hb⟩
  have HB5 := Lib.hid (HB4.out.trans (hb.mono HB4.out.size))
  clear hb
  go_wp2_with fail
  refine (C6.out _).mono ?_
  rintro e w6 ⟨rfl, hb⟩
  have HB6 := Lib.hid (HB5.out.trans (hb.mono HB5.out.size))
  clear hb
  go_wp2
  go_ret
  exact ⟨rfl, HB6.out⟩

theorem computes_any (a b : ByteArray) (w : World) (htab : Tb w) :
    Calls Tryz.prog 3 #[.string a, .string b] w fun e w' => e = .returned (.bool true) ∧ Below w.heap.size w w' := by
  by_cases hl : 120 < a.size ∨ 120 < b.size
  · exact computes_long a b hl w htab
  · have ha : a.size ≤ 120 := by omega
    have hb : b.size ≤ 120 := by omega
    by_cases hv : (vld a.data.toList && vld b.data.toList) = true
    · obtain ⟨va, vb⟩ : vld a.data.toList = true ∧ vld b.data.toList = true := by simpa using hv
      have fa := Sm.of va ha
      have fb := Sm.of vb hb
      have ea := sn_of va
      have eb := sn_of vb
      generalize dval a.data.toList = x at *
      generalize dval b.data.toList = y at *
      subst ea eb
      rcases Nat.lt_or_ge x y with h | h
      · exact computes_lt x y fa fb ha hb h w htab
      · exact computes_le x y fa fb ha hb h w htab
    · exact computes_no a b ha hb (by simpa using hv) w htab

end Go.Proofs.YtgbcjlknlagoeaaGreatDoor
