/- garboardlaw02.IntegerComputes returns true, for any two strings: walks. -/
import Derived.Test.YtgbcjlknlagoeaaGreatDoorIlon
import Derived.Test.YtgbcjlknlagoeaaGreatDoorIg
import Derived.Test.YtgbcjlknlagoeaaGreatDoorMzd
namespace Go.Proofs.YtgbcjlknlagoeaaGreatDoor
open Go.RowKit Go.Gb

set_option maxHeartbeats 8000000 in
set_option maxRecDepth 100000 in
theorem icomp_long (a b : ByteArray) (hab : 120 < a.size ∨ 120 < b.size) (w : World) (hl : La w) :
    Calls Tryz.prog 7 #[.string a, .string b] w fun e w' => e = .returned (.bool true) ∧ Below w.heap.size w w' := by
  have HT := Lib.hid hl
  clear hl
  have HL := Lib.hid hab
  clear hab
  go_enter Tryz.func7, Tryz.ntmps7
  go_wp2_with fail
  refine (iawake _ HT.out).mono ?_
  rintro e w1 ⟨rfl, hb1⟩
  have HB1 := Lib.hid (hb1.alloc hb1.size (.cells #[.string a, .string b] 9))
  have hc := strs_cells2 w1 a b
  have HLo := Lib.hid (long2_yes w1.heap.size a b _ HL.out hc)
  clear hb1 hc
  go_wp2_with fail
  refine HLo.out.mono ?_
  rintro e w' ⟨rfl, rfl⟩
  go_wp2_with fail
  refine (iawake _ (HT.out.on HB1.out)).mono ?_
  rintro e w2 ⟨rfl, hb⟩
  have HB2 := Lib.hid (HB1.out.trans (hb.mono HB1.out.size))
  clear hb
  go_wp2
  go_ret
  exact ⟨rfl, HB2.out⟩

set_option maxHeartbeats 8000000 in
set_option maxRecDepth 100000 in
theorem icomp_no (a b : ByteArray) (ha : a.size ≤ 120) (hb : b.size ≤ 120) (hv : (vldZ a.data.toList && vldZ b.data.toList) = false) (w : World) (hl : La w) :
    Calls Tryz.prog 7 #[.string a, .string b] w fun e w' => e = .returned (.bool true) ∧ Below w.heap.size w w' := by
  have HT := Lib.hid hl
  clear hl
  have SA := Lib.hid ha
  have SB := Lib.hid hb
  have HA := Lib.hid (show a.size ≤ 1000 by omega)
  have HB' := Lib.hid (show b.size ≤ 1000 by omega)
  have HV := Lib.hid hv
  clear ha hb hv
  go_enter Tryz.func7, Tryz.ntmps7
  go_wp2_with fail
  refine (iawake _ HT.out).mono ?_
  rintro e w1 ⟨rfl, hb1⟩
  have HB1 := Lib.hid (hb1.alloc hb1.size (.cells #[.string a, .string b] 9))
  have hc := strs_cells2 w1 a b
  have HLo := Lib.hid (long2_no w1.heap.size a b _ SA.out SB.out hc)
  clear hb1 hc
  go_wp2_with fail
  refine HLo.out.mono ?_
  rintro e w' ⟨rfl, rfl⟩
  go_wp2_with fail
  refine (zCompare_no a b HV.out HA.out HB'.out _ (HT.out.on HB1.out)).mono ?_
  rintro e w2 ⟨rfl, hb⟩
  have HB2 := Lib.hid (HB1.out.trans (hb.mono HB1.out.size))
  clear hb
  go_wp2_with fail
  refine (zrCompare_no a b HV.out HA.out HB'.out _).mono ?_
  rintro e w3 ⟨rfl, hb⟩
  have HB3 := Lib.hid (HB2.out.trans (hb.mono HB2.out.size))
  clear hb
  go_wp2_with fail
  refine (zAdd_no a b HV.out HA.out HB'.out _ (HT.out.on HB3.out)).mono ?_
  rintro e w4 ⟨rfl, hb⟩
  have HB4 := Lib.hid (HB3.out.trans (hb.mono HB3.out.size))
  clear hb
  go_wp2_with fail
  refine (zrAdd_no a b HV.out HA.out HB'.out _).mono ?_
  rintro e w5 ⟨rfl, hb⟩
  have HB5 := Lib.hid (HB4.out.trans (hb.mono HB4.out.size))
  clear hb
  go_wp2_with fail
  refine (zSub_no a b HV.out HA.out HB'.out _ (HT.out.on HB5.out)).mono ?_
  rintro e w6 ⟨rfl, hb⟩
  have HB6 := Lib.hid (HB5.out.trans (hb.mono HB5.out.size))
  clear hb
  go_wp2_with fail
  refine (zrSub_no a b HV.out HA.out HB'.out _).mono ?_
  rintro e w7 ⟨rfl, hb⟩
  have HB7 := Lib.hid (HB6.out.trans (hb.mono HB6.out.size))
  clear hb
  go_wp2_with fail
  refine (zMul_no a b HV.out HA.out HB'.out _ (HT.out.on HB7.out)).mono ?_
  rintro e w8 ⟨rfl, hb⟩
  have HB8 := Lib.hid (HB7.out.trans (hb.mono HB7.out.size))
  clear hb
  go_wp2_with fail
  refine (zrMul_no a b HV.out HA.out HB'.out _).mono ?_
  rintro e w9 ⟨rfl, hb⟩
  have HB9 := Lib.hid (HB8.out.trans (hb.mono HB8.out.size))
  clear hb
  go_wp2
  go_ret
  exact ⟨rfl, HB9.out⟩

set_option maxHeartbeats 8000000 in
set_option maxRecDepth 100000 in
theorem icomp_yes (x y : Int) (sa : (Sz x).size ≤ 120) (sb : (Sz y).size ≤ 120) (w : World) (hl : La w) :
    Calls Tryz.prog 7 #[.string (Sz x), .string (Sz y)] w fun e w' => e = .returned (.bool true) ∧ Below w.heap.size w w' := by
  have HT := Lib.hid hl
  clear hl
  have SA := Lib.hid sa
  have SB := Lib.hid sb
  have kx := smz_of sa
  have ky := smz_of sb
  have fx : FitZ x := kx.fit (by decide)
  have fy : FitZ y := ky.fit (by decide)
  have hx : (Sz x).size ≤ 1000 := by omega
  have hy : (Sz y).size ≤ 1000 := by omega
  clear sa sb
  obtain ⟨c, hc⟩ : ∃ c, cmpZ x y = c := ⟨_, rfl⟩
  have C1 := Lib.hid (fun (W : World) (T : La W) => zCompare x y c hc fx fy W T)
  have C2 := Lib.hid (fun (W : World) => zrCompare x y c hc fx fy hx hy W)
  have C3 := Lib.hid (fun (W : World) (T : La W) => zAdd x y _ rfl fx fy ((kx.add ky).fit (by decide)) W T)
  have C4 := Lib.hid (fun (W : World) => zrAdd x y _ rfl fx fy ((kx.add ky).fit (by decide)) hx hy W)
  have C5 := Lib.hid (fun (W : World) (T : La W) => zSub x y _ rfl fx fy ((kx.sub ky).fit (by decide)) W T)
  have C6 := Lib.hid (fun (W : World) => zrSub x y _ rfl fx fy ((kx.sub ky).fit (by decide)) hx hy W)
  have C7 := Lib.hid (fun (W : World) (T : La W) => zMul x y _ rfl fx fy ((kx.mul ky).fit (by decide)) W T)
  have C8 := Lib.hid (fun (W : World) => zrMul x y _ rfl fx fy ((kx.mul ky).fit (by decide)) hx hy W)
  clear hc fx fy hx hy kx ky
  generalize Sz (x + y) = s3 at *
  generalize Sz (x - y) = s5 at *
  generalize Sz (x * y) = s7 at *
  generalize Sz x = a at *
  generalize Sz y = b at *
  go_enter Tryz.func7, Tryz.ntmps7
  go_wp2_with fail
  refine (iawake _ HT.out).mono ?_
  rintro e w1 ⟨rfl, hb1⟩
  have HB1 := Lib.hid (hb1.alloc hb1.size (.cells #[.string a, .string b] 9))
  have hc := strs_cells2 w1 a b
  have HLo := Lib.hid (long2_no w1.heap.size a b _ SA.out SB.out hc)
  clear hb1 hc
  go_wp2_with fail
  refine HLo.out.mono ?_
  rintro e w' ⟨rfl, rfl⟩
  go_wp2_with fail
  refine (C1.out _ (HT.out.on HB1.out)).mono ?_
  rintro e w2 ⟨rfl, hb⟩
  have HB2 := Lib.hid (HB1.out.trans (hb.mono HB1.out.size))
  clear hb
  go_wp2_with fail
  refine (C2.out _).mono ?_
  rintro e w3 ⟨rfl, hb⟩
  have HB3 := Lib.hid (HB2.out.trans (hb.mono HB2.out.size))
  clear hb
  go_wp2_with fail
  refine (C3.out _ (HT.out.on HB3.out)).mono ?_
  rintro e w4 ⟨rfl, hb⟩
  have HB4 := Lib.hid (HB3.out.trans (hb.mono HB3.out.size))
  clear hb
  go_wp2_with fail
  refine (C4.out _).mono ?_
  rintro e w5 ⟨rfl, hb⟩
  have HB5 := Lib.hid (HB4.out.trans (hb.mono HB4.out.size))
  clear hb
  go_wp2_with fail
  refine (C5.out _ (HT.out.on HB5.out)).mono ?_
  rintro e w6 ⟨rfl, hb⟩
  have HB6 := Lib.hid (HB5.out.trans (hb.mono HB5.out.size))
  clear hb
  go_wp2_with fail
  refine (C6.out _).mono ?_
  rintro e w7 ⟨rfl, hb⟩
  have HB7 := Lib.hid (HB6.out.trans (hb.mono HB6.out.size))
  clear hb
  go_wp2_with fail
  refine (C7.out _ (HT.out.on HB7.out)).mono ?_
  rintro e w8 ⟨rfl, hb⟩
  have HB8 := Lib.hid (HB7.out.trans (hb.mono HB7.out.size))
  clear hb
  go_wp2_with fail
  refine (C8.out _).mono ?_
  rintro e w9 ⟨rfl, hb⟩
  have HB9 := Lib.hid (HB8.out.trans (hb.mono HB8.out.size))
  clear hb
  go_wp2
  go_ret
  exact ⟨rfl, HB9.out⟩

theorem icomp_any (a b : ByteArray) (w : World) (hl : La w) :
    Calls Tryz.prog 7 #[.string a, .string b] w fun e w' => e = .returned (.bool true) ∧ Below w.heap.size w w' := by
  by_cases hab : 120 < a.size ∨ 120 < b.size
  · exact icomp_long a b hab w hl
  · have ha : a.size ≤ 120 := by omega
    have hb : b.size ≤ 120 := by omega
    cases hv : (vldZ a.data.toList && vldZ b.data.toList) with
    | false => exact icomp_no a b ha hb hv w hl
    | true =>
      have hv' := hv
      rw [Bool.and_eq_true] at hv'
      have ea := sz_of hv'.1
      have eb := sz_of hv'.2
      generalize zval a.data.toList = x at ea
      generalize zval b.data.toList = y at eb
      subst ea
      subst eb
      exact icomp_yes x y ha hb w hl

end Go.Proofs.YtgbcjlknlagoeaaGreatDoor
