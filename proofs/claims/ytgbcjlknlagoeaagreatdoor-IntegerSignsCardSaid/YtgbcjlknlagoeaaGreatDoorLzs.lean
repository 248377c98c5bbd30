/- garboardlaw02.IntegerSigns returns true, for any string and int: walks. -/
import Derived.Test.YtgbcjlknlagoeaaGreatDoorIlon
import Derived.Test.YtgbcjlknlagoeaaGreatDoorIg
import Derived.Test.YtgbcjlknlagoeaaGreatDoorMzz
import Derived.OpenShut
namespace Go.Proofs.YtgbcjlknlagoeaaGreatDoor
open Go.RowKit Go.Gb

theorem zItoa (n : Int) (h0 : -9223372036854775808 ≤ n) (h1 : n ≤ 9223372036854775807) (w : World) (hl : La w) :
    Calls Tryz.prog 36 #[.int .i64 n] w fun e w' => e = .returned (.string ⟨(Lib.itoa n).toArray⟩) ∧ Below w.heap.size w w' := by
  refine (Tryz.strconv_Itoa n h0 h1 w hl.tb).mono ?_
  rintro e w1 ⟨rfl, k, os, rfl⟩
  exact ⟨rfl, Lib.below_grow w.heap.size w (Nat.le_refl _) k os⟩
theorem field_z (b : Bool) (p : Option Addr) (n c : Nat) : ∀ W : World, (Instr.field 71 (.agg #[.bool b, .slice p n c]) 1).run Tryz.prog W = .ok (.slice p n c) W := fun _ => by kernel_rfl
set_option maxRecDepth 100000 in
set_option maxHeartbeats 1000000 in
theorem zrAbs (z : Int) (hf : FitZ z) (h : (Sz z).size ≤ 1000) (w : World) :
    Calls Tryz.prog 30 #[.string (Sz z)] w fun e w' => e = .returned (.tuple #[.string (Sn z.natAbs), .int .i64 0]) ∧ Below w.heap.size w w' := by
  have HF := Lib.hid hf
  have HE := Lib.hid (show Sz (z.natAbs : Int) = Sn z.natAbs from sz_nat _)
  clear hf
  go_enter Tryz.func30, Tryz.ntmps30
  go_wp2_with fail
  refine (zrValid z h _).mono ?_
  rintro e w' ⟨rfl, rfl⟩
  go_wp2_with fail
  refine (zRead z HF.out _).mono ?_
  rintro e w1 ⟨u, rfl, hu, hb1⟩
  obtain ⟨p, c, rfl, hr⟩ := rz_form hu
  have HB1 := Lib.hid hb1
  have HM := Lib.hid (zMake false (.slice p (digs z.natAbs).length c) z.natAbs (z.natAbs : Int) rfl (by have := fitz_len HF.out; omega) w1 hr)
  clear hu hb1 hr
  generalize (digs z.natAbs).length = lz at *
  generalize decide (z < 0) = bz at *
  have hfd := field_z bz p lz c
  go_wp2_with fail
  refine HM.out.mono ?_
  rintro e w2 ⟨u2, rfl, hu2, hb⟩
  have HB2 := Lib.hid (HB1.out.trans (hb.mono HB1.out.size))
  have HT := Lib.hid (zTo u2 (z.natAbs : Int) (by rw [Int.natAbs_natCast]; have := fitz_len HF.out; omega) (by rw [Int.natAbs_natCast]; have := fitz_size HF.out; omega) w2 hu2)
  clear hb hu2
  go_wp2_with fail
  refine HT.out.mono ?_
  rintro e w3 ⟨rfl, hb⟩
  have HB3 := Lib.hid (HB2.out.trans (hb.mono HB2.out.size))
  clear hb
  go_wp2
  go_ret2
  exact ⟨by rw [HE.out]; rfl, HB3.out⟩

set_option maxHeartbeats 4000000 in
set_option maxRecDepth 100000 in
theorem isigns_long (a : ByteArray) (n : Int) (hab : 120 < a.size) (w : World) (hl : La w) :
    Calls Tryz.prog 6 #[.string a, .int .i64 n] w fun e w' => e = .returned (.bool true) ∧ Below w.heap.size w w' := by
  have HT := Lib.hid hl
  clear hl
  have HL := Lib.hid hab
  clear hab
  go_enter Tryz.func6, Tryz.ntmps6
  go_wp2_with fail
  refine (iawake _ HT.out).mono ?_
  rintro e w1 ⟨rfl, hb1⟩
  have HB1 := Lib.hid (hb1.alloc hb1.size (.cells #[.string a] 9))
  have hc := strs_cells1 w1 a
  have HLo := Lib.hid (long1_yes w1.heap.size a _ HL.out hc)
  clear hb1 hc
  go_wp2_with fail
  refine HLo.out.mono ?_
  rintro e w' ⟨rfl, rfl⟩
  go_wp2_with fail
  refine (iawake _ (HT.out.on HB1.out)).mono ?_
  rintro e w2 ⟨rfl, hb⟩
  have HB2 := Lib.hid (HB1.out.trans (hb.mono HB1.out.size))
  clear hb
  go_wp2
  go_ret
  exact ⟨rfl, HB2.out⟩

set_option maxHeartbeats 4000000 in
set_option maxRecDepth 100000 in
theorem isigns_no (a : ByteArray) (n : Int) (ha : a.size ≤ 120) (hv : vldZ a.data.toList = false) (n0 : -9223372036854775808 ≤ n) (n1 : n ≤ 9223372036854775807) (w : World) (hl : La w) :
    Calls Tryz.prog 6 #[.string a, .int .i64 n] w fun e w' => e = .returned (.bool true) ∧ Below w.heap.size w w' := by
  have HT := Lib.hid hl
  clear hl
  have SA := Lib.hid ha
  have Hm := Lib.hid (show a.size ≤ maxLen by unfold maxLen; omega)
  have H1 := Lib.hid (show a.size ≤ 1000 by omega)
  have HV := Lib.hid hv
  clear ha hv
  have HI1 := Lib.hid (fun (W : World) (T : La W) => From_any n n0 n1 W T)
  have HI2 := Lib.hid (fun (W : World) (T : La W) => zItoa n n0 n1 W T)
  obtain ⟨sn, hsn⟩ : ∃ s : ByteArray, s = ⟨(Lib.itoa n).toArray⟩ := ⟨_, rfl⟩
  rw [← hsn] at HI1 HI2
  clear hsn n0 n1
  go_enter Tryz.func6, Tryz.ntmps6
  go_wp2_with fail
  refine (iawake _ HT.out).mono ?_
  rintro e w1 ⟨rfl, hb1⟩
  have HB1 := Lib.hid (hb1.alloc hb1.size (.cells #[.string a] 9))
  have hc := strs_cells1 w1 a
  have HLo := Lib.hid (long1_no w1.heap.size a _ SA.out hc)
  clear hb1 hc
  go_wp2_with fail
  refine HLo.out.mono ?_
  rintro e w' ⟨rfl, rfl⟩
  go_wp2_with fail
  refine (zSign_no a HV.out Hm.out _).mono ?_
  rintro e w2 ⟨rfl, hb⟩
  have HB2 := Lib.hid (HB1.out.trans (hb.mono HB1.out.size))
  clear hb
  go_wp2_with fail
  refine (zrSign_no a HV.out H1.out _).mono ?_
  rintro e w' ⟨rfl, rfl⟩
  go_wp2_with fail
  refine (zAbs_no a HV.out Hm.out _).mono ?_
  rintro e w3 ⟨rfl, hb⟩
  have HB3 := Lib.hid (HB2.out.trans (hb.mono HB2.out.size))
  clear hb
  go_wp2_with fail
  refine (zrAbs_no a HV.out H1.out _).mono ?_
  rintro e w' ⟨rfl, rfl⟩
  go_wp2_with fail
  refine (zNeg_no a HV.out Hm.out _).mono ?_
  rintro e w4 ⟨rfl, hb⟩
  have HB4 := Lib.hid (HB3.out.trans (hb.mono HB3.out.size))
  clear hb
  go_wp2_with fail
  refine (zrNeg_no a HV.out H1.out _).mono ?_
  rintro e w' ⟨rfl, rfl⟩
  go_wp2_with fail
  refine (zValid_no a HV.out Hm.out _).mono ?_
  rintro e w5 ⟨rfl, hb⟩
  have HB5 := Lib.hid (HB4.out.trans (hb.mono HB4.out.size))
  clear hb
  go_wp2_with fail
  refine (zrValid_no a HV.out H1.out _).mono ?_
  rintro e w' ⟨rfl, rfl⟩
  go_wp2_with fail
  refine (HI1.out _ (HT.out.on HB5.out)).mono ?_
  rintro e w6 ⟨rfl, hb⟩
  have HB6 := Lib.hid (HB5.out.trans (hb.mono HB5.out.size))
  clear hb
  go_wp2_with fail
  refine (HI2.out _ (HT.out.on HB6.out)).mono ?_
  rintro e w7 ⟨rfl, hb⟩
  have HB7 := Lib.hid (HB6.out.trans (hb.mono HB6.out.size))
  clear hb
  go_wp2
  go_ret
  exact ⟨rfl, HB7.out⟩

set_option maxHeartbeats 4000000 in
set_option maxRecDepth 100000 in
theorem isigns_yes (z : Int) (n : Int) (fz : FitZ z) (sz : (Sz z).size ≤ 120) (n0 : -9223372036854775808 ≤ n) (n1 : n ≤ 9223372036854775807) (w : World) (hl : La w) :
    Calls Tryz.prog 6 #[.string (Sz z), .int .i64 n] w fun e w' => e = .returned (.bool true) ∧ Below w.heap.size w w' := by
  have HT := Lib.hid hl
  clear hl
  have SA := Lib.hid sz
  have H1 := Lib.hid (show (Sz z).size ≤ 1000 by omega)
  have FZ := Lib.hid fz
  clear sz fz
  have HI1 := Lib.hid (fun (W : World) (T : La W) => From_any n n0 n1 W T)
  have HI2 := Lib.hid (fun (W : World) (T : La W) => zItoa n n0 n1 W T)
  obtain ⟨sn, hsn⟩ : ∃ s : ByteArray, s = ⟨(Lib.itoa n).toArray⟩ := ⟨_, rfl⟩
  rw [← hsn] at HI1 HI2
  clear hsn n0 n1
  have C1 := Lib.hid (fun (W : World) (T : La W) => zSign z FZ.out W T)
  have C2 := Lib.hid (fun (W : World) => zrSign z FZ.out H1.out W)
  have C3 := Lib.hid (fun (W : World) (T : La W) => zAbs z FZ.out W T)
  have C4 := Lib.hid (fun (W : World) => zrAbs z FZ.out H1.out W)
  have C5 := Lib.hid (fun (W : World) (T : La W) => zNeg z FZ.out W T)
  have C6 := Lib.hid (fun (W : World) => zrNeg z FZ.out H1.out W)
  have C7 := Lib.hid (fun (W : World) (T : La W) => zValid_yes z FZ.out W T.zz)
  have C8 := Lib.hid (fun (W : World) => zrValid z H1.out W)
  obtain ⟨sg, hsg⟩ : ∃ s, s = z.sign := ⟨_, rfl⟩
  rw [← hsg] at C1 C2
  obtain ⟨sa, hsa⟩ : ∃ s, s = Sn z.natAbs := ⟨_, rfl⟩
  rw [← hsa] at C3 C4
  obtain ⟨so, hso⟩ : ∃ s, s = Sz (-z) := ⟨_, rfl⟩
  rw [← hso] at C5 C6
  obtain ⟨s, hs⟩ : ∃ s, s = Sz z := ⟨_, rfl⟩
  rw [← hs] at C1 C2 C3 C4 C5 C6 C7 C8 SA ⊢
  clear hsg hsa hso hs
  go_enter Tryz.func6, Tryz.ntmps6
  go_wp2_with fail
  refine (iawake _ HT.out).mono ?_
  rintro e w1 ⟨rfl, hb1⟩
  have HB1 := Lib.hid (hb1.alloc hb1.size (.cells #[.string s] 9))
  have hc := strs_cells1 w1 s
  have HLo := Lib.hid (long1_no w1.heap.size s _ SA.out hc)
  clear hb1 hc
  go_wp2_with fail
  refine HLo.out.mono ?_
  rintro e w' ⟨rfl, rfl⟩
  go_wp2_with fail
  refine (C1.out _ (HT.out.on HB1.out)).mono ?_
  rintro e w2 ⟨rfl, hb⟩
  have HB2 := Lib.hid (HB1.out.trans (hb.mono HB1.out.size))
  clear hb
  go_wp2_with fail
  refine (C2.out _).mono ?_
  rintro e w3 ⟨rfl, hb⟩
  have HB3 := Lib.hid (HB2.out.trans (hb.mono HB2.out.size))
  clear hb
  go_wp2_with fail
  refine (C3.out _ (HT.out.on HB3.out)).mono ?_
  rintro e w4 ⟨rfl, hb⟩
  have HB4 := Lib.hid (HB3.out.trans (hb.mono HB3.out.size))
  clear hb
  go_wp2_with fail
  refine (C4.out _).mono ?_
  rintro e w5 ⟨rfl, hb⟩
  have HB5 := Lib.hid (HB4.out.trans (hb.mono HB4.out.size))
  clear hb
  go_wp2_with fail
  refine (C5.out _ (HT.out.on HB5.out)).mono ?_
  rintro e w6 ⟨rfl, hb⟩
  have HB6 := Lib.hid (HB5.out.trans (hb.mono HB5.out.size))
  clear hb
  go_wp2_with fail
  refine (C6.out _).mono ?_
  rintro e w7 ⟨rfl, hb⟩
  have HB7 := Lib.hid (HB6.out.trans (hb.mono HB6.out.size))
  clear hb
  go_wp2_with fail
  refine (C7.out _ (HT.out.on HB7.out)).mono ?_
  rintro e w8 ⟨rfl, hb⟩
  have HB8 := Lib.hid (HB7.out.trans (hb.mono HB7.out.size))
  clear hb
  go_wp2_with fail
  refine (C8.out _).mono ?_
  rintro e w' ⟨rfl, rfl⟩
  go_wp2_with fail
  refine (HI1.out _ (HT.out.on HB8.out)).mono ?_
  rintro e w9 ⟨rfl, hb⟩
  have HB9 := Lib.hid (HB8.out.trans (hb.mono HB8.out.size))
  clear hb
  go_wp2_with fail
  refine (HI2.out _ (HT.out.on HB9.out)).mono ?_
  rintro e w10 ⟨rfl, hb⟩
  have HB10 := Lib.hid (HB9.out.trans (hb.mono HB9.out.size))
  clear hb
  go_wp2
  go_ret
  exact ⟨rfl, HB10.out⟩

theorem isigns_any (a : ByteArray) (n : Int) (hn : (Lit.int .i64 n).wf = true) (w : World) (hl : La w) :
    Calls Tryz.prog 6 #[.string a, .int .i64 n] w fun e w' => e = .returned (.bool true) ∧ Below w.heap.size w w' := by
  have hb := hn
  simp [Lit.wf, IntKind.min, IntKind.max, IntKind.signed, IntKind.bits] at hb
  have n0 : -9223372036854775808 ≤ n := by omega
  have n1 : n ≤ 9223372036854775807 := by omega
  by_cases hlo : 120 < a.size
  · exact isigns_long a n hlo w hl
  · have ha : a.size ≤ 120 := by omega
    cases hv : vldZ a.data.toList with
    | false => exact isigns_no a n ha hv n0 n1 w hl
    | true =>
      have e := sz_of hv
      generalize zval a.data.toList = z at *
      subst e
      exact isigns_yes z n ((smz_of ha).fit (by decide)) ha n0 n1 w hl

end Go.Proofs.YtgbcjlknlagoeaaGreatDoor
