/- garboardlaw01.NaturalUndoes returns true: walks. -/
import Derived.Test.YtpdchplppkfdhaaDoorLnr
namespace Go.Proofs.YtpdchplppkfdhaaDoor
open Go.RowKit Go.Gb

theorem nCompareV (x y : Nat) (c : Int) (hc : cmpN x y = c) (hx : Fit x) (hy : Fit y) (w : World) :
    Calls Tryd.prog 10 #[.string (Sn x), .string (Sn y)] w fun e w' => e = .returned (.tuple #[.int .i64 c, .int .i64 0]) ∧ w = w' := by
  subst hc; exact nCompare x y hx hy w
theorem nAddV (x y s : Nat) (hs : x + y = s) (hx : Fit x) (hy : Fit y) (w : World) (htab : Tb w) :
    Calls Tryd.prog 15 #[.string (Sn x), .string (Sn y)] w fun e w' => e = .returned (.tuple #[.string (Sn s), .int .i64 0]) ∧ Below w.heap.size w w' := by
  subst hs; exact nAdd x y hx hy w htab
theorem nSubV (x y s : Nat) (hs : y + s = x) (hx : Fit x) (w : World) (htab : Tb w) :
    Calls Tryd.prog 18 #[.string (Sn x), .string (Sn y)] w fun e w' => e = .returned (.tuple #[.string (Sn s), .int .i64 0]) ∧ Below w.heap.size w w' := by
  have h := nSub x y hx (by omega) w htab
  rwa [show x - y = s by omega] at h
theorem nMulV (x y s : Nat) (hs : x * y = s) (hx : Fit x) (hy : Fit y) (w : World) (htab : Tb w) :
    Calls Tryd.prog 17 #[.string (Sn x), .string (Sn y)] w fun e w' => e = .returned (.tuple #[.string (Sn s), .int .i64 0]) ∧ Below w.heap.size w w' := by
  subst hs; exact nMul x y hx hy w htab
theorem nDivV (x y q r : Nat) (hq : x / y = q) (hr : x % y = r) (hx : Fit x) (hy : Fit y) (h0 : y ≠ 0) (w : World) (htab : Tb w) :
    Calls Tryd.prog 19 #[.string (Sn x), .string (Sn y)] w fun e w' => e = .returned (.tuple #[.string (Sn q), .string (Sn r), .int .i64 0]) ∧ Below w.heap.size w w' := by
  subst hq hr; exact nDivMod x y hx hy h0 w htab
theorem sn_list2 (n : Nat) : (Sn n).toList = Lib.decDigits n := by rw [toList_data, sn_list]
theorem sn_neq {x y : Nat} (h : x ≠ y) : ((Sn x).toList == (Sn y).toList) = false := by
  rw [beq_eq_false_iff_ne, sn_list2, sn_list2]
  exact fun h2 => h (dec_inj h2)
theorem sn_neq0 {x : Nat} (h : x ≠ 0) : ((Sn x).toList == [48]) = false := by
  rw [beq_eq_false_iff_ne, sn_list2]
  intro h2
  apply h
  rw [← dval_dec x, h2]; rfl

set_option maxHeartbeats 4000000 in
set_option maxRecDepth 100000 in
theorem undoes_lt (x y : Nat) (hx : Sm 120 x) (sx : (Sn x).size ≤ 120) (hy : Sm 120 y) (sy : (Sn y).size ≤ 120) (hxy : x < y) (w : World) (htab : Tb w) :
    Calls Tryd.prog 5 #[.string (Sn x), .string (Sn y)] w fun e w' => e = .returned (.bool true) ∧ Below w.heap.size w w' := by
  have HT := Lib.hid htab
  clear htab
  have Fx := Lib.hid (hx.fit (by decide))
  have Sx := Lib.hid sx
  have Fy := Lib.hid (hy.fit (by decide))
  have Sy := Lib.hid sy
  obtain ⟨s, hs⟩ : ∃ s, s = x + y := ⟨_, rfl⟩
  have FS := Lib.hid (show Fit s by rw [hs]; exact (Sm.add hx hy).fit (by decide))
  have ES := Lib.hid hs.symm
  have ES2 := Lib.hid (show y + x = s by omega)
  have EC := Lib.hid (cmpN_lt hxy)
  have HXY := Lib.hid hxy
  have hne := sn_neq (show x ≠ y by omega)
  have hy0 : y ≠ 0 := by omega
  have H0 := Lib.hid hy0
  obtain ⟨q, hq⟩ : ∃ q, q = x / y := ⟨_, rfl⟩
  obtain ⟨r, hr⟩ : ∃ r, r = x % y := ⟨_, rfl⟩
  obtain ⟨p, hp⟩ : ∃ p, p = q * y := ⟨_, rfl⟩
  have EQ := Lib.hid hq.symm
  have ER := Lib.hid hr.symm
  have EP := Lib.hid hp.symm
  have FQ := Lib.hid (show Fit q from Sm.le (hx.fit (by decide)) (by rw [hq]; exact Nat.div_le_self _ _))
  have FR := Lib.hid (show Fit r from Sm.le (hx.fit (by decide)) (by rw [hr]; exact Nat.mod_le _ _))
  have hback : p + r = x := by rw [hp, hq, hr, Nat.mul_comm]; exact Nat.div_add_mod _ _
  have FP := Lib.hid (show Fit p from Sm.le (hx.fit (by decide)) (by omega))
  have EB := Lib.hid hback
  have EM := Lib.hid (cmpN_lt (show r < y by rw [hr]; exact Nat.mod_lt _ (by omega)))
  have hn0 := sn_neq0 hy0
  clear hq hr hp hback hy0
  clear hs hx sx hy sy hxy
  have C1 := Lib.hid (fun (W : World) (T : Tb W) => nAddV x y s ES.out Fx.out Fy.out W T)
  have C2 := Lib.hid (fun (W : World) (T : Tb W) => nSubV s y x ES2.out FS.out W T)
  have C3 := Lib.hid (fun (W : World) => nCompareV x y _ EC.out Fx.out Fy.out W)
  have C4 := Lib.hid (fun (W : World) => nSubLess x y Fy.out HXY.out W)
  have V1 := Lib.hid (fun (W : World) => nValid x Fx.out W)
  have V2 := Lib.hid (fun (W : World) => nValid y Fy.out W)
  have C5 := Lib.hid (fun (W : World) (T : Tb W) => nDivV x y q r EQ.out ER.out Fx.out Fy.out H0.out W T)
  have C6 := Lib.hid (fun (W : World) (T : Tb W) => nMulV q y p EP.out FQ.out Fy.out W T)
  have C7 := Lib.hid (fun (W : World) (T : Tb W) => nAddV p r x EB.out FP.out FR.out W T)
  have C8 := Lib.hid (fun (W : World) => nCompareV r y _ EM.out FR.out Fy.out W)
  go_enter Tryd.func5, Tryd.ntmps5
  go_wp2_with fail
  refine (awake_any _ HT.out).mono ?_
  rintro e w1 ⟨rfl, hb1⟩
  have HB1 := Lib.hid (hb1.alloc hb1.size (.cells #[.string (Sn x), .string (Sn y)] 9))
  have hc := strs_cells2 w1 (Sn x) (Sn y)
  have HLo := Lib.hid (nlong2_no w1.heap.size (Sn x) (Sn y) _ Sx.out Sy.out hc)
  clear hb1 hc
  go_wp2_with fail
  refine HLo.out.mono ?_
  rintro e w' ⟨rfl, rfl⟩
  go_wp2_with fail
  refine (V1.out _).mono ?_
  rintro e w' ⟨rfl, rfl⟩
  go_wp2_with fail
  refine (V2.out _).mono ?_
  rintro e w' ⟨rfl, rfl⟩
  go_wp2_with fail
  refine (C1.out _ (HT.out.on HB1.out)).mono ?_
  rintro e w2 ⟨rfl, hb⟩
  have HB2 := Lib.hid (HB1.out.trans (hb.mono HB1.out.size))
  clear hb
  go_wp2_with fail
  refine (C2.out _ (HT.out.on HB2.out)).mono ?_
  rintro e w3 ⟨rfl, hb⟩
  have HB3 := Lib.hid (HB2.out.trans (hb.mono HB2.out.size))
  clear hb
  go_wp2_with fail
  refine (C3.out _).mono ?_
  rintro e w' ⟨rfl, rfl⟩
  go_wp2_with fail
  refine (C4.out _).mono ?_
  rintro e w' ⟨rfl, rfl⟩
  go_wp2_with fail
  refine (C5.out _ (HT.out.on HB3.out)).mono ?_
  rintro e w4 ⟨rfl, hb⟩
  have HB4 := Lib.hid (HB3.out.trans (hb.mono HB3.out.size))
  clear hb
  go_wp2_with fail
  refine (C6.out _ (HT.out.on HB4.out)).mono ?_
  rintro e w5 ⟨rfl, hb⟩
  have HB5 := Lib.hid (HB4.out.trans (hb.mono HB4.out.size))
  clear hb
  go_wp2_with fail
  refine (C7.out _ (HT.out.on HB5.out)).mono ?_
  rintro e w6 ⟨rfl, hb⟩
  have HB6 := Lib.hid (HB5.out.trans (hb.mono HB5.out.size))
  clear hb
  go_wp2_with fail
  refine (C8.out _).mono ?_
  rintro e w' ⟨rfl, rfl⟩
  go_wp2
  go_ret
  exact ⟨rfl, HB6.out⟩

set_option maxHeartbeats 4000000 in
set_option maxRecDepth 100000 in
theorem undoes_gt (x y : Nat) (hx : Sm 120 x) (sx : (Sn x).size ≤ 120) (hy : Sm 120 y) (sy : (Sn y).size ≤ 120) (hxy : y < x) (hy0 : y ≠ 0) (w : World) (htab : Tb w) :
    Calls Tryd.prog 5 #[.string (Sn x), .string (Sn y)] w fun e w' => e = .returned (.bool true) ∧ Below w.heap.size w w' := by
  have HT := Lib.hid htab
  clear htab
  have Fx := Lib.hid (hx.fit (by decide))
  have Sx := Lib.hid sx
  have Fy := Lib.hid (hy.fit (by decide))
  have Sy := Lib.hid sy
  obtain ⟨s, hs⟩ : ∃ s, s = x + y := ⟨_, rfl⟩
  have FS := Lib.hid (show Fit s by rw [hs]; exact (Sm.add hx hy).fit (by decide))
  have ES := Lib.hid hs.symm
  have ES2 := Lib.hid (show y + x = s by omega)
  have EC := Lib.hid (cmpN_gt hxy)
  obtain ⟨t, ht⟩ : ∃ t, y + t = x := ⟨x - y, by omega⟩
  have ET := Lib.hid ht
  have hne := sn_neq (show x ≠ y by omega)
  have H0 := Lib.hid hy0
  obtain ⟨q, hq⟩ : ∃ q, q = x / y := ⟨_, rfl⟩
  obtain ⟨r, hr⟩ : ∃ r, r = x % y := ⟨_, rfl⟩
  obtain ⟨p, hp⟩ : ∃ p, p = q * y := ⟨_, rfl⟩
  have EQ := Lib.hid hq.symm
  have ER := Lib.hid hr.symm
  have EP := Lib.hid hp.symm
  have FQ := Lib.hid (show Fit q from Sm.le (hx.fit (by decide)) (by rw [hq]; exact Nat.div_le_self _ _))
  have FR := Lib.hid (show Fit r from Sm.le (hx.fit (by decide)) (by rw [hr]; exact Nat.mod_le _ _))
  have hback : p + r = x := by rw [hp, hq, hr, Nat.mul_comm]; exact Nat.div_add_mod _ _
  have FP := Lib.hid (show Fit p from Sm.le (hx.fit (by decide)) (by omega))
  have EB := Lib.hid hback
  have EM := Lib.hid (cmpN_lt (show r < y by rw [hr]; exact Nat.mod_lt _ (by omega)))
  have hn0 := sn_neq0 hy0
  clear hq hr hp hback hy0
  clear hs hx sx hy sy hxy ht
  have C1 := Lib.hid (fun (W : World) (T : Tb W) => nAddV x y s ES.out Fx.out Fy.out W T)
  have C2 := Lib.hid (fun (W : World) (T : Tb W) => nSubV s y x ES2.out FS.out W T)
  have C3 := Lib.hid (fun (W : World) => nCompareV x y _ EC.out Fx.out Fy.out W)
  have C4 := Lib.hid (fun (W : World) (T : Tb W) => nSubV x y t ET.out Fx.out W T)
  have V1 := Lib.hid (fun (W : World) => nValid x Fx.out W)
  have V2 := Lib.hid (fun (W : World) => nValid y Fy.out W)
  have C5 := Lib.hid (fun (W : World) (T : Tb W) => nDivV x y q r EQ.out ER.out Fx.out Fy.out H0.out W T)
  have C6 := Lib.hid (fun (W : World) (T : Tb W) => nMulV q y p EP.out FQ.out Fy.out W T)
  have C7 := Lib.hid (fun (W : World) (T : Tb W) => nAddV p r x EB.out FP.out FR.out W T)
  have C8 := Lib.hid (fun (W : World) => nCompareV r y _ EM.out FR.out Fy.out W)
  go_enter Tryd.func5, Tryd.ntmps5
  go_wp2_with fail
  refine (awake_any _ HT.out).mono ?_
  rintro e w1 ⟨rfl, hb1⟩
  have HB1 := Lib.hid (hb1.alloc hb1.size (.cells #[.string (Sn x), .string (Sn y)] 9))
  have hc := strs_cells2 w1 (Sn x) (Sn y)
  have HLo := Lib.hid (nlong2_no w1.heap.size (Sn x) (Sn y) _ Sx.out Sy.out hc)
  clear hb1 hc
  go_wp2_with fail
  refine HLo.out.mono ?_
  rintro e w' ⟨rfl, rfl⟩
  go_wp2_with fail
  refine (V1.out _).mono ?_
  rintro e w' ⟨rfl, rfl⟩
  go_wp2_with fail
  refine (V2.out _).mono ?_
  rintro e w' ⟨rfl, rfl⟩
  go_wp2_with fail
  refine (C1.out _ (HT.out.on HB1.out)).mono ?_
  rintro e w2 ⟨rfl, hb⟩
  have HB2 := Lib.hid (HB1.out.trans (hb.mono HB1.out.size))
  clear hb
  go_wp2_with fail
  refine (C2.out _ (HT.out.on HB2.out)).mono ?_
  rintro e w3 ⟨rfl, hb⟩
  have HB3 := Lib.hid (HB2.out.trans (hb.mono HB2.out.size))
  clear hb
  go_wp2_with fail
  refine (C3.out _).mono ?_
  rintro e w' ⟨rfl, rfl⟩
  go_wp2_with fail
  refine (C4.out _ (HT.out.on HB3.out)).mono ?_
  rintro e w4 ⟨rfl, hb⟩
  have HB4 := Lib.hid (HB3.out.trans (hb.mono HB3.out.size))
  clear hb
  go_wp2_with fail
  refine (C5.out _ (HT.out.on HB4.out)).mono ?_
  rintro e w5 ⟨rfl, hb⟩
  have HB5 := Lib.hid (HB4.out.trans (hb.mono HB4.out.size))
  clear hb
  go_wp2_with fail
  refine (C6.out _ (HT.out.on HB5.out)).mono ?_
  rintro e w6 ⟨rfl, hb⟩
  have HB6 := Lib.hid (HB5.out.trans (hb.mono HB5.out.size))
  clear hb
  go_wp2_with fail
  refine (C7.out _ (HT.out.on HB6.out)).mono ?_
  rintro e w7 ⟨rfl, hb⟩
  have HB7 := Lib.hid (HB6.out.trans (hb.mono HB6.out.size))
  clear hb
  go_wp2_with fail
  refine (C8.out _).mono ?_
  rintro e w' ⟨rfl, rfl⟩
  go_wp2
  go_ret
  exact ⟨rfl, HB7.out⟩

set_option maxHeartbeats 4000000 in
set_option maxRecDepth 100000 in
theorem undoes_eq (x : Nat) (hx : Sm 120 x) (sx : (Sn x).size ≤ 120) (hy0 : x ≠ 0) (w : World) (htab : Tb w) :
    Calls Tryd.prog 5 #[.string (Sn x), .string (Sn x)] w fun e w' => e = .returned (.bool true) ∧ Below w.heap.size w w' := by
  have HT := Lib.hid htab
  clear htab
  have Fx := Lib.hid (hx.fit (by decide))
  have Sx := Lib.hid sx
  obtain ⟨s, hs⟩ : ∃ s, s = x + x := ⟨_, rfl⟩
  have FS := Lib.hid (show Fit s by rw [hs]; exact (Sm.add hx hx).fit (by decide))
  have ES := Lib.hid hs.symm
  have ES2 := Lib.hid (show x + x = s by omega)
  have EC := Lib.hid (cmpN_eq x)
  have ET := Lib.hid (show x + 0 = x by omega)
  have H0 := Lib.hid hy0
  obtain ⟨q, hq⟩ : ∃ q, q = x / x := ⟨_, rfl⟩
  obtain ⟨r, hr⟩ : ∃ r, r = x % x := ⟨_, rfl⟩
  obtain ⟨p, hp⟩ : ∃ p, p = q * x := ⟨_, rfl⟩
  have EQ := Lib.hid hq.symm
  have ER := Lib.hid hr.symm
  have EP := Lib.hid hp.symm
  have FQ := Lib.hid (show Fit q from Sm.le (hx.fit (by decide)) (by rw [hq]; exact Nat.div_le_self _ _))
  have FR := Lib.hid (show Fit r from Sm.le (hx.fit (by decide)) (by rw [hr]; exact Nat.mod_le _ _))
  have hback : p + r = x := by rw [hp, hq, hr, Nat.mul_comm]; exact Nat.div_add_mod _ _
  have FP := Lib.hid (show Fit p from Sm.le (hx.fit (by decide)) (by omega))
  have EB := Lib.hid hback
  have EM := Lib.hid (cmpN_lt (show r < x by rw [hr]; exact Nat.mod_lt _ (by omega)))
  have hn0 := sn_neq0 hy0
  clear hq hr hp hback hy0
  clear hs hx sx
  have C1 := Lib.hid (fun (W : World) (T : Tb W) => nAddV x x s ES.out Fx.out Fx.out W T)
  have C2 := Lib.hid (fun (W : World) (T : Tb W) => nSubV s x x ES2.out FS.out W T)
  have C3 := Lib.hid (fun (W : World) => nCompareV x x _ EC.out Fx.out Fx.out W)
  have C4 := Lib.hid (fun (W : World) (T : Tb W) => nSubV x x 0 ET.out Fx.out W T)
  have V1 := Lib.hid (fun (W : World) => nValid x Fx.out W)
  have V2 := Lib.hid (fun (W : World) => nValid x Fx.out W)
  have C5 := Lib.hid (fun (W : World) (T : Tb W) => nDivV x x q r EQ.out ER.out Fx.out Fx.out H0.out W T)
  have C6 := Lib.hid (fun (W : World) (T : Tb W) => nMulV q x p EP.out FQ.out Fx.out W T)
  have C7 := Lib.hid (fun (W : World) (T : Tb W) => nAddV p r x EB.out FP.out FR.out W T)
  have C8 := Lib.hid (fun (W : World) => nCompareV r x _ EM.out FR.out Fx.out W)
  go_enter Tryd.func5, Tryd.ntmps5
  go_wp2_with fail
  refine (awake_any _ HT.out).mono ?_
  rintro e w1 ⟨rfl, hb1⟩
  have HB1 := Lib.hid (hb1.alloc hb1.size (.cells #[.string (Sn x), .string (Sn x)] 9))
  have hc := strs_cells2 w1 (Sn x) (Sn x)
  have HLo := Lib.hid (nlong2_no w1.heap.size (Sn x) (Sn x) _ Sx.out Sx.out hc)
  clear hb1 hc
  go_wp2_with fail
  refine HLo.out.mono ?_
  rintro e w' ⟨rfl, rfl⟩
  go_wp2_with fail
  refine (V1.out _).mono ?_
  rintro e w' ⟨rfl, rfl⟩
  go_wp2_with fail
  refine (V2.out _).mono ?_
  rintro e w' ⟨rfl, rfl⟩
  go_wp2_with fail
  refine (C1.out _ (HT.out.on HB1.out)).mono ?_
  rintro e w2 ⟨rfl, hb⟩
  have HB2 := Lib.hid (HB1.out.trans (hb.mono HB1.out.size))
  clear hb
  go_wp2_with fail
  refine (C2.out _ (HT.out.on HB2.out)).mono ?_
  rintro e w3 ⟨rfl, hb⟩
  have HB3 := Lib.hid (HB2.out.trans (hb.mono HB2.out.size))
  clear hb
  go_wp2_with fail
  refine (C3.out _).mono ?_
  rintro e w' ⟨rfl, rfl⟩
  go_wp2_with fail
  refine (C4.out _ (HT.out.on HB3.out)).mono ?_
  rintro e w4 ⟨rfl, hb⟩
  have HB4 := Lib.hid (HB3.out.trans (hb.mono HB3.out.size))
  clear hb
  go_wp2_with fail
  refine (C5.out _ (HT.out.on HB4.out)).mono ?_
  rintro e w5 ⟨rfl, hb⟩
  have HB5 := Lib.hid (HB4.out.trans (hb.mono HB4.out.size))
  clear hb
  go_wp2_with fail
  refine (C6.out _ (HT.out.on HB5.out)).mono ?_
  rintro e w6 ⟨rfl, hb⟩
  have HB6 := Lib.hid (HB5.out.trans (hb.mono HB5.out.size))
  clear hb
  go_wp2_with fail
  refine (C7.out _ (HT.out.on HB6.out)).mono ?_
  rintro e w7 ⟨rfl, hb⟩
  have HB7 := Lib.hid (HB6.out.trans (hb.mono HB6.out.size))
  clear hb
  go_wp2_with fail
  refine (C8.out _).mono ?_
  rintro e w' ⟨rfl, rfl⟩
  go_wp2
  go_ret
  exact ⟨rfl, HB7.out⟩

set_option maxHeartbeats 4000000 in
set_option maxRecDepth 100000 in
theorem undoes_gt0 (x : Nat) (hx : Sm 120 x) (sx : (Sn x).size ≤ 120) (hxy : 0 < x) (w : World) (htab : Tb w) :
    Calls Tryd.prog 5 #[.string (Sn x), .string ⟨#[48]⟩] w fun e w' => e = .returned (.bool true) ∧ Below w.heap.size w w' := by
  have HT := Lib.hid htab
  clear htab
  have Fx := Lib.hid (hx.fit (by decide))
  have Sx := Lib.hid sx
  have F0 := Lib.hid ((show Sm 1 0 by simp [Sm]).fit (by decide))
  have S0 := Lib.hid (show (⟨#[48]⟩ : ByteArray).size ≤ 120 by decide)
  obtain ⟨s, hs⟩ : ∃ s, s = x + 0 := ⟨_, rfl⟩
  have FS := Lib.hid (show Fit s by rw [hs]; exact (Sm.add hx (show Sm 120 0 from (show Sm 1 0 by simp [Sm]).mono (by decide))).fit (by decide))
  have ES := Lib.hid hs.symm
  have ES2 := Lib.hid (show 0 + x = s by omega)
  have EC := Lib.hid (cmpN_gt hxy)
  obtain ⟨t, ht⟩ : ∃ t, 0 + t = x := ⟨x - 0, by omega⟩
  have ET := Lib.hid ht
  have hne := sn_neq (show x ≠ 0 by omega)
  have HX0 := Lib.hid (show x ≠ 0 by omega)
  clear hs hx sx hxy ht
  have C1 := Lib.hid (fun (W : World) (T : Tb W) => nAddV x 0 s ES.out Fx.out F0.out W T)
  have C2 := Lib.hid (fun (W : World) (T : Tb W) => nSubV s 0 x ES2.out FS.out W T)
  have C3 := Lib.hid (fun (W : World) => nCompareV x 0 _ EC.out Fx.out F0.out W)
  have C4 := Lib.hid (fun (W : World) (T : Tb W) => nSubV x 0 t ET.out Fx.out W T)
  have V1 := Lib.hid (fun (W : World) => nValid x Fx.out W)
  have V2 := Lib.hid (fun (W : World) => nValid 0 F0.out W)
  have C5 := Lib.hid (fun (W : World) => DivMod_zero (Sn x) (sn_vld x) Fx.out.max W)
  rw [sn_zero] at C1 C2 C3 C4 V2 hne
  have hne2 := sn_neq0 (x := x) HX0.out
  rw [show St [] = .string ⟨#[]⟩ from rfl] at C5
  go_enter Tryd.func5, Tryd.ntmps5
  go_wp2_with fail
  refine (awake_any _ HT.out).mono ?_
  rintro e w1 ⟨rfl, hb1⟩
  have HB1 := Lib.hid (hb1.alloc hb1.size (.cells #[.string (Sn x), .string ⟨#[48]⟩] 9))
  have hc := strs_cells2 w1 (Sn x) ⟨#[48]⟩
  have HLo := Lib.hid (nlong2_no w1.heap.size (Sn x) ⟨#[48]⟩ _ Sx.out S0.out hc)
  clear hb1 hc
  go_wp2_with fail
  refine HLo.out.mono ?_
  rintro e w' ⟨rfl, rfl⟩
  go_wp2_with fail
  refine (V1.out _).mono ?_
  rintro e w' ⟨rfl, rfl⟩
  go_wp2_with fail
  refine (V2.out _).mono ?_
  rintro e w' ⟨rfl, rfl⟩
  go_wp2_with fail
  refine (C1.out _ (HT.out.on HB1.out)).mono ?_
  rintro e w2 ⟨rfl, hb⟩
  have HB2 := Lib.hid (HB1.out.trans (hb.mono HB1.out.size))
  clear hb
  go_wp2_with fail
  refine (C2.out _ (HT.out.on HB2.out)).mono ?_
  rintro e w3 ⟨rfl, hb⟩
  have HB3 := Lib.hid (HB2.out.trans (hb.mono HB2.out.size))
  clear hb
  go_wp2_with fail
  refine (C3.out _).mono ?_
  rintro e w' ⟨rfl, rfl⟩
  go_wp2_with fail
  refine (C4.out _ (HT.out.on HB3.out)).mono ?_
  rintro e w4 ⟨rfl, hb⟩
  have HB4 := Lib.hid (HB3.out.trans (hb.mono HB3.out.size))
  clear hb
  go_wp2_with fail
  refine (C5.out _).mono ?_
  rintro e w' ⟨rfl, rfl⟩
  go_wp2
  go_ret
  exact ⟨rfl, HB4.out⟩

set_option maxHeartbeats 4000000 in
set_option maxRecDepth 100000 in
theorem undoes_eq0  (w : World) (htab : Tb w) :
    Calls Tryd.prog 5 #[.string ⟨#[48]⟩, .string ⟨#[48]⟩] w fun e w' => e = .returned (.bool true) ∧ Below w.heap.size w w' := by
  have HT := Lib.hid htab
  clear htab
  have F0 := Lib.hid ((show Sm 1 0 by simp [Sm]).fit (by decide))
  have S0 := Lib.hid (show (⟨#[48]⟩ : ByteArray).size ≤ 120 by decide)
  obtain ⟨s, hs⟩ : ∃ s, s = 0 + 0 := ⟨_, rfl⟩
  have FS := Lib.hid (show Fit s by rw [hs]; exact (show Sm 1 0 by simp [Sm]).fit (by decide))
  have ES := Lib.hid hs.symm
  have ES2 := Lib.hid (show 0 + 0 = s by omega)
  have EC := Lib.hid (cmpN_eq 0)
  have ET := Lib.hid (show 0 + 0 = 0 by omega)
  clear hs 
  have C1 := Lib.hid (fun (W : World) (T : Tb W) => nAddV 0 0 s ES.out F0.out F0.out W T)
  have C2 := Lib.hid (fun (W : World) (T : Tb W) => nSubV s 0 0 ES2.out FS.out W T)
  have C3 := Lib.hid (fun (W : World) => nCompareV 0 0 _ EC.out F0.out F0.out W)
  have C4 := Lib.hid (fun (W : World) (T : Tb W) => nSubV 0 0 0 ET.out F0.out W T)
  have V1 := Lib.hid (fun (W : World) => nValid 0 F0.out W)
  have V2 := Lib.hid (fun (W : World) => nValid 0 F0.out W)
  have C5 := Lib.hid (fun (W : World) => DivMod_zero ⟨#[48]⟩ (by decide +kernel) (by decide) W)
  rw [sn_zero] at C1 C2 C3 C4 V1 V2
  rw [show St [] = .string ⟨#[]⟩ from rfl] at C5
  go_enter Tryd.func5, Tryd.ntmps5
  go_wp2_with fail
  refine (awake_any _ HT.out).mono ?_
  rintro e w1 ⟨rfl, hb1⟩
  have HB1 := Lib.hid (hb1.alloc hb1.size (.cells #[.string ⟨#[48]⟩, .string ⟨#[48]⟩] 9))
  have hc := strs_cells2 w1 ⟨#[48]⟩ ⟨#[48]⟩
  have HLo := Lib.hid (nlong2_no w1.heap.size ⟨#[48]⟩ ⟨#[48]⟩ _ S0.out S0.out hc)
  clear hb1 hc
  go_wp2_with fail
  refine HLo.out.mono ?_
  rintro e w' ⟨rfl, rfl⟩
  go_wp2_with fail
  refine (V1.out _).mono ?_
  rintro e w' ⟨rfl, rfl⟩
  go_wp2_with fail
  refine (V2.out _).mono ?_
  rintro e w' ⟨rfl, rfl⟩
  go_wp2_with fail
  refine (C1.out _ (HT.out.on HB1.out)).mono ?_
  rintro e w2 ⟨rfl, hb⟩
  have HB2 := Lib.hid (HB1.out.trans (hb.mono HB1.out.size))
  clear hb
  go_wp2_with fail
  refine (C2.out _ (HT.out.on HB2.out)).mono ?_
  rintro e w3 ⟨rfl, hb⟩
  have HB3 := Lib.hid (HB2.out.trans (hb.mono HB2.out.size))
  clear hb
  go_wp2_with fail
  refine (C3.out _).mono ?_
  rintro e w' ⟨rfl, rfl⟩
  go_wp2_with fail
  refine (C4.out _ (HT.out.on HB3.out)).mono ?_
  rintro e w4 ⟨rfl, hb⟩
  have HB4 := Lib.hid (HB3.out.trans (hb.mono HB3.out.size))
  clear hb
  go_wp2_with fail
  refine (C5.out _).mono ?_
  rintro e w' ⟨rfl, rfl⟩
  go_wp2
  go_ret
  exact ⟨rfl, HB4.out⟩

theorem undoes_any (a b : ByteArray) (w : World) (htab : Tb w) :
    Calls Tryd.prog 5 #[.string a, .string b] w fun e w' => e = .returned (.bool true) ∧ Below w.heap.size w w' := by
  by_cases hl : 120 < a.size ∨ 120 < b.size
  · exact undoes_long a b hl w htab
  · have ha : a.size ≤ 120 := by omega
    have hb : b.size ≤ 120 := by omega
    cases va : vld a.data.toList with
    | false => exact undoes_no0 a b ha hb va w htab
    | true =>
      cases vb : vld b.data.toList with
      | false => exact undoes_no1 a b ha hb va vb w htab
      | true =>
        have hx := Sm.of va ha
        have hy := Sm.of vb hb
        have sx : (Sn (dval a.data.toList)).size ≤ 120 := by rw [← sn_of va]; exact ha
        have sy : (Sn (dval b.data.toList)).size ≤ 120 := by rw [← sn_of vb]; exact hb
        rw [sn_of va, sn_of vb]
        generalize dval a.data.toList = x at *
        generalize dval b.data.toList = y at *
        rcases Nat.lt_trichotomy x y with h | h | h
        · exact undoes_lt x y hx sx hy sy h w htab
        · subst h
          by_cases h0 : x = 0
          · subst h0; rw [sn_zero]; exact undoes_eq0 w htab
          · exact undoes_eq x hx sx h0 w htab
        · by_cases h0 : y = 0
          · subst h0; rw [sn_zero]; exact undoes_gt0 x hx sx h w htab
          · exact undoes_gt x y hx sx hy sy h h0 w htab

end Go.Proofs.YtpdchplppkfdhaaDoor
