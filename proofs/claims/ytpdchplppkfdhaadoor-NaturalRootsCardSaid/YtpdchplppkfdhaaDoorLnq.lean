/- garboardlaw01.NaturalRoots returns true: walks. -/
import Derived.Test.YtpdchplppkfdhaaDoorLnu
import Derived.Test.YtpdchplppkfdhaaDoorNg
import Derived.Test.YtpdchplppkfdhaaDoorRu
import Derived.OpenShut
namespace Go.Proofs.YtpdchplppkfdhaaDoor
open Go.RowKit Go.Gb

theorem Root_no (a : ByteArray) (ha : vld a.data.toList = false) (hsa : a.size ≤ maxLen) (w : World) :
    Calls Tryd.prog 21 #[.string a] w fun e w' => e = .returned (.tuple #[.string ⟨#[]⟩, .int .i64 1]) ∧ w = w' := by
  have HA := Lib.hid ha
  clear ha
  go_enter Tryd.func21, Tryd.ntmps21
  go_wp2_with fail
  refine (Valid_no a HA.out hsa _).mono ?_
  rintro e w' ⟨rfl, rfl⟩
  go_wp2
  go_ret2
  exact ⟨rfl, rfl⟩

theorem nRoot (x : Nat) (hx : Fit x) (w : World) (htab : Tb w) :
    Calls Tryd.prog 21 #[.string (Sn x)] w fun e w' => ∃ s, e = .returned (.tuple #[.string (Sn s), .int .i64 0]) ∧ s * s ≤ x ∧ x < (s + 1) * (s + 1) ∧ Below w.heap.size w w' := by
  have sx := hx.size
  have h := Root_yes (Sn x) (sn_vld x) (by omega) (by rw [sn_dval]; exact root_any x (Nat.le_trans (sm_digs hx (by decide)) (by decide))) w htab
  rw [sn_dval] at h
  exact h

theorem nPowV (x k p : Nat) (n : Int) (hn : n = (k : Int)) (hp : x ^ k = p) (hk : k ≤ 64) (hx : Fit x) (w : World) (htab : Tb w) :
    Calls Tryd.prog 22 #[.string (Sn x), .int .i64 n] w fun e w' => e = .returned (.tuple #[.string (Sn p), .int .i64 0]) ∧ Below w.heap.size w w' := by
  subst hn hp
  have sx := hx.size
  have h := Pow_yes (Sn x) k (sn_vld x) (by omega) hk w htab
  rw [sn_dval] at h
  exact h

set_option exponentiation.threshold 3000 in
theorem sm_pow {x k : Nat} (hx : Sm 120 x) (hk : k ≤ 10) : Fit (x ^ k) := by
  have h1 : x ^ k ≤ (10 ^ 120) ^ k := Nat.pow_le_pow_left (Nat.le_of_lt hx) k
  have h2 : (10 ^ 120) ^ k = 10 ^ (120 * k) := (Nat.pow_mul 10 120 k).symm
  have h3 : 10 ^ (120 * k) ≤ 10 ^ 1200 := Nat.pow_le_pow_right (by decide) (by omega)
  have h4 : (10 : Nat) ^ 1200 < 10 ^ 2000 := Nat.pow_lt_pow_right (by decide) (by decide)
  unfold Fit Sm
  rw [h2] at h1
  exact Nat.lt_of_le_of_lt (Nat.le_trans h1 h3) h4

set_option maxHeartbeats 1500000 in
set_option maxRecDepth 100000 in
theorem roots_long (a : ByteArray) (m n : Int) (hab : 120 < a.size) (w : World) (htab : Tb w) :
    Calls Tryd.prog 7 #[.string a, .int .u8 m, .int .u8 n] w fun e w' => e = .returned (.bool true) ∧ Below w.heap.size w w' := by
  have HT := Lib.hid htab
  clear htab
  have HL := Lib.hid hab
  clear hab
  go_enter Tryd.func7, Tryd.ntmps7
  go_wp2_with fail
  refine (awake_any _ HT.out).mono ?_
  rintro e w1 ⟨rfl, hb1⟩
  have HB1 := Lib.hid (hb1.alloc hb1.size (.cells #[.string a] 9))
  have hc := strs_cells1 w1 a
  have HLo := Lib.hid (nlong1_yes w1.heap.size a _ HL.out hc)
  clear hb1 hc
  go_wp2_with fail
  refine HLo.out.mono ?_
  rintro e w' ⟨rfl, rfl⟩
  go_wp2_with fail
  refine (awake_any _ (HT.out.on HB1.out)).mono ?_
  rintro e w2 ⟨rfl, hb⟩
  have HB2 := Lib.hid (HB1.out.trans (hb.mono HB1.out.size))
  clear hb
  go_wp2
  go_ret
  exact ⟨rfl, HB2.out⟩

set_option maxHeartbeats 1500000 in
set_option maxRecDepth 100000 in
theorem roots_no (a : ByteArray) (m n : Int) (ha : a.size ≤ 120) (hv : vld a.data.toList = false) (w : World) (htab : Tb w) :
    Calls Tryd.prog 7 #[.string a, .int .u8 m, .int .u8 n] w fun e w' => e = .returned (.bool true) ∧ Below w.heap.size w w' := by
  have HT := Lib.hid htab
  clear htab
  have Hla := Lib.hid ha
  have Hma := Lib.hid (show a.size ≤ maxLen by unfold maxLen; omega)
  have HV := Lib.hid hv
  clear ha hv
  go_enter Tryd.func7, Tryd.ntmps7
  go_wp2_with fail
  refine (awake_any _ HT.out).mono ?_
  rintro e w1 ⟨rfl, hb1⟩
  have HB1 := Lib.hid (hb1.alloc hb1.size (.cells #[.string a] 9))
  have hc := strs_cells1 w1 a
  have HLo := Lib.hid (nlong1_no w1.heap.size a _ Hla.out hc)
  clear hb1 hc
  go_wp2_with fail
  refine HLo.out.mono ?_
  rintro e w' ⟨rfl, rfl⟩
  go_wp2_with fail
  refine (Root_no a HV.out Hma.out _).mono ?_
  rintro e w' ⟨rfl, rfl⟩
  go_wp2_with fail
  refine (Valid_no a HV.out Hma.out _).mono ?_
  rintro e w' ⟨rfl, rfl⟩
  go_wp2
  go_ret
  exact ⟨rfl, HB1.out⟩

set_option maxHeartbeats 1500000 in
set_option maxRecDepth 100000 in
theorem roots_yes (x : Nat) (m n : Int) (hm : 0 ≤ m ∧ m ≤ 255) (hn : 0 ≤ n ∧ n ≤ 255) (hx : Sm 120 x) (hsx : (Sn x).size ≤ 120) (w : World) (htab : Tb w) :
    Calls Tryd.prog 7 #[.string (Sn x), .int .u8 m, .int .u8 n] w fun e w' => e = .returned (.bool true) ∧ Below w.heap.size w w' := by
  have HT := Lib.hid htab
  obtain ⟨i, hi2⟩ : ∃ i : Nat, m % 6 = (i : Int) := ⟨(m % 6).toNat, by omega⟩
  obtain ⟨j, hj2⟩ : ∃ j : Nat, n % 6 = (j : Int) := ⟨(n % 6).toNat, by omega⟩
  have hi : m.tmod 6 = (i : Int) := by rw [Int.tmod_eq_emod_of_nonneg hm.1]; exact hi2
  have hj : n.tmod 6 = (j : Int) := by rw [Int.tmod_eq_emod_of_nonneg hn.1]; exact hj2
  have hi5 : i ≤ 5 := by omega
  have hj5 : j ≤ 5 := by omega
  obtain ⟨u, hu⟩ : ∃ u, u = x ^ i := ⟨_, rfl⟩
  obtain ⟨v, hv⟩ : ∃ v, v = x ^ j := ⟨_, rfl⟩
  obtain ⟨z, hz⟩ : ∃ z, z = x ^ (i + j) := ⟨_, rfl⟩
  have FX := Lib.hid (hx.fit (show 120 ≤ 2000 by decide))
  have FU := Lib.hid (show Fit u by rw [hu]; exact sm_pow hx (by omega))
  have FV := Lib.hid (show Fit v by rw [hv]; exact sm_pow hx (by omega))
  have EM := Lib.hid (show u * v = z by rw [hu, hv, hz, Nat.pow_add])
  have P1 := Lib.hid (fun (N : Int) (hN : N = (i : Int)) (W : World) (T : Tb W) => nPowV x i u N hN hu.symm (by omega) FX.out W T)
  have P2 := Lib.hid (fun (N : Int) (hN : N = (j : Int)) (W : World) (T : Tb W) => nPowV x j v N hN hv.symm (by omega) FX.out W T)
  have P3 := Lib.hid (fun (N : Int) (hN : N = ((i + j : Nat) : Int)) (W : World) (T : Tb W) => nPowV x (i + j) z N hN hz.symm (by omega) FX.out W T)
  have M3 := Lib.hid (fun (W : World) (T : Tb W) => nMulV u v z EM.out FU.out FV.out W T)
  have HI := Lib.hid hi
  have HJ := Lib.hid hj
  have HI2 := Lib.hid hi2
  have HJ2 := Lib.hid hj2
  have HX := Lib.hid hx
  have HS := Lib.hid hsx
  have F1 := Lib.hid ((show Sm 1 1 by simp [Sm]).fit (by decide))
  clear htab hx hsx hu hv hz hi hj hi2 hj2
  go_enter Tryd.func7, Tryd.ntmps7
  go_wp2_with fail
  refine (awake_any _ HT.out).mono ?_
  rintro e w1 ⟨rfl, hb1⟩
  have HB1 := Lib.hid (hb1.alloc hb1.size (.cells #[.string (Sn x)] 9))
  have hc := strs_cells1 w1 (Sn x)
  have HLo := Lib.hid (nlong1_no w1.heap.size (Sn x) _ HS.out hc)
  clear hb1 hc
  go_wp2_with fail
  refine HLo.out.mono ?_
  rintro e w' ⟨rfl, rfl⟩
  go_wp2_with fail
  refine (nRoot x FX.out _ (HT.out.on HB1.out)).mono ?_
  rintro e w2 ⟨s, rfl, hs1, hs2, hb⟩
  have HB2 := Lib.hid (HB1.out.trans (hb.mono HB1.out.size))
  clear hb
  have hS : Sm 120 s := HX.out.le (Nat.le_trans (Nat.le_mul_self s) hs1)
  have hS1 : Sm 121 (s + 1) := hS.add ((show Sm 1 1 by simp [Sm]).mono (by decide))
  obtain ⟨t, ht⟩ : ∃ t, t = s + 1 := ⟨_, rfl⟩
  obtain ⟨p, hp⟩ : ∃ p, p = s * s := ⟨_, rfl⟩
  obtain ⟨q, hq⟩ : ∃ q, q = t * t := ⟨_, rfl⟩
  rw [← ht] at hS1 hs2
  rw [← hq] at hs2
  rw [← hp] at hs1
  have FS := Lib.hid (hS.fit (show 120 ≤ 2000 by decide))
  have FT := Lib.hid (hS1.fit (show 121 ≤ 2000 by decide))
  have FP := Lib.hid (show Fit p by rw [hp]; exact (hS.mul hS).fit (by decide))
  have FQ := Lib.hid (show Fit q by rw [hq]; exact (hS1.mul hS1).fit (by decide))
  have ET := Lib.hid ht.symm
  have EP := Lib.hid hp.symm
  have EQ := Lib.hid hq.symm
  have EC2 := Lib.hid (cmpN_gt hs2)
  have hc1 : cmpN p x = -1 ∨ cmpN p x = 0 := by
    rcases Nat.lt_or_ge p x with h | h
    · exact .inl (cmpN_lt h)
    · have : p = x := by omega
      rw [this]; exact .inr (cmpN_eq x)
  clear hs1 hs2 hS hS1 ht hp hq
  have A1 := Lib.hid (fun (W : World) (T : Tb W) => nAddV s 1 t ET.out FS.out F1.out W T)
  rw [sn_one] at A1
  have M1 := Lib.hid (fun (W : World) (T : Tb W) => nMulV s s p EP.out FS.out FS.out W T)
  have M2 := Lib.hid (fun (W : World) (T : Tb W) => nMulV t t q EQ.out FT.out FT.out W T)
  have C2 := Lib.hid (fun (W : World) => nCompareV q x _ EC2.out FQ.out FX.out W)
  rcases hc1 with h | h
  · have EC1 := Lib.hid h
    clear h
    have C1 := Lib.hid (fun (W : World) => nCompareV p x _ EC1.out FP.out FX.out W)
    go_wp2_with fail
    refine (A1.out _ (HT.out.on HB2.out)).mono ?_
    rintro e w3 ⟨rfl, hb⟩
    have HB3 := Lib.hid (HB2.out.trans (hb.mono HB2.out.size))
    clear hb
    go_wp2_with fail
    refine (M1.out _ (HT.out.on HB3.out)).mono ?_
    rintro e w4 ⟨rfl, hb⟩
    have HB4 := Lib.hid (HB3.out.trans (hb.mono HB3.out.size))
    clear hb
    go_wp2_with fail
    refine (M2.out _ (HT.out.on HB4.out)).mono ?_
    rintro e w5 ⟨rfl, hb⟩
    have HB5 := Lib.hid (HB4.out.trans (hb.mono HB4.out.size))
    clear hb
    go_wp2_with fail
    refine (C1.out _).mono ?_
    rintro e w' ⟨rfl, rfl⟩
    go_wp2_with fail
    refine (C2.out _).mono ?_
    rintro e w' ⟨rfl, rfl⟩
    go_wp2_with fail
    refine (P1.out _ ?_ _ (HT.out.on HB5.out)).mono ?_
    · have a1 := HI.out
      have a2 := HJ.out
      have a3 := HI2.out
      have a4 := HJ2.out
      first | omega | (simp; omega)
    rintro e w6 ⟨rfl, hb⟩
    have HB6 := Lib.hid (HB5.out.trans (hb.mono HB5.out.size))
    clear hb
    go_wp2_with fail
    refine (P2.out _ ?_ _ (HT.out.on HB6.out)).mono ?_
    · have a1 := HI.out
      have a2 := HJ.out
      have a3 := HI2.out
      have a4 := HJ2.out
      first | omega | (simp; omega)
    rintro e w7 ⟨rfl, hb⟩
    have HB7 := Lib.hid (HB6.out.trans (hb.mono HB6.out.size))
    clear hb
    go_wp2_with fail
    refine (P3.out _ ?_ _ (HT.out.on HB7.out)).mono ?_
    · have a1 := HI.out
      have a2 := HJ.out
      have a3 := HI2.out
      have a4 := HJ2.out
      first | omega | (simp; omega)
    rintro e w8 ⟨rfl, hb⟩
    have HB8 := Lib.hid (HB7.out.trans (hb.mono HB7.out.size))
    clear hb
    go_wp2_with fail
    refine (M3.out _ (HT.out.on HB8.out)).mono ?_
    rintro e w9 ⟨rfl, hb⟩
    have HB9 := Lib.hid (HB8.out.trans (hb.mono HB8.out.size))
    clear hb
    go_wp2
    go_ret
    exact ⟨rfl, HB9.out⟩
  · have EC1 := Lib.hid h
    clear h
    have C1 := Lib.hid (fun (W : World) => nCompareV p x _ EC1.out FP.out FX.out W)
    go_wp2_with fail
    refine (A1.out _ (HT.out.on HB2.out)).mono ?_
    rintro e w3 ⟨rfl, hb⟩
    have HB3 := Lib.hid (HB2.out.trans (hb.mono HB2.out.size))
    clear hb
    go_wp2_with fail
    refine (M1.out _ (HT.out.on HB3.out)).mono ?_
    rintro e w4 ⟨rfl, hb⟩
    have HB4 := Lib.hid (HB3.out.trans (hb.mono HB3.out.size))
    clear hb
    go_wp2_with fail
    refine (M2.out _ (HT.out.on HB4.out)).mono ?_
    rintro e w5 ⟨rfl, hb⟩
    have HB5 := Lib.hid (HB4.out.trans (hb.mono HB4.out.size))
    clear hb
    go_wp2_with fail
    refine (C1.out _).mono ?_
    rintro e w' ⟨rfl, rfl⟩
    go_wp2_with fail
    refine (C2.out _).mono ?_
    rintro e w' ⟨rfl, rfl⟩
    go_wp2_with fail
    refine (P1.out _ ?_ _ (HT.out.on HB5.out)).mono ?_
    · have a1 := HI.out
      have a2 := HJ.out
      have a3 := HI2.out
      have a4 := HJ2.out
      first | omega | (simp; omega)
    rintro e w6 ⟨rfl, hb⟩
    have HB6 := Lib.hid (HB5.out.trans (hb.mono HB5.out.size))
    clear hb
    go_wp2_with fail
    refine (P2.out _ ?_ _ (HT.out.on HB6.out)).mono ?_
    · have a1 := HI.out
      have a2 := HJ.out
      have a3 := HI2.out
      have a4 := HJ2.out
      first | omega | (simp; omega)
    rintro e w7 ⟨rfl, hb⟩
    have HB7 := Lib.hid (HB6.out.trans (hb.mono HB6.out.size))
    clear hb
    go_wp2_with fail
    refine (P3.out _ ?_ _ (HT.out.on HB7.out)).mono ?_
    · have a1 := HI.out
      have a2 := HJ.out
      have a3 := HI2.out
      have a4 := HJ2.out
      first | omega | (simp; omega)
    rintro e w8 ⟨rfl, hb⟩
    have HB8 := Lib.hid (HB7.out.trans (hb.mono HB7.out.size))
    clear hb
    go_wp2_with fail
    refine (M3.out _ (HT.out.on HB8.out)).mono ?_
    rintro e w9 ⟨rfl, hb⟩
    have HB9 := Lib.hid (HB8.out.trans (hb.mono HB8.out.size))
    clear hb
    go_wp2
    go_ret
    exact ⟨rfl, HB9.out⟩

theorem roots_any (a : ByteArray) (m n : Int) (hm : (Lit.int .u8 m).wf = true) (hn : (Lit.int .u8 n).wf = true) (w : World) (htab : Tb w) :
    Calls Tryd.prog 7 #[.string a, .int .u8 m, .int .u8 n] w fun e w' => e = .returned (.bool true) ∧ Below w.heap.size w w' := by
  by_cases hl : 120 < a.size
  · exact roots_long a m n hl w htab
  · have ha : a.size ≤ 120 := by omega
    cases va : vld a.data.toList with
    | false => exact roots_no a m n ha va w htab
    | true =>
      have hx := Sm.of va ha
      have sx : (Sn (dval a.data.toList)).size ≤ 120 := by rw [← sn_of va]; exact ha
      rw [sn_of va]
      exact roots_yes _ m n (Go.bounds_u8 hm) (Go.bounds_u8 hn) hx sx w htab

end Go.Proofs.YtpdchplppkfdhaaDoor
