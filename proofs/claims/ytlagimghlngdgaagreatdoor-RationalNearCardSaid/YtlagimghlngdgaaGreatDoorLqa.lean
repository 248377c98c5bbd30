/- garboardlaw03.RationalNear returns true: walks. -/
import Derived.Test.YtlagimghlngdgaaGreatDoorMqn
import Derived.Test.YtlagimghlngdgaaGreatDoorQo
import Derived.OpenShut
namespace Go.Proofs.YtlagimghlngdgaaGreatDoor
open Go.RowKit Go.Gb

theorem nPowV (x k p : Nat) (n : Int) (hn : n = (k : Int)) (hp : x ^ k = p) (hk : k ≤ 64) (hx : Fit x) (w : World) (htab : Tb w) :
    Calls Tryz.prog 31 #[.string (Sn x), .int .i64 n] w fun e w' => e = .returned (.tuple #[.string (Sn p), .int .i64 0]) ∧ Below w.heap.size w w' := by
  subst hn hp
  have sx := hx.size
  have h := Pow_yes (Sn x) k (sn_vld x) (by omega) hk w htab
  rw [sn_dval] at h
  exact h
theorem near_bound (x d z : Int) (hd : 0 < d) (hz : z = nearZ x d) : 2 * (z * d) - 2 * x ≤ d ∧ -d ≤ 2 * (z * d) - 2 * x := by
  unfold nearZ at hz
  obtain ⟨q, hq⟩ : ∃ q, q = ((x.natAbs : Int) * 2 + d) / (d * 2) := ⟨_, rfl⟩
  have h1 := Int.mul_ediv_add_emod ((x.natAbs : Int) * 2 + d) (d * 2)
  have h2 := Int.emod_nonneg ((x.natAbs : Int) * 2 + d) (show d * 2 ≠ 0 by omega)
  have h3 := Int.emod_lt_of_pos ((x.natAbs : Int) * 2 + d) (show 0 < d * 2 by omega)
  rw [← hq] at h1 hz
  rw [show d * 2 * q = 2 * (q * d) by grind] at h1
  have h5 : z * d = if x < 0 then -(q * d) else q * d := by
    rw [hz]; split
    · rw [Int.neg_mul]
    · rfl
  rw [h5]
  generalize q * d = p at *
  generalize ((x.natAbs : Int) * 2 + d) % (d * 2) = r at *
  split <;> omega
theorem mul_den (a : Rat) : a * ((a.den : Int) : Rat) = (a.num : Rat) := by
  have h := Rat.num_divInt_den a
  rw [Rat.divInt_eq_div] at h
  have hd : ((a.den : Int) : Rat) ≠ 0 := by
    intro h0
    have : (a.den : Int) = 0 := by exact_mod_cast h0
    have := a.den_nz
    omega
  conv => lhs; lhs; rw [← h]
  exact Rat.div_mul_cancel hd
theorem rat_near (z num d t : Int) (X a : Rat) (hD : (0 : Rat) < (d : Rat)) (hX : X * (t : Rat) = (z : Rat)) (ha : a * (d : Rat) = (num : Rat))
    (h1 : 2 * (z * d) - 2 * (num * t) ≤ d) (h2 : -d ≤ 2 * (z * d) - 2 * (num * t)) : (X - a) * 2 * (t : Rat) ≤ 1 ∧ -1 ≤ (X - a) * 2 * (t : Rat) := by
  have e : (X - a) * 2 * (t : Rat) * (d : Rat) = 2 * ((z : Rat) * (d : Rat)) - 2 * ((num : Rat) * (t : Rat)) := by rw [← hX, ← ha]; grind
  have r1 := Rat.intCast_le_intCast.2 h1
  have r2 := Rat.intCast_le_intCast.2 h2
  simp only [Rat.intCast_sub, Rat.intCast_mul, Rat.intCast_neg] at r1 r2
  refine ⟨Rat.le_of_mul_le_mul_right (c := (d : Rat)) ?_ hD, Rat.le_of_mul_le_mul_right (c := (d : Rat)) ?_ hD⟩
  · rw [e]; grind
  · rw [e]; grind
theorem rat_floor (a : Rat) : (0 : Rat) ≤ a - Rat.ofInt (a.num / (a.den : Int)) ∧ a - Rat.ofInt (a.num / (a.den : Int)) < 1 := by
  have h1 := Rat.floor_le a
  have h2 := Rat.lt_floor_add_one a
  rw [Rat.floor_def] at h1 h2
  rw [Rat.intCast_add] at h2
  have e : Rat.ofInt (a.num / (a.den : Int)) = ((a.num / (a.den : Int) : Int) : Rat) := rfl
  rw [e]
  constructor <;> grind
theorem cmpQ_le {x y : Rat} (h : x ≤ y) : cmpQ x y ≤ 0 := by
  rcases cmpQ_cases x y with ⟨h, e⟩ | ⟨h, e⟩ | ⟨h, e⟩ <;> rw [e] <;> grind
theorem cmpQ_ge {x y : Rat} (h : y ≤ x) : 0 ≤ cmpQ x y := by
  rcases cmpQ_cases x y with ⟨h, e⟩ | ⟨h, e⟩ | ⟨h, e⟩ <;> rw [e] <;> grind

set_option maxHeartbeats 4000000 in
set_option maxRecDepth 100000 in
theorem near_long (a : ByteArray) (m : Int) (hab : 60 < a.size) (w : World) (hl : La w) :
    Calls Tryz.prog 6 #[.string a, .int .u8 m] w fun e w' => e = .returned (.bool true) ∧ Below w.heap.size w w' := by
  have HT := Lib.hid hl
  clear hl
  have HL := Lib.hid hab
  clear hab
  go_enter Tryz.func6, Tryz.ntmps6
  go_wp2_with fail
  refine (qawake _ HT.out).mono ?_
  rintro e w1 ⟨rfl, hb1⟩
  have HB1 := Lib.hid (hb1.alloc hb1.size (.cells #[.string a] 22))
  have hc := strs_cells1 w1 a
  have HLo := Lib.hid (long1_yes w1.heap.size a _ HL.out hc)
  clear hb1 hc
  go_wp2_with fail
  refine HLo.out.mono ?_
  rintro e w' ⟨rfl, rfl⟩
  go_wp2_with fail
  refine (qawake _ (HT.out.on HB1.out)).mono ?_
  rintro e w2 ⟨rfl, hb⟩
  have HB2 := Lib.hid (HB1.out.trans (hb.mono HB1.out.size))
  clear hb
  go_wp2
  go_ret
  exact ⟨rfl, HB2.out⟩

set_option maxHeartbeats 4000000 in
set_option maxRecDepth 100000 in
theorem near_no (a : ByteArray) (m : Int) (hm : 0 ≤ m ∧ m ≤ 255) (ha : a.size ≤ 60) (va : vldQ a.data.toList = false) (w : World) (hl : La w) :
    Calls Tryz.prog 6 #[.string a, .int .u8 m] w fun e w' => e = .returned (.bool true) ∧ Below w.heap.size w w' := by
  have HT := Lib.hid hl
  clear hl
  have Hla := Lib.hid ha
  have Hma := Lib.hid (show a.size ≤ 900 by omega)
  clear ha
  have VA := Lib.hid va
  have hmw : IntKind.i64.wrap m = m := IntWalk.i64_in _ (by omega)
  clear va hm
  go_enter Tryz.func6, Tryz.ntmps6
  go_wp2_with fail
  refine (qawake _ HT.out).mono ?_
  rintro e w1 ⟨rfl, hb1⟩
  have HB1 := Lib.hid (hb1.alloc hb1.size (.cells #[.string a] 22))
  have hc := strs_cells1 w1 a
  have HLo := Lib.hid (long1_no w1.heap.size a _ Hla.out hc)
  clear hb1 hc
  go_wp2_with fail
  refine HLo.out.mono ?_
  rintro e w' ⟨rfl, rfl⟩
  go_wp2_with fail
  refine (decimal_no a _ VA.out Hma.out _ (HT.out.on HB1.out)).mono ?_
  rintro e w2 ⟨rfl, hb⟩
  have HB2 := Lib.hid (HB1.out.trans (hb.mono HB1.out.size))
  clear hb
  go_wp2_with fail
  refine (qfloor_no a VA.out Hma.out _ (HT.out.on HB2.out)).mono ?_
  rintro e w3 ⟨rfl, hb⟩
  have HB3 := Lib.hid (HB2.out.trans (hb.mono HB2.out.size))
  clear hb
  go_wp2_with fail
  refine (qvalid_no a VA.out Hma.out _ (HT.out.on HB3.out)).mono ?_
  rintro e w4 ⟨rfl, hb⟩
  have HB4 := Lib.hid (HB3.out.trans (hb.mono HB3.out.size))
  clear hb
  go_wp2
  go_ret
  exact ⟨rfl, HB4.out⟩

set_option maxHeartbeats 4000000 in
set_option maxRecDepth 100000 in
theorem near_raw (a s f x d u t sc rs wh pl : ByteArray) (m N c1 c2 c3 : Int) (pt : Bool) (hm : 0 ≤ m ∧ m ≤ 255) (ha : a.size ≤ 60) (hk : m.tmod 20 = N) (hpt : decide (0 < N) = pt) (hps : (pl.size : Int) = N) (u1 : c1 ≤ 0) (u2 : 0 ≤ c2) (u3 : 0 ≤ c3)
    (h1 : ∀ W, La W → Calls Tryz.prog 27 #[.string a, .int .i64 N] W fun e w' => e = .returned (.tuple #[.string s, .int .i64 0]) ∧ Below W.heap.size W w')
    (h2 : ∀ W, La W → Calls Tryz.prog 28 #[.string a] W fun e w' => e = .returned (.tuple #[.string f, .int .i64 0]) ∧ Below W.heap.size W w')
    (h3 : ∀ W, Calls Tryz.prog 29 #[.string s, .string ⟨#[46]⟩] W fun e w' => e = .returned (.tuple #[.string wh, .string pl, .bool pt]) ∧ Below W.heap.size W w')
    (h4 : ∀ W, La W → Calls Tryz.prog 30 #[.string s] W fun e w' => e = .returned (.tuple #[.string x, .int .i64 0]) ∧ Below W.heap.size W w')
    (h5 : ∀ W, La W → Calls Tryz.prog 17 #[.string x, .string a] W fun e w' => e = .returned (.tuple #[.string d, .int .i64 0]) ∧ Below W.heap.size W w')
    (h6 : ∀ W, La W → Calls Tryz.prog 31 #[.string ⟨#[49, 48]⟩, .int .i64 N] W fun e w' => e = .returned (.tuple #[.string u, .int .i64 0]) ∧ Below W.heap.size W w')
    (h7 : ∀ W, La W → Calls Tryz.prog 19 #[.string d, .string ⟨#[50]⟩] W fun e w' => e = .returned (.tuple #[.string t, .int .i64 0]) ∧ Below W.heap.size W w')
    (h8 : ∀ W, La W → Calls Tryz.prog 19 #[.string t, .string u] W fun e w' => e = .returned (.tuple #[.string sc, .int .i64 0]) ∧ Below W.heap.size W w')
    (h9 : ∀ W, La W → Calls Tryz.prog 21 #[.string sc, .string ⟨#[49]⟩] W fun e w' => e = .returned (.tuple #[.int .i64 c1, .int .i64 0]) ∧ Below W.heap.size W w')
    (h10 : ∀ W, La W → Calls Tryz.prog 21 #[.string sc, .string ⟨#[45, 49]⟩] W fun e w' => e = .returned (.tuple #[.int .i64 c2, .int .i64 0]) ∧ Below W.heap.size W w')
    (h11 : ∀ W, La W → Calls Tryz.prog 17 #[.string a, .string f] W fun e w' => e = .returned (.tuple #[.string rs, .int .i64 0]) ∧ Below W.heap.size W w')
    (h12 : ∀ W, La W → Calls Tryz.prog 21 #[.string rs, .string ⟨#[48]⟩] W fun e w' => e = .returned (.tuple #[.int .i64 c3, .int .i64 0]) ∧ Below W.heap.size W w')
    (h13 : ∀ W, La W → Calls Tryz.prog 21 #[.string rs, .string ⟨#[49]⟩] W fun e w' => e = .returned (.tuple #[.int .i64 (-1), .int .i64 0]) ∧ Below W.heap.size W w') (w : World) (hl : La w) :
    Calls Tryz.prog 6 #[.string a, .int .u8 m] w fun e w' => e = .returned (.bool true) ∧ Below w.heap.size w w' := by
  have HT := Lib.hid hl
  clear hl
  have C1 := Lib.hid h1
  have C2 := Lib.hid h2
  have C3 := Lib.hid h3
  have C4 := Lib.hid h4
  have C5 := Lib.hid h5
  have C6 := Lib.hid h6
  have C7 := Lib.hid h7
  have C8 := Lib.hid h8
  have C9 := Lib.hid h9
  have C10 := Lib.hid h10
  have C11 := Lib.hid h11
  have C12 := Lib.hid h12
  have C13 := Lib.hid h13
  have Hla := Lib.hid ha
  have hmw : IntKind.i64.wrap m = m := IntWalk.i64_in _ (by omega)
  have W0 : IntKind.i64.wrap (0 + 0) = 0 := by decide
  clear ha hm h1 h2 h3 h4 h5 h6 h7 h8 h9 h10 h11 h12 h13
  go_enter Tryz.func6, Tryz.ntmps6
  go_wp2_with fail
  refine (qawake _ HT.out).mono ?_
  rintro e w1 ⟨rfl, hb1⟩
  have HB1 := Lib.hid (hb1.alloc hb1.size (.cells #[.string a] 22))
  have hc := strs_cells1 w1 a
  have HLo := Lib.hid (long1_no w1.heap.size a _ Hla.out hc)
  clear hb1 hc
  go_wp2_with fail
  refine HLo.out.mono ?_
  rintro e w' ⟨rfl, rfl⟩
  go_wp2_with fail
  refine (C1.out _ (HT.out.on HB1.out)).mono ?_
  rintro e w2 ⟨rfl, hb⟩
  have HB2 := Lib.hid (HB1.out.trans (hb.mono HB1.out.size))
  clear hb
  go_wp2_with fail
  refine (C2.out _ (HT.out.on HB2.out)).mono ?_
  rintro e w3 ⟨rfl, hb⟩
  have HB3 := Lib.hid (HB2.out.trans (hb.mono HB2.out.size))
  clear hb
  go_wp2_with fail
  refine (C3.out _).mono ?_
  rintro e w4 ⟨rfl, hb⟩
  have HB4 := Lib.hid (HB3.out.trans (hb.mono HB3.out.size))
  clear hb
  go_wp2_with fail
  refine (C4.out _ (HT.out.on HB4.out)).mono ?_
  rintro e w5 ⟨rfl, hb⟩
  have HB5 := Lib.hid (HB4.out.trans (hb.mono HB4.out.size))
  clear hb
  go_wp2_with fail
  refine (C5.out _ (HT.out.on HB5.out)).mono ?_
  rintro e w6 ⟨rfl, hb⟩
  have HB6 := Lib.hid (HB5.out.trans (hb.mono HB5.out.size))
  clear hb
  go_wp2_with fail
  refine (C6.out _ (HT.out.on HB6.out)).mono ?_
  rintro e w7 ⟨rfl, hb⟩
  have HB7 := Lib.hid (HB6.out.trans (hb.mono HB6.out.size))
  clear hb
  go_wp2_with fail
  refine (C7.out _ (HT.out.on HB7.out)).mono ?_
  rintro e w8 ⟨rfl, hb⟩
  have HB8 := Lib.hid (HB7.out.trans (hb.mono HB7.out.size))
  clear hb
  go_wp2_with fail
  refine (C8.out _ (HT.out.on HB8.out)).mono ?_
  rintro e w9 ⟨rfl, hb⟩
  have HB9 := Lib.hid (HB8.out.trans (hb.mono HB8.out.size))
  clear hb
  go_wp2_with fail
  refine (C9.out _ (HT.out.on HB9.out)).mono ?_
  rintro e w10 ⟨rfl, hb⟩
  have HB10 := Lib.hid (HB9.out.trans (hb.mono HB9.out.size))
  clear hb
  go_wp2_with fail
  refine (C10.out _ (HT.out.on HB10.out)).mono ?_
  rintro e w11 ⟨rfl, hb⟩
  have HB11 := Lib.hid (HB10.out.trans (hb.mono HB10.out.size))
  clear hb
  go_wp2_with fail
  refine (C11.out _ (HT.out.on HB11.out)).mono ?_
  rintro e w12 ⟨rfl, hb⟩
  have HB12 := Lib.hid (HB11.out.trans (hb.mono HB11.out.size))
  clear hb
  go_wp2_with fail
  refine (C12.out _ (HT.out.on HB12.out)).mono ?_
  rintro e w13 ⟨rfl, hb⟩
  have HB13 := Lib.hid (HB12.out.trans (hb.mono HB12.out.size))
  clear hb
  go_wp2_with fail
  refine (C13.out _ (HT.out.on HB13.out)).mono ?_
  rintro e w14 ⟨rfl, hb⟩
  have HB14 := Lib.hid (HB13.out.trans (hb.mono HB13.out.size))
  clear hb
  go_wp2
  go_ret
  exact ⟨rfl, HB14.out⟩

theorem decB_cut (z : Int) (n : Nat) (hn : n ≤ 64) (hz : Sm 800 z.natAbs) : ∃ wh pl : ByteArray, (∀ W, Calls Tryz.prog 29 #[.string (decB z n), .string ⟨#[46]⟩] W fun e w' => e = .returned (.tuple #[.string wh, .string pl, .bool (decide ((0 : Int) < (n : Int)))]) ∧ Below W.heap.size W w') ∧ (pl.size : Int) = (n : Int) := by
  have hsz := sz_size hz (by decide)
  rcases Nat.eq_zero_or_pos n with h0 | h0
  · subst h0
    unfold decB
    rw [if_pos rfl]
    refine ⟨⟨(Sz z).data.toList.toArray⟩, ⟨([] : List UInt8).toArray⟩, fun W => ?_, rfl⟩
    have h := cut1 46 (Sz z) (by omega) W
    rw [cut_miss 46 _ (sz_no 46 (by decide) (by decide) z)] at h
    exact h
  · unfold decB
    rw [if_neg (by omega), show decide ((0 : Int) < (n : Int)) = true by rw [decide_eq_true_iff]; omega]
    by_cases hs : z < 0
    · obtain ⟨m, hm, rfl⟩ : ∃ m : Nat, m ≠ 0 ∧ z = -(m : Int) := ⟨z.natAbs, by omega, by omega⟩
      rw [if_pos hs, Int.natAbs_neg, Int.natAbs_natCast]
      rw [sz_neg hm, size_mk] at hsz
      simp only [List.length_cons] at hsz
      refine ⟨⟨(45 :: headL (Lib.decDigits m) n).toArray⟩, ⟨(tailL (Lib.decDigits m) n).toArray⟩, fun W => ?_, by rw [size_mk, tail_len]⟩
      have h := cut1 46 ⟨(45 :: pointL (Lib.decDigits m) n).toArray⟩ (by rw [size_mk, List.length_cons, point_len]; omega) W
      rw [mk_list, point_cut_neg] at h
      exact h
    · obtain ⟨m, rfl⟩ : ∃ m : Nat, z = (m : Int) := ⟨z.natAbs, by omega⟩
      rw [if_neg hs, Int.natAbs_natCast]
      rw [sz_nat] at hsz
      unfold Sn at hsz
      rw [size_mk] at hsz
      exact ⟨_, _, (pts m n h0 hn (by omega)).cut, by rw [size_mk, tail_len]⟩
theorem smq_int {k : Nat} {z : Int} (h : Sm k z.natAbs) (hk : 1 ≤ k) : SmQ k (Rat.ofInt z) := ⟨h, (show Sm 1 1 by simp [Sm]).mono hk⟩
theorem qn2 : Sq 2 = ⟨#[50]⟩ := by decide +kernel
theorem qnm1 : Sq (-1) = ⟨#[45, 49]⟩ := by decide +kernel
theorem near_yes (x : Rat) (m : Int) (hm : 0 ≤ m ∧ m ≤ 255) (sa : (Sq x).size ≤ 60) (w : World) (hl : La w) :
    Calls Tryz.prog 6 #[.string (Sq x), .int .u8 m] w fun e w' => e = .returned (.bool true) ∧ Below w.heap.size w w' := by
  obtain ⟨k, hk⟩ : ∃ k : Nat, m % 20 = (k : Int) := ⟨(m % 20).toNat, by omega⟩
  have hk2 : m.tmod 20 = (k : Int) := by rw [Int.tmod_eq_emod_of_nonneg hm.1]; exact hk
  have hk19 : k ≤ 19 := by omega
  have hx : SmQ 60 x := smq_of sa (by decide)
  have fx : FitQ x := hx.fit (by decide)
  obtain ⟨T, hT⟩ : ∃ T : Int, T = ((10 ^ k : Nat) : Int) := ⟨_, rfl⟩
  have sT : Sm 20 T.natAbs := by rw [hT]; exact sm_pow10 k 20 (by omega)
  have T0 : 0 < T := by rw [hT]; have : 0 < 10 ^ k := Nat.pow_pos (by decide); omega
  obtain ⟨z, hz⟩ : ∃ z, z = nearZ (x.num * T) (x.den : Int) := ⟨_, rfl⟩
  have hd0 : (0 : Int) < (x.den : Int) := by have := x.den_nz; omega
  have sz : Sm 82 z.natAbs := by
    rw [hz]
    refine near_sm (k := 80) hd0 ?_ (by rw [Int.natAbs_natCast]; exact Sm.mono (k := 60) hx.2 (by decide))
    rw [Int.natAbs_mul]
    exact (Sm.mul (k := 60) (l := 20) hx.1 sT).mono (by decide)
  obtain ⟨X, hX⟩ : ∃ X, X = Rat.divInt z T := ⟨_, rfl⟩
  have sX : SmQ 82 X := by rw [hX]; exact smq_divInt (by omega) sz (sT.mono (by decide))
  obtain ⟨d, hd⟩ : ∃ d, X - x = d := ⟨_, rfl⟩
  have sd : SmQ 143 d := by rw [← hd]; exact (sX.sub hx).mono (by decide)
  obtain ⟨t, ht⟩ : ∃ t, d * 2 = t := ⟨_, rfl⟩
  have s2 : SmQ 1 2 := ⟨by unfold Sm; decide +kernel, by unfold Sm; decide +kernel⟩
  have st : SmQ 144 t := by rw [← ht]; exact (sd.mul s2).mono (by decide)
  obtain ⟨sc, hsc⟩ : ∃ sc, t * Rat.ofInt T = sc := ⟨_, rfl⟩
  have sTq : SmQ 20 (Rat.ofInt T) := smq_int sT (by decide)
  have ssc : SmQ 164 sc := by rw [← hsc]; exact (st.mul sTq).mono (by decide)
  obtain ⟨fl, hfl⟩ : ∃ fl : Int, fl = x.num / (x.den : Int) := ⟨_, rfl⟩
  have sfl : Sm 61 fl.natAbs := by
    refine Sm.le (n := x.num.natAbs + 1) (Sm.add (k := 60) hx.1 ((show Sm 1 1 by simp [Sm]).mono (by decide))) ?_
    have := Int.natAbs_ediv_le_natAbs x.num (x.den : Int)
    rw [hfl]; omega
  obtain ⟨rs, hrs⟩ : ∃ rs, x - Rat.ofInt fl = rs := ⟨_, rfl⟩
  have srs : SmQ 122 rs := by rw [← hrs]; exact (hx.sub (smq_int sfl (by decide))).mono (by decide)
  have hDr : (0 : Rat) < ((x.den : Int) : Rat) := by exact_mod_cast hd0
  have hTr : ((T : Int) : Rat) ≠ 0 := by
    intro h0
    have : T = 0 := by exact_mod_cast h0
    omega
  have hXT : X * ((T : Int) : Rat) = ((z : Int) : Rat) := by rw [hX, Rat.divInt_eq_div]; exact Rat.div_mul_cancel hTr
  have hnb := near_bound (x.num * T) (x.den : Int) z hd0 hz
  obtain ⟨n1, n2⟩ := rat_near z x.num (x.den : Int) T X x hDr hXT (mul_den x) hnb.1 hnb.2
  have esc : (X - x) * 2 * ((T : Int) : Rat) = sc := by rw [hd, ht]; exact hsc
  rw [esc] at n1 n2
  obtain ⟨f1, f2⟩ := rat_floor x
  rw [← hfl, hrs] at f1 f2
  obtain ⟨wh, pl, hcut, hpl⟩ := decB_cut z k (by omega) (sz.mono (by decide))
  have h1 := fun W hW => qDecimal x k (by omega) fx W hW
  rw [← hT, ← hz] at h1
  have h2 := fun W hW => qfloor x fx W hW
  rw [← hfl, ← sq_ofInt] at h2
  have h4 := fun W hW => qParse z k (by omega) (sz.mono (by decide)) W hW
  rw [← hT, ← hX] at h4
  have h5 := fun W hW => qSub X x d hd (sX.fit (by decide)) fx W hW
  have h6 := fun W (hW : La W) => nPowV 10 k (10 ^ k) (k : Int) rfl rfl (by omega) ((show Sm 2 10 by simp [Sm]).mono (by decide)) W hW.tb
  rw [show Sn 10 = ⟨#[49, 48]⟩ by decide +kernel, ← sz_nat, ← hT, ← sq_ofInt] at h6
  have h7 := fun W hW => qMul d 2 t ht (sd.fit (by decide)) (s2.fit (by decide)) W hW
  rw [qn2] at h7
  have h8 := fun W hW => qMul t (Rat.ofInt T) sc hsc (st.fit (by decide)) (sTq.fit (by decide)) W hW
  have h9 := fun W hW => qCompare sc 1 _ rfl (ssc.fit (by decide)) (fitq_small (by decide +kernel) (by decide +kernel)) W hW
  rw [q_1] at h9
  have h10 := fun W hW => qCompare sc (-1) _ rfl (ssc.fit (by decide)) (fitq_small (by decide +kernel) (by decide +kernel)) W hW
  rw [qnm1] at h10
  have h11 := fun W hW => qSub x (Rat.ofInt fl) rs hrs fx ((smq_int sfl (by decide)).fit (by decide)) W hW
  have h12 := fun W hW => qCompare rs 0 _ rfl (srs.fit (by decide)) (fitq_small (by decide +kernel) (by decide +kernel)) W hW
  rw [q_0] at h12
  have h13 := fun W hW => qCompare rs 1 (-1) (cmpQ_lt f2) (srs.fit (by decide)) (fitq_small (by decide +kernel) (by decide +kernel)) W hW
  rw [q_1] at h13
  exact near_raw _ _ _ _ _ _ _ _ _ wh pl m (k : Int) _ _ _ _ hm sa hk2 rfl hpl (cmpQ_le n1) (cmpQ_ge n2) (cmpQ_ge f1) h1 h2 hcut h4 h5 h6 h7 h8 h9 h10 h11 h12 h13 w hl
theorem near_any (a : ByteArray) (m : Int) (hm : (Lit.int .u8 m).wf = true) (w : World) (hl : La w) :
    Calls Tryz.prog 6 #[.string a, .int .u8 m] w fun e w' => e = .returned (.bool true) ∧ Below w.heap.size w w' := by
  have hm2 : 0 ≤ m ∧ m ≤ 255 := Go.bounds_u8 hm
  by_cases hlo : 60 < a.size
  · exact near_long a m hlo w hl
  · have ha : a.size ≤ 60 := by omega
    cases va : vldQ a.data.toList with
    | false => exact near_no a m hm2 ha va w hl
    | true =>
      have ea := sq_of va
      generalize qval a.data.toList = x at ea
      subst ea
      exact near_yes x m hm2 ha w hl

end Go.Proofs.YtlagimghlngdgaaGreatDoor
