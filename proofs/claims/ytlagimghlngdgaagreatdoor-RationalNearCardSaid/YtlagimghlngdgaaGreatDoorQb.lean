/- rational: integers as texts: sign, negative, order, plus, times, quotient, readSize, common: walks. -/
import Derived.Test.YtlagimghlngdgaaGreatDoorMib
import Derived.Test.YtlagimghlngdgaaGreatDoorIk
import Derived.Test.YtlagimghlngdgaaGreatDoorEj
namespace Go.Proofs.YtlagimghlngdgaaGreatDoor
open Go.RowKit Go.Gb

/-- What rational's integers keep. -/
def FitL (z : Int) : Prop := Sm 1900 z.natAbs
theorem FitL.z {z : Int} (h : FitL z) : FitZ z := by unfold FitZ Fit; exact Sm.mono (k := 1900) h (by decide)
theorem FitL.succ {z : Int} (h : FitL z) : Fit (z.natAbs + 1) := by
  have h1 : Sm 1900 1 := (show Sm 1 1 by simp [Sm]).mono (by decide)
  unfold Fit; exact Sm.mono (Sm.add (show Sm 1900 z.natAbs from h) h1) (by decide)
theorem fl0 : FitL 0 := (show Sm 1 0 by simp [Sm]).mono (by decide)
theorem fl1 : FitL 1 := (show Sm 1 1 by simp [Sm]).mono (by decide)
theorem fl2 : FitL 2 := (show Sm 1 2 by simp [Sm]).mono (by decide)
theorem FitL.of {k : Nat} {z : Int} (h : Sm k z.natAbs) (hk : k ≤ 1900) : FitL z := h.mono hk
theorem FitL.neg {z : Int} (h : FitL z) : FitL (-z) := by unfold FitL; rwa [Int.natAbs_neg]
theorem FitL.le {x y : Int} (h : FitL y) (hx : x.natAbs ≤ y.natAbs) : FitL x := Sm.le h hx
theorem FitL.nat {n : Nat} (h : Sm 1900 n) : FitL (n : Int) := by unfold FitL; rwa [Int.natAbs_natCast]
theorem sz_one : Sz 1 = ⟨#[49]⟩ := by decide +kernel
theorem sz_zero : Sz 0 = ⟨#[48]⟩ := by decide +kernel
theorem sz_two : Sz 2 = ⟨#[50]⟩ := by decide +kernel
theorem sz_toList (x : Int) : (Sz x).toList = (Sz x).data.toList := toList_data _
theorem sz_neq {x y : Int} (h : x ≠ y) : ((Sz x).toList == (Sz y).toList) = false := by
  rw [beq_eq_false_iff_ne, toList_data, toList_data]
  intro h2
  apply h
  rw [← sz_val x, h2, sz_val]
theorem sz_neq1 {x : Int} (h : x ≠ 1) : ((Sz x).toList == [49]) = false := by
  have := sz_neq h
  rw [sz_one, toList_data ⟨#[49]⟩] at this
  exact this
theorem sz_neq0 {x : Int} (h : x ≠ 0) : ((Sz x).toList == [48]) = false := by
  have := sz_neq h
  rw [sz_zero, toList_data ⟨#[48]⟩] at this
  exact this

theorem rsign_raw (a : ByteArray) (s : Int) (w : World) 
    (hc : Calls Tryz.prog 134 #[.string a] w fun e w' => e = .returned (.tuple #[.int .i64 s, .int .i64 0]) ∧ Below w.heap.size w w') :
    Calls Tryz.prog 86 #[.string a] w fun e w' => e = .returned (.int .i64 s) ∧ Below w.heap.size w w' := by
  have HC := Lib.hid hc
  clear hc
  go_enter Tryz.func86, Tryz.ntmps86
  go_wp2_with fail
  refine HC.out.mono ?_
  rintro e w1 ⟨rfl, hb⟩
  go_wp2
  go_ret
  exact ⟨rfl, hb⟩
theorem rneg_raw (a : ByteArray) (r : ByteArray) (w : World) 
    (hc : Calls Tryz.prog 149 #[.string a] w fun e w' => e = .returned (.tuple #[.string r, .int .i64 0]) ∧ Below w.heap.size w w') :
    Calls Tryz.prog 113 #[.string a] w fun e w' => e = .returned (.string r) ∧ Below w.heap.size w w' := by
  have HC := Lib.hid hc
  clear hc
  go_enter Tryz.func113, Tryz.ntmps113
  go_wp2_with fail
  refine HC.out.mono ?_
  rintro e w1 ⟨rfl, hb⟩
  go_wp2
  go_ret
  exact ⟨rfl, hb⟩
theorem rorder_raw (a : ByteArray) (b : ByteArray) (s : Int) (w : World) 
    (hc : Calls Tryz.prog 141 #[.string a, .string b] w fun e w' => e = .returned (.tuple #[.int .i64 s, .int .i64 0]) ∧ Below w.heap.size w w') :
    Calls Tryz.prog 101 #[.string a, .string b] w fun e w' => e = .returned (.int .i64 s) ∧ Below w.heap.size w w' := by
  have HC := Lib.hid hc
  clear hc
  go_enter Tryz.func101, Tryz.ntmps101
  go_wp2_with fail
  refine HC.out.mono ?_
  rintro e w1 ⟨rfl, hb⟩
  go_wp2
  go_ret
  exact ⟨rfl, hb⟩
theorem rplus_raw (a : ByteArray) (b : ByteArray) (r : ByteArray) (w : World) 
    (hc : Calls Tryz.prog 159 #[.string a, .string b] w fun e w' => e = .returned (.tuple #[.string r, .int .i64 0]) ∧ Below w.heap.size w w') :
    Calls Tryz.prog 120 #[.string a, .string b] w fun e w' => e = .returned (.string r) ∧ Below w.heap.size w w' := by
  have HC := Lib.hid hc
  clear hc
  go_enter Tryz.func120, Tryz.ntmps120
  go_wp2_with fail
  refine HC.out.mono ?_
  rintro e w1 ⟨rfl, hb⟩
  go_wp2
  go_ret
  exact ⟨rfl, hb⟩
theorem rtimes_raw (a : ByteArray) (b : ByteArray) (r : ByteArray) (w : World) 
    (hc : Calls Tryz.prog 26 #[.string a, .string b] w fun e w' => e = .returned (.tuple #[.string r, .int .i64 0]) ∧ Below w.heap.size w w') :
    Calls Tryz.prog 64 #[.string a, .string b] w fun e w' => e = .returned (.string r) ∧ Below w.heap.size w w' := by
  have HC := Lib.hid hc
  clear hc
  go_enter Tryz.func64, Tryz.ntmps64
  go_wp2_with fail
  refine HC.out.mono ?_
  rintro e w1 ⟨rfl, hb⟩
  go_wp2
  go_ret
  exact ⟨rfl, hb⟩
theorem rquo_raw (a : ByteArray) (b : ByteArray) (r r2 : ByteArray) (w : World) (hb1 : (b.toList == [49]) = false)
    (hc : Calls Tryz.prog 66 #[.string a, .string b] w fun e w' => e = .returned (.tuple #[.string r, .string r2, .int .i64 0]) ∧ Below w.heap.size w w') :
    Calls Tryz.prog 115 #[.string a, .string b] w fun e w' => e = .returned (.string r) ∧ Below w.heap.size w w' := by
  have HC := Lib.hid hc
  clear hc
  go_enter Tryz.func115, Tryz.ntmps115
  go_wp2_with fail
  refine HC.out.mono ?_
  rintro e w1 ⟨rfl, hb⟩
  go_wp2
  go_ret
  exact ⟨rfl, hb⟩

theorem rsign (x s : Int) (hs : x.sign = s) (hx : FitL x) (w : World) (hl : La w) :
    Calls Tryz.prog 86 #[.string (Sz x)] w fun e w' => e = .returned (.int .i64 s) ∧ Below w.heap.size w w' := by
  subst hs; exact rsign_raw _ _ w (zSign x hx.z w hl)
theorem rneg (x y : Int) (h : -x = y) (hx : FitL x) (w : World) (hl : La w) :
    Calls Tryz.prog 113 #[.string (Sz x)] w fun e w' => e = .returned (.string (Sz y)) ∧ Below w.heap.size w w' := by
  subst h; exact rneg_raw _ _ w (zNeg x hx.z w hl)
theorem rorder (x y c : Int) (hc : cmpZ x y = c) (hx : FitL x) (hy : FitL y) (w : World) (hl : La w) :
    Calls Tryz.prog 101 #[.string (Sz x), .string (Sz y)] w fun e w' => e = .returned (.int .i64 c) ∧ Below w.heap.size w w' := rorder_raw _ _ _ w (zCompare x y c hc hx.z hy.z w hl)
theorem rplus (x y z : Int) (hz : x + y = z) (hx : FitL x) (hy : FitL y) (fz : FitL z) (w : World) (hl : La w) :
    Calls Tryz.prog 120 #[.string (Sz x), .string (Sz y)] w fun e w' => e = .returned (.string (Sz z)) ∧ Below w.heap.size w w' := rplus_raw _ _ _ w (zAdd x y z hz hx.z hy.z fz.z w hl)
theorem rtimes (x y z : Int) (hz : x * y = z) (hx : FitL x) (hy : FitL y) (fz : FitL z) (w : World) (hl : La w) :
    Calls Tryz.prog 64 #[.string (Sz x), .string (Sz y)] w fun e w' => e = .returned (.string (Sz z)) ∧ Below w.heap.size w w' := rtimes_raw _ _ _ w (zMul x y z hz hx.z hy.z fz.z w hl)
theorem rquo_one (a : ByteArray) (w : World) :
    Calls Tryz.prog 115 #[.string a, .string ⟨#[49]⟩] w fun e w' => e = .returned (.string a) ∧ Below w.heap.size w w' := by
  go_enter Tryz.func115, Tryz.ntmps115
  go_wp2
  go_ret
  exact ⟨rfl, Below.refl _ _⟩
theorem rquo (x y q : Int) (hy : y ≠ 0) (hq : x / y = q) (hx : FitL x) (fy : FitL y) (w : World) (hl : La w) :
    Calls Tryz.prog 115 #[.string (Sz x), .string (Sz y)] w fun e w' => e = .returned (.string (Sz q)) ∧ Below w.heap.size w w' := by
  by_cases h1 : y = 1
  · subst h1
    obtain rfl : x = q := by rw [← hq, Int.ediv_one]
    rw [sz_one]
    exact rquo_one _ w
  · exact rquo_raw _ _ _ _ w (sz_neq1 h1) (zDivMod x y q _ hy hq rfl hx.z fy.z hx.succ w hl)

/-! ### common divisors -/
theorem trimp_z (z : Int) : (⟨(Lib.trimPrefix (Sz z).data.toList [45]).toArray⟩ : ByteArray) = Sn z.natAbs := by
  rcases int_cases z with ⟨n, hn, rfl⟩ | rfl | ⟨n, hn, rfl⟩
  · rw [sz_neg hn, Int.natAbs_neg, Int.natAbs_natCast]
    simp [Lib.trimPrefix, Lib.hasPrefix, List.isPrefixOf, Sn]
  · decide +kernel
  · rw [sz_nat, Int.natAbs_natCast, sn_list]
    obtain ⟨c, t, h, hc⟩ := head_dig (n := n)
    have hp : Lib.hasPrefix (Lib.decDigits n) [45] = false := by
      rw [h]
      have : ¬ 45 = c := fun h2 => hc h2.symm
      simp [Lib.hasPrefix, List.isPrefixOf, this]
    unfold Lib.trimPrefix
    rw [hp]
    rfl
theorem rreadSize (z : Int) (hz : FitL z) (w : World) :
    Calls Tryz.prog 150 #[.string (Sz z)] w fun e w' => ∃ v, e = .returned v ∧ Own .u64 126 w.heap.size w' v (digs z.natAbs) ∧ Below w.heap.size w w' := by
  have HP := Lib.hid (show ∀ W, Calls Tryz.prog 189 #[.string (Sz z), .string ⟨#[45]⟩] W fun e w' => e = .returned (.string (Sn z.natAbs)) ∧ W = w' from fun W => by
    refine (Tryz.strings_TrimPrefix _ _ W).mono ?_
    rintro e w' ⟨rfl, hw⟩
    refine ⟨?_, by first | exact hw.symm | exact hw⟩
    rw [show (⟨#[45]⟩ : ByteArray).data.toList = [45] from rfl, trimp_z])
  have HR := Lib.hid (Read_any (Sn z.natAbs) (by rw [sn_list]; exact dec_all _) (by have := (FitL.z hz).size; omega) w)
  rw [sn_dval] at HR
  generalize Sz z = a at *
  generalize Sn z.natAbs = b at *
  clear hz
  go_enter Tryz.func150, Tryz.ntmps150
  go_wp2_with fail
  refine (HP.out _).mono ?_
  rintro e w' ⟨rfl, rfl⟩
  go_wp2_with fail
  refine HR.out.mono ?_
  rintro e w1 ⟨v, rfl, ho, hb⟩
  have HO := Lib.hid ho
  clear ho
  go_wp2
  go_ret
  exact ⟨v, rfl, HO.out, hb⟩
theorem rcommon_raw (a b c : ByteArray) (x y g : Nat) (h1 : (a.toList == [49]) = false) (h2 : (b.toList == [49]) = false) (w : World) (hl : La w)
    (ha : ∀ W, Calls Tryz.prog 150 #[.string a] W fun e w' => ∃ v, e = .returned v ∧ Own .u64 126 W.heap.size w' v (digs x) ∧ Below W.heap.size W w')
    (hb : ∀ W, Calls Tryz.prog 150 #[.string b] W fun e w' => ∃ v, e = .returned v ∧ Own .u64 126 W.heap.size w' v (digs y) ∧ Below W.heap.size W w')
    (hok : ∀ (v1 v2 : Value) (w : World), Rd .u64 w v1 (digs x) → Rd .u64 w v2 (digs y) → Calls Tryz.prog 55 #[v1, v2] w fun e w' => ∃ v, e = .returned v ∧ Own .u64 126 w.heap.size w' v (digs g) ∧ Below w.heap.size w w')
    (hw : ∀ (v : Value) (w : World), Rd .u64 w v (digs g) → Tb w → Calls Tryz.prog 54 #[v] w fun e w' => e = .returned (.string c) ∧ Below w.heap.size w w') :
    Calls Tryz.prog 114 #[.string a, .string b] w fun e w' => e = .returned (.string c) ∧ Below w.heap.size w w' := by
  have HA := Lib.hid ha
  have HB := Lib.hid hb
  have HK := Lib.hid hok
  have HW := Lib.hid hw
  have HT := Lib.hid hl.tb
  clear ha hb hok hw hl
  go_enter Tryz.func114, Tryz.ntmps114
  go_wp2_with fail
  refine (HA.out _).mono ?_
  rintro e w1 ⟨v1, rfl, ho1, hb1⟩
  have HB1 := Lib.hid hb1
  have HO1 := Lib.hid ho1
  clear hb1 ho1
  go_wp2_with fail
  refine (HB.out _).mono ?_
  rintro e w2 ⟨v2, rfl, ho2, hb2⟩
  have HB2 := Lib.hid (HB1.out.trans (hb2.mono HB1.out.size))
  have hm := Lib.hid (HK.out v1 v2 w2 (HO1.out.rd.below hb2) ho2.rd)
  clear hb2 ho2
  go_wp2_with fail
  refine hm.out.mono ?_
  rintro e w3 ⟨v3, rfl, ho3, hb3⟩
  have HB3 := Lib.hid (HB2.out.trans (hb3.mono HB2.out.size))
  have hwr := Lib.hid (HW.out v3 w3 ho3.rd (HT.out.on HB3.out))
  clear hb3 ho3
  go_wp2_with fail
  refine hwr.out.mono ?_
  rintro e w4 ⟨rfl, hb4⟩
  have HB4 := Lib.hid (HB3.out.trans (hb4.mono HB3.out.size))
  clear hb4
  go_wp2
  go_ret
  exact ⟨rfl, HB4.out⟩
theorem rcommon_one1 (b : ByteArray) (w : World) :
    Calls Tryz.prog 114 #[.string ⟨#[49]⟩, .string b] w fun e w' => e = .returned (.string ⟨#[49]⟩) ∧ Below w.heap.size w w' := by
  go_enter Tryz.func114, Tryz.ntmps114
  go_wp2
  go_ret
  exact ⟨rfl, Below.refl _ _⟩
theorem rcommon_one2 (a : ByteArray) (h1 : (a.toList == [49]) = false) (w : World) :
    Calls Tryz.prog 114 #[.string a, .string ⟨#[49]⟩] w fun e w' => e = .returned (.string ⟨#[49]⟩) ∧ Below w.heap.size w w' := by
  go_enter Tryz.func114, Tryz.ntmps114
  go_wp2
  go_ret
  exact ⟨rfl, Below.refl _ _⟩
theorem digs_fitl {z : Int} (h : FitL z) : (digs z.natAbs).length ≤ 70000 := Nat.le_trans (sm_digs (show Sm 1900 z.natAbs from h) (by decide)) (by decide)
/-- The greatest common divisor of two integers. -/
theorem rcommon (x y g : Int) (hg : ((Nat.gcd x.natAbs y.natAbs : Nat) : Int) = g) (hx : FitL x) (hy : FitL y) (w : World) (hl : La w) :
    Calls Tryz.prog 114 #[.string (Sz x), .string (Sz y)] w fun e w' => e = .returned (.string (Sz g)) ∧ Below w.heap.size w w' := by
  subst hg
  by_cases h1 : x = 1
  · subst h1
    rw [show Nat.gcd (1 : Int).natAbs y.natAbs = 1 from Nat.gcd_one_left _, show ((1 : Nat) : Int) = 1 from rfl, sz_one]
    exact rcommon_one1 _ w
  · by_cases h2 : y = 1
    · subst h2
      rw [show Nat.gcd x.natAbs (1 : Int).natAbs = 1 from Nat.gcd_one_right _, show ((1 : Nat) : Int) = 1 from rfl, sz_one]
      exact rcommon_one2 _ (sz_neq1 h1) w
    · have hlg : (digs (Nat.gcd x.natAbs y.natAbs)).length ≤ 100000 := by
        rcases Nat.eq_zero_or_pos x.natAbs with h | h
        · rw [h, Nat.gcd_zero_left]; exact Nat.le_trans (digs_fitl hy) (by decide)
        · exact Nat.le_trans (Nat.le_trans (digs_length_mono (Nat.gcd_le_left _ h)) (digs_fitl hx)) (by decide)
      refine rcommon_raw _ _ _ x.natAbs y.natAbs _ (sz_neq1 h1) (sz_neq1 h2) w hl (fun W => rreadSize x hx W) (fun W => rreadSize y hy W) (Common_any _ _ (digs_fitl hx) (digs_fitl hy)) (fun v W hr ht => ?_)
      rw [sz_nat]
      exact Write_any v _ hlg W hr ht

end Go.Proofs.YtlagimghlngdgaaGreatDoor
