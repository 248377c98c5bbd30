/- rational.Make, powerOfTen, nearest, placePoint, Decimal: walks. -/
import Derived.Test.YtlagimghlngdgaaGreatDoorQj
namespace Go.Proofs.YtlagimghlngdgaaGreatDoor
open Go.RowKit Go.Gb

/-! ### Make -/
theorem extract_eq' (s : ByteArray) (a b : Nat) : (s.extract a b).data.toList = (s.data.toList.drop a).take (b - a) := by
  simp [ByteArray.data_extract, List.extract_eq_take_drop]

set_option maxHeartbeats 2000000 in
set_option maxRecDepth 100000 in
theorem make_bad1 (a b : ByteArray) (w : World) (hl : La w)
    (h1 : ∀ W, La W → Calls Tryz.prog 57 #[.string a] W fun e w' => e = .returned (.bool false) ∧ Below W.heap.size W w') :
    Calls Tryz.prog 25 #[.string a, .string b] w fun e w' => e = .returned (.tuple #[.string ⟨#[]⟩, .int .i64 1]) ∧ Below w.heap.size w w' := by
  have C1 := Lib.hid h1
  have HL := Lib.hid hl
  have HB0 := Lib.hid (Below.refl w.heap.size w)
  clear h1 hl
  go_enter Tryz.func25, Tryz.ntmps25
  go_wp2_with fail
  refine (C1.out _ (HL.out.on HB0.out)).mono ?_
  rintro e w1 ⟨rfl, hb⟩
  have HB1 := Lib.hid (HB0.out.trans (hb.mono HB0.out.size))
  clear hb
  go_wp2
  go_ret2
  exact ⟨rfl, HB1.out⟩
set_option maxHeartbeats 2000000 in
set_option maxRecDepth 100000 in
theorem make_bad2 (a b : ByteArray) (w : World) (hl : La w)
    (h1 : ∀ W, La W → Calls Tryz.prog 57 #[.string a] W fun e w' => e = .returned (.bool true) ∧ Below W.heap.size W w')
    (h2 : ∀ W, La W → Calls Tryz.prog 57 #[.string b] W fun e w' => e = .returned (.bool false) ∧ Below W.heap.size W w') :
    Calls Tryz.prog 25 #[.string a, .string b] w fun e w' => e = .returned (.tuple #[.string ⟨#[]⟩, .int .i64 1]) ∧ Below w.heap.size w w' := by
  have C1 := Lib.hid h1
  have C2 := Lib.hid h2
  have HL := Lib.hid hl
  have HB0 := Lib.hid (Below.refl w.heap.size w)
  clear h1 h2 hl
  go_enter Tryz.func25, Tryz.ntmps25
  go_wp2_with fail
  refine (C1.out _ (HL.out.on HB0.out)).mono ?_
  rintro e w1 ⟨rfl, hb⟩
  have HB1 := Lib.hid (HB0.out.trans (hb.mono HB0.out.size))
  clear hb
  go_wp2_with fail
  refine (C2.out _ (HL.out.on HB1.out)).mono ?_
  rintro e w2 ⟨rfl, hb⟩
  have HB2 := Lib.hid (HB1.out.trans (hb.mono HB1.out.size))
  clear hb
  go_wp2
  go_ret2
  exact ⟨rfl, HB2.out⟩
set_option maxHeartbeats 2000000 in
set_option maxRecDepth 100000 in
theorem make_zero (a : ByteArray) (w : World) (hl : La w)
    (h1 : ∀ W, La W → Calls Tryz.prog 57 #[.string a] W fun e w' => e = .returned (.bool true) ∧ Below W.heap.size W w')
    (h2 : ∀ W, La W → Calls Tryz.prog 57 #[.string ⟨#[48]⟩] W fun e w' => e = .returned (.bool true) ∧ Below W.heap.size W w') :
    Calls Tryz.prog 25 #[.string a, .string ⟨#[48]⟩] w fun e w' => e = .returned (.tuple #[.string ⟨#[]⟩, .int .i64 16]) ∧ Below w.heap.size w w' := by
  have C1 := Lib.hid h1
  have C2 := Lib.hid h2
  have HL := Lib.hid hl
  have HB0 := Lib.hid (Below.refl w.heap.size w)
  clear h1 h2 hl
  go_enter Tryz.func25, Tryz.ntmps25
  go_wp2_with fail
  refine (C1.out _ (HL.out.on HB0.out)).mono ?_
  rintro e w1 ⟨rfl, hb⟩
  have HB1 := Lib.hid (HB0.out.trans (hb.mono HB0.out.size))
  clear hb
  go_wp2_with fail
  refine (C2.out _ (HL.out.on HB1.out)).mono ?_
  rintro e w2 ⟨rfl, hb⟩
  have HB2 := Lib.hid (HB1.out.trans (hb.mono HB1.out.size))
  clear hb
  go_wp2
  go_ret2
  exact ⟨rfl, HB2.out⟩
set_option maxHeartbeats 2000000 in
set_option maxRecDepth 100000 in
theorem make_raw (a b n d r : ByteArray) (hb0 : (b.toList == [48]) = false) (w : World) (hl : La w)
    (h1 : ∀ W, La W → Calls Tryz.prog 57 #[.string a] W fun e w' => e = .returned (.bool true) ∧ Below W.heap.size W w')
    (h2 : ∀ W, La W → Calls Tryz.prog 57 #[.string b] W fun e w' => e = .returned (.bool true) ∧ Below W.heap.size W w')
    (h3 : ∀ W, La W → Calls Tryz.prog 58 #[.string a, .string b] W fun e w' => e = .returned (.agg #[.string n, .string d]) ∧ Below W.heap.size W w')
    (h4 : ∀ W, Calls Tryz.prog 59 #[.agg #[.string n, .string d]] W fun e w' => e = .returned (.string r) ∧ Below W.heap.size W w') :
    Calls Tryz.prog 25 #[.string a, .string b] w fun e w' => e = .returned (.tuple #[.string r, .int .i64 0]) ∧ Below w.heap.size w w' := by
  have C1 := Lib.hid h1
  have C2 := Lib.hid h2
  have C3 := Lib.hid h3
  have C4 := Lib.hid h4
  have HL := Lib.hid hl
  have HB0 := Lib.hid (Below.refl w.heap.size w)
  clear h1 h2 h3 h4 hl
  go_enter Tryz.func25, Tryz.ntmps25
  go_wp2_with fail
  refine (C1.out _ (HL.out.on HB0.out)).mono ?_
  rintro e w1 ⟨rfl, hb⟩
  have HB1 := Lib.hid (HB0.out.trans (hb.mono HB0.out.size))
  clear hb
  go_wp2_with fail
  refine (C2.out _ (HL.out.on HB1.out)).mono ?_
  rintro e w2 ⟨rfl, hb⟩
  have HB2 := Lib.hid (HB1.out.trans (hb.mono HB1.out.size))
  clear hb
  go_wp2_with fail
  refine (C3.out _ (HL.out.on HB2.out)).mono ?_
  rintro e w3 ⟨rfl, hb⟩
  have HB3 := Lib.hid (HB2.out.trans (hb.mono HB2.out.size))
  clear hb
  go_wp2_with fail
  refine (C4.out _).mono ?_
  rintro e w4 ⟨rfl, hb⟩
  have HB4 := Lib.hid (HB3.out.trans (hb.mono HB3.out.size))
  clear hb
  go_wp2
  go_ret2
  exact ⟨rfl, HB4.out⟩
theorem divInt_le (a b : Int) (hb : b ≠ 0) : (Rat.divInt a b).num.natAbs ≤ a.natAbs ∧ (Rat.divInt a b).den ≤ b.natAbs := by
  rcases Int.lt_or_gt_of_ne hb with h | h
  · obtain ⟨n, hn⟩ : ∃ n : Nat, b = -(n : Int) := ⟨b.natAbs, by omega⟩
    subst hn
    have h2 := mk_le (-a) n (by omega)
    rw [Rat.divInt_neg', Rat.divInt_ofNat]
    rw [Int.natAbs_neg] at h2
    rw [Int.natAbs_neg, Int.natAbs_natCast]
    exact h2
  · obtain ⟨n, hn⟩ : ∃ n : Nat, b = (n : Int) := ⟨b.natAbs, by omega⟩
    subst hn
    rw [Rat.divInt_ofNat, Int.natAbs_natCast]
    exact mk_le a n (by omega)
theorem smq_divInt {k : Nat} {a b : Int} (hb : b ≠ 0) (ha : Sm k a.natAbs) (h : Sm k b.natAbs) : SmQ k (Rat.divInt a b) := by
  obtain ⟨e1, e2⟩ := divInt_le a b hb
  exact ⟨ha.le e1, h.le e2⟩
theorem qMake (a b : Int) (hb : b ≠ 0) (ha : FitL a) (fb : FitL b) (w : World) (hl : La w) :
    Calls Tryz.prog 25 #[.string (Sz a), .string (Sz b)] w fun e w' => e = .returned (.tuple #[.string (Sq (Rat.divInt a b)), .int .i64 0]) ∧ Below w.heap.size w w' := by
  have hs : SmQ 1900 (Rat.divInt a b) := smq_divInt hb ha fb
  have h3 := fun W hW => freduce a b hb ha fb W hW
  unfold Fv at h3
  exact make_raw _ _ _ _ _ (sz_neq0 hb) w hl (fun W hW => zValid_yes a ha.z W hW.zz) (fun W hW => zValid_yes b fb.z W hW.zz) h3 (fun W => fwrite _ hs.1 (FitL.nat hs.2) W)
theorem qMake_zero (a : Int) (ha : FitL a) (w : World) (hl : La w) :
    Calls Tryz.prog 25 #[.string (Sz a), .string ⟨#[48]⟩] w fun e w' => e = .returned (.tuple #[.string ⟨#[]⟩, .int .i64 16]) ∧ Below w.heap.size w w' :=
  make_zero _ w hl (fun W hW => zValid_yes a ha.z W hW.zz) (fun W hW => by have := zValid_yes 0 fl0.z W hW.zz; rwa [sz_zero] at this)

/-! ### powers of ten, the nearest integer -/
theorem dec_pow10 : ∀ n : Nat, Lib.decDigits (10 ^ n) = 49 :: Lib.repeatL [48] n
  | 0 => by decide +kernel
  | n + 1 => by
    have h := dec_pow10 n
    have hp : 1 ≤ 10 ^ n := Nat.one_le_pow _ _ (by decide)
    rw [Lib.decDigits, dif_neg (by rw [Nat.pow_succ]; omega), show 10 ^ (n + 1) / 10 = 10 ^ n by rw [Nat.pow_succ]; omega, show 10 ^ (n + 1) % 10 = 0 by rw [Nat.pow_succ]; omega, h, Lib.repeatL_add [48] n 1, Lib.repeatL_one]
    rfl
theorem sz_pow10 (n : Nat) : Sz ((10 ^ n : Nat) : Int) = ⟨#[49]⟩ ++ ⟨(Lib.repeatL [48] n).toArray⟩ := by
  rw [sz_nat]
  unfold Sn
  rw [dec_pow10]
  apply ByteArray.ext
  apply Array.ext'
  simp

set_option maxHeartbeats 2000000 in
set_option maxRecDepth 100000 in
theorem rpow10 (n : Nat) (hn : n ≤ 1000) (w : World) :
    Calls Tryz.prog 65 #[.int .i64 (n : Int)] w fun e w' => e = .returned (.string (Sz ((10 ^ n : Nat) : Int))) ∧ Below w.heap.size w w' := by
  have HR := Lib.hid (Tryz.strings_Repeat ⟨#[48]⟩ n w (by omega) (by show 1 * n ≤ _; omega))
  rw [show (⟨#[48]⟩ : ByteArray).data.toList = [48] from rfl] at HR
  have hsz : (⟨(Lib.repeatL [48] n).toArray⟩ : ByteArray).size = n := by rw [size_mk, Lib.repeatL_length]; simp
  have e1 := fun W : World => run_string_add_sum (P := Tryz.prog) W ⟨#[49]⟩ ⟨(Lib.repeatL [48] n).toArray⟩ (by rw [hsz]; show 1 + n ≤ _; omega)
  rw [← sz_pow10] at e1
  generalize (⟨(Lib.repeatL [48] n).toArray⟩ : ByteArray) = r at *
  generalize Sz ((10 ^ n : Nat) : Int) = s at *
  clear hsz hn
  go_enter Tryz.func65, Tryz.ntmps65
  go_wp2_with fail
  refine HR.out.mono ?_
  rintro e w1 ⟨rfl, hb⟩
  go_wp2
  go_ret
  exact ⟨rfl, hb⟩
theorem sm_pow10 (n k : Nat) (h : n < k) : Sm k ((10 ^ n : Nat) : Int).natAbs := by
  rw [Int.natAbs_natCast]
  exact Nat.pow_lt_pow_right (by decide) h
/-- The integer nearest to a quotient. -/
def nearZ (x d : Int) : Int := if x < 0 then -(((x.natAbs : Int) * 2 + d) / (d * 2)) else ((x.natAbs : Int) * 2 + d) / (d * 2)

set_option maxHeartbeats 2000000 in
set_option maxRecDepth 100000 in
theorem near_neg_raw (a b s t u v q r n : ByteArray) (w : World) (hl : La w)
    (h1 : ∀ W, La W → Calls Tryz.prog 23 #[.string a] W fun e w' => e = .returned (.tuple #[.string s, .int .i64 0]) ∧ Below W.heap.size W w')
    (h2 : ∀ W, La W → Calls Tryz.prog 64 #[.string s, .string ⟨#[50]⟩] W fun e w' => e = .returned (.string t) ∧ Below W.heap.size W w')
    (h3 : ∀ W, La W → Calls Tryz.prog 120 #[.string t, .string b] W fun e w' => e = .returned (.string u) ∧ Below W.heap.size W w')
    (h4 : ∀ W, La W → Calls Tryz.prog 64 #[.string b, .string ⟨#[50]⟩] W fun e w' => e = .returned (.string v) ∧ Below W.heap.size W w')
    (h5 : ∀ W, La W → Calls Tryz.prog 66 #[.string u, .string v] W fun e w' => e = .returned (.tuple #[.string q, .string r, .int .i64 0]) ∧ Below W.heap.size W w')
    (h6 : ∀ W, La W → Calls Tryz.prog 86 #[.string a] W fun e w' => e = .returned (.int .i64 (-1)) ∧ Below W.heap.size W w')
    (h7 : ∀ W, La W → Calls Tryz.prog 113 #[.string q] W fun e w' => e = .returned (.string n) ∧ Below W.heap.size W w') :
    Calls Tryz.prog 63 #[.string a, .string b] w fun e w' => e = .returned (.string n) ∧ Below w.heap.size w w' := by
  have C1 := Lib.hid h1
  have C2 := Lib.hid h2
  have C3 := Lib.hid h3
  have C4 := Lib.hid h4
  have C5 := Lib.hid h5
  have C6 := Lib.hid h6
  have C7 := Lib.hid h7
  have HL := Lib.hid hl
  have HB0 := Lib.hid (Below.refl w.heap.size w)
  clear h1 h2 h3 h4 h5 h6 h7 hl
  go_enter Tryz.func63, Tryz.ntmps63
  go_wp2_with fail
  refine (C1.out _ (HL.out.on HB0.out)).mono ?_
  rintro e w1 ⟨rfl, hb⟩
  have HB1 := Lib.hid (HB0.out.trans (hb.mono HB0.out.size))
  clear hb
  go_wp2_with fail
  refine (C2.out _ (HL.out.on HB1.out)).mono ?_
  rintro e w2 ⟨rfl, hb⟩
  have HB2 := Lib.hid (HB1.out.trans (hb.mono HB1.out.size))
  clear hb
  go_wp2_with fail
  refine (C3.out _ (HL.out.on HB2.out)).mono ?_
  rintro e w3 ⟨rfl, hb⟩
  have HB3 := Lib.hid (HB2.out.trans (hb.mono HB2.out.size))
  clear hb
  go_wp2_with fail
  refine (C4.out _ (HL.out.on HB3.out)).mono ?_
  rintro e w4 ⟨rfl, hb⟩
  have HB4 := Lib.hid (HB3.out.trans (hb.mono HB3.out.size))
  clear hb
  go_wp2_with fail
  refine (C5.out _ (HL.out.on HB4.out)).mono ?_
  rintro e w5 ⟨rfl, hb⟩
  have HB5 := Lib.hid (HB4.out.trans (hb.mono HB4.out.size))
  clear hb
  go_wp2_with fail
  refine (C6.out _ (HL.out.on HB5.out)).mono ?_
  rintro e w6 ⟨rfl, hb⟩
  have HB6 := Lib.hid (HB5.out.trans (hb.mono HB5.out.size))
  clear hb
  go_wp2_with fail
  refine (C7.out _ (HL.out.on HB6.out)).mono ?_
  rintro e w7 ⟨rfl, hb⟩
  have HB7 := Lib.hid (HB6.out.trans (hb.mono HB6.out.size))
  clear hb
  go_wp2
  go_ret
  exact ⟨rfl, HB7.out⟩
set_option maxHeartbeats 2000000 in
set_option maxRecDepth 100000 in
theorem near_pos_raw (a b s t u v q r : ByteArray) (g : Int) (hg : 0 ≤ g) (w : World) (hl : La w)
    (h1 : ∀ W, La W → Calls Tryz.prog 23 #[.string a] W fun e w' => e = .returned (.tuple #[.string s, .int .i64 0]) ∧ Below W.heap.size W w')
    (h2 : ∀ W, La W → Calls Tryz.prog 64 #[.string s, .string ⟨#[50]⟩] W fun e w' => e = .returned (.string t) ∧ Below W.heap.size W w')
    (h3 : ∀ W, La W → Calls Tryz.prog 120 #[.string t, .string b] W fun e w' => e = .returned (.string u) ∧ Below W.heap.size W w')
    (h4 : ∀ W, La W → Calls Tryz.prog 64 #[.string b, .string ⟨#[50]⟩] W fun e w' => e = .returned (.string v) ∧ Below W.heap.size W w')
    (h5 : ∀ W, La W → Calls Tryz.prog 66 #[.string u, .string v] W fun e w' => e = .returned (.tuple #[.string q, .string r, .int .i64 0]) ∧ Below W.heap.size W w')
    (h6 : ∀ W, La W → Calls Tryz.prog 86 #[.string a] W fun e w' => e = .returned (.int .i64 g) ∧ Below W.heap.size W w') :
    Calls Tryz.prog 63 #[.string a, .string b] w fun e w' => e = .returned (.string q) ∧ Below w.heap.size w w' := by
  have C1 := Lib.hid h1
  have C2 := Lib.hid h2
  have C3 := Lib.hid h3
  have C4 := Lib.hid h4
  have C5 := Lib.hid h5
  have C6 := Lib.hid h6
  have HL := Lib.hid hl
  have HB0 := Lib.hid (Below.refl w.heap.size w)
  have hg1 : decide (g < 0) = false := by rw [decide_eq_false_iff_not]; omega
  clear hg
  clear h1 h2 h3 h4 h5 h6 hl
  go_enter Tryz.func63, Tryz.ntmps63
  go_wp2_with fail
  refine (C1.out _ (HL.out.on HB0.out)).mono ?_
  rintro e w1 ⟨rfl, hb⟩
  have HB1 := Lib.hid (HB0.out.trans (hb.mono HB0.out.size))
  clear hb
  go_wp2_with fail
  refine (C2.out _ (HL.out.on HB1.out)).mono ?_
  rintro e w2 ⟨rfl, hb⟩
  have HB2 := Lib.hid (HB1.out.trans (hb.mono HB1.out.size))
  clear hb
  go_wp2_with fail
  refine (C3.out _ (HL.out.on HB2.out)).mono ?_
  rintro e w3 ⟨rfl, hb⟩
  have HB3 := Lib.hid (HB2.out.trans (hb.mono HB2.out.size))
  clear hb
  go_wp2_with fail
  refine (C4.out _ (HL.out.on HB3.out)).mono ?_
  rintro e w4 ⟨rfl, hb⟩
  have HB4 := Lib.hid (HB3.out.trans (hb.mono HB3.out.size))
  clear hb
  go_wp2_with fail
  refine (C5.out _ (HL.out.on HB4.out)).mono ?_
  rintro e w5 ⟨rfl, hb⟩
  have HB5 := Lib.hid (HB4.out.trans (hb.mono HB4.out.size))
  clear hb
  go_wp2_with fail
  refine (C6.out _ (HL.out.on HB5.out)).mono ?_
  rintro e w6 ⟨rfl, hb⟩
  have HB6 := Lib.hid (HB5.out.trans (hb.mono HB5.out.size))
  clear hb
  go_wp2
  go_ret
  exact ⟨rfl, HB6.out⟩
theorem rnearest (x d : Int) (hd : 0 < d) (hx : Sm 1800 x.natAbs) (fd : Sm 1800 d.natAbs) (w : World) (hl : La w) :
    Calls Tryz.prog 63 #[.string (Sz x), .string (Sz d)] w fun e w' => e = .returned (.string (Sz (nearZ x d))) ∧ Below w.heap.size w w' := by
  have f2 : Sm 1 (2 : Int).natAbs := show Sm 1 2 by simp [Sm]
  have s0 : Sm 1800 (x.natAbs : Int).natAbs := by rw [Int.natAbs_natCast]; exact hx
  have s1 : Sm 1801 ((x.natAbs : Int) * 2).natAbs := by rw [Int.natAbs_mul]; exact (Sm.mul s0 f2).mono (by decide)
  have s2 : Sm 1802 ((x.natAbs : Int) * 2 + d).natAbs := Sm.le ((Sm.add s1 (fd.mono (by decide))).mono (by decide)) (Int.natAbs_add_le _ _)
  have s3 : Sm 1801 (d * 2).natAbs := by rw [Int.natAbs_mul]; exact (Sm.mul fd f2).mono (by decide)
  have f0 : FitL x := FitL.of hx (by decide)
  have fd1 : FitL d := FitL.of fd (by decide)
  have h1 := fun W (hW : La W) => zAbs x f0.z W hW
  rw [← sz_nat] at h1
  have h2 := fun W hW => rtimes (x.natAbs : Int) 2 _ rfl (FitL.of s0 (by decide)) fl2 (FitL.of s1 (by decide)) W hW
  have h3 := fun W hW => rplus ((x.natAbs : Int) * 2) d _ rfl (FitL.of s1 (by decide)) fd1 (FitL.of s2 (by decide)) W hW
  have h4 := fun W hW => rtimes d 2 _ rfl fd1 fl2 (FitL.of s3 (by decide)) W hW
  rw [sz_two] at h2 h4
  have f3 : FitL ((x.natAbs : Int) * 2 + d) := FitL.of s2 (by decide)
  have h5 := fun W (hW : La W) => zDivMod ((x.natAbs : Int) * 2 + d) (d * 2) _ _ (by omega) rfl rfl f3.z (FitL.of s3 (by decide)).z f3.succ W hW
  unfold nearZ
  by_cases hn : x < 0
  · rw [if_pos hn]
    have f4 : FitL (((x.natAbs : Int) * 2 + d) / (d * 2)) := FitL.le f3 (Int.natAbs_ediv_le_natAbs _ _)
    exact near_neg_raw _ _ _ _ _ _ _ _ _ w hl h1 h2 h3 h4 h5 (fun W hW => rsign _ _ (Int.sign_eq_neg_one_of_neg hn) f0 W hW) (fun W hW => rneg _ _ rfl f4 W hW)
  · rw [if_neg hn]
    refine near_pos_raw _ _ _ _ _ _ _ _ x.sign ?_ w hl h1 h2 h3 h4 h5 (fun W hW => rsign _ _ rfl f0 W hW)
    rcases Int.lt_trichotomy x 0 with h | h | h
    · omega
    · subst h; simp
    · rw [Int.sign_eq_one_of_pos h]; decide

/-! ### placePoint -/
/-- Digits with a point ahead of the last n, noughts ahead of them. -/
def padL (l : List UInt8) (n : Nat) : List UInt8 := Lib.repeatL [48] (n + 1 - l.length) ++ l
def pointL (l : List UInt8) (n : Nat) : List UInt8 := (padL l n).take ((padL l n).length - n) ++ 46 :: (padL l n).drop ((padL l n).length - n)
theorem pad_len (l : List UInt8) (n : Nat) : (padL l n).length = max (n + 1) l.length := by
  unfold padL
  rw [List.length_append, Lib.repeatL_length]
  simp
  omega
def pointB (l : List UInt8) (n : Nat) : ByteArray := ⟨(pointL l n).toArray⟩

set_option maxHeartbeats 2000000 in
set_option maxRecDepth 100000 in
theorem place_zero (a : ByteArray) (w : World) :
    Calls Tryz.prog 62 #[.string a, .int .i64 0] w fun e w' => e = .returned (.string a) ∧ Below w.heap.size w w' := by
  go_enter Tryz.func62, Tryz.ntmps62
  go_wp2
  go_ret
  exact ⟨rfl, Below.refl _ _⟩
set_option maxHeartbeats 2000000 in
set_option maxRecDepth 100000 in
theorem place_neg (a dg : ByteArray) (n : Nat) (hn : 1 ≤ n) (hn2 : n ≤ 64) (hd : dg.size ≤ 3000) (w : World)
    (h1 : ∀ W, Calls Tryz.prog 68 #[.string a, .string ⟨#[45]⟩] W fun e w' => e = .returned (.tuple #[.string dg, .bool true]) ∧ W = w') :
    Calls Tryz.prog 62 #[.string a, .int .i64 (n : Int)] w fun e w' => e = .returned (.string (⟨#[45]⟩ ++ pointB dg.data.toList n)) ∧ Below w.heap.size w w' := by
  obtain ⟨c, hc⟩ : ∃ c : Nat, c = n + 1 - dg.size := ⟨_, rfl⟩
  have HR := Lib.hid (fun W => Tryz.strings_Repeat ⟨#[48]⟩ c W (by omega) (by show 1 * c ≤ _; omega))
  rw [show (⟨#[48]⟩ : ByteArray).data.toList = [48] from rfl] at HR
  have hr : (⟨(Lib.repeatL [48] c).toArray⟩ : ByteArray).size = c := by rw [size_mk, Lib.repeatL_length]; simp
  obtain ⟨p, hp⟩ : ∃ p : ByteArray, p = ⟨(Lib.repeatL [48] c).toArray⟩ ++ dg := ⟨_, rfl⟩
  have hpl : p.data.toList = padL dg.data.toList n := by
    rw [hp]; unfold padL; rw [size_list, ← hc]; simp
  have hps : p.size = max (n + 1) dg.size := by rw [← size_list, hpl, pad_len, size_list]
  have e1 := fun W : World => run_string_add_sum (P := Tryz.prog) W ⟨(Lib.repeatL [48] c).toArray⟩ dg (by rw [hr]; omega)
  rw [← hp] at e1
  obtain ⟨m, hm⟩ : ∃ m : Nat, m + n = p.size := ⟨p.size - n, by omega⟩
  have x1 : (p.extract 0 m).size = m := by rw [ByteArray.size_extract]; omega
  have x2 : (p.extract m p.size).size = n := by rw [ByteArray.size_extract]; omega
  have z1 : (⟨#[46]⟩ : ByteArray).size = 1 := rfl
  have x3 : (p.extract 0 m ++ ⟨#[46]⟩ : ByteArray).size = m + 1 := by rw [ByteArray.size_append, x1, z1]
  have e2 := fun W : World => run_string_add_sum (P := Tryz.prog) W (p.extract 0 m) ⟨#[46]⟩ (by rw [x1, z1]; omega)
  have e3 := fun W : World => run_string_add_sum (P := Tryz.prog) W (p.extract 0 m ++ ⟨#[46]⟩) (p.extract m p.size) (by rw [x3, x2]; omega)
  have ef : p.extract 0 m ++ ⟨#[46]⟩ ++ p.extract m p.size = pointB dg.data.toList n := by
    unfold pointB pointL
    rw [← hpl, size_list, show p.size - n = m by omega]
    apply ByteArray.ext
    apply Array.ext'
    simp only [ByteArray.data_append, Array.toList_append]
    rw [extract_eq', extract_eq']
    simp
    rw [List.take_of_length_le (by rw [List.length_drop, size_list]; omega)]
  rw [ef] at e3
  have z2 : (⟨#[45]⟩ : ByteArray).size = 1 := rfl
  have x4 : (pointB dg.data.toList n).size = m + 1 + n := by rw [← ef, ByteArray.size_append, x3, x2]
  have e4 := fun W : World => run_string_add_sum (P := Tryz.prog) W ⟨#[45]⟩ (pointB dg.data.toList n) (by rw [z2, x4]; omega)
  generalize pointB dg.data.toList n = out at *
  have k0 : ((n : Int) == 0) = false := by rw [beq_eq_false_iff_ne]; omega
  have k1 : IntKind.i64.wrap ((n : Int) + 1) = (n : Int) + 1 := IntWalk.i64_in _ (by omega)
  have k2 : IntKind.i64.wrap ((n : Int) + 1 - (dg.size : Int)) = (n : Int) + 1 - (dg.size : Int) := IntWalk.i64_in _ (by omega)
  have k3 : max (0 : Int) ((n : Int) + 1 - (dg.size : Int)) = (c : Int) := by omega
  have k4 : (p.size : Int) - (n : Int) = (m : Int) := by omega
  have k5 : IntKind.i64.wrap (m : Int) = (m : Int) := IntWalk.i64_in _ (by omega)
  have k6 : (m : Int) ≤ (p.size : Int) := by omega
  have C1 := Lib.hid h1
  have kn : ¬ (n : Int) = 0 := by omega
  clear h1 hc hr hp hpl hps hm x1 x2 z1 x3 ef hn hn2 hd z2 x4
  go_enter Tryz.func62, Tryz.ntmps62
  go_wp2_with fail
  refine (C1.out _).mono ?_
  rintro e w' ⟨rfl, rfl⟩
  go_wp2_with fail
  refine (HR.out _).mono ?_
  rintro e w1 ⟨rfl, hb⟩
  have HB := Lib.hid hb
  clear hb
  go_wp2
  go_region
  all_goals
    go_wp2
    go_ret
    exact ⟨rfl, HB.out.drew⟩
set_option maxHeartbeats 2000000 in
set_option maxRecDepth 100000 in
theorem place_pos (a dg : ByteArray) (n : Nat) (hn : 1 ≤ n) (hn2 : n ≤ 64) (hd : dg.size ≤ 3000) (w : World)
    (h1 : ∀ W, Calls Tryz.prog 68 #[.string a, .string ⟨#[45]⟩] W fun e w' => e = .returned (.tuple #[.string dg, .bool false]) ∧ W = w') :
    Calls Tryz.prog 62 #[.string a, .int .i64 (n : Int)] w fun e w' => e = .returned (.string (pointB dg.data.toList n)) ∧ Below w.heap.size w w' := by
  obtain ⟨c, hc⟩ : ∃ c : Nat, c = n + 1 - dg.size := ⟨_, rfl⟩
  have HR := Lib.hid (fun W => Tryz.strings_Repeat ⟨#[48]⟩ c W (by omega) (by show 1 * c ≤ _; omega))
  rw [show (⟨#[48]⟩ : ByteArray).data.toList = [48] from rfl] at HR
  have hr : (⟨(Lib.repeatL [48] c).toArray⟩ : ByteArray).size = c := by rw [size_mk, Lib.repeatL_length]; simp
  obtain ⟨p, hp⟩ : ∃ p : ByteArray, p = ⟨(Lib.repeatL [48] c).toArray⟩ ++ dg := ⟨_, rfl⟩
  have hpl : p.data.toList = padL dg.data.toList n := by
    rw [hp]; unfold padL; rw [size_list, ← hc]; simp
  have hps : p.size = max (n + 1) dg.size := by rw [← size_list, hpl, pad_len, size_list]
  have e1 := fun W : World => run_string_add_sum (P := Tryz.prog) W ⟨(Lib.repeatL [48] c).toArray⟩ dg (by rw [hr]; omega)
  rw [← hp] at e1
  obtain ⟨m, hm⟩ : ∃ m : Nat, m + n = p.size := ⟨p.size - n, by omega⟩
  have x1 : (p.extract 0 m).size = m := by rw [ByteArray.size_extract]; omega
  have x2 : (p.extract m p.size).size = n := by rw [ByteArray.size_extract]; omega
  have z1 : (⟨#[46]⟩ : ByteArray).size = 1 := rfl
  have x3 : (p.extract 0 m ++ ⟨#[46]⟩ : ByteArray).size = m + 1 := by rw [ByteArray.size_append, x1, z1]
  have e2 := fun W : World => run_string_add_sum (P := Tryz.prog) W (p.extract 0 m) ⟨#[46]⟩ (by rw [x1, z1]; omega)
  have e3 := fun W : World => run_string_add_sum (P := Tryz.prog) W (p.extract 0 m ++ ⟨#[46]⟩) (p.extract m p.size) (by rw [x3, x2]; omega)
  have ef : p.extract 0 m ++ ⟨#[46]⟩ ++ p.extract m p.size = pointB dg.data.toList n := by
    unfold pointB pointL
    rw [← hpl, size_list, show p.size - n = m by omega]
    apply ByteArray.ext
    apply Array.ext'
    simp only [ByteArray.data_append, Array.toList_append]
    rw [extract_eq', extract_eq']
    simp
    rw [List.take_of_length_le (by rw [List.length_drop, size_list]; omega)]
  rw [ef] at e3
  generalize pointB dg.data.toList n = out at *
  have k0 : ((n : Int) == 0) = false := by rw [beq_eq_false_iff_ne]; omega
  have k1 : IntKind.i64.wrap ((n : Int) + 1) = (n : Int) + 1 := IntWalk.i64_in _ (by omega)
  have k2 : IntKind.i64.wrap ((n : Int) + 1 - (dg.size : Int)) = (n : Int) + 1 - (dg.size : Int) := IntWalk.i64_in _ (by omega)
  have k3 : max (0 : Int) ((n : Int) + 1 - (dg.size : Int)) = (c : Int) := by omega
  have k4 : (p.size : Int) - (n : Int) = (m : Int) := by omega
  have k5 : IntKind.i64.wrap (m : Int) = (m : Int) := IntWalk.i64_in _ (by omega)
  have k6 : (m : Int) ≤ (p.size : Int) := by omega
  have C1 := Lib.hid h1
  have kn : ¬ (n : Int) = 0 := by omega
  clear h1 hc hr hp hpl hps hm x1 x2 z1 x3 ef hn hn2 hd
  go_enter Tryz.func62, Tryz.ntmps62
  go_wp2_with fail
  refine (C1.out _).mono ?_
  rintro e w' ⟨rfl, rfl⟩
  go_wp2_with fail
  refine (HR.out _).mono ?_
  rintro e w1 ⟨rfl, hb⟩
  have HB := Lib.hid hb
  clear hb
  go_wp2
  go_region
  all_goals
    go_wp2
    go_ret
    exact ⟨rfl, HB.out.drew⟩
end Go.Proofs.YtlagimghlngdgaaGreatDoor
