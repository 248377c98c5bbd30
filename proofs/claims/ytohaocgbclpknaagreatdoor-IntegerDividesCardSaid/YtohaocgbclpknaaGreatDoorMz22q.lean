/- Texts of this proof, one behind the other. -/
import Derived.Test.YtohaocgbclpknaaGreatDoorIl
/- integer.Bezout: walks. -/
namespace Go.Proofs.YtohaocgbclpknaaGreatDoor
open Go.RowKit Go.Gb

set_option maxHeartbeats 4000000 in
set_option maxRecDepth 100000 in
theorem bezout_walk (a1 a2 : ByteArray) (s t x p r y z : Int) (b c gs xb pb rb yb zb rx ry : ByteArray) (ht : t ≠ 0) (w : World) (hl : Zz w)
    (hread : Calls Tryz.prog 19 #[.string a1, .string a2] w fun e w' => e = .returned (.tuple #[.agg #[.int .i64 s, .string b], .agg #[.int .i64 t, .string c], .bool true]) ∧ Below w.heap.size w w')
    (hcomb : ∀ W, Below w.heap.size w W → Calls Tryz.prog 26 #[.agg #[.int .i64 s, .string b], .agg #[.int .i64 t, .string c]] W fun e w' => e = .returned (.tuple #[.string gs, .agg #[.int .i64 x, .string xb]]) ∧ Below W.heap.size W w')
    (hmul : ∀ W, Below w.heap.size w W → Calls Tryz.prog 28 #[.agg #[.int .i64 s, .string b], .agg #[.int .i64 x, .string xb]] W fun e w' => e = .returned (.agg #[.int .i64 p, .string pb]) ∧ Below W.heap.size W w')
    (hsub : ∀ W, Below w.heap.size w W → Calls Tryz.prog 27 #[.agg #[.int .i64 1, .string gs], .agg #[.int .i64 p, .string pb]] W fun e w' => e = .returned (.agg #[.int .i64 r, .string rb]) ∧ Below W.heap.size W w')
    (hdiv : ∀ W, Below w.heap.size w W → Calls Tryz.prog 20 #[.agg #[.int .i64 r, .string rb], .agg #[.int .i64 t, .string c]] W fun e w' => e = .returned (.tuple #[.agg #[.int .i64 y, .string yb], .agg #[.int .i64 z, .string zb]]) ∧ Below W.heap.size W w')
    (hs1 : ∀ W, Calls Tryz.prog 21 #[.agg #[.int .i64 x, .string xb]] W fun e w' => e = .returned (.string rx) ∧ Below W.heap.size W w')
    (hs2 : ∀ W, Calls Tryz.prog 21 #[.agg #[.int .i64 y, .string yb]] W fun e w' => e = .returned (.string ry) ∧ Below W.heap.size W w') :
    Calls Tryz.prog 8 #[.string a1, .string a2] w fun e w' => e = .returned (.tuple #[.string gs, .string rx, .string ry, .int .i64 0]) ∧ Below w.heap.size w w' := by
  have HR := Lib.hid hread
  have HC := Lib.hid hcomb
  have HM := Lib.hid hmul
  have HS := Lib.hid hsub
  have HD := Lib.hid hdiv
  have HS1 := Lib.hid hs1
  have HS2 := Lib.hid hs2
  have HZ := Lib.hid hl
  have ht1 : (t == 0) = false := by simpa using ht
  clear hread hcomb hmul hsub hdiv hs1 hs2 hl
  go_enter Tryz.func8, Tryz.ntmps8
  go_wp2_with fail
  refine HR.out.mono ?_
  rintro e w1 ⟨rfl, hb1⟩
  have HB1 := Lib.hid ((hb1.alloc hb1.size (.cells #[.int .i64 s, .string b] 40)).alloc (by have := hb1.size; simp; omega) (.cells #[.int .i64 t, .string c] 40))
  have HN8 := Lib.hid ((Nb.new w1 s b).alloc (.cells #[.int .i64 t, .string c] 40))
  have hn9 := Nb.new (w1.alloc (.cells #[.int .i64 s, .string b] 40)) t c
  rw [World.size_alloc] at hn9
  have HN9 := Lib.hid hn9
  obtain ⟨z0, z1, z2⟩ := HZ.out.on HB1.out
  clear hb1 hn9
  go_wp2_with fail
  refine (HC.out _ HB1.out).mono ?_
  rintro e w2 ⟨rfl, hb2⟩
  have HB2 := Lib.hid ((HB1.out.trans (hb2.mono HB1.out.size)).alloc (HB1.out.trans (hb2.mono HB1.out.size)).size (.cells #[.int .i64 x, .string xb] 40))
  have n8 := (HN8.out.below hb2).alloc (.cells #[.int .i64 x, .string xb] 40)
  have n9 := (HN9.out.below hb2).alloc (.cells #[.int .i64 x, .string xb] 40)
  have n12 := Nb.new w2 x xb
  have HN8 := Lib.hid n8
  have HN9 := Lib.hid n9
  have HN12 := Lib.hid n12
  have a0 := n8.c0
  have a1' := n8.c1
  have b0 := n9.c0
  have b1 := n9.c1
  have d0 := n12.c0
  have d1 := n12.c1
  clear hb2 z0 z1 z2 n8 n9 n12
  go_wp2_with fail
  refine (HM.out _ HB2.out).mono ?_
  rintro e w3 ⟨rfl, hb3⟩
  have HB3 := Lib.hid (HB2.out.trans (hb3.mono HB2.out.size))
  have HN9 := Lib.hid (HN9.out.below hb3)
  have HN12 := Lib.hid (HN12.out.below hb3)
  clear hb3 a0 a1' b0 b1 d0 d1
  go_wp2_with fail
  refine (HS.out _ HB3.out).mono ?_
  rintro e w4 ⟨rfl, hb4⟩
  have HB4 := Lib.hid ((HB3.out.trans (hb4.mono HB3.out.size)).alloc (HB3.out.trans (hb4.mono HB3.out.size)).size (.cells #[.int .i64 r, .string rb] 40))
  have n9 := (HN9.out.below hb4).alloc (.cells #[.int .i64 r, .string rb] 40)
  have HN12 := Lib.hid ((HN12.out.below hb4).alloc (.cells #[.int .i64 r, .string rb] 40))
  have b0 := n9.c0
  have b1 := n9.c1
  clear hb4 n9
  go_wp2_with fail
  refine (HD.out _ HB4.out).mono ?_
  rintro e w5 ⟨rfl, hb5⟩
  have HB5 := Lib.hid (((HB4.out.trans (hb5.mono HB4.out.size)).alloc (HB4.out.trans (hb5.mono HB4.out.size)).size (.cells #[.int .i64 y, .string yb] 40)).alloc (by have := (HB4.out.trans (hb5.mono HB4.out.size)).size; simp; omega) (.cells #[.int .i64 z, .string zb] 40))
  have n12 := ((HN12.out.below hb5).alloc (.cells #[.int .i64 y, .string yb] 40)).alloc (.cells #[.int .i64 z, .string zb] 40)
  have n14 := (Nb.new w5 y yb).alloc (.cells #[.int .i64 z, .string zb] 40)
  have d0 := n12.c0
  have d1 := n12.c1
  have l14 := n14.lt
  have e0 := n14.c0
  have e1 := n14.c1
  clear hb5 n12 n14 b0 b1
  go_wp2
  go_region_with (first | (go_at_call 21; (with_reducible refine (HS1.out _).mono ?_); rintro e w6 ⟨rfl, hb6⟩; have HB6 : Below w.heap.size w w6 := (by first | exact HB5.out.trans (hb6.mono HB5.out.size) | exact HB5.out.drew.trans (hb6.mono HB5.out.drew.size)); have g0 : w6.cell? ⟨w5.heap.size, 0, none⟩ = some (.int .i64 y) := (by first | exact (hb6.cell (p := ⟨w5.heap.size, 0, none⟩) l14).trans e0); have g1 : w6.cell? ⟨w5.heap.size, 1, none⟩ = some (.string yb) := (by first | exact (hb6.cell (p := ⟨w5.heap.size, 1, none⟩) l14).trans e1)) | (go_at_call 21; (with_reducible refine (HS2.out _).mono ?_); rintro e w7 ⟨rfl, hb7⟩; have HB7 : Below w.heap.size w w7 := (HB6.trans (hb7.mono HB6.size))))
  all_goals
    clear hb6 hb7
    go_wp2
    refine bodyPost_ret (v := .tuple #[.string gs, .string rx, .string ry, .int .i64 0]) (by simp [results, Tryz.results8, go_sem]) rfl ⟨rfl, HB7⟩

end Go.Proofs.YtohaocgbclpknaaGreatDoor
/- The chapter's examples: garboardlaw02.awake returns true: walks. -/
namespace Go.Proofs.YtohaocgbclpknaaGreatDoor
open Go.RowKit Go.Gb

/-- The size of an integer is less than a power of ten. -/
def SmZ (k : Nat) (z : Int) : Prop := Sm k z.natAbs
theorem SmZ.fit {k : Nat} {z : Int} (h : SmZ k z) (hk : k ≤ 2000) : FitZ z := by unfold FitZ Fit; exact Sm.mono h hk
theorem SmZ.neg {k : Nat} {z : Int} (h : SmZ k z) : SmZ k (-z) := by unfold SmZ at *; rwa [Int.natAbs_neg]
theorem SmZ.add {k : Nat} {x y : Int} (hx : SmZ k x) (hy : SmZ k y) : SmZ (k + 1) (x + y) := Sm.le (Sm.add hx hy) (Int.natAbs_add_le x y)
theorem SmZ.sub {k : Nat} {x y : Int} (hx : SmZ k x) (hy : SmZ k y) : SmZ (k + 1) (x - y) := by rw [Int.sub_eq_add_neg]; exact hx.add hy.neg
theorem SmZ.mul {k l : Nat} {x y : Int} (hx : SmZ k x) (hy : SmZ l y) : SmZ (k + l) (x * y) := by unfold SmZ; rw [Int.natAbs_mul]; exact Sm.mul hx hy
theorem SmZ.succ {k : Nat} {x : Int} (hx : SmZ k x) (hk : k < 2000) : Fit (x.natAbs + 1) := by
  have h1 : Sm k 1 ∨ k = 0 := by
    rcases Nat.eq_zero_or_pos k with h | h
    · exact Or.inr h
    · left; unfold Sm; exact Nat.one_lt_pow (by omega) (by decide)
  rcases h1 with h1 | h1
  · unfold Fit; exact Sm.mono (Sm.add hx h1) (by omega)
  · subst h1
    have h2 : x.natAbs < 1 := by simpa [SmZ, Sm] using hx
    have h3 : x.natAbs + 1 = 1 := by omega
    rw [h3]; exact fit1
theorem smz_of {z : Int} {k : Nat} (h : (Sz z).size ≤ k) : SmZ k z := by
  unfold SmZ
  rcases int_cases z with ⟨n, hn, rfl⟩ | rfl | ⟨n, hn, rfl⟩
  · rw [Int.natAbs_neg, Int.natAbs_natCast]
    rw [sz_neg hn] at h
    have h1 := Sm.of (a := Sn n) (k := k) (sn_vld n) (by
      have h2 : (Sn n).size = (Lib.decDigits n).length := by rw [← size_list, sn_list]
      have h3 : (⟨(45 :: Lib.decDigits n).toArray⟩ : ByteArray).size = (Lib.decDigits n).length + 1 := by simp [ByteArray.size]
      omega)
    rwa [sn_dval] at h1
  · rw [show Sz 0 = Sn 0 from sz_nat 0] at h
    have h1 := Sm.of (a := Sn 0) (k := k) (sn_vld 0) h
    rwa [sn_dval] at h1
  · rw [Int.natAbs_natCast]
    rw [sz_nat] at h
    have h1 := Sm.of (a := Sn n) (k := k) (sn_vld n) h
    rwa [sn_dval] at h1
theorem fz9 {z : Int} (h : z.natAbs < 1000000000) : FitZ z := by unfold FitZ Fit; exact Sm.mono (k := 9) h (by decide)
theorem f9 {n : Nat} (h : n < 1000000000) : Fit n := by unfold Fit; exact Sm.mono (k := 9) h (by decide)

theorem From_any (n : Int) (h0 : -9223372036854775808 ≤ n) (h1 : n ≤ 9223372036854775807) (w : World) (hl : La w) :
    Calls Tryz.prog 17 #[.int .i64 n] w fun e w' => e = .returned (.string ⟨(Lib.itoa n).toArray⟩) ∧ Below w.heap.size w w' := by
  have HI := Lib.hid (Tryz.strconv_Itoa n h0 h1 w hl.tb)
  clear hl h0 h1
  go_enter Tryz.func17, Tryz.ntmps17
  go_wp2_with fail
  refine HI.out.mono ?_
  rintro e w1 ⟨rfl, k, os, rfl⟩
  have HB := Lib.hid (Lib.below_grow w.heap.size w (Nat.le_refl _) k os)
  go_wp2
  go_ret
  exact ⟨rfl, HB.out⟩

theorem l_n7 : Sz (-7) = ⟨#[45, 55]⟩ := by decide +kernel
theorem l_2 : Sz (2) = ⟨#[50]⟩ := by decide +kernel
theorem l_n2 : Sz (-2) = ⟨#[45, 50]⟩ := by decide +kernel
theorem l_12 : Sz (12) = ⟨#[49, 50]⟩ := by decide +kernel
theorem l_n18 : Sz (-18) = ⟨#[45, 49, 56]⟩ := by decide +kernel
theorem l_n5 : Sz (-5) = ⟨#[45, 53]⟩ := by decide +kernel
theorem l_3 : Sz (3) = ⟨#[51]⟩ := by decide +kernel
theorem l_n4 : Sz (-4) = ⟨#[45, 52]⟩ := by decide +kernel
theorem l_1 : Sz (1) = ⟨#[49]⟩ := by decide +kernel
theorem l_4 : Sz (4) = ⟨#[52]⟩ := by decide +kernel
theorem l_n8 : Sz (-8) = ⟨#[45, 56]⟩ := by decide +kernel
theorem l_n15 : Sz (-15) = ⟨#[45, 49, 53]⟩ := by decide +kernel
theorem l_5 : Sz (5) = ⟨#[53]⟩ := by decide +kernel

theorem iex_dm1 (w : World) (hl : La w) : Calls Tryz.prog 6 #[.string ⟨#[45, 55]⟩, .string ⟨#[50]⟩] w fun e w' => e = .returned (.tuple #[.string ⟨#[45, 52]⟩, .string ⟨#[49]⟩, .int .i64 0]) ∧ Below w.heap.size w w' := by
  have h := zDivMod (-7) 2 (-4) 1 (by decide) (by decide) (by decide) (fz9 (by decide)) (fz9 (by decide)) (f9 (by decide)) w hl
  rw [l_n7, l_2, l_n4, l_1] at h
  exact h

theorem iex_dm2 (w : World) (hl : La w) : Calls Tryz.prog 6 #[.string ⟨#[45, 55]⟩, .string ⟨#[45, 50]⟩] w fun e w' => e = .returned (.tuple #[.string ⟨#[52]⟩, .string ⟨#[49]⟩, .int .i64 0]) ∧ Below w.heap.size w w' := by
  have h := zDivMod (-7) (-2) 4 1 (by decide) (by decide) (by decide) (fz9 (by decide)) (fz9 (by decide)) (f9 (by decide)) w hl
  rw [l_n7, l_n2, l_4, l_1] at h
  exact h

theorem iex_add (w : World) (hl : La w) : Calls Tryz.prog 10 #[.string ⟨#[45, 53]⟩, .string ⟨#[51]⟩] w fun e w' => e = .returned (.tuple #[.string ⟨#[45, 50]⟩, .int .i64 0]) ∧ Below w.heap.size w w' := by
  have h := zAdd (-5) 3 (-2) (by decide) (fz9 (by decide)) (fz9 (by decide)) (fz9 (by decide)) w hl
  rw [l_n5, l_3, l_n2] at h
  exact h

theorem iex_sub (w : World) (hl : La w) : Calls Tryz.prog 11 #[.string ⟨#[45, 53]⟩, .string ⟨#[51]⟩] w fun e w' => e = .returned (.tuple #[.string ⟨#[45, 56]⟩, .int .i64 0]) ∧ Below w.heap.size w w' := by
  have h := zSub (-5) 3 (-8) (by decide) (fz9 (by decide)) (fz9 (by decide)) (fz9 (by decide)) w hl
  rw [l_n5, l_3, l_n8] at h
  exact h

theorem iex_mul (w : World) (hl : La w) : Calls Tryz.prog 12 #[.string ⟨#[45, 53]⟩, .string ⟨#[51]⟩] w fun e w' => e = .returned (.tuple #[.string ⟨#[45, 49, 53]⟩, .int .i64 0]) ∧ Below w.heap.size w w' := by
  have h := zMul (-5) 3 (-15) (by decide) (fz9 (by decide)) (fz9 (by decide)) (fz9 (by decide)) w hl
  rw [l_n5, l_3, l_n15] at h
  exact h

theorem iex_cmp (w : World) (hl : La w) : Calls Tryz.prog 16 #[.string ⟨#[45, 53]⟩, .string ⟨#[51]⟩] w fun e w' => e = .returned (.tuple #[.int .i64 (-1), .int .i64 0]) ∧ Below w.heap.size w w' := by
  have h := zCompare (-5) 3 (-1) (by decide) (fz9 (by decide)) (fz9 (by decide)) w hl
  rw [l_n5, l_3] at h
  exact h

theorem iex_sign (w : World) (hl : La w) : Calls Tryz.prog 13 #[.string ⟨#[45, 53]⟩] w fun e w' => e = .returned (.tuple #[.int .i64 (-1), .int .i64 0]) ∧ Below w.heap.size w w' := by
  have h := zSign (-5) (fz9 (by decide)) w hl
  rw [l_n5] at h
  exact h
theorem iex_abs (w : World) (hl : La w) : Calls Tryz.prog 14 #[.string ⟨#[45, 53]⟩] w fun e w' => e = .returned (.tuple #[.string ⟨#[53]⟩, .int .i64 0]) ∧ Below w.heap.size w w' := by
  have h := zAbs (-5) (fz9 (by decide)) w hl
  rw [l_n5, show Sn (-5 : Int).natAbs = ⟨#[53]⟩ by decide +kernel] at h
  exact h
theorem iex_neg (w : World) (hl : La w) : Calls Tryz.prog 15 #[.string ⟨#[45, 53]⟩] w fun e w' => e = .returned (.tuple #[.string ⟨#[53]⟩, .int .i64 0]) ∧ Below w.heap.size w w' := by
  have h := zNeg (-5) (fz9 (by decide)) w hl
  rw [l_n5, show -(-5 : Int) = 5 by decide, l_5] at h
  exact h
theorem iex_from (w : World) (hl : La w) : Calls Tryz.prog 17 #[.int .i64 (-7)] w fun e w' => e = .returned (.string ⟨#[45, 55]⟩) ∧ Below w.heap.size w w' := by
  have h := From_any (-7) (by decide) (by decide) w hl
  rw [show (⟨(Lib.itoa (-7)).toArray⟩ : ByteArray) = ⟨#[45, 55]⟩ by decide +kernel] at h
  exact h
theorem iex_v1 (w : World) (hl : La w) : Calls Tryz.prog 18 #[.string ⟨#[45, 49]⟩] w fun e w' => e = .returned (.bool true) ∧ Below w.heap.size w w' := by
  have h := zValid_yes (-1) (fz9 (by decide)) w hl.zz
  rw [show Sz (-1) = ⟨#[45, 49]⟩ by decide +kernel] at h
  exact h
theorem iex_v2 (w : World) : Calls Tryz.prog 18 #[.string ⟨#[45, 48]⟩] w fun e w' => e = .returned (.bool false) ∧ Below w.heap.size w w' := zValid_no _ (by decide +kernel) (by decide) w
theorem iex_v3 (w : World) : Calls Tryz.prog 18 #[.string ⟨#[45]⟩] w fun e w' => e = .returned (.bool false) ∧ Below w.heap.size w w' := zValid_no _ (by decide +kernel) (by decide) w

theorem gcd_12_18 : Nat.gcd 12 18 = 6 := by decide +kernel
theorem len_le1 {n : Nat} (h : n < 1000000000) : (digs n).length ≤ 1 := digs_length_le (k := 1) (by simpa [BB] using h)
def Pk12 (f : Nat) (neg : Bool) : Prop := (∃ k : Int, (if neg then -(f : Int) else (f : Int)) * 12 = 6 + k * 18) ∧ (digs f).length ≤ 2
theorem comb_12_18 (v1 v2 : Value) (W : World) (h1 : Rd .u64 W v1 (digs 12)) (h2 : Rd .u64 W v2 (digs 18)) : Calls Tryz.prog 51 #[v1, v2] W fun e w' => ∃ (u v : Value) (f : Nat) (neg : Bool), e = .returned (.tuple #[u, v, .bool neg]) ∧ Own .u64 82 W.heap.size w' u (digs 6) ∧ Own .u64 82 W.heap.size w' v (digs f) ∧ Hid (Pk12 f neg) ∧ Below W.heap.size W w' := by
  have l12 := len_le1 (n := 12) (by decide)
  have l18 := len_le1 (n := 18) (by decide)
  refine (Combine_short 12 18 (by decide) (by omega) (by omega) v1 v2 W h1 h2).mono ?_
  rintro e w' ⟨u, v, f, neg, rfl, o1, o2, hk, hlen, hb⟩
  rw [gcd_12_18] at o1 hk
  refine ⟨u, v, f, neg, rfl, o1, o2, Lib.hid ⟨?_, by omega⟩, hb⟩
  obtain ⟨k, hk⟩ := hk
  exact ⟨k, by simpa using hk⟩
theorem pk12_facts (f : Nat) (neg : Bool) (h : Pk12 f neg) : (digs f).length ≤ 100000 ∧ ∀ z2 : Int, z2 = (if neg then -((1 : Int) * (f : Int)) else (1 : Int) * (f : Int)) → z2 % ((3 : Nat) : Int) = 2 ∧ FitZ z2 ∧ Fit (z2.natAbs + 1) := by
  obtain ⟨⟨k, hk⟩, hl⟩ := h
  have hf := lt_two hl
  refine ⟨by omega, ?_⟩
  rintro z2 rfl
  rw [Int.one_mul]
  have hn : (if neg then -(f : Int) else (f : Int)).natAbs = f := by cases neg <;> simp
  refine ⟨?_, ?_, ?_⟩
  · generalize (if neg then -(f : Int) else (f : Int)) = z at hk
    show z % 3 = 2
    omega
  · unfold FitZ Fit
    rw [hn]
    exact Sm.mono (k := 18) (show f < 10 ^ 18 by simpa using hf) (by decide)
  · unfold Fit
    rw [hn]
    exact Sm.mono (k := 19) (show f + 1 < 10 ^ 19 by omega) (by decide)

theorem zvn18 : Zv (-18) = .agg #[.int .i64 (-1), .string (Sn 18)] := by unfold Zv; rw [show Int.sign (-18) = -1 by decide, show Int.natAbs (-18) = 18 by decide]
theorem zvp1 : Zv 1 = .agg #[.int .i64 1, .string (Sn 1)] := by unfold Zv; rw [show Int.sign 1 = 1 by decide, show Int.natAbs 1 = 1 by decide]
theorem zvp0 : Zv 0 = .agg #[.int .i64 0, .string (Sn 0)] := by unfold Zv; rw [show Int.sign 0 = 0 by decide, show Int.natAbs 0 = 0 by decide]
/-- Bezout of 12 and -18. -/
theorem iex_bez (w : World) (hl : La w) : Calls Tryz.prog 8 #[.string ⟨#[49, 50]⟩, .string ⟨#[45, 49, 56]⟩] w fun e w' => e = .returned (.tuple #[.string ⟨#[54]⟩, .string ⟨#[50]⟩, .string ⟨#[49]⟩, .int .i64 0]) ∧ Below w.heap.size w w' := by
  have sn18 : Sz (-18) = ⟨#[45, 49, 56]⟩ := l_n18
  refine bezout_walk ⟨#[49, 50]⟩ ⟨#[45, 49, 56]⟩ 1 (-1) 1 1 (-1) 1 0 (Sn 12) (Sn 18) ⟨#[54]⟩ (Sn 2) (Sn 24) (Sn 18) (Sn 1) (Sn 0) ⟨#[50]⟩ ⟨#[49]⟩ (by decide) w hl.zz ?_ ?_ ?_ ?_ ?_ ?_ ?_
  · have h := readBoth_yes 12 (-18) (fz9 (by decide)) (fz9 (by decide)) w hl.zz
    rw [l_12, l_n18] at h
    exact h
  · intro W hb
    have h := combine_walk 1 (-1) 12 18 6 3 2 Pk12 (Or.inl rfl) (by decide) (f9 (by decide)) (f9 (by decide)) (f9 (by decide)) (by decide) (by decide) (by have := len_le1 (n := 6) (by decide); omega) (f9 (by decide)) W (hl.on hb) comb_12_18 pk12_facts
    rw [show Sn 6 = ⟨#[54]⟩ by decide +kernel] at h
    exact h
  · intro W hb
    exact multiply_any 12 2 (fz9 (by decide)) (fz9 (by decide)) W (hl.on hb)
  · intro W hb
    have h := zsubtract 6 24 (fz9 (by decide)) (fz9 (by decide)) W (hl.on hb)
    rw [show Zv 6 = .agg #[.int .i64 1, .string (Sn 6)] from rfl, show Sn 6 = ⟨#[54]⟩ by decide +kernel] at h
    exact h
  · intro W hb
    have h := divide_e (-18) (-18) 1 0 (by decide) (by decide) (by decide) (fz9 (by decide)) (fz9 (by decide)) (f9 (by decide)) W (hl.on hb)
    rw [zvn18, zvp1, zvp0] at h
    exact h
  · intro W
    have h := string_any 2 (fz9 (by decide)) W
    rw [l_2] at h
    exact h
  · intro W
    have h := string_any 1 (fz9 (by decide)) W
    rw [l_1] at h
    exact h

set_option maxHeartbeats 4000000 in
set_option maxRecDepth 100000 in
theorem iawake (w : World) (hl : La w) : Calls Tryz.prog 4 #[] w fun e w' => e = .returned (.bool true) ∧ Below w.heap.size w w' := by
  have HT := Lib.hid hl
  clear hl
  go_enter Tryz.func4, Tryz.ntmps4
  have HB0 := Lib.hid (Below.refl w.heap.size w)
  go_wp2_with fail
  refine (iex_dm1 _ (HT.out.on HB0.out)).mono ?_
  rintro e w1 ⟨rfl, hb⟩
  have HB1 := Lib.hid (HB0.out.trans (hb.mono HB0.out.size))
  clear hb
  go_wp2_with fail
  refine (iex_dm2 _ (HT.out.on HB1.out)).mono ?_
  rintro e w2 ⟨rfl, hb⟩
  have HB2 := Lib.hid (HB1.out.trans (hb.mono HB1.out.size))
  clear hb
  go_wp2_with fail
  refine (iex_bez _ (HT.out.on HB2.out)).mono ?_
  rintro e w3 ⟨rfl, hb⟩
  have HB3 := Lib.hid (HB2.out.trans (hb.mono HB2.out.size))
  clear hb
  go_wp2_with fail
  refine (iex_add _ (HT.out.on HB3.out)).mono ?_
  rintro e w4 ⟨rfl, hb⟩
  have HB4 := Lib.hid (HB3.out.trans (hb.mono HB3.out.size))
  clear hb
  go_wp2_with fail
  refine (iex_sub _ (HT.out.on HB4.out)).mono ?_
  rintro e w5 ⟨rfl, hb⟩
  have HB5 := Lib.hid (HB4.out.trans (hb.mono HB4.out.size))
  clear hb
  go_wp2_with fail
  refine (iex_mul _ (HT.out.on HB5.out)).mono ?_
  rintro e w6 ⟨rfl, hb⟩
  have HB6 := Lib.hid (HB5.out.trans (hb.mono HB5.out.size))
  clear hb
  go_wp2_with fail
  refine (iex_sign _ (HT.out.on HB6.out)).mono ?_
  rintro e w7 ⟨rfl, hb⟩
  have HB7 := Lib.hid (HB6.out.trans (hb.mono HB6.out.size))
  clear hb
  go_wp2_with fail
  refine (iex_abs _ (HT.out.on HB7.out)).mono ?_
  rintro e w8 ⟨rfl, hb⟩
  have HB8 := Lib.hid (HB7.out.trans (hb.mono HB7.out.size))
  clear hb
  go_wp2_with fail
  refine (iex_neg _ (HT.out.on HB8.out)).mono ?_
  rintro e w9 ⟨rfl, hb⟩
  have HB9 := Lib.hid (HB8.out.trans (hb.mono HB8.out.size))
  clear hb
  go_wp2_with fail
  refine (iex_cmp _ (HT.out.on HB9.out)).mono ?_
  rintro e w10 ⟨rfl, hb⟩
  have HB10 := Lib.hid (HB9.out.trans (hb.mono HB9.out.size))
  clear hb
  go_wp2_with fail
  refine (iex_from _ (HT.out.on HB10.out)).mono ?_
  rintro e w11 ⟨rfl, hb⟩
  have HB11 := Lib.hid (HB10.out.trans (hb.mono HB10.out.size))
  clear hb
  go_wp2_with fail
  refine (iex_v1 _ (HT.out.on HB11.out)).mono ?_
  rintro e w12 ⟨rfl, hb⟩
  have HB12 := Lib.hid (HB11.out.trans (hb.mono HB11.out.size))
  clear hb
  go_wp2_with fail
  refine (iex_v2 _).mono ?_
  rintro e w13 ⟨rfl, hb⟩
  have HB13 := Lib.hid (HB12.out.trans (hb.mono HB12.out.size))
  clear hb
  go_wp2_with fail
  refine (iex_v3 _).mono ?_
  rintro e w14 ⟨rfl, hb⟩
  have HB14 := Lib.hid (HB13.out.trans (hb.mono HB13.out.size))
  clear hb
  go_wp2
  go_ret
  exact ⟨rfl, HB14.out⟩

end Go.Proofs.YtohaocgbclpknaaGreatDoor
/- garboardlaw02.long: walks. -/
namespace Go.Proofs.YtohaocgbclpknaaGreatDoor
open Go.RowKit Go.Gb

theorem strs_cells2 (w : World) (a b : ByteArray) : (w.alloc (.cells #[.string a, .string b] 9)).cell? ⟨w.heap.size, 0, none⟩ = some (.string a) ∧ (w.alloc (.cells #[.string a, .string b] 9)).cell? ⟨w.heap.size, 1, none⟩ = some (.string b) := by
  refine ⟨?_, ?_⟩ <;> simp

theorem long2_no (g : Nat) (a b : ByteArray) (w : World) (ha : a.size ≤ 120) (hb : b.size ≤ 120) (hc : w.cell? ⟨g, 0, none⟩ = some (.string a) ∧ w.cell? ⟨g, 1, none⟩ = some (.string b)) :
    Calls Tryz.prog 5 #[.slice (some ⟨g, 0, none⟩) 2 2] w fun e w' => e = .returned (.bool false) ∧ w = w' := by
  obtain ⟨c0, c1⟩ := hc
  have ka : ¬ (120 : Int) < (a.size : Int) := by omega
  have kb : ¬ (120 : Int) < (b.size : Int) := by omega
  go_enter Tryz.func5, Tryz.ntmps5
  go_wp2
  refine wp_loop_rounds 3 ?_
  rw [rounds_succ]
  go_wp2
  rw [rounds_succ]
  go_wp2
  rw [rounds_succ]
  go_wp2
  go_ret
  exact ⟨rfl, rfl⟩

theorem long2_yes (g : Nat) (a b : ByteArray) (w : World) (hab : 120 < a.size ∨ 120 < b.size) (hc : w.cell? ⟨g, 0, none⟩ = some (.string a) ∧ w.cell? ⟨g, 1, none⟩ = some (.string b)) :
    Calls Tryz.prog 5 #[.slice (some ⟨g, 0, none⟩) 2 2] w fun e w' => e = .returned (.bool true) ∧ w = w' := by
  obtain ⟨c0, c1⟩ := hc
  by_cases ha : 120 < a.size
  · have ka : (120 : Int) < (a.size : Int) := by omega
    clear hab
    go_enter Tryz.func5, Tryz.ntmps5
    go_wp2
    refine wp_loop_rounds 3 ?_
    rw [rounds_succ]
    go_wp2
    go_ret
    exact ⟨rfl, rfl⟩
  · have ka : ¬ (120 : Int) < (a.size : Int) := by omega
    have kb : (120 : Int) < (b.size : Int) := by omega
    clear hab
    go_enter Tryz.func5, Tryz.ntmps5
    go_wp2
    refine wp_loop_rounds 3 ?_
    rw [rounds_succ]
    go_wp2
    rw [rounds_succ]
    go_wp2
    go_ret
    exact ⟨rfl, rfl⟩

end Go.Proofs.YtohaocgbclpknaaGreatDoor
