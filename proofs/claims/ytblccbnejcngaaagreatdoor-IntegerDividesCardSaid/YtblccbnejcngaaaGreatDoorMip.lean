/- Texts of this proof, one behind the other. -/
import Derived.Test.YtblccbnejcngaaaGreatDoorMil
import Derived.Test.YtblccbnejcngaaaGreatDoorMel
import Derived.Test.YtblccbnejcngaaaGreatDoorMnr
import Derived.Test.YtblccbnejcngaaaGreatDoorMiw
/- integer.combine and integer.Bezout of any two integers: walks. -/
namespace Go.Proofs.YtblccbnejcngaaaGreatDoor
open Go.RowKit Go.Gb

theorem fit_of_digs {f k : Nat} (hk : k ≤ 200) (h : (digs f).length ≤ k) : Fit (f + 1) := by
  have h1 := lt_pow_digs f
  have h2 : BB ^ (digs f).length ≤ BB ^ k := Nat.pow_le_pow_right BB_pos h
  have h3 : BB ^ k = 10 ^ (9 * k) := by rw [BB_eq, show 1000000000 = 10 ^ 9 from rfl, ← Nat.pow_mul]
  have h4 : 10 ^ (9 * k) < 10 ^ (9 * k + 1) := Nat.pow_lt_pow_right (by decide) (by omega)
  have h5 : Sm (9 * k + 1) (f + 1) := by unfold Sm; omega
  unfold Fit
  exact h5.mono (by omega)
theorem Fit.pred {f : Nat} (h : Fit (f + 1)) : Fit f := Fit.le h (by omega)

def PkZ (f : Nat) (_ : Bool) : Prop := f = 0
def PkS (a g n : Nat) (f : Nat) (neg : Bool) : Prop := (∃ k : Int, (if neg then -(f : Int) else (f : Int)) * (a : Int) = (g : Int) + k * (n : Int)) ∧ (digs f).length ≤ (digs n).length + 1

theorem combine_zero (z2 : Int) (hz2 : z2 ≠ 0) (h2 : SmZ 120 z2) (w : World) (hl : La w) :
    Calls Tryz.prog 26 #[Zv 0, Zv z2] w fun e w' => e = .returned (.tuple #[.string (Sn z2.natAbs), Zv 0]) ∧ Below w.heap.size w w' := by
  have hn0 : z2.natAbs ≠ 0 := by omega
  have hfit : Fit z2.natAbs := h2.fit (by decide)
  have hd := sm_digs h2 (by decide)
  refine combine_gen 0 z2.sign 0 z2.natAbs z2.natAbs 1 0 PkZ ?_ hn0 fit0 hfit hfit (Nat.div_self (by omega)) (by decide) (by omega) fit1 w hl ?_ ?_
  · rintro f neg hf W hW
    obtain rfl : f = 0 := hf
    rw [sn_zero]
    exact signed_zero 0 W hW
  · intro v1 v2 W r1 r2
    exact Combine_zero z2.natAbs hn0 (by omega) v1 v2 W r1 r2
  · rintro f neg hf
    obtain rfl : f = 0 := hf
    refine ⟨by rw [digs_zero]; decide, fun z hz => ?_⟩
    obtain rfl : z = 0 := by rw [hz]; cases neg <;> rfl
    exact ⟨rfl, fit0, fit1⟩

theorem combine_some (z1 z2 : Int) (hz1 : z1 ≠ 0) (hz2 : z2 ≠ 0) (h1 : SmZ 120 z1) (h2 : SmZ 120 z2) (g h : Nat) (x : Int) (hg : g = Nat.gcd z1.natAbs z2.natAbs) (hh : z2.natAbs / g = h) (g0 : g ≠ 0) (h0 : h ≠ 0)
    (hx : ∀ x' : Int, (∃ k : Int, z1 * x' = (g : Int) + k * (z2.natAbs : Int)) → x' % (h : Int) = x) (w : World) (hl : La w) :
    Calls Tryz.prog 26 #[Zv z1, Zv z2] w fun e w' => e = .returned (.tuple #[.string (Sn g), Zv x]) ∧ Below w.heap.size w w' := by
  have hn0 : z2.natAbs ≠ 0 := by omega
  have hfit : Fit z2.natAbs := h2.fit (by decide)
  have hgn : g ≤ z2.natAbs := by rw [hg]; exact Nat.gcd_le_right _ (by omega)
  have hd1 := sm_digs h1 (by decide)
  have hd2 := sm_digs h2 (by decide)
  have hdg := digs_length_mono hgn
  have hs : z1.sign = 1 ∨ z1.sign = -1 := by
    rcases Int.lt_trichotomy z1 0 with h | h | h
    · exact Or.inr (Int.sign_eq_neg_one_of_neg h)
    · exact absurd h hz1
    · exact Or.inl (Int.sign_eq_one_of_pos h)
  refine combine_gen z1.sign z2.sign z1.natAbs z2.natAbs g h x (PkS z1.natAbs g z2.natAbs) (fun f neg _ W hW => signed_any z1.sign f _ rfl hs W hW) g0 (h1.fit (by decide)) hfit (Fit.le hfit hgn) hh h0 (by omega)
    (Fit.le hfit (by rw [← hh]; exact Nat.div_le_self _ _)) w hl ?_ ?_
  · intro v1 v2 W r1 r2
    refine (Combine_any z1.natAbs z2.natAbs hn0 (by omega) (by omega) v1 v2 W r1 r2).mono ?_
    rintro e w' ⟨u, v, f, neg, he, ho1, ho2, hk, hlen, hB⟩
    rw [← hg] at ho1 hk
    exact ⟨u, v, f, neg, he, ho1, ho2, ⟨hk, hlen⟩, hB⟩
  · rintro f neg ⟨⟨k, hk⟩, hlen⟩
    refine ⟨by omega, fun z hz => ?_⟩
    have hff := fit_of_digs (k := 121) (by decide) (by omega : (digs f).length ≤ 121)
    have hza : z.natAbs = f := by
      rw [hz]
      rcases hs with e | e <;> rw [e] <;> cases neg <;> simp
    refine ⟨hx z ⟨k, ?_⟩, ?_, ?_⟩
    · rw [← hk, hz]
      have e : z1 = z1.sign * (z1.natAbs : Int) := (Int.sign_mul_natAbs z1).symm
      have e2 : z1.sign * z1.sign = 1 := by rcases hs with e | e <;> rw [e] <;> rfl
      have key : ∀ t : Int, z1 * (z1.sign * t) = t * (z1.natAbs : Int) := by
        intro t
        conv => lhs; lhs; rw [e]
        rw [show z1.sign * (z1.natAbs : Int) * (z1.sign * t) = z1.sign * z1.sign * (t * (z1.natAbs : Int)) by ac_rfl, e2, Int.one_mul]
      cases neg with
      | false => simp only [Bool.false_eq_true, if_false]; exact key _
      | true => simp only [if_true]; rw [show -(z1.sign * (f : Int)) = z1.sign * -(f : Int) by rw [Int.mul_neg]]; exact key _
    · unfold FitZ; rw [hza]; exact hff.pred
    · rw [hza]; exact hff

theorem combine_any (z1 z2 : Int) (hz2 : z2 ≠ 0) (h1 : SmZ 120 z1) (h2 : SmZ 120 z2) (g h : Nat) (x : Int) (hg : g = Nat.gcd z1.natAbs z2.natAbs) (hh : z2.natAbs / g = h) (g0 : g ≠ 0) (h0 : h ≠ 0)
    (hx : ∀ x' : Int, (∃ k : Int, z1 * x' = (g : Int) + k * (z2.natAbs : Int)) → x' % (h : Int) = x) (w : World) (hl : La w) :
    Calls Tryz.prog 26 #[Zv z1, Zv z2] w fun e w' => e = .returned (.tuple #[.string (Sn g), Zv x]) ∧ Below w.heap.size w w' := by
  by_cases hz1 : z1 = 0
  · subst hz1
    rw [Int.natAbs_zero, Nat.gcd_zero_left] at hg
    have := hx 0 ⟨-1, by rw [hg]; omega⟩
    rw [Int.zero_emod] at this
    rw [← this, hg]
    exact combine_zero z2 hz2 h2 w hl
  · exact combine_some z1 z2 hz1 hz2 h1 h2 g h x hg hh g0 h0 hx w hl

theorem zBezout (z1 z2 : Int) (hz2 : z2 ≠ 0) (h1 : SmZ 120 z1) (h2 : SmZ 120 z2) (g h : Nat) (x y : Int) (hg : g = Nat.gcd z1.natAbs z2.natAbs) (hh : z2.natAbs / g = h) (g0 : g ≠ 0) (h0 : h ≠ 0)
    (hx0 : 0 ≤ x) (hxh : x < (h : Int)) (hxy : z1 * x + z2 * y = (g : Int)) (hx : ∀ x' : Int, (∃ k : Int, z1 * x' = (g : Int) + k * (z2.natAbs : Int)) → x' % (h : Int) = x) (w : World) (hl : La w) :
    Calls Tryz.prog 8 #[.string (Sz z1), .string (Sz z2)] w fun e w' => e = .returned (.tuple #[.string (Sn g), .string (Sz x), .string (Sz y), .int .i64 0]) ∧ Below w.heap.size w w' := by
  have hgn : g ≤ z2.natAbs := by rw [hg]; exact Nat.gcd_le_right _ (by omega)
  have hhn : h ≤ z2.natAbs := by rw [← hh]; exact Nat.div_le_self _ _
  have sx : SmZ 120 x := Sm.le h2 (by omega)
  have sg : SmZ 120 (g : Int) := Sm.le h2 (by rw [Int.natAbs_natCast]; exact hgn)
  have sp := h1.mul sx
  have sr := SmZ.sub (k := 240) (show SmZ 240 (g : Int) from Sm.mono sg (by decide)) sp
  have er : (g : Int) - z1 * x = z2 * y := by omega
  have hym : y.natAbs ≤ (z2 * y).natAbs := by
    rw [Int.natAbs_mul]
    have : 1 * y.natAbs ≤ z2.natAbs * y.natAbs := Nat.mul_le_mul_right _ (by omega)
    omega
  have sy : SmZ 241 y := Sm.le (er ▸ sr) hym
  refine bezout_walk (Sz z1) (Sz z2) z1.sign z2.sign x.sign (z1 * x).sign ((g : Int) - z1 * x).sign y.sign 0 (Sn z1.natAbs) (Sn z2.natAbs) (Sn g) (Sn x.natAbs) (Sn (z1 * x).natAbs) (Sn ((g : Int) - z1 * x).natAbs) (Sn y.natAbs) ⟨#[48]⟩ (Sz x) (Sz y)
    (fun e => hz2 (Int.sign_eq_zero_iff_zero.1 e)) w hl.zz ?_ ?_ ?_ ?_ ?_ ?_ ?_
  · exact readBoth_yes z1 z2 (h1.fit (by decide)) (h2.fit (by decide)) w hl.zz
  · intro W hb
    exact combine_any z1 z2 hz2 h1 h2 g h x hg hh g0 h0 hx W (hl.on hb)
  · intro W hb
    exact multiply_any z1 x (h1.fit (by decide)) (sx.fit (by decide)) W (hl.on hb)
  · intro W hb
    have h := zsubtract (g : Int) (z1 * x) (sg.fit (by decide)) (sp.fit (by decide)) W (hl.on hb)
    rw [zv_pos g0] at h
    exact h
  · intro W hb
    have h := divide_e ((g : Int) - z1 * x) z2 y 0 hz2 (by rw [er]; exact Int.mul_ediv_cancel_left y hz2) (by rw [er]; exact Int.mul_emod_right z2 y) (sr.fit (by decide)) (h2.fit (by decide)) (SmZ.succ sr (by decide)) W (hl.on hb)
    rw [zv_zero] at h
    exact h
  · intro W
    exact string_any x (sx.fit (by decide)) W
  · intro W
    exact string_any y (sy.fit (by decide)) W

end Go.Proofs.YtblccbnejcngaaaGreatDoor
/- garboardlaw02.IntegerCombines returns true: walks. -/
namespace Go.Proofs.YtblccbnejcngaaaGreatDoor
open Go.RowKit Go.Gb

theorem sz_zero' : Sz 0 = ⟨#[48]⟩ := by decide +kernel
/-- Bezout of two strings one of which is no integer. -/
theorem zBezout_no (a b : ByteArray) (h : (vldZ a.data.toList && vldZ b.data.toList) = false) (ha : a.size ≤ 1000) (hb : b.size ≤ 1000) (w : World) (hl : La w) :
    Calls Tryz.prog 8 #[.string a, .string b] w fun e w' => e = .returned (.tuple #[.string ⟨#[]⟩, .string ⟨#[]⟩, .string ⟨#[]⟩, .int .i64 1]) ∧ Below w.heap.size w w' := by
  have HR := Lib.hid (readBoth_no a b h ha hb w hl.zz)
  clear hl h
  go_enter Tryz.func8, Tryz.ntmps8
  go_wp2_with fail
  refine HR.out.mono ?_
  rintro e w1 ⟨s, t, b, c, rfl, hb1⟩
  have HB1 := Lib.hid ((hb1.alloc hb1.size (.cells #[.int .i64 s, .string b] 40)).alloc (by have := hb1.size; simp; omega) (.cells #[.int .i64 t, .string c] 40))
  clear hb1
  go_wp2
  exact bodyPost_ret (v := .tuple #[.string ⟨#[]⟩, .string ⟨#[]⟩, .string ⟨#[]⟩, .int .i64 1]) (by simp [results, Tryz.results8, go_sem]) rfl ⟨rfl, HB1.out⟩
/-- Bezout of a number and 0. -/
theorem zBezout_zero (z : Int) (fz : FitZ z) (w : World) (hl : La w) :
    Calls Tryz.prog 8 #[.string (Sz z), .string ⟨#[48]⟩] w fun e w' => e = .returned (.tuple #[.string (Sn z.natAbs), .string (Sz z.sign), .string ⟨#[48]⟩, .int .i64 0]) ∧ Below w.heap.size w w' := by
  have hr := readBoth_yes z 0 fz fit0 w hl.zz
  rw [sz_zero', zv_zero] at hr
  unfold Zv at hr
  have HR := Lib.hid hr
  have HF := Lib.hid (show ∀ W, La W → Calls Tryz.prog 17 #[.int .i64 z.sign] W fun e w' => e = .returned (.string (Sz z.sign)) ∧ Below W.heap.size W w' from fun W hW => by
    have h := From_any z.sign (by rcases Int.lt_trichotomy z 0 with h | h | h; (rw [Int.sign_eq_neg_one_of_neg h]; decide); (rw [h]; decide); (rw [Int.sign_eq_one_of_pos h]; decide)) (by rcases Int.lt_trichotomy z 0 with h | h | h; (rw [Int.sign_eq_neg_one_of_neg h]; decide); (rw [h]; decide); (rw [Int.sign_eq_one_of_pos h]; decide)) W hW
    have e : (⟨(Lib.itoa z.sign).toArray⟩ : ByteArray) = Sz z.sign := by
      rcases Int.lt_trichotomy z 0 with h | h | h
      · rw [Int.sign_eq_neg_one_of_neg h]; decide +kernel
      · rw [h]; decide +kernel
      · rw [Int.sign_eq_one_of_pos h]; decide +kernel
    rw [e] at h
    exact h)
  have HL := Lib.hid hl
  clear hr hl fz
  generalize Sz z.sign = rs at *
  go_enter Tryz.func8, Tryz.ntmps8
  go_wp2_with fail
  refine HR.out.mono ?_
  rintro e w1 ⟨rfl, hb1⟩
  have HB1 := Lib.hid ((hb1.alloc hb1.size (.cells #[.int .i64 z.sign, .string (Sn z.natAbs)] 40)).alloc (by have := hb1.size; simp; omega) (.cells #[.int .i64 0, .string ⟨#[48]⟩] 40))
  have HN8 := Lib.hid ((Nb.new w1 z.sign (Sn z.natAbs)).alloc (.cells #[.int .i64 0, .string ⟨#[48]⟩] 40))
  have hn9 := Nb.new (w1.alloc (.cells #[.int .i64 z.sign, .string (Sn z.natAbs)] 40)) 0 ⟨#[48]⟩
  rw [World.size_alloc] at hn9
  obtain ⟨z0, z1, z2⟩ := HL.out.zz.on HB1.out
  have a0 := HN8.out.c0
  have a1 := HN8.out.c1
  have b0 := hn9.c0
  have b1 := hn9.c1
  clear hb1 hn9
  have HLd := Lib.hid (HL.out.on HB1.out.drew)
  go_wp2
  go_region_with (go_at_call 17; go_must (refine (HF.out _ HLd.out).mono ?_; rintro e w2 ⟨rfl, hb2⟩; have n8 := Nb.belowD HN8.out hb2; have d0 := n8.c0; have d1 := n8.c1; have HB2 := Lib.hid (HB1.out.drew.trans (hb2.mono HB1.out.drew.size)); clear hb2 n8))
  all_goals
    go_wp2
    refine bodyPost_ret (v := .tuple #[.string (Sn z.natAbs), .string rs, .string ⟨#[48]⟩, .int .i64 0]) (by simp [results, Tryz.results8, go_sem]) rfl ⟨rfl, HB2.out⟩

end Go.Proofs.YtblccbnejcngaaaGreatDoor
