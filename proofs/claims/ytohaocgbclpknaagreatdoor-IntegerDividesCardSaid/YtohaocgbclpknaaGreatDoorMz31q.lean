/- Texts of this proof, one behind the other. -/
import Derived.Test.YtohaocgbclpknaaGreatDoorMz9q
import Derived.Test.YtohaocgbclpknaaGreatDoorIo
import Derived.Test.YtohaocgbclpknaaGreatDoorMz30q
import Derived.Test.YtohaocgbclpknaaGreatDoorMz22q
import Derived.Test.YtohaocgbclpknaaGreatDoorNumA
import Derived.Test.YtohaocgbclpknaaGreatDoorMz24q
import Derived.Test.YtohaocgbclpknaaGreatDoorMz6q
/- Plain facts about linear combinations of integers. No program is mentioned. -/
namespace Go.Gb

theorem exists_bez (a b : Nat) : ∃ k l : Int, k * (a : Int) = (Nat.gcd a b : Int) + l * (b : Int) := by
  induction a, b using Nat.gcd.induction with
  | H0 n => exact ⟨0, -1, by rw [Nat.gcd_zero_left]; omega⟩
  | H1 m n hm ih =>
    obtain ⟨k, l, h⟩ := ih
    rw [Nat.gcd_rec m n]
    generalize (Nat.gcd (n % m) m : Int) = g at *
    have hd : (m : Int) * ((n / m : Nat) : Int) + ((n % m : Nat) : Int) = (n : Int) := by exact_mod_cast Nat.div_add_mod n m
    generalize ((n / m : Nat) : Int) = q at *
    generalize ((n % m : Nat) : Int) = r at *
    refine ⟨-(l + k * q), -k, ?_⟩
    have e : k * r = k * (n : Int) - k * q * (m : Int) := by
      rw [← hd, Int.mul_add, Int.mul_assoc, Int.mul_comm q]; omega
    rw [Int.neg_mul, Int.add_mul, Int.neg_mul]
    omega

theorem bez_all (z1 z2 : Int) (hz2 : z2 ≠ 0) : ∃ (g h : Nat) (x y : Int), g = Nat.gcd z1.natAbs z2.natAbs ∧ z2.natAbs / g = h ∧ g ≠ 0 ∧ h ≠ 0 ∧ 0 ≤ x ∧ x < (h : Int) ∧ z1 * x + z2 * y = (g : Int) ∧
    (∀ x' : Int, (∃ k : Int, z1 * x' = (g : Int) + k * (z2.natAbs : Int)) → x' % (h : Int) = x) := by
  obtain ⟨n, hn⟩ : ∃ n, n = z2.natAbs := ⟨_, rfl⟩
  have hn0 : 0 < n := by omega
  obtain ⟨g, hg⟩ : ∃ g, g = Nat.gcd z1.natAbs n := ⟨_, rfl⟩
  have hg0 : 0 < g := by rw [hg]; exact Nat.gcd_pos_of_pos_right _ hn0
  have dn : g ∣ n := by rw [hg]; exact Nat.gcd_dvd_right _ _
  have dz : g ∣ z1.natAbs := by rw [hg]; exact Nat.gcd_dvd_left _ _
  obtain ⟨h, hh⟩ : ∃ h, h = n / g := ⟨_, rfl⟩
  have hgh : g * h = n := by rw [hh]; exact Nat.mul_div_cancel' dn
  have hh0 : 0 < h := by
    rcases Nat.eq_zero_or_pos h with h0 | h0
    · rw [h0, Nat.mul_zero] at hgh; omega
    · exact h0
  have hghI : (g : Int) * (h : Int) = (n : Int) := by exact_mod_cast hgh
  obtain ⟨u, hu⟩ : (g : Int) ∣ z1 := by rw [← Int.natAbs_dvd_natAbs, Int.natAbs_natCast]; exact dz
  have hcop : Nat.gcd u.natAbs h = 1 := by
    have e1 : z1.natAbs = g * u.natAbs := by rw [hu, Int.natAbs_mul, Int.natAbs_natCast]
    have e2 := Nat.gcd_div dz dn
    rw [← hg, Nat.div_self hg0, ← hh, e1, Nat.mul_div_cancel_left _ hg0] at e2
    exact e2
  -- two solutions are congruent
  have huniq : ∀ x x' : Int, (∃ k : Int, z1 * x = (g : Int) + k * (n : Int)) → (∃ k : Int, z1 * x' = (g : Int) + k * (n : Int)) → x % (h : Int) = x' % (h : Int) := by
    rintro x x' ⟨k, hk⟩ ⟨k', hk'⟩
    have e : (g : Int) * (u * (x - x')) = (g : Int) * ((k - k') * (h : Int)) := by
      have e1 : (g : Int) * (u * (x - x')) = z1 * x - z1 * x' := by rw [← Int.mul_assoc, ← hu, Int.mul_sub]
      have e2 : (g : Int) * ((k - k') * (h : Int)) = k * (n : Int) - k' * (n : Int) := by rw [← hghI, ← Int.sub_mul, Int.mul_left_comm]
      rw [e1, e2, hk, hk']; omega
    have e3 := Int.eq_of_mul_eq_mul_left (by omega : (g : Int) ≠ 0) e
    have hd : (h : Int) ∣ u * (x - x') := ⟨k - k', by rw [e3, Int.mul_comm]⟩
    have hd2 : h ∣ u.natAbs * (x - x').natAbs := by
      have := Int.natAbs_dvd_natAbs.2 hd
      rwa [Int.natAbs_natCast, Int.natAbs_mul] at this
    have hd3 : h ∣ (x - x').natAbs := Nat.Coprime.dvd_of_dvd_mul_left (by unfold Nat.Coprime; rw [Nat.gcd_comm]; exact hcop) hd2
    have hd4 : (h : Int) ∣ x - x' := by rw [← Int.natAbs_dvd_natAbs, Int.natAbs_natCast]; exact hd3
    exact Int.emod_eq_emod_iff_emod_sub_eq_zero.2 (Int.emod_eq_zero_of_dvd hd4)
  -- there is one
  obtain ⟨x0, k0, hx0⟩ : ∃ x0 k0 : Int, z1 * x0 = (g : Int) + k0 * (n : Int) := by
    obtain ⟨k, l, e⟩ := exists_bez z1.natAbs n
    rw [← hg] at e
    refine ⟨z1.sign * k, l, ?_⟩
    rw [← e, ← Int.mul_assoc, Int.mul_sign_self, Int.mul_comm]
  have hx1 : ∃ k : Int, z1 * (x0 % (h : Int)) = (g : Int) + k * (n : Int) := by
    have e := Int.emod_add_mul_ediv x0 (h : Int)
    refine ⟨k0 - u * (x0 / (h : Int)), ?_⟩
    have e1 : z1 * (x0 % (h : Int)) = z1 * x0 - z1 * ((h : Int) * (x0 / (h : Int))) := by rw [← Int.mul_sub]; congr 1; omega
    have e2 : z1 * ((h : Int) * (x0 / (h : Int))) = u * (x0 / (h : Int)) * (n : Int) := by
      rw [← hghI, hu]
      ac_rfl
    rw [e1, e2, hx0, Int.sub_mul]; omega
  obtain ⟨k1, hk1⟩ := id hx1
  refine ⟨g, h, x0 % (h : Int), (if z2 < 0 then k1 else -k1), by rw [hg, hn], by rw [hh, hn], by omega, by omega, Int.emod_nonneg _ (by omega), Int.emod_lt_of_pos _ (by omega), ?_, fun x' hx' => ?_⟩
  · rw [hk1]
    by_cases hz : z2 < 0
    · rw [if_pos hz, show z2 = -(n : Int) by omega, Int.neg_mul, Int.mul_comm k1]; omega
    · rw [if_neg hz, show z2 = (n : Int) by omega, Int.mul_neg, Int.mul_comm k1]; omega
  · rw [← hn] at hx'
    rw [huniq x' _ hx' hx1, Int.emod_emod_of_dvd _ (Int.dvd_refl _)]

end Go.Gb
/- integer.combine and integer.Bezout of any two integers: walks. -/
namespace Go.Proofs.YtohaocgbclpknaaGreatDoor
open Go.RowKit Go.Gb

theorem fit_of_digs {f k : Nat} (hk : k ≤ 200) (h : (digs f).length ≤ k) : Fit (f + 1) := by
  have h1 := lt_pow_digs f
  have h2 : BB ^ (digs f).length ≤ BB ^ k := Nat.pow_le_pow_right BB_pos h
  have h3 : BB ^ k = 10 ^ (9 * k) := by rw [BB_eq, show 1000000000 = 10 ^ 9 from rfl, ← Nat.pow_mul]
  have h4 : 10 ^ (9 * k) < 10 ^ (9 * k + 1) := Nat.pow_lt_pow_right (by decide) (by omega)
  have h5 : Sm (9 * k + 1) (f + 1) := by unfold Sm; omega
  unfold Fit
  exact h5.mono (by omega)
theorem Fit.pred {f : Nat} (h : Fit (f + 1)) : Fit f := Fit.le h (by omega)

def PkZ (f : Nat) (_ : Bool) : Prop := f = 0
def PkS (a g n : Nat) (f : Nat) (neg : Bool) : Prop := (∃ k : Int, (if neg then -(f : Int) else (f : Int)) * (a : Int) = (g : Int) + k * (n : Int)) ∧ (digs f).length ≤ (digs n).length + 1

theorem combine_zero (z2 : Int) (hz2 : z2 ≠ 0) (h2 : SmZ 120 z2) (w : World) (hl : La w) :
    Calls Tryz.prog 26 #[Zv 0, Zv z2] w fun e w' => e = .returned (.tuple #[.string (Sn z2.natAbs), Zv 0]) ∧ Below w.heap.size w w' := by
  have hn0 : z2.natAbs ≠ 0 := by omega
  have hfit : Fit z2.natAbs := h2.fit (by decide)
  have hd := sm_digs h2 (by decide)
  refine combine_gen 0 z2.sign 0 z2.natAbs z2.natAbs 1 0 PkZ ?_ hn0 fit0 hfit hfit (Nat.div_self (by omega)) (by decide) (by omega) fit1 w hl ?_ ?_
  · rintro f neg hf W hW
    obtain rfl : f = 0 := hf
    rw [sn_zero]
    exact signed_zero 0 W hW
  · intro v1 v2 W r1 r2
    exact Combine_zero z2.natAbs hn0 (by omega) v1 v2 W r1 r2
  · rintro f neg hf
    obtain rfl : f = 0 := hf
    refine ⟨by rw [digs_zero]; decide, fun z hz => ?_⟩
    obtain rfl : z = 0 := by rw [hz]; cases neg <;> rfl
    exact ⟨rfl, fit0, fit1⟩

theorem combine_some (z1 z2 : Int) (hz1 : z1 ≠ 0) (hz2 : z2 ≠ 0) (h1 : SmZ 120 z1) (h2 : SmZ 120 z2) (g h : Nat) (x : Int) (hg : g = Nat.gcd z1.natAbs z2.natAbs) (hh : z2.natAbs / g = h) (g0 : g ≠ 0) (h0 : h ≠ 0)
    (hx : ∀ x' : Int, (∃ k : Int, z1 * x' = (g : Int) + k * (z2.natAbs : Int)) → x' % (h : Int) = x) (w : World) (hl : La w) :
    Calls Tryz.prog 26 #[Zv z1, Zv z2] w fun e w' => e = .returned (.tuple #[.string (Sn g), Zv x]) ∧ Below w.heap.size w w' := by
  have hn0 : z2.natAbs ≠ 0 := by omega
  have hfit : Fit z2.natAbs := h2.fit (by decide)
  have hgn : g ≤ z2.natAbs := by rw [hg]; exact Nat.gcd_le_right _ (by omega)
  have hd1 := sm_digs h1 (by decide)
  have hd2 := sm_digs h2 (by decide)
  have hdg := digs_length_mono hgn
  have hs : z1.sign = 1 ∨ z1.sign = -1 := by
    rcases Int.lt_trichotomy z1 0 with h | h | h
    · exact Or.inr (Int.sign_eq_neg_one_of_neg h)
    · exact absurd h hz1
    · exact Or.inl (Int.sign_eq_one_of_pos h)
  refine combine_gen z1.sign z2.sign z1.natAbs z2.natAbs g h x (PkS z1.natAbs g z2.natAbs) (fun f neg _ W hW => signed_any z1.sign f _ rfl hs W hW) g0 (h1.fit (by decide)) hfit (Fit.le hfit hgn) hh h0 (by omega)
    (Fit.le hfit (by rw [← hh]; exact Nat.div_le_self _ _)) w hl ?_ ?_
  · intro v1 v2 W r1 r2
    refine (Combine_any z1.natAbs z2.natAbs hn0 (by omega) (by omega) v1 v2 W r1 r2).mono ?_
    rintro e w' ⟨u, v, f, neg, he, ho1, ho2, hk, hlen, hB⟩
    rw [← hg] at ho1 hk
    exact ⟨u, v, f, neg, he, ho1, ho2, ⟨hk, hlen⟩, hB⟩
  · rintro f neg ⟨⟨k, hk⟩, hlen⟩
    refine ⟨by omega, fun z hz => ?_⟩
    have hff := fit_of_digs (k := 121) (by decide) (by omega : (digs f).length ≤ 121)
    have hza : z.natAbs = f := by
      rw [hz]
      rcases hs with e | e <;> rw [e] <;> cases neg <;> simp
    refine ⟨hx z ⟨k, ?_⟩, ?_, ?_⟩
    · rw [← hk, hz]
      have e : z1 = z1.sign * (z1.natAbs : Int) := (Int.sign_mul_natAbs z1).symm
      have e2 : z1.sign * z1.sign = 1 := by rcases hs with e | e <;> rw [e] <;> rfl
      have key : ∀ t : Int, z1 * (z1.sign * t) = t * (z1.natAbs : Int) := by
        intro t
        conv => lhs; lhs; rw [e]
        rw [show z1.sign * (z1.natAbs : Int) * (z1.sign * t) = z1.sign * z1.sign * (t * (z1.natAbs : Int)) by ac_rfl, e2, Int.one_mul]
      cases neg with
      | false => simp only [Bool.false_eq_true, if_false]; exact key _
      | true => simp only [if_true]; rw [show -(z1.sign * (f : Int)) = z1.sign * -(f : Int) by rw [Int.mul_neg]]; exact key _
    · unfold FitZ; rw [hza]; exact hff.pred
    · rw [hza]; exact hff

theorem combine_any (z1 z2 : Int) (hz2 : z2 ≠ 0) (h1 : SmZ 120 z1) (h2 : SmZ 120 z2) (g h : Nat) (x : Int) (hg : g = Nat.gcd z1.natAbs z2.natAbs) (hh : z2.natAbs / g = h) (g0 : g ≠ 0) (h0 : h ≠ 0)
    (hx : ∀ x' : Int, (∃ k : Int, z1 * x' = (g : Int) + k * (z2.natAbs : Int)) → x' % (h : Int) = x) (w : World) (hl : La w) :
    Calls Tryz.prog 26 #[Zv z1, Zv z2] w fun e w' => e = .returned (.tuple #[.string (Sn g), Zv x]) ∧ Below w.heap.size w w' := by
  by_cases hz1 : z1 = 0
  · subst hz1
    rw [Int.natAbs_zero, Nat.gcd_zero_left] at hg
    have := hx 0 ⟨-1, by rw [hg]; omega⟩
    rw [Int.zero_emod] at this
    rw [← this, hg]
    exact combine_zero z2 hz2 h2 w hl
  · exact combine_some z1 z2 hz1 hz2 h1 h2 g h x hg hh g0 h0 hx w hl

theorem zBezout (z1 z2 : Int) (hz2 : z2 ≠ 0) (h1 : SmZ 120 z1) (h2 : SmZ 120 z2) (g h : Nat) (x y : Int) (hg : g = Nat.gcd z1.natAbs z2.natAbs) (hh : z2.natAbs / g = h) (g0 : g ≠ 0) (h0 : h ≠ 0)
    (hx0 : 0 ≤ x) (hxh : x < (h : Int)) (hxy : z1 * x + z2 * y = (g : Int)) (hx : ∀ x' : Int, (∃ k : Int, z1 * x' = (g : Int) + k * (z2.natAbs : Int)) → x' % (h : Int) = x) (w : World) (hl : La w) :
    Calls Tryz.prog 8 #[.string (Sz z1), .string (Sz z2)] w fun e w' => e = .returned (.tuple #[.string (Sn g), .string (Sz x), .string (Sz y), .int .i64 0]) ∧ Below w.heap.size w w' := by
  have hgn : g ≤ z2.natAbs := by rw [hg]; exact Nat.gcd_le_right _ (by omega)
  have hhn : h ≤ z2.natAbs := by rw [← hh]; exact Nat.div_le_self _ _
  have sx : SmZ 120 x := Sm.le h2 (by omega)
  have sg : SmZ 120 (g : Int) := Sm.le h2 (by rw [Int.natAbs_natCast]; exact hgn)
  have sp := h1.mul sx
  have sr := SmZ.sub (k := 240) (show SmZ 240 (g : Int) from Sm.mono sg (by decide)) sp
  have er : (g : Int) - z1 * x = z2 * y := by omega
  have hym : y.natAbs ≤ (z2 * y).natAbs := by
    rw [Int.natAbs_mul]
    have : 1 * y.natAbs ≤ z2.natAbs * y.natAbs := Nat.mul_le_mul_right _ (by omega)
    omega
  have sy : SmZ 241 y := Sm.le (er ▸ sr) hym
  refine bezout_walk (Sz z1) (Sz z2) z1.sign z2.sign x.sign (z1 * x).sign ((g : Int) - z1 * x).sign y.sign 0 (Sn z1.natAbs) (Sn z2.natAbs) (Sn g) (Sn x.natAbs) (Sn (z1 * x).natAbs) (Sn ((g : Int) - z1 * x).natAbs) (Sn y.natAbs) ⟨#[48]⟩ (Sz x) (Sz y)
    (fun e => hz2 (Int.sign_eq_zero_iff_zero.1 e)) w hl.zz ?_ ?_ ?_ ?_ ?_ ?_ ?_
  · exact readBoth_yes z1 z2 (h1.fit (by decide)) (h2.fit (by decide)) w hl.zz
  · intro W hb
    exact combine_any z1 z2 hz2 h1 h2 g h x hg hh g0 h0 hx W (hl.on hb)
  · intro W hb
    exact multiply_any z1 x (h1.fit (by decide)) (sx.fit (by decide)) W (hl.on hb)
  · intro W hb
    have h := zsubtract (g : Int) (z1 * x) (sg.fit (by decide)) (sp.fit (by decide)) W (hl.on hb)
    rw [zv_pos g0] at h
    exact h
  · intro W hb
    have h := divide_e ((g : Int) - z1 * x) z2 y 0 hz2 (by rw [er]; exact Int.mul_ediv_cancel_left y hz2) (by rw [er]; exact Int.mul_emod_right z2 y) (sr.fit (by decide)) (h2.fit (by decide)) (SmZ.succ sr (by decide)) W (hl.on hb)
    rw [zv_zero] at h
    exact h
  · intro W
    exact string_any x (sx.fit (by decide)) W
  · intro W
    exact string_any y (sy.fit (by decide)) W

end Go.Proofs.YtohaocgbclpknaaGreatDoor
/- garboardlaw02.IntegerCombines returns true: walks. -/
namespace Go.Proofs.YtohaocgbclpknaaGreatDoor
open Go.RowKit Go.Gb

theorem sz_zero' : Sz 0 = ⟨#[48]⟩ := by decide +kernel
/-- Bezout of two strings one of which is no integer. -/
theorem zBezout_no (a b : ByteArray) (h : (vldZ a.data.toList && vldZ b.data.toList) = false) (ha : a.size ≤ 1000) (hb : b.size ≤ 1000) (w : World) (hl : La w) :
    Calls Tryz.prog 8 #[.string a, .string b] w fun e w' => e = .returned (.tuple #[.string ⟨#[]⟩, .string ⟨#[]⟩, .string ⟨#[]⟩, .int .i64 1]) ∧ Below w.heap.size w w' := by
  have HR := Lib.hid (readBoth_no a b h ha hb w hl.zz)
  clear hl h
  go_enter Tryz.func8, Tryz.ntmps8
  go_wp2_with fail
  refine HR.out.mono ?_
  rintro e w1 ⟨s, t, b, c, rfl, hb1⟩
  have HB1 := Lib.hid ((hb1.alloc hb1.size (.cells #[.int .i64 s, .string b] 40)).alloc (by have := hb1.size; simp; omega) (.cells #[.int .i64 t, .string c] 40))
  clear hb1
  go_wp2
  exact bodyPost_ret (v := .tuple #[.string ⟨#[]⟩, .string ⟨#[]⟩, .string ⟨#[]⟩, .int .i64 1]) (by simp [results, Tryz.results8, go_sem]) rfl ⟨rfl, HB1.out⟩
/-- Bezout of a number and 0. -/
theorem zBezout_zero (z : Int) (fz : FitZ z) (w : World) (hl : La w) :
    Calls Tryz.prog 8 #[.string (Sz z), .string ⟨#[48]⟩] w fun e w' => e = .returned (.tuple #[.string (Sn z.natAbs), .string (Sz z.sign), .string ⟨#[48]⟩, .int .i64 0]) ∧ Below w.heap.size w w' := by
  have hr := readBoth_yes z 0 fz fit0 w hl.zz
  rw [sz_zero', zv_zero] at hr
  unfold Zv at hr
  have HR := Lib.hid hr
  have HF := Lib.hid (show ∀ W, La W → Calls Tryz.prog 17 #[.int .i64 z.sign] W fun e w' => e = .returned (.string (Sz z.sign)) ∧ Below W.heap.size W w' from fun W hW => by
    have h := From_any z.sign (by rcases Int.lt_trichotomy z 0 with h | h | h; (rw [Int.sign_eq_neg_one_of_neg h]; decide); (rw [h]; decide); (rw [Int.sign_eq_one_of_pos h]; decide)) (by rcases Int.lt_trichotomy z 0 with h | h | h; (rw [Int.sign_eq_neg_one_of_neg h]; decide); (rw [h]; decide); (rw [Int.sign_eq_one_of_pos h]; decide)) W hW
    have e : (⟨(Lib.itoa z.sign).toArray⟩ : ByteArray) = Sz z.sign := by
      rcases Int.lt_trichotomy z 0 with h | h | h
      · rw [Int.sign_eq_neg_one_of_neg h]; decide +kernel
      · rw [h]; decide +kernel
      · rw [Int.sign_eq_one_of_pos h]; decide +kernel
    rw [e] at h
    exact h)
  have HL := Lib.hid hl
  clear hr hl fz
  generalize Sz z.sign = rs at *
  go_enter Tryz.func8, Tryz.ntmps8
  go_wp2_with fail
  refine HR.out.mono ?_
  rintro e w1 ⟨rfl, hb1⟩
  have HB1 := Lib.hid ((hb1.alloc hb1.size (.cells #[.int .i64 z.sign, .string (Sn z.natAbs)] 40)).alloc (by have := hb1.size; simp; omega) (.cells #[.int .i64 0, .string ⟨#[48]⟩] 40))
  have HN8 := Lib.hid ((Nb.new w1 z.sign (Sn z.natAbs)).alloc (.cells #[.int .i64 0, .string ⟨#[48]⟩] 40))
  have hn9 := Nb.new (w1.alloc (.cells #[.int .i64 z.sign, .string (Sn z.natAbs)] 40)) 0 ⟨#[48]⟩
  rw [World.size_alloc] at hn9
  obtain ⟨z0, z1, z2⟩ := HL.out.zz.on HB1.out
  have a0 := HN8.out.c0
  have a1 := HN8.out.c1
  have b0 := hn9.c0
  have b1 := hn9.c1
  clear hb1 hn9
  have HLd := Lib.hid (HL.out.on HB1.out.drew)
  go_wp2
  go_region_with (go_at_call 17; go_must (refine (HF.out _ HLd.out).mono ?_; rintro e w2 ⟨rfl, hb2⟩; have n8 := Nb.belowD HN8.out hb2; have d0 := n8.c0; have d1 := n8.c1; have HB2 := Lib.hid (HB1.out.drew.trans (hb2.mono HB1.out.drew.size)); clear hb2 n8))
  all_goals
    go_wp2
    refine bodyPost_ret (v := .tuple #[.string (Sn z.natAbs), .string rs, .string ⟨#[48]⟩, .int .i64 0]) (by simp [results, Tryz.results8, go_sem]) rfl ⟨rfl, HB2.out⟩

end Go.Proofs.YtohaocgbclpknaaGreatDoor
/- The text of a number from its digits, the least one first. No program is mentioned. -/
namespace Go.Gb
open Go

/-- The first m decimal digits of v, the least one first, as bytes. -/
def ldig (v m : Nat) : List UInt8 := (List.range m).map fun t => UInt8.ofNat (48 + v / 10 ^ t % 10)
theorem ldig_length (v m : Nat) : (ldig v m).length = m := by simp [ldig]
theorem ldig_succ (v m : Nat) : ldig v (m + 1) = ldig v m ++ [UInt8.ofNat (48 + v / 10 ^ m % 10)] := by
  unfold ldig
  rw [List.range_succ]
  simp
theorem ldig_cons (v m : Nat) : ldig v (m + 1) = UInt8.ofNat (48 + v % 10) :: ldig (v / 10) m := by
  unfold ldig
  rw [List.range_succ_eq_map]
  simp only [List.map_cons, List.map_map, Nat.pow_zero, Nat.div_one]
  congr 1
  apply List.map_congr_left
  intro t _
  simp only [Function.comp, Nat.div_div_eq_div_mul, Nat.pow_succ, Nat.mul_comm]
/-- Turned round they are the number's text. -/
theorem ldig_reverse : ∀ (m v : Nat), 10 ^ m ≤ v → v < 10 ^ (m + 1) → (ldig v (m + 1)).reverse = Lib.decDigits v
  | 0, v, h1, h2 => by
    rw [ldig_cons]
    have hv : v < 10 := by simpa using h2
    have h0 : 1 ≤ v := by simpa using h1
    rw [Nat.mod_eq_of_lt hv]
    rw [Lib.decDigits, dif_pos hv]
    simp [ldig]
  | m + 1, v, h1, h2 => by
    rw [ldig_cons, List.reverse_cons, ldig_reverse m (v / 10) (by rw [Nat.le_div_iff_mul_le (by decide)]; rw [Nat.pow_succ] at h1; exact h1) (by rw [Nat.div_lt_iff_lt_mul (by decide)]; rw [Nat.pow_succ] at h2; exact h2)]
    have hv : ¬ v < 10 := by
      have : 10 ≤ 10 ^ (m + 1) := by
        rw [Nat.pow_succ]
        have := Nat.one_le_pow m 10 (by decide)
        omega
      omega
    conv => rhs; rw [Lib.decDigits, dif_neg hv]
/-- A digit of a number is that of its word. -/
theorem word_digit {xs : List Nat} (hx : ∀ x ∈ xs, x < BB) {i k : Nat} (hi : i < xs.length) (hk : k < 9) : wval xs / 10 ^ (9 * i + k) % 10 = xs.getD i 0 / 10 ^ k % 10 := by
  have hsplit : xs = xs.take i ++ (xs.getD i 0 :: xs.drop (i + 1)) := by
    conv => lhs; rw [← List.take_append_drop i xs]
    congr 1
    rw [List.drop_eq_getElem_cons hi]
    simp [List.getD, hi]
  have hlen : (xs.take i).length = i := by simp; omega
  have hlt := wval_lt (xs.take i) (fun x h => hx x (List.mem_of_mem_take h))
  rw [hlen] at hlt
  have hv : wval xs = wval (xs.take i) + BB ^ i * (xs.getD i 0 + BB * wval (xs.drop (i + 1))) := by
    conv => lhs; rw [hsplit]
    rw [wval_append, hlen]
    rfl
  have hB : BB ^ i = 10 ^ (9 * i) := by rw [Nat.pow_mul, show BB = 10 ^ 9 from by rw [BB_eq]]
  rw [hv, Nat.pow_add, ← hB, ← Nat.div_div_eq_div_mul, Nat.add_mul_div_left _ _ (Nat.pow_pos BB_pos), Nat.div_eq_of_lt hlt, Nat.zero_add]
  obtain ⟨e, he⟩ : ∃ e, BB = 10 ^ k * (10 * e) := ⟨10 ^ (8 - k), by
    rw [show (10 : Nat) * 10 ^ (8 - k) = 10 ^ (9 - k) by rw [← Nat.pow_succ']; congr 1; omega, ← Nat.pow_add, show k + (9 - k) = 9 by omega, BB_eq]⟩
  rw [he, Nat.mul_assoc, Nat.mul_assoc, Nat.add_mul_div_left _ _ (Nat.pow_pos (by decide)), Nat.add_mul_mod_self_left]

end Go.Gb
/- A list that is turned round in place, from both ends. No program is mentioned. -/
namespace Go.Gb
open Go

/-- L with its first i and its last i elements exchanged. -/
def swp (L : List UInt8) (i : Nat) : List UInt8 := (List.range L.length).map fun j => if j < i ∨ L.length < j + 1 + i then L.getD (L.length - 1 - j) 0 else L.getD j 0
theorem swp_length (L : List UInt8) (i : Nat) : (swp L i).length = L.length := by simp [swp]
theorem swp_get (L : List UInt8) (i : Nat) {j : Nat} (hj : j < L.length) : (swp L i).getD j 0 = if j < i ∨ L.length < j + 1 + i then L.getD (L.length - 1 - j) 0 else L.getD j 0 := by
  unfold swp
  simp [List.getD, hj]
theorem getD_ext {A B : List UInt8} (h : A.length = B.length) (hg : ∀ j, j < A.length → A.getD j 0 = B.getD j 0) : A = B := by
  apply List.ext_getElem h
  intro j h1 h2
  have := hg j h1
  simpa [List.getD, h1, h2] using this
theorem swp_zero (L : List UInt8) : swp L 0 = L := by
  refine getD_ext (swp_length L 0) (fun j hj => ?_)
  rw [swp_length] at hj
  rw [swp_get L 0 hj, if_neg (by omega)]
theorem swp_done (L : List UInt8) (i : Nat) (h : L.length ≤ 2 * i + 1) : swp L i = L.reverse := by
  refine getD_ext (by rw [swp_length, List.length_reverse]) (fun j hj => ?_)
  rw [swp_length] at hj
  rw [swp_get L i hj]
  have hr : L.reverse.getD j 0 = L.getD (L.length - 1 - j) 0 := by
    have h2 : L.length - 1 - j < L.length := by omega
    simp [List.getD, hj, h2]
  rw [hr]
  split
  · rfl
  · rename_i hn
    rw [show L.length - 1 - j = j by omega]
/-- The elements that come next are still as they were. -/
theorem swp_low (L : List UInt8) (i : Nat) (h : 2 * i + 1 < L.length) : (swp L i).getD i 0 = L.getD i 0 := by
  rw [swp_get L i (by omega), if_neg (by omega)]
theorem swp_high (L : List UInt8) (i : Nat) (h : 2 * i + 1 < L.length) : (swp L i).getD (L.length - 1 - i) 0 = L.getD (L.length - 1 - i) 0 := by
  rw [swp_get L i (by omega), if_neg (by omega)]
theorem swp_succ (L : List UInt8) (i : Nat) (h : 2 * i + 1 < L.length) : ((swp L i).set i (L.getD (L.length - 1 - i) 0)).set (L.length - 1 - i) (L.getD i 0) = swp L (i + 1) := by
  refine getD_ext (by simp [swp_length]) (fun j hj => ?_)
  simp [swp_length] at hj
  have hs : ∀ (A : List UInt8) (m : Nat) (v : UInt8), j < A.length → (A.set m v).getD j 0 = if m = j then v else A.getD j 0 := by
    intro A m v hA
    by_cases hm : m = j
    · subst hm; simp [List.getD, hA]
    · simp [List.getD, hm]
  rw [hs _ _ _ (by simp [swp_length, hj]), hs _ _ _ (by simp [swp_length, hj]), swp_get L i hj, swp_get L (i + 1) hj]
  by_cases h1 : L.length - 1 - i = j
  · rw [if_pos h1, if_pos (by omega), ← h1, show L.length - 1 - (L.length - 1 - i) = i by omega]
  · rw [if_neg h1]
    by_cases h2 : i = j
    · subst h2
      rw [if_pos rfl, if_pos (by omega)]
    · rw [if_neg h2]
      by_cases h3 : j < i ∨ L.length < j + 1 + i
      · rw [if_pos h3, if_pos (by omega)]
      · rw [if_neg h3, if_neg (by omega)]

end Go.Gb
/- The reference's To: what its loops keep. No program is mentioned. -/
namespace Go.Gb
open Go

theorem word_top {xs : List Nat} (hx : ∀ x ∈ xs, x < BB) {i : Nat} (hi : xs.length = i + 1) (k : Nat) : wval xs / 10 ^ (9 * i + k) = xs.getD i 0 / 10 ^ k := by
  have h1 := wval_split xs i (by omega)
  have h2 : wval (xs.drop i) = xs.getD i 0 := by
    rw [wval_drop (by omega), List.drop_of_length_le (by omega)]
    simp [wval]
  have hlt := wval_take_lt xs hx i
  have hB : BB ^ i = 10 ^ (9 * i) := by rw [Nat.pow_mul, show BB = 10 ^ 9 from by rw [BB_eq]]
  rw [h2] at h1
  rw [h1, Nat.pow_add, ← hB, ← Nat.div_div_eq_div_mul, Nat.add_mul_div_left _ _ (Nat.pow_pos BB_pos), Nat.div_eq_of_lt hlt, Nat.zero_add]

/-- Before word i: the digits of the words before it; behind the last word those of the number. -/
def TOut (xs : List Nat) (bs : List UInt8) (i : Nat) : Prop :=
  (i < xs.length ∧ bs = ldig (wval xs) (9 * i)) ∨ (i = xs.length ∧ ∃ m, bs = ldig (wval xs) (m + 1) ∧ 10 ^ m ≤ wval xs ∧ wval xs < 10 ^ (m + 1))
/-- Inside word i: k of its digits are there. -/
def TIn (xs : List Nat) (bs : List UInt8) (i k q : Nat) : Prop :=
  k ≤ 9 ∧ q = xs.getD i 0 / 10 ^ k ∧ bs = ldig (wval xs) (9 * i + k) ∧ (k = 0 ∨ i + 1 < xs.length ∨ xs.getD i 0 / 10 ^ (k - 1) ≠ 0)
theorem TOut.zero {xs : List Nat} (h : 0 < xs.length) : TOut xs [] 0 := Or.inl ⟨h, rfl⟩
theorem TIn.start {xs : List Nat} {bs : List UInt8} {i : Nat} (h : TOut xs bs i) (hi : i < xs.length) : TIn xs bs i 0 (xs.getD i 0) := by
  rcases h with ⟨_, h⟩ | ⟨h, _⟩
  · exact ⟨by omega, by simp, h, Or.inl rfl⟩
  · omega
theorem TIn.len {xs : List Nat} {bs : List UInt8} {i k q : Nat} (h : TIn xs bs i k q) : bs.length = 9 * i + k := by rw [h.2.2.1, ldig_length]
theorem TIn.lt {xs : List Nat} {bs : List UInt8} {i k q : Nat} (h : TIn xs bs i k q) (hi : i < xs.length) (hx : ∀ x ∈ xs, x < BB) : q < 1000000000 := by
  have h1 := hx _ (mem_getD hi)
  rw [BB_eq] at h1
  rw [h.2.1]
  exact Nat.lt_of_le_of_lt (Nat.div_le_self _ _) h1
theorem TIn.step {xs : List Nat} {bs : List UInt8} {i k q : Nat} (h : TIn xs bs i k q) (hi : i < xs.length) (hx : ∀ x ∈ xs, x < BB) (hk : k < 9) (hg : i + 1 < xs.length ∨ 0 < q) :
    TIn xs (bs ++ [UInt8.ofNat (48 + q % 10)]) i (k + 1) (q / 10) := by
  obtain ⟨h1, h2, h3, h4⟩ := h
  refine ⟨by omega, ?_, ?_, ?_⟩
  · rw [h2, Nat.div_div_eq_div_mul, Nat.pow_succ]
  · rw [h3, h2, ← word_digit hx hi hk, ← ldig_succ]
    rfl
  · rcases hg with hg | hg
    · exact Or.inr (Or.inl hg)
    · right; right
      rw [Nat.add_sub_cancel, ← h2]
      omega
theorem TIn.done {xs : List Nat} {bs : List UInt8} {i k q : Nat} (h : TIn xs bs i k q) (hi : i < xs.length) (hx : ∀ x ∈ xs, x < BB) (hl : xs.getD (xs.length - 1) 0 ≠ 0) (hg : k = 9 ∨ (i + 1 = xs.length ∧ q = 0)) : TOut xs bs (i + 1) := by
  obtain ⟨h1, h2, h3, h4⟩ := h
  by_cases hlt : i + 1 < xs.length
  · obtain rfl : k = 9 := by omega
    exact Or.inl ⟨hlt, by rw [h3, Nat.mul_add]⟩
  · have hi1 : xs.length = i + 1 := by omega
    have hw := hx _ (mem_getD hi)
    rw [BB_eq] at hw
    rw [show xs.length - 1 = i by omega] at hl
    have hq0 : q = 0 := by
      rcases hg with hg | hg
      · rw [h2, hg, Nat.div_eq_of_lt (by omega)]
      · exact hg.2
    obtain ⟨j, rfl⟩ : ∃ j, k = j + 1 := by
      refine ⟨k - 1, ?_⟩
      rcases Nat.eq_zero_or_pos k with h0 | h0
      · rw [h0, Nat.pow_zero, Nat.div_one] at h2
        omega
      · omega
    have h5 : xs.getD i 0 / 10 ^ j ≠ 0 := by
      rcases h4 with h4 | h4 | h4
      · omega
      · omega
      · rwa [Nat.add_sub_cancel] at h4
    have e1 := word_top hx hi1 j
    have e2 := word_top hx hi1 (j + 1)
    rw [← h2, hq0] at e2
    refine Or.inr ⟨hi1.symm, 9 * i + j, h3, ?_, ?_⟩
    · rcases Nat.lt_or_ge (wval xs) (10 ^ (9 * i + j)) with h | h
      · rw [Nat.div_eq_of_lt h] at e1
        exact absurd e1.symm h5
      · exact h
    · rcases Nat.lt_or_ge (wval xs) (10 ^ (9 * i + (j + 1))) with h | h
      · exact h
      · have := Nat.div_pos h (Nat.pow_pos (by decide))
        omega
theorem TOut.done {xs : List Nat} {bs : List UInt8} (h : TOut xs bs xs.length) : bs.reverse = Lib.decDigits (wval xs) ∧ 0 < bs.length := by
  rcases h with ⟨h, _⟩ | ⟨_, m, h1, h2, h3⟩
  · omega
  · rw [h1]
    exact ⟨ldig_reverse m _ h2 h3, by rw [ldig_length]; omega⟩
theorem TOut.len {xs : List Nat} {bs : List UInt8} {i : Nat} (h : TOut xs bs i) (hx : ∀ x ∈ xs, x < BB) : bs.length ≤ 9 * xs.length := by
  rcases h with ⟨h, e⟩ | ⟨_, m, h1, h2, h3⟩
  · rw [e, ldig_length]; omega
  · rw [h1, ldig_length]
    have h4 := wval_lt xs hx
    rw [show BB = 10 ^ 9 from by rw [BB_eq], ← Nat.pow_mul] at h4
    have h5 : 10 ^ m < 10 ^ (9 * xs.length) := by omega
    have := (Nat.pow_lt_pow_iff_right (by decide : 1 < 10)).1 h5
    omega

end Go.Gb
/- A block of bytes whose first bytes are known. -/
namespace Go.Proofs.YtohaocgbclpknaaGreatDoor
open Go.RowKit Go.Gb

/-- Block g, of cap cells, begins with the bytes bs. -/
def RowB (w : World) (g cap : Nat) (bs : List UInt8) : Prop := ∃ cur : Array Value, w.heap[g]? = some (.cells cur 5 (0, 0)) ∧ cur.size = cap ∧ bs.length ≤ cap ∧ cur.toList.take bs.length = Lib.byteCells bs
theorem RowB.le {w : World} {g cap : Nat} {bs : List UInt8} (h : RowB w g cap bs) : bs.length ≤ cap := by
  obtain ⟨cur, _, _, h3, _⟩ := h
  exact h3
theorem byteCells_get {bs : List UInt8} {i : Nat} (h : i < bs.length) : (Lib.byteCells bs)[i]? = some (.int .u8 ((bs.getD i 0).toNat : Int)) := by
  simp [Lib.byteCells, List.getD, h]
theorem RowB.cell {w : World} {g cap : Nat} {bs : List UInt8} (h : RowB w g cap bs) {i : Nat} (hi : i < bs.length) : w.cell? ⟨g, i, none⟩ = some (.int .u8 ((bs.getD i 0).toNat : Int)) := by
  obtain ⟨cur, h1, h2, h3, h4⟩ := h
  have h5 := byteCells_get hi
  rw [← h4, List.getElem?_take, if_pos hi] at h5
  simp only [World.cell?, h1]
  simpa using h5
theorem RowB.free {w : World} {g cap : Nat} {bs : List UInt8} (h : RowB w g cap bs) (i : Nat) : w.frozen? ⟨g, i, none⟩ = false := by
  obtain ⟨cur, h1, h2, h3, h4⟩ := h
  simp only [World.frozen?, h1]
  simp
theorem RowB.set {w : World} {g cap : Nat} {bs : List UInt8} (h : RowB w g cap bs) (i : Nat) (v : UInt8) : RowB (w.setCell ⟨g, i, none⟩ (.int .u8 (v.toNat : Int))) g cap (bs.set i v) := by
  obtain ⟨cur, h1, h2, h3, h4⟩ := h
  refine ⟨cur.setIfInBounds i (.int .u8 (v.toNat : Int)), ?_, by simp [h2], by simpa using h3, ?_⟩
  · simp only [World.setCell, Array.getElem?_modify, h1]
    simp
  · rw [List.length_set, Lib.byteCells, List.map_set, Array.toList_setIfInBounds, List.take_set, h4]
    rfl
theorem RowB.drewN {w : World} {g cap : Nat} {bs : List UInt8} (h : RowB w g cap bs) (n : Nat) : RowB (w.drewN n) g cap bs := h
theorem RowB.of_own {w : World} {B : Nat} {v : Value} {bs : List UInt8} (h : w.ownsRow B 5 1 v bs.length (Lib.byteCells bs)) (hp : 0 < bs.length) : ∃ g cap, v = .slice (some ⟨g, 0, none⟩) bs.length cap ∧ B ≤ g ∧ cap ≤ maxLen ∧ RowB w g cap bs := by
  obtain ⟨h1, h2⟩ := h
  rcases h2 with ⟨h2, h3⟩ | ⟨g, cap, cur, hv, hg, hh, hn, hc, hs, ht⟩
  · omega
  · rw [Nat.mul_one] at hs ht
    exact ⟨g, cap, hv, hg, hc, cur, hh, hs, hn, ht⟩

end Go.Proofs.YtohaocgbclpknaaGreatDoor
