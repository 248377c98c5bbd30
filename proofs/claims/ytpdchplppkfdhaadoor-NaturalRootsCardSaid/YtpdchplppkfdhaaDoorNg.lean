/- natural.Add of long numerals, natural.Root of a number of one word: walks. -/
import Derived.Test.YtpdchplppkfdhaaDoorNf
namespace Go.Proofs.YtpdchplppkfdhaaDoor
open Go.RowKit Go.Gb

theorem digs_add_len {a b K : Nat} (ha : (digs a).length ≤ K) (hb : (digs b).length ≤ K) : (digs (a + b)).length ≤ K + 1 := by
  refine digs_length_le ?_
  have h1 := lt_pow_digs a
  have h2 := lt_pow_digs b
  have h3 : BB ^ (digs a).length ≤ BB ^ K := Nat.pow_le_pow_right BB_pos ha
  have h4 : BB ^ (digs b).length ≤ BB ^ K := Nat.pow_le_pow_right BB_pos hb
  have h6 : BB ^ (K + 1) = BB ^ K * BB := Nat.pow_succ BB K
  have h7 : BB ^ K * 2 ≤ BB ^ K * BB := Nat.mul_le_mul_left _ BB_one
  generalize BB ^ K = P at *
  generalize BB ^ (K + 1) = Q at *
  omega

set_option maxHeartbeats 2000000 in
theorem Add_long (a b : ByteArray) (ha : vld a.data.toList = true) (hb : vld b.data.toList = true) (hs : 19 ≤ a.size ∨ 19 ≤ b.size) (hla : a.size ≤ 100000) (hlb : b.size ≤ 100000) (hok : AddOk (dval a.data.toList) (dval b.data.toList)) (w : World) (htab : Tb w) :
    Calls Tryd.prog 15 #[.string a, .string b] w fun e w' => e = .returned (.tuple #[St (Lib.decDigits (dval a.data.toList + dval b.data.toList)), .int .i64 0]) ∧ Below w.heap.size w w' := by
  have HA := Lib.hid ha
  have HB := Lib.hid hb
  have HT := Lib.hid htab
  have HOK := Lib.hid hok
  have Hla := Lib.hid (show a.size ≤ maxLen by unfold maxLen; omega)
  have Hlb := Lib.hid (show b.size ≤ maxLen by unfold maxLen; omega)
  have hra := Lib.hid (all_of_vld ha)
  have hrb := Lib.hid (all_of_vld hb)
  have hlp : (digs (dval a.data.toList + dval b.data.toList)).length ≤ 100000 := by
    have g1 := digs_len_str (all_of_vld ha) 20000 (by rw [size_list]; omega)
    have g2 := digs_len_str (all_of_vld hb) 20000 (by rw [size_list]; omega)
    have g3 := digs_add_len g1 g2
    omega
  have HLP := Lib.hid hlp
  have hmx : ¬ max (a.size : Int) (b.size : Int) < 19 := by omega
  clear ha hb htab hok hlp hs
  go_enter Tryd.func15, Tryd.ntmps15
  go_wp2_with fail
  refine (Valid_yes a HA.out Hla.out _).mono ?_
  rintro e w' ⟨rfl, rfl⟩
  go_wp2_with fail
  refine (Valid_yes b HB.out Hlb.out _).mono ?_
  rintro e w' ⟨rfl, rfl⟩
  go_wp2_with fail
  refine (Read_any a hra.out hla _).mono ?_
  rintro e w1 ⟨v1, rfl, ho1, hb1⟩
  have HB1 := Lib.hid hb1
  have HO1 := Lib.hid ho1
  clear hb1 ho1
  go_wp2_with fail
  refine (Read_any b hrb.out hlb _).mono ?_
  rintro e w2 ⟨v2, rfl, ho2, hb2⟩
  have HB2 := Lib.hid (HB1.out.trans (hb2.mono HB1.out.size))
  have hm := Lib.hid (HOK.out v1 v2 w2 (HO1.out.rd.below hb2) ho2.rd)
  clear hb2 ho2
  go_wp2_with fail
  refine hm.out.mono ?_
  rintro e w3 ⟨v3, rfl, ho3, hb3⟩
  have HB3 := Lib.hid (HB2.out.trans (hb3.mono HB2.out.size))
  have hwr := Lib.hid (Write_any v3 _ HLP.out w3 ho3.rd (HT.out.on HB3.out))
  clear hb3 ho3
  go_wp2_with fail
  refine hwr.out.mono ?_
  rintro e w4 ⟨rfl, hb4⟩
  have HB4 := Lib.hid (HB3.out.trans (hb4.mono HB3.out.size))
  clear hb4
  go_wp2
  go_ret2
  exact ⟨rfl, HB4.out⟩

/-- What is asked of root. -/
def RootOk (x : Nat) : Prop := ∀ (v : Value) (w : World), Rd .u64 w v (digs x) →
    Calls Tryd.prog 35 #[v] w fun e w' => ∃ u s, e = .returned u ∧ s * s ≤ x ∧ x < (s + 1) * (s + 1) ∧ Own .u64 46 w.heap.size w' u (digs s) ∧ Below w.heap.size w w'

theorem RootOk.one {x : Nat} (hx : (digs x).length = 1) (hadd : ∀ g, Above x g → g ≤ 2 ^ ((Lib.bitLen x + 1) / 2) → AddOk g (x / g)) : RootOk x := by
  intro v w h
  have hx0 : x ≠ 0 := by intro h; rw [h, digs_zero] at hx; simp at hx
  have hxB : x < BB := by have := lt_pow_digs x; rwa [hx, Nat.pow_one] at this
  have hB := BB_eq
  have hL : Lib.bitLen x ≤ 30 := Lib.bitLen_le x 30 (by omega) (by omega)
  have hpb : 2 ^ ((Lib.bitLen x + 1) / 2) ≤ 2 ^ 15 := Nat.pow_le_pow_right (by decide) (by omega)
  have hlen : ∀ g, g ≤ 2 ^ ((Lib.bitLen x + 1) / 2) → 0 < g → (digs g).length = 1 := by
    intro g hg h0
    have h1 : (digs g).length ≤ 1 := digs_length_le (by rw [Nat.pow_one]; omega)
    have h2 : 0 < (digs g).length := List.length_pos_iff.2 (by rw [digs_pos (by omega)]; simp)
    omega
  exact root_from v x _ (by omega) (by omega) (pow2_above x (by omega)) (fun w h => firstGuess_one v x hx w h) (fun g ha hg => DivOk.word (hlen g hg ha.1) (by omega)) hadd (by rw [hlen _ (Nat.le_refl _) (Nat.pow_pos (by decide))]; omega) w h

set_option maxHeartbeats 1000000 in
theorem Root_yes (a : ByteArray) (ha : vld a.data.toList = true) (hla : a.size ≤ 100000) (hok : RootOk (dval a.data.toList)) (w : World) (htab : Tb w) :
    Calls Tryd.prog 21 #[.string a] w fun e w' => ∃ s, e = .returned (.tuple #[St (Lib.decDigits s), .int .i64 0]) ∧ s * s ≤ dval a.data.toList ∧ dval a.data.toList < (s + 1) * (s + 1) ∧ Below w.heap.size w w' := by
  have HA := Lib.hid ha
  have HT := Lib.hid htab
  have HOK := Lib.hid hok
  have Hla := Lib.hid (show a.size ≤ maxLen by unfold maxLen; omega)
  have hra := Lib.hid (all_of_vld ha)
  have hda := Lib.hid (digs_len_str (all_of_vld ha) 100000 (by rw [size_list]; omega))
  clear ha htab hok
  go_enter Tryd.func21, Tryd.ntmps21
  go_wp2_with fail
  refine (Valid_yes a HA.out Hla.out _).mono ?_
  rintro e w' ⟨rfl, rfl⟩
  go_wp2_with fail
  refine (Read_any a hra.out hla _).mono ?_
  rintro e w1 ⟨v1, rfl, ho1, hb1⟩
  have HB1 := Lib.hid hb1
  have HR := Lib.hid (HOK.out v1 w1 ho1.rd)
  clear hb1 ho1
  go_wp2_with fail
  refine HR.out.mono ?_
  rintro e w2 ⟨v2, s, rfl, hs1, hs2, ho2, hb2⟩
  have HB2 := Lib.hid (HB1.out.trans (hb2.mono HB1.out.size))
  have hls : (digs s).length ≤ 100000 := by
    have : s ≤ s * s := Nat.le_mul_self s
    exact Nat.le_trans (digs_length_mono (Nat.le_trans this hs1)) hda.out
  have hwr := Lib.hid (Write_any v2 _ hls w2 ho2.rd (HT.out.on HB2.out))
  have HS1 := Lib.hid hs1
  have HS2 := Lib.hid hs2
  clear hb2 ho2 hs1 hs2 hls
  go_wp2_with fail
  refine hwr.out.mono ?_
  rintro e w4 ⟨rfl, hb4⟩
  have HB4 := Lib.hid (HB2.out.trans (hb4.mono HB2.out.size))
  clear hb4
  go_wp2
  go_ret2
  exact ⟨s, rfl, HS1.out, HS2.out, HB4.out⟩

end Go.Proofs.YtpdchplppkfdhaaDoor
