/- garboardref01.Times of any numbers; what the guess of a word of garboardref01.Over keeps. -/
import Derived.Test.YtgbcjlknlagoeaaGreatDoorMrh
import Derived.Test.YtgbcjlknlagoeaaGreatDoorKe
import Derived.Test.YtgbcjlknlagoeaaGreatDoorRb
namespace Go.Gb
/-- A guess that is still tested, or is right. -/
def GJ (p2 p1 p0 v1 v0 g r : Nat) : Prop := (r < BB ∧ GI p2 p1 p0 v1 v0 g r) ∨ (BB ≤ r ∧ r < 2 * BB ∧ GOK p2 p1 p0 v1 v0 g)
theorem GJ.start {p2 p1 p0 v1 v0 : Nat} (hv1 : 500000000 ≤ v1) (hv1' : v1 < BB) (hp1 : p1 < BB) (hp0 : p0 < BB) (hp2 : p2 ≤ v1) : GJ p2 p1 p0 v1 v0 ((p2 * BB + p1) / v1) ((p2 * BB + p1) % v1) := by
  have h := GI.start (v0 := v0) hv1 hv1' hp1 hp0 hp2
  exact Or.inl ⟨h.2.2.1, h⟩
theorem GJ.bound {p2 p1 p0 v1 v0 g r : Nat} (h : GJ p2 p1 p0 v1 v0 g r) : g ≤ BB + 1 ∧ r < 2 * BB := by
  rcases h with ⟨h1, h2⟩ | ⟨h1, h2, h3⟩
  · exact ⟨h2.2.1, by have := BB_pos; omega⟩
  · exact ⟨by have := h3.1; omega, h2⟩
theorem GJ.great {p2 p1 p0 v1 v0 g r : Nat} (h : GJ p2 p1 p0 v1 v0 g r) (hr : BB ≤ r) : GOK p2 p1 p0 v1 v0 g := by
  rcases h with ⟨h1, h2⟩ | ⟨h1, h2, h3⟩
  · omega
  · exact h3
theorem GJ.fin {p2 p1 p0 v1 v0 g r : Nat} (h : GJ p2 p1 p0 v1 v0 g r) (hg : g < BB) (ht : g * v0 ≤ r * BB + p0) : GOK p2 p1 p0 v1 v0 g := by
  rcases h with ⟨h1, h2⟩ | ⟨h1, h2, h3⟩
  · exact h2.fin hg ht
  · exact h3
theorem GJ.less {p2 p1 p0 v1 v0 g r : Nat} (h : GJ p2 p1 p0 v1 v0 g r) (hv1 : v1 < BB) (hv0 : v0 < BB) (hp1 : p1 < BB) (hp2 : p2 ≤ v1) (hr : r < BB) (ht : BB ≤ g ∨ r * BB + p0 < g * v0) : 0 < g ∧ GJ p2 p1 p0 v1 v0 (g - 1) (r + v1) := by
  rcases h with ⟨h1, h2⟩ | ⟨h1, h2, h3⟩
  · have hgp : 0 < g := by
      rcases Nat.eq_zero_or_pos g with h0 | h0
      · rcases ht with ht | ht
        · have := BB_pos; omega
        · rw [h0, Nat.zero_mul] at ht; omega
      · exact h0
    have hne : ∀ q, q < BB → q * (v1 * BB + v0) ≤ (p2 * BB + p1) * BB + p0 → q ≠ g := by
      rcases ht with ht | ht
      · exact GI.big ht
      · exact h2.test ht
    refine ⟨hgp, ?_⟩
    by_cases hl : r + v1 < BB
    · exact Or.inl ⟨hl, h2.less hne hgp hl⟩
    · exact Or.inr ⟨by omega, by omega, h2.last hv0 hp1 hp2 hne hgp (by omega)⟩
  · omega
/-- The words behind a product, cut to one more than the number has. -/
theorem pad_take {m : Nat} {D : List Nat} (h1 : m ≤ D.length) (h2 : D.length ≤ m + 1) : (D ++ [0, 0]).take (m + 1) = D ++ List.replicate (m + 1 - D.length) 0 := by
  rw [List.take_append, List.take_of_length_le h2]
  congr 1
  rcases Nat.lt_or_ge D.length (m + 1) with h | h
  · rw [show m + 1 - D.length = 1 by omega]; rfl
  · rw [show m + 1 - D.length = 0 by omega]; rfl
end Go.Gb
namespace Go.Proofs.YtgbcjlknlagoeaaGreatDoor
open Go.RowKit Go.Gb

set_option maxRecDepth 100000 in
theorem RTimes_any (v1 v2 : Value) (a b : Nat) (hla : (digs a).length ≤ 100000) (hlb : (digs b).length ≤ 100000) (w : World) (h1 : Rd .u32 w v1 (digs a)) (h2 : Rd .u32 w v2 (digs b)) :
    Calls Tryz.prog 64 #[v1, v2] w fun e w' => ∃ v, e = .returned v ∧ Own .u32 106 w.heap.size w' v (digs (a * b)) ∧ Below w.heap.size w w' := by
  by_cases ha : a = 0
  · subst ha
    rw [Nat.zero_mul, digs_zero]
    rw [digs_zero] at h1
    obtain ⟨p1, c1, rfl⟩ := rd_form h1
    obtain ⟨p2, c2, rfl⟩ := rd_form h2
    clear h1 h2
    simp only [List.length_nil]
    go_enter Tryz.func64, Tryz.ntmps64
    go_wp2
    go_ret
    exact ⟨_, rfl, Own.nil _ _ _ _, Below.refl _ _⟩
  · by_cases hb : b = 0
    · subst hb
      rw [Nat.mul_zero, digs_zero]
      rw [digs_zero] at h2
      obtain ⟨p1, c1, rfl⟩ := rd_form h1
      obtain ⟨p2, c2, rfl⟩ := rd_form h2
      have hp : 0 < (digs a).length := List.length_pos_iff.2 (by rw [digs_pos ha]; simp)
      have d1 : (((digs a).length : Int) == 0) = false := beq_eq_false_iff_ne.2 (by omega)
      clear h1 h2 ha
      simp only [List.length_nil]
      generalize (digs a).length = n at *
      go_enter Tryz.func64, Tryz.ntmps64
      go_wp2
      go_ret
      exact ⟨_, rfl, Own.nil _ _ _ _, Below.refl _ _⟩
    · have hpa : 0 < (digs a).length := List.length_pos_iff.2 (by rw [digs_pos ha]; simp)
      have hpb : 0 < (digs b).length := List.length_pos_iff.2 (by rw [digs_pos hb]; simp)
      obtain ⟨b1, o1, c1, rfl, _, _, k1, r1⟩ := rd_pos h1 hpa
      obtain ⟨b2, o2, c2, rfl, _, _, k2, r2⟩ := rd_pos h2 hpb
      have h := RTimes_some b1 o1 c1 b2 o2 c2 (digs a) (digs b) hpa hpb hla hlb (digs_lt a) (digs_lt b) w k1 k2 r1 r2
      rw [wval_digs, wval_digs] at h
      exact h

theorem cells_two (w : World) (u v : Value) (T : TypeId) : ∀ j x, [u, v][j]? = some x → (w.alloc (.cells #[u, v] T)).cell? ((⟨w.heap.size, 0, none⟩ : Addr).add j) = some x := by
  intro j x hj
  match j, hj with
  | 0, hj => simp at hj; subst hj; simp [Addr.add]
  | 1, hj => simp at hj; subst hj; simp [Addr.add]

set_option maxRecDepth 100000 in
theorem ROver_less (v1 v2 : Value) (a b : Nat) (hab : a < b) (hl : (digs a).length ≤ 100000) (w : World) (h1 : Rd .u32 w v1 (digs a)) (h2 : Rd .u32 w v2 (digs b)) :
    Calls Tryz.prog 66 #[v1, v2] w fun e w' => ∃ q r, e = .returned (.tuple #[q, r]) ∧ Rd .u32 w' q (digs (a / b)) ∧ Rd .u32 w' r (digs (a % b)) ∧ Below w.heap.size w w' := by
  have hc := RCmp_any v1 v2 a b (by omega) w h1 h2
  rw [cmpN_lt hab] at hc
  have HC := Lib.hid hc
  have H1 := Lib.hid h1
  rw [Nat.div_eq_of_lt hab, Nat.mod_eq_of_lt hab, digs_zero]
  clear hc h1 h2
  go_enter Tryz.func66, Tryz.ntmps66
  go_wp2_with fail
  refine HC.out.mono ?_
  rintro e w1 ⟨rfl, hb1⟩
  have HB1 := Lib.hid hb1
  clear hb1
  go_wp2
  go_ret2
  exact ⟨_, v1, rfl, Or.inl ⟨rfl, rfl⟩, H1.out.below HB1.out, HB1.out⟩

set_option maxRecDepth 100000 in
theorem ROver_word (v1 v2 : Value) (a b : Nat) (hab : b ≤ a) (hlb : (digs b).length = 1) (hl : (digs a).length ≤ 100000) (w : World) (h1 : Rd .u32 w v1 (digs a)) (h2 : Rd .u32 w v2 (digs b)) :
    Calls Tryz.prog 66 #[v1, v2] w fun e w' => ∃ q r, e = .returned (.tuple #[q, r]) ∧ Rd .u32 w' q (digs (a / b)) ∧ Rd .u32 w' r (digs (a % b)) ∧ Below w.heap.size w w' := by
  have hc := RCmp_any v1 v2 a b (by omega) w h1 h2
  have hcc : (0 : Int) ≤ cmpN a b := by unfold cmpN; split <;> (try split) <;> omega
  have hb0 : b ≠ 0 := by intro h; rw [h, digs_zero] at hlb; simp at hlb
  have hbB : b < BB := by have := lt_pow_digs b; rw [hlb, Nat.pow_one] at this; exact this
  obtain ⟨b2, o2, c2, rfl, _, _, k2, r2⟩ := rd_pos h2 (by omega)
  have hcb := r2 0 (by omega)
  have hd : (digs b).getD 0 0 = b := by rw [digs_pos hb0, List.getD_cons_zero, Nat.mod_eq_of_lt hbB]
  rw [hd, Nat.add_zero] at hcb
  rw [hlb] at hc ⊢
  obtain ⟨m, hm⟩ : ∃ m, m = a % b := ⟨_, rfl⟩
  rw [← hm]
  have HMM := Lib.hid hm
  clear hm
  generalize cmpN a b = cc at *
  have HC := Lib.hid hc
  have H1 := Lib.hid h1
  have HCB := Lib.hid hcb
  have Hb0 := Lib.hid hb0
  have HbB := Lib.hid hbB
  have k3 : (b : Int) ≤ 999999999 := by rw [BB_eq] at hbB; omega
  clear hc h1 h2 r2 hd hlb hcb hb0 hbB hab
  go_enter Tryz.func66, Tryz.ntmps66
  go_wp2_with fail
  refine HC.out.mono ?_
  rintro e w1 ⟨rfl, hb1⟩
  have HB1 := Lib.hid hb1
  have hcb1 := (hb1.cell (p := ⟨b2, o2, none⟩) k2).trans HCB.out
  have hs := Rsmall_any v1 a b (by have := Hb0.out; omega) HbB.out hl w1 (H1.out.below hb1)
  rw [← HMM.out] at hs
  have HS := Lib.hid hs
  clear hs
  clear hb1
  go_wp2_with fail
  refine HS.out.mono ?_
  rintro e w2 ⟨q, rfl, hq, hb2⟩
  have HB2 := Lib.hid (HB1.out.trans (hb2.mono HB1.out.size))
  have HQ := Lib.hid hq
  have HM := Lib.hid (RSmall1 m (by have h9 := HbB.out; rw [BB_eq] at h9; have := Nat.mod_lt a (show 0 < b by have := Hb0.out; omega); have := HMM.out; omega) w2)
  clear hb2 hq hcb1
  go_wp2_with fail
  refine HM.out.mono ?_
  rintro e w3 ⟨r, rfl, hr, hb3⟩
  have HB3 := Lib.hid (HB2.out.trans (hb3.mono HB2.out.size))
  have HR := Lib.hid hr.rd
  have HQ3 := Lib.hid ((HQ.out.below hb3).rd)
  clear hb3 hr
  go_wp2
  go_ret2
  exact ⟨q, r, rfl, HQ3.out, HR.out, HB3.out⟩

end Go.Proofs.YtgbcjlknlagoeaaGreatDoor
