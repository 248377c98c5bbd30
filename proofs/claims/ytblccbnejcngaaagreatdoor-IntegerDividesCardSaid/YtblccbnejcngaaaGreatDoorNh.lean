/- words.Combine of short numbers: walks. -/
import Derived.Test.YtblccbnejcngaaaGreatDoorMec
namespace Go.Proofs.YtblccbnejcngaaaGreatDoor
open Go.RowKit Go.Gb

/-- What is asked of Combine: the divisor, a factor, and whether it is to be taken negatively. -/
def CombineOk (a b : Nat) : Prop := ∀ (v1 v2 : Value) (w : World), Rd .u64 w v1 (digs a) → Rd .u64 w v2 (digs b) →
    Calls Tryz.prog 51 #[v1, v2] w fun e w' => ∃ (u v : Value) (f : Nat) (neg : Bool), e = .returned (.tuple #[u, v, .bool neg]) ∧ Own .u64 82 w.heap.size w' u (digs (Nat.gcd a b)) ∧ Own .u64 82 w.heap.size w' v (digs f) ∧
      (∃ k : Int, (if neg then -(f : Int) else (f : Int)) * (a : Int) = (Nat.gcd a b : Int) + k * (b : Int)) ∧ (digs f).length ≤ (digs b).length + 1 ∧ Below w.heap.size w w'

set_option maxHeartbeats 2000000 in
set_option maxRecDepth 100000 in
theorem Combine_short (a b : Nat) (hb0 : b ≠ 0) (ha : (digs a).length ≤ 2) (hb : (digs b).length ≤ 2) : CombineOk a b := by
  intro v1 v2 w h1 h2
  have s1 := Lib.hid (isShort_yes v1 _ ha w h1)
  have s2 := Lib.hid (isShort_yes v2 _ hb w h2)
  have t1 := Lib.hid (short_any v1 a ha w h1)
  have t2 := Lib.hid (short_any v2 b hb w h2)
  have hg : Nat.gcd a b < 1000000000000000000 := by
    rcases Nat.eq_zero_or_pos a with h | h
    · rw [h, Nat.gcd_zero_left]; exact lt_two hb
    · exact Nat.lt_of_le_of_lt (Nat.gcd_le_left b h) (lt_two ha)
  have hbl := lt_two hb
  have hs := Lib.hid (allSteps_inv a b (lt_two ha) hbl (fun _ _ a' _ c' _ _ => (a' ≤ 1 ∨ a' ≤ b) ∧ c' ≤ b) ⟨Or.inl (Nat.le_refl _), Nat.zero_le _⟩ (fun x y a' b' c' d' o hy hE hI => ⟨Or.inr hI.2, (hE.step.bound hy).2⟩))
  have hlo := Lib.hid (fun (n : Nat) (hn : n < 1000000000000000000) (W : World) => long_any n hn W)
  have HG := Lib.hid hg
  have HB0 := Lib.hid hb0
  have HBL := Lib.hid hbl
  clear h1 h2 ha hb hg hb0 hbl
  obtain ⟨g, hgd⟩ : ∃ g, g = Nat.gcd a b := ⟨_, rfl⟩
  rw [← hgd] at hs HG ⊢
  have HGD := Lib.hid hgd
  clear hgd
  go_enter Tryz.func51, Tryz.ntmps51
  go_wp2_with fail
  refine s1.out.mono ?_
  rintro e w' ⟨rfl, rfl⟩
  go_wp2_with fail
  refine s2.out.mono ?_
  rintro e w' ⟨rfl, rfl⟩
  go_wp2_with fail
  refine t1.out.mono ?_
  rintro e w' ⟨rfl, rfl⟩
  go_wp2_with fail
  refine t2.out.mono ?_
  rintro e w' ⟨rfl, rfl⟩
  go_wp2_with fail
  refine (hs.out _).mono ?_
  rintro e w1 ⟨sa, sb, sc, sd, so, rfl, hEI, hb1⟩
  have HE := Lib.hid hEI
  have hsa := Lib.hid (show sa < 1000000000000000000 by have := hEI.2.1; have := HBL.out; omega)
  have HB1 := Lib.hid (hb1.alloc hb1.size (.cells #[.int .u64 (sa : Int), .int .u64 (sb : Int), .int .u64 (sc : Int), .int .u64 (sd : Int), .bool so] 98))
  clear hb1 s1 s2 t1 t2 hEI
  unfold Stp
  go_wp2
  go_region_with (first | (go_at_call 78; (with_reducible refine (hlo.out g HG.out _).mono ?_); rintro e w2 ⟨v, rfl, ho2, hb2⟩; obtain ⟨hc2, hf2⟩ := (⟨fun b o h => hb2.cell (p := ⟨b, o, none⟩) h, fun b o h => hb2.frozen (p := ⟨b, o, none⟩) h⟩ : (∀ b o, _ → _) ∧ (∀ b o, _ → _)); have hq2 : w1.heap.size < w2.heap.size := (by have := hb2.size; (try simp at this); omega)) | (go_at_call 78; (with_reducible refine (hlo.out sa hsa.out _).mono ?_); rintro e w3 ⟨u, rfl, ho3, hb3⟩; obtain ⟨hc3, hf3⟩ := (⟨fun b o h => hb3.cell (p := ⟨b, o, none⟩) h, fun b o h => hb3.frozen (p := ⟨b, o, none⟩) h⟩ : (∀ b o, _ → _) ∧ (∀ b o, _ → _)); have hq3 : w1.heap.size < w3.heap.size := (by have := hb3.size; omega)))
  all_goals
    have hb2' : Below w.heap.size w w2 := by
      first | exact HB1.out.trans (hb2.mono HB1.out.size) | exact HB1.out.drew.trans (hb2.mono HB1.out.drew.size)
    have hb3' : Below w.heap.size w w3 := hb2'.trans (hb3.mono hb2'.size)
    have hov : Own .u64 82 w.heap.size w3 v (digs g) := (ho2.below hb3).mono HB1.out.size
    have hou : Own .u64 82 w.heap.size w3 u (digs sa) := ho3.mono hb2'.size
    have HOV := Lib.hid hov
    have HOU := Lib.hid hou
    have HB3 := Lib.hid hb3'
    clear ho2 ho3 hb2 hb3 hov hou hb2' hb3' hc2 hf2 hc3 hf3
    go_wp2
    go_ret3
    refine ⟨v, u, sa, so, rfl, HOV.out, HOU.out, ?_, ?_, HB3.out⟩
    · obtain ⟨⟨_, _, _, e1, e2⟩, _⟩ := HE.out
      cases so with
      | false =>
        have h := (e2 rfl).1
        refine ⟨(sb : Int), ?_⟩
        rw [HGD.out] at h ⊢
        have h2 : (sa : Int) * (a : Int) = (sb : Int) * (b : Int) + (Nat.gcd a b : Int) := by exact_mod_cast h
        simp only [Bool.false_eq_true, if_false]
        omega
      | true =>
        have h := (e1 rfl).1
        refine ⟨-(sb : Int), ?_⟩
        rw [HGD.out] at h ⊢
        have h2 : (sb : Int) * (b : Int) = (sa : Int) * (a : Int) + (Nat.gcd a b : Int) := by exact_mod_cast h
        simp only [if_true]
        rw [Int.neg_mul, Int.neg_mul]
        omega
    · have h := HE.out.2.1
      have hb0 := HB0.out
      rcases h with h | h
      · have h1 := digs_length_mono h
        rw [digs_one] at h1
        simp at h1
        omega
      · have := digs_length_mono h
        omega

end Go.Proofs.YtblccbnejcngaaaGreatDoor
