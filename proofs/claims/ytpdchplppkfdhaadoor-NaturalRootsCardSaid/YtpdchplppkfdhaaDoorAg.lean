/- natural.add, of any two numbers that are not both 0: walks. -/
import Derived.Test.YtpdchplppkfdhaaDoorNg
import Derived.Test.YtpdchplppkfdhaaDoorKg
namespace Go.Proofs.YtpdchplppkfdhaaDoor
open Go.RowKit Go.Gb

theorem arith_add {a b c : Nat} {os : List Nat} (hs : SumInv (digs a) (digs b) os (digs a).length c) (hl : (digs b).length ≤ (digs a).length) : wval (os ++ [c]) = a + b ∧ ∀ x ∈ os ++ [c], x < BB := by
  obtain ⟨h1, h2⟩ := hs.done hl
  rw [wval_digs, wval_digs] at h1
  exact ⟨h1, h2⟩

/-- join of two numbers, the first one not shorter, from a carrier that holds 0. -/
theorem join_add (v1 v2 : Value) (a b : Nat) (ha : a ≠ 0) (hlb : (digs b).length ≤ (digs a).length) (hl : (digs a).length ≤ 10000) (w : World) (h1 : Rd .u64 w v1 (digs a)) (h2 : Rd .u64 w v2 (digs b)) :
    Calls Tryd.prog 43 #[v1, v2, .func (.func 44) #[.pointer (some ⟨w.heap.size, 0, none⟩)] #[]] (w.alloc (.cells #[.int .u64 0] 67)) fun e w' =>
      ∃ v, e = .returned v ∧ ∃ (os : List Nat) (c : Nat), wval (os ++ [c]) = a + b ∧ (∀ x ∈ os ++ [c], x < BB) ∧ os.length = (digs a).length ∧ Own .u64 46 (w.heap.size + 1) w' v os ∧ Car w' w.heap.size c ∧ Below w.heap.size w w' := by
  obtain ⟨b1, o1, c1, rfl, _, _, k1, r1⟩ := rd_pos h1 (List.length_pos_iff.2 (by rw [digs_pos ha]; simp))
  have hb0 := (Below.refl w.heap.size w).alloc (Nat.le_refl _) (.cells #[.int .u64 0] 67)
  have hcx : ∀ i, i < (digs a).length → (w.alloc (.cells #[.int .u64 0] 67)).cell? ⟨b1, o1 + i, none⟩ = some (.int .u64 (((digs a).getD i 0 : Nat) : Int)) := fun i hi => (hb0.cell (p := ⟨b1, o1 + i, none⟩) k1).trans (r1 i hi)
  have hz : (w.alloc (.cells #[.int .u64 0] 67)).heap.size = w.heap.size + 1 := by simp
  have fin : ∀ (e : Ending) (w' : World), (e = .returned (.slice (some ⟨w.heap.size + 1, 0, none⟩) (digs a).length ((digs a).length + 1)) ∧ ∃ (os : List Nat) (c : Nat), SumInv (digs a) (digs b) os (digs a).length c ∧ Blk w' (w.heap.size + 1) (os ++ [0]) ∧ Car w' w.heap.size c ∧ (w.alloc (.cells #[.int .u64 0] 67)).grownBy w' (some w.heap.size)) →
      ∃ v, e = .returned v ∧ ∃ (os : List Nat) (c : Nat), wval (os ++ [c]) = a + b ∧ (∀ x ∈ os ++ [c], x < BB) ∧ os.length = (digs a).length ∧ Own .u64 46 (w.heap.size + 1) w' v os ∧ Car w' w.heap.size c ∧ Below w.heap.size w w' := by
    rintro e w' ⟨he, os, c, hs, hblk, hc, hg⟩
    obtain ⟨g1, g2⟩ := arith_add hs hlb
    have hlen := hs.1
    have hown := hblk.own (B := w.heap.size + 1) (by omega) (by unfold maxLen; simp; omega) os.length (by simp)
    rw [List.take_left, hlen, List.length_append, List.length_singleton, hlen] at hown
    exact ⟨_, he, os, c, g1, g2, hlen, hown, hc, hb0.grown hg (by simp) (fun k hk => by cases hk; exact Nat.le_refl _)⟩
  rcases h2 with ⟨rfl, h2⟩ | ⟨b2, o2, c2, rfl, _, _, k2, r2⟩
  · have := join_plus_nil SumInv w.heap.size b1 o1 c1 none 0 (digs a) (digs b) (by omega) (w.alloc (.cells #[.int .u64 0] 67)) (plus_ok _ _ _ (digs_lt a) (digs_lt b)) (SumInv.start _ _) (fun os i c h => h.1) (car_alloc w) (by rw [hz]; omega) (by omega) hcx (by rw [h2]; simp)
    rw [hz, h2] at this
    rw [h2] at fin
    exact this.mono fin
  · have := join_plus_some SumInv w.heap.size b1 o1 c1 b2 o2 c2 (digs a) (digs b) (by omega) (w.alloc (.cells #[.int .u64 0] 67)) (plus_ok _ _ _ (digs_lt a) (digs_lt b)) (SumInv.start _ _) (fun os i c h => h.1) (car_alloc w) (by rw [hz]; omega) (by omega) hcx (by rw [hz]; omega) (by omega) (fun i hi => (hb0.cell (p := ⟨b2, o2 + i, none⟩) k2).trans (r2 i hi))
    rw [hz] at this
    exact this.mono fin

set_option maxHeartbeats 2000000 in
set_option maxRecDepth 100000 in
theorem add_any (a b : Nat) (hab : a ≠ 0 ∨ b ≠ 0) (hla : (digs a).length ≤ 10000) (hlb : (digs b).length ≤ 10000) : AddOk a b := by
  intro v1 v2 w h1 h2
  obtain ⟨i0, hi, hz0, hz1, hz2⟩ := info_parts Tryd.info46
  by_cases hlt : (digs a).length < (digs b).length
  · have hb : b ≠ 0 := by intro h; rw [h, digs_zero] at hlt; simp at hlt
    have HJ := Lib.hid (join_add v2 v1 b a hb (by omega) hlb w h2 h1)
    rw [Nat.add_comm b a] at HJ
    clear hb
    obtain ⟨a1, c1, rfl⟩ := rd_form h1
    obtain ⟨a2, c2, rfl⟩ := rd_form h2
    have Hl := Lib.hid hlb
    clear h1 h2 hab hla hlb
    generalize a + b = s at *
    generalize (digs a).length = m at *
    generalize (digs b).length = n at *
    go_enter Tryd.func29, Tryd.ntmps29
    go_wp2_with fail
    refine HJ.out.mono ?_
    rintro e w1 ⟨v, rfl, os, c, g1, g2, g3, hown, hcar, hbw⟩
    have hc1 := cell_of_one hcar
    have HG1 := Lib.hid g1
    have HG2 := Lib.hid g2
    have HG3 := Lib.hid g3
    have HOW := Lib.hid (show w1.ownsRow (w.heap.size + 1) 46 1 v os.length (cls .u64 os) from hown)
    have HBW := Lib.hid hbw
    have HSZ := Lib.hid hcar.lt
    clear g1 g2 g3 hown hcar hbw
    go_wp2_with (at_builtin; refine wpList_append_own _ rfl _ _ 49 rfl (w.heap.size + 1) 46 i0 (.int .u64 0) 1 8 Tryd.underlying49 hi hz0 hz1 hz2 rfl (by decide) _ _ _ rfl (HOW.out.alloc _) ⟨w1.heap.size, 0, none⟩ 1 1 [.int .u64 (c : Int)] rfl rfl (cells_one _ _ _) (by intro u hu; simp at hu; subst hu; rfl) (by have := HG3.out; have := Hl.out; unfold maxLen; omega) (by have := HG3.out; have := Hl.out; omega) (by have := HSZ.out; simp; omega) ?_)
    intro v' w2 hown' hgrow _
    have hox : Own .u64 46 w.heap.size w2 v' (os ++ [c]) := (show Own .u64 46 (w.heap.size + 1) w2 v' (os ++ [c]) by unfold Own; rw [cls_append, List.length_append]; exact hown').mono (Nat.le_succ _)
    have htr := Trim_own 46 w.heap.size v' (os ++ [c]) HG2.out w2 hox
    rw [HG1.out] at htr
    have HTR := Lib.hid htr
    have HN := Lib.hid ((HBW.out.alloc HBW.out.size (.cells #[.int .u64 (c : Int)] 46)).grown hgrow (by have := HSZ.out; simp; omega) (fun k hk => Nat.le_of_succ_le (HOW.out.lt k hk).1))
    clear hox htr hown' hgrow
    go_wp2_with fail
    refine HTR.out.mono ?_
    rintro e w3 ⟨v3, rfl, hown, rfl⟩
    go_wp2
    go_ret
    exact ⟨v3, rfl, hown, HN.out⟩
  · have ha : a ≠ 0 := by
      intro h
      rw [h, digs_zero] at hlt
      rcases hab with h2 | h2
      · exact h2 h
      · have := List.length_pos_iff.2 (show digs b ≠ [] by rw [digs_pos h2]; simp)
        simp at hlt; rw [hlt] at this; simp at this
    have HJ := Lib.hid (join_add v1 v2 a b ha (by omega) hla w h1 h2)
    clear ha
    obtain ⟨a1, c1, rfl⟩ := rd_form h1
    obtain ⟨a2, c2, rfl⟩ := rd_form h2
    have Hl := Lib.hid hla
    clear h1 h2 hab hla hlb
    generalize a + b = s at *
    generalize (digs a).length = m at *
    generalize (digs b).length = n at *
    go_enter Tryd.func29, Tryd.ntmps29
    go_wp2_with fail
    refine HJ.out.mono ?_
    rintro e w1 ⟨v, rfl, os, c, g1, g2, g3, hown, hcar, hbw⟩
    have hc1 := cell_of_one hcar
    have HG1 := Lib.hid g1
    have HG2 := Lib.hid g2
    have HG3 := Lib.hid g3
    have HOW := Lib.hid (show w1.ownsRow (w.heap.size + 1) 46 1 v os.length (cls .u64 os) from hown)
    have HBW := Lib.hid hbw
    have HSZ := Lib.hid hcar.lt
    clear g1 g2 g3 hown hcar hbw
    go_wp2_with (at_builtin; refine wpList_append_own _ rfl _ _ 49 rfl (w.heap.size + 1) 46 i0 (.int .u64 0) 1 8 Tryd.underlying49 hi hz0 hz1 hz2 rfl (by decide) _ _ _ rfl (HOW.out.alloc _) ⟨w1.heap.size, 0, none⟩ 1 1 [.int .u64 (c : Int)] rfl rfl (cells_one _ _ _) (by intro u hu; simp at hu; subst hu; rfl) (by have := HG3.out; have := Hl.out; unfold maxLen; omega) (by have := HG3.out; have := Hl.out; omega) (by have := HSZ.out; simp; omega) ?_)
    intro v' w2 hown' hgrow _
    have hox : Own .u64 46 w.heap.size w2 v' (os ++ [c]) := (show Own .u64 46 (w.heap.size + 1) w2 v' (os ++ [c]) by unfold Own; rw [cls_append, List.length_append]; exact hown').mono (Nat.le_succ _)
    have htr := Trim_own 46 w.heap.size v' (os ++ [c]) HG2.out w2 hox
    rw [HG1.out] at htr
    have HTR := Lib.hid htr
    have HN := Lib.hid ((HBW.out.alloc HBW.out.size (.cells #[.int .u64 (c : Int)] 46)).grown hgrow (by have := HSZ.out; simp; omega) (fun k hk => Nat.le_of_succ_le (HOW.out.lt k hk).1))
    clear hox htr hown' hgrow
    go_wp2_with fail
    refine HTR.out.mono ?_
    rintro e w3 ⟨v3, rfl, hown, rfl⟩
    go_wp2
    go_ret
    exact ⟨v3, rfl, hown, HN.out⟩

end Go.Proofs.YtpdchplppkfdhaaDoor
