/- garboardref01.Cmp, both and Compare: walks. -/
import Derived.Test.YtgbcjlknlagoeaaGreatDoorRa
namespace Go.Proofs.YtgbcjlknlagoeaaGreatDoor
open Go.RowKit Go.Gb

theorem RCmp_len (a1 a2 : Option Addr) (n m c1 c2 : Nat) (h : n ≠ m) (w : World) :
    Calls Tryz.prog 61 #[.slice a1 n c1, .slice a2 m c2] w fun e w' => e = .returned (.int .i64 (cmpN n m)) ∧ w = w' := by
  have hb : ((n : Int) != (m : Int)) = true := bne_iff_ne.2 (by omega)
  by_cases hlt : n < m
  · have HF := Lib.hid (cmpN_lt hlt)
    go_enter Tryz.func61, Tryz.ntmps61
    go_wp2
    go_ret
    exact ⟨ret_int HF.out.symm, rfl⟩
  · have HF := Lib.hid (cmpN_gt (show m < n by omega))
    go_enter Tryz.func61, Tryz.ntmps61
    go_wp2
    go_ret
    exact ⟨ret_int HF.out.symm, rfl⟩

set_option maxHeartbeats 1000000 in
set_option maxRecDepth 100000 in
theorem RCmp_some (b1 o1 c1 b2 o2 c2 : Nat) (xs ys : List Nat) (hxy : xs.length = ys.length) (hx : ∀ x ∈ xs, x < BB) (hy : ∀ y ∈ ys, y < BB) (hl : xs.length ≤ 1000000) (w : World)
    (hcx : ∀ i, i < xs.length → w.cell? ⟨b1, o1 + i, none⟩ = some (.int .u32 ((xs.getD i 0 : Nat) : Int)))
    (hcy : ∀ i, i < ys.length → w.cell? ⟨b2, o2 + i, none⟩ = some (.int .u32 ((ys.getD i 0 : Nat) : Int))) :
    Calls Tryz.prog 61 #[.slice (some ⟨b1, o1, none⟩) xs.length c1, .slice (some ⟨b2, o2, none⟩) xs.length c2] w fun e w' => e = .returned (.int .i64 (cmpN (wval xs) (wval ys))) ∧ Below w.heap.size w w' := by
  have HXY := Lib.hid hxy
  have HX := Lib.hid hx
  have HY := Lib.hid hy
  have HCX := Lib.hid hcx
  have HCY := Lib.hid hcy
  clear hxy hx hy hcx hcy
  have hb : ((xs.length : Int) != (xs.length : Int)) = false := by simp
  go_enter Tryz.func61, Tryz.ntmps61
  go_wp2
  go_loopw [5] (fun ii wr => ∃ z : Int, -1 ≤ z ∧ z < xs.length ∧ ii = .int .i64 z ∧ Hid (EqFrom xs ys (z + 1).toNat) ∧ Hid (Below w.heap.size w wr)) (fun ii _ => (intOf ii + 1).toNat)
  case atStart => exact ⟨(xs.length : Int) - 1, by omega, by omega, rfl, fun j h1 h2 => absurd h1 (by omega), Below.refl _ _⟩
  case round =>
    obtain ⟨z, hz1', hz8, rfl, he, hn⟩ := hrel
    by_cases hz : 0 ≤ z
    · obtain ⟨j, rfl⟩ := Int.eq_ofNat_of_zero_le hz
      have hb1 := World.block_lt_of_cell? _ _ (HCX.out j (by omega))
      have hb2 := World.block_lt_of_cell? _ _ (HCY.out j (by have := HXY.out; omega))
      have hcx := (hn.out.cell (p := ⟨b1, o1 + j, none⟩) hb1).trans (HCX.out j (by omega))
      have hcy := (hn.out.cell (p := ⟨b2, o2 + j, none⟩) hb2).trans (HCY.out j (by have := HXY.out; omega))
      have he' := he.out
      rw [show ((j : Int) + 1).toNat = j + 1 by omega] at he'
      have HE := Lib.hid he'
      clear he' he
      have hjl := Lib.hid (show j < xs.length by omega)
      have hL : xs.getD j 0 < ys.getD j 0 → wval xs < wval ys := fun h => lt_of_word HXY.out hjl.out HX.out (fun k h1 h2 => HE.out k (by omega) h2) h
      have hG : ys.getD j 0 < xs.getD j 0 → wval ys < wval xs := fun h => lt_of_word HXY.out.symm (by have := HXY.out; have := hjl.out; omega) HY.out (fun k h1 h2 => (HE.out k (by omega) (by have := HXY.out; omega)).symm) h
      have HL := Lib.hid hL
      have HG := Lib.hid hG
      have HEQ := Lib.hid (show xs.getD j 0 = ys.getD j 0 → EqFrom xs ys j from fun h k h1 h2 => by
        by_cases hk : k = j
        · subst hk; exact h
        · exact HE.out k (by omega) h2)
      clear hL hG HE
      generalize xs.getD j 0 = x at *
      generalize ys.getD j 0 = y at *
      clear hb1 hb2
      have i1 : (0 : Int) ≤ (j : Int) := by omega
      have i2 : (j : Int) < (xs.length : Int) := by omega
      by_cases h1 : x < y
      · have HF := Lib.hid (cmpN_lt (HL.out h1))
        go_wp2
        go_quiet (fail)
        have HN2 := Lib.hid (below_drewN' hn.out nq)
        go_wp2
        go_ret
        exact ⟨ret_int HF.out.symm, HN2.out⟩
      · by_cases h2 : y < x
        · have HF := Lib.hid (cmpN_gt (HG.out h2))
          go_wp2
          go_quiet (fail)
          go_wp2
          have hn2 := below_drewN' hn.out nq
          have hcx2 : (wr.drewN nq).cell? ⟨b1, o1 + j, none⟩ = some (.int .u32 (x : Int)) := hcx
          have hcy2 : (wr.drewN nq).cell? ⟨b2, o2 + j, none⟩ = some (.int .u32 (y : Int)) := hcy
          have HN2 := Lib.hid hn2
          clear hcx hcy hn2
          generalize wr.drewN nq = w2 at *
          go_quiet (fail)
          have HN3 := Lib.hid (below_drewN' HN2.out nq)
          go_wp2
          go_ret
          exact ⟨ret_int HF.out.symm, HN3.out⟩
        · have HF := Lib.hid (HEQ.out (by omega))
          go_wp2
          go_quiet (fail)
          go_wp2
          have hn2 := below_drewN' hn.out nq
          have hcx2 : (wr.drewN nq).cell? ⟨b1, o1 + j, none⟩ = some (.int .u32 (x : Int)) := hcx
          have hcy2 : (wr.drewN nq).cell? ⟨b2, o2 + j, none⟩ = some (.int .u32 (y : Int)) := hcy
          have HN2 := Lib.hid hn2
          clear hcx hcy hn2
          generalize wr.drewN nq = w2 at *
          go_quiet (fail)
          have HN3 := Lib.hid (below_drewN' HN2.out nq)
          go_wp2
          go_roundw
          case rel => exact ⟨(j : Int) - 1, by omega, by omega, rfl, by rw [show ((j : Int) - 1 + 1).toNat = j by omega]; exact HF, HN3⟩
          case measure => simp [intOf]
    · have hz0' : (z + 1).toNat = 0 := by omega
      have he' := he.out
      rw [hz0'] at he'
      have heq := Lib.hid (eq_of_words HXY.out (fun j hj => he' j (by omega) hj))
      clear he' hz0'
      go_wp2
      go_ret
      exact ⟨ret_int (by rw [heq.out, cmpN_eq]), hn.out⟩

theorem RCmp_none (a1 a2 : Option Addr) (c1 c2 : Nat) (w : World) :
    Calls Tryz.prog 61 #[.slice a1 0 c1, .slice a2 0 c2] w fun e w' => e = .returned (.int .i64 0) ∧ w = w' := by
  go_enter Tryz.func61, Tryz.ntmps61
  go_wp2
  refine wp_loop_rounds 1 ?_
  rw [rounds_succ]
  go_wp2
  go_ret
  exact ⟨rfl, rfl⟩

theorem RCmp_any (v1 v2 : Value) (a b : Nat) (hl : (digs a).length ≤ 1000000) (w : World) (h1 : Rd .u32 w v1 (digs a)) (h2 : Rd .u32 w v2 (digs b)) :
    Calls Tryz.prog 61 #[v1, v2] w fun e w' => e = .returned (.int .i64 (cmpN a b)) ∧ Below w.heap.size w w' := by
  by_cases hne : (digs a).length = (digs b).length
  · by_cases h0 : (digs a).length = 0
    · have ha : a = 0 := by have := wval_digs a; rw [List.length_eq_zero_iff.1 h0] at this; exact this.symm
      have hb : b = 0 := by have := wval_digs b; rw [List.length_eq_zero_iff.1 (show (digs b).length = 0 by omega)] at this; exact this.symm
      obtain ⟨a1, c1, rfl⟩ := rd_form h1
      obtain ⟨a2, c2, rfl⟩ := rd_form h2
      rw [← hne, h0]
      exact (RCmp_none a1 a2 c1 c2 w).mono fun e w' ⟨g1, g2⟩ => ⟨by rw [g1, ha, hb, cmpN_eq], g2 ▸ Below.refl _ _⟩
    · obtain ⟨b1, o1, c1, rfl, _, _, _, r1⟩ := rd_pos h1 (by omega)
      obtain ⟨b2, o2, c2, rfl, _, _, _, r2⟩ := rd_pos h2 (by omega)
      have := RCmp_some b1 o1 c1 b2 o2 c2 (digs a) (digs b) hne (digs_lt a) (digs_lt b) hl w r1 r2
      rw [wval_digs, wval_digs] at this
      rw [← hne]
      exact this
  · obtain ⟨a1, c1, rfl⟩ := rd_form h1
    obtain ⟨a2, c2, rfl⟩ := rd_form h2
    refine (RCmp_len a1 a2 _ _ c1 c2 hne w).mono fun e w' ⟨g1, g2⟩ => ⟨?_, g2 ▸ Below.refl _ _⟩
    rw [g1]
    refine ret_int ?_
    rcases Nat.lt_or_ge (digs a).length (digs b).length with h | h
    · rw [cmpN_lt h, cmpN_lt (lt_of_digs_length h)]
    · have h' : (digs b).length < (digs a).length := by omega
      rw [cmpN_gt h', cmpN_gt (lt_of_digs_length h')]

end Go.Proofs.YtgbcjlknlagoeaaGreatDoor
