/- Texts of this proof, one behind the other. -/
import Derived.Test.YtmigpoiajkihhaaGreatDoorMz39q
import Derived.Test.YtmigpoiajkihhaaGreatDoorRhd
import Derived.Test.YtmigpoiajkihhaaGreatDoorKe
/- garboardref01.Cmp, both and Compare: walks. -/
namespace Go.Proofs.YtmigpoiajkihhaaGreatDoor
set_option maxRecDepth 100000
set_option maxHeartbeats 20000000
open Go.RowKit Go.Gb
theorem RCmp_len (a1 a2 : Option Addr) (n m c1 c2 : Nat) (h : n ≠ m) (w : World) :
 Calls Tryz.prog 85 #[.slice a1 n c1, .slice a2 m c2] w fun e w' => e = .returned (.int .i64 (cmpN n m)) ∧ w = w' := by
 have hb : ((n : Int) != (m : Int)) = true := bne_iff_ne.2 (by omega)
 by_cases hlt : n < m
 · have HF := Lib.hid (cmpN_lt hlt)
   go_enter Tryz.func85, Tryz.ntmps85
   go_wp2
   go_ret
   exact ⟨ret_int HF.out.symm, rfl⟩
 · have HF := Lib.hid (cmpN_gt (show m < n by omega))
   go_enter Tryz.func85, Tryz.ntmps85
   go_wp2
   go_ret
   exact ⟨ret_int HF.out.symm, rfl⟩
theorem RCmp_some (b1 o1 c1 b2 o2 c2 : Nat) (xs ys : List Nat) (hxy : xs.length = ys.length) (hx : ∀ x ∈ xs, x < BB) (hy : ∀ y ∈ ys, y < BB) (hl : xs.length ≤ 1000000) (w : World)
 (hcx : ∀ i, i < xs.length → w.cell? ⟨b1, o1 + i, none⟩ = some (.int .u32 ((xs.getD i 0 : Nat) : Int)))
 (hcy : ∀ i, i < ys.length → w.cell? ⟨b2, o2 + i, none⟩ = some (.int .u32 ((ys.getD i 0 : Nat) : Int))) :
 Calls Tryz.prog 85 #[.slice (some ⟨b1, o1, none⟩) xs.length c1, .slice (some ⟨b2, o2, none⟩) xs.length c2] w fun e w' => e = .returned (.int .i64 (cmpN (wval xs) (wval ys))) ∧ Below w.heap.size w w' := by
 have HXY := Lib.hid hxy
 have HX := Lib.hid hx
 have HY := Lib.hid hy
 have HCX := Lib.hid hcx
 have HCY := Lib.hid hcy
 clear hxy hx hy hcx hcy
 have hb : ((xs.length : Int) != (xs.length : Int)) = false := by simp
 go_enter Tryz.func85, Tryz.ntmps85
 go_wp2
 go_loopw [5] (fun ii wr => ∃ z : Int, -1 ≤ z ∧ z < xs.length ∧ ii = .int .i64 z ∧ Hid (EqFrom xs ys (z + 1).toNat) ∧ Hid (Below w.heap.size w wr)) (fun ii _ => (intOf ii + 1).toNat)
 case atStart => exact ⟨(xs.length : Int) - 1, by omega, by omega, rfl, fun j h1 h2 => absurd h1 (by omega), Below.refl _ _⟩
 case round =>
  obtain ⟨z, hz1', hz8, rfl, he, hn⟩ := hrel
  by_cases hz : 0 ≤ z
  · obtain ⟨j, rfl⟩ := Int.eq_ofNat_of_zero_le hz
    have hb1 := World.block_lt_of_cell? _ _ (HCX.out j (by omega))
    have hb2 := World.block_lt_of_cell? _ _ (HCY.out j (by have := HXY.out; omega))
    have hcx := (hn.out.cell (p := ⟨b1, o1 + j, none⟩) hb1).trans (HCX.out j (by omega))
    have hcy := (hn.out.cell (p := ⟨b2, o2 + j, none⟩) hb2).trans (HCY.out j (by have := HXY.out; omega))
    have he' := he.out
    rw [show ((j : Int) + 1).toNat = j + 1 by omega] at he'
    have HE := Lib.hid he'
    clear he' he
    have hjl := Lib.hid (show j < xs.length by omega)
    have hL : xs.getD j 0 < ys.getD j 0 → wval xs < wval ys := fun h => lt_of_word HXY.out hjl.out HX.out (fun k h1 h2 => HE.out k (by omega) h2) h
    have hG : ys.getD j 0 < xs.getD j 0 → wval ys < wval xs := fun h => lt_of_word HXY.out.symm (by have := HXY.out; have := hjl.out; omega) HY.out (fun k h1 h2 => (HE.out k (by omega) (by have := HXY.out; omega)).symm) h
    have HL := Lib.hid hL
    have HG := Lib.hid hG
    have HEQ := Lib.hid (show xs.getD j 0 = ys.getD j 0 → EqFrom xs ys j from fun h k h1 h2 => by
        by_cases hk : k = j
        · subst hk; exact h
        · exact HE.out k (by omega) h2)
    clear hL hG HE
    generalize xs.getD j 0 = x at *
    generalize ys.getD j 0 = y at *
    clear hb1 hb2
    have i1 : (0 : Int) ≤ (j : Int) := by omega
    have i2 : (j : Int) < (xs.length : Int) := by omega
    by_cases h1 : x < y
    · have HF := Lib.hid (cmpN_lt (HL.out h1))
      go_wp2
      go_quiet (fail)
      have HN2 := Lib.hid (below_drewN' hn.out nq)
      go_wp2
      go_ret
      exact ⟨ret_int HF.out.symm, HN2.out⟩
    · by_cases h2 : y < x
      · have HF := Lib.hid (cmpN_gt (HG.out h2))
        go_wp2
        go_quiet (fail)
        go_wp2
        have hn2 := below_drewN' hn.out nq
        have hcx2 : (wr.drewN nq).cell? ⟨b1, o1 + j, none⟩ = some (.int .u32 (x : Int)) := hcx
        have hcy2 : (wr.drewN nq).cell? ⟨b2, o2 + j, none⟩ = some (.int .u32 (y : Int)) := hcy
        have HN2 := Lib.hid hn2
        clear hcx hcy hn2
        generalize wr.drewN nq = w2 at *
        go_quiet (fail)
        have HN3 := Lib.hid (below_drewN' HN2.out nq)
        go_wp2
        go_ret
        exact ⟨ret_int HF.out.symm, HN3.out⟩
      · have HF := Lib.hid (HEQ.out (by omega))
        go_wp2
        go_quiet (fail)
        go_wp2
        have hn2 := below_drewN' hn.out nq
        have hcx2 : (wr.drewN nq).cell? ⟨b1, o1 + j, none⟩ = some (.int .u32 (x : Int)) := hcx
        have hcy2 : (wr.drewN nq).cell? ⟨b2, o2 + j, none⟩ = some (.int .u32 (y : Int)) := hcy
        have HN2 := Lib.hid hn2
        clear hcx hcy hn2
        generalize wr.drewN nq = w2 at *
        go_quiet (fail)
        have HN3 := Lib.hid (below_drewN' HN2.out nq)
        go_wp2
        go_roundw
        case rel => exact ⟨(j : Int) - 1, by omega, by omega, rfl, by rw [show ((j : Int) - 1 + 1).toNat = j by omega]; exact HF, HN3⟩
        case measure => simp [intOf]
  · have hz0' : (z + 1).toNat = 0 := by omega
    have he' := he.out
    rw [hz0'] at he'
    have heq := Lib.hid (eq_of_words HXY.out (fun j hj => he' j (by omega) hj))
    clear he' hz0'
    go_wp2
    go_ret
    exact ⟨ret_int (by rw [heq.out, cmpN_eq]), hn.out⟩
theorem RCmp_none (a1 a2 : Option Addr) (c1 c2 : Nat) (w : World) :
 Calls Tryz.prog 85 #[.slice a1 0 c1, .slice a2 0 c2] w fun e w' => e = .returned (.int .i64 0) ∧ w = w' := by
 go_enter Tryz.func85, Tryz.ntmps85
 go_wp2
 refine wp_loop_rounds 1 ?_
 rw [rounds_succ]
 go_wp2
 go_ret
 exact ⟨rfl, rfl⟩
theorem RCmp_any (v1 v2 : Value) (a b : Nat) (hl : (digs a).length ≤ 1000000) (w : World) (h1 : Rd .u32 w v1 (digs a)) (h2 : Rd .u32 w v2 (digs b)) :
 Calls Tryz.prog 85 #[v1, v2] w fun e w' => e = .returned (.int .i64 (cmpN a b)) ∧ Below w.heap.size w w' := by
 by_cases hne : (digs a).length = (digs b).length
 · by_cases h0 : (digs a).length = 0
   · have ha : a = 0 := by have := wval_digs a; rw [List.length_eq_zero_iff.1 h0] at this; exact this.symm
     have hb : b = 0 := by have := wval_digs b; rw [List.length_eq_zero_iff.1 (show (digs b).length = 0 by omega)] at this; exact this.symm
     obtain ⟨a1, c1, rfl⟩ := rd_form h1
     obtain ⟨a2, c2, rfl⟩ := rd_form h2
     rw [← hne, h0]
     exact (RCmp_none a1 a2 c1 c2 w).mono fun e w' ⟨g1, g2⟩ => ⟨by rw [g1, ha, hb, cmpN_eq], g2 ▸ Below.refl _ _⟩
   · obtain ⟨b1, o1, c1, rfl, _, _, _, r1⟩ := rd_pos h1 (by omega)
     obtain ⟨b2, o2, c2, rfl, _, _, _, r2⟩ := rd_pos h2 (by omega)
     have := RCmp_some b1 o1 c1 b2 o2 c2 (digs a) (digs b) hne (digs_lt a) (digs_lt b) hl w r1 r2
     rw [wval_digs, wval_digs] at this
     rw [← hne]
     exact this
 · obtain ⟨a1, c1, rfl⟩ := rd_form h1
   obtain ⟨a2, c2, rfl⟩ := rd_form h2
   refine (RCmp_len a1 a2 _ _ c1 c2 hne w).mono fun e w' ⟨g1, g2⟩ => ⟨?_, g2 ▸ Below.refl _ _⟩
   rw [g1]
   refine ret_int ?_
   rcases Nat.lt_or_ge (digs a).length (digs b).length with h | h
   · rw [cmpN_lt h, cmpN_lt (lt_of_digs_length h)]
   · have h' : (digs b).length < (digs a).length := by omega
     rw [cmpN_gt h', cmpN_gt (lt_of_digs_length h')]
end Go.Proofs.YtmigpoiajkihhaaGreatDoor
/- garboardref01.Times of any numbers; what the guess of a word of garboardref01.Over keeps. -/
namespace Go.Gb
set_option maxRecDepth 100000
set_option maxHeartbeats 20000000
def GJ (p2 p1 p0 v1 v0 g r : Nat) : Prop := (r < BB ∧ GI p2 p1 p0 v1 v0 g r) ∨ (BB ≤ r ∧ r < 2 * BB ∧ GOK p2 p1 p0 v1 v0 g)
theorem GJ.start {p2 p1 p0 v1 v0 : Nat} (hv1 : 500000000 ≤ v1) (hv1' : v1 < BB) (hp1 : p1 < BB) (hp0 : p0 < BB) (hp2 : p2 ≤ v1) : GJ p2 p1 p0 v1 v0 ((p2 * BB + p1) / v1) ((p2 * BB + p1) % v1) := by
 have h := GI.start (v0 := v0) hv1 hv1' hp1 hp0 hp2
 exact Or.inl ⟨h.2.2.1, h⟩
theorem GJ.bound {p2 p1 p0 v1 v0 g r : Nat} (h : GJ p2 p1 p0 v1 v0 g r) : g ≤ BB + 1 ∧ r < 2 * BB := by
 rcases h with ⟨h1, h2⟩ | ⟨h1, h2, h3⟩
 · exact ⟨h2.2.1, by have := BB_pos; omega⟩
 · exact ⟨by have := h3.1; omega, h2⟩
theorem GJ.great {p2 p1 p0 v1 v0 g r : Nat} (h : GJ p2 p1 p0 v1 v0 g r) (hr : BB ≤ r) : GOK p2 p1 p0 v1 v0 g := by
 rcases h with ⟨h1, h2⟩ | ⟨h1, h2, h3⟩
 · omega
 · exact h3
theorem GJ.fin {p2 p1 p0 v1 v0 g r : Nat} (h : GJ p2 p1 p0 v1 v0 g r) (hg : g < BB) (ht : g * v0 ≤ r * BB + p0) : GOK p2 p1 p0 v1 v0 g := by
 rcases h with ⟨h1, h2⟩ | ⟨h1, h2, h3⟩
 · exact h2.fin hg ht
 · exact h3
theorem GJ.less {p2 p1 p0 v1 v0 g r : Nat} (h : GJ p2 p1 p0 v1 v0 g r) (hv1 : v1 < BB) (hv0 : v0 < BB) (hp1 : p1 < BB) (hp2 : p2 ≤ v1) (hr : r < BB) (ht : BB ≤ g ∨ r * BB + p0 < g * v0) : 0 < g ∧ GJ p2 p1 p0 v1 v0 (g - 1) (r + v1) := by
 rcases h with ⟨h1, h2⟩ | ⟨h1, h2, h3⟩
 · have hgp : 0 < g := by
    rcases Nat.eq_zero_or_pos g with h0 | h0
    · rcases ht with ht | ht
      · have := BB_pos; omega
      · rw [h0, Nat.zero_mul] at ht; omega
    · exact h0
   have hne : ∀ q, q < BB → q * (v1 * BB + v0) ≤ (p2 * BB + p1) * BB + p0 → q ≠ g := by
    rcases ht with ht | ht
    · exact GI.big ht
    · exact h2.test ht
   refine ⟨hgp, ?_⟩
   by_cases hl : r + v1 < BB
   · exact Or.inl ⟨hl, h2.less hne hgp hl⟩
   · exact Or.inr ⟨by omega, by omega, h2.last hv0 hp1 hp2 hne hgp (by omega)⟩
 · omega
theorem pad_take {m : Nat} {D : List Nat} (h1 : m ≤ D.length) (h2 : D.length ≤ m + 1) : (D ++ [0, 0]).take (m + 1) = D ++ List.replicate (m + 1 - D.length) 0 := by
 rw [List.take_append, List.take_of_length_le h2]
 congr 1
 rcases Nat.lt_or_ge D.length (m + 1) with h | h
 · rw [show m + 1 - D.length = 1 by omega]; rfl
 · rw [show m + 1 - D.length = 0 by omega]; rfl
end Go.Gb
namespace Go.Proofs.YtmigpoiajkihhaaGreatDoor
set_option maxRecDepth 100000
set_option maxHeartbeats 20000000
open Go.RowKit Go.Gb
theorem RTimes_any (v1 v2 : Value) (a b : Nat) (hla : (digs a).length ≤ 100000) (hlb : (digs b).length ≤ 100000) (w : World) (h1 : Rd .u32 w v1 (digs a)) (h2 : Rd .u32 w v2 (digs b)) :
 Calls Tryz.prog 89 #[v1, v2] w fun e w' => ∃ v, e = .returned v ∧ Own .u32 81 w.heap.size w' v (digs (a * b)) ∧ Below w.heap.size w w' := by
 by_cases ha : a = 0
 · subst ha
   rw [Nat.zero_mul, digs_zero]
   rw [digs_zero] at h1
   obtain ⟨p1, c1, rfl⟩ := rd_form h1
   obtain ⟨p2, c2, rfl⟩ := rd_form h2
   clear h1 h2
   simp only [List.length_nil]
   go_enter Tryz.func89, Tryz.ntmps89
   go_wp2
   go_ret
   exact ⟨_, rfl, Own.nil _ _ _ _, Below.refl _ _⟩
 · by_cases hb : b = 0
   · subst hb
     rw [Nat.mul_zero, digs_zero]
     rw [digs_zero] at h2
     obtain ⟨p1, c1, rfl⟩ := rd_form h1
     obtain ⟨p2, c2, rfl⟩ := rd_form h2
     have hp : 0 < (digs a).length := List.length_pos_iff.2 (by rw [digs_pos ha]; simp)
     have d1 : (((digs a).length : Int) == 0) = false := beq_eq_false_iff_ne.2 (by omega)
     clear h1 h2 ha
     simp only [List.length_nil]
     generalize (digs a).length = n at *
     go_enter Tryz.func89, Tryz.ntmps89
     go_wp2
     go_ret
     exact ⟨_, rfl, Own.nil _ _ _ _, Below.refl _ _⟩
   · have hpa : 0 < (digs a).length := List.length_pos_iff.2 (by rw [digs_pos ha]; simp)
     have hpb : 0 < (digs b).length := List.length_pos_iff.2 (by rw [digs_pos hb]; simp)
     obtain ⟨b1, o1, c1, rfl, _, _, k1, r1⟩ := rd_pos h1 hpa
     obtain ⟨b2, o2, c2, rfl, _, _, k2, r2⟩ := rd_pos h2 hpb
     have h := RTimes_some b1 o1 c1 b2 o2 c2 (digs a) (digs b) hpa hpb hla hlb (digs_lt a) (digs_lt b) w k1 k2 r1 r2
     rw [wval_digs, wval_digs] at h
     exact h
theorem cells_two (w : World) (u v : Value) (T : TypeId) : ∀ j x, [u, v][j]? = some x → (w.alloc (.cells #[u, v] T)).cell? ((⟨w.heap.size, 0, none⟩ : Addr).add j) = some x := by
 intro j x hj
 match j, hj with
 | 0, hj => simp at hj; subst hj; simp [Addr.add]
 | 1, hj => simp at hj; subst hj; simp [Addr.add]
theorem ROver_less (v1 v2 : Value) (a b : Nat) (hab : a < b) (hl : (digs a).length ≤ 100000) (w : World) (h1 : Rd .u32 w v1 (digs a)) (h2 : Rd .u32 w v2 (digs b)) :
 Calls Tryz.prog 82 #[v1, v2] w fun e w' => ∃ q r, e = .returned (.tuple #[q, r]) ∧ Rd .u32 w' q (digs (a / b)) ∧ Rd .u32 w' r (digs (a % b)) ∧ Below w.heap.size w w' := by
 have hc := RCmp_any v1 v2 a b (by omega) w h1 h2
 rw [cmpN_lt hab] at hc
 have HC := Lib.hid hc
 have H1 := Lib.hid h1
 rw [Nat.div_eq_of_lt hab, Nat.mod_eq_of_lt hab, digs_zero]
 clear hc h1 h2
 go_enter Tryz.func82, Tryz.ntmps82
 go_wp2_with fail
 refine HC.out.mono ?_
 rintro e w1 ⟨rfl, hb1⟩
 have HB1 := Lib.hid hb1
 clear hb1
 go_wp2
 go_ret2
 exact ⟨_, v1, rfl, Or.inl ⟨rfl, rfl⟩, H1.out.below HB1.out, HB1.out⟩
theorem ROver_word (v1 v2 : Value) (a b : Nat) (hab : b ≤ a) (hlb : (digs b).length = 1) (hl : (digs a).length ≤ 100000) (w : World) (h1 : Rd .u32 w v1 (digs a)) (h2 : Rd .u32 w v2 (digs b)) :
 Calls Tryz.prog 82 #[v1, v2] w fun e w' => ∃ q r, e = .returned (.tuple #[q, r]) ∧ Rd .u32 w' q (digs (a / b)) ∧ Rd .u32 w' r (digs (a % b)) ∧ Below w.heap.size w w' := by
 have hc := RCmp_any v1 v2 a b (by omega) w h1 h2
 have hcc : (0 : Int) ≤ cmpN a b := by unfold cmpN; split <;> (try split) <;> omega
 have hb0 : b ≠ 0 := by intro h; rw [h, digs_zero] at hlb; simp at hlb
 have hbB : b < BB := by have := lt_pow_digs b; rw [hlb, Nat.pow_one] at this; exact this
 obtain ⟨b2, o2, c2, rfl, _, _, k2, r2⟩ := rd_pos h2 (by omega)
 have hcb := r2 0 (by omega)
 have hd : (digs b).getD 0 0 = b := by rw [digs_pos hb0, List.getD_cons_zero, Nat.mod_eq_of_lt hbB]
 rw [hd, Nat.add_zero] at hcb
 rw [hlb] at hc ⊢
 obtain ⟨m, hm⟩ : ∃ m, m = a % b := ⟨_, rfl⟩
 rw [← hm]
 have HMM := Lib.hid hm
 clear hm
 generalize cmpN a b = cc at *
 have HC := Lib.hid hc
 have H1 := Lib.hid h1
 have HCB := Lib.hid hcb
 have Hb0 := Lib.hid hb0
 have HbB := Lib.hid hbB
 have k3 : (b : Int) ≤ 999999999 := by rw [BB_eq] at hbB; omega
 clear hc h1 h2 r2 hd hlb hcb hb0 hbB hab
 go_enter Tryz.func82, Tryz.ntmps82
 go_wp2_with fail
 refine HC.out.mono ?_
 rintro e w1 ⟨rfl, hb1⟩
 have HB1 := Lib.hid hb1
 have hcb1 := (hb1.cell (p := ⟨b2, o2, none⟩) k2).trans HCB.out
 have hs := Rsmall_any v1 a b (by have := Hb0.out; omega) HbB.out hl w1 (H1.out.below hb1)
 rw [← HMM.out] at hs
 have HS := Lib.hid hs
 clear hs
 clear hb1
 go_wp2_with fail
 refine HS.out.mono ?_
 rintro e w2 ⟨q, rfl, hq, hb2⟩
 have HB2 := Lib.hid (HB1.out.trans (hb2.mono HB1.out.size))
 have HQ := Lib.hid hq
 have HM := Lib.hid (RSmall1 m (by have h9 := HbB.out; rw [BB_eq] at h9; have := Nat.mod_lt a (show 0 < b by have := Hb0.out; omega); have := HMM.out; omega) w2)
 clear hb2 hq hcb1
 go_wp2_with fail
 refine HM.out.mono ?_
 rintro e w3 ⟨r, rfl, hr, hb3⟩
 have HB3 := Lib.hid (HB2.out.trans (hb3.mono HB2.out.size))
 have HR := Lib.hid hr.rd
 have HQ3 := Lib.hid ((HQ.out.below hb3).rd)
 clear hb3 hr
 go_wp2
 go_ret2
 exact ⟨q, r, rfl, HQ3.out, HR.out, HB3.out⟩
end Go.Proofs.YtmigpoiajkihhaaGreatDoor
