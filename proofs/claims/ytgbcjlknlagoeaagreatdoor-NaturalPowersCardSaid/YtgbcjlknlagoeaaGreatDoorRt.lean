/- natural.firstGuess and natural.root of any number: walks. -/
import Derived.Test.YtgbcjlknlagoeaaGreatDoorMne
import Derived.Test.YtgbcjlknlagoeaaGreatDoorMkf
import Derived.Test.YtgbcjlknlagoeaaGreatDoorNumR
import Derived.Test.YtgbcjlknlagoeaaGreatDoorMnu
import Derived.Test.YtgbcjlknlagoeaaGreatDoorMea
import Derived.Deep.RegionWith
import Derived.Deep.RegionHeld3
import Derived.Deep.RegionLawGrows
import Derived.Deep.DeepCutAuto
namespace Go.Proofs.YtgbcjlknlagoeaaGreatDoor
open Go.RowKit Go.Gb

set_option maxHeartbeats 2000000 in
set_option maxRecDepth 100000 in
theorem firstGuess_two (v : Value) (x : Nat) (hx : (digs x).length = 2) (w : World) (h : Rd .u64 w v (digs x)) :
    Calls Tryz.prog 125 #[v] w fun e w' => ∃ u g, e = .returned u ∧ Hid (Above x g ∧ (digs g).length ≤ 2) ∧ Own .u64 42 w.heap.size w' u (digs g) ∧ Below w.heap.size w w' := by
  obtain ⟨g1, g2, g3⟩ := digs_two (n := x) (by omega)
  have hx18 := lt_two (n := x) (by omega)
  obtain ⟨b, o, c, rfl, _, _, hb, r⟩ := rd_pos h (by omega)
  have c0 := r 0 (by omega)
  have c1 := r 1 (by omega)
  rw [Nat.add_zero] at c0
  rw [hx]
  have hp := Lib.hid (fun W => pow2_any x (by omega) W)
  have hab := pow2_above x (by omega)
  have hp0 : 0 < 2 ^ ((Lib.bitLen x + 1) / 2) := Nat.pow_pos (by decide)
  have hpb : 2 ^ ((Lib.bitLen x + 1) / 2) ≤ 2 ^ 31 := Nat.pow_le_pow_right (by decide) (by have := Lib.bitLen_le x 60 (by omega) (by omega); omega)
  generalize 2 ^ ((Lib.bitLen x + 1) / 2) = p at *
  obtain ⟨g, hg⟩ : ∃ g : Nat, g = min p 999999999 := ⟨_, rfl⟩
  have hmn : min (p : Int) 999999999 = (g : Int) := by omega
  have hgB : g < BB := by rw [BB_eq]; omega
  have hg0 : g ≠ 0 := by omega
  have hA : Above x g ∧ (digs g).length ≤ 2 := by
    refine ⟨⟨by omega, ?_⟩, Nat.le_trans (digs_length_le (k := 1) (by rw [Nat.pow_one]; exact hgB)) (by omega)⟩
    by_cases hpl : p ≤ 999999999
    · rw [show g = p by omega]; exact hab.2
    · rw [show g = 999999999 by omega]
      show x < 1000000000 * 1000000000
      omega
  have HA := Lib.hid hA
  have ho := Lib.hid (fun W => own_alloc_one W g hg0 hgB)
  rw [BB_eq] at g1 g2 g3
  generalize (digs x).getD 0 0 = lo at *
  generalize (digs x).getD 1 0 = hi at *
  have e1 : (hi : Int) * 1000000000 + (lo : Int) = (x : Int) := by omega
  have k1 : (hi : Int) ≤ 999999999 := by omega
  have k2 : (lo : Int) ≤ 999999999 := by omega
  have v1 : IntKind.u64.wrap ((hi : Int) * 1000000000) = (hi : Int) * 1000000000 := IntWalk.u64_in _ (by omega)
  have v2 : IntKind.u64.wrap (x : Int) = (x : Int) := IntWalk.u64_in _ (by omega)
  clear r h hx g1 g2 g3 hab hp0 hpb hg hgB hg0 hA hx18
  go_enter Tryz.func125, Tryz.ntmps125
  go_wp2_with fail
  go_region_with (go_at_call 150; go_must (refine (hp.out _).mono ?_; rintro e w' ⟨rfl, rfl⟩))
  all_goals
    go_wp2
    go_ret
    refine ⟨_, g, rfl, HA, ?_, ?_⟩
    · first | exact ho.out w | exact ho.out w.drew
    · repeat (first | exact Below.refl _ _ | refine Below.alloc ?_ (Nat.le_refl _) _ | refine Below.drew ?_)

/-- make, as an equation. -/
theorem make_row (d : Nat) (hd : d ≤ 100000) (W : World) : (Instr.makeSlice 45 (.int .i64 (d : Int)) (.int .i64 (d : Int))).run Tryz.prog W = .ok (.slice (some ⟨W.heap.size, 0, none⟩) d d) (W.alloc (.cells (cls .u64 (List.replicate d 0)).toArray 42)) := by
  obtain ⟨i0, hi, hz0, hz1, hz2⟩ := info_parts Tryz.info42
  have h := run_make (P := Tryz.prog) W 45 42 i0 (.int .u64 0) Tryz.underlying45 hi hz0 .i64 .i64 d d (by omega) (by omega) (by rw [hz2]; omega) (by omega)
  simp only [Int.toNat_natCast, hz1, Nat.mul_one] at h
  rw [← madeCells_arr]
  exact h

theorem add0 (g j : Nat) : (⟨g, 0, none⟩ : Addr).add j = ⟨g, j, none⟩ := by rw [Lib.add_plain, Nat.zero_add]
theorem made_cells (d : Nat) (W : World) : ∀ j u, (cls .u64 (List.replicate d 0))[j]? = some u → (W.alloc (.cells (cls .u64 (List.replicate d 0)).toArray 42)).cell? ((⟨W.heap.size, 0, none⟩ : Addr).add j) = some u := by
  intro j u hj
  rw [add0, wc_new rfl]
  simpa using hj
theorem cells_on {W W' : World} {g : Nat} {xs : List Value} (h : ∀ j u, xs[j]? = some u → W.cell? ((⟨g, 0, none⟩ : Addr).add j) = some u) (hg : g < W.heap.size) (hb : Below W.heap.size W W') : ∀ j u, xs[j]? = some u → W'.cell? ((⟨g, 0, none⟩ : Addr).add j) = some u := fun j u hj => by
  have h1 := h j u hj
  rw [add0] at h1 ⊢
  rw [hb.cell (p := ⟨g, j, none⟩) hg]
  exact h1
theorem own_cells {B : Nat} {w : World} {g n c : Nat} {xs : List Nat} (h : Own .u64 42 B w (.slice (some ⟨g, 0, none⟩) n c) xs) : ∀ j u, (cls .u64 xs)[j]? = some u → w.cell? ((⟨g, 0, none⟩ : Addr).add j) = some u := World.ownsRow.cells h rfl

theorem own_row {B B' : Nat} {w : World} {v : Value} {d : Nat} {D : List Nat} (hB : B ≤ B') (h : w.ownsRow B' 42 1 v (d + D.length) (cls .u64 (List.replicate d 0) ++ cls .u64 D)) : Own .u64 42 B w v (List.replicate d 0 ++ D) := by
  refine Own.mono ?_ hB
  unfold Own
  rw [cls_append, List.length_append, List.length_replicate]
  exact h

/-- What is asked of root, for all shorter numbers. -/
def RtIh (n : Nat) : Prop := ∀ y, (digs y).length < n → RootOk y

set_option maxHeartbeats 4000000 in
set_option maxRecDepth 100000 in
theorem firstGuess_more (v : Value) (x : Nat) (hx3 : 3 ≤ (digs x).length) (hx : (digs x).length ≤ 4000) (ih : RtIh (digs x).length) (w : World) (h : Rd .u64 w v (digs x)) :
    Calls Tryz.prog 125 #[v] w fun e w' => ∃ u g, e = .returned u ∧ Hid (Above x g ∧ (digs g).length ≤ 9000) ∧ Own .u64 42 w.heap.size w' u (digs g) ∧ Below w.heap.size w w' := by
  obtain ⟨i0, hi, hz0, hz1, hz2⟩ := info_parts Tryz.info42
  obtain ⟨n, hn⟩ : ∃ n, n = (digs x).length := ⟨_, rfl⟩
  obtain ⟨d, hd⟩ : ∃ d : Nat, d = max 1 (n / 4) := ⟨_, rfl⟩
  have hmx : max 1 ((n : Int) / 4) = (d : Int) := by omega
  have hd1 : 1 ≤ d := by omega
  have hd2 : 2 * d < n := by omega
  obtain ⟨b, o, c, rfl, hnc, hcm, hb, r⟩ := rd_pos h (by omega)
  rw [← hn] at hnc hx hx3 ih
  have hlen : (digs (x / BB ^ (2 * d))).length = n - 2 * d := by rw [← digs_drop, List.length_drop, ← hn]
  have hsub : Rd .u64 w (.slice (some ⟨b, o + 2 * d, none⟩) (n - 2 * d) (c - 2 * d)) (digs (x / BB ^ (2 * d))) := by
    refine Or.inr ⟨b, o + 2 * d, c - 2 * d, by rw [hlen], by rw [hlen]; omega, by omega, hb, fun i hi => ?_⟩
    rw [hlen] at hi
    rw [← digs_drop, show o + 2 * d + i = o + (2 * d + i) by omega, r (2 * d + i) (by omega)]
    congr 3
    simp [List.getD, List.getElem?_drop]
  have HR := Lib.hid (ih (x / BB ^ (2 * d)) (by rw [hlen]; omega) _ w hsub)
  have hab := Lib.hid (fun s (h : x / BB ^ (2 * d) < (s + 1) * (s + 1)) => above_high h)
  have hsl := Lib.hid (fun s (h : s * s ≤ x / BB ^ (2 * d)) => (show (digs s).length ≤ 4000 from Nat.le_trans (digs_length_mono (Nat.le_trans (Nat.le_mul_self s) h)) (by rw [hlen]; omega)))
  have hmk := make_row d (by omega)
  have HC := Lib.hid hcm
  rw [← hn]
  have hd9 : d ≤ 4000 := by omega
  clear r h hsub ih hlen hn hd hcm
  go_enter Tryz.func125, Tryz.ntmps125
  go_wp2_with fail
  refine HR.out.mono ?_
  rintro e w1 ⟨u1, s, rfl, hs1, hs2, ho1, hb1⟩
  have hal := hsl.out s hs1
  have hsum := add_any s 1 (Or.inr (by decide)) (by omega) (by rw [digs_one]; decide)
  have hone : ∀ W : World, Own .u64 42 W.heap.size (W.alloc (.cells #[.int .u64 1] 42)) (.slice (some ⟨W.heap.size, 0, none⟩) 1 1) (digs 1) := fun W => own_alloc_one W 1 (by decide) BB_one
  have bZ : ∀ W : World, Below W.heap.size W (W.alloc (.cells (cls .u64 (List.replicate d 0)).toArray 42)) := fun W => (Below.refl _ W).alloc (Nat.le_refl _) _
  have bO : ∀ W : World, Below W.heap.size W (W.alloc (.cells #[.int .u64 1] 42)) := fun W => (Below.refl _ W).alloc (Nat.le_refl _) _
  have CA := hsum u1 _ ((w1.alloc (.cells (cls .u64 (List.replicate d 0)).toArray 42)).alloc (.cells #[.int .u64 1] 42)).drew ((ho1.rd.below (bZ w1)).below (bO _).drew) (hone (w1.alloc (.cells (cls .u64 (List.replicate d 0)).toArray 42))).rd
  have CB := hsum u1 _ ((w1.alloc (.cells #[.int .u64 1] 42)).alloc (.cells (cls .u64 (List.replicate d 0)).toArray 42)).drew ((ho1.rd.below (bO w1)).below (bZ _).drew) ((hone w1).rd.below (bZ _).drew)
  have CC := hsum u1 _ (w1.alloc (.cells #[.int .u64 1] 42)).drew (ho1.rd.below (bO w1).drew) (hone w1).rd
  rw [World.size_alloc] at CA
  have HCA := Lib.hid CA
  have HCB := Lib.hid CB
  have HCC := Lib.hid CC
  have bA := ((Below.refl w.heap.size w1).alloc hb1.size (.cells (cls .u64 (List.replicate d 0)).toArray 42)).alloc (by rw [World.size_alloc]; have := hb1.size; omega) (.cells #[.int .u64 1] 42)
  have bB := ((Below.refl w.heap.size w1).alloc hb1.size (.cells #[.int .u64 1] 42)).alloc (by rw [World.size_alloc]; have := hb1.size; omega) (.cells (cls .u64 (List.replicate d 0)).toArray 42)
  have bC := (Below.refl w.heap.size w1).alloc hb1.size (.cells #[.int .u64 1] 42)
  have BA := Lib.hid (hb1.trans bA.drew)
  have BB' := Lib.hid (hb1.trans bB.drew)
  have BC := Lib.hid (hb1.trans bC.drew)
  have MA := Lib.hid (cells_on (made_cells d w1) (by rw [World.size_alloc]; omega) (bO (w1.alloc (.cells (cls .u64 (List.replicate d 0)).toArray 42))).drew)
  have MB := Lib.hid (show ∀ j u, (cls .u64 (List.replicate d 0))[j]? = some u → ((w1.alloc (.cells #[.int .u64 1] 42)).alloc (.cells (cls .u64 (List.replicate d 0)).toArray 42)).drew.cell? ((⟨w1.heap.size + 1, 0, none⟩ : Addr).add j) = some u from by
    have h := made_cells d (w1.alloc (.cells #[.int .u64 1] 42))
    rw [World.size_alloc] at h
    exact h)
  have zA : w1.heap.size < ((w1.alloc (.cells (cls .u64 (List.replicate d 0)).toArray 42)).alloc (.cells #[.int .u64 1] 42)).drew.heap.size := by show _ < (World.alloc _ _).heap.size; rw [World.size_alloc, World.size_alloc]; omega
  have zB : w1.heap.size + 1 < ((w1.alloc (.cells #[.int .u64 1] 42)).alloc (.cells (cls .u64 (List.replicate d 0)).toArray 42)).drew.heap.size := by show _ < (World.alloc _ _).heap.size; rw [World.size_alloc, World.size_alloc]; omega
  have ZA := Lib.hid zA
  have ZB := Lib.hid zB
  have hne : s + 1 ≠ 0 := by omega
  have hm0 : 0 < (digs (s + 1)).length := by rw [digs_pos hne]; simp
  have hml : (digs (s + 1)).length ≤ 4002 := by
    have := digs_add_len (K := 4000) (a := s) (b := 1) hal (by rw [digs_one]; simp)
    omega
  have HG := Lib.hid (show Above x ((s + 1) * BB ^ d) ∧ (digs ((s + 1) * BB ^ d)).length ≤ 9000 from ⟨⟨Nat.mul_pos (by omega) (Nat.pow_pos BB_pos), hab.out s hs2⟩, by rw [digs_shift hne, List.length_append, List.length_replicate]; omega⟩)
  have HSH := Lib.hid (digs_shift hne d)
  obtain ⟨au, cu, rfl⟩ := rd_form ho1.rd
  clear hs1 hs2 ho1 hb1 hsum hone bZ bO CA CB CC bA bB bC zA zB hal hne
  generalize (digs s).length = ls at *
  generalize hD : digs (s + 1) = D at *
  clear hD
  go_upto_region 7 with fail
  go_cut [2] (fun v2 wx => ∃ u : Value, v2 = u ∧ Hid (Own .u64 42 w.heap.size wx u (List.replicate d 0 ++ D)) ∧ Hid (Below w.heap.size w wx))
  case first =>
    go_region_held3 (fun _ => True) (exact trivial)
      (first
        | (go_at_call 54; (with_reducible refine (HCA.out).mono ?_); rintro e w2 ⟨v3, rfl, ho3, hb3⟩; have hBc : Hid (Below w.heap.size w w2) := Lib.hid (BA.out.trans (hb3.mono BA.out.size)); have hM := cells_on MA.out ZA.out hb3; obtain ⟨a3, c3, rfl⟩ := rd_form ho3.rd; obtain ⟨g3, rfl, _, _, hg3⟩ := own_form ho3 hm0; have hN := own_cells ho3; clear ho3 hb3)
        | (go_at_call 54; (with_reducible refine (HCB.out).mono ?_); rintro e w2 ⟨v3, rfl, ho3, hb3⟩; have hBc : Hid (Below w.heap.size w w2) := Lib.hid (BB'.out.trans (hb3.mono BB'.out.size)); have hM := cells_on MB.out ZB.out hb3; obtain ⟨a3, c3, rfl⟩ := rd_form ho3.rd; obtain ⟨g3, rfl, _, _, hg3⟩ := own_form ho3 hm0; have hN := own_cells ho3; clear ho3 hb3)
        | (go_at_call 54; (with_reducible refine (HCC.out).mono ?_); rintro e w2 ⟨v3, rfl, ho3, hb3⟩; have hBd := BC.out.trans (hb3.mono BC.out.size); have hBc : Hid (Below w.heap.size w (w2.alloc (.cells (cls .u64 (List.replicate d 0)).toArray 42))) := Lib.hid (hBd.alloc hBd.size (.cells (cls .u64 (List.replicate d 0)).toArray 42)); have hM := made_cells d w2; obtain ⟨a3, c3, rfl⟩ := rd_form ho3.rd; obtain ⟨g3, rfl, _, _, hg3⟩ := own_form ho3 hm0; have hN := cells_on (own_cells ho3) hg3 ((Below.refl _ w2).alloc (Nat.le_refl _) (.cells (cls .u64 (List.replicate d 0)).toArray 42)); clear ho3 hb3)
        | (refine step_append_grows rfl (.tmp 37) (.tmp 40) 45 rfl 42 i0 (.int .u64 0) 1 8 Tryz.underlying45 hi hz0 hz1 hz2 rfl (by decide) _ d d (cls .u64 (List.replicate d 0)) (by rfl) (fun h => by cases h) (by simp [cls]) (fun b hb => by cases hb; exact hM) _ D.length _ (cls .u64 D) (by rfl) (by simp [cls]) hN (by intro u hu; simp only [cls, List.mem_map] at hu; obtain ⟨_, _, rfl⟩ := hu; rfl) (by omega) (by unfold maxLen; omega) (by omega) ?_; intro v' w' hown hgrow; have ho4 : Own .u64 42 w.heap.size w' v' (List.replicate d 0 ++ D) := own_row (hBc.out.size) hown; have hB4 := Lib.hid (hBc.out.grown hgrow hBc.out.size (fun k hk => by cases hk)); obtain ⟨a4, c4, rfl⟩ := rd_form ho4.rd; obtain ⟨g4, rfl, _, _, _⟩ := own_form ho4 (by rw [List.length_append]; omega); have HO4 := Lib.hid ho4; clear ho4 hown hgrow hM hN hBc)
        | fail)
    all_goals
      go_wp2_with fail
      go_meet
      have HO5 := HO4.out
      rw [List.length_append, List.length_replicate] at HO5
      exact ⟨_, rfl, HO5, hB4⟩
  case rest =>
    obtain ⟨_, rfl, hO, hB⟩ := hcut
    go_wp2
    go_ret
    refine ⟨_, (s + 1) * BB ^ d, rfl, HG, ?_, hB.out⟩
    rw [HSH.out]
    exact hO.out

end Go.Proofs.YtgbcjlknlagoeaaGreatDoor
