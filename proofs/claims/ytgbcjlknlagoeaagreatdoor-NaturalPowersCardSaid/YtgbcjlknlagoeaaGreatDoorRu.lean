/- natural.root of any number: walks. -/
import Derived.Test.YtgbcjlknlagoeaaGreatDoorRt
import Derived.Deep.LoopGhost
namespace Go.Proofs.YtgbcjlknlagoeaaGreatDoor
open Go.RowKit Go.Gb

set_option maxHeartbeats 2000000 in
/-- root, from the first guess on. -/
theorem root_from2 (v : Value) (x : Nat) (hx : 0 < x) (hl : (digs x).length ≤ 4000) (w : World) (h : Rd .u64 w v (digs x))
    (hfg : Calls Tryz.prog 125 #[v] w fun e w' => ∃ u g, e = .returned u ∧ Hid (Above x g ∧ (digs g).length ≤ 9000) ∧ Own .u64 42 w.heap.size w' u (digs g) ∧ Below w.heap.size w w') :
    Calls Tryz.prog 69 #[v] w fun e w' => ∃ u s, e = .returned u ∧ s * s ≤ x ∧ x < (s + 1) * (s + 1) ∧ Own .u64 42 w.heap.size w' u (digs s) ∧ Below w.heap.size w w' := by
  have hdiv : ∀ g, Above x g → DivOk x g := fun g ha v1 v2 W r1 r2 => Divide_any v1 v2 x g (by have := ha.1; omega) (by omega) W r1 r2
  have hadd : ∀ g, Above x g → (digs g).length ≤ 9000 → AddOk g (x / g) := fun g ha hg => add_any g (x / g) (Or.inl (by have := ha.1; omega)) (by omega) (Nat.le_trans (digs_length_mono (Nat.div_le_self x g)) (by omega))
  have hl : (digs x).length ≤ 10000 := by omega
  obtain ⟨va, vc, rfl⟩ := rd_form h
  have hx1 : 0 < (digs x).length := List.length_pos_iff.2 (by rw [digs_pos (by omega)]; simp)
  have hz : (((digs x).length : Int) == 0) = false := beq_eq_false_iff_ne.2 (by omega)
  have hfg' := Lib.hid hfg
  have HR := Lib.hid h
  have HD := Lib.hid hdiv
  have HA := Lib.hid hadd
  have HX := Lib.hid hx
  clear hfg h hdiv hadd hx hx1
  go_enter Tryz.func69, Tryz.ntmps69
  go_wp2_with fail
  refine hfg'.out.mono ?_
  rintro e w1 ⟨u, g0, rfl, hg0, ho, hb⟩
  have HG0 := Lib.hid hg0.out.1
  have hgl9 := hg0.out.2
  have hgl : (digs g0).length ≤ 10000 := by omega
  have HO := Lib.hid ho
  have HB := Lib.hid hb
  clear ho hb
  go_wp2
  go_loopg [3] g0 (fun k s3 wr => ∃ g, k = g ∧ Hid (Above x g) ∧ g ≤ g0 ∧ Hid (Own .u64 42 w.heap.size wr s3 (digs g)) ∧ Hid (Below w.heap.size w wr))
  case atStart => exact ⟨g0, rfl, HG0, Nat.le_refl _, HO, HB⟩
  case round =>
    obtain ⟨g, rfl, ha, hg, ho, hn⟩ := hrel
    have hd1 := Lib.hid (HD.out gk ha.out _ _ wr (HR.out.below hn.out) ho.out.rd)
    go_wp2_with fail
    refine hd1.out.mono ?_
    rintro e w1 ⟨q, r, rfl, hq, _, hb1⟩
    have hn1 := Lib.hid (hn.out.trans (hb1.mono hn.out.size))
    have ha1 := Lib.hid (HA.out gk ha.out (Nat.le_trans (digs_length_mono hg) hgl9) _ _ w1 (ho.out.rd.below hb1) hq.rd)
    have ho1 := Lib.hid (ho.out.below hb1)
    clear hq hb1 hd1
    go_wp2_with fail
    refine ha1.out.mono ?_
    rintro e w2 ⟨t, rfl, ht, hb2⟩
    have hn2 := Lib.hid (hn1.out.trans (hb2.mono hn1.out.size))
    have ho2 := Lib.hid (ho1.out.below hb2)
    have h2b := (Below.refl w2.heap.size w2).alloc (Nat.le_refl _) (.cells #[.int .u64 2] 42)
    have htwo := own_alloc_one w2 2 (by decide) (by have := BB_eq; omega)
    have hd2 := Lib.hid (DivOk.word (a := gk + x / gk) (b := 2) digs_two_len (Nat.le_trans (digs_sum_len hg hgl hl) (by omega)) t _ (w2.alloc (.cells #[.int .u64 2] 42)) ((ht.below h2b).rd) htwo.rd)
    have hn2' := Lib.hid (hn2.out.alloc hn2.out.size (.cells #[.int .u64 2] 42))
    have ho2' := Lib.hid (ho2.out.below h2b)
    clear ht hb2 ha1 h2b htwo
    go_wp2_with fail
    refine hd2.out.mono ?_
    rintro e w3 ⟨p, r2, rfl, hp, _, hb3⟩
    have hn3 := Lib.hid (hn2'.out.trans (hb3.mono hn2'.out.size))
    have ho3 := Lib.hid (ho2'.out.below hb3)
    have hp3 := Lib.hid (hp.mono hn2'.out.size)
    have hless := Less_any p _ ((gk + x / gk) / 2) gk (Nat.le_trans (digs_half_len hg hgl hl) (by omega)) w3 hp.rd ho3.out.rd
    by_cases hlt : (gk + x / gk) / 2 < gk
    · rw [show decide ((gk + x / gk) / 2 < gk) = true by simpa using hlt] at hless
      have HL := Lib.hid hless
      have HN := Lib.hid (newton_next HX.out ha.out.1)
      have HLT := Lib.hid hlt
      clear hp hb3 hless hd2 hlt
      generalize (gk + x / gk) / 2 = nx at *
      go_wp2_with fail
      refine HL.out.mono ?_
      rintro e w4 ⟨rfl, hb4⟩
      have hn4 := Lib.hid (hn3.out.trans (hb4.mono hn3.out.size))
      have hp4 := Lib.hid (hp3.out.below hb4)
      have hg' := Lib.hid (show nx ≤ g0 from Nat.le_of_lt (Nat.lt_of_lt_of_le HLT.out hg))
      clear hb4
      go_wp2
      go_roundg nx
      case measure => exact HLT.out
      case rel => exact ⟨nx, rfl, HN, hg'.out, hp4, hn4⟩
    · rw [show decide ((gk + x / gk) / 2 < gk) = false by simpa using hlt] at hless
      have HL := Lib.hid hless
      have HF := Lib.hid (newton_done (x := x) (g := gk) (by omega))
      clear hp hb3 hless hd2 hlt
      go_wp2_with fail
      refine HL.out.mono ?_
      rintro e w4 ⟨rfl, hb4⟩
      have hn4 := Lib.hid (hn3.out.trans (hb4.mono hn3.out.size))
      have ho4 := Lib.hid (ho3.out.below hb4)
      clear hb4
      go_wp2
      go_ret
      exact ⟨_, gk, rfl, HF.out, ha.out.2, ho4.out, hn4.out⟩

theorem root_nil (a : Option Addr) (c : Nat) (w : World) :
    Calls Tryz.prog 69 #[.slice a 0 c] w fun e w' => e = .returned (.slice none 0 0) ∧ w = w' := by
  go_enter Tryz.func69, Tryz.ntmps69
  go_wp2
  go_ret
  exact ⟨rfl, rfl⟩

theorem root_all (n : Nat) : n ≤ 4000 → ∀ x, (digs x).length = n → RootOk x := by
  induction n using Nat.strongRecOn with
  | _ n ih =>
    intro hn x hx v w h
    by_cases h0 : n = 0
    · subst h0
      have hd : digs x = [] := List.length_eq_zero_iff.1 hx
      have hx0 : x = 0 := by have := wval_digs x; rw [hd] at this; exact this.symm
      subst hx0
      obtain ⟨a, c, rfl⟩ := rd_form h
      rw [hx]
      refine (root_nil a c w).mono ?_
      rintro e w' ⟨rfl, rfl⟩
      exact ⟨_, 0, rfl, by omega, by omega, by rw [digs_zero]; exact Own.nil _ _ _ _, Below.refl _ _⟩
    · have hx0 : 0 < x := by
        rcases Nat.eq_zero_or_pos x with h1 | h1
        · subst h1; rw [digs_zero] at hx; simp at hx; omega
        · exact h1
      refine root_from2 v x hx0 (by omega) w h ?_
      by_cases h1 : n = 1
      · have hxB : x < BB := by have := lt_pow_digs x; rwa [hx, h1, Nat.pow_one] at this
        have hB := BB_eq
        refine (firstGuess_one v x (by omega) w h).mono ?_
        rintro e w' ⟨u, he, ho, hb⟩
        have hL : Lib.bitLen x ≤ 30 := Lib.bitLen_le x 30 (by omega) (by omega)
        have hpb : 2 ^ ((Lib.bitLen x + 1) / 2) ≤ 2 ^ 15 := Nat.pow_le_pow_right (by decide) (by omega)
        exact ⟨u, _, he, ⟨pow2_above x (by omega), Nat.le_trans (digs_length_le (k := 1) (by rw [Nat.pow_one]; omega)) (by omega)⟩, ho, hb⟩
      · by_cases h2 : n = 2
        · refine (firstGuess_two v x (by omega) w h).mono ?_
          rintro e w' ⟨u, g, he, hg, ho, hb⟩
          exact ⟨u, g, he, ⟨hg.out.1, Nat.le_trans hg.out.2 (by omega)⟩, ho, hb⟩
        · exact firstGuess_more v x (by omega) (by omega) (fun y hy => ih _ (by omega) (by omega) y rfl) w h

theorem root_any (x : Nat) (hl : (digs x).length ≤ 4000) : RootOk x := root_all _ hl x rfl

end Go.Proofs.YtgbcjlknlagoeaaGreatDoor
