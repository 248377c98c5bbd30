/- natural.powerOfTwo and natural.firstGuess of one word: walks. -/
import Derived.Test.YtpdchplppkfdhaaDoorNe
import Derived.Deep.LoopGhost
namespace Go.Proofs.YtpdchplppkfdhaaDoor
open Go.RowKit Go.Gb

theorem lt_pow_bitLen : ∀ (k x : Nat), k ≤ 64 → x < 2 ^ k → x < 2 ^ Lib.bitLen x
  | 0, x, _, h => by
    obtain rfl : x = 0 := by simpa using h
    exact Nat.pow_pos (by decide)
  | k + 1, x, hk, h => by
    by_cases h0 : x = 0
    · subst h0; exact Nat.pow_pos (by decide)
    · have h64 : x < 2 ^ 64 := Nat.lt_of_lt_of_le h (Nat.pow_le_pow_right (by decide) hk)
      rw [Lib.bitLen_half x h0 h64, Nat.add_comm, Nat.pow_succ]
      have := lt_pow_bitLen k (x / 2) (by omega) (by rw [Nat.pow_succ] at h; omega)
      omega
set_option maxHeartbeats 1000000 in
theorem pow2_any (n : Nat) (hn : n < 1152921504606846976) (w : World) :
    Calls Tryd.prog 73 #[.int .u64 (n : Int)] w fun e w' => e = .returned (.int .u64 ((2 ^ ((Lib.bitLen n + 1) / 2) : Nat) : Int)) ∧ w = w' := by
  have hL : Lib.bitLen n ≤ 60 := Lib.bitLen_le n 60 (by omega) (by omega)
  have hc := Lib.hid (Tryd.bits_Len64 (n : Int) w (by omega) (by omega))
  clear hn
  rw [Int.toNat_natCast] at hc
  generalize Lib.bitLen n = L at *
  obtain ⟨s, hs⟩ : ∃ s : Nat, s = (L + 1) / 2 := ⟨_, rfl⟩
  rw [← hs]
  have hsi : ((L : Int) + 1) / 2 = (s : Int) := by omega
  have hs30 : s ≤ 30 := by omega
  have HS := Lib.hid hs
  clear hs
  go_enter Tryd.func73, Tryd.ntmps73
  go_wp2_with fail
  refine hc.out.mono ?_
  rintro e w' ⟨rfl, rfl⟩
  have hp : (2 : Int) ^ s = ((2 ^ s : Nat) : Int) := by simp
  have hp2 : 2 ^ s ≤ 2 ^ 30 := Nat.pow_le_pow_right (by decide) hs30
  have HF := Lib.hid (show IntKind.u64.wrap ((2 : Int) ^ s) = ((2 ^ s : Nat) : Int) by rw [hp]; exact IntWalk.u64_in _ ⟨Int.natCast_nonneg _, by have := Int.ofNat_le.2 hp2; omega⟩)
  clear HS hp hp2
  go_wp2
  go_ret
  exact ⟨ret_int HF.out, rfl⟩

/-- A guess from above. -/
def Above (x g : Nat) : Prop := 0 < g ∧ x < (g + 1) * (g + 1)

theorem pow2_above (n : Nat) (hn : n < 1152921504606846976) : Above n (2 ^ ((Lib.bitLen n + 1) / 2)) := by
  refine ⟨Nat.pow_pos (by decide), ?_⟩
  have h1 := lt_pow_bitLen 60 n (by decide) (by omega)
  have h2 : 2 ^ Lib.bitLen n ≤ 2 ^ ((Lib.bitLen n + 1) / 2 + (Lib.bitLen n + 1) / 2) := Nat.pow_le_pow_right (by decide) (by omega)
  rw [Nat.pow_add] at h2
  generalize 2 ^ ((Lib.bitLen n + 1) / 2) = p at *
  have h3 : p * p ≤ (p + 1) * (p + 1) := Nat.mul_le_mul (by omega) (by omega)
  omega

/-- Newton's step. -/
theorem newton_done {x g : Nat} (h : g ≤ (g + x / g) / 2) : g * g ≤ x := by
  have h1 : g ≤ x / g := by omega
  have h2 : g * g ≤ x / g * g := Nat.mul_le_mul_right _ h1
  exact Nat.le_trans h2 (Nat.div_mul_le_self x g)
theorem amgm (u v : Nat) : 4 * (u * v) ≤ (u + v) * (u + v) := by
  rcases Nat.le_total u v with h | h
  · obtain ⟨k, rfl⟩ := Nat.exists_eq_add_of_le h
    have : (u + (u + k)) * (u + (u + k)) = 4 * (u * (u + k)) + k * k := by grind
    omega
  · obtain ⟨k, rfl⟩ := Nat.exists_eq_add_of_le h
    have : (v + k + v) * (v + k + v) = 4 * ((v + k) * v) + k * k := by grind
    omega
theorem newton_next {x g : Nat} (hx : 0 < x) (hg : 0 < g) : Above x ((g + x / g) / 2) := by
  have hd : x < g * (x / g + 1) := by
    exact Nat.lt_mul_div_succ x hg
  generalize x / g = q at *
  have h1 := amgm g (q + 1)
  have h2 : g + (q + 1) ≤ 2 * ((g + q) / 2 + 1) := by omega
  have h3 : (g + (q + 1)) * (g + (q + 1)) ≤ 2 * ((g + q) / 2 + 1) * (2 * ((g + q) / 2 + 1)) := Nat.mul_le_mul h2 h2
  generalize (g + q) / 2 = n at *
  have h4 : 2 * (n + 1) * (2 * (n + 1)) = 4 * ((n + 1) * (n + 1)) := by grind
  refine ⟨?_, by omega⟩
  rcases Nat.eq_zero_or_pos n with h | h
  · subst h; omega
  · exact h

/-- What is asked of add, of Divide. -/
def AddOk (a b : Nat) : Prop := ∀ (v1 v2 : Value) (w : World), Rd .u64 w v1 (digs a) → Rd .u64 w v2 (digs b) →
    Calls Tryd.prog 29 #[v1, v2] w fun e w' => ∃ v, e = .returned v ∧ Own .u64 46 w.heap.size w' v (digs (a + b)) ∧ Below w.heap.size w w'
def DivOk (a b : Nat) : Prop := ∀ (v1 v2 : Value) (w : World), Rd .u64 w v1 (digs a) → Rd .u64 w v2 (digs b) →
    Calls Tryd.prog 33 #[v1, v2] w fun e w' => ∃ q r, e = .returned (.tuple #[q, r]) ∧ Own .u64 46 w.heap.size w' q (digs (a / b)) ∧ Own .u64 46 w.heap.size w' r (digs (a % b)) ∧ Below w.heap.size w w'
theorem DivOk.less {a b : Nat} (hab : a < b) (hl : (digs a).length ≤ 100000) : DivOk a b := fun v1 v2 w h1 h2 =>
  (Divide_less v1 v2 a b hab hl w h1 h2).mono fun e w' ⟨r, he, hr, hb⟩ => ⟨_, r, he, by rw [Nat.div_eq_of_lt hab, digs_zero]; exact Own.nil _ _ _ _, by rw [Nat.mod_eq_of_lt hab]; exact hr, hb⟩
theorem DivOk.word {a b : Nat} (hb : (digs b).length = 1) (hl : (digs a).length ≤ 100000) : DivOk a b := by
  by_cases hab : a < b
  · exact DivOk.less hab hl
  · exact fun v1 v2 w h1 h2 => Divide_word v1 v2 a b hab hb hl w h1 h2

theorem firstGuess_one (v : Value) (x : Nat) (hx : (digs x).length = 1) (w : World) (h : Rd .u64 w v (digs x)) :
    Calls Tryd.prog 58 #[v] w fun e w' => ∃ u, e = .returned u ∧ Own .u64 46 w.heap.size w' u (digs (2 ^ ((Lib.bitLen x + 1) / 2))) ∧ Below w.heap.size w w' := by
  have hx0 : x ≠ 0 := by intro h; rw [h, digs_zero] at hx; simp at hx
  have hxB : x < BB := by have := lt_pow_digs x; rwa [hx, Nat.pow_one] at this
  have hd : (digs x).getD 0 0 = x := by
    rw [digs_pos hx0]; simp [Nat.mod_eq_of_lt hxB]
  obtain ⟨b, o, c, rfl, _, _, _, r⟩ := rd_pos h (by omega)
  have hc := r 0 (by omega)
  rw [hd, Nat.add_zero] at hc
  rw [hx]
  have hB := BB_eq
  have hp := Lib.hid (pow2_any x (by omega) w)
  have hL : Lib.bitLen x ≤ 30 := Lib.bitLen_le x 30 (by omega) (by omega)
  have hpb : 2 ^ ((Lib.bitLen x + 1) / 2) ≤ 2 ^ 15 := Nat.pow_le_pow_right (by decide) (by omega)
  have hp0 : 0 < 2 ^ ((Lib.bitLen x + 1) / 2) := Nat.pow_pos (by decide)
  have ho := Lib.hid (own_alloc_one w (2 ^ ((Lib.bitLen x + 1) / 2)) (by omega) (by omega))
  clear r h hd hL hpb hp0 hx0 hx
  generalize 2 ^ ((Lib.bitLen x + 1) / 2) = p at *
  have HxB := Lib.hid hxB
  clear hxB hB
  go_enter Tryd.func58, Tryd.ntmps58
  go_wp2_with fail
  refine hp.out.mono ?_
  rintro e w' ⟨rfl, rfl⟩
  go_wp2
  go_ret
  exact ⟨_, rfl, ho.out, (Below.refl _ _).alloc (Nat.le_refl _) _⟩

theorem digs_two_len : (digs 2).length = 1 := by
  have h := digs_cons (w := 2) (n := 0) (by rw [BB_eq]; decide) (Or.inl (by decide))
  rw [digs_zero] at h
  have e : digs 2 = [2] := by simpa using h
  rw [e]; rfl
theorem digs_sum_len {x g g0 K : Nat} (hg : g ≤ g0) (hgl : (digs g0).length ≤ K) (hl : (digs x).length ≤ K) : (digs (g + x / g)).length ≤ K + 1 := by
  refine digs_length_le ?_
  have h1 := lt_pow_digs g0
  have h2 := lt_pow_digs x
  have h3 : BB ^ (digs g0).length ≤ BB ^ K := Nat.pow_le_pow_right BB_pos hgl
  have h4 : BB ^ (digs x).length ≤ BB ^ K := Nat.pow_le_pow_right BB_pos hl
  have h5 := Nat.div_le_self x g
  have h6 : BB ^ (K + 1) = BB ^ K * BB := Nat.pow_succ BB K
  have h7 : BB ^ K * 2 ≤ BB ^ K * BB := Nat.mul_le_mul_left _ BB_one
  generalize BB ^ K = P at *
  generalize BB ^ (K + 1) = Q at *
  generalize x / g = q at *
  omega
theorem digs_half_len {x g g0 K : Nat} (hg : g ≤ g0) (hgl : (digs g0).length ≤ K) (hl : (digs x).length ≤ K) : (digs ((g + x / g) / 2)).length ≤ K + 1 :=
  Nat.le_trans (digs_length_mono (Nat.div_le_self _ 2)) (digs_sum_len hg hgl hl)

set_option maxHeartbeats 2000000 in
/-- root, from the first guess on. -/
theorem root_from (v : Value) (x g0 : Nat) (hx : 0 < x) (hl : (digs x).length ≤ 10000) (hg0 : Above x g0)
    (hfg : ∀ w, Rd .u64 w v (digs x) → Calls Tryd.prog 58 #[v] w fun e w' => ∃ u, e = .returned u ∧ Own .u64 46 w.heap.size w' u (digs g0) ∧ Below w.heap.size w w')
    (hdiv : ∀ g, Above x g → g ≤ g0 → DivOk x g) (hadd : ∀ g, Above x g → g ≤ g0 → AddOk g (x / g)) (hgl : (digs g0).length ≤ 10000) (w : World) (h : Rd .u64 w v (digs x)) :
    Calls Tryd.prog 35 #[v] w fun e w' => ∃ u s, e = .returned u ∧ s * s ≤ x ∧ x < (s + 1) * (s + 1) ∧ Own .u64 46 w.heap.size w' u (digs s) ∧ Below w.heap.size w w' := by
  obtain ⟨va, vc, rfl⟩ := rd_form h
  have hx1 : 0 < (digs x).length := List.length_pos_iff.2 (by rw [digs_pos (by omega)]; simp)
  have hz : (((digs x).length : Int) == 0) = false := beq_eq_false_iff_ne.2 (by omega)
  have hfg' := Lib.hid (hfg w h)
  have HR := Lib.hid h
  have HD := Lib.hid hdiv
  have HA := Lib.hid hadd
  have HG0 := Lib.hid hg0
  have HX := Lib.hid hx
  clear hfg h hdiv hadd hg0 hx hx1
  go_enter Tryd.func35, Tryd.ntmps35
  go_wp2_with fail
  refine hfg'.out.mono ?_
  rintro e w1 ⟨u, rfl, ho, hb⟩
  have HO := Lib.hid ho
  have HB := Lib.hid hb
  clear ho hb
  go_wp2
  go_loopg [3] g0 (fun k s3 wr => ∃ g, k = g ∧ Hid (Above x g) ∧ g ≤ g0 ∧ Hid (Own .u64 46 w.heap.size wr s3 (digs g)) ∧ Hid (Below w.heap.size w wr))
  case atStart => exact ⟨g0, rfl, HG0, Nat.le_refl _, HO, HB⟩
  case round =>
    obtain ⟨g, rfl, ha, hg, ho, hn⟩ := hrel
    have hd1 := Lib.hid (HD.out gk ha.out hg _ _ wr (HR.out.below hn.out) ho.out.rd)
    go_wp2_with fail
    refine hd1.out.mono ?_
    rintro e w1 ⟨q, r, rfl, hq, _, hb1⟩
    have hn1 := Lib.hid (hn.out.trans (hb1.mono hn.out.size))
    have ha1 := Lib.hid (HA.out gk ha.out hg _ _ w1 (ho.out.rd.below hb1) hq.rd)
    have ho1 := Lib.hid (ho.out.below hb1)
    clear hq hb1 hd1
    go_wp2_with fail
    refine ha1.out.mono ?_
    rintro e w2 ⟨t, rfl, ht, hb2⟩
    have hn2 := Lib.hid (hn1.out.trans (hb2.mono hn1.out.size))
    have ho2 := Lib.hid (ho1.out.below hb2)
    have h2b := (Below.refl w2.heap.size w2).alloc (Nat.le_refl _) (.cells #[.int .u64 2] 46)
    have htwo := own_alloc_one w2 2 (by decide) (by have := BB_eq; omega)
    have hd2 := Lib.hid (DivOk.word (a := gk + x / gk) (b := 2) digs_two_len (Nat.le_trans (digs_sum_len hg hgl hl) (by omega)) t _ (w2.alloc (.cells #[.int .u64 2] 46)) ((ht.below h2b).rd) htwo.rd)
    have hn2' := Lib.hid (hn2.out.alloc hn2.out.size (.cells #[.int .u64 2] 46))
    have ho2' := Lib.hid (ho2.out.below h2b)
    clear ht hb2 ha1 h2b htwo
    go_wp2_with fail
    refine hd2.out.mono ?_
    rintro e w3 ⟨p, r2, rfl, hp, _, hb3⟩
    have hn3 := Lib.hid (hn2'.out.trans (hb3.mono hn2'.out.size))
    have ho3 := Lib.hid (ho2'.out.below hb3)
    have hp3 := Lib.hid (hp.mono hn2'.out.size)
    have hless := Less_any p _ ((gk + x / gk) / 2) gk (Nat.le_trans (digs_half_len hg hgl hl) (by omega)) w3 hp.rd ho3.out.rd
    by_cases hlt : (gk + x / gk) / 2 < gk
    · rw [show decide ((gk + x / gk) / 2 < gk) = true by simpa using hlt] at hless
      have HL := Lib.hid hless
      have HN := Lib.hid (newton_next HX.out ha.out.1)
      have HLT := Lib.hid hlt
      clear hp hb3 hless hd2 hlt
      generalize (gk + x / gk) / 2 = nx at *
      go_wp2_with fail
      refine HL.out.mono ?_
      rintro e w4 ⟨rfl, hb4⟩
      have hn4 := Lib.hid (hn3.out.trans (hb4.mono hn3.out.size))
      have hp4 := Lib.hid (hp3.out.below hb4)
      have hg' := Lib.hid (show nx ≤ g0 from Nat.le_of_lt (Nat.lt_of_lt_of_le HLT.out hg))
      clear hb4
      go_wp2
      go_roundg nx
      case measure => exact HLT.out
      case rel => exact ⟨nx, rfl, HN, hg'.out, hp4, hn4⟩
    · rw [show decide ((gk + x / gk) / 2 < gk) = false by simpa using hlt] at hless
      have HL := Lib.hid hless
      have HF := Lib.hid (newton_done (x := x) (g := gk) (by omega))
      clear hp hb3 hless hd2 hlt
      go_wp2_with fail
      refine HL.out.mono ?_
      rintro e w4 ⟨rfl, hb4⟩
      have hn4 := Lib.hid (hn3.out.trans (hb4.mono hn3.out.size))
      have ho4 := Lib.hid (ho3.out.below hb4)
      clear hb4
      go_wp2
      go_ret
      exact ⟨_, gk, rfl, HF.out, ha.out.2, ho4.out, hn4.out⟩

end Go.Proofs.YtpdchplppkfdhaaDoor
