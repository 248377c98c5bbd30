/- Knuth's algorithm D: words.guessWord: walks. -/
import Derived.Test.YtpdchplppkfdhaaDoorWh
import Derived.BigQuiet
namespace Go.Gb
/-- What a guess has to be: the greatest word that passes the test of the three highest words. -/
def GOK (p2 p1 p0 v1 v0 g : Nat) : Prop := g < BB ∧ g * (v1 * BB + v0) ≤ (p2 * BB + p1) * BB + p0 ∧ ∀ q, q < BB → q * (v1 * BB + v0) ≤ (p2 * BB + p1) * BB + p0 → q ≤ g
def GI (p2 p1 p0 v1 v0 g r : Nat) : Prop := g * v1 + r = p2 * BB + p1 ∧ g ≤ BB + 1 ∧ r < BB ∧ ∀ q, q < BB → q * (v1 * BB + v0) ≤ (p2 * BB + p1) * BB + p0 → q ≤ g

theorem GI.start {p2 p1 p0 v1 v0 : Nat} (hv1 : 500000000 ≤ v1) (hv1' : v1 < BB) (hp1 : p1 < BB) (hp0 : p0 < BB) (hp2 : p2 ≤ v1) : GI p2 p1 p0 v1 v0 ((p2 * BB + p1) / v1) ((p2 * BB + p1) % v1) := by
  have hv : 0 < v1 := by omega
  refine ⟨by rw [Nat.mul_comm]; exact Nat.div_add_mod _ _, ?_, Nat.lt_trans (Nat.mod_lt _ hv) hv1', ?_⟩
  · have h1 : p2 * BB ≤ v1 * BB := Nat.mul_le_mul_right _ hp2
    have h2 : (p2 * BB + p1) / v1 < BB + 2 := by
      rw [Nat.div_lt_iff_lt_mul hv, Nat.add_mul, Nat.mul_comm BB v1]
      have := BB_eq
      omega
    omega
  · intro q _ hq
    rw [Nat.le_div_iff_mul_le hv]
    have h1 : q * (v1 * BB + v0) = q * v1 * BB + q * v0 := by rw [Nat.mul_add, Nat.mul_assoc]
    have h2 : q * v1 * BB < (p2 * BB + p1 + 1) * BB := by rw [Nat.add_mul _ 1, Nat.one_mul]; omega
    have := Nat.lt_of_mul_lt_mul_right h2
    omega

theorem GI.less {p2 p1 p0 v1 v0 g r : Nat} (h : GI p2 p1 p0 v1 v0 g r) (hg : ∀ q, q < BB → q * (v1 * BB + v0) ≤ (p2 * BB + p1) * BB + p0 → q ≠ g) (hgp : 0 < g) (hr : r + v1 < BB) : GI p2 p1 p0 v1 v0 (g - 1) (r + v1) := by
  obtain ⟨h1, h2, h3, h4⟩ := h
  refine ⟨?_, by omega, hr, fun q hq hq2 => ?_⟩
  · have : g * v1 = (g - 1) * v1 + v1 := by
      conv => lhs; rw [show g = (g - 1) + 1 by omega, Nat.add_mul, Nat.one_mul]
    omega
  · have := h4 q hq hq2
    have := hg q hq hq2
    omega

theorem GI.last {p2 p1 p0 v1 v0 g r : Nat} (h : GI p2 p1 p0 v1 v0 g r) (hv0 : v0 < BB) (hp1 : p1 < BB) (hp2 : p2 ≤ v1) (hg : ∀ q, q < BB → q * (v1 * BB + v0) ≤ (p2 * BB + p1) * BB + p0 → q ≠ g) (hgp : 0 < g) (hr : BB ≤ r + v1) : GOK p2 p1 p0 v1 v0 (g - 1) := by
  obtain ⟨h1, h2, h3, h4⟩ := h
  have e1 : g * v1 = (g - 1) * v1 + v1 := by
    conv => lhs; rw [show g = (g - 1) + 1 by omega, Nat.add_mul, Nat.one_mul]
  have h5 : p2 * BB ≤ v1 * BB := Nat.mul_le_mul_right _ hp2
  have h6 : (g - 1) * v1 < BB * v1 := by rw [Nat.mul_comm BB]; omega
  have h7 : g - 1 < BB := Nat.lt_of_mul_lt_mul_right h6
  refine ⟨h7, ?_, fun q hq hq2 => ?_⟩
  · have e2 : (g - 1) * (v1 * BB + v0) = (g - 1) * v1 * BB + (g - 1) * v0 := by rw [Nat.mul_add, Nat.mul_assoc]
    have e3 : (p2 * BB + p1) * BB = ((g - 1) * v1) * BB + (r + v1) * BB := by rw [← Nat.add_mul]; congr 1; omega
    have e4 : (g - 1) * v0 ≤ BB * BB := Nat.mul_le_mul (Nat.le_of_lt h7) (Nat.le_of_lt hv0)
    have e5 : BB * BB ≤ (r + v1) * BB := Nat.mul_le_mul_right _ hr
    omega
  · have := h4 q hq hq2
    have := hg q hq hq2
    omega

theorem GI.big {p2 p1 p0 v1 v0 g : Nat} (hg : BB ≤ g) : ∀ q, q < BB → q * (v1 * BB + v0) ≤ (p2 * BB + p1) * BB + p0 → q ≠ g := fun q hq _ => by omega
theorem GI.test {p2 p1 p0 v1 v0 g r : Nat} (h : GI p2 p1 p0 v1 v0 g r) (ht : r * BB + p0 < g * v0) : ∀ q, q < BB → q * (v1 * BB + v0) ≤ (p2 * BB + p1) * BB + p0 → q ≠ g := by
  intro q hq h2 e
  subst e
  have e2 : q * (v1 * BB + v0) = q * v1 * BB + q * v0 := by rw [Nat.mul_add, Nat.mul_assoc]
  have e3 : (p2 * BB + p1) * BB = (q * v1) * BB + r * BB := by rw [← Nat.add_mul, h.1]
  omega
theorem GI.fin {p2 p1 p0 v1 v0 g r : Nat} (h : GI p2 p1 p0 v1 v0 g r) (hg : g < BB) (ht : g * v0 ≤ r * BB + p0) : GOK p2 p1 p0 v1 v0 g := by
  refine ⟨hg, ?_, h.2.2.2⟩
  have e2 : g * (v1 * BB + v0) = g * v1 * BB + g * v0 := by rw [Nat.mul_add, Nat.mul_assoc]
  have e3 : (p2 * BB + p1) * BB = (g * v1) * BB + r * BB := by rw [← Nat.add_mul, h.1]
  omega
end Go.Gb

namespace Go.Proofs.YtpdchplppkfdhaaDoor
open Go.RowKit Go.Gb

/-- The five words that a guess reads. -/
def GC (b1 o1 b2 o2 n p2 p1 p0 v1 v0 : Nat) (w : World) : Prop :=
  w.cell? ⟨b1, o1 + n, none⟩ = some (.int .u64 (p2 : Int)) ∧ w.cell? ⟨b1, o1 + (n - 1), none⟩ = some (.int .u64 (p1 : Int)) ∧ w.cell? ⟨b1, o1 + (n - 2), none⟩ = some (.int .u64 (p0 : Int)) ∧
  w.cell? ⟨b2, o2 + (n - 1), none⟩ = some (.int .u64 (v1 : Int)) ∧ w.cell? ⟨b2, o2 + (n - 2), none⟩ = some (.int .u64 (v0 : Int))
theorem GC.on {b1 o1 b2 o2 n p2 p1 p0 v1 v0 : Nat} {w w' : World} (h : GC b1 o1 b2 o2 n p2 p1 p0 v1 v0 w) (hb : Below w.heap.size w w') : GC b1 o1 b2 o2 n p2 p1 p0 v1 v0 w' := by
  obtain ⟨h1, h2, h3, h4, h5⟩ := h
  exact ⟨(hb.cell (World.block_lt_of_cell? _ _ h1)).trans h1, (hb.cell (World.block_lt_of_cell? _ _ h2)).trans h2, (hb.cell (World.block_lt_of_cell? _ _ h3)).trans h3, (hb.cell (World.block_lt_of_cell? _ _ h4)).trans h4, (hb.cell (World.block_lt_of_cell? _ _ h5)).trans h5⟩

theorem ret_int1 {k : IntKind} {a b : Int} (h : a = b) : Ending.returned (.int k a) = .returned (.int k b) := by rw [h]
theorem val_int1 {k : IntKind} {a b : Int} (h : a = b) : Value.int k a = .int k b := by rw [h]
set_option maxRecDepth 100000 in
set_option maxHeartbeats 4000000 in
theorem guess_any (b1 o1 c1 b2 o2 c2 n p2 p1 p0 v1 v0 : Nat) (hn : 2 ≤ n) (hn2 : n ≤ 100000) (hv1 : 500000000 ≤ v1) (hv1' : v1 < 1000000000) (hv0 : v0 < 1000000000) (hp1 : p1 < 1000000000) (hp0 : p0 < 1000000000) (hp2 : p2 ≤ v1) (w : World)
    (hc : GC b1 o1 b2 o2 n p2 p1 p0 v1 v0 w) :
    Calls Tryd.prog 65 #[.slice (some ⟨b1, o1, none⟩) (n + 1) c1, .slice (some ⟨b2, o2, none⟩) n c2] w fun e w' => ∃ g : Nat, e = .returned (.int .u64 (g : Int)) ∧ GOK p2 p1 p0 v1 v0 g ∧ Below w.heap.size w w' := by
  have hst := GI.start (v0 := v0) hv1 (by rw [BB_eq]; exact hv1') (by rw [BB_eq]; exact hp1) (by rw [BB_eq]; exact hp0) hp2
  have hvz : ((v1 : Int) == 0) = false := beq_eq_false_iff_ne.2 (by omega)
  have hq : ((p2 : Int) * 1000000000 + (p1 : Int)) / (v1 : Int) = (((p2 * BB + p1) / v1 : Nat) : Int) := by rw [BB_eq]; rfl
  have hm : ((p2 : Int) * 1000000000 + (p1 : Int)) % (v1 : Int) = (((p2 * BB + p1) % v1 : Nat) : Int) := by rw [BB_eq]; rfl
  have HS := Lib.hid hst
  have HQ := Lib.hid hq
  have HM := Lib.hid hm
  have HC := Lib.hid hc
  have Hv0 := Lib.hid (show v0 < BB by rw [BB_eq]; exact hv0)
  have Hp1 := Lib.hid (show p1 < BB by rw [BB_eq]; exact hp1)
  have Hp2 := Lib.hid hp2
  have k0 : (500000000 : Int) ≤ (v1 : Int) := by omega
  have k1 : (v1 : Int) ≤ 999999999 := by omega
  have k2 : (v0 : Int) ≤ 999999999 := by omega
  have k3 : (p2 : Int) ≤ 999999999 := by omega
  have k4 : (p1 : Int) ≤ 999999999 := by omega
  have k5 : (p0 : Int) ≤ 999999999 := by omega
  have i1 : (2 : Int) ≤ (n : Int) := by omega
  have i2 : (n : Int) ≤ 100000 := by omega
  obtain ⟨h2, h1, h0, g1, g0⟩ := hc
  clear hst hq hm hn hn2 hv1 hv1' hv0 hp1 hp0 hp2
  go_enter Tryd.func65, Tryd.ntmps65
  go_wp2
  go_quiet (fail)
  go_wp2
  have HN2 := Lib.hid (below_drewN' (Below.refl w.heap.size w) nq)
  clear h2 h1 h0 g1 g0
  obtain ⟨h2, h1, h0, g1, g0⟩ := HC.out.on HN2.out
  generalize w.drewN nq = w2 at *
  go_quiet (fail)
  have HN3 := Lib.hid (below_drewN' HN2.out nq)
  clear h2 h1 h0 g1 g0 HN2
  generalize w2.drewN nq = w3 at *
  go_wp2
  go_loopw [7, 8] (fun gg rr wr => ∃ (g r : Nat), gg = .int .u64 (g : Int) ∧ rr = .int .u64 (r : Int) ∧ Hid (GI p2 p1 p0 v1 v0 g r) ∧ Hid (Below w.heap.size w wr)) (fun gg _ _ => (intOf gg).toNat)
  case atStart => exact ⟨(p2 * BB + p1) / v1, (p2 * BB + p1) % v1, by rw [HQ.out], by rw [HM.out], HS, HN3⟩
  case round =>
    obtain ⟨g, r, rfl, rfl, hI, hN⟩ := hrel
    obtain ⟨h2, h1, h0, g1, g0⟩ := HC.out.on hN.out
    have hg : (g : Int) ≤ 1000000001 := by have := hI.out.2.1; have := BB_eq; omega
    have hr : (r : Int) ≤ 999999999 := by have := hI.out.2.2.1; have := BB_eq; omega
    by_cases hbig : (1000000000 : Int) ≤ (g : Int)
    · have hne := GI.big (p2 := p2) (p1 := p1) (p0 := p0) (v1 := v1) (v0 := v0) (g := g) (by rw [BB_eq]; omega)
      by_cases hrv : (1000000000 : Int) ≤ (r : Int) + (v1 : Int)
      · have HL := Lib.hid (hI.out.last Hv0.out Hp1.out Hp2.out hne (by omega) (by rw [BB_eq]; omega))
        clear hne
        go_wp2
        go_quiet (fail)
        have HN4 := Lib.hid (below_drewN' hN.out nq)
        have g1' : (wr.drewN nq).cell? ⟨b2, o2 + (n - 1), none⟩ = some (.int .u64 (v1 : Int)) := g1
        clear h2 h1 h0 g1 g0
        generalize wr.drewN nq = w4 at *
        go_wp2
        go_ret
        exact ⟨g - 1, ret_int1 (by omega), HL.out, HN4.out⟩
      · have hrv3 : decide ((1000000000 : Int) ≤ (r : Int) + (v1 : Int)) = false := decide_eq_false hrv
        have HL := Lib.hid (hI.out.less hne (by omega) (by rw [BB_eq]; omega))
        clear hne
        go_wp2
        go_quiet (fail)
        have HN4 := Lib.hid (below_drewN' hN.out nq)
        have g1' : (wr.drewN nq).cell? ⟨b2, o2 + (n - 1), none⟩ = some (.int .u64 (v1 : Int)) := g1
        clear h2 h1 h0 g1 g0
        generalize wr.drewN nq = w4 at *
        go_wp2
        go_roundw
        case rel => exact ⟨g - 1, r + v1, val_int1 (by omega), val_int1 (by omega), HL, HN4⟩
        case measure => simp [intOf]; omega
    · obtain ⟨pr, hpr⟩ : ∃ p : Nat, p = g * v0 := ⟨_, rfl⟩
      have e1 : (g : Int) * (v0 : Int) = (pr : Int) := by rw [hpr]; exact (Int.natCast_mul _ _).symm
      have hle : pr ≤ 1000000000 * 1000000000 := by rw [hpr]; exact Nat.mul_le_mul (by omega) (by omega)
      have w1 : IntKind.u64.wrap (pr : Int) = (pr : Int) := IntWalk.u64_in _ (by omega)
      have hbig' : decide ((1000000000 : Int) ≤ (g : Int)) = false := decide_eq_false hbig
      clear hle
      by_cases ht : (r : Int) * 1000000000 + (p0 : Int) < (pr : Int)
      · have hne := hI.out.test (by rw [BB_eq, ← hpr]; omega)
        have hgp : 0 < g := by
          rcases Nat.eq_zero_or_pos g with h | h
          · rw [h, Nat.zero_mul] at hpr; omega
          · exact h
        have HPR := Lib.hid hpr
        clear hpr
        by_cases hrv : (1000000000 : Int) ≤ (r : Int) + (v1 : Int)
        · have HL := Lib.hid (hI.out.last Hv0.out Hp1.out Hp2.out hne (by omega) (by rw [BB_eq]; omega))
          clear hne
          go_wp2
          go_quiet (fail)
          have HN4 := Lib.hid (below_drewN' hN.out nq)
          have g1' : (wr.drewN nq).cell? ⟨b2, o2 + (n - 1), none⟩ = some (.int .u64 (v1 : Int)) := g1
          clear h2 h1 h0 g1 g0
          generalize wr.drewN nq = w4 at *
          go_wp2
          go_ret
          exact ⟨g - 1, ret_int1 (by omega), HL.out, HN4.out⟩
        · have hrv3 : decide ((1000000000 : Int) ≤ (r : Int) + (v1 : Int)) = false := decide_eq_false hrv
          have HL := Lib.hid (hI.out.less hne (by omega) (by rw [BB_eq]; omega))
          clear hne
          go_wp2
          go_quiet (fail)
          have HN4 := Lib.hid (below_drewN' hN.out nq)
          have g1' : (wr.drewN nq).cell? ⟨b2, o2 + (n - 1), none⟩ = some (.int .u64 (v1 : Int)) := g1
          clear h2 h1 h0 g1 g0
          generalize wr.drewN nq = w4 at *
          go_wp2
          go_roundw
          case rel => exact ⟨g - 1, r + v1, val_int1 (by omega), val_int1 (by omega), HL, HN4⟩
          case measure => simp [intOf]; omega
      · have ht3 : decide ((r : Int) * 1000000000 + (p0 : Int) < (pr : Int)) = false := decide_eq_false ht
        have HL := Lib.hid (hI.out.fin (by rw [BB_eq]; omega) (by rw [BB_eq, ← hpr]; omega))
        have HPR := Lib.hid hpr
        clear hpr
        go_wp2
        go_quiet (fail)
        have HN4 := Lib.hid (below_drewN' hN.out nq)
        go_wp2
        go_ret
        exact ⟨g, rfl, HL.out, HN4.out⟩

end Go.Proofs.YtpdchplppkfdhaaDoor
