/- Texts of this proof, one behind the other. -/
import Derived.Test.YtblccbnejcngaaaGreatDoorMna
/- Plain facts about linear combinations of integers. No program is mentioned. -/
namespace Go.Gb

theorem exists_bez (a b : Nat) : ∃ k l : Int, k * (a : Int) = (Nat.gcd a b : Int) + l * (b : Int) := by
  induction a, b using Nat.gcd.induction with
  | H0 n => exact ⟨0, -1, by rw [Nat.gcd_zero_left]; omega⟩
  | H1 m n hm ih =>
    obtain ⟨k, l, h⟩ := ih
    rw [Nat.gcd_rec m n]
    generalize (Nat.gcd (n % m) m : Int) = g at *
    have hd : (m : Int) * ((n / m : Nat) : Int) + ((n % m : Nat) : Int) = (n : Int) := by exact_mod_cast Nat.div_add_mod n m
    generalize ((n / m : Nat) : Int) = q at *
    generalize ((n % m : Nat) : Int) = r at *
    refine ⟨-(l + k * q), -k, ?_⟩
    have e : k * r = k * (n : Int) - k * q * (m : Int) := by
      rw [← hd, Int.mul_add, Int.mul_assoc, Int.mul_comm q]; omega
    rw [Int.neg_mul, Int.add_mul, Int.neg_mul]
    omega

theorem bez_all (z1 z2 : Int) (hz2 : z2 ≠ 0) : ∃ (g h : Nat) (x y : Int), g = Nat.gcd z1.natAbs z2.natAbs ∧ z2.natAbs / g = h ∧ g ≠ 0 ∧ h ≠ 0 ∧ 0 ≤ x ∧ x < (h : Int) ∧ z1 * x + z2 * y = (g : Int) ∧
    (∀ x' : Int, (∃ k : Int, z1 * x' = (g : Int) + k * (z2.natAbs : Int)) → x' % (h : Int) = x) := by
  obtain ⟨n, hn⟩ : ∃ n, n = z2.natAbs := ⟨_, rfl⟩
  have hn0 : 0 < n := by omega
  obtain ⟨g, hg⟩ : ∃ g, g = Nat.gcd z1.natAbs n := ⟨_, rfl⟩
  have hg0 : 0 < g := by rw [hg]; exact Nat.gcd_pos_of_pos_right _ hn0
  have dn : g ∣ n := by rw [hg]; exact Nat.gcd_dvd_right _ _
  have dz : g ∣ z1.natAbs := by rw [hg]; exact Nat.gcd_dvd_left _ _
  obtain ⟨h, hh⟩ : ∃ h, h = n / g := ⟨_, rfl⟩
  have hgh : g * h = n := by rw [hh]; exact Nat.mul_div_cancel' dn
  have hh0 : 0 < h := by
    rcases Nat.eq_zero_or_pos h with h0 | h0
    · rw [h0, Nat.mul_zero] at hgh; omega
    · exact h0
  have hghI : (g : Int) * (h : Int) = (n : Int) := by exact_mod_cast hgh
  obtain ⟨u, hu⟩ : (g : Int) ∣ z1 := by rw [← Int.natAbs_dvd_natAbs, Int.natAbs_natCast]; exact dz
  have hcop : Nat.gcd u.natAbs h = 1 := by
    have e1 : z1.natAbs = g * u.natAbs := by rw [hu, Int.natAbs_mul, Int.natAbs_natCast]
    have e2 := Nat.gcd_div dz dn
    rw [← hg, Nat.div_self hg0, ← hh, e1, Nat.mul_div_cancel_left _ hg0] at e2
    exact e2
  -- two solutions are congruent
  have huniq : ∀ x x' : Int, (∃ k : Int, z1 * x = (g : Int) + k * (n : Int)) → (∃ k : Int, z1 * x' = (g : Int) + k * (n : Int)) → x % (h : Int) = x' % (h : Int) := by
    rintro x x' ⟨k, hk⟩ ⟨k', hk'⟩
    have e : (g : Int) * (u * (x - x')) = (g : Int) * ((k - k') * (h : Int)) := by
      have e1 : (g : Int) * (u * (x - x')) = z1 * x - z1 * x' := by rw [← Int.mul_assoc, ← hu, Int.mul_sub]
      have e2 : (g : Int) * ((k - k') * (h : Int)) = k * (n : Int) - k' * (n : Int) := by rw [← hghI, ← Int.sub_mul, Int.mul_left_comm]
      rw [e1, e2, hk, hk']; omega
    have e3 := Int.eq_of_mul_eq_mul_left (by omega : (g : Int) ≠ 0) e
    have hd : (h : Int) ∣ u * (x - x') := ⟨k - k', by rw [e3, Int.mul_comm]⟩
    have hd2 : h ∣ u.natAbs * (x - x').natAbs := by
      have := Int.natAbs_dvd_natAbs.2 hd
      rwa [Int.natAbs_natCast, Int.natAbs_mul] at this
    have hd3 : h ∣ (x - x').natAbs := Nat.Coprime.dvd_of_dvd_mul_left (by unfold Nat.Coprime; rw [Nat.gcd_comm]; exact hcop) hd2
    have hd4 : (h : Int) ∣ x - x' := by rw [← Int.natAbs_dvd_natAbs, Int.natAbs_natCast]; exact hd3
    exact Int.emod_eq_emod_iff_emod_sub_eq_zero.2 (Int.emod_eq_zero_of_dvd hd4)
  -- there is one
  obtain ⟨x0, k0, hx0⟩ : ∃ x0 k0 : Int, z1 * x0 = (g : Int) + k0 * (n : Int) := by
    obtain ⟨k, l, e⟩ := exists_bez z1.natAbs n
    rw [← hg] at e
    refine ⟨z1.sign * k, l, ?_⟩
    rw [← e, ← Int.mul_assoc, Int.mul_sign_self, Int.mul_comm]
  have hx1 : ∃ k : Int, z1 * (x0 % (h : Int)) = (g : Int) + k * (n : Int) := by
    have e := Int.emod_add_mul_ediv x0 (h : Int)
    refine ⟨k0 - u * (x0 / (h : Int)), ?_⟩
    have e1 : z1 * (x0 % (h : Int)) = z1 * x0 - z1 * ((h : Int) * (x0 / (h : Int))) := by rw [← Int.mul_sub]; congr 1; omega
    have e2 : z1 * ((h : Int) * (x0 / (h : Int))) = u * (x0 / (h : Int)) * (n : Int) := by
      rw [← hghI, hu]
      ac_rfl
    rw [e1, e2, hx0, Int.sub_mul]; omega
  obtain ⟨k1, hk1⟩ := id hx1
  refine ⟨g, h, x0 % (h : Int), (if z2 < 0 then k1 else -k1), by rw [hg, hn], by rw [hh, hn], by omega, by omega, Int.emod_nonneg _ (by omega), Int.emod_lt_of_pos _ (by omega), ?_, fun x' hx' => ?_⟩
  · rw [hk1]
    by_cases hz : z2 < 0
    · rw [if_pos hz, show z2 = -(n : Int) by omega, Int.neg_mul, Int.mul_comm k1]; omega
    · rw [if_neg hz, show z2 = (n : Int) by omega, Int.mul_neg, Int.mul_comm k1]; omega
  · rw [← hn] at hx'
    rw [huniq x' _ hx' hx1, Int.emod_emod_of_dvd _ (Int.dvd_refl _)]

end Go.Gb
/- Plain facts about Euclid's remainders of integers with their factors. No program is mentioned. -/
namespace Go.Gb

/-- What the rounds keep: r and s are the last remainders, u and v their factors of x, modulo y. -/
structure BzI (x y r s u v : Int) : Prop where
  c1 : ∃ k : Int, x * u = r + k * y
  c2 : ∃ k : Int, x * v = s + k * y
  gc : Nat.gcd r.natAbs s.natAbs = Nat.gcd x.natAbs y.natAbs
  st : (u = 1 ∧ v = 0 ∧ r = x ∧ s = y) ∨ (u = 0 ∧ v = 1 ∧ r = y ∧ 0 ≤ s ∧ s.natAbs < y.natAbs) ∨ (0 < r ∧ r.natAbs ≤ y.natAbs ∧ 0 ≤ s ∧ s.natAbs < r.natAbs ∧ u.natAbs * s.natAbs + v.natAbs * r.natAbs ≤ 3 * y.natAbs ∧ u.natAbs ≤ 3 * y.natAbs)

theorem BzI.start (x y : Int) : BzI x y x y 1 0 := ⟨⟨0, by omega⟩, ⟨-1, by omega⟩, rfl, Or.inl ⟨rfl, rfl, rfl, rfl⟩⟩

theorem gcd_emod_abs (r s : Int) : Nat.gcd s.natAbs (r % s).natAbs = Nat.gcd r.natAbs s.natAbs := by
  rw [← Int.gcd_eq_natAbs_gcd_natAbs, ← Int.gcd_eq_natAbs_gcd_natAbs, Int.gcd_comm r s, ← Int.gcd_add_mul_left_right s (r % s) (r / s), Int.emod_add_mul_ediv]

theorem abs_step (u q v : Int) : (u - q * v).natAbs ≤ u.natAbs + q.natAbs * v.natAbs := by
  rw [← Int.natAbs_mul]; omega

theorem BzI.small {x y r s u v : Int} (hy : y ≠ 0) (h : BzI x y r s u v) : u.natAbs ≤ 3 * y.natAbs ∧ v.natAbs ≤ 3 * y.natAbs := by
  rcases h.st with ⟨rfl, rfl, _, _⟩ | ⟨rfl, rfl, _, _⟩ | ⟨h1, h2, h3, h4, h5, h6⟩
  · constructor <;> simp <;> omega
  · constructor <;> simp <;> omega
  · refine ⟨h6, ?_⟩
    have : v.natAbs * 1 ≤ v.natAbs * r.natAbs := Nat.mul_le_mul_left _ (by omega)
    omega

theorem BzI.step {x y r s u v : Int} (hy : y ≠ 0) (h : BzI x y r s u v) (hs : s ≠ 0) : BzI x y s (r % s) v (u - r / s * v) ∧ (r % s).natAbs < s.natAbs ∧ 0 ≤ r % s := by
  have hm0 := Int.emod_nonneg r hs
  have hml : r % s < (s.natAbs : Int) := Int.emod_lt r hs
  have hme := Int.emod_add_mul_ediv r s
  refine ⟨⟨h.c2, ?_, ?_, ?_⟩, by omega, hm0⟩
  · obtain ⟨k1, e1⟩ := h.c1
    obtain ⟨k2, e2⟩ := h.c2
    refine ⟨k1 - r / s * k2, ?_⟩
    have e3 : x * (u - r / s * v) = x * u - r / s * (x * v) := by rw [Int.mul_sub]; congr 1; ac_rfl
    rw [e3, e1, e2, Int.mul_add, Int.sub_mul, Int.mul_assoc, Int.mul_comm (r / s) s]
    omega
  · rw [gcd_emod_abs r s, h.gc]
  · generalize hq : r / s = q at *
    generalize ht : r % s = t at *
    rcases h.st with ⟨rfl, rfl, rfl, rfl⟩ | ⟨rfl, rfl, rfl, h3, h4⟩ | ⟨h1, h2, h3, h4, h5, h6⟩
    · exact Or.inr (Or.inl ⟨rfl, by rw [Int.mul_zero]; rfl, rfl, hm0, by omega⟩)
    · right; right
      have hqs : (s * q).natAbs ≤ r.natAbs + t.natAbs := by omega
      rw [Int.natAbs_mul] at hqs
      have hst := abs_step 0 q 1
      refine ⟨by omega, by omega, hm0, by omega, ?_, by simp; omega⟩
      have e : (0 - q * 1).natAbs = q.natAbs := by simp
      rw [e]
      simp only [Int.natAbs_one, Nat.one_mul]
      rw [Nat.mul_comm q.natAbs]
      omega
    · right; right
      have ht2 : t.natAbs < s.natAbs := by omega
      have hqs : (s * q).natAbs + t.natAbs = r.natAbs := by
        have hsp : 0 < s := by omega
        have hq0 : 0 ≤ q := by rw [← hq]; exact Int.ediv_nonneg (by omega) (by omega)
        have := Int.mul_nonneg (Int.le_of_lt hsp) hq0
        omega
      rw [Int.natAbs_mul] at hqs
      have hst := abs_step u q v
      have hv : v.natAbs ≤ 3 * y.natAbs := by
        have : v.natAbs * 1 ≤ v.natAbs * r.natAbs := Nat.mul_le_mul_left _ (by omega)
        omega
      refine ⟨by omega, by omega, hm0, by omega, ?_, hv⟩
      have e1 : (u - q * v).natAbs * s.natAbs ≤ (u.natAbs + q.natAbs * v.natAbs) * s.natAbs := Nat.mul_le_mul_right _ hst
      have e2 : (u.natAbs + q.natAbs * v.natAbs) * s.natAbs = u.natAbs * s.natAbs + v.natAbs * (s.natAbs * q.natAbs) := by rw [Nat.add_mul]; congr 1; ac_rfl
      have e3 : v.natAbs * r.natAbs = v.natAbs * (s.natAbs * q.natAbs) + v.natAbs * t.natAbs := by rw [← hqs, Nat.mul_add]
      omega

/-- What is left at the end. -/
theorem BzI.last {x y r u v : Int} (h : BzI x y r 0 u v) : r.natAbs = Nat.gcd x.natAbs y.natAbs ∧ ∃ k : Int, x * (if r < 0 then -u else u) = (Nat.gcd x.natAbs y.natAbs : Int) + k * (y.natAbs : Int) := by
  have hg : r.natAbs = Nat.gcd x.natAbs y.natAbs := by rw [← h.gc]; simp
  refine ⟨hg, ?_⟩
  obtain ⟨k, e⟩ := h.c1
  rw [← hg]
  have hyy : ∃ c : Int, y = c * (y.natAbs : Int) := ⟨y.sign, (Int.sign_mul_natAbs y).symm⟩
  obtain ⟨c, hc⟩ := hyy
  by_cases hr : r < 0
  · rw [if_pos hr]
    refine ⟨-(k * c), ?_⟩
    rw [Int.mul_neg, e, Int.neg_mul, Int.mul_assoc, ← hc]; omega
  · rw [if_neg hr]
    refine ⟨k * c, ?_⟩
    rw [e, Int.mul_assoc, ← hc]; omega

end Go.Gb
