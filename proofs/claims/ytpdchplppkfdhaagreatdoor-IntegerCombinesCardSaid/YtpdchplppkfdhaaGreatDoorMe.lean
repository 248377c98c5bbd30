/- Texts of this proof, one behind the other. -/
import Derived.Test.YtpdchplppkfdhaaGreatDoorNumD
import Derived.Test.YtpdchplppkfdhaaGreatDoorNumW
import Derived.WalkKit
import Derived.Lib.BufferOwn
import Derived.Test.YtpdchplppkfdhaaGreatDoorNe
import Derived.Test.YtpdchplppkfdhaaGreatDoorNi
import Derived.Deep.RegionHeld3
import Derived.Deep.DeepCutAuto
import Derived.Test.YtpdchplppkfdhaaGreatDoorKf
import Derived.Deep.LoopGhost
import Derived.Deep.CutRange
import Derived.Test.YtpdchplppkfdhaaGreatDoorNg
/- Plain facts about Lehmer's way of Euclid's algorithm: Collins's condition, linear combinations. No program is mentioned. -/
namespace Go.Gb

/-- The factors of some steps, the first of which is not that of a lesser number by a greater one. -/
def Fac (a b c d : Nat) : Prop := (a = 1 ∧ b = 0 ∧ c = 0 ∧ d = 1) ∨ (a ≤ b ∧ c ≤ d ∧ 1 ≤ c ∧ b ≤ d ∧ a ≤ c)
theorem Fac.start : Fac 1 0 0 1 := Or.inl ⟨rfl, rfl, rfl, rfl⟩
theorem Fac.step {a b c d q : Nat} (h : Fac a b c d) (hq : 1 ≤ q) : Fac c d (a + q * c) (b + q * d) := by
  have g1 : 1 * c ≤ q * c := Nat.mul_le_mul_right _ hq
  have g2 : 1 * d ≤ q * d := Nat.mul_le_mul_right _ hq
  rcases h with ⟨rfl, rfl, rfl, rfl⟩ | ⟨h1, h2, h3, h4, h5⟩
  · right; omega
  · right
    have g3 : q * c ≤ q * d := Nat.mul_le_mul_left _ h2
    omega
theorem Fac.pos {a b c d : Nat} (h : Fac a b c d) : 1 ≤ d := by
  rcases h with ⟨_, _, _, h⟩ | ⟨h1, h2, h3, h4, h5⟩ <;> omega
theorem Fac.le {a b c d : Nat} (h : Fac a b c d) {K : Nat} (hd : d ≤ K) (h1 : 1 ≤ K) : a ≤ K ∧ b ≤ K ∧ c ≤ K := by
  rcases h with ⟨rfl, rfl, rfl, rfl⟩ | ⟨h1, h2, h3, h4, h5⟩ <;> omega

/-- The determinant. -/
def Dtm (a b c d : Nat) (o : Bool) : Prop := (o = false → a * d = b * c + 1) ∧ (o = true → b * c = a * d + 1)
theorem Dtm.start : Dtm 1 0 0 1 false := ⟨fun _ => rfl, fun h => by cases h⟩
theorem Dtm.step {a b c d q : Nat} {o : Bool} (h : Dtm a b c d o) : Dtm c d (a + q * c) (b + q * d) (!o) := by
  obtain ⟨h1, h2⟩ := h
  constructor
  · intro ho
    have := h2 (by cases o <;> simp_all)
    grind
  · intro ho
    have := h1 (by cases o <;> simp_all)
    grind

/-- What some steps make of two numbers. -/
def Made (a b c d : Nat) (o : Bool) (u v f s : Nat) : Prop :=
  (o = false → a * u = b * v + f ∧ d * v = c * u + s) ∧ (o = true → b * v = a * u + f ∧ c * u = d * v + s)

theorem Made.back {a b c d u v f s : Nat} {o : Bool} (h : Made a b c d o u v f s) (hd : Dtm a b c d o) : u = d * f + b * s ∧ v = c * f + a * s := by
  obtain ⟨h1, h2⟩ := h
  obtain ⟨d1, d2⟩ := hd
  cases o with
  | false =>
    obtain ⟨e1, e2⟩ := h1 rfl
    have e3 := d1 rfl
    constructor
    · have k1 : d * (a * u) = d * (b * v) + d * f := by rw [e1, Nat.mul_add]
      have k2 : b * (d * v) = b * (c * u) + b * s := by rw [e2, Nat.mul_add]
      have k3 : d * (a * u) = (b * c + 1) * u := by rw [← e3, ← Nat.mul_assoc, Nat.mul_comm d a]
      rw [Nat.add_mul, Nat.one_mul, Nat.mul_assoc] at k3
      have k4 : d * (b * v) = b * (d * v) := by rw [Nat.mul_left_comm]
      omega
    · have k1 : c * (a * u) = c * (b * v) + c * f := by rw [e1, Nat.mul_add]
      have k2 : a * (d * v) = a * (c * u) + a * s := by rw [e2, Nat.mul_add]
      have k3 : a * (d * v) = (b * c + 1) * v := by rw [← e3, ← Nat.mul_assoc]
      rw [Nat.add_mul, Nat.one_mul] at k3
      have k4 : c * (a * u) = a * (c * u) := by rw [Nat.mul_left_comm]
      have k5 : c * (b * v) = b * c * v := by rw [← Nat.mul_assoc, Nat.mul_comm c b]
      omega
  | true =>
    obtain ⟨e1, e2⟩ := h2 rfl
    have e3 := d2 rfl
    constructor
    · have k1 : d * (b * v) = d * (a * u) + d * f := by rw [e1, Nat.mul_add]
      have k2 : b * (c * u) = b * (d * v) + b * s := by rw [e2, Nat.mul_add]
      have k3 : b * (c * u) = (a * d + 1) * u := by rw [← e3, ← Nat.mul_assoc]
      rw [Nat.add_mul, Nat.one_mul] at k3
      have k4 : d * (b * v) = b * (d * v) := by rw [Nat.mul_left_comm]
      have k5 : d * (a * u) = a * d * u := by rw [← Nat.mul_assoc, Nat.mul_comm d a]
      omega
    · have k1 : c * (b * v) = c * (a * u) + c * f := by rw [e1, Nat.mul_add]
      have k2 : a * (c * u) = a * (d * v) + a * s := by rw [e2, Nat.mul_add]
      have k3 : c * (b * v) = (a * d + 1) * v := by rw [← e3, ← Nat.mul_assoc, Nat.mul_comm c b]
      rw [Nat.add_mul, Nat.one_mul] at k3
      have k4 : c * (a * u) = a * (c * u) := by rw [Nat.mul_left_comm]
      have k5 : a * (d * v) = a * d * v := by rw [← Nat.mul_assoc]
      omega

theorem Made.gcd {a b c d u v f s : Nat} {o : Bool} (h : Made a b c d o u v f s) (hd : Dtm a b c d o) : Nat.gcd f s = Nat.gcd u v := by
  obtain ⟨e1, e2⟩ := h.back hd
  refine Nat.dvd_antisymm ?_ ?_
  · have g1 := Nat.gcd_dvd_left f s
    have g2 := Nat.gcd_dvd_right f s
    refine Nat.dvd_gcd ?_ ?_
    · rw [e1]; exact Nat.dvd_add (Nat.dvd_mul_left_of_dvd g1 _) (Nat.dvd_mul_left_of_dvd g2 _)
    · rw [e2]; exact Nat.dvd_add (Nat.dvd_mul_left_of_dvd g1 _) (Nat.dvd_mul_left_of_dvd g2 _)
  · have g1 := Nat.gcd_dvd_left u v
    have g2 := Nat.gcd_dvd_right u v
    obtain ⟨h1, h2⟩ := h
    refine Nat.dvd_gcd ?_ ?_
    · cases o with
      | false =>
        obtain ⟨e1, e2⟩ := h1 rfl
        exact (Nat.dvd_add_right (Nat.dvd_mul_left_of_dvd g2 b)).1 (by rw [← e1]; exact Nat.dvd_mul_left_of_dvd g1 a)
      | true =>
        obtain ⟨e1, e2⟩ := h2 rfl
        exact (Nat.dvd_add_right (Nat.dvd_mul_left_of_dvd g1 a)).1 (by rw [← e1]; exact Nat.dvd_mul_left_of_dvd g2 b)
    · cases o with
      | false =>
        obtain ⟨e1, e2⟩ := h1 rfl
        exact (Nat.dvd_add_right (Nat.dvd_mul_left_of_dvd g1 c)).1 (by rw [← e2]; exact Nat.dvd_mul_left_of_dvd g2 d)
      | true =>
        obtain ⟨e1, e2⟩ := h2 rfl
        exact (Nat.dvd_add_right (Nat.dvd_mul_left_of_dvd g2 d)).1 (by rw [← e2]; exact Nat.dvd_mul_left_of_dvd g1 c)

/-- Steps make the sum less. -/
theorem Made.less {a b c d u v f s : Nat} {o : Bool} (h : Made a b c d o u v f s) (hd : Dtm a b c d o) (hs : Fac a b c d) (hb : b ≠ 0) (hu : u ≠ 0) (hfs : s ≤ f) : f + s < u + v := by
  obtain ⟨e1, e2⟩ := h.back hd
  rcases hs with ⟨_, h0, _, _⟩ | ⟨h1, h2, h3, h4, h5⟩
  · exact absurd h0 hb
  · have g1 : 1 * f ≤ d * f := Nat.mul_le_mul_right _ (by omega)
    have g2 : 1 * f ≤ c * f := Nat.mul_le_mul_right _ h3
    have g3 : 1 * s ≤ b * s := Nat.mul_le_mul_right _ (by omega)
    have hf : f ≠ 0 := by
      intro h0; subst h0
      obtain rfl : s = 0 := by omega
      omega
    omega

/-- Collins's condition: the steps are right for all numbers that begin so. -/
theorem collins {X Y x y a b c d u v M : Nat} {o : Bool} (h : EuInv X Y x y a b c d o) (hs : Fac a b c d) (hxy : y ≤ x) (h1 : d ≤ y) (h2 : b + d ≤ x - y)
    (hu1 : X * M ≤ u) (hu2 : u < (X + 1) * M) (hv1 : Y * M ≤ v) (hv2 : v < (Y + 1) * M) :
    (o = false → b * v ≤ a * u ∧ c * u ≤ d * v ∧ d * v + b * v ≤ a * u + c * u) ∧ (o = true → a * u ≤ b * v ∧ d * v ≤ c * u ∧ c * u + a * u ≤ b * v + d * v) := by
  have hpos := hs.pos
  obtain ⟨_, _, _, k1, k2⟩ := h
  obtain ⟨e, rfl⟩ : ∃ e, u = X * M + e := ⟨u - X * M, by omega⟩
  obtain ⟨g, rfl⟩ : ∃ g, v = Y * M + g := ⟨v - Y * M, by omega⟩
  rw [Nat.add_mul, Nat.one_mul] at hu2 hv2
  have he : e < M := by omega
  have hg : g < M := by omega
  have m1 : (b + d + y) * M ≤ x * M := Nat.mul_le_mul_right _ (by omega)
  rw [Nat.add_mul, Nat.add_mul] at m1
  have m2 : d * M ≤ y * M := Nat.mul_le_mul_right _ h1
  have m3 : b * g ≤ b * M := Nat.mul_le_mul_left _ (by omega)
  have m4 : d * g ≤ d * M := Nat.mul_le_mul_left _ (by omega)
  have m5 : d * e ≤ d * M := Nat.mul_le_mul_left _ (by omega)
  have m6 : b * e ≤ b * M := Nat.mul_le_mul_left _ (by omega)
  have hcd : c ≤ d := by rcases hs with ⟨_, _, h, h'⟩ | ⟨_, h, _, _, _⟩ <;> omega
  have m7 : c * e ≤ d * e := Nat.mul_le_mul_right _ hcd
  constructor
  · intro ho
    obtain ⟨e1, e2⟩ := k2 ho
    have f1 : a * (X * M) = b * (Y * M) + x * M := by rw [← Nat.mul_assoc, e1, Nat.add_mul, Nat.mul_assoc]
    have f2 : d * (Y * M) = c * (X * M) + y * M := by rw [← Nat.mul_assoc, e2, Nat.add_mul, Nat.mul_assoc]
    simp only [Nat.mul_add]
    omega
  · intro ho
    obtain ⟨e1, e2⟩ := k1 ho
    have f1 : b * (Y * M) = a * (X * M) + x * M := by rw [← Nat.mul_assoc, e1, Nat.add_mul, Nat.mul_assoc]
    have f2 : c * (X * M) = d * (Y * M) + y * M := by rw [← Nat.mul_assoc, e2, Nat.add_mul, Nat.mul_assoc]
    have hab : a * e ≤ b * e ∨ (a = 1 ∧ b = 0) := by
      rcases hs with ⟨h, h', _, _⟩ | ⟨h, _, _, _, _⟩
      · right; omega
      · left; exact Nat.mul_le_mul_right _ h
    simp only [Nat.mul_add]
    rcases hab with hab | ⟨ha, hb⟩
    · omega
    · subst ha hb
      rw [Nat.zero_mul, Nat.one_mul] at e1
      have : x = 0 := by omega
      omega

/-- The numbers themselves, if they are the beginnings times a scale. -/
theorem collins_made {X Y x y a b c d u v M k : Nat} {o : Bool} (h : EuInv X Y x y a b c d o) (hs : Fac a b c d) (hxy : y ≤ x) (h1 : d ≤ y) (h2 : b + d ≤ x - y) (hk : 0 < k)
    (hu1 : X * M ≤ k * u) (hu2 : k * u < (X + 1) * M) (hv1 : Y * M ≤ k * v) (hv2 : k * v < (Y + 1) * M) :
    ∃ f s, Made a b c d o u v f s ∧ s ≤ f := by
  obtain ⟨c1, c2⟩ := collins h hs hxy h1 h2 hu1 hu2 hv1 hv2
  have cancel : ∀ {p q : Nat}, k * p ≤ k * q → p ≤ q := fun h => Nat.le_of_mul_le_mul_left h hk
  have sw : ∀ (p q : Nat), p * (k * q) = k * (p * q) := fun p q => Nat.mul_left_comm p k q
  cases o with
  | false =>
    obtain ⟨g1, g2, g3⟩ := c1 rfl
    rw [sw, sw] at g1 g2
    rw [sw, sw, sw, sw, ← Nat.mul_add, ← Nat.mul_add] at g3
    have g1 := cancel g1
    have g2 := cancel g2
    have g3 := cancel g3
    refine ⟨a * u - b * v, d * v - c * u, ⟨fun _ => ⟨by omega, by omega⟩, fun h => by cases h⟩, by omega⟩
  | true =>
    obtain ⟨g1, g2, g3⟩ := c2 rfl
    rw [sw, sw] at g1 g2
    rw [sw, sw, sw, sw, ← Nat.mul_add, ← Nat.mul_add] at g3
    have g1 := cancel g1
    have g2 := cancel g2
    have g3 := cancel g3
    refine ⟨b * v - a * u, c * u - d * v, ⟨fun h => (by cases h), fun _ => ⟨by omega, by omega⟩⟩, by omega⟩

/-- The factors of sure steps are less than the base. -/
theorem sure_small {X Y x y a b c d : Nat} {o : Bool} (h : EuInv X Y x y a b c d o) (hX : X < BB * BB) (hxy : y ≤ x) (h1 : d ≤ y) : d < BB := by
  obtain ⟨h0, _⟩ := h
  have g1 : d * d ≤ d * x := Nat.mul_le_mul_left _ (by omega)
  rcases Nat.lt_or_ge d BB with h | h
  · exact h
  · have := Nat.mul_le_mul h h
    omega

/-! ### linear combinations of words -/
/-- Behind i words: os is what a x + b y has there, k is carried on. -/
def BlInv (p q : Int) (xs ys os : List Nat) (i : Nat) (k : Int) : Prop :=
  os.length = i ∧ (∀ w ∈ os, w < BB) ∧ -3000000000 ≤ k ∧ k ≤ 3000000000 ∧ (wval os : Int) + (BB : Int) ^ i * k = p * (wval (xs.take i) : Int) + q * (wval (ys.take i) : Int)
theorem BlInv.start (p q : Int) (xs ys : List Nat) : BlInv p q xs ys [] 0 0 := ⟨rfl, by simp, by omega, by omega, by simp [wval]⟩

theorem prod_bound {p : Int} {x : Nat} (hp1 : -1000000000 ≤ p) (hp2 : p ≤ 1000000000) (hx : x < BB) : -999999999000000000 ≤ p * (x : Int) ∧ p * (x : Int) ≤ 999999999000000000 := by
  have hB := BB_eq
  have h1 : p * (x : Int) ≤ 1000000000 * (x : Int) := Int.mul_le_mul_of_nonneg_right hp2 (by omega)
  have h2 : -1000000000 * (x : Int) ≤ p * (x : Int) := Int.mul_le_mul_of_nonneg_right hp1 (by omega)
  omega
theorem BlInv.step {p q : Int} {xs ys os : List Nat} {i : Nat} {k : Int} (h : BlInv p q xs ys os i k) (hx : xs.getD i 0 < BB) (hy : ys.getD i 0 < BB) (hp1 : -1000000000 ≤ p) (hp2 : p ≤ 1000000000) (hq1 : -1000000000 ≤ q) (hq2 : q ≤ 1000000000) :
    0 ≤ p * (xs.getD i 0 : Int) + q * (ys.getD i 0 : Int) + k + 3000000000000000000 ∧ p * (xs.getD i 0 : Int) + q * (ys.getD i 0 : Int) + k + 3000000000000000000 < 6000000000000000000 ∧
    BlInv p q xs ys (os ++ [((p * (xs.getD i 0 : Int) + q * (ys.getD i 0 : Int) + k + 3000000000000000000) % 1000000000).toNat]) (i + 1) ((p * (xs.getD i 0 : Int) + q * (ys.getD i 0 : Int) + k + 3000000000000000000) / 1000000000 - 3000000000) := by
  obtain ⟨h1, h2, h3, h4, h5⟩ := h
  have b1 := prod_bound hp1 hp2 hx
  have b2 := prod_bound hq1 hq2 hy
  have hB := BB_eq
  have t1 := take_succ_any xs i
  have t2 := take_succ_any ys i
  generalize hpx : p * (xs.getD i 0 : Int) = px at *
  generalize hqy : q * (ys.getD i 0 : Int) = qy at *
  refine ⟨by omega, by omega, by simp [h1], ?_, by omega, by omega, ?_⟩
  · intro w hw
    rcases List.mem_append.1 hw with hw | hw
    · exact h2 w hw
    · have hw := List.mem_singleton.1 hw; omega
  · rw [wval_snoc, h1, t1, t2]
    have e1 : ((((px + qy + k + 3000000000000000000) % 1000000000).toNat : Nat) : Int) + (BB : Int) * ((px + qy + k + 3000000000000000000) / 1000000000 - 3000000000) = px + qy + k := by rw [hB]; omega
    have e2 : (BB : Int) ^ i * ((((px + qy + k + 3000000000000000000) % 1000000000).toNat : Nat) : Int) + (BB : Int) ^ (i + 1) * ((px + qy + k + 3000000000000000000) / 1000000000 - 3000000000) = (BB : Int) ^ i * (px + qy + k) := by
      rw [Int.pow_succ, Int.mul_assoc, ← Int.mul_add, e1]
    generalize ((px + qy + k + 3000000000000000000) % 1000000000).toNat = r at *
    generalize (px + qy + k + 3000000000000000000) / 1000000000 - 3000000000 = k' at *
    rw [Int.natCast_add, Int.natCast_add, Int.natCast_add, Int.natCast_mul, Int.natCast_mul, Int.natCast_mul, Int.natCast_pow, Int.mul_add, Int.mul_add, Int.mul_left_comm p, Int.mul_left_comm q, hpx, hqy]
    rw [Int.mul_add, Int.mul_add] at e2
    omega
/-- At the end: if the whole is not negative, then no more is what is carried on. -/
theorem BlInv.done {p q : Int} {xs ys os : List Nat} {k : Int} {n z : Nat} (h : BlInv p q xs ys os n k) (hx : xs.length ≤ n) (hy : ys.length ≤ n) (hz : p * (wval xs : Int) + q * (wval ys : Int) = (z : Int)) :
    0 ≤ k ∧ wval (os ++ digs k.toNat) = z ∧ ∀ w ∈ os ++ digs k.toNat, w < BB := by
  obtain ⟨h1, h2, h3, h4, h5⟩ := h
  rw [List.take_of_length_le hx, List.take_of_length_le hy, hz] at h5
  have hlt := wval_lt os h2
  rw [h1] at hlt
  have hk : 0 ≤ k := by
    rcases Int.lt_or_le k 0 with hk | hk
    · have e : (BB : Int) ^ n = ((BB ^ n : Nat) : Int) := (Int.natCast_pow _ _).symm
      rw [e] at h5
      have h6 : ((BB ^ n : Nat) : Int) * k ≤ ((BB ^ n : Nat) : Int) * (-1) := Int.mul_le_mul_of_nonneg_left (by omega) (by omega)
      omega
    · exact hk
  refine ⟨hk, ?_, ?_⟩
  · obtain ⟨m, rfl⟩ := Int.eq_ofNat_of_zero_le hk
    rw [Int.toNat_natCast, wval_append, wval_digs, h1]
    have e : (BB : Int) ^ n = ((BB ^ n : Nat) : Int) := (Int.natCast_pow _ _).symm
    rw [e, ← Int.natCast_mul] at h5
    omega
  · intro w hw
    rcases List.mem_append.1 hw with hw | hw
    · exact h2 w hw
    · exact digs_lt _ w hw

/-! ### the highest digits -/
theorem wval_take_lt (xs : List Nat) (h : ∀ w ∈ xs, w < BB) (i : Nat) : wval (xs.take i) < BB ^ i := by
  have h1 := wval_lt (xs.take i) (fun w hw => h w (List.mem_of_mem_take hw))
  have h2 : BB ^ (xs.take i).length ≤ BB ^ i := Nat.pow_le_pow_right BB_pos (by rw [List.length_take]; omega)
  omega
/-- The word that the third place from above has, if there is one. -/
def third (xs : List Nat) (n : Nat) : Nat := if n ≥ 3 then xs.getD (n - 3) 0 else 0
def lead (xs : List Nat) (n s : Nat) : Nat := (xs.getD (n - 1) 0 * BB + xs.getD (n - 2) 0) * s + third xs n * s / BB
theorem mod_room {B s t l : Nat} (hB : B = s * t) (ht : 0 < t) : l * s % B + s ≤ B := by
  rw [hB, Nat.mul_comm l s, Nat.mul_mod_mul_left]
  have := Nat.mod_lt l ht
  have h2 : s * (l % t + 1) ≤ s * t := Nat.mul_le_mul_left _ this
  rw [Nat.mul_add, Nat.mul_one] at h2
  exact h2
theorem lead_near (xs : List Nat) (h : ∀ w ∈ xs, w < BB) (n s t : Nat) (hn : 2 ≤ n) (hl : xs.length ≤ n) (hst : BB = s * t) (hs : 0 < s) (ht : 0 < t) :
    lead xs n s * BB ^ (n - 2) ≤ s * wval xs ∧ s * wval xs < (lead xs n s + 1) * BB ^ (n - 2) := by
  obtain ⟨j, rfl⟩ : ∃ j, n = j + 2 := ⟨n - 2, by omega⟩
  have e0 : wval xs = wval (xs.take (j + 2)) := by rw [List.take_of_length_le hl]
  rw [e0, take_succ_any xs (j + 1), take_succ_any xs j]
  unfold lead third
  rw [show j + 2 - 1 = j + 1 by omega, show j + 2 - 2 = j by omega]
  by_cases h3 : 3 ≤ j + 2
  · obtain ⟨i, rfl⟩ : ∃ i, j = i + 1 := ⟨j - 1, by omega⟩
    rw [if_pos h3, show i + 1 + 2 - 3 = i by omega, take_succ_any xs i]
    have hr := wval_take_lt xs h i
    have hm := mod_room (l := xs.getD i 0) hst ht
    have hd := Nat.div_add_mod (xs.getD i 0 * s) BB
    generalize xs.getD i 0 = l at *
    generalize xs.getD (i + 1) 0 = m at *
    generalize xs.getD (i + 1 + 1) 0 = hh at *
    generalize wval (xs.take i) = r at *
    generalize l * s / BB = q at *
    generalize l * s % BB = z at *
    rw [Nat.pow_succ BB (i + 1), Nat.pow_succ BB i]
    generalize BB ^ i = P at *
    generalize BB = B at *
    have f1 : s * (r + P * l + P * B * m + P * B * B * hh) = P * B * ((hh * B + m) * s) + P * (l * s) + s * r := by grind
    rw [f1, ← hd]
    have f2 : P * z + P * s ≤ P * B := by rw [← Nat.mul_add]; exact Nat.mul_le_mul_left _ hm
    have f3 : s * (r + 1) ≤ s * P := Nat.mul_le_mul_left _ hr
    rw [Nat.mul_add, Nat.mul_one] at f3
    have f4 : P * (B * q + z) = P * B * q + P * z := by rw [Nat.mul_add, Nat.mul_assoc]
    have f5 : ((hh * B + m) * s + q) * (P * B) = P * B * ((hh * B + m) * s) + P * B * q := by grind
    have f6 : ((hh * B + m) * s + q + 1) * (P * B) = P * B * ((hh * B + m) * s) + P * B * q + P * B := by grind
    rw [f4, f5, f6, Nat.mul_comm P s] at *
    omega
  · obtain rfl : j = 0 := by omega
    rw [if_neg h3]
    simp only [Nat.zero_mul, Nat.zero_div, Nat.add_zero, List.take_zero, wval, Nat.pow_zero, Nat.one_mul, Nat.mul_one, Nat.zero_add, Nat.pow_one]
    have : s * (xs.getD 0 0 + BB * xs.getD 1 0) = (xs.getD 1 0 * BB + xs.getD 0 0) * s := by grind
    omega
/-- They are less than 18 digits. -/
theorem lead_lt {B h m l s t : Nat} (hm : m < B) (hl : l < B) (hst : B = s * t) (hs : 0 < s) (hh : h * s < B) : (h * B + m) * s + l * s / B < B * B := by
  have hB : 0 < B := by omega
  have h1 : h < t := by
    rw [hst, Nat.mul_comm h s] at hh
    exact Nat.lt_of_mul_lt_mul_left hh
  have h2 : (h + 1) * s ≤ B := by rw [hst, Nat.mul_comm _ s]; exact Nat.mul_le_mul_left _ h1
  have h3 : l * s / B < s := by
    rw [Nat.div_lt_iff_lt_mul hB, Nat.mul_comm s B]
    exact Nat.mul_lt_mul_of_pos_right hl hs
  have h4 : (m + 1) * s ≤ B * s := Nat.mul_le_mul_right _ hm
  have h5 : (h + 1) * s * B ≤ B * B := Nat.mul_le_mul_right _ h2
  have e1 : (h * B + m) * s = h * s * B + m * s := by grind
  have e2 : (h + 1) * s * B = h * s * B + B * s := by grind
  rw [Nat.add_mul, Nat.one_mul] at h4
  omega
/-- The highest word of the lesser number is not greater. -/
theorem topWord_le (xs ys : List Nat) (hx : ∀ w ∈ xs, w < BB) (n : Nat) (hn : 1 ≤ n) (hlx : xs.length ≤ n) (hly : ys.length ≤ n) (h : wval ys ≤ wval xs) : ys.getD (n - 1) 0 ≤ xs.getD (n - 1) 0 := by
  obtain ⟨j, rfl⟩ : ∃ j, n = j + 1 := ⟨n - 1, by omega⟩
  have e1 : wval xs = wval (xs.take (j + 1)) := by rw [List.take_of_length_le hlx]
  have e2 : wval ys = wval (ys.take (j + 1)) := by rw [List.take_of_length_le hly]
  rw [e1, e2, take_succ_any, take_succ_any] at h
  have hr := wval_take_lt xs hx j
  rw [show j + 1 - 1 = j by omega]
  rcases Nat.lt_or_ge (xs.getD j 0) (ys.getD j 0) with g | g
  · have : BB ^ j * (xs.getD j 0 + 1) ≤ BB ^ j * ys.getD j 0 := Nat.mul_le_mul_left _ g
    rw [Nat.mul_add, Nat.mul_one] at this
    omega
  · exact g

end Go.Gb
/- More plain facts about Lehmer's way of Euclid's algorithm: what its rounds keep. No program is mentioned. -/
namespace Go.Gb

/-- A power of ten that divides a word's base. -/
def Ten (s : Nat) : Prop := ∃ k, k ≤ 9 ∧ s = 10 ^ k
theorem Ten.one : Ten 1 := ⟨0, by omega, rfl⟩
theorem Ten.pos {s : Nat} (h : Ten s) : 0 < s := by
  obtain ⟨k, _, rfl⟩ := h
  exact Nat.pow_pos (by decide)
theorem Ten.room {s : Nat} (h : Ten s) : ∃ t, 0 < t ∧ BB = s * t := by
  obtain ⟨k, hk, rfl⟩ := h
  refine ⟨10 ^ (9 - k), Nat.pow_pos (by decide), ?_⟩
  rw [← Nat.pow_add, show k + (9 - k) = 9 by omega, BB_eq]
theorem Ten.step {s h : Nat} (hs : Ten s) (h0 : 1 ≤ h) (hlt : h * s * 10 < BB) : Ten (s * 10) := by
  obtain ⟨k, hk, rfl⟩ := hs
  refine ⟨k + 1, ?_, by rw [Nat.pow_succ]⟩
  rcases Nat.lt_or_ge k 9 with h9 | h9
  · omega
  · obtain rfl : k = 9 := by omega
    have h1 : 1 * 10 ^ 9 ≤ h * 10 ^ 9 := Nat.mul_le_mul_right _ h0
    rw [BB_eq] at hlt
    omega

/-- The linear combinations that the steps are, as integers. -/
theorem Made.even {a b c d u v f s : Nat} (h : Made a b c d false u v f s) : (a : Int) * (u : Int) + -(b : Int) * (v : Int) = (f : Int) ∧ -(c : Int) * (u : Int) + (d : Int) * (v : Int) = (s : Int) := by
  obtain ⟨e1, e2⟩ := h.1 rfl
  have f1 : (a : Int) * (u : Int) = (b : Int) * (v : Int) + (f : Int) := by exact_mod_cast e1
  have f2 : (d : Int) * (v : Int) = (c : Int) * (u : Int) + (s : Int) := by exact_mod_cast e2
  rw [Int.neg_mul, Int.neg_mul]
  omega
theorem Made.odd {a b c d u v f s : Nat} (h : Made a b c d true u v f s) : -(a : Int) * (u : Int) + (b : Int) * (v : Int) = (f : Int) ∧ (c : Int) * (u : Int) + -(d : Int) * (v : Int) = (s : Int) := by
  obtain ⟨e1, e2⟩ := h.2 rfl
  have f1 : (b : Int) * (v : Int) = (a : Int) * (u : Int) + (f : Int) := by exact_mod_cast e1
  have f2 : (c : Int) * (u : Int) = (d : Int) * (v : Int) + (s : Int) := by exact_mod_cast e2
  rw [Int.neg_mul, Int.neg_mul]
  omega

/-- What a round may be asked to keep: of the two remainders, their factors' sizes, and the sign. -/
structure Keeps (I : Nat → Nat → Nat → Nat → Bool → Prop) : Prop where
  div : ∀ F S P Q n, S ≠ 0 → I F S P Q n → I S (F % S) Q (P + F / S * Q) (!n)
  app : ∀ F S P Q n a b c d o f s, F ≠ 0 → b ≠ 0 → Made a b c d o F S f s → Dtm a b c d o → Fac a b c d → s ≤ f → I F S P Q n → I f s (a * P + b * Q) (c * P + d * Q) (n != o)
  len : ∀ F S P Q n, I F S P Q n → (digs F).length ≤ 80000 ∧ (digs S).length ≤ 80000 ∧ (digs P).length ≤ 80000 ∧ (digs Q).length ≤ 80000

/-- Common: there are no factors. -/
def CmI (N F S P Q : Nat) (_ : Bool) : Prop := F + S ≤ N ∧ P = 0 ∧ Q = 0
theorem Made.sum {a b c d u v f s : Nat} {o : Bool} (h : Made a b c d o u v f s) (hd : Dtm a b c d o) (hs : Fac a b c d) (hb : b ≠ 0) (hu : u ≠ 0) (hfs : s ≤ f) {N : Nat} (hN : u + v ≤ N) : f + s ≤ N := by
  have := h.less hd hs hb hu hfs; omega
theorem CmI.keeps {N : Nat} (hN : (digs N).length ≤ 80000) : Keeps (CmI N) := by
  refine ⟨?_, ?_, ?_⟩
  · rintro F S P Q n hS ⟨h1, rfl, rfl⟩
    have h2 := Nat.mod_le F S
    exact ⟨by omega, rfl, by simp⟩
  · rintro F S P Q n a b c d o f s hF hb hm hd hf hsf ⟨h1, rfl, rfl⟩
    exact ⟨hm.sum hd hf hb hF hsf h1, by simp, by simp⟩
  · rintro F S P Q n ⟨h1, rfl, rfl⟩
    have l1 := digs_length_mono (show F ≤ N by omega)
    have l2 := digs_length_mono (show S ≤ N by omega)
    rw [digs_zero]
    simp only [List.length_nil]
    omega

/-- Combine: the sizes of the factors, and that they give the remainders. -/
def CbI (X Y N F S P Q : Nat) (n : Bool) : Prop :=
  F + S ≤ N ∧ P * S + Q * F = Y ∧ Q ≤ Y ∧ P ≤ Y + 1 ∧ (∃ k : Int, (if n then -(P : Int) else (P : Int)) * (X : Int) = (F : Int) + k * (Y : Int)) ∧ (∃ k : Int, (if n then (Q : Int) else -(Q : Int)) * (X : Int) = (S : Int) + k * (Y : Int))
theorem CbI.start (X Y : Nat) : CbI X Y (X + Y) X Y 1 0 false := by
  refine ⟨Nat.le_refl _, by simp, by omega, by omega, ⟨0, by simp⟩, ⟨-1, by simp; omega⟩⟩
theorem le_of_prod {Q F Z Y : Nat} (h : Z + Q * F = Y) (hF : F ≠ 0) : Q ≤ Y := by
  have : Q * 1 ≤ Q * F := Nat.mul_le_mul_left _ (by omega)
  omega
theorem CbI.div {X Y N F S P Q : Nat} {n : Bool} (hS : S ≠ 0) (h : CbI X Y N F S P Q n) : CbI X Y N S (F % S) Q (P + F / S * Q) (!n) := by
  obtain ⟨h1, h2, h3, h4, ⟨k, hk⟩, ⟨l, hl⟩⟩ := h
  have hm := Nat.mod_le F S
  have hdm := Nat.div_add_mod F S
  generalize hq : F / S = q at *
  generalize hr : F % S = r at *
  have e : Q * r + (P + q * Q) * S = Y := by
    rw [← h2, ← hdm, Nat.add_mul, Nat.mul_add]
    have : q * Q * S = Q * (S * q) := by rw [Nat.mul_comm q Q, Nat.mul_assoc, Nat.mul_comm q S]
    omega
  have eI : (S : Int) * (q : Int) + (r : Int) = (F : Int) := by exact_mod_cast hdm
  refine ⟨by omega, e, le_of_prod e hS, by omega, ?_, ?_⟩
  · refine ⟨l, ?_⟩
    cases n <;> simp_all
  · refine ⟨k - q * l, ?_⟩
    have goal : ∀ (p q' : Int), p * (X : Int) = (F : Int) + k * (Y : Int) → q' * (X : Int) = (S : Int) + l * (Y : Int) → (p - (q : Int) * q') * (X : Int) = (r : Int) + (k - (q : Int) * l) * (Y : Int) := by
      intro p q' g1 g2
      rw [Int.sub_mul, Int.sub_mul, Int.mul_assoc, Int.mul_assoc, g1, g2, Int.mul_add, ← eI]
      have := Int.mul_comm (S : Int) (q : Int)
      omega
    cases n with
    | false =>
      have := goal _ _ hk hl
      simp only [Bool.not_false, if_true, Bool.false_eq_true, if_false] at *
      rw [← this]
      congr 1
      push_cast
      rw [Int.mul_neg]; omega
    | true =>
      have := goal _ _ hk hl
      simp only [Bool.not_true, if_true, Bool.false_eq_true, if_false] at *
      rw [← this]
      congr 1
      push_cast
      omega
theorem CbI.app {X Y N F S P Q : Nat} {n : Bool} {a b c d f s : Nat} {o : Bool} (hF : F ≠ 0) (hb : b ≠ 0) (hm : Made a b c d o F S f s) (hd : Dtm a b c d o) (hf : Fac a b c d) (hsf : s ≤ f) (h : CbI X Y N F S P Q n) :
    CbI X Y N f s (a * P + b * Q) (c * P + d * Q) (n != o) := by
  obtain ⟨h1, h2, h3, h4, ⟨k, hk⟩, ⟨l, hl⟩⟩ := h
  have hbk := hm.back hd
  have hf0 : f ≠ 0 := by
    rintro rfl
    obtain rfl : s = 0 := by omega
    simp at hbk
    omega
  have e : (a * P + b * Q) * s + (c * P + d * Q) * f = Y := by
    rw [← h2]
    conv => rhs; rw [hbk.1, hbk.2]
    grind
  have hle : a * P + b * Q ≤ c * P + d * Q := by
    rcases hf with ⟨_, h0, _, _⟩ | ⟨g1, g2, g3, g4, g5⟩
    · exact absurd h0 hb
    · exact Nat.add_le_add (Nat.mul_le_mul_right _ g5) (Nat.mul_le_mul_right _ g4)
  have hQ := le_of_prod e hf0
  have goal1 : ∀ (p q x y : Int), p * (X : Int) = (F : Int) + k * (Y : Int) → q * (X : Int) = (S : Int) + l * (Y : Int) → (x * p + y * q) * (X : Int) = (x * (F : Int) + y * (S : Int)) + (x * k + y * l) * (Y : Int) := by
    intro p q x y g1 g2
    rw [Int.add_mul, Int.add_mul, Int.mul_assoc, Int.mul_assoc, g1, g2, Int.mul_add, Int.mul_add, Int.mul_assoc, Int.mul_assoc]
    omega
  refine ⟨hm.sum hd hf hb hF hsf h1, e, hQ, by omega, ?_, ?_⟩
  · cases o with
    | false =>
      obtain ⟨e1, e2⟩ := hm.even
      cases n with
      | false =>
        have := goal1 _ _ (a : Int) (-(b : Int)) hk hl
        rw [e1] at this
        refine ⟨_, Eq.trans ?_ this⟩
        simp only [bne_self_eq_false, Bool.false_eq_true, if_false]
        congr 1; push_cast; rw [Int.neg_mul, Int.mul_neg, Int.neg_neg]
      | true =>
        have := goal1 _ _ (a : Int) (-(b : Int)) hk hl
        rw [e1] at this
        refine ⟨_, Eq.trans ?_ this⟩
        simp only [show (true != false) = true from rfl, if_true]
        congr 1; push_cast; rw [Int.neg_mul, Int.mul_neg]; omega
    | true =>
      obtain ⟨e1, e2⟩ := hm.odd
      cases n with
      | false =>
        have := goal1 _ _ (-(a : Int)) (b : Int) hk hl
        rw [e1] at this
        refine ⟨_, Eq.trans ?_ this⟩
        simp only [show (false != true) = true from rfl, if_true, Bool.false_eq_true, if_false]
        congr 1; push_cast; rw [Int.neg_mul, Int.mul_neg]; omega
      | true =>
        have := goal1 _ _ (-(a : Int)) (b : Int) hk hl
        rw [e1] at this
        refine ⟨_, Eq.trans ?_ this⟩
        simp only [bne_self_eq_false, Bool.false_eq_true, if_false, if_true]
        congr 1; push_cast; rw [Int.neg_mul, Int.mul_neg]; omega
  · cases o with
    | false =>
      obtain ⟨e1, e2⟩ := hm.even
      cases n with
      | false =>
        have := goal1 _ _ (-(c : Int)) (d : Int) hk hl
        rw [e2] at this
        refine ⟨_, Eq.trans ?_ this⟩
        simp only [bne_self_eq_false, Bool.false_eq_true, if_false]
        congr 1; push_cast; rw [Int.neg_mul, Int.mul_neg]; omega
      | true =>
        have := goal1 _ _ (-(c : Int)) (d : Int) hk hl
        rw [e2] at this
        refine ⟨_, Eq.trans ?_ this⟩
        simp only [show (true != false) = true from rfl, if_true]
        congr 1; push_cast; rw [Int.neg_mul, Int.mul_neg]; omega
    | true =>
      obtain ⟨e1, e2⟩ := hm.odd
      cases n with
      | false =>
        have := goal1 _ _ (c : Int) (-(d : Int)) hk hl
        rw [e2] at this
        refine ⟨_, Eq.trans ?_ this⟩
        simp only [show (false != true) = true from rfl, if_true, Bool.false_eq_true, if_false]
        congr 1; push_cast; rw [Int.neg_mul, Int.mul_neg]; omega
      | true =>
        have := goal1 _ _ (c : Int) (-(d : Int)) hk hl
        rw [e2] at this
        refine ⟨_, Eq.trans ?_ this⟩
        simp only [bne_self_eq_false, Bool.false_eq_true, if_false, if_true]
        congr 1; push_cast; rw [Int.neg_mul, Int.mul_neg]; omega
theorem digs_len_succ (Y : Nat) : (digs (Y + 1)).length ≤ (digs Y).length + 1 := by
  have h1 := lt_pow_digs Y
  have h2 : BB ^ (digs Y).length * 2 ≤ BB ^ (digs Y).length * BB := Nat.mul_le_mul_left _ BB_one
  refine digs_length_le ?_
  rw [Nat.pow_succ]
  omega
theorem CbI.keeps {X Y N : Nat} (hN : (digs N).length ≤ 80000) (hY : (digs Y).length ≤ 70000) : Keeps (CbI X Y N) := by
  refine ⟨fun F S P Q n hS h => h.div hS, fun F S P Q n a b c d o f s hF hb hm hd hf hsf h => CbI.app hF hb hm hd hf hsf h, ?_⟩
  rintro F S P Q n ⟨h1, _, h3, h4, _, _⟩
  have l1 := digs_length_mono (show F ≤ N by omega)
  have l2 := digs_length_mono (show S ≤ N by omega)
  have l3 := digs_length_mono h3
  have l4 := digs_length_mono h4
  have l5 := digs_len_succ Y
  omega

end Go.Gb
/- Rows of the call's own that are written in place: which blocks turn, and where an appended row lies. -/
namespace Go.Gb
open Go.RowKit

/-- Of the blocks that were there only those of S may have turned. -/
structure Kp (S : Nat → Prop) (w w' : World) : Prop where
  os : w'.os = w.os
  tape : w'.tape = w.tape
  output : w'.output = w.output
  size : w.heap.size ≤ w'.heap.size
  block : ∀ k, k < w.heap.size → ¬ S k → w'.heap[k]? = w.heap[k]?
theorem Kp.refl (S : Nat → Prop) (w : World) : Kp S w w := ⟨rfl, rfl, rfl, Nat.le_refl _, fun _ _ _ => rfl⟩
theorem Kp.trans {S S' : Nat → Prop} {a b c : World} (h : Kp S a b) (k : Kp S' b c) (hs : ∀ g, g < a.heap.size → S' g → S g) : Kp S a c :=
  ⟨k.os.trans h.os, k.tape.trans h.tape, k.output.trans h.output, Nat.le_trans h.size k.size, fun i hi hn => (k.block i (Nat.lt_of_lt_of_le hi h.size) (fun h' => hn (hs i hi h'))).trans (h.block i hi hn)⟩
theorem Kp.mono {S S' : Nat → Prop} {a b : World} (h : Kp S a b) (hs : ∀ g, S g → S' g) : Kp S' a b := ⟨h.os, h.tape, h.output, h.size, fun i hi hn => h.block i hi (fun h' => hn (hs i h'))⟩
theorem Kp.of_below {S : Nat → Prop} {a b : World} (h : Below a.heap.size a b) : Kp S a b := ⟨h.os, h.tape, h.output, h.size, fun i hi _ => h.block i hi⟩
theorem Kp.below_more {S : Nat → Prop} {a b c : World} (h : Kp S a b) (k : Below b.heap.size b c) : Kp S a c := h.trans (Kp.of_below (S := fun _ => False) k) (fun _ _ h => h.elim)
theorem Kp.drew {S : Nat → Prop} {a b : World} (h : Kp S a b) : Kp S a b.drew := ⟨h.os, h.tape, h.output, h.size, h.block⟩
theorem Kp.drewN {S : Nat → Prop} {a b : World} (h : Kp S a b) (n : Nat) : Kp S a (b.drewN n) := ⟨h.os, h.tape, h.output, h.size, h.block⟩
theorem Kp.alloc {S : Nat → Prop} {a b : World} (h : Kp S a b) (o : Obj) : Kp S a (b.alloc o) := h.below_more ((Below.refl _ b).alloc (Nat.le_refl _) o)
theorem Kp.grown {S : Nat → Prop} {a b c : World} {row : Option Nat} (h : Kp S a b) (k : b.grownBy c row) (hr : ∀ g, row = some g → g < a.heap.size → S g) : Kp S a c :=
  ⟨k.os.trans h.os, k.tape.trans h.tape, k.output.trans h.output, Nat.le_trans h.size k.size, fun i hi hn => (k.block i (Nat.lt_of_lt_of_le hi h.size) (fun h' => hn (hr i h'.symm hi))).trans (h.block i hi hn)⟩
theorem Kp.set {S : Nat → Prop} {a b : World} (h : Kp S a b) {p : Addr} (hp : p.block < a.heap.size → S p.block) (u : Value) : Kp S a (b.setCell p u) :=
  ⟨h.os, h.tape, h.output, by simp [World.setCell]; exact h.size, fun i hi hn => (Below.heap_setCell _ _ _ _ (fun e => hn (by subst e; exact hp hi))).trans (h.block i hi hn)⟩
/-- What is below all that turns. -/
theorem Kp.below {S : Nat → Prop} {a b : World} {B : Nat} (h : Kp S a b) (hB : B ≤ a.heap.size) (hS : ∀ g, S g → B ≤ g) : Below B a b :=
  ⟨h.os, h.tape, h.output, h.size, fun k hk => h.block k (Nat.lt_of_lt_of_le hk hB) (fun h' => by have := hS k h'; omega)⟩
theorem Kp.cell {S : Nat → Prop} {w w' : World} (h : Kp S w w') {b o : Nat} (hb : b < w.heap.size) (hn : ¬ S b) : w'.cell? ⟨b, o, none⟩ = w.cell? ⟨b, o, none⟩ := World.cell?_of_block (w := w) (h.block b hb hn)
theorem Kp.frozen {S : Nat → Prop} {w w' : World} (h : Kp S w w') {b o : Nat} (hb : b < w.heap.size) (hn : ¬ S b) : w'.frozen? ⟨b, o, none⟩ = w.frozen? ⟨b, o, none⟩ := World.frozen?_of_block (w := w) (h.block b hb hn)

/-! ### cells through steps of a world -/
theorem wc_alloc {w : World} {o : Obj} {b k : Nat} (h : b < w.heap.size) : (w.alloc o).cell? ⟨b, k, none⟩ = w.cell? ⟨b, k, none⟩ := ((Below.refl w.heap.size w).alloc (Nat.le_refl _) o).cell (p := ⟨b, k, none⟩) h
theorem wf_alloc {w : World} {o : Obj} {b k : Nat} (h : b < w.heap.size) : (w.alloc o).frozen? ⟨b, k, none⟩ = w.frozen? ⟨b, k, none⟩ := ((Below.refl w.heap.size w).alloc (Nat.le_refl _) o).frozen (p := ⟨b, k, none⟩) h
theorem wc_drew {w : World} {p : Addr} : w.drew.cell? p = w.cell? p := rfl
theorem wf_drew {w : World} {p : Addr} : w.drew.frozen? p = w.frozen? p := rfl
theorem wc_drewN {w : World} {p : Addr} {n : Nat} : (w.drewN n).cell? p = w.cell? p := rfl
theorem wf_drewN {w : World} {p : Addr} {n : Nat} : (w.drewN n).frozen? p = w.frozen? p := rfl
theorem wc_ne {w : World} {v : Value} {b c i k : Nat} (h : c ≠ b) : (w.setCell ⟨b, i, none⟩ v).cell? ⟨c, k, none⟩ = w.cell? ⟨c, k, none⟩ := World.cell?_of_block (w := w) (Below.heap_setCell w ⟨b, i, none⟩ v c h)
theorem wc_same {w : World} {v u : Value} {b i : Nat} (h : w.cell? ⟨b, i, none⟩ = some u) : (w.setCell ⟨b, i, none⟩ v).cell? ⟨b, i, none⟩ = some v := World.cell?_setCell_same _ _ _ h
theorem wc_off {w : World} {v : Value} {b i k : Nat} (h : i ≠ k) : (w.setCell ⟨b, i, none⟩ v).cell? ⟨b, k, none⟩ = w.cell? ⟨b, k, none⟩ := World.cell?_setCell_other _ _ _ _ (by intro e; injection e with e1 e2; exact h e2)
theorem wf_set {w : World} {v : Value} {p q : Addr} : (w.setCell p v).frozen? q = w.frozen? q := by simp
theorem wc_new {w : World} {cs : Array Value} {T : TypeId} {g k : Nat} (h : g = w.heap.size) : (w.alloc (.cells cs T)).cell? ⟨g, k, none⟩ = cs[k]? := by subst h; unfold World.cell?; simp only [heap_alloc_new]; simp
theorem wf_new {w : World} {cs : Array Value} {T : TypeId} {g k : Nat} (h : g = w.heap.size) : (w.alloc (.cells cs T)).frozen? ⟨g, k, none⟩ = false := by subst h; unfold World.frozen?; simp only [heap_alloc_new]; simp
theorem wbc {W w1 : World} (hb : Below W.heap.size W w1) : (∀ b o, b < W.heap.size → w1.cell? ⟨b, o, none⟩ = W.cell? ⟨b, o, none⟩) ∧ (∀ b o, b < W.heap.size → w1.frozen? ⟨b, o, none⟩ = W.frozen? ⟨b, o, none⟩) :=
  ⟨fun b o h => hb.cell (p := ⟨b, o, none⟩) h, fun b o h => hb.frozen (p := ⟨b, o, none⟩) h⟩

/-- The block of a row. -/
def At (v : Value) (g : Nat) : Prop := v.ownBlock = some g
theorem at_nil (n m g : Nat) : ¬ At (.slice none n m) g := by simp [At, Value.ownBlock]
theorem at_some {b o : Nat} {n c g : Nat} : At (.slice (some ⟨b, o, none⟩) n c) g ↔ b = g := by simp [At, Value.ownBlock]
theorem At.inj {v : Value} {g k : Nat} (h : At v g) (h' : At v k) : g = k := by unfold At at *; rw [h] at h'; exact Option.some.inj h'
/-- Two rows lie apart. -/
def Apt (v u : Value) : Prop := ∀ g, At v g → ¬ At u g
theorem Apt.symm {v u : Value} (h : Apt v u) : Apt u v := fun g h1 h2 => h g h2 h1
theorem Apt.nil_left (n m : Nat) (v : Value) : Apt (.slice none n m) v := fun _ h => (at_nil _ _ _ h).elim
theorem Apt.nil_right (n m : Nat) (v : Value) : Apt v (.slice none n m) := (Apt.nil_left n m v).symm
/-- The row u lies where v lay, or in a block that was made since. -/
def NewOr (w : World) (v u : Value) : Prop := ∀ g, At u g → At v g ∨ w.heap.size ≤ g
theorem NewOr.refl (w : World) (v : Value) : NewOr w v v := fun _ h => Or.inl h
theorem NewOr.trans {w w' : World} {v u t : Value} (h : NewOr w v u) (k : NewOr w' u t) (hs : w.heap.size ≤ w'.heap.size) : NewOr w v t := fun g hg => by
  rcases k g hg with h1 | h1
  · exact h g h1
  · right; omega
/-- A row that was made since. -/
def Fresh (w : World) (u : Value) : Prop := ∀ g, At u g → w.heap.size ≤ g
theorem NewOr.of_fresh {w : World} {v u : Value} (h : Fresh w u) : NewOr w v u := fun g hg => Or.inr (h g hg)

theorem Own.at {k : IntKind} {T : TypeId} {B : Nat} {w : World} {v : Value} {xs : List Nat} (h : Own k T B w v xs) {g : Nat} (hg : At v g) : B ≤ g ∧ g < w.heap.size := World.ownsRow.lt h g hg
theorem Own.fresh {k : IntKind} {T : TypeId} {w w0 : World} {v : Value} {xs : List Nat} (h : Own k T w0.heap.size w v xs) : Fresh w0 v := fun _ hg => (h.at hg).1
theorem Own.kp {k : IntKind} {T : TypeId} {B : Nat} {w w' : World} {v : Value} {xs : List Nat} {S : Nat → Prop} (h : Own k T B w v xs) (hk : Kp S w w') (hn : ∀ g, At v g → ¬ S g) : Own k T B w' v xs := by
  obtain ⟨h1, h2⟩ := h
  refine ⟨h1, ?_⟩
  rcases h2 with h2 | ⟨g, cap, cur, hv, hg, hh, r⟩
  · exact Or.inl h2
  · exact Or.inr ⟨g, cap, cur, hv, hg, by rw [hk.block g (Array.getElem?_eq_some_iff.1 hh).1 (hn g (by rw [hv]; exact at_some.2 rfl))]; exact hh, r⟩
theorem Rd.kp {k : IntKind} {w w' : World} {v : Value} {xs : List Nat} {S : Nat → Prop} (h : Rd k w v xs) (hk : Kp S w w') (hn : ∀ g, At v g → ¬ S g) : Rd k w' v xs := by
  rcases h with h | ⟨b, o, c, h1, h2, h3, h4, h5⟩
  · exact Or.inl h
  · exact Or.inr ⟨b, o, c, h1, h2, h3, Nat.lt_of_lt_of_le h4 hk.size, fun i hi => (hk.cell h4 (hn b (by rw [h1]; exact at_some.2 rfl))).trans (h5 i hi)⟩
/-- A row apart from one that lies where v lay or is new. -/
theorem Apt.newOr {w : World} {v u t : Value} (h : Apt v t) (hn : NewOr w v u) (ht : ∀ g, At t g → g < w.heap.size) : Apt u t := fun g h1 h2 => by
  rcases hn g h1 with h3 | h3
  · exact h g h3 h2
  · have := ht g h2; omega
theorem Apt.fresh {w : World} {u t : Value} (hn : Fresh w u) (ht : ∀ g, At t g → g < w.heap.size) : Apt u t := fun g h1 h2 => by
  have := ht g h2
  have := hn g h1
  omega

section
variable {P : Program} (w : World)
/-- Where the row lies to which was appended. -/
theorem append_place (base : Nat) (t ty e : TypeId) (i : TypeInfo) (z : Value) (ht : P.underlying t = some (.slice e)) (hi : P.info? e = some i) (hz : i.zero = some z)
    (v : Value) (n : Nat) (xs : List Value) (hown : w.ownsRow base e i.size v n xs)
    (a : Addr) (m c : Nat) (news : List Value) (hm0 : 0 < m) (hl : news.length = m * i.size) (hnews : ∀ j u, news[j]? = some u → w.cell? (a.add j) = some u) (h1 : ∀ u ∈ news, u.oneCell' = true)
    (h63 : n + m ≤ maxLen) (hbytes : (n + m) * i.bytes ≤ 140737488355328) {v' : Value} {w' : World}
    (hr : (Builtin.append_ #[t, t] ty #[v, .slice (some a) m c]).run P w = .ok v' w') : NewOr w v v' := by
  have hsmall : n + m ≤ 9223372036854775807 := by simp only [maxLen] at h63; omega
  have new : ∀ (u : Value) (l k : Nat), .slice (some ⟨w.heap.size, 0, none⟩) l k = v' → NewOr w u v' := by
    rintro u l k rfl g hg
    rw [at_some] at hg
    exact Or.inr (Nat.le_of_eq hg)
  rcases hown.2 with ⟨rfl, rfl⟩ | ⟨g, cap, cur, rfl, hbg, hg, hnc, hcm, hcs, htake⟩
  · rw [run_append_nil (P := P) w t ty e i z ht hi hz a m c news hl hnews hm0 (by omega) (by rw [Nat.zero_add] at hbytes; omega)] at hr
    injection hr with e1 e2
    exact new _ _ _ e1
  · by_cases hroom : n + m ≤ cap
    · rw [run_append_room (P := P) w t ty e i ht hi g n cap cur hg a m c news hl hnews h1 hroom (by rw [hl, hcs, ← Nat.add_mul]; exact Nat.mul_le_mul_right _ hroom)] at hr
      injection hr with e1 e2
      subst e1
      intro k hk
      rw [at_some] at hk
      exact Or.inl (at_some.2 hk)
    · rw [run_append_grow (P := P) w t ty e i z ht hi hz ⟨g, 0, none⟩ n cap xs hown.1 (hown.cells (g := g) rfl) a m c news hl hnews (by omega) (by omega) (growslice_fits (by omega) hbytes)] at hr
      injection hr with e1 e2
      exact new _ _ _ e1

theorem wpList_append_at {ops : Array Oper} {rest : List Oper} {o : Oper} {a : Act} {Q : Exit → Act → World → Prop} (hgd : o.guard = none) (s x : Operand) (t : TypeId)
    (ho : o.op = .call { callee := .builtin .append, args := #[s, x], argTypes := #[t, t] })
    (base : Nat) (e : TypeId) (i : TypeInfo) (z : Value) (ht : P.underlying t = some (.slice e)) (hi : P.info? e = some i) (hz : i.zero = some z)
    (hsize : i.size = 1) (hby : i.bytes = 8) (hzs : z.cells.size = 1)
    (v : Value) (n : Nat) (xs : List Value) (hs : a.eval s = v) (hown : w.ownsRow base e 1 v n xs)
    (ad : Addr) (c : Nat) (u : Value) (hx : a.eval x = .slice (some ad) 1 c) (hnews : w.cell? (ad.add 0) = some u) (h1 : u.oneCell' = true)
    (h63 : n ≤ 1000000) (hbase : base ≤ w.heap.size)
    (h : ∀ v' w', w'.ownsRow base e 1 v' (n + 1) (xs ++ [u]) → w.grownBy w' v.ownBlock → NewOr w v v' → wpList P ops Q rest (a.put o.dst v') w') : wpList P ops Q (o :: rest) a w := by
  refine wpList_plain hgd fun K hK => ?_
  have hn : ∀ j u', [u][j]? = some u' → w.cell? (ad.add j) = some u' := by
    intro j u' hj
    match j, hj with
    | 0, hj => simp at hj; subst hj; exact hnews
  have hu : ∀ u' ∈ [u], u'.oneCell' = true := by intro u' hu'; simp at hu'; subst hu'; exact h1
  have hm : n + 1 ≤ maxLen := by unfold maxLen; omega
  obtain ⟨v', w', hr, h2, h3, _⟩ := run_append_own (P := P) w base t o.type e i z 1 8 ht hi hz hsize hby hzs (by omega) v n xs hown ad 1 c [u] rfl hn hu hm (by omega) hbase
  have hp := append_place w base t o.type e i z ht hi hz v n xs (by rw [hsize]; exact hown) ad 1 c [u] (by omega) (by rw [hsize]; rfl) hn hu hm (by rw [hby]; omega) hr
  unfold Oper.wp execOp
  simp only [ho, resolve, invoke, builtin, Sem.run_bind, Sem.run_pure, Result.andThen_ok, List.map_toArray, List.map_cons, List.map_nil, hs, hx, hr]
  exact hK _ _ (h v' w' h2 h3 hp)
end

end Go.Gb
/- words.pad, words.split and words.appendCarry: walks. -/
namespace Go.Proofs.YtpdchplppkfdhaaGreatDoor
open Go.RowKit Go.Gb

def lenV : Value → Nat | .slice _ n _ => n | _ => 0

def Padded (xs ys : List Nat) : Prop := ∃ k, ys = xs ++ List.replicate k 0
theorem Padded.start (xs : List Nat) : Padded xs xs := ⟨0, by simp⟩
theorem Padded.step {xs ys : List Nat} (h : Padded xs ys) : Padded xs (ys ++ [0]) := by
  obtain ⟨k, rfl⟩ := h
  exact ⟨k + 1, by rw [List.append_assoc, repl_snoc]⟩
theorem Padded.fin {xs ys : List Nat} (h : Padded xs ys) : ys = xs ++ List.replicate (ys.length - xs.length) 0 := by
  obtain ⟨k, rfl⟩ := h
  rw [List.length_append, List.length_replicate, Nat.add_sub_cancel_left]

set_option maxHeartbeats 1000000 in
set_option maxRecDepth 100000 in
theorem pad_any (B : Nat) (v : Value) (xs : List Nat) (n : Nat) (hn : n ≤ 100000) (hx : xs.length ≤ n) (w : World) (h : Own .u64 44 B w v xs) (hB : B ≤ w.heap.size) :
    Calls Tryz.prog 181 #[v, .int .i64 (n : Int)] w fun e w' => ∃ u, e = .returned u ∧ Own .u64 44 B w' u (xs ++ List.replicate (n - xs.length) 0) ∧ NewOr w v u ∧ Kp (At v) w w' := by
  obtain ⟨i0, hi, hz0, hz1, hz2⟩ := info_parts Tryz.info44
  obtain ⟨a0, c0, rfl⟩ := rd_form h.rd
  have HO := Lib.hid h
  have HB := Lib.hid hB
  clear h hB
  go_enter Tryz.func181, Tryz.ntmps181
  go_wp2
  go_loopw [0] (fun x wr => ∃ (a : Option Addr) (c : Nat) (ys : List Nat), x = .slice a ys.length c ∧ ys.length ≤ n ∧ Hid (Padded xs ys) ∧ Hid (Own .u64 44 B wr (.slice a ys.length c) ys) ∧ Hid (NewOr w (.slice a0 xs.length c0) (.slice a ys.length c)) ∧ Hid (Kp (At (.slice a0 xs.length c0)) w wr)) (fun x _ => n - lenV x)
  case atStart => exact ⟨a0, c0, xs, rfl, hx, Padded.start xs, HO.out, NewOr.refl _ _, Kp.refl _ _⟩
  case round =>
    obtain ⟨a, c, ys, rfl, hl, hp, ho, hno, hk⟩ := hrel
    by_cases hlt : ys.length < n
    · have hsz := hk.out.size
      have hBw := HB.out
      go_wp2_with (at_builtin; refine wpList_append_at _ rfl _ _ 47 rfl B 44 i0 (.int .u64 0) Tryz.underlying47 hi hz0 hz1 hz2 rfl _ ys.length (cls .u64 ys) rfl (World.ownsRow.alloc ho.out _) ⟨wr.heap.size, 0, none⟩ 1 (.int .u64 0) rfl (cells_one _ _ _ 0 _ rfl) rfl (by omega) (by simp; omega) ?_)
      intro v' w1 hown' hgrow hnew
      have ho1 : Own .u64 44 B w1 v' (ys ++ [0]) := by
        unfold Own
        rw [cls_append, List.length_append]
        exact hown'
      obtain ⟨a', c', rfl⟩ := rd_form ho1.rd
      have HO1 := Lib.hid ho1
      have HN1 := Lib.hid (hno.out.trans hnew (by simp; omega))
      have HK1 := Lib.hid ((hk.out.alloc (.cells #[.int .u64 0] 44)).grown hgrow (fun g hg hlt => by
        rcases hno.out g hg with h1 | h1
        · exact h1
        · omega))
      clear ho1 hown' hgrow hnew
      go_wp2
      go_roundw
      case rel => exact ⟨a', c', ys ++ [0], rfl, by simp; omega, hp.out.step, HO1, HN1, HK1⟩
      case measure => simp [lenV]; omega
    · have hfin := hp.out.fin
      rw [show ys.length - xs.length = n - xs.length by omega] at hfin
      have HF := Lib.hid hfin
      clear hfin
      go_wp2
      go_ret
      refine ⟨_, rfl, ?_, hno.out, hk.out⟩
      rw [← HF.out]
      exact ho.out

set_option maxHeartbeats 400000 in
theorem split_any (s : Int) (h0 : 0 ≤ s + 3000000000000000000) (h1 : s + 3000000000000000000 < 6000000000000000000) (w : World) :
    Calls Tryz.prog 182 #[.int .i64 s] w fun e w' => e = .returned (.tuple #[.int .u64 ((s + 3000000000000000000) % 1000000000), .int .i64 ((s + 3000000000000000000) / 1000000000 - 3000000000)]) ∧ w = w' := by
  obtain ⟨t, ht⟩ : ∃ t, t = s + 3000000000000000000 := ⟨_, rfl⟩
  have e1 : IntKind.i64.wrap (s + 3000000000000000000) = t := by rw [ht]; exact IntWalk.i64_in _ (by omega)
  rw [← ht] at h0 h1 ⊢
  have HT := Lib.hid ht
  clear ht
  go_enter Tryz.func182, Tryz.ntmps182
  go_wp2
  go_ret2
  exact ⟨rfl, rfl⟩

set_option maxHeartbeats 1000000 in
set_option maxRecDepth 100000 in
theorem appendCarry_any (B : Nat) (v : Value) (xs : List Nat) (k : Nat) (hk3 : k ≤ 3000000000) (hx : xs.length ≤ 100000) (w : World) (h : Own .u64 44 B w v xs) (hB : B ≤ w.heap.size) :
    Calls Tryz.prog 183 #[v, .int .i64 (k : Int)] w fun e w' => ∃ u, e = .returned u ∧ Own .u64 44 B w' u (xs ++ digs k) ∧ NewOr w v u ∧ Kp (At v) w w' := by
  obtain ⟨i0, hi, hz0, hz1, hz2⟩ := info_parts Tryz.info44
  obtain ⟨a0, c0, rfl⟩ := rd_form h.rd
  have hdl : (digs k).length ≤ 2 := digs_length_le (by rw [BB_eq]; omega)
  have HD := Lib.hid hdl
  have HO := Lib.hid h
  have HB := Lib.hid hB
  clear h hB hdl
  go_enter Tryz.func183, Tryz.ntmps183
  go_wp2
  go_loopw [0, 1] (fun x kk wr => ∃ (a : Option Addr) (c m : Nat) (ys : List Nat), x = .slice a ys.length c ∧ kk = .int .i64 (m : Int) ∧ m ≤ 3000000000 ∧ Hid (ys ++ digs m = xs ++ digs k) ∧ Hid (Own .u64 44 B wr (.slice a ys.length c) ys) ∧ Hid (NewOr w (.slice a0 xs.length c0) (.slice a ys.length c)) ∧ Hid (Kp (At (.slice a0 xs.length c0)) w wr)) (fun _ kk _ => (intOf kk).toNat)
  case atStart => exact ⟨a0, c0, k, xs, rfl, rfl, hk3, rfl, HO.out, NewOr.refl _ _, Kp.refl _ _⟩
  case round =>
    obtain ⟨a, c, m, ys, rfl, rfl, hm, he, ho, hno, hk⟩ := hrel
    have hyl : ys.length ≤ 100002 := by
      have e := congrArg List.length he.out
      rw [List.length_append, List.length_append] at e
      have := HD.out
      omega
    by_cases hlt : 0 < m
    · have hsz := hk.out.size
      have hBw := HB.out
      have hdm := digs_pos (n := m) (by omega)
      rw [BB_eq] at hdm
      have HM := Lib.hid hdm
      obtain ⟨r, hr⟩ : ∃ r : Nat, r = m % 1000000000 := ⟨_, rfl⟩
      obtain ⟨q, hq⟩ : ∃ q : Nat, q = m / 1000000000 := ⟨_, rfl⟩
      have e1 : (m : Int) % 1000000000 = (r : Int) := by omega
      have e2 : (m : Int) / 1000000000 = (q : Int) := by omega
      have HR := Lib.hid hr
      have HQ := Lib.hid hq
      have hq3 : q ≤ 3000000000 := by omega
      have hqm := Lib.hid (show q < m by omega)
      have hr9 : r < 1000000000 := by omega
      clear hdm hr hq
      go_wp2_with (at_builtin; refine wpList_append_at _ rfl _ _ 47 rfl B 44 i0 (.int .u64 0) Tryz.underlying47 hi hz0 hz1 hz2 rfl _ ys.length (cls .u64 ys) rfl (World.ownsRow.alloc ho.out _) ⟨wr.heap.size, 0, none⟩ 1 (.int .u64 (r : Int)) rfl (cells_one _ _ _ 0 _ rfl) rfl (by omega) (by simp; omega) ?_)
      intro v' w1 hown' hgrow hnew
      have ho1 : Own .u64 44 B w1 v' (ys ++ [r]) := by
        unfold Own
        rw [cls_append, List.length_append]
        exact hown'
      obtain ⟨a', c', rfl⟩ := rd_form ho1.rd
      have HO1 := Lib.hid ho1
      have HN1 := Lib.hid (hno.out.trans hnew (by simp; omega))
      have HK1 := Lib.hid ((hk.out.alloc (.cells #[.int .u64 (r : Int)] 44)).grown hgrow (fun g hg hlt => by
        rcases hno.out g hg with h1 | h1
        · exact h1
        · omega))
      clear ho1 hown' hgrow hnew
      go_wp2
      go_roundw
      case rel => exact ⟨a', c', q, ys ++ [r], rfl, rfl, hq3, by rw [List.append_assoc, List.singleton_append, HR.out, HQ.out, ← HM.out]; exact he.out, HO1, HN1, HK1⟩
      case measure => simp [intOf]; have := hqm.out; omega
    · obtain rfl : m = 0 := by omega
      have hfin := he.out
      rw [digs_zero, List.append_nil] at hfin
      have HF := Lib.hid hfin
      clear hfin
      go_wp2
      go_ret
      refine ⟨_, rfl, ?_, hno.out, hk.out⟩
      rw [← HF.out]
      exact ho.out

theorem trim_take {xs : List Nat} (hB : ∀ x ∈ xs, x < BB) : xs.take (digs (wval xs)).length = digs (wval xs) ∧ (digs (wval xs)).length ≤ xs.length := by
  have hlen : (digs (wval xs)).length ≤ xs.length := digs_length_le (wval_lt xs hB)
  refine ⟨?_, hlen⟩
  have key : ∀ (n : Nat), Zs xs n → digs (wval xs) = xs.take (digs (wval xs)).length := by
    intro n
    induction n with
    | zero => intro hz; have e := digs_take hz.1 hB hz.2 (Or.inl rfl); have := hz.fin hB (Or.inl rfl); rw [← this]; exact e
    | succ n ih =>
      intro hz
      by_cases h0 : xs.getD n 0 = 0
      · exact ih (by have := hz.step (by simpa using h0); simpa using this)
      · have e := digs_take hz.1 hB hz.2 (Or.inr (by simpa using h0))
        have := hz.fin hB (Or.inr (by simpa using h0))
        rw [← this]; exact e
  exact (key _ (Zs.start xs)).symm

/-- Trim, with the place of what it returns. -/
theorem Trim_at (B : Nat) (v : Value) (xs : List Nat) (hB : ∀ x ∈ xs, x < BB) (w : World) (h : Own .u64 44 B w v xs) :
    Calls Tryz.prog 111 #[v] w fun e w' => ∃ v', e = .returned v' ∧ Own .u64 44 B w v' (digs (wval xs)) ∧ (∀ g, At v' g → At v g) ∧ w = w' := by
  have hd := trim_take hB
  have h0 := h
  obtain ⟨h1, h2⟩ := h
  rcases h2 with ⟨rfl, h3⟩ | ⟨g, cap, cur, rfl, hg, hh, hn, hc, hs, ht⟩
  · obtain rfl : xs = [] := List.length_eq_zero_iff.1 h3
    have hz : digs (wval []) = [] := by unfold wval; exact digs_zero
    rw [hz]
    clear hd hB h0 hz
    go_enter Tryz.func111, Tryz.ntmps111
    go_wp2
    refine wp_loop_rounds 1 ?_
    rw [rounds_succ]
    go_wp2
    go_ret
    exact ⟨_, rfl, Own.nil _ _ _ _, fun _ h => h, rfl⟩
  · have hrd : ∀ i, i < xs.length → w.cell? ⟨g, 0 + i, none⟩ = some (.int .u64 ((xs.getD i 0 : Nat) : Int)) := by
      rcases h0.rd with ⟨hv, _⟩ | ⟨b, o, c, hv, _, _, _, h5⟩
      · injection hv with hv; cases hv
      · injection hv with e1 e2 e3
        injection e1 with e1
        injection e1 with e4 e5 e6
        subst e4 e5 e3
        exact h5
    refine (Trim_some g 0 cap xs hB hn hc w hrd).mono fun e w' ⟨he, hw⟩ => ⟨_, he, ?_, fun k hk => (by rw [at_some] at hk ⊢; exact hk), hw⟩
    have := h0.take (digs (wval xs)).length hd.2
    rwa [hd.1] at this

end Go.Proofs.YtpdchplppkfdhaaGreatDoor
/- words.blend: walks. -/
namespace Go.Proofs.YtpdchplppkfdhaaGreatDoor
open Go.RowKit Go.Gb

theorem own_form {B : Nat} {w : World} {a : Option Addr} {n c : Nat} {xs : List Nat} (h : Own .u64 44 B w (.slice a n c) xs) (hp : 0 < n) : ∃ g, a = some ⟨g, 0, none⟩ ∧ n = xs.length ∧ B ≤ g ∧ g < w.heap.size := by
  obtain ⟨h1, h2⟩ := h
  rcases h2 with ⟨h2, _⟩ | ⟨g, cap, cur, hv, hg, hh, _⟩
  · injection h2 with e1 e2 e3; omega
  · injection hv with e1 e2 e3
    exact ⟨g, e1, e2, hg, (Array.getElem?_eq_some_iff.1 hh).1⟩
theorem own_cell {B : Nat} {w : World} {g n c : Nat} {xs : List Nat} (h : Own .u64 44 B w (.slice (some ⟨g, 0, none⟩) n c) xs) (hn : n = xs.length) {i : Nat} (hi : i < n) : w.cell? ⟨g, i, none⟩ = some (.int .u64 ((xs.getD i 0 : Nat) : Int)) := by
  subst hn
  have := World.ownsRow.cellAt (w := w) (size := 1) h i (by omega)
  rw [this]
  exact cls_get hi
theorem own_free {B : Nat} {w : World} {g n c : Nat} {xs : List Nat} (h : Own .u64 44 B w (.slice (some ⟨g, 0, none⟩) n c) xs) (hn : n = xs.length) (i : Nat) : w.frozen? ⟨g, i, none⟩ = false := by
  subst hn
  exact World.ownsRow.frozenAt (w := w) (size := 1) h i
theorem own_store {B : Nat} {w : World} {g n c : Nat} {xs : List Nat} (h : Own .u64 44 B w (.slice (some ⟨g, 0, none⟩) n c) xs) (hn : n = xs.length) (i r : Nat) : Own .u64 44 B (w.setCell ⟨g, i, none⟩ (.int .u64 (r : Int))) (.slice (some ⟨g, 0, none⟩) n c) (xs.set i r) := by
  subst hn
  have := (World.ownsRow.stored (w := w) (size := 1) h i (.int .u64 (r : Int))).1
  unfold Own
  rw [cls_set, List.length_set]
  exact this
theorem own_other {B : Nat} {w : World} {v : Value} {xs : List Nat} (h : Own .u64 44 B w v xs) {g : Nat} (hg : ¬ At v g) (i : Nat) (u : Value) : Own .u64 44 B (w.setCell ⟨g, i, none⟩ u) v xs :=
  h.kp (S := fun k => k = g) ((Kp.refl (fun k => k = g) w).set (p := ⟨g, i, none⟩) (fun _ => rfl) u) (fun _ hk e => hg (e ▸ hk))
theorem size_setC (w : World) (p : Addr) (u : Value) : (w.setCell p u).heap.size = w.heap.size := by simp [World.setCell]
theorem row_get (ys r : List Nat) (x : Nat) : (ys ++ (x :: r)).getD ys.length 0 = x := by simp [List.getD]
theorem row_set (ys r : List Nat) (x v : Nat) : (ys ++ (x :: r)).set ys.length v = (ys ++ [v]) ++ r := by simp

theorem bl_round {p q : Int} {X Y os : List Nat} {i : Nat} {k : Int} (h : BlInv p q X Y os i k) (hx : X.getD i 0 < BB) (hy : Y.getD i 0 < BB) (hp1 : -1000000000 ≤ p) (hp2 : p ≤ 1000000000) (hq1 : -1000000000 ≤ q) (hq2 : q ≤ 1000000000) :
    ∃ (r : Nat) (j : Int), BlInv p q X Y (os ++ [r]) (i + 1) j ∧ r < 1000000000 ∧ -3000000000 ≤ j ∧ j ≤ 3000000000 ∧
      ∀ W, Calls Tryz.prog 182 #[.int .i64 (p * (X.getD i 0 : Int) + q * (Y.getD i 0 : Int) + k)] W fun e w' => e = .returned (.tuple #[.int .u64 (r : Int), .int .i64 j]) ∧ W = w' := by
  obtain ⟨b0, b1, hb⟩ := h.step hx hy hp1 hp2 hq1 hq2
  refine ⟨_, _, hb, by omega, hb.2.2.1, hb.2.2.2.1, fun W => ?_⟩
  have hs := split_any _ b0 b1 W
  rw [Int.toNat_of_nonneg (Int.emod_nonneg _ (by decide))]
  exact hs

set_option maxHeartbeats 4000000 in
set_option maxRecDepth 100000 in
theorem blend_any (B : Nat) (v1 v2 : Value) (xs ys : List Nat) (a b c d : Int) (z1 z2 : Nat) (w : World)
    (ha1 : -1000000000 ≤ a) (ha2 : a ≤ 1000000000) (hb1 : -1000000000 ≤ b) (hb2 : b ≤ 1000000000) (hc1 : -1000000000 ≤ c) (hc2 : c ≤ 1000000000) (hd1 : -1000000000 ≤ d) (hd2 : d ≤ 1000000000)
    (hx : ∀ x ∈ xs, x < BB) (hy : ∀ y ∈ ys, y < BB) (hlx : xs.length ≤ 90000) (hly : ys.length ≤ 90000)
    (e1 : a * (wval xs : Int) + b * (wval ys : Int) = (z1 : Int)) (e2 : c * (wval xs : Int) + d * (wval ys : Int) = (z2 : Int))
    (h1 : Own .u64 44 B w v1 xs) (h2 : Own .u64 44 B w v2 ys) (hs : Apt v1 v2) (hB : B ≤ w.heap.size) :
    Calls Tryz.prog 170 #[v1, v2, .int .i64 a, .int .i64 b, .int .i64 c, .int .i64 d] w fun e w' => ∃ u1 u2, e = .returned (.tuple #[u1, u2]) ∧ Own .u64 44 B w' u1 (digs z1) ∧ Own .u64 44 B w' u2 (digs z2) ∧
      Apt u1 u2 ∧ NewOr w v1 u1 ∧ NewOr w v2 u2 ∧ Kp (fun g => At v1 g ∨ At v2 g) w w' := by
  obtain ⟨n, hn⟩ : ∃ n, n = max xs.length ys.length := ⟨_, rfl⟩
  have hmx : max (xs.length : Int) (ys.length : Int) = (n : Int) := by omega
  obtain ⟨X, hX⟩ : ∃ X, X = xs ++ List.replicate (n - xs.length) 0 := ⟨_, rfl⟩
  obtain ⟨Y, hY⟩ : ∃ Y, Y = ys ++ List.replicate (n - ys.length) 0 := ⟨_, rfl⟩
  have hXl : X.length = n := by rw [hX, List.length_append, List.length_replicate]; omega
  have hYl : Y.length = n := by rw [hY, List.length_append, List.length_replicate]; omega
  have hXB : ∀ x ∈ X, x < BB := by
    intro x hx'
    rw [hX] at hx'
    rcases List.mem_append.1 hx' with h | h
    · exact hx x h
    · rw [(List.mem_replicate.1 h).2]; exact BB_pos
  have hYB : ∀ y ∈ Y, y < BB := by
    intro y hy'
    rw [hY] at hy'
    rcases List.mem_append.1 hy' with h | h
    · exact hy y h
    · rw [(List.mem_replicate.1 h).2]; exact BB_pos
  have hXv : wval X = wval xs := by rw [hX]; exact wval_zeros xs _
  have hYv : wval Y = wval ys := by rw [hY]; exact wval_zeros ys _
  rw [← hXv, ← hYv] at e1 e2
  have HP1 := Lib.hid (show ∀ W, Own .u64 44 B W v1 xs → B ≤ W.heap.size → Calls Tryz.prog 181 #[v1, .int .i64 (n : Int)] W fun e w' => ∃ u, e = .returned u ∧ Own .u64 44 B w' u X ∧ NewOr W v1 u ∧ Kp (At v1) W w' from
    fun W h hBW => by rw [hX]; exact pad_any B v1 xs n (by omega) (by omega) W h hBW)
  have HP2 := Lib.hid (show ∀ W, Own .u64 44 B W v2 ys → B ≤ W.heap.size → Calls Tryz.prog 181 #[v2, .int .i64 (n : Int)] W fun e w' => ∃ u, e = .returned u ∧ Own .u64 44 B w' u Y ∧ NewOr W v2 u ∧ Kp (At v2) W w' from
    fun W h hBW => by rw [hY]; exact pad_any B v2 ys n (by omega) (by omega) W h hBW)
  have hn9 : n ≤ 90000 := by omega
  obtain ⟨a1, c1, rfl⟩ := rd_form h1.rd
  obtain ⟨a2, c2, rfl⟩ := rd_form h2.rd
  have HXB := Lib.hid hXB
  have HYB := Lib.hid hYB
  have HXL := Lib.hid hXl
  have HYL := Lib.hid hYl
  have HE1 := Lib.hid e1
  have HE2 := Lib.hid e2
  have H1 := Lib.hid h1
  have H2 := Lib.hid h2
  have HS := Lib.hid hs
  have HB := Lib.hid hB
  clear hn hX hY hXl hYl hXB hYB hXv hYv e1 e2 h1 h2 hs hB hx hy
  go_enter Tryz.func170, Tryz.ntmps170
  go_wp2_with fail
  refine (HP1.out _ H1.out HB.out).mono ?_
  rintro e w1 ⟨u1, rfl, ho1, hno1, hk1⟩
  have ho2 := H2.out.kp hk1 (fun g h h' => HS.out g h' h)
  have hs1 : Apt u1 (.slice a2 ys.length c2) := HS.out.newOr hno1 (fun g hg => (H2.out.at hg).2)
  have HO1 := Lib.hid ho1
  have HO2 := Lib.hid ho2
  have HN1 := Lib.hid hno1
  have HK1 := Lib.hid hk1
  have HS1 := Lib.hid hs1
  clear ho1 ho2 hno1 hk1 hs1
  go_wp2_with fail
  refine (HP2.out _ HO2.out (Nat.le_trans HB.out HK1.out.size)).mono ?_
  rintro e w2 ⟨u2, rfl, ho2, hno2, hk2⟩
  have ho1 := HO1.out.kp hk2 (fun g h h' => HS1.out g h h')
  have hs2 : Apt u1 u2 := (HS1.out.symm.newOr hno2 (fun g hg => (HO1.out.at hg).2)).symm
  have HN2 := Lib.hid (show NewOr w (.slice a2 ys.length c2) u2 from (NewOr.refl w _).trans hno2 HK1.out.size)
  have HK2 := Lib.hid (show Kp (fun g => At (.slice a1 xs.length c1) g ∨ At (.slice a2 ys.length c2) g) w w2 from (HK1.out.mono (fun _ h => Or.inl h)).trans hk2 (fun _ _ h => Or.inr h))
  obtain ⟨b1, k1, rfl⟩ := rd_form ho1.rd
  obtain ⟨b2, k2, rfl⟩ := rd_form ho2.rd
  rw [HXL.out] at ho1 hs2 HN1
  rw [HYL.out] at ho2 hs2 HN2
  rw [HXL.out, HYL.out]
  have HO1 := Lib.hid ho1
  have HO2 := Lib.hid ho2
  have HS2 := Lib.hid hs2
  clear ho1 ho2 hno2 hk2 hs2 HP1 HP2 HS1 HK1
  go_wp2
  go_loopw [15, 16, 17, 18, 19, 20, 34] (fun f1 f2 _ _ _ _ ii wr => ∃ (i : Nat) (j1 j2 : Int) (o1 o2 : List Nat), i ≤ n ∧ ii = .int .i64 (i : Int) ∧ f1 = .int .i64 j1 ∧ f2 = .int .i64 j2 ∧ Hid (BlInv a b X Y o1 i j1) ∧ Hid (BlInv c d X Y o2 i j2) ∧
    Hid (Own .u64 44 B wr (.slice b1 n k1) (o1 ++ X.drop i)) ∧ Hid (Own .u64 44 B wr (.slice b2 n k2) (o2 ++ Y.drop i)) ∧ Hid (Kp (fun g => At (.slice a1 xs.length c1) g ∨ At (.slice a2 ys.length c2) g) w wr) ∧ Hid (w2.heap.size = wr.heap.size)) (fun _ _ _ _ _ _ ii _ => n - (intOf ii).toNat)
  case atStart => exact ⟨0, 0, 0, [], [], Nat.zero_le _, rfl, rfl, rfl, BlInv.start _ _ _ _, BlInv.start _ _ _ _, by rw [List.drop_zero]; exact HO1.out, by rw [List.drop_zero]; exact HO2.out, HK2.out, rfl⟩
  case round =>
    obtain ⟨i, j1, j2, o1, o2, hi, rfl, rfl, rfl, hi1, hi2, hO1, hO2, hK, hZ⟩ := hrel
    clear HO1 HO2 HK2
    by_cases hlt : i < n
    · obtain ⟨g1, rfl, hl1, hg1B, hg1⟩ := own_form hO1.out (by omega)
      obtain ⟨g2, rfl, hl2, hg2B, hg2⟩ := own_form hO2.out (by omega)
      have hne : g1 ≠ g2 := fun e => HS2.out g1 (at_some.2 rfl) (at_some.2 e.symm)
      have hne' : ¬ g2 = g1 := fun e => hne e.symm
      have ol1 := hi1.out.1
      have ol2 := hi2.out.1
      have x9 := getD_lt HXB.out i
      have y9 := getD_lt HYB.out i
      obtain ⟨r1, m1, hn1, hr1, ml1, mu1, hs1⟩ := bl_round hi1.out x9 y9 ha1 ha2 hb1 hb2
      obtain ⟨r2, m2, hn2, hr2, ml2, mu2, hs2⟩ := bl_round hi2.out x9 y9 hc1 hc2 hd1 hd2
      have q1 := Go.Gb.prod_bound ha1 ha2 x9
      have q2 := Go.Gb.prod_bound hb1 hb2 y9
      have q3 := Go.Gb.prod_bound hc1 hc2 x9
      have q4 := Go.Gb.prod_bound hd1 hd2 y9
      have jl1 := hi1.out.2.2.1
      have ju1 := hi1.out.2.2.2.1
      have jl2 := hi2.out.2.2.1
      have ju2 := hi2.out.2.2.2.1
      have dx : X.drop i = X.getD i 0 :: X.drop (i + 1) := drop_consD (by rw [HXL.out]; exact hlt)
      have dy : Y.drop i = Y.getD i 0 :: Y.drop (i + 1) := drop_consD (by rw [HYL.out]; exact hlt)
      have P1 := hO1.out
      have P2 := hO2.out
      rw [dx] at P1 hl1
      rw [dy] at P2 hl2
      have cx := own_cell P1 hl1 (i := i) hlt
      have cy := own_cell P2 hl2 (i := i) hlt
      have fx := own_free P1 hl1 i
      have fy := own_free P2 hl2 i
      have gx := row_get o1 (X.drop (i + 1)) (X.getD i 0)
      have gy := row_get o2 (Y.drop (i + 1)) (Y.getD i 0)
      rw [ol1] at gx
      rw [ol2] at gy
      rw [gx] at cx
      rw [gy] at cy
      have w1' := own_store P1 hl1 i r1
      have sx := row_set o1 (X.drop (i + 1)) (X.getD i 0) r1
      have sy := row_set o2 (Y.drop (i + 1)) (Y.getD i 0) r2
      rw [ol1] at sx
      rw [ol2] at sy
      rw [sx] at w1'
      have nA2 : ¬ At (.slice (some ⟨g2, 0, none⟩) n k2) g1 := fun h => hne' (at_some.1 h)
      have nA1 : ¬ At (.slice (some ⟨g1, 0, none⟩) n k1) g2 := fun h => hne (at_some.1 h)
      have w2' := own_store (own_other P2 nA2 i (.int .u64 (r1 : Int))) hl2 i r2
      rw [sy] at w2'
      have HW1 := Lib.hid (own_other w1' nA1 i (.int .u64 (r2 : Int)))
      have HW2 := Lib.hid w2'
      have kk : Kp (fun g => At (.slice a1 xs.length c1) g ∨ At (.slice a2 ys.length c2) g) w ((wr.setCell ⟨g1, i, none⟩ (.int .u64 (r1 : Int))).setCell ⟨g2, i, none⟩ (.int .u64 (r2 : Int))) := by
        refine (hK.out.set (p := ⟨g1, i, none⟩) (fun hlt => ?_) _).set (p := ⟨g2, i, none⟩) (fun hlt => ?_) _
        · rcases HN1.out g1 (at_some.2 rfl) with h | h
          · exact Or.inl h
          · exact absurd hlt (by show ¬ g1 < _; omega)
        · rcases HN2.out g2 (at_some.2 rfl) with h | h
          · exact Or.inr h
          · exact absurd hlt (by show ¬ g2 < _; omega)
      have HKK := Lib.hid kk
      have HN1' := Lib.hid hn1
      have HN2' := Lib.hid hn2
      have HS1 := Lib.hid hs1
      have HSS2 := Lib.hid hs2
      clear P1 P2 w1' w2' sx sy gx gy dx dy kk hn1 hn2 hs1 hs2 ol1 ol2 hl1 hl2 hO1 hO2 hi1 hi2 hK nA1 nA2
      rw [BB_eq] at x9 y9
      generalize X.getD i 0 = x at *
      generalize Y.getD i 0 = y at *
      obtain ⟨pa, hpa⟩ : ∃ t, t = a * (x : Int) := ⟨_, rfl⟩
      obtain ⟨pb, hpb⟩ : ∃ t, t = b * (y : Int) := ⟨_, rfl⟩
      obtain ⟨pc, hpc⟩ : ∃ t, t = c * (x : Int) := ⟨_, rfl⟩
      obtain ⟨pd, hpd⟩ : ∃ t, t = d * (y : Int) := ⟨_, rfl⟩
      rw [← hpa, ← hpb] at HS1
      rw [← hpc, ← hpd] at HSS2
      rw [← hpa] at q1
      rw [← hpb] at q2
      rw [← hpc] at q3
      rw [← hpd] at q4
      have ea := hpa.symm
      have eb := hpb.symm
      have ec := hpc.symm
      have ed := hpd.symm
      obtain ⟨q1l, q1u⟩ := q1
      obtain ⟨q2l, q2u⟩ := q2
      obtain ⟨q3l, q3u⟩ := q3
      obtain ⟨q4l, q4u⟩ := q4
      have v1 : IntKind.i64.wrap pa = pa := IntWalk.i64_in _ (by omega)
      have v2 : IntKind.i64.wrap pb = pb := IntWalk.i64_in _ (by omega)
      have v3 : IntKind.i64.wrap pc = pc := IntWalk.i64_in _ (by omega)
      have v4 : IntKind.i64.wrap pd = pd := IntWalk.i64_in _ (by omega)
      have v5 : IntKind.i64.wrap (pa + pb) = pa + pb := IntWalk.i64_in _ (by omega)
      have v6 : IntKind.i64.wrap (pa + pb + j1) = pa + pb + j1 := IntWalk.i64_in _ (by omega)
      have v7 : IntKind.i64.wrap (pc + pd) = pc + pd := IntWalk.i64_in _ (by omega)
      have v8 : IntKind.i64.wrap (pc + pd + j2) = pc + pd + j2 := IntWalk.i64_in _ (by omega)
      clear hpa hpb hpc hpd
      go_wp2_with fail
      refine (HS1.out _).mono ?_
      rintro e w' ⟨rfl, rfl⟩
      go_wp2_with fail
      refine (HSS2.out _).mono ?_
      rintro e w' ⟨rfl, rfl⟩
      clear v1 v2 v3 v4 v5 v6 v7 v8 ea eb ec ed
      go_wp2
      go_roundw
      case rel => exact ⟨i + 1, m1, m2, o1 ++ [r1], o2 ++ [r2], by omega, by go_num, rfl, rfl, HN1', HN2', HW1, HW2, HKK, by show w2.heap.size = _; rw [size_setC, size_setC]; exact hZ.out⟩
      case measure => simp [intOf]; omega
    · obtain rfl : i = n := by omega
      obtain ⟨z1n, hw1, hlt1⟩ := hi1.out.done (by rw [HXL.out]; exact Nat.le_refl _) (by rw [HYL.out]; exact Nat.le_refl _) HE1.out
      obtain ⟨z2n, hw2, hlt2⟩ := hi2.out.done (by rw [HXL.out]; exact Nat.le_refl _) (by rw [HYL.out]; exact Nat.le_refl _) HE2.out
      have ju1 := hi1.out.2.2.2.1
      have ju2 := hi2.out.2.2.2.1
      have ol1 := hi1.out.1
      have ol2 := hi2.out.1
      obtain ⟨m1, rfl⟩ := Int.eq_ofNat_of_zero_le z1n
      obtain ⟨m2, rfl⟩ := Int.eq_ofNat_of_zero_le z2n
      rw [Int.toNat_natCast] at hw1 hlt1 hw2 hlt2
      have P1 := hO1.out
      have P2 := hO2.out
      rw [List.drop_of_length_le (by rw [HXL.out]; exact Nat.le_refl _), List.append_nil] at P1
      rw [List.drop_of_length_le (by rw [HYL.out]; exact Nat.le_refl _), List.append_nil] at P2
      have hBw : B ≤ wr.heap.size := Nat.le_trans HB.out hK.out.size
      have A1 := Lib.hid (appendCarry_any B _ o1 m1 (by omega) (by omega) wr P1 hBw)
      have HP2 := Lib.hid P2
      have HP1 := Lib.hid P1
      have L1 := Lib.hid hlt1
      have L2 := Lib.hid hlt2
      have W1 := Lib.hid hw1
      have W2 := Lib.hid hw2
      have hm2 : m2 ≤ 3000000000 := by omega
      have ho2l : o2.length ≤ 100000 := by omega
      have HBW := Lib.hid hBw
      clear P1 P2 hlt1 hlt2 hw1 hw2 z1n z2n ju1 ju2 ol1 ol2 hBw hO1 hO2 hi1 hi2
      go_wp2_with fail
      refine A1.out.mono ?_
      rintro e w3 ⟨u3, rfl, ho3, hno3, hk3⟩
      have T1 := Lib.hid (Trim_at B u3 _ L1.out w3 ho3)
      rw [W1.out] at T1
      have P2' := HP2.out.kp hk3 (fun g h h' => HS2.out g h' h)
      have hs3 : Apt u3 (.slice b2 i k2) := HS2.out.newOr hno3 (fun g hg => (HP2.out.at hg).2)
      have A2 := Lib.hid (appendCarry_any B _ o2 m2 hm2 ho2l w3 P2' (Nat.le_trans HBW.out hk3.size))
      have HNO3 := Lib.hid hno3
      have HK3 := Lib.hid hk3
      have HS3 := Lib.hid hs3
      have HO3 := Lib.hid ho3
      have HPP2 := Lib.hid P2'
      clear ho3 hno3 hk3 hs3 P2'
      go_wp2_with fail
      refine T1.out.mono ?_
      rintro e w' ⟨t1, rfl, hot1, hat1, rfl⟩
      have HT1 := Lib.hid hot1
      have HA1 := Lib.hid hat1
      clear hot1 hat1
      go_wp2_with fail
      refine A2.out.mono ?_
      rintro e w4 ⟨u4, rfl, ho4, hno4, hk4⟩
      have T2 := Lib.hid (Trim_at B u4 _ L2.out w4 ho4)
      rw [W2.out] at T2
      have HNO4 := Lib.hid hno4
      have HK4 := Lib.hid hk4
      clear ho4 hno4 hk4
      go_wp2_with fail
      refine T2.out.mono ?_
      rintro e w' ⟨t2, rfl, hot2, hat2, rfl⟩
      have HT2 := Lib.hid hot2
      have HA2 := Lib.hid hat2
      clear hot2 hat2
      go_wp2
      go_ret2
      have zz := hZ.out
      have z3 := HK3.out.size
      have zw := hK.out.size
      have zz2 : w.heap.size ≤ w2.heap.size := by omega
      refine ⟨t1, t2, rfl, HT1.out.kp HK4.out (fun g h h' => HS3.out g (HA1.out g h) h'), HT2.out, ?_, ?_, ?_, ?_⟩
      · intro g h h'
        exact (HS3.out.symm.newOr HNO4.out (fun g hg => (HO3.out.at hg).2)) g (HA2.out g h') (HA1.out g h)
      · intro g h
        rcases HNO3.out g (HA1.out g h) with h' | h'
        · exact HN1.out g h'
        · right; omega
      · intro g h
        rcases HNO4.out g (HA2.out g h) with h' | h'
        · exact HN2.out g h'
        · right; omega
      · refine (hK.out.trans (HK3.out) (fun g hg h => ?_)).trans HK4.out (fun g hg h => ?_)
        · rcases HN1.out g h with h' | h'
          · exact Or.inl h'
          · omega
        · rcases HN2.out g h with h' | h'
          · exact Or.inr h'
          · omega

end Go.Proofs.YtpdchplppkfdhaaGreatDoor
/- words.wordAt of any place, words.leading, words.sureSteps: walks. -/
namespace Go.Proofs.YtpdchplppkfdhaaGreatDoor
open Go.RowKit Go.Gb

theorem wordAt_neg (v : Value) (xs : List Nat) (i : Int) (hi : i < 0) (w : World) (h : Rd .u64 w v xs) :
    Calls Tryz.prog 152 #[v, .int .i64 i] w fun e w' => e = .returned (.int .u64 0) ∧ w = w' := by
  obtain ⟨a, c, rfl⟩ := rd_form h
  clear h
  go_enter Tryz.func152, Tryz.ntmps152
  go_wp2
  go_ret
  exact ⟨rfl, rfl⟩

set_option maxHeartbeats 1000000 in
set_option maxRecDepth 100000 in
theorem leading_any (v : Value) (xs : List Nat) (n s t : Nat) (hn : 2 ≤ n) (hn2 : n ≤ 90000) (hl : xs.length ≤ 90000) (hx : ∀ x ∈ xs, x < BB) (hst : BB = s * t) (hs : 0 < s) (hh : xs.getD (n - 1) 0 * s < BB) (w : World) (h : Rd .u64 w v xs) :
    Calls Tryz.prog 172 #[v, .int .i64 (n : Int), .int .u64 (s : Int)] w fun e w' => e = .returned (.int .u64 ((lead xs n s : Nat) : Int)) ∧ w = w' := by
  have c1 : Calls Tryz.prog 152 #[v, .int .i64 ((n : Int) - 1)] w fun e w' => e = .returned (.int .u64 ((xs.getD (n - 1) 0 : Nat) : Int)) ∧ w = w' := by
    rw [show (n : Int) - 1 = ((n - 1 : Nat) : Int) by omega]
    exact wordAt_nat v xs (n - 1) (by omega) (by omega) w h
  have c2 : Calls Tryz.prog 152 #[v, .int .i64 ((n : Int) - 2)] w fun e w' => e = .returned (.int .u64 ((xs.getD (n - 2) 0 : Nat) : Int)) ∧ w = w' := by
    rw [show (n : Int) - 2 = ((n - 2 : Nat) : Int) by omega]
    exact wordAt_nat v xs (n - 2) (by omega) (by omega) w h
  have c3 : Calls Tryz.prog 152 #[v, .int .i64 ((n : Int) - 3)] w fun e w' => e = .returned (.int .u64 ((third xs n : Nat) : Int)) ∧ w = w' := by
    unfold third
    by_cases h3 : n ≥ 3
    · rw [if_pos h3, show (n : Int) - 3 = ((n - 3 : Nat) : Int) by omega]
      exact wordAt_nat v xs (n - 3) (by omega) (by omega) w h
    · rw [if_neg h3]
      exact wordAt_neg v xs _ (by omega) w h
  have k1 := getD_lt hx (n - 2)
  have k2 : third xs n < BB := by
    unfold third
    split
    · exact getD_lt hx _
    · exact BB_pos
  have hlt := lead_lt k1 k2 hst hs hh
  unfold lead
  have C1 := Lib.hid c1
  have C2 := Lib.hid c2
  have C3 := Lib.hid c3
  clear c1 c2 c3 h
  have hsB : s ≤ BB := by
    rw [hst]
    have : s * 1 ≤ s * t := Nat.mul_le_mul_left _ (by rcases Nat.eq_zero_or_pos t with h0 | h0; (rw [h0, Nat.mul_zero] at hst; have := BB_pos; omega); exact h0)
    omega
  have hxB := getD_lt hx (n - 1)
  clear hst hx
  generalize xs.getD (n - 1) 0 = hi at *
  generalize xs.getD (n - 2) 0 = mi at *
  generalize third xs n = lo at *
  have hp2 : lo * s ≤ 1000000000 * 1000000000 := by
    have := Nat.mul_le_mul (Nat.le_of_lt k2) hsB
    rw [BB_eq] at this
    omega
  rw [BB_eq] at k1 k2 hlt hsB hxB ⊢
  obtain ⟨p1, hp1⟩ : ∃ p : Nat, p = (hi * 1000000000 + mi) * s := ⟨_, rfl⟩
  obtain ⟨p2, hp2'⟩ : ∃ p : Nat, p = lo * s := ⟨_, rfl⟩
  rw [← hp1, ← hp2'] at hlt ⊢
  rw [← hp2'] at hp2
  have e1 : ((hi : Int) * 1000000000 + (mi : Int)) * (s : Int) = (p1 : Int) := by rw [hp1, Int.natCast_mul, Int.natCast_add, Int.natCast_mul]; rfl
  have e2 : (lo : Int) * (s : Int) = (p2 : Int) := by rw [hp2', Int.natCast_mul]
  have b1 : p1 < 1000000000000000000 := by omega
  have v1 : IntKind.u64.wrap (p1 : Int) = (p1 : Int) := IntWalk.u64_in _ (by omega)
  have v2 : IntKind.u64.wrap (p2 : Int) = (p2 : Int) := IntWalk.u64_in _ (by omega)
  clear hp1 hp2' hh
  go_enter Tryz.func172, Tryz.ntmps172
  go_wp2_with fail
  refine C1.out.mono ?_
  rintro e w' ⟨rfl, rfl⟩
  go_wp2_with fail
  refine C2.out.mono ?_
  rintro e w' ⟨rfl, rfl⟩
  go_wp2_with fail
  refine C3.out.mono ?_
  rintro e w' ⟨rfl, rfl⟩
  go_wp2
  go_ret
  exact ⟨rfl, rfl⟩

/-- What is known of the steps that are sure. -/
def SureI (X Y a b c d : Nat) (o : Bool) : Prop := Fac a b c d ∧ Dtm a b c d o ∧ (b = 0 ∨ ∃ x y, EuInv X Y x y a b c d o ∧ y ≤ x ∧ d ≤ y ∧ b + d ≤ x - y)
/-- What is known of the next steps. -/
def NextI (X Y x y a b c d : Nat) (o : Bool) : Prop := EuInv X Y x y a b c d o ∧ Fac a b c d ∧ Dtm a b c d o ∧ y ≤ x
theorem NextI.start {X Y : Nat} (h : Y ≤ X) : NextI X Y X Y 1 0 0 1 false := ⟨EuInv.start X Y, Fac.start, Dtm.start, h⟩
theorem SureI.start (X Y : Nat) : SureI X Y 1 0 0 1 false := ⟨Fac.start, Dtm.start, Or.inl rfl⟩
theorem NextI.sure {X Y x y a b c d : Nat} {o : Bool} (h : NextI X Y x y a b c d o) (h1 : d ≤ y) (h2 : b + d ≤ x - y) : SureI X Y a b c d o := ⟨h.2.1, h.2.2.1, Or.inr ⟨x, y, h.1, h.2.2.2, h1, h2⟩⟩
theorem NextI.step {X Y x y a b c d : Nat} {o : Bool} (h : NextI X Y x y a b c d o) (hy : 0 < y) : NextI X Y y (x % y) c d (a + x / y * c) (b + x / y * d) (!o) := by
  obtain ⟨h1, h2, h3, h4⟩ := h
  have hq : 1 ≤ x / y := by rw [Nat.le_div_iff_mul_le hy]; omega
  exact ⟨h1.step, h2.step hq, h3.step, Nat.le_of_lt (Nat.mod_lt x hy)⟩

set_option maxHeartbeats 4000000 in
set_option maxRecDepth 100000 in
theorem sureSteps_any (X Y : Nat) (hX : X < 1000000000000000000) (hYX : Y ≤ X) (w : World) :
    Calls Tryz.prog 171 #[.int .u64 (X : Int), .int .u64 (Y : Int)] w fun e w' => ∃ (a b c d : Nat) (o : Bool), e = .returned (Stp a b c d o) ∧ Hid (SureI X Y a b c d o) ∧ Below w.heap.size w w' := by
  have z0 : Sb (((w.alloc (.cells #[.int .u64 0, .int .u64 0, .int .u64 0, .int .u64 0, .bool false] 119)).alloc (.cells #[.int .u64 1, .int .u64 0, .int .u64 0, .int .u64 1, .bool false] 119)).alloc (.cells #[.int .u64 1, .int .u64 0, .int .u64 0, .int .u64 1, .bool false] 119)) w.heap.size 0 0 0 0 false := by
    unfold Sb
    rw [Below.heap_alloc _ _ _ (by simp; omega), Below.heap_alloc _ _ _ (by simp), heap_alloc_new]
    rfl
  have z1 : Sb (((w.alloc (.cells #[.int .u64 0, .int .u64 0, .int .u64 0, .int .u64 0, .bool false] 119)).alloc (.cells #[.int .u64 1, .int .u64 0, .int .u64 0, .int .u64 1, .bool false] 119)).alloc (.cells #[.int .u64 1, .int .u64 0, .int .u64 0, .int .u64 1, .bool false] 119)) (w.heap.size + 1) 1 0 0 1 false := by
    unfold Sb
    rw [Below.heap_alloc _ _ _ (by simp)]
    have := heap_alloc_new (w.alloc (.cells #[.int .u64 0, .int .u64 0, .int .u64 0, .int .u64 0, .bool false] 119)) (.cells #[.int .u64 1, .int .u64 0, .int .u64 0, .int .u64 1, .bool false] 119)
    rw [World.size_alloc] at this
    exact this
  have z2 : Sb (((w.alloc (.cells #[.int .u64 0, .int .u64 0, .int .u64 0, .int .u64 0, .bool false] 119)).alloc (.cells #[.int .u64 1, .int .u64 0, .int .u64 0, .int .u64 1, .bool false] 119)).alloc (.cells #[.int .u64 1, .int .u64 0, .int .u64 0, .int .u64 1, .bool false] 119)) (w.heap.size + 1 + 1) 1 0 0 1 false := by
    unfold Sb
    have := heap_alloc_new ((w.alloc (.cells #[.int .u64 0, .int .u64 0, .int .u64 0, .int .u64 0, .bool false] 119)).alloc (.cells #[.int .u64 1, .int .u64 0, .int .u64 0, .int .u64 1, .bool false] 119)) (.cells #[.int .u64 1, .int .u64 0, .int .u64 0, .int .u64 1, .bool false] 119)
    rw [World.size_alloc, World.size_alloc] at this
    exact this
  have HZ0 := Lib.hid z0
  have HZ1 := Lib.hid z1
  have HZ2 := Lib.hid z2
  have HN0 := Lib.hid ((((Below.refl w.heap.size w).alloc (Nat.le_refl _) (.cells #[.int .u64 0, .int .u64 0, .int .u64 0, .int .u64 0, .bool false] 119)).alloc (by simp) (.cells #[.int .u64 1, .int .u64 0, .int .u64 0, .int .u64 1, .bool false] 119)).alloc (by simp; omega) (.cells #[.int .u64 1, .int .u64 0, .int .u64 0, .int .u64 1, .bool false] 119))
  have HX := Lib.hid hX
  have HYX := Lib.hid hYX
  clear z0 z1 z2 hX hYX
  go_enter Tryz.func171, Tryz.ntmps171
  go_wp2
  go_loopw [0, 1] (fun xx yy wr => ∃ (x y a b c d a2 b2 c2 d2 : Nat) (o o2 : Bool), xx = .int .u64 (x : Int) ∧ yy = .int .u64 (y : Int) ∧ x ≤ 1000000000000000000 ∧ Hid (NextI X Y x y a b c d o) ∧ Hid (SureI X Y a2 b2 c2 d2 o2) ∧ Hid (Sb wr (w.heap.size + 1) a b c d o) ∧ Hid (Sb wr (w.heap.size + 1 + 1) a2 b2 c2 d2 o2) ∧ Hid (Sb wr w.heap.size 0 0 0 0 false) ∧ Hid (Below w.heap.size w wr)) (fun _ yy _ => (intOf yy).toNat)
  case atStart => exact ⟨X, Y, 1, 0, 0, 1, 1, 0, 0, 1, false, false, rfl, rfl, by have := HX.out; omega, NextI.start HYX.out, SureI.start X Y, HZ1, HZ2, HZ0, HN0⟩
  case round =>
    obtain ⟨x, y, a, b, c, d, a2, b2, c2, d2, o, o2, rfl, rfl, hx9, hI, hSu, hN, hS, hR, hn⟩ := hrel
    clear HZ0 HZ1 HZ2 HN0
    have hyx := hI.out.2.2.2
    have hd1 := hI.out.2.1.pos
    obtain ⟨c0, c1, c2', c3, c4⟩ := sb_cells hN.out
    by_cases h1 : d ≤ y
    · have hbd : d ≤ 1000000000000000000 ∧ b ≤ 1000000000000000000 := by
        have := hI.out.1.bound (by omega)
        have := hI.out.2.1.le (K := 1000000000000000000) (by have := HX.out; omega) (by omega)
        have := HX.out
        omega
      obtain ⟨hd9, hb9⟩ := hbd
      obtain ⟨t, ht⟩ : ∃ t : Nat, t = x - y := ⟨_, rfl⟩
      obtain ⟨s, hs⟩ : ∃ s : Nat, s = b + d := ⟨_, rfl⟩
      have et : (x : Int) - (y : Int) = (t : Int) := by omega
      have es : (b : Int) + (d : Int) = (s : Int) := by omega
      have vt : IntKind.u64.wrap (t : Int) = (t : Int) := IntWalk.u64_in _ (by omega)
      have vs : IntKind.u64.wrap (s : Int) = (s : Int) := IntWalk.u64_in _ (by omega)
      have HTT := Lib.hid ht
      have HSS := Lib.hid hs
      clear ht hs
      by_cases h2 : s ≤ t
      · have hy0 : 0 < y := by omega
        have hsure := Lib.hid (hI.out.sure h1 (by have := HTT.out; have := HSS.out; omega))
        have hnext := Lib.hid (hI.out.step hy0)
        have hbd := hI.out.1.step.bound hy0
        have k1 : a + x / y * c ≤ 2000000000000000000 := by have := HX.out; have := HYX.out; omega
        have k2 : b + x / y * d ≤ 2000000000000000000 := by have := HX.out; omega
        obtain ⟨a', ha'⟩ : ∃ a' : Nat, a' = a + x / y * c := ⟨_, rfl⟩
        obtain ⟨b', hb'⟩ : ∃ b' : Nat, b' = b + x / y * d := ⟨_, rfl⟩
        have hW := Lib.hid (show ∀ W, Calls Tryz.prog 151 #[.agg #[.int .u64 (a : Int), .int .u64 (b : Int), .int .u64 (c : Int), .int .u64 (d : Int), .bool o], .int .u64 ((x : Int) / (y : Int))] W fun e w' => e = .returned (.agg #[.int .u64 (c : Int), .int .u64 (d : Int), .int .u64 (a' : Int), .int .u64 (b' : Int), .bool (!o)]) ∧ Below W.heap.size W w' from fun W => by rw [ha', hb']; exact with_any a b c d (x / y) o k1 k2 W)
        rw [← ha', ← hb'] at hnext
        clear ha' hb' hbd k1 k2
        have f0 := sb_free hS.out 0
        have f1 := sb_free hS.out 1
        have f2 := sb_free hS.out 2
        have f3 := sb_free hS.out 3
        have f4 := sb_free hS.out 4
        obtain ⟨e0, e1, e2, e3, e4⟩ := sb_cells hS.out
        have hS5 := sb_set5 hS.out a b c d o
        have hN5 := sb_set5_other (g := w.heap.size + 1 + 1) hN.out (by omega) a b c d o
        have hR5 := sb_set5_other (g := w.heap.size + 1 + 1) hR.out (by omega) a b c d o
        have hn5 := below_set5 hn.out (g := w.heap.size + 1 + 1) (by omega) a b c d o
        have HS5 := Lib.hid hS5
        have HN5 := Lib.hid hN5
        have HR5 := Lib.hid hR5
        have Hn5 := Lib.hid hn5
        clear hS5 hN5 hR5 hn5
        go_wp2
        clear e0 e1 e2 e3 e4 f0 f1 f2 f3 f4 c0 c1 c2' c3 c4 et es vt vs h2
        rw [← set5]
        generalize set5 wr (w.heap.size + 1 + 1) a b c d o = W5 at *
        obtain ⟨c0, c1, c2', c3, c4⟩ := sb_cells HN5.out
        have hN5' := Lib.hid (show Sb W5.drew (w.heap.size + 1) a b c d o from HN5.out)
        have y1 : (1 : Int) ≤ (y : Int) := by omega
        have yz : ((y : Int) == 0) = false := beq_eq_false_iff_ne.2 (by omega)
        have hq64 : x / y < 18446744073709551616 := Nat.lt_of_le_of_lt (Nat.div_le_self x y) (by omega)
        have hwq : IntKind.u64.wrap ((x : Int) / (y : Int)) = (x : Int) / (y : Int) := IntWalk.u64_in _ ⟨Int.natCast_nonneg (x / y), by have := (Int.ofNat_lt.2 hq64); omega⟩
        have htm : (x : Int).tmod (y : Int) = (x : Int) % (y : Int) := rfl
        clear hq64
        go_region_with (go_at_call 151; go_must (refine (hW.out _).mono ?_; rintro e w1 ⟨rfl, hb1⟩; obtain ⟨s0, s1, s2, s3, s4⟩ := sb_cells (sb_below hN5'.out hb1); have f0 := sb_free (sb_below hN5'.out hb1) 0; have f1 := sb_free (sb_below hN5'.out hb1) 1; have f2 := sb_free (sb_below hN5'.out hb1) 2; have f3 := sb_free (sb_below hN5'.out hb1) 3; have f4 := sb_free (sb_below hN5'.out hb1) 4))
        all_goals
          have hN1 := sb_below hN5'.out hb1
          have hS1 := sb_below (show Sb W5.drew (w.heap.size + 1 + 1) a b c d o from HS5.out) hb1
          have hR1 := sb_below (show Sb W5.drew w.heap.size 0 0 0 0 false from HR5.out) hb1
          have hN2 := Lib.hid (sb_set5 hN1 c d a' b' (!o))
          have hS2 := Lib.hid (sb_set5_other (g := w.heap.size + 1) hS1 (by omega) c d a' b' (!o))
          have hR2 := Lib.hid (sb_set5_other (g := w.heap.size + 1) hR1 (by omega) c d a' b' (!o))
          have hn2 := Lib.hid (below_set5 (Hn5.out.drew.trans (hb1.mono (show w.heap.size ≤ W5.drew.heap.size from Hn5.out.size))) (g := w.heap.size + 1) (by omega) c d a' b' (!o))
          have hlt := Lib.hid (Nat.mod_lt x hy0)
          clear hN1 hS1 hR1 s0 s1 s2 s3 s4 f0 f1 f2 f3 f4 hb1 hN5' hW c0 c1 c2' c3 c4 hwq
          change Exit.then _ _ Exit.normal _ (set5 w1 (w.heap.size + 1) c d a' b' (!o))
          generalize set5 w1 (w.heap.size + 1) c d a' b' (!o) = w2 at *
          have hxm : (x : Int) % (y : Int) = ((x % y : Nat) : Int) := rfl
          have hmw : IntKind.u64.wrap (((x % y : Nat) : Int)) = ((x % y : Nat) : Int) := IntWalk.u64_in _ (by have := hlt.out; omega)
          obtain ⟨r, hr⟩ : ∃ r : Nat, r = x % y := ⟨_, rfl⟩
          rw [← hr] at hxm hmw hnext hlt
          clear hr
          go_wp2
          go_quiet (fail)
          have hn3 := Lib.hid (below_drewN' hn2.out nq)
          have hS3 := Lib.hid (show Sb (w2.drewN nq) (w.heap.size + 1 + 1) a b c d o from hS2.out)
          have hN3 := Lib.hid (show Sb (w2.drewN nq) (w.heap.size + 1) c d a' b' (!o) from hN2.out)
          have hR3 := Lib.hid (show Sb (w2.drewN nq) w.heap.size 0 0 0 0 false from hR2.out)
          go_wp2
          go_roundw
          case rel => exact ⟨y, r, c, d, a', b', a, b, c, d, !o, o, rfl, rfl, by omega, hnext, hsure, hN3, hS3, hR3, hn3⟩
          case measure => simp [intOf]; have := hlt.out; omega
      · have f0 := sb_free hR.out 0
        have f1 := sb_free hR.out 1
        have f2 := sb_free hR.out 2
        have f3 := sb_free hR.out 3
        have f4 := sb_free hR.out 4
        obtain ⟨r0, r1, r2, r3, r4⟩ := sb_cells hR.out
        obtain ⟨e0, e1, e2, e3, e4⟩ := sb_cells hS.out
        have hn2 := Lib.hid (below_set5 hn.out (g := w.heap.size) (Nat.le_refl _) a2 b2 c2 d2 o2)
        have hR2 := Lib.hid (sb_set5 hR.out a2 b2 c2 d2 o2)
        go_wp2
        clear f0 f1 f2 f3 f4 r0 r1 r2 r3 r4 e0 e1 e2 e3 e4 c0 c1 c2' c3 c4
        rw [← set5]
        generalize set5 wr w.heap.size a2 b2 c2 d2 o2 = w2 at *
        obtain ⟨q0, q1, q2, q3, q4⟩ := sb_cells hR2.out
        refine bodyPost_ret (v := Stp a2 b2 c2 d2 o2) (by simp [results, Tryz.results171, go_sem, Stp, q0, q1, q2, q3, q4]) rfl ⟨a2, b2, c2, d2, o2, rfl, hSu, hn2.out⟩
    · have f0 := sb_free hR.out 0
      have f1 := sb_free hR.out 1
      have f2 := sb_free hR.out 2
      have f3 := sb_free hR.out 3
      have f4 := sb_free hR.out 4
      obtain ⟨r0, r1, r2, r3, r4⟩ := sb_cells hR.out
      obtain ⟨e0, e1, e2, e3, e4⟩ := sb_cells hS.out
      have hn2 := Lib.hid (below_set5 hn.out (g := w.heap.size) (Nat.le_refl _) a2 b2 c2 d2 o2)
      have hR2 := Lib.hid (sb_set5 hR.out a2 b2 c2 d2 o2)
      go_wp2
      clear f0 f1 f2 f3 f4 r0 r1 r2 r3 r4 e0 e1 e2 e3 e4 c0 c1 c2' c3 c4
      rw [← set5]
      generalize set5 wr w.heap.size a2 b2 c2 d2 o2 = w2 at *
      obtain ⟨q0, q1, q2, q3, q4⟩ := sb_cells hR2.out
      refine bodyPost_ret (v := Stp a2 b2 c2 d2 o2) (by simp [results, Tryz.results171, go_sem, Stp, q0, q1, q2, q3, q4]) rfl ⟨a2, b2, c2, d2, o2, rfl, hSu, hn2.out⟩

end Go.Proofs.YtpdchplppkfdhaaGreatDoor
/- words.foresee: walks. -/
namespace Go.Proofs.YtpdchplppkfdhaaGreatDoor
open Go.RowKit Go.Gb

/-- What is known of the steps that were foreseen. -/
def Seen (X Y a b c d : Nat) (o : Bool) : Prop := b = 0 ∨ ∃ f s, Made a b c d o X Y f s ∧ s ≤ f ∧ Fac a b c d ∧ Dtm a b c d o ∧ d ≤ 1000000000

theorem seen_one {X Y a b c d : Nat} {o : Bool} (hX : X < 1000000000) (h0 : Y ≠ 0) (h : EuInv X Y (Nat.gcd X Y) 0 a b c d o) (hf : Fac a b c d) (hd : Dtm a b c d o) : Seen X Y a b c d o := by
  have hg : 0 < Nat.gcd X Y := Nat.gcd_pos_of_pos_right _ (by omega)
  have hb := h.bound hg
  obtain ⟨_, _, _, k1, k2⟩ := h
  exact Or.inr ⟨_, _, ⟨k2, k1⟩, Nat.zero_le _, hf, hd, by omega⟩

theorem seen_more {X Y n s t a b c d : Nat} {o : Bool} (hn : 2 ≤ n) (hl : (digs X).length = n) (hYX : Y ≤ X) (hst : BB = s * t) (hs : 0 < s) (ht : 0 < t) (hh : (digs X).getD (n - 1) 0 * s < BB)
    (h : SureI (lead (digs X) n s) (lead (digs Y) n s) a b c d o) : Seen X Y a b c d o := by
  have hX := digs_lt X
  have hY := digs_lt Y
  have hlY : (digs Y).length ≤ n := by rw [← hl]; exact digs_length_mono hYX
  obtain ⟨x1, x2⟩ := lead_near (digs X) hX n s t hn (by omega) hst hs ht
  obtain ⟨y1, y2⟩ := lead_near (digs Y) hY n s t hn hlY hst hs ht
  rw [wval_digs] at x1 x2 y1 y2
  have hlt : lead (digs X) n s < BB * BB := lead_lt (getD_lt hX (n - 2)) (by unfold third; split; exact getD_lt hX _; exact BB_pos) hst hs hh
  obtain ⟨hf, hd, h⟩ := h
  rcases h with h | ⟨x, y, hE, hyx, hdy, hbd⟩
  · exact Or.inl h
  · right
    obtain ⟨f, s', hm, hsf⟩ := collins_made hE hf hyx hdy hbd hs x1 x2 y1 y2
    refine ⟨f, s', hm, hsf, hf, hd, ?_⟩
    have := sure_small hE hlt hyx hdy
    rw [BB_eq] at this
    omega
theorem lead_mono {X Y n s t : Nat} (hn : 2 ≤ n) (hl : (digs X).length = n) (hYX : Y ≤ X) (hst : BB = s * t) (hs : 0 < s) (ht : 0 < t) : lead (digs Y) n s ≤ lead (digs X) n s := by
  have hlY : (digs Y).length ≤ n := by rw [← hl]; exact digs_length_mono hYX
  obtain ⟨x1, x2⟩ := lead_near (digs X) (digs_lt X) n s t hn (by omega) hst hs ht
  obtain ⟨y1, y2⟩ := lead_near (digs Y) (digs_lt Y) n s t hn hlY hst hs ht
  rw [wval_digs] at x1 x2 y1 y2
  have h1 : s * Y ≤ s * X := Nat.mul_le_mul_left _ hYX
  have h2 : lead (digs Y) n s * BB ^ (n - 2) < (lead (digs X) n s + 1) * BB ^ (n - 2) := by omega
  have := Nat.lt_of_mul_lt_mul_right h2
  omega

def scM (v : Value) : Nat := 1000000001 - (intOf v).toNat

theorem sb_new (w1 : World) (a b c d : Nat) (o : Bool) : Sb (w1.alloc (.cells #[.int .u64 (a : Int), .int .u64 (b : Int), .int .u64 (c : Int), .int .u64 (d : Int), .bool o] 119)) w1.heap.size a b c d o := by
  unfold Sb
  rw [heap_alloc_new]
theorem sb_alloc {w1 : World} {g a b c d : Nat} {o : Bool} (h : Sb w1 g a b c d o) (x : Obj) : Sb (w1.alloc x) g a b c d o := sb_below h ((Below.refl _ w1).alloc (Nat.le_refl _) x)
theorem sb_drew {w1 : World} {g a b c d : Nat} {o : Bool} (h : Sb w1 g a b c d o) : Sb w1.drew g a b c d o := h
/-- The block was made behind the call. -/
theorem seen_wayA {w w1 : World} (a b c d : Nat) (o : Bool) (hb : Below (w.alloc (.cells #[.int .u64 0, .int .u64 0, .int .u64 0, .int .u64 0, .bool false] 119)).drew.heap.size (w.alloc (.cells #[.int .u64 0, .int .u64 0, .int .u64 0, .int .u64 0, .bool false] 119)).drew w1) :
    Sb (w1.alloc (.cells #[.int .u64 (a : Int), .int .u64 (b : Int), .int .u64 (c : Int), .int .u64 (d : Int), .bool o] 119)) w1.heap.size a b c d o ∧
    Sb (w1.alloc (.cells #[.int .u64 (a : Int), .int .u64 (b : Int), .int .u64 (c : Int), .int .u64 (d : Int), .bool o] 119)) w.heap.size 0 0 0 0 false ∧ w1.heap.size ≠ w.heap.size ∧
    Below w.heap.size w (w1.alloc (.cells #[.int .u64 (a : Int), .int .u64 (b : Int), .int .u64 (c : Int), .int .u64 (d : Int), .bool o] 119)) := by
  have hz := hb.size
  have e : (w.alloc (.cells #[.int .u64 0, .int .u64 0, .int .u64 0, .int .u64 0, .bool false] 119)).drew.heap.size = w.heap.size + 1 := World.size_alloc _ _
  rw [e] at hz
  have h1 : Sb w1 w.heap.size 0 0 0 0 false := sb_below (show Sb (w.alloc (.cells #[.int .u64 0, .int .u64 0, .int .u64 0, .int .u64 0, .bool false] 119)).drew w.heap.size 0 0 0 0 false from sb_new w 0 0 0 0 false) hb
  refine ⟨sb_new w1 a b c d o, sb_alloc h1 _, by omega, ?_⟩
  refine Below.alloc ?_ (by omega) _
  exact (((Below.refl w.heap.size w).alloc (Nat.le_refl _) _).drew).trans (hb.mono (by rw [e]; omega))
/-- The block was made ahead of the call. -/
theorem seen_wayB {w w1 : World} (a b c d : Nat) (o : Bool) (hb : Below ((w.alloc (.cells #[.int .u64 0, .int .u64 0, .int .u64 0, .int .u64 0, .bool false] 119)).alloc (.cells #[.int .u64 0, .int .u64 0, .int .u64 0, .int .u64 0, .bool false] 119)).drew.heap.size ((w.alloc (.cells #[.int .u64 0, .int .u64 0, .int .u64 0, .int .u64 0, .bool false] 119)).alloc (.cells #[.int .u64 0, .int .u64 0, .int .u64 0, .int .u64 0, .bool false] 119)).drew w1) :
    Sb (set5 w1 (w.heap.size + 1) a b c d o) (w.heap.size + 1) a b c d o ∧ Sb (set5 w1 (w.heap.size + 1) a b c d o) w.heap.size 0 0 0 0 false ∧ w.heap.size + 1 ≠ w.heap.size ∧ Below w.heap.size w (set5 w1 (w.heap.size + 1) a b c d o) := by
  have e : ((w.alloc (.cells #[.int .u64 0, .int .u64 0, .int .u64 0, .int .u64 0, .bool false] 119)).alloc (.cells #[.int .u64 0, .int .u64 0, .int .u64 0, .int .u64 0, .bool false] 119)).drew.heap.size = w.heap.size + 1 + 1 := by
    show (World.alloc _ _).heap.size = _
    rw [World.size_alloc, World.size_alloc]
  have z1 := sb_new w 0 0 0 0 false
  have z2 := sb_new (w.alloc (.cells #[.int .u64 0, .int .u64 0, .int .u64 0, .int .u64 0, .bool false] 119)) 0 0 0 0 false
  rw [World.size_alloc] at z2
  have h1 : Sb w1 w.heap.size 0 0 0 0 false := sb_below (sb_drew (sb_alloc z1 _)) hb
  have h2 : Sb w1 (w.heap.size + 1) 0 0 0 0 false := sb_below (sb_drew z2) hb
  refine ⟨sb_set5 h2 a b c d o, sb_set5_other h1 (by omega) a b c d o, by omega, below_set5 ?_ (by omega) a b c d o⟩
  exact ((((Below.refl w.heap.size w).alloc (Nat.le_refl _) _).alloc (by rw [World.size_alloc]; omega) _).drew).trans (hb.mono (by rw [e]; omega))

set_option maxHeartbeats 2000000 in
set_option maxRecDepth 100000 in
theorem foresee_one (v1 v2 : Value) (X Y : Nat) (h0 : Y ≠ 0) (hYX : Y ≤ X) (hl : (digs X).length = 1) (w : World) (h1 : Rd .u64 w v1 (digs X)) (h2 : Rd .u64 w v2 (digs Y)) :
    Calls Tryz.prog 154 #[v1, v2] w fun e w' => ∃ (a b c d : Nat) (o : Bool), e = .returned (Stp a b c d o) ∧ Hid (Seen X Y a b c d o) ∧ Below w.heap.size w w' := by
  have dX : digs X = [X] := by
    match hd : digs X, hl with
    | [x], _ => have := wval_digs X; rw [hd] at this; simp [wval] at this; rw [this]
  have hX : X < BB := by have := digs_lt X X (by rw [dX]; simp); exact this
  have dY : digs Y = [Y] := by
    have h := digs_cons (w := Y) (n := 0) (by omega) (Or.inl h0)
    rw [digs_zero] at h
    simpa using h
  rw [dX] at h1
  rw [dY] at h2
  rw [BB_eq] at hX
  obtain ⟨b1, o1, c1, rfl, _, _, hb1, r1⟩ := rd_pos h1 (by simp)
  obtain ⟨b2, o2, c2, rfl, _, _, hb2, r2⟩ := rd_pos h2 (by simp)
  have cx := r1 0 (by simp)
  have cy := r2 0 (by simp)
  simp only [Nat.add_zero, List.getD_cons_zero] at cx cy
  rw [show [X].length = 1 from rfl, show [Y].length = 1 from rfl]
  have HS := Lib.hid (fun W => allSteps_inv X Y (by omega) (by omega) (fun x y a b c d o => Fac a b c d ∧ Dtm a b c d o ∧ y ≤ x) ⟨Fac.start, Dtm.start, hYX⟩
    (fun x y a b c d o hy _ hI => ⟨hI.1.step (by rw [Nat.le_div_iff_mul_le hy]; omega), hI.2.1.step, Nat.le_of_lt (Nat.mod_lt x hy)⟩) W)
  unfold Stp at HS
  have HX := Lib.hid hX
  have H0 := Lib.hid h0
  have z0 : Sb (w.alloc (.cells #[.int .u64 0, .int .u64 0, .int .u64 0, .int .u64 0, .bool false] 119)) w.heap.size 0 0 0 0 false := by
    unfold Sb
    rw [heap_alloc_new]
    rfl
  have HZ0 := Lib.hid z0
  have HN0 := Lib.hid ((Below.refl w.heap.size w).alloc (Nat.le_refl _) (.cells #[.int .u64 0, .int .u64 0, .int .u64 0, .int .u64 0, .bool false] 119))
  clear h0 hYX hl h1 h2 dX dY hX r1 r2 z0
  go_enter Tryz.func154, Tryz.ntmps154
  go_upto_region 2 with fail
  go_cut [6] (fun v6 wx => ∃ (g a b c d : Nat) (o : Bool), v6 = .pointer (some ⟨g, 0, none⟩) ∧ Hid (Sb wx g a b c d o) ∧ Hid (Sb wx w.heap.size 0 0 0 0 false) ∧ g ≠ w.heap.size ∧ Hid (Below w.heap.size w wx) ∧ Hid (Seen X Y a b c d o))
  case first =>
    go_region_held3 (fun w' => w'.cell? ⟨b1, o1, none⟩ = some (.int .u64 (X : Int)) ∧ w'.cell? ⟨b2, o2, none⟩ = some (.int .u64 (Y : Int))) (first | ((try go_split_ands); refine ⟨?_, ?_⟩ <;> (first | (with_reducible assumption) | ((repeat (first | rw [wc_drew] | rw [wc_alloc (by first | assumption | omega | (simp; done) | (simp; omega))] | rw [wc_ne (by omega)])); first | (with_reducible assumption) | (simp; done)))) | (go_keep; done))
      (first | (go_at_call 125; (refine (HS.out _).mono ?_); rintro e w1 ⟨a, b, c, d, o, rfl, hEI, hb1⟩; have HEI := Lib.hid hEI; have HB1 := Lib.hid hb1; obtain ⟨hc1, hf1⟩ := wbc hb1; have hz1 := hb1.size; (try simp at hz1); have sx : w1.cell? ⟨b1, o1, none⟩ = some (.int .u64 (X : Int)) := (by rw [hc1 _ _ (by first | omega | (simp; omega))]; first | (with_reducible assumption) | (simp; done) | simp [*]); have sy : w1.cell? ⟨b2, o2, none⟩ = some (.int .u64 (Y : Int)) := (by rw [hc1 _ _ (by first | omega | (simp; omega))]; first | (with_reducible assumption) | (simp; done) | simp [*]); clear hEI))
    all_goals
      obtain ⟨hE, hF, hD, _⟩ := HEI.out
      have hSeen := Lib.hid (seen_one HX.out H0.out hE hF hD)
      clear hE hF hD HEI
    · obtain ⟨q1, q2, q3, q4⟩ := seen_wayA a b c d o HB1.out
      have Q1 := Lib.hid q1
      have Q2 := Lib.hid q2
      have Q4 := Lib.hid q4
      clear q1 q2 q4
      go_wp2_with fail
      go_meet
      exact ⟨_, a, b, c, d, o, rfl, Q1, Q2, q3, Q4, hSeen⟩
    · obtain ⟨q1, q2, q3, q4⟩ := seen_wayB a b c d o HB1.out
      have Q1 := Lib.hid q1
      have Q2 := Lib.hid q2
      have Q4 := Lib.hid q4
      clear q1 q2 q4
      go_wp2_with fail
      go_meet
      exact ⟨_, a, b, c, d, o, rfl, Q1, Q2, q3, Q4, hSeen⟩
  case rest =>
    obtain ⟨g, a, b, c, d, o, rfl, hS, hR, hne, hn, hSeen⟩ := hcut
    clear HZ0 HN0 HS cx cy hb1 hb2
    have f0 := sb_free hR.out 0
    have f1 := sb_free hR.out 1
    have f2 := sb_free hR.out 2
    have f3 := sb_free hR.out 3
    have f4 := sb_free hR.out 4
    obtain ⟨r0, r1, r2, r3, r4⟩ := sb_cells hR.out
    obtain ⟨e0, e1, e2, e3, e4⟩ := sb_cells hS.out
    have hn2 := Lib.hid (below_set5 hn.out (g := w.heap.size) (Nat.le_refl _) a b c d o)
    have hR2 := Lib.hid (sb_set5 hR.out a b c d o)
    go_wp2
    clear f0 f1 f2 f3 f4 r0 r1 r2 r3 r4 e0 e1 e2 e3 e4
    rw [← set5]
    generalize set5 _ w.heap.size a b c d o = w2 at *
    obtain ⟨q0, q1, q2, q3, q4⟩ := sb_cells hR2.out
    refine bodyPost_ret (v := Stp a b c d o) (by simp [results, Tryz.results154, go_sem, Stp, q0, q1, q2, q3, q4]) rfl ⟨a, b, c, d, o, rfl, hSeen, hn2.out⟩

set_option maxHeartbeats 2000000 in
set_option maxRecDepth 100000 in
theorem foresee_more (v1 v2 : Value) (X Y : Nat) (hYX : Y ≤ X) (hl2 : 2 ≤ (digs X).length) (hl : (digs X).length ≤ 80000) (w : World) (h1 : Rd .u64 w v1 (digs X)) (h2 : Rd .u64 w v2 (digs Y)) :
    Calls Tryz.prog 154 #[v1, v2] w fun e w' => ∃ (a b c d : Nat) (o : Bool), e = .returned (Stp a b c d o) ∧ Hid (Seen X Y a b c d o) ∧ Below w.heap.size w w' := by
  obtain ⟨n, hn⟩ : ∃ n, n = (digs X).length := ⟨_, rfl⟩
  have hlY : (digs Y).length ≤ n := by rw [hn]; exact digs_length_mono hYX
  have hX := digs_lt X
  have hY := digs_lt Y
  have hw0 := (Below.refl w.heap.size w).alloc (Nat.le_refl _) (.cells #[.int .u64 0, .int .u64 0, .int .u64 0, .int .u64 0, .bool false] 119)
  have HR1 := Lib.hid (h1.below hw0)
  have HR2 := Lib.hid (h2.below hw0)
  obtain ⟨b1, o1, c1, rfl, _, _, hb1, r1⟩ := rd_pos h1 (by omega)
  obtain ⟨h, hh⟩ : ∃ h, h = (digs X).getD (n - 1) 0 := ⟨_, rfl⟩
  have hne : digs X ≠ [] := by intro e; rw [e] at hl2; simp at hl2
  have hh1 : 1 ≤ h := by
    have := digs_last X hne
    have e : (digs X).getD (n - 1) 0 = (digs X).getLast hne := by
      rw [List.getLast_eq_getElem, List.getD_eq_getElem?_getD, List.getElem?_eq_getElem (by omega)]
      simp [hn]
    rw [hh, e]; omega
  have hhB : h < BB := by rw [hh]; exact getD_lt hX _
  have hc := r1 (n - 1) (by omega)
  rw [← hh] at hc
  rw [← hn] at hl2 hl HR1 ⊢
  have HN := Lib.hid hn
  have HH := Lib.hid hh
  have HHB := Lib.hid hhB
  have HYX := Lib.hid hYX
  have HLY := Lib.hid hlY
  have HX := Lib.hid hX
  have HY := Lib.hid hY
  have HZ0 := Lib.hid (sb_new w 0 0 0 0 false)
  have HW0 := Lib.hid hw0
  clear hn hh hhB hYX hlY hX hY hw0 r1 hne h1 h2
  go_enter Tryz.func154, Tryz.ntmps154
  go_wp2
  go_loop [7] (fun t => ∃ s : Nat, t = .int .u64 (s : Int) ∧ s ≤ 1000000000 ∧ Hid (Ten s) ∧ Hid (h * s < BB)) (fun t => scM t)
  case atStart => exact ⟨1, rfl, by omega, Ten.one, by show h * 1 < BB; rw [Nat.mul_one]; exact HHB.out⟩
  case round =>
    obtain ⟨s, rfl, hs9, hT, hB⟩ := hrel
    obtain ⟨p, hp⟩ : ∃ p : Nat, p = h * s := ⟨_, rfl⟩
    have hpB : p < 1000000000 := by have := hB.out; rw [BB_eq] at this; omega
    have e1 : (h : Int) * (s : Int) = (p : Int) := by rw [hp, Int.natCast_mul]
    have v1 : IntKind.u64.wrap (p : Int) = (p : Int) := IntWalk.u64_in _ (by omega)
    have v2' : IntKind.u64.wrap ((p : Int) * 10) = (p : Int) * 10 := IntWalk.u64_in _ (by omega)
    have v3 : IntKind.u64.wrap ((s : Int) * 10) = (s : Int) * 10 := IntWalk.u64_in _ (by omega)
    have hs1 := hT.out.pos
    have hsp : s ≤ p := by
      have : 1 * s ≤ h * s := Nat.mul_le_mul_right _ hh1
      omega
    have HP := Lib.hid hp
    clear hp
    by_cases hlt : p * 10 < 1000000000
    · have hd : decide ((p : Int) * 10 < 1000000000) = true := decide_eq_true (by omega)
      have HLT := Lib.hid hlt
      have hs10 : s ≤ 100000000 := by omega
      clear hlt hpB hs9
      go_wp2
      go_round
      case rel => exact ⟨s * 10, by go_num, by omega, hT.out.step hh1 (by rw [← HP.out, BB_eq]; exact HLT.out), by show h * (s * 10) < BB; rw [← Nat.mul_assoc, ← HP.out, BB_eq]; exact HLT.out⟩
      case measure => unfold scM; simp only [intOf]; omega
    · have hd : decide ((p : Int) * 10 < 1000000000) = false := decide_eq_false (by omega)
      obtain ⟨t, ht, hst⟩ := hT.out.room
      have hB' := hB.out
      have hBY : (digs Y).getD (n - 1) 0 * s < BB := by
        have := topWord_le (digs X) (digs Y) HX.out n (by omega) (by rw [← HN.out]; exact Nat.le_refl _) HLY.out (by rw [wval_digs, wval_digs]; exact HYX.out)
        rw [← HH.out] at this
        exact Nat.lt_of_le_of_lt (Nat.mul_le_mul_right _ this) hB'
      rw [HH.out] at hB'
      have L1 := Lib.hid (leading_any _ (digs X) n s t hl2 (by omega) (by rw [← HN.out]; omega) HX.out hst hs1 hB' _ HR1.out)
      have L2 := Lib.hid (leading_any v2 (digs Y) n s t hl2 (by omega) (by have := HLY.out; omega) HY.out hst hs1 hBY _ HR2.out)
      have hlt1 : lead (digs X) n s < 1000000000000000000 := by
        have := lead_lt (getD_lt HX.out (n - 2)) (l := third (digs X) n) (by unfold third; split; exact getD_lt HX.out _; exact BB_pos) hst hs1 hB'
        rw [BB_eq] at this
        unfold lead
        rw [BB_eq]
        exact this
      have SS := Lib.hid (fun W => sureSteps_any _ _ hlt1 (lead_mono hl2 HN.out.symm HYX.out hst hs1 ht) W)
      unfold Stp at SS
      have hseen := Lib.hid (fun a b c d o (h : SureI (lead (digs X) n s) (lead (digs Y) n s) a b c d o) => seen_more hl2 HN.out.symm HYX.out hst hs1 ht hB' h)
      clear hst ht hB' hBY hlt1 hlt hpB hs9
      generalize lead (digs X) n s = l1 at *
      generalize lead (digs Y) n s = l2 at *
      go_wp2_with fail
      refine L1.out.mono ?_
      rintro e w' ⟨rfl, rfl⟩
      go_wp2_with fail
      refine L2.out.mono ?_
      rintro e w' ⟨rfl, rfl⟩
      go_wp2_with fail
      refine (SS.out _).mono ?_
      rintro e w1 ⟨a, b, c, d, o, rfl, hsu, hb1⟩
      have hSeen := Lib.hid (hseen.out a b c d o hsu.out)
      have hR := sb_below HZ0.out hb1
      have f0 := sb_free hR 0
      have f1 := sb_free hR 1
      have f2 := sb_free hR 2
      have f3 := sb_free hR 3
      have f4 := sb_free hR 4
      obtain ⟨r0, r1, r2, r3, r4⟩ := sb_cells hR
      have hn2 := Lib.hid (below_set5 (HW0.out.trans (hb1.mono HW0.out.size)) (g := w.heap.size) (Nat.le_refl _) a b c d o)
      have hR2 := Lib.hid (sb_set5 hR a b c d o)
      clear hR hb1 hsu
      go_wp2
      clear f0 f1 f2 f3 f4 r0 r1 r2 r3 r4
      rw [← set5]
      generalize set5 _ w.heap.size a b c d o = w2 at *
      obtain ⟨q0, q1, q2, q3, q4⟩ := sb_cells hR2.out
      refine bodyPost_ret (v := Stp a b c d o) (by simp [results, Tryz.results154, go_sem, Stp, q0, q1, q2, q3, q4]) rfl ⟨a, b, c, d, o, rfl, hSeen, hn2.out⟩

theorem foresee_any (v1 v2 : Value) (X Y : Nat) (h0 : Y ≠ 0) (hYX : Y ≤ X) (hl : (digs X).length ≤ 80000) (w : World) (h1 : Rd .u64 w v1 (digs X)) (h2 : Rd .u64 w v2 (digs Y)) :
    Calls Tryz.prog 154 #[v1, v2] w fun e w' => ∃ (a b c d : Nat) (o : Bool), e = .returned (Stp a b c d o) ∧ Hid (Seen X Y a b c d o) ∧ Below w.heap.size w w' := by
  by_cases h : 2 ≤ (digs X).length
  · exact foresee_more v1 v2 X Y hYX h hl w h1 h2
  · refine foresee_one v1 v2 X Y h0 hYX ?_ w h1 h2
    have : digs X ≠ [] := by
      intro e
      have := wval_digs X
      rw [e] at this
      simp [wval] at this
      omega
    have := List.length_pos_iff.2 this
    omega

end Go.Proofs.YtpdchplppkfdhaaGreatDoor
/- The state of Euclid's algorithm; (*euclid).divide: walks. -/
namespace Go.Proofs.YtpdchplppkfdhaaGreatDoor
open Go.RowKit Go.Gb

/-- Block g holds the state. -/
def Eb (w : World) (g : Nat) (vf vs vp vq : Value) (n : Bool) : Prop := w.heap[g]? = some (.cells #[vf, vs, vp, vq, .bool n] 125 (0, 0))
theorem Eb.lt {w : World} {g : Nat} {vf vs vp vq : Value} {n : Bool} (h : Eb w g vf vs vp vq n) : g < w.heap.size := (Array.getElem?_eq_some_iff.1 h).1
theorem Eb.cells {w : World} {g : Nat} {vf vs vp vq : Value} {n : Bool} (h : Eb w g vf vs vp vq n) : w.cell? ⟨g, 0, none⟩ = some vf ∧ w.cell? ⟨g, 1, none⟩ = some vs ∧ w.cell? ⟨g, 2, none⟩ = some vp ∧ w.cell? ⟨g, 3, none⟩ = some vq ∧ w.cell? ⟨g, 4, none⟩ = some (.bool n) := by
  unfold Eb at h
  refine ⟨?_, ?_, ?_, ?_, ?_⟩ <;> simp [World.cell?, h]
theorem Eb.free {w : World} {g : Nat} {vf vs vp vq : Value} {n : Bool} (h : Eb w g vf vs vp vq n) (i : Nat) : w.frozen? ⟨g, i, none⟩ = false := by
  unfold Eb at h
  simp only [World.frozen?, h]
  simp
theorem Eb.kp {w w' : World} {g : Nat} {vf vs vp vq : Value} {n : Bool} (h : Eb w g vf vs vp vq n) {S : Nat → Prop} (hk : Kp S w w') (hn : ¬ S g) : Eb w' g vf vs vp vq n := by
  unfold Eb at *
  rw [hk.block g (Array.getElem?_eq_some_iff.1 h).1 hn]
  exact h
theorem Eb.below {w w' : World} {g : Nat} {vf vs vp vq : Value} {n : Bool} (h : Eb w g vf vs vp vq n) (hb : Below w.heap.size w w') : Eb w' g vf vs vp vq n := h.kp (S := fun _ => False) (Kp.of_below hb) (fun h => h)
theorem Eb.set01 {w : World} {g : Nat} {vf vs vp vq : Value} {n : Bool} (h : Eb w g vf vs vp vq n) (a b : Value) : Eb ((w.setCell ⟨g, 0, none⟩ a).setCell ⟨g, 1, none⟩ b) g a b vp vq n := by
  unfold Eb at *
  simp only [World.setCell, Array.getElem?_modify, h]
  simp
theorem Eb.set23 {w : World} {g : Nat} {vf vs vp vq : Value} {n : Bool} (h : Eb w g vf vs vp vq n) (a b : Value) : Eb ((w.setCell ⟨g, 2, none⟩ a).setCell ⟨g, 3, none⟩ b) g vf vs a b n := by
  unfold Eb at *
  simp only [World.setCell, Array.getElem?_modify, h]
  simp
theorem Eb.set4 {w : World} {g : Nat} {vf vs vp vq : Value} {n : Bool} (h : Eb w g vf vs vp vq n) (m : Bool) : Eb (w.setCell ⟨g, 4, none⟩ (.bool m)) g vf vs vp vq m := by
  unfold Eb at *
  simp only [World.setCell, Array.getElem?_modify, h]
  simp
/-- The state lies in no row. -/
theorem Eb.apart {w : World} {g B : Nat} {vf vs vp vq v : Value} {n : Bool} {xs : List Nat} (h : Eb w g vf vs vp vq n) (ho : Own .u64 44 B w v xs) : ¬ At v g := by
  intro hg
  obtain ⟨_, h2⟩ := ho
  rcases h2 with ⟨rfl, _⟩ | ⟨k, cap, cur, rfl, _, hh, _⟩
  · exact at_nil _ _ _ hg
  · rw [at_some] at hg
    subst hg
    unfold Eb at h
    rw [h] at hh
    injection hh with hh
    injection hh with e1 e2 e3
    exact absurd e2 (by decide)

/-- What the state holds: two remainders and the sizes of their factors, in rows that lie apart. -/
structure St4 (B : Nat) (w : World) (vf vs vp vq : Value) (F S P Q : Nat) : Prop where
  f : Own .u64 44 B w vf (digs F)
  s : Own .u64 44 B w vs (digs S)
  p : Own .u64 44 B w vp (digs P)
  q : Own .u64 44 B w vq (digs Q)
  fs : Apt vf vs
  fp : Apt vf vp
  fq : Apt vf vq
  sp : Apt vs vp
  sq : Apt vs vq
  pq : Apt vp vq
theorem St4.below {B : Nat} {w w' : World} {vf vs vp vq : Value} {F S P Q : Nat} (h : St4 B w vf vs vp vq F S P Q) (hb : Below w.heap.size w w') : St4 B w' vf vs vp vq F S P Q :=
  ⟨h.f.below hb, h.s.below hb, h.p.below hb, h.q.below hb, h.fs, h.fp, h.fq, h.sp, h.sq, h.pq⟩
theorem St4.kp {B : Nat} {w w' : World} {vf vs vp vq : Value} {F S P Q : Nat} (h : St4 B w vf vs vp vq F S P Q) {Z : Nat → Prop} (hk : Kp Z w w') (hn : ∀ g, (At vf g ∨ At vs g ∨ At vp g ∨ At vq g) → ¬ Z g) : St4 B w' vf vs vp vq F S P Q :=
  ⟨h.f.kp hk (fun g hg => hn g (Or.inl hg)), h.s.kp hk (fun g hg => hn g (Or.inr (Or.inl hg))), h.p.kp hk (fun g hg => hn g (Or.inr (Or.inr (Or.inl hg)))), h.q.kp hk (fun g hg => hn g (Or.inr (Or.inr (Or.inr hg)))), h.fs, h.fp, h.fq, h.sp, h.sq, h.pq⟩
theorem kp_set {w : World} (g i : Nat) (u : Value) : Kp (fun k => k = g) w (w.setCell ⟨g, i, none⟩ u) := (Kp.refl (fun k => k = g) w).set (p := ⟨g, i, none⟩) (fun _ => rfl) u

def EuSt (B : Nat) (w : World) (g F S P Q : Nat) (n : Bool) : Prop := ∃ vf vs vp vq, Eb w g vf vs vp vq n ∧ B ≤ g ∧ St4 B w vf vs vp vq F S P Q

theorem own_fresh {k : IntKind} {T : TypeId} {w0 w : World} {v : Value} {xs : List Nat} (h : Own k T w0.heap.size w v xs) (u : Value) (hu : ∀ g, At u g → g < w0.heap.size) : Apt v u := Apt.fresh h.fresh hu

set_option maxHeartbeats 4000000 in
set_option maxRecDepth 100000 in
theorem eDivide (B g F S P Q : Nat) (n : Bool) (hS0 : S ≠ 0) (hlF : (digs F).length ≤ 80000) (hlP : (digs P).length ≤ 80000) (hlQ : (digs Q).length ≤ 80000) (hlN : (digs (P + F / S * Q)).length ≤ 80000) (w : World) (h : EuSt B w g F S P Q n) (hB : B ≤ w.heap.size) :
    Calls Tryz.prog 153 #[.pointer (some ⟨g, 0, none⟩)] w fun e w' => e = .returned (.tuple #[]) ∧ Hid (EuSt B w' g S (F % S) Q (P + F / S * Q) (!n)) ∧ Below B w w' := by
  obtain ⟨vf, vs, vp, vq, hE, hBg, h4⟩ := h
  obtain ⟨as_, cs_, rfl⟩ := rd_form h4.s.rd
  obtain ⟨aq, cq, rfl⟩ := rd_form h4.q.rd
  have HDv := Lib.hid (Divide_any vf (.slice as_ (digs S).length cs_) F S hS0 (by omega) w.drew h4.f.rd h4.s.rd)
  obtain ⟨D, hD⟩ : ∃ D, D = F / S := ⟨_, rfl⟩
  obtain ⟨R, hR⟩ : ∃ R, R = F % S := ⟨_, rfl⟩
  rw [← hD, ← hR] at HDv
  rw [← hD] at hlN
  rw [← hD, ← hR]
  have hlD : (digs D).length ≤ 80000 := by
    rw [hD]
    exact Nat.le_trans (digs_length_mono (Nat.div_le_self F S)) hlF
  have hlX : (digs (D * Q)).length ≤ 80000 := Nat.le_trans (digs_length_mono (Nat.le_add_left _ _)) hlN
  have HE := Lib.hid hE
  have H4 := Lib.hid h4
  have HB := Lib.hid hB
  have HBg := Lib.hid hBg
  obtain ⟨c0, c1, c2, c3, c4⟩ := hE.cells
  clear hD hR hE h4 hB hBg hS0 hlF
  go_enter Tryz.func153, Tryz.ntmps153
  go_upto_region 0 with fail
  go_cut [2, 3] (fun v2 v3 wx => ∃ qv rv : Value, v2 = qv ∧ v3 = rv ∧ Hid (Own .u64 44 w.heap.size wx qv (digs D)) ∧ Hid (Own .u64 44 w.heap.size wx rv (digs R)) ∧ Hid (Below w.heap.size w wx))
  case first =>
    go_region_with (go_at_call 71; go_must (refine HDv.out.mono ?_; rintro e w1 ⟨qv, rv, rfl, hq, hr, hb1⟩))
    all_goals
      have HQ := Lib.hid (show Own .u64 44 w.heap.size w1 qv (digs D) from hq)
      have HR := Lib.hid (show Own .u64 44 w.heap.size w1 rv (digs R) from hr)
      have HB1 := Lib.hid (show Below w.heap.size w w1 from (Below.refl _ w).drew.trans hb1)
      clear hq hr hb1
      go_wp2_with fail
      go_meet
      exact ⟨qv, rv, rfl, rfl, HQ, HR, HB1⟩
  case rest =>
    obtain ⟨_, _, rfl, rfl, hq, hr, hb⟩ := hcut
    obtain ⟨ar, cr, rfl⟩ := rd_form hr.out.rd
    clear c0 c1 c2 c3 c4
    have hE1 := HE.out.below hb.out
    obtain ⟨c0, c1, c2, c3, c4⟩ := hE1.cells
    have f0 := hE1.free 0
    have f1 := hE1.free 1
    have HE2 := Lib.hid (hE1.set01 (.slice as_ (digs S).length cs_) (.slice ar (digs R).length cr))
    have K2 := Lib.hid (show Kp (fun k => k = g) wc ((wc.setCell ⟨g, 0, none⟩ (.slice as_ (digs S).length cs_)).setCell ⟨g, 1, none⟩ (.slice ar (digs R).length cr)) from (kp_set g 0 (.slice as_ (digs S).length cs_)).trans (kp_set g 1 (.slice ar (digs R).length cr)) (fun _ _ h => h))
    have HE1 := Lib.hid hE1
    clear hE1
    go_upto_region 2 with fail
    clear c0 c1 c2 c3 c4 f0 f1
    generalize (wc.setCell ⟨g, 0, none⟩ (.slice as_ (digs S).length cs_)).setCell ⟨g, 1, none⟩ (.slice ar (digs R).length cr) = w2 at *
    have L := H4.out
    have hBw := HB.out
    have hBg := HBg.out
    have Lc := L.below hb.out
    have R1 := hr.out.mono hBw
    have D1 := hq.out.mono hBw
    have nvs : ¬ At (.slice as_ (digs S).length cs_) g := HE.out.apart L.s
    have nvp : ¬ At vp g := HE.out.apart L.p
    have nvq : ¬ At (.slice aq (digs Q).length cq) g := HE.out.apart L.q
    have nu3 : ¬ At (.slice ar (digs R).length cr) g := HE1.out.apart R1
    have nu2 : ¬ At u2 g := HE1.out.apart D1
    have S2 := Lc.s.kp K2.out (fun k hk e => nvs (e ▸ hk))
    have P2 := Lc.p.kp K2.out (fun k hk e => nvp (e ▸ hk))
    have Q2 := Lc.q.kp K2.out (fun k hk e => nvq (e ▸ hk))
    have R2 := R1.kp K2.out (fun k hk e => nu3 (e ▸ hk))
    have D2 := D1.kp K2.out (fun k hk e => nu2 (e ▸ hk))
    have A1 : Apt (.slice ar (digs R).length cr) (.slice as_ (digs S).length cs_) := own_fresh hr.out (.slice as_ (digs S).length cs_) (fun k hk => (L.s.at hk).2)
    have A2 : Apt (.slice ar (digs R).length cr) vp := own_fresh hr.out vp (fun k hk => (L.p.at hk).2)
    have A3 : Apt (.slice ar (digs R).length cr) (.slice aq (digs Q).length cq) := own_fresh hr.out (.slice aq (digs Q).length cq) (fun k hk => (L.q.at hk).2)
    have b1 : B ≤ wc.heap.size := Nat.le_trans hBw hb.out.size
    have b2 : B ≤ w2.heap.size := Nat.le_trans b1 K2.out.size
    have HM := Lib.hid (Multiply_any u2 (.slice aq (digs Q).length cq) D Q (by omega) (by omega) w2 D2.rd Q2.rd)
    have HBl2 := Lib.hid (show Below B w w2 from (hb.out.mono hBw).trans (K2.out.below b1 (fun k e => e ▸ hBg)))
    have HS2 := Lib.hid S2
    have HP2 := Lib.hid P2
    have HQ2 := Lib.hid Q2
    have HR2 := Lib.hid R2
    have HA1 := Lib.hid A1
    have HA2 := Lib.hid A2
    have HA3 := Lib.hid A3
    have HL := Lib.hid L
    have Hb2 := Lib.hid b2
    clear Lc L R1 D1 nvs nvp nvq nu3 nu2 S2 P2 Q2 R2 D2 A1 A2 A3 b1 b2 hBw hBg
    obtain ⟨c0, c1, c2, c3, c4⟩ := HE2.out.cells
    go_wp2_with fail
    refine HM.out.mono ?_
    rintro e w3 ⟨pv, rfl, hpv, hb3⟩
    clear c0 c1 c2 c3 c4
    have E3 := HE2.out.below hb3
    have S3 := HS2.out.below hb3
    have P3 := HP2.out.below hb3
    have Q3 := HQ2.out.below hb3
    have R3 := HR2.out.below hb3
    have X3 := hpv.mono Hb2.out
    have A4 : Apt pv vp := own_fresh hpv vp (fun k hk => (HP2.out.at hk).2)
    have A5 : Apt pv (.slice as_ (digs S).length cs_) := own_fresh hpv (.slice as_ (digs S).length cs_) (fun k hk => (HS2.out.at hk).2)
    have A6 : Apt pv (.slice aq (digs Q).length cq) := own_fresh hpv (.slice aq (digs Q).length cq) (fun k hk => (HQ2.out.at hk).2)
    have A7 : Apt pv (.slice ar (digs R).length cr) := own_fresh hpv (.slice ar (digs R).length cr) (fun k hk => (HR2.out.at hk).2)
    have b3 : B ≤ w3.heap.size := Nat.le_trans Hb2.out hb3.size
    have HBL := Lib.hid (blend_any B vp pv (digs P) (digs (D * Q)) 1 1 0 0 (P + D * Q) 0 w3 (by decide) (by decide) (by decide) (by decide) (by decide) (by decide) (by decide) (by decide)
      (digs_lt _) (digs_lt _) (by omega) (by omega) (by rw [wval_digs, wval_digs, Int.one_mul, Int.one_mul, Int.natCast_add]) (by rw [Int.zero_mul, Int.zero_mul]; rfl) P3 X3 A4.symm b3)
    have HBl3 := Lib.hid (show Below B w w3 from HBl2.out.trans (hb3.mono Hb2.out))
    obtain ⟨c0, c1, c2, c3, c4⟩ := E3.cells
    have HE3 := Lib.hid E3
    have HS3 := Lib.hid S3
    have HP3 := Lib.hid P3
    have HQ3 := Lib.hid Q3
    have HR3 := Lib.hid R3
    have HX3 := Lib.hid X3
    have HA4 := Lib.hid A4
    have HA5 := Lib.hid A5
    have HA6 := Lib.hid A6
    have HA7 := Lib.hid A7
    have Hb3 := Lib.hid b3
    clear E3 S3 P3 Q3 R3 X3 A4 A5 A6 A7 b3 hpv hb3
    go_wp2_with fail
    refine HBL.out.mono ?_
    rintro e w4 ⟨n1, n2, rfl, h41, _, _, hno1, _, hk4⟩
    obtain ⟨an, cn, rfl⟩ := rd_form h41.rd
    clear c0 c1 c2 c3 c4
    have L := HL.out
    have hBg := HBg.out
    have E4 := HE3.out.kp hk4 (fun h => h.elim (HE3.out.apart HP3.out) (HE3.out.apart HX3.out))
    have S4 := HS3.out.kp hk4 (fun k hk h => h.elim (fun h => L.sp k hk h) (fun h => HA5.out k h hk))
    have Q4 := HQ3.out.kp hk4 (fun k hk h => h.elim (fun h => L.pq k h hk) (fun h => HA6.out k h hk))
    have R4 := HR3.out.kp hk4 (fun k hk h => h.elim (fun h => HA2.out k hk h) (fun h => HA7.out k h hk))
    have T1 : Apt (.slice an (digs (P + D * Q)).length cn) (.slice as_ (digs S).length cs_) := L.sp.symm.newOr hno1 (fun k hk => (HS3.out.at hk).2)
    have T2 : Apt (.slice an (digs (P + D * Q)).length cn) (.slice aq (digs Q).length cq) := L.pq.newOr hno1 (fun k hk => (HQ3.out.at hk).2)
    have T3 : Apt (.slice an (digs (P + D * Q)).length cn) (.slice ar (digs R).length cr) := HA2.out.symm.newOr hno1 (fun k hk => (HR3.out.at hk).2)
    have HBl4 := Lib.hid (show Below B w w4 from HBl3.out.trans (hk4.below Hb3.out (fun k h => h.elim (fun h => (HP3.out.at h).1) (fun h => (HX3.out.at h).1))))
    have b4 : B ≤ w4.heap.size := Nat.le_trans Hb3.out hk4.size
    obtain ⟨c0, c1, c2, c3, c4⟩ := E4.cells
    have f2 := E4.free 2
    have f3 := E4.free 3
    have HE5 := Lib.hid (E4.set23 (.slice aq (digs Q).length cq) (.slice an (digs (P + D * Q)).length cn))
    have K5 := Lib.hid (show Kp (fun k => k = g) w4 ((w4.setCell ⟨g, 2, none⟩ (.slice aq (digs Q).length cq)).setCell ⟨g, 3, none⟩ (.slice an (digs (P + D * Q)).length cn)) from (kp_set g 2 (.slice aq (digs Q).length cq)).trans (kp_set g 3 (.slice an (digs (P + D * Q)).length cn)) (fun _ _ h => h))
    have HE4 := Lib.hid E4
    have HS4 := Lib.hid S4
    have HQ4 := Lib.hid Q4
    have HR4 := Lib.hid R4
    have HN4 := Lib.hid h41
    have HT1 := Lib.hid T1
    have HT2 := Lib.hid T2
    have HT3 := Lib.hid T3
    have Hb4 := Lib.hid b4
    clear L hBg E4 S4 Q4 R4 T1 T2 T3 b4 h41 hno1 hk4
    go_upto_region 5 with fail
    clear c0 c1 c2 c3 c4 f2 f3
    generalize (w4.setCell ⟨g, 2, none⟩ (.slice aq (digs Q).length cq)).setCell ⟨g, 3, none⟩ (.slice an (digs (P + D * Q)).length cn) = w5 at *
    obtain ⟨c0, c1, c2, c3, c4⟩ := HE5.out.cells
    have f4 := HE5.out.free 4
    go_wp2
    go_end0
    have L := HL.out
    have K6 : Kp (fun k => k = g) w4 (w5.setCell ⟨g, 4, none⟩ (.bool (!n))) := K5.out.trans (kp_set g 4 (.bool (!n))) (fun _ _ h => h)
    refine ⟨rfl, ⟨(.slice as_ (digs S).length cs_), (.slice ar (digs R).length cr), (.slice aq (digs Q).length cq), (.slice an (digs (P + D * Q)).length cn), HE5.out.set4 (!n), HBg.out, ?_⟩, HBl4.out.trans (K6.below Hb4.out (fun k e => e ▸ HBg.out))⟩
    exact ⟨HS4.out.kp K6 (fun k hk e => HE4.out.apart HS4.out (e ▸ hk)), HR4.out.kp K6 (fun k hk e => HE4.out.apart HR4.out (e ▸ hk)), HQ4.out.kp K6 (fun k hk e => HE4.out.apart HQ4.out (e ▸ hk)), HN4.out.kp K6 (fun k hk e => HE4.out.apart HN4.out (e ▸ hk)),
      HA1.out.symm, L.sq, HT1.out.symm, HA3.out, HT3.out.symm, HT2.out.symm⟩

end Go.Proofs.YtpdchplppkfdhaaGreatDoor
/- (*euclid).apply: walks. -/
namespace Go.Proofs.YtpdchplppkfdhaaGreatDoor
open Go.RowKit Go.Gb

theorem Kp.undrew {S : Nat → Prop} {a b : World} (h : Kp S a.drew b) : Kp S a b := ⟨h.os, h.tape, h.output, h.size, h.block⟩
theorem eb_not_sb {w : World} {g k a b c d : Nat} {o n : Bool} {vf vs vp vq : Value} (h : Eb w g vf vs vp vq n) (hs : Sb w k a b c d o) : g ≠ k := by
  intro e
  subst e
  unfold Eb at h
  unfold Sb at hs
  rw [h] at hs
  injection hs with hs
  injection hs with e1 e2 e3
  exact absurd e2 (by decide)
theorem sb_kp {w w' : World} {k a b c d : Nat} {o : Bool} (hs : Sb w k a b c d o) {Z : Nat → Prop} (hk : Kp Z w w') (hn : ¬ Z k) : Sb w' k a b c d o := by
  unfold Sb at *
  rw [hk.block k (Array.getElem?_eq_some_iff.1 hs).1 hn]
  exact hs
theorem sb_apart {w : World} {k a b c d B : Nat} {o : Bool} {v : Value} {xs : List Nat} (h : Sb w k a b c d o) (ho : Own .u64 44 B w v xs) : ¬ At v k := by
  intro hg
  obtain ⟨_, h2⟩ := ho
  rcases h2 with ⟨rfl, _⟩ | ⟨j, cap, cur, rfl, _, hh, _⟩
  · exact at_nil _ _ _ hg
  · rw [at_some] at hg
    subst hg
    unfold Sb at h
    rw [h] at hh
    injection hh with hh
    injection hh with e1 e2 e3
    exact absurd e2 (by decide)
/-- The factors after a blend of their rows. -/
theorem St4.blendPQ {B g k : Nat} {w w' : World} {vf vs vp vq u1 u2 : Value} {F S P Q P' Q' a b c d : Nat} {n o : Bool} (L : St4 B w vf vs vp vq F S P Q) (E : Eb w g vf vs vp vq n) (K : Sb w k a b c d o) (hB : B ≤ w.heap.size)
    (o1 : Own .u64 44 B w' u1 (digs P')) (o2 : Own .u64 44 B w' u2 (digs Q')) (ap : Apt u1 u2) (n1 : NewOr w vp u1) (n2 : NewOr w vq u2) (hk : Kp (fun g => At vp g ∨ At vq g) w w') :
    St4 B w' vf vs u1 u2 F S P' Q' ∧ Eb w' g vf vs vp vq n ∧ Sb w' k a b c d o ∧ Below B w w' :=
  ⟨⟨L.f.kp hk (fun _ h1 h2 => h2.elim (L.fp _ h1) (L.fq _ h1)), L.s.kp hk (fun _ h1 h2 => h2.elim (L.sp _ h1) (L.sq _ h1)), o1, o2, L.fs, (L.fp.symm.newOr n1 (fun _ h => (L.f.at h).2)).symm, (L.fq.symm.newOr n2 (fun _ h => (L.f.at h).2)).symm,
    (L.sp.symm.newOr n1 (fun _ h => (L.s.at h).2)).symm, (L.sq.symm.newOr n2 (fun _ h => (L.s.at h).2)).symm, ap⟩,
   E.kp hk (fun h => h.elim (E.apart L.p) (E.apart L.q)), sb_kp K hk (fun h => h.elim (sb_apart K L.p) (sb_apart K L.q)), hk.below hB (fun _ h => h.elim (fun h => (L.p.at h).1) (fun h => (L.q.at h).1))⟩
/-- The remainders after a blend of their rows. -/
theorem St4.blendFS {B g k : Nat} {w w' : World} {vf vs vp vq u1 u2 : Value} {F S P Q F' S' a b c d : Nat} {n o : Bool} (L : St4 B w vf vs vp vq F S P Q) (E : Eb w g vf vs vp vq n) (K : Sb w k a b c d o) (hB : B ≤ w.heap.size)
    (o1 : Own .u64 44 B w' u1 (digs F')) (o2 : Own .u64 44 B w' u2 (digs S')) (ap : Apt u1 u2) (n1 : NewOr w vf u1) (n2 : NewOr w vs u2) (hk : Kp (fun g => At vf g ∨ At vs g) w w') :
    St4 B w' u1 u2 vp vq F' S' P Q ∧ Eb w' g vf vs vp vq n ∧ Sb w' k a b c d o ∧ Below B w w' :=
  ⟨⟨o1, o2, L.p.kp hk (fun _ h1 h2 => h2.elim (fun h => L.fp _ h h1) (fun h => L.sp _ h h1)), L.q.kp hk (fun _ h1 h2 => h2.elim (fun h => L.fq _ h h1) (fun h => L.sq _ h h1)), ap, L.fp.newOr n1 (fun _ h => (L.p.at h).2), L.fq.newOr n1 (fun _ h => (L.q.at h).2),
    L.sp.newOr n2 (fun _ h => (L.p.at h).2), L.sq.newOr n2 (fun _ h => (L.q.at h).2), L.pq⟩,
   E.kp hk (fun h => h.elim (E.apart L.f) (E.apart L.s)), sb_kp K hk (fun h => h.elim (sb_apart K L.f) (sb_apart K L.s)), hk.below hB (fun _ h => h.elim (fun h => (L.f.at h).1) (fun h => (L.s.at h).1))⟩
/-- A store into the state. -/
theorem St4.stored {B g : Nat} {w w' : World} {vf vs vp vq wf ws wp wq : Value} {F S P Q : Nat} {n : Bool} (L : St4 B w vf vs vp vq F S P Q) (E : Eb w g wf ws wp wq n) (hk : Kp (fun k => k = g) w w') : St4 B w' vf vs vp vq F S P Q :=
  L.kp hk (fun _ h e => by subst e; exact h.elim (E.apart L.f) (fun h => h.elim (E.apart L.s) (fun h => h.elim (E.apart L.p) (E.apart L.q))))

set_option maxHeartbeats 4000000 in
set_option maxRecDepth 100000 in
theorem eApplyEven (B g F S P Q a b c d f s : Nat) (n : Bool) (hm : Made a b c d false F S f s) (hf : Fac a b c d) (hd9 : d ≤ 1000000000) (hlF : (digs F).length ≤ 80000) (hlS : (digs S).length ≤ 80000) (hlP : (digs P).length ≤ 80000) (hlQ : (digs Q).length ≤ 80000) (w : World) (h : EuSt B w g F S P Q n) (hB : B ≤ w.heap.size) :
    Calls Tryz.prog 155 #[.pointer (some ⟨g, 0, none⟩), .agg #[.int .u64 (a : Int), .int .u64 (b : Int), .int .u64 (c : Int), .int .u64 (d : Int), .bool false]] w fun e w' => e = .returned (.tuple #[]) ∧ Hid (EuSt B w' g f s (a * P + b * Q) (c * P + d * Q) (n != false)) ∧ Below B w w' := by
  obtain ⟨ha9, hb9, hc9⟩ := hf.le hd9 (by omega)
  obtain ⟨vf, vs, vp, vq, hE, hBg, h4⟩ := h
  obtain ⟨e1, e2⟩ := hm.even
  have HE1 := Lib.hid e1
  have HE2 := Lib.hid e2
  have HBg := Lib.hid hBg
  have HB := Lib.hid hB
  have hw0 := (Below.refl w.heap.size w).alloc (Nat.le_refl _) (.cells #[.int .u64 (a : Int), .int .u64 (b : Int), .int .u64 (c : Int), .int .u64 (d : Int), .bool false] 119)
  have HEb := Lib.hid (hE.below hw0)
  have H4 := Lib.hid (h4.below hw0)
  have HS := Lib.hid (sb_new w a b c d false)
  have HW := Lib.hid (hw0.mono hB)
  have HZ := Lib.hid (show B ≤ (w.alloc (.cells #[.int .u64 (a : Int), .int .u64 (b : Int), .int .u64 (c : Int), .int .u64 (d : Int), .bool false] 119)).heap.size by rw [World.size_alloc]; omega)
  clear hm hf e1 e2 hBg hB hw0 hE h4
  obtain ⟨s0, s1, s2, s3, s4⟩ := sb_cells HS.out
  obtain ⟨k, hk⟩ : ∃ k, k = w.heap.size := ⟨_, rfl⟩
  rw [← hk] at HS s0 s1 s2 s3 s4
  have HK := Lib.hid hk
  go_enter Tryz.func155, Tryz.ntmps155
  go_upto_region 1 with fail
  rw [← hk]
  clear hk
  generalize w.alloc (.cells #[.int .u64 (a : Int), .int .u64 (b : Int), .int .u64 (c : Int), .int .u64 (d : Int), .bool false] 119) = w0 at *
  go_wp2
  go_quiet (fail)
  have HEb := Lib.hid (show Eb (w0.drewN nq) g vf vs vp vq n from HEb.out)
  have H4 := Lib.hid (show St4 B (w0.drewN nq) vf vs vp vq F S P Q from H4.out.kp ((Kp.refl (fun _ => False) w0).drewN nq) (fun _ _ h => h))
  have HS := Lib.hid (show Sb (w0.drewN nq) k a b c d false from HS.out)
  have HW := Lib.hid (show Below B w (w0.drewN nq) from below_drewN' HW.out nq)
  have HZ := Lib.hid (show B ≤ (w0.drewN nq).heap.size from HZ.out)
  clear s0 s1 s2 s3 s4
  generalize w0.drewN nq = w1 at *
  have HBl := Lib.hid (blend_any B vp vq (digs P) (digs Q) a b c d (a * P + b * Q) (c * P + d * Q) w1.drew (by omega) (by omega) (by omega) (by omega) (by omega) (by omega) (by omega) (by omega)
    (digs_lt _) (digs_lt _) (by omega) (by omega) (by rw [wval_digs, wval_digs, Int.natCast_add, Int.natCast_mul, Int.natCast_mul]) (by rw [wval_digs, wval_digs, Int.natCast_add, Int.natCast_mul, Int.natCast_mul]) H4.out.p H4.out.q H4.out.pq HZ.out)
  obtain ⟨c0, c1, c2, c3, c4⟩ := HEb.out.cells
  go_upto_region 2 with fail
  go_cut [20] (fun _ wx => ∃ vp vq : Value, Hid (Eb wx g vf vs vp vq n) ∧ Hid (St4 B wx vf vs vp vq F S (a * P + b * Q) (c * P + d * Q)) ∧ Hid (Sb wx k a b c d false) ∧ Hid (Below B w wx))
  case first =>
    go_region_with (go_at_call 170; go_must (refine HBl.out.mono ?_; rintro e w2 ⟨u1, u2, rfl, o1, o2, ap, n1, n2, hk⟩; obtain ⟨r1, r2, r3, r4⟩ := H4.out.blendPQ HEb.out HS.out HZ.out o1 o2 ap n1 n2 (Kp.undrew hk); obtain ⟨x1, y1, rfl⟩ := rd_form o1.rd; obtain ⟨x2, y2, rfl⟩ := rd_form o2.rd; have R1 := Lib.hid r1; have R2 := Lib.hid r2; have R3 := Lib.hid r3; have R4 := Lib.hid r4; obtain ⟨d0, d1, d2, d3, d4⟩ := r2.cells; have f2 := r2.free 2; have f3 := r2.free 3; clear o1 o2 ap n1 n2 hk r1 r2 r3 r4))
    all_goals
      have K := (kp_set (w := w2) g 2 (.slice x1 (digs (a * P + b * Q)).length y1)).trans (kp_set g 3 (.slice x2 (digs (c * P + d * Q)).length y2)) (fun _ _ h => h)
      have E' := Lib.hid (R2.out.set23 (.slice x1 (digs (a * P + b * Q)).length y1) (.slice x2 (digs (c * P + d * Q)).length y2))
      have L' := Lib.hid (R1.out.stored R2.out K)
      have S' := Lib.hid (sb_kp R3.out K (fun e => eb_not_sb R2.out R3.out e.symm))
      have W' := Lib.hid (HW.out.trans (R4.out.trans (K.below (Nat.le_trans HZ.out R4.out.size) (fun _ e => e ▸ HBg.out))))
      clear d0 d1 d2 d3 d4 f2 f3 K
      go_wp2_with fail
      go_meet
      exact ⟨_, _, E', L', S', W'⟩
  case rest =>
    clear HEb H4 HS HW HZ c0 c1 c2 c3 c4 HBl
    obtain ⟨vp, vq, HEb, H4, HS, HW⟩ := hcut
    have HZ := Lib.hid (Nat.le_trans HB.out HW.out.size)
    have HBl := Lib.hid (blend_any B vf vs (digs F) (digs S) ((a : Int)) (-(b : Int)) (-(c : Int)) ((d : Int)) f s wc.drew (by omega) (by omega) (by omega) (by omega) (by omega) (by omega) (by omega) (by omega)
      (digs_lt _) (digs_lt _) (by omega) (by omega) (by rw [wval_digs, wval_digs]; exact HE1.out) (by rw [wval_digs, wval_digs]; exact HE2.out) H4.out.f H4.out.s H4.out.fs HZ.out)
    obtain ⟨c0, c1, c2, c3, c4⟩ := HEb.out.cells
    obtain ⟨s0, s1, s2, s3, s4⟩ := sb_cells HS.out
    have v1 : IntKind.i64.wrap (-(a : Int)) = -(a : Int) := IntWalk.i64_in _ (by omega)
    have v2 : IntKind.i64.wrap (-(b : Int)) = -(b : Int) := IntWalk.i64_in _ (by omega)
    have v3 : IntKind.i64.wrap (-(c : Int)) = -(c : Int) := IntWalk.i64_in _ (by omega)
    have v4 : IntKind.i64.wrap (-(d : Int)) = -(d : Int) := IntWalk.i64_in _ (by omega)
    have v5 : IntKind.i64.wrap (b : Int) = (b : Int) := IntWalk.i64_in _ (by omega)
    have v6 : IntKind.i64.wrap (c : Int) = (c : Int) := IntWalk.i64_in _ (by omega)
    go_upto_region 5 with fail
    go_cut [52] (fun _ wx => ∃ vf vs : Value, Hid (Eb wx g vf vs vp vq n) ∧ Hid (St4 B wx vf vs vp vq f s (a * P + b * Q) (c * P + d * Q)) ∧ Hid (Sb wx k a b c d false) ∧ Hid (Below B w wx))
    case first =>
      go_region_with (go_at_call 170; go_must (refine HBl.out.mono ?_; rintro e w2 ⟨u1, u2, rfl, o1, o2, ap, n1, n2, hk⟩; obtain ⟨r1, r2, r3, r4⟩ := H4.out.blendFS HEb.out HS.out HZ.out o1 o2 ap n1 n2 (Kp.undrew hk); obtain ⟨x1, y1, rfl⟩ := rd_form o1.rd; obtain ⟨x2, y2, rfl⟩ := rd_form o2.rd; have R1 := Lib.hid r1; have R2 := Lib.hid r2; have R3 := Lib.hid r3; have R4 := Lib.hid r4; obtain ⟨d0, d1, d2, d3, d4⟩ := r2.cells; have f0 := r2.free 0; have f1 := r2.free 1; clear o1 o2 ap n1 n2 hk r1 r2 r3 r4))
      all_goals
        have K := (kp_set (w := w2) g 0 (.slice x1 (digs f).length y1)).trans (kp_set g 1 (.slice x2 (digs s).length y2)) (fun _ _ h => h)
        have E' := Lib.hid (R2.out.set01 (.slice x1 (digs f).length y1) (.slice x2 (digs s).length y2))
        have L' := Lib.hid (R1.out.stored R2.out K)
        have S' := Lib.hid (sb_kp R3.out K (fun e => eb_not_sb R2.out R3.out e.symm))
        have W' := Lib.hid (HW.out.trans (R4.out.trans (K.below (Nat.le_trans HZ.out R4.out.size) (fun _ e => e ▸ HBg.out))))
        clear d0 d1 d2 d3 d4 f0 f1 K
        go_wp2_with fail
        go_meet
        exact ⟨_, _, E', L', S', W'⟩
    case rest =>
      clear HEb H4 HS HW HZ c0 c1 c2 c3 c4 HBl s0 s1 s2 s3 s4 v1 v2 v3 v4 v5 v6
      obtain ⟨vf, vs, HEb, H4, HS, HW⟩ := hcut
      obtain ⟨c0, c1, c2, c3, c4⟩ := HEb.out.cells
      obtain ⟨s0, s1, s2, s3, s4⟩ := sb_cells HS.out
      have f4 := HEb.out.free 4
      go_wp2
      go_region
      all_goals
        clear c0 c1 c2 c3 c4 s0 s1 s2 s3 s4 f4
        go_wp2
        go_end0
        have K : Kp (fun k => k = g) wc (wc.setCell ⟨g, 4, none⟩ (.bool n)).drew := (kp_set g 4 (.bool n)).drew
        refine ⟨rfl, ⟨vf, vs, vp, vq, ?_, HBg.out, H4.out.stored HEb.out K⟩, HW.out.trans (K.below (Nat.le_trans HB.out HW.out.size) (fun _ e => e ▸ HBg.out))⟩
        have E := HEb.out.set4 n
        have e : (n != false) = n := by cases n <;> rfl
        rw [e]
        exact E

end Go.Proofs.YtpdchplppkfdhaaGreatDoor
/- (*euclid).apply, for an odd number of steps: walks. -/
namespace Go.Proofs.YtpdchplppkfdhaaGreatDoor
open Go.RowKit Go.Gb

set_option maxHeartbeats 4000000 in
set_option maxRecDepth 100000 in
theorem eApplyOdd (B g F S P Q a b c d f s : Nat) (n : Bool) (hm : Made a b c d true F S f s) (hf : Fac a b c d) (hd9 : d ≤ 1000000000) (hlF : (digs F).length ≤ 80000) (hlS : (digs S).length ≤ 80000) (hlP : (digs P).length ≤ 80000) (hlQ : (digs Q).length ≤ 80000) (w : World) (h : EuSt B w g F S P Q n) (hB : B ≤ w.heap.size) :
    Calls Tryz.prog 155 #[.pointer (some ⟨g, 0, none⟩), .agg #[.int .u64 (a : Int), .int .u64 (b : Int), .int .u64 (c : Int), .int .u64 (d : Int), .bool true]] w fun e w' => e = .returned (.tuple #[]) ∧ Hid (EuSt B w' g f s (a * P + b * Q) (c * P + d * Q) (n != true)) ∧ Below B w w' := by
  obtain ⟨ha9, hb9, hc9⟩ := hf.le hd9 (by omega)
  obtain ⟨vf, vs, vp, vq, hE, hBg, h4⟩ := h
  obtain ⟨e1, e2⟩ := hm.odd
  have HE1 := Lib.hid e1
  have HE2 := Lib.hid e2
  have HBg := Lib.hid hBg
  have HB := Lib.hid hB
  have hw0 := (Below.refl w.heap.size w).alloc (Nat.le_refl _) (.cells #[.int .u64 (a : Int), .int .u64 (b : Int), .int .u64 (c : Int), .int .u64 (d : Int), .bool true] 119)
  have HEb := Lib.hid (hE.below hw0)
  have H4 := Lib.hid (h4.below hw0)
  have HS := Lib.hid (sb_new w a b c d true)
  have HW := Lib.hid (hw0.mono hB)
  have HZ := Lib.hid (show B ≤ (w.alloc (.cells #[.int .u64 (a : Int), .int .u64 (b : Int), .int .u64 (c : Int), .int .u64 (d : Int), .bool true] 119)).heap.size by rw [World.size_alloc]; omega)
  clear hm hf e1 e2 hBg hB hw0 hE h4
  obtain ⟨s0, s1, s2, s3, s4⟩ := sb_cells HS.out
  obtain ⟨k, hk⟩ : ∃ k, k = w.heap.size := ⟨_, rfl⟩
  rw [← hk] at HS s0 s1 s2 s3 s4
  have HK := Lib.hid hk
  go_enter Tryz.func155, Tryz.ntmps155
  go_upto_region 1 with fail
  rw [← hk]
  clear hk
  generalize w.alloc (.cells #[.int .u64 (a : Int), .int .u64 (b : Int), .int .u64 (c : Int), .int .u64 (d : Int), .bool true] 119) = w0 at *
  go_wp2
  go_quiet (fail)
  have HEb := Lib.hid (show Eb (w0.drewN nq) g vf vs vp vq n from HEb.out)
  have H4 := Lib.hid (show St4 B (w0.drewN nq) vf vs vp vq F S P Q from H4.out.kp ((Kp.refl (fun _ => False) w0).drewN nq) (fun _ _ h => h))
  have HS := Lib.hid (show Sb (w0.drewN nq) k a b c d true from HS.out)
  have HW := Lib.hid (show Below B w (w0.drewN nq) from below_drewN' HW.out nq)
  have HZ := Lib.hid (show B ≤ (w0.drewN nq).heap.size from HZ.out)
  clear s0 s1 s2 s3 s4
  generalize w0.drewN nq = w1 at *
  have HBl := Lib.hid (blend_any B vp vq (digs P) (digs Q) a b c d (a * P + b * Q) (c * P + d * Q) w1.drew (by omega) (by omega) (by omega) (by omega) (by omega) (by omega) (by omega) (by omega)
    (digs_lt _) (digs_lt _) (by omega) (by omega) (by rw [wval_digs, wval_digs, Int.natCast_add, Int.natCast_mul, Int.natCast_mul]) (by rw [wval_digs, wval_digs, Int.natCast_add, Int.natCast_mul, Int.natCast_mul]) H4.out.p H4.out.q H4.out.pq HZ.out)
  obtain ⟨c0, c1, c2, c3, c4⟩ := HEb.out.cells
  go_upto_region 2 with fail
  go_cut [20] (fun _ wx => ∃ vp vq : Value, Hid (Eb wx g vf vs vp vq n) ∧ Hid (St4 B wx vf vs vp vq F S (a * P + b * Q) (c * P + d * Q)) ∧ Hid (Sb wx k a b c d true) ∧ Hid (Below B w wx))
  case first =>
    go_region_with (go_at_call 170; go_must (refine HBl.out.mono ?_; rintro e w2 ⟨u1, u2, rfl, o1, o2, ap, n1, n2, hk⟩; obtain ⟨r1, r2, r3, r4⟩ := H4.out.blendPQ HEb.out HS.out HZ.out o1 o2 ap n1 n2 (Kp.undrew hk); obtain ⟨x1, y1, rfl⟩ := rd_form o1.rd; obtain ⟨x2, y2, rfl⟩ := rd_form o2.rd; have R1 := Lib.hid r1; have R2 := Lib.hid r2; have R3 := Lib.hid r3; have R4 := Lib.hid r4; obtain ⟨d0, d1, d2, d3, d4⟩ := r2.cells; have f2 := r2.free 2; have f3 := r2.free 3; clear o1 o2 ap n1 n2 hk r1 r2 r3 r4))
    all_goals
      have K := (kp_set (w := w2) g 2 (.slice x1 (digs (a * P + b * Q)).length y1)).trans (kp_set g 3 (.slice x2 (digs (c * P + d * Q)).length y2)) (fun _ _ h => h)
      have E' := Lib.hid (R2.out.set23 (.slice x1 (digs (a * P + b * Q)).length y1) (.slice x2 (digs (c * P + d * Q)).length y2))
      have L' := Lib.hid (R1.out.stored R2.out K)
      have S' := Lib.hid (sb_kp R3.out K (fun e => eb_not_sb R2.out R3.out e.symm))
      have W' := Lib.hid (HW.out.trans (R4.out.trans (K.below (Nat.le_trans HZ.out R4.out.size) (fun _ e => e ▸ HBg.out))))
      clear d0 d1 d2 d3 d4 f2 f3 K
      go_wp2_with fail
      go_meet
      exact ⟨_, _, E', L', S', W'⟩
  case rest =>
    clear HEb H4 HS HW HZ c0 c1 c2 c3 c4 HBl
    obtain ⟨vp, vq, HEb, H4, HS, HW⟩ := hcut
    have HZ := Lib.hid (Nat.le_trans HB.out HW.out.size)
    have HBl := Lib.hid (blend_any B vf vs (digs F) (digs S) (-(a : Int)) ((b : Int)) ((c : Int)) (-(d : Int)) f s wc.drew (by omega) (by omega) (by omega) (by omega) (by omega) (by omega) (by omega) (by omega)
      (digs_lt _) (digs_lt _) (by omega) (by omega) (by rw [wval_digs, wval_digs]; exact HE1.out) (by rw [wval_digs, wval_digs]; exact HE2.out) H4.out.f H4.out.s H4.out.fs HZ.out)
    obtain ⟨c0, c1, c2, c3, c4⟩ := HEb.out.cells
    obtain ⟨s0, s1, s2, s3, s4⟩ := sb_cells HS.out
    have v1 : IntKind.i64.wrap (-(a : Int)) = -(a : Int) := IntWalk.i64_in _ (by omega)
    have v2 : IntKind.i64.wrap (-(b : Int)) = -(b : Int) := IntWalk.i64_in _ (by omega)
    have v3 : IntKind.i64.wrap (-(c : Int)) = -(c : Int) := IntWalk.i64_in _ (by omega)
    have v4 : IntKind.i64.wrap (-(d : Int)) = -(d : Int) := IntWalk.i64_in _ (by omega)
    have v5 : IntKind.i64.wrap (b : Int) = (b : Int) := IntWalk.i64_in _ (by omega)
    have v6 : IntKind.i64.wrap (c : Int) = (c : Int) := IntWalk.i64_in _ (by omega)
    go_upto_region 5 with fail
    go_cut [52] (fun _ wx => ∃ vf vs : Value, Hid (Eb wx g vf vs vp vq n) ∧ Hid (St4 B wx vf vs vp vq f s (a * P + b * Q) (c * P + d * Q)) ∧ Hid (Sb wx k a b c d true) ∧ Hid (Below B w wx))
    case first =>
      go_region_with (go_at_call 170; go_must (refine HBl.out.mono ?_; rintro e w2 ⟨u1, u2, rfl, o1, o2, ap, n1, n2, hk⟩; obtain ⟨r1, r2, r3, r4⟩ := H4.out.blendFS HEb.out HS.out HZ.out o1 o2 ap n1 n2 (Kp.undrew hk); obtain ⟨x1, y1, rfl⟩ := rd_form o1.rd; obtain ⟨x2, y2, rfl⟩ := rd_form o2.rd; have R1 := Lib.hid r1; have R2 := Lib.hid r2; have R3 := Lib.hid r3; have R4 := Lib.hid r4; obtain ⟨d0, d1, d2, d3, d4⟩ := r2.cells; have f0 := r2.free 0; have f1 := r2.free 1; clear o1 o2 ap n1 n2 hk r1 r2 r3 r4))
      all_goals
        have K := (kp_set (w := w2) g 0 (.slice x1 (digs f).length y1)).trans (kp_set g 1 (.slice x2 (digs s).length y2)) (fun _ _ h => h)
        have E' := Lib.hid (R2.out.set01 (.slice x1 (digs f).length y1) (.slice x2 (digs s).length y2))
        have L' := Lib.hid (R1.out.stored R2.out K)
        have S' := Lib.hid (sb_kp R3.out K (fun e => eb_not_sb R2.out R3.out e.symm))
        have W' := Lib.hid (HW.out.trans (R4.out.trans (K.below (Nat.le_trans HZ.out R4.out.size) (fun _ e => e ▸ HBg.out))))
        clear d0 d1 d2 d3 d4 f0 f1 K
        go_wp2_with fail
        go_meet
        exact ⟨_, _, E', L', S', W'⟩
    case rest =>
      clear HEb H4 HS HW HZ c0 c1 c2 c3 c4 HBl s0 s1 s2 s3 s4 v1 v2 v3 v4 v5 v6
      obtain ⟨vf, vs, HEb, H4, HS, HW⟩ := hcut
      obtain ⟨c0, c1, c2, c3, c4⟩ := HEb.out.cells
      obtain ⟨s0, s1, s2, s3, s4⟩ := sb_cells HS.out
      have f4 := HEb.out.free 4
      go_wp2
      go_region
      all_goals
        clear c0 c1 c2 c3 c4 s0 s1 s2 s3 s4 f4
        go_wp2
        go_end0
        have K : Kp (fun k => k = g) wc (wc.setCell ⟨g, 4, none⟩ (.bool (!n))).drew := (kp_set g 4 (.bool (!n))).drew
        refine ⟨rfl, ⟨vf, vs, vp, vq, ?_, HBg.out, H4.out.stored HEb.out K⟩, HW.out.trans (K.below (Nat.le_trans HB.out HW.out.size) (fun _ e => e ▸ HBg.out))⟩
        have E := HEb.out.set4 (!n)
        have e : (n != true) = (!n) := by cases n <;> rfl
        rw [e]
        exact E

end Go.Proofs.YtpdchplppkfdhaaGreatDoor
/- (*euclid).run, words.Common: walks. -/
namespace Go.Proofs.YtpdchplppkfdhaaGreatDoor
open Go.RowKit Go.Gb

theorem eApply (B g F S P Q a b c d f s : Nat) (n o : Bool) (hm : Made a b c d o F S f s) (hf : Fac a b c d) (hd9 : d ≤ 1000000000) (hlF : (digs F).length ≤ 80000) (hlS : (digs S).length ≤ 80000) (hlP : (digs P).length ≤ 80000) (hlQ : (digs Q).length ≤ 80000) (w : World) (h : EuSt B w g F S P Q n) (hB : B ≤ w.heap.size) :
    Calls Tryz.prog 155 #[.pointer (some ⟨g, 0, none⟩), .agg #[.int .u64 (a : Int), .int .u64 (b : Int), .int .u64 (c : Int), .int .u64 (d : Int), .bool o]] w fun e w' => e = .returned (.tuple #[]) ∧ Hid (EuSt B w' g f s (a * P + b * Q) (c * P + d * Q) (n != o)) ∧ Below B w w' := by
  cases o with
  | false => exact eApplyEven B g F S P Q a b c d f s n hm hf hd9 hlF hlS hlP hlQ w h hB
  | true => exact eApplyOdd B g F S P Q a b c d f s n hm hf hd9 hlF hlS hlP hlQ w h hB

theorem EuSt.kp {B g F S P Q : Nat} {n : Bool} {w w' : World} (h : EuSt B w g F S P Q n) {Z : Nat → Prop} (hk : Kp Z w w') (hg : ¬ Z g) (hn : ∀ {v : Value} {xs : List Nat}, Own .u64 44 B w v xs → ∀ k, At v k → ¬ Z k) : EuSt B w' g F S P Q n := by
  obtain ⟨vf, vs, vp, vq, hE, hBg, L⟩ := h
  exact ⟨vf, vs, vp, vq, hE.kp hk hg, hBg, L.kp hk (fun k h => h.elim (hn L.f k) (fun h => h.elim (hn L.s k) (fun h => h.elim (hn L.p k) (hn L.q k))))⟩
theorem EuSt.below {B g F S P Q : Nat} {n : Bool} {w w' : World} (h : EuSt B w g F S P Q n) (hb : Below w.heap.size w w') : EuSt B w' g F S P Q n :=
  h.kp (Z := fun _ => False) (Kp.of_below hb) (fun h => h) (fun _ _ _ h => h)
theorem kp_set5 {w : World} (g a b c d : Nat) (o : Bool) : Kp (fun k => k = g) w (set5 w g a b c d o) :=
  (((((Kp.refl (fun k => k = g) w).set (p := ⟨g, 0, none⟩) (fun _ => rfl) _).set (p := ⟨g, 1, none⟩) (fun _ => rfl) _).set (p := ⟨g, 2, none⟩) (fun _ => rfl) _).set (p := ⟨g, 3, none⟩) (fun _ => rfl) _).set (p := ⟨g, 4, none⟩) (fun _ => rfl) _
theorem EuSt.set5 {B g k F S P Q a b c d : Nat} {o n : Bool} {w : World} (h : EuSt B w g F S P Q n) (hs : Sb w k a b c d o) (a' b' c' d' : Nat) (o' : Bool) : EuSt B (set5 w k a' b' c' d' o') g F S P Q n := by
  obtain ⟨vf, vs, vp, vq, hE, _, _⟩ := id h
  exact h.kp (kp_set5 k a' b' c' d' o') (eb_not_sb hE hs) (fun ho j hj e => sb_apart hs ho (e ▸ hj))
theorem EuSt.alloc {B g F S P Q : Nat} {n : Bool} {w : World} (h : EuSt B w g F S P Q n) (x : Obj) : EuSt B (w.alloc x) g F S P Q n := h.below ((Below.refl _ w).alloc (Nat.le_refl _) x)
theorem EuSt.drew {B g F S P Q : Nat} {n : Bool} {w : World} (h : EuSt B w g F S P Q n) : EuSt B w.drew g F S P Q n := h.below ((Below.refl _ w).drew)

/-- The sum, the order and the divisor of the remainders. -/
def EuN (k G F S : Nat) : Prop := k = F + S ∧ S ≤ F ∧ Nat.gcd F S = G

/-- Steps were foreseen: their block was made behind the call. -/
theorem fore_wayA {B g F S P Q a b c d : Nat} {n o : Bool} {w w1 : World} (h : EuSt B w g F S P Q n) (hB : B ≤ w.heap.size) (hb : Below w.drew.heap.size w.drew w1) :
    Sb (w1.alloc (.cells #[.int .u64 (a : Int), .int .u64 (b : Int), .int .u64 (c : Int), .int .u64 (d : Int), .bool o] 119)) w1.heap.size a b c d o ∧ EuSt B (w1.alloc (.cells #[.int .u64 (a : Int), .int .u64 (b : Int), .int .u64 (c : Int), .int .u64 (d : Int), .bool o] 119)) g F S P Q n ∧
    Below B w (w1.alloc (.cells #[.int .u64 (a : Int), .int .u64 (b : Int), .int .u64 (c : Int), .int .u64 (d : Int), .bool o] 119)) :=
  ⟨sb_new w1 a b c d o, (h.drew.below hb).alloc _, ((Below.refl B w).drew.trans (hb.mono hB)).alloc (Nat.le_trans hB hb.size) _⟩
/-- .. ahead of it. -/
theorem fore_wayB {B g F S P Q a b c d : Nat} {n o : Bool} {w w1 : World} (h : EuSt B w g F S P Q n) (hB : B ≤ w.heap.size) (hb : Below (w.alloc (.cells #[.int .u64 0, .int .u64 0, .int .u64 0, .int .u64 0, .bool false] 119)).drew.heap.size (w.alloc (.cells #[.int .u64 0, .int .u64 0, .int .u64 0, .int .u64 0, .bool false] 119)).drew w1) :
    Sb (set5 w1 w.heap.size a b c d o) w.heap.size a b c d o ∧ EuSt B (set5 w1 w.heap.size a b c d o) g F S P Q n ∧ Below B w (set5 w1 w.heap.size a b c d o) := by
  have hs : Sb w1 w.heap.size 0 0 0 0 false := sb_below (sb_drew (sb_new w 0 0 0 0 false)) hb
  have he : EuSt B w1 g F S P Q n := ((h.alloc _).drew).below hb
  refine ⟨sb_set5 hs a b c d o, he.set5 hs a b c d o, below_set5 ?_ hB a b c d o⟩
  exact (((Below.refl B w).alloc hB _).drew).trans (hb.mono (Nat.le_trans hB (by show _ ≤ (World.alloc _ _).heap.size; rw [World.size_alloc]; omega)))

set_option maxHeartbeats 4000000 in
set_option maxRecDepth 100000 in
theorem eRun (I : Nat → Nat → Nat → Nat → Bool → Prop) (hI : Keeps I) (B g F S P Q : Nat) (n : Bool) (h0 : I F S P Q n) (w : World) (h : EuSt B w g F S P Q n) (hB : B ≤ w.heap.size) :
    Calls Tryz.prog 128 #[.pointer (some ⟨g, 0, none⟩)] w fun e w' => ∃ (P' Q' : Nat) (n' : Bool), e = .returned (.tuple #[]) ∧ Hid (EuSt B w' g (Nat.gcd F S) 0 P' Q' n') ∧ Hid (I (Nat.gcd F S) 0 P' Q' n') ∧ Below B w w' := by
  have HI := Lib.hid hI
  have H0 := Lib.hid h0
  have HE := Lib.hid h
  have HB := Lib.hid hB
  obtain ⟨l1, l2, l3, l4⟩ := hI.len F S P Q n h0
  obtain ⟨vf, vs, vp, vq, hE, hBg, L⟩ := h
  have HLs := Lib.hid (Less_any vf vs F S (by omega) w.drew L.f.rd L.s.rd)
  obtain ⟨c0, c1, c2, c3, c4⟩ := hE.cells
  clear hI h0 hB hE L hBg l1 l2 l3 l4
  go_enter Tryz.func128, Tryz.ntmps128
  go_upto_region 0 with fail
  go_cut [11] (fun v wx => v = .bool (decide (F < S)) ∧ Hid (EuSt B wx g F S P Q n) ∧ Hid (Below B w wx))
  case first =>
    go_region_with (go_at_call 117; go_must (refine HLs.out.mono ?_; rintro e w1 ⟨rfl, hb1⟩))
    all_goals
      have E' := Lib.hid (HE.out.drew.below hb1)
      have B' := Lib.hid (show Below B w w1 from (Below.refl B w).drew.trans (hb1.mono HB.out))
      clear hb1
      go_wp2_with fail
      go_meet
      exact ⟨rfl, E', B'⟩
  case rest =>
    clear c0 c1 c2 c3 c4 HLs HE
    obtain ⟨rfl, HE, HW⟩ := hcut
    go_upto_if 11 with fail
    go_cut [12] (fun _ wx => ∃ (F' S' P' Q' : Nat) (n' : Bool), Hid (EuN (F + S) (Nat.gcd F S) F' S') ∧ Hid (EuSt B wx g F' S' P' Q' n') ∧ Hid (I F' S' P' Q' n') ∧ Hid (Below B w wx))
    case first =>
      by_cases hFS : F < S
      · rw [decide_eq_true hFS]
        obtain ⟨l1, l2, l3, l4⟩ := HI.out.len F S P Q n H0.out
        have hn := HI.out.div F S P Q n (by omega) H0.out
        have ln := HI.out.len _ _ _ _ _ hn
        have HDv := Lib.hid (eDivide B g F S P Q n (by omega) l1 l3 l4 ln.2.2.2 wc HE.out (Nat.le_trans HB.out HW.out.size))
        rw [Nat.mod_eq_of_lt hFS] at hn HDv
        have HN := Lib.hid hn
        have HA := Lib.hid (show EuN (F + S) (Nat.gcd F S) S F from ⟨Nat.add_comm _ _, Nat.le_of_lt hFS, Nat.gcd_comm _ _⟩)
        clear hn ln l1 l2 l3 l4 hFS
        go_wp2_with fail
        refine HDv.out.mono ?_
        rintro e w2 ⟨rfl, hE2, hb2⟩
        have HW2 := Lib.hid (HW.out.trans hb2)
        clear hb2
        go_wp2_with fail
        go_meet
        exact ⟨S, F, Q, _, _, HA, hE2, HN, HW2⟩
      · rw [decide_eq_false hFS]
        have HA := Lib.hid (show EuN (F + S) (Nat.gcd F S) F S from ⟨rfl, by omega, rfl⟩)
        clear hFS
        go_wp2_with fail
        go_meet
        exact ⟨F, S, P, Q, n, HA, HE, H0, HW⟩
    case rest =>
      clear HE HW H0
      obtain ⟨F0, S0, P0, Q0, n0, hA0, hE0, hI0, hW0⟩ := hcut
      go_wp2
      go_loopg [2] (F + S) (fun k _ wr => ∃ (F' S' P' Q' : Nat) (n' : Bool), Hid (EuN k (Nat.gcd F S) F' S') ∧ Hid (EuSt B wr g F' S' P' Q' n') ∧ Hid (I F' S' P' Q' n') ∧ Hid (Below B w wr))
      case atStart => exact ⟨F0, S0, P0, Q0, n0, hA0, hE0, hI0, hW0⟩
      case round =>
        obtain ⟨F1, S1, P1, Q1, n1, hA, hE, hJ, hW⟩ := hrel
        clear hA0 hE0 hI0 hW0
        obtain ⟨vf, vs, vp, vq, hEb, hBg, L⟩ := hE.out
        obtain ⟨af, cf, rfl⟩ := rd_form L.f.rd
        obtain ⟨as_, cs_, rfl⟩ := rd_form L.s.rd
        obtain ⟨c0, c1, c2, c3, c4⟩ := hEb.cells
        obtain ⟨l1, l2, l3, l4⟩ := HI.out.len _ _ _ _ _ hJ.out
        by_cases hS1 : S1 = 0
        · subst hS1
          rw [digs_zero, show ([] : List Nat).length = 0 from rfl] at c1
          clear hEb L hBg c0 c2 c3 c4 l1 l2 l3 l4
          have hg := hA.out.2.2
          rw [Nat.gcd_zero_right] at hg
          have HG := Lib.hid hg
          clear hg
          go_wp2
          go_end0
          exact ⟨P1, Q1, n1, rfl, by rw [← HG.out]; exact hE, by rw [← HG.out]; exact hJ, hW.out⟩
        · have hm : 0 < (digs S1).length := by rw [digs_pos hS1]; simp
          have HFo := Lib.hid (foresee_any _ _ F1 S1 hS1 hA.out.2.1 l1 wr.drew L.f.rd L.s.rd)
          have HFo2 := Lib.hid (foresee_any _ _ F1 S1 hS1 hA.out.2.1 l1 (wr.alloc (.cells #[.int .u64 0, .int .u64 0, .int .u64 0, .int .u64 0, .bool false] 119)).drew (L.f.rd.below ((Below.refl _ wr).alloc (Nat.le_refl _) _).drew) (L.s.rd.below ((Below.refl _ wr).alloc (Nat.le_refl _) _).drew))
          unfold Stp at HFo HFo2
          have hZ := Lib.hid (Nat.le_trans HB.out hW.out.size)
          have HS1 := Lib.hid hS1
          generalize (digs S1).length = m at *
          generalize (digs F1).length = mf at *
          have hgw := hEb.lt
          have GA := Lib.hid (show g < wr.drew.heap.size from hgw)
          have GB := Lib.hid (show g < (wr.alloc (.cells #[.int .u64 0, .int .u64 0, .int .u64 0, .int .u64 0, .bool false] 119)).drew.heap.size by show _ < (World.alloc _ _).heap.size; rw [World.size_alloc]; omega)
          have DA0 := Lib.hid (show wr.drew.cell? ⟨g, 0, none⟩ = some (.slice af mf cf) from c0)
          have DA1 := Lib.hid (show wr.drew.cell? ⟨g, 1, none⟩ = some (.slice as_ m cs_) from c1)
          have DB0 := Lib.hid (show (wr.alloc (.cells #[.int .u64 0, .int .u64 0, .int .u64 0, .int .u64 0, .bool false] 119)).drew.cell? ⟨g, 0, none⟩ = some (.slice af mf cf) by rw [wc_drew, wc_alloc hgw]; exact c0)
          have DB1 := Lib.hid (show (wr.alloc (.cells #[.int .u64 0, .int .u64 0, .int .u64 0, .int .u64 0, .bool false] 119)).drew.cell? ⟨g, 1, none⟩ = some (.slice as_ m cs_) by rw [wc_drew, wc_alloc hgw]; exact c1)
          clear hEb L hBg l1 l2 l3 l4 hS1
          go_upto_region 3 with fail
          go_cut [2] from 14 to 36 (fun v2 wx => ∃ (k a b c d : Nat) (o : Bool), v2 = .pointer (some ⟨k, 0, none⟩) ∧ Hid (Sb wx k a b c d o) ∧ Hid (EuSt B wx g F1 S1 P1 Q1 n1) ∧ Hid (Seen F1 S1 a b c d o) ∧ Hid (Below B w wx))
          case first =>
            go_region_held3 (fun w' => w'.cell? ⟨g, 0, none⟩ = some (.slice af mf cf) ∧ w'.cell? ⟨g, 1, none⟩ = some (.slice as_ m cs_)) (first | ((try go_split_ands); refine ⟨?_, ?_⟩ <;> (first | (with_reducible assumption) | ((repeat (first | rw [wc_drew] | rw [wc_alloc (by first | assumption | omega | (simp; done) | (simp; omega))] | rw [wc_ne (by omega)])); first | (with_reducible assumption) | (simp; done)))) | (go_keep; done))
              (first
                | (go_at_call 154; (refine (HFo.out).mono ?_); rintro e w1 ⟨a, b, c, d, o, rfl, hSeen, hb1⟩; have HB1 := Lib.hid hb1; obtain ⟨hc1, hf1⟩ := wbc hb1; have hz1 := hb1.size; (try simp at hz1); have d0 : w1.cell? ⟨g, 0, none⟩ = some (.slice af mf cf) := (hc1 _ _ GA.out).trans DA0.out; have d1 : w1.cell? ⟨g, 1, none⟩ = some (.slice as_ m cs_) := (hc1 _ _ GA.out).trans DA1.out)
                | (go_at_call 154; (refine (HFo2.out).mono ?_); rintro e w1 ⟨a, b, c, d, o, rfl, hSeen, hb1⟩; have HB1 := Lib.hid hb1; obtain ⟨hc1, hf1⟩ := wbc hb1; have hz1 := hb1.size; (try simp at hz1); have d0 : w1.cell? ⟨g, 0, none⟩ = some (.slice af mf cf) := (hc1 _ _ GB.out).trans DB0.out; have d1 : w1.cell? ⟨g, 1, none⟩ = some (.slice as_ m cs_) := (hc1 _ _ GB.out).trans DB1.out))
            · obtain ⟨q1, q2, q3⟩ := fore_wayA (a := a) (b := b) (c := c) (d := d) (o := o) hE.out hZ.out HB1.out
              have Q1 := Lib.hid q1
              have Q2 := Lib.hid q2
              have Q3 := Lib.hid (hW.out.trans q3)
              clear q1 q2 q3
              go_wp2_with fail
              go_meet
              exact ⟨_, a, b, c, d, o, rfl, Q1, Q2, hSeen, Q3⟩
            · obtain ⟨q1, q2, q3⟩ := fore_wayB (a := a) (b := b) (c := c) (d := d) (o := o) hE.out hZ.out HB1.out
              have Q1 := Lib.hid q1
              have Q2 := Lib.hid q2
              have Q3 := Lib.hid (hW.out.trans q3)
              clear q1 q2 q3
              go_wp2_with fail
              go_meet
              exact ⟨_, a, b, c, d, o, rfl, Q1, Q2, hSeen, Q3⟩
          case rest =>
            clear hE hW hZ c0 c1 c2 c3 c4 HFo HFo2 hgw
            obtain ⟨k, a, b, c, d, o, rfl, hS, hE, hSeen, hW⟩ := hcut
            have hZ := Nat.le_trans HB.out hW.out.size
            obtain ⟨s0, s1, s2, s3, s4⟩ := sb_cells hS.out
            obtain ⟨l1, l2, l3, l4⟩ := HI.out.len _ _ _ _ _ hJ.out
            obtain ⟨hk, hle, hg⟩ := hA.out
            by_cases hb : b = 0
            · have hbz : ((b : Int) == 0) = true := beq_iff_eq.2 (by omega)
              have hn := HI.out.div F1 S1 P1 Q1 n1 HS1.out hJ.out
              have ln := HI.out.len _ _ _ _ _ hn
              have HDv := Lib.hid (eDivide B g F1 S1 P1 Q1 n1 HS1.out l1 l3 l4 ln.2.2.2 wc hE.out hZ)
              have hlt := Nat.mod_lt F1 (Nat.pos_of_ne_zero HS1.out)
              have HA := Lib.hid (show EuN (S1 + F1 % S1) (Nat.gcd F S) S1 (F1 % S1) from ⟨rfl, Nat.le_of_lt hlt, by rw [← hg, Nat.gcd_comm S1, ← Nat.gcd_rec, Nat.gcd_comm]⟩)
              have HLt := Lib.hid (show S1 + F1 % S1 < gk by omega)
              have HN := Lib.hid hn
              clear hn ln hlt hk hle hg l1 l2 l3 l4 hb hZ
              go_wp2_with fail
              refine HDv.out.mono ?_
              rintro e w2 ⟨rfl, hE2, hb2⟩
              have HW2 := Lib.hid (hW.out.trans hb2)
              clear hb2
              go_wp2
              go_roundg (S1 + F1 % S1)
              case measure => exact HLt.out
              case rel => exact ⟨S1, F1 % S1, Q1, _, _, HA, hE2, HN, HW2⟩
            · have hbz : ((b : Int) == 0) = false := beq_eq_false_iff_ne.2 (by omega)
              have hF1 : F1 ≠ 0 := by have := HS1.out; omega
              obtain ⟨f, s, hm, hsf, hFac, hD, hd9⟩ := hSeen.out.resolve_left hb
              have hn := HI.out.app F1 S1 P1 Q1 n1 a b c d o f s hF1 hb hm hD hFac hsf hJ.out
              have HAp := Lib.hid (eApply B g F1 S1 P1 Q1 a b c d f s n1 o hm hFac hd9 l1 l2 l3 l4 wc hE.out hZ)
              have HA := Lib.hid (show EuN (f + s) (Nat.gcd F S) f s from ⟨rfl, hsf, by rw [hm.gcd hD, hg]⟩)
              have HLt := Lib.hid (show f + s < gk by have := hm.less hD hFac hb hF1 hsf; omega)
              have HN := Lib.hid hn
              clear hn hk hle hg l1 l2 l3 l4 hb hZ hF1 hm hsf hFac hD hd9
              go_wp2_with fail
              refine HAp.out.mono ?_
              rintro e w2 ⟨rfl, hE2, hb2⟩
              have HW2 := Lib.hid (hW.out.trans hb2)
              clear hb2
              go_wp2
              go_roundg (f + s)
              case measure => exact HLt.out
              case rel => exact ⟨f, s, _, _, _, HA, hE2, HN, HW2⟩

end Go.Proofs.YtpdchplppkfdhaaGreatDoor
/- words.Common of any two numbers: walks. -/
namespace Go.Proofs.YtpdchplppkfdhaaGreatDoor
open Go.RowKit Go.Gb

theorem eu_start {B a b : Nat} {u1 u2 u3 u4 : Value} {P Q : Nat} {w : World} (hB : B ≤ w.heap.size) (o1 : Own .u64 44 B w u1 (digs a)) (o2 : Own .u64 44 B w u2 (digs b)) (o3 : Own .u64 44 B w u3 (digs P)) (o4 : Own .u64 44 B w u4 (digs Q))
    (a12 : Apt u1 u2) (a13 : Apt u1 u3) (a14 : Apt u1 u4) (a23 : Apt u2 u3) (a24 : Apt u2 u4) (a34 : Apt u3 u4) (n : Bool) :
    EuSt B (w.alloc (.cells #[u1, u2, u3, u4, .bool n] 125)) w.heap.size a b P Q n := by
  have hb := (Below.refl _ w).alloc (Nat.le_refl _) (.cells #[u1, u2, u3, u4, .bool n] 125)
  refine ⟨u1, u2, u3, u4, ?_, hB, ⟨o1.below hb, o2.below hb, o3.below hb, o4.below hb, a12, a13, a14, a23, a24, a34⟩⟩
  unfold Eb
  rw [heap_alloc_new]

set_option maxHeartbeats 2000000 in
set_option maxRecDepth 100000 in
theorem Common_long (v1 v2 : Value) (a b : Nat) (hl : 2 < (digs a).length ∨ 2 < (digs b).length) (hla : (digs a).length ≤ 70000) (hlb : (digs b).length ≤ 70000) (w : World) (h1 : Rd .u64 w v1 (digs a)) (h2 : Rd .u64 w v2 (digs b)) :
    Calls Tryz.prog 73 #[v1, v2] w fun e w' => ∃ v, e = .returned v ∧ Own .u64 44 w.heap.size w' v (digs (Nat.gcd a b)) ∧ Below w.heap.size w w' := by
  have hlN : (digs (a + b)).length ≤ 80000 := by
    have := digs_add_len hla hlb
    omega
  have HI := Lib.hid (CmI.keeps hlN)
  have HC1 := Lib.hid (Clone_any v1 (digs a) (by omega) w h1)
  have HC2 := Lib.hid (fun W (h : Rd .u64 W v2 (digs b)) => Clone_any v2 (digs b) (by omega) W h)
  have HR2 := Lib.hid h2
  by_cases hs : (digs a).length ≤ 2
  · have s1 := Lib.hid (isShort_yes v1 _ hs w h1)
    have s2 := Lib.hid (isShort_no v2 _ (by omega) (by omega) w h2)
    clear hl hla hlb h1 h2 hlN hs
    go_enter Tryz.func73, Tryz.ntmps73
    go_wp2_with fail
    refine s1.out.mono ?_
    rintro e w' ⟨rfl, rfl⟩
    go_wp2_with fail
    refine s2.out.mono ?_
    rintro e w' ⟨rfl, rfl⟩
    clear s1 s2
    go_wp2_with fail
    refine HC1.out.mono ?_
    rintro e w1 ⟨u1, rfl, ho1, hb1⟩
    obtain ⟨a1, c1, rfl⟩ := rd_form ho1.rd
    have HO1 := Lib.hid ho1
    have HB1 := Lib.hid hb1
    have HD2 := Lib.hid (HC2.out w1 (HR2.out.below hb1))
    clear ho1 hb1
    go_wp2_with fail
    refine HD2.out.mono ?_
    rintro e w2 ⟨u2, rfl, ho2, hb2⟩
    obtain ⟨a2, c2, rfl⟩ := rd_form ho2.rd
    have hB2 := HB1.out.trans (hb2.mono HB1.out.size)
    have hst := eu_start (n := false) hB2.size (HO1.out.below hb2) (ho2.mono HB1.out.size) (u3 := .slice none 0 0) (u4 := .slice none 0 0) (P := 0) (Q := 0) (by rw [digs_zero]; exact Own.nil _ _ _ _) (by rw [digs_zero]; exact Own.nil _ _ _ _)
      (own_fresh ho2 _ (fun g hg => (HO1.out.at hg).2)).symm (Apt.nil_right _ _ _) (Apt.nil_right _ _ _) (Apt.nil_right _ _ _) (Apt.nil_right _ _ _) (Apt.nil_right _ _ _)
    have hB3 := hB2.alloc hB2.size (.cells #[.slice a1 (digs a).length c1, .slice a2 (digs b).length c2, .slice none 0 0, .slice none 0 0, .bool false] 125)
    have HRun := Lib.hid (eRun _ HI.out w.heap.size w2.heap.size a b 0 0 false ⟨Nat.le_refl _, rfl, rfl⟩ _ hst hB3.size)
    have HB3 := Lib.hid hB3
    clear ho2 hb2 hB2 hst hB3 HO1 HB1 HC1 HC2 HD2 HR2
    go_wp2_with fail
    refine HRun.out.mono ?_
    rintro e w4 ⟨P', Q', n', rfl, hE, _, hb4⟩
    have HB4 := Lib.hid (HB3.out.trans hb4)
    obtain ⟨vf, vs, vp, vq, hEb, _, L⟩ := hE.out
    obtain ⟨c0, _, _, _, _⟩ := hEb.cells
    have HF := Lib.hid L.f
    clear hE hEb L hb4 HRun
    go_wp2
    go_ret
    exact ⟨vf, rfl, HF.out, HB4.out⟩
  · have s1 := Lib.hid (isShort_no v1 _ (by omega) (by omega) w h1)
    clear hl hla hlb h1 h2 hlN hs
    go_enter Tryz.func73, Tryz.ntmps73
    go_wp2_with fail
    refine s1.out.mono ?_
    rintro e w' ⟨rfl, rfl⟩
    clear s1
    go_wp2_with fail
    refine HC1.out.mono ?_
    rintro e w1 ⟨u1, rfl, ho1, hb1⟩
    obtain ⟨a1, c1, rfl⟩ := rd_form ho1.rd
    have HO1 := Lib.hid ho1
    have HB1 := Lib.hid hb1
    have HD2 := Lib.hid (HC2.out w1 (HR2.out.below hb1))
    clear ho1 hb1
    go_wp2_with fail
    refine HD2.out.mono ?_
    rintro e w2 ⟨u2, rfl, ho2, hb2⟩
    obtain ⟨a2, c2, rfl⟩ := rd_form ho2.rd
    have hB2 := HB1.out.trans (hb2.mono HB1.out.size)
    have hst := eu_start (n := false) hB2.size (HO1.out.below hb2) (ho2.mono HB1.out.size) (u3 := .slice none 0 0) (u4 := .slice none 0 0) (P := 0) (Q := 0) (by rw [digs_zero]; exact Own.nil _ _ _ _) (by rw [digs_zero]; exact Own.nil _ _ _ _)
      (own_fresh ho2 _ (fun g hg => (HO1.out.at hg).2)).symm (Apt.nil_right _ _ _) (Apt.nil_right _ _ _) (Apt.nil_right _ _ _) (Apt.nil_right _ _ _) (Apt.nil_right _ _ _)
    have hB3 := hB2.alloc hB2.size (.cells #[.slice a1 (digs a).length c1, .slice a2 (digs b).length c2, .slice none 0 0, .slice none 0 0, .bool false] 125)
    have HRun := Lib.hid (eRun _ HI.out w.heap.size w2.heap.size a b 0 0 false ⟨Nat.le_refl _, rfl, rfl⟩ _ hst hB3.size)
    have HB3 := Lib.hid hB3
    clear ho2 hb2 hB2 hst hB3 HO1 HB1 HC1 HC2 HD2 HR2
    go_wp2_with fail
    refine HRun.out.mono ?_
    rintro e w4 ⟨P', Q', n', rfl, hE, _, hb4⟩
    have HB4 := Lib.hid (HB3.out.trans hb4)
    obtain ⟨vf, vs, vp, vq, hEb, _, L⟩ := hE.out
    obtain ⟨c0, _, _, _, _⟩ := hEb.cells
    have HF := Lib.hid L.f
    clear hE hEb L hb4 HRun
    go_wp2
    go_ret
    exact ⟨vf, rfl, HF.out, HB4.out⟩

theorem Common_any (a b : Nat) (hla : (digs a).length ≤ 70000) (hlb : (digs b).length ≤ 70000) : CommonOk a b := by
  intro v1 v2 w h1 h2
  by_cases h : (digs a).length ≤ 2 ∧ (digs b).length ≤ 2
  · exact Common_short v1 v2 a b h.1 h.2 w h1 h2
  · exact Common_long v1 v2 a b (by omega) hla hlb w h1 h2

end Go.Proofs.YtpdchplppkfdhaaGreatDoor
