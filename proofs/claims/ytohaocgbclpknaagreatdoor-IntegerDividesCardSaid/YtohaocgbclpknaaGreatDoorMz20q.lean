/- Texts of this proof, one behind the other. -/
import Derived.Test.YtohaocgbclpknaaGreatDoorIj
import Derived.Test.YtohaocgbclpknaaGreatDoorMz10q
import Derived.Deep.RegionWith
/- integer.DivMod: walks. -/
namespace Go.Proofs.YtohaocgbclpknaaGreatDoor
open Go.RowKit Go.Gb

set_option maxHeartbeats 2000000 in
set_option maxRecDepth 100000 in
theorem divMod_walk (a1 a2 : ByteArray) (s t q1 q2 : Int) (b c d1 d2 r1 r2 : ByteArray) (ht : t ≠ 0) (w : World) (hl : Zz w)
    (hread : Calls Tryz.prog 19 #[.string a1, .string a2] w fun e w' => e = .returned (.tuple #[.agg #[.int .i64 s, .string b], .agg #[.int .i64 t, .string c], .bool true]) ∧ Below w.heap.size w w')
    (hop : ∀ W, Below w.heap.size w W → Calls Tryz.prog 20 #[.agg #[.int .i64 s, .string b], .agg #[.int .i64 t, .string c]] W fun e w' => e = .returned (.tuple #[.agg #[.int .i64 q1, .string d1], .agg #[.int .i64 q2, .string d2]]) ∧ Below W.heap.size W w')
    (hs1 : ∀ W, Calls Tryz.prog 21 #[.agg #[.int .i64 q1, .string d1]] W fun e w' => e = .returned (.string r1) ∧ Below W.heap.size W w')
    (hs2 : ∀ W, Calls Tryz.prog 21 #[.agg #[.int .i64 q2, .string d2]] W fun e w' => e = .returned (.string r2) ∧ Below W.heap.size W w') :
    Calls Tryz.prog 6 #[.string a1, .string a2] w fun e w' => e = .returned (.tuple #[.string r1, .string r2, .int .i64 0]) ∧ Below w.heap.size w w' := by
  have HR := Lib.hid hread
  have HO := Lib.hid hop
  have HS1 := Lib.hid hs1
  have HS2 := Lib.hid hs2
  have HZ := Lib.hid hl
  have ht1 : (t == 0) = false := by simpa using ht
  clear hread hop hs1 hs2 hl
  go_enter Tryz.func6, Tryz.ntmps6
  go_wp2_with fail
  refine HR.out.mono ?_
  rintro e w1 ⟨rfl, hb1⟩
  have HB1 := Lib.hid ((hb1.alloc hb1.size (.cells #[.int .i64 s, .string b] 40)).alloc (by have := hb1.size; simp; omega) (.cells #[.int .i64 t, .string c] 40))
  obtain ⟨z0, z1, z2⟩ := HZ.out.on HB1.out
  clear hb1
  go_wp2_with fail
  refine (HO.out _ HB1.out).mono ?_
  rintro e w2 ⟨rfl, hb2⟩
  have HB2 := Lib.hid (((HB1.out.trans (hb2.mono HB1.out.size)).alloc (HB1.out.trans (hb2.mono HB1.out.size)).size (.cells #[.int .i64 q1, .string d1] 40)).alloc (by have := (HB1.out.trans (hb2.mono HB1.out.size)).size; simp; omega) (.cells #[.int .i64 q2, .string d2] 40))
  clear hb2 z0 z1 z2
  go_wp2
  go_region_with (first | (go_at_call 21; (with_reducible refine (HS1.out _).mono ?_); rintro e w3 ⟨rfl, hb3⟩; have HB3 : Below w.heap.size w w3 := (by first | exact HB2.out.trans (hb3.mono HB2.out.size) | exact HB2.out.drew.trans (hb3.mono HB2.out.drew.size)); obtain ⟨hc3, hf3⟩ := bcell hb3) | (go_at_call 21; (with_reducible refine (HS2.out _).mono ?_); rintro e w4 ⟨rfl, hb4⟩; have HB4 : Below w.heap.size w w4 := (HB3.trans (hb4.mono HB3.size))))
  all_goals
    clear hb3 hb4
    go_wp2
    go_ret3
    exact ⟨rfl, HB4⟩

set_option maxHeartbeats 1000000 in
theorem divMod_zero_walk (a1 a2 : ByteArray) (s : Int) (b : ByteArray) (w : World) (hl : Zz w)
    (hread : Calls Tryz.prog 19 #[.string a1, .string a2] w fun e w' => e = .returned (.tuple #[.agg #[.int .i64 s, .string b], .agg #[.int .i64 0, .string ⟨#[48]⟩], .bool true]) ∧ Below w.heap.size w w') :
    Calls Tryz.prog 6 #[.string a1, .string a2] w fun e w' => e = .returned (.tuple #[.string ⟨#[]⟩, .string ⟨#[]⟩, .int .i64 16]) ∧ Below w.heap.size w w' := by
  have HR := Lib.hid hread
  have HZ := Lib.hid hl
  clear hread hl
  go_enter Tryz.func6, Tryz.ntmps6
  go_wp2_with fail
  refine HR.out.mono ?_
  rintro e w1 ⟨rfl, hb1⟩
  have HB1 := Lib.hid ((hb1.alloc hb1.size (.cells #[.int .i64 s, .string b] 40)).alloc (by have := hb1.size; simp; omega) (.cells #[.int .i64 0, .string ⟨#[48]⟩] 40))
  obtain ⟨z0, z1, z2⟩ := HZ.out.on HB1.out
  clear hb1
  go_wp2
  go_ret3
  exact ⟨rfl, HB1.out⟩
set_option maxHeartbeats 1000000 in
theorem zDivMod_no (a b : ByteArray) (h : (vldZ a.data.toList && vldZ b.data.toList) = false) (ha : a.size ≤ 1000) (hb : b.size ≤ 1000) (w : World) (hl : La w) :
    Calls Tryz.prog 6 #[.string a, .string b] w fun e w' => e = .returned (.tuple #[.string ⟨#[]⟩, .string ⟨#[]⟩, .int .i64 1]) ∧ Below w.heap.size w w' := by
  have HR := Lib.hid (readBoth_no a b h ha hb w hl.zz)
  clear hl h
  go_enter Tryz.func6, Tryz.ntmps6
  go_wp2_with fail
  refine HR.out.mono ?_
  rintro e w1 ⟨s, t, b, c, rfl, hb1⟩
  have HB1 := Lib.hid ((hb1.alloc hb1.size (.cells #[.int .i64 s, .string b] 40)).alloc (by have := hb1.size; simp; omega) (.cells #[.int .i64 t, .string c] 40))
  clear hb1
  go_wp2
  go_ret3
  exact ⟨rfl, HB1.out⟩

theorem div_formula (x y : Int) (hy : y ≠ 0) (Q R : Int) (hQ : Q = if 0 ≤ x ∨ x.natAbs % y.natAbs = 0 then x.sign * (y.sign * ((x.natAbs / y.natAbs : Nat) : Int)) else -(y.sign * ((x.natAbs / y.natAbs : Nat) : Int)) - y.sign)
    (hR : R = if 0 ≤ x ∨ x.natAbs % y.natAbs = 0 then ((x.natAbs % y.natAbs : Nat) : Int) else (y.natAbs : Int) - ((x.natAbs % y.natAbs : Nat) : Int)) :
    R + y * Q = x ∧ 0 ≤ R ∧ R < (y.natAbs : Int) := by
  have hn : 0 < y.natAbs := by omega
  have hdm := Nat.div_add_mod x.natAbs y.natAbs
  have hml := Nat.mod_lt x.natAbs hn
  have hp : (y.natAbs : Int) * ((x.natAbs / y.natAbs : Nat) : Int) + ((x.natAbs % y.natAbs : Nat) : Int) = (x.natAbs : Int) := by
    rw [← Int.natCast_mul, ← Int.natCast_add, hdm]
  generalize hk : x.natAbs / y.natAbs = k at *
  generalize hr : x.natAbs % y.natAbs = r at *
  have ys : (y.sign = 1 ∧ y = (y.natAbs : Int)) ∨ (y.sign = -1 ∧ y = -(y.natAbs : Int)) := by
    rcases int_cases y with ⟨n, hn2, rfl⟩ | rfl | ⟨n, hn2, rfl⟩
    · right; rw [Int.sign_neg, Int.sign_natCast_of_ne_zero hn2]; simp
    · exact absurd rfl hy
    · left; rw [Int.sign_natCast_of_ne_zero hn2]; simp
  have xs : (x.sign = 1 ∧ x = (x.natAbs : Int) ∧ 0 ≤ x) ∨ (x.sign = 0 ∧ x = 0 ∧ x.natAbs = 0) ∨ (x.sign = -1 ∧ x = -(x.natAbs : Int) ∧ ¬ 0 ≤ x) := by
    rcases int_cases x with ⟨n, hn, rfl⟩ | rfl | ⟨n, hn, rfl⟩
    · right; right; rw [Int.sign_neg, Int.sign_natCast_of_ne_zero hn]; simp; omega
    · right; left; simp
    · left; rw [Int.sign_natCast_of_ne_zero hn]; simp
  generalize y.natAbs = n at *
  generalize x.natAbs = m at *
  rcases ys with ⟨e1, e2⟩ | ⟨e1, e2⟩ <;> rcases xs with ⟨f1, f2, f3⟩ | ⟨f1, f2, f3⟩ | ⟨f1, f2, f3⟩
  all_goals
    rw [e1] at hQ
    rw [f1] at hQ
    by_cases hc : 0 ≤ x ∨ r = 0
    · rw [if_pos hc] at hQ hR
      refine ⟨by rw [hQ, hR]; first | grind | (rcases hc with hc | hc <;> grind), by omega, by omega⟩
    · rw [if_neg hc] at hQ hR
      refine ⟨by rw [hQ, hR]; grind, by omega, by omega⟩
theorem div_of_formula (x y : Int) (hy : y ≠ 0) (Q R : Int) (h : R + y * Q = x ∧ 0 ≤ R ∧ R < (y.natAbs : Int)) : x / y = Q ∧ x % y = R := by
  rcases Int.lt_or_gt_of_ne hy with h0 | h0
  · exact (Int.ediv_emod_unique' h0).2 ⟨h.1, h.2.1, by omega⟩
  · exact (Int.ediv_emod_unique h0).2 ⟨h.1, h.2.1, by omega⟩

theorem Fit.le {m n : Nat} (h : Fit n) (hm : m ≤ n) : Fit m := by unfold Fit at *; exact Sm.le h hm
theorem fitZ_le {x : Int} {n : Nat} (h : Fit n) (hx : x.natAbs ≤ n) : FitZ x := by unfold FitZ; exact Fit.le h hx
/-- DivMod by Euclid's quotient and remainder. -/
theorem divide_e (x y q r : Int) (hy : y ≠ 0) (hq : x / y = q) (hr : x % y = r) (fx : FitZ x) (fy : FitZ y) (fq : Fit (x.natAbs + 1)) (w : World) (hl : La w) :
    Calls Tryz.prog 20 #[Zv x, Zv y] w fun e w' => e = .returned (.tuple #[Zv q, Zv r]) ∧ Below w.heap.size w w' := by
  have h := div_of_formula x y hy _ _ (div_formula x y hy _ _ rfl rfl)
  rw [hq, hr] at h
  exact divide_any' x y hy q r h.1 h.2 fx fy (Fit.le fq (Nat.succ_le_succ (Nat.div_le_self x.natAbs y.natAbs))) w hl
theorem quo_le (x y : Int) (hy : y ≠ 0) : (x / y).natAbs ≤ x.natAbs + 1 := by
  obtain ⟨h1, h2⟩ := div_of_formula x y hy _ _ (div_formula x y hy _ _ rfl rfl)
  rw [h1]
  have hk := Nat.div_le_self x.natAbs y.natAbs
  have ys := Int.sign_trichotomy y
  have xs := Int.sign_trichotomy x
  generalize x.natAbs / y.natAbs = k at *
  generalize x.natAbs % y.natAbs = r at *
  split
  · rcases ys with e | e | e <;> rcases xs with f | f | f <;> rw [e, f] <;> simp <;> omega
  · rcases ys with e | e | e <;> rw [e] <;> simp <;> omega
theorem zDivMod (x y q r : Int) (hy : y ≠ 0) (hq : x / y = q) (hr : x % y = r) (fx : FitZ x) (fy : FitZ y) (fq : Fit (x.natAbs + 1)) (w : World) (hl : La w) :
    Calls Tryz.prog 6 #[.string (Sz x), .string (Sz y)] w fun e w' => e = .returned (.tuple #[.string (Sz q), .string (Sz r), .int .i64 0]) ∧ Below w.heap.size w w' := by
  have fQ : FitZ q := by
    rw [← hq]
    exact fitZ_le fq (quo_le x y hy)
  have fR : FitZ r := by
    have hf := div_formula x y hy _ _ rfl rfl
    have he := (div_of_formula x y hy _ _ hf).2
    rw [hr] at he
    rw [← he] at hf
    have h1 := hf.2.1
    have h2 := hf.2.2
    exact fitZ_le fy (by omega)
  have hs : y.sign ≠ 0 := fun h => hy (Int.sign_eq_zero_iff_zero.1 h)
  have h1 := readBoth_yes x y fx fy w hl.zz
  have h2 := fun W (hW : Below w.heap.size w W) => divide_e x y q r hy hq hr fx fy fq W (hl.on hW)
  have h3 := fun W => string_any q fQ W
  have h4 := fun W => string_any r fR W
  unfold Zv at h1 h2 h3 h4
  exact divMod_walk _ _ _ _ _ _ _ _ _ _ _ _ hs w hl.zz h1 h2 h3 h4
theorem zDivMod_zero (x : Int) (fx : FitZ x) (w : World) (hl : La w) :
    Calls Tryz.prog 6 #[.string (Sz x), .string ⟨#[48]⟩] w fun e w' => e = .returned (.tuple #[.string ⟨#[]⟩, .string ⟨#[]⟩, .int .i64 16]) ∧ Below w.heap.size w w' := by
  have h1 := readBoth_yes x 0 fx fit0 w hl.zz
  rw [zv_zero, show Sz 0 = ⟨#[48]⟩ from (sz_nat 0).trans sn_zero] at h1
  unfold Zv at h1
  exact divMod_zero_walk _ _ _ _ w hl.zz h1

end Go.Proofs.YtohaocgbclpknaaGreatDoor
/- words.allSteps with whatever its rounds keep: walks. -/
namespace Go.Proofs.YtohaocgbclpknaaGreatDoor
open Go.RowKit Go.Gb

set_option maxHeartbeats 2000000 in
set_option maxRecDepth 100000 in
theorem allSteps_inv (x0 y0 : Nat) (hx : x0 < 1000000000000000000) (hy : y0 < 1000000000000000000) (I : Nat → Nat → Nat → Nat → Nat → Nat → Bool → Prop) (h0 : I x0 y0 1 0 0 1 false)
    (hstep : ∀ x y a b c d o, 0 < y → EuInv x0 y0 x y a b c d o → I x y a b c d o → I y (x % y) c d (a + x / y * c) (b + x / y * d) (!o)) (w : World) :
    Calls Tryz.prog 76 #[.int .u64 (x0 : Int), .int .u64 (y0 : Int)] w fun e w' => ∃ (a b c d : Nat) (o : Bool), e = .returned (.tuple #[.int .u64 ((Nat.gcd x0 y0 : Nat) : Int), Stp a b c d o]) ∧ (EuInv x0 y0 (Nat.gcd x0 y0) 0 a b c d o ∧ I (Nat.gcd x0 y0) 0 a b c d o) ∧ Below w.heap.size w w' := by
  have hs0 : Sb ((w.alloc (.cells #[.int .u64 0, .int .u64 0, .int .u64 0, .int .u64 0, .bool false] 98)).alloc (.cells #[.int .u64 1, .int .u64 0, .int .u64 0, .int .u64 1, .bool false] 98)) (w.heap.size + 1) 1 0 0 1 false := by
    unfold Sb
    have := heap_alloc_new (w.alloc (.cells #[.int .u64 0, .int .u64 0, .int .u64 0, .int .u64 0, .bool false] 98)) (.cells #[.int .u64 1, .int .u64 0, .int .u64 0, .int .u64 1, .bool false] 98)
    rw [World.size_alloc] at this
    exact this
  have hr0 : Sb ((w.alloc (.cells #[.int .u64 0, .int .u64 0, .int .u64 0, .int .u64 0, .bool false] 98)).alloc (.cells #[.int .u64 1, .int .u64 0, .int .u64 0, .int .u64 1, .bool false] 98)) w.heap.size 0 0 0 0 false := by
    unfold Sb
    rw [Below.heap_alloc _ _ _ (by simp), heap_alloc_new]
    rfl
  have HS0 := Lib.hid hs0
  have HR0 := Lib.hid hr0
  have HN0 := Lib.hid (((Below.refl w.heap.size w).alloc (Nat.le_refl _) (.cells #[.int .u64 0, .int .u64 0, .int .u64 0, .int .u64 0, .bool false] 98)).alloc (by simp) (.cells #[.int .u64 1, .int .u64 0, .int .u64 0, .int .u64 1, .bool false] 98))
  have HI0 := Lib.hid h0
  have HI := Lib.hid hstep
  clear h0 hstep
  have HX := Lib.hid hx
  have HY := Lib.hid hy
  clear hs0 hr0 hx hy
  go_enter Tryz.func76, Tryz.ntmps76
  go_wp2
  go_loopw [0, 1] (fun xx yy wr => ∃ (x y a b c d : Nat) (o : Bool), xx = .int .u64 (x : Int) ∧ yy = .int .u64 (y : Int) ∧ Hid (EuInv x0 y0 x y a b c d o ∧ I x y a b c d o) ∧ Hid (x ≤ 1000000000000000000 ∧ y ≤ 1000000000000000000) ∧ Hid (Sb wr (w.heap.size + 1) a b c d o) ∧ Hid (Sb wr w.heap.size 0 0 0 0 false) ∧ Hid (Below w.heap.size w wr)) (fun _ yy _ => (intOf yy).toNat)
  case atStart => exact ⟨x0, y0, 1, 0, 0, 1, false, rfl, rfl, ⟨EuInv.start x0 y0, HI0.out⟩, ⟨Nat.le_of_lt HX.out, Nat.le_of_lt HY.out⟩, HS0, HR0, HN0⟩
  case round =>
    obtain ⟨x, y, a, b, c, d, o, rfl, rfl, hE, hxy, hS, hR, hn⟩ := hrel
    clear HS0 HR0 HN0 HI0
    by_cases hy0 : 0 < y
    · have hbd := hE.out.1.step.bound hy0
      have h1 : a + x / y * c ≤ 2000000000000000000 := by have := HY.out; omega
      have h2 : b + x / y * d ≤ 2000000000000000000 := by have := HX.out; omega
      obtain ⟨a', ha'⟩ : ∃ a' : Nat, a' = a + x / y * c := ⟨_, rfl⟩
      obtain ⟨b', hb'⟩ : ∃ b' : Nat, b' = b + x / y * d := ⟨_, rfl⟩
      have hW := Lib.hid (show ∀ W, Calls Tryz.prog 95 #[.agg #[.int .u64 (a : Int), .int .u64 (b : Int), .int .u64 (c : Int), .int .u64 (d : Int), .bool o], .int .u64 ((x : Int) / (y : Int))] W fun e w' => e = .returned (.agg #[.int .u64 (c : Int), .int .u64 (d : Int), .int .u64 (a' : Int), .int .u64 (b' : Int), .bool (!o)]) ∧ Below W.heap.size W w' from fun W => by rw [ha', hb']; exact with_any a b c d (x / y) o h1 h2 W)
      have HA' := Lib.hid ha'
      have HB' := Lib.hid hb'
      clear ha' hb'
      obtain ⟨c0, c1, c2, c3, c4⟩ := sb_cells hS.out
      have hS' := Lib.hid (show Sb wr.drew (w.heap.size + 1) a b c d o from hS.out)
      have y1 : (1 : Int) ≤ (y : Int) := by omega
      have yz : ((y : Int) == 0) = false := beq_eq_false_iff_ne.2 (by omega)
      have hq64 : x / y < 18446744073709551616 := Nat.lt_of_le_of_lt (Nat.div_le_self x y) (by have := hxy.out.1; omega)
      have hwq : IntKind.u64.wrap ((x : Int) / (y : Int)) = (x : Int) / (y : Int) := IntWalk.u64_in _ ⟨Int.natCast_nonneg (x / y), by have := (Int.ofNat_lt.2 hq64); omega⟩
      have htm : (x : Int).tmod (y : Int) = (x : Int) % (y : Int) := rfl
      clear hq64 h1 h2 hbd
      go_wp2
      go_region_with (go_at_call 95; go_must (refine (hW.out _).mono ?_; rintro e w1 ⟨rfl, hb1⟩; obtain ⟨s0, s1, s2, s3, s4⟩ := sb_cells (sb_below hS'.out hb1); have f0 := sb_free (sb_below hS'.out hb1) 0; have f1 := sb_free (sb_below hS'.out hb1) 1; have f2 := sb_free (sb_below hS'.out hb1) 2; have f3 := sb_free (sb_below hS'.out hb1) 3; have f4 := sb_free (sb_below hS'.out hb1) 4))
      all_goals
        have hS1 := sb_below hS'.out hb1
        have hR1 := sb_below (show Sb wr.drew w.heap.size 0 0 0 0 false from hR.out) hb1
        have hS2 := Lib.hid (sb_set5 hS1 c d a' b' (!o))
        have hR2 := Lib.hid (sb_set5_other (g := w.heap.size + 1) hR1 (by omega) c d a' b' (!o))
        have hn2 := Lib.hid (below_set5 (hn.out.drew.trans (hb1.mono (show w.heap.size ≤ wr.drew.heap.size from hn.out.size))) (g := w.heap.size + 1) (by omega) c d a' b' (!o))
        have hE2 := (⟨hE.out.1.step, HI.out _ _ _ _ _ _ _ hy0 hE.out.1 hE.out.2⟩ : _ ∧ _)
        rw [← HA'.out, ← HB'.out] at hE2
        have HE2 := Lib.hid hE2
        have hlt := Lib.hid (Nat.mod_lt x hy0)
        have hmd := Lib.hid (Nat.mod_le x y)
        clear hS1 hR1 hE2 s0 s1 s2 s3 s4 f0 f1 f2 f3 f4 hb1 hS' hW c0 c1 c2 c3 c4 hwq
        change Exit.then _ _ Exit.normal _ (set5 w1 (w.heap.size + 1) c d a' b' (!o))
        generalize set5 w1 (w.heap.size + 1) c d a' b' (!o) = w2 at *
        have hxm : (x : Int) % (y : Int) = ((x % y : Nat) : Int) := rfl
        have hmw : IntKind.u64.wrap (((x % y : Nat) : Int)) = ((x % y : Nat) : Int) := IntWalk.u64_in _ (by have := hxy.out.1; have := hmd.out; omega)
        obtain ⟨r, hr⟩ : ∃ r : Nat, r = x % y := ⟨_, rfl⟩
        rw [← hr] at hxm hmw
        have HRr := Lib.hid hr
        clear hr
        go_wp2
        go_quiet (fail)
        have hn3 := Lib.hid (below_drewN' hn2.out nq)
        have hS3 := Lib.hid (show Sb (w2.drewN nq) (w.heap.size + 1) c d a' b' (!o) from hS2.out)
        have hR3 := Lib.hid (show Sb (w2.drewN nq) w.heap.size 0 0 0 0 false from hR2.out)
        go_wp2
        go_roundw
        case rel => exact ⟨y, r, c, d, a', b', !o, rfl, rfl, by rw [HRr.out]; exact HE2, ⟨hxy.out.2, by have := hxy.out.2; have := hlt.out; rw [HRr.out]; omega⟩, hS3, hR3, hn3⟩
        case measure => simp [intOf]; have := hlt.out; have := HRr.out; omega
    · have hy1 : y = 0 := by omega
      subst hy1
      have hg := hE.out.1.2.2.1
      rw [Nat.gcd_zero_right] at hg
      have HG := Lib.hid hg
      clear hg
      have f0 := sb_free hR.out 0
      have f1 := sb_free hR.out 1
      have f2 := sb_free hR.out 2
      have f3 := sb_free hR.out 3
      have f4 := sb_free hR.out 4
      obtain ⟨r0, r1, r2, r3, r4⟩ := sb_cells hR.out
      obtain ⟨c0, c1, c2, c3, c4⟩ := sb_cells hS.out
      go_wp2
      go_region
      have hS2 := Lib.hid (show Sb (set5 wr w.heap.size a b c d o).drew w.heap.size a b c d o from sb_set5 hR.out a b c d o)
      have hn2 := Lib.hid (Below.drew (below_set5 hn.out (g := w.heap.size) (Nat.le_refl _) a b c d o))
      clear f0 f1 f2 f3 f4 r0 r1 r2 r3 r4 c0 c1 c2 c3 c4
      change Exit.then _ _ Exit.normal _ (set5 wr w.heap.size a b c d o).drew
      generalize (set5 wr w.heap.size a b c d o).drew = w2 at *
      obtain ⟨c0, c1, c2, c3, c4⟩ := sb_cells hS2.out
      go_wp2
      refine bodyPost_ret (v := .tuple #[.int .u64 (x : Int), Stp a b c d o]) (by simp [results, Tryz.results76, go_sem, Stp, c0, c1, c2, c3, c4]) rfl ⟨a, b, c, d, o, by rw [HG.out], ?_, hn2.out⟩
      have := hE.out
      rw [HG.out] at this
      exact this

end Go.Proofs.YtohaocgbclpknaaGreatDoor
/- words.Combine of short numbers: walks. -/
namespace Go.Proofs.YtohaocgbclpknaaGreatDoor
open Go.RowKit Go.Gb

/-- What is asked of Combine: the divisor, a factor, and whether it is to be taken negatively. -/
def CombineOk (a b : Nat) : Prop := ∀ (v1 v2 : Value) (w : World), Rd .u64 w v1 (digs a) → Rd .u64 w v2 (digs b) →
    Calls Tryz.prog 51 #[v1, v2] w fun e w' => ∃ (u v : Value) (f : Nat) (neg : Bool), e = .returned (.tuple #[u, v, .bool neg]) ∧ Own .u64 82 w.heap.size w' u (digs (Nat.gcd a b)) ∧ Own .u64 82 w.heap.size w' v (digs f) ∧
      (∃ k : Int, (if neg then -(f : Int) else (f : Int)) * (a : Int) = (Nat.gcd a b : Int) + k * (b : Int)) ∧ (digs f).length ≤ (digs b).length + 1 ∧ Below w.heap.size w w'

set_option maxHeartbeats 2000000 in
set_option maxRecDepth 100000 in
theorem Combine_short (a b : Nat) (hb0 : b ≠ 0) (ha : (digs a).length ≤ 2) (hb : (digs b).length ≤ 2) : CombineOk a b := by
  intro v1 v2 w h1 h2
  have s1 := Lib.hid (isShort_yes v1 _ ha w h1)
  have s2 := Lib.hid (isShort_yes v2 _ hb w h2)
  have t1 := Lib.hid (short_any v1 a ha w h1)
  have t2 := Lib.hid (short_any v2 b hb w h2)
  have hg : Nat.gcd a b < 1000000000000000000 := by
    rcases Nat.eq_zero_or_pos a with h | h
    · rw [h, Nat.gcd_zero_left]; exact lt_two hb
    · exact Nat.lt_of_le_of_lt (Nat.gcd_le_left b h) (lt_two ha)
  have hbl := lt_two hb
  have hs := Lib.hid (allSteps_inv a b (lt_two ha) hbl (fun _ _ a' _ c' _ _ => (a' ≤ 1 ∨ a' ≤ b) ∧ c' ≤ b) ⟨Or.inl (Nat.le_refl _), Nat.zero_le _⟩ (fun x y a' b' c' d' o hy hE hI => ⟨Or.inr hI.2, (hE.step.bound hy).2⟩))
  have hlo := Lib.hid (fun (n : Nat) (hn : n < 1000000000000000000) (W : World) => long_any n hn W)
  have HG := Lib.hid hg
  have HB0 := Lib.hid hb0
  have HBL := Lib.hid hbl
  clear h1 h2 ha hb hg hb0 hbl
  obtain ⟨g, hgd⟩ : ∃ g, g = Nat.gcd a b := ⟨_, rfl⟩
  rw [← hgd] at hs HG ⊢
  have HGD := Lib.hid hgd
  clear hgd
  go_enter Tryz.func51, Tryz.ntmps51
  go_wp2_with fail
  refine s1.out.mono ?_
  rintro e w' ⟨rfl, rfl⟩
  go_wp2_with fail
  refine s2.out.mono ?_
  rintro e w' ⟨rfl, rfl⟩
  go_wp2_with fail
  refine t1.out.mono ?_
  rintro e w' ⟨rfl, rfl⟩
  go_wp2_with fail
  refine t2.out.mono ?_
  rintro e w' ⟨rfl, rfl⟩
  go_wp2_with fail
  refine (hs.out _).mono ?_
  rintro e w1 ⟨sa, sb, sc, sd, so, rfl, hEI, hb1⟩
  have HE := Lib.hid hEI
  have hsa := Lib.hid (show sa < 1000000000000000000 by have := hEI.2.1; have := HBL.out; omega)
  have HB1 := Lib.hid (hb1.alloc hb1.size (.cells #[.int .u64 (sa : Int), .int .u64 (sb : Int), .int .u64 (sc : Int), .int .u64 (sd : Int), .bool so] 98))
  clear hb1 s1 s2 t1 t2 hEI
  unfold Stp
  go_wp2
  go_region_with (first | (go_at_call 78; (with_reducible refine (hlo.out g HG.out _).mono ?_); rintro e w2 ⟨v, rfl, ho2, hb2⟩; obtain ⟨hc2, hf2⟩ := (⟨fun b o h => hb2.cell (p := ⟨b, o, none⟩) h, fun b o h => hb2.frozen (p := ⟨b, o, none⟩) h⟩ : (∀ b o, _ → _) ∧ (∀ b o, _ → _)); have hq2 : w1.heap.size < w2.heap.size := (by have := hb2.size; (try simp at this); omega)) | (go_at_call 78; (with_reducible refine (hlo.out sa hsa.out _).mono ?_); rintro e w3 ⟨u, rfl, ho3, hb3⟩; obtain ⟨hc3, hf3⟩ := (⟨fun b o h => hb3.cell (p := ⟨b, o, none⟩) h, fun b o h => hb3.frozen (p := ⟨b, o, none⟩) h⟩ : (∀ b o, _ → _) ∧ (∀ b o, _ → _)); have hq3 : w1.heap.size < w3.heap.size := (by have := hb3.size; omega)))
  all_goals
    have hb2' : Below w.heap.size w w2 := by
      first | exact HB1.out.trans (hb2.mono HB1.out.size) | exact HB1.out.drew.trans (hb2.mono HB1.out.drew.size)
    have hb3' : Below w.heap.size w w3 := hb2'.trans (hb3.mono hb2'.size)
    have hov : Own .u64 82 w.heap.size w3 v (digs g) := (ho2.below hb3).mono HB1.out.size
    have hou : Own .u64 82 w.heap.size w3 u (digs sa) := ho3.mono hb2'.size
    have HOV := Lib.hid hov
    have HOU := Lib.hid hou
    have HB3 := Lib.hid hb3'
    clear ho2 ho3 hb2 hb3 hov hou hb2' hb3' hc2 hf2 hc3 hf3
    go_wp2
    go_ret3
    refine ⟨v, u, sa, so, rfl, HOV.out, HOU.out, ?_, ?_, HB3.out⟩
    · obtain ⟨⟨_, _, _, e1, e2⟩, _⟩ := HE.out
      cases so with
      | false =>
        have h := (e2 rfl).1
        refine ⟨(sb : Int), ?_⟩
        rw [HGD.out] at h ⊢
        have h2 : (sa : Int) * (a : Int) = (sb : Int) * (b : Int) + (Nat.gcd a b : Int) := by exact_mod_cast h
        simp only [Bool.false_eq_true, if_false]
        omega
      | true =>
        have h := (e1 rfl).1
        refine ⟨-(sb : Int), ?_⟩
        rw [HGD.out] at h ⊢
        have h2 : (sb : Int) * (b : Int) = (sa : Int) * (a : Int) + (Nat.gcd a b : Int) := by exact_mod_cast h
        simp only [if_true]
        rw [Int.neg_mul, Int.neg_mul]
        omega
    · have h := HE.out.2.1
      have hb0 := HB0.out
      rcases h with h | h
      · have h1 := digs_length_mono h
        rw [digs_one] at h1
        simp at h1
        omega
      · have := digs_length_mono h
        omega

end Go.Proofs.YtohaocgbclpknaaGreatDoor
