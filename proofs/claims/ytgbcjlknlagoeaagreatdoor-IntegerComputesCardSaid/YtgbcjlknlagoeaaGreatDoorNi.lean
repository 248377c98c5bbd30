/- words.allSteps with whatever its rounds keep: walks. -/
import Derived.Test.YtgbcjlknlagoeaaGreatDoorMne
import Derived.Deep.RegionWith
namespace Go.Proofs.YtgbcjlknlagoeaaGreatDoor
open Go.RowKit Go.Gb

set_option maxHeartbeats 2000000 in
set_option maxRecDepth 100000 in
theorem allSteps_inv (x0 y0 : Nat) (hx : x0 < 1000000000000000000) (hy : y0 < 1000000000000000000) (I : Nat → Nat → Nat → Nat → Nat → Nat → Bool → Prop) (h0 : I x0 y0 1 0 0 1 false)
    (hstep : ∀ x y a b c d o, 0 < y → EuInv x0 y0 x y a b c d o → I x y a b c d o → I y (x % y) c d (a + x / y * c) (b + x / y * d) (!o)) (w : World) :
    Calls Tryz.prog 119 #[.int .u64 (x0 : Int), .int .u64 (y0 : Int)] w fun e w' => ∃ (a b c d : Nat) (o : Bool), e = .returned (.tuple #[.int .u64 ((Nat.gcd x0 y0 : Nat) : Int), Stp a b c d o]) ∧ (EuInv x0 y0 (Nat.gcd x0 y0) 0 a b c d o ∧ I (Nat.gcd x0 y0) 0 a b c d o) ∧ Below w.heap.size w w' := by
  have hs0 : Sb ((w.alloc (.cells #[.int .u64 0, .int .u64 0, .int .u64 0, .int .u64 0, .bool false] 117)).alloc (.cells #[.int .u64 1, .int .u64 0, .int .u64 0, .int .u64 1, .bool false] 117)) (w.heap.size + 1) 1 0 0 1 false := by
    unfold Sb
    have := heap_alloc_new (w.alloc (.cells #[.int .u64 0, .int .u64 0, .int .u64 0, .int .u64 0, .bool false] 117)) (.cells #[.int .u64 1, .int .u64 0, .int .u64 0, .int .u64 1, .bool false] 117)
    rw [World.size_alloc] at this
    exact this
  have hr0 : Sb ((w.alloc (.cells #[.int .u64 0, .int .u64 0, .int .u64 0, .int .u64 0, .bool false] 117)).alloc (.cells #[.int .u64 1, .int .u64 0, .int .u64 0, .int .u64 1, .bool false] 117)) w.heap.size 0 0 0 0 false := by
    unfold Sb
    rw [Below.heap_alloc _ _ _ (by simp), heap_alloc_new]
    rfl
  have HS0 := Lib.hid hs0
  have HR0 := Lib.hid hr0
  have HN0 := Lib.hid (((Below.refl w.heap.size w).alloc (Nat.le_refl _) (.cells #[.int .u64 0, .int .u64 0, .int .u64 0, .int .u64 0, .bool false] 117)).alloc (by simp) (.cells #[.int .u64 1, .int .u64 0, .int .u64 0, .int .u64 1, .bool false] 117))
  have HI0 := Lib.hid h0
  have HI := Lib.hid hstep
  clear h0 hstep
  have HX := Lib.hid hx
  have HY := Lib.hid hy
  clear hs0 hr0 hx hy
  go_enter Tryz.func119, Tryz.ntmps119
  go_wp2
  go_loopw [0, 1] (fun xx yy wr => ∃ (x y a b c d : Nat) (o : Bool), xx = .int .u64 (x : Int) ∧ yy = .int .u64 (y : Int) ∧ Hid (EuInv x0 y0 x y a b c d o ∧ I x y a b c d o) ∧ Hid (x ≤ 1000000000000000000 ∧ y ≤ 1000000000000000000) ∧ Hid (Sb wr (w.heap.size + 1) a b c d o) ∧ Hid (Sb wr w.heap.size 0 0 0 0 false) ∧ Hid (Below w.heap.size w wr)) (fun _ yy _ => (intOf yy).toNat)
  case atStart => exact ⟨x0, y0, 1, 0, 0, 1, false, rfl, rfl, ⟨EuInv.start x0 y0, HI0.out⟩, ⟨Nat.le_of_lt HX.out, Nat.le_of_lt HY.out⟩, HS0, HR0, HN0⟩
  case round =>
    obtain ⟨x, y, a, b, c, d, o, rfl, rfl, hE, hxy, hS, hR, hn⟩ := hrel
    clear HS0 HR0 HN0 HI0
    by_cases hy0 : 0 < y
    · have hbd := hE.out.1.step.bound hy0
      have h1 : a + x / y * c ≤ 2000000000000000000 := by have := HY.out; omega
      have h2 : b + x / y * d ≤ 2000000000000000000 := by have := HX.out; omega
      obtain ⟨a', ha'⟩ : ∃ a' : Nat, a' = a + x / y * c := ⟨_, rfl⟩
      obtain ⟨b', hb'⟩ : ∃ b' : Nat, b' = b + x / y * d := ⟨_, rfl⟩
      have hW := Lib.hid (show ∀ W, Calls Tryz.prog 145 #[.agg #[.int .u64 (a : Int), .int .u64 (b : Int), .int .u64 (c : Int), .int .u64 (d : Int), .bool o], .int .u64 ((x : Int) / (y : Int))] W fun e w' => e = .returned (.agg #[.int .u64 (c : Int), .int .u64 (d : Int), .int .u64 (a' : Int), .int .u64 (b' : Int), .bool (!o)]) ∧ Below W.heap.size W w' from fun W => by rw [ha', hb']; exact with_any a b c d (x / y) o h1 h2 W)
      have HA' := Lib.hid ha'
      have HB' := Lib.hid hb'
      clear ha' hb'
      obtain ⟨c0, c1, c2, c3, c4⟩ := sb_cells hS.out
      have hS' := Lib.hid (show Sb wr.drew (w.heap.size + 1) a b c d o from hS.out)
      have y1 : (1 : Int) ≤ (y : Int) := by omega
      have yz : ((y : Int) == 0) = false := beq_eq_false_iff_ne.2 (by omega)
      have hq64 : x / y < 18446744073709551616 := Nat.lt_of_le_of_lt (Nat.div_le_self x y) (by have := hxy.out.1; omega)
      have hwq : IntKind.u64.wrap ((x : Int) / (y : Int)) = (x : Int) / (y : Int) := IntWalk.u64_in _ ⟨Int.natCast_nonneg (x / y), by have := (Int.ofNat_lt.2 hq64); omega⟩
      have htm : (x : Int).tmod (y : Int) = (x : Int) % (y : Int) := rfl
      clear hq64 h1 h2 hbd
      go_wp2
      go_region_with (go_at_call 145; go_must (refine (hW.out _).mono ?_; rintro e w1 ⟨rfl, hb1⟩; obtain ⟨s0, s1, s2, s3, s4⟩ := sb_cells (sb_below hS'.out hb1); have f0 := sb_free (sb_below hS'.out hb1) 0; have f1 := sb_free (sb_below hS'.out hb1) 1; have f2 := sb_free (sb_below hS'.out hb1) 2; have f3 := sb_free (sb_below hS'.out hb1) 3; have f4 := sb_free (sb_below hS'.out hb1) 4))
      all_goals
        have hS1 := sb_below hS'.out hb1
        have hR1 := sb_below (show Sb wr.drew w.heap.size 0 0 0 0 false from hR.out) hb1
        have hS2 := Lib.hid (sb_set5 hS1 c d a' b' (!o))
        have hR2 := Lib.hid (sb_set5_other (g := w.heap.size + 1) hR1 (by omega) c d a' b' (!o))
        have hn2 := Lib.hid (below_set5 (hn.out.drew.trans (hb1.mono (show w.heap.size ≤ wr.drew.heap.size from hn.out.size))) (g := w.heap.size + 1) (by omega) c d a' b' (!o))
        have hE2 := (⟨hE.out.1.step, HI.out _ _ _ _ _ _ _ hy0 hE.out.1 hE.out.2⟩ : _ ∧ _)
        rw [← HA'.out, ← HB'.out] at hE2
        have HE2 := Lib.hid hE2
        have hlt := Lib.hid (Nat.mod_lt x hy0)
        have hmd := Lib.hid (Nat.mod_le x y)
        clear hS1 hR1 hE2 s0 s1 s2 s3 s4 f0 f1 f2 f3 f4 hb1 hS' hW c0 c1 c2 c3 c4 hwq
        change Exit.then _ _ Exit.normal _ (set5 w1 (w.heap.size + 1) c d a' b' (!o))
        generalize set5 w1 (w.heap.size + 1) c d a' b' (!o) = w2 at *
        have hxm : (x : Int) % (y : Int) = ((x % y : Nat) : Int) := rfl
        have hmw : IntKind.u64.wrap (((x % y : Nat) : Int)) = ((x % y : Nat) : Int) := IntWalk.u64_in _ (by have := hxy.out.1; have := hmd.out; omega)
        obtain ⟨r, hr⟩ : ∃ r : Nat, r = x % y := ⟨_, rfl⟩
        rw [← hr] at hxm hmw
        have HRr := Lib.hid hr
        clear hr
        go_wp2
        go_quiet (fail)
        have hn3 := Lib.hid (below_drewN' hn2.out nq)
        have hS3 := Lib.hid (show Sb (w2.drewN nq) (w.heap.size + 1) c d a' b' (!o) from hS2.out)
        have hR3 := Lib.hid (show Sb (w2.drewN nq) w.heap.size 0 0 0 0 false from hR2.out)
        go_wp2
        go_roundw
        case rel => exact ⟨y, r, c, d, a', b', !o, rfl, rfl, by rw [HRr.out]; exact HE2, ⟨hxy.out.2, by have := hxy.out.2; have := hlt.out; rw [HRr.out]; omega⟩, hS3, hR3, hn3⟩
        case measure => simp [intOf]; have := hlt.out; have := HRr.out; omega
    · have hy1 : y = 0 := by omega
      subst hy1
      have hg := hE.out.1.2.2.1
      rw [Nat.gcd_zero_right] at hg
      have HG := Lib.hid hg
      clear hg
      have f0 := sb_free hR.out 0
      have f1 := sb_free hR.out 1
      have f2 := sb_free hR.out 2
      have f3 := sb_free hR.out 3
      have f4 := sb_free hR.out 4
      obtain ⟨r0, r1, r2, r3, r4⟩ := sb_cells hR.out
      obtain ⟨c0, c1, c2, c3, c4⟩ := sb_cells hS.out
      go_wp2
      go_region
      have hS2 := Lib.hid (show Sb (set5 wr w.heap.size a b c d o).drew w.heap.size a b c d o from sb_set5 hR.out a b c d o)
      have hn2 := Lib.hid (Below.drew (below_set5 hn.out (g := w.heap.size) (Nat.le_refl _) a b c d o))
      clear f0 f1 f2 f3 f4 r0 r1 r2 r3 r4 c0 c1 c2 c3 c4
      change Exit.then _ _ Exit.normal _ (set5 wr w.heap.size a b c d o).drew
      generalize (set5 wr w.heap.size a b c d o).drew = w2 at *
      obtain ⟨c0, c1, c2, c3, c4⟩ := sb_cells hS2.out
      go_wp2
      refine bodyPost_ret (v := .tuple #[.int .u64 (x : Int), Stp a b c d o]) (by simp [results, Tryz.results119, go_sem, Stp, c0, c1, c2, c3, c4]) rfl ⟨a, b, c, d, o, by rw [HG.out], ?_, hn2.out⟩
      have := hE.out
      rw [HG.out] at this
      exact this

end Go.Proofs.YtgbcjlknlagoeaaGreatDoor
