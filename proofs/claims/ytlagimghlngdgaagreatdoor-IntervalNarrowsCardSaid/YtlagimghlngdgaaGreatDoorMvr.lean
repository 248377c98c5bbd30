/- Texts of this proof, one behind the other. -/
import Derived.Test.YtlagimghlngdgaaGreatDoorMvo
/- garboardlaw04.pick: a number of an interval. -/
namespace Go.Proofs.YtlagimghlngdgaaGreatDoor
open Go.RowKit Go.Gb

theorem xHas_zero (c d : Rat) (r : Bool) (hr : decide (c ≤ 0 ∧ 0 ≤ d) = r) (h : c ≤ d) (hc : FitQ c) (hd : FitQ d) (w : World) (hl : La w) :
    Calls Tryz.prog 36 #[.agg #[.string (Sq c), .string (Sq d)], .string ⟨#[48]⟩] w fun e w' => e = .returned (.bool r) ∧ Below w.heap.size w w' := by
  have h1 := xHas c d 0 r hr h hc hd fq00 w hl
  rwa [q_0] at h1
/-- So many ninths of the way. -/
theorem pick_in (x y : Rat) (j : Int) (_h0 : 0 ≤ j) (_h1 : j ≤ 255) (h : x ≤ y) (m1 : SmQ 40 x) (m2 : SmQ 40 y) :
    ∃ p, p = x + (y - x) * Rat.divInt (j % 10) 9 ∧ x ≤ p ∧ p ≤ y ∧ SmQ 130 p := by
  refine ⟨_, rfl, ?_⟩
  have hm : SmQ 1 (Rat.divInt (j % 10) 9) := smq_divInt (by decide) (by unfold Sm; omega) (by unfold Sm; decide)
  have hk : 0 ≤ Rat.divInt (j % 10) 9 ∧ Rat.divInt (j % 10) 9 ≤ 1 := by
    rw [Rat.divInt_eq_div]
    have hn : (0 : Rat) ≤ ((j % 10 : Int) : Rat) := by
      have : (0 : Int) ≤ j % 10 := by omega
      exact_mod_cast this
    have hu : ((j % 10 : Int) : Rat) ≤ 9 := by
      have : j % 10 ≤ (9 : Int) := by omega
      exact_mod_cast this
    generalize ((j % 10 : Int) : Rat) = t at *
    have e : t / ((9 : Int) : Rat) = t * (1/9) := by
      rw [Rat.div_def]
      congr 1
      rw [Rat.div_def, Rat.one_mul]
      rfl
    rw [e]
    constructor <;> grind
  generalize Rat.divInt (j % 10) 9 = t at *
  have k1 := Rat.mul_nonneg (show 0 ≤ y - x by grind) hk.1
  have k2 := Rat.mul_nonneg (show 0 ≤ y - x by grind) (show 0 ≤ 1 - t by grind)
  refine ⟨by grind, by grind, ?_⟩
  exact (m1.add ((m2.sub m1).mul hm)).mono (by decide)

theorem digit_text (r : Int) (h0 : 0 ≤ r) (h1 : r < 10) : Sz r = ⟨#[UInt8.ofNat (48 + r.toNat)]⟩ := by
  obtain ⟨n, rfl⟩ : ∃ n : Nat, r = (n : Int) := ⟨r.toNat, by omega⟩
  have hn : n < 10 := by omega
  clear h0 h1
  match n, hn with
  | 0, _ => decide +kernel
  | 1, _ => decide +kernel
  | 2, _ => decide +kernel
  | 3, _ => decide +kernel
  | 4, _ => decide +kernel
  | 5, _ => decide +kernel
  | 6, _ => decide +kernel
  | 7, _ => decide +kernel
  | 8, _ => decide +kernel
  | 9, _ => decide +kernel
  | n + 10, h => omega

set_option maxHeartbeats 4000000 in
set_option maxRecDepth 100000 in
theorem pick_any (x y p : Rat) (j : Int) (h0 : 0 ≤ j) (h1 : j ≤ 255) (hp : p = x + (y - x) * Rat.divInt (j % 10) 9) (sx : (Sq x).size ≤ 40) (sy : (Sq y).size ≤ 40) (w : World) (hl : La w) :
    Calls Tryz.prog 35 #[.agg #[.string (Sq x), .string (Sq y)], .int .u8 j] w fun e w' => e = .returned (.string (Sq p)) ∧ Below w.heap.size w w' := by
  have m1 := smq_of sx (by decide)
  have m2 := smq_of sy (by decide)
  obtain ⟨r, hr⟩ : ∃ r : Int, r = j % 10 := ⟨_, rfl⟩
  rw [← hr] at hp
  have r0 : 0 ≤ r := by omega
  have r1 : r < 10 := by omega
  have hm : SmQ 1 (Rat.divInt r 9) := smq_divInt (by decide) (by unfold Sm; omega) (by unfold Sm; decide)
  obtain ⟨d, hd⟩ : ∃ d, y - x = d := ⟨_, rfl⟩
  obtain ⟨t, ht⟩ : ∃ t, Rat.divInt r 9 = t := ⟨_, rfl⟩
  obtain ⟨v, hv⟩ : ∃ v, d * t = v := ⟨_, rfl⟩
  have kd : SmQ 81 d := by rw [← hd]; exact m2.sub m1
  have kt : SmQ 1 t := by rw [← ht]; exact hm
  have kv : SmQ 82 v := by rw [← hv]; exact kd.mul kt
  rw [hd, ht, hv] at hp
  have C1 := Lib.hid (fun W hW => qSub y x d hd (m2.fit (by decide)) (m1.fit (by decide)) W hW)
  have C2 := Lib.hid (show ∀ W, La W → Calls Tryz.prog 25 #[.string ⟨#[UInt8.ofNat (48 + r.toNat)]⟩, .string ⟨#[57]⟩] W fun e w' => e = .returned (.tuple #[.string (Sq t), .int .i64 0]) ∧ Below W.heap.size W w' from fun W hW => by
    have h := qMake r 9 (by decide) (flS (by omega)) (flS (by decide)) W hW
    rwa [digit_text r r0 r1, show Sz 9 = ⟨#[57]⟩ by decide +kernel, ht] at h)
  have C3 := Lib.hid (fun W hW => qMul d t v hv (kd.fit (by decide)) (kt.fit (by decide)) W hW)
  have C4 := Lib.hid (fun W hW => qAdd x v p hp.symm (m1.fit (by decide)) (kv.fit (by decide)) W hW)
  have HT := Lib.hid hl
  have HI := Lib.hid (iv_box w (Sq x) (Sq y))
  have B0 := Lib.hid (below_alloc w (.cells #[.string (Sq x), .string (Sq y)] 48))
  clear hl hp hv ht hd hm kd kt kv m1 m2 sx sy
  obtain ⟨ch, hch⟩ : ∃ ch, UInt8.ofNat (48 + r.toNat) = ch := ⟨_, rfl⟩
  rw [hch] at C2
  have hdig : ∀ h, (({ data := #[48, 49, 50, 51, 52, 53, 54, 55, 56, 57] } : ByteArray)[(j % 10).toNat]'h) = ch := by
    rw [← hr, ← hch]
    intro h
    obtain ⟨m, rfl⟩ : ∃ m : Nat, r = (m : Int) := ⟨r.toNat, by omega⟩
    have hm : m < 10 := by omega
    clear hr C2 C3 C4 C1 hch
    match m, hm with
    | 0, _ => rfl
    | 1, _ => rfl
    | 2, _ => rfl
    | 3, _ => rfl
    | 4, _ => rfl
    | 5, _ => rfl
    | 6, _ => rfl
    | 7, _ => rfl
    | 8, _ => rfl
    | 9, _ => rfl
    | m + 10, h => omega
  go_enter Tryz.func35, Tryz.ntmps35
  obtain ⟨_, c0, c1⟩ := HI.out
  go_wp2_with fail
  refine (C1.out _ (HT.out.on B0.out)).mono ?_
  rintro e w1 ⟨rfl, hb⟩
  have B1 := Lib.hid (B0.out.trans (hb.mono B0.out.size))
  have V1 := Lib.hid (HI.out.mono hb)
  clear hb c0 c1
  obtain ⟨_, c0, c1⟩ := V1.out
  go_wp2_with fail
  have hcv : (convert 103 9 (.slice (some ⟨w1.heap.size, 0, none⟩) 1 1)).run Tryz.prog (w1.alloc (.cells #[.int .u8 (ch.toNat : Int)] 5)) = .ok (.string ⟨#[ch]⟩) (w1.alloc (.cells #[.int .u8 (ch.toNat : Int)] 5)) :=
    run_convert_bytes_back (P := Tryz.prog) _ 103 9 5 ⟨w1.heap.size, 0, none⟩ 1 [ch] Tryz.underlying103 Tryz.underlying5 Tryz.underlying9 (fun j hj => by
      obtain rfl : j = 0 := by simpa using hj
      exact (q_new rfl).trans rfl)
  rw [hcv]
  have B2 := Lib.hid (B1.out.alloc B1.out.size (.cells #[.int .u8 (ch.toNat : Int)] 5))
  have V2 := Lib.hid (V1.out.al (.cells #[.int .u8 (ch.toNat : Int)] 5))
  clear hcv c0 c1
  go_wp2_with fail
  refine (C2.out _ (HT.out.on B2.out)).mono ?_
  rintro e w2 ⟨rfl, hb⟩
  have B3 := Lib.hid (B2.out.trans (hb.mono B2.out.size))
  have V3 := Lib.hid (V2.out.mono hb)
  clear hb B2 V2
  go_wp2_with fail
  refine (C3.out _ (HT.out.on B3.out)).mono ?_
  rintro e w3 ⟨rfl, hb⟩
  have B4 := Lib.hid (B3.out.trans (hb.mono B3.out.size))
  have V4 := Lib.hid (V3.out.mono hb)
  clear hb B3 V3
  obtain ⟨_, c0, c1⟩ := V4.out
  go_wp2_with fail
  refine (C4.out _ (HT.out.on B4.out)).mono ?_
  rintro e w4 ⟨rfl, hb⟩
  have B5 := Lib.hid (B4.out.trans (hb.mono B4.out.size))
  go_wp2
  go_ret
  exact ⟨rfl, B5.out⟩

end Go.Proofs.YtlagimghlngdgaaGreatDoor
/- garboardlaw04.near; Round of what is not valid. -/
namespace Go.Proofs.YtlagimghlngdgaaGreatDoor
open Go.RowKit Go.Gb

theorem xRound_no (l h : ByteArray) (n : Int) (w : World) (hl : La w) (g : ∀ W, La W → Calls Tryz.prog 34 #[.agg #[.string l, .string h]] W fun e w' => e = .returned (.bool false) ∧ Below W.heap.size W w') :
    Calls Tryz.prog 45 #[.agg #[.string l, .string h], .int .i64 n] w fun e w' => e = .returned (.tuple #[.agg #[.string ⟨#[]⟩, .string ⟨#[]⟩], .int .i64 1]) ∧ Below w.heap.size w w' :=
  iRound_no_raw l h n w hl g
theorem sm_n {n : Int} (h1 : 1 ≤ n) (h2 : n ≤ 65535) : Sm 10 n.natAbs := by unfold Sm; omega
/-- The ends of a rounded interval, and their sizes. -/
theorem round_sm {a1 a2 : Rat} {n : Int} (h1 : 1 ≤ n) (h2 : n ≤ 65535) (m1 : SmQ 40 a1) (m2 : SmQ 40 a2) : SmQ 60 (rdQ a1 n) ∧ SmQ 60 (0 - rdQ (0 - a2) n) := by
  have z : SmQ 1 (0 : Rat) := ⟨by unfold Sm; decide +kernel, by unfold Sm; decide +kernel⟩
  refine ⟨(sm_rd m1 (sm_n h1 h2) (by omega)).mono (by decide), ?_⟩
  exact (z.sub (sm_rd (z.sub m2) (sm_n h1 h2) (by omega))).mono (by decide)
theorem round_in {a1 a2 : Rat} {n : Int} (h1 : 1 ≤ n) : rdQ a1 n ≤ a1 ∧ a2 ≤ 0 - rdQ (0 - a2) n := by
  have k1 := rdQ_le a1 h1
  have k2 := rdQ_le (0 - a2) h1
  exact ⟨k1, by grind⟩
theorem round_again {a1 a2 : Rat} {n : Int} (h1 : 1 ≤ n) : rdQ (rdQ a1 n) n = rdQ a1 n ∧ 0 - rdQ (0 - (0 - rdQ (0 - a2) n)) n = 0 - rdQ (0 - a2) n := by
  refine ⟨rdQ_again a1 h1, ?_⟩
  rw [show 0 - (0 - rdQ (0 - a2) n) = rdQ (0 - a2) n by grind, rdQ_again (0 - a2) h1]
theorem round_near {a1 a2 : Rat} {n : Int} (h1 : 1 ≤ n) : (0 ≤ (a1 - rdQ a1 n) * Rat.ofInt n ∧ (a1 - rdQ a1 n) * Rat.ofInt n < 1) ∧ (0 ≤ ((0 - rdQ (0 - a2) n) - a2) * Rat.ofInt n ∧ ((0 - rdQ (0 - a2) n) - a2) * Rat.ofInt n < 1) := by
  refine ⟨rdQ_near a1 h1, ?_⟩
  rw [show 0 - rdQ (0 - a2) n - a2 = (0 - a2) - rdQ (0 - a2) n by grind]
  exact rdQ_near (0 - a2) h1

set_option maxHeartbeats 4000000 in
set_option maxRecDepth 100000 in
theorem near_yes (x y : Rat) (n : Int) (n1 : 1 ≤ n) (n2 : n ≤ 65535) (mx : SmQ 60 x) (my : SmQ 60 y) (h : 0 ≤ (x - y) * Rat.ofInt n ∧ (x - y) * Rat.ofInt n < 1) (w : World) (hl : La w) :
    Calls Tryz.prog 46 #[.string (Sq x), .string (Sq y), .int .i64 n] w fun e w' => e = .returned (.bool true) ∧ Below w.heap.size w w' := by
  obtain ⟨d, hd⟩ : ∃ d, x - y = d := ⟨_, rfl⟩
  obtain ⟨s, hs⟩ : ∃ s, d * Rat.ofInt n = s := ⟨_, rfl⟩
  have kd : SmQ 121 d := by rw [← hd]; exact mx.sub my
  have kn : SmQ 10 (Rat.ofInt n) := sm_int (sm_n n1 n2) (by decide)
  have ks : SmQ 131 s := by rw [← hs]; exact kd.mul kn
  rw [hd, hs] at h
  have C1 := Lib.hid (fun W hW => qSub x y d hd (mx.fit (by decide)) (my.fit (by decide)) W hW)
  have C2 := Lib.hid (fun W hW => itoaB n (by omega) (by omega) W hW)
  have C3 := Lib.hid (show ∀ W, La W → Calls Tryz.prog 19 #[.string (Sq d), .string (Sz n)] W fun e w' => e = .returned (.tuple #[.string (Sq s), .int .i64 0]) ∧ Below W.heap.size W w' from fun W hW => by
    have h := qMul d (Rat.ofInt n) s hs (kd.fit (by decide)) (kn.fit (by decide)) W hW
    rwa [sq_ofInt] at h)
  obtain ⟨c, hc, hc2⟩ : ∃ c, cmpQ s 0 = c ∧ 0 ≤ c := by
    rcases cmpQ_cases s 0 with ⟨h2, e⟩ | ⟨h2, e⟩ | ⟨h2, e⟩
    · exact absurd h2 (by grind)
    · exact ⟨_, e, by decide⟩
    · exact ⟨_, e, by decide⟩
  have C4 := Lib.hid (show ∀ W, La W → Calls Tryz.prog 21 #[.string (Sq s), .string ⟨#[48]⟩] W fun e w' => e = .returned (.tuple #[.int .i64 c, .int .i64 0]) ∧ Below W.heap.size W w' from fun W hW => by
    have h := qCompare s 0 c hc (ks.fit (by decide)) fq00 W hW
    rwa [q_0] at h)
  have C5 := Lib.hid (show ∀ W, La W → Calls Tryz.prog 21 #[.string (Sq s), .string ⟨#[49]⟩] W fun e w' => e = .returned (.tuple #[.int .i64 (-1), .int .i64 0]) ∧ Below W.heap.size W w' from fun W hW => by
    have h := qCompare s 1 (-1) (cmpQ_lt h.2) (ks.fit (by decide)) (fitq_small (by decide +kernel) (by decide +kernel)) W hW
    rwa [q_1] at h)
  have HT := Lib.hid hl
  clear hl hc hs hd h kd kn ks mx my
  have HB0 := Lib.hid (Below.refl w.heap.size w)
  go_enter Tryz.func46, Tryz.ntmps46
  go_wp2_with fail
  refine (C1.out _ (HT.out.on HB0.out)).mono ?_
  rintro e w1 ⟨rfl, hb⟩
  have HB1 := Lib.hid (HB0.out.trans (hb.mono HB0.out.size))
  clear hb
  go_wp2_with fail
  refine (C2.out _ (HT.out.on HB1.out)).mono ?_
  rintro e w2 ⟨rfl, hb⟩
  have HB2 := Lib.hid (HB1.out.trans (hb.mono HB1.out.size))
  clear hb
  go_wp2_with fail
  refine (C3.out _ (HT.out.on HB2.out)).mono ?_
  rintro e w3 ⟨rfl, hb⟩
  have HB3 := Lib.hid (HB2.out.trans (hb.mono HB2.out.size))
  clear hb
  go_wp2_with fail
  refine (C4.out _ (HT.out.on HB3.out)).mono ?_
  rintro e w4 ⟨rfl, hb⟩
  have HB4 := Lib.hid (HB3.out.trans (hb.mono HB3.out.size))
  clear hb
  go_wp2_with fail
  refine (C5.out _ (HT.out.on HB4.out)).mono ?_
  rintro e w5 ⟨rfl, hb⟩
  have HB5 := Lib.hid (HB4.out.trans (hb.mono HB4.out.size))
  clear hb
  go_wp2
  go_ret
  exact ⟨rfl, HB5.out⟩

end Go.Proofs.YtlagimghlngdgaaGreatDoor
/- slices.Contains of four numbers. -/
namespace Go.Proofs.YtlagimghlngdgaaGreatDoor
open Go.RowKit Go.Gb

/-- Block g holds a row of numbers. -/
def Rw (g : Nat) (xs : List ByteArray) (W : World) : Prop := g < W.heap.size ∧ ∀ i x, xs[i]? = some x → W.cell? ⟨g, i, none⟩ = some (.string x)
theorem Rw.mono {g : Nat} {xs : List ByteArray} {W W' : World} (h : Rw g xs W) (hb : Below W.heap.size W W') : Rw g xs W' :=
  ⟨Nat.lt_of_lt_of_le h.1 hb.size, fun i x hx => (hb.cell (p := ⟨g, i, none⟩) h.1).trans (h.2 i x hx)⟩

theorem bytes_ne {a b : ByteArray} (h : a ≠ b) : (a.toList == b.toList) = false := by
  rw [toList_data, toList_data, beq_eq_false_iff_ne]
  intro e
  exact h (by
    cases a; cases b
    simp only at e
    rw [Array.toList_inj] at e
    rw [e])
set_option maxHeartbeats 4000000 in
theorem contains_at0 (g c : Nat) (s1 s2 s3 x : ByteArray) (w : World)  (hr : Rw g [x, s1, s2, s3] w) (hc : 4 ≤ c) :
    Calls Tryz.prog 44 #[.slice (some ⟨g, 0, none⟩) 4 c, .string x] w fun e w' => e = .returned (.bool true) ∧ w = w' := by
  have c0 := hr.2 0 _ rfl
  have c1 := hr.2 1 _ rfl
  have c2 := hr.2 2 _ rfl
  have c3 := hr.2 3 _ rfl
  clear hr
  have hc' : (4 : Int) ≤ (c : Int) := by omega
  go_enter Tryz.func44, Tryz.ntmps44
  go_wp2
  refine wp_loop_rounds 5 ?_
  rw [rounds_succ]
  go_wp2
  go_ret
  exact ⟨rfl, rfl⟩

set_option maxHeartbeats 4000000 in
theorem contains_at1 (g c : Nat) (s0 s2 s3 x : ByteArray) (w : World) (n0 : (x.toList == s0.toList) = false) (hr : Rw g [s0, x, s2, s3] w) (hc : 4 ≤ c) :
    Calls Tryz.prog 44 #[.slice (some ⟨g, 0, none⟩) 4 c, .string x] w fun e w' => e = .returned (.bool true) ∧ w = w' := by
  have c0 := hr.2 0 _ rfl
  have c1 := hr.2 1 _ rfl
  have c2 := hr.2 2 _ rfl
  have c3 := hr.2 3 _ rfl
  clear hr
  have hc' : (4 : Int) ≤ (c : Int) := by omega
  go_enter Tryz.func44, Tryz.ntmps44
  go_wp2
  refine wp_loop_rounds 5 ?_
  rw [rounds_succ]
  go_wp2
  rw [rounds_succ]
  go_wp2
  go_ret
  exact ⟨rfl, rfl⟩

set_option maxHeartbeats 4000000 in
theorem contains_at2 (g c : Nat) (s0 s1 s3 x : ByteArray) (w : World) (n0 : (x.toList == s0.toList) = false) (n1 : (x.toList == s1.toList) = false) (hr : Rw g [s0, s1, x, s3] w) (hc : 4 ≤ c) :
    Calls Tryz.prog 44 #[.slice (some ⟨g, 0, none⟩) 4 c, .string x] w fun e w' => e = .returned (.bool true) ∧ w = w' := by
  have c0 := hr.2 0 _ rfl
  have c1 := hr.2 1 _ rfl
  have c2 := hr.2 2 _ rfl
  have c3 := hr.2 3 _ rfl
  clear hr
  have hc' : (4 : Int) ≤ (c : Int) := by omega
  go_enter Tryz.func44, Tryz.ntmps44
  go_wp2
  refine wp_loop_rounds 5 ?_
  rw [rounds_succ]
  go_wp2
  rw [rounds_succ]
  go_wp2
  rw [rounds_succ]
  go_wp2
  go_ret
  exact ⟨rfl, rfl⟩

set_option maxHeartbeats 4000000 in
theorem contains_at3 (g c : Nat) (s0 s1 s2 x : ByteArray) (w : World) (n0 : (x.toList == s0.toList) = false) (n1 : (x.toList == s1.toList) = false) (n2 : (x.toList == s2.toList) = false) (hr : Rw g [s0, s1, s2, x] w) (hc : 4 ≤ c) :
    Calls Tryz.prog 44 #[.slice (some ⟨g, 0, none⟩) 4 c, .string x] w fun e w' => e = .returned (.bool true) ∧ w = w' := by
  have c0 := hr.2 0 _ rfl
  have c1 := hr.2 1 _ rfl
  have c2 := hr.2 2 _ rfl
  have c3 := hr.2 3 _ rfl
  clear hr
  have hc' : (4 : Int) ≤ (c : Int) := by omega
  go_enter Tryz.func44, Tryz.ntmps44
  go_wp2
  refine wp_loop_rounds 5 ?_
  rw [rounds_succ]
  go_wp2
  rw [rounds_succ]
  go_wp2
  rw [rounds_succ]
  go_wp2
  rw [rounds_succ]
  go_wp2
  go_ret
  exact ⟨rfl, rfl⟩

theorem contains_4 (g c : Nat) (s0 s1 s2 s3 x : ByteArray) (w : World) (h : x = s0 ∨ x = s1 ∨ x = s2 ∨ x = s3) (hr : Rw g [s0, s1, s2, s3] w) (hc : 4 ≤ c) :
    Calls Tryz.prog 44 #[.slice (some ⟨g, 0, none⟩) 4 c, .string x] w fun e w' => e = .returned (.bool true) ∧ w = w' := by
  by_cases h0 : x = s0
  · subst h0; exact contains_at0 g c s1 s2 s3 x w hr hc
  · by_cases h1 : x = s1
    · subst h1; exact contains_at1 g c s0 s2 s3 x w (bytes_ne h0) hr hc
    · by_cases h2 : x = s2
      · subst h2; exact contains_at2 g c s0 s1 s3 x w (bytes_ne h0) (bytes_ne h1) hr hc
      · obtain rfl : x = s3 := by
          rcases h with h | h | h | h
          · exact absurd h h0
          · exact absurd h h1
          · exact absurd h h2
          · exact h
        exact contains_at3 g c s0 s1 s2 x w (bytes_ne h0) (bytes_ne h1) (bytes_ne h2) hr hc

end Go.Proofs.YtlagimghlngdgaaGreatDoor
