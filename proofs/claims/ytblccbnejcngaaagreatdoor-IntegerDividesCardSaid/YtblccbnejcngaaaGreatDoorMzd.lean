/- Texts of this proof, one behind the other. -/
import Derived.Test.YtblccbnejcngaaaGreatDoorZd
import Derived.Deep.RegionHeld3
import Derived.Test.YtblccbnejcngaaaGreatDoorMig
/- garboardref02: sums and products of integers as structs. -/
namespace Go.Proofs.YtblccbnejcngaaaGreatDoor
open Go.RowKit Go.Gb

theorem rz_of {w : World} {v : Value} {n : Nat} {z : Int} {r : Bool} (hr : r = decide (z < 0)) (hn : z.natAbs = n) (h : Rd .u32 w v (digs n)) : Rz w (.agg #[.bool r, v]) z := ⟨v, by rw [hr], by rw [hn]; exact h⟩
theorem dn_len (a b : Nat) (h : (digs a).length ≤ 50000) : (digs (a - b)).length ≤ 1000000 := by have := digs_length_mono (Nat.sub_le a b); omega

theorem zPlus (u1 u2 : Value) (x y : Int) (hx : (digs x.natAbs).length ≤ 50000) (hy : (digs y.natAbs).length ≤ 50000) (w : World) (h1 : Rz w u1 x) (h2 : Rz w u2 y) :
    Calls Tryz.prog 59 #[u1, u2] w fun e w' => ∃ u, e = .returned u ∧ Rz w' u (x + y) ∧ Below w.heap.size w w' := by
  obtain ⟨p1, c1, rfl, r1⟩ := rz_form h1
  obtain ⟨p2, c2, rfl, r2⟩ := rz_form h2
  obtain ⟨bx, hbx⟩ : ∃ b, b = decide (x < 0) := ⟨_, rfl⟩
  obtain ⟨by_, hby⟩ : ∃ b, b = decide (y < 0) := ⟨_, rfl⟩
  rw [← hbx, ← hby]
  have hsl := digs_add_len hx hy
  have hC := fun W (hW : Below w.heap.size w W) => RCmp_any _ _ x.natAbs y.natAbs (by omega) W (r1.below hW) (r2.below hW)
  have key : ∀ (b : Bool) (n : Nat), x + y = (if b then -(n : Int) else (n : Int)) → ∀ (Q : Ending → World → Prop) f args, Calls Tryz.prog f args w (fun e w' => ∃ v, e = .returned (.agg #[.bool (decide (x + y < 0)), v]) ∧ Rd .u32 w' v (digs n) ∧ Below w.heap.size w w') → Calls Tryz.prog f args w fun e w' => ∃ u, e = .returned u ∧ Rz w' u (x + y) ∧ Below w.heap.size w w' := by
    intro b n hz _ f args h
    exact h.mono fun e w' ⟨v, e1, e2, e3⟩ => ⟨_, e1, rz_of rfl (abs_sign hz) e2, e3⟩
  cases bx with
  | true =>
    have hx0 : x < 0 := of_decide_eq_true hbx.symm
    cases by_ with
    | true =>
      have hy0 : y < 0 := of_decide_eq_true hby.symm
      have hz : x + y = (if true then -((x.natAbs + y.natAbs : Nat) : Int) else ((x.natAbs + y.natAbs : Nat) : Int)) := by simp; omega
      exact key true _ hz (fun _ _ => True) _ _ (ZPlus_tt p1 _ c1 p2 _ c2 (x.natAbs + y.natAbs) _ _ rfl (by omega) (make_sign hz rfl) w (fun W hW => RPlus_any _ _ _ _ (by omega) (by omega) W (r1.below hW) (r2.below hW)))
    | false =>
      have hy0 : ¬ y < 0 := of_decide_eq_false hby.symm
      rcases Nat.lt_or_ge x.natAbs y.natAbs with h | h
      · have hz : x + y = (if false then -((y.natAbs - x.natAbs : Nat) : Int) else ((y.natAbs - x.natAbs : Nat) : Int)) := by simp; omega
        rw [cmpN_lt h] at hC
        exact key false _ hz (fun _ _ => True) _ _ (ZPlus_tf_lt p1 _ c1 p2 _ c2 (y.natAbs - x.natAbs) _ _ rfl (dn_len _ _ hy) (make_sign hz rfl) w (fun W hW => RMinus_any _ _ _ _ (by omega) (by omega) W (r2.below hW) (r1.below hW)) (-1) (by decide) hC)
      · have hz : x + y = (if true then -((x.natAbs - y.natAbs : Nat) : Int) else ((x.natAbs - y.natAbs : Nat) : Int)) := by simp; omega
        exact key true _ hz (fun _ _ => True) _ _ (ZPlus_tf_ge p1 _ c1 p2 _ c2 (x.natAbs - y.natAbs) _ _ rfl (dn_len _ _ hx) (make_sign hz rfl) w (fun W hW => RMinus_any _ _ _ _ h (by omega) W (r1.below hW) (r2.below hW)) _ (by unfold cmpN; split <;> (try split) <;> omega) hC)
  | false =>
    have hx0 : ¬ x < 0 := of_decide_eq_false hbx.symm
    cases by_ with
    | true =>
      have hy0 : y < 0 := of_decide_eq_true hby.symm
      rcases Nat.lt_or_ge x.natAbs y.natAbs with h | h
      · have hz : x + y = (if true then -((y.natAbs - x.natAbs : Nat) : Int) else ((y.natAbs - x.natAbs : Nat) : Int)) := by simp; omega
        rw [cmpN_lt h] at hC
        exact key true _ hz (fun _ _ => True) _ _ (ZPlus_ft_lt p1 _ c1 p2 _ c2 (y.natAbs - x.natAbs) _ _ rfl (dn_len _ _ hy) (make_sign hz rfl) w (fun W hW => RMinus_any _ _ _ _ (by omega) (by omega) W (r2.below hW) (r1.below hW)) (-1) (by decide) hC)
      · have hz : x + y = (if false then -((x.natAbs - y.natAbs : Nat) : Int) else ((x.natAbs - y.natAbs : Nat) : Int)) := by simp; omega
        exact key false _ hz (fun _ _ => True) _ _ (ZPlus_ft_ge p1 _ c1 p2 _ c2 (x.natAbs - y.natAbs) _ _ rfl (dn_len _ _ hx) (make_sign hz rfl) w (fun W hW => RMinus_any _ _ _ _ h (by omega) W (r1.below hW) (r2.below hW)) _ (by unfold cmpN; split <;> (try split) <;> omega) hC)
    | false =>
      have hy0 : ¬ y < 0 := of_decide_eq_false hby.symm
      have hz : x + y = (if false then -((x.natAbs + y.natAbs : Nat) : Int) else ((x.natAbs + y.natAbs : Nat) : Int)) := by simp; omega
      exact key false _ hz (fun _ _ => True) _ _ (ZPlus_ff p1 _ c1 p2 _ c2 (x.natAbs + y.natAbs) _ _ rfl (by omega) (make_sign hz rfl) w (fun W hW => RPlus_any _ _ _ _ (by omega) (by omega) W (r1.below hW) (r2.below hW)))

theorem times_sign (x y : Int) : x * y = (if (decide (x < 0) != decide (y < 0)) then -((x.natAbs * y.natAbs : Nat) : Int) else ((x.natAbs * y.natAbs : Nat) : Int)) := by
  rw [Int.natCast_mul]
  by_cases hx : x < 0
  · by_cases hy : y < 0
    · have e1 : (x.natAbs : Int) = -x := by omega
      have e2 : (y.natAbs : Int) = -y := by omega
      rw [e1, e2]; simp [hx, hy, Int.neg_mul, Int.mul_neg]
    · have e1 : (x.natAbs : Int) = -x := by omega
      have e2 : (y.natAbs : Int) = y := by omega
      rw [e1, e2]; simp [hx, hy, Int.neg_mul]
  · by_cases hy : y < 0
    · have e1 : (x.natAbs : Int) = x := by omega
      have e2 : (y.natAbs : Int) = -y := by omega
      rw [e1, e2]; simp [hx, hy, Int.mul_neg]
    · have e1 : (x.natAbs : Int) = x := by omega
      have e2 : (y.natAbs : Int) = y := by omega
      rw [e1, e2]; simp [hx, hy]
theorem zTimes (u1 u2 : Value) (x y : Int) (hx : (digs x.natAbs).length ≤ 50000) (hy : (digs y.natAbs).length ≤ 50000) (w : World) (h1 : Rz w u1 x) (h2 : Rz w u2 y) :
    Calls Tryz.prog 33 #[u1, u2] w fun e w' => ∃ u, e = .returned u ∧ Rz w' u (x * y) ∧ Below w.heap.size w w' := by
  obtain ⟨p1, c1, rfl, r1⟩ := rz_form h1
  obtain ⟨p2, c2, rfl, r2⟩ := rz_form h2
  have hml := digs_mul_len x.natAbs y.natAbs
  have hz := times_sign x y
  refine (ZTimes_raw (decide (x < 0)) (decide (y < 0)) p1 _ c1 p2 _ c2 (x.natAbs * y.natAbs) _ (decide (x * y < 0)) rfl (by omega) (make_sign hz rfl) w (fun W hW => RTimes_any _ _ _ _ (by omega) (by omega) W (r1.below hW) (r2.below hW))).mono ?_
  rintro e w' ⟨v, e1, e2, e3⟩
  exact ⟨_, e1, rz_of rfl (abs_sign hz) e2, e3⟩

/-- A store into the block of a struct does not touch words. -/
theorem rd_set_z {w : World} {v : Value} {xs : List Nat} {g : Nat} {b : Bool} {q : Option Addr} {l c : Nat} {T : TypeId} {fz : Nat × Nat} (hg : w.heap[g]? = some (.cells #[.bool b, .slice q l c] T fz)) (h : Rd .u32 w v xs) (i : Nat) (u : Value) : Rd .u32 (w.setCell ⟨g, i, none⟩ u) v xs := by
  rcases h with h | ⟨b', o, c', h1, h2, h3, h4, h5⟩
  · exact Or.inl h
  · refine Or.inr ⟨b', o, c', h1, h2, h3, by simpa [World.setCell] using h4, fun j hj => ?_⟩
    have h6 := h5 j hj
    have hne : b' ≠ g := by
      intro e
      subst e
      simp only [World.cell?, hg] at h6
      match hk : o + j with
      | 0 => rw [hk] at h6; simp at h6
      | 1 => rw [hk] at h6; simp at h6
      | n + 2 => rw [hk] at h6; simp at h6
    exact (wc_ne hne).trans h6

end Go.Proofs.YtblccbnejcngaaaGreatDoor
/- garboardref02: differences, comparisons; Compare, Add, Sub, Mul of texts: walks. -/
namespace Go.Proofs.YtblccbnejcngaaaGreatDoor
open Go.RowKit Go.Gb

theorem heap_keep {W W' : World} {g : Nat} {o : Obj} (h : W.heap[g]? = some o) (hb : Below W.heap.size W W') : W'.heap[g]? = some o := by
  rw [hb.block g (Array.getElem?_eq_some_iff.1 h).1]; exact h
theorem heap_set {W : World} {g i : Nat} {b b' : Bool} {q : Option Addr} {l c : Nat} {T : TypeId} {fz : Nat × Nat} (h : W.heap[g]? = some (.cells #[.bool b, .slice q l c] T fz)) (hi : i = 0) : (W.setCell ⟨g, i, none⟩ (.bool b')).heap[g]? = some (.cells #[.bool b', .slice q l c] T fz) := by
  subst hi
  simp only [World.setCell, Array.getElem?_modify, h]
  simp

set_option maxRecDepth 100000 in
set_option maxHeartbeats 4000000 in
theorem ZMinus_raw (ba bb ob r : Bool) (p1 : Option Addr) (l1 c1 : Nat) (p2 : Option Addr) (l2 c2 : Nat) (m n L : Nat) (w : World)
    (hO : ∀ W, Below w.heap.size w W → Calls Tryz.prog 34 #[.agg #[.bool bb, .slice p2 l2 c2]] W fun e w' => ∃ p c, e = .returned (.agg #[.bool ob, .slice p l2 c]) ∧ Rd .u32 w' (.slice p l2 c) (digs m) ∧ Below W.heap.size W w')
    (hQ : ∀ W p c, Below w.heap.size w W → Rd .u32 W (.slice p l2 c) (digs m) → Calls Tryz.prog 59 #[.agg #[.bool ba, .slice p1 l1 c1], .agg #[.bool ob, .slice p l2 c]] W fun e w' => ∃ p' c', e = .returned (.agg #[.bool r, .slice p' L c']) ∧ Rd .u32 w' (.slice p' L c') (digs n) ∧ Below W.heap.size W w') :
    Calls Tryz.prog 32 #[.agg #[.bool ba, .slice p1 l1 c1], .agg #[.bool bb, .slice p2 l2 c2]] w fun e w' => ∃ v, e = .returned (.agg #[.bool r, v]) ∧ Rd .u32 w' v (digs n) ∧ Below w.heap.size w w' := by
  have HO := Lib.hid hO
  have HQ := Lib.hid hQ
  have HW := Lib.hid (((((Below.refl w.heap.size w).alloc (Nat.le_refl _) (.cells #[.bool ba, .slice p1 l1 c1] 49)).alloc (by simp) (.cells #[.bool bb, .slice p2 l2 c2] 49)).alloc (by simp; omega) (.cells #[.bool false, .slice none 0 0] 49)))
  have AH := Lib.hid (show (((w.alloc (.cells #[.bool ba, .slice p1 l1 c1] 49)).alloc (.cells #[.bool bb, .slice p2 l2 c2] 49)).alloc (.cells #[.bool false, .slice none 0 0] 49)).heap[w.heap.size + 1 + 1]? = some (.cells #[.bool false, .slice none 0 0] 49 (0, 0)) by
    rw [show w.heap.size + 1 + 1 = ((w.alloc (.cells #[.bool ba, .slice p1 l1 c1] 49)).alloc (.cells #[.bool bb, .slice p2 l2 c2] 49)).heap.size by simp]; exact heap_alloc_new _ _)
  have A00 := Lib.hid (show (((w.alloc (.cells #[.bool ba, .slice p1 l1 c1] 49)).alloc (.cells #[.bool bb, .slice p2 l2 c2] 49)).alloc (.cells #[.bool false, .slice none 0 0] 49)).cell? ⟨w.heap.size, 0, none⟩ = some (.bool ba) by rw [wc_alloc (by simp; omega), wc_alloc (by simp), wc_new rfl]; rfl)
  have A01 := Lib.hid (show (((w.alloc (.cells #[.bool ba, .slice p1 l1 c1] 49)).alloc (.cells #[.bool bb, .slice p2 l2 c2] 49)).alloc (.cells #[.bool false, .slice none 0 0] 49)).cell? ⟨w.heap.size, 1, none⟩ = some (.slice p1 l1 c1) by rw [wc_alloc (by simp; omega), wc_alloc (by simp), wc_new rfl]; rfl)
  have A10 := Lib.hid (show (((w.alloc (.cells #[.bool ba, .slice p1 l1 c1] 49)).alloc (.cells #[.bool bb, .slice p2 l2 c2] 49)).alloc (.cells #[.bool false, .slice none 0 0] 49)).cell? ⟨w.heap.size + 1, 0, none⟩ = some (.bool bb) by rw [wc_alloc (by simp), wc_new (by simp)]; rfl)
  have A11 := Lib.hid (show (((w.alloc (.cells #[.bool ba, .slice p1 l1 c1] 49)).alloc (.cells #[.bool bb, .slice p2 l2 c2] 49)).alloc (.cells #[.bool false, .slice none 0 0] 49)).cell? ⟨w.heap.size + 1, 1, none⟩ = some (.slice p2 l2 c2) by rw [wc_alloc (by simp), wc_new (by simp)]; rfl)
  have A20 := Lib.hid (show (((w.alloc (.cells #[.bool ba, .slice p1 l1 c1] 49)).alloc (.cells #[.bool bb, .slice p2 l2 c2] 49)).alloc (.cells #[.bool false, .slice none 0 0] 49)).cell? ⟨w.heap.size + 1 + 1, 0, none⟩ = some (.bool false) by rw [wc_new (by simp)]; rfl)
  have A21 := Lib.hid (show (((w.alloc (.cells #[.bool ba, .slice p1 l1 c1] 49)).alloc (.cells #[.bool bb, .slice p2 l2 c2] 49)).alloc (.cells #[.bool false, .slice none 0 0] 49)).cell? ⟨w.heap.size + 1 + 1, 1, none⟩ = some (.slice none 0 0) by rw [wc_new (by simp)]; rfl)
  have F0 := Lib.hid (show (((w.alloc (.cells #[.bool ba, .slice p1 l1 c1] 49)).alloc (.cells #[.bool bb, .slice p2 l2 c2] 49)).alloc (.cells #[.bool false, .slice none 0 0] 49)).frozen? ⟨w.heap.size + 1 + 1, 0, none⟩ = false by rw [wf_new (by simp)])
  have F1 := Lib.hid (show (((w.alloc (.cells #[.bool ba, .slice p1 l1 c1] 49)).alloc (.cells #[.bool bb, .slice p2 l2 c2] 49)).alloc (.cells #[.bool false, .slice none 0 0] 49)).frozen? ⟨w.heap.size + 1 + 1, 1, none⟩ = false by rw [wf_new (by simp)])
  clear hO hQ
  go_enter Tryz.func32, Tryz.ntmps32
  go_wp2
  go_region_held3 (fun w' => w'.cell? ⟨w.heap.size, 0, none⟩ = some (.bool ba) ∧ w'.cell? ⟨w.heap.size, 1, none⟩ = some (.slice p1 l1 c1) ∧ w'.cell? ⟨w.heap.size + 1, 0, none⟩ = some (.bool bb) ∧ w'.cell? ⟨w.heap.size + 1, 1, none⟩ = some (.slice p2 l2 c2)) (first | ((try go_split_ands); refine ⟨?_, ?_, ?_, ?_⟩ <;> (first | (with_reducible assumption) | ((repeat (first | rw [wc_drew] | rw [wc_alloc (by first | assumption | omega | (simp; done) | (simp; omega))] | rw [wc_ne (by omega)])); first | (with_reducible assumption) | (simp; done)))) | (go_keep; done))
    (first | (go_at_call 34; refine (HO.out _ ?bd).mono ?_; (case bd => first | exact HW.out | exact HW.out.drew); rintro e w1 ⟨po, co, rfl, ro, hb1⟩; obtain ⟨hc1, hf1⟩ := bcell hb1; have hs1 := hb1.size; (try simp at hs1); have q10 : w.heap.size < w1.heap.size := (by omega); have q11 : w.heap.size + 1 < w1.heap.size := (by omega); have q12 : w.heap.size + 1 + 1 < w1.heap.size := (by omega); have s100 : w1.cell? ⟨w.heap.size, 0, none⟩ = some (.bool ba) := (by rw [hc1 _ _ (by first | assumption | omega | (simp; done) | (simp; omega))]; first | (with_reducible assumption) | exact A00.out); have s101 : w1.cell? ⟨w.heap.size, 1, none⟩ = some (.slice p1 l1 c1) := (by rw [hc1 _ _ (by first | assumption | omega | (simp; done) | (simp; omega))]; first | (with_reducible assumption) | exact A01.out); have s110 : w1.cell? ⟨w.heap.size + 1, 0, none⟩ = some (.bool bb) := (by rw [hc1 _ _ (by first | assumption | omega | (simp; done) | (simp; omega))]; first | (with_reducible assumption) | exact A10.out); have s111 : w1.cell? ⟨w.heap.size + 1, 1, none⟩ = some (.slice p2 l2 c2) := (by rw [hc1 _ _ (by first | assumption | omega | (simp; done) | (simp; omega))]; first | (with_reducible assumption) | exact A11.out); have s120 : w1.cell? ⟨w.heap.size + 1 + 1, 0, none⟩ = some (.bool false) := (by rw [hc1 _ _ (by first | assumption | omega | (simp; done) | (simp; omega))]; first | (with_reducible assumption) | exact A20.out); have s121 : w1.cell? ⟨w.heap.size + 1 + 1, 1, none⟩ = some (.slice none 0 0) := (by rw [hc1 _ _ (by first | assumption | omega | (simp; done) | (simp; omega))]; first | (with_reducible assumption) | exact A21.out); have f10 : w1.frozen? ⟨w.heap.size + 1 + 1, 0, none⟩ = false := (by rw [hf1 _ _ (by first | assumption | omega | (simp; done) | (simp; omega))]; first | (with_reducible assumption) | exact F0.out); have f11 : w1.frozen? ⟨w.heap.size + 1 + 1, 1, none⟩ = false := (by rw [hf1 _ _ (by first | assumption | omega | (simp; done) | (simp; omega))]; first | (with_reducible assumption) | exact F1.out); have HB1 := Lib.hid (show Below w.heap.size w w1 from Below.trans HW.out (by first | exact hb1.mono (by first | omega | (simp; omega) | simp) | exact Below.trans (Below.drew (Below.refl _ _)) (hb1.mono (by first | omega | (simp; omega) | simp)))); have RO := Lib.hid ro; have hg1 := Lib.hid (show w1.heap[w.heap.size + 1 + 1]? = some (.cells #[.bool false, .slice none 0 0] 49 (0, 0)) from (by refine heap_keep ?_ hb1; exact AH.out))) | (go_at_call 59; refine (HQ.out w1 po co HB1.out RO.out).mono ?_; rintro e w2 ⟨pv, cv, rfl, rv, hb2⟩; obtain ⟨hc2, hf2⟩ := bcell hb2; have hs2 := hb2.size; (try simp at hs2); have q20 : w.heap.size < w2.heap.size := (by omega); have q21 : w.heap.size + 1 < w2.heap.size := (by omega); have q22 : w.heap.size + 1 + 1 < w2.heap.size := (by omega); have s200 : w2.cell? ⟨w.heap.size, 0, none⟩ = some (.bool ba) := (by rw [hc2 _ _ (by first | assumption | omega | (simp; done) | (simp; omega))]; first | (with_reducible assumption) | exact A00.out); have s201 : w2.cell? ⟨w.heap.size, 1, none⟩ = some (.slice p1 l1 c1) := (by rw [hc2 _ _ (by first | assumption | omega | (simp; done) | (simp; omega))]; first | (with_reducible assumption) | exact A01.out); have s210 : w2.cell? ⟨w.heap.size + 1, 0, none⟩ = some (.bool bb) := (by rw [hc2 _ _ (by first | assumption | omega | (simp; done) | (simp; omega))]; first | (with_reducible assumption) | exact A10.out); have s211 : w2.cell? ⟨w.heap.size + 1, 1, none⟩ = some (.slice p2 l2 c2) := (by rw [hc2 _ _ (by first | assumption | omega | (simp; done) | (simp; omega))]; first | (with_reducible assumption) | exact A11.out); have s220 : w2.cell? ⟨w.heap.size + 1 + 1, 0, none⟩ = some (.bool false) := (by rw [hc2 _ _ (by first | assumption | omega | (simp; done) | (simp; omega))]; first | (with_reducible assumption) | exact A20.out); have s221 : w2.cell? ⟨w.heap.size + 1 + 1, 1, none⟩ = some (.slice none 0 0) := (by rw [hc2 _ _ (by first | assumption | omega | (simp; done) | (simp; omega))]; first | (with_reducible assumption) | exact A21.out); have f20 : w2.frozen? ⟨w.heap.size + 1 + 1, 0, none⟩ = false := (by rw [hf2 _ _ (by first | assumption | omega | (simp; done) | (simp; omega))]; first | (with_reducible assumption) | exact F0.out); have f21 : w2.frozen? ⟨w.heap.size + 1 + 1, 1, none⟩ = false := (by rw [hf2 _ _ (by first | assumption | omega | (simp; done) | (simp; omega))]; first | (with_reducible assumption) | exact F1.out); have hg2 := Lib.hid (heap_keep hg1.out hb2)) | fail)
  all_goals
    go_wp2
    have HB : Below w.heap.size w w2 := HB1.out.trans (hb2.mono HB1.out.size)
    refine bodyPost_ret (v := .agg #[.bool r, .slice pv L cv]) (by simp [results, Tryz.results32, go_sem, s220, s221]) rfl ⟨_, rfl, ?_, ?_⟩
    · exact rd_set_z (heap_set hg2.out rfl) (rd_set_z hg2.out rv 0 _) 1 _
    · exact (HB.setCell (p := ⟨w.heap.size + 1 + 1, 0, none⟩) (by show w.heap.size ≤ w.heap.size + 1 + 1; omega) _).setCell (p := ⟨w.heap.size + 1 + 1, 1, none⟩) (by show w.heap.size ≤ w.heap.size + 1 + 1; omega) _

theorem zMinus (u1 u2 : Value) (x y : Int) (hx : (digs x.natAbs).length ≤ 50000) (hy : (digs y.natAbs).length ≤ 50000) (w : World) (h1 : Rz w u1 x) (h2 : Rz w u2 y) :
    Calls Tryz.prog 32 #[u1, u2] w fun e w' => ∃ u, e = .returned u ∧ Rz w' u (x - y) ∧ Below w.heap.size w w' := by
  obtain ⟨p1, c1, rfl, r1⟩ := rz_form h1
  obtain ⟨p2, c2, rfl, r2⟩ := rz_form h2
  refine (ZMinus_raw (decide (x < 0)) (decide (y < 0)) (decide (-y < 0)) (decide (x - y < 0)) p1 _ c1 p2 _ c2 (-y).natAbs (x - y).natAbs (digs (x - y).natAbs).length w ?_ ?_).mono ?_
  · intro W hW
    have h := zOpposite _ y (by omega) W (Rz.below ⟨_, rfl, r2⟩ hW)
    exact rz_slice rfl (by rw [Int.natAbs_neg]) h
  · intro W p c hW hr
    have h := zPlus (.agg #[.bool (decide (x < 0)), .slice p1 (digs x.natAbs).length c1]) (.agg #[.bool (decide (-y < 0)), .slice p (digs y.natAbs).length c]) x (-y) hx (by rw [Int.natAbs_neg]; exact hy) W (Rz.below ⟨_, rfl, r1⟩ hW) ⟨_, rfl, hr⟩
    rw [← Int.sub_eq_add_neg] at h
    exact rz_slice rfl rfl h
  · rintro e w' ⟨v, e1, e2, e3⟩
    exact ⟨_, e1, ⟨_, rfl, e2⟩, e3⟩

end Go.Proofs.YtblccbnejcngaaaGreatDoor
/- garboardref02: Cmp, both: walks. -/
namespace Go.Proofs.YtblccbnejcngaaaGreatDoor
open Go.RowKit Go.Gb

theorem rd_set2 {w : World} {v : Value} {xs : List Nat} {g : Nat} {b b' : Bool} {q : Option Addr} {l c : Nat} {T : TypeId} {fz : Nat × Nat} {u : Value} (hg : w.heap[g]? = some (.cells #[.bool b, .slice q l c] T fz)) (h : Rd .u32 w v xs) : Rd .u32 ((w.setCell ⟨g, 0, none⟩ (.bool b')).setCell ⟨g, 1, none⟩ u) v xs := rd_set_z (heap_set hg rfl) (rd_set_z hg h 0 _) 1 _
theorem heap_set_ne {w : World} {g g' i : Nat} {u : Value} (h : g' ≠ g) : (w.setCell ⟨g, i, none⟩ u).heap[g']? = w.heap[g']? := by
  simp only [World.setCell, Array.getElem?_modify]
  rw [if_neg (by omega)]

set_option maxRecDepth 100000 in
set_option maxHeartbeats 4000000 in
theorem ZBoth_raw (a b : ByteArray) (ba bb : Bool) (l1 l2 m n : Nat) (w : World)
    (hV1 : ∀ W, Calls Tryz.prog 44 #[.string a] W fun e w' => e = .returned (.bool true) ∧ W = w')
    (hV2 : ∀ W, Calls Tryz.prog 44 #[.string b] W fun e w' => e = .returned (.bool true) ∧ W = w')
    (hR1 : ∀ W, Calls Tryz.prog 45 #[.string a] W fun e w' => ∃ p c, e = .returned (.agg #[.bool ba, .slice p l1 c]) ∧ Rd .u32 w' (.slice p l1 c) (digs m) ∧ Below W.heap.size W w')
    (hR2 : ∀ W, Calls Tryz.prog 45 #[.string b] W fun e w' => ∃ p c, e = .returned (.agg #[.bool bb, .slice p l2 c]) ∧ Rd .u32 w' (.slice p l2 c) (digs n) ∧ Below W.heap.size W w') :
    Calls Tryz.prog 22 #[.string a, .string b] w fun e w' => ∃ p1 c1 p2 c2, e = .returned (.tuple #[.agg #[.bool ba, .slice p1 l1 c1], .agg #[.bool bb, .slice p2 l2 c2], .int .i64 0]) ∧ Rd .u32 w' (.slice p1 l1 c1) (digs m) ∧ Rd .u32 w' (.slice p2 l2 c2) (digs n) ∧ Below w.heap.size w w' := by
  have HV1 := Lib.hid hV1
  have HV2 := Lib.hid hV2
  have HR1 := Lib.hid hR1
  have HR2 := Lib.hid hR2
  have HW := Lib.hid (((Below.refl w.heap.size w).alloc (Nat.le_refl _) (.cells #[.bool false, .slice none 0 0] 49)).alloc (by simp) (.cells #[.bool false, .slice none 0 0] 49))

  have AH0 := Lib.hid (show ((w.alloc (.cells #[.bool false, .slice none 0 0] 49)).alloc (.cells #[.bool false, .slice none 0 0] 49)).heap[w.heap.size]? = some (.cells #[.bool false, .slice none 0 0] 49 (0, 0)) from heap_keep (heap_alloc_new _ _) ((Below.refl _ _).alloc (Nat.le_refl _) _))
  have AH1 := Lib.hid (show ((w.alloc (.cells #[.bool false, .slice none 0 0] 49)).alloc (.cells #[.bool false, .slice none 0 0] 49)).heap[w.heap.size + 1]? = some (.cells #[.bool false, .slice none 0 0] 49 (0, 0)) by
    rw [show w.heap.size + 1 = (w.alloc (.cells #[.bool false, .slice none 0 0] 49)).heap.size by simp]; exact heap_alloc_new _ _)
  have cellof : ∀ (W : World) g, W.heap[g]? = some (.cells #[.bool false, .slice none 0 0] 49 (0, 0)) → W.cell? ⟨g, 0, none⟩ = some (.bool false) ∧ W.cell? ⟨g, 1, none⟩ = some (.slice none 0 0) ∧ W.frozen? ⟨g, 0, none⟩ = false ∧ W.frozen? ⟨g, 1, none⟩ = false := by
    intro W g h
    refine ⟨by simp [World.cell?, h], by simp [World.cell?, h], by simp [World.frozen?, h], by simp [World.frozen?, h]⟩
  have HC := Lib.hid cellof
  clear hV1 hV2 hR1 hR2 cellof
  go_enter Tryz.func22, Tryz.ntmps22
  go_wp2_with fail
  refine (HV1.out _).mono ?_
  rintro e w' ⟨rfl, rfl⟩
  go_wp2_with fail
  refine (HV2.out _).mono ?_
  rintro e w' ⟨rfl, rfl⟩
  go_wp2_with fail
  refine (HR1.out _).mono ?_
  rintro e w1 ⟨p1, c1, rfl, r1, hb1⟩
  have HB1 := Lib.hid (HW.out.trans (hb1.mono HW.out.size))
  have HR1' := Lib.hid r1
  have G10 := Lib.hid (heap_keep AH0.out hb1)
  have G11 := Lib.hid (heap_keep AH1.out hb1)
  clear hb1 r1
  go_wp2_with fail
  refine (HR2.out w1).mono ?_
  rintro e w2 ⟨p2, c2, rfl, r2, hb2⟩
  have HB2 := Lib.hid (HB1.out.trans (hb2.mono HB1.out.size))
  have R1 := Lib.hid (HR1'.out.below hb2)
  have R2 := Lib.hid r2
  have G20 := Lib.hid (heap_keep G10.out hb2)
  have G21 := Lib.hid (heap_keep G11.out hb2)
  obtain ⟨k1, k2, k3, k4⟩ := HC.out w2 _ G20.out
  obtain ⟨k5, k6, k7, k8⟩ := HC.out w2 _ G21.out
  have q1 : w.heap.size < w2.heap.size := (Array.getElem?_eq_some_iff.1 G20.out).1
  have q2 : w.heap.size + 1 < w2.heap.size := (Array.getElem?_eq_some_iff.1 G21.out).1
  clear hb2 r2
  go_wp2
  refine bodyPost_ret (v := .tuple #[.agg #[.bool ba, .slice p1 l1 c1], .agg #[.bool bb, .slice p2 l2 c2], .int .i64 0]) (by simp [results, Tryz.results22, go_sem, k1, k2, k5, k6]) rfl ⟨_, _, _, _, rfl, ?_, ?_, ?_⟩
  · exact rd_set2 (by rw [heap_set_ne (by omega), heap_set_ne (by omega)]; exact G21.out) (rd_set2 G20.out R1.out)
  · exact rd_set2 (by rw [heap_set_ne (by omega), heap_set_ne (by omega)]; exact G21.out) (rd_set2 G20.out R2.out)
  · exact (((HB2.out.setCell (p := ⟨w.heap.size, 0, none⟩) (by show w.heap.size ≤ w.heap.size; omega) _).setCell (p := ⟨w.heap.size, 1, none⟩) (by show w.heap.size ≤ w.heap.size; omega) _).setCell (p := ⟨w.heap.size + 1, 0, none⟩) (by show w.heap.size ≤ w.heap.size + 1; omega) _).setCell (p := ⟨w.heap.size + 1, 1, none⟩) (by show w.heap.size ≤ w.heap.size + 1; omega) _

set_option maxRecDepth 100000 in
set_option maxHeartbeats 4000000 in
theorem ZBoth_no1 (a b : ByteArray) (w : World)
    (hV1 : ∀ W, Calls Tryz.prog 44 #[.string a] W fun e w' => e = .returned (.bool false) ∧ W = w') :
    Calls Tryz.prog 22 #[.string a, .string b] w fun e w' => e = .returned (.tuple #[.agg #[.bool false, .slice none 0 0], .agg #[.bool false, .slice none 0 0], .int .i64 1]) ∧ Below w.heap.size w w' := by
  have HV1 := Lib.hid hV1

  have HW := Lib.hid (((Below.refl w.heap.size w).alloc (Nat.le_refl _) (.cells #[.bool false, .slice none 0 0] 49)).alloc (by simp) (.cells #[.bool false, .slice none 0 0] 49))
  clear hV1
  go_enter Tryz.func22, Tryz.ntmps22
  go_wp2_with fail
  refine (HV1.out _).mono ?_
  rintro e w' ⟨rfl, rfl⟩

  go_wp2
  refine bodyPost_ret (v := .tuple #[.agg #[.bool false, .slice none 0 0], .agg #[.bool false, .slice none 0 0], .int .i64 1]) (by simp [results, Tryz.results22, go_sem]) rfl ⟨rfl, ?_⟩
  exact HW.out

set_option maxRecDepth 100000 in
set_option maxHeartbeats 4000000 in
theorem ZBoth_no2 (a b : ByteArray) (w : World)
    (hV1 : ∀ W, Calls Tryz.prog 44 #[.string a] W fun e w' => e = .returned (.bool true) ∧ W = w')
    (hV2 : ∀ W, Calls Tryz.prog 44 #[.string b] W fun e w' => e = .returned (.bool false) ∧ W = w') :
    Calls Tryz.prog 22 #[.string a, .string b] w fun e w' => e = .returned (.tuple #[.agg #[.bool false, .slice none 0 0], .agg #[.bool false, .slice none 0 0], .int .i64 1]) ∧ Below w.heap.size w w' := by
  have HV1 := Lib.hid hV1
  have HV2 := Lib.hid hV2
  have HW := Lib.hid (((Below.refl w.heap.size w).alloc (Nat.le_refl _) (.cells #[.bool false, .slice none 0 0] 49)).alloc (by simp) (.cells #[.bool false, .slice none 0 0] 49))
  clear hV1 hV2
  go_enter Tryz.func22, Tryz.ntmps22
  go_wp2_with fail
  refine (HV1.out _).mono ?_
  rintro e w' ⟨rfl, rfl⟩
  go_wp2_with fail
  refine (HV2.out _).mono ?_
  rintro e w' ⟨rfl, rfl⟩
  go_wp2
  refine bodyPost_ret (v := .tuple #[.agg #[.bool false, .slice none 0 0], .agg #[.bool false, .slice none 0 0], .int .i64 1]) (by simp [results, Tryz.results22, go_sem]) rfl ⟨rfl, ?_⟩
  exact HW.out

end Go.Proofs.YtblccbnejcngaaaGreatDoor
/- garboardref02: Compare, Add, Sub, Mul of texts: walks. -/
namespace Go.Proofs.YtblccbnejcngaaaGreatDoor
open Go.RowKit Go.Gb

theorem zBoth (x y : Int) (fx : FitZ x) (fy : FitZ y) (hx : (Sz x).size ≤ 1000) (hy : (Sz y).size ≤ 1000) (w : World) :
    Calls Tryz.prog 22 #[.string (Sz x), .string (Sz y)] w fun e w' => ∃ p1 c1 p2 c2, e = .returned (.tuple #[.agg #[.bool (decide (x < 0)), .slice p1 (digs x.natAbs).length c1], .agg #[.bool (decide (y < 0)), .slice p2 (digs y.natAbs).length c2], .int .i64 0]) ∧ Rd .u32 w' (.slice p1 (digs x.natAbs).length c1) (digs x.natAbs) ∧ Rd .u32 w' (.slice p2 (digs y.natAbs).length c2) (digs y.natAbs) ∧ Below w.heap.size w w' :=
  ZBoth_raw _ _ _ _ _ _ _ _ w (fun W => zrValid x hx W) (fun W => zrValid y hy W) (fun W => rz_slice rfl rfl (zRead x fx W)) (fun W => rz_slice rfl rfl (zRead y fy W))
theorem zBoth_no (a b : ByteArray) (h : (vldZ a.data.toList && vldZ b.data.toList) = false) (ha : a.size ≤ 1000) (hb : b.size ≤ 1000) (w : World) :
    Calls Tryz.prog 22 #[.string a, .string b] w fun e w' => e = .returned (.tuple #[.agg #[.bool false, .slice none 0 0], .agg #[.bool false, .slice none 0 0], .int .i64 1]) ∧ Below w.heap.size w w' := by
  cases hv : vldZ a.data.toList with
  | false => exact ZBoth_no1 a b w (fun W => zrValid_no a hv ha W)
  | true =>
    rw [hv, Bool.true_and] at h
    have e := sz_of hv
    generalize zval a.data.toList = x at e
    subst e
    exact ZBoth_no2 _ b w (fun W => zrValid x ha W) (fun W => zrValid_no b h hb W)

end Go.Proofs.YtblccbnejcngaaaGreatDoor
