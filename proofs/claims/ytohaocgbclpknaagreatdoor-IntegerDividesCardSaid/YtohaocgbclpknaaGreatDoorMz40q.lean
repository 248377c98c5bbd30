/- Texts of this proof, one behind the other. -/
import Derived.Test.YtohaocgbclpknaaGreatDoorZd
import Derived.Deep.RegionHeld3
/- garboardref02: sums and products of integers as structs. -/
namespace Go.Proofs.YtohaocgbclpknaaGreatDoor
open Go.RowKit Go.Gb

theorem rz_of {w : World} {v : Value} {n : Nat} {z : Int} {r : Bool} (hr : r = decide (z < 0)) (hn : z.natAbs = n) (h : Rd .u32 w v (digs n)) : Rz w (.agg #[.bool r, v]) z := ⟨v, by rw [hr], by rw [hn]; exact h⟩
theorem dn_len (a b : Nat) (h : (digs a).length ≤ 50000) : (digs (a - b)).length ≤ 1000000 := by have := digs_length_mono (Nat.sub_le a b); omega

theorem zPlus (u1 u2 : Value) (x y : Int) (hx : (digs x.natAbs).length ≤ 50000) (hy : (digs y.natAbs).length ≤ 50000) (w : World) (h1 : Rz w u1 x) (h2 : Rz w u2 y) :
    Calls Tryz.prog 59 #[u1, u2] w fun e w' => ∃ u, e = .returned u ∧ Rz w' u (x + y) ∧ Below w.heap.size w w' := by
  obtain ⟨p1, c1, rfl, r1⟩ := rz_form h1
  obtain ⟨p2, c2, rfl, r2⟩ := rz_form h2
  obtain ⟨bx, hbx⟩ : ∃ b, b = decide (x < 0) := ⟨_, rfl⟩
  obtain ⟨by_, hby⟩ : ∃ b, b = decide (y < 0) := ⟨_, rfl⟩
  rw [← hbx, ← hby]
  have hsl := digs_add_len hx hy
  have hC := fun W (hW : Below w.heap.size w W) => RCmp_any _ _ x.natAbs y.natAbs (by omega) W (r1.below hW) (r2.below hW)
  have key : ∀ (b : Bool) (n : Nat), x + y = (if b then -(n : Int) else (n : Int)) → ∀ (Q : Ending → World → Prop) f args, Calls Tryz.prog f args w (fun e w' => ∃ v, e = .returned (.agg #[.bool (decide (x + y < 0)), v]) ∧ Rd .u32 w' v (digs n) ∧ Below w.heap.size w w') → Calls Tryz.prog f args w fun e w' => ∃ u, e = .returned u ∧ Rz w' u (x + y) ∧ Below w.heap.size w w' := by
    intro b n hz _ f args h
    exact h.mono fun e w' ⟨v, e1, e2, e3⟩ => ⟨_, e1, rz_of rfl (abs_sign hz) e2, e3⟩
  cases bx with
  | true =>
    have hx0 : x < 0 := of_decide_eq_true hbx.symm
    cases by_ with
    | true =>
      have hy0 : y < 0 := of_decide_eq_true hby.symm
      have hz : x + y = (if true then -((x.natAbs + y.natAbs : Nat) : Int) else ((x.natAbs + y.natAbs : Nat) : Int)) := by simp; omega
      exact key true _ hz (fun _ _ => True) _ _ (ZPlus_tt p1 _ c1 p2 _ c2 (x.natAbs + y.natAbs) _ _ rfl (by omega) (make_sign hz rfl) w (fun W hW => RPlus_any _ _ _ _ (by omega) (by omega) W (r1.below hW) (r2.below hW)))
    | false =>
      have hy0 : ¬ y < 0 := of_decide_eq_false hby.symm
      rcases Nat.lt_or_ge x.natAbs y.natAbs with h | h
      · have hz : x + y = (if false then -((y.natAbs - x.natAbs : Nat) : Int) else ((y.natAbs - x.natAbs : Nat) : Int)) := by simp; omega
        rw [cmpN_lt h] at hC
        exact key false _ hz (fun _ _ => True) _ _ (ZPlus_tf_lt p1 _ c1 p2 _ c2 (y.natAbs - x.natAbs) _ _ rfl (dn_len _ _ hy) (make_sign hz rfl) w (fun W hW => RMinus_any _ _ _ _ (by omega) (by omega) W (r2.below hW) (r1.below hW)) (-1) (by decide) hC)
      · have hz : x + y = (if true then -((x.natAbs - y.natAbs : Nat) : Int) else ((x.natAbs - y.natAbs : Nat) : Int)) := by simp; omega
        exact key true _ hz (fun _ _ => True) _ _ (ZPlus_tf_ge p1 _ c1 p2 _ c2 (x.natAbs - y.natAbs) _ _ rfl (dn_len _ _ hx) (make_sign hz rfl) w (fun W hW => RMinus_any _ _ _ _ h (by omega) W (r1.below hW) (r2.below hW)) _ (by unfold cmpN; split <;> (try split) <;> omega) hC)
  | false =>
    have hx0 : ¬ x < 0 := of_decide_eq_false hbx.symm
    cases by_ with
    | true =>
      have hy0 : y < 0 := of_decide_eq_true hby.symm
      rcases Nat.lt_or_ge x.natAbs y.natAbs with h | h
      · have hz : x + y = (if true then -((y.natAbs - x.natAbs : Nat) : Int) else ((y.natAbs - x.natAbs : Nat) : Int)) := by simp; omega
        rw [cmpN_lt h] at hC
        exact key true _ hz (fun _ _ => True) _ _ (ZPlus_ft_lt p1 _ c1 p2 _ c2 (y.natAbs - x.natAbs) _ _ rfl (dn_len _ _ hy) (make_sign hz rfl) w (fun W hW => RMinus_any _ _ _ _ (by omega) (by omega) W (r2.below hW) (r1.below hW)) (-1) (by decide) hC)
      · have hz : x + y = (if false then -((x.natAbs - y.natAbs : Nat) : Int) else ((x.natAbs - y.natAbs : Nat) : Int)) := by simp; omega
        exact key false _ hz (fun _ _ => True) _ _ (ZPlus_ft_ge p1 _ c1 p2 _ c2 (x.natAbs - y.natAbs) _ _ rfl (dn_len _ _ hx) (make_sign hz rfl) w (fun W hW => RMinus_any _ _ _ _ h (by omega) W (r1.below hW) (r2.below hW)) _ (by unfold cmpN; split <;> (try split) <;> omega) hC)
    | false =>
      have hy0 : ¬ y < 0 := of_decide_eq_false hby.symm
      have hz : x + y = (if false then -((x.natAbs + y.natAbs : Nat) : Int) else ((x.natAbs + y.natAbs : Nat) : Int)) := by simp; omega
      exact key false _ hz (fun _ _ => True) _ _ (ZPlus_ff p1 _ c1 p2 _ c2 (x.natAbs + y.natAbs) _ _ rfl (by omega) (make_sign hz rfl) w (fun W hW => RPlus_any _ _ _ _ (by omega) (by omega) W (r1.below hW) (r2.below hW)))

theorem times_sign (x y : Int) : x * y = (if (decide (x < 0) != decide (y < 0)) then -((x.natAbs * y.natAbs : Nat) : Int) else ((x.natAbs * y.natAbs : Nat) : Int)) := by
  rw [Int.natCast_mul]
  by_cases hx : x < 0
  · by_cases hy : y < 0
    · have e1 : (x.natAbs : Int) = -x := by omega
      have e2 : (y.natAbs : Int) = -y := by omega
      rw [e1, e2]; simp [hx, hy, Int.neg_mul, Int.mul_neg]
    · have e1 : (x.natAbs : Int) = -x := by omega
      have e2 : (y.natAbs : Int) = y := by omega
      rw [e1, e2]; simp [hx, hy, Int.neg_mul]
  · by_cases hy : y < 0
    · have e1 : (x.natAbs : Int) = x := by omega
      have e2 : (y.natAbs : Int) = -y := by omega
      rw [e1, e2]; simp [hx, hy, Int.mul_neg]
    · have e1 : (x.natAbs : Int) = x := by omega
      have e2 : (y.natAbs : Int) = y := by omega
      rw [e1, e2]; simp [hx, hy]
theorem zTimes (u1 u2 : Value) (x y : Int) (hx : (digs x.natAbs).length ≤ 50000) (hy : (digs y.natAbs).length ≤ 50000) (w : World) (h1 : Rz w u1 x) (h2 : Rz w u2 y) :
    Calls Tryz.prog 33 #[u1, u2] w fun e w' => ∃ u, e = .returned u ∧ Rz w' u (x * y) ∧ Below w.heap.size w w' := by
  obtain ⟨p1, c1, rfl, r1⟩ := rz_form h1
  obtain ⟨p2, c2, rfl, r2⟩ := rz_form h2
  have hml := digs_mul_len x.natAbs y.natAbs
  have hz := times_sign x y
  refine (ZTimes_raw (decide (x < 0)) (decide (y < 0)) p1 _ c1 p2 _ c2 (x.natAbs * y.natAbs) _ (decide (x * y < 0)) rfl (by omega) (make_sign hz rfl) w (fun W hW => RTimes_any _ _ _ _ (by omega) (by omega) W (r1.below hW) (r2.below hW))).mono ?_
  rintro e w' ⟨v, e1, e2, e3⟩
  exact ⟨_, e1, rz_of rfl (abs_sign hz) e2, e3⟩

/-- A store into the block of a struct does not touch words. -/
theorem rd_set_z {w : World} {v : Value} {xs : List Nat} {g : Nat} {b : Bool} {q : Option Addr} {l c : Nat} {T : TypeId} {fz : Nat × Nat} (hg : w.heap[g]? = some (.cells #[.bool b, .slice q l c] T fz)) (h : Rd .u32 w v xs) (i : Nat) (u : Value) : Rd .u32 (w.setCell ⟨g, i, none⟩ u) v xs := by
  rcases h with h | ⟨b', o, c', h1, h2, h3, h4, h5⟩
  · exact Or.inl h
  · refine Or.inr ⟨b', o, c', h1, h2, h3, by simpa [World.setCell] using h4, fun j hj => ?_⟩
    have h6 := h5 j hj
    have hne : b' ≠ g := by
      intro e
      subst e
      simp only [World.cell?, hg] at h6
      match hk : o + j with
      | 0 => rw [hk] at h6; simp at h6
      | 1 => rw [hk] at h6; simp at h6
      | n + 2 => rw [hk] at h6; simp at h6
    exact (wc_ne hne).trans h6

end Go.Proofs.YtohaocgbclpknaaGreatDoor
/- garboardref02: differences, comparisons; Compare, Add, Sub, Mul of texts: walks. -/
namespace Go.Proofs.YtohaocgbclpknaaGreatDoor
open Go.RowKit Go.Gb

theorem heap_keep {W W' : World} {g : Nat} {o : Obj} (h : W.heap[g]? = some o) (hb : Below W.heap.size W W') : W'.heap[g]? = some o := by
  rw [hb.block g (Array.getElem?_eq_some_iff.1 h).1]; exact h
theorem heap_set {W : World} {g i : Nat} {b b' : Bool} {q : Option Addr} {l c : Nat} {T : TypeId} {fz : Nat × Nat} (h : W.heap[g]? = some (.cells #[.bool b, .slice q l c] T fz)) (hi : i = 0) : (W.setCell ⟨g, i, none⟩ (.bool b')).heap[g]? = some (.cells #[.bool b', .slice q l c] T fz) := by
  subst hi
  simp only [World.setCell, Array.getElem?_modify, h]
  simp

set_option maxRecDepth 100000 in
set_option maxHeartbeats 4000000 in
theorem ZMinus_raw (ba bb ob r : Bool) (p1 : Option Addr) (l1 c1 : Nat) (p2 : Option Addr) (l2 c2 : Nat) (m n L : Nat) (w : World)
    (hO : ∀ W, Below w.heap.size w W → Calls Tryz.prog 34 #[.agg #[.bool bb, .slice p2 l2 c2]] W fun e w' => ∃ p c, e = .returned (.agg #[.bool ob, .slice p l2 c]) ∧ Rd .u32 w' (.slice p l2 c) (digs m) ∧ Below W.heap.size W w')
    (hQ : ∀ W p c, Below w.heap.size w W → Rd .u32 W (.slice p l2 c) (digs m) → Calls Tryz.prog 59 #[.agg #[.bool ba, .slice p1 l1 c1], .agg #[.bool ob, .slice p l2 c]] W fun e w' => ∃ p' c', e = .returned (.agg #[.bool r, .slice p' L c']) ∧ Rd .u32 w' (.slice p' L c') (digs n) ∧ Below W.heap.size W w') :
    Calls Tryz.prog 32 #[.agg #[.bool ba, .slice p1 l1 c1], .agg #[.bool bb, .slice p2 l2 c2]] w fun e w' => ∃ v, e = .returned (.agg #[.bool r, v]) ∧ Rd .u32 w' v (digs n) ∧ Below w.heap.size w w' := by
  have HO := Lib.hid hO
  have HQ := Lib.hid hQ
  have HW := Lib.hid (((((Below.refl w.heap.size w).alloc (Nat.le_refl _) (.cells #[.bool ba, .slice p1 l1 c1] 49)).alloc (by simp) (.cells #[.bool bb, .slice p2 l2 c2] 49)).alloc (by simp; omega) (.cells #[.bool false, .slice none 0 0] 49)))
  have AH := Lib.hid (show (((w.alloc (.cells #[.bool ba, .slice p1 l1 c1] 49)).alloc (.cells #[.bool bb, .slice p2 l2 c2] 49)).alloc (.cells #[.bool false, .slice none 0 0] 49)).heap[w.heap.size + 1 + 1]? = some (.cells #[.bool false, .slice none 0 0] 49 (0, 0)) by
    rw [show w.heap.size + 1 + 1 = ((w.alloc (.cells #[.bool ba, .slice p1 l1 c1] 49)).alloc (.cells #[.bool bb, .slice p2 l2 c2] 49)).heap.size by simp]; exact heap_alloc_new _ _)
  have A00 := Lib.hid (show (((w.alloc (.cells #[.bool ba, .slice p1 l1 c1] 49)).alloc (.cells #[.bool bb, .slice p2 l2 c2] 49)).alloc (.cells #[.bool false, .slice none 0 0] 49)).cell? ⟨w.heap.size, 0, none⟩ = some (.bool ba) by rw [wc_alloc (by simp; omega), wc_alloc (by simp), wc_new rfl]; rfl)
  have A01 := Lib.hid (show (((w.alloc (.cells #[.bool ba, .slice p1 l1 c1] 49)).alloc (.cells #[.bool bb, .slice p2 l2 c2] 49)).alloc (.cells #[.bool false, .slice none 0 0] 49)).cell? ⟨w.heap.size, 1, none⟩ = some (.slice p1 l1 c1) by rw [wc_alloc (by simp; omega), wc_alloc (by simp), wc_new rfl]; rfl)
  have A10 := Lib.hid (show (((w.alloc (.cells #[.bool ba, .slice p1 l1 c1] 49)).alloc (.cells #[.bool bb, .slice p2 l2 c2] 49)).alloc (.cells #[.bool false, .slice none 0 0] 49)).cell? ⟨w.heap.size + 1, 0, none⟩ = some (.bool bb) by rw [wc_alloc (by simp), wc_new (by simp)]; rfl)
  have A11 := Lib.hid (show (((w.alloc (.cells #[.bool ba, .slice p1 l1 c1] 49)).alloc (.cells #[.bool bb, .slice p2 l2 c2] 49)).alloc (.cells #[.bool false, .slice none 0 0] 49)).cell? ⟨w.heap.size + 1, 1, none⟩ = some (.slice p2 l2 c2) by rw [wc_alloc (by simp), wc_new (by simp)]; rfl)
  have A20 := Lib.hid (show (((w.alloc (.cells #[.bool ba, .slice p1 l1 c1] 49)).alloc (.cells #[.bool bb, .slice p2 l2 c2] 49)).alloc (.cells #[.bool false, .slice none 0 0] 49)).cell? ⟨w.heap.size + 1 + 1, 0, none⟩ = some (.bool false) by rw [wc_new (by simp)]; rfl)
  have A21 := Lib.hid (show (((w.alloc (.cells #[.bool ba, .slice p1 l1 c1] 49)).alloc (.cells #[.bool bb, .slice p2 l2 c2] 49)).alloc (.cells #[.bool false, .slice none 0 0] 49)).cell? ⟨w.heap.size + 1 + 1, 1, none⟩ = some (.slice none 0 0) by rw [wc_new (by simp)]; rfl)
  have F0 := Lib.hid (show (((w.alloc (.cells #[.bool ba, .slice p1 l1 c1] 49)).alloc (.cells #[.bool bb, .slice p2 l2 c2] 49)).alloc (.cells #[.bool false, .slice none 0 0] 49)).frozen? ⟨w.heap.size + 1 + 1, 0, none⟩ = false by rw [wf_new (by simp)])
  have F1 := Lib.hid (show (((w.alloc (.cells #[.bool ba, .slice p1 l1 c1] 49)).alloc (.cells #[.bool bb, .slice p2 l2 c2] 49)).alloc (.cells #[.bool false, .slice none 0 0] 49)).frozen? ⟨w.heap.size + 1 + 1, 1, none⟩ = false by rw [wf_new (by simp)])
  clear hO hQ
  go_enter Tryz.func32, Tryz.ntmps32
  go_wp2
  go_region_held3 (fun w' => w'.cell? ⟨w.heap.size, 0, none⟩ = some (.bool ba) ∧ w'.cell? ⟨w.heap.size, 1, none⟩ = some (.slice p1 l1 c1) ∧ w'.cell? ⟨w.heap.size + 1, 0, none⟩ = some (.bool bb) ∧ w'.cell? ⟨w.heap.size + 1, 1, none⟩ = some (.slice p2 l2 c2)) (first | ((try go_split_ands); refine ⟨?_, ?_, ?_, ?_⟩ <;> (first | (with_reducible assumption) | ((repeat (first | rw [wc_drew] | rw [wc_alloc (by first | assumption | omega | (simp; done) | (simp; omega))] | rw [wc_ne (by omega)])); first | (with_reducible assumption) | (simp; done)))) | (go_keep; done))
    (first | (go_at_call 34; refine (HO.out _ ?bd).mono ?_; (case bd => first | exact HW.out | exact HW.out.drew); rintro e w1 ⟨po, co, rfl, ro, hb1⟩; obtain ⟨hc1, hf1⟩ := bcell hb1; have hs1 := hb1.size; (try simp at hs1); have q10 : w.heap.size < w1.heap.size := (by omega); have q11 : w.heap.size + 1 < w1.heap.size := (by omega); have q12 : w.heap.size + 1 + 1 < w1.heap.size := (by omega); have s100 : w1.cell? ⟨w.heap.size, 0, none⟩ = some (.bool ba) := (by rw [hc1 _ _ (by first | assumption | omega | (simp; done) | (simp; omega))]; first | (with_reducible assumption) | exact A00.out); have s101 : w1.cell? ⟨w.heap.size, 1, none⟩ = some (.slice p1 l1 c1) := (by rw [hc1 _ _ (by first | assumption | omega | (simp; done) | (simp; omega))]; first | (with_reducible assumption) | exact A01.out); have s110 : w1.cell? ⟨w.heap.size + 1, 0, none⟩ = some (.bool bb) := (by rw [hc1 _ _ (by first | assumption | omega | (simp; done) | (simp; omega))]; first | (with_reducible assumption) | exact A10.out); have s111 : w1.cell? ⟨w.heap.size + 1, 1, none⟩ = some (.slice p2 l2 c2) := (by rw [hc1 _ _ (by first | assumption | omega | (simp; done) | (simp; omega))]; first | (with_reducible assumption) | exact A11.out); have s120 : w1.cell? ⟨w.heap.size + 1 + 1, 0, none⟩ = some (.bool false) := (by rw [hc1 _ _ (by first | assumption | omega | (simp; done) | (simp; omega))]; first | (with_reducible assumption) | exact A20.out); have s121 : w1.cell? ⟨w.heap.size + 1 + 1, 1, none⟩ = some (.slice none 0 0) := (by rw [hc1 _ _ (by first | assumption | omega | (simp; done) | (simp; omega))]; first | (with_reducible assumption) | exact A21.out); have f10 : w1.frozen? ⟨w.heap.size + 1 + 1, 0, none⟩ = false := (by rw [hf1 _ _ (by first | assumption | omega | (simp; done) | (simp; omega))]; first | (with_reducible assumption) | exact F0.out); have f11 : w1.frozen? ⟨w.heap.size + 1 + 1, 1, none⟩ = false := (by rw [hf1 _ _ (by first | assumption | omega | (simp; done) | (simp; omega))]; first | (with_reducible assumption) | exact F1.out); have HB1 := Lib.hid (show Below w.heap.size w w1 from Below.trans HW.out (by first | exact hb1.mono (by first | omega | (simp; omega) | simp) | exact Below.trans (Below.drew (Below.refl _ _)) (hb1.mono (by first | omega | (simp; omega) | simp)))); have RO := Lib.hid ro; have hg1 := Lib.hid (show w1.heap[w.heap.size + 1 + 1]? = some (.cells #[.bool false, .slice none 0 0] 49 (0, 0)) from (by refine heap_keep ?_ hb1; exact AH.out))) | (go_at_call 59; refine (HQ.out w1 po co HB1.out RO.out).mono ?_; rintro e w2 ⟨pv, cv, rfl, rv, hb2⟩; obtain ⟨hc2, hf2⟩ := bcell hb2; have hs2 := hb2.size; (try simp at hs2); have q20 : w.heap.size < w2.heap.size := (by omega); have q21 : w.heap.size + 1 < w2.heap.size := (by omega); have q22 : w.heap.size + 1 + 1 < w2.heap.size := (by omega); have s200 : w2.cell? ⟨w.heap.size, 0, none⟩ = some (.bool ba) := (by rw [hc2 _ _ (by first | assumption | omega | (simp; done) | (simp; omega))]; first | (with_reducible assumption) | exact A00.out); have s201 : w2.cell? ⟨w.heap.size, 1, none⟩ = some (.slice p1 l1 c1) := (by rw [hc2 _ _ (by first | assumption | omega | (simp; done) | (simp; omega))]; first | (with_reducible assumption) | exact A01.out); have s210 : w2.cell? ⟨w.heap.size + 1, 0, none⟩ = some (.bool bb) := (by rw [hc2 _ _ (by first | assumption | omega | (simp; done) | (simp; omega))]; first | (with_reducible assumption) | exact A10.out); have s211 : w2.cell? ⟨w.heap.size + 1, 1, none⟩ = some (.slice p2 l2 c2) := (by rw [hc2 _ _ (by first | assumption | omega | (simp; done) | (simp; omega))]; first | (with_reducible assumption) | exact A11.out); have s220 : w2.cell? ⟨w.heap.size + 1 + 1, 0, none⟩ = some (.bool false) := (by rw [hc2 _ _ (by first | assumption | omega | (simp; done) | (simp; omega))]; first | (with_reducible assumption) | exact A20.out); have s221 : w2.cell? ⟨w.heap.size + 1 + 1, 1, none⟩ = some (.slice none 0 0) := (by rw [hc2 _ _ (by first | assumption | omega | (simp; done) | (simp; omega))]; first | (with_reducible assumption) | exact A21.out); have f20 : w2.frozen? ⟨w.heap.size + 1 + 1, 0, none⟩ = false := (by rw [hf2 _ _ (by first | assumption | omega | (simp; done) | (simp; omega))]; first | (with_reducible assumption) | exact F0.out); have f21 : w2.frozen? ⟨w.heap.size + 1 + 1, 1, none⟩ = false := (by rw [hf2 _ _ (by first | assumption | omega | (simp; done) | (simp; omega))]; first | (with_reducible assumption) | exact F1.out); have hg2 := Lib.hid (heap_keep hg1.out hb2)) | fail)
  all_goals
    go_wp2
    have HB : Below w.heap.size w w2 := HB1.out.trans (hb2.mono HB1.out.size)
    refine bodyPost_ret (v := .agg #[.bool r, .slice pv L cv]) (by simp [results, Tryz.results32, go_sem, s220, s221]) rfl ⟨_, rfl, ?_, ?_⟩
    · exact rd_set_z (heap_set hg2.out rfl) (rd_set_z hg2.out rv 0 _) 1 _
    · exact (HB.setCell (p := ⟨w.heap.size + 1 + 1, 0, none⟩) (by show w.heap.size ≤ w.heap.size + 1 + 1; omega) _).setCell (p := ⟨w.heap.size + 1 + 1, 1, none⟩) (by show w.heap.size ≤ w.heap.size + 1 + 1; omega) _

theorem zMinus (u1 u2 : Value) (x y : Int) (hx : (digs x.natAbs).length ≤ 50000) (hy : (digs y.natAbs).length ≤ 50000) (w : World) (h1 : Rz w u1 x) (h2 : Rz w u2 y) :
    Calls Tryz.prog 32 #[u1, u2] w fun e w' => ∃ u, e = .returned u ∧ Rz w' u (x - y) ∧ Below w.heap.size w w' := by
  obtain ⟨p1, c1, rfl, r1⟩ := rz_form h1
  obtain ⟨p2, c2, rfl, r2⟩ := rz_form h2
  refine (ZMinus_raw (decide (x < 0)) (decide (y < 0)) (decide (-y < 0)) (decide (x - y < 0)) p1 _ c1 p2 _ c2 (-y).natAbs (x - y).natAbs (digs (x - y).natAbs).length w ?_ ?_).mono ?_
  · intro W hW
    have h := zOpposite _ y (by omega) W (Rz.below ⟨_, rfl, r2⟩ hW)
    exact rz_slice rfl (by rw [Int.natAbs_neg]) h
  · intro W p c hW hr
    have h := zPlus (.agg #[.bool (decide (x < 0)), .slice p1 (digs x.natAbs).length c1]) (.agg #[.bool (decide (-y < 0)), .slice p (digs y.natAbs).length c]) x (-y) hx (by rw [Int.natAbs_neg]; exact hy) W (Rz.below ⟨_, rfl, r1⟩ hW) ⟨_, rfl, hr⟩
    rw [← Int.sub_eq_add_neg] at h
    exact rz_slice rfl rfl h
  · rintro e w' ⟨v, e1, e2, e3⟩
    exact ⟨_, e1, ⟨_, rfl, e2⟩, e3⟩

end Go.Proofs.YtohaocgbclpknaaGreatDoor
