/- words.pad, words.split and words.appendCarry: walks. -/
import Derived.Test.YtpdchplppkfdhaaDoorNe
import Derived.Test.YtpdchplppkfdhaaDoorNumF
import Derived.Test.YtpdchplppkfdhaaDoorNumG
namespace Go.Proofs.YtpdchplppkfdhaaDoor
open Go.RowKit Go.Gb

def lenV : Value → Nat | .slice _ n _ => n | _ => 0

def Padded (xs ys : List Nat) : Prop := ∃ k, ys = xs ++ List.replicate k 0
theorem Padded.start (xs : List Nat) : Padded xs xs := ⟨0, by simp⟩
theorem Padded.step {xs ys : List Nat} (h : Padded xs ys) : Padded xs (ys ++ [0]) := by
  obtain ⟨k, rfl⟩ := h
  exact ⟨k + 1, by rw [List.append_assoc, repl_snoc]⟩
theorem Padded.fin {xs ys : List Nat} (h : Padded xs ys) : ys = xs ++ List.replicate (ys.length - xs.length) 0 := by
  obtain ⟨k, rfl⟩ := h
  rw [List.length_append, List.length_replicate, Nat.add_sub_cancel_left]

set_option maxHeartbeats 1000000 in
set_option maxRecDepth 100000 in
theorem pad_any (B : Nat) (v : Value) (xs : List Nat) (n : Nat) (hn : n ≤ 100000) (hx : xs.length ≤ n) (w : World) (h : Own .u64 46 B w v xs) (hB : B ≤ w.heap.size) :
    Calls Tryd.prog 96 #[v, .int .i64 (n : Int)] w fun e w' => ∃ u, e = .returned u ∧ Own .u64 46 B w' u (xs ++ List.replicate (n - xs.length) 0) ∧ NewOr w v u ∧ Kp (At v) w w' := by
  obtain ⟨i0, hi, hz0, hz1, hz2⟩ := info_parts Tryd.info46
  obtain ⟨a0, c0, rfl⟩ := rd_form h.rd
  have HO := Lib.hid h
  have HB := Lib.hid hB
  clear h hB
  go_enter Tryd.func96, Tryd.ntmps96
  go_wp2
  go_loopw [0] (fun x wr => ∃ (a : Option Addr) (c : Nat) (ys : List Nat), x = .slice a ys.length c ∧ ys.length ≤ n ∧ Hid (Padded xs ys) ∧ Hid (Own .u64 46 B wr (.slice a ys.length c) ys) ∧ Hid (NewOr w (.slice a0 xs.length c0) (.slice a ys.length c)) ∧ Hid (Kp (At (.slice a0 xs.length c0)) w wr)) (fun x _ => n - lenV x)
  case atStart => exact ⟨a0, c0, xs, rfl, hx, Padded.start xs, HO.out, NewOr.refl _ _, Kp.refl _ _⟩
  case round =>
    obtain ⟨a, c, ys, rfl, hl, hp, ho, hno, hk⟩ := hrel
    by_cases hlt : ys.length < n
    · have hsz := hk.out.size
      have hBw := HB.out
      go_wp2_with (at_builtin; refine wpList_append_at _ rfl _ _ 49 rfl B 46 i0 (.int .u64 0) Tryd.underlying49 hi hz0 hz1 hz2 rfl _ ys.length (cls .u64 ys) rfl (World.ownsRow.alloc ho.out _) ⟨wr.heap.size, 0, none⟩ 1 (.int .u64 0) rfl (cells_one _ _ _ 0 _ rfl) rfl (by omega) (by simp; omega) ?_)
      intro v' w1 hown' hgrow hnew
      have ho1 : Own .u64 46 B w1 v' (ys ++ [0]) := by
        unfold Own
        rw [cls_append, List.length_append]
        exact hown'
      obtain ⟨a', c', rfl⟩ := rd_form ho1.rd
      have HO1 := Lib.hid ho1
      have HN1 := Lib.hid (hno.out.trans hnew (by simp; omega))
      have HK1 := Lib.hid ((hk.out.alloc (.cells #[.int .u64 0] 46)).grown hgrow (fun g hg hlt => by
        rcases hno.out g hg with h1 | h1
        · exact h1
        · omega))
      clear ho1 hown' hgrow hnew
      go_wp2
      go_roundw
      case rel => exact ⟨a', c', ys ++ [0], rfl, by simp; omega, hp.out.step, HO1, HN1, HK1⟩
      case measure => simp [lenV]; omega
    · have hfin := hp.out.fin
      rw [show ys.length - xs.length = n - xs.length by omega] at hfin
      have HF := Lib.hid hfin
      clear hfin
      go_wp2
      go_ret
      refine ⟨_, rfl, ?_, hno.out, hk.out⟩
      rw [← HF.out]
      exact ho.out

set_option maxHeartbeats 400000 in
theorem split_any (s : Int) (h0 : 0 ≤ s + 3000000000000000000) (h1 : s + 3000000000000000000 < 6000000000000000000) (w : World) :
    Calls Tryd.prog 97 #[.int .i64 s] w fun e w' => e = .returned (.tuple #[.int .u64 ((s + 3000000000000000000) % 1000000000), .int .i64 ((s + 3000000000000000000) / 1000000000 - 3000000000)]) ∧ w = w' := by
  obtain ⟨t, ht⟩ : ∃ t, t = s + 3000000000000000000 := ⟨_, rfl⟩
  have e1 : IntKind.i64.wrap (s + 3000000000000000000) = t := by rw [ht]; exact IntWalk.i64_in _ (by omega)
  rw [← ht] at h0 h1 ⊢
  have HT := Lib.hid ht
  clear ht
  go_enter Tryd.func97, Tryd.ntmps97
  go_wp2
  go_ret2
  exact ⟨rfl, rfl⟩

set_option maxHeartbeats 1000000 in
set_option maxRecDepth 100000 in
theorem appendCarry_any (B : Nat) (v : Value) (xs : List Nat) (k : Nat) (hk3 : k ≤ 3000000000) (hx : xs.length ≤ 100000) (w : World) (h : Own .u64 46 B w v xs) (hB : B ≤ w.heap.size) :
    Calls Tryd.prog 98 #[v, .int .i64 (k : Int)] w fun e w' => ∃ u, e = .returned u ∧ Own .u64 46 B w' u (xs ++ digs k) ∧ NewOr w v u ∧ Kp (At v) w w' := by
  obtain ⟨i0, hi, hz0, hz1, hz2⟩ := info_parts Tryd.info46
  obtain ⟨a0, c0, rfl⟩ := rd_form h.rd
  have hdl : (digs k).length ≤ 2 := digs_length_le (by rw [BB_eq]; omega)
  have HD := Lib.hid hdl
  have HO := Lib.hid h
  have HB := Lib.hid hB
  clear h hB hdl
  go_enter Tryd.func98, Tryd.ntmps98
  go_wp2
  go_loopw [0, 1] (fun x kk wr => ∃ (a : Option Addr) (c m : Nat) (ys : List Nat), x = .slice a ys.length c ∧ kk = .int .i64 (m : Int) ∧ m ≤ 3000000000 ∧ Hid (ys ++ digs m = xs ++ digs k) ∧ Hid (Own .u64 46 B wr (.slice a ys.length c) ys) ∧ Hid (NewOr w (.slice a0 xs.length c0) (.slice a ys.length c)) ∧ Hid (Kp (At (.slice a0 xs.length c0)) w wr)) (fun _ kk _ => (intOf kk).toNat)
  case atStart => exact ⟨a0, c0, k, xs, rfl, rfl, hk3, rfl, HO.out, NewOr.refl _ _, Kp.refl _ _⟩
  case round =>
    obtain ⟨a, c, m, ys, rfl, rfl, hm, he, ho, hno, hk⟩ := hrel
    have hyl : ys.length ≤ 100002 := by
      have e := congrArg List.length he.out
      rw [List.length_append, List.length_append] at e
      have := HD.out
      omega
    by_cases hlt : 0 < m
    · have hsz := hk.out.size
      have hBw := HB.out
      have hdm := digs_pos (n := m) (by omega)
      rw [BB_eq] at hdm
      have HM := Lib.hid hdm
      obtain ⟨r, hr⟩ : ∃ r : Nat, r = m % 1000000000 := ⟨_, rfl⟩
      obtain ⟨q, hq⟩ : ∃ q : Nat, q = m / 1000000000 := ⟨_, rfl⟩
      have e1 : (m : Int) % 1000000000 = (r : Int) := by omega
      have e2 : (m : Int) / 1000000000 = (q : Int) := by omega
      have HR := Lib.hid hr
      have HQ := Lib.hid hq
      have hq3 : q ≤ 3000000000 := by omega
      have hqm := Lib.hid (show q < m by omega)
      have hr9 : r < 1000000000 := by omega
      clear hdm hr hq
      go_wp2_with (at_builtin; refine wpList_append_at _ rfl _ _ 49 rfl B 46 i0 (.int .u64 0) Tryd.underlying49 hi hz0 hz1 hz2 rfl _ ys.length (cls .u64 ys) rfl (World.ownsRow.alloc ho.out _) ⟨wr.heap.size, 0, none⟩ 1 (.int .u64 (r : Int)) rfl (cells_one _ _ _ 0 _ rfl) rfl (by omega) (by simp; omega) ?_)
      intro v' w1 hown' hgrow hnew
      have ho1 : Own .u64 46 B w1 v' (ys ++ [r]) := by
        unfold Own
        rw [cls_append, List.length_append]
        exact hown'
      obtain ⟨a', c', rfl⟩ := rd_form ho1.rd
      have HO1 := Lib.hid ho1
      have HN1 := Lib.hid (hno.out.trans hnew (by simp; omega))
      have HK1 := Lib.hid ((hk.out.alloc (.cells #[.int .u64 (r : Int)] 46)).grown hgrow (fun g hg hlt => by
        rcases hno.out g hg with h1 | h1
        · exact h1
        · omega))
      clear ho1 hown' hgrow hnew
      go_wp2
      go_roundw
      case rel => exact ⟨a', c', q, ys ++ [r], rfl, rfl, hq3, by rw [List.append_assoc, List.singleton_append, HR.out, HQ.out, ← HM.out]; exact he.out, HO1, HN1, HK1⟩
      case measure => simp [intOf]; have := hqm.out; omega
    · obtain rfl : m = 0 := by omega
      have hfin := he.out
      rw [digs_zero, List.append_nil] at hfin
      have HF := Lib.hid hfin
      clear hfin
      go_wp2
      go_ret
      refine ⟨_, rfl, ?_, hno.out, hk.out⟩
      rw [← HF.out]
      exact ho.out

theorem trim_take {xs : List Nat} (hB : ∀ x ∈ xs, x < BB) : xs.take (digs (wval xs)).length = digs (wval xs) ∧ (digs (wval xs)).length ≤ xs.length := by
  have hlen : (digs (wval xs)).length ≤ xs.length := digs_length_le (wval_lt xs hB)
  refine ⟨?_, hlen⟩
  have key : ∀ (n : Nat), Zs xs n → digs (wval xs) = xs.take (digs (wval xs)).length := by
    intro n
    induction n with
    | zero => intro hz; have e := digs_take hz.1 hB hz.2 (Or.inl rfl); have := hz.fin hB (Or.inl rfl); rw [← this]; exact e
    | succ n ih =>
      intro hz
      by_cases h0 : xs.getD n 0 = 0
      · exact ih (by have := hz.step (by simpa using h0); simpa using this)
      · have e := digs_take hz.1 hB hz.2 (Or.inr (by simpa using h0))
        have := hz.fin hB (Or.inr (by simpa using h0))
        rw [← this]; exact e
  exact (key _ (Zs.start xs)).symm

/-- Trim, with the place of what it returns. -/
theorem Trim_at (B : Nat) (v : Value) (xs : List Nat) (hB : ∀ x ∈ xs, x < BB) (w : World) (h : Own .u64 46 B w v xs) :
    Calls Tryd.prog 45 #[v] w fun e w' => ∃ v', e = .returned v' ∧ Own .u64 46 B w v' (digs (wval xs)) ∧ (∀ g, At v' g → At v g) ∧ w = w' := by
  have hd := trim_take hB
  have h0 := h
  obtain ⟨h1, h2⟩ := h
  rcases h2 with ⟨rfl, h3⟩ | ⟨g, cap, cur, rfl, hg, hh, hn, hc, hs, ht⟩
  · obtain rfl : xs = [] := List.length_eq_zero_iff.1 h3
    have hz : digs (wval []) = [] := by unfold wval; exact digs_zero
    rw [hz]
    clear hd hB h0 hz
    go_enter Tryd.func45, Tryd.ntmps45
    go_wp2
    refine wp_loop_rounds 1 ?_
    rw [rounds_succ]
    go_wp2
    go_ret
    exact ⟨_, rfl, Own.nil _ _ _ _, fun _ h => h, rfl⟩
  · have hrd : ∀ i, i < xs.length → w.cell? ⟨g, 0 + i, none⟩ = some (.int .u64 ((xs.getD i 0 : Nat) : Int)) := by
      rcases h0.rd with ⟨hv, _⟩ | ⟨b, o, c, hv, _, _, _, h5⟩
      · injection hv with hv; cases hv
      · injection hv with e1 e2 e3
        injection e1 with e1
        injection e1 with e4 e5 e6
        subst e4 e5 e3
        exact h5
    refine (Trim_some g 0 cap xs hB hn hc w hrd).mono fun e w' ⟨he, hw⟩ => ⟨_, he, ?_, fun k hk => (by rw [at_some] at hk ⊢; exact hk), hw⟩
    have := h0.take (digs (wval xs)).length hd.2
    rwa [hd.1] at this

end Go.Proofs.YtpdchplppkfdhaaDoor
