/- words.value, words.Trim and words.Read: walks. -/
import Derived.Test.YtpdchplppkfdhaaDoorStr
namespace Go.Proofs.YtpdchplppkfdhaaDoor
open Go.RowKit Go.Gb

theorem Tryd.info46 : (Tryd.prog.info? 46).map (fun i => (i.zero, i.size, i.bytes)) = some (some (.int .u64 0), 1, 8) := by kernel_rfl

theorem ret_slice {a : Option Addr} {n m c : Nat} (h : n = m) : Ending.returned (.slice a n c) = .returned (.slice a m c) := by rw [h]

/-! ### value -/
theorem dval_take_succ {s : ByteArray} {k : Nat} (hk : k < s.size) (h : s.data.toList.all isD = true) :
    dval (s.data.toList.take (k + 1)) = dval (s.data.toList.take k) * 10 + (s[k].toNat - 48) ∧ 48 ≤ s[k].toNat ∧ s[k].toNat ≤ 57 := by
  have h1 := List.all_eq_true.1 h (s.data.toList[k]'(by rw [size_list]; exact hk)) (List.getElem_mem _)
  rw [isD_iff, get_list s k hk] at h1
  rw [List.take_succ_eq_append_getElem (by rw [size_list]; exact hk), dval_snoc, get_list s k hk]
  exact ⟨rfl, h1⟩
theorem dval_take_lt {s : ByteArray} (h : s.data.toList.all isD = true) {k : Nat} (hk : k ≤ 8) : dval (s.data.toList.take k) < 100000000 := by
  have h1 := dval_lt (s.data.toList.take k) (by
    rw [List.all_eq_true] at h ⊢
    exact fun c hc => h c (List.mem_of_mem_take hc))
  have h2 : 10 ^ (s.data.toList.take k).length ≤ 10 ^ 8 := Nat.pow_le_pow_right (by decide) (by rw [List.length_take]; omega)
  omega

set_option maxHeartbeats 400000 in
theorem value_any (s : ByteArray) (h : s.data.toList.all isD = true) (hl : s.size ≤ 9) (w : World) :
    Calls Tryd.prog 46 #[.string s] w fun e w' => e = .returned (.int .u64 ((dval s.data.toList : Nat) : Int)) ∧ w = w' := by
  have H := Lib.hid h
  clear h
  go_enter Tryd.func46, Tryd.ntmps46
  go_wp2
  go_loop [3, 7, 4] (fun n i _ => ∃ (k m : Nat), k ≤ s.size ∧ i = .int .i64 k ∧ n = .int .u64 (m : Int) ∧ Hid (m = dval (s.data.toList.take k))) (fun _ i _ => s.size - (intOf i).toNat)
  case atStart => exact ⟨0, 0, Nat.zero_le _, rfl, rfl, rfl⟩
  case round =>
    obtain ⟨k, m, hk, rfl, rfl, hm⟩ := hrel
    by_cases hlt : k < s.size
    · obtain ⟨h1, h2, h3⟩ := dval_take_succ hlt H.out
      have h4 : m < 100000000 := by rw [hm.out]; exact dval_take_lt H.out (by omega)
      have H1 := Lib.hid h1
      clear h1
      go_wp2
      go_round
      case rel => exact ⟨k + 1, m * 10 + (s[k].toNat - 48), by omega, by go_num, by congr 1; omega, by have := hm.out; subst this; exact H1.out.symm⟩
      case measure => simp [intOf]; omega
    · have hk' : k = s.size := by omega
      have HK := Lib.hid hk'
      clear hk'
      go_wp2
      go_ret
      refine ⟨ret_int ?_, rfl⟩
      rw [hm.out, HK.out, List.take_of_length_le (by rw [size_list]; exact Nat.le_refl _)]

/-! ### Trim -/
def Zs (xs : List Nat) (n : Nat) : Prop := n ≤ xs.length ∧ ∀ i, n ≤ i → i < xs.length → xs.getD i 0 = 0
theorem Zs.start (xs : List Nat) : Zs xs xs.length := ⟨Nat.le_refl _, fun i h1 h2 => by omega⟩
theorem Zs.step {xs : List Nat} {n : Nat} (h : Zs xs n) (h0 : xs.getD (n - 1) 0 = 0) : Zs xs (n - 1) := by
  refine ⟨by have := h.1; omega, fun i h1 h2 => ?_⟩
  by_cases hi : n ≤ i
  · exact h.2 i hi h2
  · obtain rfl : i = n - 1 := by omega
    exact h0
theorem Zs.fin {xs : List Nat} {n : Nat} (h : Zs xs n) (hB : ∀ x ∈ xs, x < BB) (hl : n = 0 ∨ xs.getD (n - 1) 0 ≠ 0) : n = (digs (wval xs)).length := by
  rw [digs_take h.1 hB h.2 hl, List.length_take, Nat.min_eq_left h.1]

set_option maxHeartbeats 800000 in
theorem Trim_some (b o c : Nat) (xs : List Nat) (hB : ∀ x ∈ xs, x < BB) (hxc : xs.length ≤ c) (hcm : c ≤ maxLen) (w : World)
    (hc : ∀ i, i < xs.length → w.cell? ⟨b, o + i, none⟩ = some (.int .u64 ((xs.getD i 0 : Nat) : Int))) :
    Calls Tryd.prog 45 #[.slice (some ⟨b, o, none⟩) xs.length c] w fun e w' => e = .returned (.slice (some ⟨b, o, none⟩) (digs (wval xs)).length c) ∧ w = w' := by
  unfold maxLen at hcm
  have HC := Lib.hid hc
  have HB := Lib.hid hB
  clear hc hB
  go_enter Tryd.func45, Tryd.ntmps45
  go_wp2
  go_loop [0] (fun x => ∃ n : Nat, n ≤ c ∧ x = .slice (some ⟨b, o, none⟩) n c ∧ Zs xs n) (fun x => match x with | .slice _ n _ => n | _ => 0)
  case atStart => exact ⟨xs.length, hxc, rfl, Zs.start xs⟩
  case round =>
    obtain ⟨n, hn, rfl, hz⟩ := hrel
    by_cases h0 : n = 0
    · have HF := Lib.hid (hz.fin HB.out (Or.inl h0))
      subst h0
      go_wp2
      go_ret
      exact ⟨ret_slice HF.out, rfl⟩
    · have hp : 0 < n := by omega
      have hcell := HC.out (n - 1) (by have := hz.1; omega)
      by_cases hd : xs.getD (n - 1) 0 = 0
      · rw [hd] at hcell
        have hz' := hz.step hd
        clear hd
        go_wp2
        go_round
        case rel => exact ⟨n - 1, by omega, rfl, hz'⟩
        case measure => simp; omega
      · have HF := Lib.hid (hz.fin HB.out (Or.inr hd))
        obtain ⟨d, hdd⟩ : ∃ d, d = xs.getD (n - 1) 0 := ⟨_, rfl⟩
        rw [← hdd] at hcell hd
        have hb : ((d : Int) == 0) = false := by simpa using hd
        have hd' : 0 < d := by omega
        clear hd hdd
        go_wp2
        go_ret
        exact ⟨ret_slice HF.out, rfl⟩

theorem Trim_own (k : TypeId) (B : Nat) (v : Value) (xs : List Nat) (hB : ∀ x ∈ xs, x < BB) (w : World) (h : Own .u64 k B w v xs) :
    Calls Tryd.prog 45 #[v] w fun e w' => ∃ v', e = .returned v' ∧ Own .u64 k B w v' (digs (wval xs)) ∧ w = w' := by
  have hd : xs.take (digs (wval xs)).length = digs (wval xs) ∧ (digs (wval xs)).length ≤ xs.length := by
    have hlen : (digs (wval xs)).length ≤ xs.length := digs_length_le (wval_lt xs hB)
    refine ⟨?_, hlen⟩
    generalize hm : (digs (wval xs)).length = m at hlen
    -- the greatest place without a zero
    have key : ∀ (n : Nat), Zs xs n → digs (wval xs) = xs.take (digs (wval xs)).length := by
      intro n
      induction n with
      | zero => intro hz; have e := digs_take hz.1 hB hz.2 (Or.inl rfl); have := hz.fin hB (Or.inl rfl); rw [← this]; exact e
      | succ n ih =>
        intro hz
        by_cases h0 : xs.getD n 0 = 0
        · exact ih (by have := hz.step (by simpa using h0); simpa using this)
        · have e := digs_take hz.1 hB hz.2 (Or.inr (by simpa using h0))
          have := hz.fin hB (Or.inr (by simpa using h0))
          rw [← this]; exact e
    rw [← hm]
    exact (key _ (Zs.start xs)).symm
  have h0 := h
  obtain ⟨h1, h2⟩ := h
  rcases h2 with ⟨rfl, h3⟩ | ⟨g, cap, cur, rfl, hg, hh, hn, hc, hs, ht⟩
  · obtain rfl : xs = [] := List.length_eq_zero_iff.1 h3
    have hz : digs (wval []) = [] := by unfold wval; exact digs_zero
    rw [hz]
    clear hd hB h0 hz
    go_enter Tryd.func45, Tryd.ntmps45
    go_wp2
    refine wp_loop_rounds 1 ?_
    rw [rounds_succ]
    go_wp2
    go_ret
    exact ⟨_, rfl, Own.nil _ _ _ _, rfl⟩
  · have hrd : ∀ i, i < xs.length → w.cell? ⟨g, 0 + i, none⟩ = some (.int .u64 ((xs.getD i 0 : Nat) : Int)) := by
      rcases h0.rd with ⟨hv, _⟩ | ⟨b, o, c, hv, _, _, _, h5⟩
      · injection hv with hv; cases hv
      · injection hv with e1 e2 e3
        injection e1 with e1
        injection e1 with e4 e5 e6
        subst e4 e5 e3
        exact h5
    refine (Trim_some g 0 cap xs hB hn hc w hrd).mono fun e w' ⟨he, hw⟩ => ⟨_, he, ?_, hw⟩
    have := h0.take (digs (wval xs)).length hd.2
    rwa [hd.1] at this

end Go.Proofs.YtpdchplppkfdhaaDoor
