/- Knuth's algorithm D: words.divideLong: a walk. -/
import Derived.Test.YtpdchplppkfdhaaDoorKc
import Derived.Laws.CopyOwn
namespace Go.Gb
theorem wval_inj {xs ys : List Nat} (hl : xs.length = ys.length) (hx : ∀ w ∈ xs, w < BB) (hy : ∀ w ∈ ys, w < BB) (h : wval xs = wval ys) : xs = ys := by
  induction xs generalizing ys with
  | nil => exact (List.length_eq_zero_iff.1 hl.symm).symm
  | cons x xs ih =>
    match ys, hl with
    | y :: ys, hl =>
      rw [wval, wval] at h
      have h1 := hx x (by simp)
      have h2 := hy y (by simp)
      have e := congrArg (· % BB) h
      simp only [Nat.add_mul_mod_self_left, Nat.mod_eq_of_lt h1, Nat.mod_eq_of_lt h2] at e
      subst e
      have e2 : BB * wval xs = BB * wval ys := by omega
      rw [ih (by simpa using hl) (fun w hw => hx w (by simp [hw])) (fun w hw => hy w (by simp [hw])) (Nat.eq_of_mul_eq_mul_left BB_pos e2)]
theorem digs_one {s : Nat} (h0 : 0 < s) (h : s < BB) : digs s = [s] := by
  rw [digs_pos (by omega), Nat.div_eq_of_lt h, digs_zero, Nat.mod_eq_of_lt h]
/-- The scaled divisor: as many words, the highest one great. -/
theorem scaled {b s n y : Nat} (hb : b ≠ 0) (hn : (digs b).length = n) (hy : y = (digs b).getD (n - 1) 0) (hs : s = BB / (y + 1)) :
    1 ≤ y ∧ y < BB ∧ 1 ≤ s ∧ s < BB ∧ (digs (b * s)).length = n ∧ b * s < BB ^ n ∧ 500000000 ≤ (digs (b * s)).getD (n - 1) 0 ∧ BB ^ (n - 1) ≤ b := by
  have hne : digs b ≠ [] := by rw [digs_pos hb]; simp
  have hn0 : 0 < n := by rw [← hn]; exact List.length_pos_iff.2 hne
  have hyl : y = (digs b).getLast hne := by rw [hy, ← hn, getD_of_lt (by omega), List.getLast_eq_getElem]
  have hy1 : 1 ≤ y := by have := digs_last b hne; rw [← hyl] at this; omega
  have hy2 : y < BB := by rw [hy]; exact digs_lt b _ (mem_getD (by omega))
  obtain ⟨k1, k2, k3, k4⟩ := scale_half hy1 hy2
  rw [← hs] at k1 k2 k3 k4
  obtain ⟨m, rfl⟩ : ∃ m, n = m + 1 := ⟨n - 1, by omega⟩
  rw [show m + 1 - 1 = m by omega] at *
  have eb : b = wval ((digs b).take m) + BB ^ m * y := by
    conv => lhs; rw [← wval_digs b]
    rw [← List.take_of_length_le (show (digs b).length ≤ m + 1 by omega), take_succ_any, List.take_take, Nat.min_eq_left (by omega), hy]
  have lb := wval_le_of_len (n := m) (xs := (digs b).take m) (fun w hw => digs_lt b w (List.mem_of_mem_take hw)) (by simp; omega)
  have hblo : BB ^ m * y ≤ b := by omega
  have hbhi : b < BB ^ m * (y + 1) := by rw [Nat.mul_add, Nat.mul_one]; omega
  have hlt : b * s < BB ^ (m + 1) := by
    have h1 : b * s < BB ^ m * (y + 1) * s := Nat.mul_lt_mul_of_pos_right hbhi (by omega)
    have h2 : BB ^ m * (y + 1) * s ≤ BB ^ m * BB := by rw [Nat.mul_assoc]; exact Nat.mul_le_mul_left _ k2
    rw [Nat.pow_succ]; omega
  have hge : BB ^ m * (y * s) ≤ b * s := by rw [← Nat.mul_assoc]; exact Nat.mul_le_mul_right _ hblo
  have hpow : BB ^ m ≤ b := by
    have : BB ^ m * 1 ≤ BB ^ m * y := Nat.mul_le_mul_left _ hy1
    omega
  have hl1 := digs_length_le hlt
  have hbs : b ≤ b * s := by have := Nat.mul_le_mul_left b k3; omega
  have hl2 := digs_length_mono hbs
  have hlen : (digs (b * s)).length = m + 1 := by omega
  refine ⟨hy1, hy2, k3, k4, hlen, hlt, ?_, hpow⟩
  have ev : b * s = wval ((digs (b * s)).take m) + BB ^ m * (digs (b * s)).getD m 0 := by
    conv => lhs; rw [← wval_digs (b * s)]
    rw [← List.take_of_length_le (show (digs (b * s)).length ≤ m + 1 by omega), take_succ_any, List.take_take, Nat.min_eq_left (by omega), List.take_of_length_le (show (digs (b * s)).length ≤ m + 1 by omega)]
  have lv := wval_le_of_len (n := m) (xs := (digs (b * s)).take m) (fun w hw => digs_lt _ w (List.mem_of_mem_take hw)) (by simp; omega)
  have h3 : BB ^ m * (y * s) < BB ^ m * ((digs (b * s)).getD m 0 + 1) := by rw [Nat.mul_add, Nat.mul_one]; omega
  have h4 := Nat.lt_of_mul_lt_mul_left h3
  omega
/-- The division begins. -/
theorem KI.start {a b s m n : Nat} (hm : (digs a).length = m) (hn0 : 0 < n) (hnm : n ≤ m) (hb : BB ^ (n - 1) ≤ b) (hs : 0 < s) (hsB : s < BB) :
    KI (a * s) (b * s) (m + 1) (digs (a * s) ++ List.replicate (m + 1 - (digs (a * s)).length) 0) [] (m - n + 1) ∧ (digs (a * s)).length ≤ m + 1 := by
  have ha : a < BB ^ m := by rw [← hm]; exact lt_pow_digs a
  have hR : a * s < BB ^ (m + 1) := by rw [Nat.pow_succ]; exact Nat.mul_lt_mul_of_lt_of_le ha (Nat.le_of_lt hsB) BB_pos
  have hl := digs_length_le hR
  generalize hus : digs (a * s) ++ List.replicate (m + 1 - (digs (a * s)).length) 0 = us
  have hul : us.length = m + 1 := by rw [← hus]; simp; omega
  have huw : wval us = a * s := by rw [← hus, wval_zeros, wval_digs]
  have huB : ∀ w ∈ us, w < BB := by
    intro w hw
    rw [← hus] at hw
    rcases List.mem_append.1 hw with hw | hw
    · exact digs_lt _ w hw
    · rw [(List.mem_replicate.1 hw).2]; exact BB_pos
  refine ⟨⟨hul, huB, by simp, ?_, by simp [wval, huw]⟩, hl⟩
  have hsp := wval_split us (m - n + 1) (by omega)
  rw [huw] at hsp
  have h1 : BB ^ (m - n + 1) * wval (us.drop (m - n + 1)) < BB ^ (m - n + 1) * (b * s) := by
    have e1 : BB ^ m * s = BB ^ (m - n + 1) * (BB ^ (n - 1) * s) := by rw [← Nat.mul_assoc, ← Nat.pow_add, show m - n + 1 + (n - 1) = m by omega]
    have e2 : a * s < BB ^ m * s := Nat.mul_lt_mul_of_pos_right ha hs
    have e3 : BB ^ (n - 1) * s ≤ b * s := Nat.mul_le_mul_right _ hb
    have e4 : BB ^ (m - n + 1) * (BB ^ (n - 1) * s) ≤ BB ^ (m - n + 1) * (b * s) := Nat.mul_le_mul_left _ e3
    omega
  exact Nat.lt_of_mul_lt_mul_left h1
theorem top_le {xs vs : List Nat} {n : Nat} (hn : 0 < n) (hxl : xs.length = n + 1) (hvl : vs.length = n) (hv : ∀ v ∈ vs, v < BB) (hlt : wval xs < BB * wval vs) : xs.getD n 0 ≤ vs.getD (n - 1) 0 := by
  obtain ⟨m, rfl⟩ : ∃ m, n = m + 1 := ⟨n - 1, by omega⟩
  rw [show m + 1 - 1 = m by omega]
  have e1 : wval xs = wval (xs.take (m + 1)) + BB ^ (m + 1) * xs.getD (m + 1) 0 := by rw [← take_succ_any, List.take_of_length_le (by omega)]
  have e2 : wval vs = wval (vs.take m) + BB ^ m * vs.getD m 0 := by rw [← take_succ_any, List.take_of_length_le (by omega)]
  have lv := wval_le_of_len (n := m) (xs := vs.take m) (fun w hw => hv w (List.mem_of_mem_take hw)) (by simp; omega)
  have h3 : wval vs < BB ^ m * (vs.getD m 0 + 1) := by rw [Nat.mul_add, Nat.mul_one]; omega
  have h4 : BB * wval vs < BB * (BB ^ m * (vs.getD m 0 + 1)) := Nat.mul_lt_mul_of_pos_left h3 BB_pos
  have h5 : BB * (BB ^ m * (vs.getD m 0 + 1)) = BB ^ (m + 1) * (vs.getD m 0 + 1) := by rw [← Nat.mul_assoc, Nat.pow_succ, Nat.mul_comm BB]
  have h6 : BB ^ (m + 1) * xs.getD (m + 1) 0 < BB ^ (m + 1) * (vs.getD m 0 + 1) := by omega
  have := Nat.lt_of_mul_lt_mul_left h6
  omega
theorem getD_mid {us : List Nat} {j n i : Nat} (h : i < n) : ((us.drop j).take n).getD i 0 = us.getD (j + i) 0 := by
  simp [List.getD, h, List.getElem?_drop]
theorem part_split (us : List Nat) (j n : Nat) : us = us.take j ++ ((us.drop j).take n ++ us.drop (j + n)) := by
  conv => lhs; rw [← List.take_append_drop j us, ← List.take_append_drop n (us.drop j), List.drop_drop]
theorem digs_cells {us : List Nat} (hB : ∀ w ∈ us, w < BB) {i : Nat} (h : i < (digs (wval us)).length) : (digs (wval us)).getD i 0 = us.getD i 0 ∧ i < us.length := by
  have hlen : (digs (wval us)).length ≤ us.length := digs_length_le (wval_lt us hB)
  refine ⟨?_, by omega⟩
  have e : wval us = wval (digs (wval us) ++ List.replicate (us.length - (digs (wval us)).length) 0) := by rw [wval_zeros, wval_digs]
  have h1 : us = digs (wval us) ++ List.replicate (us.length - (digs (wval us)).length) 0 := by
    refine wval_inj (by simp; omega) hB ?_ e
    intro w hw
    rcases List.mem_append.1 hw with hw | hw
    · exact digs_lt _ w hw
    · rw [(List.mem_replicate.1 hw).2]; exact BB_pos
  conv => rhs; rw [h1]
  simp [List.getD, List.getElem?_append_left h]
end Go.Gb

namespace Go.Proofs.YtpdchplppkfdhaaDoor
open Go.RowKit Go.Gb
theorem splice_zeros {D : List Nat} {L : Nat} : splice (cls .u64 (List.replicate L 0)) 0 (cls .u64 D) = cls .u64 (D ++ List.replicate (L - D.length) 0) := by
  unfold splice
  rw [cls_append, cls_length]
  simp [cls]
end Go.Proofs.YtpdchplppkfdhaaDoor
