/- Knuth's algorithm D: words.addBack: a walk; one step of the division, and its beginning, as arithmetic. -/
import Derived.Test.YtpdchplppkfdhaaDoorKb
namespace Go.Gb

/-! ### the scale -/
theorem scale_half {y : Nat} (h1 : 1 ≤ y) (h2 : y < BB) : 500000000 ≤ y * (BB / (y + 1)) ∧ (y + 1) * (BB / (y + 1)) ≤ BB ∧ 1 ≤ BB / (y + 1) ∧ BB / (y + 1) < BB := by
  have hs : (y + 1) * (BB / (y + 1)) ≤ BB := Nat.mul_div_le _ _
  have hs2 : BB < (y + 1) * (BB / (y + 1)) + (y + 1) := by
    have := Nat.div_add_mod BB (y + 1)
    have := Nat.mod_lt BB (show 0 < y + 1 by omega)
    omega
  have h3 : 1 ≤ BB / (y + 1) := (Nat.le_div_iff_mul_le (by omega)).2 (by omega)
  refine ⟨?_, hs, h3, Nat.div_lt_self BB_pos (by omega)⟩
  generalize BB / (y + 1) = s at *
  rw [BB_eq] at *
  rw [Nat.add_mul, Nat.one_mul] at hs hs2
  rcases Nat.lt_or_ge 1 s with hs3 | hs3
  · rcases Nat.lt_or_ge 1 y with hy | hy
    · have : (y - 2) * 1 ≤ (y - 2) * (s - 1) := Nat.mul_le_mul_left _ (by omega)
      obtain ⟨y', rfl⟩ : ∃ y', y = y' + 2 := ⟨y - 2, by omega⟩
      obtain ⟨s', rfl⟩ : ∃ s', s = s' + 2 := ⟨s - 2, by omega⟩
      have e1 : (y' + 2) * (s' + 2) = y' * s' + 2 * y' + 2 * s' + 4 := by rw [Nat.add_mul, Nat.mul_add, Nat.mul_add]; omega
      omega
    · obtain rfl : y = 1 := by omega
      omega
  · obtain rfl : s = 1 := by omega
    omega

/-! ### one word of the quotient -/
theorem guess_two {xs vs : List Nat} {n g : Nat} (hn : 2 ≤ n) (hxl : xs.length = n + 1) (hvl : vs.length = n) (hx : ∀ x ∈ xs, x < BB) (hv : ∀ v ∈ vs, v < BB) (hlt : wval xs < BB * wval vs) (hv1 : 0 < vs.getD (n - 1) 0)
    (hg : GOK (xs.getD n 0) (xs.getD (n - 1) 0) (xs.getD (n - 2) 0) (vs.getD (n - 1) 0) (vs.getD (n - 2) 0) g) : wval xs / wval vs ≤ g ∧ g ≤ wval xs / wval vs + 1 := by
  obtain ⟨m, rfl⟩ : ∃ m, n = m + 2 := ⟨n - 2, by omega⟩
  rw [show m + 2 - 1 = m + 1 by omega, show m + 2 - 2 = m by omega] at *
  have hxt : ∀ w ∈ xs.take m, w < BB := fun w hw => hx w (List.mem_of_mem_take hw)
  have hvt : ∀ w ∈ vs.take m, w < BB := fun w hw => hv w (List.mem_of_mem_take hw)
  have lx := wval_le_of_len (n := m) hxt (by simp; omega)
  have lv := wval_le_of_len (n := m) hvt (by simp; omega)
  have ex : wval xs = wval (xs.take m) + ((xs.getD (m + 2) 0 * BB + xs.getD (m + 1) 0) * BB + xs.getD m 0) * BB ^ m := by
    have h1 : wval xs = wval (xs.take (m + 2 + 1)) := by rw [List.take_of_length_le (by omega)]
    rw [h1, take_succ_any, take_succ_any, take_succ_any]
    simp only [Nat.pow_succ]
    generalize xs.getD (m + 2) 0 = a
    generalize xs.getD (m + 1) 0 = b
    generalize xs.getD m 0 = c
    generalize BB ^ m = P
    rw [Nat.add_mul, Nat.add_mul, Nat.add_mul]
    rw [show a * BB * BB * P = P * BB * BB * a by rw [Nat.mul_comm, Nat.mul_comm a BB, Nat.mul_comm _ BB, ← Nat.mul_assoc, ← Nat.mul_assoc]]
    rw [show b * BB * P = P * BB * b by rw [Nat.mul_comm, Nat.mul_comm b BB, ← Nat.mul_assoc]]
    rw [Nat.mul_comm c P]
    omega
  have ev : wval vs = wval (vs.take m) + (vs.getD (m + 1) 0 * BB + vs.getD m 0) * BB ^ m := by
    have h1 : wval vs = wval (vs.take (m + 1 + 1)) := by rw [List.take_of_length_le (by omega)]
    rw [h1, take_succ_any, take_succ_any]
    simp only [Nat.pow_succ]
    generalize vs.getD (m + 1) 0 = b
    generalize vs.getD m 0 = c
    generalize BB ^ m = P
    rw [Nat.add_mul]
    rw [show b * BB * P = P * BB * b by rw [Nat.mul_comm, Nat.mul_comm b BB, ← Nat.mul_assoc]]
    rw [Nat.mul_comm c P]
    omega
  obtain ⟨g1, g2, g3⟩ := hg
  generalize (xs.getD (m + 2) 0 * BB + xs.getD (m + 1) 0) * BB + xs.getD m 0 = T3 at *
  have hV2 : BB ≤ vs.getD (m + 1) 0 * BB + vs.getD m 0 := by
    have : 1 * BB ≤ vs.getD (m + 1) 0 * BB := Nat.mul_le_mul_right _ hv1
    omega
  generalize vs.getD (m + 1) 0 * BB + vs.getD m 0 = V2 at *
  have hP : 0 < BB ^ m := Nat.pow_pos BB_pos
  have hV0 : 0 < V2 := Nat.lt_of_lt_of_le BB_pos hV2
  have hVlo : V2 * BB ^ m ≤ wval vs := by omega
  have hVhi : wval vs < (V2 + 1) * BB ^ m := by rw [Nat.add_mul, Nat.one_mul]; omega
  have hUlo : T3 * BB ^ m ≤ wval xs := by omega
  have hUhi : wval xs < (T3 + 1) * BB ^ m := by rw [Nat.add_mul, Nat.one_mul]; omega
  have hVpos : 0 < wval vs := Nat.lt_of_lt_of_le (Nat.mul_pos hV0 hP) hVlo
  refine ⟨g3 _ ?_ ?_, guess_right hP hVlo hVhi hUlo g2 (by omega)⟩
  · rw [Nat.div_lt_iff_lt_mul hVpos]; exact hlt
  · have := quo_le hV0 hVlo hUhi
    rw [Nat.le_div_iff_mul_le hV0] at this
    exact this

/-- The multiple was right. -/
theorem step_right {X Y V g k P : Nat} (hV : 0 < V) (hg : X / V ≤ g) (he : X + P * k = Y + g * V) (h0 : k = 0) : g = X / V ∧ Y = X % V := by
  subst h0
  have h1 : g * V ≤ X := by omega
  have h2 : g ≤ X / V := (Nat.le_div_iff_mul_le hV).2 h1
  have h3 : g = X / V := by omega
  have := Nat.div_add_mod X V
  have e : g * V = V * (X / V) := by rw [h3, Nat.mul_comm]
  exact ⟨h3, by omega⟩
/-- It was one too many: k is 1, and what is added back gives the remainder. -/
theorem step_wrong {X Y V g P : Nat} (hV : 0 < V) (hg : X / V ≤ g) (hg2 : g ≤ X / V + 1) (hY : Y < P) (he : X + P * 1 = Y + g * V) : g - 1 = X / V ∧ 1 ≤ g ∧ Y + V = X % V + P := by
  have h1 : X < g * V := by omega
  have h2 : X / V < g := by rw [Nat.div_lt_iff_lt_mul hV]; exact h1
  have h3 : g = X / V + 1 := by omega
  have := Nat.div_add_mod X V
  have e : g * V = V * (X / V) + V := by rw [h3, Nat.add_mul, Nat.one_mul, Nat.mul_comm]
  generalize g * V = gv at *
  generalize V * (X / V) = p at *
  generalize X / V = q at *
  generalize X % V = r at *
  exact ⟨by omega, by omega, by omega⟩
theorem back_rest {Yt Z V r P t c : Nat} (hZ : Z < P) (hr : r < P) (hs : Yt + V = Z + P * c) (hY : Yt + P * t + V = r + P * BB) : Z = r := by
  have h : Z + P * (c + t) = r + P * BB := by rw [Nat.mul_add]; omega
  have h1 := congrArg (· % P) h
  simp only [Nat.add_mul_mod_self_left, Nat.mod_eq_of_lt hZ, Nat.mod_eq_of_lt hr] at h1
  exact h1

/-! ### the division -/
/-- j words of the quotient are still to come. -/
def KI (R V : Nat) (L : Nat) (us os : List Nat) (j : Nat) : Prop := us.length = L ∧ (∀ w ∈ us, w < BB) ∧ (∀ w ∈ os, w < BB) ∧ wval (us.drop j) < V ∧ R = wval us + BB ^ j * (wval os * V)
theorem KI.high {R V L n j : Nat} {us os : List Nat} (h : KI R V L us os (j + 1)) (hV : V < BB ^ n) (hjl : j + n < L) : wval (us.drop (j + n + 1)) = 0 ∧ wval ((us.drop j).take (n + 1)) = wval (us.drop j) ∧ wval ((us.drop j).take (n + 1)) < BB * V := by
  obtain ⟨h1, h2, h3, h4, h5⟩ := h
  have e1 := wval_split (us.drop (j + 1)) n (by simp; omega)
  rw [List.drop_drop, show j + 1 + n = j + n + 1 by omega] at e1
  have hz : wval (us.drop (j + n + 1)) = 0 := by
    rcases Nat.eq_zero_or_pos (wval (us.drop (j + n + 1))) with h | h
    · exact h
    · have : BB ^ n * 1 ≤ BB ^ n * wval (us.drop (j + n + 1)) := Nat.mul_le_mul_left _ h
      omega
  have e2 := wval_split (us.drop j) (n + 1) (by simp; omega)
  rw [List.drop_drop, show j + (n + 1) = j + n + 1 by omega, hz, Nat.mul_zero, Nat.add_zero] at e2
  refine ⟨hz, e2.symm, ?_⟩
  rw [← e2, wval_drop (by omega)]
  have hw := h2 _ (mem_getD (xs := us) (i := j) (by omega))
  have : BB * (wval (us.drop (j + 1)) + 1) ≤ BB * V := Nat.mul_le_mul_left _ h4
  rw [Nat.mul_add, Nat.mul_one] at this
  omega
theorem KI.step {R V L n j q : Nat} {us os zs : List Nat} (h : KI R V L us os (j + 1)) (hV0 : 0 < V) (hV : V < BB ^ n) (hjl : j + n < L) (hzl : zs.length = n + 1) (hz : ∀ z ∈ zs, z < BB)
    (hzv : wval zs = wval ((us.drop j).take (n + 1)) % V) (hq : q = wval ((us.drop j).take (n + 1)) / V) : KI R V L (us.take j ++ (zs ++ us.drop (j + n + 1))) (q :: os) j := by
  obtain ⟨g1, g2, g3⟩ := h.high hV hjl
  obtain ⟨h1, h2, h3, h4, h5⟩ := h
  have hlen : (us.take j).length = j := by simp; omega
  have e0 : (us.take j ++ (zs ++ us.drop (j + n + 1))).drop j = zs ++ us.drop (j + n + 1) := by
    rw [List.drop_append, List.drop_of_length_le (by omega), hlen, Nat.sub_self, List.drop_zero, List.nil_append]
  have e1 : wval (zs ++ us.drop (j + n + 1)) = wval zs := by rw [wval_append, g1, Nat.mul_zero, Nat.add_zero]
  have hqB : q < BB := by rw [hq, Nat.div_lt_iff_lt_mul hV0]; exact g3
  refine ⟨by simp [hzl]; omega, ?_, ?_, ?_, ?_⟩
  · intro w hw
    rcases List.mem_append.1 hw with hw | hw
    · exact h2 w (List.mem_of_mem_take hw)
    · rcases List.mem_append.1 hw with hw | hw
      · exact hz w hw
      · exact h2 w (List.mem_of_mem_drop hw)
  · intro w hw
    rcases List.mem_cons.1 hw with hw | hw
    · rw [hw]; exact hqB
    · exact h3 w hw
  · rw [e0, e1, hzv]; exact Nat.mod_lt _ hV0
  · rw [wval_append, e1, hlen, wval]
    have e2 := wval_split us j (by omega)
    have e3 := Nat.div_add_mod (wval (us.drop j)) V
    rw [g2] at hzv hq
    rw [← hzv, ← hq] at e3
    rw [h5, e2, ← e3, Nat.pow_succ]
    generalize wval (us.take j) = A
    generalize wval zs = Z
    generalize wval os = W
    generalize BB ^ j = P
    rw [Nat.mul_add P, Nat.add_mul q, Nat.mul_add P, Nat.mul_comm V q]
    rw [show P * BB * (W * V) = P * (BB * W * V) by rw [Nat.mul_assoc P, Nat.mul_assoc BB]]
    omega
theorem KI.done {R V L : Nat} {us os : List Nat} (h : KI R V L us os 0) : wval us = R % V ∧ wval os = R / V := by
  obtain ⟨h1, h2, h3, h4, h5⟩ := h
  rw [List.drop_zero] at h4
  rw [Nat.pow_zero, Nat.one_mul] at h5
  rw [h5, Nat.add_mul_mod_self_right, Nat.mod_eq_of_lt h4, Nat.add_mul_div_right _ _ (by omega), Nat.div_eq_of_lt h4, Nat.zero_add]
  exact ⟨rfl, rfl⟩
end Go.Gb

namespace Go.Proofs.YtpdchplppkfdhaaDoor
open Go.RowKit Go.Gb

set_option maxRecDepth 100000 in
set_option maxHeartbeats 2000000 in
theorem addBack_any (g c b2 o2 c2 n : Nat) (pre xs post vs : List Nat) (hxl : xs.length = n + 1) (hvl : vs.length = n) (hn : n ≤ 100000) (hx : ∀ x ∈ xs, x < BB) (hv : ∀ v ∈ vs, v < BB) (w : World)
    (hb : Blk w g (pre ++ (xs ++ post))) (hb2 : b2 < w.heap.size) (hne : b2 ≠ g) (hcv : ∀ i, i < n → w.cell? ⟨b2, o2 + i, none⟩ = some (.int .u64 ((vs.getD i 0 : Nat) : Int))) :
    Calls Tryd.prog 67 #[.slice (some ⟨g, pre.length, none⟩) (n + 1) c, .slice (some ⟨b2, o2, none⟩) n c2] w fun e w' =>
      e = .returned (.tuple #[]) ∧ (∃ (ys : List Nat) (k : Nat), ys.length = n ∧ (∀ y ∈ ys, y < BB) ∧ wval ys + BB ^ n * k = wval (xs.take n) + wval vs ∧ Blk w' g (pre ++ ((ys ++ [0]) ++ post))) ∧ w.grownBy w' (some g) := by
  have HX := Lib.hid hx
  have HV := Lib.hid hv
  have HB := Lib.hid hb
  have HCV := Lib.hid hcv
  have HXL := Lib.hid hxl
  have HVL := Lib.hid hvl
  clear hx hv hb hcv hxl hvl
  go_enter Tryd.func67, Tryd.ntmps67
  go_wp2
  go_loopw [4, 5, 6, 7, 10] (fun cc _ _ _ ii wr => ∃ (i k : Nat) (ys : List Nat), i ≤ n ∧ ii = .int .i64 i ∧ cc = .int .u64 (k : Int) ∧ Hid (SumInv xs vs ys i k) ∧ Hid (Blk wr g (pre ++ (ys ++ (xs.drop i ++ post)))) ∧ Hid (w.grownBy wr (some g))) (fun _ _ _ _ ii _ => n - (intOf ii).toNat)
  case atStart => exact ⟨0, 0, [], Nat.zero_le _, rfl, rfl, SumInv.start xs vs, HB, World.grownBy.refl _ _⟩
  case round =>
    obtain ⟨i, k, ys, hi, rfl, rfl, hI, hB, hG⟩ := hrel
    have hdr := drop_consD (xs := xs) (i := i) (by have := HXL.out; omega)
    have hxw := HX.out _ (mem_getD (xs := xs) (i := i) (by have := HXL.out; omega))
    have hB' := hB.out
    rw [hdr, List.cons_append] at hB'
    have hyl : ys.length = i := hI.out.1
    have hcell := hB'.cell (i := pre.length + ys.length) (by simp)
    have hfree := hB'.free (pre.length + ys.length)
    have hset := fun z : Nat => hB'.set (pre.length + ys.length) z
    rw [get_mid] at hcell
    simp only [set_mid'] at hset
    rw [hyl] at hcell hfree hset
    have hk : k ≤ 1 := hI.out.2.2.1
    have hk2 : (k : Int) ≤ 1 := by omega
    by_cases hlt : i < n
    · have hcv := (grown_cell hG.out hb2 hne).trans (HCV.out i hlt)
      have hvw := HV.out _ (mem_getD (xs := vs) (i := i) (by have := HVL.out; omega))
      have hnx := hI.out.step hxw hvw
      have HN1 := Lib.hid hnx
      have HS1 := Lib.hid (hset ((xs.getD i 0 + vs.getD i 0 + k) % BB))
      have hG1 := Lib.hid (Lib.grownBy_setB hG.out (pre.length + i) (.int .u64 (((xs.getD i 0 + vs.getD i 0 + k) % BB : Nat) : Int)))
      clear hnx hset hB' hdr hyl hB
      generalize xs.getD i 0 = x at *
      generalize vs.getD i 0 = v at *
      have hmod : ((x : Int) + (v : Int) + (k : Int)) % 1000000000 = (((x + v + k) % BB : Nat) : Int) := by rw [BB_eq]; omega
      have hdiv : ((x : Int) + (v : Int) + (k : Int)) / 1000000000 = (((x + v + k) / BB : Nat) : Int) := by rw [BB_eq]; omega
      have hx2 : (x : Int) ≤ 999999999 := by rw [BB_eq] at hxw; omega
      have hv2 : (v : Int) ≤ 999999999 := by rw [BB_eq] at hvw; omega
      have i1 : (i : Int) < (n : Int) := by omega
      rw [← hmod] at HS1 hG1
      have HDv := Lib.hid hdiv
      clear hmod hdiv hvw hxw hk
      go_wp2
      go_roundw
      case rel => exact ⟨i + 1, (x + v + k) / BB, ys ++ [(x + v + k) % BB], by omega, by go_num, by rw [HDv.out], HN1, by rw [List.append_assoc]; exact HS1, hG1⟩
      case measure => simp [intOf]; omega
    · have hi' : i = n := by omega
      subst hi'
      have hd0 : xs.drop (i + 1) = [] := List.drop_of_length_le (by have := HXL.out; omega)
      rw [hd0, List.nil_append] at hset
      have HS1 := Lib.hid (hset 0)
      have hG1 := Lib.hid (Lib.grownBy_setB hG.out (pre.length + i) (.int .u64 ((0 : Nat) : Int)))
      obtain ⟨f1, f2, f3, f4⟩ := hI.out
      rw [List.take_of_length_le (show vs.length ≤ i by have := HVL.out; omega)] at f4
      have HF := Lib.hid f4
      have HF2 := Lib.hid f2
      clear hset hB' hdr hB hI hd0 f2 f3 f4 hyl
      generalize xs.getD i 0 = x at *
      go_wp2
      go_end0
      exact ⟨rfl, ⟨ys, k, f1, HF2.out, HF.out, by rw [List.append_assoc]; exact HS1.out⟩, hG1.out⟩

end Go.Proofs.YtpdchplppkfdhaaDoor
