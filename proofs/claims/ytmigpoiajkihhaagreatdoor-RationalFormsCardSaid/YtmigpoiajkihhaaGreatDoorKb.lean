/- Knuth's algorithm D: words.subtractTimes, words.addBack: walks. -/
import Derived.Test.YtmigpoiajkihhaaGreatDoorMz10q
namespace Go.Gb
set_option maxRecDepth 100000
set_option maxHeartbeats 20000000
def SubI (xs vs : List Nat) (t : Nat) (ys : List Nat) (i c : Nat) : Prop := ys.length = i ∧ (∀ y ∈ ys, y < BB) ∧ c ≤ BB ∧ wval (xs.take i) + BB ^ i * c = wval ys + t * wval (vs.take i)
theorem SubI.start (xs vs : List Nat) (t : Nat) : SubI xs vs t [] 0 0 := ⟨rfl, by simp, Nat.zero_le _, by simp [wval]⟩
theorem sub_lin {A Bi c W T x c' y tv : Nat} (h : A + Bi * c = W + T) (hx : x + BB * c' = y + (tv + c)) : A + Bi * x + Bi * BB * c' = W + Bi * y + (T + Bi * tv) := by
 have := congrArg (Bi * ·) hx
 simp only [Nat.mul_add] at this
 rw [Nat.mul_assoc]
 omega
theorem all_snoc {ys : List Nat} {y : Nat} (h : ∀ y ∈ ys, y < BB) (hy : y < BB) : ∀ w ∈ ys ++ [y], w < BB := by
 intro w hw
 rcases List.mem_append.1 hw with hw | hw
 · exact h w hw
 · rw [List.mem_singleton.1 hw]; exact hy
theorem SubI.next {xs vs ys : List Nat} {t i c y c' : Nat} (h : SubI xs vs t ys i c) (hc : c' ≤ BB) (hy : y < BB) (he : xs.getD i 0 + BB * c' = y + (t * vs.getD i 0 + c)) : SubI xs vs t (ys ++ [y]) (i + 1) c' := by
 obtain ⟨h1, h2, h3, h4⟩ := h
 refine ⟨by simp [h1], all_snoc h2 hy, hc, ?_⟩
 have := sub_lin h4 he
 rw [take_succ_any, take_succ_any, wval_snoc, h1, Nat.pow_succ, Nat.mul_add t]
 rw [show t * (BB ^ i * vs.getD i 0) = BB ^ i * (t * vs.getD i 0) by rw [Nat.mul_left_comm]]
 omega
theorem SubI.last {xs vs ys : List Nat} {t n c y k : Nat} (h : SubI xs vs t ys n c) (hv : vs.length = n) (hx : xs.length = n + 1) (hy : y < BB) (he : xs.getD n 0 + BB * k = y + c) :
 (ys ++ [y]).length = n + 1 ∧ (∀ w ∈ ys ++ [y], w < BB) ∧ wval xs + BB ^ (n + 1) * k = wval (ys ++ [y]) + t * wval vs := by
 obtain ⟨h1, h2, h3, h4⟩ := h
 refine ⟨by simp [h1], all_snoc h2 hy, ?_⟩
 have e1 : wval xs = wval (xs.take n) + BB ^ n * xs.getD n 0 := by rw [← take_succ_any, List.take_of_length_le (by omega)]
 rw [List.take_of_length_le (show vs.length ≤ n by omega)] at h4
 have := sub_lin (tv := 0) (x := xs.getD n 0) (c' := k) (y := y) h4 (by omega)
 rw [e1, wval_snoc, h1, Nat.pow_succ]
 omega
theorem sub_carry {t v c : Nat} (ht : t < BB) (hv : v < BB) (hc : c ≤ BB) : t * v ≤ 999999998000000001 ∧ (t * v + c) / BB ≤ 999999999 := by
 have h := word_mul ht hv
 have := BB_eq
 refine ⟨h, ?_⟩
 rw [BB_eq] at *
 omega
theorem SumInv.step {x y os : List Nat} {i c : Nat} (h : SumInv x y os i c) (hx : x.getD i 0 < BB) (hy : y.getD i 0 < BB) : SumInv x y (os ++ [(x.getD i 0 + y.getD i 0 + c) % BB]) (i + 1) ((x.getD i 0 + y.getD i 0 + c) / BB) := by
 have hc := h.2.2.1
 by_cases hs : x.getD i 0 + y.getD i 0 + c < BB
 · rw [Nat.mod_eq_of_lt hs, Nat.div_eq_of_lt hs]; exact h.small hs
 · have e1 : (x.getD i 0 + y.getD i 0 + c) / BB = 1 := by rw [BB_eq] at *; omega
   have e2 : (x.getD i 0 + y.getD i 0 + c) % BB = x.getD i 0 + y.getD i 0 + c - BB := by rw [BB_eq] at *; omega
   rw [e1, e2]
   exact h.big hx hy (by omega)
end Go.Gb
namespace Go.Proofs.YtmigpoiajkihhaaGreatDoor
open Go.RowKit Go.Gb
theorem set_mid' (pre ys r : List Nat) (x v : Nat) : (pre ++ (ys ++ (x :: r))).set (pre.length + ys.length) v = pre ++ (ys ++ (v :: r)) := by simp
theorem grown_cell {w w' : World} {g b i : Nat} (h : w.grownBy w' (some g)) (hb : b < w.heap.size) (hne : b ≠ g) : w'.cell? ⟨b, i, none⟩ = w.cell? ⟨b, i, none⟩ :=
 World.cell?_of_block (w := w) (h.block b hb (fun e => by cases e; exact hne rfl))
theorem subT_any (g c b2 o2 c2 n t : Nat) (pre xs post vs : List Nat) (hxl : xs.length = n + 1) (hvl : vs.length = n) (hn : n ≤ 100000) (ht : t < BB) (hx : ∀ x ∈ xs, x < BB) (hv : ∀ v ∈ vs, v < BB) (w : World)
 (hb : Blk w g (pre ++ (xs ++ post))) (hb2 : b2 < w.heap.size) (hne : b2 ≠ g) (hcv : ∀ i, i < n → w.cell? ⟨b2, o2 + i, none⟩ = some (.int .u64 ((vs.getD i 0 : Nat) : Int))) :
 Calls Tryz.prog 261 #[.slice (some ⟨g, pre.length, none⟩) (n + 1) c, .slice (some ⟨b2, o2, none⟩) n c2, .int .u64 (t : Int)] w fun e w' =>
  ∃ (ys : List Nat) (k : Nat), e = .returned (.bool (decide (k = 1))) ∧ k ≤ 1 ∧ ys.length = n + 1 ∧ (∀ y ∈ ys, y < BB) ∧ wval xs + BB ^ (n + 1) * k = wval ys + t * wval vs ∧ Blk w' g (pre ++ (ys ++ post)) ∧ w.grownBy w' (some g) := by
 have HX := Lib.hid hx
 have HV := Lib.hid hv
 have HB := Lib.hid hb
 have HCV := Lib.hid hcv
 have HT := Lib.hid ht
 have HXL := Lib.hid hxl
 have HVL := Lib.hid hvl
 clear hx hv hb hcv ht hxl hvl
 go_enter Tryz.func261, Tryz.ntmps261
 go_wp2
 go_loopw [7, 8, 9, 10, 11, 16] (fun cc _ _ _ _ ii wr => ∃ (i k : Nat) (ys : List Nat), i ≤ n ∧ ii = .int .i64 i ∧ cc = .int .u64 (k : Int) ∧ Hid (SubI xs vs t ys i k) ∧ Hid (Blk wr g (pre ++ (ys ++ (xs.drop i ++ post)))) ∧ Hid (w.grownBy wr (some g))) (fun _ _ _ _ _ ii _ => n - (intOf ii).toNat)
 case atStart => exact ⟨0, 0, [], Nat.zero_le _, rfl, rfl, SubI.start xs vs t, HB, World.grownBy.refl _ _⟩
 case round =>
  obtain ⟨i, k, ys, hi, rfl, rfl, hI, hB, hG⟩ := hrel
  have hdr := drop_consD (xs := xs) (i := i) (by have := HXL.out; omega)
  have hxw := HX.out _ (mem_getD (xs := xs) (i := i) (by have := HXL.out; omega))
  have hB' := hB.out
  rw [hdr, List.cons_append] at hB'
  have hyl : ys.length = i := hI.out.1
  have hcell := hB'.cell (i := pre.length + ys.length) (by simp)
  have hfree := hB'.free (pre.length + ys.length)
  rw [get_mid] at hcell
  rw [hyl] at hcell hfree
  have hk : k ≤ 1000000000 := by have := hI.out.2.2.1; have := BB_eq; omega
  have hk2 : (k : Int) ≤ 1000000000 := by omega
  by_cases hlt : i < n
  · have hcv := (grown_cell hG.out hb2 hne).trans (HCV.out i hlt)
    have hvw := HV.out _ (mem_getD (xs := vs) (i := i) (by have := HVL.out; omega))
    have hpc := sub_carry HT.out hvw hI.out.2.2.1
    have hset : ∀ (wr' : World) (y0 : Nat), Blk wr' g (pre ++ (ys ++ (y0 :: (xs.drop (i + 1) ++ post)))) → ∀ z : Nat, Blk (wr'.setCell ⟨g, pre.length + i, none⟩ (.int .u64 (z : Int))) g (pre ++ (ys ++ (z :: (xs.drop (i + 1) ++ post)))) := by
        intro wr' y0 h z
        have := h.set (pre.length + ys.length) z
        rwa [set_mid', hyl] at this
    have hnx := fun (c' y : Nat) (h1 : c' ≤ BB) (h2 : y < BB) h3 => hI.out.next (y := y) (c' := c') h1 h2 h3
    have HNX := Lib.hid hnx
    have HSET := Lib.hid hset
    have HB' := Lib.hid hB'
    clear hnx hset hB' hdr hyl hB
    generalize xs.getD i 0 = x at *
    generalize vs.getD i 0 = v at *
    obtain ⟨p, hp⟩ : ∃ p : Nat, p = t * v := ⟨_, rfl⟩
    have e1 : (t : Int) * (v : Int) = (p : Int) := by rw [hp]; exact (Int.natCast_mul _ _).symm
    rw [← hp] at hpc HNX
    have w1 : IntKind.u64.wrap (p : Int) = (p : Int) := IntWalk.u64_in _ (by omega)
    obtain ⟨q, hq⟩ : ∃ q : Nat, q = (p + k) / BB := ⟨_, rfl⟩
    obtain ⟨lo, hlo⟩ : ∃ lo : Nat, lo = (p + k) % BB := ⟨_, rfl⟩
    rw [← hq] at hpc
    have hmod : ((p : Int) + (k : Int)) % 1000000000 = (lo : Int) := by rw [hlo, BB_eq]; omega
    have hdiv : ((p : Int) + (k : Int)) / 1000000000 = (q : Int) := by rw [hq, BB_eq]; omega
    have hpk : p + k = BB * q + lo := by rw [hq, hlo]; exact (Nat.div_add_mod _ _).symm
    have hlo2 : (lo : Int) ≤ 999999999 := by rw [BB_eq] at hlo; omega
    have hx2 : (x : Int) ≤ 999999999 := by rw [BB_eq] at hxw; omega
    have hp2 : (p : Int) ≤ 999999998000000001 := by omega
    have hq2 : (q : Int) ≤ 999999999 := by omega
    have HPK := Lib.hid hpk
    have i1 : (i : Int) < (n : Int) := by omega
    have i3 : (n : Int) ≤ 100000 := by omega
    clear hp hq hlo hpk hpc hvw hxw hk
    by_cases hb : (x : Int) < (lo : Int)
    · have HN1 := Lib.hid (HNX.out (q + 1) (x + BB - lo) (by rw [BB_eq]; omega) (by rw [BB_eq]; omega) (by rw [HPK.out, Nat.mul_add]; rw [BB_eq]; omega))
      have HS1 := Lib.hid (HSET.out _ _ (HSET.out _ _ HB'.out (x + 1000000000)) (x + BB - lo))
      have hG1 := Lib.hid (Lib.grownBy_setB (Lib.grownBy_setB hG.out (pre.length + i) (.int .u64 ((x + 1000000000 : Nat) : Int))) (pre.length + i) (.int .u64 ((x + BB - lo : Nat) : Int)))
      have hval : ((x : Int) + 1000000000 - (lo : Int)) = ((x + BB - lo : Nat) : Int) := by rw [BB_eq]; omega
      have hval2 : ((x + 1000000000 : Nat) : Int) = (x : Int) + 1000000000 := by omega
      rw [← hval, hval2] at HS1 hG1
      clear HNX HSET HB' hval hval2
      go_wp2
      go_roundw
      case rel => exact ⟨i + 1, q + 1, ys ++ [x + BB - lo], by omega, by go_num, val_int1 (by omega), HN1, by rw [List.append_assoc]; exact HS1, hG1⟩
      case measure => simp [intOf]; omega
    · have hb' : decide ((x : Int) < (lo : Int)) = false := decide_eq_false hb
      have HN1 := Lib.hid (HNX.out q (x - lo) (by rw [BB_eq]; omega) (by rw [BB_eq]; omega) (by rw [HPK.out]; omega))
      have HS1 := Lib.hid (HSET.out _ _ HB'.out (x - lo))
      have hG1 := Lib.hid (Lib.grownBy_setB hG.out (pre.length + i) (.int .u64 ((x - lo : Nat) : Int)))
      have hval : ((x : Int) - (lo : Int)) = ((x - lo : Nat) : Int) := by omega
      rw [← hval] at HS1 hG1
      clear HNX HSET HB' hval
      go_wp2
      go_roundw
      case rel => exact ⟨i + 1, q, ys ++ [x - lo], by omega, by go_num, val_int1 (by omega), HN1, by rw [List.append_assoc]; exact HS1, hG1⟩
      case measure => simp [intOf]; omega
  · have hi' : i = n := by omega
    subst hi'
    have hd0 : xs.drop (i + 1) = [] := List.drop_of_length_le (by have := HXL.out; omega)
    rw [hd0, List.nil_append] at hB'
    have hlast := fun (kk y : Nat) (h2 : y < BB) h3 => hI.out.last (y := y) (k := kk) HVL.out HXL.out h2 h3
    have hset : ∀ (wr' : World) (y0 : Nat), Blk wr' g (pre ++ (ys ++ (y0 :: post))) → ∀ z : Nat, Blk (wr'.setCell ⟨g, pre.length + i, none⟩ (.int .u64 (z : Int))) g (pre ++ (ys ++ (z :: post))) := by
        intro wr' y0 h z
        have := h.set (pre.length + ys.length) z
        rwa [set_mid', hyl] at this
    have HL := Lib.hid hlast
    have HSET := Lib.hid hset
    have HB' := Lib.hid hB'
    clear hlast hset hB' hdr hyl hB hI hd0
    generalize xs.getD i 0 = x at *
    have hx2 : (x : Int) ≤ 999999999 := by rw [BB_eq] at hxw; omega
    clear hxw
    by_cases hb : (x : Int) < (k : Int)
    · have HF := Lib.hid (HL.out 1 (x + BB - k) (by rw [BB_eq]; omega) (by rw [BB_eq]; omega))
      have HS1 := Lib.hid (HSET.out _ _ (HSET.out _ _ HB'.out (x + 1000000000)) (x + BB - k))
      have hG1 := Lib.hid (Lib.grownBy_setB (Lib.grownBy_setB hG.out (pre.length + i) (.int .u64 ((x + 1000000000 : Nat) : Int))) (pre.length + i) (.int .u64 ((x + BB - k : Nat) : Int)))
      have hval : ((x : Int) + 1000000000 - (k : Int)) = ((x + BB - k : Nat) : Int) := by rw [BB_eq]; omega
      have hval2 : ((x + 1000000000 : Nat) : Int) = (x : Int) + 1000000000 := by omega
      rw [← hval, hval2] at HS1 hG1
      clear HL HSET HB' hval hval2
      go_wp2
      go_ret
      obtain ⟨f1, f2, f3⟩ := HF.out
      exact ⟨ys ++ [x + BB - k], 1, rfl, by omega, f1, f2, f3, by rw [List.append_assoc]; exact HS1.out, hG1.out⟩
    · have hb' : decide ((x : Int) < (k : Int)) = false := decide_eq_false hb
      have HF := Lib.hid (HL.out 0 (x - k) (by rw [BB_eq]; omega) (by omega))
      have HS1 := Lib.hid (HSET.out _ _ HB'.out (x - k))
      have hG1 := Lib.hid (Lib.grownBy_setB hG.out (pre.length + i) (.int .u64 ((x - k : Nat) : Int)))
      have hval : ((x : Int) - (k : Int)) = ((x - k : Nat) : Int) := by omega
      rw [← hval] at HS1 hG1
      clear HL HSET HB' hval
      go_wp2
      go_ret
      obtain ⟨f1, f2, f3⟩ := HF.out
      exact ⟨ys ++ [x - k], 0, rfl, by omega, f1, f2, f3, by rw [List.append_assoc]; exact HS1.out, hG1.out⟩
end Go.Proofs.YtmigpoiajkihhaaGreatDoor
