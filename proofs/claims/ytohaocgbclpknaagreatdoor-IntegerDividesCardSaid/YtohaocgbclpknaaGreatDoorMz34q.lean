/- Texts of this proof, one behind the other. -/
import Derived.Test.YtohaocgbclpknaaGreatDoorMz33q
import Derived.Test.YtohaocgbclpknaaGreatDoorKe
/- garboardref01.Minus: a walk. -/
namespace Go.Proofs.YtohaocgbclpknaaGreatDoor
open Go.RowKit Go.Gb

set_option maxRecDepth 100000 in
set_option maxHeartbeats 4000000 in
theorem RMinus_any (v1 v2 : Value) (a b : Nat) (hab : b ≤ a) (hla : (digs a).length ≤ 100000) (w : World) (h1 : Rd .u32 w v1 (digs a)) (h2 : Rd .u32 w v2 (digs b)) :
    Calls Tryz.prog 49 #[v1, v2] w fun e w' => ∃ v, e = .returned v ∧ Own .u32 74 w.heap.size w' v (digs (a - b)) ∧ Below w.heap.size w w' := by
  obtain ⟨i0, hi, hz0, hz1, hz2⟩ := info_parts Tryz.info74
  have hlb := digs_length_mono hab
  obtain ⟨p1, c1, rfl, r1⟩ := h1.gen
  obtain ⟨p2, c2, rfl, r2⟩ := h2.gen
  have hx := digs_lt a
  have hy := digs_lt b
  have hva := wval_digs a
  have hvb := wval_digs b
  generalize digs a = xs at *
  generalize digs b = ys at *
  have HR1 := Lib.hid r1
  have HR2 := Lib.hid r2
  have HX := Lib.hid hx
  have HY := Lib.hid hy
  have HVA := Lib.hid hva
  have HVB := Lib.hid hvb
  have HAB := Lib.hid hab
  have HO0 := Lib.hid (World.ownsRow_nil w w.heap.size 74 1)
  clear h1 h2 r1 r2 hx hy hva hvb hab
  go_enter Tryz.func49, Tryz.ntmps49
  go_wp2
  go_loopw [5, 6, 7, 8] (fun v cc ii _ wr => ∃ (i k : Nat) (os : List Nat), i ≤ xs.length ∧ ii = .int .i64 i ∧ cc = .int .i64 (k : Int) ∧ os.length = i ∧ Hid (wr.ownsRow w.heap.size 74 1 v os.length (cls .u32 os)) ∧ Hid (DifInv xs ys os i k) ∧ Hid (Below w.heap.size w wr)) (fun _ _ ii _ _ => xs.length - (intOf ii).toNat)
  case atStart => exact ⟨0, 0, [], by omega, rfl, rfl, rfl, HO0, DifInv.start xs ys, Below.refl _ _⟩
  case round =>
    obtain ⟨i, k, os, hiM, rfl, rfl, hol, ho, hI, hn⟩ := hrel
    have hk1 : k ≤ 1 := hI.out.2.2.1
    have hk9 : (k : Int) ≤ 1 := by omega
    by_cases hxi : i < xs.length
    · obtain ⟨b1, o1, rfl, hb1, hc1⟩ := HR1.out i hxi
      have hcx := (hn.out.cell (p := ⟨b1, o1 + i, none⟩) hb1).trans hc1
      have hxB := getD_ltB HX.out i
      have hyB := getD_ltB HY.out i
      have j1 : (i : Int) < (xs.length : Int) := by omega
      have d1 : decide ((i : Int) < (xs.length : Int)) = true := decide_eq_true j1
      have hsm := hI.out.small hxB
      have hbg := hI.out.big hyB
      have hol2 : os.length ≤ 100000 := by omega
      have i1 : (i : Int) ≤ 100000 := by omega
      clear hb1 hc1 hI
      by_cases hyi : i < ys.length
      · obtain ⟨b2, o2, rfl, hb2, hc2⟩ := HR2.out i hyi
        have hcy := (hn.out.cell (p := ⟨b2, o2 + i, none⟩) hb2).trans hc2
        have j2 : (i : Int) < (ys.length : Int) := by omega
        have d2 : decide ((i : Int) < (ys.length : Int)) = true := decide_eq_true j2
        clear hb2 hc2
        generalize xs.getD i 0 = x at *
        generalize ys.getD i 0 = y at *
        rw [BB_eq] at hxB hyB
        have hx9 : (x : Int) ≤ 999999999 := by omega
        have hy9 : (y : Int) ≤ 999999999 := by omega
        clear hxB hyB
        by_cases hng : x < y + k
        · obtain ⟨lo, hlo⟩ : ∃ lo : Nat, lo = x + BB - (y + k) := ⟨_, rfl⟩
          have HST := Lib.hid (show DifInv xs ys (os ++ [lo]) (i + 1) 1 by rw [hlo]; exact hbg (by omega))
          have hval : (x : Int) - (k : Int) - (y : Int) + 1000000000 = (lo : Int) := by rw [hlo, BB_eq]; omega
          have hneg : (x : Int) - (k : Int) - (y : Int) < 0 := by omega
          have hlo9 : (lo : Int) ≤ 999999999 := by rw [BB_eq] at hlo; omega
          clear hlo hsm hbg hng
          go_wp2_with (at_builtin; refine wpList_append_own _ rfl _ _ 47 rfl w.heap.size 74 i0 (.int .u32 0) 1 4 Tryz.underlying47 hi hz0 hz1 hz2 rfl (by decide) _ _ _ rfl (ho.out.alloc _) ⟨wr.heap.size, 0, none⟩ 1 1 [.int .u32 (lo : Int)] rfl rfl (cells_one _ _ _) (by intro u hu; simp at hu; subst hu; rfl) (by unfold maxLen; omega) (by omega) (by have := hn.out.size; simp; omega) ?_)
          intro v' w1 hown' hgrow _
          have HO := Lib.hid hown'
          have HN := Lib.hid ((hn.out.alloc hn.out.size _).grown hgrow (by have := hn.out.size; simp; omega) (fun k hk => (ho.out.lt k hk).1))
          clear hown' hgrow
          go_wp2
          go_roundw
          case rel => exact ⟨i + 1, 1, os ++ [lo], by omega, by go_num, rfl, by simp [hol], by have := HO.out; rw [cls_append, List.length_append, hol]; exact this, HST, HN⟩
          case measure => simp [intOf]; omega
        · obtain ⟨lo, hlo⟩ : ∃ lo : Nat, lo = x - (y + k) := ⟨_, rfl⟩
          have HST := Lib.hid (show DifInv xs ys (os ++ [lo]) (i + 1) 0 by rw [hlo]; exact hsm (by omega))
          have hval : (x : Int) - (k : Int) - (y : Int) = (lo : Int) := by rw [hlo]; omega
          have hneg : decide ((lo : Int) < 0) = false := decide_eq_false (by omega)
          have hlo9 : (lo : Int) ≤ 999999999 := by omega
          clear hlo hsm hbg hng
          go_wp2_with (at_builtin; refine wpList_append_own _ rfl _ _ 47 rfl w.heap.size 74 i0 (.int .u32 0) 1 4 Tryz.underlying47 hi hz0 hz1 hz2 rfl (by decide) _ _ _ rfl (ho.out.alloc _) ⟨wr.heap.size, 0, none⟩ 1 1 [.int .u32 (lo : Int)] rfl rfl (cells_one _ _ _) (by intro u hu; simp at hu; subst hu; rfl) (by unfold maxLen; omega) (by omega) (by have := hn.out.size; simp; omega) ?_)
          intro v' w1 hown' hgrow _
          have HO := Lib.hid hown'
          have HN := Lib.hid ((hn.out.alloc hn.out.size _).grown hgrow (by have := hn.out.size; simp; omega) (fun k hk => (ho.out.lt k hk).1))
          clear hown' hgrow
          go_wp2
          go_roundw
          case rel => exact ⟨i + 1, 0, os ++ [lo], by omega, by go_num, rfl, by simp [hol], by have := HO.out; rw [cls_append, List.length_append, hol]; exact this, HST, HN⟩
          case measure => simp [intOf]; omega
      · have d2 : decide ((i : Int) < (ys.length : Int)) = false := decide_eq_false (by omega)
        rw [getD_ge (xs := ys) (by omega)] at hsm hbg
        clear hyB
        generalize xs.getD i 0 = x at *
        rw [BB_eq] at hxB
        have hx9 : (x : Int) ≤ 999999999 := by omega
        clear hxB
        by_cases hng : x < 0 + k
        · obtain ⟨lo, hlo⟩ : ∃ lo : Nat, lo = x + BB - (0 + k) := ⟨_, rfl⟩
          have HST := Lib.hid (show DifInv xs ys (os ++ [lo]) (i + 1) 1 by rw [hlo]; exact hbg (by omega))
          have hval : (x : Int) - (k : Int) + 1000000000 = (lo : Int) := by rw [hlo, BB_eq]; omega
          have hneg : (x : Int) - (k : Int) < 0 := by omega
          have hlo9 : (lo : Int) ≤ 999999999 := by rw [BB_eq] at hlo; omega
          clear hlo hsm hbg hng
          go_wp2_with (at_builtin; refine wpList_append_own _ rfl _ _ 47 rfl w.heap.size 74 i0 (.int .u32 0) 1 4 Tryz.underlying47 hi hz0 hz1 hz2 rfl (by decide) _ _ _ rfl (ho.out.alloc _) ⟨wr.heap.size, 0, none⟩ 1 1 [.int .u32 (lo : Int)] rfl rfl (cells_one _ _ _) (by intro u hu; simp at hu; subst hu; rfl) (by unfold maxLen; omega) (by omega) (by have := hn.out.size; simp; omega) ?_)
          intro v' w1 hown' hgrow _
          have HO := Lib.hid hown'
          have HN := Lib.hid ((hn.out.alloc hn.out.size _).grown hgrow (by have := hn.out.size; simp; omega) (fun k hk => (ho.out.lt k hk).1))
          clear hown' hgrow
          go_wp2
          go_roundw
          case rel => exact ⟨i + 1, 1, os ++ [lo], by omega, by go_num, rfl, by simp [hol], by have := HO.out; rw [cls_append, List.length_append, hol]; exact this, HST, HN⟩
          case measure => simp [intOf]; omega
        · obtain ⟨lo, hlo⟩ : ∃ lo : Nat, lo = x - (0 + k) := ⟨_, rfl⟩
          have HST := Lib.hid (show DifInv xs ys (os ++ [lo]) (i + 1) 0 by rw [hlo]; exact hsm (by omega))
          have hval : (x : Int) - (k : Int) = (lo : Int) := by rw [hlo]; omega
          have hneg : decide ((lo : Int) < 0) = false := decide_eq_false (by omega)
          have hlo9 : (lo : Int) ≤ 999999999 := by omega
          clear hlo hsm hbg hng
          go_wp2_with (at_builtin; refine wpList_append_own _ rfl _ _ 47 rfl w.heap.size 74 i0 (.int .u32 0) 1 4 Tryz.underlying47 hi hz0 hz1 hz2 rfl (by decide) _ _ _ rfl (ho.out.alloc _) ⟨wr.heap.size, 0, none⟩ 1 1 [.int .u32 (lo : Int)] rfl rfl (cells_one _ _ _) (by intro u hu; simp at hu; subst hu; rfl) (by unfold maxLen; omega) (by omega) (by have := hn.out.size; simp; omega) ?_)
          intro v' w1 hown' hgrow _
          have HO := Lib.hid hown'
          have HN := Lib.hid ((hn.out.alloc hn.out.size _).grown hgrow (by have := hn.out.size; simp; omega) (fun k hk => (ho.out.lt k hk).1))
          clear hown' hgrow
          go_wp2
          go_roundw
          case rel => exact ⟨i + 1, 0, os ++ [lo], by omega, by go_num, rfl, by simp [hol], by have := HO.out; rw [cls_append, List.length_append, hol]; exact this, HST, HN⟩
          case measure => simp [intOf]; omega
    · have d1 : decide ((i : Int) < (xs.length : Int)) = false := decide_eq_false (by omega)
      obtain rfl : i = xs.length := by omega
      obtain ⟨hv, hB⟩ := hI.out.done hlb (by rw [HVA.out, HVB.out]; exact HAB.out)
      have htr := rtrim_own 74 w.heap.size _ os hB wr ho.out
      rw [hv, HVA.out, HVB.out] at htr
      have HTR := Lib.hid htr
      clear hv hB htr hI
      go_wp2_with fail
      refine HTR.out.mono ?_
      rintro e w2 ⟨v', rfl, hown, rfl⟩
      go_wp2
      go_ret
      exact ⟨v', rfl, hown, hn.out⟩

end Go.Proofs.YtohaocgbclpknaaGreatDoor
/- A block of words of 32 bits that is known whole; garboardref01.Times: a walk. -/
namespace Go.Gb
/-! ### products, row by row -/
def TI (x y os : List Nat) (i : Nat) : Prop := os.length = x.length + y.length ∧ (∀ w ∈ os, w < BB) ∧ wval os = wval (x.take i) * wval y
def TR (x y os : List Nat) (i k c : Nat) : Prop := os.length = x.length + y.length ∧ (∀ w ∈ os, w < BB) ∧ c < BB ∧ os.getD (i + y.length) 0 = 0 ∧ wval os + BB ^ (i + k) * c = wval (x.take i) * wval y + BB ^ i * (x.getD i 0 * wval (y.take k))
theorem set_lt {os : List Nat} {m v : Nat} (h : ∀ w ∈ os, w < BB) (hv : v < BB) : ∀ w ∈ os.set m v, w < BB := by
  intro w hw
  rcases List.mem_or_eq_of_mem_set hw with hw | hw
  · exact h w hw
  · rw [hw]; exact hv
theorem high_zero {os : List Nat} {m : Nat} (h : wval os < BB ^ m) : os.getD m 0 = 0 := by
  by_cases hm : m < os.length
  · have h1 := wval_split os m (by omega)
    rw [wval_drop hm] at h1
    rcases Nat.eq_zero_or_pos (os.getD m 0) with h2 | h2
    · exact h2
    · have : BB ^ m * 1 ≤ BB ^ m * (os.getD m 0 + BB * wval (os.drop (m + 1))) := Nat.mul_le_mul_left _ (by omega)
      omega
  · exact getD_ge (by omega)
theorem TI.start (x y : List Nat) : TI x y (List.replicate (x.length + y.length) 0) 0 := by
  refine ⟨by simp, fun w hw => by rw [(List.mem_replicate.1 hw).2]; exact BB_pos, ?_⟩
  have := wval_zeros [] (x.length + y.length)
  simpa [wval] using this
theorem TI.row {x y os : List Nat} {i : Nat} (h : TI x y os i) (hi : i < x.length) (hx : ∀ w ∈ x, w < BB) (hy : ∀ w ∈ y, w < BB) : TR x y os i 0 0 := by
  obtain ⟨h1, h2, h3⟩ := h
  refine ⟨h1, h2, BB_pos, high_zero ?_, by rw [h3, Nat.mul_zero, Nat.add_zero, List.take_zero]; simp [wval]⟩
  have l1 := wval_le_of_len (n := i) (xs := x.take i) (fun w hw => hx w (List.mem_of_mem_take hw)) (by simp; omega)
  have l2 := wval_lt y hy
  rw [h3, Nat.pow_add]
  exact Nat.mul_lt_mul_of_lt_of_le l1 (Nat.le_of_lt l2) (Nat.pow_pos BB_pos)
theorem TR.bound {o a b c : Nat} (ho : o < BB) (ha : a < BB) (hb : b < BB) (hc : c < BB) : a * b ≤ 999999998000000001 ∧ o + a * b + c < BB * BB := by
  have h := word_mul ha hb
  refine ⟨h, ?_⟩
  rw [BB_eq] at *
  omega
theorem TR.step {x y os : List Nat} {i k c : Nat} (h : TR x y os i k c) (hi : i < x.length) (hk : k < y.length) (hx : ∀ w ∈ x, w < BB) (hy : ∀ w ∈ y, w < BB) :
    TR x y (os.set (i + k) ((os.getD (i + k) 0 + x.getD i 0 * y.getD k 0 + c) % BB)) i (k + 1) ((os.getD (i + k) 0 + x.getD i 0 * y.getD k 0 + c) / BB) := by
  obtain ⟨h1, h2, h3, h4, h5⟩ := h
  have hb := (TR.bound (h2 _ (mem_getD (i := i + k) (by omega))) (hx _ (mem_getD hi)) (hy _ (mem_getD hk)) h3).2
  have hm := Nat.div_add_mod (os.getD (i + k) 0 + x.getD i 0 * y.getD k 0 + c) BB
  have hs := wval_set (xs := os) (i := i + k) (v := (os.getD (i + k) 0 + x.getD i 0 * y.getD k 0 + c) % BB) (by omega)
  refine ⟨by simp [h1], set_lt h2 (Nat.mod_lt _ BB_pos), (Nat.div_lt_iff_lt_mul BB_pos).2 hb, ?_, ?_⟩
  · rw [getD_set, if_neg (by omega)]; exact h4
  · rw [take_succ_any y k, Nat.mul_add (x.getD i 0), Nat.mul_add (BB ^ i)]
    rw [show BB ^ i * (x.getD i 0 * (BB ^ k * y.getD k 0)) = BB ^ (i + k) * (x.getD i 0 * y.getD k 0) by rw [Nat.pow_add, Nat.mul_left_comm (x.getD i 0), Nat.mul_assoc]]
    rw [← Nat.add_assoc i k 1, Nat.pow_succ, Nat.mul_assoc]
    generalize (os.getD (i + k) 0 + x.getD i 0 * y.getD k 0 + c) % BB = lo at *
    generalize (os.getD (i + k) 0 + x.getD i 0 * y.getD k 0 + c) / BB = q at *
    have e := congrArg (BB ^ (i + k) * ·) hm
    simp only [Nat.mul_add] at e
    omega
theorem TR.next {x y os : List Nat} {i c : Nat} (h : TR x y os i y.length c) (hi : i < x.length) : TI x y (os.set (i + y.length) c) (i + 1) := by
  obtain ⟨h1, h2, h3, h4, h5⟩ := h
  have hs := wval_set (xs := os) (i := i + y.length) (v := c) (by omega)
  rw [h4, Nat.mul_zero, Nat.add_zero] at hs
  refine ⟨by simp [h1], set_lt h2 h3, ?_⟩
  rw [hs, h5, List.take_of_length_le (Nat.le_refl _), take_succ_any x i, Nat.add_mul, Nat.mul_assoc]
theorem TI.done {x y os : List Nat} (h : TI x y os x.length) : wval os = wval x * wval y := by rw [h.2.2, List.take_of_length_le (Nat.le_refl _)]
end Go.Gb

namespace Go.Proofs.YtohaocgbclpknaaGreatDoor
open Go.RowKit Go.Gb

/-- Block g holds just the words zs, of 32 bits. -/
def Blk4 (w : World) (g : Nat) (zs : List Nat) : Prop := w.heap[g]? = some (.cells (cls .u32 zs).toArray 74 (0, 0))
theorem Blk4.lt {w : World} {g : Nat} {zs : List Nat} (h : Blk4 w g zs) : g < w.heap.size := (Array.getElem?_eq_some_iff.1 h).1
theorem Blk4.cell {w : World} {g : Nat} {zs : List Nat} (h : Blk4 w g zs) {i : Nat} (hi : i < zs.length) : w.cell? ⟨g, i, none⟩ = some (.int .u32 ((zs.getD i 0 : Nat) : Int)) := by
  unfold Blk4 at h
  have := cls_get (k := .u32) hi
  simp only [World.cell?, h]
  simpa using this
theorem Blk4.free {w : World} {g : Nat} {zs : List Nat} (h : Blk4 w g zs) (i : Nat) : w.frozen? ⟨g, i, none⟩ = false := by
  unfold Blk4 at h
  simp only [World.frozen?, h]
  simp
theorem Blk4.set {w : World} {g : Nat} {zs : List Nat} (h : Blk4 w g zs) (i v : Nat) : Blk4 (w.setCell ⟨g, i, none⟩ (.int .u32 ((v : Nat) : Int))) g (zs.set i v) := by
  unfold Blk4 at *
  simp only [World.setCell, Array.getElem?_modify, h]
  simp [cls_set]
theorem Blk4.below {w w' : World} {g : Nat} {zs : List Nat} (h : Blk4 w g zs) (hb : Below w.heap.size w w') : Blk4 w' g zs := by
  unfold Blk4 at *
  rw [hb.block g (Array.getElem?_eq_some_iff.1 h).1]
  exact h
theorem Blk4.own {w : World} {g B : Nat} {zs : List Nat} (h : Blk4 w g zs) (hB : B ≤ g) (hm : zs.length ≤ maxLen) : Own .u32 74 B w (.slice (some ⟨g, 0, none⟩) zs.length zs.length) zs := by
  refine ⟨by simp [cls], Or.inr ⟨g, zs.length, (cls .u32 zs).toArray, rfl, hB, h, Nat.le_refl _, hm, by simp [cls], ?_⟩⟩
  rw [Nat.mul_one, ← cls_take, List.take_of_length_le (Nat.le_refl _)]
theorem Blk4.of_made {w : World} {B g n : Nat} {xs : List Value} {zs : List Nat} (h : w.ownsRow B 74 1 (.slice (some ⟨g, 0, none⟩) n n) n xs) (hx : xs = cls .u32 zs) : Blk4 w g zs := by
  obtain ⟨h1, h2⟩ := h
  rcases h2 with ⟨h2, _⟩ | ⟨g', cap, cur, hv, hg, hh, hn, hc, hs, ht⟩
  · cases h2
  · injection hv with e1 e2 e3
    injection e1 with e1
    injection e1 with e4 e5 e6
    subst e4 e3
    unfold Blk4
    rw [hh]
    rw [Nat.mul_one] at ht hs
    rw [List.take_of_length_le (by simpa using Nat.le_of_eq hs)] at ht
    congr 2
    rw [← hx, ← ht]

end Go.Proofs.YtohaocgbclpknaaGreatDoor
