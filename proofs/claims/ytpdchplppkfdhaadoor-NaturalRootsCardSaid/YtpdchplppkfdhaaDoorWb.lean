/- A block of the call's own that is known whole; words.carryOn: walks. -/
import Derived.Test.YtpdchplppkfdhaaDoorWa
import Derived.Lib.BufferOwn
namespace Go.Proofs.YtpdchplppkfdhaaDoor
open Go.RowKit Go.Gb

/-- Block g holds just the words zs. -/
def Blk (w : World) (g : Nat) (zs : List Nat) : Prop := w.heap[g]? = some (.cells (cls .u64 zs).toArray 46 (0, 0))
theorem Blk.lt {w : World} {g : Nat} {zs : List Nat} (h : Blk w g zs) : g < w.heap.size := (Array.getElem?_eq_some_iff.1 h).1
theorem Blk.cell {w : World} {g : Nat} {zs : List Nat} (h : Blk w g zs) {i : Nat} (hi : i < zs.length) : w.cell? ⟨g, i, none⟩ = some (.int .u64 ((zs.getD i 0 : Nat) : Int)) := by
  unfold Blk at h
  have := cls_get (k := .u64) hi
  simp only [World.cell?, h]
  simpa using this
theorem Blk.free {w : World} {g : Nat} {zs : List Nat} (h : Blk w g zs) (i : Nat) : w.frozen? ⟨g, i, none⟩ = false := by
  unfold Blk at h
  simp only [World.frozen?, h]
  simp
theorem Blk.set {w : World} {g : Nat} {zs : List Nat} (h : Blk w g zs) (i v : Nat) : Blk (w.setCell ⟨g, i, none⟩ (.int .u64 ((v : Nat) : Int))) g (zs.set i v) := by
  unfold Blk at *
  simp only [World.setCell, Array.getElem?_modify, h]
  simp [cls_set]
theorem Blk.drew {w : World} {g : Nat} {zs : List Nat} (h : Blk w g zs) : Blk w.drew g zs := h
theorem Blk.grown {w w' : World} {g : Nat} {zs : List Nat} (h : Blk w g zs) {row : Option Nat} (hg : w.grownBy w' row) (hne : row ≠ some g) : Blk w' g zs := by
  unfold Blk at *
  rw [hg.block g (Array.getElem?_eq_some_iff.1 h).1 (fun e => hne e.symm)]
  exact h
theorem Blk.below {w w' : World} {g : Nat} {zs : List Nat} (h : Blk w g zs) (hb : Below w.heap.size w w') : Blk w' g zs := by
  unfold Blk at *
  rw [hb.block g (Array.getElem?_eq_some_iff.1 h).1]
  exact h
/-- It is a row of the call's own, as far as its slice goes. -/
theorem Blk.own {w : World} {g B : Nat} {zs : List Nat} (h : Blk w g zs) (hB : B ≤ g) (hm : zs.length ≤ maxLen) (n : Nat) (hn : n ≤ zs.length) : Own .u64 46 B w (.slice (some ⟨g, 0, none⟩) n zs.length) (zs.take n) := by
  refine ⟨by simp [cls], Or.inr ⟨g, zs.length, (cls .u64 zs).toArray, ?_, hB, h, ?_, hm, by simp [cls], ?_⟩⟩
  · rw [List.length_take, Nat.min_eq_left hn]
  · rw [List.length_take]; omega
  · rw [cls_take, List.length_take, Nat.mul_one, Nat.min_eq_left hn]
/-- What 'make' leaves. -/
theorem Blk.of_made {w : World} {B g n : Nat} {xs : List Value} {zs : List Nat} (h : w.ownsRow B 46 1 (.slice (some ⟨g, 0, none⟩) n n) n xs) (hx : xs = cls .u64 zs) : Blk w g zs := by
  obtain ⟨h1, h2⟩ := h
  rcases h2 with ⟨h2, _⟩ | ⟨g', cap, cur, hv, hg, hh, hn, hc, hs, ht⟩
  · cases h2
  · injection hv with e1 e2 e3
    injection e1 with e1
    injection e1 with e4 e5 e6
    subst e4 e3
    unfold Blk
    rw [hh]
    rw [Nat.mul_one] at ht hs
    rw [List.take_of_length_le (by simpa using Nat.le_of_eq hs)] at ht
    congr 2
    rw [← hx, ← ht]

theorem set_mid (pre ys r : List Nat) (x v : Nat) : (pre ++ (ys ++ (x :: r))).set (pre.length + ys.length) v = pre ++ ((ys ++ [v]) ++ r) := by
  simp
theorem get_mid (pre ys r : List Nat) (x : Nat) : (pre ++ (ys ++ (x :: r))).getD (pre.length + ys.length) 0 = x := by
  simp [List.getD]

theorem ret_unit : Ending.returned (.tuple #[]) = .returned (.tuple #[]) := rfl

set_option maxHeartbeats 1000000 in
/-- carryOn, of a part of a block that is known whole. -/
theorem carryOn_any (g c : Nat) (pre xs post : List Nat) (hM : ∀ i, i < xs.length → xs.getD i 0 ≤ MM 18) (hl : xs.length ≤ 1000000) (w : World) (hb : Blk w g (pre ++ (xs ++ post))) :
    Calls Tryd.prog 47 #[.slice (some ⟨g, pre.length, none⟩) xs.length c] w fun e w' => e = .returned (.tuple #[]) ∧ (∃ (ys : List Nat) (k : Nat), ys.length = xs.length ∧ (∀ y ∈ ys, y < BB) ∧ wval ys + BB ^ xs.length * k = wval xs ∧ Blk w' g (pre ++ (ys ++ post))) ∧ w.grownBy w' (some g) := by
  have HM := Lib.hid hM
  have HB := Lib.hid hb
  clear hM hb
  go_enter Tryd.func47, Tryd.ntmps47
  go_wp2
  go_loopw [2, 3, 4, 7] (fun cc _ _ ii wr => ∃ (i k : Nat) (ys : List Nat), i ≤ xs.length ∧ ii = .int .i64 i ∧ cc = .int .u64 (k : Int) ∧ CarInv xs ys i k ∧ Hid (Blk wr g (pre ++ (ys ++ (xs.drop i ++ post)))) ∧ Hid (w.grownBy wr (some g))) (fun _ _ _ ii _ => xs.length - (intOf ii).toNat)
  case atStart => exact ⟨0, 0, [], Nat.zero_le _, rfl, rfl, CarInv.start xs, HB, World.grownBy.refl _ _⟩
  case round =>
    obtain ⟨i, k, ys, hi, rfl, rfl, hc, hB, hG⟩ := hrel
    by_cases hlt : i < xs.length
    · obtain ⟨hc', hbd⟩ := hc.step hlt (HM.out i hlt)
      have hx0 := Lib.hid hc.1
      have hdr := drop_consD hlt
      have hB' := hB.out
      rw [hdr, List.cons_append] at hB'
      have hyl : ys.length = i := hc.1
      have hcell := hB'.cell (i := pre.length + ys.length) (by simp)
      have hfree := hB'.free (pre.length + ys.length)
      have hset := hB'.set (pre.length + ys.length) ((xs.getD i 0 + k) % BB)
      rw [get_mid] at hcell
      rw [set_mid] at hset
      rw [hyl] at hcell hfree hset
      have HS := Lib.hid hset
      have hG' := Lib.hid (Lib.grownBy_setB hG.out (pre.length + i) (.int .u64 (((xs.getD i 0 + k) % BB : Nat) : Int)))
      have HC := Lib.hid hc'
      clear hset hdr hB' hyl hc'
      generalize xs.getD i 0 = x at *
      have hmod : ((x : Int) + (k : Int)) % 1000000000 = (((x + k) % BB : Nat) : Int) := by rw [BB_eq]; omega
      have hdiv : ((x : Int) + (k : Int)) / 1000000000 = (((x + k) / BB : Nat) : Int) := by rw [BB_eq]; omega
      have HMd := Lib.hid hmod
      have HDv := Lib.hid hdiv
      clear hmod hdiv
      go_wp2
      go_roundw
      case rel => exact ⟨i + 1, (x + k) / BB, ys ++ [(x + k) % BB], by omega, by go_num, by rw [HDv.out], HC.out, by rw [HMd.out]; exact HS.out, by rw [HMd.out]; exact hG'.out⟩
      case measure => simp [intOf]; omega
    · have hi' : i = xs.length := by omega
      have hfin := hc
      rw [hi'] at hfin
      have hfin := hfin.done
      have hB' := hB.out
      rw [hi', List.drop_of_length_le (Nat.le_refl _), List.nil_append] at hB'
      have HF := Lib.hid hfin
      have HB' := Lib.hid hB'
      clear hfin hB' hi'
      go_wp2
      go_end0
      obtain ⟨h1, h2, h3⟩ := HF.out
      exact ⟨rfl, ⟨ys, k, h1, h2, h3, HB'.out⟩, hG.out⟩

end Go.Proofs.YtpdchplppkfdhaaDoor
