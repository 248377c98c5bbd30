/- integer.readBoth: walks. -/
import Derived.Test.YtpdchplppkfdhaaGreatDoorIb
import Derived.StillTailTactics
namespace Go.Proofs.YtpdchplppkfdhaaGreatDoor
open Go.RowKit Go.Gb

/-- Block g holds a number. -/
def Nb (w : World) (g : Nat) (s : Int) (b : ByteArray) : Prop := w.heap[g]? = some (.cells #[.int .i64 s, .string b] 68 (0, 0))
theorem Nb.lt {w : World} {g : Nat} {s : Int} {b : ByteArray} (h : Nb w g s b) : g < w.heap.size := (Array.getElem?_eq_some_iff.1 h).1
theorem Nb.below {w w' : World} {g : Nat} {s : Int} {b : ByteArray} (h : Nb w g s b) (hb : Below w.heap.size w w') : Nb w' g s b := by
  unfold Nb at *
  rw [hb.block g (Array.getElem?_eq_some_iff.1 h).1]
  exact h
theorem Nb.new (w : World) (s : Int) (b : ByteArray) : Nb (w.alloc (.cells #[.int .i64 s, .string b] 68)) w.heap.size s b := by
  unfold Nb; rw [heap_alloc_new]
theorem Nb.alloc {w : World} {g : Nat} {s : Int} {b : ByteArray} (h : Nb w g s b) (o : Obj) : Nb (w.alloc o) g s b := h.below ((Below.refl _ _).alloc (Nat.le_refl _) o)
theorem Nb.c0 {w : World} {g : Nat} {s : Int} {b : ByteArray} (h : Nb w g s b) : w.cell? ⟨g, 0, none⟩ = some (.int .i64 s) := by
  unfold Nb at h; simp [World.cell?, h]
theorem Nb.c1 {w : World} {g : Nat} {s : Int} {b : ByteArray} (h : Nb w g s b) : w.cell? ⟨g, 1, none⟩ = some (.string b) := by
  unfold Nb at h; simp [World.cell?, h]
theorem Nb.f {w : World} {g : Nat} {s : Int} {b : ByteArray} (h : Nb w g s b) (i : Nat) : w.frozen? ⟨g, i, none⟩ = false := by
  unfold Nb at h; simp only [World.frozen?, h]; simp

set_option maxHeartbeats 1000000 in
set_option maxRecDepth 100000 in
theorem readBoth_walk (a1 a2 : ByteArray) (s t : Int) (b c : ByteArray) (o1 o2 : Bool) (w : World)
    (h1 : ∀ W, Below w.heap.size w W → Calls Tryz.prog 81 #[.string a1] W fun e w' => e = .returned (.tuple #[.agg #[.int .i64 s, .string b], .bool o1]) ∧ Below W.heap.size W w')
    (h2 : ∀ W, Below w.heap.size w W → Calls Tryz.prog 81 #[.string a2] W fun e w' => e = .returned (.tuple #[.agg #[.int .i64 t, .string c], .bool o2]) ∧ Below W.heap.size W w') :
    Calls Tryz.prog 90 #[.string a1, .string a2] w fun e w' => e = .returned (.tuple #[.agg #[.int .i64 s, .string b], .agg #[.int .i64 t, .string c], .bool (o1 && o2)]) ∧ Below w.heap.size w w' := by
  have HX := Lib.hid h1
  have HY := Lib.hid h2
  clear h1 h2
  have HB0 := Lib.hid (((Below.refl w.heap.size w).alloc (Nat.le_refl _) (.cells #[.int .i64 0, .string ⟨#[]⟩] 68)).alloc (by simp) (.cells #[.int .i64 0, .string ⟨#[]⟩] 68))
  have HN4 := Lib.hid ((Nb.new w 0 ⟨#[]⟩).alloc (.cells #[.int .i64 0, .string ⟨#[]⟩] 68))
  have HN5 := Nb.new (w.alloc (.cells #[.int .i64 0, .string ⟨#[]⟩] 68)) 0 ⟨#[]⟩
  rw [World.size_alloc] at HN5
  have HN5 := Lib.hid HN5
  go_enter Tryz.func90, Tryz.ntmps90
  go_wp2_with fail
  refine (HX.out _ HB0.out).mono ?_
  rintro e w1 ⟨rfl, hb1⟩
  have HB1 := Lib.hid ((HB0.out.trans (hb1.mono HB0.out.size)).alloc (HB0.out.trans (hb1.mono HB0.out.size)).size (.cells #[.int .i64 s, .string b] 68))
  have HN4 := Lib.hid ((HN4.out.below hb1).alloc (.cells #[.int .i64 s, .string b] 68))
  have HN5 := Lib.hid ((HN5.out.below hb1).alloc (.cells #[.int .i64 s, .string b] 68))
  have HN7 := Lib.hid (Nb.new w1 s b)
  have hz1 := Lib.hid (show w.heap.size + 1 < w1.heap.size by have := hb1.size; simp at this; omega)
  clear hb1
  go_wp2_with fail
  refine (HY.out _ HB1.out).mono ?_
  rintro e w2 ⟨rfl, hb2⟩
  have HB2 := HB1.out.trans (hb2.mono HB1.out.size)
  have HB3 := Lib.hid (HB2.alloc HB2.size (.cells #[.int .i64 t, .string c] 68))
  have HN4 := Lib.hid ((HN4.out.below hb2).alloc (.cells #[.int .i64 t, .string c] 68))
  have HN5 := Lib.hid ((HN5.out.below hb2).alloc (.cells #[.int .i64 t, .string c] 68))
  have HN7 := Lib.hid ((HN7.out.below hb2).alloc (.cells #[.int .i64 t, .string c] 68))
  have HN9 := Lib.hid (Nb.new w2 t c)
  have hz2 := Lib.hid (show w1.heap.size < w2.heap.size by have := hb2.size; simp at this; omega)
  clear hb2 HB2
  go_wp2
  have hz1 := hz1.out
  have hz2 := hz2.out
  have c40 := HN4.out.c0
  have c41 := HN4.out.c1
  have f4 := HN4.out.f
  have c50 := HN5.out.c0
  have c51 := HN5.out.c1
  have f5 := HN5.out.f
  have c70 := HN7.out.c0
  have c71 := HN7.out.c1
  have c90 := HN9.out.c0
  have c91 := HN9.out.c1
  generalize w2.alloc (.cells #[.int .i64 t, .string c] 68) = W3 at *
  have hlt : w2.heap.size < W3.heap.size := HN9.out.lt
  obtain ⟨g4, hg4⟩ : ∃ g, g = w.heap.size := ⟨_, rfl⟩
  obtain ⟨g5, hg5⟩ : ∃ g, g = w.heap.size + 1 := ⟨_, rfl⟩
  obtain ⟨g7, hg7⟩ : ∃ g, g = w1.heap.size := ⟨_, rfl⟩
  obtain ⟨g9, hg9⟩ : ∃ g, g = w2.heap.size := ⟨_, rfl⟩
  rw [← hg4] at c40 c41
  rw [← hg5] at c50 c51
  rw [← hg7] at c70 c71
  rw [← hg9] at c90 c91
  rw [← hg5, ← hg4, ← hg7, ← hg9]
  have n1 : g7 ≠ g4 := by omega
  have n2 : g9 ≠ g4 := by omega
  have n3 : g7 ≠ g5 := by omega
  have n4 : g9 ≠ g5 := by omega
  have n5 : g5 ≠ g4 := by omega
  have f40 := f4 0
  have f41 := f4 1
  have f50 := f5 0
  have f51 := f5 1
  rw [← hg4] at f40 f41
  rw [← hg5] at f50 f51
  have hle4 := Lib.hid (show w.heap.size ≤ g4 by omega)
  have hle5 := Lib.hid (show w.heap.size ≤ g5 by omega)
  clear f4 f5 hg4 hg5 hg7 hg9 hz1 hz2 hlt
  cases o1
  · go_region
    all_goals
      go_wp2
      refine bodyPost_ret (v := .tuple #[.agg #[.int .i64 s, .string b], .agg #[.int .i64 t, .string c], .bool (false && o2)]) (by simp [results, Tryz.results90, go_sem, c40, c41, c50, c51]) rfl ⟨rfl, ?_⟩
      repeat (first | exact HB3.out | refine Below.setCell ?_ (by first | exact hle4.out | exact hle5.out) _ | refine Below.drew ?_)
  · go_region
    all_goals
      go_wp2
      refine bodyPost_ret (v := .tuple #[.agg #[.int .i64 s, .string b], .agg #[.int .i64 t, .string c], .bool (true && o2)]) (by simp [results, Tryz.results90, go_sem, c40, c41, c50, c51]) rfl ⟨rfl, ?_⟩
      repeat (first | exact HB3.out | refine Below.setCell ?_ (by first | exact hle4.out | exact hle5.out) _ | refine Below.drew ?_)

theorem readBoth_yes (x y : Int) (hx : FitZ x) (hy : FitZ y) (w : World) (hl : Zz w) :
    Calls Tryz.prog 90 #[.string (Sz x), .string (Sz y)] w fun e w' => e = .returned (.tuple #[Zv x, Zv y, .bool true]) ∧ Below w.heap.size w w' :=
  readBoth_walk (Sz x) (Sz y) _ _ _ _ true true w (fun W hW => read_yes x hx W (hl.on hW)) (fun W hW => read_yes y hy W (hl.on hW))
/-- One of both is no integer. -/
theorem readBoth_no (a b : ByteArray) (h : (vldZ a.data.toList && vldZ b.data.toList) = false) (ha : a.size ≤ 1000) (hb : b.size ≤ 1000) (w : World) (hl : Zz w) :
    Calls Tryz.prog 90 #[.string a, .string b] w fun e w' => ∃ (s t : Int) (c d : ByteArray), e = .returned (.tuple #[.agg #[.int .i64 s, .string c], .agg #[.int .i64 t, .string d], .bool false]) ∧ Below w.heap.size w w' := by
  have hm : ∀ {c : ByteArray}, c.size ≤ 1000 → c.size ≤ maxLen := fun h => by unfold maxLen; omega
  have fit : ∀ {c : ByteArray}, vldZ c.data.toList = true → c.size ≤ 1000 → FitZ (zval c.data.toList) := by
    intro c hv hc
    have e := sz_of hv
    generalize zval c.data.toList = z at *
    subst e
    rcases int_cases z with ⟨n, hn, rfl⟩ | rfl | ⟨n, hn, rfl⟩
    · refine Fit.neg ?_
      rw [sz_neg hn] at hc
      have h1 := Sm.of (a := Sn n) (k := 2000) (sn_vld n) (by
        have h2 : (Sn n).size = (Lib.decDigits n).length := by rw [← size_list, sn_list]
        have h3 : (⟨(45 :: Lib.decDigits n).toArray⟩ : ByteArray).size = (Lib.decDigits n).length + 1 := by simp [ByteArray.size]
        omega)
      rwa [sn_dval] at h1
    · exact fit0.nat
    · refine Fit.nat ?_
      rw [sz_nat] at hc
      have h1 := Sm.of (a := Sn n) (k := 2000) (sn_vld n) (by omega)
      rwa [sn_dval] at h1
  cases va : vldZ a.data.toList with
  | false =>
    cases vb : vldZ b.data.toList with
    | false => exact (readBoth_walk a b _ _ _ _ false false w (fun W _ => read_no a va (hm ha) W) (fun W _ => read_no b vb (hm hb) W)).mono fun e w' h => ⟨_, _, _, _, h.1, h.2⟩
    | true =>
      have h3 : ∀ W, Below w.heap.size w W → _ := fun W hW => read_yes _ (fit vb hb) W (hl.on hW)
      rw [← sz_of vb] at h3
      exact (readBoth_walk a b _ _ _ _ false true w (fun W _ => read_no a va (hm ha) W) h3).mono fun e w' h => ⟨_, _, _, _, h.1, h.2⟩
  | true =>
    have vb : vldZ b.data.toList = false := by rw [va] at h; simpa using h
    have h3 : ∀ W, Below w.heap.size w W → _ := fun W hW => read_yes _ (fit va ha) W (hl.on hW)
    rw [← sz_of va] at h3
    exact (readBoth_walk a b _ _ _ _ true false w h3 (fun W _ => read_no b vb (hm hb) W)).mono fun e w' h => ⟨_, _, _, _, h.1, h.2⟩

end Go.Proofs.YtpdchplppkfdhaaGreatDoor
