/- Texts of this proof, one behind the other. -/
import Derived.Test.YtohaocgbclpknaaGreatDoorMz15q
import Derived.StillTailTactics
import Derived.Deep.RegionWith
import Derived.Laws.EntriesVeiled
/- integer.readBoth: walks. -/
namespace Go.Proofs.YtohaocgbclpknaaGreatDoor
open Go.RowKit Go.Gb

/-- Block g holds a number. -/
def Nb (w : World) (g : Nat) (s : Int) (b : ByteArray) : Prop := w.heap[g]? = some (.cells #[.int .i64 s, .string b] 40 (0, 0))
theorem Nb.lt {w : World} {g : Nat} {s : Int} {b : ByteArray} (h : Nb w g s b) : g < w.heap.size := (Array.getElem?_eq_some_iff.1 h).1
theorem Nb.below {w w' : World} {g : Nat} {s : Int} {b : ByteArray} (h : Nb w g s b) (hb : Below w.heap.size w w') : Nb w' g s b := by
  unfold Nb at *
  rw [hb.block g (Array.getElem?_eq_some_iff.1 h).1]
  exact h
theorem Nb.new (w : World) (s : Int) (b : ByteArray) : Nb (w.alloc (.cells #[.int .i64 s, .string b] 40)) w.heap.size s b := by
  unfold Nb; rw [heap_alloc_new]
theorem Nb.alloc {w : World} {g : Nat} {s : Int} {b : ByteArray} (h : Nb w g s b) (o : Obj) : Nb (w.alloc o) g s b := h.below ((Below.refl _ _).alloc (Nat.le_refl _) o)
theorem Nb.c0 {w : World} {g : Nat} {s : Int} {b : ByteArray} (h : Nb w g s b) : w.cell? ⟨g, 0, none⟩ = some (.int .i64 s) := by
  unfold Nb at h; simp [World.cell?, h]
theorem Nb.c1 {w : World} {g : Nat} {s : Int} {b : ByteArray} (h : Nb w g s b) : w.cell? ⟨g, 1, none⟩ = some (.string b) := by
  unfold Nb at h; simp [World.cell?, h]
theorem Nb.f {w : World} {g : Nat} {s : Int} {b : ByteArray} (h : Nb w g s b) (i : Nat) : w.frozen? ⟨g, i, none⟩ = false := by
  unfold Nb at h; simp only [World.frozen?, h]; simp

set_option maxHeartbeats 1000000 in
set_option maxRecDepth 100000 in
theorem readBoth_walk (a1 a2 : ByteArray) (s t : Int) (b c : ByteArray) (o1 o2 : Bool) (w : World)
    (h1 : ∀ W, Below w.heap.size w W → Calls Tryz.prog 37 #[.string a1] W fun e w' => e = .returned (.tuple #[.agg #[.int .i64 s, .string b], .bool o1]) ∧ Below W.heap.size W w')
    (h2 : ∀ W, Below w.heap.size w W → Calls Tryz.prog 37 #[.string a2] W fun e w' => e = .returned (.tuple #[.agg #[.int .i64 t, .string c], .bool o2]) ∧ Below W.heap.size W w') :
    Calls Tryz.prog 19 #[.string a1, .string a2] w fun e w' => e = .returned (.tuple #[.agg #[.int .i64 s, .string b], .agg #[.int .i64 t, .string c], .bool (o1 && o2)]) ∧ Below w.heap.size w w' := by
  have HX := Lib.hid h1
  have HY := Lib.hid h2
  clear h1 h2
  have HB0 := Lib.hid (((Below.refl w.heap.size w).alloc (Nat.le_refl _) (.cells #[.int .i64 0, .string ⟨#[]⟩] 40)).alloc (by simp) (.cells #[.int .i64 0, .string ⟨#[]⟩] 40))
  have HN4 := Lib.hid ((Nb.new w 0 ⟨#[]⟩).alloc (.cells #[.int .i64 0, .string ⟨#[]⟩] 40))
  have HN5 := Nb.new (w.alloc (.cells #[.int .i64 0, .string ⟨#[]⟩] 40)) 0 ⟨#[]⟩
  rw [World.size_alloc] at HN5
  have HN5 := Lib.hid HN5
  go_enter Tryz.func19, Tryz.ntmps19
  go_wp2_with fail
  refine (HX.out _ HB0.out).mono ?_
  rintro e w1 ⟨rfl, hb1⟩
  have HB1 := Lib.hid ((HB0.out.trans (hb1.mono HB0.out.size)).alloc (HB0.out.trans (hb1.mono HB0.out.size)).size (.cells #[.int .i64 s, .string b] 40))
  have HN4 := Lib.hid ((HN4.out.below hb1).alloc (.cells #[.int .i64 s, .string b] 40))
  have HN5 := Lib.hid ((HN5.out.below hb1).alloc (.cells #[.int .i64 s, .string b] 40))
  have HN7 := Lib.hid (Nb.new w1 s b)
  have hz1 := Lib.hid (show w.heap.size + 1 < w1.heap.size by have := hb1.size; simp at this; omega)
  clear hb1
  go_wp2_with fail
  refine (HY.out _ HB1.out).mono ?_
  rintro e w2 ⟨rfl, hb2⟩
  have HB2 := HB1.out.trans (hb2.mono HB1.out.size)
  have HB3 := Lib.hid (HB2.alloc HB2.size (.cells #[.int .i64 t, .string c] 40))
  have HN4 := Lib.hid ((HN4.out.below hb2).alloc (.cells #[.int .i64 t, .string c] 40))
  have HN5 := Lib.hid ((HN5.out.below hb2).alloc (.cells #[.int .i64 t, .string c] 40))
  have HN7 := Lib.hid ((HN7.out.below hb2).alloc (.cells #[.int .i64 t, .string c] 40))
  have HN9 := Lib.hid (Nb.new w2 t c)
  have hz2 := Lib.hid (show w1.heap.size < w2.heap.size by have := hb2.size; simp at this; omega)
  clear hb2 HB2
  go_wp2
  have hz1 := hz1.out
  have hz2 := hz2.out
  have c40 := HN4.out.c0
  have c41 := HN4.out.c1
  have f4 := HN4.out.f
  have c50 := HN5.out.c0
  have c51 := HN5.out.c1
  have f5 := HN5.out.f
  have c70 := HN7.out.c0
  have c71 := HN7.out.c1
  have c90 := HN9.out.c0
  have c91 := HN9.out.c1
  generalize w2.alloc (.cells #[.int .i64 t, .string c] 40) = W3 at *
  have hlt : w2.heap.size < W3.heap.size := HN9.out.lt
  obtain ⟨g4, hg4⟩ : ∃ g, g = w.heap.size := ⟨_, rfl⟩
  obtain ⟨g5, hg5⟩ : ∃ g, g = w.heap.size + 1 := ⟨_, rfl⟩
  obtain ⟨g7, hg7⟩ : ∃ g, g = w1.heap.size := ⟨_, rfl⟩
  obtain ⟨g9, hg9⟩ : ∃ g, g = w2.heap.size := ⟨_, rfl⟩
  rw [← hg4] at c40 c41
  rw [← hg5] at c50 c51
  rw [← hg7] at c70 c71
  rw [← hg9] at c90 c91
  rw [← hg5, ← hg4, ← hg7, ← hg9]
  have n1 : g7 ≠ g4 := by omega
  have n2 : g9 ≠ g4 := by omega
  have n3 : g7 ≠ g5 := by omega
  have n4 : g9 ≠ g5 := by omega
  have n5 : g5 ≠ g4 := by omega
  have f40 := f4 0
  have f41 := f4 1
  have f50 := f5 0
  have f51 := f5 1
  rw [← hg4] at f40 f41
  rw [← hg5] at f50 f51
  have hle4 := Lib.hid (show w.heap.size ≤ g4 by omega)
  have hle5 := Lib.hid (show w.heap.size ≤ g5 by omega)
  clear f4 f5 hg4 hg5 hg7 hg9 hz1 hz2 hlt
  cases o1
  · go_region
    all_goals
      go_wp2
      refine bodyPost_ret (v := .tuple #[.agg #[.int .i64 s, .string b], .agg #[.int .i64 t, .string c], .bool (false && o2)]) (by simp [results, Tryz.results19, go_sem, c40, c41, c50, c51]) rfl ⟨rfl, ?_⟩
      repeat (first | exact HB3.out | refine Below.setCell ?_ (by first | exact hle4.out | exact hle5.out) _ | refine Below.drew ?_)
  · go_region
    all_goals
      go_wp2
      refine bodyPost_ret (v := .tuple #[.agg #[.int .i64 s, .string b], .agg #[.int .i64 t, .string c], .bool (true && o2)]) (by simp [results, Tryz.results19, go_sem, c40, c41, c50, c51]) rfl ⟨rfl, ?_⟩
      repeat (first | exact HB3.out | refine Below.setCell ?_ (by first | exact hle4.out | exact hle5.out) _ | refine Below.drew ?_)

theorem readBoth_yes (x y : Int) (hx : FitZ x) (hy : FitZ y) (w : World) (hl : Zz w) :
    Calls Tryz.prog 19 #[.string (Sz x), .string (Sz y)] w fun e w' => e = .returned (.tuple #[Zv x, Zv y, .bool true]) ∧ Below w.heap.size w w' :=
  readBoth_walk (Sz x) (Sz y) _ _ _ _ true true w (fun W hW => read_yes x hx W (hl.on hW)) (fun W hW => read_yes y hy W (hl.on hW))
/-- One of both is no integer. -/
theorem readBoth_no (a b : ByteArray) (h : (vldZ a.data.toList && vldZ b.data.toList) = false) (ha : a.size ≤ 1000) (hb : b.size ≤ 1000) (w : World) (hl : Zz w) :
    Calls Tryz.prog 19 #[.string a, .string b] w fun e w' => ∃ (s t : Int) (c d : ByteArray), e = .returned (.tuple #[.agg #[.int .i64 s, .string c], .agg #[.int .i64 t, .string d], .bool false]) ∧ Below w.heap.size w w' := by
  have hm : ∀ {c : ByteArray}, c.size ≤ 1000 → c.size ≤ maxLen := fun h => by unfold maxLen; omega
  have fit : ∀ {c : ByteArray}, vldZ c.data.toList = true → c.size ≤ 1000 → FitZ (zval c.data.toList) := by
    intro c hv hc
    have e := sz_of hv
    generalize zval c.data.toList = z at *
    subst e
    rcases int_cases z with ⟨n, hn, rfl⟩ | rfl | ⟨n, hn, rfl⟩
    · refine Fit.neg ?_
      rw [sz_neg hn] at hc
      have h1 := Sm.of (a := Sn n) (k := 2000) (sn_vld n) (by
        have h2 : (Sn n).size = (Lib.decDigits n).length := by rw [← size_list, sn_list]
        have h3 : (⟨(45 :: Lib.decDigits n).toArray⟩ : ByteArray).size = (Lib.decDigits n).length + 1 := by simp [ByteArray.size]
        omega)
      rwa [sn_dval] at h1
    · exact fit0.nat
    · refine Fit.nat ?_
      rw [sz_nat] at hc
      have h1 := Sm.of (a := Sn n) (k := 2000) (sn_vld n) (by omega)
      rwa [sn_dval] at h1
  cases va : vldZ a.data.toList with
  | false =>
    cases vb : vldZ b.data.toList with
    | false => exact (readBoth_walk a b _ _ _ _ false false w (fun W _ => read_no a va (hm ha) W) (fun W _ => read_no b vb (hm hb) W)).mono fun e w' h => ⟨_, _, _, _, h.1, h.2⟩
    | true =>
      have h3 : ∀ W, Below w.heap.size w W → _ := fun W hW => read_yes _ (fit vb hb) W (hl.on hW)
      rw [← sz_of vb] at h3
      exact (readBoth_walk a b _ _ _ _ false true w (fun W _ => read_no a va (hm ha) W) h3).mono fun e w' h => ⟨_, _, _, _, h.1, h.2⟩
  | true =>
    have vb : vldZ b.data.toList = false := by rw [va] at h; simpa using h
    have h3 : ∀ W, Below w.heap.size w W → _ := fun W hW => read_yes _ (fit va ha) W (hl.on hW)
    rw [← sz_of va] at h3
    exact (readBoth_walk a b _ _ _ _ true false w h3 (fun W _ => read_no b vb (hm hb) W)).mono fun e w' h => ⟨_, _, _, _, h.1, h.2⟩

end Go.Proofs.YtohaocgbclpknaaGreatDoor
/- integer: sums, differences and products of numbers as structs: walks. -/
namespace Go.Proofs.YtohaocgbclpknaaGreatDoor
open Go.RowKit Go.Gb

/-- A number as a struct, by its sign and its size. -/
def Zr (s : Int) (n : Nat) : Value := .agg #[.int .i64 s, .string (Sn n)]

set_option maxHeartbeats 1000000 in
theorem addAlike_raw (s t : Int) (m n k : Nat) (hk : m + n = k) (hm : Fit m) (hn : Fit n) (w : World) (htab : Tb w) :
    Calls Tryz.prog 63 #[Zr s m, Zr t n] w fun e w' => e = .returned (Zr s k) ∧ Below w.heap.size w w' := by
  subst hk
  have hb0 := ((((Below.refl w.heap.size w).alloc (Nat.le_refl _) (.cells #[.int .i64 s, .string (Sn m)] 40)).alloc (by simp) (.cells #[.int .i64 t, .string (Sn n)] 40)).alloc (by simp; omega) (.cells #[.int .i64 0, .string ⟨#[]⟩] 40))
  have HC := Lib.hid (nAdd m n hm hn _ (htab.on hb0))
  have HB0 := Lib.hid hb0
  unfold Zr
  generalize m + n = k at *
  clear hm hn htab hb0
  go_enter Tryz.func63, Tryz.ntmps63
  go_wp2_with fail
  refine HC.out.mono ?_
  rintro e w1 ⟨rfl, hb1⟩
  have HB := Lib.hid (HB0.out.trans (hb1.mono HB0.out.size))
  obtain ⟨hc, hf⟩ := bcell hb1
  have hz : w.heap.size + 2 < w1.heap.size := by have := hb1.size; simp at this; omega
  clear hb1
  go_wp2
  refine bodyPost_ret (v := .agg #[.int .i64 s, .string (Sn k)]) (by simp [results, Tryz.results63, go_sem, hc]) rfl ⟨rfl, ?_⟩
  repeat (first | exact HB.out | refine Below.setCell ?_ (by simp <;> omega) _ | refine Below.alloc ?_ (by simp <;> omega) _ | refine Below.drew ?_)

set_option maxHeartbeats 1000000 in
theorem multiply_raw (s t r : Int) (m n k : Nat) (hr : s * t = r) (hk : m * n = k) (hs : -1 ≤ r ∧ r ≤ 1) (hm : Fit m) (hn : Fit n) (w : World) (htab : Tb w) :
    Calls Tryz.prog 28 #[Zr s m, Zr t n] w fun e w' => e = .returned (Zr r k) ∧ Below w.heap.size w w' := by
  subst hk
  have hb0 := ((((Below.refl w.heap.size w).alloc (Nat.le_refl _) (.cells #[.int .i64 s, .string (Sn m)] 40)).alloc (by simp) (.cells #[.int .i64 t, .string (Sn n)] 40)).alloc (by simp; omega) (.cells #[.int .i64 0, .string ⟨#[]⟩] 40))
  have HC := Lib.hid (nMul m n hm hn _ (htab.on hb0))
  have HB0 := Lib.hid hb0
  unfold Zr
  generalize m * n = k at *
  have h1 := hs.1
  have h2 := hs.2
  clear hm hn htab hb0 hs
  go_enter Tryz.func28, Tryz.ntmps28
  go_wp2_with fail
  refine HC.out.mono ?_
  rintro e w1 ⟨rfl, hb1⟩
  have HB := Lib.hid (HB0.out.trans (hb1.mono HB0.out.size))
  obtain ⟨hc, hf⟩ := bcell hb1
  have hz : w.heap.size + 2 < w1.heap.size := by have := hb1.size; simp at this; omega
  clear hb1
  go_wp2
  refine bodyPost_ret (v := .agg #[.int .i64 r, .string (Sn k)]) (by simp [results, Tryz.results28, go_sem, hc]) rfl ⟨rfl, ?_⟩
  repeat (first | exact HB.out | refine Below.setCell ?_ (by simp <;> omega) _ | refine Below.alloc ?_ (by simp <;> omega) _ | refine Below.drew ?_)

/-! ### addZero -/
set_option maxHeartbeats 1000000 in
theorem addZero_first (t : Int) (b : ByteArray) (w : World) (hl : Zz w) :
    Calls Tryz.prog 62 #[.agg #[.int .i64 0, .string ⟨#[48]⟩], .agg #[.int .i64 t, .string b]] w fun e w' => e = .returned (.agg #[.int .i64 t, .string b]) ∧ Below w.heap.size w w' := by
  obtain ⟨h0, h1, h2⟩ := hl
  go_enter Tryz.func62, Tryz.ntmps62
  go_wp2
  refine bodyPost_ret (v := .agg #[.int .i64 t, .string b]) (by simp [results, Tryz.results62, go_sem]) rfl ⟨rfl, ?_⟩
  repeat (first | exact Below.refl _ _ | refine Below.setCell ?_ (by simp <;> omega) _ | refine Below.alloc ?_ (by simp <;> omega) _ | refine Below.drew ?_)
set_option maxHeartbeats 1000000 in
theorem addZero_second (s : Int) (hs : s ≠ 0) (b : ByteArray) (v : ByteArray) (t : Int) (w : World) (hl : Zz w) :
    Calls Tryz.prog 62 #[.agg #[.int .i64 s, .string b], .agg #[.int .i64 t, .string v]] w fun e w' => e = .returned (.agg #[.int .i64 s, .string b]) ∧ Below w.heap.size w w' := by
  obtain ⟨h0, h1, h2⟩ := hl
  have hs1 : (s == 0) = false := by simpa using hs
  have hs2 : ¬ s = 0 := hs
  go_enter Tryz.func62, Tryz.ntmps62
  go_wp2
  refine bodyPost_ret (v := .agg #[.int .i64 s, .string b]) (by simp [results, Tryz.results62, go_sem]) rfl ⟨rfl, ?_⟩
  repeat (first | exact Below.refl _ _ | refine Below.setCell ?_ (by simp <;> omega) _ | refine Below.alloc ?_ (by simp <;> omega) _ | refine Below.drew ?_)

/-! ### addOpposite -/
set_option maxHeartbeats 2000000 in
set_option maxRecDepth 100000 in
theorem addOpp_same (s t : Int) (n : Nat) (h1 : -1 ≤ t) (h2 : t ≤ 1) (hst : s = -t) (w : World) (hl : Zz w) :
    Calls Tryz.prog 61 #[Zr s n, Zr t n] w fun e w' => e = .returned (.agg #[.int .i64 0, .string ⟨#[48]⟩]) ∧ Below w.heap.size w w' := by
  have HN := Lib.hid (fun W => negative_raw t (Sn n) h1 h2 W)
  rw [← hst] at HN
  unfold Zr
  have hb0 := ((((Below.refl w.heap.size w).alloc (Nat.le_refl _) (.cells #[.int .i64 s, .string (Sn n)] 40)).alloc (by simp) (.cells #[.int .i64 t, .string (Sn n)] 40)).alloc (by simp; omega) (.cells #[.int .i64 0, .string ⟨#[]⟩] 40))
  have HB0 := Lib.hid hb0
  obtain ⟨z0, z1, z2⟩ := hl.on hb0
  clear hst h1 h2 hb0
  go_enter Tryz.func61, Tryz.ntmps61
  go_wp2
  go_region_with (go_at_call 38; go_must (refine (HN.out _).mono ?_; rintro e w1 ⟨rfl, hb1⟩; obtain ⟨hc1, hf1⟩ := bcell hb1; have hz1 : w.heap.size + 2 < w1.heap.size := by have := hb1.size; simp at this; omega))
  all_goals
    go_wp2
    refine bodyPost_ret (v := .agg #[.int .i64 0, .string ⟨#[48]⟩]) (by simp [results, Tryz.results61, go_sem, hc1]) rfl ⟨rfl, ?_⟩
    repeat (first | exact HB0.out.trans (hb1.mono HB0.out.size) | exact HB0.out.drew.trans (hb1.mono HB0.out.drew.size) | refine Below.setCell ?_ (by simp <;> omega) _ | refine Below.alloc ?_ (by simp <;> omega) _ | refine Below.drew ?_)

end Go.Proofs.YtohaocgbclpknaaGreatDoor
/- integer: sums of numbers as structs, whatever their signs; differences; quotients: walks. -/
namespace Go.Proofs.YtohaocgbclpknaaGreatDoor
open Go.RowKit Go.Gb

theorem Nb.belowD {w w' : World} {g : Nat} {s : Int} {b : ByteArray} (h : Nb w g s b) (hb : Below w.drew.heap.size w.drew w') : Nb w' g s b := Nb.below (w := w.drew) h hb

set_option maxHeartbeats 4000000 in
set_option maxRecDepth 100000 in
theorem addOpp_gt (s t : Int) (m n k : Nat) (h1 : -1 ≤ t) (h2 : t ≤ 1) (hst : s = -t) (hmn : n < m) (hk : n + k = m) (hm : Fit m) (hn : Fit n) (w : World) (htab : Tb w) :
    Calls Tryz.prog 61 #[Zr s m, Zr t n] w fun e w' => e = .returned (Zr s k) ∧ Below w.heap.size w w' := by
  have HN := Lib.hid (fun W => negative_raw t (Sn n) h1 h2 W)
  rw [← hst] at HN
  have hne := sn_neq (show m ≠ n by omega)
  have HC := Lib.hid (fun (W : World) => nCompare m n hm hn W)
  rw [cmpN_gt hmn] at HC
  have HS := Lib.hid (fun (W : World) (T : Tb W) => nSub m n hm (by omega) W T)
  rw [show m - n = k by omega] at HS
  have HT := Lib.hid htab
  unfold Zr
  have hb0 := ((((Below.refl w.heap.size w).alloc (Nat.le_refl _) (.cells #[.int .i64 s, .string (Sn m)] 40)).alloc (by simp) (.cells #[.int .i64 t, .string (Sn n)] 40)).alloc (by simp; omega) (.cells #[.int .i64 0, .string ⟨#[]⟩] 40))
  have HB0 := Lib.hid hb0
  have hn2 := ((Nb.new w s (Sn m)).alloc (.cells #[.int .i64 t, .string (Sn n)] 40)).alloc (.cells #[.int .i64 0, .string ⟨#[]⟩] 40)
  have hn3 := (Nb.new (w.alloc (.cells #[.int .i64 s, .string (Sn m)] 40)) t (Sn n)).alloc (.cells #[.int .i64 0, .string ⟨#[]⟩] 40)
  rw [World.size_alloc] at hn3
  have HN2 := Lib.hid hn2
  have HN3 := Lib.hid hn3
  clear hst h1 h2 hb0 hmn hk hm hn htab hn2 hn3
  go_enter Tryz.func61, Tryz.ntmps61
  go_wp2
  go_region_with (go_at_call 38; go_must (refine (HN.out _).mono ?_; rintro e w1 ⟨rfl, hb1⟩; obtain ⟨hc1, hf1⟩ := bcell hb1; have hz1 : w.heap.size + 2 < w1.heap.size := by have := hb1.size; (try simp at this); omega))
  all_goals
    have nc2 : Nb w1 w.heap.size s (Sn m) := by first | exact Nb.below HN2.out hb1 | exact Nb.belowD HN2.out hb1
    have c20 := nc2.c0
    have c21 := nc2.c1
    have nc3 : Nb w1 (w.heap.size + 1) t (Sn n) := by first | exact Nb.below HN3.out hb1 | exact Nb.belowD HN3.out hb1
    have c30 := nc3.c0
    have c31 := nc3.c1
    have HB1 : Below w.heap.size w w1 := by first | exact HB0.out.trans (hb1.mono HB0.out.size) | exact HB0.out.drew.trans (hb1.mono HB0.out.drew.size)
    go_wp2_with fail
    refine (HC.out _).mono ?_
    rintro e w' ⟨rfl, rfl⟩
    go_wp2_with fail
    refine (HS.out _ (HT.out.on ?bb)).mono ?_
    case bb => repeat (first | exact HB1 | refine Below.setCell ?_ (by first | omega | (simp; omega) | simp) _ | refine Below.alloc ?_ (by first | omega | (simp; omega) | simp) _ | refine Below.drew ?_)
    rintro e w2 ⟨rfl, hb2⟩
    have HB2 : Below w.heap.size w w2 := by
      refine Below.trans ?_ (hb2.mono ?_)
      · repeat (first | exact HB1 | refine Below.setCell ?_ (by first | omega | (simp; omega) | simp) _ | refine Below.alloc ?_ (by first | omega | (simp; omega) | simp) _ | refine Below.drew ?_)
      · first | omega | (simp; omega) | simp
    have q1 : w.heap.size < w1.heap.size := by omega
    have q2 : w.heap.size + 1 < w1.heap.size := by omega
    have q3 : w.heap.size + 1 + 1 < w1.heap.size := by omega
    obtain ⟨hc2, hf2⟩ := bcell hb2
    have hz2 : w.heap.size + 2 < w2.heap.size := by have := hb2.size; (try simp at this); omega
    clear hb1 hb2 nc2 nc3
    go_wp2
    refine bodyPost_ret (v := .agg #[.int .i64 s, .string (Sn k)]) (by simp [results, Tryz.results61, go_sem, hc1, hc2, q3]) rfl ⟨rfl, ?_⟩
    repeat (first | exact HB2 | refine Below.setCell ?_ (by first | omega | (simp; omega) | simp) _ | refine Below.alloc ?_ (by first | omega | (simp; omega) | simp) _ | refine Below.drew ?_)

set_option maxHeartbeats 4000000 in
set_option maxRecDepth 100000 in
theorem addOpp_lt (s t : Int) (m n k : Nat) (h1 : -1 ≤ t) (h2 : t ≤ 1) (hst : s = -t) (hmn : m < n) (hk : m + k = n) (hm : Fit m) (hn : Fit n) (w : World) (htab : Tb w) :
    Calls Tryz.prog 61 #[Zr s m, Zr t n] w fun e w' => e = .returned (Zr t k) ∧ Below w.heap.size w w' := by
  have HN := Lib.hid (fun W => negative_raw t (Sn n) h1 h2 W)
  rw [← hst] at HN
  have hne := sn_neq (show m ≠ n by omega)
  have HC := Lib.hid (fun (W : World) => nCompare m n hm hn W)
  rw [cmpN_lt hmn] at HC
  have HS := Lib.hid (fun (W : World) (T : Tb W) => nSub n m hn (by omega) W T)
  rw [show n - m = k by omega] at HS
  have HT := Lib.hid htab
  unfold Zr
  have hb0 := ((((Below.refl w.heap.size w).alloc (Nat.le_refl _) (.cells #[.int .i64 s, .string (Sn m)] 40)).alloc (by simp) (.cells #[.int .i64 t, .string (Sn n)] 40)).alloc (by simp; omega) (.cells #[.int .i64 0, .string ⟨#[]⟩] 40))
  have HB0 := Lib.hid hb0
  have hn2 := ((Nb.new w s (Sn m)).alloc (.cells #[.int .i64 t, .string (Sn n)] 40)).alloc (.cells #[.int .i64 0, .string ⟨#[]⟩] 40)
  have hn3 := (Nb.new (w.alloc (.cells #[.int .i64 s, .string (Sn m)] 40)) t (Sn n)).alloc (.cells #[.int .i64 0, .string ⟨#[]⟩] 40)
  rw [World.size_alloc] at hn3
  have HN2 := Lib.hid hn2
  have HN3 := Lib.hid hn3
  clear hst h1 h2 hb0 hmn hk hm hn htab hn2 hn3
  go_enter Tryz.func61, Tryz.ntmps61
  go_wp2
  go_region_with (go_at_call 38; go_must (refine (HN.out _).mono ?_; rintro e w1 ⟨rfl, hb1⟩; obtain ⟨hc1, hf1⟩ := bcell hb1; have hz1 : w.heap.size + 2 < w1.heap.size := by have := hb1.size; (try simp at this); omega))
  all_goals
    have nc2 : Nb w1 w.heap.size s (Sn m) := by first | exact Nb.below HN2.out hb1 | exact Nb.belowD HN2.out hb1
    have c20 := nc2.c0
    have c21 := nc2.c1
    have nc3 : Nb w1 (w.heap.size + 1) t (Sn n) := by first | exact Nb.below HN3.out hb1 | exact Nb.belowD HN3.out hb1
    have c30 := nc3.c0
    have c31 := nc3.c1
    have HB1 : Below w.heap.size w w1 := by first | exact HB0.out.trans (hb1.mono HB0.out.size) | exact HB0.out.drew.trans (hb1.mono HB0.out.drew.size)
    go_wp2_with fail
    refine (HC.out _).mono ?_
    rintro e w' ⟨rfl, rfl⟩
    go_wp2_with fail
    refine (HS.out _ (HT.out.on ?bb)).mono ?_
    case bb => repeat (first | exact HB1 | refine Below.setCell ?_ (by first | omega | (simp; omega) | simp) _ | refine Below.alloc ?_ (by first | omega | (simp; omega) | simp) _ | refine Below.drew ?_)
    rintro e w2 ⟨rfl, hb2⟩
    have HB2 : Below w.heap.size w w2 := by
      refine Below.trans ?_ (hb2.mono ?_)
      · repeat (first | exact HB1 | refine Below.setCell ?_ (by first | omega | (simp; omega) | simp) _ | refine Below.alloc ?_ (by first | omega | (simp; omega) | simp) _ | refine Below.drew ?_)
      · first | omega | (simp; omega) | simp
    have q1 : w.heap.size < w1.heap.size := by omega
    have q2 : w.heap.size + 1 < w1.heap.size := by omega
    have q3 : w.heap.size + 1 + 1 < w1.heap.size := by omega
    obtain ⟨hc2, hf2⟩ := bcell hb2
    have hz2 : w.heap.size + 2 < w2.heap.size := by have := hb2.size; (try simp at this); omega
    clear hb1 hb2 nc2 nc3
    go_wp2
    refine bodyPost_ret (v := .agg #[.int .i64 t, .string (Sn k)]) (by simp [results, Tryz.results61, go_sem, hc1, hc2, q3]) rfl ⟨rfl, ?_⟩
    repeat (first | exact HB2 | refine Below.setCell ?_ (by first | omega | (simp; omega) | simp) _ | refine Below.alloc ?_ (by first | omega | (simp; omega) | simp) _ | refine Below.drew ?_)

/-- A region whose operations but the last ones only read. -/
theorem still_tail_drew {P : Program} {id : Nat} {Q : Exit → Act → World → Prop} {a : Act} {w : World} {l : List Oper} (n : Nat) (hm : P.follows .mixedOrders = true) (hB : Region.lexTailB .any l.toArray n = true)
    (h : wpStill P l.toArray w.drew (fun a' => wpList P l.toArray Q (l.drop n) a' w.drew) (l.take n) a) : (Code.region id l.toArray true).wp P Q a w := wp_region_still_tail n hm hB h

set_option maxHeartbeats 1000000 in
set_option maxRecDepth 100000 in
theorem add_way0 (s t r : Int) (b c d : ByteArray) (hst : s * t = -1) (w : World)
    (hcall : ∀ W, Below w.heap.size w W → Calls Tryz.prog 61 #[.agg #[.int .i64 s, .string b], .agg #[.int .i64 t, .string c]] W fun e w' => e = .returned (.agg #[.int .i64 r, .string d]) ∧ Below W.heap.size W w') :
    Calls Tryz.prog 36 #[.agg #[.int .i64 s, .string b], .agg #[.int .i64 t, .string c]] w fun e w' => e = .returned (.agg #[.int .i64 r, .string d]) ∧ Below w.heap.size w w' := by
  have HC := Lib.hid hcall
  clear hcall
  have e1 : IntKind.i64.wrap (-1) = -1 := by decide
  have e2 : IntKind.i64.wrap (-1 + 1) = 0 := by decide
  have e3 : IntKind.i64.wrap 0 = 0 := by decide
  have e4 : IntKind.i64.wrap 1 = 1 := by decide
  have e5 : IntKind.i64.wrap (0 + 1) = 1 := by decide
  have e6 : IntKind.i64.wrap (1 + 1) = 2 := by decide
  have e7 : IntKind.i64.wrap 2 = 2 := by decide
  go_enter Tryz.func36, Tryz.ntmps36
  go_wp2
  refine still_tail_drew 10 (by kernel_rfl) (by kernel_rfl) ?_
  simp only [List.take_succ_cons, List.take_zero, List.drop_succ_cons, List.drop_zero]
  repeat still_step
  refine wpStill_nil ?_
  go_wp2_with fail
  refine (HC.out _ ?bb).mono ?_
  case bb => repeat (first | exact Below.refl _ _ | refine Below.setCell ?_ (by first | omega | (simp; omega) | simp) _ | refine Below.alloc ?_ (by first | omega | (simp; omega) | simp) _ | refine Below.drew ?_)
  rintro e w1 ⟨rfl, hb1⟩
  obtain ⟨hc1, hf1⟩ := bcell hb1
  have hz1 : w.heap.size + 2 < w1.heap.size := by have := hb1.size; (try simp at this); omega
  have HB2 : Below w.heap.size w w1 := by
    refine Below.trans ?_ (hb1.mono ?_)
    · repeat (first | exact Below.refl _ _ | refine Below.setCell ?_ (by first | omega | (simp; omega) | simp) _ | refine Below.alloc ?_ (by first | omega | (simp; omega) | simp) _ | refine Below.drew ?_)
    · first | omega | (simp; omega) | simp
  clear hb1
  go_wp2
  refine bodyPost_ret (v := .agg #[.int .i64 r, .string d]) (by simp [results, Tryz.results36, go_sem, hc1]) rfl ⟨rfl, ?_⟩
  repeat (first | exact HB2 | refine Below.setCell ?_ (by first | omega | (simp; omega) | simp) _ | refine Below.alloc ?_ (by first | omega | (simp; omega) | simp) _ | refine Below.drew ?_)

set_option maxHeartbeats 1000000 in
set_option maxRecDepth 100000 in
theorem add_way1 (s t r : Int) (b c d : ByteArray) (hst : s * t = 0) (w : World)
    (hcall : ∀ W, Below w.heap.size w W → Calls Tryz.prog 62 #[.agg #[.int .i64 s, .string b], .agg #[.int .i64 t, .string c]] W fun e w' => e = .returned (.agg #[.int .i64 r, .string d]) ∧ Below W.heap.size W w') :
    Calls Tryz.prog 36 #[.agg #[.int .i64 s, .string b], .agg #[.int .i64 t, .string c]] w fun e w' => e = .returned (.agg #[.int .i64 r, .string d]) ∧ Below w.heap.size w w' := by
  have HC := Lib.hid hcall
  clear hcall
  have e1 : IntKind.i64.wrap (-1) = -1 := by decide
  have e2 : IntKind.i64.wrap (-1 + 1) = 0 := by decide
  have e3 : IntKind.i64.wrap 0 = 0 := by decide
  have e4 : IntKind.i64.wrap 1 = 1 := by decide
  have e5 : IntKind.i64.wrap (0 + 1) = 1 := by decide
  have e6 : IntKind.i64.wrap (1 + 1) = 2 := by decide
  have e7 : IntKind.i64.wrap 2 = 2 := by decide
  go_enter Tryz.func36, Tryz.ntmps36
  go_wp2
  refine still_tail_drew 10 (by kernel_rfl) (by kernel_rfl) ?_
  simp only [List.take_succ_cons, List.take_zero, List.drop_succ_cons, List.drop_zero]
  repeat still_step
  refine wpStill_nil ?_
  go_wp2_with fail
  refine (HC.out _ ?bb).mono ?_
  case bb => repeat (first | exact Below.refl _ _ | refine Below.setCell ?_ (by first | omega | (simp; omega) | simp) _ | refine Below.alloc ?_ (by first | omega | (simp; omega) | simp) _ | refine Below.drew ?_)
  rintro e w1 ⟨rfl, hb1⟩
  obtain ⟨hc1, hf1⟩ := bcell hb1
  have hz1 : w.heap.size + 2 < w1.heap.size := by have := hb1.size; (try simp at this); omega
  have HB2 : Below w.heap.size w w1 := by
    refine Below.trans ?_ (hb1.mono ?_)
    · repeat (first | exact Below.refl _ _ | refine Below.setCell ?_ (by first | omega | (simp; omega) | simp) _ | refine Below.alloc ?_ (by first | omega | (simp; omega) | simp) _ | refine Below.drew ?_)
    · first | omega | (simp; omega) | simp
  clear hb1
  go_wp2
  refine bodyPost_ret (v := .agg #[.int .i64 r, .string d]) (by simp [results, Tryz.results36, go_sem, hc1]) rfl ⟨rfl, ?_⟩
  repeat (first | exact HB2 | refine Below.setCell ?_ (by first | omega | (simp; omega) | simp) _ | refine Below.alloc ?_ (by first | omega | (simp; omega) | simp) _ | refine Below.drew ?_)

set_option maxHeartbeats 1000000 in
set_option maxRecDepth 100000 in
theorem add_way2 (s t r : Int) (b c d : ByteArray) (hst : s * t = 1) (w : World)
    (hcall : ∀ W, Below w.heap.size w W → Calls Tryz.prog 63 #[.agg #[.int .i64 s, .string b], .agg #[.int .i64 t, .string c]] W fun e w' => e = .returned (.agg #[.int .i64 r, .string d]) ∧ Below W.heap.size W w') :
    Calls Tryz.prog 36 #[.agg #[.int .i64 s, .string b], .agg #[.int .i64 t, .string c]] w fun e w' => e = .returned (.agg #[.int .i64 r, .string d]) ∧ Below w.heap.size w w' := by
  have HC := Lib.hid hcall
  clear hcall
  have e1 : IntKind.i64.wrap (-1) = -1 := by decide
  have e2 : IntKind.i64.wrap (-1 + 1) = 0 := by decide
  have e3 : IntKind.i64.wrap 0 = 0 := by decide
  have e4 : IntKind.i64.wrap 1 = 1 := by decide
  have e5 : IntKind.i64.wrap (0 + 1) = 1 := by decide
  have e6 : IntKind.i64.wrap (1 + 1) = 2 := by decide
  have e7 : IntKind.i64.wrap 2 = 2 := by decide
  go_enter Tryz.func36, Tryz.ntmps36
  go_wp2
  refine still_tail_drew 10 (by kernel_rfl) (by kernel_rfl) ?_
  simp only [List.take_succ_cons, List.take_zero, List.drop_succ_cons, List.drop_zero]
  repeat still_step
  refine wpStill_nil ?_
  go_wp2_with fail
  refine (HC.out _ ?bb).mono ?_
  case bb => repeat (first | exact Below.refl _ _ | refine Below.setCell ?_ (by first | omega | (simp; omega) | simp) _ | refine Below.alloc ?_ (by first | omega | (simp; omega) | simp) _ | refine Below.drew ?_)
  rintro e w1 ⟨rfl, hb1⟩
  obtain ⟨hc1, hf1⟩ := bcell hb1
  have hz1 : w.heap.size + 2 < w1.heap.size := by have := hb1.size; (try simp at this); omega
  have HB2 : Below w.heap.size w w1 := by
    refine Below.trans ?_ (hb1.mono ?_)
    · repeat (first | exact Below.refl _ _ | refine Below.setCell ?_ (by first | omega | (simp; omega) | simp) _ | refine Below.alloc ?_ (by first | omega | (simp; omega) | simp) _ | refine Below.drew ?_)
    · first | omega | (simp; omega) | simp
  clear hb1
  go_wp2
  refine bodyPost_ret (v := .agg #[.int .i64 r, .string d]) (by simp [results, Tryz.results36, go_sem, hc1]) rfl ⟨rfl, ?_⟩
  repeat (first | exact HB2 | refine Below.setCell ?_ (by first | omega | (simp; omega) | simp) _ | refine Below.alloc ?_ (by first | omega | (simp; omega) | simp) _ | refine Below.drew ?_)

/-- The sum of two numbers as structs. -/
theorem add_any' (x y : Int) (hx : FitZ x) (hy : FitZ y) (w : World) (hl : La w) :
    Calls Tryz.prog 36 #[Zv x, Zv y] w fun e w' => e = .returned (Zv (x + y)) ∧ Below w.heap.size w w' := by
  rcases int_cases x with ⟨m, hm, rfl⟩ | rfl | ⟨m, hm, rfl⟩
  · rcases int_cases y with ⟨n, hn, rfl⟩ | rfl | ⟨n, hn, rfl⟩
    · rw [zv_neg hm, zv_neg hn, show -(m : Int) + -(n : Int) = -((m + n : Nat) : Int) by omega, zv_neg (by omega)]
      exact add_way2 (-1) (-1) (-1) _ _ _ (by decide) w fun W hW => addAlike_raw (-1) (-1) m n _ rfl hx.neg hy.neg W (hl.tb.on hW)
    · rw [Int.add_zero, zv_neg hm, zv_zero]
      exact add_way1 (-1) 0 (-1) _ _ _ (by decide) w fun W hW => addZero_second (-1) (by decide) _ _ 0 W (hl.zz.on hW)
    · rw [zv_neg hm, zv_pos hn]
      rcases Nat.lt_trichotomy m n with h | rfl | h
      · obtain ⟨k, hk⟩ := Nat.exists_eq_add_of_lt h
        rw [show -(m : Int) + (n : Int) = ((k + 1 : Nat) : Int) by omega, zv_pos (by omega)]
        exact add_way0 (-1) 1 1 _ _ _ (by decide) w fun W hW => addOpp_lt (-1) 1 m n (k + 1) (by decide) (by decide) (by decide) h (by omega) hx.neg hy.nat W (hl.tb.on hW)
      · rw [show -(m : Int) + (m : Int) = 0 by omega, zv_zero]
        exact add_way0 (-1) 1 0 _ _ _ (by decide) w fun W hW => addOpp_same (-1) 1 m (by decide) (by decide) (by decide) W (hl.zz.on hW)
      · obtain ⟨k, hk⟩ := Nat.exists_eq_add_of_lt h
        rw [show -(m : Int) + (n : Int) = -((k + 1 : Nat) : Int) by omega, zv_neg (by omega)]
        exact add_way0 (-1) 1 (-1) _ _ _ (by decide) w fun W hW => addOpp_gt (-1) 1 m n (k + 1) (by decide) (by decide) (by decide) h (by omega) hx.neg hy.nat W (hl.tb.on hW)
  · rw [Int.zero_add, zv_zero]
    unfold Zv
    exact add_way1 0 y.sign y.sign _ _ _ (by simp) w fun W hW => addZero_first y.sign _ W (hl.zz.on hW)
  · rcases int_cases y with ⟨n, hn, rfl⟩ | rfl | ⟨n, hn, rfl⟩
    · rw [zv_pos hm, zv_neg hn]
      rcases Nat.lt_trichotomy m n with h | rfl | h
      · obtain ⟨k, hk⟩ := Nat.exists_eq_add_of_lt h
        rw [show (m : Int) + -(n : Int) = -((k + 1 : Nat) : Int) by omega, zv_neg (by omega)]
        exact add_way0 1 (-1) (-1) _ _ _ (by decide) w fun W hW => addOpp_lt 1 (-1) m n (k + 1) (by decide) (by decide) (by decide) h (by omega) hx.nat hy.neg W (hl.tb.on hW)
      · rw [show (m : Int) + -(m : Int) = 0 by omega, zv_zero]
        exact add_way0 1 (-1) 0 _ _ _ (by decide) w fun W hW => addOpp_same 1 (-1) m (by decide) (by decide) (by decide) W (hl.zz.on hW)
      · obtain ⟨k, hk⟩ := Nat.exists_eq_add_of_lt h
        rw [show (m : Int) + -(n : Int) = ((k + 1 : Nat) : Int) by omega, zv_pos (by omega)]
        exact add_way0 1 (-1) 1 _ _ _ (by decide) w fun W hW => addOpp_gt 1 (-1) m n (k + 1) (by decide) (by decide) (by decide) h (by omega) hx.nat hy.neg W (hl.tb.on hW)
    · rw [Int.add_zero, zv_pos hm, zv_zero]
      exact add_way1 1 0 1 _ _ _ (by decide) w fun W hW => addZero_second 1 (by decide) _ _ 0 W (hl.zz.on hW)
    · rw [zv_pos hm, zv_pos hn, show (m : Int) + (n : Int) = ((m + n : Nat) : Int) by omega, zv_pos (by omega)]
      exact add_way2 1 1 1 _ _ _ (by decide) w fun W hW => addAlike_raw 1 1 m n _ rfl hx.nat hy.nat W (hl.tb.on hW)

end Go.Proofs.YtohaocgbclpknaaGreatDoor
