/- Texts of this proof, one behind the other. -/
import Derived.Test.YtlagimghlngdgaaGreatDoorMve
/- garboardlaw04: variables of intervals in memory; in. -/
namespace Go.Proofs.YtlagimghlngdgaaGreatDoor
open Go.RowKit Go.Gb

/-- Block g holds the interval from x to y. -/
def Iv (g : Nat) (x y : ByteArray) (W : World) : Prop := g < W.heap.size ∧ W.cell? ⟨g, 0, none⟩ = some (.string x) ∧ W.cell? ⟨g, 1, none⟩ = some (.string y)
theorem Iv.mono {g : Nat} {x y : ByteArray} {W W' : World} (h : Iv g x y W) (hb : Below W.heap.size W W') : Iv g x y W' :=
  ⟨Nat.lt_of_lt_of_le h.1 hb.size, (hb.cell (p := ⟨g, 0, none⟩) h.1).trans h.2.1, (hb.cell (p := ⟨g, 1, none⟩) h.1).trans h.2.2⟩
theorem below_alloc (W : World) (o : Obj) : Below W.heap.size W (W.alloc o) := (Below.refl W.heap.size W).alloc (Nat.le_refl _) o
theorem Iv.al {g : Nat} {x y : ByteArray} {W : World} (h : Iv g x y W) (o : Obj) : Iv g x y (W.alloc o) := h.mono (below_alloc W o)
theorem iv_box (W : World) (x y : ByteArray) : Iv W.heap.size x y (W.alloc (.cells #[.string x, .string y] 48)) :=
  ⟨by simp, (q_new rfl).trans rfl, (q_new rfl).trans rfl⟩theorem iv_boxg {W : World} {g : Nat} (hg : g = W.heap.size) (x y : ByteArray) : Iv g x y (W.alloc (.cells #[.string x, .string y] 48)) := by subst hg; exact iv_box W x y

theorem in_raw (a b : ByteArray) (w : World) : Calls Tryz.prog 43 #[.string a, .string b] w fun e w' => e = .returned (.agg #[.string a, .string b]) ∧ Below w.heap.size w w' := by
  have HB := Lib.hid (below_alloc w (.cells #[.string a, .string b] 48))
  go_enter Tryz.func43, Tryz.ntmps43
  go_wp2
  exact bodyPost_ret (v := .agg #[.string a, .string b]) (by simp [results, Tryz.results43, go_sem]) rfl ⟨rfl, HB.out⟩
end Go.Proofs.YtlagimghlngdgaaGreatDoor
/- interval.Hull of any list of valid intervals. -/
namespace Go.Proofs.YtlagimghlngdgaaGreatDoor
open Go.RowKit Go.Gb

/-- The first m numbers of a row, as cells. -/
def hcells (q : Nat → Rat) (m : Nat) : List Value := (List.range m).map fun j => .string (Sq (q j))
theorem hcells_two (q : Nat → Rat) (i : Nat) : hcells q (2 * i) ++ [.string (Sq (q (2 * i))), .string (Sq (q (2 * i + 1)))] = hcells q (2 * i + 2) := by
  unfold hcells
  rw [List.range_succ, List.range_succ]
  simp
theorem hcells_get (q : Nat → Rat) {m i : Nat} (h : i < m) : (hcells q m)[i]? = some (.string (Sq (q i))) := by
  unfold hcells
  simp [h]
theorem own_read {W : World} {base n : Nat} {e : TypeId} {v : Value} {xs : List Value} (h : W.ownsRow base e 1 v n xs) (hn : 0 < n) :
    ∃ g cap, v = .slice (some ⟨g, 0, none⟩) n cap ∧ base ≤ g ∧ g < W.heap.size ∧ n ≤ cap ∧ ∀ i x, xs[i]? = some x → W.cell? ⟨g, i, none⟩ = some x := by
  obtain ⟨h1, h2⟩ := h
  rcases h2 with ⟨h2, h3⟩ | ⟨g, cap, cur, hv, hg, hh, hn2, hc, hs, ht⟩
  · omega
  · refine ⟨g, cap, hv, hg, (Array.getElem?_eq_some_iff.1 hh).1, hn2, fun i x hx => ?_⟩
    have hi : i < n := by
      have := (List.getElem?_eq_some_iff.1 hx).1
      omega
    rw [← ht, Nat.mul_one, List.getElem?_take, if_pos hi] at hx
    simp only [World.cell?, hh]
    simpa using hx
theorem own_below {W W' : World} {base n : Nat} {e : TypeId} {v : Value} {xs : List Value} (h : W.ownsRow base e 1 v n xs) (hb : Below W.heap.size W W') : W'.ownsRow base e 1 v n xs := by
  obtain ⟨h1, h2⟩ := h
  refine ⟨h1, ?_⟩
  rcases h2 with h2 | ⟨g, cap, cur, hv, hg, hh, r⟩
  · exact Or.inl h2
  · exact Or.inr ⟨g, cap, cur, hv, hg, by rw [hb.block g (Array.getElem?_eq_some_iff.1 hh).1]; exact hh, r⟩
theorem cells_two (w : World) (u v : Value) (T : TypeId) : ∀ j x, [u, v][j]? = some x → (w.alloc (.cells #[u, v] T)).cell? ((⟨w.heap.size, 0, none⟩ : Addr).add j) = some x := by
  intro j x hj
  match j, hj with
  | 0, hj => simp at hj; subst hj; simp [Addr.add]
  | 1, hj => simp at hj; subst hj; simp [Addr.add]

theorem rat_info : ∃ i0 : TypeInfo, Tryz.prog.info? 22 = some i0 ∧ i0.zero = some (.string ⟨#[]⟩) ∧ i0.size = 1 ∧ i0.bytes = 16 := by
  have h1 : (Tryz.prog.info? 22).map (fun i => i.zero) = some (some (.string ⟨#[]⟩)) := by kernel_rfl
  have h2 : (Tryz.prog.info? 22).map (fun i => i.size) = some 1 := by kernel_rfl
  have h3 : (Tryz.prog.info? 22).map (fun i => i.bytes) = some 16 := by kernel_rfl
  cases h : Tryz.prog.info? 22 with
  | none => rw [h] at h1; cases h1
  | some i =>
    rw [h] at h1 h2 h3
    exact ⟨i, rfl, by simpa using h1, by simpa using h2, by simpa using h3⟩

set_option maxHeartbeats 4000000 in
set_option maxRecDepth 100000 in
theorem hull_any (g n c : Nat) (q : Nat → Rat) (hn1 : 1 ≤ n) (hn2 : n ≤ 1024) (hnc : n ≤ c) (w : World) (hl : La w) (hg : g < w.heap.size)
    (hq : ∀ i, i < 2 * n → FitQ (q i)) (hv : ∀ i, i < n → q (2 * i) ≤ q (2 * i + 1)) (hcell : ∀ i, i < 2 * n → w.cell? ⟨g, i, none⟩ = some (.string (Sq (q i)))) :
    Calls Tryz.prog 73 #[.slice (some ⟨g, 0, none⟩) n c] w fun e w' => e = .returned (.tuple #[Vq (exOf q (2 * n - 1)).1 (exOf q (2 * n - 1)).2, .int .i64 0]) ∧ Below w.heap.size w w' := by
  obtain ⟨i0, hi, hz0, hz1, hz2⟩ := rat_info
  obtain ⟨w0, hw0⟩ : ∃ w0 : World, w0 = w.alloc (.cells #[.string ⟨#[]⟩, .string ⟨#[]⟩] 48) := ⟨_, rfl⟩
  have hs0 : w0.heap.size = w.heap.size + 1 := by rw [hw0]; simp
  have hb0 : Below w.heap.size w w0 := by rw [hw0]; exact below_alloc w _
  have hr0 : w0.cell? ⟨w.heap.size, 0, none⟩ = some (.string ⟨#[]⟩) ∧ w0.cell? ⟨w.heap.size, 1, none⟩ = some (.string ⟨#[]⟩) ∧ w0.frozen? ⟨w.heap.size, 0, none⟩ = false ∧ w0.frozen? ⟨w.heap.size, 1, none⟩ = false := by
    rw [hw0]; exact ⟨(q_new rfl).trans rfl, (q_new rfl).trans rfl, fq_new rfl, fq_new rfl⟩
  have HQ := Lib.hid hq
  have HV := Lib.hid hv
  have KB := Lib.hid (show ∀ W : World, Below w0.heap.size w0 W → Below w.heap.size w W from fun W hB => hb0.trans (hB.mono (by omega)))
  have HC := Lib.hid (show ∀ W : World, Below w0.heap.size w0 W → ∀ i, i < 2 * n → W.cell? ⟨g, i, none⟩ = some (.string (Sq (q i))) from fun W hB i hi' => ((KB.out W hB).cell (p := ⟨g, i, none⟩) hg).trans (hcell i hi'))
  have KR := Lib.hid (show ∀ W : World, Below w0.heap.size w0 W → (W.cell? ⟨w.heap.size, 0, none⟩ = some (.string ⟨#[]⟩) ∧ W.cell? ⟨w.heap.size, 1, none⟩ = some (.string ⟨#[]⟩) ∧ W.frozen? ⟨w.heap.size, 0, none⟩ = false ∧ W.frozen? ⟨w.heap.size, 1, none⟩ = false) from fun W hB => by
    obtain ⟨c0, c1, f0, f1⟩ := hr0
    exact ⟨(hB.cell (p := ⟨w.heap.size, 0, none⟩) (by show w.heap.size < _; omega)).trans c0, (hB.cell (p := ⟨w.heap.size, 1, none⟩) (by show w.heap.size < _; omega)).trans c1, (hB.frozen (p := ⟨w.heap.size, 0, none⟩) (by show w.heap.size < _; omega)).trans f0, (hB.frozen (p := ⟨w.heap.size, 1, none⟩) (by show w.heap.size < _; omega)).trans f1⟩)
  have HL := Lib.hid (show ∀ W : World, Below w0.heap.size w0 W → La W from fun W hB => hl.on (KB.out W hB))
  have KZ := Lib.hid (show ∀ W : World, Below w0.heap.size w0 W → w.heap.size + 1 ≤ W.heap.size from fun W hB => by have := hB.size; omega)
  have F0 := Lib.hid (Below.refl w0.heap.size w0)
  have HS := Lib.hid hs0
  have HW0 := Lib.hid hw0
  have ne0 : ¬ (n : Int) = 0 := by omega
  have ne1 : ¬ (1024 : Int) < (n : Int) := by omega
  have nc : (n : Int) ≤ (c : Int) := by omega
  clear hq hv hcell hb0 hr0 hl hs0 hw0
  go_enter Tryz.func73, Tryz.ntmps73
  go_wp2
  rw [← HW0.out]
  go_loopw [4, 6, 17] (fun v _ ii wr => ∃ (i : Nat), i ≤ n ∧ ii = .int .i64 (i : Int) ∧ Hid (wr.ownsRow w0.heap.size 22 1 v (2 * i) (hcells q (2 * i))) ∧ Hid (Below w0.heap.size w0 wr)) (fun _ _ ii _ => n - (intOf ii).toNat)
  case atStart => exact ⟨0, by omega, rfl, Lib.hid (World.ownsRow_nil w0 w0.heap.size 22 1), F0⟩
  case round =>
    obtain ⟨i, hin, rfl, hO, hF⟩ := hrel
    have hi2 : (i : Int) ≤ 1024 := by omega
    have hi3 : (0 : Int) ≤ (i : Int) := by omega
    have wi : IntKind.i64.wrap ((i : Int) + 1) = (i : Int) + 1 := IntWalk.i64_in _ (by omega)
    by_cases hlt : i < n
    · have c0 : wr.cell? ⟨g, i * 2, none⟩ = some (.string (Sq (q (2 * i)))) := by rw [Nat.mul_comm]; exact HC.out _ hF.out (2 * i) (by omega)
      have c1 : wr.cell? ⟨g, i * 2 + 1, none⟩ = some (.string (Sq (q (2 * i + 1)))) := by rw [Nat.mul_comm]; exact HC.out _ hF.out (2 * i + 1) (by omega)
      have FX := Lib.hid (HQ.out (2 * i) (by omega))
      have FY := Lib.hid (HQ.out (2 * i + 1) (by omega))
      have HXY := Lib.hid (HV.out i hlt)
      have HNX := Lib.hid (hcells_two q i)
      generalize q (2 * i) = x at *
      generalize q (2 * i + 1) = y at *
      have hlt1 : (i : Int) < (n : Int) := by omega
      have CV := Lib.hid (fun W hW => show Calls Tryz.prog 34 #[.agg #[.string (Sq x), .string (Sq y)]] W fun e w' => e = .returned (.bool true) ∧ Below W.heap.size W w' from iValid_yes x y HXY.out FX.out FY.out W hW)
      go_wp2_with fail
      have F1 := Lib.hid (hF.out.alloc hF.out.size (.cells #[.string (Sq x), .string (Sq y)] 48))
      have O1 := Lib.hid (hO.out.alloc (.cells #[.string (Sq x), .string (Sq y)] 48))
      refine (CV.out _ (HL.out _ F1.out)).mono ?_
      rintro e w1 ⟨rfl, hb⟩
      have V2 := Lib.hid ((iv_box wr (Sq x) (Sq y)).mono hb)
      have F2 := Lib.hid (fr_chain F1.out hb)
      have O2 := Lib.hid (own_below O1.out hb)
      clear hb c0 c1 F1 O1 CV
      obtain ⟨_, c0, c1⟩ := V2.out
      go_wp2_with (at_builtin; refine wpList_append_own _ rfl _ _ 57 rfl w0.heap.size 22 i0 (.string ⟨#[]⟩) 1 16 Tryz.underlying57 hi hz0 hz1 hz2 rfl (by decide) _ (2 * i) (hcells q (2 * i)) rfl (O2.out.alloc _) ⟨w1.heap.size, 0, none⟩ 2 2 [.string (Sq x), .string (Sq y)] rfl rfl (cells_two _ _ _ _) (by intro u hu; simp at hu; rcases hu with rfl | rfl <;> rfl) (by unfold maxLen; omega) (by omega) (by have := F2.out.size; simp; omega) ?_)
      intro v' w2 hown hgrow _
      rw [HNX.out] at hown
      have F3 := Lib.hid ((F2.out.alloc F2.out.size _).grown hgrow (by have := F2.out.size; simp; omega) (fun k hk => (O2.out.lt k hk).1))
      have O3 := Lib.hid hown
      clear hown hgrow
      go_wp2
      go_roundw
      case rel => exact ⟨i + 1, by omega, by go_num, O3, F3⟩
      case measure => simp [intOf]; omega
    · have hge : decide ((i : Int) < (n : Int)) = false := by rw [decide_eq_false_iff_not]; omega
      obtain rfl : i = n := by omega
      obtain ⟨g1, cap, rfl, hg1, hg2, hcap, hcs⟩ := own_read hO.out (by omega)
      have CE := Lib.hid (extremes_any g1 (2 * i) cap q (by omega) (by omega) hcap wr (HL.out _ hF.out) hg2 HQ.out (fun j hj => hcs j _ (hcells_get q hj)))
      clear hO hcs
      go_wp2_with fail
      refine CE.out.mono ?_
      rintro e w1 ⟨rfl, hb⟩
      have F1 := Lib.hid (fr_chain hF.out hb)
      clear hb
      obtain ⟨m0, m1, n0, n1⟩ := KR.out _ F1.out
      go_wp2
      refine bodyPost_ret (v := .tuple #[.agg #[.string (Sq (exOf q (2 * i - 1)).1), .string (Sq (exOf q (2 * i - 1)).2)], .int .i64 0]) (by simp [results, Tryz.results73, go_sem, m0, m1]) rfl ⟨rfl, ?_⟩
      exact ((KB.out _ F1.out).setCell (p := ⟨w.heap.size, 0, none⟩) (Nat.le_refl _) _).setCell (p := ⟨w.heap.size, 1, none⟩) (Nat.le_refl _) _

end Go.Proofs.YtlagimghlngdgaaGreatDoor
/- garboardlaw04.long: walks. -/
namespace Go.Proofs.YtlagimghlngdgaaGreatDoor
open Go.RowKit Go.Gb

theorem strs_cells2 (w : World) (a b : ByteArray) : (w.alloc (.cells #[.string a, .string b] 22)).cell? ⟨w.heap.size, 0, none⟩ = some (.string a) ∧ (w.alloc (.cells #[.string a, .string b] 22)).cell? ⟨w.heap.size, 1, none⟩ = some (.string b) := by
  refine ⟨?_, ?_⟩ <;> simp

theorem long2_no (g : Nat) (a b : ByteArray) (w : World) (ha : a.size ≤ 40) (hb : b.size ≤ 40) (hc : w.cell? ⟨g, 0, none⟩ = some (.string a) ∧ w.cell? ⟨g, 1, none⟩ = some (.string b)) :
    Calls Tryz.prog 77 #[.slice (some ⟨g, 0, none⟩) 2 2] w fun e w' => e = .returned (.bool false) ∧ w = w' := by
  obtain ⟨c0, c1⟩ := hc
  have ka : ¬ (40 : Int) < (a.size : Int) := by omega
  have kb : ¬ (40 : Int) < (b.size : Int) := by omega
  go_enter Tryz.func77, Tryz.ntmps77
  go_wp2
  refine wp_loop_rounds 3 ?_
  rw [rounds_succ]
  go_wp2
  rw [rounds_succ]
  go_wp2
  rw [rounds_succ]
  go_wp2
  go_ret
  exact ⟨rfl, rfl⟩

theorem long2_yes (g : Nat) (a b : ByteArray) (w : World) (hab : 40 < a.size ∨ 40 < b.size) (hc : w.cell? ⟨g, 0, none⟩ = some (.string a) ∧ w.cell? ⟨g, 1, none⟩ = some (.string b)) :
    Calls Tryz.prog 77 #[.slice (some ⟨g, 0, none⟩) 2 2] w fun e w' => e = .returned (.bool true) ∧ w = w' := by
  obtain ⟨c0, c1⟩ := hc
  by_cases ha : 40 < a.size
  · have ka : (40 : Int) < (a.size : Int) := by omega
    clear hab
    go_enter Tryz.func77, Tryz.ntmps77
    go_wp2
    refine wp_loop_rounds 3 ?_
    rw [rounds_succ]
    go_wp2
    go_ret
    exact ⟨rfl, rfl⟩
  · have ka : ¬ (40 : Int) < (a.size : Int) := by omega
    have kb : (40 : Int) < (b.size : Int) := by omega
    clear hab
    go_enter Tryz.func77, Tryz.ntmps77
    go_wp2
    refine wp_loop_rounds 3 ?_
    rw [rounds_succ]
    go_wp2
    rw [rounds_succ]
    go_wp2
    go_ret
    exact ⟨rfl, rfl⟩

end Go.Proofs.YtlagimghlngdgaaGreatDoor
