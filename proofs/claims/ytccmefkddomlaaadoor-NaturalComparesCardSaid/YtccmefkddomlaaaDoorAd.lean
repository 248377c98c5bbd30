/- natural.add where nothing is carried out of the highest word, whatever order its last statement is evaluated in: walks. -/
import Derived.Test.YtccmefkddomlaaaDoorNf
import Derived.Deep.RegionLaw
namespace Go.Proofs.YtccmefkddomlaaaDoor
open Go.RowKit Go.Gb

theorem arith_sum {a b c : Nat} {os : List Nat} (hs : SumInv (digs a) (digs b) os (digs a).length c) (hl : (digs b).length ≤ (digs a).length) (hlt : a + b < BB ^ (digs a).length) : c = 0 ∧ wval (os ++ [0]) = a + b ∧ ∀ x ∈ os ++ [0], x < BB := by
  obtain ⟨h1, h2⟩ := hs.done hl
  rw [wval_digs, wval_digs] at h1
  have hc : c = 0 := by
    rcases Nat.eq_zero_or_pos c with h | h
    · exact h
    · rw [wval_snoc, hs.1] at h1
      have : BB ^ (digs a).length * 1 ≤ BB ^ (digs a).length * c := Nat.mul_le_mul_left _ h
      omega
  subst hc
  exact ⟨rfl, h1, h2⟩

theorem one_cell : ∀ u ∈ [Value.int .u64 0], u.oneCell' = true := by intro u hu; simp at hu; subst hu; rfl
theorem spare_of {w : World} {g n : Nat} {os : List Nat} (h : Blk w g (os ++ [0])) (hn : os.length = n) : ∀ j, j < [Value.int .u64 0].length → (w.cell? ⟨g, 0 + n * 1 + j, none⟩).isSome = true ∧ w.frozen? ⟨g, 0 + n * 1 + j, none⟩ = false := by
  intro j hj
  obtain rfl : j = 0 := by simpa using hj
  have h1 := h.cell (i := n) (by simp [hn])
  have h2 := h.free n
  rw [show 0 + n * 1 + 0 = n by omega, h1]
  exact ⟨rfl, h2⟩

theorem below_put {B : Nat} {a w : World} (h : Below B a w) {g : Nat} (hg : B ≤ g) (n : Nat) (v : Value) : Below B a (w.setCells g n [v]) := h.setCell (p := ⟨g, n, none⟩) hg v
theorem trim_put (W : World) (B g n s : Nat) (os : List Nat) (h : Blk W g (os ++ [0])) (hn : os.length = n) (hB : B ≤ g) (hx : ∀ x ∈ os ++ [0], x < BB) (hv : wval (os ++ [0]) = s) (hl : n ≤ 10000) :
    Calls Tryd.prog 43 #[.slice (some ⟨g, 0, none⟩) (n + 1) (n + 1)] (W.setCells g n [.int .u64 0]) fun e w' => ∃ v, e = .returned v ∧ Own .u64 46 B w' v (digs s) ∧ (W.setCells g n [.int .u64 0]) = w' := by
  have h1 : Blk (W.setCells g n [.int .u64 0]) g (os ++ [0]) := by
    have h2 := h.set n 0
    have e : (os ++ [0]).set n 0 = os ++ [0] := by subst hn; simp
    rw [e] at h2
    exact h2
  have ho := h1.own hB (by unfold maxLen; simp; omega) (n + 1) (by simp [hn])
  rw [List.take_of_length_le (by simp [hn])] at ho
  have ht := Trim_own 46 B _ _ hx _ ho
  rw [hv] at ht
  have e2 : (os ++ [0]).length = n + 1 := by simp [hn]
  rw [e2] at ht
  exact ht.mono fun e w' ⟨v, h1, h2, h3⟩ => ⟨v, h1, by rw [← h3]; exact h2, h3⟩
theorem xcell {W w1 : World} {g T : Nat} (hb : W.heap[g + 1]? = some (.cells #[.int .u64 0] T (0, 0))) (hk : ∀ k, k < W.heap.size → k ≠ g → w1.heap[k]? = W.heap[k]?) : ∀ j u, [Value.int .u64 0][j]? = some u → w1.cell? ((⟨g + 1, 0, none⟩ : Addr).add j) = some u := by
  intro j u hj
  have h1 := hk (g + 1) (Array.getElem?_eq_some_iff.1 hb).1 (by omega)
  match j, hj with
  | 0, hj => simp at hj; subst hj; simp [Addr.add, World.cell?, h1, hb]

set_option maxHeartbeats 2000000 in
set_option maxRecDepth 100000 in
theorem add_small (a b : Nat) (ha : a ≠ 0) (hlb : (digs b).length ≤ (digs a).length) (hl : (digs a).length ≤ 10000) (hlt : a + b < BB ^ (digs a).length) : AddOk a b := by
  intro v1 v2 w h1 h2
  obtain ⟨i0, hi, hz0, hz1, hz2⟩ := info_parts Tryd.info46
  obtain ⟨b1, o1, c1, rfl, _, _, k1, r1⟩ := rd_pos h1 (List.length_pos_iff.2 (by rw [digs_pos ha]; simp))
  obtain ⟨a2, c2, hv2⟩ := rd_form h2
  -- join, in whatever later world
  have hj : ∀ (W : World) (G : Nat), W.heap.size = G → Below (w.heap.size + 1) (w.alloc (.cells #[.int .u64 0] 67)) W → Calls Tryd.prog 44 #[.slice (some ⟨b1, o1, none⟩) (digs a).length c1, .slice a2 (digs b).length c2, .func (.func 45) #[.pointer (some ⟨w.heap.size, 0, none⟩)] #[]] W fun e w' =>
      e = .returned (.slice (some ⟨G, 0, none⟩) (digs a).length ((digs a).length + 1)) ∧ ∃ (os : List Nat), wval (os ++ [0]) = a + b ∧ (∀ x ∈ os ++ [0], x < BB) ∧ os.length = (digs a).length ∧ Blk w' G (os ++ [0]) ∧ Car w' w.heap.size 0 ∧ Below w.heap.size W w' ∧ (∀ k, k < W.heap.size → k ≠ w.heap.size → w'.heap[k]? = W.heap[k]?) := by
    intro W G hG hW
    subst hG
    have hsz := hW.size
    rw [World.size_alloc] at hsz
    have hcar : Car W w.heap.size 0 := by
      unfold Car
      rw [hW.block _ (by omega)]
      exact car_alloc w
    have hbb : Below w.heap.size w W := ((Below.refl w.heap.size w).alloc (Nat.le_refl _) _).trans (hW.mono (by omega))
    have hcx : ∀ i, i < (digs a).length → W.cell? ⟨b1, o1 + i, none⟩ = some (.int .u64 (((digs a).getD i 0 : Nat) : Int)) := fun i hi => (hbb.cell (p := ⟨b1, o1 + i, none⟩) k1).trans (r1 i hi)
    have fin : ∀ (e : Ending) (w' : World), (e = .returned (.slice (some ⟨W.heap.size, 0, none⟩) (digs a).length ((digs a).length + 1)) ∧ ∃ (os : List Nat) (c : Nat), SumInv (digs a) (digs b) os (digs a).length c ∧ Blk w' W.heap.size (os ++ [0]) ∧ Car w' w.heap.size c ∧ W.grownBy w' (some w.heap.size)) →
        e = .returned (.slice (some ⟨W.heap.size, 0, none⟩) (digs a).length ((digs a).length + 1)) ∧ ∃ (os : List Nat), wval (os ++ [0]) = a + b ∧ (∀ x ∈ os ++ [0], x < BB) ∧ os.length = (digs a).length ∧ Blk w' W.heap.size (os ++ [0]) ∧ Car w' w.heap.size 0 ∧ Below w.heap.size W w' ∧ (∀ k, k < W.heap.size → k ≠ w.heap.size → w'.heap[k]? = W.heap[k]?) := by
      rintro e w' ⟨he, os, c, hs, hb, hc, hg⟩
      obtain ⟨rfl, g1, g2⟩ := arith_sum hs hlb hlt
      exact ⟨he, os, g1, g2, hs.1, hb, hc, (Below.refl _ _).grown hg (by omega) (fun k hk => by cases hk; exact Nat.le_refl _), fun k hk hne => hg.block k hk (fun e => hne (Option.some.inj e))⟩
    rcases h2 with ⟨hv, hn⟩ | ⟨b2, o2, c2', hv, _, _, k2, r2⟩
    · rw [hv2] at hv
      injection hv with e1 e2 e3
      subst e1 e3
      exact (join_plus_nil SumInv w.heap.size b1 o1 c1 none 0 (digs a) (digs b) (by omega) W (plus_ok _ _ _ (digs_lt a) (digs_lt b)) (SumInv.start _ _) (fun os i c h => h.1) hcar (by omega) (by omega) hcx (by omega)).mono fin
    · rw [hv2] at hv
      injection hv with e1 e2 e3
      subst e1 e3
      exact (join_plus_some SumInv w.heap.size b1 o1 c1 b2 o2 c2 (digs a) (digs b) (by omega) W (plus_ok _ _ _ (digs_lt a) (digs_lt b)) (SumInv.start _ _) (fun os i c h => h.1) hcar (by omega) (by omega) hcx (by omega) (by omega) (fun i hi => (hbb.cell (p := ⟨b2, o2 + i, none⟩) k2).trans (r2 i hi))).mono fin
  subst hv2
  have HJ := Lib.hid hj
  have Hl := Lib.hid hl
  have hlen : ¬ (digs a).length < (digs b).length := by omega
  have hc0 : (w.alloc (.cells #[.int .u64 0] 67)).cell? ⟨w.heap.size, 0, none⟩ = some (.int .u64 0) := cell_of_one (car_alloc w)
  have HP := Lib.hid (Below.drew (Below.refl (w.heap.size + 1) (w.alloc (.cells #[.int .u64 0] 67))))
  have HQ := Lib.hid (Below.drew (Below.alloc (Below.refl (w.heap.size + 1) (w.alloc (.cells #[.int .u64 0] 67))) (by simp) (.cells #[.int .u64 0] 46)))
  have HPs := Lib.hid (show ((w.alloc (.cells #[.int .u64 0] 67)).drew).heap.size = w.heap.size + 1 by simp)
  have HQs := Lib.hid (show (((w.alloc (.cells #[.int .u64 0] 67)).alloc (.cells #[.int .u64 0] 46)).drew).heap.size = w.heap.size + 1 + 1 by simp)
  have HQb := Lib.hid (show (((w.alloc (.cells #[.int .u64 0] 67)).alloc (.cells #[.int .u64 0] 46)).drew).heap[w.heap.size + 1]? = some (.cells #[.int .u64 0] 46 (0, 0)) by
    have := heap_alloc_new (w.alloc (.cells #[.int .u64 0] 67)) (.cells #[.int .u64 0] 46)
    rw [World.size_alloc] at this
    exact this)
  have HB0P := Lib.hid (Below.drew (Below.alloc (Below.refl w.heap.size w) (Nat.le_refl _) (.cells #[.int .u64 0] 67)))
  have HB0Q := Lib.hid (Below.drew (Below.alloc (Below.alloc (Below.refl w.heap.size w) (Nat.le_refl _) (.cells #[.int .u64 0] 67)) (by simp) (.cells #[.int .u64 0] 46)))
  clear hj h1 h2 r1 ha hlb hlt hl
  generalize a + b = s at *
  generalize (digs a).length = n at *
  generalize (digs b).length = m at *
  go_enter Tryd.func29, Tryd.ntmps29
  go_wp2
  go_region_law (first
    | (refine step_append_room rfl (.tmp 16) (.tmp 19) 49 rfl 46 i0 1 Tryd.underlying49 hi hz1 (w.heap.size + 1) 0 n (n + 1) (by simp [Act.eval]) ⟨w1.heap.size, 0, none⟩ 1 1 [.int .u64 0] (by simp [Act.eval]) rfl (cells_one w1 _ _) one_cell (Nat.le_refl _) (spare_of (HBK.out.below (Below.alloc (Below.refl _ _) (Nat.le_refl _) _)) HLN.out) ?_)
    | (refine step_append_room rfl (.tmp 16) (.tmp 19) 49 rfl 46 i0 1 Tryd.underlying49 hi hz1 (w.heap.size + 1 + 1) 0 n (n + 1) (by simp [Act.eval]) ⟨w.heap.size + 1, 0, none⟩ 1 1 [.int .u64 0] (by simp [Act.eval]) rfl HXC.out one_cell (Nat.le_refl _) (spare_of HBK.out HLN.out) ?_)
    | (go_simp; go_at_call 44; (with_reducible refine (HJ.out _ (w.heap.size + 1) HPs.out HP.out).mono ?_); rintro e w1 ⟨rfl, os, g1, g2, g3, hblk, hcar, hbw, hkeep⟩; have HBK := Lib.hid hblk; have HLN := Lib.hid g3; have HG1 := Lib.hid g1; have HG2 := Lib.hid g2; have HBW := Lib.hid hbw; have HKP := Lib.hid hkeep; have hc1 := cell_of_one hcar; clear hblk g1 g2 g3 hcar hbw hkeep)
    | (go_simp; go_at_call 44; (with_reducible refine (HJ.out _ (w.heap.size + 1 + 1) HQs.out HQ.out).mono ?_); rintro e w1 ⟨rfl, os, g1, g2, g3, hblk, hcar, hbw, hkeep⟩; have HBK := Lib.hid hblk; have HLN := Lib.hid g3; have HG1 := Lib.hid g1; have HG2 := Lib.hid g2; have HBW := Lib.hid hbw; have HKP := Lib.hid hkeep; have hc1 := cell_of_one hcar; clear hblk g1 g2 g3 hcar hbw hkeep; have HXC := Lib.hid (xcell HQb.out HKP.out))
    | (go_simp; go_at_call 43; (with_reducible refine (trim_put (w1.alloc (.cells #[.int .u64 0] 46)) w.heap.size (w.heap.size + 1) n s os (HBK.out.below (Below.alloc (Below.refl _ _) (Nat.le_refl _) _)) HLN.out (Nat.le_succ _) HG2.out HG1.out Hl.out).mono ?_); rintro e w2 ⟨v, rfl, hown, rfl⟩; have HB2 := Lib.hid (below_put (Below.alloc (HB0P.out.trans HBW.out) (Below.size (HB0P.out.trans HBW.out)) (.cells #[.int .u64 0] 46)) (Nat.le_succ w.heap.size) n (.int .u64 0)))
    | (go_simp; go_at_call 43; (with_reducible refine (trim_put w1 w.heap.size (w.heap.size + 1 + 1) n s os HBK.out HLN.out (by omega) HG2.out HG1.out Hl.out).mono ?_); rintro e w2 ⟨v, rfl, hown, rfl⟩; have HB2 := Lib.hid (below_put (HB0Q.out.trans HBW.out) (show w.heap.size ≤ w.heap.size + 1 + 1 by omega) n (.int .u64 0))))
  all_goals
    go_wp2
    go_ret
    exact ⟨v, rfl, hown, HB2.out⟩

end Go.Proofs.YtccmefkddomlaaaDoor
