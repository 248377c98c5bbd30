/- Texts of this proof, one behind the other. -/
import Derived.Test.YtblccbnejcngaaaGreatDoorMrg
import Derived.Test.YtblccbnejcngaaaGreatDoorMrh
import Derived.Test.YtblccbnejcngaaaGreatDoorMra
import Derived.RegionTactic
import Derived.BigRegion
import Derived.Test.YtblccbnejcngaaaGreatDoorKe
/- garboardref01.To: walks. -/
namespace Go.Proofs.YtblccbnejcngaaaGreatDoor
open Go.RowKit Go.Gb

theorem val_intT {k : IntKind} {a b : Int} (h : a = b) : Value.int k a = .int k b := by rw [h]
theorem dig_cell {d : Nat} (h : d < 10) : Value.int .u8 (48 + (d : Int)) = .int .u8 ((UInt8.ofNat (48 + d)).toNat : Int) := by
  rw [dig_toNat h]; exact val_intT (by omega)
theorem row_snoc {W : World} {B : Nat} {v : Value} {bs : List UInt8} {d : Nat} (hd : d < 10) (h : W.ownsRow B 5 1 v (bs.length + 1) (Lib.byteCells bs ++ [.int .u8 (48 + (d : Int))])) : W.ownsRow B 5 1 v (bs ++ [UInt8.ofNat (48 + d)]).length (Lib.byteCells (bs ++ [UInt8.ofNat (48 + d)])) := by
  rw [dig_cell hd] at h
  rw [List.length_append, Lib.byteCells_append]
  exact h

set_option maxRecDepth 100000 in
set_option maxHeartbeats 4000000 in
theorem RTo_some (b o c : Nat) (xs : List Nat) (hx : ∀ x ∈ xs, x < BB) (hp : 0 < xs.length) (hlast : xs.getD (xs.length - 1) 0 ≠ 0) (hl : xs.length ≤ 10000) (w : World) (hb : b < w.heap.size)
    (hcx : ∀ i, i < xs.length → w.cell? ⟨b, o + i, none⟩ = some (.int .u32 ((xs.getD i 0 : Nat) : Int))) :
    Calls Tryz.prog 50 #[.slice (some ⟨b, o, none⟩) xs.length c] w fun e w' => e = .returned (.string ⟨(Lib.decDigits (wval xs)).toArray⟩) ∧ Below w.heap.size w w' := by
  obtain ⟨i0, hi, hz0, hz1, hz2⟩ := info_parts Tryz.info5
  have HX := Lib.hid hx
  have HCX := Lib.hid hcx
  have HLA := Lib.hid hlast
  have HO0 := Lib.hid (World.ownsRow_nil w w.heap.size 5 1)
  have d0 : ((xs.length : Int) == 0) = false := beq_eq_false_iff_ne.2 (by omega)
  have HP := Lib.hid hp
  clear hx hcx hlast hp
  go_enter Tryz.func50, Tryz.ntmps50
  go_wp2
  go_loopw [3, 4] (fun v ii wr => ∃ (i : Nat) (bs : List UInt8), i ≤ xs.length ∧ ii = .int .i64 i ∧ Hid (TOut xs bs i) ∧ Hid (wr.ownsRow w.heap.size 5 1 v bs.length (Lib.byteCells bs)) ∧ Hid (Below w.heap.size w wr)) (fun _ ii _ => xs.length - (intOf ii).toNat)
  case atStart => exact ⟨0, [], Nat.zero_le _, rfl, TOut.zero HP.out, HO0, Below.refl _ _⟩
  case round =>
    obtain ⟨i, bs, hi', rfl, hT, ho, hn⟩ := hrel
    by_cases hlt : i < xs.length
    · have hcell := (hn.out.cell (p := ⟨b, o + i, none⟩) hb).trans (HCX.out i hlt)
      have HS := Lib.hid (TIn.start hT.out hlt)
      have hq0 := (TIn.start hT.out hlt).lt hlt HX.out
      clear hT
      generalize xs.getD i 0 = x at *
      go_wp2
      obtain ⟨wo, rfl⟩ : ∃ wo : World, wo = wr := ⟨_, rfl⟩
      go_loopw [3, 5, 6] (fun v qq kk wr => ∃ (k q : Nat) (bs : List UInt8), k ≤ 9 ∧ q < 1000000000 ∧ kk = .int .i64 k ∧ qq = .int .u32 (q : Int) ∧ Hid (TIn xs bs i k q) ∧ Hid (wr.ownsRow w.heap.size 5 1 v bs.length (Lib.byteCells bs)) ∧ Hid (Below w.heap.size w wr)) (fun _ _ kk _ => 9 - (intOf kk).toNat)
      case atStart => exact ⟨0, x, bs, by omega, hq0, rfl, rfl, HS, ho, hn⟩
      case round =>
        clear HS ho hn hcell hq0
        obtain ⟨k, q, bs, hk9, hq9, rfl, rfl, hI, ho, hn⟩ := hrel
        have hbl : bs.length ≤ 90009 := by have := hI.out.len; omega
        have hq9' : (q : Int) ≤ 999999999 := by omega
        obtain ⟨d, hd⟩ : ∃ d : Nat, d = q % 10 := ⟨_, rfl⟩
        have hd10 : d < 10 := by omega
        have hmod : (q : Int) % 10 = (d : Int) := by omega
        have hd9 : (d : Int) ≤ 9 := by omega
        have w1 : IntKind.u8.wrap (48 + (d : Int)) = 48 + (d : Int) := by rw [IntKind.wrap_u8]; omega
        by_cases hg : k < 9 ∧ (i + 1 < xs.length ∨ 0 < q)
        · obtain ⟨hk, hg⟩ := hg
          have HST := Lib.hid (show TIn xs (bs ++ [UInt8.ofNat (48 + d)]) i (k + 1) (q / 10) by rw [hd]; exact hI.out.step hlt HX.out hk hg)
          have Hd := Lib.hid hd
          have Hd10 := Lib.hid hd10
          have k1 : (k : Int) < 9 := by omega
          clear hd hd10 hI
          by_cases hl2 : i + 1 < xs.length
          · have k2 : (i : Int) + 1 < (xs.length : Int) := by omega
            clear hg
            go_wp2_with (at_builtin; refine wpList_append_own _ rfl _ _ 95 rfl w.heap.size 5 i0 (.int .u8 0) 1 1 Tryz.underlying95 hi hz0 hz1 hz2 rfl (by decide) _ _ _ rfl (ho.out.alloc _) ⟨wr.heap.size, 0, none⟩ 1 1 [.int .u8 (48 + (d : Int))] rfl rfl (cells_one _ _ _) (by intro u hu; simp at hu; subst hu; rfl) (by unfold maxLen; omega) (by omega) (by have := hn.out.size; simp; omega) ?_)
            intro v' w1 hown' hgrow _
            have HO := Lib.hid (row_snoc Hd10.out hown')
            have HN := Lib.hid ((hn.out.alloc hn.out.size _).grown hgrow (by have := hn.out.size; simp; omega) (fun k hk => (ho.out.lt k hk).1))
            clear hown' hgrow
            go_wp2
            go_roundw
            case rel => exact ⟨k + 1, q / 10, _, by omega, by omega, by go_num, val_intT (by omega), HST, HO, HN⟩
            case measure => simp [intOf]; omega
          · have k2 : decide ((i : Int) + 1 < (xs.length : Int)) = false := decide_eq_false (by omega)
            have k3 : 0 < (q : Int) := by omega
            clear hg
            go_wp2_with (at_builtin; refine wpList_append_own _ rfl _ _ 95 rfl w.heap.size 5 i0 (.int .u8 0) 1 1 Tryz.underlying95 hi hz0 hz1 hz2 rfl (by decide) _ _ _ rfl (ho.out.alloc _) ⟨wr.heap.size, 0, none⟩ 1 1 [.int .u8 (48 + (d : Int))] rfl rfl (cells_one _ _ _) (by intro u hu; simp at hu; subst hu; rfl) (by unfold maxLen; omega) (by omega) (by have := hn.out.size; simp; omega) ?_)
            intro v' w1 hown' hgrow _
            have HO := Lib.hid (row_snoc Hd10.out hown')
            have HN := Lib.hid ((hn.out.alloc hn.out.size _).grown hgrow (by have := hn.out.size; simp; omega) (fun k hk => (ho.out.lt k hk).1))
            clear hown' hgrow
            go_wp2
            go_roundw
            case rel => exact ⟨k + 1, q / 10, _, by omega, by omega, by go_num, val_intT (by omega), HST, HO, HN⟩
            case measure => simp [intOf]; omega
        · have HD := Lib.hid (hI.out.done hlt HX.out HLA.out (by omega))
          clear hd hd10 hmod w1
          by_cases hk : k < 9
          · have k1 : (k : Int) < 9 := by omega
            have k2 : decide ((i : Int) + 1 < (xs.length : Int)) = false := decide_eq_false (by omega)
            have k3 : decide (0 < (q : Int)) = false := decide_eq_false (by omega)
            have k4 : decide (0 < q) = false := decide_eq_false (by omega)
            have k5 : ¬ 0 < q := by omega
            clear hg hI
            go_wp2
            go_roundw
            case rel => exact ⟨i + 1, bs, by omega, by go_num, HD, ho, hn⟩
            case measure => simp [intOf]; omega
          · have k1 : decide ((k : Int) < 9) = false := decide_eq_false (by omega)
            have k2 : ¬ (k : Int) < 9 := by omega
            clear hg hI
            go_wp2
            go_roundw
            case rel => exact ⟨i + 1, bs, by omega, by go_num, HD, ho, hn⟩
            case measure => simp [intOf]; omega
    · have hi2 : i = xs.length := by omega
      have hT' := hT.out
      have hbl := hT'.len HX.out
      rw [hi2] at hT'
      obtain ⟨hrev, hbp⟩ := hT'.done
      obtain ⟨g, cap, rfl, hg, hcm, hR⟩ := RowB.of_own ho.out hbp
      obtain ⟨n, hn0⟩ : ∃ n, n = bs.length := ⟨_, rfl⟩
      have HR0 := Lib.hid (show RowB wr g cap (swp bs 0) by rw [swp_zero]; exact hR)
      have Hg := Lib.hid hg
      have HREV := Lib.hid hrev
      rw [← hn0] at hbl hbp
      have Hn0 := Lib.hid hn0
      have k1 : decide ((i : Int) < (xs.length : Int)) = false := decide_eq_false (by omega)
      rw [← hn0]
      clear hT hT' hrev ho hR hg hi2 hn0 hcm
      go_wp2
      obtain ⟨wo, rfl⟩ : ∃ wo : World, wo = wr := ⟨_, rfl⟩
      go_loopw [7, 8] (fun ii kk wr => ∃ (i k : Nat), i + k + 1 = n ∧ ii = .int .i64 i ∧ kk = .int .i64 k ∧ Hid (RowB wr g cap (swp bs i)) ∧ Hid (Below w.heap.size w wr)) (fun ii _ _ => n - (intOf ii).toNat)
      case atStart => exact ⟨0, n - 1, by omega, rfl, val_intT (by omega), HR0, hn⟩
      case round =>
        clear HR0 hn
        obtain ⟨i, k, hik, rfl, rfl, hR, hn⟩ := hrel
        have hnl := Hn0.out
        by_cases hlk : i < k
        · have hkk : bs.length - 1 - i = k := by omega
          have hc1 := hR.out.cell (i := i) (by rw [swp_length]; omega)
          have hc2 := hR.out.cell (i := k) (by rw [swp_length]; omega)
          rw [swp_low bs i (by omega)] at hc1
          have hh := swp_high bs i (by omega)
          rw [hkk] at hh
          rw [hh] at hc2
          have hs := swp_succ bs i (by omega)
          rw [hkk] at hs
          have hf1 := hR.out.free i
          have hf2 := hR.out.free k
          obtain ⟨x, hx⟩ : ∃ x, x = bs.getD i 0 := ⟨_, rfl⟩
          obtain ⟨y, hy⟩ : ∃ y, y = bs.getD k 0 := ⟨_, rfl⟩
          rw [← hx] at hc1 hs
          rw [← hy] at hc2 hs
          have HSET := Lib.hid (show RowB (((wr.setCell ⟨g, i, none⟩ (.int .u8 (y.toNat : Int))).setCell ⟨g, k, none⟩ (.int .u8 (x.toNat : Int))).drew) g cap (swp bs (i + 1)) by
            have h1 := (hR.out.set i y).set k x
            rw [hs] at h1
            exact h1)
          have HB := Lib.hid (((hn.out.setCell (p := ⟨g, i, none⟩) Hg.out (.int .u8 (y.toNat : Int))).setCell (p := ⟨g, k, none⟩) Hg.out (.int .u8 (x.toNat : Int))).drew)
          have hne : ¬ i = k := by omega
          have j1 : (i : Int) < (k : Int) := by omega
          have j2 : (k : Int) < (n : Int) := by omega
          have hc3 : (wr.setCell ⟨g, i, none⟩ (.int .u8 (y.toNat : Int))).cell? ⟨g, k, none⟩ = some (.int .u8 (y.toNat : Int)) := (World.cell?_setCell_other _ _ _ _ (by intro e; injection e with e1 e2; exact hne e2)).trans hc2
          clear hx hy hs hh hkk hR hn hnl
          generalize x.toNat = a at *
          generalize y.toNat = b2 at *
          go_wp2
          go_region
          go_wp2
          go_roundw
          case rel => exact ⟨i + 1, k - 1, by omega, by go_num, val_intT (by omega), HSET, HB⟩
          case measure => simp [intOf]; omega
        · have hsd := swp_done bs i (by omega)
          have hR' := hR.out
          rw [hsd, HREV.out] at hR'
          have hdl : (Lib.decDigits (wval xs)).length = n := by rw [← HREV.out, List.length_reverse]; omega
          have hcv : (convert 95 9 (.slice (some ⟨g, 0, none⟩) n cap)).run Tryz.prog wr = .ok (.string ⟨(Lib.decDigits (wval xs)).toArray⟩) wr := by
            have h := run_convert_bytes_back (P := Tryz.prog) wr 95 9 5 ⟨g, 0, none⟩ cap (Lib.decDigits (wval xs)) Tryz.underlying95 Tryz.underlying5 Tryz.underlying9 (fun j hj => by
              have h1 := hR'.cell hj
              rw [Lib.add_plain, Nat.zero_add, h1]
              simp [List.getD, hj])
            rw [hdl] at h
            exact h
          have k2 : decide ((i : Int) < (k : Int)) = false := decide_eq_false (by omega)
          clear hsd hR hR' hdl hnl
          go_wp2
          go_ret
          exact ⟨rfl, hn.out⟩

end Go.Proofs.YtblccbnejcngaaaGreatDoor
/- garboardref01.Times of any numbers; what the guess of a word of garboardref01.Over keeps. -/
namespace Go.Gb
/-- A guess that is still tested, or is right. -/
def GJ (p2 p1 p0 v1 v0 g r : Nat) : Prop := (r < BB ∧ GI p2 p1 p0 v1 v0 g r) ∨ (BB ≤ r ∧ r < 2 * BB ∧ GOK p2 p1 p0 v1 v0 g)
theorem GJ.start {p2 p1 p0 v1 v0 : Nat} (hv1 : 500000000 ≤ v1) (hv1' : v1 < BB) (hp1 : p1 < BB) (hp0 : p0 < BB) (hp2 : p2 ≤ v1) : GJ p2 p1 p0 v1 v0 ((p2 * BB + p1) / v1) ((p2 * BB + p1) % v1) := by
  have h := GI.start (v0 := v0) hv1 hv1' hp1 hp0 hp2
  exact Or.inl ⟨h.2.2.1, h⟩
theorem GJ.bound {p2 p1 p0 v1 v0 g r : Nat} (h : GJ p2 p1 p0 v1 v0 g r) : g ≤ BB + 1 ∧ r < 2 * BB := by
  rcases h with ⟨h1, h2⟩ | ⟨h1, h2, h3⟩
  · exact ⟨h2.2.1, by have := BB_pos; omega⟩
  · exact ⟨by have := h3.1; omega, h2⟩
theorem GJ.great {p2 p1 p0 v1 v0 g r : Nat} (h : GJ p2 p1 p0 v1 v0 g r) (hr : BB ≤ r) : GOK p2 p1 p0 v1 v0 g := by
  rcases h with ⟨h1, h2⟩ | ⟨h1, h2, h3⟩
  · omega
  · exact h3
theorem GJ.fin {p2 p1 p0 v1 v0 g r : Nat} (h : GJ p2 p1 p0 v1 v0 g r) (hg : g < BB) (ht : g * v0 ≤ r * BB + p0) : GOK p2 p1 p0 v1 v0 g := by
  rcases h with ⟨h1, h2⟩ | ⟨h1, h2, h3⟩
  · exact h2.fin hg ht
  · exact h3
theorem GJ.less {p2 p1 p0 v1 v0 g r : Nat} (h : GJ p2 p1 p0 v1 v0 g r) (hv1 : v1 < BB) (hv0 : v0 < BB) (hp1 : p1 < BB) (hp2 : p2 ≤ v1) (hr : r < BB) (ht : BB ≤ g ∨ r * BB + p0 < g * v0) : 0 < g ∧ GJ p2 p1 p0 v1 v0 (g - 1) (r + v1) := by
  rcases h with ⟨h1, h2⟩ | ⟨h1, h2, h3⟩
  · have hgp : 0 < g := by
      rcases Nat.eq_zero_or_pos g with h0 | h0
      · rcases ht with ht | ht
        · have := BB_pos; omega
        · rw [h0, Nat.zero_mul] at ht; omega
      · exact h0
    have hne : ∀ q, q < BB → q * (v1 * BB + v0) ≤ (p2 * BB + p1) * BB + p0 → q ≠ g := by
      rcases ht with ht | ht
      · exact GI.big ht
      · exact h2.test ht
    refine ⟨hgp, ?_⟩
    by_cases hl : r + v1 < BB
    · exact Or.inl ⟨hl, h2.less hne hgp hl⟩
    · exact Or.inr ⟨by omega, by omega, h2.last hv0 hp1 hp2 hne hgp (by omega)⟩
  · omega
/-- The words behind a product, cut to one more than the number has. -/
theorem pad_take {m : Nat} {D : List Nat} (h1 : m ≤ D.length) (h2 : D.length ≤ m + 1) : (D ++ [0, 0]).take (m + 1) = D ++ List.replicate (m + 1 - D.length) 0 := by
  rw [List.take_append, List.take_of_length_le h2]
  congr 1
  rcases Nat.lt_or_ge D.length (m + 1) with h | h
  · rw [show m + 1 - D.length = 1 by omega]; rfl
  · rw [show m + 1 - D.length = 0 by omega]; rfl
end Go.Gb
namespace Go.Proofs.YtblccbnejcngaaaGreatDoor
open Go.RowKit Go.Gb

set_option maxRecDepth 100000 in
theorem RTimes_any (v1 v2 : Value) (a b : Nat) (hla : (digs a).length ≤ 100000) (hlb : (digs b).length ≤ 100000) (w : World) (h1 : Rd .u32 w v1 (digs a)) (h2 : Rd .u32 w v2 (digs b)) :
    Calls Tryz.prog 60 #[v1, v2] w fun e w' => ∃ v, e = .returned v ∧ Own .u32 74 w.heap.size w' v (digs (a * b)) ∧ Below w.heap.size w w' := by
  by_cases ha : a = 0
  · subst ha
    rw [Nat.zero_mul, digs_zero]
    rw [digs_zero] at h1
    obtain ⟨p1, c1, rfl⟩ := rd_form h1
    obtain ⟨p2, c2, rfl⟩ := rd_form h2
    clear h1 h2
    simp only [List.length_nil]
    go_enter Tryz.func60, Tryz.ntmps60
    go_wp2
    go_ret
    exact ⟨_, rfl, Own.nil _ _ _ _, Below.refl _ _⟩
  · by_cases hb : b = 0
    · subst hb
      rw [Nat.mul_zero, digs_zero]
      rw [digs_zero] at h2
      obtain ⟨p1, c1, rfl⟩ := rd_form h1
      obtain ⟨p2, c2, rfl⟩ := rd_form h2
      have hp : 0 < (digs a).length := List.length_pos_iff.2 (by rw [digs_pos ha]; simp)
      have d1 : (((digs a).length : Int) == 0) = false := beq_eq_false_iff_ne.2 (by omega)
      clear h1 h2 ha
      simp only [List.length_nil]
      generalize (digs a).length = n at *
      go_enter Tryz.func60, Tryz.ntmps60
      go_wp2
      go_ret
      exact ⟨_, rfl, Own.nil _ _ _ _, Below.refl _ _⟩
    · have hpa : 0 < (digs a).length := List.length_pos_iff.2 (by rw [digs_pos ha]; simp)
      have hpb : 0 < (digs b).length := List.length_pos_iff.2 (by rw [digs_pos hb]; simp)
      obtain ⟨b1, o1, c1, rfl, _, _, k1, r1⟩ := rd_pos h1 hpa
      obtain ⟨b2, o2, c2, rfl, _, _, k2, r2⟩ := rd_pos h2 hpb
      have h := RTimes_some b1 o1 c1 b2 o2 c2 (digs a) (digs b) hpa hpb hla hlb (digs_lt a) (digs_lt b) w k1 k2 r1 r2
      rw [wval_digs, wval_digs] at h
      exact h

theorem cells_two (w : World) (u v : Value) (T : TypeId) : ∀ j x, [u, v][j]? = some x → (w.alloc (.cells #[u, v] T)).cell? ((⟨w.heap.size, 0, none⟩ : Addr).add j) = some x := by
  intro j x hj
  match j, hj with
  | 0, hj => simp at hj; subst hj; simp [Addr.add]
  | 1, hj => simp at hj; subst hj; simp [Addr.add]

set_option maxRecDepth 100000 in
theorem ROver_less (v1 v2 : Value) (a b : Nat) (hab : a < b) (hl : (digs a).length ≤ 100000) (w : World) (h1 : Rd .u32 w v1 (digs a)) (h2 : Rd .u32 w v2 (digs b)) :
    Calls Tryz.prog 46 #[v1, v2] w fun e w' => ∃ q r, e = .returned (.tuple #[q, r]) ∧ Rd .u32 w' q (digs (a / b)) ∧ Rd .u32 w' r (digs (a % b)) ∧ Below w.heap.size w w' := by
  have hc := RCmp_any v1 v2 a b (by omega) w h1 h2
  rw [cmpN_lt hab] at hc
  have HC := Lib.hid hc
  have H1 := Lib.hid h1
  rw [Nat.div_eq_of_lt hab, Nat.mod_eq_of_lt hab, digs_zero]
  clear hc h1 h2
  go_enter Tryz.func46, Tryz.ntmps46
  go_wp2_with fail
  refine HC.out.mono ?_
  rintro e w1 ⟨rfl, hb1⟩
  have HB1 := Lib.hid hb1
  clear hb1
  go_wp2
  go_ret2
  exact ⟨_, v1, rfl, Or.inl ⟨rfl, rfl⟩, H1.out.below HB1.out, HB1.out⟩

set_option maxRecDepth 100000 in
theorem ROver_word (v1 v2 : Value) (a b : Nat) (hab : b ≤ a) (hlb : (digs b).length = 1) (hl : (digs a).length ≤ 100000) (w : World) (h1 : Rd .u32 w v1 (digs a)) (h2 : Rd .u32 w v2 (digs b)) :
    Calls Tryz.prog 46 #[v1, v2] w fun e w' => ∃ q r, e = .returned (.tuple #[q, r]) ∧ Rd .u32 w' q (digs (a / b)) ∧ Rd .u32 w' r (digs (a % b)) ∧ Below w.heap.size w w' := by
  have hc := RCmp_any v1 v2 a b (by omega) w h1 h2
  have hcc : (0 : Int) ≤ cmpN a b := by unfold cmpN; split <;> (try split) <;> omega
  have hb0 : b ≠ 0 := by intro h; rw [h, digs_zero] at hlb; simp at hlb
  have hbB : b < BB := by have := lt_pow_digs b; rw [hlb, Nat.pow_one] at this; exact this
  obtain ⟨b2, o2, c2, rfl, _, _, k2, r2⟩ := rd_pos h2 (by omega)
  have hcb := r2 0 (by omega)
  have hd : (digs b).getD 0 0 = b := by rw [digs_pos hb0, List.getD_cons_zero, Nat.mod_eq_of_lt hbB]
  rw [hd, Nat.add_zero] at hcb
  rw [hlb] at hc ⊢
  obtain ⟨m, hm⟩ : ∃ m, m = a % b := ⟨_, rfl⟩
  rw [← hm]
  have HMM := Lib.hid hm
  clear hm
  generalize cmpN a b = cc at *
  have HC := Lib.hid hc
  have H1 := Lib.hid h1
  have HCB := Lib.hid hcb
  have Hb0 := Lib.hid hb0
  have HbB := Lib.hid hbB
  have k3 : (b : Int) ≤ 999999999 := by rw [BB_eq] at hbB; omega
  clear hc h1 h2 r2 hd hlb hcb hb0 hbB hab
  go_enter Tryz.func46, Tryz.ntmps46
  go_wp2_with fail
  refine HC.out.mono ?_
  rintro e w1 ⟨rfl, hb1⟩
  have HB1 := Lib.hid hb1
  have hcb1 := (hb1.cell (p := ⟨b2, o2, none⟩) k2).trans HCB.out
  have hs := Rsmall_any v1 a b (by have := Hb0.out; omega) HbB.out hl w1 (H1.out.below hb1)
  rw [← HMM.out] at hs
  have HS := Lib.hid hs
  clear hs
  clear hb1
  go_wp2_with fail
  refine HS.out.mono ?_
  rintro e w2 ⟨q, rfl, hq, hb2⟩
  have HB2 := Lib.hid (HB1.out.trans (hb2.mono HB1.out.size))
  have HQ := Lib.hid hq
  have HM := Lib.hid (RSmall1 m (by have h9 := HbB.out; rw [BB_eq] at h9; have := Nat.mod_lt a (show 0 < b by have := Hb0.out; omega); have := HMM.out; omega) w2)
  clear hb2 hq hcb1
  go_wp2_with fail
  refine HM.out.mono ?_
  rintro e w3 ⟨r, rfl, hr, hb3⟩
  have HB3 := Lib.hid (HB2.out.trans (hb3.mono HB2.out.size))
  have HR := Lib.hid hr.rd
  have HQ3 := Lib.hid ((HQ.out.below hb3).rd)
  clear hb3 hr
  go_wp2
  go_ret2
  exact ⟨q, r, rfl, HQ3.out, HR.out, HB3.out⟩

end Go.Proofs.YtblccbnejcngaaaGreatDoor
