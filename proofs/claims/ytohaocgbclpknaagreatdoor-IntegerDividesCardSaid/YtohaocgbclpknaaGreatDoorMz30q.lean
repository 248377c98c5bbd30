/- Texts of this proof, one behind the other. -/
import Derived.Test.YtohaocgbclpknaaGreatDoorEh
import Derived.Test.YtohaocgbclpknaaGreatDoorMz10q
import Derived.Test.YtohaocgbclpknaaGreatDoorMz20q
/- words.Common of any two numbers: walks. -/
namespace Go.Proofs.YtohaocgbclpknaaGreatDoor
open Go.RowKit Go.Gb

theorem eu_start {B a b : Nat} {u1 u2 u3 u4 : Value} {P Q : Nat} {w : World} (hB : B ≤ w.heap.size) (o1 : Own .u64 82 B w u1 (digs a)) (o2 : Own .u64 82 B w u2 (digs b)) (o3 : Own .u64 82 B w u3 (digs P)) (o4 : Own .u64 82 B w u4 (digs Q))
    (a12 : Apt u1 u2) (a13 : Apt u1 u3) (a14 : Apt u1 u4) (a23 : Apt u2 u3) (a24 : Apt u2 u4) (a34 : Apt u3 u4) (n : Bool) :
    EuSt B (w.alloc (.cells #[u1, u2, u3, u4, .bool n] 105)) w.heap.size a b P Q n := by
  have hb := (Below.refl _ w).alloc (Nat.le_refl _) (.cells #[u1, u2, u3, u4, .bool n] 105)
  refine ⟨u1, u2, u3, u4, ?_, hB, ⟨o1.below hb, o2.below hb, o3.below hb, o4.below hb, a12, a13, a14, a23, a24, a34⟩⟩
  unfold Eb
  rw [heap_alloc_new]

end Go.Proofs.YtohaocgbclpknaaGreatDoor
/- words.Combine of any two numbers: walks. -/
namespace Go.Proofs.YtohaocgbclpknaaGreatDoor
open Go.RowKit Go.Gb

theorem cb_end {a b N P : Nat} {n : Bool} {Q : Nat} (h : CbI a b N (Nat.gcd a b) 0 P Q n) : (∃ k : Int, (if n then -(P : Int) else (P : Int)) * (a : Int) = (Nat.gcd a b : Int) + k * (b : Int)) ∧ (digs P).length ≤ (digs b).length + 1 := by
  obtain ⟨_, _, _, h4, h5, _⟩ := h
  exact ⟨h5, Nat.le_trans (digs_length_mono h4) (digs_len_succ b)⟩

set_option maxHeartbeats 2000000 in
set_option maxRecDepth 100000 in
theorem Combine_long (a b : Nat) (hl : 2 < (digs a).length ∨ 2 < (digs b).length) (hla : (digs a).length ≤ 60000) (hlb : (digs b).length ≤ 60000) : CombineOk a b := by
  intro v1 v2 w h1 h2
  have hlN : (digs (a + b)).length ≤ 80000 := by
    have := digs_add_len hla hlb
    omega
  have HI := Lib.hid (CbI.keeps (X := a) (Y := b) hlN (by omega))
  have HC1 := Lib.hid (Clone_any v1 (digs a) (by omega) w h1)
  have HC2 := Lib.hid (fun W (h : Rd .u64 W v2 (digs b)) => Clone_any v2 (digs b) (by omega) W h)
  have HR2 := Lib.hid h2
  by_cases hs : (digs a).length ≤ 2
  · have s1 := Lib.hid (isShort_yes v1 _ hs w h1)
    have s2 := Lib.hid (isShort_no v2 _ (by omega) (by omega) w h2)
    clear hl hla hlb h1 h2 hlN hs
    go_enter Tryz.func51, Tryz.ntmps51
    go_wp2_with fail
    refine s1.out.mono ?_
    rintro e w' ⟨rfl, rfl⟩
    go_wp2_with fail
    refine s2.out.mono ?_
    rintro e w' ⟨rfl, rfl⟩
    clear s1 s2
    go_wp2_with fail
    refine HC1.out.mono ?_
    rintro e w1 ⟨u1, rfl, ho1, hb1⟩
    obtain ⟨a1, c1, rfl⟩ := rd_form ho1.rd
    have HO1 := Lib.hid ho1
    have HB1 := Lib.hid hb1
    have HD2 := Lib.hid (HC2.out w1 (HR2.out.below hb1))
    clear ho1 hb1
    go_wp2_with fail
    refine HD2.out.mono ?_
    rintro e w2 ⟨u2, rfl, ho2, hb2⟩
    obtain ⟨a2, c2, rfl⟩ := rd_form ho2.rd
    have hB2 := HB1.out.trans (hb2.mono HB1.out.size)
    have hone := own_alloc_one w2 1 (by decide) BB_one
    have hbn := (Below.refl _ w2).alloc (Nat.le_refl _) (.cells #[.int .u64 ((1 : Nat) : Int)] 82)
    have o1' := (HO1.out.below hb2).below hbn
    have o2' := (ho2.mono HB1.out.size).below hbn
    have hsz : w.heap.size ≤ (w2.alloc (.cells #[.int .u64 ((1 : Nat) : Int)] 82)).heap.size := Nat.le_trans hB2.size hbn.size
    have hst := eu_start (n := false) hsz o1' o2' (u4 := .slice none 0 0) (Q := 0) (hone.mono hB2.size) (by rw [digs_zero]; exact Own.nil _ _ _ _)
      (own_fresh ho2 _ (fun g hg => (HO1.out.at hg).2)).symm (own_fresh hone _ (fun g hg => ((HO1.out.below hb2).at hg).2)).symm (Apt.nil_right _ _ _) (own_fresh hone _ (fun g hg => (ho2.at hg).2)).symm (Apt.nil_right _ _ _) (Apt.nil_right _ _ _)
    have hB3 := (hB2.alloc hB2.size (.cells #[.int .u64 ((1 : Nat) : Int)] 82)).alloc hsz (.cells #[.slice a1 (digs a).length c1, .slice a2 (digs b).length c2, .slice (some ⟨w2.heap.size, 0, none⟩) 1 1, .slice none 0 0, .bool false] 105)
    have HRun := Lib.hid (eRun _ HI.out w.heap.size (w2.alloc (.cells #[.int .u64 ((1 : Nat) : Int)] 82)).heap.size a b 1 0 false (CbI.start a b) _ hst hB3.size)
    rw [World.size_alloc] at HRun
    have HB3 := Lib.hid hB3
    clear ho2 hb2 hB2 hst hB3 HO1 HB1 HC1 HC2 HD2 HR2 hone hbn o1' o2' hsz
    go_wp2_with fail
    refine HRun.out.mono ?_
    rintro e w4 ⟨P', Q', n', rfl, hE, hI', hb4⟩
    have HB4 := Lib.hid (HB3.out.trans hb4)
    have HC := Lib.hid (cb_end hI'.out)
    obtain ⟨vf, vs, vp, vq, hEb, _, L⟩ := hE.out
    obtain ⟨c0, _, c2', _, c4⟩ := hEb.cells
    have HF := Lib.hid L.f
    have HP := Lib.hid L.p
    clear hE hEb L hb4 HRun hI'
    go_wp2
    go_quiet (fail)
    have HF' := Lib.hid (show Own .u64 82 w.heap.size (w4.drewN nq) vf (digs (Nat.gcd a b)) from HF.out)
    have HP' := Lib.hid (show Own .u64 82 w.heap.size (w4.drewN nq) vp (digs P') from HP.out)
    have HB5 := Lib.hid (below_drewN' HB4.out nq)
    go_wp2
    go_ret3
    exact ⟨vf, vp, P', n', rfl, HF'.out, HP'.out, HC.out.1, HC.out.2, HB5.out⟩
  · have s1 := Lib.hid (isShort_no v1 _ (by omega) (by omega) w h1)
    clear hl hla hlb h1 h2 hlN hs
    go_enter Tryz.func51, Tryz.ntmps51
    go_wp2_with fail
    refine s1.out.mono ?_
    rintro e w' ⟨rfl, rfl⟩
    clear s1
    go_wp2_with fail
    refine HC1.out.mono ?_
    rintro e w1 ⟨u1, rfl, ho1, hb1⟩
    obtain ⟨a1, c1, rfl⟩ := rd_form ho1.rd
    have HO1 := Lib.hid ho1
    have HB1 := Lib.hid hb1
    have HD2 := Lib.hid (HC2.out w1 (HR2.out.below hb1))
    clear ho1 hb1
    go_wp2_with fail
    refine HD2.out.mono ?_
    rintro e w2 ⟨u2, rfl, ho2, hb2⟩
    obtain ⟨a2, c2, rfl⟩ := rd_form ho2.rd
    have hB2 := HB1.out.trans (hb2.mono HB1.out.size)
    have hone := own_alloc_one w2 1 (by decide) BB_one
    have hbn := (Below.refl _ w2).alloc (Nat.le_refl _) (.cells #[.int .u64 ((1 : Nat) : Int)] 82)
    have o1' := (HO1.out.below hb2).below hbn
    have o2' := (ho2.mono HB1.out.size).below hbn
    have hsz : w.heap.size ≤ (w2.alloc (.cells #[.int .u64 ((1 : Nat) : Int)] 82)).heap.size := Nat.le_trans hB2.size hbn.size
    have hst := eu_start (n := false) hsz o1' o2' (u4 := .slice none 0 0) (Q := 0) (hone.mono hB2.size) (by rw [digs_zero]; exact Own.nil _ _ _ _)
      (own_fresh ho2 _ (fun g hg => (HO1.out.at hg).2)).symm (own_fresh hone _ (fun g hg => ((HO1.out.below hb2).at hg).2)).symm (Apt.nil_right _ _ _) (own_fresh hone _ (fun g hg => (ho2.at hg).2)).symm (Apt.nil_right _ _ _) (Apt.nil_right _ _ _)
    have hB3 := (hB2.alloc hB2.size (.cells #[.int .u64 ((1 : Nat) : Int)] 82)).alloc hsz (.cells #[.slice a1 (digs a).length c1, .slice a2 (digs b).length c2, .slice (some ⟨w2.heap.size, 0, none⟩) 1 1, .slice none 0 0, .bool false] 105)
    have HRun := Lib.hid (eRun _ HI.out w.heap.size (w2.alloc (.cells #[.int .u64 ((1 : Nat) : Int)] 82)).heap.size a b 1 0 false (CbI.start a b) _ hst hB3.size)
    rw [World.size_alloc] at HRun
    have HB3 := Lib.hid hB3
    clear ho2 hb2 hB2 hst hB3 HO1 HB1 HC1 HC2 HD2 HR2 hone hbn o1' o2' hsz
    go_wp2_with fail
    refine HRun.out.mono ?_
    rintro e w4 ⟨P', Q', n', rfl, hE, hI', hb4⟩
    have HB4 := Lib.hid (HB3.out.trans hb4)
    have HC := Lib.hid (cb_end hI'.out)
    obtain ⟨vf, vs, vp, vq, hEb, _, L⟩ := hE.out
    obtain ⟨c0, _, c2', _, c4⟩ := hEb.cells
    have HF := Lib.hid L.f
    have HP := Lib.hid L.p
    clear hE hEb L hb4 HRun hI'
    go_wp2
    go_quiet (fail)
    have HF' := Lib.hid (show Own .u64 82 w.heap.size (w4.drewN nq) vf (digs (Nat.gcd a b)) from HF.out)
    have HP' := Lib.hid (show Own .u64 82 w.heap.size (w4.drewN nq) vp (digs P') from HP.out)
    have HB5 := Lib.hid (below_drewN' HB4.out nq)
    go_wp2
    go_ret3
    exact ⟨vf, vp, P', n', rfl, HF'.out, HP'.out, HC.out.1, HC.out.2, HB5.out⟩

theorem Combine_any (a b : Nat) (hb : b ≠ 0) (hla : (digs a).length ≤ 60000) (hlb : (digs b).length ≤ 60000) : CombineOk a b := by
  by_cases h : (digs a).length ≤ 2 ∧ (digs b).length ≤ 2
  · exact Combine_short a b hb h.1 h.2
  · exact Combine_long a b (by omega) hla hlb

end Go.Proofs.YtohaocgbclpknaaGreatDoor
/- words.Combine with whatever its rounds keep; where the first number is 0: walks. -/
namespace Go.Proofs.YtohaocgbclpknaaGreatDoor
open Go.RowKit Go.Gb

set_option maxHeartbeats 2000000 in
set_option maxRecDepth 100000 in
theorem Combine_long_inv (I : Nat → Nat → Nat → Nat → Bool → Prop) (hI : Keeps I) (a b : Nat) (h0 : I a b 1 0 false) (hl : 2 < (digs a).length ∨ 2 < (digs b).length) (hla : (digs a).length ≤ 60000) (hlb : (digs b).length ≤ 60000)  (v1 v2 : Value) (w : World) (h1 : Rd .u64 w v1 (digs a)) (h2 : Rd .u64 w v2 (digs b)) :
    Calls Tryz.prog 51 #[v1, v2] w fun e w' => ∃ (u v : Value) (f Q : Nat) (neg : Bool), e = .returned (.tuple #[u, v, .bool neg]) ∧ Own .u64 82 w.heap.size w' u (digs (Nat.gcd a b)) ∧ Own .u64 82 w.heap.size w' v (digs f) ∧ Hid (I (Nat.gcd a b) 0 f Q neg) ∧ Below w.heap.size w w' := by
  have HI := Lib.hid hI
  have H0 := Lib.hid h0
  have HC1 := Lib.hid (Clone_any v1 (digs a) (by omega) w h1)
  have HC2 := Lib.hid (fun W (h : Rd .u64 W v2 (digs b)) => Clone_any v2 (digs b) (by omega) W h)
  have HR2 := Lib.hid h2
  by_cases hs : (digs a).length ≤ 2
  · have s1 := Lib.hid (isShort_yes v1 _ hs w h1)
    have s2 := Lib.hid (isShort_no v2 _ (by omega) (by omega) w h2)
    clear hl hla hlb h1 h2 hs hI h0
    go_enter Tryz.func51, Tryz.ntmps51
    go_wp2_with fail
    refine s1.out.mono ?_
    rintro e w' ⟨rfl, rfl⟩
    go_wp2_with fail
    refine s2.out.mono ?_
    rintro e w' ⟨rfl, rfl⟩
    clear s1 s2
    go_wp2_with fail
    refine HC1.out.mono ?_
    rintro e w1 ⟨u1, rfl, ho1, hb1⟩
    obtain ⟨a1, c1, rfl⟩ := rd_form ho1.rd
    have HO1 := Lib.hid ho1
    have HB1 := Lib.hid hb1
    have HD2 := Lib.hid (HC2.out w1 (HR2.out.below hb1))
    clear ho1 hb1
    go_wp2_with fail
    refine HD2.out.mono ?_
    rintro e w2 ⟨u2, rfl, ho2, hb2⟩
    obtain ⟨a2, c2, rfl⟩ := rd_form ho2.rd
    have hB2 := HB1.out.trans (hb2.mono HB1.out.size)
    have hone := own_alloc_one w2 1 (by decide) BB_one
    have hbn := (Below.refl _ w2).alloc (Nat.le_refl _) (.cells #[.int .u64 ((1 : Nat) : Int)] 82)
    have o1' := (HO1.out.below hb2).below hbn
    have o2' := (ho2.mono HB1.out.size).below hbn
    have hsz : w.heap.size ≤ (w2.alloc (.cells #[.int .u64 ((1 : Nat) : Int)] 82)).heap.size := Nat.le_trans hB2.size hbn.size
    have hst := eu_start (n := false) hsz o1' o2' (u4 := .slice none 0 0) (Q := 0) (hone.mono hB2.size) (by rw [digs_zero]; exact Own.nil _ _ _ _)
      (own_fresh ho2 _ (fun g hg => (HO1.out.at hg).2)).symm (own_fresh hone _ (fun g hg => ((HO1.out.below hb2).at hg).2)).symm (Apt.nil_right _ _ _) (own_fresh hone _ (fun g hg => (ho2.at hg).2)).symm (Apt.nil_right _ _ _) (Apt.nil_right _ _ _)
    have hB3 := (hB2.alloc hB2.size (.cells #[.int .u64 ((1 : Nat) : Int)] 82)).alloc hsz (.cells #[.slice a1 (digs a).length c1, .slice a2 (digs b).length c2, .slice (some ⟨w2.heap.size, 0, none⟩) 1 1, .slice none 0 0, .bool false] 105)
    have HRun := Lib.hid (eRun _ HI.out w.heap.size (w2.alloc (.cells #[.int .u64 ((1 : Nat) : Int)] 82)).heap.size a b 1 0 false H0.out _ hst hB3.size)
    rw [World.size_alloc] at HRun
    have HB3 := Lib.hid hB3
    clear ho2 hb2 hB2 hst hB3 HO1 HB1 HC1 HC2 HD2 HR2 hone hbn o1' o2' hsz
    go_wp2_with fail
    refine HRun.out.mono ?_
    rintro e w4 ⟨P', Q', n', rfl, hE, hI', hb4⟩
    have HB4 := Lib.hid (HB3.out.trans hb4)
    obtain ⟨vf, vs, vp, vq, hEb, _, L⟩ := hE.out
    obtain ⟨c0, _, c2', _, c4⟩ := hEb.cells
    have HF := Lib.hid L.f
    have HP := Lib.hid L.p
    clear hE hEb L hb4 HRun
    go_wp2
    go_quiet (fail)
    have HF' := Lib.hid (show Own .u64 82 w.heap.size (w4.drewN nq) vf (digs (Nat.gcd a b)) from HF.out)
    have HP' := Lib.hid (show Own .u64 82 w.heap.size (w4.drewN nq) vp (digs P') from HP.out)
    have HB5 := Lib.hid (below_drewN' HB4.out nq)
    go_wp2
    go_ret3
    exact ⟨vf, vp, P', Q', n', rfl, HF'.out, HP'.out, hI', HB5.out⟩
  · have s1 := Lib.hid (isShort_no v1 _ (by omega) (by omega) w h1)
    clear hl hla hlb h1 h2 hs hI h0
    go_enter Tryz.func51, Tryz.ntmps51
    go_wp2_with fail
    refine s1.out.mono ?_
    rintro e w' ⟨rfl, rfl⟩
    clear s1
    go_wp2_with fail
    refine HC1.out.mono ?_
    rintro e w1 ⟨u1, rfl, ho1, hb1⟩
    obtain ⟨a1, c1, rfl⟩ := rd_form ho1.rd
    have HO1 := Lib.hid ho1
    have HB1 := Lib.hid hb1
    have HD2 := Lib.hid (HC2.out w1 (HR2.out.below hb1))
    clear ho1 hb1
    go_wp2_with fail
    refine HD2.out.mono ?_
    rintro e w2 ⟨u2, rfl, ho2, hb2⟩
    obtain ⟨a2, c2, rfl⟩ := rd_form ho2.rd
    have hB2 := HB1.out.trans (hb2.mono HB1.out.size)
    have hone := own_alloc_one w2 1 (by decide) BB_one
    have hbn := (Below.refl _ w2).alloc (Nat.le_refl _) (.cells #[.int .u64 ((1 : Nat) : Int)] 82)
    have o1' := (HO1.out.below hb2).below hbn
    have o2' := (ho2.mono HB1.out.size).below hbn
    have hsz : w.heap.size ≤ (w2.alloc (.cells #[.int .u64 ((1 : Nat) : Int)] 82)).heap.size := Nat.le_trans hB2.size hbn.size
    have hst := eu_start (n := false) hsz o1' o2' (u4 := .slice none 0 0) (Q := 0) (hone.mono hB2.size) (by rw [digs_zero]; exact Own.nil _ _ _ _)
      (own_fresh ho2 _ (fun g hg => (HO1.out.at hg).2)).symm (own_fresh hone _ (fun g hg => ((HO1.out.below hb2).at hg).2)).symm (Apt.nil_right _ _ _) (own_fresh hone _ (fun g hg => (ho2.at hg).2)).symm (Apt.nil_right _ _ _) (Apt.nil_right _ _ _)
    have hB3 := (hB2.alloc hB2.size (.cells #[.int .u64 ((1 : Nat) : Int)] 82)).alloc hsz (.cells #[.slice a1 (digs a).length c1, .slice a2 (digs b).length c2, .slice (some ⟨w2.heap.size, 0, none⟩) 1 1, .slice none 0 0, .bool false] 105)
    have HRun := Lib.hid (eRun _ HI.out w.heap.size (w2.alloc (.cells #[.int .u64 ((1 : Nat) : Int)] 82)).heap.size a b 1 0 false H0.out _ hst hB3.size)
    rw [World.size_alloc] at HRun
    have HB3 := Lib.hid hB3
    clear ho2 hb2 hB2 hst hB3 HO1 HB1 HC1 HC2 HD2 HR2 hone hbn o1' o2' hsz
    go_wp2_with fail
    refine HRun.out.mono ?_
    rintro e w4 ⟨P', Q', n', rfl, hE, hI', hb4⟩
    have HB4 := Lib.hid (HB3.out.trans hb4)
    obtain ⟨vf, vs, vp, vq, hEb, _, L⟩ := hE.out
    obtain ⟨c0, _, c2', _, c4⟩ := hEb.cells
    have HF := Lib.hid L.f
    have HP := Lib.hid L.p
    clear hE hEb L hb4 HRun
    go_wp2
    go_quiet (fail)
    have HF' := Lib.hid (show Own .u64 82 w.heap.size (w4.drewN nq) vf (digs (Nat.gcd a b)) from HF.out)
    have HP' := Lib.hid (show Own .u64 82 w.heap.size (w4.drewN nq) vp (digs P') from HP.out)
    have HB5 := Lib.hid (below_drewN' HB4.out nq)
    go_wp2
    go_ret3
    exact ⟨vf, vp, P', Q', n', rfl, HF'.out, HP'.out, hI', HB5.out⟩

set_option maxHeartbeats 2000000 in
set_option maxRecDepth 100000 in
theorem Combine_short_inv (a b : Nat) (J : Nat → Nat → Nat → Nat → Nat → Nat → Bool → Prop) (j0 : J a b 1 0 0 1 false) (jstep : ∀ x y a' b' c' d' o, 0 < y → EuInv a b x y a' b' c' d' o → J x y a' b' c' d' o → J y (x % y) c' d' (a' + x / y * c') (b' + x / y * d') (!o))
    (ha : (digs a).length ≤ 2) (hb : (digs b).length ≤ 2) (hsmall : ∀ x a' b' c' d' o, EuInv a b x 0 a' b' c' d' o → J x 0 a' b' c' d' o → a' < 1000000000000000000) (v1 v2 : Value) (w : World) (h1 : Rd .u64 w v1 (digs a)) (h2 : Rd .u64 w v2 (digs b)) :
    Calls Tryz.prog 51 #[v1, v2] w fun e w' => ∃ (u v : Value) (f b' c' d' : Nat) (neg : Bool), e = .returned (.tuple #[u, v, .bool neg]) ∧ Own .u64 82 w.heap.size w' u (digs (Nat.gcd a b)) ∧ Own .u64 82 w.heap.size w' v (digs f) ∧ Hid (J (Nat.gcd a b) 0 f b' c' d' neg) ∧ Below w.heap.size w w' := by
  have s1 := Lib.hid (isShort_yes v1 _ ha w h1)
  have s2 := Lib.hid (isShort_yes v2 _ hb w h2)
  have t1 := Lib.hid (short_any v1 a ha w h1)
  have t2 := Lib.hid (short_any v2 b hb w h2)
  have hg : Nat.gcd a b < 1000000000000000000 := by
    rcases Nat.eq_zero_or_pos a with h | h
    · rw [h, Nat.gcd_zero_left]; exact lt_two hb
    · exact Nat.lt_of_le_of_lt (Nat.gcd_le_left b h) (lt_two ha)
  have hbl := lt_two hb
  have hs := Lib.hid (allSteps_inv a b (lt_two ha) hbl J j0 jstep)
  have hlo := Lib.hid (fun (n : Nat) (hn : n < 1000000000000000000) (W : World) => long_any n hn W)
  have HG := Lib.hid hg
  have HSM := Lib.hid hsmall
  clear h1 h2 ha hb hg hbl j0 jstep hsmall
  obtain ⟨g, hgd⟩ : ∃ g, g = Nat.gcd a b := ⟨_, rfl⟩
  rw [← hgd] at hs HG ⊢
  clear hgd
  go_enter Tryz.func51, Tryz.ntmps51
  go_wp2_with fail
  refine s1.out.mono ?_
  rintro e w' ⟨rfl, rfl⟩
  go_wp2_with fail
  refine s2.out.mono ?_
  rintro e w' ⟨rfl, rfl⟩
  go_wp2_with fail
  refine t1.out.mono ?_
  rintro e w' ⟨rfl, rfl⟩
  go_wp2_with fail
  refine t2.out.mono ?_
  rintro e w' ⟨rfl, rfl⟩
  go_wp2_with fail
  refine (hs.out _).mono ?_
  rintro e w1 ⟨sa, sb, sc, sd, so, rfl, hEI, hb1⟩
  have HJ := Lib.hid hEI.2
  have hsa := Lib.hid (show sa < 1000000000000000000 from HSM.out _ _ _ _ _ _ hEI.1 hEI.2)
  have HB1 := Lib.hid (hb1.alloc hb1.size (.cells #[.int .u64 (sa : Int), .int .u64 (sb : Int), .int .u64 (sc : Int), .int .u64 (sd : Int), .bool so] 98))
  clear hb1 s1 s2 t1 t2 hEI
  unfold Stp
  go_wp2
  go_region_with (first | (go_at_call 78; (with_reducible refine (hlo.out g HG.out _).mono ?_); rintro e w2 ⟨v, rfl, ho2, hb2⟩; obtain ⟨hc2, hf2⟩ := (⟨fun b o h => hb2.cell (p := ⟨b, o, none⟩) h, fun b o h => hb2.frozen (p := ⟨b, o, none⟩) h⟩ : (∀ b o, _ → _) ∧ (∀ b o, _ → _)); have hq2 : w1.heap.size < w2.heap.size := (by have := hb2.size; (try simp at this); omega)) | (go_at_call 78; (with_reducible refine (hlo.out sa hsa.out _).mono ?_); rintro e w3 ⟨u, rfl, ho3, hb3⟩; obtain ⟨hc3, hf3⟩ := (⟨fun b o h => hb3.cell (p := ⟨b, o, none⟩) h, fun b o h => hb3.frozen (p := ⟨b, o, none⟩) h⟩ : (∀ b o, _ → _) ∧ (∀ b o, _ → _)); have hq3 : w1.heap.size < w3.heap.size := (by have := hb3.size; omega)))
  all_goals
    have hb2' : Below w.heap.size w w2 := by
      first | exact HB1.out.trans (hb2.mono HB1.out.size) | exact HB1.out.drew.trans (hb2.mono HB1.out.drew.size)
    have hb3' : Below w.heap.size w w3 := hb2'.trans (hb3.mono hb2'.size)
    have hov : Own .u64 82 w.heap.size w3 v (digs g) := (ho2.below hb3).mono HB1.out.size
    have hou : Own .u64 82 w.heap.size w3 u (digs sa) := ho3.mono hb2'.size
    have HOV := Lib.hid hov
    have HOU := Lib.hid hou
    have HB3 := Lib.hid hb3'
    clear ho2 ho3 hb2 hb3 hov hou hb2' hb3' hc2 hf2 hc3 hf3
    go_wp2
    go_ret3
    exact ⟨v, u, sa, sb, sc, sd, so, rfl, HOV.out, HOU.out, HJ, HB3.out⟩

/-- The first number is 0. -/
def CzI (Y N F S P Q : Nat) (_ : Bool) : Prop := F + S ≤ N ∧ P ≤ 1 ∧ Q ≤ 1 ∧ ((F = 0 ∧ S = Y ∧ P = 1 ∧ Q = 0) ∨ (S = 0 ∧ P = 0))
theorem CzI.keeps {Y N : Nat} (hN : (digs N).length ≤ 80000) : Keeps (CzI Y N) := by
  refine ⟨?_, ?_, ?_⟩
  · rintro F S P Q n hS ⟨h1, h2, h3, h4⟩
    rcases h4 with ⟨rfl, rfl, rfl, rfl⟩ | ⟨h4, _⟩
    · rw [Nat.zero_mod, Nat.zero_div]
      exact ⟨by omega, by omega, by omega, Or.inr ⟨rfl, rfl⟩⟩
    · exact absurd h4 hS
  · rintro F S P Q n a b c d o f s hF hb hm hd hf hsf ⟨h1, h2, h3, h4⟩
    rcases h4 with ⟨h4, _⟩ | ⟨h4, _⟩
    · exact absurd h4 hF
    · exfalso
      obtain ⟨e1, e2⟩ := hm.back hd
      rcases hf with ⟨_, h0, _, _⟩ | ⟨g1, g2, g3, g4, g5⟩
      · exact hb h0
      · have hf0 : f ≠ 0 := by
          rintro rfl
          obtain rfl : s = 0 := by omega
          rw [Nat.mul_zero, Nat.mul_zero] at e1
          exact hF e1
        have : 1 * 1 ≤ c * f := Nat.mul_le_mul g3 (by omega)
        omega
  · rintro F S P Q n ⟨h1, h2, h3, _⟩
    have l1 := digs_length_mono (show F ≤ N by omega)
    have l2 := digs_length_mono (show S ≤ N by omega)
    have l3 := digs_length_mono h2
    have l4 := digs_length_mono h3
    rw [digs_one] at l3 l4
    simp at l3 l4
    omega

theorem Combine_zero (b : Nat) (hb : b ≠ 0) (hlb : (digs b).length ≤ 60000) (v1 v2 : Value) (w : World) (h1 : Rd .u64 w v1 (digs 0)) (h2 : Rd .u64 w v2 (digs b)) :
    Calls Tryz.prog 51 #[v1, v2] w fun e w' => ∃ (u v : Value) (f : Nat) (neg : Bool), e = .returned (.tuple #[u, v, .bool neg]) ∧ Own .u64 82 w.heap.size w' u (digs b) ∧ Own .u64 82 w.heap.size w' v (digs f) ∧ Hid (f = 0) ∧ Below w.heap.size w w' := by
  have h0l : (digs 0).length = 0 := by rw [digs_zero]; rfl
  by_cases hs : (digs b).length ≤ 2
  · refine (Combine_short_inv 0 b (fun x y a' _ c' _ _ => (x = 0 ∧ y = b ∧ c' = 0) ∨ (y = 0 ∧ a' = 0)) (Or.inl ⟨rfl, rfl, rfl⟩) ?_ (by omega) hs ?_ v1 v2 w h1 h2).mono ?_
    · rintro x y a' b' c' d' o hy _ (⟨rfl, rfl, rfl⟩ | ⟨h, _⟩)
      · exact Or.inr ⟨Nat.zero_mod _, rfl⟩
      · omega
    · rintro x a' b' c' d' o _ (⟨_, h, _⟩ | ⟨_, rfl⟩)
      · exact absurd h.symm hb
      · omega
    · rintro e w' ⟨u, v, f, b', c', d', neg, he, ho1, ho2, hJ, hB⟩
      rw [Nat.gcd_zero_left] at ho1 hJ
      refine ⟨u, v, f, neg, he, ho1, ho2, ?_, hB⟩
      rcases hJ.out with ⟨_, h, _⟩ | ⟨_, h⟩
      · exact absurd h.symm hb
      · exact h
  · refine (Combine_long_inv (CzI b b) (CzI.keeps (by omega)) 0 b ⟨by omega, by omega, by omega, Or.inl ⟨rfl, rfl, rfl, rfl⟩⟩ (Or.inr (by omega)) (by omega) hlb v1 v2 w h1 h2).mono ?_
    rintro e w' ⟨u, v, f, Q, neg, he, ho1, ho2, hJ, hB⟩
    rw [Nat.gcd_zero_left] at ho1 hJ
    refine ⟨u, v, f, neg, he, ho1, ho2, ?_, hB⟩
    rcases hJ.out.2.2.2 with ⟨h, _⟩ | ⟨_, h⟩
    · exact absurd h hb
    · exact h

end Go.Proofs.YtohaocgbclpknaaGreatDoor
