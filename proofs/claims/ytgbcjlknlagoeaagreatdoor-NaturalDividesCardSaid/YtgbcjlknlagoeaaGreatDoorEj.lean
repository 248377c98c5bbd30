/- words.Common of any two numbers: walks. -/
import Derived.Test.YtgbcjlknlagoeaaGreatDoorEh
import Derived.Test.YtgbcjlknlagoeaaGreatDoorMne
namespace Go.Proofs.YtgbcjlknlagoeaaGreatDoor
open Go.RowKit Go.Gb

theorem eu_start {B a b : Nat} {u1 u2 u3 u4 : Value} {P Q : Nat} {w : World} (hB : B ≤ w.heap.size) (o1 : Own .u64 42 B w u1 (digs a)) (o2 : Own .u64 42 B w u2 (digs b)) (o3 : Own .u64 42 B w u3 (digs P)) (o4 : Own .u64 42 B w u4 (digs Q))
    (a12 : Apt u1 u2) (a13 : Apt u1 u3) (a14 : Apt u1 u4) (a23 : Apt u2 u3) (a24 : Apt u2 u4) (a34 : Apt u3 u4) (n : Bool) :
    EuSt B (w.alloc (.cells #[u1, u2, u3, u4, .bool n] 123)) w.heap.size a b P Q n := by
  have hb := (Below.refl _ w).alloc (Nat.le_refl _) (.cells #[u1, u2, u3, u4, .bool n] 123)
  refine ⟨u1, u2, u3, u4, ?_, hB, ⟨o1.below hb, o2.below hb, o3.below hb, o4.below hb, a12, a13, a14, a23, a24, a34⟩⟩
  unfold Eb
  rw [heap_alloc_new]

set_option maxHeartbeats 2000000 in
set_option maxRecDepth 100000 in
theorem Common_long (v1 v2 : Value) (a b : Nat) (hl : 2 < (digs a).length ∨ 2 < (digs b).length) (hla : (digs a).length ≤ 70000) (hlb : (digs b).length ≤ 70000) (w : World) (h1 : Rd .u64 w v1 (digs a)) (h2 : Rd .u64 w v2 (digs b)) :
    Calls Tryz.prog 67 #[v1, v2] w fun e w' => ∃ v, e = .returned v ∧ Own .u64 42 w.heap.size w' v (digs (Nat.gcd a b)) ∧ Below w.heap.size w w' := by
  have hlN : (digs (a + b)).length ≤ 80000 := by
    have := digs_add_len hla hlb
    omega
  have HI := Lib.hid (CmI.keeps hlN)
  have HC1 := Lib.hid (Clone_any v1 (digs a) (by omega) w h1)
  have HC2 := Lib.hid (fun W (h : Rd .u64 W v2 (digs b)) => Clone_any v2 (digs b) (by omega) W h)
  have HR2 := Lib.hid h2
  by_cases hs : (digs a).length ≤ 2
  · have s1 := Lib.hid (isShort_yes v1 _ hs w h1)
    have s2 := Lib.hid (isShort_no v2 _ (by omega) (by omega) w h2)
    clear hl hla hlb h1 h2 hlN hs
    go_enter Tryz.func67, Tryz.ntmps67
    go_wp2_with fail
    refine s1.out.mono ?_
    rintro e w' ⟨rfl, rfl⟩
    go_wp2_with fail
    refine s2.out.mono ?_
    rintro e w' ⟨rfl, rfl⟩
    clear s1 s2
    go_wp2_with fail
    refine HC1.out.mono ?_
    rintro e w1 ⟨u1, rfl, ho1, hb1⟩
    obtain ⟨a1, c1, rfl⟩ := rd_form ho1.rd
    have HO1 := Lib.hid ho1
    have HB1 := Lib.hid hb1
    have HD2 := Lib.hid (HC2.out w1 (HR2.out.below hb1))
    clear ho1 hb1
    go_wp2_with fail
    refine HD2.out.mono ?_
    rintro e w2 ⟨u2, rfl, ho2, hb2⟩
    obtain ⟨a2, c2, rfl⟩ := rd_form ho2.rd
    have hB2 := HB1.out.trans (hb2.mono HB1.out.size)
    have hst := eu_start (n := false) hB2.size (HO1.out.below hb2) (ho2.mono HB1.out.size) (u3 := .slice none 0 0) (u4 := .slice none 0 0) (P := 0) (Q := 0) (by rw [digs_zero]; exact Own.nil _ _ _ _) (by rw [digs_zero]; exact Own.nil _ _ _ _)
      (own_fresh ho2 _ (fun g hg => (HO1.out.at hg).2)).symm (Apt.nil_right _ _ _) (Apt.nil_right _ _ _) (Apt.nil_right _ _ _) (Apt.nil_right _ _ _) (Apt.nil_right _ _ _)
    have hB3 := hB2.alloc hB2.size (.cells #[.slice a1 (digs a).length c1, .slice a2 (digs b).length c2, .slice none 0 0, .slice none 0 0, .bool false] 123)
    have HRun := Lib.hid (eRun _ HI.out w.heap.size w2.heap.size a b 0 0 false ⟨Nat.le_refl _, rfl, rfl⟩ _ hst hB3.size)
    have HB3 := Lib.hid hB3
    clear ho2 hb2 hB2 hst hB3 HO1 HB1 HC1 HC2 HD2 HR2
    go_wp2_with fail
    refine HRun.out.mono ?_
    rintro e w4 ⟨P', Q', n', rfl, hE, _, hb4⟩
    have HB4 := Lib.hid (HB3.out.trans hb4)
    obtain ⟨vf, vs, vp, vq, hEb, _, L⟩ := hE.out
    obtain ⟨c0, _, _, _, _⟩ := hEb.cells
    have HF := Lib.hid L.f
    clear hE hEb L hb4 HRun
    go_wp2
    go_ret
    exact ⟨vf, rfl, HF.out, HB4.out⟩
  · have s1 := Lib.hid (isShort_no v1 _ (by omega) (by omega) w h1)
    clear hl hla hlb h1 h2 hlN hs
    go_enter Tryz.func67, Tryz.ntmps67
    go_wp2_with fail
    refine s1.out.mono ?_
    rintro e w' ⟨rfl, rfl⟩
    clear s1
    go_wp2_with fail
    refine HC1.out.mono ?_
    rintro e w1 ⟨u1, rfl, ho1, hb1⟩
    obtain ⟨a1, c1, rfl⟩ := rd_form ho1.rd
    have HO1 := Lib.hid ho1
    have HB1 := Lib.hid hb1
    have HD2 := Lib.hid (HC2.out w1 (HR2.out.below hb1))
    clear ho1 hb1
    go_wp2_with fail
    refine HD2.out.mono ?_
    rintro e w2 ⟨u2, rfl, ho2, hb2⟩
    obtain ⟨a2, c2, rfl⟩ := rd_form ho2.rd
    have hB2 := HB1.out.trans (hb2.mono HB1.out.size)
    have hst := eu_start (n := false) hB2.size (HO1.out.below hb2) (ho2.mono HB1.out.size) (u3 := .slice none 0 0) (u4 := .slice none 0 0) (P := 0) (Q := 0) (by rw [digs_zero]; exact Own.nil _ _ _ _) (by rw [digs_zero]; exact Own.nil _ _ _ _)
      (own_fresh ho2 _ (fun g hg => (HO1.out.at hg).2)).symm (Apt.nil_right _ _ _) (Apt.nil_right _ _ _) (Apt.nil_right _ _ _) (Apt.nil_right _ _ _) (Apt.nil_right _ _ _)
    have hB3 := hB2.alloc hB2.size (.cells #[.slice a1 (digs a).length c1, .slice a2 (digs b).length c2, .slice none 0 0, .slice none 0 0, .bool false] 123)
    have HRun := Lib.hid (eRun _ HI.out w.heap.size w2.heap.size a b 0 0 false ⟨Nat.le_refl _, rfl, rfl⟩ _ hst hB3.size)
    have HB3 := Lib.hid hB3
    clear ho2 hb2 hB2 hst hB3 HO1 HB1 HC1 HC2 HD2 HR2
    go_wp2_with fail
    refine HRun.out.mono ?_
    rintro e w4 ⟨P', Q', n', rfl, hE, _, hb4⟩
    have HB4 := Lib.hid (HB3.out.trans hb4)
    obtain ⟨vf, vs, vp, vq, hEb, _, L⟩ := hE.out
    obtain ⟨c0, _, _, _, _⟩ := hEb.cells
    have HF := Lib.hid L.f
    clear hE hEb L hb4 HRun
    go_wp2
    go_ret
    exact ⟨vf, rfl, HF.out, HB4.out⟩

theorem Common_any (a b : Nat) (hla : (digs a).length ≤ 70000) (hlb : (digs b).length ≤ 70000) : CommonOk a b := by
  intro v1 v2 w h1 h2
  by_cases h : (digs a).length ≤ 2 ∧ (digs b).length ≤ 2
  · exact Common_short v1 v2 a b h.1 h.2 w h1 h2
  · exact Common_long v1 v2 a b (by omega) hla hlb w h1 h2

end Go.Proofs.YtgbcjlknlagoeaaGreatDoor
