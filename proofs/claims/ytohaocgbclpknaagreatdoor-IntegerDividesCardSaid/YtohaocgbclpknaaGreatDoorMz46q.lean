/- Texts of this proof, one behind the other. -/
import Derived.Test.YtohaocgbclpknaaGreatDoorSe
import Derived.Test.YtohaocgbclpknaaGreatDoorMz31q
/- garboardref02: Small; Bezout of a number and 0: walks. -/
namespace Go.Proofs.YtohaocgbclpknaaGreatDoor
open Go.RowKit Go.Gb

set_option maxRecDepth 100000 in
set_option maxHeartbeats 4000000 in
theorem sSmall (k : Int) (n : Nat) (hk : (n : Int) = k) (h0 : 0 ≤ k) (h1 : k ≤ 1000000) (w : World) :
    Calls Tryz.prog 31 #[.int .i64 k] w fun e w' => ∃ p c, e = .returned (.agg #[.bool (zneg k), .slice p (zlen k) c]) ∧ RN w' (.slice p (zlen k) c) k.natAbs ∧ Below w.heap.size w w' := by
  have hl : nlen n ≤ 1000000 := Nat.le_trans (nlen_mono (show n ≤ 1000000 by omega)) (by decide +kernel)
  have C1 := Lib.hid (fun W => cSmallL k n hk (by omega) W)
  have C2 := Lib.hid (fun v W h => cMake false v n k (by rw [if_neg (by simp)]; exact hk.symm) hl W h)
  have d0 : decide (k < 0) = false := decide_eq_false (by omega)
  have e0 : ¬ k < 0 := by omega
  clear hl hk
  go_enter Tryz.func31, Tryz.ntmps31
  go_upto_region 1 with fail
  refine wp_boxes w [(#[.bool false, .slice none 0 0], 49)] rfl ?_
  rintro W0 ⟨k1, hb⟩
  have HB0 := Lib.hid (show Below w.heap.size w W0 from hb)
  have K1 := Lib.hid k1
  clear k1 hb
  go_wp2_with fail
  with_reducible refine (C1.out _).mono ?_
  rintro e W1 ⟨p_1, c_1, rfl, r1_0, hb⟩
  have K1 := Lib.hid (K1.out.below hb)
  have HB1 := Lib.hid (HB0.out.trans (hb.mono HB0.out.size))
  have RN1 := Lib.hid r1_0
  clear hb r1_0
  go_wp2_with fail
  with_reducible refine (C2.out _ _ RN1.out).mono ?_
  rintro e W2 ⟨p_2, c_2, rfl, r2_0, hb⟩
  have K1 := Lib.hid (K1.out.below hb)
  have HB2 := Lib.hid (HB1.out.trans (hb.mono HB1.out.size))
  have RK := Lib.hid r2_0
  clear hb r2_0
  have dK10 := K1.out.cell (i := 0) rfl
  have dK11 := K1.out.cell (i := 1) rfl
  have fK10 := K1.out.frozen (i := 0)
  have fK11 := K1.out.frozen (i := 1)
  go_wp2
  exact bodyPost_ret (v := .agg #[.bool (zneg k), .slice p_2 (zlen k) c_2]) (by simp [results, Tryz.results31, go_sem, dK10, dK11]) rfl ⟨_, _, rfl, (store_rn [.bool (zneg k), .slice p_2 (zlen k) c_2] RK.out K1.out (by simp [noInt]) (by simp [plainV])), (store_below (l := [.bool (zneg k), .slice p_2 (zlen k) c_2]) (i := 0) (by omega) HB2.out)⟩

set_option maxRecDepth 100000 in
set_option maxHeartbeats 4000000 in
theorem sSmall_neg (w : World) :
    Calls Tryz.prog 31 #[.int .i64 (-1)] w fun e w' => ∃ p c, e = .returned (.agg #[.bool (zneg (-1)), .slice p (zlen (-1)) c]) ∧ RN w' (.slice p (zlen (-1)) c) (-1 : Int).natAbs ∧ Below w.heap.size w w' := by
  have C1 := Lib.hid (fun W => cSmallL 1 1 rfl (by decide) W)
  have C2 := Lib.hid (fun v W h => cMake true v 1 (-1) rfl (by rw [nlen_one]; decide) W h)
  go_enter Tryz.func31, Tryz.ntmps31
  go_upto_region 1 with fail
  refine wp_boxes w [(#[.bool false, .slice none 0 0], 49)] rfl ?_
  rintro W0 ⟨k1, hb⟩
  have HB0 := Lib.hid (show Below w.heap.size w W0 from hb)
  have K1 := Lib.hid k1
  clear k1 hb
  go_wp2_with fail
  with_reducible refine (C1.out _).mono ?_
  rintro e W1 ⟨p_1, c_1, rfl, r1_0, hb⟩
  have K1 := Lib.hid (K1.out.below hb)
  have HB1 := Lib.hid (HB0.out.trans (hb.mono HB0.out.size))
  have RN1 := Lib.hid r1_0
  clear hb r1_0
  go_wp2_with fail
  with_reducible refine (C2.out _ _ RN1.out).mono ?_
  rintro e W2 ⟨p_2, c_2, rfl, r2_0, hb⟩
  have K1 := Lib.hid (K1.out.below hb)
  have HB2 := Lib.hid (HB1.out.trans (hb.mono HB1.out.size))
  have RK := Lib.hid r2_0
  clear hb r2_0
  have dK10 := K1.out.cell (i := 0) rfl
  have dK11 := K1.out.cell (i := 1) rfl
  have fK10 := K1.out.frozen (i := 0)
  have fK11 := K1.out.frozen (i := 1)
  go_wp2
  exact bodyPost_ret (v := .agg #[.bool (zneg (-1)), .slice p_2 (zlen (-1)) c_2]) (by simp [results, Tryz.results31, go_sem, dK10, dK11]) rfl ⟨_, _, rfl, (store_rn [.bool (zneg (-1)), .slice p_2 (zlen (-1)) c_2] RK.out K1.out (by simp [noInt]) (by simp [plainV])), (store_below (l := [.bool (zneg (-1)), .slice p_2 (zlen (-1)) c_2]) (i := 0) (by omega) HB2.out)⟩

set_option maxRecDepth 100000 in
set_option maxHeartbeats 4000000 in
theorem ZBezout_zero_raw (a b sg ss : ByteArray) (x y z s : Int) (g : Nat) (w : World)
    (h1 : ∀ W, Calls Tryz.prog 22 #[.string a, .string b] W fun e w' => ∃ p1 c1 p2 c2, e = .returned (.tuple #[.agg #[.bool (zneg x), .slice p1 (zlen x) c1], .agg #[.bool (zneg y), .slice p2 (zlen y) c2], .int .i64 0]) ∧ RN w' (.slice p1 (zlen x) c1) x.natAbs ∧ RN w' (.slice p2 (zlen y) c2) y.natAbs ∧ Below W.heap.size W w')
    (h2 : ∀ v1 v2 W, RN W v1 x.natAbs → RN W v2 y.natAbs → Calls Tryz.prog 30 #[v1, v2] W fun e w' => ∃ p c, e = .returned (.slice p (nlen g) c) ∧ RN w' (.slice p (nlen g) c) g ∧ Below W.heap.size W w')
    (h3 : ∀ v W, RN W v g → Calls Tryz.prog 29 #[.bool false, v] W fun e w' => ∃ p c, e = .returned (.agg #[.bool (zneg z), .slice p (zlen z) c]) ∧ RN w' (.slice p (zlen z) c) z.natAbs ∧ Below W.heap.size W w')
    (h4 : ∀ p c W, RN W (.slice p (zlen y) c) y.natAbs → Calls Tryz.prog 23 #[.agg #[.bool (zneg y), .slice p (zlen y) c]] W fun e w' => e = .returned (.int .i64 0) ∧ Below W.heap.size W w')
    (h5 : ∀ p c W, RN W (.slice p (zlen z) c) z.natAbs → Calls Tryz.prog 25 #[.agg #[.bool (zneg z), .slice p (zlen z) c]] W fun e w' => e = .returned (.string sg) ∧ Below W.heap.size W w')
    (h6 : ∀ p c W, RN W (.slice p (zlen x) c) x.natAbs → Calls Tryz.prog 23 #[.agg #[.bool (zneg x), .slice p (zlen x) c]] W fun e w' => e = .returned (.int .i64 s) ∧ Below W.heap.size W w')
    (h7 : ∀ W, Calls Tryz.prog 31 #[.int .i64 s] W fun e w' => ∃ p c, e = .returned (.agg #[.bool (zneg s), .slice p (zlen s) c]) ∧ RN w' (.slice p (zlen s) c) s.natAbs ∧ Below W.heap.size W w')
    (h8 : ∀ p c W, RN W (.slice p (zlen s) c) s.natAbs → Calls Tryz.prog 25 #[.agg #[.bool (zneg s), .slice p (zlen s) c]] W fun e w' => e = .returned (.string ss) ∧ Below W.heap.size W w') :
    Calls Tryz.prog 9 #[.string a, .string b] w fun e w' => e = .returned (.tuple #[.string sg, .string ss, .string ⟨#[48]⟩, .int .i64 0]) ∧ Below w.heap.size w w' := by
  have C1 := Lib.hid h1
  have C2 := Lib.hid h2
  have C3 := Lib.hid h3
  have C4 := Lib.hid h4
  have C5 := Lib.hid h5
  have C6 := Lib.hid h6
  have C7 := Lib.hid h7
  have C8 := Lib.hid h8
  clear h1 h2 h3 h4 h5 h6 h7 h8
  go_enter Tryz.func9, Tryz.ntmps9
  have HB0 := Lib.hid (Below.refl w.heap.size w)
  go_wp2_with fail
  with_reducible refine (C1.out _).mono ?_
  rintro e W1 ⟨pa_1, ca_1, pb_1, cb_1, rfl, r1_0, r1_1, hb⟩
  have HB1 := Lib.hid (HB0.out.trans (hb.mono HB0.out.size))
  have RX := Lib.hid r1_0
  have RY := Lib.hid r1_1
  clear hb r1_0 r1_1
  go_upto_region 2 with fail
  refine wp_boxes W1 [(#[.bool (zneg x), .slice pa_1 (zlen x) ca_1], 49), (#[.bool (zneg y), .slice pb_1 (zlen y) cb_1], 49)] rfl ?_
  have L1 := HB1.out.size
  rintro W2 ⟨k1, k2, hb⟩
  have hb : Below W1.heap.size W1 W2 := hb
  have RX := Lib.hid (RX.out.below hb)
  have RY := Lib.hid (RY.out.below hb)
  have HB2 := Lib.hid (HB1.out.trans (hb.mono HB1.out.size))
  have K1 := Lib.hid k1
  have K2 := Lib.hid k2
  clear k1 k2 hb
  have dK11 := K1.out.cell (i := 1) rfl
  have dK21 := K2.out.cell (i := 1) rfl
  go_wp2_with fail
  with_reducible refine (C2.out _ _ _ RX.out RY.out).mono ?_
  rintro e W3 ⟨p_2, c_2, rfl, r2_0, hb⟩
  clear dK11 dK21
  have K1 := Lib.hid (K1.out.below hb)
  have K2 := Lib.hid (K2.out.below hb)
  have RX := Lib.hid (RX.out.below hb)
  have RY := Lib.hid (RY.out.below hb)
  have HB3 := Lib.hid (HB2.out.trans (hb.mono HB2.out.size))
  have RG0 := Lib.hid r2_0
  clear hb r2_0
  go_wp2_with fail
  with_reducible refine (C3.out _ _ RG0.out).mono ?_
  rintro e W4 ⟨p_3, c_3, rfl, r3_0, hb⟩
  have K1 := Lib.hid (K1.out.below hb)
  have K2 := Lib.hid (K2.out.below hb)
  have RX := Lib.hid (RX.out.below hb)
  have RY := Lib.hid (RY.out.below hb)
  have RG0 := Lib.hid (RG0.out.below hb)
  have HB4 := Lib.hid (HB3.out.trans (hb.mono HB3.out.size))
  have RG := Lib.hid r3_0
  clear hb r3_0
  go_upto_region 5 with fail
  refine wp_boxes W4 [(#[.bool (zneg z), .slice p_3 (zlen z) c_3], 49)] rfl ?_
  have L2 := K1.out.lt
  have L3 := K2.out.lt
  have L4 := HB4.out.size
  rintro W5 ⟨k3, hb⟩
  have hb : Below W4.heap.size W4 W5 := hb
  have K1 := Lib.hid (K1.out.below hb)
  have K2 := Lib.hid (K2.out.below hb)
  have RX := Lib.hid (RX.out.below hb)
  have RY := Lib.hid (RY.out.below hb)
  have RG0 := Lib.hid (RG0.out.below hb)
  have RG := Lib.hid (RG.out.below hb)
  have HB5 := Lib.hid (HB4.out.trans (hb.mono HB4.out.size))
  have K3 := Lib.hid k3
  clear k3 hb
  have dK20 := K2.out.cell (i := 0) rfl
  have dK21 := K2.out.cell (i := 1) rfl
  go_wp2_with fail
  with_reducible refine (C4.out _ _ _ RY.out).mono ?_
  rintro e W6 ⟨rfl, hb⟩
  clear dK20 dK21
  have K1 := Lib.hid (K1.out.below hb)
  have K2 := Lib.hid (K2.out.below hb)
  have K3 := Lib.hid (K3.out.below hb)
  have RX := Lib.hid (RX.out.below hb)
  have RY := Lib.hid (RY.out.below hb)
  have RG0 := Lib.hid (RG0.out.below hb)
  have RG := Lib.hid (RG.out.below hb)
  have HB6 := Lib.hid (HB5.out.trans (hb.mono HB5.out.size))
  clear hb
  go_wp2_with fail
  refine wp_region_post (fun a0 a' V => ∃ pw1_4 cw1_4, a' = ⟨putL [(41, .agg #[.bool (zneg z), .slice p_3 (zlen z) c_3]), (42, .string sg), (43, .agg #[.bool (zneg x), .slice pa_1 (zlen x) ca_1]), (44, .int .i64 s), (45, .agg #[.bool (zneg s), .slice pw1_4 (zlen s) cw1_4]), (46, .string ss), (4, .string sg), (5, .string ss), (6, .string ⟨#[48]⟩), (7, .int .i64 0)] a0.tmps, a0.defers⟩ ∧ Below w.heap.size w V ∧ SBk V (W1.heap.size) #[.bool (zneg x), .slice pa_1 (zlen x) ca_1] 49 ∧ SBk V (W1.heap.size + 1) #[.bool (zneg y), .slice pb_1 (zlen y) cb_1] 49 ∧ SBk V (W4.heap.size) #[.bool (zneg z), .slice p_3 (zlen z) c_3] 49 ∧ RN V (.slice pa_1 (zlen x) ca_1) x.natAbs ∧ RN V (.slice pb_1 (zlen y) cb_1) y.natAbs ∧ RN V (.slice p_2 (nlen g) c_2) g ∧ RN V (.slice p_3 (zlen z) c_3) z.natAbs ∧ RN V (.slice pw1_4 (zlen s) cw1_4) s.natAbs) ?_ ?_
  · refine wp_region_tail_d (by kernel_rfl) 10 0 (fun i => [41, 42, 43, 44, 45, 46, 4, 5, 6, 7].getD i 0) (RelR [Rel.val (.agg #[.bool (zneg z), .slice p_3 (zlen z) c_3]), Rel.val (.string sg), Rel.val (.agg #[.bool (zneg x), .slice pa_1 (zlen x) ca_1]), Rel.val (.int .i64 s), Rel.int s, Rel.val (.string ss), Rel.val (.string sg), Rel.val (.string ss), Rel.val (.string ⟨#[48]⟩), Rel.val (.int .i64 0)]) (fun W => Below W6.heap.size W6 W) (fun _ _ => True) (by kernel_rfl) (by kernel_rfl) (by kernel_rfl) trivial (Below.refl _ _).drew ?_ ?_
    · intro listed a W i hI hD hrd him
      have HI := Lib.hid hI
      have HD := Lib.hid hD
      have Hi := fun (j : Nat) (h : i = j) => (Lib.hid (h ▸ hrd) : Hid (j ∈ _))
      clear hI hrd hD
      match i, him with
      | 0, _ =>
        have Hi := Hi 0 rfl
        have y11 : a.tmps[11]? = some (.pointer (some ⟨W4.heap.size, 0, none⟩)) := HI.out.rest 11 (by decide)
        have dK30 := (K3.out.below HI.out.world).cell (i := 0) rfl
        have dK31 := (K3.out.below HI.out.world).cell (i := 1) rfl
        refine wpOp_step rfl (fun K' hK => ?_)
        have hK := Lib.hid hK
        go_simp
        exact hK.out _ _ ⟨HI.out.put Hi.out (by decide) rfl (by simp) (by decide) (rfl) (fun j u h => h) (HI.out.world), trivial⟩
      | 1, _ =>
        have Hi := Hi 1 rfl
        have x0 : a.tmps[41]? = some (.agg #[.bool (zneg z), .slice p_3 (zlen z) c_3]) := by
          obtain ⟨v', y', e'⟩ := HI.out.at (i := 0) Hi.out (by kernel_rfl) (by decide)
          obtain rfl : v' = .agg #[.bool (zneg z), .slice p_3 (zlen z) c_3] := e'
          exact y'
        refine wpOp_step rfl (fun K' hK => ?_)
        have hK := Lib.hid hK
        go_simp
        with_reducible refine (C5.out _ _ _ (RG.out.below HI.out.world)).mono ?_
        rintro e W' ⟨rfl, hb⟩
        exact hK.out _ _ ⟨HI.out.put Hi.out (by decide) rfl (by simp) (by decide) (rfl) (fun j u h => RelR.mono hb j u h) (HI.out.world.trans (hb.mono HI.out.world.size)), trivial⟩
      | 2, _ =>
        have Hi := Hi 2 rfl
        have y8 : a.tmps[8]? = some (.pointer (some ⟨W1.heap.size, 0, none⟩)) := HI.out.rest 8 (by decide)
        have dK10 := (K1.out.below HI.out.world).cell (i := 0) rfl
        have dK11 := (K1.out.below HI.out.world).cell (i := 1) rfl
        refine wpOp_step rfl (fun K' hK => ?_)
        have hK := Lib.hid hK
        go_simp
        exact hK.out _ _ ⟨HI.out.put Hi.out (by decide) rfl (by simp) (by decide) (rfl) (fun j u h => h) (HI.out.world), trivial⟩
      | 3, _ =>
        have Hi := Hi 3 rfl
        have x2 : a.tmps[43]? = some (.agg #[.bool (zneg x), .slice pa_1 (zlen x) ca_1]) := by
          obtain ⟨v', y', e'⟩ := HI.out.at (i := 2) Hi.out (by kernel_rfl) (by decide)
          obtain rfl : v' = .agg #[.bool (zneg x), .slice pa_1 (zlen x) ca_1] := e'
          exact y'
        refine wpOp_step rfl (fun K' hK => ?_)
        have hK := Lib.hid hK
        go_simp
        with_reducible refine (C6.out _ _ _ (RX.out.below HI.out.world)).mono ?_
        rintro e W' ⟨rfl, hb⟩
        exact hK.out _ _ ⟨HI.out.put Hi.out (by decide) rfl (by simp) (by decide) (rfl) (fun j u h => RelR.mono hb j u h) (HI.out.world.trans (hb.mono HI.out.world.size)), trivial⟩
      | 4, _ =>
        have Hi := Hi 4 rfl
        have x3 : a.tmps[44]? = some (.int .i64 s) := by
          obtain ⟨v', y', e'⟩ := HI.out.at (i := 3) Hi.out (by kernel_rfl) (by decide)
          obtain rfl : v' = .int .i64 s := e'
          exact y'
        refine wpOp_step rfl (fun K' hK => ?_)
        have hK := Lib.hid hK
        go_simp
        with_reducible refine (C7.out _).mono ?_
        rintro e W' ⟨pw1_4, cw1_4, rfl, rrw1_4, hb⟩
        exact hK.out _ _ ⟨HI.out.put Hi.out (by decide) rfl (by simp) (by decide) (⟨pw1_4, cw1_4, rfl, rrw1_4⟩) (fun j u h => RelR.mono hb j u h) (HI.out.world.trans (hb.mono HI.out.world.size)), trivial⟩
      | 5, _ =>
        have Hi := Hi 5 rfl
        obtain ⟨v', x4, pw1_4, cw1_4, e, rrw1_4⟩ := HI.out.at (i := 4) Hi.out (by kernel_rfl) (by decide)
        obtain rfl := e
        have x4 : a.tmps[45]? = some (.agg #[.bool (zneg s), .slice pw1_4 (zlen s) cw1_4]) := x4
        have RRW1_4 := Lib.hid rrw1_4
        clear rrw1_4
        refine wpOp_step rfl (fun K' hK => ?_)
        have hK := Lib.hid hK
        go_simp
        with_reducible refine (C8.out _ _ _ RRW1_4.out).mono ?_
        rintro e W' ⟨rfl, hb⟩
        exact hK.out _ _ ⟨HI.out.put Hi.out (by decide) rfl (by simp) (by decide) (rfl) (fun j u h => RelR.mono hb j u h) (HI.out.world.trans (hb.mono HI.out.world.size)), trivial⟩
      | 6, _ =>
        have Hi := Hi 6 rfl
        have x1 : a.tmps[42]? = some (.string sg) := by
          obtain ⟨v', y', e'⟩ := HI.out.at (i := 1) Hi.out (by kernel_rfl) (by decide)
          obtain rfl : v' = .string sg := e'
          exact y'
        refine wpOp_step rfl (fun K' hK => ?_)
        have hK := Lib.hid hK
        go_simp
        exact hK.out _ _ ⟨HI.out.put Hi.out (by decide) rfl (by simp) (by decide) (rfl) (fun j u h => h) (HI.out.world), trivial⟩
      | 7, _ =>
        have Hi := Hi 7 rfl
        have x5 : a.tmps[46]? = some (.string ss) := by
          obtain ⟨v', y', e'⟩ := HI.out.at (i := 5) Hi.out (by kernel_rfl) (by decide)
          obtain rfl : v' = .string ss := e'
          exact y'
        refine wpOp_step rfl (fun K' hK => ?_)
        have hK := Lib.hid hK
        go_simp
        exact hK.out _ _ ⟨HI.out.put Hi.out (by decide) rfl (by simp) (by decide) (rfl) (fun j u h => h) (HI.out.world), trivial⟩
      | 8, _ =>
        have Hi := Hi 8 rfl
        refine wpOp_step rfl (fun K' hK => ?_)
        have hK := Lib.hid hK
        go_simp
        exact hK.out _ _ ⟨HI.out.put Hi.out (by decide) rfl (by simp) (by decide) (rfl) (fun j u h => h) (HI.out.world), trivial⟩
      | 9, _ =>
        have Hi := Hi 9 rfl
        refine wpOp_step rfl (fun K' hK => ?_)
        have hK := Lib.hid hK
        go_simp
        exact hK.out _ _ ⟨HI.out.put Hi.out (by decide) rfl (by simp) (by decide) (rfl) (fun j u h => h) (HI.out.world), trivial⟩
      | n + 10, h => exact absurd h (by omega)
    · intro listed a W hI hD hall
      obtain ⟨v0, x0, e0⟩ := hI.slots 0 (by decide) (hall 0 (by decide))
      obtain rfl : v0 = .agg #[.bool (zneg z), .slice p_3 (zlen z) c_3] := e0
      have x0 : a.tmps[41]? = some (.agg #[.bool (zneg z), .slice p_3 (zlen z) c_3]) := x0
      obtain ⟨v1, x1, e1⟩ := hI.slots 1 (by decide) (hall 1 (by decide))
      obtain rfl : v1 = .string sg := e1
      have x1 : a.tmps[42]? = some (.string sg) := x1
      obtain ⟨v2, x2, e2⟩ := hI.slots 2 (by decide) (hall 2 (by decide))
      obtain rfl : v2 = .agg #[.bool (zneg x), .slice pa_1 (zlen x) ca_1] := e2
      have x2 : a.tmps[43]? = some (.agg #[.bool (zneg x), .slice pa_1 (zlen x) ca_1]) := x2
      obtain ⟨v3, x3, e3⟩ := hI.slots 3 (by decide) (hall 3 (by decide))
      obtain rfl : v3 = .int .i64 s := e3
      have x3 : a.tmps[44]? = some (.int .i64 s) := x3
      obtain ⟨v4, x4, pw1_4, cw1_4, e4, rrw1_4⟩ := hI.slots 4 (by decide) (hall 4 (by decide))
      obtain rfl := e4
      have RRW1_4 := Lib.hid rrw1_4
      clear rrw1_4
      have x4 : a.tmps[45]? = some (.agg #[.bool (zneg s), .slice pw1_4 (zlen s) cw1_4]) := x4
      obtain ⟨v5, x5, e5⟩ := hI.slots 5 (by decide) (hall 5 (by decide))
      obtain rfl : v5 = .string ss := e5
      have x5 : a.tmps[46]? = some (.string ss) := x5
      obtain ⟨v6, x6, e6⟩ := hI.slots 6 (by decide) (hall 6 (by decide))
      obtain rfl : v6 = .string sg := e6
      have x6 : a.tmps[4]? = some (.string sg) := x6
      obtain ⟨v7, x7, e7⟩ := hI.slots 7 (by decide) (hall 7 (by decide))
      obtain rfl : v7 = .string ss := e7
      have x7 : a.tmps[5]? = some (.string ss) := x7
      obtain ⟨v8, x8, e8⟩ := hI.slots 8 (by decide) (hall 8 (by decide))
      obtain rfl : v8 = .string ⟨#[48]⟩ := e8
      have x8 : a.tmps[6]? = some (.string ⟨#[48]⟩) := x8
      obtain ⟨v9, x9, e9⟩ := hI.slots 9 (by decide) (hall 9 (by decide))
      obtain rfl : v9 = .int .i64 0 := e9
      have x9 : a.tmps[7]? = some (.int .i64 0) := x9
      have ea := hI.fin [(41, .agg #[.bool (zneg z), .slice p_3 (zlen z) c_3]), (42, .string sg), (43, .agg #[.bool (zneg x), .slice pa_1 (zlen x) ca_1]), (44, .int .i64 s), (45, .agg #[.bool (zneg s), .slice pw1_4 (zlen s) cw1_4]), (46, .string ss), (4, .string sg), (5, .string ss), (6, .string ⟨#[48]⟩), (7, .int .i64 0)] (by
        intro p hp
        simp only [List.mem_cons, List.not_mem_nil, or_false] at hp
        rcases hp with rfl | rfl | rfl | rfl | rfl | rfl | rfl | rfl | rfl | rfl
        · exact x0
        · exact x1
        · exact x2
        · exact x3
        · exact x4
        · exact x5
        · exact x6
        · exact x7
        · exact x8
        · exact x9) (by
        intro d hd i him h
        match i, him with
        | 0, _ => exact hd _ (ix 0 rfl) h
        | 1, _ => exact hd _ (ix 1 rfl) h
        | 2, _ => exact hd _ (ix 2 rfl) h
        | 3, _ => exact hd _ (ix 3 rfl) h
        | 4, _ => exact hd _ (ix 4 rfl) h
        | 5, _ => exact hd _ (ix 5 rfl) h
        | 6, _ => exact hd _ (ix 6 rfl) h
        | 7, _ => exact hd _ (ix 7 rfl) h
        | 8, _ => exact hd _ (ix 8 rfl) h
        | 9, _ => exact hd _ (ix 9 rfl) h
        | n + 10, h => omega)
      have EA := Lib.hid ea
      have HBW := Lib.hid hI.world
      have HI := Lib.hid hI
      clear ea hI hall
      have K1 := Lib.hid (K1.out.below HBW.out)
      have K2 := Lib.hid (K2.out.below HBW.out)
      have K3 := Lib.hid (K3.out.below HBW.out)
      have RX := Lib.hid (RX.out.below HBW.out)
      have RY := Lib.hid (RY.out.below HBW.out)
      have RG0 := Lib.hid (RG0.out.below HBW.out)
      have RG := Lib.hid (RG.out.below HBW.out)
      have HBX := Lib.hid (HB6.out.trans (HBW.out.mono HB6.out.size))
      have RS := RRW1_4
      refine tail_nil ?_
      exact ⟨rfl, pw1_4, cw1_4, EA.out, HBX.out, K1.out, K2.out, K3.out, RX.out, RY.out, RG0.out, RG.out, RS.out⟩
  rintro a' W7 ⟨pw1_4, cw1_4, rfl, z0, z1, z2, z3, z4, z5, z6, z7, z8⟩
  have HB7 := Lib.hid z0
  have K1 := Lib.hid z1
  have K2 := Lib.hid z2
  have K3 := Lib.hid z3
  have RX := Lib.hid z4
  have RY := Lib.hid z5
  have RG0 := Lib.hid z6
  have RG := Lib.hid z7
  have RS := Lib.hid z8
  clear z0 z1 z2 z3 z4 z5 z6 z7 z8
  simp only [putL, List.setIfInBounds_toArray, List.set_cons_zero, List.set_cons_succ]
  go_wp2
  exact bodyPost_ret (v := .tuple #[.string sg, .string ss, .string ⟨#[48]⟩, .int .i64 0]) (by simp [results, Tryz.results9, go_sem]) rfl ⟨rfl, HB7.out⟩

end Go.Proofs.YtohaocgbclpknaaGreatDoor
/- Plain facts about Euclid's remainders of integers with their factors. No program is mentioned. -/
namespace Go.Gb

/-- What the rounds keep: r and s are the last remainders, u and v their factors of x, modulo y. -/
structure BzI (x y r s u v : Int) : Prop where
  c1 : ∃ k : Int, x * u = r + k * y
  c2 : ∃ k : Int, x * v = s + k * y
  gc : Nat.gcd r.natAbs s.natAbs = Nat.gcd x.natAbs y.natAbs
  st : (u = 1 ∧ v = 0 ∧ r = x ∧ s = y) ∨ (u = 0 ∧ v = 1 ∧ r = y ∧ 0 ≤ s ∧ s.natAbs < y.natAbs) ∨ (0 < r ∧ r.natAbs ≤ y.natAbs ∧ 0 ≤ s ∧ s.natAbs < r.natAbs ∧ u.natAbs * s.natAbs + v.natAbs * r.natAbs ≤ 3 * y.natAbs ∧ u.natAbs ≤ 3 * y.natAbs)

theorem BzI.start (x y : Int) : BzI x y x y 1 0 := ⟨⟨0, by omega⟩, ⟨-1, by omega⟩, rfl, Or.inl ⟨rfl, rfl, rfl, rfl⟩⟩

theorem gcd_emod_abs (r s : Int) : Nat.gcd s.natAbs (r % s).natAbs = Nat.gcd r.natAbs s.natAbs := by
  rw [← Int.gcd_eq_natAbs_gcd_natAbs, ← Int.gcd_eq_natAbs_gcd_natAbs, Int.gcd_comm r s, ← Int.gcd_add_mul_left_right s (r % s) (r / s), Int.emod_add_mul_ediv]

theorem abs_step (u q v : Int) : (u - q * v).natAbs ≤ u.natAbs + q.natAbs * v.natAbs := by
  rw [← Int.natAbs_mul]; omega

theorem BzI.small {x y r s u v : Int} (hy : y ≠ 0) (h : BzI x y r s u v) : u.natAbs ≤ 3 * y.natAbs ∧ v.natAbs ≤ 3 * y.natAbs := by
  rcases h.st with ⟨rfl, rfl, _, _⟩ | ⟨rfl, rfl, _, _⟩ | ⟨h1, h2, h3, h4, h5, h6⟩
  · constructor <;> simp <;> omega
  · constructor <;> simp <;> omega
  · refine ⟨h6, ?_⟩
    have : v.natAbs * 1 ≤ v.natAbs * r.natAbs := Nat.mul_le_mul_left _ (by omega)
    omega

theorem BzI.step {x y r s u v : Int} (hy : y ≠ 0) (h : BzI x y r s u v) (hs : s ≠ 0) : BzI x y s (r % s) v (u - r / s * v) ∧ (r % s).natAbs < s.natAbs ∧ 0 ≤ r % s := by
  have hm0 := Int.emod_nonneg r hs
  have hml : r % s < (s.natAbs : Int) := Int.emod_lt r hs
  have hme := Int.emod_add_mul_ediv r s
  refine ⟨⟨h.c2, ?_, ?_, ?_⟩, by omega, hm0⟩
  · obtain ⟨k1, e1⟩ := h.c1
    obtain ⟨k2, e2⟩ := h.c2
    refine ⟨k1 - r / s * k2, ?_⟩
    have e3 : x * (u - r / s * v) = x * u - r / s * (x * v) := by rw [Int.mul_sub]; congr 1; ac_rfl
    rw [e3, e1, e2, Int.mul_add, Int.sub_mul, Int.mul_assoc, Int.mul_comm (r / s) s]
    omega
  · rw [gcd_emod_abs r s, h.gc]
  · generalize hq : r / s = q at *
    generalize ht : r % s = t at *
    rcases h.st with ⟨rfl, rfl, rfl, rfl⟩ | ⟨rfl, rfl, rfl, h3, h4⟩ | ⟨h1, h2, h3, h4, h5, h6⟩
    · exact Or.inr (Or.inl ⟨rfl, by rw [Int.mul_zero]; rfl, rfl, hm0, by omega⟩)
    · right; right
      have hqs : (s * q).natAbs ≤ r.natAbs + t.natAbs := by omega
      rw [Int.natAbs_mul] at hqs
      have hst := abs_step 0 q 1
      refine ⟨by omega, by omega, hm0, by omega, ?_, by simp; omega⟩
      have e : (0 - q * 1).natAbs = q.natAbs := by simp
      rw [e]
      simp only [Int.natAbs_one, Nat.one_mul]
      rw [Nat.mul_comm q.natAbs]
      omega
    · right; right
      have ht2 : t.natAbs < s.natAbs := by omega
      have hqs : (s * q).natAbs + t.natAbs = r.natAbs := by
        have hsp : 0 < s := by omega
        have hq0 : 0 ≤ q := by rw [← hq]; exact Int.ediv_nonneg (by omega) (by omega)
        have := Int.mul_nonneg (Int.le_of_lt hsp) hq0
        omega
      rw [Int.natAbs_mul] at hqs
      have hst := abs_step u q v
      have hv : v.natAbs ≤ 3 * y.natAbs := by
        have : v.natAbs * 1 ≤ v.natAbs * r.natAbs := Nat.mul_le_mul_left _ (by omega)
        omega
      refine ⟨by omega, by omega, hm0, by omega, ?_, hv⟩
      have e1 : (u - q * v).natAbs * s.natAbs ≤ (u.natAbs + q.natAbs * v.natAbs) * s.natAbs := Nat.mul_le_mul_right _ hst
      have e2 : (u.natAbs + q.natAbs * v.natAbs) * s.natAbs = u.natAbs * s.natAbs + v.natAbs * (s.natAbs * q.natAbs) := by rw [Nat.add_mul]; congr 1; ac_rfl
      have e3 : v.natAbs * r.natAbs = v.natAbs * (s.natAbs * q.natAbs) + v.natAbs * t.natAbs := by rw [← hqs, Nat.mul_add]
      omega

/-- What is left at the end. -/
theorem BzI.last {x y r u v : Int} (h : BzI x y r 0 u v) : r.natAbs = Nat.gcd x.natAbs y.natAbs ∧ ∃ k : Int, x * (if r < 0 then -u else u) = (Nat.gcd x.natAbs y.natAbs : Int) + k * (y.natAbs : Int) := by
  have hg : r.natAbs = Nat.gcd x.natAbs y.natAbs := by rw [← h.gc]; simp
  refine ⟨hg, ?_⟩
  obtain ⟨k, e⟩ := h.c1
  rw [← hg]
  have hyy : ∃ c : Int, y = c * (y.natAbs : Int) := ⟨y.sign, (Int.sign_mul_natAbs y).symm⟩
  obtain ⟨c, hc⟩ := hyy
  by_cases hr : r < 0
  · rw [if_pos hr]
    refine ⟨-(k * c), ?_⟩
    rw [Int.mul_neg, e, Int.neg_mul, Int.mul_assoc, ← hc]; omega
  · rw [if_neg hr]
    refine ⟨k * c, ?_⟩
    rw [e, Int.mul_assoc, ← hc]; omega

end Go.Gb
