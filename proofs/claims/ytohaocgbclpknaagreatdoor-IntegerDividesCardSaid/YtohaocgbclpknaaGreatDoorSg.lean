/- garboardref02.Bezout: a walk. -/
import Derived.Test.YtohaocgbclpknaaGreatDoorMz46q
import Derived.Deep.LoopGhost
namespace Go.Proofs.YtohaocgbclpknaaGreatDoor
open Go.RowKit Go.Gb

set_option maxRecDepth 100000 in
set_option maxHeartbeats 40000000 in
theorem ZBezout_raw (a b sg sx sw : ByteArray) (x y g yy h mz xz xx gx wz mo sy : Int) (gn : Nat) (hy : y ≠ 0) (hsy : sy ≠ 0) (w : World)
    (h1 : ∀ W, Calls Tryz.prog 22 #[.string a, .string b] W fun e w' => ∃ p1 c1 p2 c2, e = .returned (.tuple #[.agg #[.bool (zneg x), .slice p1 (zlen x) c1], .agg #[.bool (zneg y), .slice p2 (zlen y) c2], .int .i64 0]) ∧ RN w' (.slice p1 (zlen x) c1) x.natAbs ∧ RN w' (.slice p2 (zlen y) c2) y.natAbs ∧ Below W.heap.size W w')
    (h2 : ∀ v1 v2 W, RN W v1 x.natAbs → RN W v2 y.natAbs → Calls Tryz.prog 30 #[v1, v2] W fun e w' => ∃ p c, e = .returned (.slice p (nlen gn) c) ∧ RN w' (.slice p (nlen gn) c) gn ∧ Below W.heap.size W w')
    (h3 : ∀ v W, RN W v gn → Calls Tryz.prog 29 #[.bool false, v] W fun e w' => ∃ p c, e = .returned (.agg #[.bool (zneg g), .slice p (zlen g) c]) ∧ RN w' (.slice p (zlen g) c) g.natAbs ∧ Below W.heap.size W w')
    (h5 : ∀ v W, RN W v y.natAbs → Calls Tryz.prog 29 #[.bool false, v] W fun e w' => ∃ p c, e = .returned (.agg #[.bool (zneg yy), .slice p (zlen yy) c]) ∧ RN w' (.slice p (zlen yy) c) yy.natAbs ∧ Below W.heap.size W w')
    (h4 : ∀ p0 c0 W, RN W (.slice p0 (zlen y) c0) y.natAbs → Calls Tryz.prog 23 #[.agg #[.bool (zneg y), .slice p0 (zlen y) c0]] W fun e w' => e = .returned (.int .i64 sy) ∧ Below W.heap.size W w')
    (h0 : ∀ p0 c0 W, RN W (.slice p0 (zlen (0 : Int)) c0) (0 : Int).natAbs → Calls Tryz.prog 23 #[.agg #[.bool (zneg (0 : Int)), .slice p0 (zlen (0 : Int)) c0]] W fun e w' => e = .returned (.int .i64 0) ∧ Below W.heap.size W w')
    (h6 : ∀ p0 c0 p1 c1 W, RN W (.slice p0 (zlen yy) c0) yy.natAbs → RN W (.slice p1 (zlen g) c1) g.natAbs → Calls Tryz.prog 24 #[.agg #[.bool (zneg yy), .slice p0 (zlen yy) c0], .agg #[.bool (zneg g), .slice p1 (zlen g) c1]] W fun e w' => ∃ p c p' c', e = .returned (.tuple #[.agg #[.bool (zneg h), .slice p (zlen h) c], .agg #[.bool (zneg mz), .slice p' (zlen mz) c']]) ∧ RN w' (.slice p (zlen h) c) h.natAbs ∧ RN w' (.slice p' (zlen mz) c') mz.natAbs ∧ Below W.heap.size W w')
    (h8 : ∀ p0 c0 p1 c1 W, RN W (.slice p0 (zlen x) c0) x.natAbs → RN W (.slice p1 (zlen xz) c1) xz.natAbs → Calls Tryz.prog 33 #[.agg #[.bool (zneg x), .slice p0 (zlen x) c0], .agg #[.bool (zneg xz), .slice p1 (zlen xz) c1]] W fun e w' => ∃ p c, e = .returned (.agg #[.bool (zneg xx), .slice p (zlen xx) c]) ∧ RN w' (.slice p (zlen xx) c) xx.natAbs ∧ Below W.heap.size W w')
    (h9 : ∀ p0 c0 p1 c1 W, RN W (.slice p0 (zlen g) c0) g.natAbs → RN W (.slice p1 (zlen xx) c1) xx.natAbs → Calls Tryz.prog 32 #[.agg #[.bool (zneg g), .slice p0 (zlen g) c0], .agg #[.bool (zneg xx), .slice p1 (zlen xx) c1]] W fun e w' => ∃ p c, e = .returned (.agg #[.bool (zneg gx), .slice p (zlen gx) c]) ∧ RN w' (.slice p (zlen gx) c) gx.natAbs ∧ Below W.heap.size W w')
    (h10 : ∀ p0 c0 p1 c1 W, RN W (.slice p0 (zlen gx) c0) gx.natAbs → RN W (.slice p1 (zlen y) c1) y.natAbs → Calls Tryz.prog 24 #[.agg #[.bool (zneg gx), .slice p0 (zlen gx) c0], .agg #[.bool (zneg y), .slice p1 (zlen y) c1]] W fun e w' => ∃ p c p' c', e = .returned (.tuple #[.agg #[.bool (zneg wz), .slice p (zlen wz) c], .agg #[.bool (zneg mo), .slice p' (zlen mo) c']]) ∧ RN w' (.slice p (zlen wz) c) wz.natAbs ∧ RN w' (.slice p' (zlen mo) c') mo.natAbs ∧ Below W.heap.size W w')
    (h11 : ∀ p0 c0 W, RN W (.slice p0 (zlen g) c0) g.natAbs → Calls Tryz.prog 25 #[.agg #[.bool (zneg g), .slice p0 (zlen g) c0]] W fun e w' => e = .returned (.string sg) ∧ Below W.heap.size W w')
    (h12 : ∀ p0 c0 W, RN W (.slice p0 (zlen xz) c0) xz.natAbs → Calls Tryz.prog 25 #[.agg #[.bool (zneg xz), .slice p0 (zlen xz) c0]] W fun e w' => e = .returned (.string sx) ∧ Below W.heap.size W w')
    (h13 : ∀ p0 c0 W, RN W (.slice p0 (zlen wz) c0) wz.natAbs → Calls Tryz.prog 25 #[.agg #[.bool (zneg wz), .slice p0 (zlen wz) c0]] W fun e w' => e = .returned (.string sw) ∧ Below W.heap.size W w')
    (hfin : ∀ r u v, BzI x y r 0 u v → ∃ qq : Int, ∀ p0 c0 p1 c1 W, RN W (.slice p0 (zlen (if zneg r then -u else u)) c0) (if zneg r then -u else u).natAbs → RN W (.slice p1 (zlen h) c1) h.natAbs → Calls Tryz.prog 24 #[.agg #[.bool (zneg (if zneg r then -u else u)), .slice p0 (zlen (if zneg r then -u else u)) c0], .agg #[.bool (zneg h), .slice p1 (zlen h) c1]] W fun e w' => ∃ p c p' c', e = .returned (.tuple #[.agg #[.bool (zneg qq), .slice p (zlen qq) c], .agg #[.bool (zneg xz), .slice p' (zlen xz) c']]) ∧ RN w' (.slice p (zlen qq) c) qq.natAbs ∧ RN w' (.slice p' (zlen xz) c') xz.natAbs ∧ Below W.heap.size W w')
    (hop : ∀ r u v, BzI x y r 0 u v → ∀ p0 c0 W, RN W (.slice p0 (zlen u) c0) u.natAbs → Calls Tryz.prog 34 #[.agg #[.bool (zneg u), .slice p0 (zlen u) c0]] W fun e w' => ∃ p c, e = .returned (.agg #[.bool (zneg (-u)), .slice p (zlen (-u)) c]) ∧ RN w' (.slice p (zlen (-u)) c) (-u).natAbs ∧ Below W.heap.size W w')
    (hrun : ∀ r s u v, BzI x y r s u v → s ≠ 0 → (∀ p0 c0 W, RN W (.slice p0 (zlen s) c0) s.natAbs → Calls Tryz.prog 23 #[.agg #[.bool (zneg s), .slice p0 (zlen s) c0]] W fun e w' => e = .returned (.int .i64 s.sign) ∧ Below W.heap.size W w') ∧
      (∀ p0 c0 p1 c1 W, RN W (.slice p0 (zlen r) c0) r.natAbs → RN W (.slice p1 (zlen s) c1) s.natAbs → Calls Tryz.prog 24 #[.agg #[.bool (zneg r), .slice p0 (zlen r) c0], .agg #[.bool (zneg s), .slice p1 (zlen s) c1]] W fun e w' => ∃ p c p' c', e = .returned (.tuple #[.agg #[.bool (zneg (r / s)), .slice p (zlen (r / s)) c], .agg #[.bool (zneg (r % s)), .slice p' (zlen (r % s)) c']]) ∧ RN w' (.slice p (zlen (r / s)) c) (r / s).natAbs ∧ RN w' (.slice p' (zlen (r % s)) c') (r % s).natAbs ∧ Below W.heap.size W w') ∧
      (∀ p0 c0 p1 c1 W, RN W (.slice p0 (zlen (r / s)) c0) (r / s).natAbs → RN W (.slice p1 (zlen v) c1) v.natAbs → Calls Tryz.prog 33 #[.agg #[.bool (zneg (r / s)), .slice p0 (zlen (r / s)) c0], .agg #[.bool (zneg v), .slice p1 (zlen v) c1]] W fun e w' => ∃ p c, e = .returned (.agg #[.bool (zneg (r / s * v)), .slice p (zlen (r / s * v)) c]) ∧ RN w' (.slice p (zlen (r / s * v)) c) (r / s * v).natAbs ∧ Below W.heap.size W w') ∧
      (∀ p0 c0 p1 c1 W, RN W (.slice p0 (zlen u) c0) u.natAbs → RN W (.slice p1 (zlen (r / s * v)) c1) (r / s * v).natAbs → Calls Tryz.prog 32 #[.agg #[.bool (zneg u), .slice p0 (zlen u) c0], .agg #[.bool (zneg (r / s * v)), .slice p1 (zlen (r / s * v)) c1]] W fun e w' => ∃ p c, e = .returned (.agg #[.bool (zneg (u - r / s * v)), .slice p (zlen (u - r / s * v)) c]) ∧ RN w' (.slice p (zlen (u - r / s * v)) c) (u - r / s * v).natAbs ∧ Below W.heap.size W w') ∧ True) :
    Calls Tryz.prog 9 #[.string a, .string b] w fun e w' => e = .returned (.tuple #[.string sg, .string sx, .string sw, .int .i64 0]) ∧ Below w.heap.size w w' := by
  have C0 := Lib.hid h0
  have C1 := Lib.hid h1
  have C2 := Lib.hid h2
  have C3 := Lib.hid h3
  have C4 := Lib.hid h4
  have C5 := Lib.hid h5
  have C6 := Lib.hid h6
  have C8 := Lib.hid h8
  have C9 := Lib.hid h9
  have C10 := Lib.hid h10
  have C11 := Lib.hid h11
  have C12 := Lib.hid h12
  have C13 := Lib.hid h13
  have k0 : (sy == 0) = false := by rw [beq_eq_false_iff_ne]; exact hsy
  have k1 : ¬ sy = 0 := hsy
  clear h0 h1 h2 h3 h4 h5 h6 h8 h9 h10 h11 h12 h13
  go_enter Tryz.func9, Tryz.ntmps9
  have HB0 := Lib.hid (Below.refl w.heap.size w)
  go_wp2_with fail
  with_reducible refine (C1.out _).mono ?_
  rintro e W1 ⟨pa_1, ca_1, pb_1, cb_1, rfl, r1_0, r1_1, hb⟩
  have HB1 := Lib.hid (HB0.out.trans (hb.mono HB0.out.size))
  have RX := Lib.hid r1_0
  have RY := Lib.hid r1_1
  clear hb r1_0 r1_1
  go_upto_region 2 with fail
  refine wp_boxes W1 [(#[.bool (zneg x), .slice pa_1 (zlen x) ca_1], 49), (#[.bool (zneg y), .slice pb_1 (zlen y) cb_1], 49)] rfl ?_
  have L1 := HB1.out.size
  rintro W2 ⟨k1, k2, hb⟩
  have hb : Below W1.heap.size W1 W2 := hb
  have RX := Lib.hid (RX.out.below hb)
  have RY := Lib.hid (RY.out.below hb)
  have HB2 := Lib.hid (HB1.out.trans (hb.mono HB1.out.size))
  have K1 := Lib.hid k1
  have K2 := Lib.hid k2
  clear k1 k2 hb
  have dK11 := K1.out.cell (i := 1) rfl
  have dK21 := K2.out.cell (i := 1) rfl
  go_wp2_with fail
  with_reducible refine (C2.out _ _ _ RX.out RY.out).mono ?_
  rintro e W3 ⟨p_2, c_2, rfl, r2_0, hb⟩
  clear dK11 dK21
  have K1 := Lib.hid (K1.out.below hb)
  have K2 := Lib.hid (K2.out.below hb)
  have RX := Lib.hid (RX.out.below hb)
  have RY := Lib.hid (RY.out.below hb)
  have HB3 := Lib.hid (HB2.out.trans (hb.mono HB2.out.size))
  have RG0 := Lib.hid r2_0
  clear hb r2_0
  go_wp2_with fail
  with_reducible refine (C3.out _ _ RG0.out).mono ?_
  rintro e W4 ⟨p_3, c_3, rfl, r3_0, hb⟩
  have K1 := Lib.hid (K1.out.below hb)
  have K2 := Lib.hid (K2.out.below hb)
  have RX := Lib.hid (RX.out.below hb)
  have RY := Lib.hid (RY.out.below hb)
  have RG0 := Lib.hid (RG0.out.below hb)
  have HB4 := Lib.hid (HB3.out.trans (hb.mono HB3.out.size))
  have RG := Lib.hid r3_0
  clear hb r3_0
  go_upto_region 5 with fail
  refine wp_boxes W4 [(#[.bool (zneg g), .slice p_3 (zlen g) c_3], 49)] rfl ?_
  have L2 := K1.out.lt
  have L3 := K2.out.lt
  have L4 := HB4.out.size
  rintro W5 ⟨k3, hb⟩
  have hb : Below W4.heap.size W4 W5 := hb
  have K1 := Lib.hid (K1.out.below hb)
  have K2 := Lib.hid (K2.out.below hb)
  have RX := Lib.hid (RX.out.below hb)
  have RY := Lib.hid (RY.out.below hb)
  have RG0 := Lib.hid (RG0.out.below hb)
  have RG := Lib.hid (RG.out.below hb)
  have HB5 := Lib.hid (HB4.out.trans (hb.mono HB4.out.size))
  have K3 := Lib.hid k3
  clear k3 hb
  have dK20 := K2.out.cell (i := 0) rfl
  have dK21 := K2.out.cell (i := 1) rfl
  go_wp2_with fail
  with_reducible refine (C4.out _ _ _ RY.out).mono ?_
  rintro e W6 ⟨rfl, hb⟩
  clear dK20 dK21
  have K1 := Lib.hid (K1.out.below hb)
  have K2 := Lib.hid (K2.out.below hb)
  have K3 := Lib.hid (K3.out.below hb)
  have RX := Lib.hid (RX.out.below hb)
  have RY := Lib.hid (RY.out.below hb)
  have RG0 := Lib.hid (RG0.out.below hb)
  have RG := Lib.hid (RG.out.below hb)
  have HB6 := Lib.hid (HB5.out.trans (hb.mono HB5.out.size))
  clear hb
  go_wp2_with fail
  have L5 := K1.out.lt
  have L6 := K2.out.lt
  have L7 := K3.out.lt
  have L8 := HB6.out.size
  refine wp_region_post (fun a0 a' V => ∃ gw1_2 gw1_3, a' = ⟨putL [(47, .agg #[.bool (zneg x), .slice pa_1 (zlen x) ca_1]), (48, .agg #[.bool (zneg y), .slice pb_1 (zlen y) cb_1]), (12, .pointer (some ⟨gw1_2, 0, none⟩)), (13, .pointer (some ⟨gw1_3, 0, none⟩))] a0.tmps, a0.defers⟩ ∧ Below w.heap.size w V ∧ SBk V (W1.heap.size) #[.bool (zneg x), .slice pa_1 (zlen x) ca_1] 49 ∧ SBk V (W1.heap.size + 1) #[.bool (zneg y), .slice pb_1 (zlen y) cb_1] 49 ∧ SBk V (W4.heap.size) #[.bool (zneg g), .slice p_3 (zlen g) c_3] 49 ∧ SBk V (gw1_2) #[.bool (zneg x), .slice pa_1 (zlen x) ca_1] 49 ∧ SBk V (gw1_3) #[.bool (zneg y), .slice pb_1 (zlen y) cb_1] 49 ∧ RN V (.slice pa_1 (zlen x) ca_1) x.natAbs ∧ RN V (.slice pb_1 (zlen y) cb_1) y.natAbs ∧ RN V (.slice p_2 (nlen gn) c_2) gn ∧ RN V (.slice p_3 (zlen g) c_3) g.natAbs ∧ W6.heap.size ≤ gw1_2 ∧ W6.heap.size ≤ gw1_3 ∧ gw1_2 ≠ gw1_3) ?_ ?_
  · refine wp_region_swap (by kernel_rfl) 4 1 1 (fun i => [47, 48, 12, 13].getD i 0) (RelR [Rel.val (.agg #[.bool (zneg x), .slice pa_1 (zlen x) ca_1]), Rel.val (.agg #[.bool (zneg y), .slice pb_1 (zlen y) cb_1]), Rel.ptr W6.heap.size (.cells #[.bool false, .slice none 0 0] 49), Rel.ptr W6.heap.size (.cells #[.bool false, .slice none 0 0] 49)]) (fun W => Below W6.heap.size W6 W) (Dst 2 3 (fun i => [47, 48, 12, 13].getD i 0)) (by decide) (by decide) (by kernel_rfl) (by kernel_rfl) (by kernel_rfl) (by kernel_rfl) Dst.start (Below.refl _ _).drew ?_ ?_ ?_
    · intro listed a W i hI hD hrd him
      have HI := Lib.hid hI
      have HD := Lib.hid hD
      have Hi := fun (j : Nat) (h : i = j) => (Lib.hid (h ▸ hrd) : Hid (j ∈ _))
      clear hI hrd hD
      match i, him with
      | 0, _ =>
        have Hi := Hi 0 rfl
        have y8 : a.tmps[8]? = some (.pointer (some ⟨W1.heap.size, 0, none⟩)) := HI.out.rest 8 (by decide)
        have dK10 := (K1.out.below HI.out.world).cell (i := 0) rfl
        have dK11 := (K1.out.below HI.out.world).cell (i := 1) rfl
        refine wpOp_step rfl (fun K' hK => ?_)
        have hK := Lib.hid hK
        go_simp
        exact hK.out _ _ ⟨HI.out.put Hi.out (by decide) rfl (by simp) (by decide) (rfl) (fun j u h => h) (HI.out.world), HD.out.put (by decide) (by decide) rfl (by decide) (by decide)⟩
      | 1, _ =>
        have Hi := Hi 1 rfl
        have y9 : a.tmps[9]? = some (.pointer (some ⟨W1.heap.size + 1, 0, none⟩)) := HI.out.rest 9 (by decide)
        have dK20 := (K2.out.below HI.out.world).cell (i := 0) rfl
        have dK21 := (K2.out.below HI.out.world).cell (i := 1) rfl
        refine wpOp_step rfl (fun K' hK => ?_)
        have hK := Lib.hid hK
        go_simp
        exact hK.out _ _ ⟨HI.out.put Hi.out (by decide) rfl (by simp) (by decide) (rfl) (fun j u h => h) (HI.out.world), HD.out.put (by decide) (by decide) rfl (by decide) (by decide)⟩
      | 2, _ =>
        have Hi := Hi 2 rfl
        refine wpOp_step rfl (fun K' hK => ?_)
        have hK := Lib.hid hK
        go_simp
        have hb := (Below.refl W.heap.size W).alloc (Nat.le_refl _) (.cells #[.bool false, .slice none 0 0] 49)
        exact hK.out _ _ ⟨HI.out.put Hi.out (by decide) rfl (by simp) (by decide) (⟨W.heap.size, rfl, HI.out.world.size, SBk.new _ _ _⟩) (fun j u h => RelR.mono hb j u h) (HI.out.world.trans (hb.mono HI.out.world.size)), Dst.left (by decide) rfl (by decide) (by rw [HI.out.tsize]; simp) (HI.out.fresh (i := 3) (by decide) (fun _ _ h => h))⟩
      | 3, _ =>
        have Hi := Hi 3 rfl
        refine wpOp_step rfl (fun K' hK => ?_)
        have hK := Lib.hid hK
        go_simp
        have hb := (Below.refl W.heap.size W).alloc (Nat.le_refl _) (.cells #[.bool false, .slice none 0 0] 49)
        exact hK.out _ _ ⟨HI.out.put Hi.out (by decide) rfl (by simp) (by decide) (⟨W.heap.size, rfl, HI.out.world.size, SBk.new _ _ _⟩) (fun j u h => RelR.mono hb j u h) (HI.out.world.trans (hb.mono HI.out.world.size)), Dst.right (by decide) rfl (by decide) (by rw [HI.out.tsize]; simp) (HI.out.fresh (i := 2) (by decide) (fun _ _ h => h))⟩
      | n + 4, h => exact absurd h (by omega)
    · intro listed a W hI hD hall
      obtain ⟨v0, x0, e0⟩ := hI.slots 0 (by decide) (hall 0 (by decide))
      obtain rfl : v0 = .agg #[.bool (zneg x), .slice pa_1 (zlen x) ca_1] := e0
      have x0 : a.tmps[47]? = some (.agg #[.bool (zneg x), .slice pa_1 (zlen x) ca_1]) := x0
      obtain ⟨v1, x1, e1⟩ := hI.slots 1 (by decide) (hall 1 (by decide))
      obtain rfl : v1 = .agg #[.bool (zneg y), .slice pb_1 (zlen y) cb_1] := e1
      have x1 : a.tmps[48]? = some (.agg #[.bool (zneg y), .slice pb_1 (zlen y) cb_1]) := x1
      obtain ⟨v2, x2, gw1_2, e2, rrw1_2, rrw1_2_1⟩ := hI.slots 2 (by decide) (hall 2 (by decide))
      obtain rfl := e2
      have RRW1_2 := Lib.hid rrw1_2
      clear rrw1_2
      have RRW1_2_1 := Lib.hid rrw1_2_1
      clear rrw1_2_1
      have x2 : a.tmps[12]? = some (.pointer (some ⟨gw1_2, 0, none⟩)) := x2
      obtain ⟨v3, x3, gw1_3, e3, rrw1_3, rrw1_3_1⟩ := hI.slots 3 (by decide) (hall 3 (by decide))
      obtain rfl := e3
      have RRW1_3 := Lib.hid rrw1_3
      clear rrw1_3
      have RRW1_3_1 := Lib.hid rrw1_3_1
      clear rrw1_3_1
      have x3 : a.tmps[13]? = some (.pointer (some ⟨gw1_3, 0, none⟩)) := x3
      have hD := hD (hall 2 (by decide)) (hall 3 (by decide))
      have hne : gw1_2 ≠ gw1_3 := by
        intro e
        apply hD
        show a.tmps[12]? = a.tmps[13]?
        rw [x2, x3, e]
      have HNE := Lib.hid hne
      clear hne hD
      have ea := hI.fin [(47, .agg #[.bool (zneg x), .slice pa_1 (zlen x) ca_1]), (48, .agg #[.bool (zneg y), .slice pb_1 (zlen y) cb_1]), (12, .pointer (some ⟨gw1_2, 0, none⟩)), (13, .pointer (some ⟨gw1_3, 0, none⟩))] (by
        intro p hp
        simp only [List.mem_cons, List.not_mem_nil, or_false] at hp
        rcases hp with rfl | rfl | rfl | rfl
        · exact x0
        · exact x1
        · exact x2
        · exact x3) (by
        intro d hd i him h
        match i, him with
        | 0, _ => exact hd _ (ix 0 rfl) h
        | 1, _ => exact hd _ (ix 1 rfl) h
        | 2, _ => exact hd _ (ix 2 rfl) h
        | 3, _ => exact hd _ (ix 3 rfl) h
        | n + 4, h => omega)
      have EA := Lib.hid ea
      have HBW := Lib.hid hI.world
      have HI := Lib.hid hI
      clear ea hI hall
      have K1 := Lib.hid (K1.out.below HBW.out)
      have K2 := Lib.hid (K2.out.below HBW.out)
      have K3 := Lib.hid (K3.out.below HBW.out)
      have RX := Lib.hid (RX.out.below HBW.out)
      have RY := Lib.hid (RY.out.below HBW.out)
      have RG0 := Lib.hid (RG0.out.below HBW.out)
      have RG := Lib.hid (RG.out.below HBW.out)
      have HBX := Lib.hid (HB6.out.trans (HBW.out.mono HB6.out.size))
      have K4 : Hid (SBk W gw1_2 #[.bool false, .slice none 0 0] 49) := RRW1_2_1
      have K5 : Hid (SBk W gw1_3 #[.bool false, .slice none 0 0] 49) := RRW1_3_1
      have dK40 := K4.out.cell (i := 0) rfl
      have fK40 := K4.out.frozen (i := 0)
      have dK41 := K4.out.cell (i := 1) rfl
      have fK41 := K4.out.frozen (i := 1)
      have dK50 := K5.out.cell (i := 0) rfl
      have fK50 := K5.out.frozen (i := 0)
      have dK51 := K5.out.cell (i := 1) rfl
      have fK51 := K5.out.frozen (i := 1)
      have ddK50 : ((W.setCell ⟨gw1_2, 0, none⟩ (.bool (zneg x))).setCell ⟨gw1_2, 1, none⟩ (.slice pa_1 (zlen x) ca_1)).cell? ⟨gw1_3, 0, none⟩ = some (.bool false) := ((store_off (by have := RRW1_2.out; have := RRW1_3.out; have := HNE.out; omega) (l := [.bool (zneg x), .slice pa_1 (zlen x) ca_1]) (i := 0) K5.out)).cell (i := 0) rfl
      have ddK51 : ((W.setCell ⟨gw1_2, 0, none⟩ (.bool (zneg x))).setCell ⟨gw1_2, 1, none⟩ (.slice pa_1 (zlen x) ca_1)).cell? ⟨gw1_3, 1, none⟩ = some (.slice none 0 0) := ((store_off (by have := RRW1_2.out; have := RRW1_3.out; have := HNE.out; omega) (l := [.bool (zneg x), .slice pa_1 (zlen x) ca_1]) (i := 0) K5.out)).cell (i := 1) rfl
      refine tail_succ (t := 1) ?_
      refine wpOp_step rfl (fun K' hK => ?_)
      have hK := Lib.hid hK
      go_simp
      refine hK.out _ _ ?_
      clear hK
      refine tail_succ (t := 0) ?_
      refine wpOp_step rfl (fun K' hK => ?_)
      have hK := Lib.hid hK
      go_simp
      refine hK.out _ _ ?_
      clear hK
      refine tail_nil ?_
      have s0 : ∀ {v' : Value} {n' : Nat}, RN W v' n' → RN (storeAll W (gw1_2) 0 [.bool (zneg x), .slice pa_1 (zlen x) ca_1]) v' n' := fun h' => store_rn _ h' K4.out (by simp [noInt]) (by simp [plainV])
      have o0 : ∀ {g' : Nat} {cs' : Array Value} {T' : TypeId}, g' ≠ gw1_2 → SBk W g' cs' T' → SBk (storeAll W (gw1_2) 0 [.bool (zneg x), .slice pa_1 (zlen x) ca_1]) g' cs' T' := fun hg' h' => store_off hg' _ 0 h'
      have s1 : ∀ {v' : Value} {n' : Nat}, RN (storeAll W (gw1_2) 0 [.bool (zneg x), .slice pa_1 (zlen x) ca_1]) v' n' → RN (storeAll (storeAll W (gw1_2) 0 [.bool (zneg x), .slice pa_1 (zlen x) ca_1]) (gw1_3) 0 [.bool (zneg y), .slice pb_1 (zlen y) cb_1]) v' n' := fun h' => store_rn _ h' (o0 (by have := RRW1_2.out; have := RRW1_3.out; have := HNE.out; omega) K5.out) (by simp [noInt]) (by simp [plainV])
      have o1 : ∀ {g' : Nat} {cs' : Array Value} {T' : TypeId}, g' ≠ gw1_3 → SBk (storeAll W (gw1_2) 0 [.bool (zneg x), .slice pa_1 (zlen x) ca_1]) g' cs' T' → SBk (storeAll (storeAll W (gw1_2) 0 [.bool (zneg x), .slice pa_1 (zlen x) ca_1]) (gw1_3) 0 [.bool (zneg y), .slice pb_1 (zlen y) cb_1]) g' cs' T' := fun hg' h' => store_off hg' _ 0 h'
      exact ⟨rfl, gw1_2, gw1_3, EA.out, (store_below (l := [.bool (zneg y), .slice pb_1 (zlen y) cb_1]) (i := 0) (by have := RRW1_2.out; have := RRW1_3.out; have := HNE.out; omega) (store_below (l := [.bool (zneg x), .slice pa_1 (zlen x) ca_1]) (i := 0) (by have := RRW1_2.out; have := RRW1_3.out; have := HNE.out; omega) HBX.out)), (o1 (by have := RRW1_2.out; have := RRW1_3.out; have := HNE.out; omega) (o0 (by have := RRW1_2.out; have := RRW1_3.out; have := HNE.out; omega) K1.out)), (o1 (by have := RRW1_2.out; have := RRW1_3.out; have := HNE.out; omega) (o0 (by have := RRW1_2.out; have := RRW1_3.out; have := HNE.out; omega) K2.out)), (o1 (by have := RRW1_2.out; have := RRW1_3.out; have := HNE.out; omega) (o0 (by have := RRW1_2.out; have := RRW1_3.out; have := HNE.out; omega) K3.out)), (store_off (by have := RRW1_2.out; have := RRW1_3.out; have := HNE.out; omega) (l := [.bool (zneg y), .slice pb_1 (zlen y) cb_1]) (i := 0) (store_blk (l := [.bool (zneg x), .slice pa_1 (zlen x) ca_1]) (i := 0) K4.out)), (store_blk (l := [.bool (zneg y), .slice pb_1 (zlen y) cb_1]) (i := 0) (store_off (by have := RRW1_2.out; have := RRW1_3.out; have := HNE.out; omega) (l := [.bool (zneg x), .slice pa_1 (zlen x) ca_1]) (i := 0) K5.out)), (s1 (s0 RX.out)), (s1 (s0 RY.out)), (s1 (s0 RG0.out)), (s1 (s0 RG.out)), RRW1_2.out, RRW1_3.out, HNE.out⟩
    · intro listed a W hI hD hall
      obtain ⟨v0, x0, e0⟩ := hI.slots 0 (by decide) (hall 0 (by decide) (by decide))
      obtain rfl : v0 = .agg #[.bool (zneg x), .slice pa_1 (zlen x) ca_1] := e0
      have x0 : a.tmps[47]? = some (.agg #[.bool (zneg x), .slice pa_1 (zlen x) ca_1]) := x0
      obtain ⟨v2, x2, gw1_2, e2, rrw1_2, rrw1_2_1⟩ := hI.slots 2 (by decide) (hall 2 (by decide) (by decide))
      obtain rfl := e2
      have RRW1_2 := Lib.hid rrw1_2
      clear rrw1_2
      have RRW1_2_1 := Lib.hid rrw1_2_1
      clear rrw1_2_1
      have x2 : a.tmps[12]? = some (.pointer (some ⟨gw1_2, 0, none⟩)) := x2
      obtain ⟨v3, x3, gw1_3, e3, rrw1_3, rrw1_3_1⟩ := hI.slots 3 (by decide) (hall 3 (by decide) (by decide))
      obtain rfl := e3
      have RRW1_3 := Lib.hid rrw1_3
      clear rrw1_3
      have RRW1_3_1 := Lib.hid rrw1_3_1
      clear rrw1_3_1
      have x3 : a.tmps[13]? = some (.pointer (some ⟨gw1_3, 0, none⟩)) := x3
      have hD := hD (hall 2 (by decide) (by decide)) (hall 3 (by decide) (by decide))
      have hne : gw1_2 ≠ gw1_3 := by
        intro e
        apply hD
        show a.tmps[12]? = a.tmps[13]?
        rw [x2, x3, e]
      have HNE := Lib.hid hne
      clear hne hD
      have HBW := Lib.hid hI.world
      have HI := Lib.hid hI
      clear hI hall
      have K1 := Lib.hid (K1.out.below HBW.out)
      have K2 := Lib.hid (K2.out.below HBW.out)
      have K3 := Lib.hid (K3.out.below HBW.out)
      have RX := Lib.hid (RX.out.below HBW.out)
      have RY := Lib.hid (RY.out.below HBW.out)
      have RG0 := Lib.hid (RG0.out.below HBW.out)
      have RG := Lib.hid (RG.out.below HBW.out)
      have HBX := Lib.hid (HB6.out.trans (HBW.out.mono HB6.out.size))
      have K4 : Hid (SBk W gw1_2 #[.bool false, .slice none 0 0] 49) := RRW1_2_1
      have K5 : Hid (SBk W gw1_3 #[.bool false, .slice none 0 0] 49) := RRW1_3_1
      have dK40 := K4.out.cell (i := 0) rfl
      have fK40 := K4.out.frozen (i := 0)
      have dK41 := K4.out.cell (i := 1) rfl
      have fK41 := K4.out.frozen (i := 1)
      have dK50 := K5.out.cell (i := 0) rfl
      have fK50 := K5.out.frozen (i := 0)
      have dK51 := K5.out.cell (i := 1) rfl
      have fK51 := K5.out.frozen (i := 1)
      have ddK50 : ((W.setCell ⟨gw1_2, 0, none⟩ (.bool (zneg x))).setCell ⟨gw1_2, 1, none⟩ (.slice pa_1 (zlen x) ca_1)).cell? ⟨gw1_3, 0, none⟩ = some (.bool false) := ((store_off (by have := RRW1_2.out; have := RRW1_3.out; have := HNE.out; omega) (l := [.bool (zneg x), .slice pa_1 (zlen x) ca_1]) (i := 0) K5.out)).cell (i := 0) rfl
      have ddK51 : ((W.setCell ⟨gw1_2, 0, none⟩ (.bool (zneg x))).setCell ⟨gw1_2, 1, none⟩ (.slice pa_1 (zlen x) ca_1)).cell? ⟨gw1_3, 1, none⟩ = some (.slice none 0 0) := ((store_off (by have := RRW1_2.out; have := RRW1_3.out; have := HNE.out; omega) (l := [.bool (zneg x), .slice pa_1 (zlen x) ca_1]) (i := 0) K5.out)).cell (i := 1) rfl
      have y9 : a.tmps[9]? = some (.pointer (some ⟨W1.heap.size + 1, 0, none⟩)) := HI.out.rest 9 (by decide)
      have qK20 : ((W.setCell ⟨gw1_2, 0, none⟩ (.bool (zneg x))).setCell ⟨gw1_2, 1, none⟩ (.slice pa_1 (zlen x) ca_1)).cell? ⟨W1.heap.size + 1, 0, none⟩ = some (.bool (zneg y)) := ((store_off (by have := RRW1_2.out; have := RRW1_3.out; have := HNE.out; omega) (l := [.bool (zneg x), .slice pa_1 (zlen x) ca_1]) (i := 0) K2.out)).cell (i := 0) rfl
      have qK21 : ((W.setCell ⟨gw1_2, 0, none⟩ (.bool (zneg x))).setCell ⟨gw1_2, 1, none⟩ (.slice pa_1 (zlen x) ca_1)).cell? ⟨W1.heap.size + 1, 1, none⟩ = some (.slice pb_1 (zlen y) cb_1) := ((store_off (by have := RRW1_2.out; have := RRW1_3.out; have := HNE.out; omega) (l := [.bool (zneg x), .slice pa_1 (zlen x) ca_1]) (i := 0) K2.out)).cell (i := 1) rfl
      refine wpOp_step rfl (fun K' hK => ?_)
      have hK := Lib.hid hK
      go_simp
      refine hK.out _ _ ?_
      clear hK
      refine wpOp_step rfl (fun K' hK => ?_)
      have hK := Lib.hid hK
      go_simp
      refine hK.out (a.put (some 48) (.agg #[.bool (zneg y), .slice pb_1 (zlen y) cb_1])) _ ?_
      clear hK
      have z0 : (a.put (some 48) (.agg #[.bool (zneg y), .slice pb_1 (zlen y) cb_1])).tmps[47]? = some (.agg #[.bool (zneg x), .slice pa_1 (zlen x) ca_1]) := (put_ne (by decide)).trans x0
      have z2 : (a.put (some 48) (.agg #[.bool (zneg y), .slice pb_1 (zlen y) cb_1])).tmps[12]? = some (.pointer (some ⟨gw1_2, 0, none⟩)) := (put_ne (by decide)).trans x2
      have z3 : (a.put (some 48) (.agg #[.bool (zneg y), .slice pb_1 (zlen y) cb_1])).tmps[13]? = some (.pointer (some ⟨gw1_3, 0, none⟩)) := (put_ne (by decide)).trans x3
      have z1 : (a.put (some 48) (.agg #[.bool (zneg y), .slice pb_1 (zlen y) cb_1])).tmps[48]? = some (.agg #[.bool (zneg y), .slice pb_1 (zlen y) cb_1]) := put_same (by rw [HI.out.tsize]; simp)
      have ea := HI.out.fin_put (sd := 48) (v := .agg #[.bool (zneg y), .slice pb_1 (zlen y) cb_1]) [(47, .agg #[.bool (zneg x), .slice pa_1 (zlen x) ca_1]), (48, .agg #[.bool (zneg y), .slice pb_1 (zlen y) cb_1]), (12, .pointer (some ⟨gw1_2, 0, none⟩)), (13, .pointer (some ⟨gw1_3, 0, none⟩))] (by
        intro p hp
        simp only [List.mem_cons, List.not_mem_nil, or_false] at hp
        rcases hp with rfl | rfl | rfl | rfl
        · exact z0
        · exact z1
        · exact z2
        · exact z3) (by
        intro d hd
        refine ⟨fun i him h => ?_, hd _ (ix 1 rfl)⟩
        match i, him with
        | 0, _ => exact hd _ (ix 0 rfl) h
        | 1, _ => exact hd _ (ix 1 rfl) h
        | 2, _ => exact hd _ (ix 2 rfl) h
        | 3, _ => exact hd _ (ix 3 rfl) h
        | n + 4, h => omega)
      have EA := Lib.hid ea
      clear ea x0 x2 x3
      generalize a.put (some 48) (.agg #[.bool (zneg y), .slice pb_1 (zlen y) cb_1]) = a2 at *
      refine tail_succ (t := 0) ?_
      refine wpOp_step rfl (fun K' hK => ?_)
      have hK := Lib.hid hK
      go_simp
      refine hK.out _ _ ?_
      clear hK
      refine tail_nil ?_
      have s0 : ∀ {v' : Value} {n' : Nat}, RN W v' n' → RN (storeAll W (gw1_2) 0 [.bool (zneg x), .slice pa_1 (zlen x) ca_1]) v' n' := fun h' => store_rn _ h' K4.out (by simp [noInt]) (by simp [plainV])
      have o0 : ∀ {g' : Nat} {cs' : Array Value} {T' : TypeId}, g' ≠ gw1_2 → SBk W g' cs' T' → SBk (storeAll W (gw1_2) 0 [.bool (zneg x), .slice pa_1 (zlen x) ca_1]) g' cs' T' := fun hg' h' => store_off hg' _ 0 h'
      have s1 : ∀ {v' : Value} {n' : Nat}, RN (storeAll W (gw1_2) 0 [.bool (zneg x), .slice pa_1 (zlen x) ca_1]) v' n' → RN (storeAll (storeAll W (gw1_2) 0 [.bool (zneg x), .slice pa_1 (zlen x) ca_1]) (gw1_3) 0 [.bool (zneg y), .slice pb_1 (zlen y) cb_1]) v' n' := fun h' => store_rn _ h' (o0 (by have := RRW1_2.out; have := RRW1_3.out; have := HNE.out; omega) K5.out) (by simp [noInt]) (by simp [plainV])
      have o1 : ∀ {g' : Nat} {cs' : Array Value} {T' : TypeId}, g' ≠ gw1_3 → SBk (storeAll W (gw1_2) 0 [.bool (zneg x), .slice pa_1 (zlen x) ca_1]) g' cs' T' → SBk (storeAll (storeAll W (gw1_2) 0 [.bool (zneg x), .slice pa_1 (zlen x) ca_1]) (gw1_3) 0 [.bool (zneg y), .slice pb_1 (zlen y) cb_1]) g' cs' T' := fun hg' h' => store_off hg' _ 0 h'
      exact ⟨rfl, gw1_2, gw1_3, EA.out, (store_below (l := [.bool (zneg y), .slice pb_1 (zlen y) cb_1]) (i := 0) (by have := RRW1_2.out; have := RRW1_3.out; have := HNE.out; omega) (store_below (l := [.bool (zneg x), .slice pa_1 (zlen x) ca_1]) (i := 0) (by have := RRW1_2.out; have := RRW1_3.out; have := HNE.out; omega) HBX.out)), (o1 (by have := RRW1_2.out; have := RRW1_3.out; have := HNE.out; omega) (o0 (by have := RRW1_2.out; have := RRW1_3.out; have := HNE.out; omega) K1.out)), (o1 (by have := RRW1_2.out; have := RRW1_3.out; have := HNE.out; omega) (o0 (by have := RRW1_2.out; have := RRW1_3.out; have := HNE.out; omega) K2.out)), (o1 (by have := RRW1_2.out; have := RRW1_3.out; have := HNE.out; omega) (o0 (by have := RRW1_2.out; have := RRW1_3.out; have := HNE.out; omega) K3.out)), (store_off (by have := RRW1_2.out; have := RRW1_3.out; have := HNE.out; omega) (l := [.bool (zneg y), .slice pb_1 (zlen y) cb_1]) (i := 0) (store_blk (l := [.bool (zneg x), .slice pa_1 (zlen x) ca_1]) (i := 0) K4.out)), (store_blk (l := [.bool (zneg y), .slice pb_1 (zlen y) cb_1]) (i := 0) (store_off (by have := RRW1_2.out; have := RRW1_3.out; have := HNE.out; omega) (l := [.bool (zneg x), .slice pa_1 (zlen x) ca_1]) (i := 0) K5.out)), (s1 (s0 RX.out)), (s1 (s0 RY.out)), (s1 (s0 RG0.out)), (s1 (s0 RG.out)), RRW1_2.out, RRW1_3.out, HNE.out⟩
  rintro a' W7 ⟨gw1_2, gw1_3, rfl, z0, z1, z2, z3, z4, z5, z6, z7, z8, z9, z10, z11, z12⟩
  have HB7 := Lib.hid z0
  have K1 := Lib.hid z1
  have K2 := Lib.hid z2
  have K3 := Lib.hid z3
  have K4 := Lib.hid z4
  have K5 := Lib.hid z5
  have RX := Lib.hid z6
  have RY := Lib.hid z7
  have RG0 := Lib.hid z8
  have RG := Lib.hid z9
  have R2xW7 := z10
  have R3xW7 := z11
  have NEW7 := z12
  clear z0 z1 z2 z3 z4 z5 z6 z7 z8 z9 z10 z11 z12
  simp only [putL, List.setIfInBounds_toArray, List.set_cons_zero, List.set_cons_succ]
  go_wp2_with fail
  with_reducible refine ((sSmall 1 1 rfl (by decide) (by decide) _)).mono ?_
  rintro e W8 ⟨p_5, c_5, rfl, r5_0, hb⟩
  have K1 := Lib.hid (K1.out.below hb)
  have K2 := Lib.hid (K2.out.below hb)
  have K3 := Lib.hid (K3.out.below hb)
  have K4 := Lib.hid (K4.out.below hb)
  have K5 := Lib.hid (K5.out.below hb)
  have RX := Lib.hid (RX.out.below hb)
  have RY := Lib.hid (RY.out.below hb)
  have RG0 := Lib.hid (RG0.out.below hb)
  have RG := Lib.hid (RG.out.below hb)
  have HB8 := Lib.hid (HB7.out.trans (hb.mono HB7.out.size))
  have R1z := Lib.hid r5_0
  clear hb r5_0
  go_wp2_with fail
  with_reducible refine ((sSmall 0 0 rfl (by decide) (by decide) _)).mono ?_
  rintro e W9 ⟨p_6, c_6, rfl, r6_0, hb⟩
  have K1 := Lib.hid (K1.out.below hb)
  have K2 := Lib.hid (K2.out.below hb)
  have K3 := Lib.hid (K3.out.below hb)
  have K4 := Lib.hid (K4.out.below hb)
  have K5 := Lib.hid (K5.out.below hb)
  have RX := Lib.hid (RX.out.below hb)
  have RY := Lib.hid (RY.out.below hb)
  have RG0 := Lib.hid (RG0.out.below hb)
  have RG := Lib.hid (RG.out.below hb)
  have R1z := Lib.hid (R1z.out.below hb)
  have HB9 := Lib.hid (HB8.out.trans (hb.mono HB8.out.size))
  have R0z := Lib.hid r6_0
  clear hb r6_0
  have L12 := K1.out.lt
  have L13 := K2.out.lt
  have L14 := K3.out.lt
  have L15 := K4.out.lt
  have L16 := K5.out.lt
  have L17 := HB9.out.size
  go_wp2
  go_loopg [16] (y.natAbs) (fun k _ wr => ∃ r s u v : Int, Hid (s.natAbs = k ∧ BzI x y r s u v) ∧ Hid (Below w.heap.size w wr) ∧ Hid (HZ wr (W1.heap.size) x) ∧ Hid (HZ wr (W1.heap.size + 1) y) ∧ Hid (HZ wr (W4.heap.size) g) ∧ Hid (HZ wr (gw1_2) r) ∧ Hid (HZ wr (gw1_3) s) ∧ Hid (HZ wr (W9.heap.size) u) ∧ Hid (HZ wr (W9.heap.size + 1) v))
  case atStart =>
    obtain ⟨k14, k15, hb⟩ := boxes W9 [(#[.bool (zneg (1)), .slice p_5 (zlen (1)) c_5], 49), (#[.bool (zneg (0)), .slice p_6 (zlen (0)) c_6], 49)] _ rfl
    have hb := show Below W9.heap.size W9 _ from hb
    exact ⟨x, y, 1, 0, Lib.hid ⟨rfl, BzI.start x y⟩, Lib.hid (HB9.out.trans (hb.mono HB9.out.size)), Lib.hid (⟨_, _, K1.out.below hb, RX.out.below hb⟩), Lib.hid (⟨_, _, K2.out.below hb, RY.out.below hb⟩), Lib.hid (⟨_, _, K3.out.below hb, RG.out.below hb⟩), Lib.hid (⟨_, _, K4.out.below hb, RX.out.below hb⟩), Lib.hid (⟨_, _, K5.out.below hb, RY.out.below hb⟩), Lib.hid (⟨_, _, k14, R1z.out.below hb⟩), Lib.hid (⟨_, _, k15, R0z.out.below hb⟩)⟩
  case round =>
    obtain ⟨r, s, u, v, hI, hb, h8, h9, h11, h12, h13, h14, h15⟩ := hrel
    have HB0 := hb
    clear hb
    obtain ⟨xp8, xc8, K8r, R8r⟩ := h8.out
    have K8r := Lib.hid K8r
    have R8r := Lib.hid R8r
    clear h8
    obtain ⟨xp9, xc9, K9r, R9r⟩ := h9.out
    have K9r := Lib.hid K9r
    have R9r := Lib.hid R9r
    clear h9
    obtain ⟨xp11, xc11, K11r, R11r⟩ := h11.out
    have K11r := Lib.hid K11r
    have R11r := Lib.hid R11r
    clear h11
    obtain ⟨xp12, xc12, K12r, R12r⟩ := h12.out
    have K12r := Lib.hid K12r
    have R12r := Lib.hid R12r
    clear h12
    obtain ⟨xp13, xc13, K13r, R13r⟩ := h13.out
    have K13r := Lib.hid K13r
    have R13r := Lib.hid R13r
    clear h13
    obtain ⟨xp14, xc14, K14r, R14r⟩ := h14.out
    have K14r := Lib.hid K14r
    have R14r := Lib.hid R14r
    clear h14
    obtain ⟨xp15, xc15, K15r, R15r⟩ := h15.out
    have K15r := Lib.hid K15r
    have R15r := Lib.hid R15r
    clear h15
    by_cases hs0 : s = 0
    · subst hs0
      obtain ⟨qq, hqq⟩ := hfin r u v hI.out.2
      have HF := Lib.hid hqq
      have CO := Lib.hid (hop r u v hI.out.2)
      clear hqq
      cases hzr : zneg r
      case' false =>
        rw [hzr] at K12r HF
        simp only [Bool.false_eq_true, if_false] at HF
        clear hzr
        have dK13r0 := K13r.out.cell (i := 0) rfl
        have dK13r1 := K13r.out.cell (i := 1) rfl
        go_wp2_with fail
        with_reducible refine (C0.out _ _ _ R13r.out).mono ?_
        rintro e V1 ⟨rfl, hb⟩
        clear dK13r0 dK13r1
        have K8r := Lib.hid (K8r.out.below hb)
        have K9r := Lib.hid (K9r.out.below hb)
        have K11r := Lib.hid (K11r.out.below hb)
        have K12r := Lib.hid (K12r.out.below hb)
        have K13r := Lib.hid (K13r.out.below hb)
        have K14r := Lib.hid (K14r.out.below hb)
        have K15r := Lib.hid (K15r.out.below hb)
        have R8r := Lib.hid (R8r.out.below hb)
        have R9r := Lib.hid (R9r.out.below hb)
        have R11r := Lib.hid (R11r.out.below hb)
        have R12r := Lib.hid (R12r.out.below hb)
        have R13r := Lib.hid (R13r.out.below hb)
        have R14r := Lib.hid (R14r.out.below hb)
        have R15r := Lib.hid (R15r.out.below hb)
        have HB1 := Lib.hid (HB0.out.trans (hb.mono HB0.out.size))
        clear hb
        have dK12r0 := K12r.out.cell (i := 0) rfl

        obtain ⟨uu, huu⟩ : ∃ z, z = u := ⟨_, rfl⟩
        have K14m := K14r.out
        have R14m := R14r.out
        have HFm := HF.out
        rw [← huu] at K14m R14m HFm
        go_upto_region 15 with fail
        refine wp_world (fun V => Below w.heap.size w V ∧ SBk V (W1.heap.size) #[.bool (zneg x), .slice xp8 (zlen x) xc8] 49 ∧ RN V (.slice xp8 (zlen x) xc8) x.natAbs ∧ SBk V (W1.heap.size + 1) #[.bool (zneg y), .slice xp9 (zlen y) xc9] 49 ∧ RN V (.slice xp9 (zlen y) xc9) y.natAbs ∧ SBk V (W4.heap.size) #[.bool (zneg g), .slice xp11 (zlen g) xc11] 49 ∧ RN V (.slice xp11 (zlen g) xc11) g.natAbs ∧ SBk V (gw1_3) #[.bool (zneg (0 : Int)), .slice xp13 (zlen (0 : Int)) xc13] 49 ∧ RN V (.slice xp13 (zlen (0 : Int)) xc13) (0 : Int).natAbs ∧ (∃ up uc, SBk V (W9.heap.size) #[.bool (zneg uu), .slice up (zlen uu) uc] 49 ∧ RN V (.slice up (zlen uu) uc) uu.natAbs) ∧ SBk V (W9.heap.size + 1) #[.bool (zneg v), .slice xp15 (zlen v) xc15] 49 ∧ RN V (.slice xp15 (zlen v) xc15) v.natAbs) ⟨HB1.out, K8r.out, R8r.out, K9r.out, R9r.out, K11r.out, R11r.out, K13r.out, R13r.out, ⟨_, _, K14m, R14m⟩, K15r.out, R15r.out⟩ ?_
        have HF := Lib.hid HFm
        clear HFm K14m R14m huu
        rintro VX ⟨z0, z1, z2, z3, z4, z5, z6, z7, z8, ⟨up, uc, z14a, z14b⟩, z10, z11⟩
        have HB0 := Lib.hid z0
        have K8r := Lib.hid z1
        have R8r := Lib.hid z2
        have K9r := Lib.hid z3
        have R9r := Lib.hid z4
        have K11r := Lib.hid z5
        have R11r := Lib.hid z6
        have K13r := Lib.hid z7
        have R13r := Lib.hid z8
        have K14r := Lib.hid z14a
        have R14r := Lib.hid z14b
        have K15r := Lib.hid z10
        have R15r := Lib.hid z11
        clear z0 z1 z2 z3 z4 z5 z6 z7 z8 z14a z14b z10 z11
      case' true =>
        rw [hzr] at K12r HF
        simp only [if_true] at HF
        clear hzr
        have dK13r0 := K13r.out.cell (i := 0) rfl
        have dK13r1 := K13r.out.cell (i := 1) rfl
        go_wp2_with fail
        with_reducible refine (C0.out _ _ _ R13r.out).mono ?_
        rintro e V1 ⟨rfl, hb⟩
        clear dK13r0 dK13r1
        have K8r := Lib.hid (K8r.out.below hb)
        have K9r := Lib.hid (K9r.out.below hb)
        have K11r := Lib.hid (K11r.out.below hb)
        have K12r := Lib.hid (K12r.out.below hb)
        have K13r := Lib.hid (K13r.out.below hb)
        have K14r := Lib.hid (K14r.out.below hb)
        have K15r := Lib.hid (K15r.out.below hb)
        have R8r := Lib.hid (R8r.out.below hb)
        have R9r := Lib.hid (R9r.out.below hb)
        have R11r := Lib.hid (R11r.out.below hb)
        have R12r := Lib.hid (R12r.out.below hb)
        have R13r := Lib.hid (R13r.out.below hb)
        have R14r := Lib.hid (R14r.out.below hb)
        have R15r := Lib.hid (R15r.out.below hb)
        have HB1 := Lib.hid (HB0.out.trans (hb.mono HB0.out.size))
        clear hb
        have dK12r0 := K12r.out.cell (i := 0) rfl
        have dK14r0 := K14r.out.cell (i := 0) rfl
        have dK14r1 := K14r.out.cell (i := 1) rfl
        go_wp2_with fail
        with_reducible refine (CO.out _ _ _ R14r.out).mono ?_
        rintro e V2 ⟨p_8, c_8, rfl, r8_0, hb⟩
        clear dK12r0 dK14r0 dK14r1
        have K8r := Lib.hid (K8r.out.below hb)
        have K9r := Lib.hid (K9r.out.below hb)
        have K11r := Lib.hid (K11r.out.below hb)
        have K12r := Lib.hid (K12r.out.below hb)
        have K13r := Lib.hid (K13r.out.below hb)
        have K14r := Lib.hid (K14r.out.below hb)
        have K15r := Lib.hid (K15r.out.below hb)
        have R8r := Lib.hid (R8r.out.below hb)
        have R9r := Lib.hid (R9r.out.below hb)
        have R11r := Lib.hid (R11r.out.below hb)
        have R12r := Lib.hid (R12r.out.below hb)
        have R13r := Lib.hid (R13r.out.below hb)
        have R14r := Lib.hid (R14r.out.below hb)
        have R15r := Lib.hid (R15r.out.below hb)
        have HB2 := Lib.hid (HB1.out.trans (hb.mono HB1.out.size))
        have RU := Lib.hid r8_0
        clear hb r8_0
        have dK14r0 := K14r.out.cell (i := 0) rfl
        have fK14r0 := K14r.out.frozen (i := 0)
        have dK14r1 := K14r.out.cell (i := 1) rfl
        have fK14r1 := K14r.out.frozen (i := 1)
        go_upto_region 15 with fail
        clear dK14r0 fK14r0 dK14r1 fK14r1
        refine wp_world (fun V => Below w.heap.size w V ∧ SBk V (W1.heap.size) #[.bool (zneg (x)), .slice xp8 (zlen (x)) xc8] 49 ∧ SBk V (W1.heap.size + 1) #[.bool (zneg (y)), .slice xp9 (zlen (y)) xc9] 49 ∧ SBk V (W4.heap.size) #[.bool (zneg (g)), .slice xp11 (zlen (g)) xc11] 49 ∧ SBk V (gw1_2) #[.bool true, .slice xp12 (zlen (r)) xc12] 49 ∧ SBk V (gw1_3) #[.bool (zneg ((0 : Int))), .slice xp13 (zlen ((0 : Int))) xc13] 49 ∧ SBk V (W9.heap.size) #[.bool (zneg (-u)), .slice p_8 (zlen (-u)) c_8] 49 ∧ SBk V (W9.heap.size + 1) #[.bool (zneg (v)), .slice xp15 (zlen (v)) xc15] 49 ∧ RN V (.slice xp8 (zlen (x)) xc8) (x).natAbs ∧ RN V (.slice xp9 (zlen (y)) xc9) (y).natAbs ∧ RN V (.slice xp11 (zlen (g)) xc11) (g).natAbs ∧ RN V (.slice xp12 (zlen (r)) xc12) (r).natAbs ∧ RN V (.slice xp13 (zlen ((0 : Int))) xc13) ((0 : Int)).natAbs ∧ RN V (.slice xp14 (zlen (u)) xc14) (u).natAbs ∧ RN V (.slice xp15 (zlen (v)) xc15) (v).natAbs ∧ RN V (.slice p_8 (zlen (-u)) c_8) (-u).natAbs) (by
          have s0 : ∀ {v' : Value} {n' : Nat}, RN V2 v' n' → RN (storeAll V2 (W9.heap.size) 0 [.bool (zneg (-u)), .slice p_8 (zlen (-u)) c_8]) v' n' := fun h' => store_rn _ h' K14r.out (by simp [noInt]) (by simp [plainV])
          have o0 : ∀ {g' : Nat} {cs' : Array Value} {T' : TypeId}, g' ≠ W9.heap.size → SBk V2 g' cs' T' → SBk (storeAll V2 (W9.heap.size) 0 [.bool (zneg (-u)), .slice p_8 (zlen (-u)) c_8]) g' cs' T' := fun hg' h' => store_off hg' _ 0 h'
          exact ⟨(store_below (l := [.bool (zneg (-u)), .slice p_8 (zlen (-u)) c_8]) (i := 0) (by omega) HB2.out), (o0 (by omega) K8r.out), (o0 (by omega) K9r.out), (o0 (by omega) K11r.out), (o0 (by omega) K12r.out), (o0 (by omega) K13r.out), (store_blk (l := [.bool (zneg (-u)), .slice p_8 (zlen (-u)) c_8]) (i := 0) K14r.out), (o0 (by omega) K15r.out), (s0 R8r.out), (s0 R9r.out), (s0 R11r.out), (s0 R12r.out), (s0 R13r.out), (s0 R14r.out), (s0 R15r.out), (s0 RU.out)⟩) ?_
        rintro V3 ⟨hb, z0, z1, z2, z3, z4, z5, z6, z7, z8, z9, z10, z11, z12, z13, z14⟩
        have HB3 := Lib.hid hb
        have K8r := Lib.hid z0
        have K9r := Lib.hid z1
        have K11r := Lib.hid z2
        have K12r := Lib.hid z3
        have K13r := Lib.hid z4
        have K14r := Lib.hid z5
        have K15r := Lib.hid z6
        have R8r := Lib.hid z7
        have R9r := Lib.hid z8
        have R11r := Lib.hid z9
        have R12r := Lib.hid z10
        have R13r := Lib.hid z11
        have R14r := Lib.hid z12
        have R15r := Lib.hid z13
        have RU := Lib.hid z14
        clear hb z0 z1 z2 z3 z4 z5 z6 z7 z8 z9 z10 z11 z12 z13 z14

        obtain ⟨uu, huu⟩ : ∃ z, z = -u := ⟨_, rfl⟩
        have K14m := K14r.out
        have R14m := RU.out
        have HFm := HF.out
        rw [← huu] at K14m R14m HFm
        refine wp_world (fun V => Below w.heap.size w V ∧ SBk V (W1.heap.size) #[.bool (zneg x), .slice xp8 (zlen x) xc8] 49 ∧ RN V (.slice xp8 (zlen x) xc8) x.natAbs ∧ SBk V (W1.heap.size + 1) #[.bool (zneg y), .slice xp9 (zlen y) xc9] 49 ∧ RN V (.slice xp9 (zlen y) xc9) y.natAbs ∧ SBk V (W4.heap.size) #[.bool (zneg g), .slice xp11 (zlen g) xc11] 49 ∧ RN V (.slice xp11 (zlen g) xc11) g.natAbs ∧ SBk V (gw1_3) #[.bool (zneg (0 : Int)), .slice xp13 (zlen (0 : Int)) xc13] 49 ∧ RN V (.slice xp13 (zlen (0 : Int)) xc13) (0 : Int).natAbs ∧ (∃ up uc, SBk V (W9.heap.size) #[.bool (zneg uu), .slice up (zlen uu) uc] 49 ∧ RN V (.slice up (zlen uu) uc) uu.natAbs) ∧ SBk V (W9.heap.size + 1) #[.bool (zneg v), .slice xp15 (zlen v) xc15] 49 ∧ RN V (.slice xp15 (zlen v) xc15) v.natAbs) ⟨HB3.out, K8r.out, R8r.out, K9r.out, R9r.out, K11r.out, R11r.out, K13r.out, R13r.out, ⟨_, _, K14m, R14m⟩, K15r.out, R15r.out⟩ ?_
        have HF := Lib.hid HFm
        clear HFm K14m R14m huu
        rintro VX ⟨z0, z1, z2, z3, z4, z5, z6, z7, z8, ⟨up, uc, z14a, z14b⟩, z10, z11⟩
        have HB0 := Lib.hid z0
        have K8r := Lib.hid z1
        have R8r := Lib.hid z2
        have K9r := Lib.hid z3
        have R9r := Lib.hid z4
        have K11r := Lib.hid z5
        have R11r := Lib.hid z6
        have K13r := Lib.hid z7
        have R13r := Lib.hid z8
        have K14r := Lib.hid z14a
        have R14r := Lib.hid z14b
        have K15r := Lib.hid z10
        have R15r := Lib.hid z11
        clear z0 z1 z2 z3 z4 z5 z6 z7 z8 z14a z14b z10 z11
      all_goals
        go_wp2_with fail
        have L18 := K8r.out.lt
        have L19 := K9r.out.lt
        have L20 := K11r.out.lt
        have L21 := K13r.out.lt
        have L22 := K14r.out.lt
        have L23 := K15r.out.lt
        have L24 := HB0.out.size
        refine wp_region_post (fun a0 a' V => ∃ py2_2 cy2_2 pay2_4 cay2_4 pby2_4 cby2_4 pay2_5 cay2_5 pby2_5 cby2_5 py2_6 cy2_6 py2_7 cy2_7 gy2_8 gy2_9, a' = ⟨putL [(73, .pointer (some ⟨W1.heap.size + 1, 1, none⟩)), (74, .slice xp9 (zlen y) xc9), (75, .agg #[.bool (zneg yy), .slice py2_2 (zlen yy) cy2_2]), (76, .agg #[.bool (zneg g), .slice xp11 (zlen g) xc11]), (77, .tuple #[.agg #[.bool (zneg h), .slice pay2_4 (zlen h) cay2_4], .agg #[.bool (zneg mz), .slice pby2_4 (zlen mz) cby2_4]]), (72, .tuple #[.agg #[.bool (zneg h), .slice pay2_5 (zlen h) cay2_5], .agg #[.bool (zneg mz), .slice pby2_5 (zlen mz) cby2_5]]), (78, .agg #[.bool (zneg h), .slice py2_6 (zlen h) cy2_6]), (79, .agg #[.bool (zneg mz), .slice py2_7 (zlen mz) cy2_7]), (18, .pointer (some ⟨gy2_8, 0, none⟩)), (19, .pointer (some ⟨gy2_9, 0, none⟩))] a0.tmps, a0.defers⟩ ∧ Below w.heap.size w V ∧ SBk V (W1.heap.size) #[.bool (zneg x), .slice xp8 (zlen x) xc8] 49 ∧ SBk V (W1.heap.size + 1) #[.bool (zneg y), .slice xp9 (zlen y) xc9] 49 ∧ SBk V (W4.heap.size) #[.bool (zneg g), .slice xp11 (zlen g) xc11] 49 ∧ SBk V (gw1_3) #[.bool (zneg (0 : Int)), .slice xp13 (zlen (0 : Int)) xc13] 49 ∧ SBk V (W9.heap.size) #[.bool (zneg uu), .slice up (zlen uu) uc] 49 ∧ SBk V (W9.heap.size + 1) #[.bool (zneg v), .slice xp15 (zlen v) xc15] 49 ∧ SBk V (gy2_8) #[.bool (zneg h), .slice py2_6 (zlen h) cy2_6] 49 ∧ SBk V (gy2_9) #[.bool (zneg mz), .slice py2_7 (zlen mz) cy2_7] 49 ∧ RN V (.slice xp8 (zlen x) xc8) x.natAbs ∧ RN V (.slice xp9 (zlen y) xc9) y.natAbs ∧ RN V (.slice xp11 (zlen g) xc11) g.natAbs ∧ RN V (.slice xp13 (zlen (0 : Int)) xc13) (0 : Int).natAbs ∧ RN V (.slice up (zlen uu) uc) uu.natAbs ∧ RN V (.slice xp15 (zlen v) xc15) v.natAbs ∧ RN V (.slice py2_2 (zlen yy) cy2_2) yy.natAbs ∧ RN V (.slice py2_6 (zlen h) cy2_6) h.natAbs ∧ RN V (.slice py2_7 (zlen mz) cy2_7) mz.natAbs ∧ VX.heap.size ≤ gy2_8 ∧ VX.heap.size ≤ gy2_9 ∧ gy2_8 ≠ gy2_9) ?_ ?_
        · refine wp_region_swap (by kernel_rfl) 10 1 7 (fun i => [73, 74, 75, 76, 77, 72, 78, 79, 18, 19].getD i 0) (RelR [Rel.val (.pointer (some ⟨W1.heap.size + 1, 1, none⟩)), Rel.val (.slice xp9 (zlen y) xc9), Rel.int yy, Rel.val (.agg #[.bool (zneg g), .slice xp11 (zlen g) xc11]), Rel.int2 h mz, Rel.int2 h mz, Rel.int h, Rel.int mz, Rel.ptr VX.heap.size (.cells #[.bool false, .slice none 0 0] 49), Rel.ptr VX.heap.size (.cells #[.bool false, .slice none 0 0] 49)]) (fun W => Below VX.heap.size VX W) (Dst 8 9 (fun i => [73, 74, 75, 76, 77, 72, 78, 79, 18, 19].getD i 0)) (by decide) (by decide) (by kernel_rfl) (by kernel_rfl) (by kernel_rfl) (by kernel_rfl) Dst.start (Below.refl _ _).drew ?_ ?_ ?_
          · intro listed a W i hI hD hrd him
            have HI := Lib.hid hI
            have HD := Lib.hid hD
            have Hi := fun (j : Nat) (h : i = j) => (Lib.hid (h ▸ hrd) : Hid (j ∈ _))
            clear hI hrd hD
            match i, him with
            | 0, _ =>
              have Hi := Hi 0 rfl
              have y9 : a.tmps[9]? = some (.pointer (some ⟨W1.heap.size + 1, 0, none⟩)) := HI.out.rest 9 (by decide)
              refine wpOp_step rfl (fun K' hK => ?_)
              have hK := Lib.hid hK
              go_simp
              exact hK.out _ _ ⟨HI.out.put Hi.out (by decide) rfl (by simp) (by decide) (rfl) (fun j u h => h) (HI.out.world), HD.out.put (by decide) (by decide) rfl (by decide) (by decide)⟩
            | 1, _ =>
              have Hi := Hi 1 rfl
              have x0 : a.tmps[73]? = some (.pointer (some ⟨W1.heap.size + 1, 1, none⟩)) := by
                obtain ⟨v', y', e'⟩ := HI.out.at (i := 0) Hi.out (by kernel_rfl) (by decide)
                obtain rfl : v' = .pointer (some ⟨W1.heap.size + 1, 1, none⟩) := e'
                exact y'
              have dK9r1 := (K9r.out.below HI.out.world).cell (i := 1) rfl
              refine wpOp_step rfl (fun K' hK => ?_)
              have hK := Lib.hid hK
              go_simp
              exact hK.out _ _ ⟨HI.out.put Hi.out (by decide) rfl (by simp) (by decide) (rfl) (fun j u h => h) (HI.out.world), HD.out.put (by decide) (by decide) rfl (by decide) (by decide)⟩
            | 2, _ =>
              have Hi := Hi 2 rfl
              have x1 : a.tmps[74]? = some (.slice xp9 (zlen y) xc9) := by
                obtain ⟨v', y', e'⟩ := HI.out.at (i := 1) Hi.out (by kernel_rfl) (by decide)
                obtain rfl : v' = .slice xp9 (zlen y) xc9 := e'
                exact y'
              refine wpOp_step rfl (fun K' hK => ?_)
              have hK := Lib.hid hK
              go_simp
              with_reducible refine (C5.out _ _ (R9r.out.below HI.out.world)).mono ?_
              rintro e W' ⟨py2_2, cy2_2, rfl, rry2_2, hb⟩
              exact hK.out _ _ ⟨HI.out.put Hi.out (by decide) rfl (by simp) (by decide) (⟨py2_2, cy2_2, rfl, rry2_2⟩) (fun j u h => RelR.mono hb j u h) (HI.out.world.trans (hb.mono HI.out.world.size)), HD.out.put (by decide) (by decide) rfl (by decide) (by decide)⟩
            | 3, _ =>
              have Hi := Hi 3 rfl
              have y11 : a.tmps[11]? = some (.pointer (some ⟨W4.heap.size, 0, none⟩)) := HI.out.rest 11 (by decide)
              have dK11r0 := (K11r.out.below HI.out.world).cell (i := 0) rfl
              have dK11r1 := (K11r.out.below HI.out.world).cell (i := 1) rfl
              refine wpOp_step rfl (fun K' hK => ?_)
              have hK := Lib.hid hK
              go_simp
              exact hK.out _ _ ⟨HI.out.put Hi.out (by decide) rfl (by simp) (by decide) (rfl) (fun j u h => h) (HI.out.world), HD.out.put (by decide) (by decide) rfl (by decide) (by decide)⟩
            | 4, _ =>
              have Hi := Hi 4 rfl
              obtain ⟨v', x2, py2_2, cy2_2, e, rry2_2⟩ := HI.out.at (i := 2) Hi.out (by kernel_rfl) (by decide)
              obtain rfl := e
              have x2 : a.tmps[75]? = some (.agg #[.bool (zneg yy), .slice py2_2 (zlen yy) cy2_2]) := x2
              have RRY2_2 := Lib.hid rry2_2
              clear rry2_2
              have x3 : a.tmps[76]? = some (.agg #[.bool (zneg g), .slice xp11 (zlen g) xc11]) := by
                obtain ⟨v', y', e'⟩ := HI.out.at (i := 3) Hi.out (by kernel_rfl) (by decide)
                obtain rfl : v' = .agg #[.bool (zneg g), .slice xp11 (zlen g) xc11] := e'
                exact y'
              refine wpOp_step rfl (fun K' hK => ?_)
              have hK := Lib.hid hK
              go_simp
              with_reducible refine (C6.out _ _ _ _ _ RRY2_2.out (R11r.out.below HI.out.world)).mono ?_
              rintro e W' ⟨pay2_4, cay2_4, pby2_4, cby2_4, rfl, rry2_4, rry2_4_1, hb⟩
              exact hK.out _ _ ⟨HI.out.put Hi.out (by decide) rfl (by simp) (by decide) (⟨pay2_4, cay2_4, pby2_4, cby2_4, rfl, rry2_4, rry2_4_1⟩) (fun j u h => RelR.mono hb j u h) (HI.out.world.trans (hb.mono HI.out.world.size)), HD.out.put (by decide) (by decide) rfl (by decide) (by decide)⟩
            | 5, _ =>
              have Hi := Hi 5 rfl
              obtain ⟨v', x4, pay2_4, cay2_4, pby2_4, cby2_4, e, rry2_4, rry2_4_1⟩ := HI.out.at (i := 4) Hi.out (by kernel_rfl) (by decide)
              obtain rfl := e
              have x4 : a.tmps[77]? = some (.tuple #[.agg #[.bool (zneg h), .slice pay2_4 (zlen h) cay2_4], .agg #[.bool (zneg mz), .slice pby2_4 (zlen mz) cby2_4]]) := x4
              have RRY2_4 := Lib.hid rry2_4
              clear rry2_4
              have RRY2_4_1 := Lib.hid rry2_4_1
              clear rry2_4_1
              refine wpOp_step rfl (fun K' hK => ?_)
              have hK := Lib.hid hK
              go_simp
              exact hK.out _ _ ⟨HI.out.put Hi.out (by decide) rfl (by simp) (by decide) (⟨pay2_4, cay2_4, pby2_4, cby2_4, rfl, RRY2_4.out, RRY2_4_1.out⟩) (fun j u h => h) (HI.out.world), HD.out.put (by decide) (by decide) rfl (by decide) (by decide)⟩
            | 6, _ =>
              have Hi := Hi 6 rfl
              obtain ⟨v', x5, pay2_5, cay2_5, pby2_5, cby2_5, e, rry2_5, rry2_5_1⟩ := HI.out.at (i := 5) Hi.out (by kernel_rfl) (by decide)
              obtain rfl := e
              have x5 : a.tmps[72]? = some (.tuple #[.agg #[.bool (zneg h), .slice pay2_5 (zlen h) cay2_5], .agg #[.bool (zneg mz), .slice pby2_5 (zlen mz) cby2_5]]) := x5
              have RRY2_5 := Lib.hid rry2_5
              clear rry2_5
              have RRY2_5_1 := Lib.hid rry2_5_1
              clear rry2_5_1
              refine wpOp_step rfl (fun K' hK => ?_)
              have hK := Lib.hid hK
              go_simp
              exact hK.out _ _ ⟨HI.out.put Hi.out (by decide) rfl (by simp) (by decide) (⟨pay2_5, cay2_5, rfl, RRY2_5.out⟩) (fun j u h => h) (HI.out.world), HD.out.put (by decide) (by decide) rfl (by decide) (by decide)⟩
            | 7, _ =>
              have Hi := Hi 7 rfl
              obtain ⟨v', x5, pay2_5, cay2_5, pby2_5, cby2_5, e, rry2_5, rry2_5_1⟩ := HI.out.at (i := 5) Hi.out (by kernel_rfl) (by decide)
              obtain rfl := e
              have x5 : a.tmps[72]? = some (.tuple #[.agg #[.bool (zneg h), .slice pay2_5 (zlen h) cay2_5], .agg #[.bool (zneg mz), .slice pby2_5 (zlen mz) cby2_5]]) := x5
              have RRY2_5 := Lib.hid rry2_5
              clear rry2_5
              have RRY2_5_1 := Lib.hid rry2_5_1
              clear rry2_5_1
              refine wpOp_step rfl (fun K' hK => ?_)
              have hK := Lib.hid hK
              go_simp
              exact hK.out _ _ ⟨HI.out.put Hi.out (by decide) rfl (by simp) (by decide) (⟨pby2_5, cby2_5, rfl, RRY2_5_1.out⟩) (fun j u h => h) (HI.out.world), HD.out.put (by decide) (by decide) rfl (by decide) (by decide)⟩
            | 8, _ =>
              have Hi := Hi 8 rfl
              refine wpOp_step rfl (fun K' hK => ?_)
              have hK := Lib.hid hK
              go_simp
              have hb := (Below.refl W.heap.size W).alloc (Nat.le_refl _) (.cells #[.bool false, .slice none 0 0] 49)
              exact hK.out _ _ ⟨HI.out.put Hi.out (by decide) rfl (by simp) (by decide) (⟨W.heap.size, rfl, HI.out.world.size, SBk.new _ _ _⟩) (fun j u h => RelR.mono hb j u h) (HI.out.world.trans (hb.mono HI.out.world.size)), Dst.left (by decide) rfl (by decide) (by rw [HI.out.tsize]; simp) (HI.out.fresh (i := 9) (by decide) (fun _ _ h => h))⟩
            | 9, _ =>
              have Hi := Hi 9 rfl
              refine wpOp_step rfl (fun K' hK => ?_)
              have hK := Lib.hid hK
              go_simp
              have hb := (Below.refl W.heap.size W).alloc (Nat.le_refl _) (.cells #[.bool false, .slice none 0 0] 49)
              exact hK.out _ _ ⟨HI.out.put Hi.out (by decide) rfl (by simp) (by decide) (⟨W.heap.size, rfl, HI.out.world.size, SBk.new _ _ _⟩) (fun j u h => RelR.mono hb j u h) (HI.out.world.trans (hb.mono HI.out.world.size)), Dst.right (by decide) rfl (by decide) (by rw [HI.out.tsize]; simp) (HI.out.fresh (i := 8) (by decide) (fun _ _ h => h))⟩
            | n + 10, h => exact absurd h (by omega)
          · intro listed a W hI hD hall
            obtain ⟨v0, x0, e0⟩ := hI.slots 0 (by decide) (hall 0 (by decide))
            obtain rfl : v0 = .pointer (some ⟨W1.heap.size + 1, 1, none⟩) := e0
            have x0 : a.tmps[73]? = some (.pointer (some ⟨W1.heap.size + 1, 1, none⟩)) := x0
            obtain ⟨v1, x1, e1⟩ := hI.slots 1 (by decide) (hall 1 (by decide))
            obtain rfl : v1 = .slice xp9 (zlen y) xc9 := e1
            have x1 : a.tmps[74]? = some (.slice xp9 (zlen y) xc9) := x1
            obtain ⟨v2, x2, py2_2, cy2_2, e2, rry2_2⟩ := hI.slots 2 (by decide) (hall 2 (by decide))
            obtain rfl := e2
            have RRY2_2 := Lib.hid rry2_2
            clear rry2_2
            have x2 : a.tmps[75]? = some (.agg #[.bool (zneg yy), .slice py2_2 (zlen yy) cy2_2]) := x2
            obtain ⟨v3, x3, e3⟩ := hI.slots 3 (by decide) (hall 3 (by decide))
            obtain rfl : v3 = .agg #[.bool (zneg g), .slice xp11 (zlen g) xc11] := e3
            have x3 : a.tmps[76]? = some (.agg #[.bool (zneg g), .slice xp11 (zlen g) xc11]) := x3
            obtain ⟨v4, x4, pay2_4, cay2_4, pby2_4, cby2_4, e4, rry2_4, rry2_4_1⟩ := hI.slots 4 (by decide) (hall 4 (by decide))
            obtain rfl := e4
            have RRY2_4 := Lib.hid rry2_4
            clear rry2_4
            have RRY2_4_1 := Lib.hid rry2_4_1
            clear rry2_4_1
            have x4 : a.tmps[77]? = some (.tuple #[.agg #[.bool (zneg h), .slice pay2_4 (zlen h) cay2_4], .agg #[.bool (zneg mz), .slice pby2_4 (zlen mz) cby2_4]]) := x4
            obtain ⟨v5, x5, pay2_5, cay2_5, pby2_5, cby2_5, e5, rry2_5, rry2_5_1⟩ := hI.slots 5 (by decide) (hall 5 (by decide))
            obtain rfl := e5
            have RRY2_5 := Lib.hid rry2_5
            clear rry2_5
            have RRY2_5_1 := Lib.hid rry2_5_1
            clear rry2_5_1
            have x5 : a.tmps[72]? = some (.tuple #[.agg #[.bool (zneg h), .slice pay2_5 (zlen h) cay2_5], .agg #[.bool (zneg mz), .slice pby2_5 (zlen mz) cby2_5]]) := x5
            obtain ⟨v6, x6, py2_6, cy2_6, e6, rry2_6⟩ := hI.slots 6 (by decide) (hall 6 (by decide))
            obtain rfl := e6
            have RRY2_6 := Lib.hid rry2_6
            clear rry2_6
            have x6 : a.tmps[78]? = some (.agg #[.bool (zneg h), .slice py2_6 (zlen h) cy2_6]) := x6
            obtain ⟨v7, x7, py2_7, cy2_7, e7, rry2_7⟩ := hI.slots 7 (by decide) (hall 7 (by decide))
            obtain rfl := e7
            have RRY2_7 := Lib.hid rry2_7
            clear rry2_7
            have x7 : a.tmps[79]? = some (.agg #[.bool (zneg mz), .slice py2_7 (zlen mz) cy2_7]) := x7
            obtain ⟨v8, x8, gy2_8, e8, rry2_8, rry2_8_1⟩ := hI.slots 8 (by decide) (hall 8 (by decide))
            obtain rfl := e8
            have RRY2_8 := Lib.hid rry2_8
            clear rry2_8
            have RRY2_8_1 := Lib.hid rry2_8_1
            clear rry2_8_1
            have x8 : a.tmps[18]? = some (.pointer (some ⟨gy2_8, 0, none⟩)) := x8
            obtain ⟨v9, x9, gy2_9, e9, rry2_9, rry2_9_1⟩ := hI.slots 9 (by decide) (hall 9 (by decide))
            obtain rfl := e9
            have RRY2_9 := Lib.hid rry2_9
            clear rry2_9
            have RRY2_9_1 := Lib.hid rry2_9_1
            clear rry2_9_1
            have x9 : a.tmps[19]? = some (.pointer (some ⟨gy2_9, 0, none⟩)) := x9
            have hD := hD (hall 8 (by decide)) (hall 9 (by decide))
            have hne : gy2_8 ≠ gy2_9 := by
              intro e
              apply hD
              show a.tmps[18]? = a.tmps[19]?
              rw [x8, x9, e]
            have HNE := Lib.hid hne
            clear hne hD
            have ea := hI.fin [(73, .pointer (some ⟨W1.heap.size + 1, 1, none⟩)), (74, .slice xp9 (zlen y) xc9), (75, .agg #[.bool (zneg yy), .slice py2_2 (zlen yy) cy2_2]), (76, .agg #[.bool (zneg g), .slice xp11 (zlen g) xc11]), (77, .tuple #[.agg #[.bool (zneg h), .slice pay2_4 (zlen h) cay2_4], .agg #[.bool (zneg mz), .slice pby2_4 (zlen mz) cby2_4]]), (72, .tuple #[.agg #[.bool (zneg h), .slice pay2_5 (zlen h) cay2_5], .agg #[.bool (zneg mz), .slice pby2_5 (zlen mz) cby2_5]]), (78, .agg #[.bool (zneg h), .slice py2_6 (zlen h) cy2_6]), (79, .agg #[.bool (zneg mz), .slice py2_7 (zlen mz) cy2_7]), (18, .pointer (some ⟨gy2_8, 0, none⟩)), (19, .pointer (some ⟨gy2_9, 0, none⟩))] (by
              intro p hp
              simp only [List.mem_cons, List.not_mem_nil, or_false] at hp
              rcases hp with rfl | rfl | rfl | rfl | rfl | rfl | rfl | rfl | rfl | rfl
              · exact x0
              · exact x1
              · exact x2
              · exact x3
              · exact x4
              · exact x5
              · exact x6
              · exact x7
              · exact x8
              · exact x9) (by
              intro d hd i him h
              match i, him with
              | 0, _ => exact hd _ (ix 0 rfl) h
              | 1, _ => exact hd _ (ix 1 rfl) h
              | 2, _ => exact hd _ (ix 2 rfl) h
              | 3, _ => exact hd _ (ix 3 rfl) h
              | 4, _ => exact hd _ (ix 4 rfl) h
              | 5, _ => exact hd _ (ix 5 rfl) h
              | 6, _ => exact hd _ (ix 6 rfl) h
              | 7, _ => exact hd _ (ix 7 rfl) h
              | 8, _ => exact hd _ (ix 8 rfl) h
              | 9, _ => exact hd _ (ix 9 rfl) h
              | n + 10, h => omega)
            have EA := Lib.hid ea
            have HBW := Lib.hid hI.world
            have HI := Lib.hid hI
            clear ea hI hall
            have K8r := Lib.hid (K8r.out.below HBW.out)
            have K9r := Lib.hid (K9r.out.below HBW.out)
            have K11r := Lib.hid (K11r.out.below HBW.out)
            have K13r := Lib.hid (K13r.out.below HBW.out)
            have K14r := Lib.hid (K14r.out.below HBW.out)
            have K15r := Lib.hid (K15r.out.below HBW.out)
            have R8r := Lib.hid (R8r.out.below HBW.out)
            have R9r := Lib.hid (R9r.out.below HBW.out)
            have R11r := Lib.hid (R11r.out.below HBW.out)
            have R13r := Lib.hid (R13r.out.below HBW.out)
            have R14r := Lib.hid (R14r.out.below HBW.out)
            have R15r := Lib.hid (R15r.out.below HBW.out)
            have HBX := Lib.hid (HB0.out.trans (HBW.out.mono HB0.out.size))
            have RYY := RRY2_2
            have RH := RRY2_6
            have RM0 := RRY2_7
            have K61 : Hid (SBk W gy2_8 #[.bool false, .slice none 0 0] 49) := RRY2_8_1
            have K62 : Hid (SBk W gy2_9 #[.bool false, .slice none 0 0] 49) := RRY2_9_1
            have dK610 := K61.out.cell (i := 0) rfl
            have fK610 := K61.out.frozen (i := 0)
            have dK611 := K61.out.cell (i := 1) rfl
            have fK611 := K61.out.frozen (i := 1)
            have dK620 := K62.out.cell (i := 0) rfl
            have fK620 := K62.out.frozen (i := 0)
            have dK621 := K62.out.cell (i := 1) rfl
            have fK621 := K62.out.frozen (i := 1)
            have ddK620 : ((W.setCell ⟨gy2_8, 0, none⟩ (.bool (zneg h))).setCell ⟨gy2_8, 1, none⟩ (.slice py2_6 (zlen h) cy2_6)).cell? ⟨gy2_9, 0, none⟩ = some (.bool false) := ((store_off (by have := RRY2_8.out; have := RRY2_9.out; have := HNE.out; omega) (l := [.bool (zneg h), .slice py2_6 (zlen h) cy2_6]) (i := 0) K62.out)).cell (i := 0) rfl
            have ddK621 : ((W.setCell ⟨gy2_8, 0, none⟩ (.bool (zneg h))).setCell ⟨gy2_8, 1, none⟩ (.slice py2_6 (zlen h) cy2_6)).cell? ⟨gy2_9, 1, none⟩ = some (.slice none 0 0) := ((store_off (by have := RRY2_8.out; have := RRY2_9.out; have := HNE.out; omega) (l := [.bool (zneg h), .slice py2_6 (zlen h) cy2_6]) (i := 0) K62.out)).cell (i := 1) rfl
            refine tail_succ (t := 1) ?_
            refine wpOp_step rfl (fun K' hK => ?_)
            have hK := Lib.hid hK
            go_simp
            refine hK.out _ _ ?_
            clear hK
            refine tail_succ (t := 0) ?_
            refine wpOp_step rfl (fun K' hK => ?_)
            have hK := Lib.hid hK
            go_simp
            refine hK.out _ _ ?_
            clear hK
            refine tail_nil ?_
            have s0 : ∀ {v' : Value} {n' : Nat}, RN W v' n' → RN (storeAll W (gy2_8) 0 [.bool (zneg h), .slice py2_6 (zlen h) cy2_6]) v' n' := fun h' => store_rn _ h' K61.out (by simp [noInt]) (by simp [plainV])
            have o0 : ∀ {g' : Nat} {cs' : Array Value} {T' : TypeId}, g' ≠ gy2_8 → SBk W g' cs' T' → SBk (storeAll W (gy2_8) 0 [.bool (zneg h), .slice py2_6 (zlen h) cy2_6]) g' cs' T' := fun hg' h' => store_off hg' _ 0 h'
            have s1 : ∀ {v' : Value} {n' : Nat}, RN (storeAll W (gy2_8) 0 [.bool (zneg h), .slice py2_6 (zlen h) cy2_6]) v' n' → RN (storeAll (storeAll W (gy2_8) 0 [.bool (zneg h), .slice py2_6 (zlen h) cy2_6]) (gy2_9) 0 [.bool (zneg mz), .slice py2_7 (zlen mz) cy2_7]) v' n' := fun h' => store_rn _ h' (o0 (by have := RRY2_8.out; have := RRY2_9.out; have := HNE.out; omega) K62.out) (by simp [noInt]) (by simp [plainV])
            have o1 : ∀ {g' : Nat} {cs' : Array Value} {T' : TypeId}, g' ≠ gy2_9 → SBk (storeAll W (gy2_8) 0 [.bool (zneg h), .slice py2_6 (zlen h) cy2_6]) g' cs' T' → SBk (storeAll (storeAll W (gy2_8) 0 [.bool (zneg h), .slice py2_6 (zlen h) cy2_6]) (gy2_9) 0 [.bool (zneg mz), .slice py2_7 (zlen mz) cy2_7]) g' cs' T' := fun hg' h' => store_off hg' _ 0 h'
            exact ⟨rfl, py2_2, cy2_2, pay2_4, cay2_4, pby2_4, cby2_4, pay2_5, cay2_5, pby2_5, cby2_5, py2_6, cy2_6, py2_7, cy2_7, gy2_8, gy2_9, EA.out, (store_below (l := [.bool (zneg mz), .slice py2_7 (zlen mz) cy2_7]) (i := 0) (by have := RRY2_8.out; have := RRY2_9.out; have := HNE.out; omega) (store_below (l := [.bool (zneg h), .slice py2_6 (zlen h) cy2_6]) (i := 0) (by have := RRY2_8.out; have := RRY2_9.out; have := HNE.out; omega) HBX.out)), (o1 (by have := RRY2_8.out; have := RRY2_9.out; have := HNE.out; omega) (o0 (by have := RRY2_8.out; have := RRY2_9.out; have := HNE.out; omega) K8r.out)), (o1 (by have := RRY2_8.out; have := RRY2_9.out; have := HNE.out; omega) (o0 (by have := RRY2_8.out; have := RRY2_9.out; have := HNE.out; omega) K9r.out)), (o1 (by have := RRY2_8.out; have := RRY2_9.out; have := HNE.out; omega) (o0 (by have := RRY2_8.out; have := RRY2_9.out; have := HNE.out; omega) K11r.out)), (o1 (by have := RRY2_8.out; have := RRY2_9.out; have := HNE.out; omega) (o0 (by have := RRY2_8.out; have := RRY2_9.out; have := HNE.out; omega) K13r.out)), (o1 (by have := RRY2_8.out; have := RRY2_9.out; have := HNE.out; omega) (o0 (by have := RRY2_8.out; have := RRY2_9.out; have := HNE.out; omega) K14r.out)), (o1 (by have := RRY2_8.out; have := RRY2_9.out; have := HNE.out; omega) (o0 (by have := RRY2_8.out; have := RRY2_9.out; have := HNE.out; omega) K15r.out)), (store_off (by have := RRY2_8.out; have := RRY2_9.out; have := HNE.out; omega) (l := [.bool (zneg mz), .slice py2_7 (zlen mz) cy2_7]) (i := 0) (store_blk (l := [.bool (zneg h), .slice py2_6 (zlen h) cy2_6]) (i := 0) K61.out)), (store_blk (l := [.bool (zneg mz), .slice py2_7 (zlen mz) cy2_7]) (i := 0) (store_off (by have := RRY2_8.out; have := RRY2_9.out; have := HNE.out; omega) (l := [.bool (zneg h), .slice py2_6 (zlen h) cy2_6]) (i := 0) K62.out)), (s1 (s0 R8r.out)), (s1 (s0 R9r.out)), (s1 (s0 R11r.out)), (s1 (s0 R13r.out)), (s1 (s0 R14r.out)), (s1 (s0 R15r.out)), (s1 (s0 RYY.out)), (s1 (s0 RH.out)), (s1 (s0 RM0.out)), RRY2_8.out, RRY2_9.out, HNE.out⟩
          · intro listed a W hI hD hall
            obtain ⟨v0, x0, e0⟩ := hI.slots 0 (by decide) (hall 0 (by decide) (by decide))
            obtain rfl : v0 = .pointer (some ⟨W1.heap.size + 1, 1, none⟩) := e0
            have x0 : a.tmps[73]? = some (.pointer (some ⟨W1.heap.size + 1, 1, none⟩)) := x0
            obtain ⟨v1, x1, e1⟩ := hI.slots 1 (by decide) (hall 1 (by decide) (by decide))
            obtain rfl : v1 = .slice xp9 (zlen y) xc9 := e1
            have x1 : a.tmps[74]? = some (.slice xp9 (zlen y) xc9) := x1
            obtain ⟨v2, x2, py2_2, cy2_2, e2, rry2_2⟩ := hI.slots 2 (by decide) (hall 2 (by decide) (by decide))
            obtain rfl := e2
            have RRY2_2 := Lib.hid rry2_2
            clear rry2_2
            have x2 : a.tmps[75]? = some (.agg #[.bool (zneg yy), .slice py2_2 (zlen yy) cy2_2]) := x2
            obtain ⟨v3, x3, e3⟩ := hI.slots 3 (by decide) (hall 3 (by decide) (by decide))
            obtain rfl : v3 = .agg #[.bool (zneg g), .slice xp11 (zlen g) xc11] := e3
            have x3 : a.tmps[76]? = some (.agg #[.bool (zneg g), .slice xp11 (zlen g) xc11]) := x3
            obtain ⟨v4, x4, pay2_4, cay2_4, pby2_4, cby2_4, e4, rry2_4, rry2_4_1⟩ := hI.slots 4 (by decide) (hall 4 (by decide) (by decide))
            obtain rfl := e4
            have RRY2_4 := Lib.hid rry2_4
            clear rry2_4
            have RRY2_4_1 := Lib.hid rry2_4_1
            clear rry2_4_1
            have x4 : a.tmps[77]? = some (.tuple #[.agg #[.bool (zneg h), .slice pay2_4 (zlen h) cay2_4], .agg #[.bool (zneg mz), .slice pby2_4 (zlen mz) cby2_4]]) := x4
            obtain ⟨v5, x5, pay2_5, cay2_5, pby2_5, cby2_5, e5, rry2_5, rry2_5_1⟩ := hI.slots 5 (by decide) (hall 5 (by decide) (by decide))
            obtain rfl := e5
            have RRY2_5 := Lib.hid rry2_5
            clear rry2_5
            have RRY2_5_1 := Lib.hid rry2_5_1
            clear rry2_5_1
            have x5 : a.tmps[72]? = some (.tuple #[.agg #[.bool (zneg h), .slice pay2_5 (zlen h) cay2_5], .agg #[.bool (zneg mz), .slice pby2_5 (zlen mz) cby2_5]]) := x5
            obtain ⟨v6, x6, py2_6, cy2_6, e6, rry2_6⟩ := hI.slots 6 (by decide) (hall 6 (by decide) (by decide))
            obtain rfl := e6
            have RRY2_6 := Lib.hid rry2_6
            clear rry2_6
            have x6 : a.tmps[78]? = some (.agg #[.bool (zneg h), .slice py2_6 (zlen h) cy2_6]) := x6
            obtain ⟨v8, x8, gy2_8, e8, rry2_8, rry2_8_1⟩ := hI.slots 8 (by decide) (hall 8 (by decide) (by decide))
            obtain rfl := e8
            have RRY2_8 := Lib.hid rry2_8
            clear rry2_8
            have RRY2_8_1 := Lib.hid rry2_8_1
            clear rry2_8_1
            have x8 : a.tmps[18]? = some (.pointer (some ⟨gy2_8, 0, none⟩)) := x8
            obtain ⟨v9, x9, gy2_9, e9, rry2_9, rry2_9_1⟩ := hI.slots 9 (by decide) (hall 9 (by decide) (by decide))
            obtain rfl := e9
            have RRY2_9 := Lib.hid rry2_9
            clear rry2_9
            have RRY2_9_1 := Lib.hid rry2_9_1
            clear rry2_9_1
            have x9 : a.tmps[19]? = some (.pointer (some ⟨gy2_9, 0, none⟩)) := x9
            have hD := hD (hall 8 (by decide) (by decide)) (hall 9 (by decide) (by decide))
            have hne : gy2_8 ≠ gy2_9 := by
              intro e
              apply hD
              show a.tmps[18]? = a.tmps[19]?
              rw [x8, x9, e]
            have HNE := Lib.hid hne
            clear hne hD
            have HBW := Lib.hid hI.world
            have HI := Lib.hid hI
            clear hI hall
            have K8r := Lib.hid (K8r.out.below HBW.out)
            have K9r := Lib.hid (K9r.out.below HBW.out)
            have K11r := Lib.hid (K11r.out.below HBW.out)
            have K13r := Lib.hid (K13r.out.below HBW.out)
            have K14r := Lib.hid (K14r.out.below HBW.out)
            have K15r := Lib.hid (K15r.out.below HBW.out)
            have R8r := Lib.hid (R8r.out.below HBW.out)
            have R9r := Lib.hid (R9r.out.below HBW.out)
            have R11r := Lib.hid (R11r.out.below HBW.out)
            have R13r := Lib.hid (R13r.out.below HBW.out)
            have R14r := Lib.hid (R14r.out.below HBW.out)
            have R15r := Lib.hid (R15r.out.below HBW.out)
            have HBX := Lib.hid (HB0.out.trans (HBW.out.mono HB0.out.size))
            have RYY := RRY2_2
            have RH := RRY2_6
            have RM0 := RRY2_5_1
            have K61 : Hid (SBk W gy2_8 #[.bool false, .slice none 0 0] 49) := RRY2_8_1
            have K62 : Hid (SBk W gy2_9 #[.bool false, .slice none 0 0] 49) := RRY2_9_1
            have dK610 := K61.out.cell (i := 0) rfl
            have fK610 := K61.out.frozen (i := 0)
            have dK611 := K61.out.cell (i := 1) rfl
            have fK611 := K61.out.frozen (i := 1)
            have dK620 := K62.out.cell (i := 0) rfl
            have fK620 := K62.out.frozen (i := 0)
            have dK621 := K62.out.cell (i := 1) rfl
            have fK621 := K62.out.frozen (i := 1)
            have ddK620 : ((W.setCell ⟨gy2_8, 0, none⟩ (.bool (zneg h))).setCell ⟨gy2_8, 1, none⟩ (.slice py2_6 (zlen h) cy2_6)).cell? ⟨gy2_9, 0, none⟩ = some (.bool false) := ((store_off (by have := RRY2_8.out; have := RRY2_9.out; have := HNE.out; omega) (l := [.bool (zneg h), .slice py2_6 (zlen h) cy2_6]) (i := 0) K62.out)).cell (i := 0) rfl
            have ddK621 : ((W.setCell ⟨gy2_8, 0, none⟩ (.bool (zneg h))).setCell ⟨gy2_8, 1, none⟩ (.slice py2_6 (zlen h) cy2_6)).cell? ⟨gy2_9, 1, none⟩ = some (.slice none 0 0) := ((store_off (by have := RRY2_8.out; have := RRY2_9.out; have := HNE.out; omega) (l := [.bool (zneg h), .slice py2_6 (zlen h) cy2_6]) (i := 0) K62.out)).cell (i := 1) rfl
            refine wpOp_step rfl (fun K' hK => ?_)
            have hK := Lib.hid hK
            go_simp
            refine hK.out _ _ ?_
            clear hK
            refine wpOp_step rfl (fun K' hK => ?_)
            have hK := Lib.hid hK
            go_simp
            refine hK.out (a.put (some 79) (.agg #[.bool (zneg mz), .slice pby2_5 (zlen mz) cby2_5])) _ ?_
            clear hK
            have z0 : (a.put (some 79) (.agg #[.bool (zneg mz), .slice pby2_5 (zlen mz) cby2_5])).tmps[73]? = some (.pointer (some ⟨W1.heap.size + 1, 1, none⟩)) := (put_ne (by decide)).trans x0
            have z1 : (a.put (some 79) (.agg #[.bool (zneg mz), .slice pby2_5 (zlen mz) cby2_5])).tmps[74]? = some (.slice xp9 (zlen y) xc9) := (put_ne (by decide)).trans x1
            have z2 : (a.put (some 79) (.agg #[.bool (zneg mz), .slice pby2_5 (zlen mz) cby2_5])).tmps[75]? = some (.agg #[.bool (zneg yy), .slice py2_2 (zlen yy) cy2_2]) := (put_ne (by decide)).trans x2
            have z3 : (a.put (some 79) (.agg #[.bool (zneg mz), .slice pby2_5 (zlen mz) cby2_5])).tmps[76]? = some (.agg #[.bool (zneg g), .slice xp11 (zlen g) xc11]) := (put_ne (by decide)).trans x3
            have z4 : (a.put (some 79) (.agg #[.bool (zneg mz), .slice pby2_5 (zlen mz) cby2_5])).tmps[77]? = some (.tuple #[.agg #[.bool (zneg h), .slice pay2_4 (zlen h) cay2_4], .agg #[.bool (zneg mz), .slice pby2_4 (zlen mz) cby2_4]]) := (put_ne (by decide)).trans x4
            have z5 : (a.put (some 79) (.agg #[.bool (zneg mz), .slice pby2_5 (zlen mz) cby2_5])).tmps[72]? = some (.tuple #[.agg #[.bool (zneg h), .slice pay2_5 (zlen h) cay2_5], .agg #[.bool (zneg mz), .slice pby2_5 (zlen mz) cby2_5]]) := (put_ne (by decide)).trans x5
            have z6 : (a.put (some 79) (.agg #[.bool (zneg mz), .slice pby2_5 (zlen mz) cby2_5])).tmps[78]? = some (.agg #[.bool (zneg h), .slice py2_6 (zlen h) cy2_6]) := (put_ne (by decide)).trans x6
            have z8 : (a.put (some 79) (.agg #[.bool (zneg mz), .slice pby2_5 (zlen mz) cby2_5])).tmps[18]? = some (.pointer (some ⟨gy2_8, 0, none⟩)) := (put_ne (by decide)).trans x8
            have z9 : (a.put (some 79) (.agg #[.bool (zneg mz), .slice pby2_5 (zlen mz) cby2_5])).tmps[19]? = some (.pointer (some ⟨gy2_9, 0, none⟩)) := (put_ne (by decide)).trans x9
            have z7 : (a.put (some 79) (.agg #[.bool (zneg mz), .slice pby2_5 (zlen mz) cby2_5])).tmps[79]? = some (.agg #[.bool (zneg mz), .slice pby2_5 (zlen mz) cby2_5]) := put_same (by rw [HI.out.tsize]; simp)
            have ea := HI.out.fin_put (sd := 79) (v := .agg #[.bool (zneg mz), .slice pby2_5 (zlen mz) cby2_5]) [(73, .pointer (some ⟨W1.heap.size + 1, 1, none⟩)), (74, .slice xp9 (zlen y) xc9), (75, .agg #[.bool (zneg yy), .slice py2_2 (zlen yy) cy2_2]), (76, .agg #[.bool (zneg g), .slice xp11 (zlen g) xc11]), (77, .tuple #[.agg #[.bool (zneg h), .slice pay2_4 (zlen h) cay2_4], .agg #[.bool (zneg mz), .slice pby2_4 (zlen mz) cby2_4]]), (72, .tuple #[.agg #[.bool (zneg h), .slice pay2_5 (zlen h) cay2_5], .agg #[.bool (zneg mz), .slice pby2_5 (zlen mz) cby2_5]]), (78, .agg #[.bool (zneg h), .slice py2_6 (zlen h) cy2_6]), (79, .agg #[.bool (zneg mz), .slice pby2_5 (zlen mz) cby2_5]), (18, .pointer (some ⟨gy2_8, 0, none⟩)), (19, .pointer (some ⟨gy2_9, 0, none⟩))] (by
              intro p hp
              simp only [List.mem_cons, List.not_mem_nil, or_false] at hp
              rcases hp with rfl | rfl | rfl | rfl | rfl | rfl | rfl | rfl | rfl | rfl
              · exact z0
              · exact z1
              · exact z2
              · exact z3
              · exact z4
              · exact z5
              · exact z6
              · exact z7
              · exact z8
              · exact z9) (by
              intro d hd
              refine ⟨fun i him h => ?_, hd _ (ix 7 rfl)⟩
              match i, him with
              | 0, _ => exact hd _ (ix 0 rfl) h
              | 1, _ => exact hd _ (ix 1 rfl) h
              | 2, _ => exact hd _ (ix 2 rfl) h
              | 3, _ => exact hd _ (ix 3 rfl) h
              | 4, _ => exact hd _ (ix 4 rfl) h
              | 5, _ => exact hd _ (ix 5 rfl) h
              | 6, _ => exact hd _ (ix 6 rfl) h
              | 7, _ => exact hd _ (ix 7 rfl) h
              | 8, _ => exact hd _ (ix 8 rfl) h
              | 9, _ => exact hd _ (ix 9 rfl) h
              | n + 10, h => omega)
            have EA := Lib.hid ea
            clear ea x0 x1 x2 x3 x4 x5 x6 x8 x9
            generalize a.put (some 79) (.agg #[.bool (zneg mz), .slice pby2_5 (zlen mz) cby2_5]) = a2 at *
            refine tail_succ (t := 0) ?_
            refine wpOp_step rfl (fun K' hK => ?_)
            have hK := Lib.hid hK
            go_simp
            refine hK.out _ _ ?_
            clear hK
            refine tail_nil ?_
            have s0 : ∀ {v' : Value} {n' : Nat}, RN W v' n' → RN (storeAll W (gy2_8) 0 [.bool (zneg h), .slice py2_6 (zlen h) cy2_6]) v' n' := fun h' => store_rn _ h' K61.out (by simp [noInt]) (by simp [plainV])
            have o0 : ∀ {g' : Nat} {cs' : Array Value} {T' : TypeId}, g' ≠ gy2_8 → SBk W g' cs' T' → SBk (storeAll W (gy2_8) 0 [.bool (zneg h), .slice py2_6 (zlen h) cy2_6]) g' cs' T' := fun hg' h' => store_off hg' _ 0 h'
            have s1 : ∀ {v' : Value} {n' : Nat}, RN (storeAll W (gy2_8) 0 [.bool (zneg h), .slice py2_6 (zlen h) cy2_6]) v' n' → RN (storeAll (storeAll W (gy2_8) 0 [.bool (zneg h), .slice py2_6 (zlen h) cy2_6]) (gy2_9) 0 [.bool (zneg mz), .slice pby2_5 (zlen mz) cby2_5]) v' n' := fun h' => store_rn _ h' (o0 (by have := RRY2_8.out; have := RRY2_9.out; have := HNE.out; omega) K62.out) (by simp [noInt]) (by simp [plainV])
            have o1 : ∀ {g' : Nat} {cs' : Array Value} {T' : TypeId}, g' ≠ gy2_9 → SBk (storeAll W (gy2_8) 0 [.bool (zneg h), .slice py2_6 (zlen h) cy2_6]) g' cs' T' → SBk (storeAll (storeAll W (gy2_8) 0 [.bool (zneg h), .slice py2_6 (zlen h) cy2_6]) (gy2_9) 0 [.bool (zneg mz), .slice pby2_5 (zlen mz) cby2_5]) g' cs' T' := fun hg' h' => store_off hg' _ 0 h'
            exact ⟨rfl, py2_2, cy2_2, pay2_4, cay2_4, pby2_4, cby2_4, pay2_5, cay2_5, pby2_5, cby2_5, py2_6, cy2_6, pby2_5, cby2_5, gy2_8, gy2_9, EA.out, (store_below (l := [.bool (zneg mz), .slice pby2_5 (zlen mz) cby2_5]) (i := 0) (by have := RRY2_8.out; have := RRY2_9.out; have := HNE.out; omega) (store_below (l := [.bool (zneg h), .slice py2_6 (zlen h) cy2_6]) (i := 0) (by have := RRY2_8.out; have := RRY2_9.out; have := HNE.out; omega) HBX.out)), (o1 (by have := RRY2_8.out; have := RRY2_9.out; have := HNE.out; omega) (o0 (by have := RRY2_8.out; have := RRY2_9.out; have := HNE.out; omega) K8r.out)), (o1 (by have := RRY2_8.out; have := RRY2_9.out; have := HNE.out; omega) (o0 (by have := RRY2_8.out; have := RRY2_9.out; have := HNE.out; omega) K9r.out)), (o1 (by have := RRY2_8.out; have := RRY2_9.out; have := HNE.out; omega) (o0 (by have := RRY2_8.out; have := RRY2_9.out; have := HNE.out; omega) K11r.out)), (o1 (by have := RRY2_8.out; have := RRY2_9.out; have := HNE.out; omega) (o0 (by have := RRY2_8.out; have := RRY2_9.out; have := HNE.out; omega) K13r.out)), (o1 (by have := RRY2_8.out; have := RRY2_9.out; have := HNE.out; omega) (o0 (by have := RRY2_8.out; have := RRY2_9.out; have := HNE.out; omega) K14r.out)), (o1 (by have := RRY2_8.out; have := RRY2_9.out; have := HNE.out; omega) (o0 (by have := RRY2_8.out; have := RRY2_9.out; have := HNE.out; omega) K15r.out)), (store_off (by have := RRY2_8.out; have := RRY2_9.out; have := HNE.out; omega) (l := [.bool (zneg mz), .slice pby2_5 (zlen mz) cby2_5]) (i := 0) (store_blk (l := [.bool (zneg h), .slice py2_6 (zlen h) cy2_6]) (i := 0) K61.out)), (store_blk (l := [.bool (zneg mz), .slice pby2_5 (zlen mz) cby2_5]) (i := 0) (store_off (by have := RRY2_8.out; have := RRY2_9.out; have := HNE.out; omega) (l := [.bool (zneg h), .slice py2_6 (zlen h) cy2_6]) (i := 0) K62.out)), (s1 (s0 R8r.out)), (s1 (s0 R9r.out)), (s1 (s0 R11r.out)), (s1 (s0 R13r.out)), (s1 (s0 R14r.out)), (s1 (s0 R15r.out)), (s1 (s0 RYY.out)), (s1 (s0 RH.out)), (s1 (s0 RM0.out)), RRY2_8.out, RRY2_9.out, HNE.out⟩
        rintro a' Y1 ⟨py2_2, cy2_2, pay2_4, cay2_4, pby2_4, cby2_4, pay2_5, cay2_5, pby2_5, cby2_5, py2_6, cy2_6, py2_7, cy2_7, gy2_8, gy2_9, rfl, z0, z1, z2, z3, z4, z5, z6, z7, z8, z9, z10, z11, z12, z13, z14, z15, z16, z17, z18, z19, z20⟩
        have HB1 := Lib.hid z0
        have K8r := Lib.hid z1
        have K9r := Lib.hid z2
        have K11r := Lib.hid z3
        have K13r := Lib.hid z4
        have K14r := Lib.hid z5
        have K15r := Lib.hid z6
        have K61 := Lib.hid z7
        have K62 := Lib.hid z8
        have R8r := Lib.hid z9
        have R9r := Lib.hid z10
        have R11r := Lib.hid z11
        have R13r := Lib.hid z12
        have R14r := Lib.hid z13
        have R15r := Lib.hid z14
        have RYY := Lib.hid z15
        have RH := Lib.hid z16
        have RM0 := Lib.hid z17
        have R8xY1 := z18
        have R9xY1 := z19
        have NEY1 := z20
        clear z0 z1 z2 z3 z4 z5 z6 z7 z8 z9 z10 z11 z12 z13 z14 z15 z16 z17 z18 z19 z20
        simp only [putL, List.setIfInBounds_toArray, List.set_cons_zero, List.set_cons_succ]
        have dK14r0 := K14r.out.cell (i := 0) rfl
        have dK14r1 := K14r.out.cell (i := 1) rfl
        have dK610 := K61.out.cell (i := 0) rfl
        have dK611 := K61.out.cell (i := 1) rfl
        go_wp2_with fail
        with_reducible refine (HF.out _ _ _ _ _ R14r.out RH.out).mono ?_
        rintro e Y2 ⟨pa_7, ca_7, pb_7, cb_7, rfl, r7_0, r7_1, hb⟩
        clear dK14r0 dK14r1 dK610 dK611
        have K8r := Lib.hid (K8r.out.below hb)
        have K9r := Lib.hid (K9r.out.below hb)
        have K11r := Lib.hid (K11r.out.below hb)
        have K13r := Lib.hid (K13r.out.below hb)
        have K14r := Lib.hid (K14r.out.below hb)
        have K15r := Lib.hid (K15r.out.below hb)
        have K61 := Lib.hid (K61.out.below hb)
        have K62 := Lib.hid (K62.out.below hb)
        have R8r := Lib.hid (R8r.out.below hb)
        have R9r := Lib.hid (R9r.out.below hb)
        have R11r := Lib.hid (R11r.out.below hb)
        have R13r := Lib.hid (R13r.out.below hb)
        have R14r := Lib.hid (R14r.out.below hb)
        have R15r := Lib.hid (R15r.out.below hb)
        have RYY := Lib.hid (RYY.out.below hb)
        have RH := Lib.hid (RH.out.below hb)
        have RM0 := Lib.hid (RM0.out.below hb)
        have HB2 := Lib.hid (HB1.out.trans (hb.mono HB1.out.size))
        have RQQ := Lib.hid r7_0
        have RX0 := Lib.hid r7_1
        clear hb r7_0 r7_1
        have dK14r0 := K14r.out.cell (i := 0) rfl
        have fK14r0 := K14r.out.frozen (i := 0)
        have dK14r1 := K14r.out.cell (i := 1) rfl
        have fK14r1 := K14r.out.frozen (i := 1)
        go_upto_region 17 with fail
        clear dK14r0 fK14r0 dK14r1 fK14r1
        refine wp_world (fun V => Below w.heap.size w V ∧ SBk V (W1.heap.size) #[.bool (zneg x), .slice xp8 (zlen x) xc8] 49 ∧ SBk V (W1.heap.size + 1) #[.bool (zneg y), .slice xp9 (zlen y) xc9] 49 ∧ SBk V (W4.heap.size) #[.bool (zneg g), .slice xp11 (zlen g) xc11] 49 ∧ SBk V (gw1_3) #[.bool (zneg (0 : Int)), .slice xp13 (zlen (0 : Int)) xc13] 49 ∧ SBk V (W9.heap.size) #[.bool (zneg xz), .slice pb_7 (zlen xz) cb_7] 49 ∧ SBk V (W9.heap.size + 1) #[.bool (zneg v), .slice xp15 (zlen v) xc15] 49 ∧ SBk V (gy2_8) #[.bool (zneg h), .slice py2_6 (zlen h) cy2_6] 49 ∧ SBk V (gy2_9) #[.bool (zneg mz), .slice py2_7 (zlen mz) cy2_7] 49 ∧ RN V (.slice xp8 (zlen x) xc8) x.natAbs ∧ RN V (.slice xp9 (zlen y) xc9) y.natAbs ∧ RN V (.slice xp11 (zlen g) xc11) g.natAbs ∧ RN V (.slice xp13 (zlen (0 : Int)) xc13) (0 : Int).natAbs ∧ RN V (.slice up (zlen uu) uc) uu.natAbs ∧ RN V (.slice xp15 (zlen v) xc15) v.natAbs ∧ RN V (.slice py2_2 (zlen yy) cy2_2) yy.natAbs ∧ RN V (.slice py2_6 (zlen h) cy2_6) h.natAbs ∧ RN V (.slice py2_7 (zlen mz) cy2_7) mz.natAbs ∧ RN V (.slice pa_7 (zlen qq) ca_7) qq.natAbs ∧ RN V (.slice pb_7 (zlen xz) cb_7) xz.natAbs) (by
          have s0 : ∀ {v' : Value} {n' : Nat}, RN Y2 v' n' → RN (storeAll Y2 (W9.heap.size) 0 [.bool (zneg xz), .slice pb_7 (zlen xz) cb_7]) v' n' := fun h' => store_rn _ h' K14r.out (by simp [noInt]) (by simp [plainV])
          have o0 : ∀ {g' : Nat} {cs' : Array Value} {T' : TypeId}, g' ≠ W9.heap.size → SBk Y2 g' cs' T' → SBk (storeAll Y2 (W9.heap.size) 0 [.bool (zneg xz), .slice pb_7 (zlen xz) cb_7]) g' cs' T' := fun hg' h' => store_off hg' _ 0 h'
          exact ⟨(store_below (l := [.bool (zneg xz), .slice pb_7 (zlen xz) cb_7]) (i := 0) (by omega) HB2.out), (o0 (by omega) K8r.out), (o0 (by omega) K9r.out), (o0 (by omega) K11r.out), (o0 (by omega) K13r.out), (store_blk (l := [.bool (zneg xz), .slice pb_7 (zlen xz) cb_7]) (i := 0) K14r.out), (o0 (by omega) K15r.out), (o0 (by omega) K61.out), (o0 (by omega) K62.out), (s0 R8r.out), (s0 R9r.out), (s0 R11r.out), (s0 R13r.out), (s0 R14r.out), (s0 R15r.out), (s0 RYY.out), (s0 RH.out), (s0 RM0.out), (s0 RQQ.out), (s0 RX0.out)⟩) ?_
        rintro Y3 ⟨hb, z0, z1, z2, z3, z4, z5, z6, z7, z8, z9, z10, z11, z12, z13, z14, z15, z16, z17, z18⟩
        have HB3 := Lib.hid hb
        have K8r := Lib.hid z0
        have K9r := Lib.hid z1
        have K11r := Lib.hid z2
        have K13r := Lib.hid z3
        have K14r := Lib.hid z4
        have K15r := Lib.hid z5
        have K61 := Lib.hid z6
        have K62 := Lib.hid z7
        have R8r := Lib.hid z8
        have R9r := Lib.hid z9
        have R11r := Lib.hid z10
        have R13r := Lib.hid z11
        have R14r := Lib.hid z12
        have R15r := Lib.hid z13
        have RYY := Lib.hid z14
        have RH := Lib.hid z15
        have RM0 := Lib.hid z16
        have RQQ := Lib.hid z17
        have RX0 := Lib.hid z18
        clear hb z0 z1 z2 z3 z4 z5 z6 z7 z8 z9 z10 z11 z12 z13 z14 z15 z16 z17 z18
        go_wp2_with fail
        have L28 := K8r.out.lt
        have L29 := K9r.out.lt
        have L30 := K11r.out.lt
        have L31 := K13r.out.lt
        have L32 := K14r.out.lt
        have L33 := K15r.out.lt
        have L34 := K61.out.lt
        have L35 := K62.out.lt
        have L36 := HB3.out.size
        refine wp_region_post (fun a0 a' V => ∃ py3_3 cy3_3 py3_4 cy3_4 pay3_6 cay3_6 pby3_6 cby3_6 pay3_7 cay3_7 pby3_7 cby3_7 py3_8 cy3_8 py3_9 cy3_9 gy3_10 gy3_11, a' = ⟨putL [(87, .agg #[.bool (zneg g), .slice xp11 (zlen g) xc11]), (88, .agg #[.bool (zneg x), .slice xp8 (zlen x) xc8]), (89, .agg #[.bool (zneg xz), .slice pb_7 (zlen xz) cb_7]), (90, .agg #[.bool (zneg xx), .slice py3_3 (zlen xx) cy3_3]), (91, .agg #[.bool (zneg gx), .slice py3_4 (zlen gx) cy3_4]), (92, .agg #[.bool (zneg y), .slice xp9 (zlen y) xc9]), (93, .tuple #[.agg #[.bool (zneg wz), .slice pay3_6 (zlen wz) cay3_6], .agg #[.bool (zneg mo), .slice pby3_6 (zlen mo) cby3_6]]), (86, .tuple #[.agg #[.bool (zneg wz), .slice pay3_7 (zlen wz) cay3_7], .agg #[.bool (zneg mo), .slice pby3_7 (zlen mo) cby3_7]]), (94, .agg #[.bool (zneg wz), .slice py3_8 (zlen wz) cy3_8]), (95, .agg #[.bool (zneg mo), .slice py3_9 (zlen mo) cy3_9]), (20, .pointer (some ⟨gy3_10, 0, none⟩)), (21, .pointer (some ⟨gy3_11, 0, none⟩))] a0.tmps, a0.defers⟩ ∧ Below w.heap.size w V ∧ SBk V (W1.heap.size) #[.bool (zneg x), .slice xp8 (zlen x) xc8] 49 ∧ SBk V (W1.heap.size + 1) #[.bool (zneg y), .slice xp9 (zlen y) xc9] 49 ∧ SBk V (W4.heap.size) #[.bool (zneg g), .slice xp11 (zlen g) xc11] 49 ∧ SBk V (gw1_3) #[.bool (zneg (0 : Int)), .slice xp13 (zlen (0 : Int)) xc13] 49 ∧ SBk V (W9.heap.size) #[.bool (zneg xz), .slice pb_7 (zlen xz) cb_7] 49 ∧ SBk V (W9.heap.size + 1) #[.bool (zneg v), .slice xp15 (zlen v) xc15] 49 ∧ SBk V (gy2_8) #[.bool (zneg h), .slice py2_6 (zlen h) cy2_6] 49 ∧ SBk V (gy2_9) #[.bool (zneg mz), .slice py2_7 (zlen mz) cy2_7] 49 ∧ SBk V (gy3_10) #[.bool (zneg wz), .slice py3_8 (zlen wz) cy3_8] 49 ∧ SBk V (gy3_11) #[.bool (zneg mo), .slice py3_9 (zlen mo) cy3_9] 49 ∧ RN V (.slice xp8 (zlen x) xc8) x.natAbs ∧ RN V (.slice xp9 (zlen y) xc9) y.natAbs ∧ RN V (.slice xp11 (zlen g) xc11) g.natAbs ∧ RN V (.slice xp13 (zlen (0 : Int)) xc13) (0 : Int).natAbs ∧ RN V (.slice up (zlen uu) uc) uu.natAbs ∧ RN V (.slice xp15 (zlen v) xc15) v.natAbs ∧ RN V (.slice py2_2 (zlen yy) cy2_2) yy.natAbs ∧ RN V (.slice py2_6 (zlen h) cy2_6) h.natAbs ∧ RN V (.slice py2_7 (zlen mz) cy2_7) mz.natAbs ∧ RN V (.slice pa_7 (zlen qq) ca_7) qq.natAbs ∧ RN V (.slice pb_7 (zlen xz) cb_7) xz.natAbs ∧ RN V (.slice py3_3 (zlen xx) cy3_3) xx.natAbs ∧ RN V (.slice py3_4 (zlen gx) cy3_4) gx.natAbs ∧ RN V (.slice py3_8 (zlen wz) cy3_8) wz.natAbs ∧ RN V (.slice py3_9 (zlen mo) cy3_9) mo.natAbs ∧ Y3.heap.size ≤ gy3_10 ∧ Y3.heap.size ≤ gy3_11 ∧ gy3_10 ≠ gy3_11) ?_ ?_
        · refine wp_region_swap (by kernel_rfl) 12 1 9 (fun i => [87, 88, 89, 90, 91, 92, 93, 86, 94, 95, 20, 21].getD i 0) (RelR [Rel.val (.agg #[.bool (zneg g), .slice xp11 (zlen g) xc11]), Rel.val (.agg #[.bool (zneg x), .slice xp8 (zlen x) xc8]), Rel.val (.agg #[.bool (zneg xz), .slice pb_7 (zlen xz) cb_7]), Rel.int xx, Rel.int gx, Rel.val (.agg #[.bool (zneg y), .slice xp9 (zlen y) xc9]), Rel.int2 wz mo, Rel.int2 wz mo, Rel.int wz, Rel.int mo, Rel.ptr Y3.heap.size (.cells #[.bool false, .slice none 0 0] 49), Rel.ptr Y3.heap.size (.cells #[.bool false, .slice none 0 0] 49)]) (fun W => Below Y3.heap.size Y3 W) (Dst 10 11 (fun i => [87, 88, 89, 90, 91, 92, 93, 86, 94, 95, 20, 21].getD i 0)) (by decide) (by decide) (by kernel_rfl) (by kernel_rfl) (by kernel_rfl) (by kernel_rfl) Dst.start (Below.refl _ _).drew ?_ ?_ ?_
          · intro listed a W i hI hD hrd him
            have HI := Lib.hid hI
            have HD := Lib.hid hD
            have Hi := fun (j : Nat) (h : i = j) => (Lib.hid (h ▸ hrd) : Hid (j ∈ _))
            clear hI hrd hD
            match i, him with
            | 0, _ =>
              have Hi := Hi 0 rfl
              have y11 : a.tmps[11]? = some (.pointer (some ⟨W4.heap.size, 0, none⟩)) := HI.out.rest 11 (by decide)
              have dK11r0 := (K11r.out.below HI.out.world).cell (i := 0) rfl
              have dK11r1 := (K11r.out.below HI.out.world).cell (i := 1) rfl
              refine wpOp_step rfl (fun K' hK => ?_)
              have hK := Lib.hid hK
              go_simp
              exact hK.out _ _ ⟨HI.out.put Hi.out (by decide) rfl (by simp) (by decide) (rfl) (fun j u h => h) (HI.out.world), HD.out.put (by decide) (by decide) rfl (by decide) (by decide)⟩
            | 1, _ =>
              have Hi := Hi 1 rfl
              have y8 : a.tmps[8]? = some (.pointer (some ⟨W1.heap.size, 0, none⟩)) := HI.out.rest 8 (by decide)
              have dK8r0 := (K8r.out.below HI.out.world).cell (i := 0) rfl
              have dK8r1 := (K8r.out.below HI.out.world).cell (i := 1) rfl
              refine wpOp_step rfl (fun K' hK => ?_)
              have hK := Lib.hid hK
              go_simp
              exact hK.out _ _ ⟨HI.out.put Hi.out (by decide) rfl (by simp) (by decide) (rfl) (fun j u h => h) (HI.out.world), HD.out.put (by decide) (by decide) rfl (by decide) (by decide)⟩
            | 2, _ =>
              have Hi := Hi 2 rfl
              have y14 : a.tmps[14]? = some (.pointer (some ⟨W9.heap.size, 0, none⟩)) := HI.out.rest 14 (by decide)
              have dK14r0 := (K14r.out.below HI.out.world).cell (i := 0) rfl
              have dK14r1 := (K14r.out.below HI.out.world).cell (i := 1) rfl
              refine wpOp_step rfl (fun K' hK => ?_)
              have hK := Lib.hid hK
              go_simp
              exact hK.out _ _ ⟨HI.out.put Hi.out (by decide) rfl (by simp) (by decide) (rfl) (fun j u h => h) (HI.out.world), HD.out.put (by decide) (by decide) rfl (by decide) (by decide)⟩
            | 3, _ =>
              have Hi := Hi 3 rfl
              have x1 : a.tmps[88]? = some (.agg #[.bool (zneg x), .slice xp8 (zlen x) xc8]) := by
                obtain ⟨v', y', e'⟩ := HI.out.at (i := 1) Hi.out (by kernel_rfl) (by decide)
                obtain rfl : v' = .agg #[.bool (zneg x), .slice xp8 (zlen x) xc8] := e'
                exact y'
              have x2 : a.tmps[89]? = some (.agg #[.bool (zneg xz), .slice pb_7 (zlen xz) cb_7]) := by
                obtain ⟨v', y', e'⟩ := HI.out.at (i := 2) Hi.out (by kernel_rfl) (by decide)
                obtain rfl : v' = .agg #[.bool (zneg xz), .slice pb_7 (zlen xz) cb_7] := e'
                exact y'
              refine wpOp_step rfl (fun K' hK => ?_)
              have hK := Lib.hid hK
              go_simp
              with_reducible refine (C8.out _ _ _ _ _ (R8r.out.below HI.out.world) (RX0.out.below HI.out.world)).mono ?_
              rintro e W' ⟨py3_3, cy3_3, rfl, rry3_3, hb⟩
              exact hK.out _ _ ⟨HI.out.put Hi.out (by decide) rfl (by simp) (by decide) (⟨py3_3, cy3_3, rfl, rry3_3⟩) (fun j u h => RelR.mono hb j u h) (HI.out.world.trans (hb.mono HI.out.world.size)), HD.out.put (by decide) (by decide) rfl (by decide) (by decide)⟩
            | 4, _ =>
              have Hi := Hi 4 rfl
              have x0 : a.tmps[87]? = some (.agg #[.bool (zneg g), .slice xp11 (zlen g) xc11]) := by
                obtain ⟨v', y', e'⟩ := HI.out.at (i := 0) Hi.out (by kernel_rfl) (by decide)
                obtain rfl : v' = .agg #[.bool (zneg g), .slice xp11 (zlen g) xc11] := e'
                exact y'
              obtain ⟨v', x3, py3_3, cy3_3, e, rry3_3⟩ := HI.out.at (i := 3) Hi.out (by kernel_rfl) (by decide)
              obtain rfl := e
              have x3 : a.tmps[90]? = some (.agg #[.bool (zneg xx), .slice py3_3 (zlen xx) cy3_3]) := x3
              have RRY3_3 := Lib.hid rry3_3
              clear rry3_3
              refine wpOp_step rfl (fun K' hK => ?_)
              have hK := Lib.hid hK
              go_simp
              with_reducible refine (C9.out _ _ _ _ _ (R11r.out.below HI.out.world) RRY3_3.out).mono ?_
              rintro e W' ⟨py3_4, cy3_4, rfl, rry3_4, hb⟩
              exact hK.out _ _ ⟨HI.out.put Hi.out (by decide) rfl (by simp) (by decide) (⟨py3_4, cy3_4, rfl, rry3_4⟩) (fun j u h => RelR.mono hb j u h) (HI.out.world.trans (hb.mono HI.out.world.size)), HD.out.put (by decide) (by decide) rfl (by decide) (by decide)⟩
            | 5, _ =>
              have Hi := Hi 5 rfl
              have y9 : a.tmps[9]? = some (.pointer (some ⟨W1.heap.size + 1, 0, none⟩)) := HI.out.rest 9 (by decide)
              have dK9r0 := (K9r.out.below HI.out.world).cell (i := 0) rfl
              have dK9r1 := (K9r.out.below HI.out.world).cell (i := 1) rfl
              refine wpOp_step rfl (fun K' hK => ?_)
              have hK := Lib.hid hK
              go_simp
              exact hK.out _ _ ⟨HI.out.put Hi.out (by decide) rfl (by simp) (by decide) (rfl) (fun j u h => h) (HI.out.world), HD.out.put (by decide) (by decide) rfl (by decide) (by decide)⟩
            | 6, _ =>
              have Hi := Hi 6 rfl
              obtain ⟨v', x4, py3_4, cy3_4, e, rry3_4⟩ := HI.out.at (i := 4) Hi.out (by kernel_rfl) (by decide)
              obtain rfl := e
              have x4 : a.tmps[91]? = some (.agg #[.bool (zneg gx), .slice py3_4 (zlen gx) cy3_4]) := x4
              have RRY3_4 := Lib.hid rry3_4
              clear rry3_4
              have x5 : a.tmps[92]? = some (.agg #[.bool (zneg y), .slice xp9 (zlen y) xc9]) := by
                obtain ⟨v', y', e'⟩ := HI.out.at (i := 5) Hi.out (by kernel_rfl) (by decide)
                obtain rfl : v' = .agg #[.bool (zneg y), .slice xp9 (zlen y) xc9] := e'
                exact y'
              refine wpOp_step rfl (fun K' hK => ?_)
              have hK := Lib.hid hK
              go_simp
              with_reducible refine (C10.out _ _ _ _ _ RRY3_4.out (R9r.out.below HI.out.world)).mono ?_
              rintro e W' ⟨pay3_6, cay3_6, pby3_6, cby3_6, rfl, rry3_6, rry3_6_1, hb⟩
              exact hK.out _ _ ⟨HI.out.put Hi.out (by decide) rfl (by simp) (by decide) (⟨pay3_6, cay3_6, pby3_6, cby3_6, rfl, rry3_6, rry3_6_1⟩) (fun j u h => RelR.mono hb j u h) (HI.out.world.trans (hb.mono HI.out.world.size)), HD.out.put (by decide) (by decide) rfl (by decide) (by decide)⟩
            | 7, _ =>
              have Hi := Hi 7 rfl
              obtain ⟨v', x6, pay3_6, cay3_6, pby3_6, cby3_6, e, rry3_6, rry3_6_1⟩ := HI.out.at (i := 6) Hi.out (by kernel_rfl) (by decide)
              obtain rfl := e
              have x6 : a.tmps[93]? = some (.tuple #[.agg #[.bool (zneg wz), .slice pay3_6 (zlen wz) cay3_6], .agg #[.bool (zneg mo), .slice pby3_6 (zlen mo) cby3_6]]) := x6
              have RRY3_6 := Lib.hid rry3_6
              clear rry3_6
              have RRY3_6_1 := Lib.hid rry3_6_1
              clear rry3_6_1
              refine wpOp_step rfl (fun K' hK => ?_)
              have hK := Lib.hid hK
              go_simp
              exact hK.out _ _ ⟨HI.out.put Hi.out (by decide) rfl (by simp) (by decide) (⟨pay3_6, cay3_6, pby3_6, cby3_6, rfl, RRY3_6.out, RRY3_6_1.out⟩) (fun j u h => h) (HI.out.world), HD.out.put (by decide) (by decide) rfl (by decide) (by decide)⟩
            | 8, _ =>
              have Hi := Hi 8 rfl
              obtain ⟨v', x7, pay3_7, cay3_7, pby3_7, cby3_7, e, rry3_7, rry3_7_1⟩ := HI.out.at (i := 7) Hi.out (by kernel_rfl) (by decide)
              obtain rfl := e
              have x7 : a.tmps[86]? = some (.tuple #[.agg #[.bool (zneg wz), .slice pay3_7 (zlen wz) cay3_7], .agg #[.bool (zneg mo), .slice pby3_7 (zlen mo) cby3_7]]) := x7
              have RRY3_7 := Lib.hid rry3_7
              clear rry3_7
              have RRY3_7_1 := Lib.hid rry3_7_1
              clear rry3_7_1
              refine wpOp_step rfl (fun K' hK => ?_)
              have hK := Lib.hid hK
              go_simp
              exact hK.out _ _ ⟨HI.out.put Hi.out (by decide) rfl (by simp) (by decide) (⟨pay3_7, cay3_7, rfl, RRY3_7.out⟩) (fun j u h => h) (HI.out.world), HD.out.put (by decide) (by decide) rfl (by decide) (by decide)⟩
            | 9, _ =>
              have Hi := Hi 9 rfl
              obtain ⟨v', x7, pay3_7, cay3_7, pby3_7, cby3_7, e, rry3_7, rry3_7_1⟩ := HI.out.at (i := 7) Hi.out (by kernel_rfl) (by decide)
              obtain rfl := e
              have x7 : a.tmps[86]? = some (.tuple #[.agg #[.bool (zneg wz), .slice pay3_7 (zlen wz) cay3_7], .agg #[.bool (zneg mo), .slice pby3_7 (zlen mo) cby3_7]]) := x7
              have RRY3_7 := Lib.hid rry3_7
              clear rry3_7
              have RRY3_7_1 := Lib.hid rry3_7_1
              clear rry3_7_1
              refine wpOp_step rfl (fun K' hK => ?_)
              have hK := Lib.hid hK
              go_simp
              exact hK.out _ _ ⟨HI.out.put Hi.out (by decide) rfl (by simp) (by decide) (⟨pby3_7, cby3_7, rfl, RRY3_7_1.out⟩) (fun j u h => h) (HI.out.world), HD.out.put (by decide) (by decide) rfl (by decide) (by decide)⟩
            | 10, _ =>
              have Hi := Hi 10 rfl
              refine wpOp_step rfl (fun K' hK => ?_)
              have hK := Lib.hid hK
              go_simp
              have hb := (Below.refl W.heap.size W).alloc (Nat.le_refl _) (.cells #[.bool false, .slice none 0 0] 49)
              exact hK.out _ _ ⟨HI.out.put Hi.out (by decide) rfl (by simp) (by decide) (⟨W.heap.size, rfl, HI.out.world.size, SBk.new _ _ _⟩) (fun j u h => RelR.mono hb j u h) (HI.out.world.trans (hb.mono HI.out.world.size)), Dst.left (by decide) rfl (by decide) (by rw [HI.out.tsize]; simp) (HI.out.fresh (i := 11) (by decide) (fun _ _ h => h))⟩
            | 11, _ =>
              have Hi := Hi 11 rfl
              refine wpOp_step rfl (fun K' hK => ?_)
              have hK := Lib.hid hK
              go_simp
              have hb := (Below.refl W.heap.size W).alloc (Nat.le_refl _) (.cells #[.bool false, .slice none 0 0] 49)
              exact hK.out _ _ ⟨HI.out.put Hi.out (by decide) rfl (by simp) (by decide) (⟨W.heap.size, rfl, HI.out.world.size, SBk.new _ _ _⟩) (fun j u h => RelR.mono hb j u h) (HI.out.world.trans (hb.mono HI.out.world.size)), Dst.right (by decide) rfl (by decide) (by rw [HI.out.tsize]; simp) (HI.out.fresh (i := 10) (by decide) (fun _ _ h => h))⟩
            | n + 12, h => exact absurd h (by omega)
          · intro listed a W hI hD hall
            obtain ⟨v0, x0, e0⟩ := hI.slots 0 (by decide) (hall 0 (by decide))
            obtain rfl : v0 = .agg #[.bool (zneg g), .slice xp11 (zlen g) xc11] := e0
            have x0 : a.tmps[87]? = some (.agg #[.bool (zneg g), .slice xp11 (zlen g) xc11]) := x0
            obtain ⟨v1, x1, e1⟩ := hI.slots 1 (by decide) (hall 1 (by decide))
            obtain rfl : v1 = .agg #[.bool (zneg x), .slice xp8 (zlen x) xc8] := e1
            have x1 : a.tmps[88]? = some (.agg #[.bool (zneg x), .slice xp8 (zlen x) xc8]) := x1
            obtain ⟨v2, x2, e2⟩ := hI.slots 2 (by decide) (hall 2 (by decide))
            obtain rfl : v2 = .agg #[.bool (zneg xz), .slice pb_7 (zlen xz) cb_7] := e2
            have x2 : a.tmps[89]? = some (.agg #[.bool (zneg xz), .slice pb_7 (zlen xz) cb_7]) := x2
            obtain ⟨v3, x3, py3_3, cy3_3, e3, rry3_3⟩ := hI.slots 3 (by decide) (hall 3 (by decide))
            obtain rfl := e3
            have RRY3_3 := Lib.hid rry3_3
            clear rry3_3
            have x3 : a.tmps[90]? = some (.agg #[.bool (zneg xx), .slice py3_3 (zlen xx) cy3_3]) := x3
            obtain ⟨v4, x4, py3_4, cy3_4, e4, rry3_4⟩ := hI.slots 4 (by decide) (hall 4 (by decide))
            obtain rfl := e4
            have RRY3_4 := Lib.hid rry3_4
            clear rry3_4
            have x4 : a.tmps[91]? = some (.agg #[.bool (zneg gx), .slice py3_4 (zlen gx) cy3_4]) := x4
            obtain ⟨v5, x5, e5⟩ := hI.slots 5 (by decide) (hall 5 (by decide))
            obtain rfl : v5 = .agg #[.bool (zneg y), .slice xp9 (zlen y) xc9] := e5
            have x5 : a.tmps[92]? = some (.agg #[.bool (zneg y), .slice xp9 (zlen y) xc9]) := x5
            obtain ⟨v6, x6, pay3_6, cay3_6, pby3_6, cby3_6, e6, rry3_6, rry3_6_1⟩ := hI.slots 6 (by decide) (hall 6 (by decide))
            obtain rfl := e6
            have RRY3_6 := Lib.hid rry3_6
            clear rry3_6
            have RRY3_6_1 := Lib.hid rry3_6_1
            clear rry3_6_1
            have x6 : a.tmps[93]? = some (.tuple #[.agg #[.bool (zneg wz), .slice pay3_6 (zlen wz) cay3_6], .agg #[.bool (zneg mo), .slice pby3_6 (zlen mo) cby3_6]]) := x6
            obtain ⟨v7, x7, pay3_7, cay3_7, pby3_7, cby3_7, e7, rry3_7, rry3_7_1⟩ := hI.slots 7 (by decide) (hall 7 (by decide))
            obtain rfl := e7
            have RRY3_7 := Lib.hid rry3_7
            clear rry3_7
            have RRY3_7_1 := Lib.hid rry3_7_1
            clear rry3_7_1
            have x7 : a.tmps[86]? = some (.tuple #[.agg #[.bool (zneg wz), .slice pay3_7 (zlen wz) cay3_7], .agg #[.bool (zneg mo), .slice pby3_7 (zlen mo) cby3_7]]) := x7
            obtain ⟨v8, x8, py3_8, cy3_8, e8, rry3_8⟩ := hI.slots 8 (by decide) (hall 8 (by decide))
            obtain rfl := e8
            have RRY3_8 := Lib.hid rry3_8
            clear rry3_8
            have x8 : a.tmps[94]? = some (.agg #[.bool (zneg wz), .slice py3_8 (zlen wz) cy3_8]) := x8
            obtain ⟨v9, x9, py3_9, cy3_9, e9, rry3_9⟩ := hI.slots 9 (by decide) (hall 9 (by decide))
            obtain rfl := e9
            have RRY3_9 := Lib.hid rry3_9
            clear rry3_9
            have x9 : a.tmps[95]? = some (.agg #[.bool (zneg mo), .slice py3_9 (zlen mo) cy3_9]) := x9
            obtain ⟨v10, x10, gy3_10, e10, rry3_10, rry3_10_1⟩ := hI.slots 10 (by decide) (hall 10 (by decide))
            obtain rfl := e10
            have RRY3_10 := Lib.hid rry3_10
            clear rry3_10
            have RRY3_10_1 := Lib.hid rry3_10_1
            clear rry3_10_1
            have x10 : a.tmps[20]? = some (.pointer (some ⟨gy3_10, 0, none⟩)) := x10
            obtain ⟨v11, x11, gy3_11, e11, rry3_11, rry3_11_1⟩ := hI.slots 11 (by decide) (hall 11 (by decide))
            obtain rfl := e11
            have RRY3_11 := Lib.hid rry3_11
            clear rry3_11
            have RRY3_11_1 := Lib.hid rry3_11_1
            clear rry3_11_1
            have x11 : a.tmps[21]? = some (.pointer (some ⟨gy3_11, 0, none⟩)) := x11
            have hD := hD (hall 10 (by decide)) (hall 11 (by decide))
            have hne : gy3_10 ≠ gy3_11 := by
              intro e
              apply hD
              show a.tmps[20]? = a.tmps[21]?
              rw [x10, x11, e]
            have HNE := Lib.hid hne
            clear hne hD
            have ea := hI.fin [(87, .agg #[.bool (zneg g), .slice xp11 (zlen g) xc11]), (88, .agg #[.bool (zneg x), .slice xp8 (zlen x) xc8]), (89, .agg #[.bool (zneg xz), .slice pb_7 (zlen xz) cb_7]), (90, .agg #[.bool (zneg xx), .slice py3_3 (zlen xx) cy3_3]), (91, .agg #[.bool (zneg gx), .slice py3_4 (zlen gx) cy3_4]), (92, .agg #[.bool (zneg y), .slice xp9 (zlen y) xc9]), (93, .tuple #[.agg #[.bool (zneg wz), .slice pay3_6 (zlen wz) cay3_6], .agg #[.bool (zneg mo), .slice pby3_6 (zlen mo) cby3_6]]), (86, .tuple #[.agg #[.bool (zneg wz), .slice pay3_7 (zlen wz) cay3_7], .agg #[.bool (zneg mo), .slice pby3_7 (zlen mo) cby3_7]]), (94, .agg #[.bool (zneg wz), .slice py3_8 (zlen wz) cy3_8]), (95, .agg #[.bool (zneg mo), .slice py3_9 (zlen mo) cy3_9]), (20, .pointer (some ⟨gy3_10, 0, none⟩)), (21, .pointer (some ⟨gy3_11, 0, none⟩))] (by
              intro p hp
              simp only [List.mem_cons, List.not_mem_nil, or_false] at hp
              rcases hp with rfl | rfl | rfl | rfl | rfl | rfl | rfl | rfl | rfl | rfl | rfl | rfl
              · exact x0
              · exact x1
              · exact x2
              · exact x3
              · exact x4
              · exact x5
              · exact x6
              · exact x7
              · exact x8
              · exact x9
              · exact x10
              · exact x11) (by
              intro d hd i him h
              match i, him with
              | 0, _ => exact hd _ (ix 0 rfl) h
              | 1, _ => exact hd _ (ix 1 rfl) h
              | 2, _ => exact hd _ (ix 2 rfl) h
              | 3, _ => exact hd _ (ix 3 rfl) h
              | 4, _ => exact hd _ (ix 4 rfl) h
              | 5, _ => exact hd _ (ix 5 rfl) h
              | 6, _ => exact hd _ (ix 6 rfl) h
              | 7, _ => exact hd _ (ix 7 rfl) h
              | 8, _ => exact hd _ (ix 8 rfl) h
              | 9, _ => exact hd _ (ix 9 rfl) h
              | 10, _ => exact hd _ (ix 10 rfl) h
              | 11, _ => exact hd _ (ix 11 rfl) h
              | n + 12, h => omega)
            have EA := Lib.hid ea
            have HBW := Lib.hid hI.world
            have HI := Lib.hid hI
            clear ea hI hall
            have K8r := Lib.hid (K8r.out.below HBW.out)
            have K9r := Lib.hid (K9r.out.below HBW.out)
            have K11r := Lib.hid (K11r.out.below HBW.out)
            have K13r := Lib.hid (K13r.out.below HBW.out)
            have K14r := Lib.hid (K14r.out.below HBW.out)
            have K15r := Lib.hid (K15r.out.below HBW.out)
            have K61 := Lib.hid (K61.out.below HBW.out)
            have K62 := Lib.hid (K62.out.below HBW.out)
            have R8r := Lib.hid (R8r.out.below HBW.out)
            have R9r := Lib.hid (R9r.out.below HBW.out)
            have R11r := Lib.hid (R11r.out.below HBW.out)
            have R13r := Lib.hid (R13r.out.below HBW.out)
            have R14r := Lib.hid (R14r.out.below HBW.out)
            have R15r := Lib.hid (R15r.out.below HBW.out)
            have RYY := Lib.hid (RYY.out.below HBW.out)
            have RH := Lib.hid (RH.out.below HBW.out)
            have RM0 := Lib.hid (RM0.out.below HBW.out)
            have RQQ := Lib.hid (RQQ.out.below HBW.out)
            have RX0 := Lib.hid (RX0.out.below HBW.out)
            have HBX := Lib.hid (HB3.out.trans (HBW.out.mono HB3.out.size))
            have RXX := RRY3_3
            have RGX := RRY3_4
            have RW0 := RRY3_8
            have RM1 := RRY3_9
            have K63 : Hid (SBk W gy3_10 #[.bool false, .slice none 0 0] 49) := RRY3_10_1
            have K64 : Hid (SBk W gy3_11 #[.bool false, .slice none 0 0] 49) := RRY3_11_1
            have dK630 := K63.out.cell (i := 0) rfl
            have fK630 := K63.out.frozen (i := 0)
            have dK631 := K63.out.cell (i := 1) rfl
            have fK631 := K63.out.frozen (i := 1)
            have dK640 := K64.out.cell (i := 0) rfl
            have fK640 := K64.out.frozen (i := 0)
            have dK641 := K64.out.cell (i := 1) rfl
            have fK641 := K64.out.frozen (i := 1)
            have ddK640 : ((W.setCell ⟨gy3_10, 0, none⟩ (.bool (zneg wz))).setCell ⟨gy3_10, 1, none⟩ (.slice py3_8 (zlen wz) cy3_8)).cell? ⟨gy3_11, 0, none⟩ = some (.bool false) := ((store_off (by have := RRY3_10.out; have := RRY3_11.out; have := HNE.out; omega) (l := [.bool (zneg wz), .slice py3_8 (zlen wz) cy3_8]) (i := 0) K64.out)).cell (i := 0) rfl
            have ddK641 : ((W.setCell ⟨gy3_10, 0, none⟩ (.bool (zneg wz))).setCell ⟨gy3_10, 1, none⟩ (.slice py3_8 (zlen wz) cy3_8)).cell? ⟨gy3_11, 1, none⟩ = some (.slice none 0 0) := ((store_off (by have := RRY3_10.out; have := RRY3_11.out; have := HNE.out; omega) (l := [.bool (zneg wz), .slice py3_8 (zlen wz) cy3_8]) (i := 0) K64.out)).cell (i := 1) rfl
            refine tail_succ (t := 1) ?_
            refine wpOp_step rfl (fun K' hK => ?_)
            have hK := Lib.hid hK
            go_simp
            refine hK.out _ _ ?_
            clear hK
            refine tail_succ (t := 0) ?_
            refine wpOp_step rfl (fun K' hK => ?_)
            have hK := Lib.hid hK
            go_simp
            refine hK.out _ _ ?_
            clear hK
            refine tail_nil ?_
            have s0 : ∀ {v' : Value} {n' : Nat}, RN W v' n' → RN (storeAll W (gy3_10) 0 [.bool (zneg wz), .slice py3_8 (zlen wz) cy3_8]) v' n' := fun h' => store_rn _ h' K63.out (by simp [noInt]) (by simp [plainV])
            have o0 : ∀ {g' : Nat} {cs' : Array Value} {T' : TypeId}, g' ≠ gy3_10 → SBk W g' cs' T' → SBk (storeAll W (gy3_10) 0 [.bool (zneg wz), .slice py3_8 (zlen wz) cy3_8]) g' cs' T' := fun hg' h' => store_off hg' _ 0 h'
            have s1 : ∀ {v' : Value} {n' : Nat}, RN (storeAll W (gy3_10) 0 [.bool (zneg wz), .slice py3_8 (zlen wz) cy3_8]) v' n' → RN (storeAll (storeAll W (gy3_10) 0 [.bool (zneg wz), .slice py3_8 (zlen wz) cy3_8]) (gy3_11) 0 [.bool (zneg mo), .slice py3_9 (zlen mo) cy3_9]) v' n' := fun h' => store_rn _ h' (o0 (by have := RRY3_10.out; have := RRY3_11.out; have := HNE.out; omega) K64.out) (by simp [noInt]) (by simp [plainV])
            have o1 : ∀ {g' : Nat} {cs' : Array Value} {T' : TypeId}, g' ≠ gy3_11 → SBk (storeAll W (gy3_10) 0 [.bool (zneg wz), .slice py3_8 (zlen wz) cy3_8]) g' cs' T' → SBk (storeAll (storeAll W (gy3_10) 0 [.bool (zneg wz), .slice py3_8 (zlen wz) cy3_8]) (gy3_11) 0 [.bool (zneg mo), .slice py3_9 (zlen mo) cy3_9]) g' cs' T' := fun hg' h' => store_off hg' _ 0 h'
            exact ⟨rfl, py3_3, cy3_3, py3_4, cy3_4, pay3_6, cay3_6, pby3_6, cby3_6, pay3_7, cay3_7, pby3_7, cby3_7, py3_8, cy3_8, py3_9, cy3_9, gy3_10, gy3_11, EA.out, (store_below (l := [.bool (zneg mo), .slice py3_9 (zlen mo) cy3_9]) (i := 0) (by have := RRY3_10.out; have := RRY3_11.out; have := HNE.out; omega) (store_below (l := [.bool (zneg wz), .slice py3_8 (zlen wz) cy3_8]) (i := 0) (by have := RRY3_10.out; have := RRY3_11.out; have := HNE.out; omega) HBX.out)), (o1 (by have := RRY3_10.out; have := RRY3_11.out; have := HNE.out; omega) (o0 (by have := RRY3_10.out; have := RRY3_11.out; have := HNE.out; omega) K8r.out)), (o1 (by have := RRY3_10.out; have := RRY3_11.out; have := HNE.out; omega) (o0 (by have := RRY3_10.out; have := RRY3_11.out; have := HNE.out; omega) K9r.out)), (o1 (by have := RRY3_10.out; have := RRY3_11.out; have := HNE.out; omega) (o0 (by have := RRY3_10.out; have := RRY3_11.out; have := HNE.out; omega) K11r.out)), (o1 (by have := RRY3_10.out; have := RRY3_11.out; have := HNE.out; omega) (o0 (by have := RRY3_10.out; have := RRY3_11.out; have := HNE.out; omega) K13r.out)), (o1 (by have := RRY3_10.out; have := RRY3_11.out; have := HNE.out; omega) (o0 (by have := RRY3_10.out; have := RRY3_11.out; have := HNE.out; omega) K14r.out)), (o1 (by have := RRY3_10.out; have := RRY3_11.out; have := HNE.out; omega) (o0 (by have := RRY3_10.out; have := RRY3_11.out; have := HNE.out; omega) K15r.out)), (o1 (by have := RRY3_10.out; have := RRY3_11.out; have := HNE.out; omega) (o0 (by have := RRY3_10.out; have := RRY3_11.out; have := HNE.out; omega) K61.out)), (o1 (by have := RRY3_10.out; have := RRY3_11.out; have := HNE.out; omega) (o0 (by have := RRY3_10.out; have := RRY3_11.out; have := HNE.out; omega) K62.out)), (store_off (by have := RRY3_10.out; have := RRY3_11.out; have := HNE.out; omega) (l := [.bool (zneg mo), .slice py3_9 (zlen mo) cy3_9]) (i := 0) (store_blk (l := [.bool (zneg wz), .slice py3_8 (zlen wz) cy3_8]) (i := 0) K63.out)), (store_blk (l := [.bool (zneg mo), .slice py3_9 (zlen mo) cy3_9]) (i := 0) (store_off (by have := RRY3_10.out; have := RRY3_11.out; have := HNE.out; omega) (l := [.bool (zneg wz), .slice py3_8 (zlen wz) cy3_8]) (i := 0) K64.out)), (s1 (s0 R8r.out)), (s1 (s0 R9r.out)), (s1 (s0 R11r.out)), (s1 (s0 R13r.out)), (s1 (s0 R14r.out)), (s1 (s0 R15r.out)), (s1 (s0 RYY.out)), (s1 (s0 RH.out)), (s1 (s0 RM0.out)), (s1 (s0 RQQ.out)), (s1 (s0 RX0.out)), (s1 (s0 RXX.out)), (s1 (s0 RGX.out)), (s1 (s0 RW0.out)), (s1 (s0 RM1.out)), RRY3_10.out, RRY3_11.out, HNE.out⟩
          · intro listed a W hI hD hall
            obtain ⟨v0, x0, e0⟩ := hI.slots 0 (by decide) (hall 0 (by decide) (by decide))
            obtain rfl : v0 = .agg #[.bool (zneg g), .slice xp11 (zlen g) xc11] := e0
            have x0 : a.tmps[87]? = some (.agg #[.bool (zneg g), .slice xp11 (zlen g) xc11]) := x0
            obtain ⟨v1, x1, e1⟩ := hI.slots 1 (by decide) (hall 1 (by decide) (by decide))
            obtain rfl : v1 = .agg #[.bool (zneg x), .slice xp8 (zlen x) xc8] := e1
            have x1 : a.tmps[88]? = some (.agg #[.bool (zneg x), .slice xp8 (zlen x) xc8]) := x1
            obtain ⟨v2, x2, e2⟩ := hI.slots 2 (by decide) (hall 2 (by decide) (by decide))
            obtain rfl : v2 = .agg #[.bool (zneg xz), .slice pb_7 (zlen xz) cb_7] := e2
            have x2 : a.tmps[89]? = some (.agg #[.bool (zneg xz), .slice pb_7 (zlen xz) cb_7]) := x2
            obtain ⟨v3, x3, py3_3, cy3_3, e3, rry3_3⟩ := hI.slots 3 (by decide) (hall 3 (by decide) (by decide))
            obtain rfl := e3
            have RRY3_3 := Lib.hid rry3_3
            clear rry3_3
            have x3 : a.tmps[90]? = some (.agg #[.bool (zneg xx), .slice py3_3 (zlen xx) cy3_3]) := x3
            obtain ⟨v4, x4, py3_4, cy3_4, e4, rry3_4⟩ := hI.slots 4 (by decide) (hall 4 (by decide) (by decide))
            obtain rfl := e4
            have RRY3_4 := Lib.hid rry3_4
            clear rry3_4
            have x4 : a.tmps[91]? = some (.agg #[.bool (zneg gx), .slice py3_4 (zlen gx) cy3_4]) := x4
            obtain ⟨v5, x5, e5⟩ := hI.slots 5 (by decide) (hall 5 (by decide) (by decide))
            obtain rfl : v5 = .agg #[.bool (zneg y), .slice xp9 (zlen y) xc9] := e5
            have x5 : a.tmps[92]? = some (.agg #[.bool (zneg y), .slice xp9 (zlen y) xc9]) := x5
            obtain ⟨v6, x6, pay3_6, cay3_6, pby3_6, cby3_6, e6, rry3_6, rry3_6_1⟩ := hI.slots 6 (by decide) (hall 6 (by decide) (by decide))
            obtain rfl := e6
            have RRY3_6 := Lib.hid rry3_6
            clear rry3_6
            have RRY3_6_1 := Lib.hid rry3_6_1
            clear rry3_6_1
            have x6 : a.tmps[93]? = some (.tuple #[.agg #[.bool (zneg wz), .slice pay3_6 (zlen wz) cay3_6], .agg #[.bool (zneg mo), .slice pby3_6 (zlen mo) cby3_6]]) := x6
            obtain ⟨v7, x7, pay3_7, cay3_7, pby3_7, cby3_7, e7, rry3_7, rry3_7_1⟩ := hI.slots 7 (by decide) (hall 7 (by decide) (by decide))
            obtain rfl := e7
            have RRY3_7 := Lib.hid rry3_7
            clear rry3_7
            have RRY3_7_1 := Lib.hid rry3_7_1
            clear rry3_7_1
            have x7 : a.tmps[86]? = some (.tuple #[.agg #[.bool (zneg wz), .slice pay3_7 (zlen wz) cay3_7], .agg #[.bool (zneg mo), .slice pby3_7 (zlen mo) cby3_7]]) := x7
            obtain ⟨v8, x8, py3_8, cy3_8, e8, rry3_8⟩ := hI.slots 8 (by decide) (hall 8 (by decide) (by decide))
            obtain rfl := e8
            have RRY3_8 := Lib.hid rry3_8
            clear rry3_8
            have x8 : a.tmps[94]? = some (.agg #[.bool (zneg wz), .slice py3_8 (zlen wz) cy3_8]) := x8
            obtain ⟨v10, x10, gy3_10, e10, rry3_10, rry3_10_1⟩ := hI.slots 10 (by decide) (hall 10 (by decide) (by decide))
            obtain rfl := e10
            have RRY3_10 := Lib.hid rry3_10
            clear rry3_10
            have RRY3_10_1 := Lib.hid rry3_10_1
            clear rry3_10_1
            have x10 : a.tmps[20]? = some (.pointer (some ⟨gy3_10, 0, none⟩)) := x10
            obtain ⟨v11, x11, gy3_11, e11, rry3_11, rry3_11_1⟩ := hI.slots 11 (by decide) (hall 11 (by decide) (by decide))
            obtain rfl := e11
            have RRY3_11 := Lib.hid rry3_11
            clear rry3_11
            have RRY3_11_1 := Lib.hid rry3_11_1
            clear rry3_11_1
            have x11 : a.tmps[21]? = some (.pointer (some ⟨gy3_11, 0, none⟩)) := x11
            have hD := hD (hall 10 (by decide) (by decide)) (hall 11 (by decide) (by decide))
            have hne : gy3_10 ≠ gy3_11 := by
              intro e
              apply hD
              show a.tmps[20]? = a.tmps[21]?
              rw [x10, x11, e]
            have HNE := Lib.hid hne
            clear hne hD
            have HBW := Lib.hid hI.world
            have HI := Lib.hid hI
            clear hI hall
            have K8r := Lib.hid (K8r.out.below HBW.out)
            have K9r := Lib.hid (K9r.out.below HBW.out)
            have K11r := Lib.hid (K11r.out.below HBW.out)
            have K13r := Lib.hid (K13r.out.below HBW.out)
            have K14r := Lib.hid (K14r.out.below HBW.out)
            have K15r := Lib.hid (K15r.out.below HBW.out)
            have K61 := Lib.hid (K61.out.below HBW.out)
            have K62 := Lib.hid (K62.out.below HBW.out)
            have R8r := Lib.hid (R8r.out.below HBW.out)
            have R9r := Lib.hid (R9r.out.below HBW.out)
            have R11r := Lib.hid (R11r.out.below HBW.out)
            have R13r := Lib.hid (R13r.out.below HBW.out)
            have R14r := Lib.hid (R14r.out.below HBW.out)
            have R15r := Lib.hid (R15r.out.below HBW.out)
            have RYY := Lib.hid (RYY.out.below HBW.out)
            have RH := Lib.hid (RH.out.below HBW.out)
            have RM0 := Lib.hid (RM0.out.below HBW.out)
            have RQQ := Lib.hid (RQQ.out.below HBW.out)
            have RX0 := Lib.hid (RX0.out.below HBW.out)
            have HBX := Lib.hid (HB3.out.trans (HBW.out.mono HB3.out.size))
            have RXX := RRY3_3
            have RGX := RRY3_4
            have RW0 := RRY3_8
            have RM1 := RRY3_7_1
            have K63 : Hid (SBk W gy3_10 #[.bool false, .slice none 0 0] 49) := RRY3_10_1
            have K64 : Hid (SBk W gy3_11 #[.bool false, .slice none 0 0] 49) := RRY3_11_1
            have dK630 := K63.out.cell (i := 0) rfl
            have fK630 := K63.out.frozen (i := 0)
            have dK631 := K63.out.cell (i := 1) rfl
            have fK631 := K63.out.frozen (i := 1)
            have dK640 := K64.out.cell (i := 0) rfl
            have fK640 := K64.out.frozen (i := 0)
            have dK641 := K64.out.cell (i := 1) rfl
            have fK641 := K64.out.frozen (i := 1)
            have ddK640 : ((W.setCell ⟨gy3_10, 0, none⟩ (.bool (zneg wz))).setCell ⟨gy3_10, 1, none⟩ (.slice py3_8 (zlen wz) cy3_8)).cell? ⟨gy3_11, 0, none⟩ = some (.bool false) := ((store_off (by have := RRY3_10.out; have := RRY3_11.out; have := HNE.out; omega) (l := [.bool (zneg wz), .slice py3_8 (zlen wz) cy3_8]) (i := 0) K64.out)).cell (i := 0) rfl
            have ddK641 : ((W.setCell ⟨gy3_10, 0, none⟩ (.bool (zneg wz))).setCell ⟨gy3_10, 1, none⟩ (.slice py3_8 (zlen wz) cy3_8)).cell? ⟨gy3_11, 1, none⟩ = some (.slice none 0 0) := ((store_off (by have := RRY3_10.out; have := RRY3_11.out; have := HNE.out; omega) (l := [.bool (zneg wz), .slice py3_8 (zlen wz) cy3_8]) (i := 0) K64.out)).cell (i := 1) rfl
            refine wpOp_step rfl (fun K' hK => ?_)
            have hK := Lib.hid hK
            go_simp
            refine hK.out _ _ ?_
            clear hK
            refine wpOp_step rfl (fun K' hK => ?_)
            have hK := Lib.hid hK
            go_simp
            refine hK.out (a.put (some 95) (.agg #[.bool (zneg mo), .slice pby3_7 (zlen mo) cby3_7])) _ ?_
            clear hK
            have z0 : (a.put (some 95) (.agg #[.bool (zneg mo), .slice pby3_7 (zlen mo) cby3_7])).tmps[87]? = some (.agg #[.bool (zneg g), .slice xp11 (zlen g) xc11]) := (put_ne (by decide)).trans x0
            have z1 : (a.put (some 95) (.agg #[.bool (zneg mo), .slice pby3_7 (zlen mo) cby3_7])).tmps[88]? = some (.agg #[.bool (zneg x), .slice xp8 (zlen x) xc8]) := (put_ne (by decide)).trans x1
            have z2 : (a.put (some 95) (.agg #[.bool (zneg mo), .slice pby3_7 (zlen mo) cby3_7])).tmps[89]? = some (.agg #[.bool (zneg xz), .slice pb_7 (zlen xz) cb_7]) := (put_ne (by decide)).trans x2
            have z3 : (a.put (some 95) (.agg #[.bool (zneg mo), .slice pby3_7 (zlen mo) cby3_7])).tmps[90]? = some (.agg #[.bool (zneg xx), .slice py3_3 (zlen xx) cy3_3]) := (put_ne (by decide)).trans x3
            have z4 : (a.put (some 95) (.agg #[.bool (zneg mo), .slice pby3_7 (zlen mo) cby3_7])).tmps[91]? = some (.agg #[.bool (zneg gx), .slice py3_4 (zlen gx) cy3_4]) := (put_ne (by decide)).trans x4
            have z5 : (a.put (some 95) (.agg #[.bool (zneg mo), .slice pby3_7 (zlen mo) cby3_7])).tmps[92]? = some (.agg #[.bool (zneg y), .slice xp9 (zlen y) xc9]) := (put_ne (by decide)).trans x5
            have z6 : (a.put (some 95) (.agg #[.bool (zneg mo), .slice pby3_7 (zlen mo) cby3_7])).tmps[93]? = some (.tuple #[.agg #[.bool (zneg wz), .slice pay3_6 (zlen wz) cay3_6], .agg #[.bool (zneg mo), .slice pby3_6 (zlen mo) cby3_6]]) := (put_ne (by decide)).trans x6
            have z7 : (a.put (some 95) (.agg #[.bool (zneg mo), .slice pby3_7 (zlen mo) cby3_7])).tmps[86]? = some (.tuple #[.agg #[.bool (zneg wz), .slice pay3_7 (zlen wz) cay3_7], .agg #[.bool (zneg mo), .slice pby3_7 (zlen mo) cby3_7]]) := (put_ne (by decide)).trans x7
            have z8 : (a.put (some 95) (.agg #[.bool (zneg mo), .slice pby3_7 (zlen mo) cby3_7])).tmps[94]? = some (.agg #[.bool (zneg wz), .slice py3_8 (zlen wz) cy3_8]) := (put_ne (by decide)).trans x8
            have z10 : (a.put (some 95) (.agg #[.bool (zneg mo), .slice pby3_7 (zlen mo) cby3_7])).tmps[20]? = some (.pointer (some ⟨gy3_10, 0, none⟩)) := (put_ne (by decide)).trans x10
            have z11 : (a.put (some 95) (.agg #[.bool (zneg mo), .slice pby3_7 (zlen mo) cby3_7])).tmps[21]? = some (.pointer (some ⟨gy3_11, 0, none⟩)) := (put_ne (by decide)).trans x11
            have z9 : (a.put (some 95) (.agg #[.bool (zneg mo), .slice pby3_7 (zlen mo) cby3_7])).tmps[95]? = some (.agg #[.bool (zneg mo), .slice pby3_7 (zlen mo) cby3_7]) := put_same (by rw [HI.out.tsize]; simp)
            have ea := HI.out.fin_put (sd := 95) (v := .agg #[.bool (zneg mo), .slice pby3_7 (zlen mo) cby3_7]) [(87, .agg #[.bool (zneg g), .slice xp11 (zlen g) xc11]), (88, .agg #[.bool (zneg x), .slice xp8 (zlen x) xc8]), (89, .agg #[.bool (zneg xz), .slice pb_7 (zlen xz) cb_7]), (90, .agg #[.bool (zneg xx), .slice py3_3 (zlen xx) cy3_3]), (91, .agg #[.bool (zneg gx), .slice py3_4 (zlen gx) cy3_4]), (92, .agg #[.bool (zneg y), .slice xp9 (zlen y) xc9]), (93, .tuple #[.agg #[.bool (zneg wz), .slice pay3_6 (zlen wz) cay3_6], .agg #[.bool (zneg mo), .slice pby3_6 (zlen mo) cby3_6]]), (86, .tuple #[.agg #[.bool (zneg wz), .slice pay3_7 (zlen wz) cay3_7], .agg #[.bool (zneg mo), .slice pby3_7 (zlen mo) cby3_7]]), (94, .agg #[.bool (zneg wz), .slice py3_8 (zlen wz) cy3_8]), (95, .agg #[.bool (zneg mo), .slice pby3_7 (zlen mo) cby3_7]), (20, .pointer (some ⟨gy3_10, 0, none⟩)), (21, .pointer (some ⟨gy3_11, 0, none⟩))] (by
              intro p hp
              simp only [List.mem_cons, List.not_mem_nil, or_false] at hp
              rcases hp with rfl | rfl | rfl | rfl | rfl | rfl | rfl | rfl | rfl | rfl | rfl | rfl
              · exact z0
              · exact z1
              · exact z2
              · exact z3
              · exact z4
              · exact z5
              · exact z6
              · exact z7
              · exact z8
              · exact z9
              · exact z10
              · exact z11) (by
              intro d hd
              refine ⟨fun i him h => ?_, hd _ (ix 9 rfl)⟩
              match i, him with
              | 0, _ => exact hd _ (ix 0 rfl) h
              | 1, _ => exact hd _ (ix 1 rfl) h
              | 2, _ => exact hd _ (ix 2 rfl) h
              | 3, _ => exact hd _ (ix 3 rfl) h
              | 4, _ => exact hd _ (ix 4 rfl) h
              | 5, _ => exact hd _ (ix 5 rfl) h
              | 6, _ => exact hd _ (ix 6 rfl) h
              | 7, _ => exact hd _ (ix 7 rfl) h
              | 8, _ => exact hd _ (ix 8 rfl) h
              | 9, _ => exact hd _ (ix 9 rfl) h
              | 10, _ => exact hd _ (ix 10 rfl) h
              | 11, _ => exact hd _ (ix 11 rfl) h
              | n + 12, h => omega)
            have EA := Lib.hid ea
            clear ea x0 x1 x2 x3 x4 x5 x6 x7 x8 x10 x11
            generalize a.put (some 95) (.agg #[.bool (zneg mo), .slice pby3_7 (zlen mo) cby3_7]) = a2 at *
            refine tail_succ (t := 0) ?_
            refine wpOp_step rfl (fun K' hK => ?_)
            have hK := Lib.hid hK
            go_simp
            refine hK.out _ _ ?_
            clear hK
            refine tail_nil ?_
            have s0 : ∀ {v' : Value} {n' : Nat}, RN W v' n' → RN (storeAll W (gy3_10) 0 [.bool (zneg wz), .slice py3_8 (zlen wz) cy3_8]) v' n' := fun h' => store_rn _ h' K63.out (by simp [noInt]) (by simp [plainV])
            have o0 : ∀ {g' : Nat} {cs' : Array Value} {T' : TypeId}, g' ≠ gy3_10 → SBk W g' cs' T' → SBk (storeAll W (gy3_10) 0 [.bool (zneg wz), .slice py3_8 (zlen wz) cy3_8]) g' cs' T' := fun hg' h' => store_off hg' _ 0 h'
            have s1 : ∀ {v' : Value} {n' : Nat}, RN (storeAll W (gy3_10) 0 [.bool (zneg wz), .slice py3_8 (zlen wz) cy3_8]) v' n' → RN (storeAll (storeAll W (gy3_10) 0 [.bool (zneg wz), .slice py3_8 (zlen wz) cy3_8]) (gy3_11) 0 [.bool (zneg mo), .slice pby3_7 (zlen mo) cby3_7]) v' n' := fun h' => store_rn _ h' (o0 (by have := RRY3_10.out; have := RRY3_11.out; have := HNE.out; omega) K64.out) (by simp [noInt]) (by simp [plainV])
            have o1 : ∀ {g' : Nat} {cs' : Array Value} {T' : TypeId}, g' ≠ gy3_11 → SBk (storeAll W (gy3_10) 0 [.bool (zneg wz), .slice py3_8 (zlen wz) cy3_8]) g' cs' T' → SBk (storeAll (storeAll W (gy3_10) 0 [.bool (zneg wz), .slice py3_8 (zlen wz) cy3_8]) (gy3_11) 0 [.bool (zneg mo), .slice pby3_7 (zlen mo) cby3_7]) g' cs' T' := fun hg' h' => store_off hg' _ 0 h'
            exact ⟨rfl, py3_3, cy3_3, py3_4, cy3_4, pay3_6, cay3_6, pby3_6, cby3_6, pay3_7, cay3_7, pby3_7, cby3_7, py3_8, cy3_8, pby3_7, cby3_7, gy3_10, gy3_11, EA.out, (store_below (l := [.bool (zneg mo), .slice pby3_7 (zlen mo) cby3_7]) (i := 0) (by have := RRY3_10.out; have := RRY3_11.out; have := HNE.out; omega) (store_below (l := [.bool (zneg wz), .slice py3_8 (zlen wz) cy3_8]) (i := 0) (by have := RRY3_10.out; have := RRY3_11.out; have := HNE.out; omega) HBX.out)), (o1 (by have := RRY3_10.out; have := RRY3_11.out; have := HNE.out; omega) (o0 (by have := RRY3_10.out; have := RRY3_11.out; have := HNE.out; omega) K8r.out)), (o1 (by have := RRY3_10.out; have := RRY3_11.out; have := HNE.out; omega) (o0 (by have := RRY3_10.out; have := RRY3_11.out; have := HNE.out; omega) K9r.out)), (o1 (by have := RRY3_10.out; have := RRY3_11.out; have := HNE.out; omega) (o0 (by have := RRY3_10.out; have := RRY3_11.out; have := HNE.out; omega) K11r.out)), (o1 (by have := RRY3_10.out; have := RRY3_11.out; have := HNE.out; omega) (o0 (by have := RRY3_10.out; have := RRY3_11.out; have := HNE.out; omega) K13r.out)), (o1 (by have := RRY3_10.out; have := RRY3_11.out; have := HNE.out; omega) (o0 (by have := RRY3_10.out; have := RRY3_11.out; have := HNE.out; omega) K14r.out)), (o1 (by have := RRY3_10.out; have := RRY3_11.out; have := HNE.out; omega) (o0 (by have := RRY3_10.out; have := RRY3_11.out; have := HNE.out; omega) K15r.out)), (o1 (by have := RRY3_10.out; have := RRY3_11.out; have := HNE.out; omega) (o0 (by have := RRY3_10.out; have := RRY3_11.out; have := HNE.out; omega) K61.out)), (o1 (by have := RRY3_10.out; have := RRY3_11.out; have := HNE.out; omega) (o0 (by have := RRY3_10.out; have := RRY3_11.out; have := HNE.out; omega) K62.out)), (store_off (by have := RRY3_10.out; have := RRY3_11.out; have := HNE.out; omega) (l := [.bool (zneg mo), .slice pby3_7 (zlen mo) cby3_7]) (i := 0) (store_blk (l := [.bool (zneg wz), .slice py3_8 (zlen wz) cy3_8]) (i := 0) K63.out)), (store_blk (l := [.bool (zneg mo), .slice pby3_7 (zlen mo) cby3_7]) (i := 0) (store_off (by have := RRY3_10.out; have := RRY3_11.out; have := HNE.out; omega) (l := [.bool (zneg wz), .slice py3_8 (zlen wz) cy3_8]) (i := 0) K64.out)), (s1 (s0 R8r.out)), (s1 (s0 R9r.out)), (s1 (s0 R11r.out)), (s1 (s0 R13r.out)), (s1 (s0 R14r.out)), (s1 (s0 R15r.out)), (s1 (s0 RYY.out)), (s1 (s0 RH.out)), (s1 (s0 RM0.out)), (s1 (s0 RQQ.out)), (s1 (s0 RX0.out)), (s1 (s0 RXX.out)), (s1 (s0 RGX.out)), (s1 (s0 RW0.out)), (s1 (s0 RM1.out)), RRY3_10.out, RRY3_11.out, HNE.out⟩
        rintro a' Y4 ⟨py3_3, cy3_3, py3_4, cy3_4, pay3_6, cay3_6, pby3_6, cby3_6, pay3_7, cay3_7, pby3_7, cby3_7, py3_8, cy3_8, py3_9, cy3_9, gy3_10, gy3_11, rfl, z0, z1, z2, z3, z4, z5, z6, z7, z8, z9, z10, z11, z12, z13, z14, z15, z16, z17, z18, z19, z20, z21, z22, z23, z24, z25, z26, z27, z28⟩
        have HB4 := Lib.hid z0
        have K8r := Lib.hid z1
        have K9r := Lib.hid z2
        have K11r := Lib.hid z3
        have K13r := Lib.hid z4
        have K14r := Lib.hid z5
        have K15r := Lib.hid z6
        have K61 := Lib.hid z7
        have K62 := Lib.hid z8
        have K63 := Lib.hid z9
        have K64 := Lib.hid z10
        have R8r := Lib.hid z11
        have R9r := Lib.hid z12
        have R11r := Lib.hid z13
        have R13r := Lib.hid z14
        have R14r := Lib.hid z15
        have R15r := Lib.hid z16
        have RYY := Lib.hid z17
        have RH := Lib.hid z18
        have RM0 := Lib.hid z19
        have RQQ := Lib.hid z20
        have RX0 := Lib.hid z21
        have RXX := Lib.hid z22
        have RGX := Lib.hid z23
        have RW0 := Lib.hid z24
        have RM1 := Lib.hid z25
        have R10xY4 := z26
        have R11xY4 := z27
        have NEY4 := z28
        clear z0 z1 z2 z3 z4 z5 z6 z7 z8 z9 z10 z11 z12 z13 z14 z15 z16 z17 z18 z19 z20 z21 z22 z23 z24 z25 z26 z27 z28
        simp only [putL, List.setIfInBounds_toArray, List.set_cons_zero, List.set_cons_succ]
        go_wp2_with fail
        refine wp_region_post (fun a0 a' V => a' = ⟨putL [(96, .agg #[.bool (zneg g), .slice xp11 (zlen g) xc11]), (97, .string sg), (98, .agg #[.bool (zneg xz), .slice pb_7 (zlen xz) cb_7]), (99, .string sx), (100, .agg #[.bool (zneg wz), .slice py3_8 (zlen wz) cy3_8]), (101, .string sw), (4, .string sg), (5, .string sx), (6, .string sw), (7, .int .i64 0)] a0.tmps, a0.defers⟩ ∧ Below w.heap.size w V ∧ SBk V (W1.heap.size) #[.bool (zneg x), .slice xp8 (zlen x) xc8] 49 ∧ SBk V (W1.heap.size + 1) #[.bool (zneg y), .slice xp9 (zlen y) xc9] 49 ∧ SBk V (W4.heap.size) #[.bool (zneg g), .slice xp11 (zlen g) xc11] 49 ∧ SBk V (gw1_3) #[.bool (zneg (0 : Int)), .slice xp13 (zlen (0 : Int)) xc13] 49 ∧ SBk V (W9.heap.size) #[.bool (zneg xz), .slice pb_7 (zlen xz) cb_7] 49 ∧ SBk V (W9.heap.size + 1) #[.bool (zneg v), .slice xp15 (zlen v) xc15] 49 ∧ SBk V (gy2_8) #[.bool (zneg h), .slice py2_6 (zlen h) cy2_6] 49 ∧ SBk V (gy2_9) #[.bool (zneg mz), .slice py2_7 (zlen mz) cy2_7] 49 ∧ SBk V (gy3_10) #[.bool (zneg wz), .slice py3_8 (zlen wz) cy3_8] 49 ∧ SBk V (gy3_11) #[.bool (zneg mo), .slice py3_9 (zlen mo) cy3_9] 49 ∧ RN V (.slice xp8 (zlen x) xc8) x.natAbs ∧ RN V (.slice xp9 (zlen y) xc9) y.natAbs ∧ RN V (.slice xp11 (zlen g) xc11) g.natAbs ∧ RN V (.slice xp13 (zlen (0 : Int)) xc13) (0 : Int).natAbs ∧ RN V (.slice up (zlen uu) uc) uu.natAbs ∧ RN V (.slice xp15 (zlen v) xc15) v.natAbs ∧ RN V (.slice py2_2 (zlen yy) cy2_2) yy.natAbs ∧ RN V (.slice py2_6 (zlen h) cy2_6) h.natAbs ∧ RN V (.slice py2_7 (zlen mz) cy2_7) mz.natAbs ∧ RN V (.slice pa_7 (zlen qq) ca_7) qq.natAbs ∧ RN V (.slice pb_7 (zlen xz) cb_7) xz.natAbs ∧ RN V (.slice py3_3 (zlen xx) cy3_3) xx.natAbs ∧ RN V (.slice py3_4 (zlen gx) cy3_4) gx.natAbs ∧ RN V (.slice py3_8 (zlen wz) cy3_8) wz.natAbs ∧ RN V (.slice py3_9 (zlen mo) cy3_9) mo.natAbs) ?_ ?_
        · refine wp_region_tail_d (by kernel_rfl) 10 0 (fun i => [96, 97, 98, 99, 100, 101, 4, 5, 6, 7].getD i 0) (RelR [Rel.val (.agg #[.bool (zneg g), .slice xp11 (zlen g) xc11]), Rel.val (.string sg), Rel.val (.agg #[.bool (zneg xz), .slice pb_7 (zlen xz) cb_7]), Rel.val (.string sx), Rel.val (.agg #[.bool (zneg wz), .slice py3_8 (zlen wz) cy3_8]), Rel.val (.string sw), Rel.val (.string sg), Rel.val (.string sx), Rel.val (.string sw), Rel.val (.int .i64 0)]) (fun W => Below Y4.heap.size Y4 W) (fun _ _ => True) (by kernel_rfl) (by kernel_rfl) (by kernel_rfl) trivial (Below.refl _ _).drew ?_ ?_
          · intro listed a W i hI hD hrd him
            have HI := Lib.hid hI
            have HD := Lib.hid hD
            have Hi := fun (j : Nat) (h : i = j) => (Lib.hid (h ▸ hrd) : Hid (j ∈ _))
            clear hI hrd hD
            match i, him with
            | 0, _ =>
              have Hi := Hi 0 rfl
              have y11 : a.tmps[11]? = some (.pointer (some ⟨W4.heap.size, 0, none⟩)) := HI.out.rest 11 (by decide)
              have dK11r0 := (K11r.out.below HI.out.world).cell (i := 0) rfl
              have dK11r1 := (K11r.out.below HI.out.world).cell (i := 1) rfl
              refine wpOp_step rfl (fun K' hK => ?_)
              have hK := Lib.hid hK
              go_simp
              exact hK.out _ _ ⟨HI.out.put Hi.out (by decide) rfl (by simp) (by decide) (rfl) (fun j u h => h) (HI.out.world), trivial⟩
            | 1, _ =>
              have Hi := Hi 1 rfl
              have x0 : a.tmps[96]? = some (.agg #[.bool (zneg g), .slice xp11 (zlen g) xc11]) := by
                obtain ⟨v', y', e'⟩ := HI.out.at (i := 0) Hi.out (by kernel_rfl) (by decide)
                obtain rfl : v' = .agg #[.bool (zneg g), .slice xp11 (zlen g) xc11] := e'
                exact y'
              refine wpOp_step rfl (fun K' hK => ?_)
              have hK := Lib.hid hK
              go_simp
              with_reducible refine (C11.out _ _ _ (R11r.out.below HI.out.world)).mono ?_
              rintro e W' ⟨rfl, hb⟩
              exact hK.out _ _ ⟨HI.out.put Hi.out (by decide) rfl (by simp) (by decide) (rfl) (fun j u h => RelR.mono hb j u h) (HI.out.world.trans (hb.mono HI.out.world.size)), trivial⟩
            | 2, _ =>
              have Hi := Hi 2 rfl
              have y14 : a.tmps[14]? = some (.pointer (some ⟨W9.heap.size, 0, none⟩)) := HI.out.rest 14 (by decide)
              have dK14r0 := (K14r.out.below HI.out.world).cell (i := 0) rfl
              have dK14r1 := (K14r.out.below HI.out.world).cell (i := 1) rfl
              refine wpOp_step rfl (fun K' hK => ?_)
              have hK := Lib.hid hK
              go_simp
              exact hK.out _ _ ⟨HI.out.put Hi.out (by decide) rfl (by simp) (by decide) (rfl) (fun j u h => h) (HI.out.world), trivial⟩
            | 3, _ =>
              have Hi := Hi 3 rfl
              have x2 : a.tmps[98]? = some (.agg #[.bool (zneg xz), .slice pb_7 (zlen xz) cb_7]) := by
                obtain ⟨v', y', e'⟩ := HI.out.at (i := 2) Hi.out (by kernel_rfl) (by decide)
                obtain rfl : v' = .agg #[.bool (zneg xz), .slice pb_7 (zlen xz) cb_7] := e'
                exact y'
              refine wpOp_step rfl (fun K' hK => ?_)
              have hK := Lib.hid hK
              go_simp
              with_reducible refine (C12.out _ _ _ (RX0.out.below HI.out.world)).mono ?_
              rintro e W' ⟨rfl, hb⟩
              exact hK.out _ _ ⟨HI.out.put Hi.out (by decide) rfl (by simp) (by decide) (rfl) (fun j u h => RelR.mono hb j u h) (HI.out.world.trans (hb.mono HI.out.world.size)), trivial⟩
            | 4, _ =>
              have Hi := Hi 4 rfl
              have y20 : a.tmps[20]? = some (.pointer (some ⟨gy3_10, 0, none⟩)) := HI.out.rest 20 (by decide)
              have dK630 := (K63.out.below HI.out.world).cell (i := 0) rfl
              have dK631 := (K63.out.below HI.out.world).cell (i := 1) rfl
              refine wpOp_step rfl (fun K' hK => ?_)
              have hK := Lib.hid hK
              go_simp
              exact hK.out _ _ ⟨HI.out.put Hi.out (by decide) rfl (by simp) (by decide) (rfl) (fun j u h => h) (HI.out.world), trivial⟩
            | 5, _ =>
              have Hi := Hi 5 rfl
              have x4 : a.tmps[100]? = some (.agg #[.bool (zneg wz), .slice py3_8 (zlen wz) cy3_8]) := by
                obtain ⟨v', y', e'⟩ := HI.out.at (i := 4) Hi.out (by kernel_rfl) (by decide)
                obtain rfl : v' = .agg #[.bool (zneg wz), .slice py3_8 (zlen wz) cy3_8] := e'
                exact y'
              refine wpOp_step rfl (fun K' hK => ?_)
              have hK := Lib.hid hK
              go_simp
              with_reducible refine (C13.out _ _ _ (RW0.out.below HI.out.world)).mono ?_
              rintro e W' ⟨rfl, hb⟩
              exact hK.out _ _ ⟨HI.out.put Hi.out (by decide) rfl (by simp) (by decide) (rfl) (fun j u h => RelR.mono hb j u h) (HI.out.world.trans (hb.mono HI.out.world.size)), trivial⟩
            | 6, _ =>
              have Hi := Hi 6 rfl
              have x1 : a.tmps[97]? = some (.string sg) := by
                obtain ⟨v', y', e'⟩ := HI.out.at (i := 1) Hi.out (by kernel_rfl) (by decide)
                obtain rfl : v' = .string sg := e'
                exact y'
              refine wpOp_step rfl (fun K' hK => ?_)
              have hK := Lib.hid hK
              go_simp
              exact hK.out _ _ ⟨HI.out.put Hi.out (by decide) rfl (by simp) (by decide) (rfl) (fun j u h => h) (HI.out.world), trivial⟩
            | 7, _ =>
              have Hi := Hi 7 rfl
              have x3 : a.tmps[99]? = some (.string sx) := by
                obtain ⟨v', y', e'⟩ := HI.out.at (i := 3) Hi.out (by kernel_rfl) (by decide)
                obtain rfl : v' = .string sx := e'
                exact y'
              refine wpOp_step rfl (fun K' hK => ?_)
              have hK := Lib.hid hK
              go_simp
              exact hK.out _ _ ⟨HI.out.put Hi.out (by decide) rfl (by simp) (by decide) (rfl) (fun j u h => h) (HI.out.world), trivial⟩
            | 8, _ =>
              have Hi := Hi 8 rfl
              have x5 : a.tmps[101]? = some (.string sw) := by
                obtain ⟨v', y', e'⟩ := HI.out.at (i := 5) Hi.out (by kernel_rfl) (by decide)
                obtain rfl : v' = .string sw := e'
                exact y'
              refine wpOp_step rfl (fun K' hK => ?_)
              have hK := Lib.hid hK
              go_simp
              exact hK.out _ _ ⟨HI.out.put Hi.out (by decide) rfl (by simp) (by decide) (rfl) (fun j u h => h) (HI.out.world), trivial⟩
            | 9, _ =>
              have Hi := Hi 9 rfl
              refine wpOp_step rfl (fun K' hK => ?_)
              have hK := Lib.hid hK
              go_simp
              exact hK.out _ _ ⟨HI.out.put Hi.out (by decide) rfl (by simp) (by decide) (rfl) (fun j u h => h) (HI.out.world), trivial⟩
            | n + 10, h => exact absurd h (by omega)
          · intro listed a W hI hD hall
            obtain ⟨v0, x0, e0⟩ := hI.slots 0 (by decide) (hall 0 (by decide))
            obtain rfl : v0 = .agg #[.bool (zneg g), .slice xp11 (zlen g) xc11] := e0
            have x0 : a.tmps[96]? = some (.agg #[.bool (zneg g), .slice xp11 (zlen g) xc11]) := x0
            obtain ⟨v1, x1, e1⟩ := hI.slots 1 (by decide) (hall 1 (by decide))
            obtain rfl : v1 = .string sg := e1
            have x1 : a.tmps[97]? = some (.string sg) := x1
            obtain ⟨v2, x2, e2⟩ := hI.slots 2 (by decide) (hall 2 (by decide))
            obtain rfl : v2 = .agg #[.bool (zneg xz), .slice pb_7 (zlen xz) cb_7] := e2
            have x2 : a.tmps[98]? = some (.agg #[.bool (zneg xz), .slice pb_7 (zlen xz) cb_7]) := x2
            obtain ⟨v3, x3, e3⟩ := hI.slots 3 (by decide) (hall 3 (by decide))
            obtain rfl : v3 = .string sx := e3
            have x3 : a.tmps[99]? = some (.string sx) := x3
            obtain ⟨v4, x4, e4⟩ := hI.slots 4 (by decide) (hall 4 (by decide))
            obtain rfl : v4 = .agg #[.bool (zneg wz), .slice py3_8 (zlen wz) cy3_8] := e4
            have x4 : a.tmps[100]? = some (.agg #[.bool (zneg wz), .slice py3_8 (zlen wz) cy3_8]) := x4
            obtain ⟨v5, x5, e5⟩ := hI.slots 5 (by decide) (hall 5 (by decide))
            obtain rfl : v5 = .string sw := e5
            have x5 : a.tmps[101]? = some (.string sw) := x5
            obtain ⟨v6, x6, e6⟩ := hI.slots 6 (by decide) (hall 6 (by decide))
            obtain rfl : v6 = .string sg := e6
            have x6 : a.tmps[4]? = some (.string sg) := x6
            obtain ⟨v7, x7, e7⟩ := hI.slots 7 (by decide) (hall 7 (by decide))
            obtain rfl : v7 = .string sx := e7
            have x7 : a.tmps[5]? = some (.string sx) := x7
            obtain ⟨v8, x8, e8⟩ := hI.slots 8 (by decide) (hall 8 (by decide))
            obtain rfl : v8 = .string sw := e8
            have x8 : a.tmps[6]? = some (.string sw) := x8
            obtain ⟨v9, x9, e9⟩ := hI.slots 9 (by decide) (hall 9 (by decide))
            obtain rfl : v9 = .int .i64 0 := e9
            have x9 : a.tmps[7]? = some (.int .i64 0) := x9
            have ea := hI.fin [(96, .agg #[.bool (zneg g), .slice xp11 (zlen g) xc11]), (97, .string sg), (98, .agg #[.bool (zneg xz), .slice pb_7 (zlen xz) cb_7]), (99, .string sx), (100, .agg #[.bool (zneg wz), .slice py3_8 (zlen wz) cy3_8]), (101, .string sw), (4, .string sg), (5, .string sx), (6, .string sw), (7, .int .i64 0)] (by
              intro p hp
              simp only [List.mem_cons, List.not_mem_nil, or_false] at hp
              rcases hp with rfl | rfl | rfl | rfl | rfl | rfl | rfl | rfl | rfl | rfl
              · exact x0
              · exact x1
              · exact x2
              · exact x3
              · exact x4
              · exact x5
              · exact x6
              · exact x7
              · exact x8
              · exact x9) (by
              intro d hd i him h
              match i, him with
              | 0, _ => exact hd _ (ix 0 rfl) h
              | 1, _ => exact hd _ (ix 1 rfl) h
              | 2, _ => exact hd _ (ix 2 rfl) h
              | 3, _ => exact hd _ (ix 3 rfl) h
              | 4, _ => exact hd _ (ix 4 rfl) h
              | 5, _ => exact hd _ (ix 5 rfl) h
              | 6, _ => exact hd _ (ix 6 rfl) h
              | 7, _ => exact hd _ (ix 7 rfl) h
              | 8, _ => exact hd _ (ix 8 rfl) h
              | 9, _ => exact hd _ (ix 9 rfl) h
              | n + 10, h => omega)
            have EA := Lib.hid ea
            have HBW := Lib.hid hI.world
            have HI := Lib.hid hI
            clear ea hI hall
            have K8r := Lib.hid (K8r.out.below HBW.out)
            have K9r := Lib.hid (K9r.out.below HBW.out)
            have K11r := Lib.hid (K11r.out.below HBW.out)
            have K13r := Lib.hid (K13r.out.below HBW.out)
            have K14r := Lib.hid (K14r.out.below HBW.out)
            have K15r := Lib.hid (K15r.out.below HBW.out)
            have K61 := Lib.hid (K61.out.below HBW.out)
            have K62 := Lib.hid (K62.out.below HBW.out)
            have K63 := Lib.hid (K63.out.below HBW.out)
            have K64 := Lib.hid (K64.out.below HBW.out)
            have R8r := Lib.hid (R8r.out.below HBW.out)
            have R9r := Lib.hid (R9r.out.below HBW.out)
            have R11r := Lib.hid (R11r.out.below HBW.out)
            have R13r := Lib.hid (R13r.out.below HBW.out)
            have R14r := Lib.hid (R14r.out.below HBW.out)
            have R15r := Lib.hid (R15r.out.below HBW.out)
            have RYY := Lib.hid (RYY.out.below HBW.out)
            have RH := Lib.hid (RH.out.below HBW.out)
            have RM0 := Lib.hid (RM0.out.below HBW.out)
            have RQQ := Lib.hid (RQQ.out.below HBW.out)
            have RX0 := Lib.hid (RX0.out.below HBW.out)
            have RXX := Lib.hid (RXX.out.below HBW.out)
            have RGX := Lib.hid (RGX.out.below HBW.out)
            have RW0 := Lib.hid (RW0.out.below HBW.out)
            have RM1 := Lib.hid (RM1.out.below HBW.out)
            have HBX := Lib.hid (HB4.out.trans (HBW.out.mono HB4.out.size))
            refine tail_nil ?_
            exact ⟨rfl, EA.out, HBX.out, K8r.out, K9r.out, K11r.out, K13r.out, K14r.out, K15r.out, K61.out, K62.out, K63.out, K64.out, R8r.out, R9r.out, R11r.out, R13r.out, R14r.out, R15r.out, RYY.out, RH.out, RM0.out, RQQ.out, RX0.out, RXX.out, RGX.out, RW0.out, RM1.out⟩
        rintro a' Y5 ⟨rfl, z0, z1, z2, z3, z4, z5, z6, z7, z8, z9, z10, z11, z12, z13, z14, z15, z16, z17, z18, z19, z20, z21, z22, z23, z24, z25⟩
        have HB5 := Lib.hid z0
        have K8r := Lib.hid z1
        have K9r := Lib.hid z2
        have K11r := Lib.hid z3
        have K13r := Lib.hid z4
        have K14r := Lib.hid z5
        have K15r := Lib.hid z6
        have K61 := Lib.hid z7
        have K62 := Lib.hid z8
        have K63 := Lib.hid z9
        have K64 := Lib.hid z10
        have R8r := Lib.hid z11
        have R9r := Lib.hid z12
        have R11r := Lib.hid z13
        have R13r := Lib.hid z14
        have R14r := Lib.hid z15
        have R15r := Lib.hid z16
        have RYY := Lib.hid z17
        have RH := Lib.hid z18
        have RM0 := Lib.hid z19
        have RQQ := Lib.hid z20
        have RX0 := Lib.hid z21
        have RXX := Lib.hid z22
        have RGX := Lib.hid z23
        have RW0 := Lib.hid z24
        have RM1 := Lib.hid z25
        clear z0 z1 z2 z3 z4 z5 z6 z7 z8 z9 z10 z11 z12 z13 z14 z15 z16 z17 z18 z19 z20 z21 z22 z23 z24 z25
        simp only [putL, List.setIfInBounds_toArray, List.set_cons_zero, List.set_cons_succ]
        go_wp2
        exact bodyPost_ret (v := .tuple #[.string sg, .string sx, .string sw, .int .i64 0]) (by simp [results, Tryz.results9, go_sem]) rfl ⟨rfl, HB5.out⟩

    · obtain ⟨hst, hlt, ht0⟩ := hI.out.2.step hy hs0
      obtain ⟨f1, f2, f3, f4, f5⟩ := hrun r s u v hI.out.2 hs0
      have CS := Lib.hid f1
      have CV := Lib.hid f2
      have CT := Lib.hid f3
      have CM := Lib.hid f4
      obtain ⟨sg0, hsg⟩ : ∃ z, z = s.sign := ⟨_, rfl⟩
      have HST := Lib.hid hst
      have HLT := Lib.hid hlt
      rw [← hsg] at CS
      have e0 : (sg0 == 0) = false := by rw [beq_eq_false_iff_ne, hsg]; exact fun e => hs0 (Int.sign_eq_zero_iff_zero.1 e)
      have e1 : (sg0 != 0) = true := by unfold bne; rw [e0]; rfl
      have e2 : ¬ sg0 = 0 := by rw [hsg]; exact fun e => hs0 (Int.sign_eq_zero_iff_zero.1 e)
      have HI := Lib.hid hI.out
      clear f1 f2 f3 f4 f5 hst hlt ht0 hs0 hsg hI
      generalize r / s = q at *
      generalize r % s = t at *
      generalize q * v = qv at *
      generalize u - qv = n at *
      have dK13r0 := K13r.out.cell (i := 0) rfl
      have dK13r1 := K13r.out.cell (i := 1) rfl
      go_wp2_with fail
      with_reducible refine (CS.out _ _ _ R13r.out).mono ?_
      rintro e V1 ⟨rfl, hb⟩
      clear dK13r0 dK13r1
      have K8r := Lib.hid (K8r.out.below hb)
      have K9r := Lib.hid (K9r.out.below hb)
      have K11r := Lib.hid (K11r.out.below hb)
      have K12r := Lib.hid (K12r.out.below hb)
      have K13r := Lib.hid (K13r.out.below hb)
      have K14r := Lib.hid (K14r.out.below hb)
      have K15r := Lib.hid (K15r.out.below hb)
      have R8r := Lib.hid (R8r.out.below hb)
      have R9r := Lib.hid (R9r.out.below hb)
      have R11r := Lib.hid (R11r.out.below hb)
      have R12r := Lib.hid (R12r.out.below hb)
      have R13r := Lib.hid (R13r.out.below hb)
      have R14r := Lib.hid (R14r.out.below hb)
      have R15r := Lib.hid (R15r.out.below hb)
      have HB1 := Lib.hid (HB0.out.trans (hb.mono HB0.out.size))
      clear hb
      have dK12r0 := K12r.out.cell (i := 0) rfl
      have dK12r1 := K12r.out.cell (i := 1) rfl
      have dK13r0 := K13r.out.cell (i := 0) rfl
      have dK13r1 := K13r.out.cell (i := 1) rfl
      go_wp2_with fail
      with_reducible refine (CV.out _ _ _ _ _ R12r.out R13r.out).mono ?_
      rintro e V2 ⟨pa_8, ca_8, pb_8, cb_8, rfl, r8_0, r8_1, hb⟩
      clear dK12r0 dK12r1 dK13r0 dK13r1
      have K8r := Lib.hid (K8r.out.below hb)
      have K9r := Lib.hid (K9r.out.below hb)
      have K11r := Lib.hid (K11r.out.below hb)
      have K12r := Lib.hid (K12r.out.below hb)
      have K13r := Lib.hid (K13r.out.below hb)
      have K14r := Lib.hid (K14r.out.below hb)
      have K15r := Lib.hid (K15r.out.below hb)
      have R8r := Lib.hid (R8r.out.below hb)
      have R9r := Lib.hid (R9r.out.below hb)
      have R11r := Lib.hid (R11r.out.below hb)
      have R12r := Lib.hid (R12r.out.below hb)
      have R13r := Lib.hid (R13r.out.below hb)
      have R14r := Lib.hid (R14r.out.below hb)
      have R15r := Lib.hid (R15r.out.below hb)
      have HB2 := Lib.hid (HB1.out.trans (hb.mono HB1.out.size))
      have RQ := Lib.hid r8_0
      have RT := Lib.hid r8_1
      clear hb r8_0 r8_1
      go_upto_region 11 with fail
      refine wp_boxes V2 [(#[.bool (zneg q), .slice pa_8 (zlen q) ca_8], 49), (#[.bool (zneg t), .slice pb_8 (zlen t) cb_8], 49)] rfl ?_
      have L18 := K8r.out.lt
      have L19 := K9r.out.lt
      have L20 := K11r.out.lt
      have L21 := K12r.out.lt
      have L22 := K13r.out.lt
      have L23 := K14r.out.lt
      have L24 := K15r.out.lt
      have L25 := HB2.out.size
      rintro V3 ⟨k61, k62, hb⟩
      have hb : Below V2.heap.size V2 V3 := hb
      have K8r := Lib.hid (K8r.out.below hb)
      have K9r := Lib.hid (K9r.out.below hb)
      have K11r := Lib.hid (K11r.out.below hb)
      have K12r := Lib.hid (K12r.out.below hb)
      have K13r := Lib.hid (K13r.out.below hb)
      have K14r := Lib.hid (K14r.out.below hb)
      have K15r := Lib.hid (K15r.out.below hb)
      have R8r := Lib.hid (R8r.out.below hb)
      have R9r := Lib.hid (R9r.out.below hb)
      have R11r := Lib.hid (R11r.out.below hb)
      have R12r := Lib.hid (R12r.out.below hb)
      have R13r := Lib.hid (R13r.out.below hb)
      have R14r := Lib.hid (R14r.out.below hb)
      have R15r := Lib.hid (R15r.out.below hb)
      have RQ := Lib.hid (RQ.out.below hb)
      have RT := Lib.hid (RT.out.below hb)
      have HB3 := Lib.hid (HB2.out.trans (hb.mono HB2.out.size))
      have K61 := Lib.hid k61
      have K62 := Lib.hid k62
      clear k61 k62 hb
      go_wp2_with fail
      refine wp_region_post (fun a0 a' V => a' = ⟨putL [(60, .agg #[.bool (zneg (s)), .slice xp13 (zlen (s)) xc13]), (61, .agg #[.bool (zneg t), .slice pb_8 (zlen t) cb_8])] a0.tmps, a0.defers⟩ ∧ Below w.heap.size w V ∧ SBk V (W1.heap.size) #[.bool (zneg (x)), .slice xp8 (zlen (x)) xc8] 49 ∧ SBk V (W1.heap.size + 1) #[.bool (zneg (y)), .slice xp9 (zlen (y)) xc9] 49 ∧ SBk V (W4.heap.size) #[.bool (zneg (g)), .slice xp11 (zlen (g)) xc11] 49 ∧ SBk V (gw1_2) #[.bool (zneg (s)), .slice xp13 (zlen (s)) xc13] 49 ∧ SBk V (gw1_3) #[.bool (zneg t), .slice pb_8 (zlen t) cb_8] 49 ∧ SBk V (W9.heap.size) #[.bool (zneg (u)), .slice xp14 (zlen (u)) xc14] 49 ∧ SBk V (W9.heap.size + 1) #[.bool (zneg (v)), .slice xp15 (zlen (v)) xc15] 49 ∧ SBk V (V2.heap.size) #[.bool (zneg q), .slice pa_8 (zlen q) ca_8] 49 ∧ SBk V (V2.heap.size + 1) #[.bool (zneg t), .slice pb_8 (zlen t) cb_8] 49 ∧ RN V (.slice xp8 (zlen (x)) xc8) (x).natAbs ∧ RN V (.slice xp9 (zlen (y)) xc9) (y).natAbs ∧ RN V (.slice xp11 (zlen (g)) xc11) (g).natAbs ∧ RN V (.slice xp12 (zlen (r)) xc12) (r).natAbs ∧ RN V (.slice xp13 (zlen (s)) xc13) (s).natAbs ∧ RN V (.slice xp14 (zlen (u)) xc14) (u).natAbs ∧ RN V (.slice xp15 (zlen (v)) xc15) (v).natAbs ∧ RN V (.slice pa_8 (zlen q) ca_8) q.natAbs ∧ RN V (.slice pb_8 (zlen t) cb_8) t.natAbs) ?_ ?_
      · refine wp_region_swap (by kernel_rfl) 2 1 1 (fun i => [60, 61].getD i 0) (RelR [Rel.val (.agg #[.bool (zneg (s)), .slice xp13 (zlen (s)) xc13]), Rel.val (.agg #[.bool (zneg t), .slice pb_8 (zlen t) cb_8])]) (fun W => Below V3.heap.size V3 W) (fun _ _ => True) (by decide) (by decide) (by kernel_rfl) (by kernel_rfl) (by kernel_rfl) (by kernel_rfl) trivial (Below.refl _ _).drew ?_ ?_ ?_
        · intro listed a W i hI hD hrd him
          have HI := Lib.hid hI
          have HD := Lib.hid hD
          have Hi := fun (j : Nat) (h : i = j) => (Lib.hid (h ▸ hrd) : Hid (j ∈ _))
          clear hI hrd hD
          match i, him with
          | 0, _ =>
            have Hi := Hi 0 rfl
            have y13 : a.tmps[13]? = some (.pointer (some ⟨gw1_3, 0, none⟩)) := HI.out.rest 13 (by decide)
            have dK13r0 := (K13r.out.below HI.out.world).cell (i := 0) rfl
            have dK13r1 := (K13r.out.below HI.out.world).cell (i := 1) rfl
            refine wpOp_step rfl (fun K' hK => ?_)
            have hK := Lib.hid hK
            go_simp
            exact hK.out _ _ ⟨HI.out.put Hi.out (by decide) rfl (by simp) (by decide) (rfl) (fun j u h => h) (HI.out.world), trivial⟩
          | 1, _ =>
            have Hi := Hi 1 rfl
            have y17 : a.tmps[17]? = some (.pointer (some ⟨V2.heap.size + 1, 0, none⟩)) := HI.out.rest 17 (by decide)
            have dK620 := (K62.out.below HI.out.world).cell (i := 0) rfl
            have dK621 := (K62.out.below HI.out.world).cell (i := 1) rfl
            refine wpOp_step rfl (fun K' hK => ?_)
            have hK := Lib.hid hK
            go_simp
            exact hK.out _ _ ⟨HI.out.put Hi.out (by decide) rfl (by simp) (by decide) (rfl) (fun j u h => h) (HI.out.world), trivial⟩
          | n + 2, h => exact absurd h (by omega)
        · intro listed a W hI hD hall
          obtain ⟨v0, x0, e0⟩ := hI.slots 0 (by decide) (hall 0 (by decide))
          obtain rfl : v0 = .agg #[.bool (zneg (s)), .slice xp13 (zlen (s)) xc13] := e0
          have x0 : a.tmps[60]? = some (.agg #[.bool (zneg (s)), .slice xp13 (zlen (s)) xc13]) := x0
          obtain ⟨v1, x1, e1⟩ := hI.slots 1 (by decide) (hall 1 (by decide))
          obtain rfl : v1 = .agg #[.bool (zneg t), .slice pb_8 (zlen t) cb_8] := e1
          have x1 : a.tmps[61]? = some (.agg #[.bool (zneg t), .slice pb_8 (zlen t) cb_8]) := x1
          have ea := hI.fin [(60, .agg #[.bool (zneg (s)), .slice xp13 (zlen (s)) xc13]), (61, .agg #[.bool (zneg t), .slice pb_8 (zlen t) cb_8])] (by
            intro p hp
            simp only [List.mem_cons, List.not_mem_nil, or_false] at hp
            rcases hp with rfl | rfl
            · exact x0
            · exact x1) (by
            intro d hd i him h
            match i, him with
            | 0, _ => exact hd _ (ix 0 rfl) h
            | 1, _ => exact hd _ (ix 1 rfl) h
            | n + 2, h => omega)
          have EA := Lib.hid ea
          have HBW := Lib.hid hI.world
          have HI := Lib.hid hI
          clear ea hI hall
          have K8r := Lib.hid (K8r.out.below HBW.out)
          have K9r := Lib.hid (K9r.out.below HBW.out)
          have K11r := Lib.hid (K11r.out.below HBW.out)
          have K12r := Lib.hid (K12r.out.below HBW.out)
          have K13r := Lib.hid (K13r.out.below HBW.out)
          have K14r := Lib.hid (K14r.out.below HBW.out)
          have K15r := Lib.hid (K15r.out.below HBW.out)
          have K61 := Lib.hid (K61.out.below HBW.out)
          have K62 := Lib.hid (K62.out.below HBW.out)
          have R8r := Lib.hid (R8r.out.below HBW.out)
          have R9r := Lib.hid (R9r.out.below HBW.out)
          have R11r := Lib.hid (R11r.out.below HBW.out)
          have R12r := Lib.hid (R12r.out.below HBW.out)
          have R13r := Lib.hid (R13r.out.below HBW.out)
          have R14r := Lib.hid (R14r.out.below HBW.out)
          have R15r := Lib.hid (R15r.out.below HBW.out)
          have RQ := Lib.hid (RQ.out.below HBW.out)
          have RT := Lib.hid (RT.out.below HBW.out)
          have HBX := Lib.hid (HB3.out.trans (HBW.out.mono HB3.out.size))
          have y12 : a.tmps[12]? = some (.pointer (some ⟨gw1_2, 0, none⟩)) := HI.out.rest 12 (by decide)
          have y13 : a.tmps[13]? = some (.pointer (some ⟨gw1_3, 0, none⟩)) := HI.out.rest 13 (by decide)
          have dK12r0 := K12r.out.cell (i := 0) rfl
          have fK12r0 := K12r.out.frozen (i := 0)
          have dK12r1 := K12r.out.cell (i := 1) rfl
          have fK12r1 := K12r.out.frozen (i := 1)
          have dK13r0 := K13r.out.cell (i := 0) rfl
          have fK13r0 := K13r.out.frozen (i := 0)
          have dK13r1 := K13r.out.cell (i := 1) rfl
          have fK13r1 := K13r.out.frozen (i := 1)
          have ddK13r0 : ((W.setCell ⟨gw1_2, 0, none⟩ (.bool (zneg (s)))).setCell ⟨gw1_2, 1, none⟩ (.slice xp13 (zlen (s)) xc13)).cell? ⟨gw1_3, 0, none⟩ = some (.bool (zneg (s))) := ((store_off (by omega) (l := [.bool (zneg (s)), .slice xp13 (zlen (s)) xc13]) (i := 0) K13r.out)).cell (i := 0) rfl
          have ddK13r1 : ((W.setCell ⟨gw1_2, 0, none⟩ (.bool (zneg (s)))).setCell ⟨gw1_2, 1, none⟩ (.slice xp13 (zlen (s)) xc13)).cell? ⟨gw1_3, 1, none⟩ = some (.slice xp13 (zlen (s)) xc13) := ((store_off (by omega) (l := [.bool (zneg (s)), .slice xp13 (zlen (s)) xc13]) (i := 0) K13r.out)).cell (i := 1) rfl
          refine tail_succ (t := 1) ?_
          refine wpOp_step rfl (fun K' hK => ?_)
          have hK := Lib.hid hK
          go_simp
          refine hK.out _ _ ?_
          clear hK
          refine tail_succ (t := 0) ?_
          refine wpOp_step rfl (fun K' hK => ?_)
          have hK := Lib.hid hK
          go_simp
          refine hK.out _ _ ?_
          clear hK
          refine tail_nil ?_
          have s0 : ∀ {v' : Value} {n' : Nat}, RN W v' n' → RN (storeAll W (gw1_2) 0 [.bool (zneg (s)), .slice xp13 (zlen (s)) xc13]) v' n' := fun h' => store_rn _ h' K12r.out (by simp [noInt]) (by simp [plainV])
          have o0 : ∀ {g' : Nat} {cs' : Array Value} {T' : TypeId}, g' ≠ gw1_2 → SBk W g' cs' T' → SBk (storeAll W (gw1_2) 0 [.bool (zneg (s)), .slice xp13 (zlen (s)) xc13]) g' cs' T' := fun hg' h' => store_off hg' _ 0 h'
          have s1 : ∀ {v' : Value} {n' : Nat}, RN (storeAll W (gw1_2) 0 [.bool (zneg (s)), .slice xp13 (zlen (s)) xc13]) v' n' → RN (storeAll (storeAll W (gw1_2) 0 [.bool (zneg (s)), .slice xp13 (zlen (s)) xc13]) (gw1_3) 0 [.bool (zneg t), .slice pb_8 (zlen t) cb_8]) v' n' := fun h' => store_rn _ h' (o0 (by omega) K13r.out) (by simp [noInt]) (by simp [plainV])
          have o1 : ∀ {g' : Nat} {cs' : Array Value} {T' : TypeId}, g' ≠ gw1_3 → SBk (storeAll W (gw1_2) 0 [.bool (zneg (s)), .slice xp13 (zlen (s)) xc13]) g' cs' T' → SBk (storeAll (storeAll W (gw1_2) 0 [.bool (zneg (s)), .slice xp13 (zlen (s)) xc13]) (gw1_3) 0 [.bool (zneg t), .slice pb_8 (zlen t) cb_8]) g' cs' T' := fun hg' h' => store_off hg' _ 0 h'
          exact ⟨rfl, EA.out, (store_below (l := [.bool (zneg t), .slice pb_8 (zlen t) cb_8]) (i := 0) (by omega) (store_below (l := [.bool (zneg (s)), .slice xp13 (zlen (s)) xc13]) (i := 0) (by omega) HBX.out)), (o1 (by omega) (o0 (by omega) K8r.out)), (o1 (by omega) (o0 (by omega) K9r.out)), (o1 (by omega) (o0 (by omega) K11r.out)), (store_off (by omega) (l := [.bool (zneg t), .slice pb_8 (zlen t) cb_8]) (i := 0) (store_blk (l := [.bool (zneg (s)), .slice xp13 (zlen (s)) xc13]) (i := 0) K12r.out)), (store_blk (l := [.bool (zneg t), .slice pb_8 (zlen t) cb_8]) (i := 0) (store_off (by omega) (l := [.bool (zneg (s)), .slice xp13 (zlen (s)) xc13]) (i := 0) K13r.out)), (o1 (by omega) (o0 (by omega) K14r.out)), (o1 (by omega) (o0 (by omega) K15r.out)), (o1 (by omega) (o0 (by omega) K61.out)), (o1 (by omega) (o0 (by omega) K62.out)), (s1 (s0 R8r.out)), (s1 (s0 R9r.out)), (s1 (s0 R11r.out)), (s1 (s0 R12r.out)), (s1 (s0 R13r.out)), (s1 (s0 R14r.out)), (s1 (s0 R15r.out)), (s1 (s0 RQ.out)), (s1 (s0 RT.out))⟩
        · intro listed a W hI hD hall
          obtain ⟨v0, x0, e0⟩ := hI.slots 0 (by decide) (hall 0 (by decide) (by decide))
          obtain rfl : v0 = .agg #[.bool (zneg (s)), .slice xp13 (zlen (s)) xc13] := e0
          have x0 : a.tmps[60]? = some (.agg #[.bool (zneg (s)), .slice xp13 (zlen (s)) xc13]) := x0
          have HBW := Lib.hid hI.world
          have HI := Lib.hid hI
          clear hI hall
          have K8r := Lib.hid (K8r.out.below HBW.out)
          have K9r := Lib.hid (K9r.out.below HBW.out)
          have K11r := Lib.hid (K11r.out.below HBW.out)
          have K12r := Lib.hid (K12r.out.below HBW.out)
          have K13r := Lib.hid (K13r.out.below HBW.out)
          have K14r := Lib.hid (K14r.out.below HBW.out)
          have K15r := Lib.hid (K15r.out.below HBW.out)
          have K61 := Lib.hid (K61.out.below HBW.out)
          have K62 := Lib.hid (K62.out.below HBW.out)
          have R8r := Lib.hid (R8r.out.below HBW.out)
          have R9r := Lib.hid (R9r.out.below HBW.out)
          have R11r := Lib.hid (R11r.out.below HBW.out)
          have R12r := Lib.hid (R12r.out.below HBW.out)
          have R13r := Lib.hid (R13r.out.below HBW.out)
          have R14r := Lib.hid (R14r.out.below HBW.out)
          have R15r := Lib.hid (R15r.out.below HBW.out)
          have RQ := Lib.hid (RQ.out.below HBW.out)
          have RT := Lib.hid (RT.out.below HBW.out)
          have HBX := Lib.hid (HB3.out.trans (HBW.out.mono HB3.out.size))
          have y12 : a.tmps[12]? = some (.pointer (some ⟨gw1_2, 0, none⟩)) := HI.out.rest 12 (by decide)
          have y13 : a.tmps[13]? = some (.pointer (some ⟨gw1_3, 0, none⟩)) := HI.out.rest 13 (by decide)
          have dK12r0 := K12r.out.cell (i := 0) rfl
          have fK12r0 := K12r.out.frozen (i := 0)
          have dK12r1 := K12r.out.cell (i := 1) rfl
          have fK12r1 := K12r.out.frozen (i := 1)
          have dK13r0 := K13r.out.cell (i := 0) rfl
          have fK13r0 := K13r.out.frozen (i := 0)
          have dK13r1 := K13r.out.cell (i := 1) rfl
          have fK13r1 := K13r.out.frozen (i := 1)
          have ddK13r0 : ((W.setCell ⟨gw1_2, 0, none⟩ (.bool (zneg (s)))).setCell ⟨gw1_2, 1, none⟩ (.slice xp13 (zlen (s)) xc13)).cell? ⟨gw1_3, 0, none⟩ = some (.bool (zneg (s))) := ((store_off (by omega) (l := [.bool (zneg (s)), .slice xp13 (zlen (s)) xc13]) (i := 0) K13r.out)).cell (i := 0) rfl
          have ddK13r1 : ((W.setCell ⟨gw1_2, 0, none⟩ (.bool (zneg (s)))).setCell ⟨gw1_2, 1, none⟩ (.slice xp13 (zlen (s)) xc13)).cell? ⟨gw1_3, 1, none⟩ = some (.slice xp13 (zlen (s)) xc13) := ((store_off (by omega) (l := [.bool (zneg (s)), .slice xp13 (zlen (s)) xc13]) (i := 0) K13r.out)).cell (i := 1) rfl
          have y17 : a.tmps[17]? = some (.pointer (some ⟨V2.heap.size + 1, 0, none⟩)) := HI.out.rest 17 (by decide)
          have qK620 : ((W.setCell ⟨gw1_2, 0, none⟩ (.bool (zneg (s)))).setCell ⟨gw1_2, 1, none⟩ (.slice xp13 (zlen (s)) xc13)).cell? ⟨V2.heap.size + 1, 0, none⟩ = some (.bool (zneg t)) := ((store_off (by omega) (l := [.bool (zneg (s)), .slice xp13 (zlen (s)) xc13]) (i := 0) K62.out)).cell (i := 0) rfl
          have qK621 : ((W.setCell ⟨gw1_2, 0, none⟩ (.bool (zneg (s)))).setCell ⟨gw1_2, 1, none⟩ (.slice xp13 (zlen (s)) xc13)).cell? ⟨V2.heap.size + 1, 1, none⟩ = some (.slice pb_8 (zlen t) cb_8) := ((store_off (by omega) (l := [.bool (zneg (s)), .slice xp13 (zlen (s)) xc13]) (i := 0) K62.out)).cell (i := 1) rfl
          refine wpOp_step rfl (fun K' hK => ?_)
          have hK := Lib.hid hK
          go_simp
          refine hK.out _ _ ?_
          clear hK
          refine wpOp_step rfl (fun K' hK => ?_)
          have hK := Lib.hid hK
          go_simp
          refine hK.out (a.put (some 61) (.agg #[.bool (zneg t), .slice pb_8 (zlen t) cb_8])) _ ?_
          clear hK
          have z0 : (a.put (some 61) (.agg #[.bool (zneg t), .slice pb_8 (zlen t) cb_8])).tmps[60]? = some (.agg #[.bool (zneg (s)), .slice xp13 (zlen (s)) xc13]) := (put_ne (by decide)).trans x0
          have z1 : (a.put (some 61) (.agg #[.bool (zneg t), .slice pb_8 (zlen t) cb_8])).tmps[61]? = some (.agg #[.bool (zneg t), .slice pb_8 (zlen t) cb_8]) := put_same (by rw [HI.out.tsize]; simp)
          have w12 : (a.put (some 61) (.agg #[.bool (zneg t), .slice pb_8 (zlen t) cb_8])).tmps[12]? = some (.pointer (some ⟨gw1_2, 0, none⟩)) := (put_ne (by decide)).trans y12
          have w13 : (a.put (some 61) (.agg #[.bool (zneg t), .slice pb_8 (zlen t) cb_8])).tmps[13]? = some (.pointer (some ⟨gw1_3, 0, none⟩)) := (put_ne (by decide)).trans y13
          have ea := HI.out.fin_put (sd := 61) (v := .agg #[.bool (zneg t), .slice pb_8 (zlen t) cb_8]) [(60, .agg #[.bool (zneg (s)), .slice xp13 (zlen (s)) xc13]), (61, .agg #[.bool (zneg t), .slice pb_8 (zlen t) cb_8])] (by
            intro p hp
            simp only [List.mem_cons, List.not_mem_nil, or_false] at hp
            rcases hp with rfl | rfl
            · exact z0
            · exact z1) (by
            intro d hd
            refine ⟨fun i him h => ?_, hd _ (ix 1 rfl)⟩
            match i, him with
            | 0, _ => exact hd _ (ix 0 rfl) h
            | 1, _ => exact hd _ (ix 1 rfl) h
            | n + 2, h => omega)
          have EA := Lib.hid ea
          clear ea x0
          generalize a.put (some 61) (.agg #[.bool (zneg t), .slice pb_8 (zlen t) cb_8]) = a2 at *
          refine tail_succ (t := 0) ?_
          refine wpOp_step rfl (fun K' hK => ?_)
          have hK := Lib.hid hK
          go_simp
          refine hK.out _ _ ?_
          clear hK
          refine tail_nil ?_
          have s0 : ∀ {v' : Value} {n' : Nat}, RN W v' n' → RN (storeAll W (gw1_2) 0 [.bool (zneg (s)), .slice xp13 (zlen (s)) xc13]) v' n' := fun h' => store_rn _ h' K12r.out (by simp [noInt]) (by simp [plainV])
          have o0 : ∀ {g' : Nat} {cs' : Array Value} {T' : TypeId}, g' ≠ gw1_2 → SBk W g' cs' T' → SBk (storeAll W (gw1_2) 0 [.bool (zneg (s)), .slice xp13 (zlen (s)) xc13]) g' cs' T' := fun hg' h' => store_off hg' _ 0 h'
          have s1 : ∀ {v' : Value} {n' : Nat}, RN (storeAll W (gw1_2) 0 [.bool (zneg (s)), .slice xp13 (zlen (s)) xc13]) v' n' → RN (storeAll (storeAll W (gw1_2) 0 [.bool (zneg (s)), .slice xp13 (zlen (s)) xc13]) (gw1_3) 0 [.bool (zneg t), .slice pb_8 (zlen t) cb_8]) v' n' := fun h' => store_rn _ h' (o0 (by omega) K13r.out) (by simp [noInt]) (by simp [plainV])
          have o1 : ∀ {g' : Nat} {cs' : Array Value} {T' : TypeId}, g' ≠ gw1_3 → SBk (storeAll W (gw1_2) 0 [.bool (zneg (s)), .slice xp13 (zlen (s)) xc13]) g' cs' T' → SBk (storeAll (storeAll W (gw1_2) 0 [.bool (zneg (s)), .slice xp13 (zlen (s)) xc13]) (gw1_3) 0 [.bool (zneg t), .slice pb_8 (zlen t) cb_8]) g' cs' T' := fun hg' h' => store_off hg' _ 0 h'
          exact ⟨rfl, EA.out, (store_below (l := [.bool (zneg t), .slice pb_8 (zlen t) cb_8]) (i := 0) (by omega) (store_below (l := [.bool (zneg (s)), .slice xp13 (zlen (s)) xc13]) (i := 0) (by omega) HBX.out)), (o1 (by omega) (o0 (by omega) K8r.out)), (o1 (by omega) (o0 (by omega) K9r.out)), (o1 (by omega) (o0 (by omega) K11r.out)), (store_off (by omega) (l := [.bool (zneg t), .slice pb_8 (zlen t) cb_8]) (i := 0) (store_blk (l := [.bool (zneg (s)), .slice xp13 (zlen (s)) xc13]) (i := 0) K12r.out)), (store_blk (l := [.bool (zneg t), .slice pb_8 (zlen t) cb_8]) (i := 0) (store_off (by omega) (l := [.bool (zneg (s)), .slice xp13 (zlen (s)) xc13]) (i := 0) K13r.out)), (o1 (by omega) (o0 (by omega) K14r.out)), (o1 (by omega) (o0 (by omega) K15r.out)), (o1 (by omega) (o0 (by omega) K61.out)), (o1 (by omega) (o0 (by omega) K62.out)), (s1 (s0 R8r.out)), (s1 (s0 R9r.out)), (s1 (s0 R11r.out)), (s1 (s0 R12r.out)), (s1 (s0 R13r.out)), (s1 (s0 R14r.out)), (s1 (s0 R15r.out)), (s1 (s0 RQ.out)), (s1 (s0 RT.out))⟩
      rintro a' V4 ⟨rfl, z0, z1, z2, z3, z4, z5, z6, z7, z8, z9, z10, z11, z12, z13, z14, z15, z16, z17, z18⟩
      have HB4 := Lib.hid z0
      have K8r := Lib.hid z1
      have K9r := Lib.hid z2
      have K11r := Lib.hid z3
      have K12r := Lib.hid z4
      have K13r := Lib.hid z5
      have K14r := Lib.hid z6
      have K15r := Lib.hid z7
      have K61 := Lib.hid z8
      have K62 := Lib.hid z9
      have R8r := Lib.hid z10
      have R9r := Lib.hid z11
      have R11r := Lib.hid z12
      have R12r := Lib.hid z13
      have R13r := Lib.hid z14
      have R14r := Lib.hid z15
      have R15r := Lib.hid z16
      have RQ := Lib.hid z17
      have RT := Lib.hid z18
      clear z0 z1 z2 z3 z4 z5 z6 z7 z8 z9 z10 z11 z12 z13 z14 z15 z16 z17 z18
      simp only [putL, List.setIfInBounds_toArray, List.set_cons_zero, List.set_cons_succ]
      go_wp2_with fail
      refine wp_region_post (fun a0 a' V => ∃ pv3_4 cv3_4 pv3_5 cv3_5, a' = ⟨putL [(62, .agg #[.bool (zneg (v)), .slice xp15 (zlen (v)) xc15]), (63, .agg #[.bool (zneg (u)), .slice xp14 (zlen (u)) xc14]), (64, .agg #[.bool (zneg q), .slice pa_8 (zlen q) ca_8]), (65, .agg #[.bool (zneg (v)), .slice xp15 (zlen (v)) xc15]), (66, .agg #[.bool (zneg qv), .slice pv3_4 (zlen qv) cv3_4]), (67, .agg #[.bool (zneg n), .slice pv3_5 (zlen n) cv3_5])] a0.tmps, a0.defers⟩ ∧ Below w.heap.size w V ∧ SBk V (W1.heap.size) #[.bool (zneg (x)), .slice xp8 (zlen (x)) xc8] 49 ∧ SBk V (W1.heap.size + 1) #[.bool (zneg (y)), .slice xp9 (zlen (y)) xc9] 49 ∧ SBk V (W4.heap.size) #[.bool (zneg (g)), .slice xp11 (zlen (g)) xc11] 49 ∧ SBk V (gw1_2) #[.bool (zneg (s)), .slice xp13 (zlen (s)) xc13] 49 ∧ SBk V (gw1_3) #[.bool (zneg t), .slice pb_8 (zlen t) cb_8] 49 ∧ SBk V (W9.heap.size) #[.bool (zneg (v)), .slice xp15 (zlen (v)) xc15] 49 ∧ SBk V (W9.heap.size + 1) #[.bool (zneg n), .slice pv3_5 (zlen n) cv3_5] 49 ∧ SBk V (V2.heap.size) #[.bool (zneg q), .slice pa_8 (zlen q) ca_8] 49 ∧ SBk V (V2.heap.size + 1) #[.bool (zneg t), .slice pb_8 (zlen t) cb_8] 49 ∧ RN V (.slice xp8 (zlen (x)) xc8) (x).natAbs ∧ RN V (.slice xp9 (zlen (y)) xc9) (y).natAbs ∧ RN V (.slice xp11 (zlen (g)) xc11) (g).natAbs ∧ RN V (.slice xp12 (zlen (r)) xc12) (r).natAbs ∧ RN V (.slice xp13 (zlen (s)) xc13) (s).natAbs ∧ RN V (.slice xp14 (zlen (u)) xc14) (u).natAbs ∧ RN V (.slice xp15 (zlen (v)) xc15) (v).natAbs ∧ RN V (.slice pa_8 (zlen q) ca_8) q.natAbs ∧ RN V (.slice pb_8 (zlen t) cb_8) t.natAbs ∧ RN V (.slice pv3_4 (zlen qv) cv3_4) qv.natAbs ∧ RN V (.slice pv3_5 (zlen n) cv3_5) n.natAbs) ?_ ?_
      · refine wp_region_tail_d (by kernel_rfl) 6 2 (fun i => [62, 63, 64, 65, 66, 67].getD i 0) (RelR [Rel.val (.agg #[.bool (zneg (v)), .slice xp15 (zlen (v)) xc15]), Rel.val (.agg #[.bool (zneg (u)), .slice xp14 (zlen (u)) xc14]), Rel.val (.agg #[.bool (zneg q), .slice pa_8 (zlen q) ca_8]), Rel.val (.agg #[.bool (zneg (v)), .slice xp15 (zlen (v)) xc15]), Rel.int qv, Rel.int n]) (fun W => Below V4.heap.size V4 W) (fun _ _ => True) (by kernel_rfl) (by kernel_rfl) (by kernel_rfl) trivial (Below.refl _ _).drew ?_ ?_
        · intro listed a W i hI hD hrd him
          have HI := Lib.hid hI
          have HD := Lib.hid hD
          have Hi := fun (j : Nat) (h : i = j) => (Lib.hid (h ▸ hrd) : Hid (j ∈ _))
          clear hI hrd hD
          match i, him with
          | 0, _ =>
            have Hi := Hi 0 rfl
            have y15 : a.tmps[15]? = some (.pointer (some ⟨W9.heap.size + 1, 0, none⟩)) := HI.out.rest 15 (by decide)
            have dK15r0 := (K15r.out.below HI.out.world).cell (i := 0) rfl
            have dK15r1 := (K15r.out.below HI.out.world).cell (i := 1) rfl
            refine wpOp_step rfl (fun K' hK => ?_)
            have hK := Lib.hid hK
            go_simp
            exact hK.out _ _ ⟨HI.out.put Hi.out (by decide) rfl (by simp) (by decide) (rfl) (fun j u h => h) (HI.out.world), trivial⟩
          | 1, _ =>
            have Hi := Hi 1 rfl
            have y14 : a.tmps[14]? = some (.pointer (some ⟨W9.heap.size, 0, none⟩)) := HI.out.rest 14 (by decide)
            have dK14r0 := (K14r.out.below HI.out.world).cell (i := 0) rfl
            have dK14r1 := (K14r.out.below HI.out.world).cell (i := 1) rfl
            refine wpOp_step rfl (fun K' hK => ?_)
            have hK := Lib.hid hK
            go_simp
            exact hK.out _ _ ⟨HI.out.put Hi.out (by decide) rfl (by simp) (by decide) (rfl) (fun j u h => h) (HI.out.world), trivial⟩
          | 2, _ =>
            have Hi := Hi 2 rfl
            have y16 : a.tmps[16]? = some (.pointer (some ⟨V2.heap.size, 0, none⟩)) := HI.out.rest 16 (by decide)
            have dK610 := (K61.out.below HI.out.world).cell (i := 0) rfl
            have dK611 := (K61.out.below HI.out.world).cell (i := 1) rfl
            refine wpOp_step rfl (fun K' hK => ?_)
            have hK := Lib.hid hK
            go_simp
            exact hK.out _ _ ⟨HI.out.put Hi.out (by decide) rfl (by simp) (by decide) (rfl) (fun j u h => h) (HI.out.world), trivial⟩
          | 3, _ =>
            have Hi := Hi 3 rfl
            have y15 : a.tmps[15]? = some (.pointer (some ⟨W9.heap.size + 1, 0, none⟩)) := HI.out.rest 15 (by decide)
            have dK15r0 := (K15r.out.below HI.out.world).cell (i := 0) rfl
            have dK15r1 := (K15r.out.below HI.out.world).cell (i := 1) rfl
            refine wpOp_step rfl (fun K' hK => ?_)
            have hK := Lib.hid hK
            go_simp
            exact hK.out _ _ ⟨HI.out.put Hi.out (by decide) rfl (by simp) (by decide) (rfl) (fun j u h => h) (HI.out.world), trivial⟩
          | 4, _ =>
            have Hi := Hi 4 rfl
            have x2 : a.tmps[64]? = some (.agg #[.bool (zneg q), .slice pa_8 (zlen q) ca_8]) := by
              obtain ⟨v', y', e'⟩ := HI.out.at (i := 2) Hi.out (by kernel_rfl) (by decide)
              obtain rfl : v' = .agg #[.bool (zneg q), .slice pa_8 (zlen q) ca_8] := e'
              exact y'
            have x3 : a.tmps[65]? = some (.agg #[.bool (zneg (v)), .slice xp15 (zlen (v)) xc15]) := by
              obtain ⟨v', y', e'⟩ := HI.out.at (i := 3) Hi.out (by kernel_rfl) (by decide)
              obtain rfl : v' = .agg #[.bool (zneg (v)), .slice xp15 (zlen (v)) xc15] := e'
              exact y'
            refine wpOp_step rfl (fun K' hK => ?_)
            have hK := Lib.hid hK
            go_simp
            with_reducible refine (CT.out _ _ _ _ _ (RQ.out.below HI.out.world) (R15r.out.below HI.out.world)).mono ?_
            rintro e W' ⟨pv3_4, cv3_4, rfl, rrv3_4, hb⟩
            exact hK.out _ _ ⟨HI.out.put Hi.out (by decide) rfl (by simp) (by decide) (⟨pv3_4, cv3_4, rfl, rrv3_4⟩) (fun j u h => RelR.mono hb j u h) (HI.out.world.trans (hb.mono HI.out.world.size)), trivial⟩
          | 5, _ =>
            have Hi := Hi 5 rfl
            have x1 : a.tmps[63]? = some (.agg #[.bool (zneg (u)), .slice xp14 (zlen (u)) xc14]) := by
              obtain ⟨v', y', e'⟩ := HI.out.at (i := 1) Hi.out (by kernel_rfl) (by decide)
              obtain rfl : v' = .agg #[.bool (zneg (u)), .slice xp14 (zlen (u)) xc14] := e'
              exact y'
            obtain ⟨v', x4, pv3_4, cv3_4, e, rrv3_4⟩ := HI.out.at (i := 4) Hi.out (by kernel_rfl) (by decide)
            obtain rfl := e
            have x4 : a.tmps[66]? = some (.agg #[.bool (zneg qv), .slice pv3_4 (zlen qv) cv3_4]) := x4
            have RRV3_4 := Lib.hid rrv3_4
            clear rrv3_4
            refine wpOp_step rfl (fun K' hK => ?_)
            have hK := Lib.hid hK
            go_simp
            with_reducible refine (CM.out _ _ _ _ _ (R14r.out.below HI.out.world) RRV3_4.out).mono ?_
            rintro e W' ⟨pv3_5, cv3_5, rfl, rrv3_5, hb⟩
            exact hK.out _ _ ⟨HI.out.put Hi.out (by decide) rfl (by simp) (by decide) (⟨pv3_5, cv3_5, rfl, rrv3_5⟩) (fun j u h => RelR.mono hb j u h) (HI.out.world.trans (hb.mono HI.out.world.size)), trivial⟩
          | n + 6, h => exact absurd h (by omega)
        · intro listed a W hI hD hall
          obtain ⟨v0, x0, e0⟩ := hI.slots 0 (by decide) (hall 0 (by decide))
          obtain rfl : v0 = .agg #[.bool (zneg (v)), .slice xp15 (zlen (v)) xc15] := e0
          have x0 : a.tmps[62]? = some (.agg #[.bool (zneg (v)), .slice xp15 (zlen (v)) xc15]) := x0
          obtain ⟨v1, x1, e1⟩ := hI.slots 1 (by decide) (hall 1 (by decide))
          obtain rfl : v1 = .agg #[.bool (zneg (u)), .slice xp14 (zlen (u)) xc14] := e1
          have x1 : a.tmps[63]? = some (.agg #[.bool (zneg (u)), .slice xp14 (zlen (u)) xc14]) := x1
          obtain ⟨v2, x2, e2⟩ := hI.slots 2 (by decide) (hall 2 (by decide))
          obtain rfl : v2 = .agg #[.bool (zneg q), .slice pa_8 (zlen q) ca_8] := e2
          have x2 : a.tmps[64]? = some (.agg #[.bool (zneg q), .slice pa_8 (zlen q) ca_8]) := x2
          obtain ⟨v3, x3, e3⟩ := hI.slots 3 (by decide) (hall 3 (by decide))
          obtain rfl : v3 = .agg #[.bool (zneg (v)), .slice xp15 (zlen (v)) xc15] := e3
          have x3 : a.tmps[65]? = some (.agg #[.bool (zneg (v)), .slice xp15 (zlen (v)) xc15]) := x3
          obtain ⟨v4, x4, pv3_4, cv3_4, e4, rrv3_4⟩ := hI.slots 4 (by decide) (hall 4 (by decide))
          obtain rfl := e4
          have RRV3_4 := Lib.hid rrv3_4
          clear rrv3_4
          have x4 : a.tmps[66]? = some (.agg #[.bool (zneg qv), .slice pv3_4 (zlen qv) cv3_4]) := x4
          obtain ⟨v5, x5, pv3_5, cv3_5, e5, rrv3_5⟩ := hI.slots 5 (by decide) (hall 5 (by decide))
          obtain rfl := e5
          have RRV3_5 := Lib.hid rrv3_5
          clear rrv3_5
          have x5 : a.tmps[67]? = some (.agg #[.bool (zneg n), .slice pv3_5 (zlen n) cv3_5]) := x5
          have ea := hI.fin [(62, .agg #[.bool (zneg (v)), .slice xp15 (zlen (v)) xc15]), (63, .agg #[.bool (zneg (u)), .slice xp14 (zlen (u)) xc14]), (64, .agg #[.bool (zneg q), .slice pa_8 (zlen q) ca_8]), (65, .agg #[.bool (zneg (v)), .slice xp15 (zlen (v)) xc15]), (66, .agg #[.bool (zneg qv), .slice pv3_4 (zlen qv) cv3_4]), (67, .agg #[.bool (zneg n), .slice pv3_5 (zlen n) cv3_5])] (by
            intro p hp
            simp only [List.mem_cons, List.not_mem_nil, or_false] at hp
            rcases hp with rfl | rfl | rfl | rfl | rfl | rfl
            · exact x0
            · exact x1
            · exact x2
            · exact x3
            · exact x4
            · exact x5) (by
            intro d hd i him h
            match i, him with
            | 0, _ => exact hd _ (ix 0 rfl) h
            | 1, _ => exact hd _ (ix 1 rfl) h
            | 2, _ => exact hd _ (ix 2 rfl) h
            | 3, _ => exact hd _ (ix 3 rfl) h
            | 4, _ => exact hd _ (ix 4 rfl) h
            | 5, _ => exact hd _ (ix 5 rfl) h
            | n + 6, h => omega)
          have EA := Lib.hid ea
          have HBW := Lib.hid hI.world
          have HI := Lib.hid hI
          clear ea hI hall
          have K8r := Lib.hid (K8r.out.below HBW.out)
          have K9r := Lib.hid (K9r.out.below HBW.out)
          have K11r := Lib.hid (K11r.out.below HBW.out)
          have K12r := Lib.hid (K12r.out.below HBW.out)
          have K13r := Lib.hid (K13r.out.below HBW.out)
          have K14r := Lib.hid (K14r.out.below HBW.out)
          have K15r := Lib.hid (K15r.out.below HBW.out)
          have K61 := Lib.hid (K61.out.below HBW.out)
          have K62 := Lib.hid (K62.out.below HBW.out)
          have R8r := Lib.hid (R8r.out.below HBW.out)
          have R9r := Lib.hid (R9r.out.below HBW.out)
          have R11r := Lib.hid (R11r.out.below HBW.out)
          have R12r := Lib.hid (R12r.out.below HBW.out)
          have R13r := Lib.hid (R13r.out.below HBW.out)
          have R14r := Lib.hid (R14r.out.below HBW.out)
          have R15r := Lib.hid (R15r.out.below HBW.out)
          have RQ := Lib.hid (RQ.out.below HBW.out)
          have RT := Lib.hid (RT.out.below HBW.out)
          have HBX := Lib.hid (HB4.out.trans (HBW.out.mono HB4.out.size))
          have RQV := RRV3_4
          have RN1 := RRV3_5
          have y14 : a.tmps[14]? = some (.pointer (some ⟨W9.heap.size, 0, none⟩)) := HI.out.rest 14 (by decide)
          have y15 : a.tmps[15]? = some (.pointer (some ⟨W9.heap.size + 1, 0, none⟩)) := HI.out.rest 15 (by decide)
          have dK14r0 := K14r.out.cell (i := 0) rfl
          have fK14r0 := K14r.out.frozen (i := 0)
          have dK14r1 := K14r.out.cell (i := 1) rfl
          have fK14r1 := K14r.out.frozen (i := 1)
          have dK15r0 := K15r.out.cell (i := 0) rfl
          have fK15r0 := K15r.out.frozen (i := 0)
          have dK15r1 := K15r.out.cell (i := 1) rfl
          have fK15r1 := K15r.out.frozen (i := 1)
          have ddK15r0 : ((W.setCell ⟨W9.heap.size, 0, none⟩ (.bool (zneg (v)))).setCell ⟨W9.heap.size, 1, none⟩ (.slice xp15 (zlen (v)) xc15)).cell? ⟨W9.heap.size + 1, 0, none⟩ = some (.bool (zneg (v))) := ((store_off (by omega) (l := [.bool (zneg (v)), .slice xp15 (zlen (v)) xc15]) (i := 0) K15r.out)).cell (i := 0) rfl
          have ddK15r1 : ((W.setCell ⟨W9.heap.size, 0, none⟩ (.bool (zneg (v)))).setCell ⟨W9.heap.size, 1, none⟩ (.slice xp15 (zlen (v)) xc15)).cell? ⟨W9.heap.size + 1, 1, none⟩ = some (.slice xp15 (zlen (v)) xc15) := ((store_off (by omega) (l := [.bool (zneg (v)), .slice xp15 (zlen (v)) xc15]) (i := 0) K15r.out)).cell (i := 1) rfl
          refine tail_succ (t := 1) ?_
          refine wpOp_step rfl (fun K' hK => ?_)
          have hK := Lib.hid hK
          go_simp
          refine hK.out _ _ ?_
          clear hK
          refine tail_succ (t := 0) ?_
          refine wpOp_step rfl (fun K' hK => ?_)
          have hK := Lib.hid hK
          go_simp
          refine hK.out _ _ ?_
          clear hK
          refine tail_nil ?_
          have s0 : ∀ {v' : Value} {n' : Nat}, RN W v' n' → RN (storeAll W (W9.heap.size) 0 [.bool (zneg (v)), .slice xp15 (zlen (v)) xc15]) v' n' := fun h' => store_rn _ h' K14r.out (by simp [noInt]) (by simp [plainV])
          have o0 : ∀ {g' : Nat} {cs' : Array Value} {T' : TypeId}, g' ≠ W9.heap.size → SBk W g' cs' T' → SBk (storeAll W (W9.heap.size) 0 [.bool (zneg (v)), .slice xp15 (zlen (v)) xc15]) g' cs' T' := fun hg' h' => store_off hg' _ 0 h'
          have s1 : ∀ {v' : Value} {n' : Nat}, RN (storeAll W (W9.heap.size) 0 [.bool (zneg (v)), .slice xp15 (zlen (v)) xc15]) v' n' → RN (storeAll (storeAll W (W9.heap.size) 0 [.bool (zneg (v)), .slice xp15 (zlen (v)) xc15]) (W9.heap.size + 1) 0 [.bool (zneg n), .slice pv3_5 (zlen n) cv3_5]) v' n' := fun h' => store_rn _ h' (o0 (by omega) K15r.out) (by simp [noInt]) (by simp [plainV])
          have o1 : ∀ {g' : Nat} {cs' : Array Value} {T' : TypeId}, g' ≠ W9.heap.size + 1 → SBk (storeAll W (W9.heap.size) 0 [.bool (zneg (v)), .slice xp15 (zlen (v)) xc15]) g' cs' T' → SBk (storeAll (storeAll W (W9.heap.size) 0 [.bool (zneg (v)), .slice xp15 (zlen (v)) xc15]) (W9.heap.size + 1) 0 [.bool (zneg n), .slice pv3_5 (zlen n) cv3_5]) g' cs' T' := fun hg' h' => store_off hg' _ 0 h'
          exact ⟨rfl, pv3_4, cv3_4, pv3_5, cv3_5, EA.out, (store_below (l := [.bool (zneg n), .slice pv3_5 (zlen n) cv3_5]) (i := 0) (by omega) (store_below (l := [.bool (zneg (v)), .slice xp15 (zlen (v)) xc15]) (i := 0) (by omega) HBX.out)), (o1 (by omega) (o0 (by omega) K8r.out)), (o1 (by omega) (o0 (by omega) K9r.out)), (o1 (by omega) (o0 (by omega) K11r.out)), (o1 (by omega) (o0 (by omega) K12r.out)), (o1 (by omega) (o0 (by omega) K13r.out)), (store_off (by omega) (l := [.bool (zneg n), .slice pv3_5 (zlen n) cv3_5]) (i := 0) (store_blk (l := [.bool (zneg (v)), .slice xp15 (zlen (v)) xc15]) (i := 0) K14r.out)), (store_blk (l := [.bool (zneg n), .slice pv3_5 (zlen n) cv3_5]) (i := 0) (store_off (by omega) (l := [.bool (zneg (v)), .slice xp15 (zlen (v)) xc15]) (i := 0) K15r.out)), (o1 (by omega) (o0 (by omega) K61.out)), (o1 (by omega) (o0 (by omega) K62.out)), (s1 (s0 R8r.out)), (s1 (s0 R9r.out)), (s1 (s0 R11r.out)), (s1 (s0 R12r.out)), (s1 (s0 R13r.out)), (s1 (s0 R14r.out)), (s1 (s0 R15r.out)), (s1 (s0 RQ.out)), (s1 (s0 RT.out)), (s1 (s0 RQV.out)), (s1 (s0 RN1.out))⟩
      rintro a' V5 ⟨pv3_4, cv3_4, pv3_5, cv3_5, rfl, z0, z1, z2, z3, z4, z5, z6, z7, z8, z9, z10, z11, z12, z13, z14, z15, z16, z17, z18, z19, z20⟩
      have HB5 := Lib.hid z0
      have K8r := Lib.hid z1
      have K9r := Lib.hid z2
      have K11r := Lib.hid z3
      have K12r := Lib.hid z4
      have K13r := Lib.hid z5
      have K14r := Lib.hid z6
      have K15r := Lib.hid z7
      have K61 := Lib.hid z8
      have K62 := Lib.hid z9
      have R8r := Lib.hid z10
      have R9r := Lib.hid z11
      have R11r := Lib.hid z12
      have R12r := Lib.hid z13
      have R13r := Lib.hid z14
      have R14r := Lib.hid z15
      have R15r := Lib.hid z16
      have RQ := Lib.hid z17
      have RT := Lib.hid z18
      have RQV := Lib.hid z19
      have RN1 := Lib.hid z20
      clear z0 z1 z2 z3 z4 z5 z6 z7 z8 z9 z10 z11 z12 z13 z14 z15 z16 z17 z18 z19 z20
      simp only [putL, List.setIfInBounds_toArray, List.set_cons_zero, List.set_cons_succ]
      go_wp2
      go_roundg t.natAbs
      case measure => have := HLT.out; have := HI.out.1; omega
      case rel => exact ⟨s, t, v, n, Lib.hid ⟨rfl, HST.out⟩, Lib.hid HB5.out, Lib.hid ⟨_, _, K8r.out, R8r.out⟩, Lib.hid ⟨_, _, K9r.out, R9r.out⟩, Lib.hid ⟨_, _, K11r.out, R11r.out⟩, Lib.hid ⟨_, _, K12r.out, R13r.out⟩, Lib.hid ⟨_, _, K13r.out, RT.out⟩, Lib.hid ⟨_, _, K14r.out, R15r.out⟩, Lib.hid ⟨_, _, K15r.out, RN1.out⟩⟩


end Go.Proofs.YtohaocgbclpknaaGreatDoor
