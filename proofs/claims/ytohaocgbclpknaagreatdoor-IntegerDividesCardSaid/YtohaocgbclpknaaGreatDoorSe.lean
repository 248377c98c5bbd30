/- garboardref02: Over of any integers, DivMod of texts: walks. -/
import Derived.Test.YtohaocgbclpknaaGreatDoorSd
import Derived.Test.YtohaocgbclpknaaGreatDoorMz20q
namespace Go.Proofs.YtohaocgbclpknaaGreatDoor
open Go.RowKit Go.Gb

theorem nat_div (x y : Int) : ((y.natAbs : Nat) : Int) * ((x.natAbs / y.natAbs : Nat) : Int) + ((x.natAbs % y.natAbs : Nat) : Int) = (x.natAbs : Int) := by
  exact_mod_cast Nat.div_add_mod x.natAbs y.natAbs
theorem over_pos (x y : Int) (hy : y ≠ 0) (hx : zneg x = false) : x / y = (if zneg y then -((x.natAbs / y.natAbs : Nat) : Int) else ((x.natAbs / y.natAbs : Nat) : Int)) ∧ x % y = ((x.natAbs % y.natAbs : Nat) : Int) := by
  have hx0 : ¬ x < 0 := of_decide_eq_false hx
  have h1 := nat_div x y
  have h2 := Nat.mod_lt x.natAbs (y := y.natAbs) (by omega)
  refine div_of_formula x y hy _ _ ⟨?_, by omega, by omega⟩
  generalize ((x.natAbs / y.natAbs : Nat) : Int) = q at *
  unfold zneg
  by_cases h : y < 0
  · have e : y * q = -((y.natAbs : Int) * q) := by rw [show (y.natAbs : Int) = -y by omega, Int.neg_mul, Int.neg_neg]
    rw [decide_eq_true h, if_pos rfl, Int.mul_neg]; omega
  · rw [decide_eq_false h, if_neg (by simp)]
    have e : y * q = (y.natAbs : Int) * q := by rw [show (y.natAbs : Int) = y by omega]
    omega
theorem over_exact (x y : Int) (hy : y ≠ 0) (hx : zneg x = true) (h0 : x.natAbs % y.natAbs = 0) : x / y = (if !zneg y then -((x.natAbs / y.natAbs : Nat) : Int) else ((x.natAbs / y.natAbs : Nat) : Int)) ∧ x % y = 0 := by
  have hx0 : x < 0 := of_decide_eq_true hx
  have h1 := nat_div x y
  rw [h0] at h1
  refine div_of_formula x y hy _ _ ⟨?_, by omega, by omega⟩
  generalize ((x.natAbs / y.natAbs : Nat) : Int) = q at *
  unfold zneg
  by_cases h : y < 0
  · rw [decide_eq_true h]
    have e : y * q = -((y.natAbs : Int) * q) := by rw [show (y.natAbs : Int) = -y by omega, Int.neg_mul, Int.neg_neg]
    simp; omega
  · rw [decide_eq_false h]
    have e : y * q = (y.natAbs : Int) * q := by rw [show (y.natAbs : Int) = y by omega]
    simp [Int.mul_neg]; omega
theorem over_neg (x y : Int) (hy : y ≠ 0) (hx : zneg x = true) (h0 : x.natAbs % y.natAbs ≠ 0) : x / y = (if !zneg y then -((x.natAbs / y.natAbs + 1 : Nat) : Int) else ((x.natAbs / y.natAbs + 1 : Nat) : Int)) ∧ x % y = ((y.natAbs - x.natAbs % y.natAbs : Nat) : Int) := by
  have hx0 : x < 0 := of_decide_eq_true hx
  have h1 := nat_div x y
  have h2 := Nat.mod_lt x.natAbs (y := y.natAbs) (by omega)
  refine div_of_formula x y hy _ _ ⟨?_, by omega, by omega⟩
  rw [Int.natCast_add]
  generalize ((x.natAbs / y.natAbs : Nat) : Int) = q at *
  unfold zneg
  by_cases h : y < 0
  · rw [decide_eq_true h]
    have e : y * q = -((y.natAbs : Int) * q) := by rw [show (y.natAbs : Int) = -y by omega, Int.neg_mul, Int.neg_neg]
    simp [Int.mul_add]; omega
  · rw [decide_eq_false h]
    have e : y * q = (y.natAbs : Int) * q := by rw [show (y.natAbs : Int) = y by omega]
    simp [Int.mul_add, Int.mul_neg]; omega
theorem nlen_pos {n : Nat} (h : n ≠ 0) : 0 < nlen n := List.length_pos_iff.2 (by rw [digs_pos h]; simp)

theorem sOver (x y q r : Int) (hq : x / y = q) (hr : x % y = r) (hy : y ≠ 0) (hx : zlen x ≤ 50000) (hly : zlen y ≤ 50000) (p1 : Option Addr) (c1 : Nat) (p2 : Option Addr) (c2 : Nat) (w : World) (r1 : RN w (.slice p1 (zlen x) c1) x.natAbs) (r2 : RN w (.slice p2 (zlen y) c2) y.natAbs) :
    Calls Tryz.prog 24 #[.agg #[.bool (zneg x), .slice p1 (zlen x) c1], .agg #[.bool (zneg y), .slice p2 (zlen y) c2]] w fun e w' => ∃ p c p' c', e = .returned (.tuple #[.agg #[.bool (zneg q), .slice p (zlen q) c], .agg #[.bool (zneg r), .slice p' (zlen r) c']]) ∧ RN w' (.slice p (zlen q) c) q.natAbs ∧ RN w' (.slice p' (zlen r) c') r.natAbs ∧ Below w.heap.size w w' := by
  have hdl : nlen (x.natAbs / y.natAbs) ≤ 50000 := Nat.le_trans (nlen_mono (Nat.div_le_self _ _)) hx
  have hml : nlen (x.natAbs % y.natAbs) ≤ 50000 := Nat.le_trans (nlen_mono (Nat.mod_le _ _)) hx
  have hC := fun W (h : Below w.heap.size w W) => cOver (.slice p1 (zlen x) c1) (.slice p2 (zlen y) c2) x.natAbs y.natAbs (by omega) hx W (r1.below h) (r2.below h)
  cases hs : zneg x with
  | false =>
    obtain ⟨e1, e2⟩ := over_pos x y hy hs
    exact zOver_f p1 _ c1 p2 _ c2 (zneg y) _ _ q r (by omega) (by omega) (hq ▸ e1) (hr ▸ e2) w hC
  | true =>
    by_cases h0 : x.natAbs % y.natAbs = 0
    · obtain ⟨e1, e2⟩ := over_exact x y hy hs h0
      rw [h0] at hC
      exact zOver_t0 p1 _ c1 p2 _ c2 (zneg y) _ q r (by omega) (hq ▸ e1) (hr ▸ e2) w hC
    · obtain ⟨e1, e2⟩ := over_neg x y hy hs h0
      have hlt := Nat.mod_lt x.natAbs (y := y.natAbs) (by omega)
      exact zOver_t p1 _ c1 p2 _ c2 (zneg y) _ _ y.natAbs q r (by omega) (nlen_pos h0) (by unfold zlen at hly; omega) (by omega) (hq ▸ e1) (hr ▸ e2) w r2 hC

theorem sBoth (x y : Int) (fx : FitZ x) (fy : FitZ y) (hx : (Sz x).size ≤ 1000) (hy : (Sz y).size ≤ 1000) (w : World) :
    Calls Tryz.prog 22 #[.string (Sz x), .string (Sz y)] w fun e w' => ∃ p1 c1 p2 c2, e = .returned (.tuple #[.agg #[.bool (zneg x), .slice p1 (zlen x) c1], .agg #[.bool (zneg y), .slice p2 (zlen y) c2], .int .i64 0]) ∧ RN w' (.slice p1 (zlen x) c1) x.natAbs ∧ RN w' (.slice p2 (zlen y) c2) y.natAbs ∧ Below w.heap.size w w' := zBoth x y fx fy hx hy w
theorem sTo (z : Int) (s : ByteArray) (hs : Sz z = s) (hf : zlen z ≤ 10000) (hs2 : (Sn z.natAbs).size ≤ 100000) (p : Option Addr) (c : Nat) (w : World) (h : RN w (.slice p (zlen z) c) z.natAbs) :
    Calls Tryz.prog 25 #[.agg #[.bool (zneg z), .slice p (zlen z) c]] w fun e w' => e = .returned (.string s) ∧ Below w.heap.size w w' := by subst hs; exact zTo _ z hf hs2 w (Rz.mk h)
theorem sSignum (z s : Int) (hs : z.sign = s) (p : Option Addr) (c : Nat) (w : World) (h : RN w (.slice p (zlen z) c) z.natAbs) :
    Calls Tryz.prog 23 #[.agg #[.bool (zneg z), .slice p (zlen z) c]] w fun e w' => e = .returned (.int .i64 s) ∧ Below w.heap.size w w' := by subst hs; exact zSignum _ z w (Rz.mk h)
theorem sTimes (x y z : Int) (hz : x * y = z) (hx : zlen x ≤ 50000) (hy : zlen y ≤ 50000) (p1 : Option Addr) (c1 : Nat) (p2 : Option Addr) (c2 : Nat) (w : World) (r1 : RN w (.slice p1 (zlen x) c1) x.natAbs) (r2 : RN w (.slice p2 (zlen y) c2) y.natAbs) :
    Calls Tryz.prog 33 #[.agg #[.bool (zneg x), .slice p1 (zlen x) c1], .agg #[.bool (zneg y), .slice p2 (zlen y) c2]] w fun e w' => ∃ p c, e = .returned (.agg #[.bool (zneg z), .slice p (zlen z) c]) ∧ RN w' (.slice p (zlen z) c) z.natAbs ∧ Below w.heap.size w w' := by subst hz; exact rz_sh (zTimes _ _ x y hx hy w (Rz.mk r1) (Rz.mk r2))
theorem sMinus (x y z : Int) (hz : x - y = z) (hx : zlen x ≤ 50000) (hy : zlen y ≤ 50000) (p1 : Option Addr) (c1 : Nat) (p2 : Option Addr) (c2 : Nat) (w : World) (r1 : RN w (.slice p1 (zlen x) c1) x.natAbs) (r2 : RN w (.slice p2 (zlen y) c2) y.natAbs) :
    Calls Tryz.prog 32 #[.agg #[.bool (zneg x), .slice p1 (zlen x) c1], .agg #[.bool (zneg y), .slice p2 (zlen y) c2]] w fun e w' => ∃ p c, e = .returned (.agg #[.bool (zneg z), .slice p (zlen z) c]) ∧ RN w' (.slice p (zlen z) c) z.natAbs ∧ Below w.heap.size w w' := by subst hz; exact rz_sh (zMinus _ _ x y hx hy w (Rz.mk r1) (Rz.mk r2))
theorem sOpposite (x z : Int) (hz : -x = z) (hx : zlen x ≤ 1000000) (p1 : Option Addr) (c1 : Nat) (w : World) (r1 : RN w (.slice p1 (zlen x) c1) x.natAbs) :
    Calls Tryz.prog 34 #[.agg #[.bool (zneg x), .slice p1 (zlen x) c1]] w fun e w' => ∃ p c, e = .returned (.agg #[.bool (zneg z), .slice p (zlen z) c]) ∧ RN w' (.slice p (zlen z) c) z.natAbs ∧ Below w.heap.size w w' := by subst hz; exact rz_sh (zOpposite _ x hx w (Rz.mk r1))

set_option maxRecDepth 100000 in
set_option maxHeartbeats 4000000 in
theorem ZDivMod_raw (a b sq sr : ByteArray) (x y q r s : Int) (hs : s ≠ 0) (w : World)
    (h1 : ∀ W, Calls Tryz.prog 22 #[.string a, .string b] W fun e w' => ∃ p1 c1 p2 c2, e = .returned (.tuple #[.agg #[.bool (zneg x), .slice p1 (zlen x) c1], .agg #[.bool (zneg y), .slice p2 (zlen y) c2], .int .i64 0]) ∧ RN w' (.slice p1 (zlen x) c1) x.natAbs ∧ RN w' (.slice p2 (zlen y) c2) y.natAbs ∧ Below W.heap.size W w')
    (h2 : ∀ p c W, RN W (.slice p (zlen y) c) y.natAbs → Calls Tryz.prog 23 #[.agg #[.bool (zneg y), .slice p (zlen y) c]] W fun e w' => e = .returned (.int .i64 s) ∧ Below W.heap.size W w')
    (h3 : ∀ p1 c1 p2 c2 W, RN W (.slice p1 (zlen x) c1) x.natAbs → RN W (.slice p2 (zlen y) c2) y.natAbs → Calls Tryz.prog 24 #[.agg #[.bool (zneg x), .slice p1 (zlen x) c1], .agg #[.bool (zneg y), .slice p2 (zlen y) c2]] W fun e w' => ∃ p c p' c', e = .returned (.tuple #[.agg #[.bool (zneg q), .slice p (zlen q) c], .agg #[.bool (zneg r), .slice p' (zlen r) c']]) ∧ RN w' (.slice p (zlen q) c) q.natAbs ∧ RN w' (.slice p' (zlen r) c') r.natAbs ∧ Below W.heap.size W w')
    (h4 : ∀ p c W, RN W (.slice p (zlen q) c) q.natAbs → Calls Tryz.prog 25 #[.agg #[.bool (zneg q), .slice p (zlen q) c]] W fun e w' => e = .returned (.string sq) ∧ Below W.heap.size W w')
    (h5 : ∀ p c W, RN W (.slice p (zlen r) c) r.natAbs → Calls Tryz.prog 25 #[.agg #[.bool (zneg r), .slice p (zlen r) c]] W fun e w' => e = .returned (.string sr) ∧ Below W.heap.size W w') :
    Calls Tryz.prog 7 #[.string a, .string b] w fun e w' => e = .returned (.tuple #[.string sq, .string sr, .int .i64 0]) ∧ Below w.heap.size w w' := by
  have C1 := Lib.hid h1
  have C2 := Lib.hid h2
  have C3 := Lib.hid h3
  have C4 := Lib.hid h4
  have C5 := Lib.hid h5
  have k0 : (s == 0) = false := by rw [beq_eq_false_iff_ne]; exact hs
  have HS := Lib.hid hs
  clear h1 h2 h3 h4 h5 hs
  go_enter Tryz.func7, Tryz.ntmps7
  have HB0 := Lib.hid (Below.refl w.heap.size w)
  go_wp2_with fail
  with_reducible refine (C1.out _).mono ?_
  rintro e W1 ⟨pa_1, ca_1, pb_1, cb_1, rfl, r1_0, r1_1, hb⟩
  have HB1 := Lib.hid (HB0.out.trans (hb.mono HB0.out.size))
  have RX := Lib.hid r1_0
  have RY := Lib.hid r1_1
  clear hb r1_0 r1_1
  go_upto_region 2 with fail
  refine wp_boxes W1 [(#[.bool (zneg x), .slice pa_1 (zlen x) ca_1], 49), (#[.bool (zneg y), .slice pb_1 (zlen y) cb_1], 49)] rfl ?_
  have L1 := HB1.out.size
  rintro W2 ⟨k1, k2, hb⟩
  have hb : Below W1.heap.size W1 W2 := hb
  have RX := Lib.hid (RX.out.below hb)
  have RY := Lib.hid (RY.out.below hb)
  have HB2 := Lib.hid (HB1.out.trans (hb.mono HB1.out.size))
  have K1 := Lib.hid k1
  have K2 := Lib.hid k2
  clear k1 k2 hb
  have dK20 := K2.out.cell (i := 0) rfl
  have dK21 := K2.out.cell (i := 1) rfl
  go_wp2_with fail
  with_reducible refine (C2.out _ _ _ RY.out).mono ?_
  rintro e W3 ⟨rfl, hb⟩
  clear dK20 dK21
  have K1 := Lib.hid (K1.out.below hb)
  have K2 := Lib.hid (K2.out.below hb)
  have RX := Lib.hid (RX.out.below hb)
  have RY := Lib.hid (RY.out.below hb)
  have HB3 := Lib.hid (HB2.out.trans (hb.mono HB2.out.size))
  clear hb
  have dK10 := K1.out.cell (i := 0) rfl
  have dK11 := K1.out.cell (i := 1) rfl
  have dK20 := K2.out.cell (i := 0) rfl
  have dK21 := K2.out.cell (i := 1) rfl
  go_wp2_with fail
  with_reducible refine (C3.out _ _ _ _ _ RX.out RY.out).mono ?_
  rintro e W4 ⟨pa_3, ca_3, pb_3, cb_3, rfl, r3_0, r3_1, hb⟩
  clear dK10 dK11 dK20 dK21
  have K1 := Lib.hid (K1.out.below hb)
  have K2 := Lib.hid (K2.out.below hb)
  have RX := Lib.hid (RX.out.below hb)
  have RY := Lib.hid (RY.out.below hb)
  have HB4 := Lib.hid (HB3.out.trans (hb.mono HB3.out.size))
  have RQ := Lib.hid r3_0
  have RR := Lib.hid r3_1
  clear hb r3_0 r3_1
  go_upto_region 7 with fail
  refine wp_boxes W4 [(#[.bool (zneg q), .slice pa_3 (zlen q) ca_3], 49), (#[.bool (zneg r), .slice pb_3 (zlen r) cb_3], 49)] rfl ?_
  have L2 := K1.out.lt
  have L3 := K2.out.lt
  have L4 := HB4.out.size
  rintro W5 ⟨k3, k4, hb⟩
  have hb : Below W4.heap.size W4 W5 := hb
  have K1 := Lib.hid (K1.out.below hb)
  have K2 := Lib.hid (K2.out.below hb)
  have RX := Lib.hid (RX.out.below hb)
  have RY := Lib.hid (RY.out.below hb)
  have RQ := Lib.hid (RQ.out.below hb)
  have RR := Lib.hid (RR.out.below hb)
  have HB5 := Lib.hid (HB4.out.trans (hb.mono HB4.out.size))
  have K3 := Lib.hid k3
  have K4 := Lib.hid k4
  clear k3 k4 hb
  go_wp2_with fail
  refine wp_region_post (fun a0 a' V => a' = ⟨putL [(31, .agg #[.bool (zneg q), .slice pa_3 (zlen q) ca_3]), (32, .string sq), (33, .agg #[.bool (zneg r), .slice pb_3 (zlen r) cb_3]), (34, .string sr), (4, .string sq), (5, .string sr), (6, .int .i64 0)] a0.tmps, a0.defers⟩ ∧ Below w.heap.size w V ∧ SBk V (W1.heap.size) #[.bool (zneg x), .slice pa_1 (zlen x) ca_1] 49 ∧ SBk V (W1.heap.size + 1) #[.bool (zneg y), .slice pb_1 (zlen y) cb_1] 49 ∧ SBk V (W4.heap.size) #[.bool (zneg q), .slice pa_3 (zlen q) ca_3] 49 ∧ SBk V (W4.heap.size + 1) #[.bool (zneg r), .slice pb_3 (zlen r) cb_3] 49 ∧ RN V (.slice pa_1 (zlen x) ca_1) x.natAbs ∧ RN V (.slice pb_1 (zlen y) cb_1) y.natAbs ∧ RN V (.slice pa_3 (zlen q) ca_3) q.natAbs ∧ RN V (.slice pb_3 (zlen r) cb_3) r.natAbs) ?_ ?_
  · refine wp_region_tail_d (by kernel_rfl) 7 0 (fun i => [31, 32, 33, 34, 4, 5, 6].getD i 0) (RelR [Rel.val (.agg #[.bool (zneg q), .slice pa_3 (zlen q) ca_3]), Rel.val (.string sq), Rel.val (.agg #[.bool (zneg r), .slice pb_3 (zlen r) cb_3]), Rel.val (.string sr), Rel.val (.string sq), Rel.val (.string sr), Rel.val (.int .i64 0)]) (fun W => Below W5.heap.size W5 W) (fun _ _ => True) (by kernel_rfl) (by kernel_rfl) (by kernel_rfl) trivial (Below.refl _ _).drew ?_ ?_
    · intro listed a W i hI hD hrd him
      have HI := Lib.hid hI
      have HD := Lib.hid hD
      have Hi := fun (j : Nat) (h : i = j) => (Lib.hid (h ▸ hrd) : Hid (j ∈ _))
      clear hI hrd hD
      match i, him with
      | 0, _ =>
        have Hi := Hi 0 rfl
        have y10 : a.tmps[10]? = some (.pointer (some ⟨W4.heap.size, 0, none⟩)) := HI.out.rest 10 (by decide)
        have dK30 := (K3.out.below HI.out.world).cell (i := 0) rfl
        have dK31 := (K3.out.below HI.out.world).cell (i := 1) rfl
        refine wpOp_step rfl (fun K' hK => ?_)
        have hK := Lib.hid hK
        go_simp
        exact hK.out _ _ ⟨HI.out.put Hi.out (by decide) rfl (by simp) (by decide) (rfl) (fun j u h => h) (HI.out.world), trivial⟩
      | 1, _ =>
        have Hi := Hi 1 rfl
        have x0 : a.tmps[31]? = some (.agg #[.bool (zneg q), .slice pa_3 (zlen q) ca_3]) := by
          obtain ⟨v', y', e'⟩ := HI.out.at (i := 0) Hi.out (by kernel_rfl) (by decide)
          obtain rfl : v' = .agg #[.bool (zneg q), .slice pa_3 (zlen q) ca_3] := e'
          exact y'
        refine wpOp_step rfl (fun K' hK => ?_)
        have hK := Lib.hid hK
        go_simp
        with_reducible refine (C4.out _ _ _ (RQ.out.below HI.out.world)).mono ?_
        rintro e W' ⟨rfl, hb⟩
        exact hK.out _ _ ⟨HI.out.put Hi.out (by decide) rfl (by simp) (by decide) (rfl) (fun j u h => RelR.mono hb j u h) (HI.out.world.trans (hb.mono HI.out.world.size)), trivial⟩
      | 2, _ =>
        have Hi := Hi 2 rfl
        have y11 : a.tmps[11]? = some (.pointer (some ⟨W4.heap.size + 1, 0, none⟩)) := HI.out.rest 11 (by decide)
        have dK40 := (K4.out.below HI.out.world).cell (i := 0) rfl
        have dK41 := (K4.out.below HI.out.world).cell (i := 1) rfl
        refine wpOp_step rfl (fun K' hK => ?_)
        have hK := Lib.hid hK
        go_simp
        exact hK.out _ _ ⟨HI.out.put Hi.out (by decide) rfl (by simp) (by decide) (rfl) (fun j u h => h) (HI.out.world), trivial⟩
      | 3, _ =>
        have Hi := Hi 3 rfl
        have x2 : a.tmps[33]? = some (.agg #[.bool (zneg r), .slice pb_3 (zlen r) cb_3]) := by
          obtain ⟨v', y', e'⟩ := HI.out.at (i := 2) Hi.out (by kernel_rfl) (by decide)
          obtain rfl : v' = .agg #[.bool (zneg r), .slice pb_3 (zlen r) cb_3] := e'
          exact y'
        refine wpOp_step rfl (fun K' hK => ?_)
        have hK := Lib.hid hK
        go_simp
        with_reducible refine (C5.out _ _ _ (RR.out.below HI.out.world)).mono ?_
        rintro e W' ⟨rfl, hb⟩
        exact hK.out _ _ ⟨HI.out.put Hi.out (by decide) rfl (by simp) (by decide) (rfl) (fun j u h => RelR.mono hb j u h) (HI.out.world.trans (hb.mono HI.out.world.size)), trivial⟩
      | 4, _ =>
        have Hi := Hi 4 rfl
        have x1 : a.tmps[32]? = some (.string sq) := by
          obtain ⟨v', y', e'⟩ := HI.out.at (i := 1) Hi.out (by kernel_rfl) (by decide)
          obtain rfl : v' = .string sq := e'
          exact y'
        refine wpOp_step rfl (fun K' hK => ?_)
        have hK := Lib.hid hK
        go_simp
        exact hK.out _ _ ⟨HI.out.put Hi.out (by decide) rfl (by simp) (by decide) (rfl) (fun j u h => h) (HI.out.world), trivial⟩
      | 5, _ =>
        have Hi := Hi 5 rfl
        have x3 : a.tmps[34]? = some (.string sr) := by
          obtain ⟨v', y', e'⟩ := HI.out.at (i := 3) Hi.out (by kernel_rfl) (by decide)
          obtain rfl : v' = .string sr := e'
          exact y'
        refine wpOp_step rfl (fun K' hK => ?_)
        have hK := Lib.hid hK
        go_simp
        exact hK.out _ _ ⟨HI.out.put Hi.out (by decide) rfl (by simp) (by decide) (rfl) (fun j u h => h) (HI.out.world), trivial⟩
      | 6, _ =>
        have Hi := Hi 6 rfl
        refine wpOp_step rfl (fun K' hK => ?_)
        have hK := Lib.hid hK
        go_simp
        exact hK.out _ _ ⟨HI.out.put Hi.out (by decide) rfl (by simp) (by decide) (rfl) (fun j u h => h) (HI.out.world), trivial⟩
      | n + 7, h => exact absurd h (by omega)
    · intro listed a W hI hD hall
      obtain ⟨v0, x0, e0⟩ := hI.slots 0 (by decide) (hall 0 (by decide))
      obtain rfl : v0 = .agg #[.bool (zneg q), .slice pa_3 (zlen q) ca_3] := e0
      have x0 : a.tmps[31]? = some (.agg #[.bool (zneg q), .slice pa_3 (zlen q) ca_3]) := x0
      obtain ⟨v1, x1, e1⟩ := hI.slots 1 (by decide) (hall 1 (by decide))
      obtain rfl : v1 = .string sq := e1
      have x1 : a.tmps[32]? = some (.string sq) := x1
      obtain ⟨v2, x2, e2⟩ := hI.slots 2 (by decide) (hall 2 (by decide))
      obtain rfl : v2 = .agg #[.bool (zneg r), .slice pb_3 (zlen r) cb_3] := e2
      have x2 : a.tmps[33]? = some (.agg #[.bool (zneg r), .slice pb_3 (zlen r) cb_3]) := x2
      obtain ⟨v3, x3, e3⟩ := hI.slots 3 (by decide) (hall 3 (by decide))
      obtain rfl : v3 = .string sr := e3
      have x3 : a.tmps[34]? = some (.string sr) := x3
      obtain ⟨v4, x4, e4⟩ := hI.slots 4 (by decide) (hall 4 (by decide))
      obtain rfl : v4 = .string sq := e4
      have x4 : a.tmps[4]? = some (.string sq) := x4
      obtain ⟨v5, x5, e5⟩ := hI.slots 5 (by decide) (hall 5 (by decide))
      obtain rfl : v5 = .string sr := e5
      have x5 : a.tmps[5]? = some (.string sr) := x5
      obtain ⟨v6, x6, e6⟩ := hI.slots 6 (by decide) (hall 6 (by decide))
      obtain rfl : v6 = .int .i64 0 := e6
      have x6 : a.tmps[6]? = some (.int .i64 0) := x6
      have ea := hI.fin [(31, .agg #[.bool (zneg q), .slice pa_3 (zlen q) ca_3]), (32, .string sq), (33, .agg #[.bool (zneg r), .slice pb_3 (zlen r) cb_3]), (34, .string sr), (4, .string sq), (5, .string sr), (6, .int .i64 0)] (by
        intro p hp
        simp only [List.mem_cons, List.not_mem_nil, or_false] at hp
        rcases hp with rfl | rfl | rfl | rfl | rfl | rfl | rfl
        · exact x0
        · exact x1
        · exact x2
        · exact x3
        · exact x4
        · exact x5
        · exact x6) (by
        intro d hd i him h
        match i, him with
        | 0, _ => exact hd _ (ix 0 rfl) h
        | 1, _ => exact hd _ (ix 1 rfl) h
        | 2, _ => exact hd _ (ix 2 rfl) h
        | 3, _ => exact hd _ (ix 3 rfl) h
        | 4, _ => exact hd _ (ix 4 rfl) h
        | 5, _ => exact hd _ (ix 5 rfl) h
        | 6, _ => exact hd _ (ix 6 rfl) h
        | n + 7, h => omega)
      have EA := Lib.hid ea
      have HBW := Lib.hid hI.world
      have HI := Lib.hid hI
      clear ea hI hall
      have K1 := Lib.hid (K1.out.below HBW.out)
      have K2 := Lib.hid (K2.out.below HBW.out)
      have K3 := Lib.hid (K3.out.below HBW.out)
      have K4 := Lib.hid (K4.out.below HBW.out)
      have RX := Lib.hid (RX.out.below HBW.out)
      have RY := Lib.hid (RY.out.below HBW.out)
      have RQ := Lib.hid (RQ.out.below HBW.out)
      have RR := Lib.hid (RR.out.below HBW.out)
      have HBX := Lib.hid (HB5.out.trans (HBW.out.mono HB5.out.size))
      refine tail_nil ?_
      exact ⟨rfl, EA.out, HBX.out, K1.out, K2.out, K3.out, K4.out, RX.out, RY.out, RQ.out, RR.out⟩
  rintro a' W6 ⟨rfl, z0, z1, z2, z3, z4, z5, z6, z7, z8⟩
  have HB6 := Lib.hid z0
  have K1 := Lib.hid z1
  have K2 := Lib.hid z2
  have K3 := Lib.hid z3
  have K4 := Lib.hid z4
  have RX := Lib.hid z5
  have RY := Lib.hid z6
  have RQ := Lib.hid z7
  have RR := Lib.hid z8
  clear z0 z1 z2 z3 z4 z5 z6 z7 z8
  simp only [putL, List.setIfInBounds_toArray, List.set_cons_zero, List.set_cons_succ]
  go_wp2
  exact bodyPost_ret (v := .tuple #[.string sq, .string sr, .int .i64 0]) (by simp [results, Tryz.results7, go_sem]) rfl ⟨rfl, HB6.out⟩

end Go.Proofs.YtohaocgbclpknaaGreatDoor
