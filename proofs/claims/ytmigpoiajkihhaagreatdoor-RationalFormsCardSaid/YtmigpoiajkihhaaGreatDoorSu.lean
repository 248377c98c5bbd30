/- garboardref03: Valid, Parts, Make, Whole, Frac, Floor: walks over the contracts of what they call. -/
import Derived.Test.YtmigpoiajkihhaaGreatDoorMz46q
namespace Go.Proofs.YtmigpoiajkihhaaGreatDoor
open Go.RowKit Go.Gb
set_option maxRecDepth 100000 in
set_option maxHeartbeats 4000000 in
theorem rvalid_raw (x1 : ByteArray) (n1 : Int) (en1 : Nat) (b : Bool)  (w : World) (h1 : ∀ W, Calls Tryz.prog 44 #[.string x1] W fun e w' => ∃ p c s d, e = .returned (.tuple #[.agg #[.bool (zneg n1), .slice p (zlen n1) c, .slice s (nlen en1) d], .bool b]) ∧ RN w' (.slice p (zlen n1) c) n1.natAbs ∧ RN w' (.slice s (nlen en1) d) en1 ∧ Below W.heap.size W w')  :
 Calls Tryz.prog 14 #[.string x1] w fun e w' => e = .returned (.bool b) ∧ Below w.heap.size w w' := by
 have C1 := Lib.hid h1
 clear h1
 go_enter Tryz.func14, Tryz.ntmps14
 have HB0 := Lib.hid (Below.refl w.heap.size w)
 go_wp2_with fail
 with_reducible refine (C1.out _).mono ?_
 rintro e W1 ⟨pa_1, ca_1, sa_1, da_1, rfl, r1_0, r1_1, hb⟩
 have HB1 := Lib.hid (HB0.out.trans (hb.mono HB0.out.size))
 have RA := Lib.hid r1_0
 have TA := Lib.hid r1_1
 clear hb r1_0 r1_1
 go_upto_region 2 with fail
 refine wp_boxes W1 [(#[.bool (zneg (n1)), .slice pa_1 (zlen (n1)) ca_1, .slice sa_1 (nlen (en1)) da_1], 55)] rfl ?_
 have L1 := HB1.out.size
 rintro W2 ⟨k1, hb⟩
 have hb : Below W1.heap.size W1 W2 := hb
 have HB2 := Lib.hid (HB1.out.trans (hb.mono HB1.out.size))
 have K1 := Lib.hid k1
 clear k1 hb
 go_wp2
 exact bodyPost_ret (v := .bool b) (by simp [results, Tryz.results14, go_sem]) rfl ⟨rfl, HB2.out⟩
set_option maxRecDepth 100000 in
set_option maxHeartbeats 4000000 in
theorem rparts_yes (x1 x0 y0 : ByteArray) (sl : Bool)  (w : World) (h1 : ∀ W, Calls Tryz.prog 14 #[.string x1] W fun e w' => e = .returned (.bool true) ∧ Below W.heap.size W w') (h2 : ∀ W, Calls Tryz.prog 43 #[.string x1] W fun e w' => e = .returned (.tuple #[.string x0, .string y0, .bool sl]) ∧ Below W.heap.size W w')  :
 Calls Tryz.prog 12 #[.string x1] w fun e w' => e = .returned (.tuple #[.string x0, .string y0, .int .i64 0]) ∧ Below w.heap.size w w' := by
 have C1 := Lib.hid h1
 have C2 := Lib.hid h2
 clear h1 h2
 go_enter Tryz.func12, Tryz.ntmps12
 have HB0 := Lib.hid (Below.refl w.heap.size w)
 go_wp2_with fail
 with_reducible refine (C1.out _).mono ?_
 rintro e W1 ⟨rfl, hb⟩
 have HB1 := Lib.hid (HB0.out.trans (hb.mono HB0.out.size))
 clear hb
 go_wp2_with fail
 with_reducible refine (C2.out _).mono ?_
 rintro e W2 ⟨rfl, hb⟩
 have HB2 := Lib.hid (HB1.out.trans (hb.mono HB1.out.size))
 clear hb
 go_wp2
 exact bodyPost_ret (v := .tuple #[.string x0, .string y0, .int .i64 0]) (by simp [results, Tryz.results12, go_sem]) rfl ⟨rfl, HB2.out⟩
set_option maxRecDepth 100000 in
set_option maxHeartbeats 4000000 in
theorem rparts_no (x1 : ByteArray)  (w : World) (h1 : ∀ W, Calls Tryz.prog 14 #[.string x1] W fun e w' => e = .returned (.bool false) ∧ Below W.heap.size W w')  :
 Calls Tryz.prog 12 #[.string x1] w fun e w' => e = .returned (.tuple #[.string ⟨#[]⟩, .string ⟨#[]⟩, .int .i64 1]) ∧ Below w.heap.size w w' := by
 have C1 := Lib.hid h1
 clear h1
 go_enter Tryz.func12, Tryz.ntmps12
 have HB0 := Lib.hid (Below.refl w.heap.size w)
 go_wp2_with fail
 with_reducible refine (C1.out _).mono ?_
 rintro e W1 ⟨rfl, hb⟩
 have HB1 := Lib.hid (HB0.out.trans (hb.mono HB0.out.size))
 clear hb
 go_wp2
 exact bodyPost_ret (v := .tuple #[.string ⟨#[]⟩, .string ⟨#[]⟩, .int .i64 1]) (by simp [results, Tryz.results12, go_sem]) rfl ⟨rfl, HB1.out⟩
set_option maxRecDepth 100000 in
set_option maxHeartbeats 4000000 in
theorem whole_raw (n m q r : Int) (en : Nat) (p1 : Option Addr) (c1 : Nat) (s1 : Option Addr) (d1 : Nat) (w : World) (h1 : ∀ s2 d2 W, RN W (.slice s2 (nlen en) d2) en → Calls Tryz.prog 41 #[.bool false, .slice s2 (nlen en) d2] W fun e w' => ∃ p c, e = .returned (.agg #[.bool (zneg m), .slice p (zlen m) c]) ∧ RN w' (.slice p (zlen m) c) m.natAbs ∧ Below W.heap.size W w') (h2 : ∀ p1 c1 p2 c2 W, RN W (.slice p1 (zlen n) c1) n.natAbs → RN W (.slice p2 (zlen m) c2) m.natAbs → Calls Tryz.prog 106 #[.agg #[.bool (zneg n), .slice p1 (zlen n) c1], .agg #[.bool (zneg m), .slice p2 (zlen m) c2]] W fun e w' => ∃ p c p' c', e = .returned (.tuple #[.agg #[.bool (zneg q), .slice p (zlen q) c], .agg #[.bool (zneg r), .slice p' (zlen r) c']]) ∧ RN w' (.slice p (zlen q) c) q.natAbs ∧ RN w' (.slice p' (zlen r) c') r.natAbs ∧ Below W.heap.size W w') (r1 : RN w (.slice p1 (zlen n) c1) n.natAbs) (t1 : RN w (.slice s1 (nlen en) d1) en) :
 Calls Tryz.prog 57 #[.agg #[.bool (zneg n), .slice p1 (zlen n) c1, .slice s1 (nlen en) d1]] w fun e w' => ∃ p c, e = .returned (.agg #[.bool (zneg q), .slice p (zlen q) c]) ∧ RN w' (.slice p (zlen q) c) q.natAbs ∧ Below w.heap.size w w' := by
 have C1 := Lib.hid h1
 have C2 := Lib.hid h2
 have R1 := Lib.hid r1
 have T1 := Lib.hid t1
 clear h1 h2 r1 t1
 go_enter Tryz.func57, Tryz.ntmps57
 go_upto_region 1 with fail
 refine wp_boxes w [(#[.bool (zneg n), .slice p1 (zlen n) c1, .slice s1 (nlen en) d1], 55), (#[.bool false, .slice none 0 0], 50)] rfl ?_
 rintro W0 ⟨k1, k2, hb⟩
 have HB0 := Lib.hid (show Below w.heap.size w W0 from hb)
 have R1 := Lib.hid (R1.out.below HB0.out)
 have T1 := Lib.hid (T1.out.below HB0.out)
 have K1 := Lib.hid k1
 have K2 := Lib.hid k2
 clear k1 k2 hb
 go_wp2_with fail
 have L1 := K1.out.lt
 have L2 := K2.out.lt
 have L3 := HB0.out.size
 refine wp_region_post (fun a0 a' V => ∃ pw1_4 cw1_4 paw1_5 caw1_5 pbw1_5 cbw1_5 paw1_6 caw1_6 pbw1_6 cbw1_6 pw1_7 cw1_7 pw1_8 cw1_8 gw1_9 gw1_10, a' = ⟨putL [(6, .pointer (some ⟨w.heap.size, 0, none⟩)), (7, .agg #[.bool (zneg n), .slice p1 (zlen n) c1]), (8, .pointer (some ⟨w.heap.size, 2, none⟩)), (9, .slice s1 (nlen en) d1), (10, .agg #[.bool (zneg m), .slice pw1_4 (zlen m) cw1_4]), (11, .tuple #[.agg #[.bool (zneg q), .slice paw1_5 (zlen q) caw1_5], .agg #[.bool (zneg r), .slice pbw1_5 (zlen r) cbw1_5]]), (5, .tuple #[.agg #[.bool (zneg q), .slice paw1_6 (zlen q) caw1_6], .agg #[.bool (zneg r), .slice pbw1_6 (zlen r) cbw1_6]]), (12, .agg #[.bool (zneg q), .slice pw1_7 (zlen q) cw1_7]), (13, .agg #[.bool (zneg r), .slice pw1_8 (zlen r) cw1_8]), (3, .pointer (some ⟨gw1_9, 0, none⟩)), (4, .pointer (some ⟨gw1_10, 0, none⟩))] a0.tmps, a0.defers⟩ ∧ Below w.heap.size w V ∧ SBk V (w.heap.size) #[.bool (zneg n), .slice p1 (zlen n) c1, .slice s1 (nlen en) d1] 55 ∧ SBk V (w.heap.size + 1) #[.bool false, .slice none 0 0] 50 ∧ SBk V (gw1_9) #[.bool (zneg q), .slice pw1_7 (zlen q) cw1_7] 50 ∧ SBk V (gw1_10) #[.bool (zneg r), .slice pw1_8 (zlen r) cw1_8] 50 ∧ RN V (.slice p1 (zlen n) c1) n.natAbs ∧ RN V (.slice s1 (nlen en) d1) en ∧ RN V (.slice pw1_4 (zlen m) cw1_4) m.natAbs ∧ RN V (.slice pw1_7 (zlen q) cw1_7) q.natAbs ∧ RN V (.slice pw1_8 (zlen r) cw1_8) r.natAbs ∧ W0.heap.size ≤ gw1_9 ∧ W0.heap.size ≤ gw1_10 ∧ gw1_9 ≠ gw1_10) ?_ ?_
 · refine wp_region_swap (by kernel_rfl) 11 1 8 (fun i => [6, 7, 8, 9, 10, 11, 5, 12, 13, 3, 4].getD i 0) (RelR [Rel.val (.pointer (some ⟨w.heap.size, 0, none⟩)), Rel.val (.agg #[.bool (zneg n), .slice p1 (zlen n) c1]), Rel.val (.pointer (some ⟨w.heap.size, 2, none⟩)), Rel.val (.slice s1 (nlen en) d1), Rel.int m, Rel.int2 q r, Rel.int2 q r, Rel.int q, Rel.int r, Rel.ptr W0.heap.size (.cells #[.bool false, .slice none 0 0] 50), Rel.ptr W0.heap.size (.cells #[.bool false, .slice none 0 0] 50)]) (fun W => Below W0.heap.size W0 W) (Dst 9 10 (fun i => [6, 7, 8, 9, 10, 11, 5, 12, 13, 3, 4].getD i 0)) (by decide) (by decide) (by kernel_rfl) (by kernel_rfl) (by kernel_rfl) (by kernel_rfl) Dst.start (Below.refl _ _).drew ?_ ?_ ?_
   · intro listed a W i hI hD hrd him
     have HI := Lib.hid hI
     have HD := Lib.hid hD
     have Hi := fun (j : Nat) (h : i = j) => (Lib.hid (h ▸ hrd) : Hid (j ∈ _))
     clear hI hrd hD
     match i, him with
     | 0, _ =>
       have Hi := Hi 0 rfl
       have y1 : a.tmps[1]? = some (.pointer (some ⟨w.heap.size, 0, none⟩)) := HI.out.rest 1 (by decide)
       refine wpOp_step rfl (fun K' hK => ?_)
       have hK := Lib.hid hK
       go_simp
       exact hK.out _ _ ⟨HI.out.put Hi.out (by decide) rfl (by simp) (by decide) (rfl) (fun j u h => h) (HI.out.world), HD.out.put (by decide) (by decide) rfl (by decide) (by decide)⟩
     | 1, _ =>
       have Hi := Hi 1 rfl
       have x0 : a.tmps[6]? = some (.pointer (some ⟨w.heap.size, 0, none⟩)) := by
        obtain ⟨v', y', e'⟩ := HI.out.at (i := 0) Hi.out (by kernel_rfl) (by decide)
        obtain rfl : v' = .pointer (some ⟨w.heap.size, 0, none⟩) := e'
        exact y'
       have dK10 := (K1.out.below HI.out.world).cell (i := 0) rfl
       have dK11 := (K1.out.below HI.out.world).cell (i := 1) rfl
       refine wpOp_step rfl (fun K' hK => ?_)
       have hK := Lib.hid hK
       go_simp
       exact hK.out _ _ ⟨HI.out.put Hi.out (by decide) rfl (by simp) (by decide) (rfl) (fun j u h => h) (HI.out.world), HD.out.put (by decide) (by decide) rfl (by decide) (by decide)⟩
     | 2, _ =>
       have Hi := Hi 2 rfl
       have y1 : a.tmps[1]? = some (.pointer (some ⟨w.heap.size, 0, none⟩)) := HI.out.rest 1 (by decide)
       refine wpOp_step rfl (fun K' hK => ?_)
       have hK := Lib.hid hK
       go_simp
       exact hK.out _ _ ⟨HI.out.put Hi.out (by decide) rfl (by simp) (by decide) (rfl) (fun j u h => h) (HI.out.world), HD.out.put (by decide) (by decide) rfl (by decide) (by decide)⟩
     | 3, _ =>
       have Hi := Hi 3 rfl
       have x2 : a.tmps[8]? = some (.pointer (some ⟨w.heap.size, 2, none⟩)) := by
        obtain ⟨v', y', e'⟩ := HI.out.at (i := 2) Hi.out (by kernel_rfl) (by decide)
        obtain rfl : v' = .pointer (some ⟨w.heap.size, 2, none⟩) := e'
        exact y'
       have dK12 := (K1.out.below HI.out.world).cell (i := 2) rfl
       refine wpOp_step rfl (fun K' hK => ?_)
       have hK := Lib.hid hK
       go_simp
       exact hK.out _ _ ⟨HI.out.put Hi.out (by decide) rfl (by simp) (by decide) (rfl) (fun j u h => h) (HI.out.world), HD.out.put (by decide) (by decide) rfl (by decide) (by decide)⟩
     | 4, _ =>
       have Hi := Hi 4 rfl
       have x3 : a.tmps[9]? = some (.slice s1 (nlen en) d1) := by
        obtain ⟨v', y', e'⟩ := HI.out.at (i := 3) Hi.out (by kernel_rfl) (by decide)
        obtain rfl : v' = .slice s1 (nlen en) d1 := e'
        exact y'
       refine wpOp_step rfl (fun K' hK => ?_)
       have hK := Lib.hid hK
       go_simp
       with_reducible refine (C1.out _ _ _ (T1.out.below HI.out.world)).mono ?_
       rintro e W' ⟨pw1_4, cw1_4, rfl, rrw1_4, hb⟩
       exact hK.out _ _ ⟨HI.out.put Hi.out (by decide) rfl (by simp) (by decide) (⟨pw1_4, cw1_4, rfl, rrw1_4⟩) (fun j u h => RelR.mono hb j u h) (HI.out.world.trans (hb.mono HI.out.world.size)), HD.out.put (by decide) (by decide) rfl (by decide) (by decide)⟩
     | 5, _ =>
       have Hi := Hi 5 rfl
       have x1 : a.tmps[7]? = some (.agg #[.bool (zneg n), .slice p1 (zlen n) c1]) := by
        obtain ⟨v', y', e'⟩ := HI.out.at (i := 1) Hi.out (by kernel_rfl) (by decide)
        obtain rfl : v' = .agg #[.bool (zneg n), .slice p1 (zlen n) c1] := e'
        exact y'
       obtain ⟨v', x4, pw1_4, cw1_4, e, rrw1_4⟩ := HI.out.at (i := 4) Hi.out (by kernel_rfl) (by decide)
       obtain rfl := e
       have x4 : a.tmps[10]? = some (.agg #[.bool (zneg m), .slice pw1_4 (zlen m) cw1_4]) := x4
       have RRW1_4 := Lib.hid rrw1_4
       clear rrw1_4
       refine wpOp_step rfl (fun K' hK => ?_)
       have hK := Lib.hid hK
       go_simp
       with_reducible refine (C2.out _ _ _ _ _ (R1.out.below HI.out.world) RRW1_4.out).mono ?_
       rintro e W' ⟨paw1_5, caw1_5, pbw1_5, cbw1_5, rfl, rrw1_5, rrw1_5_1, hb⟩
       exact hK.out _ _ ⟨HI.out.put Hi.out (by decide) rfl (by simp) (by decide) (⟨paw1_5, caw1_5, pbw1_5, cbw1_5, rfl, rrw1_5, rrw1_5_1⟩) (fun j u h => RelR.mono hb j u h) (HI.out.world.trans (hb.mono HI.out.world.size)), HD.out.put (by decide) (by decide) rfl (by decide) (by decide)⟩
     | 6, _ =>
       have Hi := Hi 6 rfl
       obtain ⟨v', x5, paw1_5, caw1_5, pbw1_5, cbw1_5, e, rrw1_5, rrw1_5_1⟩ := HI.out.at (i := 5) Hi.out (by kernel_rfl) (by decide)
       obtain rfl := e
       have x5 : a.tmps[11]? = some (.tuple #[.agg #[.bool (zneg q), .slice paw1_5 (zlen q) caw1_5], .agg #[.bool (zneg r), .slice pbw1_5 (zlen r) cbw1_5]]) := x5
       have RRW1_5 := Lib.hid rrw1_5
       clear rrw1_5
       have RRW1_5_1 := Lib.hid rrw1_5_1
       clear rrw1_5_1
       refine wpOp_step rfl (fun K' hK => ?_)
       have hK := Lib.hid hK
       go_simp
       exact hK.out _ _ ⟨HI.out.put Hi.out (by decide) rfl (by simp) (by decide) (⟨paw1_5, caw1_5, pbw1_5, cbw1_5, rfl, RRW1_5.out, RRW1_5_1.out⟩) (fun j u h => h) (HI.out.world), HD.out.put (by decide) (by decide) rfl (by decide) (by decide)⟩
     | 7, _ =>
       have Hi := Hi 7 rfl
       obtain ⟨v', x6, paw1_6, caw1_6, pbw1_6, cbw1_6, e, rrw1_6, rrw1_6_1⟩ := HI.out.at (i := 6) Hi.out (by kernel_rfl) (by decide)
       obtain rfl := e
       have x6 : a.tmps[5]? = some (.tuple #[.agg #[.bool (zneg q), .slice paw1_6 (zlen q) caw1_6], .agg #[.bool (zneg r), .slice pbw1_6 (zlen r) cbw1_6]]) := x6
       have RRW1_6 := Lib.hid rrw1_6
       clear rrw1_6
       have RRW1_6_1 := Lib.hid rrw1_6_1
       clear rrw1_6_1
       refine wpOp_step rfl (fun K' hK => ?_)
       have hK := Lib.hid hK
       go_simp
       exact hK.out _ _ ⟨HI.out.put Hi.out (by decide) rfl (by simp) (by decide) (⟨paw1_6, caw1_6, rfl, RRW1_6.out⟩) (fun j u h => h) (HI.out.world), HD.out.put (by decide) (by decide) rfl (by decide) (by decide)⟩
     | 8, _ =>
       have Hi := Hi 8 rfl
       obtain ⟨v', x6, paw1_6, caw1_6, pbw1_6, cbw1_6, e, rrw1_6, rrw1_6_1⟩ := HI.out.at (i := 6) Hi.out (by kernel_rfl) (by decide)
       obtain rfl := e
       have x6 : a.tmps[5]? = some (.tuple #[.agg #[.bool (zneg q), .slice paw1_6 (zlen q) caw1_6], .agg #[.bool (zneg r), .slice pbw1_6 (zlen r) cbw1_6]]) := x6
       have RRW1_6 := Lib.hid rrw1_6
       clear rrw1_6
       have RRW1_6_1 := Lib.hid rrw1_6_1
       clear rrw1_6_1
       refine wpOp_step rfl (fun K' hK => ?_)
       have hK := Lib.hid hK
       go_simp
       exact hK.out _ _ ⟨HI.out.put Hi.out (by decide) rfl (by simp) (by decide) (⟨pbw1_6, cbw1_6, rfl, RRW1_6_1.out⟩) (fun j u h => h) (HI.out.world), HD.out.put (by decide) (by decide) rfl (by decide) (by decide)⟩
     | 9, _ =>
       have Hi := Hi 9 rfl
       refine wpOp_step rfl (fun K' hK => ?_)
       have hK := Lib.hid hK
       go_simp
       have hb := (Below.refl W.heap.size W).alloc (Nat.le_refl _) (.cells #[.bool false, .slice none 0 0] 50)
       exact hK.out _ _ ⟨HI.out.put Hi.out (by decide) rfl (by simp) (by decide) (⟨W.heap.size, rfl, HI.out.world.size, SBk.new _ _ _⟩) (fun j u h => RelR.mono hb j u h) (HI.out.world.trans (hb.mono HI.out.world.size)), Dst.left (by decide) rfl (by decide) (by rw [HI.out.tsize]; simp) (HI.out.fresh (i := 10) (by decide) (fun _ _ h => h))⟩
     | 10, _ =>
       have Hi := Hi 10 rfl
       refine wpOp_step rfl (fun K' hK => ?_)
       have hK := Lib.hid hK
       go_simp
       have hb := (Below.refl W.heap.size W).alloc (Nat.le_refl _) (.cells #[.bool false, .slice none 0 0] 50)
       exact hK.out _ _ ⟨HI.out.put Hi.out (by decide) rfl (by simp) (by decide) (⟨W.heap.size, rfl, HI.out.world.size, SBk.new _ _ _⟩) (fun j u h => RelR.mono hb j u h) (HI.out.world.trans (hb.mono HI.out.world.size)), Dst.right (by decide) rfl (by decide) (by rw [HI.out.tsize]; simp) (HI.out.fresh (i := 9) (by decide) (fun _ _ h => h))⟩
     | n + 11, h => exact absurd h (by omega)
   · intro listed a W hI hD hall
     obtain ⟨v0, x0, e0⟩ := hI.slots 0 (by decide) (hall 0 (by decide))
     obtain rfl : v0 = .pointer (some ⟨w.heap.size, 0, none⟩) := e0
     have x0 : a.tmps[6]? = some (.pointer (some ⟨w.heap.size, 0, none⟩)) := x0
     obtain ⟨v1, x1, e1⟩ := hI.slots 1 (by decide) (hall 1 (by decide))
     obtain rfl : v1 = .agg #[.bool (zneg n), .slice p1 (zlen n) c1] := e1
     have x1 : a.tmps[7]? = some (.agg #[.bool (zneg n), .slice p1 (zlen n) c1]) := x1
     obtain ⟨v2, x2, e2⟩ := hI.slots 2 (by decide) (hall 2 (by decide))
     obtain rfl : v2 = .pointer (some ⟨w.heap.size, 2, none⟩) := e2
     have x2 : a.tmps[8]? = some (.pointer (some ⟨w.heap.size, 2, none⟩)) := x2
     obtain ⟨v3, x3, e3⟩ := hI.slots 3 (by decide) (hall 3 (by decide))
     obtain rfl : v3 = .slice s1 (nlen en) d1 := e3
     have x3 : a.tmps[9]? = some (.slice s1 (nlen en) d1) := x3
     obtain ⟨v4, x4, pw1_4, cw1_4, e4, rrw1_4⟩ := hI.slots 4 (by decide) (hall 4 (by decide))
     obtain rfl := e4
     have RRW1_4 := Lib.hid rrw1_4
     clear rrw1_4
     have x4 : a.tmps[10]? = some (.agg #[.bool (zneg m), .slice pw1_4 (zlen m) cw1_4]) := x4
     obtain ⟨v5, x5, paw1_5, caw1_5, pbw1_5, cbw1_5, e5, rrw1_5, rrw1_5_1⟩ := hI.slots 5 (by decide) (hall 5 (by decide))
     obtain rfl := e5
     have RRW1_5 := Lib.hid rrw1_5
     clear rrw1_5
     have RRW1_5_1 := Lib.hid rrw1_5_1
     clear rrw1_5_1
     have x5 : a.tmps[11]? = some (.tuple #[.agg #[.bool (zneg q), .slice paw1_5 (zlen q) caw1_5], .agg #[.bool (zneg r), .slice pbw1_5 (zlen r) cbw1_5]]) := x5
     obtain ⟨v6, x6, paw1_6, caw1_6, pbw1_6, cbw1_6, e6, rrw1_6, rrw1_6_1⟩ := hI.slots 6 (by decide) (hall 6 (by decide))
     obtain rfl := e6
     have RRW1_6 := Lib.hid rrw1_6
     clear rrw1_6
     have RRW1_6_1 := Lib.hid rrw1_6_1
     clear rrw1_6_1
     have x6 : a.tmps[5]? = some (.tuple #[.agg #[.bool (zneg q), .slice paw1_6 (zlen q) caw1_6], .agg #[.bool (zneg r), .slice pbw1_6 (zlen r) cbw1_6]]) := x6
     obtain ⟨v7, x7, pw1_7, cw1_7, e7, rrw1_7⟩ := hI.slots 7 (by decide) (hall 7 (by decide))
     obtain rfl := e7
     have RRW1_7 := Lib.hid rrw1_7
     clear rrw1_7
     have x7 : a.tmps[12]? = some (.agg #[.bool (zneg q), .slice pw1_7 (zlen q) cw1_7]) := x7
     obtain ⟨v8, x8, pw1_8, cw1_8, e8, rrw1_8⟩ := hI.slots 8 (by decide) (hall 8 (by decide))
     obtain rfl := e8
     have RRW1_8 := Lib.hid rrw1_8
     clear rrw1_8
     have x8 : a.tmps[13]? = some (.agg #[.bool (zneg r), .slice pw1_8 (zlen r) cw1_8]) := x8
     obtain ⟨v9, x9, gw1_9, e9, rrw1_9, rrw1_9_1⟩ := hI.slots 9 (by decide) (hall 9 (by decide))
     obtain rfl := e9
     have RRW1_9 := Lib.hid rrw1_9
     clear rrw1_9
     have RRW1_9_1 := Lib.hid rrw1_9_1
     clear rrw1_9_1
     have x9 : a.tmps[3]? = some (.pointer (some ⟨gw1_9, 0, none⟩)) := x9
     obtain ⟨v10, x10, gw1_10, e10, rrw1_10, rrw1_10_1⟩ := hI.slots 10 (by decide) (hall 10 (by decide))
     obtain rfl := e10
     have RRW1_10 := Lib.hid rrw1_10
     clear rrw1_10
     have RRW1_10_1 := Lib.hid rrw1_10_1
     clear rrw1_10_1
     have x10 : a.tmps[4]? = some (.pointer (some ⟨gw1_10, 0, none⟩)) := x10
     have hD := hD (hall 9 (by decide)) (hall 10 (by decide))
     have hne : gw1_9 ≠ gw1_10 := by
        intro e
        apply hD
        show a.tmps[3]? = a.tmps[4]?
        rw [x9, x10, e]
     have HNE := Lib.hid hne
     clear hne hD
     have ea := hI.fin [(6, .pointer (some ⟨w.heap.size, 0, none⟩)), (7, .agg #[.bool (zneg n), .slice p1 (zlen n) c1]), (8, .pointer (some ⟨w.heap.size, 2, none⟩)), (9, .slice s1 (nlen en) d1), (10, .agg #[.bool (zneg m), .slice pw1_4 (zlen m) cw1_4]), (11, .tuple #[.agg #[.bool (zneg q), .slice paw1_5 (zlen q) caw1_5], .agg #[.bool (zneg r), .slice pbw1_5 (zlen r) cbw1_5]]), (5, .tuple #[.agg #[.bool (zneg q), .slice paw1_6 (zlen q) caw1_6], .agg #[.bool (zneg r), .slice pbw1_6 (zlen r) cbw1_6]]), (12, .agg #[.bool (zneg q), .slice pw1_7 (zlen q) cw1_7]), (13, .agg #[.bool (zneg r), .slice pw1_8 (zlen r) cw1_8]), (3, .pointer (some ⟨gw1_9, 0, none⟩)), (4, .pointer (some ⟨gw1_10, 0, none⟩))] (by
        intro p hp
        simp only [List.mem_cons, List.not_mem_nil, or_false] at hp
        rcases hp with rfl | rfl | rfl | rfl | rfl | rfl | rfl | rfl | rfl | rfl | rfl
        · exact x0
        · exact x1
        · exact x2
        · exact x3
        · exact x4
        · exact x5
        · exact x6
        · exact x7
        · exact x8
        · exact x9
        · exact x10) (by
        intro d hd i him h
        match i, him with
        | 0, _ => exact hd _ (ix 0 rfl) h
        | 1, _ => exact hd _ (ix 1 rfl) h
        | 2, _ => exact hd _ (ix 2 rfl) h
        | 3, _ => exact hd _ (ix 3 rfl) h
        | 4, _ => exact hd _ (ix 4 rfl) h
        | 5, _ => exact hd _ (ix 5 rfl) h
        | 6, _ => exact hd _ (ix 6 rfl) h
        | 7, _ => exact hd _ (ix 7 rfl) h
        | 8, _ => exact hd _ (ix 8 rfl) h
        | 9, _ => exact hd _ (ix 9 rfl) h
        | 10, _ => exact hd _ (ix 10 rfl) h
        | n + 11, h => omega)
     have EA := Lib.hid ea
     have HBW := Lib.hid hI.world
     have HI := Lib.hid hI
     clear ea hI hall
     have K1 := Lib.hid (K1.out.below HBW.out)
     have K2 := Lib.hid (K2.out.below HBW.out)
     have R1 := Lib.hid (R1.out.below HBW.out)
     have T1 := Lib.hid (T1.out.below HBW.out)
     have HBX := Lib.hid (HB0.out.trans (HBW.out.mono HB0.out.size))
     have RM := RRW1_4
     have RQ := RRW1_7
     have RR := RRW1_8
     have K3 : Hid (SBk W gw1_9 #[.bool false, .slice none 0 0] 50) := RRW1_9_1
     have K4 : Hid (SBk W gw1_10 #[.bool false, .slice none 0 0] 50) := RRW1_10_1
     have dK30 := K3.out.cell (i := 0) rfl
     have fK30 := K3.out.frozen (i := 0)
     have dK31 := K3.out.cell (i := 1) rfl
     have fK31 := K3.out.frozen (i := 1)
     have dK40 := K4.out.cell (i := 0) rfl
     have fK40 := K4.out.frozen (i := 0)
     have dK41 := K4.out.cell (i := 1) rfl
     have fK41 := K4.out.frozen (i := 1)
     have ddK40 : ((W.setCell ⟨gw1_9, 0, none⟩ (.bool (zneg q))).setCell ⟨gw1_9, 1, none⟩ (.slice pw1_7 (zlen q) cw1_7)).cell? ⟨gw1_10, 0, none⟩ = some (.bool false) := ((store_off (by have := RRW1_9.out; have := RRW1_10.out; have := HNE.out; omega) (l := [.bool (zneg q), .slice pw1_7 (zlen q) cw1_7]) (i := 0) K4.out)).cell (i := 0) rfl
     have ddK41 : ((W.setCell ⟨gw1_9, 0, none⟩ (.bool (zneg q))).setCell ⟨gw1_9, 1, none⟩ (.slice pw1_7 (zlen q) cw1_7)).cell? ⟨gw1_10, 1, none⟩ = some (.slice none 0 0) := ((store_off (by have := RRW1_9.out; have := RRW1_10.out; have := HNE.out; omega) (l := [.bool (zneg q), .slice pw1_7 (zlen q) cw1_7]) (i := 0) K4.out)).cell (i := 1) rfl
     refine tail_succ (t := 1) ?_
     refine wpOp_step rfl (fun K' hK => ?_)
     have hK := Lib.hid hK
     go_simp
     refine hK.out _ _ ?_
     clear hK
     refine tail_succ (t := 0) ?_
     refine wpOp_step rfl (fun K' hK => ?_)
     have hK := Lib.hid hK
     go_simp
     refine hK.out _ _ ?_
     clear hK
     refine tail_nil ?_
     have s0 : ∀ {v' : Value} {n' : Nat}, RN W v' n' → RN (storeAll W (gw1_9) 0 [.bool (zneg q), .slice pw1_7 (zlen q) cw1_7]) v' n' := fun h' => store_rn _ h' K3.out (by simp [noInt]) (by simp [plainV])
     have o0 : ∀ {g' : Nat} {cs' : Array Value} {T' : TypeId}, g' ≠ gw1_9 → SBk W g' cs' T' → SBk (storeAll W (gw1_9) 0 [.bool (zneg q), .slice pw1_7 (zlen q) cw1_7]) g' cs' T' := fun hg' h' => store_off hg' _ 0 h'
     have s1 : ∀ {v' : Value} {n' : Nat}, RN (storeAll W (gw1_9) 0 [.bool (zneg q), .slice pw1_7 (zlen q) cw1_7]) v' n' → RN (storeAll (storeAll W (gw1_9) 0 [.bool (zneg q), .slice pw1_7 (zlen q) cw1_7]) (gw1_10) 0 [.bool (zneg r), .slice pw1_8 (zlen r) cw1_8]) v' n' := fun h' => store_rn _ h' (o0 (by have := RRW1_9.out; have := RRW1_10.out; have := HNE.out; omega) K4.out) (by simp [noInt]) (by simp [plainV])
     have o1 : ∀ {g' : Nat} {cs' : Array Value} {T' : TypeId}, g' ≠ gw1_10 → SBk (storeAll W (gw1_9) 0 [.bool (zneg q), .slice pw1_7 (zlen q) cw1_7]) g' cs' T' → SBk (storeAll (storeAll W (gw1_9) 0 [.bool (zneg q), .slice pw1_7 (zlen q) cw1_7]) (gw1_10) 0 [.bool (zneg r), .slice pw1_8 (zlen r) cw1_8]) g' cs' T' := fun hg' h' => store_off hg' _ 0 h'
     exact ⟨rfl, pw1_4, cw1_4, paw1_5, caw1_5, pbw1_5, cbw1_5, paw1_6, caw1_6, pbw1_6, cbw1_6, pw1_7, cw1_7, pw1_8, cw1_8, gw1_9, gw1_10, EA.out, (store_below (l := [.bool (zneg r), .slice pw1_8 (zlen r) cw1_8]) (i := 0) (by have := RRW1_9.out; have := RRW1_10.out; have := HNE.out; omega) (store_below (l := [.bool (zneg q), .slice pw1_7 (zlen q) cw1_7]) (i := 0) (by have := RRW1_9.out; have := RRW1_10.out; have := HNE.out; omega) HBX.out)), (o1 (by have := RRW1_9.out; have := RRW1_10.out; have := HNE.out; omega) (o0 (by have := RRW1_9.out; have := RRW1_10.out; have := HNE.out; omega) K1.out)), (o1 (by have := RRW1_9.out; have := RRW1_10.out; have := HNE.out; omega) (o0 (by have := RRW1_9.out; have := RRW1_10.out; have := HNE.out; omega) K2.out)), (store_off (by have := RRW1_9.out; have := RRW1_10.out; have := HNE.out; omega) (l := [.bool (zneg r), .slice pw1_8 (zlen r) cw1_8]) (i := 0) (store_blk (l := [.bool (zneg q), .slice pw1_7 (zlen q) cw1_7]) (i := 0) K3.out)), (store_blk (l := [.bool (zneg r), .slice pw1_8 (zlen r) cw1_8]) (i := 0) (store_off (by have := RRW1_9.out; have := RRW1_10.out; have := HNE.out; omega) (l := [.bool (zneg q), .slice pw1_7 (zlen q) cw1_7]) (i := 0) K4.out)), (s1 (s0 R1.out)), (s1 (s0 T1.out)), (s1 (s0 RM.out)), (s1 (s0 RQ.out)), (s1 (s0 RR.out)), RRW1_9.out, RRW1_10.out, HNE.out⟩
   · intro listed a W hI hD hall
     obtain ⟨v0, x0, e0⟩ := hI.slots 0 (by decide) (hall 0 (by decide) (by decide))
     obtain rfl : v0 = .pointer (some ⟨w.heap.size, 0, none⟩) := e0
     have x0 : a.tmps[6]? = some (.pointer (some ⟨w.heap.size, 0, none⟩)) := x0
     obtain ⟨v1, x1, e1⟩ := hI.slots 1 (by decide) (hall 1 (by decide) (by decide))
     obtain rfl : v1 = .agg #[.bool (zneg n), .slice p1 (zlen n) c1] := e1
     have x1 : a.tmps[7]? = some (.agg #[.bool (zneg n), .slice p1 (zlen n) c1]) := x1
     obtain ⟨v2, x2, e2⟩ := hI.slots 2 (by decide) (hall 2 (by decide) (by decide))
     obtain rfl : v2 = .pointer (some ⟨w.heap.size, 2, none⟩) := e2
     have x2 : a.tmps[8]? = some (.pointer (some ⟨w.heap.size, 2, none⟩)) := x2
     obtain ⟨v3, x3, e3⟩ := hI.slots 3 (by decide) (hall 3 (by decide) (by decide))
     obtain rfl : v3 = .slice s1 (nlen en) d1 := e3
     have x3 : a.tmps[9]? = some (.slice s1 (nlen en) d1) := x3
     obtain ⟨v4, x4, pw1_4, cw1_4, e4, rrw1_4⟩ := hI.slots 4 (by decide) (hall 4 (by decide) (by decide))
     obtain rfl := e4
     have RRW1_4 := Lib.hid rrw1_4
     clear rrw1_4
     have x4 : a.tmps[10]? = some (.agg #[.bool (zneg m), .slice pw1_4 (zlen m) cw1_4]) := x4
     obtain ⟨v5, x5, paw1_5, caw1_5, pbw1_5, cbw1_5, e5, rrw1_5, rrw1_5_1⟩ := hI.slots 5 (by decide) (hall 5 (by decide) (by decide))
     obtain rfl := e5
     have RRW1_5 := Lib.hid rrw1_5
     clear rrw1_5
     have RRW1_5_1 := Lib.hid rrw1_5_1
     clear rrw1_5_1
     have x5 : a.tmps[11]? = some (.tuple #[.agg #[.bool (zneg q), .slice paw1_5 (zlen q) caw1_5], .agg #[.bool (zneg r), .slice pbw1_5 (zlen r) cbw1_5]]) := x5
     obtain ⟨v6, x6, paw1_6, caw1_6, pbw1_6, cbw1_6, e6, rrw1_6, rrw1_6_1⟩ := hI.slots 6 (by decide) (hall 6 (by decide) (by decide))
     obtain rfl := e6
     have RRW1_6 := Lib.hid rrw1_6
     clear rrw1_6
     have RRW1_6_1 := Lib.hid rrw1_6_1
     clear rrw1_6_1
     have x6 : a.tmps[5]? = some (.tuple #[.agg #[.bool (zneg q), .slice paw1_6 (zlen q) caw1_6], .agg #[.bool (zneg r), .slice pbw1_6 (zlen r) cbw1_6]]) := x6
     obtain ⟨v7, x7, pw1_7, cw1_7, e7, rrw1_7⟩ := hI.slots 7 (by decide) (hall 7 (by decide) (by decide))
     obtain rfl := e7
     have RRW1_7 := Lib.hid rrw1_7
     clear rrw1_7
     have x7 : a.tmps[12]? = some (.agg #[.bool (zneg q), .slice pw1_7 (zlen q) cw1_7]) := x7
     obtain ⟨v9, x9, gw1_9, e9, rrw1_9, rrw1_9_1⟩ := hI.slots 9 (by decide) (hall 9 (by decide) (by decide))
     obtain rfl := e9
     have RRW1_9 := Lib.hid rrw1_9
     clear rrw1_9
     have RRW1_9_1 := Lib.hid rrw1_9_1
     clear rrw1_9_1
     have x9 : a.tmps[3]? = some (.pointer (some ⟨gw1_9, 0, none⟩)) := x9
     obtain ⟨v10, x10, gw1_10, e10, rrw1_10, rrw1_10_1⟩ := hI.slots 10 (by decide) (hall 10 (by decide) (by decide))
     obtain rfl := e10
     have RRW1_10 := Lib.hid rrw1_10
     clear rrw1_10
     have RRW1_10_1 := Lib.hid rrw1_10_1
     clear rrw1_10_1
     have x10 : a.tmps[4]? = some (.pointer (some ⟨gw1_10, 0, none⟩)) := x10
     have hD := hD (hall 9 (by decide) (by decide)) (hall 10 (by decide) (by decide))
     have hne : gw1_9 ≠ gw1_10 := by
        intro e
        apply hD
        show a.tmps[3]? = a.tmps[4]?
        rw [x9, x10, e]
     have HNE := Lib.hid hne
     clear hne hD
     have HBW := Lib.hid hI.world
     have HI := Lib.hid hI
     clear hI hall
     have K1 := Lib.hid (K1.out.below HBW.out)
     have K2 := Lib.hid (K2.out.below HBW.out)
     have R1 := Lib.hid (R1.out.below HBW.out)
     have T1 := Lib.hid (T1.out.below HBW.out)
     have HBX := Lib.hid (HB0.out.trans (HBW.out.mono HB0.out.size))
     have RM := RRW1_4
     have RQ := RRW1_7
     have RR := RRW1_6_1
     have K3 : Hid (SBk W gw1_9 #[.bool false, .slice none 0 0] 50) := RRW1_9_1
     have K4 : Hid (SBk W gw1_10 #[.bool false, .slice none 0 0] 50) := RRW1_10_1
     have dK30 := K3.out.cell (i := 0) rfl
     have fK30 := K3.out.frozen (i := 0)
     have dK31 := K3.out.cell (i := 1) rfl
     have fK31 := K3.out.frozen (i := 1)
     have dK40 := K4.out.cell (i := 0) rfl
     have fK40 := K4.out.frozen (i := 0)
     have dK41 := K4.out.cell (i := 1) rfl
     have fK41 := K4.out.frozen (i := 1)
     have ddK40 : ((W.setCell ⟨gw1_9, 0, none⟩ (.bool (zneg q))).setCell ⟨gw1_9, 1, none⟩ (.slice pw1_7 (zlen q) cw1_7)).cell? ⟨gw1_10, 0, none⟩ = some (.bool false) := ((store_off (by have := RRW1_9.out; have := RRW1_10.out; have := HNE.out; omega) (l := [.bool (zneg q), .slice pw1_7 (zlen q) cw1_7]) (i := 0) K4.out)).cell (i := 0) rfl
     have ddK41 : ((W.setCell ⟨gw1_9, 0, none⟩ (.bool (zneg q))).setCell ⟨gw1_9, 1, none⟩ (.slice pw1_7 (zlen q) cw1_7)).cell? ⟨gw1_10, 1, none⟩ = some (.slice none 0 0) := ((store_off (by have := RRW1_9.out; have := RRW1_10.out; have := HNE.out; omega) (l := [.bool (zneg q), .slice pw1_7 (zlen q) cw1_7]) (i := 0) K4.out)).cell (i := 1) rfl
     refine wpOp_step rfl (fun K' hK => ?_)
     have hK := Lib.hid hK
     go_simp
     refine hK.out _ _ ?_
     clear hK
     refine wpOp_step rfl (fun K' hK => ?_)
     have hK := Lib.hid hK
     go_simp
     refine hK.out (a.put (some 13) (.agg #[.bool (zneg r), .slice pbw1_6 (zlen r) cbw1_6])) _ ?_
     clear hK
     have z0 : (a.put (some 13) (.agg #[.bool (zneg r), .slice pbw1_6 (zlen r) cbw1_6])).tmps[6]? = some (.pointer (some ⟨w.heap.size, 0, none⟩)) := (put_ne (by decide)).trans x0
     have z1 : (a.put (some 13) (.agg #[.bool (zneg r), .slice pbw1_6 (zlen r) cbw1_6])).tmps[7]? = some (.agg #[.bool (zneg n), .slice p1 (zlen n) c1]) := (put_ne (by decide)).trans x1
     have z2 : (a.put (some 13) (.agg #[.bool (zneg r), .slice pbw1_6 (zlen r) cbw1_6])).tmps[8]? = some (.pointer (some ⟨w.heap.size, 2, none⟩)) := (put_ne (by decide)).trans x2
     have z3 : (a.put (some 13) (.agg #[.bool (zneg r), .slice pbw1_6 (zlen r) cbw1_6])).tmps[9]? = some (.slice s1 (nlen en) d1) := (put_ne (by decide)).trans x3
     have z4 : (a.put (some 13) (.agg #[.bool (zneg r), .slice pbw1_6 (zlen r) cbw1_6])).tmps[10]? = some (.agg #[.bool (zneg m), .slice pw1_4 (zlen m) cw1_4]) := (put_ne (by decide)).trans x4
     have z5 : (a.put (some 13) (.agg #[.bool (zneg r), .slice pbw1_6 (zlen r) cbw1_6])).tmps[11]? = some (.tuple #[.agg #[.bool (zneg q), .slice paw1_5 (zlen q) caw1_5], .agg #[.bool (zneg r), .slice pbw1_5 (zlen r) cbw1_5]]) := (put_ne (by decide)).trans x5
     have z6 : (a.put (some 13) (.agg #[.bool (zneg r), .slice pbw1_6 (zlen r) cbw1_6])).tmps[5]? = some (.tuple #[.agg #[.bool (zneg q), .slice paw1_6 (zlen q) caw1_6], .agg #[.bool (zneg r), .slice pbw1_6 (zlen r) cbw1_6]]) := (put_ne (by decide)).trans x6
     have z7 : (a.put (some 13) (.agg #[.bool (zneg r), .slice pbw1_6 (zlen r) cbw1_6])).tmps[12]? = some (.agg #[.bool (zneg q), .slice pw1_7 (zlen q) cw1_7]) := (put_ne (by decide)).trans x7
     have z9 : (a.put (some 13) (.agg #[.bool (zneg r), .slice pbw1_6 (zlen r) cbw1_6])).tmps[3]? = some (.pointer (some ⟨gw1_9, 0, none⟩)) := (put_ne (by decide)).trans x9
     have z10 : (a.put (some 13) (.agg #[.bool (zneg r), .slice pbw1_6 (zlen r) cbw1_6])).tmps[4]? = some (.pointer (some ⟨gw1_10, 0, none⟩)) := (put_ne (by decide)).trans x10
     have z8 : (a.put (some 13) (.agg #[.bool (zneg r), .slice pbw1_6 (zlen r) cbw1_6])).tmps[13]? = some (.agg #[.bool (zneg r), .slice pbw1_6 (zlen r) cbw1_6]) := put_same (by rw [HI.out.tsize]; simp)
     have ea := HI.out.fin_put (sd := 13) (v := .agg #[.bool (zneg r), .slice pbw1_6 (zlen r) cbw1_6]) [(6, .pointer (some ⟨w.heap.size, 0, none⟩)), (7, .agg #[.bool (zneg n), .slice p1 (zlen n) c1]), (8, .pointer (some ⟨w.heap.size, 2, none⟩)), (9, .slice s1 (nlen en) d1), (10, .agg #[.bool (zneg m), .slice pw1_4 (zlen m) cw1_4]), (11, .tuple #[.agg #[.bool (zneg q), .slice paw1_5 (zlen q) caw1_5], .agg #[.bool (zneg r), .slice pbw1_5 (zlen r) cbw1_5]]), (5, .tuple #[.agg #[.bool (zneg q), .slice paw1_6 (zlen q) caw1_6], .agg #[.bool (zneg r), .slice pbw1_6 (zlen r) cbw1_6]]), (12, .agg #[.bool (zneg q), .slice pw1_7 (zlen q) cw1_7]), (13, .agg #[.bool (zneg r), .slice pbw1_6 (zlen r) cbw1_6]), (3, .pointer (some ⟨gw1_9, 0, none⟩)), (4, .pointer (some ⟨gw1_10, 0, none⟩))] (by
        intro p hp
        simp only [List.mem_cons, List.not_mem_nil, or_false] at hp
        rcases hp with rfl | rfl | rfl | rfl | rfl | rfl | rfl | rfl | rfl | rfl | rfl
        · exact z0
        · exact z1
        · exact z2
        · exact z3
        · exact z4
        · exact z5
        · exact z6
        · exact z7
        · exact z8
        · exact z9
        · exact z10) (by
        intro d hd
        refine ⟨fun i him h => ?_, hd _ (ix 8 rfl)⟩
        match i, him with
        | 0, _ => exact hd _ (ix 0 rfl) h
        | 1, _ => exact hd _ (ix 1 rfl) h
        | 2, _ => exact hd _ (ix 2 rfl) h
        | 3, _ => exact hd _ (ix 3 rfl) h
        | 4, _ => exact hd _ (ix 4 rfl) h
        | 5, _ => exact hd _ (ix 5 rfl) h
        | 6, _ => exact hd _ (ix 6 rfl) h
        | 7, _ => exact hd _ (ix 7 rfl) h
        | 8, _ => exact hd _ (ix 8 rfl) h
        | 9, _ => exact hd _ (ix 9 rfl) h
        | 10, _ => exact hd _ (ix 10 rfl) h
        | n + 11, h => omega)
     have EA := Lib.hid ea
     clear ea x0 x1 x2 x3 x4 x5 x6 x7 x9 x10
     generalize a.put (some 13) (.agg #[.bool (zneg r), .slice pbw1_6 (zlen r) cbw1_6]) = a2 at *
     refine tail_succ (t := 0) ?_
     refine wpOp_step rfl (fun K' hK => ?_)
     have hK := Lib.hid hK
     go_simp
     refine hK.out _ _ ?_
     clear hK
     refine tail_nil ?_
     have s0 : ∀ {v' : Value} {n' : Nat}, RN W v' n' → RN (storeAll W (gw1_9) 0 [.bool (zneg q), .slice pw1_7 (zlen q) cw1_7]) v' n' := fun h' => store_rn _ h' K3.out (by simp [noInt]) (by simp [plainV])
     have o0 : ∀ {g' : Nat} {cs' : Array Value} {T' : TypeId}, g' ≠ gw1_9 → SBk W g' cs' T' → SBk (storeAll W (gw1_9) 0 [.bool (zneg q), .slice pw1_7 (zlen q) cw1_7]) g' cs' T' := fun hg' h' => store_off hg' _ 0 h'
     have s1 : ∀ {v' : Value} {n' : Nat}, RN (storeAll W (gw1_9) 0 [.bool (zneg q), .slice pw1_7 (zlen q) cw1_7]) v' n' → RN (storeAll (storeAll W (gw1_9) 0 [.bool (zneg q), .slice pw1_7 (zlen q) cw1_7]) (gw1_10) 0 [.bool (zneg r), .slice pbw1_6 (zlen r) cbw1_6]) v' n' := fun h' => store_rn _ h' (o0 (by have := RRW1_9.out; have := RRW1_10.out; have := HNE.out; omega) K4.out) (by simp [noInt]) (by simp [plainV])
     have o1 : ∀ {g' : Nat} {cs' : Array Value} {T' : TypeId}, g' ≠ gw1_10 → SBk (storeAll W (gw1_9) 0 [.bool (zneg q), .slice pw1_7 (zlen q) cw1_7]) g' cs' T' → SBk (storeAll (storeAll W (gw1_9) 0 [.bool (zneg q), .slice pw1_7 (zlen q) cw1_7]) (gw1_10) 0 [.bool (zneg r), .slice pbw1_6 (zlen r) cbw1_6]) g' cs' T' := fun hg' h' => store_off hg' _ 0 h'
     exact ⟨rfl, pw1_4, cw1_4, paw1_5, caw1_5, pbw1_5, cbw1_5, paw1_6, caw1_6, pbw1_6, cbw1_6, pw1_7, cw1_7, pbw1_6, cbw1_6, gw1_9, gw1_10, EA.out, (store_below (l := [.bool (zneg r), .slice pbw1_6 (zlen r) cbw1_6]) (i := 0) (by have := RRW1_9.out; have := RRW1_10.out; have := HNE.out; omega) (store_below (l := [.bool (zneg q), .slice pw1_7 (zlen q) cw1_7]) (i := 0) (by have := RRW1_9.out; have := RRW1_10.out; have := HNE.out; omega) HBX.out)), (o1 (by have := RRW1_9.out; have := RRW1_10.out; have := HNE.out; omega) (o0 (by have := RRW1_9.out; have := RRW1_10.out; have := HNE.out; omega) K1.out)), (o1 (by have := RRW1_9.out; have := RRW1_10.out; have := HNE.out; omega) (o0 (by have := RRW1_9.out; have := RRW1_10.out; have := HNE.out; omega) K2.out)), (store_off (by have := RRW1_9.out; have := RRW1_10.out; have := HNE.out; omega) (l := [.bool (zneg r), .slice pbw1_6 (zlen r) cbw1_6]) (i := 0) (store_blk (l := [.bool (zneg q), .slice pw1_7 (zlen q) cw1_7]) (i := 0) K3.out)), (store_blk (l := [.bool (zneg r), .slice pbw1_6 (zlen r) cbw1_6]) (i := 0) (store_off (by have := RRW1_9.out; have := RRW1_10.out; have := HNE.out; omega) (l := [.bool (zneg q), .slice pw1_7 (zlen q) cw1_7]) (i := 0) K4.out)), (s1 (s0 R1.out)), (s1 (s0 T1.out)), (s1 (s0 RM.out)), (s1 (s0 RQ.out)), (s1 (s0 RR.out)), RRW1_9.out, RRW1_10.out, HNE.out⟩
 rintro a' W1 ⟨pw1_4, cw1_4, paw1_5, caw1_5, pbw1_5, cbw1_5, paw1_6, caw1_6, pbw1_6, cbw1_6, pw1_7, cw1_7, pw1_8, cw1_8, gw1_9, gw1_10, rfl, z0, z1, z2, z3, z4, z5, z6, z7, z8, z9, z10, z11, z12⟩
 have HB1 := Lib.hid z0
 have K1 := Lib.hid z1
 have K2 := Lib.hid z2
 have K3 := Lib.hid z3
 have K4 := Lib.hid z4
 have R1 := Lib.hid z5
 have T1 := Lib.hid z6
 have RM := Lib.hid z7
 have RQ := Lib.hid z8
 have RR := Lib.hid z9
 have R9xW1 := z10
 have R10xW1 := z11
 have NEW1 := z12
 clear z0 z1 z2 z3 z4 z5 z6 z7 z8 z9 z10 z11 z12
 simp only [putL, List.setIfInBounds_toArray, List.set_cons_zero, List.set_cons_succ]
 have dK30 := K3.out.cell (i := 0) rfl
 have dK31 := K3.out.cell (i := 1) rfl
 have dK20 := K2.out.cell (i := 0) rfl
 have dK21 := K2.out.cell (i := 1) rfl
 have fK20 := K2.out.frozen (i := 0)
 have fK21 := K2.out.frozen (i := 1)
 go_wp2
 exact bodyPost_ret (v := .agg #[.bool (zneg q), .slice pw1_7 (zlen q) cw1_7]) (by simp [results, Tryz.results57, go_sem, dK20, dK21]) rfl ⟨_, _, rfl, (store_rn [.bool (zneg q), .slice pw1_7 (zlen q) cw1_7] RQ.out K2.out (by simp [noInt]) (by simp [plainV])), (store_below (l := [.bool (zneg q), .slice pw1_7 (zlen q) cw1_7]) (i := 0) (by omega) HB1.out)⟩
set_option maxRecDepth 100000 in
set_option maxHeartbeats 4000000 in
theorem rmake_bad1 (x1 x2 : ByteArray)  (w : World) (h1 : ∀ W, Calls Tryz.prog 36 #[.string x1] W fun e w' => e = .returned (.bool false) ∧ Below W.heap.size W w')  :
 Calls Tryz.prog 10 #[.string x1, .string x2] w fun e w' => e = .returned (.tuple #[.string ⟨#[]⟩, .int .i64 1]) ∧ Below w.heap.size w w' := by
 have C1 := Lib.hid h1
 clear h1
 go_enter Tryz.func10, Tryz.ntmps10
 have HB0 := Lib.hid (Below.refl w.heap.size w)
 go_wp2_with fail
 with_reducible refine (C1.out _).mono ?_
 rintro e W1 ⟨rfl, hb⟩
 have HB1 := Lib.hid (HB0.out.trans (hb.mono HB0.out.size))
 clear hb
 go_wp2
 exact bodyPost_ret (v := .tuple #[.string ⟨#[]⟩, .int .i64 1]) (by simp [results, Tryz.results10, go_sem]) rfl ⟨rfl, HB1.out⟩
set_option maxRecDepth 100000 in
set_option maxHeartbeats 4000000 in
theorem rmake_bad2 (x1 x2 : ByteArray)  (w : World) (h1 : ∀ W, Calls Tryz.prog 36 #[.string x1] W fun e w' => e = .returned (.bool true) ∧ Below W.heap.size W w') (h2 : ∀ W, Calls Tryz.prog 36 #[.string x2] W fun e w' => e = .returned (.bool false) ∧ Below W.heap.size W w')  :
 Calls Tryz.prog 10 #[.string x1, .string x2] w fun e w' => e = .returned (.tuple #[.string ⟨#[]⟩, .int .i64 1]) ∧ Below w.heap.size w w' := by
 have C1 := Lib.hid h1
 have C2 := Lib.hid h2
 clear h1 h2
 go_enter Tryz.func10, Tryz.ntmps10
 have HB0 := Lib.hid (Below.refl w.heap.size w)
 go_wp2_with fail
 with_reducible refine (C1.out _).mono ?_
 rintro e W1 ⟨rfl, hb⟩
 have HB1 := Lib.hid (HB0.out.trans (hb.mono HB0.out.size))
 clear hb
 go_wp2_with fail
 with_reducible refine (C2.out _).mono ?_
 rintro e W2 ⟨rfl, hb⟩
 have HB2 := Lib.hid (HB1.out.trans (hb.mono HB1.out.size))
 clear hb
 go_wp2
 exact bodyPost_ret (v := .tuple #[.string ⟨#[]⟩, .int .i64 1]) (by simp [results, Tryz.results10, go_sem]) rfl ⟨rfl, HB2.out⟩
set_option maxRecDepth 100000 in
set_option maxHeartbeats 4000000 in
theorem rmake_zero (x1 x2 : ByteArray) (z1 z2 : Int)  (w : World) (h1 : ∀ W, Calls Tryz.prog 36 #[.string x1] W fun e w' => e = .returned (.bool true) ∧ Below W.heap.size W w') (h2 : ∀ W, Calls Tryz.prog 36 #[.string x2] W fun e w' => e = .returned (.bool true) ∧ Below W.heap.size W w') (h3 : ∀ W, Calls Tryz.prog 37 #[.string x1] W fun e w' => ∃ p c, e = .returned (.agg #[.bool (zneg z1), .slice p (zlen z1) c]) ∧ RN w' (.slice p (zlen z1) c) z1.natAbs ∧ Below W.heap.size W w') (h4 : ∀ W, Calls Tryz.prog 37 #[.string x2] W fun e w' => ∃ p c, e = .returned (.agg #[.bool (zneg z2), .slice p (zlen z2) c]) ∧ RN w' (.slice p (zlen z2) c) z2.natAbs ∧ Below W.heap.size W w') (h5 : ∀ p1 c1 W, RN W (.slice p1 (zlen z2) c1) z2.natAbs → Calls Tryz.prog 38 #[.agg #[.bool (zneg z2), .slice p1 (zlen z2) c1]] W fun e w' => e = .returned (.int .i64 0) ∧ Below W.heap.size W w')  :
 Calls Tryz.prog 10 #[.string x1, .string x2] w fun e w' => e = .returned (.tuple #[.string ⟨#[]⟩, .int .i64 16]) ∧ Below w.heap.size w w' := by
 have C1 := Lib.hid h1
 have C2 := Lib.hid h2
 have C3 := Lib.hid h3
 have C4 := Lib.hid h4
 have C5 := Lib.hid h5
 clear h1 h2 h3 h4 h5
 go_enter Tryz.func10, Tryz.ntmps10
 have HB0 := Lib.hid (Below.refl w.heap.size w)
 go_wp2_with fail
 with_reducible refine (C1.out _).mono ?_
 rintro e W1 ⟨rfl, hb⟩
 have HB1 := Lib.hid (HB0.out.trans (hb.mono HB0.out.size))
 clear hb
 go_wp2_with fail
 with_reducible refine (C2.out _).mono ?_
 rintro e W2 ⟨rfl, hb⟩
 have HB2 := Lib.hid (HB1.out.trans (hb.mono HB1.out.size))
 clear hb
 go_wp2_with fail
 with_reducible refine (C3.out _).mono ?_
 rintro e W3 ⟨p_3, c_3, rfl, r3_0, hb⟩
 have HB3 := Lib.hid (HB2.out.trans (hb.mono HB2.out.size))
 have RA := Lib.hid r3_0
 clear hb r3_0
 go_wp2_with fail
 with_reducible refine (C4.out _).mono ?_
 rintro e W4 ⟨p_4, c_4, rfl, r4_0, hb⟩
 have HB4 := Lib.hid (HB3.out.trans (hb.mono HB3.out.size))
 have RB := Lib.hid r4_0
 clear hb r4_0
 go_upto_region 4 with fail
 refine wp_boxes W4 [(#[.bool (zneg z1), .slice p_3 (zlen z1) c_3], 50), (#[.bool (zneg z2), .slice p_4 (zlen z2) c_4], 50)] rfl ?_
 have L1 := HB4.out.size
 rintro W5 ⟨k1, k2, hb⟩
 have hb : Below W4.heap.size W4 W5 := hb
 have RB := Lib.hid (RB.out.below hb)
 have HB5 := Lib.hid (HB4.out.trans (hb.mono HB4.out.size))
 have K1 := Lib.hid k1
 have K2 := Lib.hid k2
 clear k1 k2 hb
 have dK20 := K2.out.cell (i := 0) rfl
 have dK21 := K2.out.cell (i := 1) rfl
 go_wp2_with fail
 with_reducible refine (C5.out _ _ _ RB.out).mono ?_
 rintro e W6 ⟨rfl, hb⟩
 clear dK20 dK21
 have HB6 := Lib.hid (HB5.out.trans (hb.mono HB5.out.size))
 clear hb
 go_wp2
 exact bodyPost_ret (v := .tuple #[.string ⟨#[]⟩, .int .i64 16]) (by simp [results, Tryz.results10, go_sem]) rfl ⟨rfl, HB6.out⟩
set_option maxRecDepth 100000 in
set_option maxHeartbeats 4000000 in
theorem rmake_yes (x1 x2 sn : ByteArray) (z1 z2 z n sg : Int) (dn : Nat) (hsg : sg ≠ 0)  (w : World) (h1 : ∀ W, Calls Tryz.prog 36 #[.string x1] W fun e w' => e = .returned (.bool true) ∧ Below W.heap.size W w') (h2 : ∀ W, Calls Tryz.prog 36 #[.string x2] W fun e w' => e = .returned (.bool true) ∧ Below W.heap.size W w') (h3 : ∀ W, Calls Tryz.prog 37 #[.string x1] W fun e w' => ∃ p c, e = .returned (.agg #[.bool (zneg z1), .slice p (zlen z1) c]) ∧ RN w' (.slice p (zlen z1) c) z1.natAbs ∧ Below W.heap.size W w') (h4 : ∀ W, Calls Tryz.prog 37 #[.string x2] W fun e w' => ∃ p c, e = .returned (.agg #[.bool (zneg z2), .slice p (zlen z2) c]) ∧ RN w' (.slice p (zlen z2) c) z2.natAbs ∧ Below W.heap.size W w') (h5 : ∀ p1 c1 W, RN W (.slice p1 (zlen z2) c1) z2.natAbs → Calls Tryz.prog 38 #[.agg #[.bool (zneg z2), .slice p1 (zlen z2) c1]] W fun e w' => e = .returned (.int .i64 sg) ∧ Below W.heap.size W w') (h6 : ∀ p2 c2 W, RN W (.slice p2 (zlen z1) c2) z1.natAbs → Calls Tryz.prog 41 #[.bool (zneg z1 != zneg z2), .slice p2 (zlen z1) c2] W fun e w' => ∃ p c, e = .returned (.agg #[.bool (zneg z), .slice p (zlen z) c]) ∧ RN w' (.slice p (zlen z) c) z.natAbs ∧ Below W.heap.size W w') (h7 : ∀ p1 c1 p2 c2 W, RN W (.slice p1 (zlen z) c1) z.natAbs → RN W (.slice p2 (zlen z2) c2) z2.natAbs → Calls Tryz.prog 40 #[.agg #[.bool (zneg z), .slice p1 (zlen z) c1], .slice p2 (zlen z2) c2] W fun e w' => ∃ p c s d, e = .returned (.agg #[.bool (zneg n), .slice p (zlen n) c, .slice s (nlen dn) d]) ∧ RN w' (.slice p (zlen n) c) n.natAbs ∧ RN w' (.slice s (nlen dn) d) dn ∧ Below W.heap.size W w') (h8 : ∀ p1 c1 s1 d1 W, RN W (.slice p1 (zlen n) c1) n.natAbs → RN W (.slice s1 (nlen dn) d1) dn → Calls Tryz.prog 39 #[.agg #[.bool (zneg n), .slice p1 (zlen n) c1, .slice s1 (nlen dn) d1]] W fun e w' => e = .returned (.string sn) ∧ Below W.heap.size W w')  :
 Calls Tryz.prog 10 #[.string x1, .string x2] w fun e w' => e = .returned (.tuple #[.string sn, .int .i64 0]) ∧ Below w.heap.size w w' := by
 have C1 := Lib.hid h1
 have C2 := Lib.hid h2
 have C3 := Lib.hid h3
 have C4 := Lib.hid h4
 have C5 := Lib.hid h5
 have C6 := Lib.hid h6
 have C7 := Lib.hid h7
 have C8 := Lib.hid h8
 have s0 : (sg == 0) = false := by rw [beq_eq_false_iff_ne]; exact hsg
 have s1 : ¬ sg = 0 := hsg
 clear hsg
 clear h1 h2 h3 h4 h5 h6 h7 h8
 go_enter Tryz.func10, Tryz.ntmps10
 have HB0 := Lib.hid (Below.refl w.heap.size w)
 go_wp2_with fail
 with_reducible refine (C1.out _).mono ?_
 rintro e W1 ⟨rfl, hb⟩
 have HB1 := Lib.hid (HB0.out.trans (hb.mono HB0.out.size))
 clear hb
 go_wp2_with fail
 with_reducible refine (C2.out _).mono ?_
 rintro e W2 ⟨rfl, hb⟩
 have HB2 := Lib.hid (HB1.out.trans (hb.mono HB1.out.size))
 clear hb
 go_wp2_with fail
 with_reducible refine (C3.out _).mono ?_
 rintro e W3 ⟨p_3, c_3, rfl, r3_0, hb⟩
 have HB3 := Lib.hid (HB2.out.trans (hb.mono HB2.out.size))
 have RA := Lib.hid r3_0
 clear hb r3_0
 go_wp2_with fail
 with_reducible refine (C4.out _).mono ?_
 rintro e W4 ⟨p_4, c_4, rfl, r4_0, hb⟩
 have RA := Lib.hid (RA.out.below hb)
 have HB4 := Lib.hid (HB3.out.trans (hb.mono HB3.out.size))
 have RB := Lib.hid r4_0
 clear hb r4_0
 go_upto_region 4 with fail
 refine wp_boxes W4 [(#[.bool (zneg z1), .slice p_3 (zlen z1) c_3], 50), (#[.bool (zneg z2), .slice p_4 (zlen z2) c_4], 50)] rfl ?_
 have L1 := HB4.out.size
 rintro W5 ⟨k1, k2, hb⟩
 have hb : Below W4.heap.size W4 W5 := hb
 have RA := Lib.hid (RA.out.below hb)
 have RB := Lib.hid (RB.out.below hb)
 have HB5 := Lib.hid (HB4.out.trans (hb.mono HB4.out.size))
 have K1 := Lib.hid k1
 have K2 := Lib.hid k2
 clear k1 k2 hb
 have dK20 := K2.out.cell (i := 0) rfl
 have dK21 := K2.out.cell (i := 1) rfl
 go_wp2_with fail
 with_reducible refine (C5.out _ _ _ RB.out).mono ?_
 rintro e W6 ⟨rfl, hb⟩
 clear dK20 dK21
 have K1 := Lib.hid (K1.out.below hb)
 have K2 := Lib.hid (K2.out.below hb)
 have RA := Lib.hid (RA.out.below hb)
 have RB := Lib.hid (RB.out.below hb)
 have HB6 := Lib.hid (HB5.out.trans (hb.mono HB5.out.size))
 clear hb
 go_wp2_with fail
 refine wp_region_post (fun a0 a' V => ∃ pw1_7 cw1_7 pw1_10 cw1_10 sw1_10 dw1_10, a' = ⟨putL [(23, .pointer (some ⟨W4.heap.size, 0, none⟩)), (24, .bool (zneg z1)), (25, .pointer (some ⟨W4.heap.size + 1, 0, none⟩)), (26, .bool (zneg z2)), (27, .bool (zneg z1 != zneg z2)), (28, .pointer (some ⟨W4.heap.size, 1, none⟩)), (29, .slice p_3 (zlen z1) c_3), (30, .agg #[.bool (zneg z), .slice pw1_7 (zlen z) cw1_7]), (31, .pointer (some ⟨W4.heap.size + 1, 1, none⟩)), (32, .slice p_4 (zlen z2) c_4), (33, .agg #[.bool (zneg (n)), .slice pw1_10 (zlen (n)) cw1_10, .slice sw1_10 (nlen (dn)) dw1_10]), (34, .string sn), (4, .string sn), (5, .int .i64 0)] a0.tmps, a0.defers⟩ ∧ Below w.heap.size w V ∧ SBk V (W4.heap.size) #[.bool (zneg z1), .slice p_3 (zlen z1) c_3] 50 ∧ SBk V (W4.heap.size + 1) #[.bool (zneg z2), .slice p_4 (zlen z2) c_4] 50 ∧ RN V (.slice p_3 (zlen z1) c_3) z1.natAbs ∧ RN V (.slice p_4 (zlen z2) c_4) z2.natAbs ∧ RN V (.slice pw1_7 (zlen z) cw1_7) z.natAbs ∧ RN V (.slice pw1_10 (zlen (n)) cw1_10) (n).natAbs ∧ RN V (.slice sw1_10 (nlen (dn)) dw1_10) (dn)) ?_ ?_
 · refine wp_region_tail_d (by kernel_rfl) 14 0 (fun i => [23, 24, 25, 26, 27, 28, 29, 30, 31, 32, 33, 34, 4, 5].getD i 0) (RelR [Rel.val (.pointer (some ⟨W4.heap.size, 0, none⟩)), Rel.val (.bool (zneg z1)), Rel.val (.pointer (some ⟨W4.heap.size + 1, 0, none⟩)), Rel.val (.bool (zneg z2)), Rel.val (.bool (zneg z1 != zneg z2)), Rel.val (.pointer (some ⟨W4.heap.size, 1, none⟩)), Rel.val (.slice p_3 (zlen z1) c_3), Rel.int z, Rel.val (.pointer (some ⟨W4.heap.size + 1, 1, none⟩)), Rel.val (.slice p_4 (zlen z2) c_4), ⟨fun v W => ∃ p c s d, v = .agg #[.bool (zneg (n)), .slice p (zlen (n)) c, .slice s (nlen (dn)) d] ∧ RN W (.slice p (zlen (n)) c) (n).natAbs ∧ RN W (.slice s (nlen (dn)) d) (dn), fun _ _ _ ⟨p, c, s, d, e, h0, h1⟩ hb => ⟨p, c, s, d, e, h0.below hb, h1.below hb⟩⟩, Rel.val (.string sn), Rel.val (.string sn), Rel.val (.int .i64 0)]) (fun W => Below W6.heap.size W6 W) (fun _ _ => True) (by kernel_rfl) (by kernel_rfl) (by kernel_rfl) trivial (Below.refl _ _).drew ?_ ?_
   · intro listed a W i hI hD hrd him
     have HI := Lib.hid hI
     have HD := Lib.hid hD
     have Hi := fun (j : Nat) (h : i = j) => (Lib.hid (h ▸ hrd) : Hid (j ∈ _))
     clear hI hrd hD
     match i, him with
     | 0, _ =>
       have Hi := Hi 0 rfl
       have y6 : a.tmps[6]? = some (.pointer (some ⟨W4.heap.size, 0, none⟩)) := HI.out.rest 6 (by decide)
       refine wpOp_step rfl (fun K' hK => ?_)
       have hK := Lib.hid hK
       go_simp
       exact hK.out _ _ ⟨HI.out.put Hi.out (by decide) rfl (by simp) (by decide) (rfl) (fun j u h => h) (HI.out.world), trivial⟩
     | 1, _ =>
       have Hi := Hi 1 rfl
       have x0 : a.tmps[23]? = some (.pointer (some ⟨W4.heap.size, 0, none⟩)) := by
        obtain ⟨v', y', e'⟩ := HI.out.at (i := 0) Hi.out (by kernel_rfl) (by decide)
        obtain rfl : v' = .pointer (some ⟨W4.heap.size, 0, none⟩) := e'
        exact y'
       have dK10 := (K1.out.below HI.out.world).cell (i := 0) rfl
       refine wpOp_step rfl (fun K' hK => ?_)
       have hK := Lib.hid hK
       go_simp
       exact hK.out _ _ ⟨HI.out.put Hi.out (by decide) rfl (by simp) (by decide) (rfl) (fun j u h => h) (HI.out.world), trivial⟩
     | 2, _ =>
       have Hi := Hi 2 rfl
       have y7 : a.tmps[7]? = some (.pointer (some ⟨W4.heap.size + 1, 0, none⟩)) := HI.out.rest 7 (by decide)
       refine wpOp_step rfl (fun K' hK => ?_)
       have hK := Lib.hid hK
       go_simp
       exact hK.out _ _ ⟨HI.out.put Hi.out (by decide) rfl (by simp) (by decide) (rfl) (fun j u h => h) (HI.out.world), trivial⟩
     | 3, _ =>
       have Hi := Hi 3 rfl
       have x2 : a.tmps[25]? = some (.pointer (some ⟨W4.heap.size + 1, 0, none⟩)) := by
        obtain ⟨v', y', e'⟩ := HI.out.at (i := 2) Hi.out (by kernel_rfl) (by decide)
        obtain rfl : v' = .pointer (some ⟨W4.heap.size + 1, 0, none⟩) := e'
        exact y'
       have dK20 := (K2.out.below HI.out.world).cell (i := 0) rfl
       refine wpOp_step rfl (fun K' hK => ?_)
       have hK := Lib.hid hK
       go_simp
       exact hK.out _ _ ⟨HI.out.put Hi.out (by decide) rfl (by simp) (by decide) (rfl) (fun j u h => h) (HI.out.world), trivial⟩
     | 4, _ =>
       have Hi := Hi 4 rfl
       have x1 : a.tmps[24]? = some (.bool (zneg z1)) := by
        obtain ⟨v', y', e'⟩ := HI.out.at (i := 1) Hi.out (by kernel_rfl) (by decide)
        obtain rfl : v' = .bool (zneg z1) := e'
        exact y'
       have x3 : a.tmps[26]? = some (.bool (zneg z2)) := by
        obtain ⟨v', y', e'⟩ := HI.out.at (i := 3) Hi.out (by kernel_rfl) (by decide)
        obtain rfl : v' = .bool (zneg z2) := e'
        exact y'
       refine wpOp_step rfl (fun K' hK => ?_)
       have hK := Lib.hid hK
       go_simp
       exact hK.out _ _ ⟨HI.out.put Hi.out (by decide) rfl (by simp) (by decide) (rfl) (fun j u h => h) (HI.out.world), trivial⟩
     | 5, _ =>
       have Hi := Hi 5 rfl
       have y6 : a.tmps[6]? = some (.pointer (some ⟨W4.heap.size, 0, none⟩)) := HI.out.rest 6 (by decide)
       refine wpOp_step rfl (fun K' hK => ?_)
       have hK := Lib.hid hK
       go_simp
       exact hK.out _ _ ⟨HI.out.put Hi.out (by decide) rfl (by simp) (by decide) (rfl) (fun j u h => h) (HI.out.world), trivial⟩
     | 6, _ =>
       have Hi := Hi 6 rfl
       have x5 : a.tmps[28]? = some (.pointer (some ⟨W4.heap.size, 1, none⟩)) := by
        obtain ⟨v', y', e'⟩ := HI.out.at (i := 5) Hi.out (by kernel_rfl) (by decide)
        obtain rfl : v' = .pointer (some ⟨W4.heap.size, 1, none⟩) := e'
        exact y'
       have dK11 := (K1.out.below HI.out.world).cell (i := 1) rfl
       refine wpOp_step rfl (fun K' hK => ?_)
       have hK := Lib.hid hK
       go_simp
       exact hK.out _ _ ⟨HI.out.put Hi.out (by decide) rfl (by simp) (by decide) (rfl) (fun j u h => h) (HI.out.world), trivial⟩
     | 7, _ =>
       have Hi := Hi 7 rfl
       have x4 : a.tmps[27]? = some (.bool (zneg z1 != zneg z2)) := by
        obtain ⟨v', y', e'⟩ := HI.out.at (i := 4) Hi.out (by kernel_rfl) (by decide)
        obtain rfl : v' = .bool (zneg z1 != zneg z2) := e'
        exact y'
       have x6 : a.tmps[29]? = some (.slice p_3 (zlen z1) c_3) := by
        obtain ⟨v', y', e'⟩ := HI.out.at (i := 6) Hi.out (by kernel_rfl) (by decide)
        obtain rfl : v' = .slice p_3 (zlen z1) c_3 := e'
        exact y'
       refine wpOp_step rfl (fun K' hK => ?_)
       have hK := Lib.hid hK
       go_simp
       with_reducible refine (C6.out _ _ _ (RA.out.below HI.out.world)).mono ?_
       rintro e W' ⟨pw1_7, cw1_7, rfl, rrw1_7, hb⟩
       exact hK.out _ _ ⟨HI.out.put Hi.out (by decide) rfl (by simp) (by decide) (⟨pw1_7, cw1_7, rfl, rrw1_7⟩) (fun j u h => RelR.mono hb j u h) (HI.out.world.trans (hb.mono HI.out.world.size)), trivial⟩
     | 8, _ =>
       have Hi := Hi 8 rfl
       have y7 : a.tmps[7]? = some (.pointer (some ⟨W4.heap.size + 1, 0, none⟩)) := HI.out.rest 7 (by decide)
       refine wpOp_step rfl (fun K' hK => ?_)
       have hK := Lib.hid hK
       go_simp
       exact hK.out _ _ ⟨HI.out.put Hi.out (by decide) rfl (by simp) (by decide) (rfl) (fun j u h => h) (HI.out.world), trivial⟩
     | 9, _ =>
       have Hi := Hi 9 rfl
       have x8 : a.tmps[31]? = some (.pointer (some ⟨W4.heap.size + 1, 1, none⟩)) := by
        obtain ⟨v', y', e'⟩ := HI.out.at (i := 8) Hi.out (by kernel_rfl) (by decide)
        obtain rfl : v' = .pointer (some ⟨W4.heap.size + 1, 1, none⟩) := e'
        exact y'
       have dK21 := (K2.out.below HI.out.world).cell (i := 1) rfl
       refine wpOp_step rfl (fun K' hK => ?_)
       have hK := Lib.hid hK
       go_simp
       exact hK.out _ _ ⟨HI.out.put Hi.out (by decide) rfl (by simp) (by decide) (rfl) (fun j u h => h) (HI.out.world), trivial⟩
     | 10, _ =>
       have Hi := Hi 10 rfl
       obtain ⟨v', x7, pw1_7, cw1_7, e, rrw1_7⟩ := HI.out.at (i := 7) Hi.out (by kernel_rfl) (by decide)
       obtain rfl := e
       have x7 : a.tmps[30]? = some (.agg #[.bool (zneg z), .slice pw1_7 (zlen z) cw1_7]) := x7
       have RRW1_7 := Lib.hid rrw1_7
       clear rrw1_7
       have x9 : a.tmps[32]? = some (.slice p_4 (zlen z2) c_4) := by
        obtain ⟨v', y', e'⟩ := HI.out.at (i := 9) Hi.out (by kernel_rfl) (by decide)
        obtain rfl : v' = .slice p_4 (zlen z2) c_4 := e'
        exact y'
       refine wpOp_step rfl (fun K' hK => ?_)
       have hK := Lib.hid hK
       go_simp
       with_reducible refine (C7.out _ _ _ _ _ RRW1_7.out (RB.out.below HI.out.world)).mono ?_
       rintro e W' ⟨pw1_10, cw1_10, sw1_10, dw1_10, rfl, rrw1_10, rrw1_10_1, hb⟩
       exact hK.out _ _ ⟨HI.out.put Hi.out (by decide) rfl (by simp) (by decide) (⟨pw1_10, cw1_10, sw1_10, dw1_10, rfl, rrw1_10, rrw1_10_1⟩) (fun j u h => RelR.mono hb j u h) (HI.out.world.trans (hb.mono HI.out.world.size)), trivial⟩
     | 11, _ =>
       have Hi := Hi 11 rfl
       obtain ⟨v', x10, pw1_10, cw1_10, sw1_10, dw1_10, e, rrw1_10, rrw1_10_1⟩ := HI.out.at (i := 10) Hi.out (by kernel_rfl) (by decide)
       obtain rfl := e
       have x10 : a.tmps[33]? = some (.agg #[.bool (zneg (n)), .slice pw1_10 (zlen (n)) cw1_10, .slice sw1_10 (nlen (dn)) dw1_10]) := x10
       have RRW1_10 := Lib.hid rrw1_10
       clear rrw1_10
       have RRW1_10_1 := Lib.hid rrw1_10_1
       clear rrw1_10_1
       refine wpOp_step rfl (fun K' hK => ?_)
       have hK := Lib.hid hK
       go_simp
       with_reducible refine (C8.out _ _ _ _ _ RRW1_10.out RRW1_10_1.out).mono ?_
       rintro e W' ⟨rfl, hb⟩
       exact hK.out _ _ ⟨HI.out.put Hi.out (by decide) rfl (by simp) (by decide) (rfl) (fun j u h => RelR.mono hb j u h) (HI.out.world.trans (hb.mono HI.out.world.size)), trivial⟩
     | 12, _ =>
       have Hi := Hi 12 rfl
       have x11 : a.tmps[34]? = some (.string sn) := by
        obtain ⟨v', y', e'⟩ := HI.out.at (i := 11) Hi.out (by kernel_rfl) (by decide)
        obtain rfl : v' = .string sn := e'
        exact y'
       refine wpOp_step rfl (fun K' hK => ?_)
       have hK := Lib.hid hK
       go_simp
       exact hK.out _ _ ⟨HI.out.put Hi.out (by decide) rfl (by simp) (by decide) (rfl) (fun j u h => h) (HI.out.world), trivial⟩
     | 13, _ =>
       have Hi := Hi 13 rfl
       refine wpOp_step rfl (fun K' hK => ?_)
       have hK := Lib.hid hK
       go_simp
       exact hK.out _ _ ⟨HI.out.put Hi.out (by decide) rfl (by simp) (by decide) (rfl) (fun j u h => h) (HI.out.world), trivial⟩
     | n + 14, h => exact absurd h (by omega)
   · intro listed a W hI hD hall
     obtain ⟨v0, x0, e0⟩ := hI.slots 0 (by decide) (hall 0 (by decide))
     obtain rfl : v0 = .pointer (some ⟨W4.heap.size, 0, none⟩) := e0
     have x0 : a.tmps[23]? = some (.pointer (some ⟨W4.heap.size, 0, none⟩)) := x0
     obtain ⟨v1, x1, e1⟩ := hI.slots 1 (by decide) (hall 1 (by decide))
     obtain rfl : v1 = .bool (zneg z1) := e1
     have x1 : a.tmps[24]? = some (.bool (zneg z1)) := x1
     obtain ⟨v2, x2, e2⟩ := hI.slots 2 (by decide) (hall 2 (by decide))
     obtain rfl : v2 = .pointer (some ⟨W4.heap.size + 1, 0, none⟩) := e2
     have x2 : a.tmps[25]? = some (.pointer (some ⟨W4.heap.size + 1, 0, none⟩)) := x2
     obtain ⟨v3, x3, e3⟩ := hI.slots 3 (by decide) (hall 3 (by decide))
     obtain rfl : v3 = .bool (zneg z2) := e3
     have x3 : a.tmps[26]? = some (.bool (zneg z2)) := x3
     obtain ⟨v4, x4, e4⟩ := hI.slots 4 (by decide) (hall 4 (by decide))
     obtain rfl : v4 = .bool (zneg z1 != zneg z2) := e4
     have x4 : a.tmps[27]? = some (.bool (zneg z1 != zneg z2)) := x4
     obtain ⟨v5, x5, e5⟩ := hI.slots 5 (by decide) (hall 5 (by decide))
     obtain rfl : v5 = .pointer (some ⟨W4.heap.size, 1, none⟩) := e5
     have x5 : a.tmps[28]? = some (.pointer (some ⟨W4.heap.size, 1, none⟩)) := x5
     obtain ⟨v6, x6, e6⟩ := hI.slots 6 (by decide) (hall 6 (by decide))
     obtain rfl : v6 = .slice p_3 (zlen z1) c_3 := e6
     have x6 : a.tmps[29]? = some (.slice p_3 (zlen z1) c_3) := x6
     obtain ⟨v7, x7, pw1_7, cw1_7, e7, rrw1_7⟩ := hI.slots 7 (by decide) (hall 7 (by decide))
     obtain rfl := e7
     have RRW1_7 := Lib.hid rrw1_7
     clear rrw1_7
     have x7 : a.tmps[30]? = some (.agg #[.bool (zneg z), .slice pw1_7 (zlen z) cw1_7]) := x7
     obtain ⟨v8, x8, e8⟩ := hI.slots 8 (by decide) (hall 8 (by decide))
     obtain rfl : v8 = .pointer (some ⟨W4.heap.size + 1, 1, none⟩) := e8
     have x8 : a.tmps[31]? = some (.pointer (some ⟨W4.heap.size + 1, 1, none⟩)) := x8
     obtain ⟨v9, x9, e9⟩ := hI.slots 9 (by decide) (hall 9 (by decide))
     obtain rfl : v9 = .slice p_4 (zlen z2) c_4 := e9
     have x9 : a.tmps[32]? = some (.slice p_4 (zlen z2) c_4) := x9
     obtain ⟨v10, x10, pw1_10, cw1_10, sw1_10, dw1_10, e10, rrw1_10, rrw1_10_1⟩ := hI.slots 10 (by decide) (hall 10 (by decide))
     obtain rfl := e10
     have RRW1_10 := Lib.hid rrw1_10
     clear rrw1_10
     have RRW1_10_1 := Lib.hid rrw1_10_1
     clear rrw1_10_1
     have x10 : a.tmps[33]? = some (.agg #[.bool (zneg (n)), .slice pw1_10 (zlen (n)) cw1_10, .slice sw1_10 (nlen (dn)) dw1_10]) := x10
     obtain ⟨v11, x11, e11⟩ := hI.slots 11 (by decide) (hall 11 (by decide))
     obtain rfl : v11 = .string sn := e11
     have x11 : a.tmps[34]? = some (.string sn) := x11
     obtain ⟨v12, x12, e12⟩ := hI.slots 12 (by decide) (hall 12 (by decide))
     obtain rfl : v12 = .string sn := e12
     have x12 : a.tmps[4]? = some (.string sn) := x12
     obtain ⟨v13, x13, e13⟩ := hI.slots 13 (by decide) (hall 13 (by decide))
     obtain rfl : v13 = .int .i64 0 := e13
     have x13 : a.tmps[5]? = some (.int .i64 0) := x13
     have ea := hI.fin [(23, .pointer (some ⟨W4.heap.size, 0, none⟩)), (24, .bool (zneg z1)), (25, .pointer (some ⟨W4.heap.size + 1, 0, none⟩)), (26, .bool (zneg z2)), (27, .bool (zneg z1 != zneg z2)), (28, .pointer (some ⟨W4.heap.size, 1, none⟩)), (29, .slice p_3 (zlen z1) c_3), (30, .agg #[.bool (zneg z), .slice pw1_7 (zlen z) cw1_7]), (31, .pointer (some ⟨W4.heap.size + 1, 1, none⟩)), (32, .slice p_4 (zlen z2) c_4), (33, .agg #[.bool (zneg (n)), .slice pw1_10 (zlen (n)) cw1_10, .slice sw1_10 (nlen (dn)) dw1_10]), (34, .string sn), (4, .string sn), (5, .int .i64 0)] (by
        intro p hp
        simp only [List.mem_cons, List.not_mem_nil, or_false] at hp
        rcases hp with rfl | rfl | rfl | rfl | rfl | rfl | rfl | rfl | rfl | rfl | rfl | rfl | rfl | rfl
        · exact x0
        · exact x1
        · exact x2
        · exact x3
        · exact x4
        · exact x5
        · exact x6
        · exact x7
        · exact x8
        · exact x9
        · exact x10
        · exact x11
        · exact x12
        · exact x13) (by
        intro d hd i him h
        match i, him with
        | 0, _ => exact hd _ (ix 0 rfl) h
        | 1, _ => exact hd _ (ix 1 rfl) h
        | 2, _ => exact hd _ (ix 2 rfl) h
        | 3, _ => exact hd _ (ix 3 rfl) h
        | 4, _ => exact hd _ (ix 4 rfl) h
        | 5, _ => exact hd _ (ix 5 rfl) h
        | 6, _ => exact hd _ (ix 6 rfl) h
        | 7, _ => exact hd _ (ix 7 rfl) h
        | 8, _ => exact hd _ (ix 8 rfl) h
        | 9, _ => exact hd _ (ix 9 rfl) h
        | 10, _ => exact hd _ (ix 10 rfl) h
        | 11, _ => exact hd _ (ix 11 rfl) h
        | 12, _ => exact hd _ (ix 12 rfl) h
        | 13, _ => exact hd _ (ix 13 rfl) h
        | n + 14, h => omega)
     have EA := Lib.hid ea
     have HBW := Lib.hid hI.world
     have HI := Lib.hid hI
     clear ea hI hall
     have K1 := Lib.hid (K1.out.below HBW.out)
     have K2 := Lib.hid (K2.out.below HBW.out)
     have RA := Lib.hid (RA.out.below HBW.out)
     have RB := Lib.hid (RB.out.below HBW.out)
     have HBX := Lib.hid (HB6.out.trans (HBW.out.mono HB6.out.size))
     have RZ := RRW1_7
     have RQ := RRW1_10
     have TQ := RRW1_10_1
     refine tail_nil ?_
     exact ⟨rfl, pw1_7, cw1_7, pw1_10, cw1_10, sw1_10, dw1_10, EA.out, HBX.out, K1.out, K2.out, RA.out, RB.out, RZ.out, RQ.out, TQ.out⟩
 rintro a' W7 ⟨pw1_7, cw1_7, pw1_10, cw1_10, sw1_10, dw1_10, rfl, z0, z1, z2, z3, z4, z5, z6, z7⟩
 have HB7 := Lib.hid z0
 have K1 := Lib.hid z1
 have K2 := Lib.hid z2
 have RA := Lib.hid z3
 have RB := Lib.hid z4
 have RZ := Lib.hid z5
 have RQ := Lib.hid z6
 have TQ := Lib.hid z7
 clear z0 z1 z2 z3 z4 z5 z6 z7
 simp only [putL, List.setIfInBounds_toArray, List.set_cons_zero, List.set_cons_succ]
 go_wp2
 exact bodyPost_ret (v := .tuple #[.string sn, .int .i64 0]) (by simp [results, Tryz.results10, go_sem]) rfl ⟨rfl, HB7.out⟩
end Go.Proofs.YtmigpoiajkihhaaGreatDoor
