/- garboardref03: Valid, Parts, Make, Whole, Frac, Floor: walks over the contracts of what they call. -/
import Derived.Test.YtmigpoiajkihhaaGreatDoorMz1q
import Derived.Test.YtmigpoiajkihhaaGreatDoorMz47q
namespace Go.Proofs.YtmigpoiajkihhaaGreatDoor
set_option maxRecDepth 100000
set_option maxHeartbeats 20000000
open Go.RowKit Go.Gb
theorem rvalid_raw (x1 : ByteArray) (n1 : Int) (en1 : Nat) (b : Bool)  (w : World) (h1 : ∀ W, Calls Tryz.prog 44 #[.string x1] W fun e w' => ∃ p c s d, e = .returned (.tuple #[.agg #[.bool (zneg n1), .slice p (zlen n1) c, .slice s (nlen en1) d], .bool b]) ∧ RN w' (.slice p (zlen n1) c) n1.natAbs ∧ RN w' (.slice s (nlen en1) d) en1 ∧ Below W.heap.size W w')  :
 Calls Tryz.prog 14 #[.string x1] w fun e w' => e = .returned (.bool b) ∧ Below w.heap.size w w' := by
 have C1 := Lib.hid h1
 clear h1
 go_enter Tryz.func14, Tryz.ntmps14
 have HB0 := Lib.hid (Below.refl w.heap.size w)
 go_wp2_with fail
 with_reducible refine (C1.out _).mono ?_
 rintro e W1 ⟨pa_1, ca_1, sa_1, da_1, rfl, r1_0, r1_1, hb⟩
 have HB1 := Lib.hid (HB0.out.trans (hb.mono HB0.out.size))
 have RA := Lib.hid r1_0
 have TA := Lib.hid r1_1
 clear hb r1_0 r1_1
 go_upto_region 2 with fail
 refine wp_boxes W1 [(#[.bool (zneg (n1)), .slice pa_1 (zlen (n1)) ca_1, .slice sa_1 (nlen (en1)) da_1], 55)] rfl ?_
 have L1 := HB1.out.size
 rintro W2 ⟨k1, hb⟩
 have hb : Below W1.heap.size W1 W2 := hb
 have HB2 := Lib.hid (HB1.out.trans (hb.mono HB1.out.size))
 have K1 := Lib.hid k1
 clear k1 hb
 go_wp2
 exact bodyPost_ret (v := .bool b) (by simp [results, Tryz.results14, go_sem]) rfl ⟨rfl, HB2.out⟩
theorem rparts_yes (x1 x0 y0 : ByteArray) (sl : Bool)  (w : World) (h1 : CQ 14 #[.string x1] (.bool true)) (h2 : CQ 43 #[.string x1] (.tuple #[.string x0, .string y0, .bool sl]))  :
 Calls Tryz.prog 12 #[.string x1] w fun e w' => e = .returned (.tuple #[.string x0, .string y0, .int .i64 0]) ∧ Below w.heap.size w w' := by
 have C1 := Lib.hid h1
 have C2 := Lib.hid h2
 clear h1 h2
 go_enter Tryz.func12, Tryz.ntmps12
 have HB0 := Lib.hid (Below.refl w.heap.size w)
 go_wp2_with fail
 with_reducible refine (C1.out _).mono ?_
 rintro e W1 ⟨rfl, hb⟩
 have HB1 := Lib.hid (HB0.out.trans (hb.mono HB0.out.size))
 clear hb
 go_wp2_with fail
 with_reducible refine (C2.out _).mono ?_
 rintro e W2 ⟨rfl, hb⟩
 have HB2 := Lib.hid (HB1.out.trans (hb.mono HB1.out.size))
 clear hb
 go_wp2
 exact bodyPost_ret (v := .tuple #[.string x0, .string y0, .int .i64 0]) (by simp [results, Tryz.results12, go_sem]) rfl ⟨rfl, HB2.out⟩
theorem rparts_no (x1 : ByteArray)  (w : World) (h1 : CQ 14 #[.string x1] (.bool false))  :
 Calls Tryz.prog 12 #[.string x1] w fun e w' => e = .returned (.tuple #[.string ⟨#[]⟩, .string ⟨#[]⟩, .int .i64 1]) ∧ Below w.heap.size w w' := by
 have C1 := Lib.hid h1
 clear h1
 go_enter Tryz.func12, Tryz.ntmps12
 have HB0 := Lib.hid (Below.refl w.heap.size w)
 go_wp2_with fail
 with_reducible refine (C1.out _).mono ?_
 rintro e W1 ⟨rfl, hb⟩
 have HB1 := Lib.hid (HB0.out.trans (hb.mono HB0.out.size))
 clear hb
 go_wp2
 exact bodyPost_ret (v := .tuple #[.string ⟨#[]⟩, .string ⟨#[]⟩, .int .i64 1]) (by simp [results, Tryz.results12, go_sem]) rfl ⟨rfl, HB1.out⟩
theorem rmake_bad1 (x1 x2 : ByteArray)  (w : World) (h1 : CQ 36 #[.string x1] (.bool false))  :
 Calls Tryz.prog 10 #[.string x1, .string x2] w fun e w' => e = .returned (.tuple #[.string ⟨#[]⟩, .int .i64 1]) ∧ Below w.heap.size w w' := by
 have C1 := Lib.hid h1
 clear h1
 go_enter Tryz.func10, Tryz.ntmps10
 have HB0 := Lib.hid (Below.refl w.heap.size w)
 go_wp2_with fail
 with_reducible refine (C1.out _).mono ?_
 rintro e W1 ⟨rfl, hb⟩
 have HB1 := Lib.hid (HB0.out.trans (hb.mono HB0.out.size))
 clear hb
 go_wp2
 exact bodyPost_ret (v := .tuple #[.string ⟨#[]⟩, .int .i64 1]) (by simp [results, Tryz.results10, go_sem]) rfl ⟨rfl, HB1.out⟩
theorem rmake_bad2 (x1 x2 : ByteArray)  (w : World) (h1 : CQ 36 #[.string x1] (.bool true)) (h2 : CQ 36 #[.string x2] (.bool false))  :
 Calls Tryz.prog 10 #[.string x1, .string x2] w fun e w' => e = .returned (.tuple #[.string ⟨#[]⟩, .int .i64 1]) ∧ Below w.heap.size w w' := by
 have C1 := Lib.hid h1
 have C2 := Lib.hid h2
 clear h1 h2
 go_enter Tryz.func10, Tryz.ntmps10
 have HB0 := Lib.hid (Below.refl w.heap.size w)
 go_wp2_with fail
 with_reducible refine (C1.out _).mono ?_
 rintro e W1 ⟨rfl, hb⟩
 have HB1 := Lib.hid (HB0.out.trans (hb.mono HB0.out.size))
 clear hb
 go_wp2_with fail
 with_reducible refine (C2.out _).mono ?_
 rintro e W2 ⟨rfl, hb⟩
 have HB2 := Lib.hid (HB1.out.trans (hb.mono HB1.out.size))
 clear hb
 go_wp2
 exact bodyPost_ret (v := .tuple #[.string ⟨#[]⟩, .int .i64 1]) (by simp [results, Tryz.results10, go_sem]) rfl ⟨rfl, HB2.out⟩
theorem rmake_zero (x1 x2 : ByteArray) (z1 z2 : Int)  (w : World) (h1 : CQ 36 #[.string x1] (.bool true)) (h2 : CQ 36 #[.string x2] (.bool true)) (h3 : ∀ W, Calls Tryz.prog 37 #[.string x1] W fun e w' => ∃ p c, e = .returned (.agg #[.bool (zneg z1), .slice p (zlen z1) c]) ∧ RN w' (.slice p (zlen z1) c) z1.natAbs ∧ Below W.heap.size W w') (h4 : ∀ W, Calls Tryz.prog 37 #[.string x2] W fun e w' => ∃ p c, e = .returned (.agg #[.bool (zneg z2), .slice p (zlen z2) c]) ∧ RN w' (.slice p (zlen z2) c) z2.natAbs ∧ Below W.heap.size W w') (h5 : ∀ p1 c1 W, RN W (.slice p1 (zlen z2) c1) z2.natAbs → Calls Tryz.prog 38 #[.agg #[.bool (zneg z2), .slice p1 (zlen z2) c1]] W fun e w' => e = .returned (.int .i64 0) ∧ Below W.heap.size W w')  :
 Calls Tryz.prog 10 #[.string x1, .string x2] w fun e w' => e = .returned (.tuple #[.string ⟨#[]⟩, .int .i64 16]) ∧ Below w.heap.size w w' := by
 have C1 := Lib.hid h1
 have C2 := Lib.hid h2
 have C3 := Lib.hid h3
 have C4 := Lib.hid h4
 have C5 := Lib.hid h5
 clear h1 h2 h3 h4 h5
 go_enter Tryz.func10, Tryz.ntmps10
 have HB0 := Lib.hid (Below.refl w.heap.size w)
 go_wp2_with fail
 with_reducible refine (C1.out _).mono ?_
 rintro e W1 ⟨rfl, hb⟩
 have HB1 := Lib.hid (HB0.out.trans (hb.mono HB0.out.size))
 clear hb
 go_wp2_with fail
 with_reducible refine (C2.out _).mono ?_
 rintro e W2 ⟨rfl, hb⟩
 have HB2 := Lib.hid (HB1.out.trans (hb.mono HB1.out.size))
 clear hb
 go_wp2_with fail
 with_reducible refine (C3.out _).mono ?_
 rintro e W3 ⟨p_3, c_3, rfl, r3_0, hb⟩
 have HB3 := Lib.hid (HB2.out.trans (hb.mono HB2.out.size))
 have RA := Lib.hid r3_0
 clear hb r3_0
 go_wp2_with fail
 with_reducible refine (C4.out _).mono ?_
 rintro e W4 ⟨p_4, c_4, rfl, r4_0, hb⟩
 have HB4 := Lib.hid (HB3.out.trans (hb.mono HB3.out.size))
 have RB := Lib.hid r4_0
 clear hb r4_0
 go_upto_region 4 with fail
 refine wp_boxes W4 [(#[.bool (zneg z1), .slice p_3 (zlen z1) c_3], 50), (#[.bool (zneg z2), .slice p_4 (zlen z2) c_4], 50)] rfl ?_
 have L1 := HB4.out.size
 rintro W5 ⟨k1, k2, hb⟩
 have hb : Below W4.heap.size W4 W5 := hb
 have RB := Lib.hid (RB.out.below hb)
 have HB5 := Lib.hid (HB4.out.trans (hb.mono HB4.out.size))
 have K1 := Lib.hid k1
 have K2 := Lib.hid k2
 clear k1 k2 hb
 have dK20 := K2.out.cell (i := 0) rfl
 have dK21 := K2.out.cell (i := 1) rfl
 go_wp2_with fail
 with_reducible refine (C5.out _ _ _ RB.out).mono ?_
 rintro e W6 ⟨rfl, hb⟩
 clear dK20 dK21
 have HB6 := Lib.hid (HB5.out.trans (hb.mono HB5.out.size))
 clear hb
 go_wp2
 exact bodyPost_ret (v := .tuple #[.string ⟨#[]⟩, .int .i64 16]) (by simp [results, Tryz.results10, go_sem]) rfl ⟨rfl, HB6.out⟩
theorem rmake_yes (x1 x2 sn : ByteArray) (z1 z2 z n sg : Int) (dn : Nat) (hsg : sg ≠ 0)  (w : World) (h1 : CQ 36 #[.string x1] (.bool true)) (h2 : CQ 36 #[.string x2] (.bool true)) (h3 : ∀ W, Calls Tryz.prog 37 #[.string x1] W fun e w' => ∃ p c, e = .returned (.agg #[.bool (zneg z1), .slice p (zlen z1) c]) ∧ RN w' (.slice p (zlen z1) c) z1.natAbs ∧ Below W.heap.size W w') (h4 : ∀ W, Calls Tryz.prog 37 #[.string x2] W fun e w' => ∃ p c, e = .returned (.agg #[.bool (zneg z2), .slice p (zlen z2) c]) ∧ RN w' (.slice p (zlen z2) c) z2.natAbs ∧ Below W.heap.size W w') (h5 : ∀ p1 c1 W, RN W (.slice p1 (zlen z2) c1) z2.natAbs → Calls Tryz.prog 38 #[.agg #[.bool (zneg z2), .slice p1 (zlen z2) c1]] W fun e w' => e = .returned (.int .i64 sg) ∧ Below W.heap.size W w') (h6 : ∀ p2 c2 W, RN W (.slice p2 (zlen z1) c2) z1.natAbs → Calls Tryz.prog 41 #[.bool (zneg z1 != zneg z2), .slice p2 (zlen z1) c2] W fun e w' => ∃ p c, e = .returned (.agg #[.bool (zneg z), .slice p (zlen z) c]) ∧ RN w' (.slice p (zlen z) c) z.natAbs ∧ Below W.heap.size W w') (h7 : ∀ p1 c1 p2 c2 W, RN W (.slice p1 (zlen z) c1) z.natAbs → RN W (.slice p2 (zlen z2) c2) z2.natAbs → Calls Tryz.prog 40 #[.agg #[.bool (zneg z), .slice p1 (zlen z) c1], .slice p2 (zlen z2) c2] W fun e w' => ∃ p c s d, e = .returned (.agg #[.bool (zneg n), .slice p (zlen n) c, .slice s (nlen dn) d]) ∧ RN w' (.slice p (zlen n) c) n.natAbs ∧ RN w' (.slice s (nlen dn) d) dn ∧ Below W.heap.size W w') (h8 : ∀ p1 c1 s1 d1 W, RN W (.slice p1 (zlen n) c1) n.natAbs → RN W (.slice s1 (nlen dn) d1) dn → Calls Tryz.prog 39 #[.agg #[.bool (zneg n), .slice p1 (zlen n) c1, .slice s1 (nlen dn) d1]] W fun e w' => e = .returned (.string sn) ∧ Below W.heap.size W w')  :
 Calls Tryz.prog 10 #[.string x1, .string x2] w fun e w' => e = .returned (.tuple #[.string sn, .int .i64 0]) ∧ Below w.heap.size w w' := by
 have C1 := Lib.hid h1
 have C2 := Lib.hid h2
 have C3 := Lib.hid h3
 have C4 := Lib.hid h4
 have C5 := Lib.hid h5
 have C6 := Lib.hid h6
 have C7 := Lib.hid h7
 have C8 := Lib.hid h8
 have s0 : (sg == 0) = false := by rw [beq_eq_false_iff_ne]; exact hsg
 have s1 : ¬ sg = 0 := hsg
 clear hsg
 clear h1 h2 h3 h4 h5 h6 h7 h8
 go_enter Tryz.func10, Tryz.ntmps10
 have HB0 := Lib.hid (Below.refl w.heap.size w)
 go_wp2_with fail
 with_reducible refine (C1.out _).mono ?_
 rintro e W1 ⟨rfl, hb⟩
 have HB1 := Lib.hid (HB0.out.trans (hb.mono HB0.out.size))
 clear hb
 go_wp2_with fail
 with_reducible refine (C2.out _).mono ?_
 rintro e W2 ⟨rfl, hb⟩
 have HB2 := Lib.hid (HB1.out.trans (hb.mono HB1.out.size))
 clear hb
 go_wp2_with fail
 with_reducible refine (C3.out _).mono ?_
 rintro e W3 ⟨p_3, c_3, rfl, r3_0, hb⟩
 have HB3 := Lib.hid (HB2.out.trans (hb.mono HB2.out.size))
 have RA := Lib.hid r3_0
 clear hb r3_0
 go_wp2_with fail
 with_reducible refine (C4.out _).mono ?_
 rintro e W4 ⟨p_4, c_4, rfl, r4_0, hb⟩
 have RA := Lib.hid (RA.out.below hb)
 have HB4 := Lib.hid (HB3.out.trans (hb.mono HB3.out.size))
 have RB := Lib.hid r4_0
 clear hb r4_0
 go_upto_region 4 with fail
 refine wp_boxes W4 [(#[.bool (zneg z1), .slice p_3 (zlen z1) c_3], 50), (#[.bool (zneg z2), .slice p_4 (zlen z2) c_4], 50)] rfl ?_
 have L1 := HB4.out.size
 rintro W5 ⟨k1, k2, hb⟩
 have hb : Below W4.heap.size W4 W5 := hb
 have RA := Lib.hid (RA.out.below hb)
 have RB := Lib.hid (RB.out.below hb)
 have HB5 := Lib.hid (HB4.out.trans (hb.mono HB4.out.size))
 have K1 := Lib.hid k1
 have K2 := Lib.hid k2
 clear k1 k2 hb
 have dK20 := K2.out.cell (i := 0) rfl
 have dK21 := K2.out.cell (i := 1) rfl
 go_wp2_with fail
 with_reducible refine (C5.out _ _ _ RB.out).mono ?_
 rintro e W6 ⟨rfl, hb⟩
 clear dK20 dK21
 have K1 := Lib.hid (K1.out.below hb)
 have K2 := Lib.hid (K2.out.below hb)
 have RA := Lib.hid (RA.out.below hb)
 have RB := Lib.hid (RB.out.below hb)
 have HB6 := Lib.hid (HB5.out.trans (hb.mono HB5.out.size))
 clear hb
 go_wp2_with fail
 refine wp_region_post (fun a0 a' V => ∃ pw1_7 cw1_7 pw1_10 cw1_10 sw1_10 dw1_10, a' = ⟨putL [(23, .pointer (some ⟨W4.heap.size, 0, none⟩)), (24, .bool (zneg z1)), (25, .pointer (some ⟨W4.heap.size + 1, 0, none⟩)), (26, .bool (zneg z2)), (27, .bool (zneg z1 != zneg z2)), (28, .pointer (some ⟨W4.heap.size, 1, none⟩)), (29, .slice p_3 (zlen z1) c_3), (30, .agg #[.bool (zneg z), .slice pw1_7 (zlen z) cw1_7]), (31, .pointer (some ⟨W4.heap.size + 1, 1, none⟩)), (32, .slice p_4 (zlen z2) c_4), (33, .agg #[.bool (zneg (n)), .slice pw1_10 (zlen (n)) cw1_10, .slice sw1_10 (nlen (dn)) dw1_10]), (34, .string sn), (4, .string sn), (5, .int .i64 0)] a0.tmps, a0.defers⟩ ∧ Below w.heap.size w V) ?_ ?_
 · refine wp_region_tail_d (by kernel_rfl) 14 0 (fun i => [23, 24, 25, 26, 27, 28, 29, 30, 31, 32, 33, 34, 4, 5].getD i 0) (RelR [Rel.val (.pointer (some ⟨W4.heap.size, 0, none⟩)), Rel.val (.bool (zneg z1)), Rel.val (.pointer (some ⟨W4.heap.size + 1, 0, none⟩)), Rel.val (.bool (zneg z2)), Rel.val (.bool (zneg z1 != zneg z2)), Rel.val (.pointer (some ⟨W4.heap.size, 1, none⟩)), Rel.val (.slice p_3 (zlen z1) c_3), Rel.int z, Rel.val (.pointer (some ⟨W4.heap.size + 1, 1, none⟩)), Rel.val (.slice p_4 (zlen z2) c_4), ⟨fun v W => ∃ p c s d, v = .agg #[.bool (zneg (n)), .slice p (zlen (n)) c, .slice s (nlen (dn)) d] ∧ RN W (.slice p (zlen (n)) c) (n).natAbs ∧ RN W (.slice s (nlen (dn)) d) (dn), fun _ _ _ ⟨p, c, s, d, e, h0, h1⟩ hb => ⟨p, c, s, d, e, h0.below hb, h1.below hb⟩⟩, Rel.val (.string sn), Rel.val (.string sn), Rel.val (.int .i64 0)]) (fun W => Below W6.heap.size W6 W) (fun _ _ => True) (by kernel_rfl) (by kernel_rfl) (by kernel_rfl) trivial (Below.refl _ _).drew ?_ ?_
   · intro listed a W i hI hD hrd him
     have HI := Lib.hid hI
     have HD := Lib.hid hD
     have Hr := Lib.hid hrd
     clear hI hrd hD
     have y6 : a.tmps[6]? = some (.pointer (some ⟨W4.heap.size, 0, none⟩)) := HI.out.rest 6 (by decide)
     have y7 : a.tmps[7]? = some (.pointer (some ⟨W4.heap.size + 1, 0, none⟩)) := HI.out.rest 7 (by decide)
     have dK10 := (K1.out.below HI.out.world).cell (i := 0) rfl
     have dK20 := (K2.out.below HI.out.world).cell (i := 0) rfl
     have dK11 := (K1.out.below HI.out.world).cell (i := 1) rfl
     have dK21 := (K2.out.below HI.out.world).cell (i := 1) rfl
     have X0 : RV _ listed a 0 23 (.pointer (some ⟨W4.heap.size, 0, none⟩)) := HI.out.rh
     have X2 : RV _ listed a 2 25 (.pointer (some ⟨W4.heap.size + 1, 0, none⟩)) := HI.out.rh
     have X1 : RV _ listed a 1 24 (.bool (zneg z1)) := HI.out.rh
     have X3 : RV _ listed a 3 26 (.bool (zneg z2)) := HI.out.rh
     have X5 : RV _ listed a 5 28 (.pointer (some ⟨W4.heap.size, 1, none⟩)) := HI.out.rh
     have X4 : RV _ listed a 4 27 (.bool (zneg z1 != zneg z2)) := HI.out.rh
     have X6 : RV _ listed a 6 29 (.slice p_3 (zlen z1) c_3) := HI.out.rh
     have X8 : RV _ listed a 8 31 (.pointer (some ⟨W4.heap.size + 1, 1, none⟩)) := HI.out.rh
     have X9 : RV _ listed a 9 32 (.slice p_4 (zlen z2) c_4) := HI.out.rh
     have X11 : RV _ listed a 11 34 (.string sn) := HI.out.rh
     match i, him, Hr with
     | 0, _, Hi =>
       refine stepH rfl fun K' hK => ?_
       go_simp
       exact hK.out _ _ ⟨HI.out.pv Hi.out rfl, trivial⟩
     | 1, _, Hi =>
       have x0 := X0.g Hi.out (by kernel_rfl)
       refine stepH rfl fun K' hK => ?_
       go_simp
       exact hK.out _ _ ⟨HI.out.pv Hi.out rfl, trivial⟩
     | 2, _, Hi =>
       refine stepH rfl fun K' hK => ?_
       go_simp
       exact hK.out _ _ ⟨HI.out.pv Hi.out rfl, trivial⟩
     | 3, _, Hi =>
       have x2 := X2.g Hi.out (by kernel_rfl)
       refine stepH rfl fun K' hK => ?_
       go_simp
       exact hK.out _ _ ⟨HI.out.pv Hi.out rfl, trivial⟩
     | 4, _, Hi =>
       have x1 := X1.g Hi.out (by kernel_rfl)
       have x3 := X3.g Hi.out (by kernel_rfl)
       refine stepH rfl fun K' hK => ?_
       go_simp
       exact hK.out _ _ ⟨HI.out.pv Hi.out rfl, trivial⟩
     | 5, _, Hi =>
       refine stepH rfl fun K' hK => ?_
       go_simp
       exact hK.out _ _ ⟨HI.out.pv Hi.out rfl, trivial⟩
     | 6, _, Hi =>
       have x5 := X5.g Hi.out (by kernel_rfl)
       refine stepH rfl fun K' hK => ?_
       go_simp
       exact hK.out _ _ ⟨HI.out.pv Hi.out rfl, trivial⟩
     | 7, _, Hi =>
       have x4 := X4.g Hi.out (by kernel_rfl)
       have x6 := X6.g Hi.out (by kernel_rfl)
       refine stepH rfl fun K' hK => ?_
       go_simp
       with_reducible refine (C6.out _ _ _ (RA.out.below HI.out.world)).mono ?_
       rintro e W' ⟨pw1_7, cw1_7, rfl, rrw1_7, hb⟩
       exact hK.out _ _ ⟨HI.out.pc Hi.out hb ⟨pw1_7, cw1_7, rfl, rrw1_7⟩, trivial⟩
     | 8, _, Hi =>
       refine stepH rfl fun K' hK => ?_
       go_simp
       exact hK.out _ _ ⟨HI.out.pv Hi.out rfl, trivial⟩
     | 9, _, Hi =>
       have x8 := X8.g Hi.out (by kernel_rfl)
       refine stepH rfl fun K' hK => ?_
       go_simp
       exact hK.out _ _ ⟨HI.out.pv Hi.out rfl, trivial⟩
     | 10, _, Hi =>
       obtain ⟨v', x7, pw1_7, cw1_7, e, rrw1_7⟩ := HI.out.at (i := 7) Hi.out (by kernel_rfl) (by decide)
       obtain rfl := e
       have x7 : a.tmps[30]? = some (.agg #[.bool (zneg z), .slice pw1_7 (zlen z) cw1_7]) := x7
       have RRW1_7 := Lib.hid rrw1_7
       clear rrw1_7
       have x9 := X9.g Hi.out (by kernel_rfl)
       refine stepH rfl fun K' hK => ?_
       go_simp
       with_reducible refine (C7.out _ _ _ _ _ RRW1_7.out (RB.out.below HI.out.world)).mono ?_
       rintro e W' ⟨pw1_10, cw1_10, sw1_10, dw1_10, rfl, rrw1_10, rrw1_10_1, hb⟩
       exact hK.out _ _ ⟨HI.out.pc Hi.out hb ⟨pw1_10, cw1_10, sw1_10, dw1_10, rfl, rrw1_10, rrw1_10_1⟩, trivial⟩
     | 11, _, Hi =>
       obtain ⟨v', x10, pw1_10, cw1_10, sw1_10, dw1_10, e, rrw1_10, rrw1_10_1⟩ := HI.out.at (i := 10) Hi.out (by kernel_rfl) (by decide)
       obtain rfl := e
       have x10 : a.tmps[33]? = some (.agg #[.bool (zneg (n)), .slice pw1_10 (zlen (n)) cw1_10, .slice sw1_10 (nlen (dn)) dw1_10]) := x10
       have RRW1_10 := Lib.hid rrw1_10
       clear rrw1_10
       have RRW1_10_1 := Lib.hid rrw1_10_1
       clear rrw1_10_1
       refine stepH rfl fun K' hK => ?_
       go_simp
       with_reducible refine (C8.out _ _ _ _ _ RRW1_10.out RRW1_10_1.out).mono ?_
       rintro e W' ⟨rfl, hb⟩
       exact hK.out _ _ ⟨HI.out.pc Hi.out hb rfl, trivial⟩
     | 12, _, Hi =>
       have x11 := X11.g Hi.out (by kernel_rfl)
       refine stepH rfl fun K' hK => ?_
       go_simp
       exact hK.out _ _ ⟨HI.out.pv Hi.out rfl, trivial⟩
     | 13, _, Hi =>
       refine stepH rfl fun K' hK => ?_
       go_simp
       exact hK.out _ _ ⟨HI.out.pv Hi.out rfl, trivial⟩
     | n + 14, h, _ => exact absurd h (by omega)
   · intro listed a W hI hD hall
     obtain ⟨v', x7, pw1_7, cw1_7, e, rrw1_7⟩ := hI.slots 7 (by decide) (hall 7 (by decide))
     obtain rfl := e
     have RRW1_7 := Lib.hid rrw1_7
     clear rrw1_7
     obtain ⟨v', x10, pw1_10, cw1_10, sw1_10, dw1_10, e, rrw1_10, rrw1_10_1⟩ := hI.slots 10 (by decide) (hall 10 (by decide))
     obtain rfl := e
     have RRW1_10 := Lib.hid rrw1_10
     clear rrw1_10
     have RRW1_10_1 := Lib.hid rrw1_10_1
     clear rrw1_10_1
     have HBW := Lib.hid hI.world
     have HI := Lib.hid hI
     have HA := Lib.hid hall
     clear hI hall
     have HBX := Lib.hid (HB6.out.trans (HBW.out.mono HB6.out.size))
     have RZ := RRW1_7
     have RQ := RRW1_10
     have TQ := RRW1_10_1
     refine tail_nil ?_
     exact ⟨rfl, pw1_7, cw1_7, pw1_10, cw1_10, sw1_10, dw1_10, (HI.out.finx ⟨HI.out.sx HA.out 0, HI.out.sx HA.out 1, HI.out.sx HA.out 2, HI.out.sx HA.out 3, HI.out.sx HA.out 4, HI.out.sx HA.out 5, HI.out.sx HA.out 6, x7, HI.out.sx HA.out 8, HI.out.sx HA.out 9, x10, HI.out.sx HA.out 11, HI.out.sx HA.out 12, HI.out.sx HA.out 13, trivial⟩ rfl), HBX.out⟩
 rintro a' W7 ⟨pw1_7, cw1_7, pw1_10, cw1_10, sw1_10, dw1_10, rfl, z0⟩
 have HB7 := Lib.hid z0
 clear z0
 simp only [putL, List.setIfInBounds_toArray, List.set_cons_zero, List.set_cons_succ]
 go_wp2
 exact bodyPost_ret (v := .tuple #[.string sn, .int .i64 0]) (by simp [results, Tryz.results10, go_sem]) rfl ⟨rfl, HB7.out⟩
end Go.Proofs.YtmigpoiajkihhaaGreatDoor
