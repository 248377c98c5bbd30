/- Texts of this proof, one behind the other. -/
import Derived.Test.YtmigpoiajkihhaaGreatDoorMz45q
import Derived.Test.YtmigpoiajkihhaaGreatDoorMz46q
import Derived.Deep.QuietTactic
import Derived.BigQuiet
import Derived.Test.YtmigpoiajkihhaaGreatDoorMz47q
import Derived.Test.YtmigpoiajkihhaaGreatDoorMz16q
/- garboardref03.split: walks. -/
namespace Go.Proofs.YtmigpoiajkihhaaGreatDoor
set_option maxRecDepth 100000
set_option maxHeartbeats 20000000
open Go.RowKit Go.Gb
theorem below_drewN (w : World) (n : Nat) : Below w.heap.size w (w.drewN n) := ⟨rfl, rfl, rfl, Nat.le_refl _, fun _ _ => rfl⟩
theorem not47 {s : ByteArray} {k : Nat} (h : k < s.size) (hn : s[k] ≠ 47) : ((s[k].toNat : Int) == 47) = false := by
 rw [beq_eq_false_iff_ne]
 intro e
 apply hn
 apply UInt8.toNat_inj.1
 have : s[k].toNat = 47 := by omega
 rw [this]; rfl
theorem split_no (s : ByteArray) (hn : ∀ k (h : k < s.size), s[k] ≠ 47) (hs : s.size ≤ maxLen) (w : World) :
 Calls Tryz.prog 43 #[.string s] w fun e w' => e = .returned (.tuple #[.string s, .string ⟨#[49]⟩, .bool false]) ∧ w = w' := by
 unfold maxLen at hs
 have HN := Lib.hid hn
 clear hn
 go_enter Tryz.func43, Tryz.ntmps43
 go_wp2
 go_loop [5] (fun i => ∃ k : Nat, k ≤ s.size ∧ i = .int .i64 k) (fun i => s.size - (intOf i).toNat)
 case atStart => exact ⟨0, Nat.zero_le _, rfl⟩
 case round =>
  obtain ⟨k, hk, rfl⟩ := hrel
  by_cases hlt : k < s.size
  · have e1 := not47 hlt (HN.out k hlt)
    go_wp2
    go_round
    case rel => exact ⟨k + 1, by omega, by go_num⟩
    case measure => simp [intOf]; omega
  · go_wp2
    go_ret3
    exact ⟨rfl, rfl⟩
theorem split_yes (s a b : ByteArray) (hsz : a.size < s.size) (hn : ∀ k (_ : k < a.size) (h2 : k < s.size), s[k] ≠ 47) (h47 : s[a.size] = 47) (ha : s.extract 0 a.size = a) (hb : s.extract (a.size + 1) s.size = b) (hs : s.size ≤ maxLen) (w : World) :
 Calls Tryz.prog 43 #[.string s] w fun e w' => e = .returned (.tuple #[.string a, .string b, .bool true]) ∧ Below w.heap.size w w' := by
 unfold maxLen at hs
 have HN := Lib.hid hn
 obtain ⟨n, hna⟩ : ∃ n, n = a.size := ⟨_, rfl⟩
 have h47' : ∃ h : n < s.size, s[n] = 47 := ⟨by omega, by subst hna; exact h47⟩
 rw [← hna] at ha hb hsz
 have HA := Lib.hid ha
 have HB := Lib.hid hb
 have HNA := Lib.hid hna
 clear hn ha hb h47 hna
 go_enter Tryz.func43, Tryz.ntmps43
 go_wp2
 go_loop [5] (fun i => ∃ k : Nat, k ≤ n ∧ i = .int .i64 k) (fun i => n - (intOf i).toNat)
 case atStart => exact ⟨0, Nat.zero_le _, rfl⟩
 case round =>
  obtain ⟨k, hk, rfl⟩ := hrel
  have hks : k < s.size := by omega
  by_cases hlt : k < n
  · have e1 := not47 hks (HN.out k (by have := HNA.out; omega) hks)
    clear h47'
    go_wp2
    go_round
    case rel => exact ⟨k + 1, by omega, by go_num⟩
    case measure => simp [intOf]; omega
  · obtain rfl : n = k := by omega
    obtain ⟨h, h47'⟩ := h47'
    have e1 : ((s[n].toNat : Int) == 47) = true := by rw [h47']; rfl
    clear h47' hk hlt
    have i1 : IntKind.i64.wrap ((n : Int) + 1) = (n : Int) + 1 := IntWalk.i64_in _ (by omega)
    have i2 : (0 : Int) ≤ (n : Int) + 1 := by omega
    have i3 : (n : Int) + 1 ≤ (s.size : Int) := by omega
    have i4 : ((n : Int) + 1).toNat = n + 1 := by omega
    have i5 : (n : Int) ≤ (s.size : Int) := by omega
    go_wp2_with fail
    go_quiet (fail)
    go_wp2
    go_ret3
    exact ⟨by rw [HA.out, HB.out]; rfl, below_drewN _ _⟩
end Go.Proofs.YtmigpoiajkihhaaGreatDoor
/- garboardref03: Int, Neg, Inv, Sign, Mul, Add, Sub, Div, Cmp, To: walks over the contracts of what they call. -/
namespace Go.Proofs.YtmigpoiajkihhaaGreatDoor
set_option maxRecDepth 100000
set_option maxHeartbeats 20000000
open Go.RowKit Go.Gb
theorem qInt_raw (k n : Int) (dn : Nat)  (w : World) (h1 : ∀ W, Calls Tryz.prog 112 #[.int .i64 k] W fun e w' => ∃ p c, e = .returned (.agg #[.bool (zneg n), .slice p (zlen n) c]) ∧ RN w' (.slice p (zlen n) c) n.natAbs ∧ Below W.heap.size W w') (h2 : ∀ W, Calls Tryz.prog 63 #[.int .u32 1] W fun e w' => ∃ p c, e = .returned (.slice p (nlen dn) c) ∧ RN w' (.slice p (nlen dn) c) dn ∧ Below W.heap.size W w')  :
 Calls Tryz.prog 84 #[.int .i64 k] w fun e w' => ∃ p c s d, e = .returned (.agg #[.bool (zneg n), .slice p (zlen n) c, .slice s (nlen dn) d]) ∧ RN w' (.slice p (zlen n) c) n.natAbs ∧ RN w' (.slice s (nlen dn) d) dn ∧ Below w.heap.size w w' := by
 have C1 := Lib.hid h1
 have C2 := Lib.hid h2
 clear h1 h2
 go_enter Tryz.func84, Tryz.ntmps84
 go_upto_region 1 with fail
 refine wp_boxes w [(#[.bool false, .slice none 0 0, .slice none 0 0], 55)] rfl ?_
 rintro W0 ⟨k1, hb⟩
 have HB0 := Lib.hid (show Below w.heap.size w W0 from hb)
 have K1 := Lib.hid k1
 clear k1 hb
 go_wp2_with fail
 with_reducible refine (C1.out _).mono ?_
 rintro e W1 ⟨p_1, c_1, rfl, r1_0, hb⟩
 have K1 := Lib.hid (K1.out.below hb)
 have HB1 := Lib.hid (HB0.out.trans (hb.mono HB0.out.size))
 have RN1 := Lib.hid r1_0
 clear hb r1_0
 go_wp2_with fail
 with_reducible refine (C2.out _).mono ?_
 rintro e W2 ⟨p_2, c_2, rfl, r2_0, hb⟩
 have K1 := Lib.hid (K1.out.below hb)
 have RN1 := Lib.hid (RN1.out.below hb)
 have HB2 := Lib.hid (HB1.out.trans (hb.mono HB1.out.size))
 have RD1 := Lib.hid r2_0
 clear hb r2_0
 have dK10 := K1.out.cell (i := 0) rfl
 have dK11 := K1.out.cell (i := 1) rfl
 have dK12 := K1.out.cell (i := 2) rfl
 have fK10 := K1.out.frozen (i := 0)
 have fK11 := K1.out.frozen (i := 1)
 have fK12 := K1.out.frozen (i := 2)
 go_wp2
 exact bodyPost_ret (v := .agg #[.bool (zneg n), .slice p_1 (zlen n) c_1, .slice p_2 (nlen dn) c_2]) (by simp [results, Tryz.results84, go_sem, dK10, dK11, dK12]) rfl ⟨_, _, _, _, rfl, (store_rn [.bool (zneg n), .slice p_1 (zlen n) c_1, .slice p_2 (nlen dn) c_2] RN1.out K1.out (by simp [noInt]) (by simp [plainV])), (store_rn [.bool (zneg n), .slice p_1 (zlen n) c_1, .slice p_2 (nlen dn) c_2] RD1.out K1.out (by simp [noInt]) (by simp [plainV])), (store_below (l := [.bool (zneg n), .slice p_1 (zlen n) c_1, .slice p_2 (nlen dn) c_2]) (i := 0) (by omega) HB2.out)⟩
end Go.Proofs.YtmigpoiajkihhaaGreatDoor
/- garboardref03: Int, Neg, Inv, Sign, Mul, Add, Sub, Div, Cmp, To: walks over the contracts of what they call. -/
namespace Go.Proofs.YtmigpoiajkihhaaGreatDoor
set_option maxRecDepth 100000
set_option maxHeartbeats 20000000
open Go.RowKit Go.Gb
theorem qTo_one (n : Int) (en : Nat) (sn : ByteArray) (p1 : Option Addr) (c1 : Nat) (s1 : Option Addr) (d1 : Nat) (w : World) (h1 : ∀ p1 c1 W, RN W (.slice p1 (zlen n) c1) n.natAbs → Calls Tryz.prog 56 #[.agg #[.bool (zneg n), .slice p1 (zlen n) c1]] W fun e w' => e = .returned (.string sn) ∧ Below W.heap.size W w') (h2 : ∀ s1 d1 W, RN W (.slice s1 (nlen en) d1) en → Calls Tryz.prog 65 #[.slice s1 (nlen en) d1] W fun e w' => e = .returned (.string ⟨#[49]⟩) ∧ Below W.heap.size W w') (r1 : RN w (.slice p1 (zlen n) c1) n.natAbs) (t1 : RN w (.slice s1 (nlen en) d1) en) :
 Calls Tryz.prog 39 #[.agg #[.bool (zneg n), .slice p1 (zlen n) c1, .slice s1 (nlen en) d1]] w fun e w' => e = .returned (.string sn) ∧ Below w.heap.size w w' := by
 have C1 := Lib.hid h1
 have C2 := Lib.hid h2
 have R1 := Lib.hid r1
 have T1 := Lib.hid t1
 clear h1 h2 r1 t1
 go_enter Tryz.func39, Tryz.ntmps39
 go_upto_region 1 with fail
 refine wp_boxes w [(#[.bool (zneg n), .slice p1 (zlen n) c1, .slice s1 (nlen en) d1], 55)] rfl ?_
 rintro W0 ⟨k1, hb⟩
 have HB0 := Lib.hid (show Below w.heap.size w W0 from hb)
 have R1 := Lib.hid (R1.out.below HB0.out)
 have T1 := Lib.hid (T1.out.below HB0.out)
 have K1 := Lib.hid k1
 clear k1 hb
 have dK10 := K1.out.cell (i := 0) rfl
 have dK11 := K1.out.cell (i := 1) rfl
 go_wp2_with fail
 with_reducible refine (C1.out _ _ _ R1.out).mono ?_
 rintro e W1 ⟨rfl, hb⟩
 clear dK10 dK11
 have K1 := Lib.hid (K1.out.below hb)
 have T1 := Lib.hid (T1.out.below hb)
 have HB1 := Lib.hid (HB0.out.trans (hb.mono HB0.out.size))
 clear hb
 have dK12 := K1.out.cell (i := 2) rfl
 go_wp2_with fail
 with_reducible refine (C2.out _ _ _ T1.out).mono ?_
 rintro e W2 ⟨rfl, hb⟩
 clear dK12
 have HB2 := Lib.hid (HB1.out.trans (hb.mono HB1.out.size))
 clear hb
 go_wp2
 exact bodyPost_ret (v := .string sn) (by simp [results, Tryz.results39, go_sem]) rfl ⟨rfl, HB2.out⟩
theorem qTo_more (n : Int) (en : Nat) (sn sd res : ByteArray) (hsd : (sd.toList == [49]) = false) (hr : sn ++ (⟨#[47]⟩ ++ sd) = res) (hl1 : sn.size ≤ 10000) (hl2 : sd.size ≤ 10000) (p1 : Option Addr) (c1 : Nat) (s1 : Option Addr) (d1 : Nat) (w : World) (h1 : ∀ p1 c1 W, RN W (.slice p1 (zlen n) c1) n.natAbs → Calls Tryz.prog 56 #[.agg #[.bool (zneg n), .slice p1 (zlen n) c1]] W fun e w' => e = .returned (.string sn) ∧ Below W.heap.size W w') (h2 : ∀ s1 d1 W, RN W (.slice s1 (nlen en) d1) en → Calls Tryz.prog 65 #[.slice s1 (nlen en) d1] W fun e w' => e = .returned (.string sd) ∧ Below W.heap.size W w') (r1 : RN w (.slice p1 (zlen n) c1) n.natAbs) (t1 : RN w (.slice s1 (nlen en) d1) en) :
 Calls Tryz.prog 39 #[.agg #[.bool (zneg n), .slice p1 (zlen n) c1, .slice s1 (nlen en) d1]] w fun e w' => e = .returned (.string res) ∧ Below w.heap.size w w' := by
 have C1 := Lib.hid h1
 have C2 := Lib.hid h2
 have R1 := Lib.hid r1
 have T1 := Lib.hid t1
 have HR := Lib.hid hr
 have HL1 := Lib.hid hl1
 have HL2 := Lib.hid hl2
 have k0 : ¬ sd.toList = [49] := by simpa using hsd
 clear hr hl1 hl2
 clear h1 h2 r1 t1
 go_enter Tryz.func39, Tryz.ntmps39
 go_upto_region 1 with fail
 refine wp_boxes w [(#[.bool (zneg n), .slice p1 (zlen n) c1, .slice s1 (nlen en) d1], 55)] rfl ?_
 rintro W0 ⟨k1, hb⟩
 have HB0 := Lib.hid (show Below w.heap.size w W0 from hb)
 have R1 := Lib.hid (R1.out.below HB0.out)
 have T1 := Lib.hid (T1.out.below HB0.out)
 have K1 := Lib.hid k1
 clear k1 hb
 have dK10 := K1.out.cell (i := 0) rfl
 have dK11 := K1.out.cell (i := 1) rfl
 go_wp2_with fail
 with_reducible refine (C1.out _ _ _ R1.out).mono ?_
 rintro e W1 ⟨rfl, hb⟩
 clear dK10 dK11
 have K1 := Lib.hid (K1.out.below hb)
 have T1 := Lib.hid (T1.out.below hb)
 have HB1 := Lib.hid (HB0.out.trans (hb.mono HB0.out.size))
 clear hb
 have dK12 := K1.out.cell (i := 2) rfl
 go_wp2_with fail
 with_reducible refine (C2.out _ _ _ T1.out).mono ?_
 rintro e W2 ⟨rfl, hb⟩
 clear dK12
 have HB2 := Lib.hid (HB1.out.trans (hb.mono HB1.out.size))
 clear hb
 have ha1 := run_string_add_sum (P := Tryz.prog) W2 ⟨#[47]⟩ sd (by have := HL2.out; have e : (⟨#[47]⟩ : ByteArray).size = 1 := rfl; omega)
 have ha2 := run_string_add_sum (P := Tryz.prog) W2 sn (⟨#[47]⟩ ++ sd) (by have := HL1.out; have := HL2.out; have e : (⟨#[47]⟩ : ByteArray).size = 1 := rfl; rw [ByteArray.size_append]; omega)
 rw [HR.out] at ha2
 go_wp2
 exact bodyPost_ret (v := .string res) (by simp [results, Tryz.results39, go_sem]) rfl ⟨rfl, HB2.out⟩
end Go.Proofs.YtmigpoiajkihhaaGreatDoor
/- garboardref03's arithmetic in numbers. -/
namespace Go.Proofs.YtmigpoiajkihhaaGreatDoor
open Go.RowKit Go.Gb
theorem z_div (z : Int) (g : Nat) (hg : g ∣ z.natAbs) : z / (g : Int) = if zneg z then -((z.natAbs / g : Nat) : Int) else ((z.natAbs / g : Nat) : Int) := by
 have hd : (g : Int) ∣ (z.natAbs : Int) := Int.natCast_dvd_natCast.2 hg
 unfold zneg
 by_cases h : z < 0
 · rw [decide_eq_true h, if_pos rfl]
   have e : z = -(z.natAbs : Int) := by omega
   conv => lhs; rw [e]
   rw [Int.neg_ediv_of_dvd hd, Int.natCast_ediv]
 · rw [decide_eq_false h, if_neg (by simp), Int.natCast_ediv]
   congr 1
   omega
theorem sLowest (z : Int) (dn : Nat) (q : Rat) (hq : mkRat z dn = q) (hd : dn ≠ 0) (hz : zlen z ≤ 50000) (hl : nlen dn ≤ 50000) (p1 : Option Addr) (c1 : Nat) (s2 : Option Addr) (d2 : Nat) (W : World) (r1 : RN W (.slice p1 (zlen z) c1) z.natAbs) (t2 : RN W (.slice s2 (nlen dn) d2) dn) :
 Calls Tryz.prog 40 #[.agg #[.bool (zneg z), .slice p1 (zlen z) c1], .slice s2 (nlen dn) d2] W fun e w' => ∃ p c s d, e = .returned (.agg #[.bool (zneg q.num), .slice p (zlen q.num) c, .slice s (nlen q.den) d]) ∧ RN w' (.slice p (zlen q.num) c) q.num.natAbs ∧ RN w' (.slice s (nlen q.den) d) q.den ∧ Below W.heap.size W w' := by
 obtain ⟨hn, he⟩ := mk_parts z dn hd
 rw [hq] at hn he
 obtain ⟨g, hg⟩ : ∃ g, g = Nat.gcd z.natAbs dn := ⟨_, rfl⟩
 rw [← hg] at hn he
 by_cases g1 : g = 1
 · rw [g1] at hn he
   have e1 : q.num = z := by rw [hn]; simp
   have e2 : q.den = dn := by rw [he]; simp
   rw [e1, e2]
   exact lowest_one z dn hz hl p1 c1 s2 d2 (by rw [← hg, g1]) W r1 t2
 · have g0 : g ≠ 0 := by rw [hg]; exact Nat.ne_of_gt (Nat.gcd_pos_of_pos_right _ (by omega))
   have hy := z_div z g (by rw [hg]; exact Nat.gcd_dvd_left _ _)
   rw [hn, he]
   by_cases gl : nlen g = 1
   · exact lowest_word z dn hz hl p1 c1 s2 d2 g _ _ _ _ _ hg.symm g0 g1 gl rfl rfl rfl rfl hy W r1 t2
   · exact lowest_long z dn hz hl p1 c1 s2 d2 g _ _ _ _ _ hg.symm g0 gl rfl rfl rfl rfl hy W r1 t2
theorem sQInt (k : Int) (q : Rat) (n : Nat) (hk : (n : Int) = k) (h1 : n ≤ 1000000) (hn : q.num = k) (he : q.den = 1)  (W : World)  :
 Calls Tryz.prog 84 #[.int .i64 k] W fun e w' => ∃ p c s d, e = .returned (.agg #[.bool (zneg q.num), .slice p (zlen q.num) c, .slice s (nlen q.den) d]) ∧ RN w' (.slice p (zlen q.num) c) q.num.natAbs ∧ RN w' (.slice s (nlen q.den) d) q.den ∧ Below W.heap.size W w' := by
 refine qInt_raw k q.num q.den W (fun W => ?_) (fun W => ?_)
 · rw [hn]; exact sSmall k n hk (by omega) (by omega) W
 · rw [he]; exact cSmallL 1 1 rfl (by decide) W
theorem sQTo (q : Rat) (s : ByteArray) (hs : Sq q = s) (hq : SmQ 9000 q) (p1 : Option Addr) (c1 : Nat) (s1 : Option Addr) (d1 : Nat) (W : World) (r1 : RN W (.slice p1 (zlen q.num) c1) q.num.natAbs) (t1 : RN W (.slice s1 (nlen q.den) d1) q.den) :
 Calls Tryz.prog 39 #[.agg #[.bool (zneg q.num), .slice p1 (zlen q.num) c1, .slice s1 (nlen q.den) d1]] W fun e w' => e = .returned (.string s) ∧ Below W.heap.size W w' := by
 have l1 : zlen q.num ≤ 9000 := sm_digs hq.1 (by decide)
 have l2 : nlen q.den ≤ 9000 := sm_digs hq.2 (by decide)
 have z1 : (Sn q.num.natAbs).size ≤ 9000 := sn_size hq.1 (by decide)
 have z2 : (Sn q.den).size ≤ 9000 := sn_size hq.2 (by decide)
 have z3 : (Sz q.num).size ≤ 9001 := sz_size hq.1 (by decide)
 have h1 := fun p c W h => sTo q.num _ rfl (Nat.le_trans l1 (by decide)) (by omega) p c W h
 have h2 := fun (s : Option Addr) (d : Nat) W h => RTo_any (.slice s (nlen q.den) d) q.den (Nat.le_trans l2 (by decide)) W h
 subst hs
 by_cases hd : q.den = 1
 · unfold Sq
   rw [if_pos hd]
   exact qTo_one q.num q.den (Sz q.num) p1 c1 s1 d1 W h1 (fun s d W h => by
    have := h2 s d W h
    rwa [hd, show Sn 1 = ⟨#[49]⟩ by decide +kernel, ← hd] at this) r1 t1
 · unfold Sq
   rw [if_neg hd]
   refine qTo_more q.num q.den (Sz q.num) (Sn q.den) _ ?_ ?_ (by omega) (by omega) p1 c1 s1 d1 W h1 h2 r1 t1
   · rw [beq_eq_false_iff_ne]
     intro e
     apply hd
     have e2 : Sn q.den = Sn 1 := by
        apply ByteArray.ext; apply Array.ext'
        rw [toList_data] at e
        rw [e]; decide +kernel
     exact sn_inj e2
   · apply ByteArray.ext; apply Array.ext'
     simp [Sn]
end Go.Proofs.YtmigpoiajkihhaaGreatDoor
