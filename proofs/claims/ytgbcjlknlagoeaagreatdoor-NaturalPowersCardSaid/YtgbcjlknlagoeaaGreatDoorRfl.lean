/- garboardref01.Floor: a walk. -/
import Derived.Test.YtgbcjlknlagoeaaGreatDoorMri
import Derived.Test.YtgbcjlknlagoeaaGreatDoorNumR
import Derived.Test.YtgbcjlknlagoeaaGreatDoorMne
import Derived.Test.YtgbcjlknlagoeaaGreatDoorMnu
import Derived.Deep.RegionHeld3
import Derived.Deep.AppendLies
import Derived.Deep.LoopGhost
import Derived.Deep.CutRange
namespace Go.Proofs.YtgbcjlknlagoeaaGreatDoor
open Go.RowKit Go.Gb

theorem cells_1 {w : World} {b o : Nat} {u : Value} (h : w.cell? ⟨b, o, none⟩ = some u) : ∀ j v, [u][j]? = some v → w.cell? ((⟨b, o, none⟩ : Addr).add j) = some v := by
  intro j v hj
  match j, hj with
  | 0, hj => simp at hj; subst hj; rw [Lib.add_plain]; exact h
theorem own_zeros {w : World} {B g q : Nat} {zs : List Nat} (hz : zs = List.replicate q 0) (h : Blk4 w g zs) (hB : B ≤ g) (hm : q ≤ maxLen) : w.ownsRow B 106 1 (.slice (some ⟨g, 0, none⟩) q q) q (cls .u32 (List.replicate q 0)) := by
  subst hz
  have h2 := h.own hB (by rw [List.length_replicate]; exact hm)
  unfold Own at h2
  rw [List.length_replicate] at h2
  exact h2
theorem ten_pow_digs (j q r : Nat) (hq : q = j / 9) (hr : r = j % 9) : digs (10 ^ j) = List.replicate q 0 ++ [10 ^ r] ∧ 10 ^ r < BB := by
  have hr9 : r < 9 := by omega
  have hlt : 10 ^ r < BB := by
    rw [BB_eq]
    exact Nat.lt_of_le_of_lt (Nat.pow_le_pow_right (by decide) (show r ≤ 8 by omega)) (by decide)
  have hj : j = r + 9 * q := by omega
  have e : 10 ^ j = 10 ^ r * BB ^ q := by
    rw [hj, Nat.pow_add, Nat.pow_mul, BB_eq]
  have h0 : 10 ^ r ≠ 0 := Nat.ne_of_gt (Nat.pow_pos (by decide))
  refine ⟨?_, hlt⟩
  rw [e, digs_shift h0, Go.Gb.digs_one (by first | exact h0 | exact Nat.pos_of_ne_zero h0) hlt]

theorem rsmall_one (P : Nat) (h0 : 0 < P) (hB : P < BB) (W : World) :
    Calls Tryz.prog 116 #[.int .u32 (P : Int)] W fun e w' => ∃ b o c, e = .returned (.slice (some ⟨b, o, none⟩) 1 c) ∧ w'.cell? ⟨b, o, none⟩ = some (.int .u32 (P : Int)) ∧ b < w'.heap.size ∧ Below W.heap.size W w' := by
  refine (RSmall1 P (by rw [BB_eq] at hB; omega) W).mono ?_
  rintro e w' ⟨v, rfl, ho, hb⟩
  rw [Go.Gb.digs_one (by omega) hB] at ho
  obtain ⟨b, o, c, rfl, _, _, k, r⟩ := rd_pos ho.rd (by simp)
  have hr := r 0 (by simp)
  rw [List.getD_cons_zero, Nat.add_zero] at hr
  exact ⟨b, o, c, rfl, hr, k, hb⟩
theorem made_arr (n : Nat) : madeCells #[Value.int .u32 0] n = (cls .u32 (List.replicate n 0)).toArray := by
  rw [← madeCells_u32 n]
theorem make_u32 (W : World) (q : Nat) (hq : q ≤ 1000) : (Instr.makeSlice 49 (.int .i64 (q : Int)) (.int .i64 (q : Int))).run Tryz.prog W = .ok (.slice (some ⟨W.heap.size, 0, none⟩) q q) (W.alloc (.cells (cls .u32 (List.replicate q 0)).toArray 106)) := by
  obtain ⟨i0, hi, hz0, hz1, hz2⟩ := info_parts Tryz.info106
  have h := run_make (P := Tryz.prog) W 49 106 i0 (.int .u32 0) Tryz.underlying49 hi hz0 .i64 .i64 (q : Int) (q : Int) (by omega) (by omega) (by rw [hz2]; omega) (by omega)
  rw [h, Int.toNat_natCast, hz1, Nat.mul_one, ← made_arr]
  rfl

set_option maxRecDepth 100000 in
set_option maxHeartbeats 32000000 in
theorem RFloor_any (v : Value) (a : Nat) (hl : (digs a).length ≤ 1000) (w : World) (h : Rd .u32 w v (digs a)) :
    Calls Tryz.prog 71 #[v] w fun e w' => ∃ v' s, e = .returned v' ∧ Rd .u32 w' v' (digs s) ∧ s * s ≤ a ∧ a < (s + 1) * (s + 1) ∧ Below w.heap.size w w' := by
  obtain ⟨i0, hi, hz0, hz1, hz2⟩ := info_parts Tryz.info106
  obtain ⟨p0, c0, rfl⟩ := rd_form h
  have HV := Lib.hid h
  have HL := Lib.hid hl
  obtain ⟨n, hn⟩ : ∃ n, n = (digs a).length := ⟨_, rfl⟩
  rw [← hn] at HV hl ⊢
  obtain ⟨k2, hk2⟩ : ∃ k2, k2 = (n + 1) / 2 := ⟨_, rfl⟩
  have e1 : ((n : Int) + 1) / 2 = (k2 : Int) := by omega
  have i1 : (n : Int) ≤ 1000 := by omega
  have i2 : (k2 : Int) ≤ 501 := by omega
  clear hn h hl hk2
  go_enter Tryz.func71, Tryz.ntmps71
  go_wp2
  have HE := Lib.hid (show Rd .u32 (w.alloc (.cells #[] 106)) (.slice (some ⟨w.heap.size, 0, none⟩) 0 0) (digs 0) by rw [digs_zero]; exact Or.inr ⟨w.heap.size, 0, 0, rfl, Nat.le_refl _, by unfold maxLen; omega, by simp, fun i hi => absurd hi (Nat.not_lt_zero _)⟩)
  have HA0 := Lib.hid ((Below.refl w.heap.size w).alloc (Nat.le_refl _) (.cells #[] 106))
  go_loopg [3, 4, 5, 6] (9 * k2 + 1) (fun k s3 s4 _ _ wr => ∃ (o : Nat) (i : Int), s4 = .int .i64 i ∧ i = (k : Int) - 1 ∧ i ≤ 9 * (k2 : Int) ∧ Hid (o * o ≤ a) ∧ Hid (k = 0 → a < (o + 1) * (o + 1)) ∧ Hid (Rd .u32 wr s3 (digs o)) ∧ Hid (Below w.heap.size w wr))
  case atStart => exact ⟨0, 9 * (k2 : Int), by first | rfl | go_num | (rw [Int.mul_comm]), by omega, by omega, by unfold Hid; omega, by unfold Hid; intro h; omega, HE, HA0⟩
  case round =>
    obtain ⟨o, i, rfl, hik, hi9, hoo, hend, ho, hn⟩ := hrel
    clear HE HA0 e1
    by_cases hk : gk = 0
    · obtain rfl : i = -1 := by omega
      have HX := Lib.hid (hend.out hk)
      clear hik hi9 hk hend
      go_wp2
      go_ret
      exact ⟨_, o, rfl, ho.out, hoo.out, HX.out, hn.out⟩
    · obtain ⟨j, rfl⟩ : ∃ j : Nat, i = (j : Int) := ⟨gk - 1, by omega⟩
      have Hgk := Lib.hid (show gk = j + 1 by omega)
      obtain ⟨q, hq⟩ : ∃ q, q = j / 9 := ⟨_, rfl⟩
      obtain ⟨r, hr⟩ : ∃ r, r = j % 9 := ⟨_, rfl⟩
      obtain ⟨t1, t2⟩ := ten_pow_digs j q r hq hr
      obtain ⟨P, hP⟩ : ∃ P, P = 10 ^ r := ⟨_, rfl⟩
      have e2 : (j : Int) / 9 = (q : Int) := by omega
      have e3 : (j : Int) % 9 = (r : Int) := by omega
      have i3 : (q : Int) ≤ 501 := by omega
      have i4 : (r : Int) ≤ 8 := by omega
      have i5 : (j : Int) ≤ 4509 := by omega
      have Hr := Lib.hid (show r ≤ 64 by omega)
      have Hi9 := Lib.hid hi9
      rw [← hP] at t1 t2
      have P0 : 0 < P := by rw [hP]; exact Nat.pow_pos (by decide)
      have dP : digs P = [P] := Go.Gb.digs_one (by omega) t2
      have d10 : (digs 10).length ≤ 1000 := by rw [Go.Gb.digs_one (by omega) (by rw [BB_eq]; omega)]; simp
      have HPw := Lib.hid (fun W v (hv : Rd .u32 W v (digs 10)) => RPower_any v 10 r Hr.out d10 W hv)
      rw [← hP] at HPw
      have HWd := Lib.hid (fun W v (hv : Rd .u32 W v (digs P)) => Rword v P (by rw [dP]; simp) W hv)
      have HSm := Lib.hid (fun W => rsmall_one P (by omega) t2 W)
      have i6 : (P : Int) ≤ 999999999 := by rw [BB_eq] at t2; omega

      have HD := Lib.hid t1
      have HOl := Lib.hid (show (digs o).length ≤ 1000 from Nat.le_trans (digs_length_mono (Nat.le_trans (Nat.le_mul_self o) hoo.out)) HL.out)
      have hmk : ∀ W : World, (Instr.makeSlice 49 (.int .i64 (q : Int)) (.int .i64 (q : Int))).run Tryz.prog W = .ok (.slice (some ⟨W.heap.size, 0, none⟩) q q) (W.alloc (.cells (cls .u32 (List.replicate q 0)).toArray 106)) := fun W => make_u32 W q (by omega)
      have c1 : IntKind.u32.wrap (P : Int) = (P : Int) := IntWalk.u32_in _ (by omega)
      have c2 : IntKind.i64.wrap (q : Int) = (q : Int) := IntWalk.i64_in _ (by omega)
      have c3 : (j : Int).tmod 9 = (r : Int) := by rw [Int.tmod_eq_emod_of_nonneg (by omega)]; exact e3
      have HB0 := Lib.hid (Below.refl wr.heap.size wr)
      clear hq hr hP t1 t2 dP d10 hik hi9 hk hend
      go_upto_region 5 with fail
      go_cut [5] from 13 to 37 (fun v5 wx => Hid (Rd .u32 wx v5 (digs (10 ^ j))) ∧ Hid (Below wr.heap.size wr wx))
      case first =>
        go_region_held3 (fun _ => True) (first | trivial | go_keep) (first | (go_at_call 116; refine (RSmall1 10 (by omega) _).mono ?_; rintro e w1 ⟨va, rfl, ha, hb1⟩; have HB1 := Lib.hid (show Below wr.heap.size wr w1 from Below.trans (by first | exact HB0.out | exact HB0.out.drew | exact HB0.out.alloc HB0.out.size _ | exact (HB0.out.alloc HB0.out.size _).drew | exact HB0.out.drew.alloc HB0.out.size _ | exact (HB0.out.drew.alloc HB0.out.size _).drew) (hb1.mono (by have := HB0.out.size; first | exact this | (simp; done) | (simp; omega)))); have HA := Lib.hid ha.rd) | (go_at_call 74; refine (HPw.out _ va ?ra).mono ?_; (case ra => (first | exact HA.out | exact HA.out.below ((Below.refl _ _).alloc (Nat.le_refl _) _) | exact HA.out.below (Below.refl _ _).drew)); rintro e w2 ⟨vp, rfl, hp, hb2⟩; have HB2 := Lib.hid (show Below wr.heap.size wr w2 from Below.trans (by first | exact HB1.out | exact HB1.out.drew | exact HB1.out.alloc HB1.out.size _ | exact (HB1.out.alloc HB1.out.size _).drew | exact HB1.out.drew.alloc HB1.out.size _ | exact (HB1.out.drew.alloc HB1.out.size _).drew) (hb2.mono (by have := HB1.out.size; first | exact this | (simp; done) | (simp; omega)))); have HP := Lib.hid hp.rd) | (go_at_call 123; refine (HWd.out _ vp ?rp).mono ?_; (case rp => (first | exact HP.out | exact HP.out.below ((Below.refl _ _).alloc (Nat.le_refl _) _) | exact HP.out.below (Below.refl _ _).drew)); rintro e w' ⟨rfl, rfl⟩) | (go_at_call 116; refine (HSm.out _).mono ?_; rintro e w3 ⟨bS, oS, cS, rfl, hcS, kS, hb3⟩; have HB3 := Lib.hid (show Below wr.heap.size wr w3 from Below.trans (by first | exact HB2.out | exact HB2.out.drew | exact HB2.out.alloc HB2.out.size _ | exact (HB2.out.alloc HB2.out.size _).drew | exact HB2.out.drew.alloc HB2.out.size _ | exact (HB2.out.drew.alloc HB2.out.size _).drew) (hb3.mono (by have := HB2.out.size; first | exact this | (simp; done) | (simp; omega))))) | (refine step_append_lies _ (by rfl) _ _ _ (by rfl) wr.heap.size 106 i0 (.int .u32 0) 1 4 Tryz.underlying49 hi hz0 hz1 hz2 rfl (by decide) _ q (cls .u32 (List.replicate q 0)) (by rfl) (by first | exact own_zeros rfl (((((Blk4.alloc _ _ rfl).below hb1).below hb2).below hb3)) (by first | exact Nat.le_refl _ | (have := HB1.out.size; omega) | (have := HB2.out.size; omega) | (have := HB3.out.size; omega)) (by unfold maxLen; omega) | exact own_zeros rfl ((((((Blk4.alloc _ _ rfl).below (Below.refl _ _).drew).below hb1).below hb2).below hb3)) (by first | exact Nat.le_refl _ | (have := HB1.out.size; omega) | (have := HB2.out.size; omega) | (have := HB3.out.size; omega)) (by unfold maxLen; omega) | exact own_zeros rfl ((((Blk4.alloc _ _ rfl).below hb2).below hb3)) (by first | exact Nat.le_refl _ | (have := HB1.out.size; omega) | (have := HB2.out.size; omega) | (have := HB3.out.size; omega)) (by unfold maxLen; omega) | exact own_zeros rfl (((((Blk4.alloc _ _ rfl).below (Below.refl _ _).drew).below hb2).below hb3)) (by first | exact Nat.le_refl _ | (have := HB1.out.size; omega) | (have := HB2.out.size; omega) | (have := HB3.out.size; omega)) (by unfold maxLen; omega) | exact own_zeros rfl (((Blk4.alloc _ _ rfl).below hb3)) (by first | exact Nat.le_refl _ | (have := HB1.out.size; omega) | (have := HB2.out.size; omega) | (have := HB3.out.size; omega)) (by unfold maxLen; omega) | exact own_zeros rfl ((((Blk4.alloc _ _ rfl).below (Below.refl _ _).drew).below hb3)) (by first | exact Nat.le_refl _ | (have := HB1.out.size; omega) | (have := HB2.out.size; omega) | (have := HB3.out.size; omega)) (by unfold maxLen; omega) | exact own_zeros rfl ((Blk4.alloc _ _ rfl)) (by first | exact Nat.le_refl _ | (have := HB1.out.size; omega) | (have := HB2.out.size; omega) | (have := HB3.out.size; omega)) (by unfold maxLen; omega) | exact own_zeros rfl (((Blk4.alloc _ _ rfl).below (Below.refl _ _).drew)) (by first | exact Nat.le_refl _ | (have := HB1.out.size; omega) | (have := HB2.out.size; omega) | (have := HB3.out.size; omega)) (by unfold maxLen; omega)) ⟨bS, oS, none⟩ 1 cS [.int .u32 (P : Int)] (by rfl) (by rfl) (by first | exact cells_1 hcS | exact cells_1 (by rw [wc_alloc kS]; exact hcS)) (by simp [Value.oneCell']) (by omega) (by unfold maxLen; omega) (by omega) (by have := HB3.out.size; first | exact this | (simp; done) | (simp; omega)) _ rfl ?_; intro gg cap w5 hown hgrow hat hlt) | fail)
        all_goals
          have HB5 := Lib.hid (show Below wr.heap.size wr w5 from Below.grown (by first | exact HB3.out | exact HB3.out.drew | exact HB3.out.alloc HB3.out.size _) hgrow (by have := HB3.out.size; first | exact this | (simp; done) | (simp; omega)) (fun k hk => by cases hk; first | exact Nat.le_refl _ | (have := HB1.out.size; omega) | (have := HB2.out.size; omega) | (have := HB3.out.size; omega)))
          have HR5 := Lib.hid (show Rd .u32 w5 (.slice (some ⟨gg, 0, none⟩) (q + 1) cap) (digs (10 ^ j)) by
            rw [HD.out]
            have h5 : Own .u32 106 wr.heap.size w5 (.slice (some ⟨gg, 0, none⟩) (q + 1) cap) (List.replicate q 0 ++ [P]) := by
              unfold Own
              rw [cls_append, List.length_append, List.length_replicate]
              exact hown
            exact h5.rd)
          go_wp2_with fail
          go_meet
          exact ⟨HR5, HB5⟩
      case rest =>
        obtain ⟨hst, hb5⟩ := hcut
        have HO := Lib.hid (ho.out.below hb5.out)
        have HW := Lib.hid (hn.out.trans (hb5.out.mono hn.out.size))
        obtain ⟨T, hT⟩ : ∃ T, T = 10 ^ j := ⟨_, rfl⟩
        have HT0 := Lib.hid (show 0 < T by rw [hT]; exact Nat.pow_pos (by decide))
        have HTl := Lib.hid (show (digs T).length ≤ 1000 by rw [hT, HD.out, List.length_append, List.length_replicate]; first | (simp; done) | (simp; omega))
        have HTj := Lib.hid (show j = 0 → T = 1 by intro h; rw [hT, h, Nat.pow_zero])
        rw [← hT] at hst
        clear hb5 hn ho hT HD HSm HWd HPw hmk c1 c2 c3 e2 e3 i3 i4 i6 P0 HB0 Hr HOl
        go_wp2
        go_loopg [3, 6] (a + 1 - o) (fun k s3 _ wx => ∃ o' : Nat, Hid (k = a + 1 - o') ∧ Hid (o' * o' ≤ a) ∧ Hid (Rd .u32 wx s3 (digs o')) ∧ Hid (Below wc.heap.size wc wx))
        case atStart => exact ⟨o, Lib.hid rfl, hoo, HO, Lib.hid (Below.refl _ _)⟩
        case round =>
          obtain ⟨u, hk2, huu, hu, hn2⟩ := hrel
          clear HO hoo
          have hul : (digs u).length ≤ 1000 := Nat.le_trans (digs_length_mono (Nat.le_trans (Nat.le_mul_self u) huu.out)) HL.out
          have htl := HTl.out
          have hsl := digs_add_len (a := u) (b := T) (show (digs u).length ≤ 1000 from hul) htl
          have hml := digs_mul_len (u + T) (u + T)
          have HSl := Lib.hid hsl
          have HPl := Lib.hid (RPlus_any _ _ u T (by omega) (by omega) wr hu.out (hst.out.below hn2.out))
          have HCl := Lib.hid (show (digs ((u + T) * (u + T))).length ≤ 100000 by omega)
          obtain ⟨N, hN⟩ : ∃ N, N = u + T := ⟨_, rfl⟩
          rw [← hN] at HPl HSl HCl
          have HN := Lib.hid hN
          clear hul htl hsl hml hN
          go_wp2_with fail
          refine HPl.out.mono ?_
          rintro e w2 ⟨vn, rfl, hvn, hb2⟩
          have HVN := Lib.hid hvn.rd
          have HN2 := Lib.hid (hn2.out.trans (hb2.mono hn2.out.size))
          have HU2 := Lib.hid (hu.out.below hb2)
          have HTm := Lib.hid (RTimes_any vn vn N N (by have := HSl.out; omega) (by have := HSl.out; omega) w2 HVN.out HVN.out)
          clear hvn hb2 HPl
          go_wp2_with fail
          refine HTm.out.mono ?_
          rintro e w3 ⟨vq, rfl, hvq, hb3⟩
          have HN3 := Lib.hid (HN2.out.trans (hb3.mono HN2.out.size))
          have HU3 := Lib.hid (HU2.out.below hb3)
          have HVN3 := Lib.hid (HVN.out.below hb3)
          have HWW := Lib.hid (HW.out.trans (HN3.out.mono HW.out.size))
          have HCm := Lib.hid (RCmp_any vq (.slice p0 n c0) (N * N) a (by have := HCl.out; have := HL.out; omega) w3 hvq.rd (HV.out.below HWW.out))
          obtain ⟨cc, hcc⟩ : ∃ cc, cc = cmpN (N * N) a := ⟨_, rfl⟩
          rw [← hcc] at HCm
          by_cases hle : N * N ≤ a
          · have hd : decide (0 < cc) = false := decide_eq_false (by rw [hcc]; unfold cmpN; split <;> (try split) <;> omega)
            have HLe := Lib.hid hle
            clear hvq hb3 HTm hcc hle
            go_wp2_with fail
            refine HCm.out.mono ?_
            rintro e w4 ⟨rfl, hb4⟩
            have HN4 := Lib.hid (HN3.out.trans (hb4.mono HN3.out.size))
            have HVN4 := Lib.hid (HVN3.out.below hb4)
            clear hb4
            go_wp2
            go_roundg (a + 1 - N)
            case measure =>
              have h1 := hk2.out
              have h2 := HN.out
              have h3 := HT0.out
              have h4 := Nat.le_trans (Nat.le_mul_self N) HLe.out
              omega
            case rel => exact ⟨N, Lib.hid rfl, HLe, HVN4, HN4⟩
          · have hd : decide (0 < cc) = true := decide_eq_true (by rw [hcc]; unfold cmpN; split <;> (try split) <;> omega)
            have HGt := Lib.hid (show a < N * N by omega)
            clear hvq hb3 HTm hcc hle
            go_wp2_with fail
            refine HCm.out.mono ?_
            rintro e w4 ⟨rfl, hb4⟩
            have HN4 := Lib.hid (HW.out.trans ((HN3.out.trans (hb4.mono HN3.out.size)).mono HW.out.size))
            have HU4 := Lib.hid (HU3.out.below hb4)
            clear hb4
            go_wp2
            go_roundg j
            case measure => have := Hgk.out; omega
            case rel =>
              refine ⟨u, (j : Int) - 1, by first | rfl | go_num, by omega, by have := Hi9.out; omega, huu, Lib.hid ?_, HU4, HN4⟩
              intro h0
              have h1 := HGt.out
              rw [HN.out, HTj.out h0] at h1
              exact h1

end Go.Proofs.YtgbcjlknlagoeaaGreatDoor
