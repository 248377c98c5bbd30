/- The numbers of garboardref01: Valid, From, Cmp and Compare: walks. -/
import Derived.Test.YtohaocgbclpknaaGreatDoorMz10q
namespace Go.Proofs.YtohaocgbclpknaaGreatDoor
open Go.RowKit Go.Gb

theorem Tryz.info74 : (Tryz.prog.info? 74).map (fun i => (i.zero, i.size, i.bytes)) = some (some (.int .u32 0), 1, 4) := by kernel_rfl

set_option maxHeartbeats 800000 in
theorem rtrim_some (b o c : Nat) (xs : List Nat) (hB : ∀ x ∈ xs, x < BB) (hxc : xs.length ≤ c) (hcm : c ≤ maxLen) (w : World)
    (hc : ∀ i, i < xs.length → w.cell? ⟨b, o + i, none⟩ = some (.int .u32 ((xs.getD i 0 : Nat) : Int))) :
    Calls Tryz.prog 73 #[.slice (some ⟨b, o, none⟩) xs.length c] w fun e w' => e = .returned (.slice (some ⟨b, o, none⟩) (digs (wval xs)).length c) ∧ w = w' := by
  unfold maxLen at hcm
  have HC := Lib.hid hc
  have HB := Lib.hid hB
  clear hc hB
  go_enter Tryz.func73, Tryz.ntmps73
  go_wp2
  go_loop [0] (fun x => ∃ n : Nat, n ≤ c ∧ x = .slice (some ⟨b, o, none⟩) n c ∧ Zs xs n) (fun x => match x with | .slice _ n _ => n | _ => 0)
  case atStart => exact ⟨xs.length, hxc, rfl, Zs.start xs⟩
  case round =>
    obtain ⟨n, hn, rfl, hz⟩ := hrel
    by_cases h0 : n = 0
    · have HF := Lib.hid (hz.fin HB.out (Or.inl h0))
      subst h0
      go_wp2
      go_ret
      exact ⟨ret_slice HF.out, rfl⟩
    · have hp : 0 < n := by omega
      have hcell := HC.out (n - 1) (by have := hz.1; omega)
      by_cases hd : xs.getD (n - 1) 0 = 0
      · rw [hd] at hcell
        have hz' := hz.step hd
        clear hd
        go_wp2
        go_round
        case rel => exact ⟨n - 1, by omega, rfl, hz'⟩
        case measure => simp; omega
      · have HF := Lib.hid (hz.fin HB.out (Or.inr hd))
        obtain ⟨d, hdd⟩ : ∃ d, d = xs.getD (n - 1) 0 := ⟨_, rfl⟩
        rw [← hdd] at hcell hd
        have hb : ((d : Int) == 0) = false := by simpa using hd
        have hd' : 0 < d := by omega
        clear hd hdd
        go_wp2
        go_ret
        exact ⟨ret_slice HF.out, rfl⟩

theorem rtrim_own (k : TypeId) (B : Nat) (v : Value) (xs : List Nat) (hB : ∀ x ∈ xs, x < BB) (w : World) (h : Own .u32 k B w v xs) :
    Calls Tryz.prog 73 #[v] w fun e w' => ∃ v', e = .returned v' ∧ Own .u32 k B w v' (digs (wval xs)) ∧ w = w' := by
  have hd : xs.take (digs (wval xs)).length = digs (wval xs) ∧ (digs (wval xs)).length ≤ xs.length := by
    have hlen : (digs (wval xs)).length ≤ xs.length := digs_length_le (wval_lt xs hB)
    refine ⟨?_, hlen⟩
    generalize hm : (digs (wval xs)).length = m at hlen
    -- the greatest place without a zero
    have key : ∀ (n : Nat), Zs xs n → digs (wval xs) = xs.take (digs (wval xs)).length := by
      intro n
      induction n with
      | zero => intro hz; have e := digs_take hz.1 hB hz.2 (Or.inl rfl); have := hz.fin hB (Or.inl rfl); rw [← this]; exact e
      | succ n ih =>
        intro hz
        by_cases h0 : xs.getD n 0 = 0
        · exact ih (by have := hz.step (by simpa using h0); simpa using this)
        · have e := digs_take hz.1 hB hz.2 (Or.inr (by simpa using h0))
          have := hz.fin hB (Or.inr (by simpa using h0))
          rw [← this]; exact e
    rw [← hm]
    exact (key _ (Zs.start xs)).symm
  have h0 := h
  obtain ⟨h1, h2⟩ := h
  rcases h2 with ⟨rfl, h3⟩ | ⟨g, cap, cur, rfl, hg, hh, hn, hc, hs, ht⟩
  · obtain rfl : xs = [] := List.length_eq_zero_iff.1 h3
    have hz : digs (wval []) = [] := by unfold wval; exact digs_zero
    rw [hz]
    clear hd hB h0 hz
    go_enter Tryz.func73, Tryz.ntmps73
    go_wp2
    refine wp_loop_rounds 1 ?_
    rw [rounds_succ]
    go_wp2
    go_ret
    exact ⟨_, rfl, Own.nil _ _ _ _, rfl⟩
  · have hrd : ∀ i, i < xs.length → w.cell? ⟨g, 0 + i, none⟩ = some (.int .u32 ((xs.getD i 0 : Nat) : Int)) := by
      rcases h0.rd with ⟨hv, _⟩ | ⟨b, o, c, hv, _, _, _, h5⟩
      · injection hv with hv; cases hv
      · injection hv with e1 e2 e3
        injection e1 with e1
        injection e1 with e4 e5 e6
        subst e4 e5 e3
        exact h5
    refine (rtrim_some g 0 cap xs hB hn hc w hrd).mono fun e w' ⟨he, hw⟩ => ⟨_, he, ?_, hw⟩
    have := h0.take (digs (wval xs)).length hd.2
    rwa [hd.1] at this


set_option maxHeartbeats 1000000 in
theorem RValid_any (s : ByteArray) (w : World) (hs : s.size ≤ maxLen) :
    Calls Tryz.prog 69 #[.string s] w fun e w' => e = .returned (.bool (vld s.data.toList)) ∧ w = w' := by
  unfold maxLen at hs
  have hcase : s.size = 0 ∨ (s.size = 1 ∨ (1 < s.size ∧ ∃ h : 0 < s.size, ((s[0].toNat : Int) != 48) = true)) ∨ (1 < s.size ∧ ∃ h : 0 < s.size, ((s[0].toNat : Int) != 48) = false) := by
    rcases Nat.lt_trichotomy s.size 1 with h | h | h
    · left; omega
    · right; left; left; exact h
    · have h0 : 0 < s.size := by omega
      by_cases hc : (s[0].toNat : Int) = 48
      · right; right; exact ⟨h, h0, by rw [bne_eq_false_iff_eq]; exact hc⟩
      · right; left; right; exact ⟨h, h0, by rw [bne_iff_ne]; exact hc⟩
  rcases hcase with h0 | (h1 | ⟨h1, h2, h3⟩) | ⟨h1, h2, h3⟩
  · have HF := Lib.hid (show vld s.data.toList = false by rw [list_nil h0]; rfl)
    have k1 : s.size ≤ 0 := by omega
    have k2 : ((s.size : Int) == 1) = false := beq_eq_false_iff_ne.2 (by omega)
    clear h0
    go_enter Tryz.func69, Tryz.ntmps69
    go_wp2
    refine wp_loop_rounds 1 ?_
    rw [rounds_succ]
    go_wp2
    go_ret
    exact ⟨ret_bool HF.out.symm, rfl⟩
  · have k2 : ((s.size : Int) == 1) = true := beq_iff_eq.2 (by omega)
    have H1 := Lib.hid h1
    have k3 : 0 < s.size := by omega
    clear h1
    go_enter Tryz.func69, Tryz.ntmps69
    go_wp2
    go_loop [3] (fun i => ∃ k : Nat, k ≤ s.size ∧ i = .int .i64 k ∧ alld s k) (fun i => s.size - (intOf i).toNat)
    case atStart => exact ⟨0, Nat.zero_le _, rfl, alld_zero s⟩
    case round =>
      obtain ⟨k, hk, rfl, ha⟩ := hrel
      go_wp2
      all_goals first
        | (go_round
           case rel => exact ⟨k + 1, by omega, by go_num, alld_succ ha (by assumption) (by omega) (by omega)⟩
           case measure => simp [intOf]; omega)
        | (have hlt : k < s.size := by assumption
           go_ret
           exact ⟨ret_bool (vld_bad hlt (by omega)).symm, rfl⟩)
        | (obtain rfl : k = s.size := by omega
           go_ret
           exact ⟨ret_bool (vld_end k3 ha (Or.inl H1.out)).symm, rfl⟩)
  · have k2 : ((s.size : Int) == 1) = false := beq_eq_false_iff_ne.2 (by omega)
    go_enter Tryz.func69, Tryz.ntmps69
    go_wp2
    go_loop [3] (fun i => ∃ k : Nat, k ≤ s.size ∧ i = .int .i64 k ∧ alld s k) (fun i => s.size - (intOf i).toNat)
    case atStart => exact ⟨0, Nat.zero_le _, rfl, alld_zero s⟩
    case round =>
      obtain ⟨k, hk, rfl, ha⟩ := hrel
      go_wp2
      all_goals first
        | (go_round
           case rel => exact ⟨k + 1, by omega, by go_num, alld_succ ha (by assumption) (by omega) (by omega)⟩
           case measure => simp [intOf]; omega)
        | (have hlt : k < s.size := by assumption
           go_ret
           exact ⟨ret_bool (vld_bad hlt (by omega)).symm, rfl⟩)
        | (obtain rfl : k = s.size := by omega
           go_ret
           exact ⟨ret_bool (vld_end h2 ha (Or.inr (by rw [bne_iff_ne] at h3; exact h3))).symm, rfl⟩)
  · have k2 : ((s.size : Int) == 1) = false := beq_eq_false_iff_ne.2 (by omega)
    go_enter Tryz.func69, Tryz.ntmps69
    go_wp2
    go_loop [3] (fun i => ∃ k : Nat, k ≤ s.size ∧ i = .int .i64 k ∧ alld s k) (fun i => s.size - (intOf i).toNat)
    case atStart => exact ⟨0, Nat.zero_le _, rfl, alld_zero s⟩
    case round =>
      obtain ⟨k, hk, rfl, ha⟩ := hrel
      go_wp2
      all_goals first
        | (go_round
           case rel => exact ⟨k + 1, by omega, by go_num, alld_succ ha (by assumption) (by omega) (by omega)⟩
           case measure => simp [intOf]; omega)
        | (have hlt : k < s.size := by assumption
           go_ret
           exact ⟨ret_bool (vld_bad hlt (by omega)).symm, rfl⟩)
        | (obtain rfl : k = s.size := by omega
           go_ret
           exact ⟨ret_bool (vld_zero h1 (by rw [bne_eq_false_iff_eq] at h3; exact h3)).symm, rfl⟩)
theorem part_succ {s : ByteArray} (h : s.data.toList.all isD = true) {a i : Nat} (hai : a ≤ i) (hi : i < s.size) :
    dval ((s.data.toList.drop a).take (i + 1 - a)) = dval ((s.data.toList.drop a).take (i - a)) * 10 + (s[i].toNat - 48) ∧ 48 ≤ s[i].toNat ∧ s[i].toNat ≤ 57 := by
  have h1 := List.all_eq_true.1 h (s.data.toList[i]'(by rw [size_list]; exact hi)) (List.getElem_mem _)
  rw [isD_iff, get_list s i hi] at h1
  have e : (s.data.toList.drop a).take (i + 1 - a) = (s.data.toList.drop a).take (i - a) ++ [s[i]] := by
    rw [show i + 1 - a = (i - a) + 1 by omega, List.take_succ_eq_append_getElem (by rw [List.length_drop, size_list]; omega)]
    congr 2
    rw [List.getElem_drop, ← get_list s i hi]
    congr 1
    omega
  rw [e, dval_snoc]
  exact ⟨rfl, h1⟩
theorem part_lt {s : ByteArray} (h : s.data.toList.all isD = true) (a n : Nat) (hn : n ≤ 8) : dval ((s.data.toList.drop a).take n) < 100000000 := by
  have h1 := dval_lt ((s.data.toList.drop a).take n) (by
    rw [List.all_eq_true] at h ⊢
    exact fun c hc => h c (List.mem_of_mem_drop (List.mem_of_mem_take hc)))
  have h2 : 10 ^ ((s.data.toList.drop a).take n).length ≤ 10 ^ 8 := Nat.pow_le_pow_right (by decide) (by rw [List.length_take]; omega)
  omega

set_option maxHeartbeats 1000000 in
set_option maxRecDepth 100000 in
theorem RFrom_any (s : ByteArray) (h : s.data.toList.all isD = true) (hl : s.size ≤ 100000) (w : World) :
    Calls Tryz.prog 70 #[.string s] w fun e w' => ∃ v, e = .returned v ∧ Own .u32 74 w.heap.size w' v (digs (dval s.data.toList)) ∧ Below w.heap.size w w' := by
  obtain ⟨i0, hi, hz0, hz1, hz2⟩ := info_parts Tryz.info74
  have H := Lib.hid h
  clear h
  have HO0 := Lib.hid (World.ownsRow_nil w w.heap.size 74 1)
  go_enter Tryz.func70, Tryz.ntmps70
  go_wp2
  go_loopw [3, 4] (fun v ee wr => ∃ (z : Int) (os : List Nat), -9 ≤ z ∧ z ≤ s.size ∧ ee = .int .i64 z ∧ os.length + z.toNat ≤ s.size ∧ Hid (wr.ownsRow w.heap.size 74 1 v os.length (cls .u32 os)) ∧ Hid (ReadInv s.data.toList os z.toNat) ∧ Hid (Below w.heap.size w wr)) (fun _ ee _ => (intOf ee).toNat)
  case atStart => exact ⟨(s.size : Int), [], by omega, by omega, rfl, by simp, HO0, by have := ReadInv.start s.data.toList; rw [size_list] at this; exact this, Below.refl _ _⟩
  case round =>
    obtain ⟨z, os, hz9, hzs, rfl, hlen, ho, hr, hn⟩ := hrel
    by_cases hz : 0 < z
    · obtain ⟨ez, rfl⟩ := Int.eq_ofNat_of_zero_le (show 0 ≤ z by omega)
      obtain ⟨a, ha⟩ : ∃ a : Nat, a = ez - 9 := ⟨_, rfl⟩
      rw [Int.toNat_natCast] at hr hlen
      obtain ⟨hst, hbd⟩ := hr.out.step (a := a) H.out (by rw [size_list]; omega) (by omega) (by omega)
      have HST := Lib.hid hst
      have HBD := Lib.hid hbd
      have hmx : max 0 ((ez : Int) - 9) = (a : Int) := by omega
      have hae : a ≤ ez := by omega
      have hea : ez ≤ a + 9 := by omega
      have HA := Lib.hid ha
      clear hst hbd ha hr
      go_wp2
      obtain ⟨wo, rfl⟩ : ∃ wo : World, wo = wr := ⟨_, rfl⟩
      go_loop [5, 6] (fun ww ii => ∃ i m : Nat, a ≤ i ∧ i ≤ ez ∧ ii = .int .i64 i ∧ ww = .int .u32 (m : Int) ∧ Hid (m = dval ((s.data.toList.drop a).take (i - a)))) (fun _ ii => ez - (intOf ii).toNat)
      case atStart => exact ⟨a, 0, Nat.le_refl _, hae, rfl, rfl, by rw [Nat.sub_self]; rfl⟩
      case round =>
        obtain ⟨i, m, hai, hie, rfl, rfl, hm⟩ := hrel
        by_cases hlt : i < ez
        · obtain ⟨h1, h2, h3⟩ := part_succ H.out hai (show i < s.size by omega)
          have h4 : m < 100000000 := by rw [hm.out]; exact part_lt H.out a (i - a) (by omega)
          have h5 : i < s.size := by omega
          have H1 := Lib.hid h1
          clear h1
          have k4 : (m : Int) ≤ 99999999 := by omega
          clear h4
          go_wp2
          go_round
          case rel => exact ⟨i + 1, m * 10 + (s[i].toNat - 48), by omega, by omega, by go_num, by congr 1; omega, by have := hm.out; subst this; exact H1.out.symm⟩
          case measure => simp [intOf]; omega
        · have hie2 : i = ez := by omega
          have hm' := hm.out
          rw [hie2] at hm'
          have HM := Lib.hid hm'
          clear hm hm' hie2
          go_wp2_with (at_builtin; refine wpList_append_own _ rfl _ _ 47 rfl w.heap.size 74 i0 (.int .u32 0) 1 4 Tryz.underlying47 hi hz0 hz1 hz2 rfl (by decide) _ _ _ rfl (ho.out.alloc _) ⟨wo.heap.size, 0, none⟩ 1 1 [.int .u32 (m : Int)] rfl rfl (cells_one _ _ _) (by intro u hu; simp at hu; subst hu; rfl) (by unfold maxLen; omega) (by omega) (by have := hn.out.size; simp; omega) ?_)
          intro v' w1 hown' hgrow _
          have HO := Lib.hid hown'
          have HN := Lib.hid ((hn.out.alloc hn.out.size _).grown hgrow (by have := hn.out.size; simp; omega) (fun k hk => (ho.out.lt k hk).1))
          clear hown' hgrow
          go_wp2
          go_roundw
          case rel => exact ⟨(ez : Int) - 9, os ++ [m], by omega, by omega, rfl, by simp; omega, by have := HO.out; rw [cls_append, List.length_append]; exact this, by rw [show ((ez : Int) - 9).toNat = a by have := HA.out; omega, HM.out]; exact HST, HN⟩
          case measure => simp [intOf]; omega
    · have hz0' : z.toNat = 0 := by omega
      have hr' := hr.out
      rw [hz0'] at hr'
      obtain ⟨hB, hv⟩ := hr'.done
      have htr := rtrim_own 74 w.heap.size _ os hB wr ho.out
      rw [hv] at htr
      have HTR := Lib.hid htr
      clear hr' hB hv htr hz0'
      go_wp2_with fail
      refine HTR.out.mono ?_
      rintro e w2 ⟨v', rfl, hown, rfl⟩
      go_wp2
      go_ret
      exact ⟨v', rfl, hown, hn.out⟩

end Go.Proofs.YtohaocgbclpknaaGreatDoor
