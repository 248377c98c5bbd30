/- Texts of this proof, one behind the other. -/
import Derived.Test.YtblccbnejcngaaaGreatDoorMne
/- The numbers of garboardref01: Valid, From, Cmp and Compare: walks. -/
namespace Go.Proofs.YtblccbnejcngaaaGreatDoor
open Go.RowKit Go.Gb

theorem Tryz.info74 : (Tryz.prog.info? 74).map (fun i => (i.zero, i.size, i.bytes)) = some (some (.int .u32 0), 1, 4) := by kernel_rfl

set_option maxHeartbeats 800000 in
theorem rtrim_some (b o c : Nat) (xs : List Nat) (hB : ∀ x ∈ xs, x < BB) (hxc : xs.length ≤ c) (hcm : c ≤ maxLen) (w : World)
    (hc : ∀ i, i < xs.length → w.cell? ⟨b, o + i, none⟩ = some (.int .u32 ((xs.getD i 0 : Nat) : Int))) :
    Calls Tryz.prog 73 #[.slice (some ⟨b, o, none⟩) xs.length c] w fun e w' => e = .returned (.slice (some ⟨b, o, none⟩) (digs (wval xs)).length c) ∧ w = w' := by
  unfold maxLen at hcm
  have HC := Lib.hid hc
  have HB := Lib.hid hB
  clear hc hB
  go_enter Tryz.func73, Tryz.ntmps73
  go_wp2
  go_loop [0] (fun x => ∃ n : Nat, n ≤ c ∧ x = .slice (some ⟨b, o, none⟩) n c ∧ Zs xs n) (fun x => match x with | .slice _ n _ => n | _ => 0)
  case atStart => exact ⟨xs.length, hxc, rfl, Zs.start xs⟩
  case round =>
    obtain ⟨n, hn, rfl, hz⟩ := hrel
    by_cases h0 : n = 0
    · have HF := Lib.hid (hz.fin HB.out (Or.inl h0))
      subst h0
      go_wp2
      go_ret
      exact ⟨ret_slice HF.out, rfl⟩
    · have hp : 0 < n := by omega
      have hcell := HC.out (n - 1) (by have := hz.1; omega)
      by_cases hd : xs.getD (n - 1) 0 = 0
      · rw [hd] at hcell
        have hz' := hz.step hd
        clear hd
        go_wp2
        go_round
        case rel => exact ⟨n - 1, by omega, rfl, hz'⟩
        case measure => simp; omega
      · have HF := Lib.hid (hz.fin HB.out (Or.inr hd))
        obtain ⟨d, hdd⟩ : ∃ d, d = xs.getD (n - 1) 0 := ⟨_, rfl⟩
        rw [← hdd] at hcell hd
        have hb : ((d : Int) == 0) = false := by simpa using hd
        have hd' : 0 < d := by omega
        clear hd hdd
        go_wp2
        go_ret
        exact ⟨ret_slice HF.out, rfl⟩

theorem rtrim_own (k : TypeId) (B : Nat) (v : Value) (xs : List Nat) (hB : ∀ x ∈ xs, x < BB) (w : World) (h : Own .u32 k B w v xs) :
    Calls Tryz.prog 73 #[v] w fun e w' => ∃ v', e = .returned v' ∧ Own .u32 k B w v' (digs (wval xs)) ∧ w = w' := by
  have hd : xs.take (digs (wval xs)).length = digs (wval xs) ∧ (digs (wval xs)).length ≤ xs.length := by
    have hlen : (digs (wval xs)).length ≤ xs.length := digs_length_le (wval_lt xs hB)
    refine ⟨?_, hlen⟩
    generalize hm : (digs (wval xs)).length = m at hlen
    -- the greatest place without a zero
    have key : ∀ (n : Nat), Zs xs n → digs (wval xs) = xs.take (digs (wval xs)).length := by
      intro n
      induction n with
      | zero => intro hz; have e := digs_take hz.1 hB hz.2 (Or.inl rfl); have := hz.fin hB (Or.inl rfl); rw [← this]; exact e
      | succ n ih =>
        intro hz
        by_cases h0 : xs.getD n 0 = 0
        · exact ih (by have := hz.step (by simpa using h0); simpa using this)
        · have e := digs_take hz.1 hB hz.2 (Or.inr (by simpa using h0))
          have := hz.fin hB (Or.inr (by simpa using h0))
          rw [← this]; exact e
    rw [← hm]
    exact (key _ (Zs.start xs)).symm
  have h0 := h
  obtain ⟨h1, h2⟩ := h
  rcases h2 with ⟨rfl, h3⟩ | ⟨g, cap, cur, rfl, hg, hh, hn, hc, hs, ht⟩
  · obtain rfl : xs = [] := List.length_eq_zero_iff.1 h3
    have hz : digs (wval []) = [] := by unfold wval; exact digs_zero
    rw [hz]
    clear hd hB h0 hz
    go_enter Tryz.func73, Tryz.ntmps73
    go_wp2
    refine wp_loop_rounds 1 ?_
    rw [rounds_succ]
    go_wp2
    go_ret
    exact ⟨_, rfl, Own.nil _ _ _ _, rfl⟩
  · have hrd : ∀ i, i < xs.length → w.cell? ⟨g, 0 + i, none⟩ = some (.int .u32 ((xs.getD i 0 : Nat) : Int)) := by
      rcases h0.rd with ⟨hv, _⟩ | ⟨b, o, c, hv, _, _, _, h5⟩
      · injection hv with hv; cases hv
      · injection hv with e1 e2 e3
        injection e1 with e1
        injection e1 with e4 e5 e6
        subst e4 e5 e3
        exact h5
    refine (rtrim_some g 0 cap xs hB hn hc w hrd).mono fun e w' ⟨he, hw⟩ => ⟨_, he, ?_, hw⟩
    have := h0.take (digs (wval xs)).length hd.2
    rwa [hd.1] at this


set_option maxHeartbeats 1000000 in
theorem RValid_any (s : ByteArray) (w : World) (hs : s.size ≤ maxLen) :
    Calls Tryz.prog 69 #[.string s] w fun e w' => e = .returned (.bool (vld s.data.toList)) ∧ w = w' := by
  unfold maxLen at hs
  have hcase : s.size = 0 ∨ (s.size = 1 ∨ (1 < s.size ∧ ∃ h : 0 < s.size, ((s[0].toNat : Int) != 48) = true)) ∨ (1 < s.size ∧ ∃ h : 0 < s.size, ((s[0].toNat : Int) != 48) = false) := by
    rcases Nat.lt_trichotomy s.size 1 with h | h | h
    · left; omega
    · right; left; left; exact h
    · have h0 : 0 < s.size := by omega
      by_cases hc : (s[0].toNat : Int) = 48
      · right; right; exact ⟨h, h0, by rw [bne_eq_false_iff_eq]; exact hc⟩
      · right; left; right; exact ⟨h, h0, by rw [bne_iff_ne]; exact hc⟩
  rcases hcase with h0 | (h1 | ⟨h1, h2, h3⟩) | ⟨h1, h2, h3⟩
  · have HF := Lib.hid (show vld s.data.toList = false by rw [list_nil h0]; rfl)
    have k1 : s.size ≤ 0 := by omega
    have k2 : ((s.size : Int) == 1) = false := beq_eq_false_iff_ne.2 (by omega)
    clear h0
    go_enter Tryz.func69, Tryz.ntmps69
    go_wp2
    refine wp_loop_rounds 1 ?_
    rw [rounds_succ]
    go_wp2
    go_ret
    exact ⟨ret_bool HF.out.symm, rfl⟩
  · have k2 : ((s.size : Int) == 1) = true := beq_iff_eq.2 (by omega)
    have H1 := Lib.hid h1
    have k3 : 0 < s.size := by omega
    clear h1
    go_enter Tryz.func69, Tryz.ntmps69
    go_wp2
    go_loop [3] (fun i => ∃ k : Nat, k ≤ s.size ∧ i = .int .i64 k ∧ alld s k) (fun i => s.size - (intOf i).toNat)
    case atStart => exact ⟨0, Nat.zero_le _, rfl, alld_zero s⟩
    case round =>
      obtain ⟨k, hk, rfl, ha⟩ := hrel
      go_wp2
      all_goals first
        | (go_round
           case rel => exact ⟨k + 1, by omega, by go_num, alld_succ ha (by assumption) (by omega) (by omega)⟩
           case measure => simp [intOf]; omega)
        | (have hlt : k < s.size := by assumption
           go_ret
           exact ⟨ret_bool (vld_bad hlt (by omega)).symm, rfl⟩)
        | (obtain rfl : k = s.size := by omega
           go_ret
           exact ⟨ret_bool (vld_end k3 ha (Or.inl H1.out)).symm, rfl⟩)
  · have k2 : ((s.size : Int) == 1) = false := beq_eq_false_iff_ne.2 (by omega)
    go_enter Tryz.func69, Tryz.ntmps69
    go_wp2
    go_loop [3] (fun i => ∃ k : Nat, k ≤ s.size ∧ i = .int .i64 k ∧ alld s k) (fun i => s.size - (intOf i).toNat)
    case atStart => exact ⟨0, Nat.zero_le _, rfl, alld_zero s⟩
    case round =>
      obtain ⟨k, hk, rfl, ha⟩ := hrel
      go_wp2
      all_goals first
        | (go_round
           case rel => exact ⟨k + 1, by omega, by go_num, alld_succ ha (by assumption) (by omega) (by omega)⟩
           case measure => simp [intOf]; omega)
        | (have hlt : k < s.size := by assumption
           go_ret
           exact ⟨ret_bool (vld_bad hlt (by omega)).symm, rfl⟩)
        | (obtain rfl : k = s.size := by omega
           go_ret
           exact ⟨ret_bool (vld_end h2 ha (Or.inr (by rw [bne_iff_ne] at h3; exact h3))).symm, rfl⟩)
  · have k2 : ((s.size : Int) == 1) = false := beq_eq_false_iff_ne.2 (by omega)
    go_enter Tryz.func69, Tryz.ntmps69
    go_wp2
    go_loop [3] (fun i => ∃ k : Nat, k ≤ s.size ∧ i = .int .i64 k ∧ alld s k) (fun i => s.size - (intOf i).toNat)
    case atStart => exact ⟨0, Nat.zero_le _, rfl, alld_zero s⟩
    case round =>
      obtain ⟨k, hk, rfl, ha⟩ := hrel
      go_wp2
      all_goals first
        | (go_round
           case rel => exact ⟨k + 1, by omega, by go_num, alld_succ ha (by assumption) (by omega) (by omega)⟩
           case measure => simp [intOf]; omega)
        | (have hlt : k < s.size := by assumption
           go_ret
           exact ⟨ret_bool (vld_bad hlt (by omega)).symm, rfl⟩)
        | (obtain rfl : k = s.size := by omega
           go_ret
           exact ⟨ret_bool (vld_zero h1 (by rw [bne_eq_false_iff_eq] at h3; exact h3)).symm, rfl⟩)
theorem part_succ {s : ByteArray} (h : s.data.toList.all isD = true) {a i : Nat} (hai : a ≤ i) (hi : i < s.size) :
    dval ((s.data.toList.drop a).take (i + 1 - a)) = dval ((s.data.toList.drop a).take (i - a)) * 10 + (s[i].toNat - 48) ∧ 48 ≤ s[i].toNat ∧ s[i].toNat ≤ 57 := by
  have h1 := List.all_eq_true.1 h (s.data.toList[i]'(by rw [size_list]; exact hi)) (List.getElem_mem _)
  rw [isD_iff, get_list s i hi] at h1
  have e : (s.data.toList.drop a).take (i + 1 - a) = (s.data.toList.drop a).take (i - a) ++ [s[i]] := by
    rw [show i + 1 - a = (i - a) + 1 by omega, List.take_succ_eq_append_getElem (by rw [List.length_drop, size_list]; omega)]
    congr 2
    rw [List.getElem_drop, ← get_list s i hi]
    congr 1
    omega
  rw [e, dval_snoc]
  exact ⟨rfl, h1⟩
theorem part_lt {s : ByteArray} (h : s.data.toList.all isD = true) (a n : Nat) (hn : n ≤ 8) : dval ((s.data.toList.drop a).take n) < 100000000 := by
  have h1 := dval_lt ((s.data.toList.drop a).take n) (by
    rw [List.all_eq_true] at h ⊢
    exact fun c hc => h c (List.mem_of_mem_drop (List.mem_of_mem_take hc)))
  have h2 : 10 ^ ((s.data.toList.drop a).take n).length ≤ 10 ^ 8 := Nat.pow_le_pow_right (by decide) (by rw [List.length_take]; omega)
  omega

set_option maxHeartbeats 1000000 in
set_option maxRecDepth 100000 in
theorem RFrom_any (s : ByteArray) (h : s.data.toList.all isD = true) (hl : s.size ≤ 100000) (w : World) :
    Calls Tryz.prog 70 #[.string s] w fun e w' => ∃ v, e = .returned v ∧ Own .u32 74 w.heap.size w' v (digs (dval s.data.toList)) ∧ Below w.heap.size w w' := by
  obtain ⟨i0, hi, hz0, hz1, hz2⟩ := info_parts Tryz.info74
  have H := Lib.hid h
  clear h
  have HO0 := Lib.hid (World.ownsRow_nil w w.heap.size 74 1)
  go_enter Tryz.func70, Tryz.ntmps70
  go_wp2
  go_loopw [3, 4] (fun v ee wr => ∃ (z : Int) (os : List Nat), -9 ≤ z ∧ z ≤ s.size ∧ ee = .int .i64 z ∧ os.length + z.toNat ≤ s.size ∧ Hid (wr.ownsRow w.heap.size 74 1 v os.length (cls .u32 os)) ∧ Hid (ReadInv s.data.toList os z.toNat) ∧ Hid (Below w.heap.size w wr)) (fun _ ee _ => (intOf ee).toNat)
  case atStart => exact ⟨(s.size : Int), [], by omega, by omega, rfl, by simp, HO0, by have := ReadInv.start s.data.toList; rw [size_list] at this; exact this, Below.refl _ _⟩
  case round =>
    obtain ⟨z, os, hz9, hzs, rfl, hlen, ho, hr, hn⟩ := hrel
    by_cases hz : 0 < z
    · obtain ⟨ez, rfl⟩ := Int.eq_ofNat_of_zero_le (show 0 ≤ z by omega)
      obtain ⟨a, ha⟩ : ∃ a : Nat, a = ez - 9 := ⟨_, rfl⟩
      rw [Int.toNat_natCast] at hr hlen
      obtain ⟨hst, hbd⟩ := hr.out.step (a := a) H.out (by rw [size_list]; omega) (by omega) (by omega)
      have HST := Lib.hid hst
      have HBD := Lib.hid hbd
      have hmx : max 0 ((ez : Int) - 9) = (a : Int) := by omega
      have hae : a ≤ ez := by omega
      have hea : ez ≤ a + 9 := by omega
      have HA := Lib.hid ha
      clear hst hbd ha hr
      go_wp2
      obtain ⟨wo, rfl⟩ : ∃ wo : World, wo = wr := ⟨_, rfl⟩
      go_loop [5, 6] (fun ww ii => ∃ i m : Nat, a ≤ i ∧ i ≤ ez ∧ ii = .int .i64 i ∧ ww = .int .u32 (m : Int) ∧ Hid (m = dval ((s.data.toList.drop a).take (i - a)))) (fun _ ii => ez - (intOf ii).toNat)
      case atStart => exact ⟨a, 0, Nat.le_refl _, hae, rfl, rfl, by rw [Nat.sub_self]; rfl⟩
      case round =>
        obtain ⟨i, m, hai, hie, rfl, rfl, hm⟩ := hrel
        by_cases hlt : i < ez
        · obtain ⟨h1, h2, h3⟩ := part_succ H.out hai (show i < s.size by omega)
          have h4 : m < 100000000 := by rw [hm.out]; exact part_lt H.out a (i - a) (by omega)
          have h5 : i < s.size := by omega
          have H1 := Lib.hid h1
          clear h1
          have k4 : (m : Int) ≤ 99999999 := by omega
          clear h4
          go_wp2
          go_round
          case rel => exact ⟨i + 1, m * 10 + (s[i].toNat - 48), by omega, by omega, by go_num, by congr 1; omega, by have := hm.out; subst this; exact H1.out.symm⟩
          case measure => simp [intOf]; omega
        · have hie2 : i = ez := by omega
          have hm' := hm.out
          rw [hie2] at hm'
          have HM := Lib.hid hm'
          clear hm hm' hie2
          go_wp2_with (at_builtin; refine wpList_append_own _ rfl _ _ 47 rfl w.heap.size 74 i0 (.int .u32 0) 1 4 Tryz.underlying47 hi hz0 hz1 hz2 rfl (by decide) _ _ _ rfl (ho.out.alloc _) ⟨wo.heap.size, 0, none⟩ 1 1 [.int .u32 (m : Int)] rfl rfl (cells_one _ _ _) (by intro u hu; simp at hu; subst hu; rfl) (by unfold maxLen; omega) (by omega) (by have := hn.out.size; simp; omega) ?_)
          intro v' w1 hown' hgrow _
          have HO := Lib.hid hown'
          have HN := Lib.hid ((hn.out.alloc hn.out.size _).grown hgrow (by have := hn.out.size; simp; omega) (fun k hk => (ho.out.lt k hk).1))
          clear hown' hgrow
          go_wp2
          go_roundw
          case rel => exact ⟨(ez : Int) - 9, os ++ [m], by omega, by omega, rfl, by simp; omega, by have := HO.out; rw [cls_append, List.length_append]; exact this, by rw [show ((ez : Int) - 9).toNat = a by have := HA.out; omega, HM.out]; exact HST, HN⟩
          case measure => simp [intOf]; omega
    · have hz0' : z.toNat = 0 := by omega
      have hr' := hr.out
      rw [hz0'] at hr'
      obtain ⟨hB, hv⟩ := hr'.done
      have htr := rtrim_own 74 w.heap.size _ os hB wr ho.out
      rw [hv] at htr
      have HTR := Lib.hid htr
      clear hr' hB hv htr hz0'
      go_wp2_with fail
      refine HTR.out.mono ?_
      rintro e w2 ⟨v', rfl, hown, rfl⟩
      go_wp2
      go_ret
      exact ⟨v', rfl, hown, hn.out⟩

end Go.Proofs.YtblccbnejcngaaaGreatDoor
/- garboardref01.Cmp, both and Compare: walks. -/
namespace Go.Proofs.YtblccbnejcngaaaGreatDoor
open Go.RowKit Go.Gb

theorem RCmp_len (a1 a2 : Option Addr) (n m c1 c2 : Nat) (h : n ≠ m) (w : World) :
    Calls Tryz.prog 71 #[.slice a1 n c1, .slice a2 m c2] w fun e w' => e = .returned (.int .i64 (cmpN n m)) ∧ w = w' := by
  have hb : ((n : Int) != (m : Int)) = true := bne_iff_ne.2 (by omega)
  by_cases hlt : n < m
  · have HF := Lib.hid (cmpN_lt hlt)
    go_enter Tryz.func71, Tryz.ntmps71
    go_wp2
    go_ret
    exact ⟨ret_int HF.out.symm, rfl⟩
  · have HF := Lib.hid (cmpN_gt (show m < n by omega))
    go_enter Tryz.func71, Tryz.ntmps71
    go_wp2
    go_ret
    exact ⟨ret_int HF.out.symm, rfl⟩

set_option maxHeartbeats 1000000 in
set_option maxRecDepth 100000 in
theorem RCmp_some (b1 o1 c1 b2 o2 c2 : Nat) (xs ys : List Nat) (hxy : xs.length = ys.length) (hx : ∀ x ∈ xs, x < BB) (hy : ∀ y ∈ ys, y < BB) (hl : xs.length ≤ 1000000) (w : World)
    (hcx : ∀ i, i < xs.length → w.cell? ⟨b1, o1 + i, none⟩ = some (.int .u32 ((xs.getD i 0 : Nat) : Int)))
    (hcy : ∀ i, i < ys.length → w.cell? ⟨b2, o2 + i, none⟩ = some (.int .u32 ((ys.getD i 0 : Nat) : Int))) :
    Calls Tryz.prog 71 #[.slice (some ⟨b1, o1, none⟩) xs.length c1, .slice (some ⟨b2, o2, none⟩) xs.length c2] w fun e w' => e = .returned (.int .i64 (cmpN (wval xs) (wval ys))) ∧ Below w.heap.size w w' := by
  have HXY := Lib.hid hxy
  have HX := Lib.hid hx
  have HY := Lib.hid hy
  have HCX := Lib.hid hcx
  have HCY := Lib.hid hcy
  clear hxy hx hy hcx hcy
  have hb : ((xs.length : Int) != (xs.length : Int)) = false := by simp
  go_enter Tryz.func71, Tryz.ntmps71
  go_wp2
  go_loopw [5] (fun ii wr => ∃ z : Int, -1 ≤ z ∧ z < xs.length ∧ ii = .int .i64 z ∧ Hid (EqFrom xs ys (z + 1).toNat) ∧ Hid (Below w.heap.size w wr)) (fun ii _ => (intOf ii + 1).toNat)
  case atStart => exact ⟨(xs.length : Int) - 1, by omega, by omega, rfl, fun j h1 h2 => absurd h1 (by omega), Below.refl _ _⟩
  case round =>
    obtain ⟨z, hz1', hz8, rfl, he, hn⟩ := hrel
    by_cases hz : 0 ≤ z
    · obtain ⟨j, rfl⟩ := Int.eq_ofNat_of_zero_le hz
      have hb1 := World.block_lt_of_cell? _ _ (HCX.out j (by omega))
      have hb2 := World.block_lt_of_cell? _ _ (HCY.out j (by have := HXY.out; omega))
      have hcx := (hn.out.cell (p := ⟨b1, o1 + j, none⟩) hb1).trans (HCX.out j (by omega))
      have hcy := (hn.out.cell (p := ⟨b2, o2 + j, none⟩) hb2).trans (HCY.out j (by have := HXY.out; omega))
      have he' := he.out
      rw [show ((j : Int) + 1).toNat = j + 1 by omega] at he'
      have HE := Lib.hid he'
      clear he' he
      have hjl := Lib.hid (show j < xs.length by omega)
      have hL : xs.getD j 0 < ys.getD j 0 → wval xs < wval ys := fun h => lt_of_word HXY.out hjl.out HX.out (fun k h1 h2 => HE.out k (by omega) h2) h
      have hG : ys.getD j 0 < xs.getD j 0 → wval ys < wval xs := fun h => lt_of_word HXY.out.symm (by have := HXY.out; have := hjl.out; omega) HY.out (fun k h1 h2 => (HE.out k (by omega) (by have := HXY.out; omega)).symm) h
      have HL := Lib.hid hL
      have HG := Lib.hid hG
      have HEQ := Lib.hid (show xs.getD j 0 = ys.getD j 0 → EqFrom xs ys j from fun h k h1 h2 => by
        by_cases hk : k = j
        · subst hk; exact h
        · exact HE.out k (by omega) h2)
      clear hL hG HE
      generalize xs.getD j 0 = x at *
      generalize ys.getD j 0 = y at *
      clear hb1 hb2
      have i1 : (0 : Int) ≤ (j : Int) := by omega
      have i2 : (j : Int) < (xs.length : Int) := by omega
      by_cases h1 : x < y
      · have HF := Lib.hid (cmpN_lt (HL.out h1))
        go_wp2
        go_quiet (fail)
        have HN2 := Lib.hid (below_drewN' hn.out nq)
        go_wp2
        go_ret
        exact ⟨ret_int HF.out.symm, HN2.out⟩
      · by_cases h2 : y < x
        · have HF := Lib.hid (cmpN_gt (HG.out h2))
          go_wp2
          go_quiet (fail)
          go_wp2
          have hn2 := below_drewN' hn.out nq
          have hcx2 : (wr.drewN nq).cell? ⟨b1, o1 + j, none⟩ = some (.int .u32 (x : Int)) := hcx
          have hcy2 : (wr.drewN nq).cell? ⟨b2, o2 + j, none⟩ = some (.int .u32 (y : Int)) := hcy
          have HN2 := Lib.hid hn2
          clear hcx hcy hn2
          generalize wr.drewN nq = w2 at *
          go_quiet (fail)
          have HN3 := Lib.hid (below_drewN' HN2.out nq)
          go_wp2
          go_ret
          exact ⟨ret_int HF.out.symm, HN3.out⟩
        · have HF := Lib.hid (HEQ.out (by omega))
          go_wp2
          go_quiet (fail)
          go_wp2
          have hn2 := below_drewN' hn.out nq
          have hcx2 : (wr.drewN nq).cell? ⟨b1, o1 + j, none⟩ = some (.int .u32 (x : Int)) := hcx
          have hcy2 : (wr.drewN nq).cell? ⟨b2, o2 + j, none⟩ = some (.int .u32 (y : Int)) := hcy
          have HN2 := Lib.hid hn2
          clear hcx hcy hn2
          generalize wr.drewN nq = w2 at *
          go_quiet (fail)
          have HN3 := Lib.hid (below_drewN' HN2.out nq)
          go_wp2
          go_roundw
          case rel => exact ⟨(j : Int) - 1, by omega, by omega, rfl, by rw [show ((j : Int) - 1 + 1).toNat = j by omega]; exact HF, HN3⟩
          case measure => simp [intOf]
    · have hz0' : (z + 1).toNat = 0 := by omega
      have he' := he.out
      rw [hz0'] at he'
      have heq := Lib.hid (eq_of_words HXY.out (fun j hj => he' j (by omega) hj))
      clear he' hz0'
      go_wp2
      go_ret
      exact ⟨ret_int (by rw [heq.out, cmpN_eq]), hn.out⟩

theorem RCmp_none (a1 a2 : Option Addr) (c1 c2 : Nat) (w : World) :
    Calls Tryz.prog 71 #[.slice a1 0 c1, .slice a2 0 c2] w fun e w' => e = .returned (.int .i64 0) ∧ w = w' := by
  go_enter Tryz.func71, Tryz.ntmps71
  go_wp2
  refine wp_loop_rounds 1 ?_
  rw [rounds_succ]
  go_wp2
  go_ret
  exact ⟨rfl, rfl⟩

theorem RCmp_any (v1 v2 : Value) (a b : Nat) (hl : (digs a).length ≤ 1000000) (w : World) (h1 : Rd .u32 w v1 (digs a)) (h2 : Rd .u32 w v2 (digs b)) :
    Calls Tryz.prog 71 #[v1, v2] w fun e w' => e = .returned (.int .i64 (cmpN a b)) ∧ Below w.heap.size w w' := by
  by_cases hne : (digs a).length = (digs b).length
  · by_cases h0 : (digs a).length = 0
    · have ha : a = 0 := by have := wval_digs a; rw [List.length_eq_zero_iff.1 h0] at this; exact this.symm
      have hb : b = 0 := by have := wval_digs b; rw [List.length_eq_zero_iff.1 (show (digs b).length = 0 by omega)] at this; exact this.symm
      obtain ⟨a1, c1, rfl⟩ := rd_form h1
      obtain ⟨a2, c2, rfl⟩ := rd_form h2
      rw [← hne, h0]
      exact (RCmp_none a1 a2 c1 c2 w).mono fun e w' ⟨g1, g2⟩ => ⟨by rw [g1, ha, hb, cmpN_eq], g2 ▸ Below.refl _ _⟩
    · obtain ⟨b1, o1, c1, rfl, _, _, _, r1⟩ := rd_pos h1 (by omega)
      obtain ⟨b2, o2, c2, rfl, _, _, _, r2⟩ := rd_pos h2 (by omega)
      have := RCmp_some b1 o1 c1 b2 o2 c2 (digs a) (digs b) hne (digs_lt a) (digs_lt b) hl w r1 r2
      rw [wval_digs, wval_digs] at this
      rw [← hne]
      exact this
  · obtain ⟨a1, c1, rfl⟩ := rd_form h1
    obtain ⟨a2, c2, rfl⟩ := rd_form h2
    refine (RCmp_len a1 a2 _ _ c1 c2 hne w).mono fun e w' ⟨g1, g2⟩ => ⟨?_, g2 ▸ Below.refl _ _⟩
    rw [g1]
    refine ret_int ?_
    rcases Nat.lt_or_ge (digs a).length (digs b).length with h | h
    · rw [cmpN_lt h, cmpN_lt (lt_of_digs_length h)]
    · have h' : (digs b).length < (digs a).length := by omega
      rw [cmpN_gt h', cmpN_gt (lt_of_digs_length h')]

end Go.Proofs.YtblccbnejcngaaaGreatDoor
