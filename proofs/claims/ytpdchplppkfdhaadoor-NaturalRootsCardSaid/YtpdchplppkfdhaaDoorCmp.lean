/- natural.Valid and natural.Compare return what decimal numerals ask: walks. -/
import Derived.Test.YtpdchplppkfdhaaDoorRows
import Derived.Test.YtpdchplppkfdhaaDoorNumW
import Derived.WalkKit
import Derived.WalkSpells
import Derived.WalkLawsBesides
import Derived.Lib.Hide
import Derived.Test.YtpdchplppkfdhaaDoorShelf
namespace Go.Proofs.YtpdchplppkfdhaaDoor
open Go.RowKit Go.Gb

theorem ret_bool {a b : Bool} (h : a = b) : Ending.returned (.bool a) = .returned (.bool b) := by rw [h]
theorem size_list (s : ByteArray) : s.data.toList.length = s.size := rfl
theorem get_list (s : ByteArray) (k : Nat) (h : k < s.size) : s.data.toList[k]'(by rw [size_list]; exact h) = s[k] := rfl
theorem list_nil {s : ByteArray} (h : s.size = 0) : s.data.toList = [] := List.length_eq_zero_iff.1 (by rw [size_list]; exact h)
theorem toList_data (s : ByteArray) : s.toList = s.data.toList := ByteArray.toList_eq s

def alld (s : ByteArray) (k : Nat) : Prop := (s.data.toList.take k).all isD = true
theorem alld_zero (s : ByteArray) : alld s 0 := by unfold alld; simp
theorem alld_succ {s : ByteArray} {k : Nat} (h : alld s k) (hk : k < s.size) (h1 : 48 ≤ (s[k].toNat : Int)) (h2 : (s[k].toNat : Int) ≤ 57) : alld s (k + 1) := by
  unfold alld at *
  rw [List.take_succ_eq_append_getElem (by rw [size_list]; exact hk), List.all_append, h]
  simp only [List.all_cons, List.all_nil, Bool.and_true, Bool.true_and]
  rw [isD_iff, get_list s k hk]; omega
theorem vld_end {s : ByteArray} (h0 : 0 < s.size) (h : alld s s.size) (hc : s.size = 1 ∨ ¬ (s[0].toNat : Int) = 48) : vld s.data.toList = true := by
  unfold alld at h
  rw [List.take_of_length_le (by rw [size_list]; exact Nat.le_refl _)] at h
  rw [vld_iff]
  refine ⟨by intro h2; rw [← size_list, h2] at h0; simp at h0, h, ?_⟩
  rcases hc with hc | hc
  · exact Or.inl (by rw [size_list]; exact hc)
  · right
    have e : s.data.toList.headD 0 = s[0] := by
      cases hl : s.data.toList with
      | nil => rw [← size_list, hl] at h0; simp at h0
      | cons c l => have := get_list s 0 h0; simp only [hl, List.getElem_cons_zero] at this; simp [this]
    rw [e]; omega
theorem vld_bad {s : ByteArray} {k : Nat} (hk : k < s.size) (h : (s[k].toNat : Int) < 48 ∨ 57 < (s[k].toNat : Int)) : vld s.data.toList = false := by
  cases hv : vld s.data.toList with
  | false => rfl
  | true =>
    obtain ⟨_, h2, _⟩ := (vld_iff _).1 hv
    have := List.all_eq_true.1 h2 (s.data.toList[k]'(by rw [size_list]; exact hk)) (List.getElem_mem _)
    rw [isD_iff, get_list s k hk] at this
    omega
theorem vld_zero {s : ByteArray} (h0 : 1 < s.size) (h : (s[0].toNat : Int) = 48) : vld s.data.toList = false := by
  cases hv : vld s.data.toList with
  | false => rfl
  | true =>
    obtain ⟨_, _, h3⟩ := (vld_iff _).1 hv
    rw [size_list] at h3
    have e : s.data.toList.headD 0 = s[0] := by
      cases hl : s.data.toList with
      | nil => rw [← size_list, hl] at h0; simp at h0
      | cons c l => have := get_list s 0 (by omega); simp only [hl, List.getElem_cons_zero] at this; simp [this]
    rw [e] at h3
    omega

set_option maxHeartbeats 400000 in
theorem Valid_any (s : ByteArray) (w : World) (hs : s.size ≤ maxLen) :
    Calls Tryd.prog 12 #[.string s] w fun e w' => e = .returned (.bool (vld s.data.toList)) ∧ w = w' := by
  unfold maxLen at hs
  by_cases h0 : s.size = 0
  · have hE : s.toList = [] := by rw [toList_data]; exact list_nil h0
    go_enter Tryd.func12, Tryd.ntmps12
    go_wp2
    go_ret
    exact ⟨ret_bool (by rw [list_nil h0]; rfl), rfl⟩
  · have h0 : 0 < s.size := by omega
    have hE2 : ¬ s.toList = [] := by rw [toList_data]; intro h; rw [← size_list, h] at h0; simp at h0
    have hE1 : s.toList.isEmpty = false := by simpa using hE2
    by_cases hc : (s[0].toNat : Int) = 48 ∧ 1 < s.size
    · obtain ⟨hc1, hc2⟩ := hc
      have hb : ((s[0].toNat : Int) == 48) = true := by simpa using hc1
      have hfin := Lib.hid (vld_zero hc2 hc1)
      clear hc1
      go_enter Tryd.func12, Tryd.ntmps12
      go_wp2
      go_ret
      exact ⟨ret_bool hfin.out.symm, rfl⟩
    · have hc' := Lib.hid (show s.size = 1 ∨ ¬ (s[0].toNat : Int) = 48 by omega)
      have hl : ((s[0].toNat : Int) == 48) = true ∧ s.size ≤ 1 ∨ ((s[0].toNat : Int) == 48) = false := by
        by_cases hb : (s[0].toNat : Int) = 48
        · exact Or.inl ⟨by simpa using hb, by omega⟩
        · exact Or.inr (by simpa using hb)
      clear hc
      rcases hl with ⟨hb, hl⟩ | hb
      all_goals
        go_enter Tryd.func12, Tryd.ntmps12
        go_wp2
        go_loop [18, 3] (fun i _ => ∃ k : Nat, k ≤ s.size ∧ i = .int .i64 k ∧ alld s k) (fun i _ => s.size - (intOf i).toNat)
        case atStart => exact ⟨0, Nat.zero_le _, rfl, alld_zero s⟩
        case round =>
          obtain ⟨k, hk, rfl, ha⟩ := hrel
          go_wp2
          all_goals first
            | (go_round
               case rel => exact ⟨k + 1, by omega, by go_num, alld_succ ha (by assumption) (by omega) (by omega)⟩
               case measure => simp [intOf]; omega)
            | (have hlt : k < s.size := by assumption
               go_ret
               exact ⟨ret_bool (vld_bad hlt (by omega)).symm, rfl⟩)
            | (obtain rfl : k = s.size := by omega
               go_ret
               exact ⟨ret_bool (vld_end h0 ha hc'.out).symm, rfl⟩)

theorem Valid_yes (s : ByteArray) (hv : vld s.data.toList = true) (hs : s.size ≤ maxLen) (w : World) :
    Calls Tryd.prog 12 #[.string s] w fun e w' => e = .returned (.bool true) ∧ w = w' :=
  (Valid_any s w hs).mono fun e w' ⟨h1, h2⟩ => ⟨by rw [h1, hv], h2⟩
theorem Valid_no (s : ByteArray) (hv : vld s.data.toList = false) (hs : s.size ≤ maxLen) (w : World) :
    Calls Tryd.prog 12 #[.string s] w fun e w' => e = .returned (.bool false) ∧ w = w' :=
  (Valid_any s w hs).mono fun e w' ⟨h1, h2⟩ => ⟨by rw [h1, hv], h2⟩

/-- The sign of a comparison. -/
def cmpN (m n : Nat) : Int := if m < n then -1 else if n < m then 1 else 0
theorem cmpN_lt {m n : Nat} (h : m < n) : cmpN m n = -1 := by unfold cmpN; rw [if_pos h]
theorem cmpN_gt {m n : Nat} (h : n < m) : cmpN m n = 1 := by unfold cmpN; rw [if_neg (by omega), if_pos h]
theorem cmpN_eq (m : Nat) : cmpN m m = 0 := by unfold cmpN; rw [if_neg (by omega), if_neg (by omega)]

theorem compareBytes_same {l m : List UInt8} (hl : l.length = m.length) : ∀ (p : List UInt8), (l.all isD) = true → (m.all isD) = true → Lib.compareBytes l m = cmpN (dval (p ++ l)) (dval (p ++ m)) := by
  induction l generalizing m with
  | nil =>
    intro p _ _
    have : m = [] := List.length_eq_zero_iff.1 (by simpa using hl.symm)
    subst this
    rw [cmpN_eq]; rfl
  | cons a l ih =>
    intro p h1 h2
    cases m with
    | nil => simp at hl
    | cons b m =>
      simp only [List.all_cons, Bool.and_eq_true] at h1 h2
      have hlm : l.length = m.length := by simpa using hl
      unfold Lib.compareBytes
      by_cases hab : a < b
      · rw [if_pos hab, cmpN_lt (dval_lex hlm h1.2 h1.1 h2.1 (UInt8.lt_iff_toNat_lt.1 hab))]
      · by_cases hba : b < a
        · rw [if_neg hab, if_pos hba, cmpN_gt (dval_lex hlm.symm h2.2 h2.1 h1.1 (UInt8.lt_iff_toNat_lt.1 hba))]
        · have e : a = b := by
            apply UInt8.toNat_inj.1
            rw [UInt8.lt_iff_toNat_lt] at hab hba
            omega
          subst e
          rw [if_neg hab, if_neg hba, ih hlm (p ++ [a]) h1.2 h2.2]
          simp
theorem compareBytes_num {l m : List UInt8} (h1 : vld l = true) (h2 : vld m = true) (hl : l.length = m.length) : Lib.compareBytes l m = cmpN (dval l) (dval m) := by
  have := compareBytes_same hl [] ((vld_iff _).1 h1).2.1 ((vld_iff _).1 h2).2.1
  simpa using this

theorem ret_int {k : IntKind} {a b : Int} (h : a = b) : Ending.returned (.int k a) = .returned (.int k b) := by rw [h]

set_option maxHeartbeats 400000 in
/-- compare, of two numerals. -/
theorem compare_num (a b : ByteArray) (ha : vld a.data.toList = true) (hb : vld b.data.toList = true) (w : World) :
    Calls Tryd.prog 23 #[.string a, .string b] w fun e w' => e = .returned (.int .i64 (cmpN (dval a.data.toList) (dval b.data.toList))) ∧ w = w' := by
  have hlt := Lib.hid (fun h => dval_lt_of_len ha hb h)
  have hgt := Lib.hid (fun h => dval_lt_of_len hb ha h)
  have heq := Lib.hid (fun h => compareBytes_num ha hb h)
  clear ha hb
  rcases Nat.lt_trichotomy a.size b.size with h | h | h
  · go_enter Tryd.func23, Tryd.ntmps23
    go_wp2_with fail
    go_ret
    exact ⟨ret_int (cmpN_lt (hlt.out h)).symm, rfl⟩
  · have h1 : ¬ a.size < b.size := by omega
    have h2 : ¬ b.size < a.size := by omega
    have H := Lib.hid h
    clear h
    go_enter Tryd.func23, Tryd.ntmps23
    go_wp2_with (go_at_call 37; refine (Tryd.strings_Compare _ _ _).mono ?_; rintro e w' ⟨rfl, rfl⟩)
    go_ret
    exact ⟨ret_int (heq.out H.out), rfl⟩
  · have h1 : ¬ a.size < b.size := by omega
    go_enter Tryd.func23, Tryd.ntmps23
    go_wp2_with fail
    go_ret
    exact ⟨ret_int (cmpN_gt (hgt.out h)).symm, rfl⟩

set_option maxHeartbeats 400000 in
theorem Compare_yes (a b : ByteArray) (ha : vld a.data.toList = true) (hb : vld b.data.toList = true) (hsa : a.size ≤ maxLen) (hsb : b.size ≤ maxLen) (w : World) :
    Calls Tryd.prog 10 #[.string a, .string b] w fun e w' => e = .returned (.tuple #[.int .i64 (cmpN (dval a.data.toList) (dval b.data.toList)), .int .i64 0]) ∧ w = w' := by
  have HA := Lib.hid ha
  have HB := Lib.hid hb
  clear ha hb
  go_enter Tryd.func10, Tryd.ntmps10
  go_wp2_with fail
  refine (Valid_yes a HA.out hsa _).mono ?_
  rintro e w' ⟨rfl, rfl⟩
  go_wp2_with fail
  refine (Valid_yes b HB.out hsb _).mono ?_
  rintro e w' ⟨rfl, rfl⟩
  go_wp2_with fail
  refine (compare_num a b HA.out HB.out _).mono ?_
  rintro e w' ⟨rfl, rfl⟩
  go_wp2
  go_ret2
  exact ⟨rfl, rfl⟩
set_option maxHeartbeats 400000 in
theorem Compare_no (a b : ByteArray) (h : (vld a.data.toList && vld b.data.toList) = false) (hsa : a.size ≤ maxLen) (hsb : b.size ≤ maxLen) (w : World) :
    Calls Tryd.prog 10 #[.string a, .string b] w fun e w' => e = .returned (.tuple #[.int .i64 0, .int .i64 1]) ∧ w = w' := by
  by_cases ha : vld a.data.toList = true
  · have hb : vld b.data.toList = false := by rw [ha] at h; simpa using h
    have HA := Lib.hid ha
    have HB := Lib.hid hb
    clear ha hb h
    go_enter Tryd.func10, Tryd.ntmps10
    go_wp2_with fail
    refine (Valid_yes a HA.out hsa _).mono ?_
    rintro e w' ⟨rfl, rfl⟩
    go_wp2_with fail
    refine (Valid_no b HB.out hsb _).mono ?_
    rintro e w' ⟨rfl, rfl⟩
    go_wp2
    go_ret2
    exact ⟨rfl, rfl⟩
  · have HA := Lib.hid (show vld a.data.toList = false by simpa using ha)
    clear ha h
    go_enter Tryd.func10, Tryd.ntmps10
    go_wp2_with fail
    refine (Valid_no a HA.out hsa _).mono ?_
    rintro e w' ⟨rfl, rfl⟩
    go_wp2
    go_ret2
    exact ⟨rfl, rfl⟩

end Go.Proofs.YtpdchplppkfdhaaDoor
