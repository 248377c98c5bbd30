/- Texts of this proof, one behind the other. -/
import Derived.Test.YtohaocgbclpknaaGreatDoorWh
import Derived.Test.YtohaocgbclpknaaGreatDoorMz2q
/- natural.subtract, natural.Sub and natural.Mul, and natural.Add and natural.DivMod of short numerals: walks. -/
namespace Go.Proofs.YtohaocgbclpknaaGreatDoor
open Go.RowKit Go.Gb

theorem car_alloc (w : World) : Car (w.alloc (.cells #[.int .u64 0] 144)) w.heap.size 0 := by unfold Car; rw [heap_alloc_new]; rfl
theorem digs_len_str {l : List UInt8} (h : l.all isD = true) (k : Nat) (hl : l.length ≤ 9 * k) : (digs (dval l)).length ≤ k := by
  refine digs_length_le (Nat.lt_of_lt_of_le (dval_lt l h) ?_)
  rw [show BB = 10 ^ 9 from by rw [BB_eq], ← Nat.pow_mul]
  exact Nat.pow_le_pow_right (by decide) hl

set_option maxHeartbeats 1000000 in
theorem subtract_any (v1 v2 : Value) (a b : Nat) (hab : b ≤ a) (ha : a ≠ 0) (hl : (digs a).length ≤ 100000) (w : World) (h1 : Rd .u64 w v1 (digs a)) (h2 : Rd .u64 w v2 (digs b)) :
    Calls Tryz.prog 108 #[v1, v2] w fun e w' => ∃ v, e = .returned v ∧ Own .u64 82 w.heap.size w' v (digs (a - b)) ∧ Below w.heap.size w w' := by
  obtain ⟨b1, o1, c1, rfl, _, _, k1, r1⟩ := rd_pos h1 (List.length_pos_iff.2 (by rw [digs_pos ha]; simp))
  have hb0 := (Below.refl w.heap.size w).alloc (Nat.le_refl _) (.cells #[.int .u64 0] 144)
  have hj : Calls Tryz.prog 125 #[.slice (some ⟨b1, o1, none⟩) (digs a).length c1, v2, .func (.func 126) #[.pointer (some ⟨w.heap.size, 0, none⟩)] #[]] (w.alloc (.cells #[.int .u64 0] 144)) fun e w' =>
      e = .returned (.slice (some ⟨w.heap.size + 1, 0, none⟩) (digs a).length ((digs a).length + 1)) ∧ ∃ (os : List Nat) (c : Nat), DifInv (digs a) (digs b) os (digs a).length c ∧ Blk w' (w.heap.size + 1) (os ++ [0]) ∧ Car w' w.heap.size c ∧ (w.alloc (.cells #[.int .u64 0] 144)).grownBy w' (some w.heap.size) := by
    have hcx : ∀ i, i < (digs a).length → (w.alloc (.cells #[.int .u64 0] 144)).cell? ⟨b1, o1 + i, none⟩ = some (.int .u64 (((digs a).getD i 0 : Nat) : Int)) := fun i hi => (hb0.cell (p := ⟨b1, o1 + i, none⟩) k1).trans (r1 i hi)
    have hz : (w.alloc (.cells #[.int .u64 0] 144)).heap.size = w.heap.size + 1 := by simp
    rcases h2 with ⟨rfl, h2⟩ | ⟨b2, o2, c2, rfl, _, _, k2, r2⟩
    · have := join_minus_nil DifInv w.heap.size b1 o1 c1 none 0 (digs a) (digs b) hl (w.alloc (.cells #[.int .u64 0] 144)) (minus_ok _ _ _ (digs_lt a) (digs_lt b)) (DifInv.start _ _) (fun os i c h => h.1) (car_alloc w) (by rw [hz]; omega) (by omega) hcx (by rw [h2]; simp)
      rw [hz, h2] at this
      rw [h2]
      exact this
    · have := join_minus_some DifInv w.heap.size b1 o1 c1 b2 o2 c2 (digs a) (digs b) hl (w.alloc (.cells #[.int .u64 0] 144)) (minus_ok _ _ _ (digs_lt a) (digs_lt b)) (DifInv.start _ _) (fun os i c h => h.1) (car_alloc w) (by rw [hz]; omega) (by omega) hcx (by rw [hz]; omega) (by omega) (fun i hi => (hb0.cell (p := ⟨b2, o2 + i, none⟩) k2).trans (r2 i hi))
      rw [hz] at this
      exact this
  have HJ := Lib.hid hj
  have HAB := Lib.hid hab
  have HL := Lib.hid hl
  clear hj h1 h2 r1 hb0 hab ha hl
  go_enter Tryz.func108, Tryz.ntmps108
  go_wp2_with fail
  refine HJ.out.mono ?_
  rintro e w1 ⟨rfl, os, c, hd, hblk, _, hg⟩
  obtain ⟨g1, g2⟩ := hd.done (digs_length_mono HAB.out) (by rw [wval_digs, wval_digs]; exact HAB.out)
  rw [wval_digs, wval_digs] at g1
  have hlen := hd.1
  have hown := hblk.own (B := w.heap.size) (by omega) (by have := HL.out; unfold maxLen; simp; omega) os.length (by simp)
  rw [List.take_left, hlen, List.length_append, List.length_singleton, hlen] at hown
  have htr := Trim_own 82 w.heap.size _ os g2 w1 hown
  rw [g1] at htr
  have HTR := Lib.hid htr
  have HB := Lib.hid (((Below.refl w.heap.size w).alloc (Nat.le_refl _) (.cells #[.int .u64 0] 144)).grown hg (by simp) (fun k hk => by cases hk; exact Nat.le_refl _))
  clear hd hblk hg g1 g2 hown htr hlen
  go_wp2_with fail
  refine HTR.out.mono ?_
  rintro e w2 ⟨v, rfl, hown, rfl⟩
  go_wp2
  go_ret
  exact ⟨v, rfl, hown, HB.out⟩

/-! ### the numerals -/
theorem write_int (u : Int) (h0 : 0 ≤ u) (h1 : u < 18446744073709551616) (w : World) (htab : Tb w) :
    Calls Tryz.prog 87 #[.int .u64 u] w fun e w' => e = .returned (.string ⟨(Lib.decDigits u.toNat).toArray⟩) ∧ Below w.heap.size w w' := by
  obtain ⟨n, rfl⟩ := Int.eq_ofNat_of_zero_le h0
  exact write_any n (by omega) w htab
theorem digs_mul_len (a b : Nat) : (digs (a * b)).length ≤ (digs a).length + (digs b).length := by
  refine digs_length_le ?_
  rw [Nat.pow_add]
  rcases Nat.eq_zero_or_pos b with h | h
  · rw [h, Nat.mul_zero]; exact Nat.mul_pos (Nat.pow_pos BB_pos) (Nat.pow_pos BB_pos)
  · exact Nat.mul_lt_mul_of_lt_of_le (lt_pow_digs a) (Nat.le_of_lt (lt_pow_digs b)) (Nat.pow_pos BB_pos)
def St (l : List UInt8) : Value := .string ⟨l.toArray⟩
theorem all_of_vld {l : List UInt8} (h : vld l = true) : l.all isD = true := ((vld_iff l).1 h).2.1
theorem dval19 {s : ByteArray} (h : vld s.data.toList = true) (hl : s.size ≤ 18) : dval s.data.toList < 1000000000000000000 := by
  have h1 := dval_lt _ (all_of_vld h)
  have h2 : 10 ^ s.data.toList.length ≤ 10 ^ 18 := Nat.pow_le_pow_right (by decide) (by rw [size_list]; exact hl)
  omega
theorem dval20 {s : ByteArray} (h : vld s.data.toList = true) (hl : s.size ≤ 19) : dval s.data.toList < 10000000000000000000 := by
  have h1 := dval_lt _ (all_of_vld h)
  have h2 : 10 ^ s.data.toList.length ≤ 10 ^ 19 := Nat.pow_le_pow_right (by decide) (by rw [size_list]; exact hl)
  omega

set_option maxHeartbeats 1000000 in
theorem Add_short (a b : ByteArray) (ha : vld a.data.toList = true) (hb : vld b.data.toList = true) (hla : a.size ≤ 18) (hlb : b.size ≤ 18) (w : World) (htab : Tb w) :
    Calls Tryz.prog 91 #[.string a, .string b] w fun e w' => e = .returned (.tuple #[St (Lib.decDigits (dval a.data.toList + dval b.data.toList)), .int .i64 0]) ∧ Below w.heap.size w w' := by
  have HA := Lib.hid ha
  have HB := Lib.hid hb
  have HT := Lib.hid htab
  have Hla := Lib.hid (show a.size ≤ maxLen by unfold maxLen; omega)
  have Hlb := Lib.hid (show b.size ≤ maxLen by unfold maxLen; omega)
  have hba := dval19 ha hla
  have hbb := dval19 hb hlb
  have HBA := Lib.hid hba
  have HBB := Lib.hid hbb
  clear ha hb htab hba hbb
  go_enter Tryz.func91, Tryz.ntmps91
  go_wp2_with fail
  refine (Valid_yes a HA.out Hla.out _).mono ?_
  rintro e w' ⟨rfl, rfl⟩
  go_wp2_with fail
  refine (Valid_yes b HB.out Hlb.out _).mono ?_
  rintro e w' ⟨rfl, rfl⟩
  go_wp2_with fail
  refine (read_any a HA.out (by omega) _).mono ?_
  rintro e w1 ⟨rfl, hb1⟩
  have HB1 := Lib.hid hb1
  clear hb1
  go_wp2_with fail
  refine (read_any b HB.out (by omega) _).mono ?_
  rintro e w2 ⟨rfl, hb2⟩
  have HB2 := Lib.hid (HB1.out.trans (hb2.mono HB1.out.size))
  clear hb2
  generalize hxx : dval a.data.toList = x at *
  generalize hyy : dval b.data.toList = y at *
  have HXX := Lib.hid hxx
  have HYY := Lib.hid hyy
  clear hxx hyy
  have hx := HBA.out
  have hy := HBB.out
  have hsum : IntKind.u64.wrap ((x : Int) + (y : Int)) = (x : Int) + (y : Int) := IntWalk.u64_in _ (by omega)
  have hwr := Lib.hid (write_int ((x : Int) + (y : Int)) (by omega) (by omega) w2 (HT.out.on HB2.out))
  clear hx hy
  go_wp2_with fail
  refine hwr.out.mono ?_
  rintro e w3 ⟨rfl, hb3⟩
  rw [show ((x : Int) + (y : Int)).toNat = x + y by omega]
  have HB3 := Lib.hid (HB2.out.trans (hb3.mono HB2.out.size))
  clear hb3 hsum
  go_wp2
  go_ret2
  refine ⟨?_, HB3.out⟩
  rw [HXX.out, HYY.out]
  rfl

set_option maxHeartbeats 2000000 in
theorem Mul_yes (a b : ByteArray) (ha : vld a.data.toList = true) (hb : vld b.data.toList = true) (hla : a.size ≤ 100000) (hlb : b.size ≤ 100000) (w : World) (htab : Tb w) :
    Calls Tryz.prog 56 #[.string a, .string b] w fun e w' => e = .returned (.tuple #[St (Lib.decDigits (dval a.data.toList * dval b.data.toList)), .int .i64 0]) ∧ Below w.heap.size w w' := by
  have HA := Lib.hid ha
  have HB := Lib.hid hb
  have HT := Lib.hid htab
  have Hla := Lib.hid (show a.size ≤ maxLen by unfold maxLen; omega)
  have Hlb := Lib.hid (show b.size ≤ maxLen by unfold maxLen; omega)
  have hda := Lib.hid (digs_len_str (all_of_vld ha) 100000 (by rw [size_list]; omega))
  have hdb := Lib.hid (digs_len_str (all_of_vld hb) 100000 (by rw [size_list]; omega))
  by_cases hs : a.size + b.size ≤ 19
  · have h1 := dval_lt _ (all_of_vld ha)
    have h2 := dval_lt _ (all_of_vld hb)
    have h3 : dval a.data.toList * dval b.data.toList < 10000000000000000000 := by
      have h4 : dval a.data.toList * dval b.data.toList ≤ dval a.data.toList * 10 ^ b.data.toList.length := Nat.mul_le_mul_left _ (Nat.le_of_lt h2)
      have h5 : dval a.data.toList * 10 ^ b.data.toList.length < 10 ^ a.data.toList.length * 10 ^ b.data.toList.length := Nat.mul_lt_mul_of_pos_right h1 (Nat.pow_pos (by decide))
      rw [← Nat.pow_add] at h5
      have h6 : 10 ^ (a.data.toList.length + b.data.toList.length) ≤ 10 ^ 19 := Nat.pow_le_pow_right (by decide) (by rw [size_list, size_list]; exact hs)
      omega
    have H3 := Lib.hid h3
    clear ha hb htab h1 h2 h3
    go_enter Tryz.func56, Tryz.ntmps56
    go_wp2_with fail
    refine (Valid_yes a HA.out Hla.out _).mono ?_
    rintro e w' ⟨rfl, rfl⟩
    go_wp2_with fail
    refine (Valid_yes b HB.out Hlb.out _).mono ?_
    rintro e w' ⟨rfl, rfl⟩
    go_wp2_with fail
    refine (read_any a HA.out (by omega) _).mono ?_
    rintro e w1 ⟨rfl, hb1⟩
    have HB1 := Lib.hid hb1
    clear hb1
    go_wp2_with fail
    refine (read_any b HB.out (by omega) _).mono ?_
    rintro e w2 ⟨rfl, hb2⟩
    have HB2 := Lib.hid (HB1.out.trans (hb2.mono HB1.out.size))
    clear hb2
    generalize hxx : dval a.data.toList = x at *
    generalize hyy : dval b.data.toList = y at *
    have HXX := Lib.hid hxx
    have HYY := Lib.hid hyy
    clear hxx hyy
    obtain ⟨p, hp⟩ : ∃ p : Nat, p = x * y := ⟨_, rfl⟩
    have hpi : (x : Int) * (y : Int) = (p : Int) := by rw [hp]; exact (Int.natCast_mul _ _).symm
    have hpb := H3.out
    rw [← hp] at hpb
    have hw1 : IntKind.u64.wrap (p : Int) = (p : Int) := IntWalk.u64_in _ (by omega)
    have hwr := Lib.hid (write_int (p : Int) (by omega) (by omega) w2 (HT.out.on HB2.out))
    have HP := Lib.hid hp
    clear hpb hp
    go_wp2_with fail
    refine hwr.out.mono ?_
    rintro e w3 ⟨rfl, hb3⟩
    rw [Int.toNat_natCast, HP.out]
    have HB3 := Lib.hid (HB2.out.trans (hb3.mono HB2.out.size))
    clear hb3 hw1 hpi
    go_wp2
    go_ret2
    refine ⟨?_, HB3.out⟩
    rw [HXX.out, HYY.out]
    rfl
  · have hra := Lib.hid (all_of_vld ha)
    have hrb := Lib.hid (all_of_vld hb)
    have hlp : (digs (dval a.data.toList * dval b.data.toList)).length ≤ 100000 := by
      have g1 := digs_len_str (all_of_vld ha) 20000 (by rw [size_list]; omega)
      have g2 := digs_len_str (all_of_vld hb) 20000 (by rw [size_list]; omega)
      have g3 := digs_mul_len (dval a.data.toList) (dval b.data.toList)
      omega
    have HLP := Lib.hid hlp
    clear ha hb htab hlp
    go_enter Tryz.func56, Tryz.ntmps56
    go_wp2_with fail
    refine (Valid_yes a HA.out Hla.out _).mono ?_
    rintro e w' ⟨rfl, rfl⟩
    go_wp2_with fail
    refine (Valid_yes b HB.out Hlb.out _).mono ?_
    rintro e w' ⟨rfl, rfl⟩
    go_wp2_with fail
    refine (Read_any a hra.out hla _).mono ?_
    rintro e w1 ⟨v1, rfl, ho1, hb1⟩
    have HB1 := Lib.hid hb1
    have HO1 := Lib.hid ho1
    clear hb1 ho1
    go_wp2_with fail
    refine (Read_any b hrb.out hlb _).mono ?_
    rintro e w2 ⟨v2, rfl, ho2, hb2⟩
    have HB2 := Lib.hid (HB1.out.trans (hb2.mono HB1.out.size))
    have hm := Lib.hid (Multiply_any v1 v2 _ _ hda.out hdb.out w2 (HO1.out.rd.below hb2) ho2.rd)
    clear hb2 ho2
    go_wp2_with fail
    refine hm.out.mono ?_
    rintro e w3 ⟨v3, rfl, ho3, hb3⟩
    have HB3 := Lib.hid (HB2.out.trans (hb3.mono HB2.out.size))
    have hwr := Lib.hid (Write_any v3 _ HLP.out w3 ho3.rd (HT.out.on HB3.out))
    clear hb3 ho3
    go_wp2_with fail
    refine hwr.out.mono ?_
    rintro e w4 ⟨rfl, hb4⟩
    have HB4 := Lib.hid (HB3.out.trans (hb4.mono HB3.out.size))
    clear hb4
    go_wp2
    go_ret2
    exact ⟨rfl, HB4.out⟩

set_option maxHeartbeats 2000000 in
theorem Sub_yes (a b : ByteArray) (ha : vld a.data.toList = true) (hb : vld b.data.toList = true) (hab : dval b.data.toList ≤ dval a.data.toList) (hla : a.size ≤ 100000) (hlb : b.size ≤ 100000) (w : World) (htab : Tb w) :
    Calls Tryz.prog 90 #[.string a, .string b] w fun e w' => e = .returned (.tuple #[St (Lib.decDigits (dval a.data.toList - dval b.data.toList)), .int .i64 0]) ∧ Below w.heap.size w w' := by
  have HA := Lib.hid ha
  have HB := Lib.hid hb
  have HT := Lib.hid htab
  have Hla := Lib.hid (show a.size ≤ maxLen by unfold maxLen; omega)
  have Hlb := Lib.hid (show b.size ≤ maxLen by unfold maxLen; omega)
  have hda := Lib.hid (digs_len_str (all_of_vld ha) 100000 (by rw [size_list]; omega))
  have hlen : b.size ≤ a.size := by
    rcases Nat.lt_or_ge a.size b.size with h | h
    · have := dval_lt_of_len ha hb (by rw [size_list, size_list]; exact h)
      omega
    · exact h
  have hcmp := Lib.hid (compare_num a b ha hb)
  have hc0 : ¬ cmpN (dval a.data.toList) (dval b.data.toList) < 0 := by unfold cmpN; split <;> (try split) <;> omega
  by_cases hs : a.size ≤ 19
  · have h1 := Lib.hid (dval20 ha hs)
    have HAB := Lib.hid hab
    clear ha hb htab hab
    go_enter Tryz.func90, Tryz.ntmps90
    go_wp2_with fail
    refine (Valid_yes a HA.out Hla.out _).mono ?_
    rintro e w' ⟨rfl, rfl⟩
    go_wp2_with fail
    refine (Valid_yes b HB.out Hlb.out _).mono ?_
    rintro e w' ⟨rfl, rfl⟩
    go_wp2_with fail
    refine (hcmp.out _).mono ?_
    rintro e w' ⟨rfl, rfl⟩
    generalize cmpN (dval a.data.toList) (dval b.data.toList) = cc at *
    go_wp2_with fail
    refine (read_any a HA.out (by omega) _).mono ?_
    rintro e w1 ⟨rfl, hb1⟩
    have HB1 := Lib.hid hb1
    clear hb1
    go_wp2_with fail
    refine (read_any b HB.out (by omega) _).mono ?_
    rintro e w2 ⟨rfl, hb2⟩
    have HB2 := Lib.hid (HB1.out.trans (hb2.mono HB1.out.size))
    clear hb2
    generalize hxx : dval a.data.toList = x at *
    generalize hyy : dval b.data.toList = y at *
    have HXX := Lib.hid hxx
    have HYY := Lib.hid hyy
    clear hxx hyy
    have hxy := HAB.out
    have hx := h1.out
    have hw1 : IntKind.u64.wrap ((x : Int) - (y : Int)) = (x : Int) - (y : Int) := IntWalk.u64_in _ (by omega)
    have hwr := Lib.hid (write_int ((x : Int) - (y : Int)) (by omega) (by omega) w2 (HT.out.on HB2.out))
    clear hx hxy
    go_wp2_with fail
    refine hwr.out.mono ?_
    rintro e w3 ⟨rfl, hb3⟩
    rw [show ((x : Int) - (y : Int)).toNat = x - y by have := HAB.out; omega]
    have HB3 := Lib.hid (HB2.out.trans (hb3.mono HB2.out.size))
    clear hb3 hw1
    go_wp2
    go_ret2
    refine ⟨?_, HB3.out⟩
    rw [HXX.out, HYY.out]
    rfl
  · have hra := Lib.hid (all_of_vld ha)
    have hrb := Lib.hid (all_of_vld hb)
    have hne : dval a.data.toList ≠ 0 := by
      intro h0
      have := dec_dval _ ha
      rw [h0, Lib.decDigits_one (by decide)] at this
      have h9 : a.data.toList.length = 1 := by rw [← this]; rfl
      rw [size_list] at h9
      omega
    have HNE := Lib.hid hne
    have hlp := Lib.hid (show (digs (dval a.data.toList - dval b.data.toList)).length ≤ 100000 from Nat.le_trans (digs_length_mono (Nat.sub_le _ _)) hda.out)
    have HAB := Lib.hid hab
    clear ha hb htab hab hne
    go_enter Tryz.func90, Tryz.ntmps90
    go_wp2_with fail
    refine (Valid_yes a HA.out Hla.out _).mono ?_
    rintro e w' ⟨rfl, rfl⟩
    go_wp2_with fail
    refine (Valid_yes b HB.out Hlb.out _).mono ?_
    rintro e w' ⟨rfl, rfl⟩
    go_wp2_with fail
    refine (hcmp.out _).mono ?_
    rintro e w' ⟨rfl, rfl⟩
    generalize cmpN (dval a.data.toList) (dval b.data.toList) = cc at *
    go_wp2_with fail
    refine (Read_any a hra.out hla _).mono ?_
    rintro e w1 ⟨v1, rfl, ho1, hb1⟩
    have HB1 := Lib.hid hb1
    have HO1 := Lib.hid ho1
    clear hb1 ho1
    go_wp2_with fail
    refine (Read_any b hrb.out hlb _).mono ?_
    rintro e w2 ⟨v2, rfl, ho2, hb2⟩
    have HB2 := Lib.hid (HB1.out.trans (hb2.mono HB1.out.size))
    have hm := Lib.hid (subtract_any v1 v2 _ _ HAB.out HNE.out hda.out w2 (HO1.out.rd.below hb2) ho2.rd)
    clear hb2 ho2
    go_wp2_with fail
    refine hm.out.mono ?_
    rintro e w3 ⟨v3, rfl, ho3, hb3⟩
    have HB3 := Lib.hid (HB2.out.trans (hb3.mono HB2.out.size))
    have hwr := Lib.hid (Write_any v3 _ hlp.out w3 ho3.rd (HT.out.on HB3.out))
    clear hb3 ho3
    go_wp2_with fail
    refine hwr.out.mono ?_
    rintro e w4 ⟨rfl, hb4⟩
    have HB4 := Lib.hid (HB3.out.trans (hb4.mono HB3.out.size))
    clear hb4
    go_wp2
    go_ret2
    exact ⟨rfl, HB4.out⟩

end Go.Proofs.YtohaocgbclpknaaGreatDoor
/- natural.DivMod: walks. -/
namespace Go.Proofs.YtohaocgbclpknaaGreatDoor
open Go.RowKit Go.Gb

theorem not_zero {s : ByteArray} (h : dval s.data.toList ≠ 0) : s.data.toList ≠ [48] := by
  intro h2; apply h; rw [h2]; rfl

theorem neq_zero_str {b : ByteArray} (h : dval b.data.toList ≠ 0) : (b.toList == [48]) = false := by
  rw [beq_eq_false_iff_ne, toList_data]
  exact not_zero h

set_option maxHeartbeats 1000000 in
theorem DivMod_short (a b : ByteArray) (ha : vld a.data.toList = true) (hb : vld b.data.toList = true) (h0 : dval b.data.toList ≠ 0) (hab : dval b.data.toList ≤ dval a.data.toList) (hla : a.size ≤ 19) (w : World) (htab : Tb w) :
    Calls Tryz.prog 54 #[.string a, .string b] w fun e w' => e = .returned (.tuple #[St (Lib.decDigits (dval a.data.toList / dval b.data.toList)), St (Lib.decDigits (dval a.data.toList % dval b.data.toList)), .int .i64 0]) ∧ Below w.heap.size w w' := by
  have hlen : b.size ≤ a.size := by
    rcases Nat.lt_or_ge a.size b.size with h | h
    · have := dval_lt_of_len ha hb (by rw [size_list, size_list]; exact h)
      omega
    · exact h
  have HA := Lib.hid ha
  have HB := Lib.hid hb
  have HT := Lib.hid htab
  have Hla := Lib.hid (show a.size ≤ maxLen by unfold maxLen; omega)
  have Hlb := Lib.hid (show b.size ≤ maxLen by unfold maxLen; omega)
  have hne := neq_zero_str h0
  have hcmp := Lib.hid (compare_num a b ha hb)
  have hc0 : ¬ cmpN (dval a.data.toList) (dval b.data.toList) < 0 := by unfold cmpN; split <;> (try split) <;> omega
  have H1 := Lib.hid (dval20 ha hla)
  have H0 := Lib.hid (show 0 < dval b.data.toList by omega)
  have HAB := Lib.hid hab
  clear ha hb htab h0 hab
  go_enter Tryz.func54, Tryz.ntmps54
  go_wp2_with fail
  refine (Valid_yes a HA.out Hla.out _).mono ?_
  rintro e w' ⟨rfl, rfl⟩
  go_wp2_with fail
  refine (Valid_yes b HB.out Hlb.out _).mono ?_
  rintro e w' ⟨rfl, rfl⟩
  go_wp2_with fail
  refine (hcmp.out _).mono ?_
  rintro e w' ⟨rfl, rfl⟩
  generalize cmpN (dval a.data.toList) (dval b.data.toList) = cc at *
  go_wp2_with fail
  refine (read_any a HA.out (by omega) _).mono ?_
  rintro e w1 ⟨rfl, hb1⟩
  have HB1 := Lib.hid hb1
  clear hb1
  go_wp2_with fail
  refine (read_any b HB.out (by omega) _).mono ?_
  rintro e w2 ⟨rfl, hb2⟩
  have HB2 := Lib.hid (HB1.out.trans (hb2.mono HB1.out.size))
  clear hb2
  generalize hxx : dval a.data.toList = x at *
  generalize hyy : dval b.data.toList = y at *
  have HXX := Lib.hid hxx
  have HYY := Lib.hid hyy
  clear hxx hyy
  have hT2d := Lib.hid (show Tb w2.drew from HT.out.on (Below.drew HB2.out))
  have hx64 : x / y < 18446744073709551616 := Nat.lt_of_le_of_lt (Nat.div_le_self x y) (by have := H1.out; omega)
  have hm64 : x % y < 18446744073709551616 := Nat.lt_of_le_of_lt (Nat.mod_le x y) (by have := H1.out; omega)
  have HQ := Lib.hid (show ∀ W, Tb W → Calls Tryz.prog 87 #[.int .u64 ((x : Int) / (y : Int))] W fun e w' => e = .returned (.string ⟨(Lib.decDigits (x / y)).toArray⟩) ∧ Below W.heap.size W w' from fun W hW => write_any (x / y) hx64 W hW)
  have HM := Lib.hid (show ∀ W, Tb W → Calls Tryz.prog 87 #[.int .u64 ((x : Int) % (y : Int))] W fun e w' => e = .returned (.string ⟨(Lib.decDigits (x % y)).toArray⟩) ∧ Below W.heap.size W w' from fun W hW => write_any (x % y) hm64 W hW)
  have y1 : (1 : Int) ≤ (y : Int) := by have := H0.out; omega
  have x0 : (0 : Int) ≤ (x : Int) := by omega
  have yz : ((y : Int) == 0) = false := beq_eq_false_iff_ne.2 (by omega)
  have htm : (x : Int).tmod (y : Int) = (x : Int) % (y : Int) := rfl
  have hwq : IntKind.u64.wrap ((x : Int) / (y : Int)) = (x : Int) / (y : Int) := IntWalk.u64_in _ ⟨Int.natCast_nonneg (x / y), by have := (Int.ofNat_lt.2 hx64); omega⟩
  clear hx64 hm64 hc0 hcmp
  go_wp2_with fail
  go_region_with (first | (go_at_call 87; (with_reducible refine (HQ.out _ hT2d.out).mono ?_); rintro e w3 ⟨rfl, hb3⟩) | (go_at_call 87; (with_reducible refine (HM.out _ (hT2d.out.on hb3)).mono ?_); rintro e w4 ⟨rfl, hb4⟩))
  all_goals
    go_wp2
    go_ret3
    refine ⟨?_, ((Below.drew HB2.out).trans (Below.mono hb3 HB2.out.size)).trans (Below.mono hb4 (Nat.le_trans HB2.out.size hb3.size))⟩
    rw [HXX.out, HYY.out]
    rfl

theorem DivMod_less (a b : ByteArray) (ha : vld a.data.toList = true) (hb : vld b.data.toList = true) (hab : dval a.data.toList < dval b.data.toList) (hla : a.size ≤ maxLen) (hlb : b.size ≤ maxLen) (w : World) :
    Calls Tryz.prog 54 #[.string a, .string b] w fun e w' => e = .returned (.tuple #[St [48], .string a, .int .i64 0]) ∧ w = w' := by
  have HA := Lib.hid ha
  have HB := Lib.hid hb
  have hne := neq_zero_str (b := b) (by omega)
  have hcmp := compare_num a b ha hb
  rw [cmpN_lt hab] at hcmp
  have HC := Lib.hid hcmp
  clear ha hb hab hcmp
  go_enter Tryz.func54, Tryz.ntmps54
  go_wp2_with fail
  refine (Valid_yes a HA.out hla _).mono ?_
  rintro e w' ⟨rfl, rfl⟩
  go_wp2_with fail
  refine (Valid_yes b HB.out hlb _).mono ?_
  rintro e w' ⟨rfl, rfl⟩
  go_wp2_with fail
  refine (HC.out _).mono ?_
  rintro e w' ⟨rfl, rfl⟩
  go_wp2
  go_ret3
  exact ⟨rfl, rfl⟩

end Go.Proofs.YtohaocgbclpknaaGreatDoor
/- natural.power and natural.Pow: walks. -/
namespace Go.Proofs.YtohaocgbclpknaaGreatDoor
open Go.RowKit Go.Gb

theorem digs_one : digs 1 = [1] := by
  have h := digs_cons (w := 1) (n := 0) BB_one (Or.inl (by decide))
  rw [digs_zero] at h
  simpa using h
theorem own_alloc_one (w : World) (n : Nat) (h0 : n ≠ 0) (hB : n < BB) : Own .u64 82 w.heap.size (w.alloc (.cells #[.int .u64 (n : Int)] 82)) (.slice (some ⟨w.heap.size, 0, none⟩) 1 1) (digs n) := by
  have hb : Blk (w.alloc (.cells #[.int .u64 (n : Int)] 82)) w.heap.size [n] := Blk.alloc [n] _ rfl
  have h := hb.own (B := w.heap.size) (Nat.le_refl _) (by unfold maxLen; simp) 1 (by simp)
  have e : digs n = [n] := by
    have h := digs_cons (w := n) (n := 0) hB (Or.inl h0)
    rw [digs_zero] at h
    simpa using h
  rw [e]
  exact h

end Go.Proofs.YtohaocgbclpknaaGreatDoor
/- Plain facts about Euclid's algorithm with its factors. No program is mentioned. -/
namespace Go.Gb

def EuInv (x0 y0 x y a b c d : Nat) (o : Bool) : Prop :=
  x0 = d * x + b * y ∧ y0 = c * x + a * y ∧ Nat.gcd x y = Nat.gcd x0 y0 ∧ (o = true → b * y0 = a * x0 + x ∧ c * x0 = d * y0 + y) ∧ (o = false → a * x0 = b * y0 + x ∧ d * y0 = c * x0 + y)
theorem EuInv.start (x y : Nat) : EuInv x y x y 1 0 0 1 false := by
  refine ⟨by omega, by omega, rfl, ?_, ?_⟩
  · intro h; cases h
  · intro _; constructor <;> omega
theorem EuInv.step {x0 y0 x y a b c d : Nat} {o : Bool} (h : EuInv x0 y0 x y a b c d o) : EuInv x0 y0 y (x % y) c d (a + x / y * c) (b + x / y * d) (!o) := by
  obtain ⟨h1, h2, h3, h4, h5⟩ := h
  have hx := Nat.div_add_mod x y
  generalize x / y = q at *
  have h6 : Nat.gcd y (x % y) = Nat.gcd x0 y0 := by rw [← h3, Nat.gcd_comm y, ← Nat.gcd_rec, Nat.gcd_comm]
  generalize x % y = r at *
  refine ⟨?_, ?_, h6, fun ho => ?_, fun ho => ?_⟩
  · grind
  · grind
  · have := h5 (by cases o <;> simp_all)
    grind
  · have := h4 (by cases o <;> simp_all)
    grind
/-- The factors are not greater than the numbers. -/
theorem EuInv.bound {x0 y0 x y a b c d : Nat} {o : Bool} (h : EuInv x0 y0 x y a b c d o) (hx : 0 < x) : d ≤ x0 ∧ c ≤ y0 := by
  obtain ⟨h1, h2, _⟩ := h
  have g1 : d * 1 ≤ d * x := Nat.mul_le_mul_left _ hx
  have g2 : c * 1 ≤ c * x := Nat.mul_le_mul_left _ hx
  omega

end Go.Gb
/- words.Common of short numbers: walks. -/
namespace Go.Proofs.YtohaocgbclpknaaGreatDoor
open Go.RowKit Go.Gb

/-- Steps as a value. -/
def Stp (a b c d : Nat) (o : Bool) : Value := .agg #[.int .u64 (a : Int), .int .u64 (b : Int), .int .u64 (c : Int), .int .u64 (d : Int), .bool o]

set_option maxHeartbeats 1000000 in
set_option maxRecDepth 100000 in
theorem with_any (a b c d q : Nat) (o : Bool) (h1 : a + q * c ≤ 2000000000000000000) (h2 : b + q * d ≤ 2000000000000000000) (w : World) :
    Calls Tryz.prog 95 #[Stp a b c d o, .int .u64 (q : Int)] w fun e w' => e = .returned (Stp c d (a + q * c) (b + q * d) (!o)) ∧ Below w.heap.size w w' := by
  obtain ⟨p1, hp1⟩ : ∃ p : Nat, p = q * c := ⟨_, rfl⟩
  obtain ⟨p2, hp2⟩ : ∃ p : Nat, p = q * d := ⟨_, rfl⟩
  rw [← hp1] at h1 ⊢
  rw [← hp2] at h2 ⊢
  have e1 : (q : Int) * (c : Int) = (p1 : Int) := by rw [hp1]; exact (Int.natCast_mul _ _).symm
  have e2 : (q : Int) * (d : Int) = (p2 : Int) := by rw [hp2]; exact (Int.natCast_mul _ _).symm
  have w1 : IntKind.u64.wrap (p1 : Int) = (p1 : Int) := IntWalk.u64_in _ (by omega)
  have w2 : IntKind.u64.wrap (p2 : Int) = (p2 : Int) := IntWalk.u64_in _ (by omega)
  have w3 : IntKind.u64.wrap ((a : Int) + (p1 : Int)) = (a : Int) + (p1 : Int) := IntWalk.u64_in _ (by omega)
  have w4 : IntKind.u64.wrap ((b : Int) + (p2 : Int)) = (b : Int) + (p2 : Int) := IntWalk.u64_in _ (by omega)
  have HP1 := Lib.hid hp1
  have HP2 := Lib.hid hp2
  clear hp1 hp2 h1 h2
  unfold Stp
  go_enter Tryz.func95, Tryz.ntmps95
  go_wp2
  refine bodyPost_ret (v := Stp c d (a + p1) (b + p2) (!o)) (by simp [results, Tryz.results95, go_sem, Stp]) rfl ⟨rfl, ?_⟩
  repeat (first | exact Below.refl _ _ | refine Below.setCell ?_ (by simp) _ | refine Below.alloc ?_ (by simp) _ | refine Below.drew ?_)

/-- Block g holds steps. -/
def Sb (w : World) (g a b c d : Nat) (o : Bool) : Prop := w.heap[g]? = some (.cells #[.int .u64 (a : Int), .int .u64 (b : Int), .int .u64 (c : Int), .int .u64 (d : Int), .bool o] 98 (0, 0))

theorem sb_below {w w' : World} {g a b c d : Nat} {o : Bool} (h : Sb w g a b c d o) (hb : Below w.heap.size w w') : Sb w' g a b c d o := by
  unfold Sb at *
  rw [hb.block g (Array.getElem?_eq_some_iff.1 h).1]
  exact h
theorem sb_cells {w : World} {g a b c d : Nat} {o : Bool} (h : Sb w g a b c d o) : w.cell? ⟨g, 0, none⟩ = some (.int .u64 (a : Int)) ∧ w.cell? ⟨g, 1, none⟩ = some (.int .u64 (b : Int)) ∧ w.cell? ⟨g, 2, none⟩ = some (.int .u64 (c : Int)) ∧ w.cell? ⟨g, 3, none⟩ = some (.int .u64 (d : Int)) ∧ w.cell? ⟨g, 4, none⟩ = some (.bool o) := by
  unfold Sb at h
  refine ⟨?_, ?_, ?_, ?_, ?_⟩ <;> simp [World.cell?, h]
theorem sb_free {w : World} {g a b c d : Nat} {o : Bool} (h : Sb w g a b c d o) (i : Nat) : w.frozen? ⟨g, i, none⟩ = false := by
  unfold Sb at h
  simp only [World.frozen?, h]
  simp

/-- The five cells of block g are written. -/
def set5 (w : World) (g a b c d : Nat) (o : Bool) : World := ((((w.setCell ⟨g, 0, none⟩ (.int .u64 (a : Int))).setCell ⟨g, 1, none⟩ (.int .u64 (b : Int))).setCell ⟨g, 2, none⟩ (.int .u64 (c : Int))).setCell ⟨g, 3, none⟩ (.int .u64 (d : Int))).setCell ⟨g, 4, none⟩ (.bool o)
theorem sb_set5 {w : World} {g a b c d : Nat} {o : Bool} (h : Sb w g a b c d o) (a' b' c' d' : Nat) (o' : Bool) : Sb (set5 w g a' b' c' d' o') g a' b' c' d' o' := by
  unfold Sb at *
  unfold set5
  simp only [World.setCell, Array.getElem?_modify, h]
  simp
theorem sb_set5_other {w : World} {k g a b c d : Nat} {o : Bool} (h : Sb w k a b c d o) (hk : k ≠ g) (a' b' c' d' : Nat) (o' : Bool) : Sb (set5 w g a' b' c' d' o') k a b c d o := by
  unfold Sb at *
  unfold set5
  rw [Below.heap_setCell _ _ _ _ hk, Below.heap_setCell _ _ _ _ hk, Below.heap_setCell _ _ _ _ hk, Below.heap_setCell _ _ _ _ hk, Below.heap_setCell _ _ _ _ hk]
  exact h
theorem below_set5 {B : Nat} {w0 w : World} (h : Below B w0 w) {g : Nat} (hB : B ≤ g) (a b c d : Nat) (o : Bool) : Below B w0 (set5 w g a b c d o) :=
  ((((h.setCell (p := ⟨g, 0, none⟩) hB _).setCell (p := ⟨g, 1, none⟩) hB _).setCell (p := ⟨g, 2, none⟩) hB _).setCell (p := ⟨g, 3, none⟩) hB _).setCell (p := ⟨g, 4, none⟩) hB _

end Go.Proofs.YtohaocgbclpknaaGreatDoor
