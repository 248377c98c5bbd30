/- Texts of this proof, one behind the other. -/
import Derived.Test.YtblccbnejcngaaaGreatDoorNa
import Derived.Test.YtblccbnejcngaaaGreatDoorMna
/- natural.DivMod: walks. -/
namespace Go.Proofs.YtblccbnejcngaaaGreatDoor
open Go.RowKit Go.Gb

theorem not_zero {s : ByteArray} (h : dval s.data.toList ≠ 0) : s.data.toList ≠ [48] := by
  intro h2; apply h; rw [h2]; rfl

theorem neq_zero_str {b : ByteArray} (h : dval b.data.toList ≠ 0) : (b.toList == [48]) = false := by
  rw [beq_eq_false_iff_ne, toList_data]
  exact not_zero h

set_option maxHeartbeats 1000000 in
theorem DivMod_short (a b : ByteArray) (ha : vld a.data.toList = true) (hb : vld b.data.toList = true) (h0 : dval b.data.toList ≠ 0) (hab : dval b.data.toList ≤ dval a.data.toList) (hla : a.size ≤ 19) (w : World) (htab : Tb w) :
    Calls Tryz.prog 54 #[.string a, .string b] w fun e w' => e = .returned (.tuple #[St (Lib.decDigits (dval a.data.toList / dval b.data.toList)), St (Lib.decDigits (dval a.data.toList % dval b.data.toList)), .int .i64 0]) ∧ Below w.heap.size w w' := by
  have hlen : b.size ≤ a.size := by
    rcases Nat.lt_or_ge a.size b.size with h | h
    · have := dval_lt_of_len ha hb (by rw [size_list, size_list]; exact h)
      omega
    · exact h
  have HA := Lib.hid ha
  have HB := Lib.hid hb
  have HT := Lib.hid htab
  have Hla := Lib.hid (show a.size ≤ maxLen by unfold maxLen; omega)
  have Hlb := Lib.hid (show b.size ≤ maxLen by unfold maxLen; omega)
  have hne := neq_zero_str h0
  have hcmp := Lib.hid (compare_num a b ha hb)
  have hc0 : ¬ cmpN (dval a.data.toList) (dval b.data.toList) < 0 := by unfold cmpN; split <;> (try split) <;> omega
  have H1 := Lib.hid (dval20 ha hla)
  have H0 := Lib.hid (show 0 < dval b.data.toList by omega)
  have HAB := Lib.hid hab
  clear ha hb htab h0 hab
  go_enter Tryz.func54, Tryz.ntmps54
  go_wp2_with fail
  refine (Valid_yes a HA.out Hla.out _).mono ?_
  rintro e w' ⟨rfl, rfl⟩
  go_wp2_with fail
  refine (Valid_yes b HB.out Hlb.out _).mono ?_
  rintro e w' ⟨rfl, rfl⟩
  go_wp2_with fail
  refine (hcmp.out _).mono ?_
  rintro e w' ⟨rfl, rfl⟩
  generalize cmpN (dval a.data.toList) (dval b.data.toList) = cc at *
  go_wp2_with fail
  refine (read_any a HA.out (by omega) _).mono ?_
  rintro e w1 ⟨rfl, hb1⟩
  have HB1 := Lib.hid hb1
  clear hb1
  go_wp2_with fail
  refine (read_any b HB.out (by omega) _).mono ?_
  rintro e w2 ⟨rfl, hb2⟩
  have HB2 := Lib.hid (HB1.out.trans (hb2.mono HB1.out.size))
  clear hb2
  generalize hxx : dval a.data.toList = x at *
  generalize hyy : dval b.data.toList = y at *
  have HXX := Lib.hid hxx
  have HYY := Lib.hid hyy
  clear hxx hyy
  have hT2d := Lib.hid (show Tb w2.drew from HT.out.on (Below.drew HB2.out))
  have hx64 : x / y < 18446744073709551616 := Nat.lt_of_le_of_lt (Nat.div_le_self x y) (by have := H1.out; omega)
  have hm64 : x % y < 18446744073709551616 := Nat.lt_of_le_of_lt (Nat.mod_le x y) (by have := H1.out; omega)
  have HQ := Lib.hid (show ∀ W, Tb W → Calls Tryz.prog 87 #[.int .u64 ((x : Int) / (y : Int))] W fun e w' => e = .returned (.string ⟨(Lib.decDigits (x / y)).toArray⟩) ∧ Below W.heap.size W w' from fun W hW => write_any (x / y) hx64 W hW)
  have HM := Lib.hid (show ∀ W, Tb W → Calls Tryz.prog 87 #[.int .u64 ((x : Int) % (y : Int))] W fun e w' => e = .returned (.string ⟨(Lib.decDigits (x % y)).toArray⟩) ∧ Below W.heap.size W w' from fun W hW => write_any (x % y) hm64 W hW)
  have y1 : (1 : Int) ≤ (y : Int) := by have := H0.out; omega
  have x0 : (0 : Int) ≤ (x : Int) := by omega
  have yz : ((y : Int) == 0) = false := beq_eq_false_iff_ne.2 (by omega)
  have htm : (x : Int).tmod (y : Int) = (x : Int) % (y : Int) := rfl
  have hwq : IntKind.u64.wrap ((x : Int) / (y : Int)) = (x : Int) / (y : Int) := IntWalk.u64_in _ ⟨Int.natCast_nonneg (x / y), by have := (Int.ofNat_lt.2 hx64); omega⟩
  clear hx64 hm64 hc0 hcmp
  go_wp2_with fail
  go_region_with (first | (go_at_call 87; (with_reducible refine (HQ.out _ hT2d.out).mono ?_); rintro e w3 ⟨rfl, hb3⟩) | (go_at_call 87; (with_reducible refine (HM.out _ (hT2d.out.on hb3)).mono ?_); rintro e w4 ⟨rfl, hb4⟩))
  all_goals
    go_wp2
    go_ret3
    refine ⟨?_, ((Below.drew HB2.out).trans (Below.mono hb3 HB2.out.size)).trans (Below.mono hb4 (Nat.le_trans HB2.out.size hb3.size))⟩
    rw [HXX.out, HYY.out]
    rfl

theorem DivMod_less (a b : ByteArray) (ha : vld a.data.toList = true) (hb : vld b.data.toList = true) (hab : dval a.data.toList < dval b.data.toList) (hla : a.size ≤ maxLen) (hlb : b.size ≤ maxLen) (w : World) :
    Calls Tryz.prog 54 #[.string a, .string b] w fun e w' => e = .returned (.tuple #[St [48], .string a, .int .i64 0]) ∧ w = w' := by
  have HA := Lib.hid ha
  have HB := Lib.hid hb
  have hne := neq_zero_str (b := b) (by omega)
  have hcmp := compare_num a b ha hb
  rw [cmpN_lt hab] at hcmp
  have HC := Lib.hid hcmp
  clear ha hb hab hcmp
  go_enter Tryz.func54, Tryz.ntmps54
  go_wp2_with fail
  refine (Valid_yes a HA.out hla _).mono ?_
  rintro e w' ⟨rfl, rfl⟩
  go_wp2_with fail
  refine (Valid_yes b HB.out hlb _).mono ?_
  rintro e w' ⟨rfl, rfl⟩
  go_wp2_with fail
  refine (HC.out _).mono ?_
  rintro e w' ⟨rfl, rfl⟩
  go_wp2
  go_ret3
  exact ⟨rfl, rfl⟩

end Go.Proofs.YtblccbnejcngaaaGreatDoor
/- natural.power and natural.Pow: walks. -/
namespace Go.Proofs.YtblccbnejcngaaaGreatDoor
open Go.RowKit Go.Gb

theorem digs_one : digs 1 = [1] := by
  have h := digs_cons (w := 1) (n := 0) BB_one (Or.inl (by decide))
  rw [digs_zero] at h
  simpa using h
theorem own_alloc_one (w : World) (n : Nat) (h0 : n ≠ 0) (hB : n < BB) : Own .u64 82 w.heap.size (w.alloc (.cells #[.int .u64 (n : Int)] 82)) (.slice (some ⟨w.heap.size, 0, none⟩) 1 1) (digs n) := by
  have hb : Blk (w.alloc (.cells #[.int .u64 (n : Int)] 82)) w.heap.size [n] := Blk.alloc [n] _ rfl
  have h := hb.own (B := w.heap.size) (Nat.le_refl _) (by unfold maxLen; simp) 1 (by simp)
  have e : digs n = [n] := by
    have h := digs_cons (w := n) (n := 0) hB (Or.inl h0)
    rw [digs_zero] at h
    simpa using h
  rw [e]
  exact h

end Go.Proofs.YtblccbnejcngaaaGreatDoor
/- words.Common of short numbers: walks. -/
namespace Go.Proofs.YtblccbnejcngaaaGreatDoor
open Go.RowKit Go.Gb

/-- Steps as a value. -/
def Stp (a b c d : Nat) (o : Bool) : Value := .agg #[.int .u64 (a : Int), .int .u64 (b : Int), .int .u64 (c : Int), .int .u64 (d : Int), .bool o]

set_option maxHeartbeats 1000000 in
set_option maxRecDepth 100000 in
theorem with_any (a b c d q : Nat) (o : Bool) (h1 : a + q * c ≤ 2000000000000000000) (h2 : b + q * d ≤ 2000000000000000000) (w : World) :
    Calls Tryz.prog 95 #[Stp a b c d o, .int .u64 (q : Int)] w fun e w' => e = .returned (Stp c d (a + q * c) (b + q * d) (!o)) ∧ Below w.heap.size w w' := by
  obtain ⟨p1, hp1⟩ : ∃ p : Nat, p = q * c := ⟨_, rfl⟩
  obtain ⟨p2, hp2⟩ : ∃ p : Nat, p = q * d := ⟨_, rfl⟩
  rw [← hp1] at h1 ⊢
  rw [← hp2] at h2 ⊢
  have e1 : (q : Int) * (c : Int) = (p1 : Int) := by rw [hp1]; exact (Int.natCast_mul _ _).symm
  have e2 : (q : Int) * (d : Int) = (p2 : Int) := by rw [hp2]; exact (Int.natCast_mul _ _).symm
  have w1 : IntKind.u64.wrap (p1 : Int) = (p1 : Int) := IntWalk.u64_in _ (by omega)
  have w2 : IntKind.u64.wrap (p2 : Int) = (p2 : Int) := IntWalk.u64_in _ (by omega)
  have w3 : IntKind.u64.wrap ((a : Int) + (p1 : Int)) = (a : Int) + (p1 : Int) := IntWalk.u64_in _ (by omega)
  have w4 : IntKind.u64.wrap ((b : Int) + (p2 : Int)) = (b : Int) + (p2 : Int) := IntWalk.u64_in _ (by omega)
  have HP1 := Lib.hid hp1
  have HP2 := Lib.hid hp2
  clear hp1 hp2 h1 h2
  unfold Stp
  go_enter Tryz.func95, Tryz.ntmps95
  go_wp2
  refine bodyPost_ret (v := Stp c d (a + p1) (b + p2) (!o)) (by simp [results, Tryz.results95, go_sem, Stp]) rfl ⟨rfl, ?_⟩
  repeat (first | exact Below.refl _ _ | refine Below.setCell ?_ (by simp) _ | refine Below.alloc ?_ (by simp) _ | refine Below.drew ?_)

/-- Block g holds steps. -/
def Sb (w : World) (g a b c d : Nat) (o : Bool) : Prop := w.heap[g]? = some (.cells #[.int .u64 (a : Int), .int .u64 (b : Int), .int .u64 (c : Int), .int .u64 (d : Int), .bool o] 98 (0, 0))

theorem sb_below {w w' : World} {g a b c d : Nat} {o : Bool} (h : Sb w g a b c d o) (hb : Below w.heap.size w w') : Sb w' g a b c d o := by
  unfold Sb at *
  rw [hb.block g (Array.getElem?_eq_some_iff.1 h).1]
  exact h
theorem sb_cells {w : World} {g a b c d : Nat} {o : Bool} (h : Sb w g a b c d o) : w.cell? ⟨g, 0, none⟩ = some (.int .u64 (a : Int)) ∧ w.cell? ⟨g, 1, none⟩ = some (.int .u64 (b : Int)) ∧ w.cell? ⟨g, 2, none⟩ = some (.int .u64 (c : Int)) ∧ w.cell? ⟨g, 3, none⟩ = some (.int .u64 (d : Int)) ∧ w.cell? ⟨g, 4, none⟩ = some (.bool o) := by
  unfold Sb at h
  refine ⟨?_, ?_, ?_, ?_, ?_⟩ <;> simp [World.cell?, h]
theorem sb_free {w : World} {g a b c d : Nat} {o : Bool} (h : Sb w g a b c d o) (i : Nat) : w.frozen? ⟨g, i, none⟩ = false := by
  unfold Sb at h
  simp only [World.frozen?, h]
  simp

/-- The five cells of block g are written. -/
def set5 (w : World) (g a b c d : Nat) (o : Bool) : World := ((((w.setCell ⟨g, 0, none⟩ (.int .u64 (a : Int))).setCell ⟨g, 1, none⟩ (.int .u64 (b : Int))).setCell ⟨g, 2, none⟩ (.int .u64 (c : Int))).setCell ⟨g, 3, none⟩ (.int .u64 (d : Int))).setCell ⟨g, 4, none⟩ (.bool o)
theorem sb_set5 {w : World} {g a b c d : Nat} {o : Bool} (h : Sb w g a b c d o) (a' b' c' d' : Nat) (o' : Bool) : Sb (set5 w g a' b' c' d' o') g a' b' c' d' o' := by
  unfold Sb at *
  unfold set5
  simp only [World.setCell, Array.getElem?_modify, h]
  simp
theorem sb_set5_other {w : World} {k g a b c d : Nat} {o : Bool} (h : Sb w k a b c d o) (hk : k ≠ g) (a' b' c' d' : Nat) (o' : Bool) : Sb (set5 w g a' b' c' d' o') k a b c d o := by
  unfold Sb at *
  unfold set5
  rw [Below.heap_setCell _ _ _ _ hk, Below.heap_setCell _ _ _ _ hk, Below.heap_setCell _ _ _ _ hk, Below.heap_setCell _ _ _ _ hk, Below.heap_setCell _ _ _ _ hk]
  exact h
theorem below_set5 {B : Nat} {w0 w : World} (h : Below B w0 w) {g : Nat} (hB : B ≤ g) (a b c d : Nat) (o : Bool) : Below B w0 (set5 w g a b c d o) :=
  ((((h.setCell (p := ⟨g, 0, none⟩) hB _).setCell (p := ⟨g, 1, none⟩) hB _).setCell (p := ⟨g, 2, none⟩) hB _).setCell (p := ⟨g, 3, none⟩) hB _).setCell (p := ⟨g, 4, none⟩) hB _

end Go.Proofs.YtblccbnejcngaaaGreatDoor
