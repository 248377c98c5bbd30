/- Texts of this proof, one behind the other. -/
import Derived.Test.YtmigpoiajkihhaaGreatDoorMz8q
import Derived.Test.YtmigpoiajkihhaaGreatDoorMz2q
import Derived.Test.YtmigpoiajkihhaaGreatDoorMz1q
/- natural.DivMod: walks. -/
namespace Go.Proofs.YtmigpoiajkihhaaGreatDoor
open Go.RowKit Go.Gb
theorem not_zero {s : ByteArray} (h : dval s.data.toList ≠ 0) : s.data.toList ≠ [48] := by
 intro h2; apply h; rw [h2]; rfl
theorem DivMod_no (a b : ByteArray) (h : (vld a.data.toList && vld b.data.toList) = false) (hsa : a.size ≤ maxLen) (hsb : b.size ≤ maxLen) (w : World) :
 Calls Tryz.prog 178 #[.string a, .string b] w fun e w' => e = .returned (.tuple #[St [], St [], .int .i64 1]) ∧ w = w' := by
 rcases both_no h with ha | ⟨ha, hb⟩
 · have HA := Lib.hid ha
   clear h ha
   go_enter Tryz.func178, Tryz.ntmps178
   go_wp2_with fail
   refine (Valid_no a HA.out hsa _).mono ?_
   rintro e w' ⟨rfl, rfl⟩
   go_wp2
   go_ret3
   exact ⟨rfl, rfl⟩
 · have HA := Lib.hid ha
   have HB := Lib.hid hb
   clear h ha hb
   go_enter Tryz.func178, Tryz.ntmps178
   go_wp2_with fail
   refine (Valid_yes a HA.out hsa _).mono ?_
   rintro e w' ⟨rfl, rfl⟩
   go_wp2_with fail
   refine (Valid_no b HB.out hsb _).mono ?_
   rintro e w' ⟨rfl, rfl⟩
   go_wp2
   go_ret3
   exact ⟨rfl, rfl⟩
theorem neq_zero_str {b : ByteArray} (h : dval b.data.toList ≠ 0) : (b.toList == [48]) = false := by
 rw [beq_eq_false_iff_ne, toList_data]
 exact not_zero h
set_option maxHeartbeats 1000000 in
theorem DivMod_short (a b : ByteArray) (ha : vld a.data.toList = true) (hb : vld b.data.toList = true) (h0 : dval b.data.toList ≠ 0) (hab : dval b.data.toList ≤ dval a.data.toList) (hla : a.size ≤ 19) (w : World) (htab : Tb w) :
 Calls Tryz.prog 178 #[.string a, .string b] w fun e w' => e = .returned (.tuple #[St (Lib.decDigits (dval a.data.toList / dval b.data.toList)), St (Lib.decDigits (dval a.data.toList % dval b.data.toList)), .int .i64 0]) ∧ Below w.heap.size w w' := by
 have hlen : b.size ≤ a.size := by
  rcases Nat.lt_or_ge a.size b.size with h | h
  · have := dval_lt_of_len ha hb (by rw [size_list, size_list]; exact h)
    omega
  · exact h
 have HA := Lib.hid ha
 have HB := Lib.hid hb
 have HT := Lib.hid htab
 have Hla := Lib.hid (show a.size ≤ maxLen by unfold maxLen; omega)
 have Hlb := Lib.hid (show b.size ≤ maxLen by unfold maxLen; omega)
 have hne := neq_zero_str h0
 have hcmp := Lib.hid (compare_num a b ha hb)
 have hc0 : ¬ cmpN (dval a.data.toList) (dval b.data.toList) < 0 := by unfold cmpN; split <;> (try split) <;> omega
 have H1 := Lib.hid (dval20 ha hla)
 have H0 := Lib.hid (show 0 < dval b.data.toList by omega)
 have HAB := Lib.hid hab
 clear ha hb htab h0 hab
 go_enter Tryz.func178, Tryz.ntmps178
 go_wp2_with fail
 refine (Valid_yes a HA.out Hla.out _).mono ?_
 rintro e w' ⟨rfl, rfl⟩
 go_wp2_with fail
 refine (Valid_yes b HB.out Hlb.out _).mono ?_
 rintro e w' ⟨rfl, rfl⟩
 go_wp2_with fail
 refine (hcmp.out _).mono ?_
 rintro e w' ⟨rfl, rfl⟩
 generalize cmpN (dval a.data.toList) (dval b.data.toList) = cc at *
 go_wp2_with fail
 refine (read_any a HA.out (by omega) _).mono ?_
 rintro e w1 ⟨rfl, hb1⟩
 have HB1 := Lib.hid hb1
 clear hb1
 go_wp2_with fail
 refine (read_any b HB.out (by omega) _).mono ?_
 rintro e w2 ⟨rfl, hb2⟩
 have HB2 := Lib.hid (HB1.out.trans (hb2.mono HB1.out.size))
 clear hb2
 generalize hxx : dval a.data.toList = x at *
 generalize hyy : dval b.data.toList = y at *
 have HXX := Lib.hid hxx
 have HYY := Lib.hid hyy
 clear hxx hyy
 have hT2d := Lib.hid (show Tb w2.drew from HT.out.on (Below.drew HB2.out))
 have hx64 : x / y < 18446744073709551616 := Nat.lt_of_le_of_lt (Nat.div_le_self x y) (by have := H1.out; omega)
 have hm64 : x % y < 18446744073709551616 := Nat.lt_of_le_of_lt (Nat.mod_le x y) (by have := H1.out; omega)
 have HQ := Lib.hid (show ∀ W, Tb W → Calls Tryz.prog 214 #[.int .u64 ((x : Int) / (y : Int))] W fun e w' => e = .returned (.string ⟨(Lib.decDigits (x / y)).toArray⟩) ∧ Below W.heap.size W w' from fun W hW => write_any (x / y) hx64 W hW)
 have HM := Lib.hid (show ∀ W, Tb W → Calls Tryz.prog 214 #[.int .u64 ((x : Int) % (y : Int))] W fun e w' => e = .returned (.string ⟨(Lib.decDigits (x % y)).toArray⟩) ∧ Below W.heap.size W w' from fun W hW => write_any (x % y) hm64 W hW)
 have y1 : (1 : Int) ≤ (y : Int) := by have := H0.out; omega
 have x0 : (0 : Int) ≤ (x : Int) := by omega
 have yz : ((y : Int) == 0) = false := beq_eq_false_iff_ne.2 (by omega)
 have htm : (x : Int).tmod (y : Int) = (x : Int) % (y : Int) := rfl
 have hwq : IntKind.u64.wrap ((x : Int) / (y : Int)) = (x : Int) / (y : Int) := IntWalk.u64_in _ ⟨Int.natCast_nonneg (x / y), by have := (Int.ofNat_lt.2 hx64); omega⟩
 clear hx64 hm64 hc0 hcmp
 go_wp2_with fail
 go_region_with (first | (go_at_call 214; (with_reducible refine (HQ.out _ hT2d.out).mono ?_); rintro e w3 ⟨rfl, hb3⟩) | (go_at_call 214; (with_reducible refine (HM.out _ (hT2d.out.on hb3)).mono ?_); rintro e w4 ⟨rfl, hb4⟩))
 all_goals
  go_wp2
  go_ret3
  refine ⟨?_, ((Below.drew HB2.out).trans (Below.mono hb3 HB2.out.size)).trans (Below.mono hb4 (Nat.le_trans HB2.out.size hb3.size))⟩
  rw [HXX.out, HYY.out]
  rfl
theorem DivMod_less (a b : ByteArray) (ha : vld a.data.toList = true) (hb : vld b.data.toList = true) (hab : dval a.data.toList < dval b.data.toList) (hla : a.size ≤ maxLen) (hlb : b.size ≤ maxLen) (w : World) :
 Calls Tryz.prog 178 #[.string a, .string b] w fun e w' => e = .returned (.tuple #[St [48], .string a, .int .i64 0]) ∧ w = w' := by
 have HA := Lib.hid ha
 have HB := Lib.hid hb
 have hne := neq_zero_str (b := b) (by omega)
 have hcmp := compare_num a b ha hb
 rw [cmpN_lt hab] at hcmp
 have HC := Lib.hid hcmp
 clear ha hb hab hcmp
 go_enter Tryz.func178, Tryz.ntmps178
 go_wp2_with fail
 refine (Valid_yes a HA.out hla _).mono ?_
 rintro e w' ⟨rfl, rfl⟩
 go_wp2_with fail
 refine (Valid_yes b HB.out hlb _).mono ?_
 rintro e w' ⟨rfl, rfl⟩
 go_wp2_with fail
 refine (HC.out _).mono ?_
 rintro e w' ⟨rfl, rfl⟩
 go_wp2
 go_ret3
 exact ⟨rfl, rfl⟩
end Go.Proofs.YtmigpoiajkihhaaGreatDoor
/- natural.power and natural.Pow: walks. -/
namespace Go.Proofs.YtmigpoiajkihhaaGreatDoor
open Go.RowKit Go.Gb
theorem digs_one : digs 1 = [1] := by
 have h := digs_cons (w := 1) (n := 0) BB_one (Or.inl (by decide))
 rw [digs_zero] at h
 simpa using h
end Go.Proofs.YtmigpoiajkihhaaGreatDoor
/- Plain facts about Euclid's algorithm with its factors. No program is mentioned. -/
namespace Go.Gb
def EuInv (x0 y0 x y a b c d : Nat) (o : Bool) : Prop :=
 x0 = d * x + b * y ∧ y0 = c * x + a * y ∧ Nat.gcd x y = Nat.gcd x0 y0 ∧ (o = true → b * y0 = a * x0 + x ∧ c * x0 = d * y0 + y) ∧ (o = false → a * x0 = b * y0 + x ∧ d * y0 = c * x0 + y)
theorem EuInv.start (x y : Nat) : EuInv x y x y 1 0 0 1 false := by
 refine ⟨by omega, by omega, rfl, ?_, ?_⟩
 · intro h; cases h
 · intro _; constructor <;> omega
theorem EuInv.step {x0 y0 x y a b c d : Nat} {o : Bool} (h : EuInv x0 y0 x y a b c d o) : EuInv x0 y0 y (x % y) c d (a + x / y * c) (b + x / y * d) (!o) := by
 obtain ⟨h1, h2, h3, h4, h5⟩ := h
 have hx := Nat.div_add_mod x y
 generalize x / y = q at *
 have h6 : Nat.gcd y (x % y) = Nat.gcd x0 y0 := by rw [← h3, Nat.gcd_comm y, ← Nat.gcd_rec, Nat.gcd_comm]
 generalize x % y = r at *
 refine ⟨?_, ?_, h6, fun ho => ?_, fun ho => ?_⟩
 · grind
 · grind
 · have := h5 (by cases o <;> simp_all)
   grind
 · have := h4 (by cases o <;> simp_all)
   grind
theorem EuInv.bound {x0 y0 x y a b c d : Nat} {o : Bool} (h : EuInv x0 y0 x y a b c d o) (hx : 0 < x) : d ≤ x0 ∧ c ≤ y0 := by
 obtain ⟨h1, h2, _⟩ := h
 have g1 : d * 1 ≤ d * x := Nat.mul_le_mul_left _ hx
 have g2 : c * 1 ≤ c * x := Nat.mul_le_mul_left _ hx
 omega
end Go.Gb
/- words.Common of short numbers: walks. -/
namespace Go.Proofs.YtmigpoiajkihhaaGreatDoor
set_option maxRecDepth 100000
set_option maxHeartbeats 20000000
open Go.RowKit Go.Gb
def Stp (a b c d : Nat) (o : Bool) : Value := .agg #[.int .u64 (a : Int), .int .u64 (b : Int), .int .u64 (c : Int), .int .u64 (d : Int), .bool o]
theorem with_any (a b c d q : Nat) (o : Bool) (h1 : a + q * c ≤ 2000000000000000000) (h2 : b + q * d ≤ 2000000000000000000) (w : World) :
 Calls Tryz.prog 192 #[Stp a b c d o, .int .u64 (q : Int)] w fun e w' => e = .returned (Stp c d (a + q * c) (b + q * d) (!o)) ∧ Below w.heap.size w w' := by
 obtain ⟨p1, hp1⟩ : ∃ p : Nat, p = q * c := ⟨_, rfl⟩
 obtain ⟨p2, hp2⟩ : ∃ p : Nat, p = q * d := ⟨_, rfl⟩
 rw [← hp1] at h1 ⊢
 rw [← hp2] at h2 ⊢
 have e1 : (q : Int) * (c : Int) = (p1 : Int) := by rw [hp1]; exact (Int.natCast_mul _ _).symm
 have e2 : (q : Int) * (d : Int) = (p2 : Int) := by rw [hp2]; exact (Int.natCast_mul _ _).symm
 have w1 : IntKind.u64.wrap (p1 : Int) = (p1 : Int) := IntWalk.u64_in _ (by omega)
 have w2 : IntKind.u64.wrap (p2 : Int) = (p2 : Int) := IntWalk.u64_in _ (by omega)
 have w3 : IntKind.u64.wrap ((a : Int) + (p1 : Int)) = (a : Int) + (p1 : Int) := IntWalk.u64_in _ (by omega)
 have w4 : IntKind.u64.wrap ((b : Int) + (p2 : Int)) = (b : Int) + (p2 : Int) := IntWalk.u64_in _ (by omega)
 have HP1 := Lib.hid hp1
 have HP2 := Lib.hid hp2
 clear hp1 hp2 h1 h2
 unfold Stp
 go_enter Tryz.func192, Tryz.ntmps192
 go_wp2
 refine bodyPost_ret (v := Stp c d (a + p1) (b + p2) (!o)) (by simp [results, Tryz.results192, go_sem, Stp]) rfl ⟨rfl, ?_⟩
 repeat (first | exact Below.refl _ _ | refine Below.setCell ?_ (by simp) _ | refine Below.alloc ?_ (by simp) _ | refine Below.drew ?_)
def Sb (w : World) (g a b c d : Nat) (o : Bool) : Prop := w.heap[g]? = some (.cells #[.int .u64 (a : Int), .int .u64 (b : Int), .int .u64 (c : Int), .int .u64 (d : Int), .bool o] 176 (0, 0))
theorem sb_below {w w' : World} {g a b c d : Nat} {o : Bool} (h : Sb w g a b c d o) (hb : Below w.heap.size w w') : Sb w' g a b c d o := by
 unfold Sb at *
 rw [hb.block g (Array.getElem?_eq_some_iff.1 h).1]
 exact h
theorem sb_cells {w : World} {g a b c d : Nat} {o : Bool} (h : Sb w g a b c d o) : w.cell? ⟨g, 0, none⟩ = some (.int .u64 (a : Int)) ∧ w.cell? ⟨g, 1, none⟩ = some (.int .u64 (b : Int)) ∧ w.cell? ⟨g, 2, none⟩ = some (.int .u64 (c : Int)) ∧ w.cell? ⟨g, 3, none⟩ = some (.int .u64 (d : Int)) ∧ w.cell? ⟨g, 4, none⟩ = some (.bool o) := by
 unfold Sb at h
 refine ⟨?_, ?_, ?_, ?_, ?_⟩ <;> simp [World.cell?, h]
theorem sb_free {w : World} {g a b c d : Nat} {o : Bool} (h : Sb w g a b c d o) (i : Nat) : w.frozen? ⟨g, i, none⟩ = false := by
 unfold Sb at h
 simp only [World.frozen?, h]
 simp
def set5 (w : World) (g a b c d : Nat) (o : Bool) : World := ((((w.setCell ⟨g, 0, none⟩ (.int .u64 (a : Int))).setCell ⟨g, 1, none⟩ (.int .u64 (b : Int))).setCell ⟨g, 2, none⟩ (.int .u64 (c : Int))).setCell ⟨g, 3, none⟩ (.int .u64 (d : Int))).setCell ⟨g, 4, none⟩ (.bool o)
theorem sb_set5 {w : World} {g a b c d : Nat} {o : Bool} (h : Sb w g a b c d o) (a' b' c' d' : Nat) (o' : Bool) : Sb (set5 w g a' b' c' d' o') g a' b' c' d' o' := by
 unfold Sb at *
 unfold set5
 simp only [World.setCell, Array.getElem?_modify, h]
 simp
theorem sb_set5_other {w : World} {k g a b c d : Nat} {o : Bool} (h : Sb w k a b c d o) (hk : k ≠ g) (a' b' c' d' : Nat) (o' : Bool) : Sb (set5 w g a' b' c' d' o') k a b c d o := by
 unfold Sb at *
 unfold set5
 rw [Below.heap_setCell _ _ _ _ hk, Below.heap_setCell _ _ _ _ hk, Below.heap_setCell _ _ _ _ hk, Below.heap_setCell _ _ _ _ hk, Below.heap_setCell _ _ _ _ hk]
 exact h
theorem below_set5 {B : Nat} {w0 w : World} (h : Below B w0 w) {g : Nat} (hB : B ≤ g) (a b c d : Nat) (o : Bool) : Below B w0 (set5 w g a b c d o) :=
 ((((h.setCell (p := ⟨g, 0, none⟩) hB _).setCell (p := ⟨g, 1, none⟩) hB _).setCell (p := ⟨g, 2, none⟩) hB _).setCell (p := ⟨g, 3, none⟩) hB _).setCell (p := ⟨g, 4, none⟩) hB _
theorem allSteps_any (x0 y0 : Nat) (hx : x0 < 1000000000000000000) (hy : y0 < 1000000000000000000) (w : World) :
 Calls Tryz.prog 166 #[.int .u64 (x0 : Int), .int .u64 (y0 : Int)] w fun e w' => ∃ (a b c d : Nat) (o : Bool), e = .returned (.tuple #[.int .u64 ((Nat.gcd x0 y0 : Nat) : Int), Stp a b c d o]) ∧ EuInv x0 y0 (Nat.gcd x0 y0) 0 a b c d o ∧ Below w.heap.size w w' := by
 have hs0 : Sb ((w.alloc (.cells #[.int .u64 0, .int .u64 0, .int .u64 0, .int .u64 0, .bool false] 176)).alloc (.cells #[.int .u64 1, .int .u64 0, .int .u64 0, .int .u64 1, .bool false] 176)) (w.heap.size + 1) 1 0 0 1 false := by
  unfold Sb
  have := heap_alloc_new (w.alloc (.cells #[.int .u64 0, .int .u64 0, .int .u64 0, .int .u64 0, .bool false] 176)) (.cells #[.int .u64 1, .int .u64 0, .int .u64 0, .int .u64 1, .bool false] 176)
  rw [World.size_alloc] at this
  exact this
 have hr0 : Sb ((w.alloc (.cells #[.int .u64 0, .int .u64 0, .int .u64 0, .int .u64 0, .bool false] 176)).alloc (.cells #[.int .u64 1, .int .u64 0, .int .u64 0, .int .u64 1, .bool false] 176)) w.heap.size 0 0 0 0 false := by
  unfold Sb
  rw [Below.heap_alloc _ _ _ (by simp), heap_alloc_new]
  rfl
 have HS0 := Lib.hid hs0
 have HR0 := Lib.hid hr0
 have HN0 := Lib.hid (((Below.refl w.heap.size w).alloc (Nat.le_refl _) (.cells #[.int .u64 0, .int .u64 0, .int .u64 0, .int .u64 0, .bool false] 176)).alloc (by simp) (.cells #[.int .u64 1, .int .u64 0, .int .u64 0, .int .u64 1, .bool false] 176))
 have HX := Lib.hid hx
 have HY := Lib.hid hy
 clear hs0 hr0 hx hy
 go_enter Tryz.func166, Tryz.ntmps166
 go_wp2
 go_loopw [0, 1] (fun xx yy wr => ∃ (x y a b c d : Nat) (o : Bool), xx = .int .u64 (x : Int) ∧ yy = .int .u64 (y : Int) ∧ Hid (EuInv x0 y0 x y a b c d o) ∧ Hid (x ≤ 1000000000000000000 ∧ y ≤ 1000000000000000000) ∧ Hid (Sb wr (w.heap.size + 1) a b c d o) ∧ Hid (Sb wr w.heap.size 0 0 0 0 false) ∧ Hid (Below w.heap.size w wr)) (fun _ yy _ => (intOf yy).toNat)
 case atStart => exact ⟨x0, y0, 1, 0, 0, 1, false, rfl, rfl, EuInv.start x0 y0, ⟨Nat.le_of_lt HX.out, Nat.le_of_lt HY.out⟩, HS0, HR0, HN0⟩
 case round =>
  obtain ⟨x, y, a, b, c, d, o, rfl, rfl, hE, hxy, hS, hR, hn⟩ := hrel
  clear HS0 HR0 HN0
  by_cases hy0 : 0 < y
  · have hbd := hE.out.step.bound hy0
    have h1 : a + x / y * c ≤ 2000000000000000000 := by have := HY.out; omega
    have h2 : b + x / y * d ≤ 2000000000000000000 := by have := HX.out; omega
    obtain ⟨a', ha'⟩ : ∃ a' : Nat, a' = a + x / y * c := ⟨_, rfl⟩
    obtain ⟨b', hb'⟩ : ∃ b' : Nat, b' = b + x / y * d := ⟨_, rfl⟩
    have hW := Lib.hid (show CQ 192 #[.agg #[.int .u64 (a : Int), .int .u64 (b : Int), .int .u64 (c : Int), .int .u64 (d : Int), .bool o], .int .u64 ((x : Int) / (y : Int))] (.agg #[.int .u64 (c : Int), .int .u64 (d : Int), .int .u64 (a' : Int), .int .u64 (b' : Int), .bool (!o)]) from fun W => by rw [ha', hb']; exact with_any a b c d (x / y) o h1 h2 W)
    have HA' := Lib.hid ha'
    have HB' := Lib.hid hb'
    clear ha' hb'
    obtain ⟨c0, c1, c2, c3, c4⟩ := sb_cells hS.out
    have hS' := Lib.hid (show Sb wr.drew (w.heap.size + 1) a b c d o from hS.out)
    have y1 : (1 : Int) ≤ (y : Int) := by omega
    have yz : ((y : Int) == 0) = false := beq_eq_false_iff_ne.2 (by omega)
    have hq64 : x / y < 18446744073709551616 := Nat.lt_of_le_of_lt (Nat.div_le_self x y) (by have := hxy.out.1; omega)
    have hwq : IntKind.u64.wrap ((x : Int) / (y : Int)) = (x : Int) / (y : Int) := IntWalk.u64_in _ ⟨Int.natCast_nonneg (x / y), by have := (Int.ofNat_lt.2 hq64); omega⟩
    have htm : (x : Int).tmod (y : Int) = (x : Int) % (y : Int) := rfl
    clear hq64 h1 h2 hbd
    go_wp2
    go_region_with (go_at_call 192; go_must (refine (hW.out _).mono ?_; rintro e w1 ⟨rfl, hb1⟩; obtain ⟨s0, s1, s2, s3, s4⟩ := sb_cells (sb_below hS'.out hb1); have f0 := sb_free (sb_below hS'.out hb1) 0; have f1 := sb_free (sb_below hS'.out hb1) 1; have f2 := sb_free (sb_below hS'.out hb1) 2; have f3 := sb_free (sb_below hS'.out hb1) 3; have f4 := sb_free (sb_below hS'.out hb1) 4))
    all_goals
        have hS1 := sb_below hS'.out hb1
        have hR1 := sb_below (show Sb wr.drew w.heap.size 0 0 0 0 false from hR.out) hb1
        have hS2 := Lib.hid (sb_set5 hS1 c d a' b' (!o))
        have hR2 := Lib.hid (sb_set5_other (g := w.heap.size + 1) hR1 (by omega) c d a' b' (!o))
        have hn2 := Lib.hid (below_set5 (hn.out.drew.trans (hb1.mono (show w.heap.size ≤ wr.drew.heap.size from hn.out.size))) (g := w.heap.size + 1) (by omega) c d a' b' (!o))
        have hE2 := hE.out.step
        rw [← HA'.out, ← HB'.out] at hE2
        have HE2 := Lib.hid hE2
        have hlt := Lib.hid (Nat.mod_lt x hy0)
        have hmd := Lib.hid (Nat.mod_le x y)
        clear hS1 hR1 hE2 s0 s1 s2 s3 s4 f0 f1 f2 f3 f4 hb1 hS' hW c0 c1 c2 c3 c4 hwq
        change Exit.then _ _ Exit.normal _ (set5 w1 (w.heap.size + 1) c d a' b' (!o))
        generalize set5 w1 (w.heap.size + 1) c d a' b' (!o) = w2 at *
        have hxm : (x : Int) % (y : Int) = ((x % y : Nat) : Int) := rfl
        have hmw : IntKind.u64.wrap (((x % y : Nat) : Int)) = ((x % y : Nat) : Int) := IntWalk.u64_in _ (by have := hxy.out.1; have := hmd.out; omega)
        obtain ⟨r, hr⟩ : ∃ r : Nat, r = x % y := ⟨_, rfl⟩
        rw [← hr] at hxm hmw
        have HRr := Lib.hid hr
        clear hr
        go_wp2
        go_quiet (fail)
        have hn3 := Lib.hid (below_drewN' hn2.out nq)
        have hS3 := Lib.hid (show Sb (w2.drewN nq) (w.heap.size + 1) c d a' b' (!o) from hS2.out)
        have hR3 := Lib.hid (show Sb (w2.drewN nq) w.heap.size 0 0 0 0 false from hR2.out)
        go_wp2
        go_roundw
        case rel => exact ⟨y, r, c, d, a', b', !o, rfl, rfl, by rw [HRr.out]; exact HE2, ⟨hxy.out.2, by have := hxy.out.2; have := hlt.out; rw [HRr.out]; omega⟩, hS3, hR3, hn3⟩
        case measure => simp [intOf]; have := hlt.out; have := HRr.out; omega
  · have hy1 : y = 0 := by omega
    subst hy1
    have hg := hE.out.2.2.1
    rw [Nat.gcd_zero_right] at hg
    have HG := Lib.hid hg
    clear hg
    have f0 := sb_free hR.out 0
    have f1 := sb_free hR.out 1
    have f2 := sb_free hR.out 2
    have f3 := sb_free hR.out 3
    have f4 := sb_free hR.out 4
    obtain ⟨r0, r1, r2, r3, r4⟩ := sb_cells hR.out
    obtain ⟨c0, c1, c2, c3, c4⟩ := sb_cells hS.out
    go_wp2
    go_region
    have hS2 := Lib.hid (show Sb (set5 wr w.heap.size a b c d o).drew w.heap.size a b c d o from sb_set5 hR.out a b c d o)
    have hn2 := Lib.hid (Below.drew (below_set5 hn.out (g := w.heap.size) (Nat.le_refl _) a b c d o))
    clear f0 f1 f2 f3 f4 r0 r1 r2 r3 r4 c0 c1 c2 c3 c4
    change Exit.then _ _ Exit.normal _ (set5 wr w.heap.size a b c d o).drew
    generalize (set5 wr w.heap.size a b c d o).drew = w2 at *
    obtain ⟨c0, c1, c2, c3, c4⟩ := sb_cells hS2.out
    go_wp2
    refine bodyPost_ret (v := .tuple #[.int .u64 (x : Int), Stp a b c d o]) (by simp [results, Tryz.results166, go_sem, Stp, c0, c1, c2, c3, c4]) rfl ⟨a, b, c, d, o, by rw [HG.out], ?_, hn2.out⟩
    have := hE.out
    rw [HG.out] at this
    exact this
end Go.Proofs.YtmigpoiajkihhaaGreatDoor
