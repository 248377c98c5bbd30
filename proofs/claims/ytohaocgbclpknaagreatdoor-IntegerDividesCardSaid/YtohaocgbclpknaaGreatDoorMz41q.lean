/- Texts of this proof, one behind the other. -/
import Derived.Test.YtohaocgbclpknaaGreatDoorMz40q
import Derived.Test.YtohaocgbclpknaaGreatDoorMz17q
import Derived.Orders
import Derived.StillTail
import Derived.WalkKit
import Derived.Below
/- garboardref02: Cmp, both: walks. -/
namespace Go.Proofs.YtohaocgbclpknaaGreatDoor
open Go.RowKit Go.Gb

theorem rd_set2 {w : World} {v : Value} {xs : List Nat} {g : Nat} {b b' : Bool} {q : Option Addr} {l c : Nat} {T : TypeId} {fz : Nat × Nat} {u : Value} (hg : w.heap[g]? = some (.cells #[.bool b, .slice q l c] T fz)) (h : Rd .u32 w v xs) : Rd .u32 ((w.setCell ⟨g, 0, none⟩ (.bool b')).setCell ⟨g, 1, none⟩ u) v xs := rd_set_z (heap_set hg rfl) (rd_set_z hg h 0 _) 1 _
theorem heap_set_ne {w : World} {g g' i : Nat} {u : Value} (h : g' ≠ g) : (w.setCell ⟨g, i, none⟩ u).heap[g']? = w.heap[g']? := by
  simp only [World.setCell, Array.getElem?_modify]
  rw [if_neg (by omega)]

set_option maxRecDepth 100000 in
set_option maxHeartbeats 4000000 in
theorem ZBoth_raw (a b : ByteArray) (ba bb : Bool) (l1 l2 m n : Nat) (w : World)
    (hV1 : ∀ W, Calls Tryz.prog 44 #[.string a] W fun e w' => e = .returned (.bool true) ∧ W = w')
    (hV2 : ∀ W, Calls Tryz.prog 44 #[.string b] W fun e w' => e = .returned (.bool true) ∧ W = w')
    (hR1 : ∀ W, Calls Tryz.prog 45 #[.string a] W fun e w' => ∃ p c, e = .returned (.agg #[.bool ba, .slice p l1 c]) ∧ Rd .u32 w' (.slice p l1 c) (digs m) ∧ Below W.heap.size W w')
    (hR2 : ∀ W, Calls Tryz.prog 45 #[.string b] W fun e w' => ∃ p c, e = .returned (.agg #[.bool bb, .slice p l2 c]) ∧ Rd .u32 w' (.slice p l2 c) (digs n) ∧ Below W.heap.size W w') :
    Calls Tryz.prog 22 #[.string a, .string b] w fun e w' => ∃ p1 c1 p2 c2, e = .returned (.tuple #[.agg #[.bool ba, .slice p1 l1 c1], .agg #[.bool bb, .slice p2 l2 c2], .int .i64 0]) ∧ Rd .u32 w' (.slice p1 l1 c1) (digs m) ∧ Rd .u32 w' (.slice p2 l2 c2) (digs n) ∧ Below w.heap.size w w' := by
  have HV1 := Lib.hid hV1
  have HV2 := Lib.hid hV2
  have HR1 := Lib.hid hR1
  have HR2 := Lib.hid hR2
  have HW := Lib.hid (((Below.refl w.heap.size w).alloc (Nat.le_refl _) (.cells #[.bool false, .slice none 0 0] 49)).alloc (by simp) (.cells #[.bool false, .slice none 0 0] 49))

  have AH0 := Lib.hid (show ((w.alloc (.cells #[.bool false, .slice none 0 0] 49)).alloc (.cells #[.bool false, .slice none 0 0] 49)).heap[w.heap.size]? = some (.cells #[.bool false, .slice none 0 0] 49 (0, 0)) from heap_keep (heap_alloc_new _ _) ((Below.refl _ _).alloc (Nat.le_refl _) _))
  have AH1 := Lib.hid (show ((w.alloc (.cells #[.bool false, .slice none 0 0] 49)).alloc (.cells #[.bool false, .slice none 0 0] 49)).heap[w.heap.size + 1]? = some (.cells #[.bool false, .slice none 0 0] 49 (0, 0)) by
    rw [show w.heap.size + 1 = (w.alloc (.cells #[.bool false, .slice none 0 0] 49)).heap.size by simp]; exact heap_alloc_new _ _)
  have cellof : ∀ (W : World) g, W.heap[g]? = some (.cells #[.bool false, .slice none 0 0] 49 (0, 0)) → W.cell? ⟨g, 0, none⟩ = some (.bool false) ∧ W.cell? ⟨g, 1, none⟩ = some (.slice none 0 0) ∧ W.frozen? ⟨g, 0, none⟩ = false ∧ W.frozen? ⟨g, 1, none⟩ = false := by
    intro W g h
    refine ⟨by simp [World.cell?, h], by simp [World.cell?, h], by simp [World.frozen?, h], by simp [World.frozen?, h]⟩
  have HC := Lib.hid cellof
  clear hV1 hV2 hR1 hR2 cellof
  go_enter Tryz.func22, Tryz.ntmps22
  go_wp2_with fail
  refine (HV1.out _).mono ?_
  rintro e w' ⟨rfl, rfl⟩
  go_wp2_with fail
  refine (HV2.out _).mono ?_
  rintro e w' ⟨rfl, rfl⟩
  go_wp2_with fail
  refine (HR1.out _).mono ?_
  rintro e w1 ⟨p1, c1, rfl, r1, hb1⟩
  have HB1 := Lib.hid (HW.out.trans (hb1.mono HW.out.size))
  have HR1' := Lib.hid r1
  have G10 := Lib.hid (heap_keep AH0.out hb1)
  have G11 := Lib.hid (heap_keep AH1.out hb1)
  clear hb1 r1
  go_wp2_with fail
  refine (HR2.out w1).mono ?_
  rintro e w2 ⟨p2, c2, rfl, r2, hb2⟩
  have HB2 := Lib.hid (HB1.out.trans (hb2.mono HB1.out.size))
  have R1 := Lib.hid (HR1'.out.below hb2)
  have R2 := Lib.hid r2
  have G20 := Lib.hid (heap_keep G10.out hb2)
  have G21 := Lib.hid (heap_keep G11.out hb2)
  obtain ⟨k1, k2, k3, k4⟩ := HC.out w2 _ G20.out
  obtain ⟨k5, k6, k7, k8⟩ := HC.out w2 _ G21.out
  have q1 : w.heap.size < w2.heap.size := (Array.getElem?_eq_some_iff.1 G20.out).1
  have q2 : w.heap.size + 1 < w2.heap.size := (Array.getElem?_eq_some_iff.1 G21.out).1
  clear hb2 r2
  go_wp2
  refine bodyPost_ret (v := .tuple #[.agg #[.bool ba, .slice p1 l1 c1], .agg #[.bool bb, .slice p2 l2 c2], .int .i64 0]) (by simp [results, Tryz.results22, go_sem, k1, k2, k5, k6]) rfl ⟨_, _, _, _, rfl, ?_, ?_, ?_⟩
  · exact rd_set2 (by rw [heap_set_ne (by omega), heap_set_ne (by omega)]; exact G21.out) (rd_set2 G20.out R1.out)
  · exact rd_set2 (by rw [heap_set_ne (by omega), heap_set_ne (by omega)]; exact G21.out) (rd_set2 G20.out R2.out)
  · exact (((HB2.out.setCell (p := ⟨w.heap.size, 0, none⟩) (by show w.heap.size ≤ w.heap.size; omega) _).setCell (p := ⟨w.heap.size, 1, none⟩) (by show w.heap.size ≤ w.heap.size; omega) _).setCell (p := ⟨w.heap.size + 1, 0, none⟩) (by show w.heap.size ≤ w.heap.size + 1; omega) _).setCell (p := ⟨w.heap.size + 1, 1, none⟩) (by show w.heap.size ≤ w.heap.size + 1; omega) _

set_option maxRecDepth 100000 in
set_option maxHeartbeats 4000000 in
theorem ZBoth_no1 (a b : ByteArray) (w : World)
    (hV1 : ∀ W, Calls Tryz.prog 44 #[.string a] W fun e w' => e = .returned (.bool false) ∧ W = w') :
    Calls Tryz.prog 22 #[.string a, .string b] w fun e w' => e = .returned (.tuple #[.agg #[.bool false, .slice none 0 0], .agg #[.bool false, .slice none 0 0], .int .i64 1]) ∧ Below w.heap.size w w' := by
  have HV1 := Lib.hid hV1

  have HW := Lib.hid (((Below.refl w.heap.size w).alloc (Nat.le_refl _) (.cells #[.bool false, .slice none 0 0] 49)).alloc (by simp) (.cells #[.bool false, .slice none 0 0] 49))
  clear hV1
  go_enter Tryz.func22, Tryz.ntmps22
  go_wp2_with fail
  refine (HV1.out _).mono ?_
  rintro e w' ⟨rfl, rfl⟩

  go_wp2
  refine bodyPost_ret (v := .tuple #[.agg #[.bool false, .slice none 0 0], .agg #[.bool false, .slice none 0 0], .int .i64 1]) (by simp [results, Tryz.results22, go_sem]) rfl ⟨rfl, ?_⟩
  exact HW.out

set_option maxRecDepth 100000 in
set_option maxHeartbeats 4000000 in
theorem ZBoth_no2 (a b : ByteArray) (w : World)
    (hV1 : ∀ W, Calls Tryz.prog 44 #[.string a] W fun e w' => e = .returned (.bool true) ∧ W = w')
    (hV2 : ∀ W, Calls Tryz.prog 44 #[.string b] W fun e w' => e = .returned (.bool false) ∧ W = w') :
    Calls Tryz.prog 22 #[.string a, .string b] w fun e w' => e = .returned (.tuple #[.agg #[.bool false, .slice none 0 0], .agg #[.bool false, .slice none 0 0], .int .i64 1]) ∧ Below w.heap.size w w' := by
  have HV1 := Lib.hid hV1
  have HV2 := Lib.hid hV2
  have HW := Lib.hid (((Below.refl w.heap.size w).alloc (Nat.le_refl _) (.cells #[.bool false, .slice none 0 0] 49)).alloc (by simp) (.cells #[.bool false, .slice none 0 0] 49))
  clear hV1 hV2
  go_enter Tryz.func22, Tryz.ntmps22
  go_wp2_with fail
  refine (HV1.out _).mono ?_
  rintro e w' ⟨rfl, rfl⟩
  go_wp2_with fail
  refine (HV2.out _).mono ?_
  rintro e w' ⟨rfl, rfl⟩
  go_wp2
  refine bodyPost_ret (v := .tuple #[.agg #[.bool false, .slice none 0 0], .agg #[.bool false, .slice none 0 0], .int .i64 1]) (by simp [results, Tryz.results22, go_sem]) rfl ⟨rfl, ?_⟩
  exact HW.out

end Go.Proofs.YtohaocgbclpknaaGreatDoor
/- garboardref02: Compare, Add, Sub, Mul of texts: walks. -/
namespace Go.Proofs.YtohaocgbclpknaaGreatDoor
open Go.RowKit Go.Gb

theorem zBoth (x y : Int) (fx : FitZ x) (fy : FitZ y) (hx : (Sz x).size ≤ 1000) (hy : (Sz y).size ≤ 1000) (w : World) :
    Calls Tryz.prog 22 #[.string (Sz x), .string (Sz y)] w fun e w' => ∃ p1 c1 p2 c2, e = .returned (.tuple #[.agg #[.bool (decide (x < 0)), .slice p1 (digs x.natAbs).length c1], .agg #[.bool (decide (y < 0)), .slice p2 (digs y.natAbs).length c2], .int .i64 0]) ∧ Rd .u32 w' (.slice p1 (digs x.natAbs).length c1) (digs x.natAbs) ∧ Rd .u32 w' (.slice p2 (digs y.natAbs).length c2) (digs y.natAbs) ∧ Below w.heap.size w w' :=
  ZBoth_raw _ _ _ _ _ _ _ _ w (fun W => zrValid x hx W) (fun W => zrValid y hy W) (fun W => rz_slice rfl rfl (zRead x fx W)) (fun W => rz_slice rfl rfl (zRead y fy W))
theorem zBoth_no (a b : ByteArray) (h : (vldZ a.data.toList && vldZ b.data.toList) = false) (ha : a.size ≤ 1000) (hb : b.size ≤ 1000) (w : World) :
    Calls Tryz.prog 22 #[.string a, .string b] w fun e w' => e = .returned (.tuple #[.agg #[.bool false, .slice none 0 0], .agg #[.bool false, .slice none 0 0], .int .i64 1]) ∧ Below w.heap.size w w' := by
  cases hv : vldZ a.data.toList with
  | false => exact ZBoth_no1 a b w (fun W => zrValid_no a hv ha W)
  | true =>
    rw [hv, Bool.true_and] at h
    have e := sz_of hv
    generalize zval a.data.toList = x at e
    subst e
    exact ZBoth_no2 _ b w (fun W => zrValid x ha W) (fun W => zrValid_no b h hb W)

end Go.Proofs.YtohaocgbclpknaaGreatDoor
/- A region that draws its order, by an invariant of its states. No program is mentioned. -/
namespace Go.Gb
open Go

section
variable {P : Program} {ops : Array Oper} {Q : Exit → Act → World → Prop} {md : Region.Mode}

/-- What has come up is closed: whatever an operation waits for came up before it. -/
def Closed (md : Region.Mode) (ops : Array Oper) (listed : Array Bool) : Prop := ∀ j i, listed.getD j false = true → Region.waitsFor md ops j i = true → listed.getD i false = true

theorem waits_of {j i : Nat} {o : Oper} (ho : ops[j]? = some o) (h : Region.waitsFor md ops j i = true) : ∃ e ∈ o.after, Region.binds md e = true ∧ e.on = i := by
  obtain ⟨o', ho', e, he, hb⟩ := Region.waitsFor_spec h
  obtain rfl : o' = o := Option.some.inj (ho'.symm.trans ho)
  exact ⟨e, he, hb⟩
theorem ready_waits {listed : Array Bool} {j i : Nat} (hj : j ∈ Region.ready md ops listed) (h : Region.waitsFor md ops j i = true) : listed.getD i false = true := by
  obtain ⟨_, o, ho, hall⟩ := mem_ready.1 hj
  obtain ⟨e, he, hb, rfl⟩ := waits_of ho h
  exact hall e he hb
theorem ready_un {listed : Array Bool} {j : Nat} (hj : j ∈ Region.ready md ops listed) : listed.getD j true = false := (mem_ready.1 hj).1
theorem ready_lt {listed : Array Bool} {j : Nat} (hj : j ∈ Region.ready md ops listed) : j < ops.size := by
  obtain ⟨_, o, ho, _⟩ := mem_ready.1 hj
  exact (Array.getElem?_eq_some_iff.1 ho).1
theorem getD_set_cases {listed : Array Bool} {i j : Nat} (h : (listed.setIfInBounds i true).getD j false = true) : j = i ∨ listed.getD j false = true := by
  by_cases hij : j = i
  · exact Or.inl hij
  · right
    simp only [Array.getD_eq_getD_getElem?] at h ⊢
    rwa [Array.getElem?_setIfInBounds_ne (Ne.symm hij)] at h
theorem getD_set_keep {listed : Array Bool} {i j : Nat} (h : listed.getD j false = true) : (listed.setIfInBounds i true).getD j false = true := by
  simp only [Array.getD_eq_getD_getElem?] at h ⊢
  by_cases hij : i = j
  · subst hij
    rw [Array.getElem?_setIfInBounds_self]
    split
    · rfl
    · rename_i hlt
      rw [Array.getElem?_eq_none (by omega)] at h
      exact h
  · rw [Array.getElem?_setIfInBounds_ne hij]; exact h
theorem Closed.set {listed : Array Bool} {i : Nat} (h : Closed md ops listed) (hi : i ∈ Region.ready md ops listed) : Closed md ops (listed.setIfInBounds i true) := by
  intro j k hj hw
  rcases getD_set_cases hj with rfl | hj
  · exact getD_set_keep (ready_waits hi hw)
  · exact getD_set_keep (h j k hj hw)
theorem closed_none (n : Nat) : Closed md ops (Array.replicate n false) := by
  intro j i hj _
  exfalso
  simp only [Array.getD_eq_getD_getElem?, Array.getElem?_replicate] at hj
  split at hj <;> simp at hj

/-- The states of a region by an invariant. -/
theorem wpAny_inv (I : Array Bool → Act → World → Prop)
    (hstep : ∀ listed a w i, I listed a w → i ∈ Region.ready md ops listed → wpOp P ops Q i (fun a' w' => I (listed.setIfInBounds i true) a' w') a w)
    (hend : ∀ listed a w, I listed a w → Region.ready md ops listed = [] → Q .normal a w) :
    ∀ (n : Nat) (U : List Nat) (listed : Array Bool) (a : Act) (w : World), U.length = n → U.Nodup → (∀ i, i ∈ U ↔ (i < ops.size ∧ listed.getD i true = false)) → listed.size = ops.size → I listed a w → wpAny P md ops Q n listed a w
  | 0, U, listed, a, w, hn, _, hU, _, hI => by
    have h0 : Region.ready md ops listed = [] := by
      apply List.eq_nil_iff_forall_not_mem.2
      intro i hi
      have hm := (hU i).2 ⟨ready_lt hi, ready_un hi⟩
      rw [List.length_eq_zero_iff.1 hn] at hm
      cases hm
    exact ⟨h0, hend listed a w hI h0⟩
  | n + 1, U, listed, a, w, hn, hd, hU, hs, hI => by
    refine ⟨fun h0 => hend listed a w hI h0, fun i hi => ?_⟩
    refine wpOp_mono (fun a' w' hI' => ?_) (hstep listed a w i hI hi)
    have hm := (hU i).2 ⟨ready_lt hi, ready_un hi⟩
    refine wpAny_inv I hstep hend n (U.erase i) _ a' w' (by rw [List.length_erase_of_mem hm, hn]; rfl) (hd.erase i) (fun j => ?_) (by simpa using hs) hI'
    rw [hd.mem_erase_iff, hU j]
    simp only [Array.getD_eq_getD_getElem?]
    by_cases hij : j = i
    · subst hij
      rw [Array.getElem?_setIfInBounds_self_of_lt (by rw [hs]; exact ready_lt hi)]
      simp
    · rw [Array.getElem?_setIfInBounds_ne (Ne.symm hij)]
      simp [hij]
theorem wp_region_inv {id : Nat} {a : Act} {w : World} (hm : P.follows .mixedOrders = true) (I : Array Bool → Act → World → Prop)
    (hstart : I (Array.replicate ops.size false) a w.drew)
    (hstep : ∀ listed a w i, I listed a w → i ∈ Region.ready .any ops listed → wpOp P ops Q i (fun a' w' => I (listed.setIfInBounds i true) a' w') a w)
    (hend : ∀ listed a w, I listed a w → Region.ready .any ops listed = [] → Q .normal a w) : (Code.region id ops true).wp P Q a w := by
  refine wp_region_any hm ?_
  refine wpAny_inv I hstep hend ops.size (List.range ops.size) _ a _ (by simp) List.nodup_range (fun i => ?_) (by simp) hstart
  rw [List.mem_range]
  simp only [Array.getD_eq_getD_getElem?, Array.getElem?_replicate]
  constructor
  · intro h; exact ⟨h, by rw [if_pos h]; rfl⟩
  · intro h; exact h.1
/-- Each operation waits for earlier ones alone. -/
def backB (md : Region.Mode) (ops : Array Oper) : Bool := (List.range ops.size).all fun j => match ops[j]? with
  | some o => o.after.all fun e => !Region.binds md e || decide (e.on < j)
  | none => true
theorem back_of (hb : backB md ops = true) {j i : Nat} (h : Region.waitsFor md ops j i = true) : i < j := by
  obtain ⟨o, ho, e, he, hbi, rfl⟩ := Region.waitsFor_spec h
  have hj : j < ops.size := (Array.getElem?_eq_some_iff.1 ho).1
  have h1 := List.all_eq_true.1 hb j (List.mem_range.2 hj)
  rw [ho] at h1
  simp only at h1
  have h2 := Array.all_eq_true'.1 h1 e he
  rw [hbi] at h2
  simpa using h2
/-- All have come up. -/
theorem all_listed {listed : Array Bool} (hs : listed.size = ops.size) (hb : backB md ops = true) (h : Region.ready md ops listed = []) : ∀ j, j < ops.size → listed.getD j false = true := by
  intro j
  induction j using Nat.strongRecOn with
  | _ j ih =>
    intro hj
    cases hl : listed.getD j true with
    | true =>
      simp only [Array.getD_eq_getD_getElem?] at hl ⊢
      have hlt : j < listed.size := by omega
      rw [Array.getElem?_eq_getElem hlt] at hl ⊢
      exact hl
    | false =>
      exfalso
      obtain ⟨o, ho⟩ : ∃ o, ops[j]? = some o := ⟨ops[j], Array.getElem?_eq_getElem hj⟩
      have hr : j ∈ Region.ready md ops listed := by
        refine mem_ready.2 ⟨hl, o, ho, fun e he hbi => ?_⟩
        have hw : Region.waitsFor md ops j e.on = true := by
          unfold Region.waitsFor
          rw [ho]
          simp only
          refine Array.any_eq_true'.2 ⟨e, he, ?_⟩
          simp [hbi]
        have h1 := back_of hb hw
        exact ih e.on h1 (by omega)
      rw [h] at hr
      cases hr

/-- The invariant of a region whose operations' values are known: operation i < m lays val i into slot lo + i. -/
structure SInv (ops : Array Oper) (lo m : Nat) (val : Nat → Value) (a0 : Act) (W : Array Bool → World → Prop) (listed : Array Bool) (a : Act) (w : World) : Prop where
  closed : Closed .any ops listed
  size : listed.size = ops.size
  slots : ∀ i, i < m → listed.getD i false = true → a.tmps[lo + i]? = some (val i)
  rest : ∀ d, (d < lo ∨ lo + m ≤ d) → a.tmps[d]? = a0.tmps[d]?
  tsize : a.tmps.size = a0.tmps.size
  defers : a.defers = a0.defers
  world : W listed w

theorem SInv.start {lo m : Nat} {val : Nat → Value} {a : Act} {W : Array Bool → World → Prop} {w : World} (h : W (Array.replicate ops.size false) w) : SInv ops lo m val a W (Array.replicate ops.size false) a w :=
  ⟨closed_none _, by simp, fun i _ hi => by
    exfalso
    simp only [Array.getD_eq_getD_getElem?, Array.getElem?_replicate] at hi
    split at hi <;> simp at hi, fun _ _ => rfl, rfl, rfl, h⟩
/-- An operation has come up and given its value. -/
theorem SInv.put {lo m i d : Nat} {v : Value} {val : Nat → Value} {a a0 : Act} {W : Array Bool → World → Prop} {listed : Array Bool} {w w' : World} (h : SInv ops lo m val a0 W listed a w) (hi : i ∈ Region.ready .any ops listed) (hm : i < m) (hd : d = lo + i) (hv : v = val i)
    (hlo : lo + m ≤ a0.tmps.size) (hW : W (listed.setIfInBounds i true) w') : SInv ops lo m val a0 W (listed.setIfInBounds i true) (a.put (some d) v) w' := by
  subst hd hv
  have hp : (a.put (some (lo + i)) (val i)).tmps = a.tmps.setIfInBounds (lo + i) (val i) := rfl
  have hts := h.tsize
  refine ⟨h.closed.set hi, by simpa using h.size, fun j hj hl => ?_, fun e he => ?_, by rw [hp]; simpa using hts, h.defers, hW⟩
  · rw [hp]
    by_cases hji : j = i
    · subst hji
      rw [Array.getElem?_setIfInBounds_self_of_lt (by omega)]
    · rw [Array.getElem?_setIfInBounds_ne (by omega)]
      rcases getD_set_cases hl with h2 | h2
      · exact absurd h2 hji
      · exact h.slots j hj h2
  · rw [hp, Array.getElem?_setIfInBounds_ne (by omega)]
    exact h.rest e he
/-- An operation without a slot has come up. -/
theorem SInv.skip {lo m i : Nat} {v : Value} {val : Nat → Value} {a a0 : Act} {W : Array Bool → World → Prop} {listed : Array Bool} {w w' : World} (h : SInv ops lo m val a0 W listed a w) (hi : i ∈ Region.ready .any ops listed) (hm : m ≤ i)
    (hW : W (listed.setIfInBounds i true) w') : SInv ops lo m val a0 W (listed.setIfInBounds i true) (a.put none v) w' := by
  refine ⟨h.closed.set hi, by simpa using h.size, fun j hj hl => ?_, h.rest, h.tsize, h.defers, hW⟩
  rcases getD_set_cases hl with h2 | h2
  · omega
  · exact h.slots j hj h2
/-- The value of a slot whose operation another one waits for. -/
theorem SInv.at {lo m i j : Nat} {val : Nat → Value} {a a0 : Act} {W : Array Bool → World → Prop} {listed : Array Bool} {w : World} (h : SInv ops lo m val a0 W listed a w) (hj : j ∈ Region.ready .any ops listed) (hw : Region.waitsFor .any ops j i = true) (hm : i < m) :
    a.tmps[lo + i]? = some (val i) := h.slots i hm (ready_waits hj hw)
/-- An operation that waits for one that has not come up has not come up. -/
theorem SInv.not {lo m i j : Nat} {val : Nat → Value} {a a0 : Act} {W : Array Bool → World → Prop} {listed : Array Bool} {w : World} (h : SInv ops lo m val a0 W listed a w) (hw : Region.waitsFor .any ops j i = true) (hi : listed.getD i false = false) : listed.getD j false = false := by
  cases hj : listed.getD j false with
  | false => rfl
  | true => rw [h.closed j i hj hw] at hi; cases hi
theorem ready_un' {listed : Array Bool} {j : Nat} (hj : j ∈ Region.ready md ops listed) : listed.getD j false = false := by
  have h := ready_un hj
  simp only [Array.getD_eq_getD_getElem?] at h ⊢
  cases hc : listed[j]? with
  | none => rw [hc] at h; simp at h
  | some b => rw [hc] at h; simpa using h
/-- At the end: every slot is known. -/
theorem SInv.done {lo m : Nat} {val : Nat → Value} {a a0 : Act} {W : Array Bool → World → Prop} {listed : Array Bool} {w : World} (h : SInv ops lo m val a0 W listed a w) (hall : ∀ j, j < ops.size → listed.getD j false = true) (hm : m ≤ ops.size) (a1 : Act)
    (h1 : ∀ i, i < m → a1.tmps[lo + i]? = some (val i)) (h2 : ∀ d, (d < lo ∨ lo + m ≤ d) → a1.tmps[d]? = a0.tmps[d]?) (h3 : a1.defers = a0.defers) : a = a1 := by
  have ht : a.tmps = a1.tmps := by
    apply Array.ext_getElem?
    intro d
    by_cases hd : d < lo ∨ lo + m ≤ d
    · rw [h.rest d hd, h2 d hd]
    · obtain ⟨i, rfl⟩ : ∃ i, d = lo + i := ⟨d - lo, by omega⟩
      rw [h.slots i (by omega) (hall i (by omega)), h1 i (by omega)]
  have hd := h.defers
  cases a; cases a1
  simp only at ht hd h3
  rw [ht, hd, h3]

end

end Go.Gb
/- A region that draws its order, by an invariant whose slots are known up to where new blocks lie; its last operation waits for all others. No program is mentioned. -/
namespace Go.Gb
open Go Go.RowKit

section
variable {P : Program} {ops : Array Oper} {Q : Exit → Act → World → Prop}

/-- Operation i < m lays into slot sl i a value of which R i holds in the world. -/
structure RInv (ops : Array Oper) (m : Nat) (sl : Nat → Nat) (R : Nat → Value → World → Prop) (a0 : Act) (W : World → Prop) (listed : Array Bool) (a : Act) (w : World) : Prop where
  closed : Closed .any ops listed
  size : listed.size = ops.size
  slots : ∀ i, i < m → listed.getD i false = true → ∃ v, a.tmps[sl i]? = some v ∧ R i v w
  rest : ∀ d, (∀ i, i < m → sl i ≠ d) → a.tmps[d]? = a0.tmps[d]?
  tsize : a.tmps.size = a0.tmps.size
  defers : a.defers = a0.defers
  world : W w

variable {m : Nat} {sl : Nat → Nat} {R : Nat → Value → World → Prop} {a a0 : Act} {W : World → Prop} {listed : Array Bool} {w w' : World}

theorem RInv.start (h : W w) : RInv ops m sl R a W (Array.replicate ops.size false) a w :=
  ⟨closed_none _, by simp, fun i _ hi => by
    exfalso
    simp only [Array.getD_eq_getD_getElem?, Array.getElem?_replicate] at hi
    split at hi <;> simp at hi, fun _ _ => rfl, rfl, rfl, h⟩
theorem RInv.put {i d : Nat} {v : Value} (h : RInv ops m sl R a0 W listed a w) (hi : i ∈ Region.ready .any ops listed) (hm : i < m) (hd : d = sl i) (hlo : d < a0.tmps.size)
    (hinj : ∀ j, j < m → sl j = d → j = i) (hv : R i v w') (hR : ∀ j u, R j u w → R j u w') (hW : W w') : RInv ops m sl R a0 W (listed.setIfInBounds i true) (a.put (some d) v) w' := by
  subst hd
  have hp : (a.put (some (sl i)) v).tmps = a.tmps.setIfInBounds (sl i) v := rfl
  have hts := h.tsize
  refine ⟨h.closed.set hi, by simpa using h.size, fun j hj hl => ?_, fun e he => ?_, by rw [hp]; simpa using hts, h.defers, hW⟩
  · rw [hp]
    by_cases hji : j = i
    · subst hji
      exact ⟨v, by rw [Array.getElem?_setIfInBounds_self_of_lt (by omega)], hv⟩
    · rw [Array.getElem?_setIfInBounds_ne (fun e => hji (hinj j hj e.symm))]
      rcases getD_set_cases hl with h2 | h2
      · exact absurd h2 hji
      · obtain ⟨u, h3, h4⟩ := h.slots j hj h2
        exact ⟨u, h3, hR j u h4⟩
  · rw [hp, Array.getElem?_setIfInBounds_ne (he i hm)]
    exact h.rest e he
theorem RInv.at {i j : Nat} (h : RInv ops m sl R a0 W listed a w) (hj : j ∈ Region.ready .any ops listed) (hw : Region.waitsFor .any ops j i = true) (hm : i < m) :
    ∃ v, a.tmps[sl i]? = some v ∧ R i v w := h.slots i hm (ready_waits hj hw)

/-- A frame with some slots laid anew. -/
def putL : List (Nat × Value) → Array Value → Array Value
  | [], t => t
  | p :: ps, t => putL ps (t.setIfInBounds p.1 p.2)
theorem putL_eq : ∀ (L : List (Nat × Value)) (t T : Array Value), T.size = t.size → (∀ p, p ∈ L → T[p.1]? = some p.2) → (∀ d, (∀ p, p ∈ L → p.1 ≠ d) → T[d]? = t[d]?) → T = putL L t
  | [], t, T, _, _, h => Array.ext_getElem? fun d => h d (fun _ hp => by cases hp)
  | p :: ps, t, T, hs, h1, h2 => by
    refine putL_eq ps _ T (by simpa using hs) (fun q hq => h1 q (List.mem_cons_of_mem _ hq)) (fun d hd => ?_)
    have hp := h1 p List.mem_cons_self
    by_cases hpd : p.1 = d
    · subst hpd
      have hlt : p.1 < T.size := (Array.getElem?_eq_some_iff.1 hp).1
      rw [hp, Array.getElem?_setIfInBounds_self_of_lt (by omega)]
    · rw [Array.getElem?_setIfInBounds_ne hpd]
      exact h2 d (fun q hq => by
        rcases List.mem_cons.1 hq with rfl | hq
        · exact hpd
        · exact hd q hq)
theorem RInv.fin (h : RInv ops m sl R a0 W listed a w) (L : List (Nat × Value)) (h1 : ∀ p, p ∈ L → a.tmps[p.1]? = some p.2) (h2 : ∀ d, (∀ p, p ∈ L → p.1 ≠ d) → ∀ i, i < m → sl i ≠ d) : a = ⟨putL L a0.tmps, a0.defers⟩ := by
  have ht := putL_eq L a0.tmps a.tmps h.tsize h1 (fun d hd => h.rest d (h2 d hd))
  have hd := h.defers
  cases a
  simp only at ht hd
  rw [ht, hd]

/-- Each operation but the last is waited for by a later one. -/
def lastB (ops : Array Oper) (m : Nat) : Bool := (List.range m).all fun j => (List.range (m + 1)).any fun k => decide (j < k) && Region.waitsFor .any ops k j
theorem last_all (hl : lastB ops m = true) (hc : Closed .any ops listed) (hr : m ∈ Region.ready .any ops listed) : ∀ n j, n + j = m → 0 < n → listed.getD j false = true := by
  intro n
  induction n using Nat.strongRecOn with
  | _ n ih =>
    intro j hj hn
    have h1 := List.all_eq_true.1 hl j (List.mem_range.2 (by omega))
    obtain ⟨k, hk, h2⟩ := List.any_eq_true.1 h1
    have hk := List.mem_range.1 hk
    rw [Bool.and_eq_true, decide_eq_true_iff] at h2
    by_cases hkm : k = m
    · subst hkm; exact ready_waits hr h2.2
    · exact hc k j (ih (m - k) (by omega) k (by omega) (by omega)) h2.2
theorem getD_set_ne {listed : Array Bool} {i j : Nat} (h : j ≠ i) : (listed.setIfInBounds i true).getD j false = listed.getD j false := by
  simp only [Array.getD_eq_getD_getElem?]
  rw [Array.getElem?_setIfInBounds_ne (Ne.symm h)]
theorem getD_set_eq {listed : Array Bool} {i : Nat} (h : i < listed.size) : (listed.setIfInBounds i true).getD i false = true := by
  simp only [Array.getD_eq_getD_getElem?]
  rw [Array.getElem?_setIfInBounds_self_of_lt h]
  rfl
end

/-- What a slot holds: a value; a new row with these cells; a pointer to a new block with these cells. -/
inductive Slot where
  | val (v : Value)
  | row (cs : List Value)
  | ptr (cs : List Value)
def Slot.Ok (b : Nat) (v : Value) (W : World) : Slot → Prop
  | .val u => v = u
  | .row cs => ∃ g, v = .slice (some ⟨g, 0, none⟩) cs.length cs.length ∧ b ≤ g ∧ g < W.heap.size ∧ ∀ i x, cs[i]? = some x → W.cell? ⟨g, i, none⟩ = some x
  | .ptr cs => ∃ g, v = .pointer (some ⟨g, 0, none⟩) ∧ b ≤ g ∧ g < W.heap.size ∧ (∀ i x, cs[i]? = some x → W.cell? ⟨g, i, none⟩ = some x) ∧ (∀ i x, cs[i]? = some x → W.frozen? ⟨g, i, none⟩ = false)
theorem Slot.Ok.mono {b : Nat} {v : Value} {W W' : World} {s : Slot} (h : s.Ok b v W) (hb : Below W.heap.size W W') : s.Ok b v W' := by
  cases s with
  | val u => exact h
  | row cs =>
    obtain ⟨g, h1, h2, h3, h4⟩ := h
    exact ⟨g, h1, h2, Nat.lt_of_lt_of_le h3 hb.size, fun i x hx => (hb.cell (p := ⟨g, i, none⟩) h3).trans (h4 i x hx)⟩
  | ptr cs =>
    obtain ⟨g, h1, h2, h3, h4, h5⟩ := h
    exact ⟨g, h1, h2, Nat.lt_of_lt_of_le h3 hb.size, fun i x hx => (hb.cell (p := ⟨g, i, none⟩) h3).trans (h4 i x hx), fun i x hx => (hb.frozen (p := ⟨g, i, none⟩) h3).trans (h5 i x hx)⟩
/-- The slots of a list. -/
def SlR (b : Nat) (L : List Slot) (i : Nat) (v : Value) (W : World) : Prop := (L.getD i (.val undef)).Ok b v W
theorem SlR.mono {b : Nat} {L : List Slot} {W W' : World} (hb : Below W.heap.size W W') (i : Nat) (v : Value) (h : SlR b L i v W) : SlR b L i v W' := Slot.Ok.mono h hb

end Go.Gb
