/- Texts of this proof, one behind the other. -/
import Derived.Orders
import Derived.StillTail
import Derived.WalkKit
import Derived.Below
import Derived.Test.YtblccbnejcngaaaGreatDoorMna
import Derived.Test.YtblccbnejcngaaaGreatDoorMnu
/- A region that draws its order, by an invariant of its states. No program is mentioned. -/
namespace Go.Gb
open Go

section
variable {P : Program} {ops : Array Oper} {Q : Exit → Act → World → Prop} {md : Region.Mode}

/-- What has come up is closed: whatever an operation waits for came up before it. -/
def Closed (md : Region.Mode) (ops : Array Oper) (listed : Array Bool) : Prop := ∀ j i, listed.getD j false = true → Region.waitsFor md ops j i = true → listed.getD i false = true

theorem waits_of {j i : Nat} {o : Oper} (ho : ops[j]? = some o) (h : Region.waitsFor md ops j i = true) : ∃ e ∈ o.after, Region.binds md e = true ∧ e.on = i := by
  obtain ⟨o', ho', e, he, hb⟩ := Region.waitsFor_spec h
  obtain rfl : o' = o := Option.some.inj (ho'.symm.trans ho)
  exact ⟨e, he, hb⟩
theorem ready_waits {listed : Array Bool} {j i : Nat} (hj : j ∈ Region.ready md ops listed) (h : Region.waitsFor md ops j i = true) : listed.getD i false = true := by
  obtain ⟨_, o, ho, hall⟩ := mem_ready.1 hj
  obtain ⟨e, he, hb, rfl⟩ := waits_of ho h
  exact hall e he hb
theorem ready_un {listed : Array Bool} {j : Nat} (hj : j ∈ Region.ready md ops listed) : listed.getD j true = false := (mem_ready.1 hj).1
theorem ready_lt {listed : Array Bool} {j : Nat} (hj : j ∈ Region.ready md ops listed) : j < ops.size := by
  obtain ⟨_, o, ho, _⟩ := mem_ready.1 hj
  exact (Array.getElem?_eq_some_iff.1 ho).1
theorem getD_set_cases {listed : Array Bool} {i j : Nat} (h : (listed.setIfInBounds i true).getD j false = true) : j = i ∨ listed.getD j false = true := by
  by_cases hij : j = i
  · exact Or.inl hij
  · right
    simp only [Array.getD_eq_getD_getElem?] at h ⊢
    rwa [Array.getElem?_setIfInBounds_ne (Ne.symm hij)] at h
theorem getD_set_keep {listed : Array Bool} {i j : Nat} (h : listed.getD j false = true) : (listed.setIfInBounds i true).getD j false = true := by
  simp only [Array.getD_eq_getD_getElem?] at h ⊢
  by_cases hij : i = j
  · subst hij
    rw [Array.getElem?_setIfInBounds_self]
    split
    · rfl
    · rename_i hlt
      rw [Array.getElem?_eq_none (by omega)] at h
      exact h
  · rw [Array.getElem?_setIfInBounds_ne hij]; exact h
theorem Closed.set {listed : Array Bool} {i : Nat} (h : Closed md ops listed) (hi : i ∈ Region.ready md ops listed) : Closed md ops (listed.setIfInBounds i true) := by
  intro j k hj hw
  rcases getD_set_cases hj with rfl | hj
  · exact getD_set_keep (ready_waits hi hw)
  · exact getD_set_keep (h j k hj hw)
theorem closed_none (n : Nat) : Closed md ops (Array.replicate n false) := by
  intro j i hj _
  exfalso
  simp only [Array.getD_eq_getD_getElem?, Array.getElem?_replicate] at hj
  split at hj <;> simp at hj

/-- The states of a region by an invariant. -/
theorem wpAny_inv (I : Array Bool → Act → World → Prop)
    (hstep : ∀ listed a w i, I listed a w → i ∈ Region.ready md ops listed → wpOp P ops Q i (fun a' w' => I (listed.setIfInBounds i true) a' w') a w)
    (hend : ∀ listed a w, I listed a w → Region.ready md ops listed = [] → Q .normal a w) :
    ∀ (n : Nat) (U : List Nat) (listed : Array Bool) (a : Act) (w : World), U.length = n → U.Nodup → (∀ i, i ∈ U ↔ (i < ops.size ∧ listed.getD i true = false)) → listed.size = ops.size → I listed a w → wpAny P md ops Q n listed a w
  | 0, U, listed, a, w, hn, _, hU, _, hI => by
    have h0 : Region.ready md ops listed = [] := by
      apply List.eq_nil_iff_forall_not_mem.2
      intro i hi
      have hm := (hU i).2 ⟨ready_lt hi, ready_un hi⟩
      rw [List.length_eq_zero_iff.1 hn] at hm
      cases hm
    exact ⟨h0, hend listed a w hI h0⟩
  | n + 1, U, listed, a, w, hn, hd, hU, hs, hI => by
    refine ⟨fun h0 => hend listed a w hI h0, fun i hi => ?_⟩
    refine wpOp_mono (fun a' w' hI' => ?_) (hstep listed a w i hI hi)
    have hm := (hU i).2 ⟨ready_lt hi, ready_un hi⟩
    refine wpAny_inv I hstep hend n (U.erase i) _ a' w' (by rw [List.length_erase_of_mem hm, hn]; rfl) (hd.erase i) (fun j => ?_) (by simpa using hs) hI'
    rw [hd.mem_erase_iff, hU j]
    simp only [Array.getD_eq_getD_getElem?]
    by_cases hij : j = i
    · subst hij
      rw [Array.getElem?_setIfInBounds_self_of_lt (by rw [hs]; exact ready_lt hi)]
      simp
    · rw [Array.getElem?_setIfInBounds_ne (Ne.symm hij)]
      simp [hij]
theorem wp_region_inv {id : Nat} {a : Act} {w : World} (hm : P.follows .mixedOrders = true) (I : Array Bool → Act → World → Prop)
    (hstart : I (Array.replicate ops.size false) a w.drew)
    (hstep : ∀ listed a w i, I listed a w → i ∈ Region.ready .any ops listed → wpOp P ops Q i (fun a' w' => I (listed.setIfInBounds i true) a' w') a w)
    (hend : ∀ listed a w, I listed a w → Region.ready .any ops listed = [] → Q .normal a w) : (Code.region id ops true).wp P Q a w := by
  refine wp_region_any hm ?_
  refine wpAny_inv I hstep hend ops.size (List.range ops.size) _ a _ (by simp) List.nodup_range (fun i => ?_) (by simp) hstart
  rw [List.mem_range]
  simp only [Array.getD_eq_getD_getElem?, Array.getElem?_replicate]
  constructor
  · intro h; exact ⟨h, by rw [if_pos h]; rfl⟩
  · intro h; exact h.1
/-- Each operation waits for earlier ones alone. -/
def backB (md : Region.Mode) (ops : Array Oper) : Bool := (List.range ops.size).all fun j => match ops[j]? with
  | some o => o.after.all fun e => !Region.binds md e || decide (e.on < j)
  | none => true
theorem back_of (hb : backB md ops = true) {j i : Nat} (h : Region.waitsFor md ops j i = true) : i < j := by
  obtain ⟨o, ho, e, he, hbi, rfl⟩ := Region.waitsFor_spec h
  have hj : j < ops.size := (Array.getElem?_eq_some_iff.1 ho).1
  have h1 := List.all_eq_true.1 hb j (List.mem_range.2 hj)
  rw [ho] at h1
  simp only at h1
  have h2 := Array.all_eq_true'.1 h1 e he
  rw [hbi] at h2
  simpa using h2
/-- All have come up. -/
theorem all_listed {listed : Array Bool} (hs : listed.size = ops.size) (hb : backB md ops = true) (h : Region.ready md ops listed = []) : ∀ j, j < ops.size → listed.getD j false = true := by
  intro j
  induction j using Nat.strongRecOn with
  | _ j ih =>
    intro hj
    cases hl : listed.getD j true with
    | true =>
      simp only [Array.getD_eq_getD_getElem?] at hl ⊢
      have hlt : j < listed.size := by omega
      rw [Array.getElem?_eq_getElem hlt] at hl ⊢
      exact hl
    | false =>
      exfalso
      obtain ⟨o, ho⟩ : ∃ o, ops[j]? = some o := ⟨ops[j], Array.getElem?_eq_getElem hj⟩
      have hr : j ∈ Region.ready md ops listed := by
        refine mem_ready.2 ⟨hl, o, ho, fun e he hbi => ?_⟩
        have hw : Region.waitsFor md ops j e.on = true := by
          unfold Region.waitsFor
          rw [ho]
          simp only
          refine Array.any_eq_true'.2 ⟨e, he, ?_⟩
          simp [hbi]
        have h1 := back_of hb hw
        exact ih e.on h1 (by omega)
      rw [h] at hr
      cases hr

/-- The invariant of a region whose operations' values are known: operation i < m lays val i into slot lo + i. -/
structure SInv (ops : Array Oper) (lo m : Nat) (val : Nat → Value) (a0 : Act) (W : Array Bool → World → Prop) (listed : Array Bool) (a : Act) (w : World) : Prop where
  closed : Closed .any ops listed
  size : listed.size = ops.size
  slots : ∀ i, i < m → listed.getD i false = true → a.tmps[lo + i]? = some (val i)
  rest : ∀ d, (d < lo ∨ lo + m ≤ d) → a.tmps[d]? = a0.tmps[d]?
  tsize : a.tmps.size = a0.tmps.size
  defers : a.defers = a0.defers
  world : W listed w

theorem SInv.start {lo m : Nat} {val : Nat → Value} {a : Act} {W : Array Bool → World → Prop} {w : World} (h : W (Array.replicate ops.size false) w) : SInv ops lo m val a W (Array.replicate ops.size false) a w :=
  ⟨closed_none _, by simp, fun i _ hi => by
    exfalso
    simp only [Array.getD_eq_getD_getElem?, Array.getElem?_replicate] at hi
    split at hi <;> simp at hi, fun _ _ => rfl, rfl, rfl, h⟩
/-- An operation has come up and given its value. -/
theorem SInv.put {lo m i d : Nat} {v : Value} {val : Nat → Value} {a a0 : Act} {W : Array Bool → World → Prop} {listed : Array Bool} {w w' : World} (h : SInv ops lo m val a0 W listed a w) (hi : i ∈ Region.ready .any ops listed) (hm : i < m) (hd : d = lo + i) (hv : v = val i)
    (hlo : lo + m ≤ a0.tmps.size) (hW : W (listed.setIfInBounds i true) w') : SInv ops lo m val a0 W (listed.setIfInBounds i true) (a.put (some d) v) w' := by
  subst hd hv
  have hp : (a.put (some (lo + i)) (val i)).tmps = a.tmps.setIfInBounds (lo + i) (val i) := rfl
  have hts := h.tsize
  refine ⟨h.closed.set hi, by simpa using h.size, fun j hj hl => ?_, fun e he => ?_, by rw [hp]; simpa using hts, h.defers, hW⟩
  · rw [hp]
    by_cases hji : j = i
    · subst hji
      rw [Array.getElem?_setIfInBounds_self_of_lt (by omega)]
    · rw [Array.getElem?_setIfInBounds_ne (by omega)]
      rcases getD_set_cases hl with h2 | h2
      · exact absurd h2 hji
      · exact h.slots j hj h2
  · rw [hp, Array.getElem?_setIfInBounds_ne (by omega)]
    exact h.rest e he
/-- An operation without a slot has come up. -/
theorem SInv.skip {lo m i : Nat} {v : Value} {val : Nat → Value} {a a0 : Act} {W : Array Bool → World → Prop} {listed : Array Bool} {w w' : World} (h : SInv ops lo m val a0 W listed a w) (hi : i ∈ Region.ready .any ops listed) (hm : m ≤ i)
    (hW : W (listed.setIfInBounds i true) w') : SInv ops lo m val a0 W (listed.setIfInBounds i true) (a.put none v) w' := by
  refine ⟨h.closed.set hi, by simpa using h.size, fun j hj hl => ?_, h.rest, h.tsize, h.defers, hW⟩
  rcases getD_set_cases hl with h2 | h2
  · omega
  · exact h.slots j hj h2
/-- The value of a slot whose operation another one waits for. -/
theorem SInv.at {lo m i j : Nat} {val : Nat → Value} {a a0 : Act} {W : Array Bool → World → Prop} {listed : Array Bool} {w : World} (h : SInv ops lo m val a0 W listed a w) (hj : j ∈ Region.ready .any ops listed) (hw : Region.waitsFor .any ops j i = true) (hm : i < m) :
    a.tmps[lo + i]? = some (val i) := h.slots i hm (ready_waits hj hw)
/-- An operation that waits for one that has not come up has not come up. -/
theorem SInv.not {lo m i j : Nat} {val : Nat → Value} {a a0 : Act} {W : Array Bool → World → Prop} {listed : Array Bool} {w : World} (h : SInv ops lo m val a0 W listed a w) (hw : Region.waitsFor .any ops j i = true) (hi : listed.getD i false = false) : listed.getD j false = false := by
  cases hj : listed.getD j false with
  | false => rfl
  | true => rw [h.closed j i hj hw] at hi; cases hi
theorem ready_un' {listed : Array Bool} {j : Nat} (hj : j ∈ Region.ready md ops listed) : listed.getD j false = false := by
  have h := ready_un hj
  simp only [Array.getD_eq_getD_getElem?] at h ⊢
  cases hc : listed[j]? with
  | none => rw [hc] at h; simp at h
  | some b => rw [hc] at h; simpa using h
/-- At the end: every slot is known. -/
theorem SInv.done {lo m : Nat} {val : Nat → Value} {a a0 : Act} {W : Array Bool → World → Prop} {listed : Array Bool} {w : World} (h : SInv ops lo m val a0 W listed a w) (hall : ∀ j, j < ops.size → listed.getD j false = true) (hm : m ≤ ops.size) (a1 : Act)
    (h1 : ∀ i, i < m → a1.tmps[lo + i]? = some (val i)) (h2 : ∀ d, (d < lo ∨ lo + m ≤ d) → a1.tmps[d]? = a0.tmps[d]?) (h3 : a1.defers = a0.defers) : a = a1 := by
  have ht : a.tmps = a1.tmps := by
    apply Array.ext_getElem?
    intro d
    by_cases hd : d < lo ∨ lo + m ≤ d
    · rw [h.rest d hd, h2 d hd]
    · obtain ⟨i, rfl⟩ : ∃ i, d = lo + i := ⟨d - lo, by omega⟩
      rw [h.slots i (by omega) (hall i (by omega)), h1 i (by omega)]
  have hd := h.defers
  cases a; cases a1
  simp only at ht hd h3
  rw [ht, hd, h3]

end

end Go.Gb
/- A region that draws its order, by an invariant whose slots are known up to where new blocks lie; its last operation waits for all others. No program is mentioned. -/
namespace Go.Gb
open Go Go.RowKit

section
variable {P : Program} {ops : Array Oper} {Q : Exit → Act → World → Prop}

/-- Operation i < m lays into slot sl i a value of which R i holds in the world. -/
structure RInv (ops : Array Oper) (m : Nat) (sl : Nat → Nat) (R : Nat → Value → World → Prop) (a0 : Act) (W : World → Prop) (listed : Array Bool) (a : Act) (w : World) : Prop where
  closed : Closed .any ops listed
  size : listed.size = ops.size
  slots : ∀ i, i < m → listed.getD i false = true → ∃ v, a.tmps[sl i]? = some v ∧ R i v w
  rest : ∀ d, (∀ i, i < m → sl i ≠ d) → a.tmps[d]? = a0.tmps[d]?
  tsize : a.tmps.size = a0.tmps.size
  defers : a.defers = a0.defers
  world : W w

variable {m : Nat} {sl : Nat → Nat} {R : Nat → Value → World → Prop} {a a0 : Act} {W : World → Prop} {listed : Array Bool} {w w' : World}

theorem RInv.start (h : W w) : RInv ops m sl R a W (Array.replicate ops.size false) a w :=
  ⟨closed_none _, by simp, fun i _ hi => by
    exfalso
    simp only [Array.getD_eq_getD_getElem?, Array.getElem?_replicate] at hi
    split at hi <;> simp at hi, fun _ _ => rfl, rfl, rfl, h⟩
theorem RInv.put {i d : Nat} {v : Value} (h : RInv ops m sl R a0 W listed a w) (hi : i ∈ Region.ready .any ops listed) (hm : i < m) (hd : d = sl i) (hlo : d < a0.tmps.size)
    (hinj : ∀ j, j < m → sl j = d → j = i) (hv : R i v w') (hR : ∀ j u, R j u w → R j u w') (hW : W w') : RInv ops m sl R a0 W (listed.setIfInBounds i true) (a.put (some d) v) w' := by
  subst hd
  have hp : (a.put (some (sl i)) v).tmps = a.tmps.setIfInBounds (sl i) v := rfl
  have hts := h.tsize
  refine ⟨h.closed.set hi, by simpa using h.size, fun j hj hl => ?_, fun e he => ?_, by rw [hp]; simpa using hts, h.defers, hW⟩
  · rw [hp]
    by_cases hji : j = i
    · subst hji
      exact ⟨v, by rw [Array.getElem?_setIfInBounds_self_of_lt (by omega)], hv⟩
    · rw [Array.getElem?_setIfInBounds_ne (fun e => hji (hinj j hj e.symm))]
      rcases getD_set_cases hl with h2 | h2
      · exact absurd h2 hji
      · obtain ⟨u, h3, h4⟩ := h.slots j hj h2
        exact ⟨u, h3, hR j u h4⟩
  · rw [hp, Array.getElem?_setIfInBounds_ne (he i hm)]
    exact h.rest e he
theorem RInv.at {i j : Nat} (h : RInv ops m sl R a0 W listed a w) (hj : j ∈ Region.ready .any ops listed) (hw : Region.waitsFor .any ops j i = true) (hm : i < m) :
    ∃ v, a.tmps[sl i]? = some v ∧ R i v w := h.slots i hm (ready_waits hj hw)

/-- A frame with some slots laid anew. -/
def putL : List (Nat × Value) → Array Value → Array Value
  | [], t => t
  | p :: ps, t => putL ps (t.setIfInBounds p.1 p.2)
theorem putL_eq : ∀ (L : List (Nat × Value)) (t T : Array Value), T.size = t.size → (∀ p, p ∈ L → T[p.1]? = some p.2) → (∀ d, (∀ p, p ∈ L → p.1 ≠ d) → T[d]? = t[d]?) → T = putL L t
  | [], t, T, _, _, h => Array.ext_getElem? fun d => h d (fun _ hp => by cases hp)
  | p :: ps, t, T, hs, h1, h2 => by
    refine putL_eq ps _ T (by simpa using hs) (fun q hq => h1 q (List.mem_cons_of_mem _ hq)) (fun d hd => ?_)
    have hp := h1 p List.mem_cons_self
    by_cases hpd : p.1 = d
    · subst hpd
      have hlt : p.1 < T.size := (Array.getElem?_eq_some_iff.1 hp).1
      rw [hp, Array.getElem?_setIfInBounds_self_of_lt (by omega)]
    · rw [Array.getElem?_setIfInBounds_ne hpd]
      exact h2 d (fun q hq => by
        rcases List.mem_cons.1 hq with rfl | hq
        · exact hpd
        · exact hd q hq)
theorem RInv.fin (h : RInv ops m sl R a0 W listed a w) (L : List (Nat × Value)) (h1 : ∀ p, p ∈ L → a.tmps[p.1]? = some p.2) (h2 : ∀ d, (∀ p, p ∈ L → p.1 ≠ d) → ∀ i, i < m → sl i ≠ d) : a = ⟨putL L a0.tmps, a0.defers⟩ := by
  have ht := putL_eq L a0.tmps a.tmps h.tsize h1 (fun d hd => h.rest d (h2 d hd))
  have hd := h.defers
  cases a
  simp only at ht hd
  rw [ht, hd]

/-- Each operation but the last is waited for by a later one. -/
def lastB (ops : Array Oper) (m : Nat) : Bool := (List.range m).all fun j => (List.range (m + 1)).any fun k => decide (j < k) && Region.waitsFor .any ops k j
theorem last_all (hl : lastB ops m = true) (hc : Closed .any ops listed) (hr : m ∈ Region.ready .any ops listed) : ∀ n j, n + j = m → 0 < n → listed.getD j false = true := by
  intro n
  induction n using Nat.strongRecOn with
  | _ n ih =>
    intro j hj hn
    have h1 := List.all_eq_true.1 hl j (List.mem_range.2 (by omega))
    obtain ⟨k, hk, h2⟩ := List.any_eq_true.1 h1
    have hk := List.mem_range.1 hk
    rw [Bool.and_eq_true, decide_eq_true_iff] at h2
    by_cases hkm : k = m
    · subst hkm; exact ready_waits hr h2.2
    · exact hc k j (ih (m - k) (by omega) k (by omega) (by omega)) h2.2
theorem getD_set_ne {listed : Array Bool} {i j : Nat} (h : j ≠ i) : (listed.setIfInBounds i true).getD j false = listed.getD j false := by
  simp only [Array.getD_eq_getD_getElem?]
  rw [Array.getElem?_setIfInBounds_ne (Ne.symm h)]
theorem getD_set_eq {listed : Array Bool} {i : Nat} (h : i < listed.size) : (listed.setIfInBounds i true).getD i false = true := by
  simp only [Array.getD_eq_getD_getElem?]
  rw [Array.getElem?_setIfInBounds_self_of_lt h]
  rfl
end

/-- What a slot holds: a value; a new row with these cells; a pointer to a new block with these cells. -/
inductive Slot where
  | val (v : Value)
  | row (cs : List Value)
  | ptr (cs : List Value)
def Slot.Ok (b : Nat) (v : Value) (W : World) : Slot → Prop
  | .val u => v = u
  | .row cs => ∃ g, v = .slice (some ⟨g, 0, none⟩) cs.length cs.length ∧ b ≤ g ∧ g < W.heap.size ∧ ∀ i x, cs[i]? = some x → W.cell? ⟨g, i, none⟩ = some x
  | .ptr cs => ∃ g, v = .pointer (some ⟨g, 0, none⟩) ∧ b ≤ g ∧ g < W.heap.size ∧ (∀ i x, cs[i]? = some x → W.cell? ⟨g, i, none⟩ = some x) ∧ (∀ i x, cs[i]? = some x → W.frozen? ⟨g, i, none⟩ = false)
theorem Slot.Ok.mono {b : Nat} {v : Value} {W W' : World} {s : Slot} (h : s.Ok b v W) (hb : Below W.heap.size W W') : s.Ok b v W' := by
  cases s with
  | val u => exact h
  | row cs =>
    obtain ⟨g, h1, h2, h3, h4⟩ := h
    exact ⟨g, h1, h2, Nat.lt_of_lt_of_le h3 hb.size, fun i x hx => (hb.cell (p := ⟨g, i, none⟩) h3).trans (h4 i x hx)⟩
  | ptr cs =>
    obtain ⟨g, h1, h2, h3, h4, h5⟩ := h
    exact ⟨g, h1, h2, Nat.lt_of_lt_of_le h3 hb.size, fun i x hx => (hb.cell (p := ⟨g, i, none⟩) h3).trans (h4 i x hx), fun i x hx => (hb.frozen (p := ⟨g, i, none⟩) h3).trans (h5 i x hx)⟩
/-- The slots of a list. -/
def SlR (b : Nat) (L : List Slot) (i : Nat) (v : Value) (W : World) : Prop := (L.getD i (.val undef)).Ok b v W
theorem SlR.mono {b : Nat} {L : List Slot} {W W' : World} (hb : Below W.heap.size W W') (i : Nat) (v : Value) (h : SlR b L i v W) : SlR b L i v W' := Slot.Ok.mono h hb

end Go.Gb
/- A region that draws its order: its first operations lay slots of which relations hold, in any order; its last ones come up one behind the other. No program is mentioned. -/
namespace Go.Gb
open Go Go.RowKit

section
variable {P : Program} {ops : Array Oper} {Q : Exit → Act → World → Prop}
variable {m : Nat} {sl : Nat → Nat} {R : Nat → Value → World → Prop} {a a0 : Act} {W : World → Prop} {listed : Array Bool} {w w' : World}

/-- The last t operations, from k on, one behind the other. -/
def tailWp (P : Program) (ops : Array Oper) (Q : Exit → Act → World → Prop) : Nat → Nat → Act → World → Prop
  | 0, _, a, w => Q .normal a w
  | t + 1, k, a, w => wpOp P ops Q k (fun a' w' => tailWp P ops Q t (k + 1) a' w') a w
theorem tail_succ {t k : Nat} (h : wpOp P ops Q k (fun a' w' => tailWp P ops Q t (k + 1) a' w') a w) : tailWp P ops Q (t + 1) k a w := h
theorem tail_nil {k : Nat} (h : Q .normal a w) : tailWp P ops Q 0 k a w := h
def tailB (ops : Array Oper) (m t : Nat) : Bool := (List.range t).all fun i => lastB ops (m + i)

theorem tail_all {m t k : Nat} (ht : tailB ops m t = true) (hk : m ≤ k) (hkt : k < m + t) (hc : Closed .any ops listed) (hr : k ∈ Region.ready .any ops listed) : ∀ j, j < k → listed.getD j false = true := by
  have h1 := List.all_eq_true.1 ht (k - m) (List.mem_range.2 (by omega))
  rw [show m + (k - m) = k by omega] at h1
  intro j hj
  exact last_all h1 hc hr (k - j) j (by omega) (by omega)

theorem wp_region_tail {id : Nat} {a : Act} {w : World} (hm : P.follows .mixedOrders = true) (m t : Nat) (sl : Nat → Nat) (R : Nat → Value → World → Prop) (W : World → Prop) (hs : ops.size = m + t) (hb : backB .any ops = true) (ht : tailB ops m t = true)
    (hstart : W w.drew)
    (hstep : ∀ listed a' w i, RInv ops m sl R a W listed a' w → i ∈ Region.ready .any ops listed → i < m → wpOp P ops Q i (fun a' w' => RInv ops m sl R a W (listed.setIfInBounds i true) a' w') a' w)
    (hlast : ∀ listed a' w, RInv ops m sl R a W listed a' w → (∀ j, j < m → listed.getD j false = true) → tailWp P ops Q t m a' w) : (Code.region id ops true).wp P Q a w := by
  refine wp_region_inv hm (fun listed a' w => ((∀ j, m ≤ j → listed.getD j false = false) ∧ RInv ops m sl R a W listed a' w) ∨ (∃ k, k ≤ t ∧ listed.size = ops.size ∧ Closed .any ops listed ∧ (∀ j, j < m + k → listed.getD j false = true) ∧ (∀ j, m + k ≤ j → listed.getD j false = false) ∧ tailWp P ops Q (t - k) (m + k) a' w)) (Or.inl ⟨?_, RInv.start hstart⟩) ?_ ?_
  · intro j _
    simp only [Array.getD_eq_getD_getElem?, Array.getElem?_replicate]
    split <;> rfl
  · rintro listed a' w i (⟨h1, h2⟩ | ⟨k, hk, hsz, hc, h1, h2, h3⟩) hi
    · have hlt := ready_lt hi
      by_cases him : i < m
      · refine wpOp_mono (fun a2 w2 h => Or.inl ⟨fun j hj => ?_, h⟩) (hstep listed a' w i h2 hi him)
        rw [getD_set_ne (by omega)]; exact h1 j hj
      · have hall := tail_all ht (by omega) (by omega) h2.closed hi
        have hie : i = m := by
          rcases Nat.lt_or_ge m i with h | h
          · have := hall m h; rw [h1 m (Nat.le_refl _)] at this; cases this
          · omega
        subst hie
        obtain ⟨t', rfl⟩ : ∃ t', t = t' + 1 := ⟨t - 1, by omega⟩
        have hz := h2.size
        refine wpOp_mono (fun a2 w2 h => Or.inr ⟨1, by omega, by simpa using hz, h2.closed.set hi, fun j hj => ?_, fun j hj => ?_, by simpa using h⟩) (hlast listed a' w h2 hall)
        · by_cases hji : j = i
          · subst hji; exact getD_set_eq (by omega)
          · rw [getD_set_ne hji]; exact hall j (by omega)
        · rw [getD_set_ne (by omega)]; exact h1 j (by omega)
    · have hlt := ready_lt hi
      have hun := ready_un' hi
      have hge : m + k ≤ i := by
        rcases Nat.lt_or_ge i (m + k) with h | h
        · rw [h1 i h] at hun; cases hun
        · exact h
      have hall := tail_all ht (by omega) (by omega) hc hi
      have hie : i = m + k := by
        rcases Nat.lt_or_ge (m + k) i with h | h
        · have := hall _ h; rw [h2 _ (Nat.le_refl _)] at this; cases this
        · omega
      subst hie
      obtain ⟨t', ht'⟩ : ∃ t', t - k = t' + 1 := ⟨t - k - 1, by omega⟩
      rw [ht'] at h3
      refine wpOp_mono (fun a2 w2 h => Or.inr ⟨k + 1, by omega, by simpa using hsz, hc.set hi, fun j hj => ?_, fun j hj => ?_, by rw [show t - (k + 1) = t' by omega]; exact h⟩) h3
      · by_cases hji : j = m + k
        · subst hji; exact getD_set_eq (by omega)
        · rw [getD_set_ne hji]; exact hall j (by omega)
      · rw [getD_set_ne (by omega)]; exact h2 j (by omega)
  · rintro listed a' w (⟨h1, h2⟩ | ⟨k, hk, hsz, hc, h1, h2, h3⟩) hr
    · have hall := all_listed h2.size hb hr
      have ht0 : t = 0 := by
        rcases Nat.eq_zero_or_pos t with h | h
        · exact h
        · have := hall m (by omega); rw [h1 m (Nat.le_refl _)] at this; cases this
      subst ht0
      exact hlast listed a' w h2 (fun j hj => hall j (by omega))
    · have hall := all_listed hsz hb hr
      have hkt : k = t := by
        rcases Nat.lt_or_ge k t with h | h
        · have := hall (m + k) (by omega); rw [h2 _ (Nat.le_refl _)] at this; cases this
        · omega
      subst hkt
      rw [Nat.sub_self] at h3
      exact h3
end

section
variable {P : Program} {ops : Array Oper} {Q : Exit → Act → World → Prop}
variable {m : Nat} {sl : Nat → Nat} {R : Nat → Value → World → Prop} {a a0 : Act} {W : World → Prop} {listed : Array Bool} {w w' : World}

/-- The slots of two operations differ, once both have come up. -/
def Dst (i j : Nat) (sl : Nat → Nat) (listed : Array Bool) (a : Act) : Prop := listed.getD i false = true → listed.getD j false = true → a.tmps[sl i]? ≠ a.tmps[sl j]?
theorem Dst.start {i j n : Nat} {sl : Nat → Nat} {a : Act} : Dst i j sl (Array.replicate n false) a := by
  intro h
  exfalso
  simp only [Array.getD_eq_getD_getElem?, Array.getElem?_replicate] at h
  split at h <;> simp at h
theorem put_same {a : Act} {d : Nat} {v : Value} (h : d < a.tmps.size) : (a.put (some d) v).tmps[d]? = some v := by
  show (a.tmps.setIfInBounds d v)[d]? = some v
  rw [Array.getElem?_setIfInBounds_self_of_lt h]
theorem put_ne {a : Act} {d e : Nat} {v : Value} (h : d ≠ e) : (a.put (some d) v).tmps[e]? = a.tmps[e]? := by
  show (a.tmps.setIfInBounds d v)[e]? = a.tmps[e]?
  rw [Array.getElem?_setIfInBounds_ne h]
theorem RInv.fin_put {sd : Nat} {v : Value} (h : RInv ops m sl R a0 W listed a w) (L : List (Nat × Value)) (h1 : ∀ p, p ∈ L → (a.put (some sd) v).tmps[p.1]? = some p.2) (h2 : ∀ e, (∀ p, p ∈ L → p.1 ≠ e) → (∀ i, i < m → sl i ≠ e) ∧ sd ≠ e) : a.put (some sd) v = ⟨putL L a0.tmps, a0.defers⟩ := by
  have hsz : (a.put (some sd) v).tmps.size = a0.tmps.size := by
    show (a.tmps.setIfInBounds sd v).size = _
    rw [Array.size_setIfInBounds, h.tsize]
  have ht := putL_eq L a0.tmps (a.put (some sd) v).tmps hsz h1 (fun e he => by
    rw [put_ne (h2 e he).2]
    exact h.rest e (h2 e he).1)
  have hd : (a.put (some sd) v).defers = a0.defers := h.defers
  have e : a.put (some sd) v = ⟨(a.put (some sd) v).tmps, (a.put (some sd) v).defers⟩ := rfl
  rw [e, ht, hd]
theorem Dst.put {i j k d : Nat} {v : Value} (h : Dst i j sl listed a) (hi : k ≠ i) (hj : k ≠ j) (hd : d = sl k) (si : sl k ≠ sl i) (sj : sl k ≠ sl j) : Dst i j sl (listed.setIfInBounds k true) (a.put (some d) v) := by
  subst hd
  intro h1 h2
  rw [getD_set_ne (Ne.symm hi)] at h1
  rw [getD_set_ne (Ne.symm hj)] at h2
  show (a.tmps.setIfInBounds (sl k) v)[sl i]? ≠ (a.tmps.setIfInBounds (sl k) v)[sl j]?
  rw [Array.getElem?_setIfInBounds_ne si, Array.getElem?_setIfInBounds_ne sj]
  exact h h1 h2
theorem Dst.left {i j d : Nat} {v : Value} (hij : j ≠ i) (hd : d = sl i) (sj : sl i ≠ sl j) (hlt : d < a.tmps.size) (h : listed.getD j false = true → a.tmps[sl j]? ≠ some v) : Dst i j sl (listed.setIfInBounds i true) (a.put (some d) v) := by
  subst hd
  intro _ h2
  rw [getD_set_ne hij] at h2
  show (a.tmps.setIfInBounds (sl i) v)[sl i]? ≠ (a.tmps.setIfInBounds (sl i) v)[sl j]?
  rw [Array.getElem?_setIfInBounds_ne sj, Array.getElem?_setIfInBounds_self_of_lt hlt]
  exact Ne.symm (h h2)
theorem Dst.right {i j d : Nat} {v : Value} (hij : i ≠ j) (hd : d = sl j) (sj : sl j ≠ sl i) (hlt : d < a.tmps.size) (h : listed.getD i false = true → a.tmps[sl i]? ≠ some v) : Dst i j sl (listed.setIfInBounds j true) (a.put (some d) v) := by
  subst hd
  intro h1 _
  rw [getD_set_ne hij] at h1
  show (a.tmps.setIfInBounds (sl j) v)[sl i]? ≠ (a.tmps.setIfInBounds (sl j) v)[sl j]?
  rw [Array.getElem?_setIfInBounds_ne sj, Array.getElem?_setIfInBounds_self_of_lt hlt]
  exact h h1
/-- A new block's pointer is none that was known before. -/
theorem RInv.fresh {i b : Nat} {o : Obj} (h : RInv ops m sl R a0 W listed a w) (hi : i < m) (hR : ∀ v w, R i v w → ∃ g, v = .pointer (some ⟨g, 0, none⟩) ∧ b ≤ g ∧ w.heap[g]? = some o) : listed.getD i false = true → a.tmps[sl i]? ≠ some (.pointer (some ⟨w.heap.size, 0, none⟩)) := by
  intro hl e
  obtain ⟨v, h1, h2⟩ := h.slots i hi hl
  obtain ⟨g, rfl, _, h3⟩ := hR v w h2
  rw [h1] at e
  have hg := (Array.getElem?_eq_some_iff.1 h3).1
  injection e with e
  injection e with e
  injection e with e
  injection e with e
  omega

theorem wp_region_tail_d {id : Nat} {a : Act} {w : World} (hm : P.follows .mixedOrders = true) (m t : Nat) (sl : Nat → Nat) (R : Nat → Value → World → Prop) (W : World → Prop) (D : Array Bool → Act → Prop) (hs : ops.size = m + t) (hb : backB .any ops = true) (ht : tailB ops m t = true)
    (hD : D (Array.replicate ops.size false) a) (hstart : W w.drew)
    (hstep : ∀ listed a' w k, RInv ops m sl R a W listed a' w → D listed a' → k ∈ Region.ready .any ops listed → k < m → wpOp P ops Q k (fun a' w' => RInv ops m sl R a W (listed.setIfInBounds k true) a' w' ∧ D (listed.setIfInBounds k true) a') a' w)
    (hlast : ∀ listed a' w, RInv ops m sl R a W listed a' w → D listed a' → (∀ j, j < m → listed.getD j false = true) → tailWp P ops Q t m a' w) : (Code.region id ops true).wp P Q a w := by
  refine wp_region_inv hm (fun listed a' w => ((∀ j, m ≤ j → listed.getD j false = false) ∧ RInv ops m sl R a W listed a' w ∧ D listed a') ∨ (∃ k, k ≤ t ∧ listed.size = ops.size ∧ Closed .any ops listed ∧ (∀ j, j < m + k → listed.getD j false = true) ∧ (∀ j, m + k ≤ j → listed.getD j false = false) ∧ tailWp P ops Q (t - k) (m + k) a' w)) (Or.inl ⟨?_, RInv.start hstart, hD⟩) ?_ ?_
  · intro j _
    simp only [Array.getD_eq_getD_getElem?, Array.getElem?_replicate]
    split <;> rfl
  · rintro listed a' w i (⟨h1, h2, h0⟩ | ⟨k, hk, hsz, hc, h1, h2, h3⟩) hi
    · have hlt := ready_lt hi
      by_cases him : i < m
      · refine wpOp_mono (fun a2 w2 h => Or.inl ⟨fun j hj => ?_, h⟩) (hstep listed a' w i h2 h0 hi him)
        rw [getD_set_ne (by omega)]; exact h1 j hj
      · have hall := tail_all ht (by omega) (by omega) h2.closed hi
        have hie : i = m := by
          rcases Nat.lt_or_ge m i with h | h
          · have := hall m h; rw [h1 m (Nat.le_refl _)] at this; cases this
          · omega
        subst hie
        obtain ⟨t', rfl⟩ : ∃ t', t = t' + 1 := ⟨t - 1, by omega⟩
        have hz := h2.size
        refine wpOp_mono (fun a2 w2 h => Or.inr ⟨1, by omega, by simpa using hz, h2.closed.set hi, fun j hj => ?_, fun j hj => ?_, by simpa using h⟩) (hlast listed a' w h2 h0 hall)
        · by_cases hji : j = i
          · subst hji; exact getD_set_eq (by omega)
          · rw [getD_set_ne hji]; exact hall j (by omega)
        · rw [getD_set_ne (by omega)]; exact h1 j (by omega)
    · have hlt := ready_lt hi
      have hun := ready_un' hi
      have hge : m + k ≤ i := by
        rcases Nat.lt_or_ge i (m + k) with h | h
        · rw [h1 i h] at hun; cases hun
        · exact h
      have hall := tail_all ht (by omega) (by omega) hc hi
      have hie : i = m + k := by
        rcases Nat.lt_or_ge (m + k) i with h | h
        · have := hall _ h; rw [h2 _ (Nat.le_refl _)] at this; cases this
        · omega
      subst hie
      obtain ⟨t', ht'⟩ : ∃ t', t - k = t' + 1 := ⟨t - k - 1, by omega⟩
      rw [ht'] at h3
      refine wpOp_mono (fun a2 w2 h => Or.inr ⟨k + 1, by omega, by simpa using hsz, hc.set hi, fun j hj => ?_, fun j hj => ?_, by rw [show t - (k + 1) = t' by omega]; exact h⟩) h3
      · by_cases hji : j = m + k
        · subst hji; exact getD_set_eq (by omega)
        · rw [getD_set_ne hji]; exact hall j (by omega)
      · rw [getD_set_ne (by omega)]; exact h2 j (by omega)
  · rintro listed a' w (⟨h1, h2, h0⟩ | ⟨k, hk, hsz, hc, h1, h2, h3⟩) hr
    · have hall := all_listed h2.size hb hr
      have ht0 : t = 0 := by
        rcases Nat.eq_zero_or_pos t with h | h
        · exact h
        · have := hall m (by omega); rw [h1 m (Nat.le_refl _)] at this; cases this
      subst ht0
      exact hlast listed a' w h2 h0 (fun j hj => hall j (by omega))
    · have hall := all_listed hsz hb hr
      have hkt : k = t := by
        rcases Nat.lt_or_ge k t with h | h
        · have := hall (m + k) (by omega); rw [h2 _ (Nat.le_refl _)] at this; cases this
        · omega
      subst hkt
      rw [Nat.sub_self] at h3
      exact h3

/-- The first operation of the tail waits for all but operation d. -/
def butB (ops : Array Oper) (m d : Nat) : Bool := (List.range m).all fun j => j == d || (List.range (m + 1)).any fun k => decide (j < k) && (k != d) && Region.waitsFor .any ops k j
theorem but_all {m d : Nat} (hl : butB ops m d = true) (hdm : d < m) (hc : Closed .any ops listed) (hr : m ∈ Region.ready .any ops listed) : ∀ n j, n + j = m → 0 < n → j ≠ d → listed.getD j false = true := by
  intro n
  induction n using Nat.strongRecOn with
  | _ n ih =>
    intro j hj hn hjd
    have h1 := List.all_eq_true.1 hl j (List.mem_range.2 (by omega))
    rw [Bool.or_eq_true] at h1
    rcases h1 with h1 | h1
    · exact absurd (by simpa using h1) hjd
    · obtain ⟨k, hk, h2⟩ := List.any_eq_true.1 h1
      have hk := List.mem_range.1 hk
      rw [Bool.and_eq_true, Bool.and_eq_true, decide_eq_true_iff] at h2
      have hkd : k ≠ d := by simpa using h2.1.2
      by_cases hkm : k = m
      · subst hkm; exact ready_waits hr h2.2
      · exact hc k j (ih (m - k) (by omega) k (by omega) (by omega) hkd) h2.2
/-- Two operations behind the others, of which the first one may come up ahead of operation d. -/
theorem wp_region_swap {id : Nat} {a : Act} {w : World} (hm : P.follows .mixedOrders = true) (m d : Nat) (sl : Nat → Nat) (R : Nat → Value → World → Prop) (W : World → Prop) (D : Array Bool → Act → Prop) (hdm : d < m) (hs : ops.size = m + 2) (hb : backB .any ops = true) (hbut : butB ops m d = true) (hlb : lastB ops (m + 1) = true)
    (hD : D (Array.replicate ops.size false) a) (hstart : W w.drew)
    (hstep : ∀ listed a' w k, RInv ops m sl R a W listed a' w → D listed a' → k ∈ Region.ready .any ops listed → k < m → wpOp P ops Q k (fun a' w' => RInv ops m sl R a W (listed.setIfInBounds k true) a' w' ∧ D (listed.setIfInBounds k true) a') a' w)
    (hlast : ∀ listed a' w, RInv ops m sl R a W listed a' w → D listed a' → (∀ j, j < m → listed.getD j false = true) → tailWp P ops Q 2 m a' w)
    (hswap : ∀ listed a' w, RInv ops m sl R a W listed a' w → D listed a' → (∀ j, j < m → j ≠ d → listed.getD j false = true) → wpOp P ops Q m (fun a' w' => wpOp P ops Q d (fun a' w' => tailWp P ops Q 1 (m + 1) a' w') a' w') a' w) : (Code.region id ops true).wp P Q a w := by
  refine wp_region_inv hm (fun listed a' w => listed.size = ops.size ∧ Closed .any ops listed ∧ (
    ((∀ j, m ≤ j → listed.getD j false = false) ∧ RInv ops m sl R a W listed a' w ∧ D listed a') ∨
    ((∀ j, j < m → j ≠ d → listed.getD j false = true) ∧ listed.getD m false = true ∧ listed.getD d false = false ∧ listed.getD (m + 1) false = false ∧ wpOp P ops Q d (fun a' w' => tailWp P ops Q 1 (m + 1) a' w') a' w) ∨
    ((∀ j, j < m + 1 → listed.getD j false = true) ∧ listed.getD (m + 1) false = false ∧ tailWp P ops Q 1 (m + 1) a' w) ∨
    ((∀ j, j < m + 2 → listed.getD j false = true) ∧ Q .normal a' w))) ⟨by simp, closed_none _, Or.inl ⟨?_, RInv.start hstart, hD⟩⟩ ?_ ?_
  · intro j _
    simp only [Array.getD_eq_getD_getElem?, Array.getElem?_replicate]
    split <;> rfl
  · rintro listed a' w i ⟨hsz, hc, h⟩ hi
    have hlt := ready_lt hi
    have hun := ready_un' hi
    have hsz' : (listed.setIfInBounds i true).size = ops.size := by simpa using hsz
    have hc' := hc.set hi
    have last : i = m + 1 → ∀ j, j < m + 1 → listed.getD j false = true := by
      intro e j hj
      subst e
      exact last_all hlb hc hi (m + 1 - j) j (by omega) (by omega)
    rcases h with ⟨h1, h2, h0⟩ | ⟨h1, h2, h3, h4, h5⟩ | ⟨h1, h2, h3⟩ | ⟨h1, h2⟩
    · by_cases him : i < m
      · refine wpOp_mono (fun a2 w2 h => ⟨hsz', hc', Or.inl ⟨fun j hj => ?_, h⟩⟩) (hstep listed a' w i h2 h0 hi him)
        rw [getD_set_ne (by omega)]; exact h1 j hj
      · have hie : i = m := by
          rcases Nat.lt_or_ge m i with h | h
          · have := last (by omega) m (by omega); rw [h1 m (Nat.le_refl _)] at this; cases this
          · omega
        subst hie
        have hall : ∀ j, j < i → j ≠ d → listed.getD j false = true := fun j hj hjd => but_all hbut hdm hc hi (i - j) j (by omega) (by omega) hjd
        by_cases hd : listed.getD d false = true
        · refine wpOp_mono (fun a2 w2 h => ⟨hsz', hc', Or.inr (Or.inr (Or.inl ⟨fun j hj => ?_, ?_, h⟩))⟩) (hlast listed a' w h2 h0 (fun j hj => by
            by_cases hjd : j = d
            · subst hjd; exact hd
            · exact hall j hj hjd))
          · by_cases hji : j = i
            · subst hji; exact getD_set_eq (by omega)
            · rw [getD_set_ne hji]
              by_cases hjd : j = d
              · subst hjd; exact hd
              · exact hall j (by omega) hjd
          · rw [getD_set_ne (by omega)]; exact h1 _ (by omega)
        · refine wpOp_mono (fun a2 w2 h => ⟨hsz', hc', Or.inr (Or.inl ⟨fun j hj hjd => ?_, getD_set_eq (by omega), ?_, ?_, h⟩)⟩) (hswap listed a' w h2 h0 hall)
          · rw [getD_set_ne (by omega)]; exact hall j hj hjd
          · rw [getD_set_ne (by omega)]; simpa using hd
          · rw [getD_set_ne (by omega)]; exact h1 _ (by omega)
    · have hie : i = d := by
        by_cases e : i = m + 1
        · have := last e d (by omega); rw [h3] at this; cases this
        · by_cases e2 : i = m
          · subst e2; rw [h2] at hun; cases hun
          · by_cases e3 : i = d
            · exact e3
            · rw [h1 i (by omega) e3] at hun; cases hun
      subst hie
      refine wpOp_mono (fun a2 w2 h => ⟨hsz', hc', Or.inr (Or.inr (Or.inl ⟨fun j hj => ?_, ?_, h⟩))⟩) h5
      · by_cases hji : j = i
        · subst hji; exact getD_set_eq (by omega)
        · rw [getD_set_ne hji]
          by_cases hjm : j = m
          · subst hjm; exact h2
          · exact h1 j (by omega) hji
      · rw [getD_set_ne (by omega)]; exact h4
    · have hie : i = m + 1 := by
        rcases Nat.lt_or_ge i (m + 1) with h | h
        · rw [h1 i h] at hun; cases hun
        · omega
      subst hie
      refine wpOp_mono (fun a2 w2 h => ⟨hsz', hc', Or.inr (Or.inr (Or.inr ⟨fun j hj => ?_, h⟩))⟩) h3
      by_cases hji : j = m + 1
      · subst hji; exact getD_set_eq (by omega)
      · rw [getD_set_ne hji]; exact h1 j (by omega)
    · rw [h1 i (by omega)] at hun; cases hun
  · rintro listed a' w ⟨hsz, hc, h⟩ hr
    have hall := all_listed hsz hb hr
    rcases h with ⟨h1, h2, h0⟩ | ⟨h1, h2, h3, h4, h5⟩ | ⟨h1, h2, h3⟩ | ⟨h1, h2⟩
    · have := hall m (by omega); rw [h1 m (Nat.le_refl _)] at this; cases this
    · have := hall d (by omega); rw [h3] at this; cases this
    · have := hall (m + 1) (by omega); rw [h2] at this; cases this
    · exact h2

/-- A region by what it leaves. -/
theorem wp_region_post {id : Nat} {ops : Array Oper} {b : Bool} {Q : Exit → Act → World → Prop} {a : Act} {w : World} (F : Act → Act → World → Prop) (h1 : (Code.region id ops b).wp P (fun e a' w' => e = .normal ∧ F a a' w') a w) (h2 : ∀ a' w', F a a' w' → Q .normal a' w') : (Code.region id ops b).wp P Q a w :=
  Code.wp_mono (fun e a' w' ⟨he, h⟩ => by subst he; exact h2 a' w' h) h1
end

theorem ix {α : Type} {L : List α} {p : α} (i : Nat) (h : L[i]? = some p) : p ∈ L := List.mem_of_getElem? h

/-- A relation between a value and the world that growth keeps. -/
structure Rel where
  R : Value → World → Prop
  mono : ∀ v W W', R v W → Below W.heap.size W W' → R v W'
def Rel.val (u : Value) : Rel := ⟨fun v _ => v = u, fun _ _ _ h _ => h⟩
/-- A pointer to a new block that holds a value of a type. -/
def Rel.ptr (b : Nat) (o : Obj) : Rel := ⟨fun v W => ∃ g, v = .pointer (some ⟨g, 0, none⟩) ∧ b ≤ g ∧ W.heap[g]? = some o, fun _ W W' ⟨g, e, h, k⟩ hb => ⟨g, e, h, by rw [hb.block g (Array.getElem?_eq_some_iff.1 k).1]; exact k⟩⟩
def RelR (L : List Rel) (i : Nat) (v : Value) (W : World) : Prop := (L.getD i (Rel.val undef)).R v W
theorem RelR.mono {L : List Rel} {W W' : World} (hb : Below W.heap.size W W') (i : Nat) (v : Value) (h : RelR L i v W) : RelR L i v W' := (L.getD i (Rel.val undef)).mono v W W' h hb

end Go.Gb
/- Blocks of structs: what a block of cells holds, and stores into it. No program is mentioned. -/
namespace Go.Gb
open Go Go.RowKit

/-- Block g of the world holds these cells. -/
def SBk (w : World) (g : Nat) (cs : Array Value) (T : TypeId) : Prop := w.heap[g]? = some (.cells cs T (0, 0))
theorem SBk.lt {w : World} {g : Nat} {cs : Array Value} {T : TypeId} (h : SBk w g cs T) : g < w.heap.size := (Array.getElem?_eq_some_iff.1 h).1
theorem SBk.cell {w : World} {g i : Nat} {cs : Array Value} {T : TypeId} {v : Value} (h : SBk w g cs T) (hi : cs[i]? = some v) : w.cell? ⟨g, i, none⟩ = some v := by
  unfold SBk at h; simp [World.cell?, h, hi]
theorem SBk.frozen {w : World} {g i : Nat} {cs : Array Value} {T : TypeId} (h : SBk w g cs T) : w.frozen? ⟨g, i, none⟩ = false := by
  unfold SBk at h; simp [World.frozen?, h]
theorem SBk.below {w w' : World} {g : Nat} {cs : Array Value} {T : TypeId} (h : SBk w g cs T) (hb : Below w.heap.size w w') : SBk w' g cs T := by
  unfold SBk; rw [hb.block g h.lt]; exact h
theorem SBk.drew {w : World} {g : Nat} {cs : Array Value} {T : TypeId} (h : SBk w g cs T) : SBk w.drew g cs T := h
theorem SBk.new (w : World) (cs : Array Value) (T : TypeId) : SBk (w.alloc (.cells cs T)) w.heap.size cs T := heap_alloc_new _ _
theorem SBk.alloc {w : World} {g : Nat} {cs : Array Value} {T : TypeId} (h : SBk w g cs T) (o : Obj) : SBk (w.alloc o) g cs T := h.below ((Below.refl _ _).alloc (Nat.le_refl _) o)
theorem SBk.set {w : World} {g i : Nat} {cs : Array Value} {T : TypeId} (h : SBk w g cs T) (v : Value) : SBk (w.setCell ⟨g, i, none⟩ v) g (cs.setIfInBounds i v) T := by
  unfold SBk at *
  simp only [World.setCell, Array.getElem?_modify, h]
  simp
theorem SBk.off {w : World} {g g' i : Nat} {cs : Array Value} {T : TypeId} (h : SBk w g cs T) (hg : g ≠ g') (v : Value) : SBk (w.setCell ⟨g', i, none⟩ v) g cs T := by
  unfold SBk at *
  rw [← h]
  exact Below.heap_setCell w ⟨g', i, none⟩ v g hg

/-- No cell is a number. -/
def noInt (cs : Array Value) : Bool := cs.all fun v => match v with | .int _ _ => false | _ => true
theorem noInt_get {cs : Array Value} (h : noInt cs = true) {i : Nat} {k : IntKind} {n : Int} : cs[i]? ≠ some (.int k n) := by
  intro e
  have := Array.all_eq_true'.1 h _ (Array.mem_of_getElem? e)
  simp at this
/-- A store into a struct's block does not touch words. -/
theorem Rd.set {w : World} {v : Value} {xs : List Nat} {k : IntKind} {g : Nat} {cs : Array Value} {T : TypeId} (h : Rd k w v xs) (hg : SBk w g cs T) (hn : noInt cs = true) (i : Nat) (u : Value) : Rd k (w.setCell ⟨g, i, none⟩ u) v xs := by
  rcases h with h | ⟨b', o, c', h1, h2, h3, h4, h5⟩
  · exact Or.inl h
  · refine Or.inr ⟨b', o, c', h1, h2, h3, by simpa [World.setCell] using h4, fun j hj => ?_⟩
    have h6 := h5 j hj
    have hne : b' ≠ g := by
      intro e
      subst e
      unfold SBk at hg
      simp only [World.cell?, hg] at h6
      exact noInt_get hn (by simpa using h6)
    exact (wc_ne hne).trans h6

/-- A goal over a world by what is known of the world. -/
theorem wp_world {P : Program} {c : Code} {Q : Exit → Act → World → Prop} {a : Act} {w : World} (I : World → Prop) (h : I w) (k : ∀ W, I W → c.wp P Q a W) : c.wp P Q a w := k w h

/-- A world in which a call has laid its first blocks. -/
def Bx (w : World) : List (Array Value × TypeId) → World → Prop
  | [], W => W = w
  | (cs, T) :: l, W => Bx (w.alloc (.cells cs T)) l W
def BxI (w : World) (n : Nat) : List (Array Value × TypeId) → World → Prop
  | [], W => Below w.heap.size w W
  | (cs, T) :: l, W => SBk W n cs T ∧ BxI w (n + 1) l W
theorem boxes_gen (w0 : World) : ∀ (l : List (Array Value × TypeId)) (w W : World) (n : Nat), w.heap.size = n → Below w0.heap.size w0 w → Bx w l W → Below w.heap.size w W ∧ BxI w0 n l W
  | [], w, W, n, hn, hb, h => by
    obtain rfl : W = w := h
    exact ⟨Below.refl _ _, hb⟩
  | (cs, T) :: l, w, W, n, hn, hb, h => by
    have h1 := boxes_gen w0 l (w.alloc (.cells cs T)) W (n + 1) (by simp [hn]) (hb.alloc hb.size _) h
    have h2 : Below w.heap.size w W := ((Below.refl w.heap.size w).alloc (Nat.le_refl _) (.cells cs T)).trans (h1.1.mono (by simp))
    refine ⟨h2, ?_, h1.2⟩
    subst hn
    exact (SBk.new w cs T).below h1.1
theorem boxes (w : World) (l : List (Array Value × TypeId)) (W : World) (h : Bx w l W) : BxI w w.heap.size l W := (boxes_gen w l w W _ rfl (Below.refl _ _) h).2
theorem wp_boxes {P : Program} {c : Code} {Q : Exit → Act → World → Prop} {a : Act} {W : World} (w : World) (l : List (Array Value × TypeId)) (h : Bx w l W) (k : ∀ W, BxI w w.heap.size l W → c.wp P Q a W) : c.wp P Q a W := k W (boxes w l W h)

theorem noInt_z (b : Bool) (p : Option Addr) (n c : Nat) : noInt #[.bool b, .slice p n c] = true := by simp [noInt]
theorem put2_off {w : World} {g g' : Nat} {cs : Array Value} {T : TypeId} (h : SBk w g cs T) (hg : g ≠ g') (x y : Value) : SBk ((w.setCell ⟨g', 0, none⟩ x).setCell ⟨g', 1, none⟩ y) g cs T := (h.off hg x).off hg y
theorem put2_below {B g : Nat} {a w : World} (h : Below B a w) (hg : B ≤ g) (x y : Value) : Below B a ((w.setCell ⟨g, 0, none⟩ x).setCell ⟨g, 1, none⟩ y) := (h.setCell (p := ⟨g, 0, none⟩) hg x).setCell (p := ⟨g, 1, none⟩) hg y
theorem put2_rd {w : World} {v : Value} {xs : List Nat} {k : IntKind} {g : Nat} {a b : Value} {T : TypeId} (h : Rd k w v xs) (hg : SBk w g #[a, b] T) (hn : noInt #[a, b] = true) (x y : Value) (hx : noInt #[x, b] = true) : Rd k ((w.setCell ⟨g, 0, none⟩ x).setCell ⟨g, 1, none⟩ y) v xs := by
  have h1 : SBk (w.setCell ⟨g, 0, none⟩ x) g #[x, b] T := hg.set x
  exact (h.set hg hn 0 x).set h1 hx 1 y

/-- A value stored whole into a block, cell by cell. -/
def storeAll (w : World) (g : Nat) : Nat → List Value → World
  | _, [] => w
  | i, x :: l => storeAll (w.setCell ⟨g, i, none⟩ x) g (i + 1) l
def setAll (cs : Array Value) : Nat → List Value → Array Value
  | _, [] => cs
  | i, x :: l => setAll (cs.setIfInBounds i x) (i + 1) l
def plainV : Value → Bool
  | .int _ _ => false
  | _ => true
theorem noInt_set {cs : Array Value} (h : noInt cs = true) {x : Value} (hx : plainV x = true) (i : Nat) : noInt (cs.setIfInBounds i x) = true := by
  unfold noInt at *
  refine Array.all_eq_true'.2 fun y hy => ?_
  rcases Array.mem_or_eq_of_mem_setIfInBounds hy with hy | rfl
  · exact Array.all_eq_true'.1 h y hy
  · cases y <;> first | rfl | cases hx
theorem store_rd {k : IntKind} {v : Value} {xs : List Nat} {g : Nat} {T : TypeId} : ∀ (l : List Value) (i : Nat) {w : World} {cs : Array Value}, Rd k w v xs → SBk w g cs T → noInt cs = true → l.all plainV = true → Rd k (storeAll w g i l) v xs
  | [], _, _, _, h, _, _, _ => h
  | x :: l, i, _, _, h, hg, hn, hl => by
    rw [List.all_cons, Bool.and_eq_true] at hl
    exact store_rd l (i + 1) (h.set hg hn i x) (hg.set x) (noInt_set hn hl.1 i) hl.2
theorem store_blk {g : Nat} {T : TypeId} : ∀ (l : List Value) (i : Nat) {w : World} {cs : Array Value}, SBk w g cs T → SBk (storeAll w g i l) g (setAll cs i l) T
  | [], _, _, _, h => h
  | x :: l, i, _, _, h => store_blk l (i + 1) (h.set x)
theorem store_off {g g' : Nat} {cs : Array Value} {T : TypeId} (hg : g ≠ g') : ∀ (l : List Value) (i : Nat) {w : World}, SBk w g cs T → SBk (storeAll w g' i l) g cs T
  | [], _, _, h => h
  | x :: l, i, _, h => store_off hg l (i + 1) (h.off hg x)
theorem store_below {B g : Nat} {a : World} (hg : B ≤ g) : ∀ (l : List Value) (i : Nat) {w : World}, Below B a w → Below B a (storeAll w g i l)
  | [], _, _, h => h
  | x :: l, i, _, h => store_below hg l (i + 1) (h.setCell (p := ⟨g, i, none⟩) hg x)

end Go.Gb
