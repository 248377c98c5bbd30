/- words.Read: walks. -/
import Derived.Test.YtpdchplppkfdhaaDoorWc
namespace Go.Proofs.YtpdchplppkfdhaaDoor
open Go.RowKit Go.Gb

def ReadInv (l : List UInt8) (os : List Nat) (e : Nat) : Prop := (∀ x ∈ os, x < BB) ∧ wval os + BB ^ os.length * dval (l.take e) = dval l
theorem ReadInv.start (l : List UInt8) : ReadInv l [] l.length := ⟨by simp, by rw [List.take_of_length_le (Nat.le_refl _)]; simp [wval]⟩
theorem ReadInv.step {l : List UInt8} {os : List Nat} {e a : Nat} (h : ReadInv l os e) (hl : l.all isD = true) (he : e ≤ l.length) (hea : a ≤ e) (h9 : e - a = 9 ∨ (a = 0 ∧ e - a ≤ 9)) :
    ReadInv l (os ++ [dval ((l.drop a).take (e - a))]) a ∧ dval ((l.drop a).take (e - a)) < BB := by
  obtain ⟨h1, h2⟩ := h
  have e1 : l.take e = l.take a ++ (l.drop a).take (e - a) := by
    rw [show l.take e = l.take (a + (e - a)) by rw [show a + (e - a) = e by omega], List.take_add]
  have hlen : ((l.drop a).take (e - a)).length = e - a := by rw [List.length_take, List.length_drop]; omega
  have hall : ((l.drop a).take (e - a)).all isD = true := by
    rw [List.all_eq_true] at hl ⊢
    exact fun c hc => hl c (List.mem_of_mem_drop (List.mem_of_mem_take hc))
  have hlt := dval_lt _ hall
  rw [hlen] at hlt
  have hp : 10 ^ (e - a) ≤ 10 ^ 9 := Nat.pow_le_pow_right (by decide) (by omega)
  have hB := BB_eq
  refine ⟨⟨?_, ?_⟩, by omega⟩
  · intro x hx
    rcases List.mem_append.1 hx with hx | hx
    · exact h1 x hx
    · have := List.mem_singleton.1 hx; omega
  · rw [e1, dval_append, hlen] at h2
    have key : dval ((l.drop a).take (e - a)) + BB * dval (l.take a) = dval (l.take a) * 10 ^ (e - a) + dval ((l.drop a).take (e - a)) := by
      rcases h9 with h9 | ⟨h9, h10⟩
      · rw [h9, hB, Nat.mul_comm 1000000000]; omega
      · subst h9
        have h0 : dval (l.take 0) = 0 := rfl
        rw [h0]; simp
    rw [wval_snoc, List.length_append, List.length_singleton, Nat.pow_succ, Nat.mul_assoc, Nat.add_assoc, ← Nat.mul_add, key]
    exact h2
theorem ReadInv.done {l : List UInt8} {os : List Nat} (h : ReadInv l os 0) : (∀ x ∈ os, x < BB) ∧ wval os = dval l := by
  obtain ⟨h1, h2⟩ := h
  have h0 : dval (l.take 0) = 0 := rfl
  rw [h0, Nat.mul_zero, Nat.add_zero] at h2
  exact ⟨h1, h2⟩
theorem extract_list (s : ByteArray) (a e : Nat) : (s.extract a e).data.toList = (s.data.toList.drop a).take (e - a) := by
  rw [ByteArray.data_extract, Array.toList_extract, List.extract_eq_take_drop]

theorem cells_one (w : World) (v : Value) (T : TypeId) : ∀ j u, [v][j]? = some u → (w.alloc (.cells #[v] T)).cell? ((⟨w.heap.size, 0, none⟩ : Addr).add j) = some u := by
  intro j u hj
  match j, hj with
  | 0, hj => simp at hj; subst hj; simp [Addr.add]

set_option maxHeartbeats 1000000 in
set_option maxRecDepth 100000 in
theorem Read_any (s : ByteArray) (h : s.data.toList.all isD = true) (hl : s.size ≤ 100000) (w : World) :
    Calls Tryd.prog 30 #[.string s] w fun e w' => ∃ v, e = .returned v ∧ Own .u64 46 w.heap.size w' v (digs (dval s.data.toList)) ∧ Below w.heap.size w w' := by
  obtain ⟨i0, hi, hz0, hz1, hz2⟩ := info_parts Tryd.info46
  have H := Lib.hid h
  clear h
  go_enter Tryd.func30, Tryd.ntmps30
  go_wp2_with (at_make; refine wpList_make_own _ rfl _ _ 49 rfl w.heap.size 46 i0 (.int .u64 0) 1 Tryd.underlying49 hi hz0 hz1 _ _ _ ((s.size + 8) / 9) rfl rfl (by omega) ?b2 ?b3 (Nat.le_refl _) ?_)
  case b2 => rw [hz2]; omega
  case b3 => unfold maxLen; omega
  intro w0 hown0 hgrow0
  have HN0 := Lib.hid ((Below.refl w.heap.size w).grown hgrow0 (Nat.le_refl _) (fun k h => by cases h))
  have HO0 := Lib.hid hown0
  clear hown0 hgrow0
  go_wp2
  go_loopw [3, 4] (fun v ee wr => ∃ (z : Int) (os : List Nat), -9 ≤ z ∧ z ≤ s.size ∧ ee = .int .i64 z ∧ os.length + z.toNat ≤ s.size ∧ Hid (wr.ownsRow w.heap.size 46 1 v os.length (cls .u64 os)) ∧ Hid (ReadInv s.data.toList os z.toNat) ∧ Hid (Below w.heap.size w wr)) (fun _ ee _ => (intOf ee).toNat)
  case atStart => exact ⟨(s.size : Int), [], by omega, by omega, rfl, by simp, HO0, by have := ReadInv.start s.data.toList; rw [size_list] at this; exact this, HN0⟩
  case round =>
    obtain ⟨z, os, hz9, hzs, rfl, hlen, ho, hr, hn⟩ := hrel
    by_cases hz : 0 < z
    · obtain ⟨a, ha⟩ : ∃ a : Nat, a = (z - 9).toNat := ⟨_, rfl⟩
      obtain ⟨hst, hbd⟩ := hr.out.step (a := a) H.out (by rw [size_list]; omega) (by omega) (by omega)
      rw [← extract_list] at hst hbd
      have hex : (s.extract a z.toNat).data.toList.all isD = true := by
        rw [extract_list]
        have := H.out
        rw [List.all_eq_true] at this ⊢
        exact fun c hc => this c (List.mem_of_mem_drop (List.mem_of_mem_take hc))
      have hval := value_any (s.extract a z.toNat) hex (by rw [ByteArray.size_extract]; omega)
      have HV := Lib.hid hval
      have HST := Lib.hid hst
      have HA := Lib.hid ha
      clear hst hex hval ha
      go_wp2_with fail
      rw [show (max 0 (z - 9)).toNat = a from by rw [HA.out]; omega]
      refine (HV.out _).mono ?_
      rintro e w1 ⟨rfl, rfl⟩
      generalize dval (s.extract a z.toNat).data.toList = d at *
      have HD := Lib.hid hbd
      clear hbd HV
      go_wp2_with (at_builtin; refine wpList_append_own _ rfl _ _ 49 rfl w.heap.size 46 i0 (.int .u64 0) 1 8 Tryd.underlying49 hi hz0 hz1 hz2 rfl (by decide) _ _ _ rfl (ho.out.alloc _) ⟨wr.heap.size, 0, none⟩ 1 1 [.int .u64 (d : Int)] rfl rfl (cells_one _ _ _) (by intro u hu; simp at hu; subst hu; rfl) (by unfold maxLen; omega) (by omega) (by have := hn.out.size; simp; omega) ?_)
      intro v' w1 hown' hgrow _
      have HO := Lib.hid hown'
      have HN := Lib.hid ((hn.out.alloc hn.out.size _).grown hgrow (by have := hn.out.size; simp; omega) (fun k hk => (ho.out.lt k hk).1))
      clear hown' hgrow
      go_wp2
      go_roundw
      case rel => exact ⟨z - 9, os ++ [d], by omega, by omega, rfl, by simp; omega, by have := HO.out; rw [cls_append, List.length_append]; exact this, by rw [show (z - 9).toNat = a from HA.out.symm]; exact HST, HN⟩
      case measure => simp [intOf]; omega
    · have hz0' : z.toNat = 0 := by omega
      have hr' := hr.out
      rw [hz0'] at hr'
      obtain ⟨hB, hv⟩ := hr'.done
      have htr := Trim_own 46 w.heap.size _ os hB wr ho.out
      rw [hv] at htr
      have HTR := Lib.hid htr
      clear hr' hB hv htr hz0'
      go_wp2_with fail
      refine HTR.out.mono ?_
      rintro e w2 ⟨v', rfl, hown, rfl⟩
      go_wp2
      go_ret
      exact ⟨v', rfl, hown, hn.out⟩

end Go.Proofs.YtpdchplppkfdhaaDoor
