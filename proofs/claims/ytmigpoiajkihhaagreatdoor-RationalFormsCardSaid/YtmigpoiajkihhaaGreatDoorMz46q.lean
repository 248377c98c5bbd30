/- Texts of this proof, one behind the other. -/
import Derived.Test.YtmigpoiajkihhaaGreatDoorMz45q
import Derived.Test.YtmigpoiajkihhaaGreatDoorMz35q
import Derived.Below
import Derived.Test.YtmigpoiajkihhaaGreatDoorMz9q
import Derived.Test.YtmigpoiajkihhaaGreatDoorMz2q
/- garboardref02: Read, To, Make, Opposite, Signum of integers; Sign, Abs, Neg: walks. -/
namespace Go.Proofs.YtmigpoiajkihhaaGreatDoor
set_option maxRecDepth 100000
set_option maxHeartbeats 20000000
open Go.RowKit Go.Gb
theorem ZRead_plain (s : ByteArray) (h0 : ∃ h : 0 < s.size, ((s[0].toNat : Int) == 45) = false) (hd : s.data.toList.all isD = true) (hm : s.size ≤ 100000) (w : World) :
 Calls Tryz.prog 37 #[.string s] w fun e w' => ∃ v, e = .returned (.agg #[.bool false, v]) ∧ Rd .u32 w' v (digs (dval s.data.toList)) ∧ Below w.heap.size w w' := by
 obtain ⟨h2, h3⟩ := h0
 have k1 : (1 : Int) ≤ (s.size : Int) := by omega
 have HF := Lib.hid (RFrom_any s hd hm (w.alloc (.cells #[.bool false, .slice none 0 0] 50)))
 have HB := Lib.hid ((Below.refl w.heap.size w).alloc (Nat.le_refl _) (.cells #[.bool false, .slice none 0 0] 50))
 clear hd
 go_enter Tryz.func37, Tryz.ntmps37
 go_wp2_with fail
 refine HF.out.mono ?_
 rintro e w1 ⟨v, rfl, ho, hb⟩
 obtain ⟨pv, cv, rfl⟩ := rd_form ho.rd
 obtain ⟨lv, hlv⟩ : ∃ l, l = (digs (dval s.data.toList)).length := ⟨_, rfl⟩
 rw [← hlv] at ho ⊢
 have c0 : w1.cell? ⟨w.heap.size, 0, none⟩ = some (.bool false) := (hb.cell (p := ⟨w.heap.size, 0, none⟩) (by simp)).trans (by simp)
 have c1 : w1.cell? ⟨w.heap.size, 1, none⟩ = some (.slice none 0 0) := (hb.cell (p := ⟨w.heap.size, 1, none⟩) (by simp)).trans (by simp)
 have f0 : w1.frozen? ⟨w.heap.size, 0, none⟩ = false := (hb.frozen (p := ⟨w.heap.size, 0, none⟩) (by simp)).trans (by simp)
 have f1 : w1.frozen? ⟨w.heap.size, 1, none⟩ = false := (hb.frozen (p := ⟨w.heap.size, 1, none⟩) (by simp)).trans (by simp)
 have hz1 : w.heap.size < w1.heap.size := by have := hb.size; simp at this; omega
 have HO := Lib.hid ho
 have HB2 := Lib.hid (HB.out.trans (hb.mono (by simp)))
 clear ho hb hlv
 go_wp2
 refine bodyPost_ret (v := .agg #[.bool false, .slice pv lv cv]) (by simp [results, Tryz.results37, go_sem, c0, c1]) rfl ⟨_, rfl, ?_, ?_⟩
 · exact (rd_set (rd_set HO.out (by simp) _) (by simp) _).rd
 · exact (HB2.out.setCell (Nat.le_refl _) _).setCell (Nat.le_refl _) _
theorem zr_neg {w : World} {v : Value} {n : Nat} (h : Rd .u32 w v (digs n)) (hn : n ≠ 0) : Rz w (.agg #[.bool true, v]) (-(n : Int)) :=
 ⟨v, by rw [decide_eq_true (show -(n : Int) < 0 by omega)], by rw [Int.natAbs_neg, Int.natAbs_natCast]; exact h⟩
theorem zr_nat {w : World} {v : Value} {n : Nat} (h : Rd .u32 w v (digs n)) : Rz w (.agg #[.bool false, v]) (n : Int) :=
 ⟨v, by rw [decide_eq_false (show ¬ (n : Int) < 0 by omega)], by rw [Int.natAbs_natCast]; exact h⟩
theorem zRead (z : Int) (hf : FitZ z) (w : World) :
 Calls Tryz.prog 37 #[.string (Sz z)] w fun e w' => ∃ u, e = .returned u ∧ Rz w' u z ∧ Below w.heap.size w w' := by
 rcases Int.lt_or_le z 0 with h | h
 · obtain ⟨n, hn, rfl⟩ : ∃ n : Nat, n ≠ 0 ∧ z = -(n : Int) := ⟨z.natAbs, by omega, by omega⟩
   have hl : (Sz (-(n : Int))).data.toList = 45 :: Lib.decDigits n := by rw [sz_neg hn]
   obtain ⟨h0, hc⟩ := head_str hl
   have hsz : (Sz (-(n : Int))).size = (Lib.decDigits n).length + 1 := by rw [← size_list, hl]; simp
   have hnl : (Sn n).size = (Lib.decDigits n).length := by rw [← size_list, sn_list]
   have hp : 0 < (Lib.decDigits n).length := List.length_pos_iff.2 (dec_ne_nil n)
   have hs := hf.neg.size
   have ht : (Sz (-(n : Int))).extract 1 (Sz (-(n : Int))).size = Sn n := tail_str hl
   have h1 := ZRead_minus (Sz (-(n : Int))) (Sn n) ht (by omega) ⟨h0, by rw [hc]; rfl⟩ (by rw [sn_list]; exact dec_all n) (by omega) (by omega) w
   rw [sn_dval] at h1
   exact h1.mono fun e w' ⟨v, e1, e2, e3⟩ => ⟨_, e1, zr_neg e2 hn, e3⟩
 · obtain ⟨n, rfl⟩ := Int.eq_ofNat_of_zero_le h
   rw [sz_nat]
   have hs := hf.nat.size
   obtain ⟨c, t, ht, hc⟩ := head_dig (n := n)
   have hl : (Sn n).data.toList = c :: t := by rw [sn_list, ht]
   obtain ⟨h0, hc0⟩ := head_str hl
   have h1 := ZRead_plain (Sn n) ⟨h0, by
    rw [hc0, beq_eq_false_iff_ne]
    intro h; apply hc
    apply UInt8.toNat_inj.1
    have : c.toNat = 45 := by omega
    rw [this]; rfl⟩ (by rw [sn_list]; exact dec_all n) (by omega) w
   rw [sn_dval] at h1
   exact h1.mono fun e w' ⟨v, e1, e2, e3⟩ => ⟨_, e1, zr_nat e2, e3⟩
theorem rz_form {w : World} {u : Value} {z : Int} (h : Rz w u z) : ∃ p c, u = .agg #[.bool (decide (z < 0)), .slice p (digs z.natAbs).length c] ∧ Rd .u32 w (.slice p (digs z.natAbs).length c) (digs z.natAbs) := by
 obtain ⟨v, h1, h2⟩ := h
 obtain ⟨p, c, rfl⟩ := rd_form h2
 exact ⟨p, c, h1, h2⟩
theorem ZMake_raw (b : Bool) (p : Option Addr) (n c : Nat) (r : Bool) (hr : (b && decide (0 < n)) = r) (hn : n ≤ 1000000) (w : World) :
 Calls Tryz.prog 41 #[.bool b, .slice p n c] w fun e w' => e = .returned (.agg #[.bool r, .slice p n c]) ∧ Below w.heap.size w w' := by
 have HR := Lib.hid hr
 clear hr
 cases b with
 | false =>
   obtain rfl : r = false := by have := HR.out; simpa using this.symm
   go_enter Tryz.func41, Tryz.ntmps41
   go_wp2
   refine bodyPost_ret (v := .agg #[.bool false, .slice p n c]) (by simp [results, Tryz.results41, go_sem]) rfl ⟨rfl, ?_⟩
   repeat (first | exact Below.refl _ _ | refine Below.setCell ?_ (by simp) _ | refine Below.alloc ?_ (by simp) _ | refine Below.drew ?_)
 | true =>
   by_cases h0 : 0 < n
   · obtain rfl : r = true := by have := HR.out; rw [decide_eq_true h0] at this; simpa using this.symm
     have k1 : (0 : Int) < (n : Int) := by omega
     go_enter Tryz.func41, Tryz.ntmps41
     go_wp2
     refine bodyPost_ret (v := .agg #[.bool true, .slice p n c]) (by simp [results, Tryz.results41, go_sem]) rfl ⟨rfl, ?_⟩
     repeat (first | exact Below.refl _ _ | refine Below.setCell ?_ (by simp) _ | refine Below.alloc ?_ (by simp) _ | refine Below.drew ?_)
   · obtain rfl : n = 0 := by omega
     obtain rfl : r = false := by have := HR.out; simpa using this.symm
     go_enter Tryz.func41, Tryz.ntmps41
     go_wp2
     refine bodyPost_ret (v := .agg #[.bool false, .slice p 0 c]) (by simp [results, Tryz.results41, go_sem]) rfl ⟨rfl, ?_⟩
     repeat (first | exact Below.refl _ _ | refine Below.setCell ?_ (by simp) _ | refine Below.alloc ?_ (by simp) _ | refine Below.drew ?_)
theorem len_pos (n : Nat) : decide (0 < (digs n).length) = decide (0 < n) := by
 by_cases h : n = 0
 · rw [h, digs_zero]; rfl
 · have : 0 < (digs n).length := List.length_pos_iff.2 (by rw [digs_pos h]; simp)
   rw [decide_eq_true this, decide_eq_true (by omega)]
theorem zMake (b : Bool) (v : Value) (n : Nat) (z : Int) (hz : z = if b then -(n : Int) else (n : Int)) (hl : (digs n).length ≤ 1000000) (w : World) (h : Rd .u32 w v (digs n)) :
 Calls Tryz.prog 41 #[.bool b, v] w fun e w' => ∃ u, e = .returned u ∧ Rz w' u z ∧ Below w.heap.size w w' := by
 obtain ⟨p, c, rfl⟩ := rd_form h
 refine (ZMake_raw b p (digs n).length c (decide (z < 0)) ?_ hl w).mono fun e w' ⟨h1, h2⟩ => ⟨_, h1, ⟨_, rfl, ?_⟩, h2⟩
 · rw [len_pos, hz]
   cases b with
   | false => simp
   | true =>
     by_cases h0 : 0 < n
     · simp [h0]
     · obtain rfl : n = 0 := by omega
       simp
 · have e : z.natAbs = n := by rw [hz]; cases b <;> simp
   rw [e]
   exact h.below h2
theorem zTo (u : Value) (z : Int) (hf : (digs z.natAbs).length ≤ 10000) (hs : (Sn z.natAbs).size ≤ 100000) (w : World) (h : Rz w u z) :
 Calls Tryz.prog 56 #[u] w fun e w' => e = .returned (.string (Sz z)) ∧ Below w.heap.size w w' := by
 obtain ⟨p, c, rfl, hr⟩ := rz_form h
 obtain ⟨b, hb⟩ : ∃ b, b = decide (z < 0) := ⟨_, rfl⟩
 rw [← hb]
 have hal : Below w.heap.size w (w.alloc (.cells #[.bool b, .slice p (digs z.natAbs).length c] 50)) := (Below.refl _ _).alloc (Nat.le_refl _) _
 have HT := Lib.hid (RTo_any (.slice p (digs z.natAbs).length c) z.natAbs hf _ (hr.below hal))
 have HAL := Lib.hid hal
 clear h hr hal
 generalize (digs z.natAbs).length = lz at *
 cases b with
 | true =>
   have hneg : z < 0 := of_decide_eq_true hb.symm
   have hz : Sz z = ⟨(45 :: Lib.decDigits z.natAbs).toArray⟩ := by unfold Sz; rw [if_pos hneg]
   have HZ := Lib.hid hz
   have HS := Lib.hid hs
   clear hz hneg hs hb
   go_enter Tryz.func56, Tryz.ntmps56
   go_wp2_with fail
   refine HT.out.mono ?_
   rintro e w1 ⟨rfl, hb1⟩
   have HB1 := Lib.hid (HAL.out.trans (hb1.mono HAL.out.size))
   clear hb1
   have hadd := run_string_add_sum (P := Tryz.prog) w1 ⟨#[45]⟩ (Sn z.natAbs) (by have := HS.out; have e : (⟨#[45]⟩ : ByteArray).size = 1 := rfl; omega)
   go_wp2
   go_ret
   refine ⟨?_, HB1.out⟩
   have e : (⟨#[45]⟩ : ByteArray) ++ Sn z.natAbs = ⟨(45 :: Lib.decDigits z.natAbs).toArray⟩ := by
    apply ByteArray.ext
    apply Array.ext'
    simp [Sn]
   rw [e, HZ.out]
   rfl
 | false =>
   have hneg : ¬ z < 0 := of_decide_eq_false hb.symm
   have hz : Sz z = Sn z.natAbs := by unfold Sz; rw [if_neg hneg]
   have HZ := Lib.hid hz
   clear hz hneg hs hb
   go_enter Tryz.func56, Tryz.ntmps56
   go_wp2_with fail
   refine HT.out.mono ?_
   rintro e w1 ⟨rfl, hb1⟩
   have HB1 := Lib.hid (HAL.out.trans (hb1.mono HAL.out.size))
   clear hb1
   go_wp2
   go_ret
   exact ⟨by rw [HZ.out]; rfl, HB1.out⟩
theorem ZSignum_raw (b : Bool) (p : Option Addr) (n c : Nat) (r : Int) (hr : r = if b then -1 else if 0 < n then 1 else 0) (w : World) :
 Calls Tryz.prog 38 #[.agg #[.bool b, .slice p n c]] w fun e w' => e = .returned (.int .i64 r) ∧ Below w.heap.size w w' := by
 have HR := Lib.hid hr
 clear hr
 cases b with
 | true =>
   go_enter Tryz.func38, Tryz.ntmps38
   go_wp2
   go_ret
   exact ⟨ret_int (by rw [HR.out]; rfl), (Below.refl _ _).alloc (Nat.le_refl _) _⟩
 | false =>
   by_cases h0 : 0 < n
   · have e1 : r = 1 := by have := HR.out; rw [if_pos h0] at this; exact this
     have k1 : (0 : Int) < (n : Int) := by omega
     have HE := Lib.hid e1
     clear e1
     go_enter Tryz.func38, Tryz.ntmps38
     go_wp2
     go_ret
     exact ⟨ret_int HE.out.symm, (Below.refl _ _).alloc (Nat.le_refl _) _⟩
   · obtain rfl : n = 0 := by omega
     have e1 : r = 0 := by have := HR.out; rw [if_neg h0] at this; exact this
     have HE := Lib.hid e1
     clear e1 h0
     go_enter Tryz.func38, Tryz.ntmps38
     go_wp2
     go_ret
     exact ⟨ret_int HE.out.symm, (Below.refl _ _).alloc (Nat.le_refl _) _⟩
theorem zSignum (u : Value) (z : Int) (w : World) (h : Rz w u z) :
 Calls Tryz.prog 38 #[u] w fun e w' => e = .returned (.int .i64 z.sign) ∧ Below w.heap.size w w' := by
 obtain ⟨p, c, rfl, _⟩ := rz_form h
 refine ZSignum_raw _ p _ c z.sign ?_ w
 have hl := len_pos z.natAbs
 rcases int_cases z with ⟨n, hn, rfl⟩ | rfl | ⟨n, hn, rfl⟩
 · rw [Int.sign_neg, Int.sign_natCast_of_ne_zero hn]
   simp; omega
 · simp [digs_zero]
 · rw [Int.sign_natCast_of_ne_zero hn]
   have : 0 < (digs (n : Int).natAbs).length := by rw [Int.natAbs_natCast]; exact List.length_pos_iff.2 (by rw [digs_pos hn]; simp)
   rw [decide_eq_false (by omega), if_neg (by simp), if_pos this]
end Go.Proofs.YtmigpoiajkihhaaGreatDoor
/- garboardref02: Opposite; Sign, Abs, Neg of texts: walks. -/
namespace Go.Proofs.YtmigpoiajkihhaaGreatDoor
open Go.RowKit Go.Gb
theorem zrValid (z : Int) (h : (Sz z).size ≤ 1000) (w : World) :
 Calls Tryz.prog 36 #[.string (Sz z)] w fun e w' => e = .returned (.bool true) ∧ w = w' := by
 have h1 := ZValid_any (Sz z) h w
 rwa [sz_vld] at h1
theorem zrValid_no (a : ByteArray) (hv : vldZ a.data.toList = false) (h : a.size ≤ 1000) (w : World) :
 Calls Tryz.prog 36 #[.string a] w fun e w' => e = .returned (.bool false) ∧ w = w' := by
 have h1 := ZValid_any a h w
 rwa [hv] at h1
end Go.Proofs.YtmigpoiajkihhaaGreatDoor
/- A region that draws its order, by an invariant whose slots are known up to where new blocks lie; its last operation waits for all others. No program is mentioned. -/
namespace Go.Gb
open Go Go.RowKit
section
variable {P : Program} {ops : Array Oper} {Q : Exit → Act → World → Prop}
structure RInv (ops : Array Oper) (m : Nat) (sl : Nat → Nat) (R : Nat → Value → World → Prop) (a0 : Act) (W : World → Prop) (listed : Array Bool) (a : Act) (w : World) : Prop where
 closed : Closed .any ops listed
 size : listed.size = ops.size
 slots : ∀ i, i < m → listed.getD i false = true → ∃ v, a.tmps[sl i]? = some v ∧ R i v w
 rest : ∀ d, (∀ i, i < m → sl i ≠ d) → a.tmps[d]? = a0.tmps[d]?
 tsize : a.tmps.size = a0.tmps.size
 defers : a.defers = a0.defers
 world : W w
variable {m : Nat} {sl : Nat → Nat} {R : Nat → Value → World → Prop} {a a0 : Act} {W : World → Prop} {listed : Array Bool} {w w' : World}
theorem RInv.start (h : W w) : RInv ops m sl R a W (Array.replicate ops.size false) a w :=
 ⟨closed_none _, by simp, fun i _ hi => by
  exfalso
  simp only [Array.getD_eq_getD_getElem?, Array.getElem?_replicate] at hi
  split at hi <;> simp at hi, fun _ _ => rfl, rfl, rfl, h⟩
theorem RInv.put {i d : Nat} {v : Value} (h : RInv ops m sl R a0 W listed a w) (hi : i ∈ Region.ready .any ops listed) (hm : i < m) (hd : d = sl i) (hlo : d < a0.tmps.size)
 (hinj : ∀ j, j < m → sl j = d → j = i) (hv : R i v w') (hR : ∀ j u, R j u w → R j u w') (hW : W w') : RInv ops m sl R a0 W (listed.setIfInBounds i true) (a.put (some d) v) w' := by
 subst hd
 have hp : (a.put (some (sl i)) v).tmps = a.tmps.setIfInBounds (sl i) v := rfl
 have hts := h.tsize
 refine ⟨h.closed.set hi, by simpa using h.size, fun j hj hl => ?_, fun e he => ?_, by rw [hp]; simpa using hts, h.defers, hW⟩
 · rw [hp]
   by_cases hji : j = i
   · subst hji
     exact ⟨v, by rw [Array.getElem?_setIfInBounds_self_of_lt (by omega)], hv⟩
   · rw [Array.getElem?_setIfInBounds_ne (fun e => hji (hinj j hj e.symm))]
     rcases getD_set_cases hl with h2 | h2
     · exact absurd h2 hji
     · obtain ⟨u, h3, h4⟩ := h.slots j hj h2
       exact ⟨u, h3, hR j u h4⟩
 · rw [hp, Array.getElem?_setIfInBounds_ne (he i hm)]
   exact h.rest e he
theorem RInv.at {i j : Nat} (h : RInv ops m sl R a0 W listed a w) (hj : j ∈ Region.ready .any ops listed) (hw : Region.waitsFor .any ops j i = true) (hm : i < m) :
 ∃ v, a.tmps[sl i]? = some v ∧ R i v w := h.slots i hm (ready_waits hj hw)
def putL : List (Nat × Value) → Array Value → Array Value
 | [], t => t
 | p :: ps, t => putL ps (t.setIfInBounds p.1 p.2)
theorem putL_eq : ∀ (L : List (Nat × Value)) (t T : Array Value), T.size = t.size → (∀ p, p ∈ L → T[p.1]? = some p.2) → (∀ d, (∀ p, p ∈ L → p.1 ≠ d) → T[d]? = t[d]?) → T = putL L t
 | [], t, T, _, _, h => Array.ext_getElem? fun d => h d (fun _ hp => by cases hp)
 | p :: ps, t, T, hs, h1, h2 => by
   refine putL_eq ps _ T (by simpa using hs) (fun q hq => h1 q (List.mem_cons_of_mem _ hq)) (fun d hd => ?_)
   have hp := h1 p List.mem_cons_self
   by_cases hpd : p.1 = d
   · subst hpd
     have hlt : p.1 < T.size := (Array.getElem?_eq_some_iff.1 hp).1
     rw [hp, Array.getElem?_setIfInBounds_self_of_lt (by omega)]
   · rw [Array.getElem?_setIfInBounds_ne hpd]
     exact h2 d (fun q hq => by
        rcases List.mem_cons.1 hq with rfl | hq
        · exact hpd
        · exact hd q hq)
theorem RInv.fin (h : RInv ops m sl R a0 W listed a w) (L : List (Nat × Value)) (h1 : ∀ p, p ∈ L → a.tmps[p.1]? = some p.2) (h2 : ∀ d, (∀ p, p ∈ L → p.1 ≠ d) → ∀ i, i < m → sl i ≠ d) : a = ⟨putL L a0.tmps, a0.defers⟩ := by
 have ht := putL_eq L a0.tmps a.tmps h.tsize h1 (fun d hd => h.rest d (h2 d hd))
 have hd := h.defers
 cases a
 simp only at ht hd
 rw [ht, hd]
def lastB (ops : Array Oper) (m : Nat) : Bool := (List.range m).all fun j => (List.range (m + 1)).any fun k => decide (j < k) && Region.waitsFor .any ops k j
theorem last_all (hl : lastB ops m = true) (hc : Closed .any ops listed) (hr : m ∈ Region.ready .any ops listed) : ∀ n j, n + j = m → 0 < n → listed.getD j false = true := by
 intro n
 induction n using Nat.strongRecOn with
 | _ n ih =>
   intro j hj hn
   have h1 := List.all_eq_true.1 hl j (List.mem_range.2 (by omega))
   obtain ⟨k, hk, h2⟩ := List.any_eq_true.1 h1
   have hk := List.mem_range.1 hk
   rw [Bool.and_eq_true, decide_eq_true_iff] at h2
   by_cases hkm : k = m
   · subst hkm; exact ready_waits hr h2.2
   · exact hc k j (ih (m - k) (by omega) k (by omega) (by omega)) h2.2
theorem getD_set_ne {listed : Array Bool} {i j : Nat} (h : j ≠ i) : (listed.setIfInBounds i true).getD j false = listed.getD j false := by
 simp only [Array.getD_eq_getD_getElem?]
 rw [Array.getElem?_setIfInBounds_ne (Ne.symm h)]
theorem getD_set_eq {listed : Array Bool} {i : Nat} (h : i < listed.size) : (listed.setIfInBounds i true).getD i false = true := by
 simp only [Array.getD_eq_getD_getElem?]
 rw [Array.getElem?_setIfInBounds_self_of_lt h]
 rfl
end
end Go.Gb
/- A region that draws its order: its first operations lay slots of which relations hold, in any order; its last ones come up one behind the other. No program is mentioned. -/
namespace Go.Gb
open Go Go.RowKit
section
variable {P : Program} {ops : Array Oper} {Q : Exit → Act → World → Prop}
variable {m : Nat} {sl : Nat → Nat} {R : Nat → Value → World → Prop} {a a0 : Act} {W : World → Prop} {listed : Array Bool} {w w' : World}
def tailWp (P : Program) (ops : Array Oper) (Q : Exit → Act → World → Prop) : Nat → Nat → Act → World → Prop
 | 0, _, a, w => Q .normal a w
 | t + 1, k, a, w => wpOp P ops Q k (fun a' w' => tailWp P ops Q t (k + 1) a' w') a w
theorem tail_nil {k : Nat} (h : Q .normal a w) : tailWp P ops Q 0 k a w := h
def tailB (ops : Array Oper) (m t : Nat) : Bool := (List.range t).all fun i => lastB ops (m + i)
theorem tail_all {m t k : Nat} (ht : tailB ops m t = true) (hk : m ≤ k) (hkt : k < m + t) (hc : Closed .any ops listed) (hr : k ∈ Region.ready .any ops listed) : ∀ j, j < k → listed.getD j false = true := by
 have h1 := List.all_eq_true.1 ht (k - m) (List.mem_range.2 (by omega))
 rw [show m + (k - m) = k by omega] at h1
 intro j hj
 exact last_all h1 hc hr (k - j) j (by omega) (by omega)
theorem wp_region_tail {id : Nat} {a : Act} {w : World} (hm : P.follows .mixedOrders = true) (m t : Nat) (sl : Nat → Nat) (R : Nat → Value → World → Prop) (W : World → Prop) (hs : ops.size = m + t) (hb : backB .any ops = true) (ht : tailB ops m t = true)
 (hstart : W w.drew)
 (hstep : ∀ listed a' w i, RInv ops m sl R a W listed a' w → i ∈ Region.ready .any ops listed → i < m → wpOp P ops Q i (fun a' w' => RInv ops m sl R a W (listed.setIfInBounds i true) a' w') a' w)
 (hlast : ∀ listed a' w, RInv ops m sl R a W listed a' w → (∀ j, j < m → listed.getD j false = true) → tailWp P ops Q t m a' w) : (Code.region id ops true).wp P Q a w := by
 refine wp_region_inv hm (fun listed a' w => ((∀ j, m ≤ j → listed.getD j false = false) ∧ RInv ops m sl R a W listed a' w) ∨ (∃ k, k ≤ t ∧ listed.size = ops.size ∧ Closed .any ops listed ∧ (∀ j, j < m + k → listed.getD j false = true) ∧ (∀ j, m + k ≤ j → listed.getD j false = false) ∧ tailWp P ops Q (t - k) (m + k) a' w)) (Or.inl ⟨?_, RInv.start hstart⟩) ?_ ?_
 · intro j _
   simp only [Array.getD_eq_getD_getElem?, Array.getElem?_replicate]
   split <;> rfl
 · rintro listed a' w i (⟨h1, h2⟩ | ⟨k, hk, hsz, hc, h1, h2, h3⟩) hi
   · have hlt := ready_lt hi
     by_cases him : i < m
     · refine wpOp_mono (fun a2 w2 h => Or.inl ⟨fun j hj => ?_, h⟩) (hstep listed a' w i h2 hi him)
       rw [getD_set_ne (by omega)]; exact h1 j hj
     · have hall := tail_all ht (by omega) (by omega) h2.closed hi
       have hie : i = m := by
        rcases Nat.lt_or_ge m i with h | h
        · have := hall m h; rw [h1 m (Nat.le_refl _)] at this; cases this
        · omega
       subst hie
       obtain ⟨t', rfl⟩ : ∃ t', t = t' + 1 := ⟨t - 1, by omega⟩
       have hz := h2.size
       refine wpOp_mono (fun a2 w2 h => Or.inr ⟨1, by omega, by simpa using hz, h2.closed.set hi, fun j hj => ?_, fun j hj => ?_, by simpa using h⟩) (hlast listed a' w h2 hall)
       · by_cases hji : j = i
         · subst hji; exact getD_set_eq (by omega)
         · rw [getD_set_ne hji]; exact hall j (by omega)
       · rw [getD_set_ne (by omega)]; exact h1 j (by omega)
   · have hlt := ready_lt hi
     have hun := ready_un' hi
     have hge : m + k ≤ i := by
        rcases Nat.lt_or_ge i (m + k) with h | h
        · rw [h1 i h] at hun; cases hun
        · exact h
     have hall := tail_all ht (by omega) (by omega) hc hi
     have hie : i = m + k := by
        rcases Nat.lt_or_ge (m + k) i with h | h
        · have := hall _ h; rw [h2 _ (Nat.le_refl _)] at this; cases this
        · omega
     subst hie
     obtain ⟨t', ht'⟩ : ∃ t', t - k = t' + 1 := ⟨t - k - 1, by omega⟩
     rw [ht'] at h3
     refine wpOp_mono (fun a2 w2 h => Or.inr ⟨k + 1, by omega, by simpa using hsz, hc.set hi, fun j hj => ?_, fun j hj => ?_, by rw [show t - (k + 1) = t' by omega]; exact h⟩) h3
     · by_cases hji : j = m + k
       · subst hji; exact getD_set_eq (by omega)
       · rw [getD_set_ne hji]; exact hall j (by omega)
     · rw [getD_set_ne (by omega)]; exact h2 j (by omega)
 · rintro listed a' w (⟨h1, h2⟩ | ⟨k, hk, hsz, hc, h1, h2, h3⟩) hr
   · have hall := all_listed h2.size hb hr
     have ht0 : t = 0 := by
        rcases Nat.eq_zero_or_pos t with h | h
        · exact h
        · have := hall m (by omega); rw [h1 m (Nat.le_refl _)] at this; cases this
     subst ht0
     exact hlast listed a' w h2 (fun j hj => hall j (by omega))
   · have hall := all_listed hsz hb hr
     have hkt : k = t := by
        rcases Nat.lt_or_ge k t with h | h
        · have := hall (m + k) (by omega); rw [h2 _ (Nat.le_refl _)] at this; cases this
        · omega
     subst hkt
     rw [Nat.sub_self] at h3
     exact h3
end
section
variable {P : Program} {ops : Array Oper} {Q : Exit → Act → World → Prop}
variable {m : Nat} {sl : Nat → Nat} {R : Nat → Value → World → Prop} {a a0 : Act} {W : World → Prop} {listed : Array Bool} {w w' : World}
theorem wp_region_tail_d {id : Nat} {a : Act} {w : World} (hm : P.follows .mixedOrders = true) (m t : Nat) (sl : Nat → Nat) (R : Nat → Value → World → Prop) (W : World → Prop) (D : Array Bool → Act → Prop) (hs : ops.size = m + t) (hb : backB .any ops = true) (ht : tailB ops m t = true)
 (hD : D (Array.replicate ops.size false) a) (hstart : W w.drew)
 (hstep : ∀ listed a' w k, RInv ops m sl R a W listed a' w → D listed a' → k ∈ Region.ready .any ops listed → k < m → wpOp P ops Q k (fun a' w' => RInv ops m sl R a W (listed.setIfInBounds k true) a' w' ∧ D (listed.setIfInBounds k true) a') a' w)
 (hlast : ∀ listed a' w, RInv ops m sl R a W listed a' w → D listed a' → (∀ j, j < m → listed.getD j false = true) → tailWp P ops Q t m a' w) : (Code.region id ops true).wp P Q a w := by
 refine wp_region_inv hm (fun listed a' w => ((∀ j, m ≤ j → listed.getD j false = false) ∧ RInv ops m sl R a W listed a' w ∧ D listed a') ∨ (∃ k, k ≤ t ∧ listed.size = ops.size ∧ Closed .any ops listed ∧ (∀ j, j < m + k → listed.getD j false = true) ∧ (∀ j, m + k ≤ j → listed.getD j false = false) ∧ tailWp P ops Q (t - k) (m + k) a' w)) (Or.inl ⟨?_, RInv.start hstart, hD⟩) ?_ ?_
 · intro j _
   simp only [Array.getD_eq_getD_getElem?, Array.getElem?_replicate]
   split <;> rfl
 · rintro listed a' w i (⟨h1, h2, h0⟩ | ⟨k, hk, hsz, hc, h1, h2, h3⟩) hi
   · have hlt := ready_lt hi
     by_cases him : i < m
     · refine wpOp_mono (fun a2 w2 h => Or.inl ⟨fun j hj => ?_, h⟩) (hstep listed a' w i h2 h0 hi him)
       rw [getD_set_ne (by omega)]; exact h1 j hj
     · have hall := tail_all ht (by omega) (by omega) h2.closed hi
       have hie : i = m := by
        rcases Nat.lt_or_ge m i with h | h
        · have := hall m h; rw [h1 m (Nat.le_refl _)] at this; cases this
        · omega
       subst hie
       obtain ⟨t', rfl⟩ : ∃ t', t = t' + 1 := ⟨t - 1, by omega⟩
       have hz := h2.size
       refine wpOp_mono (fun a2 w2 h => Or.inr ⟨1, by omega, by simpa using hz, h2.closed.set hi, fun j hj => ?_, fun j hj => ?_, by simpa using h⟩) (hlast listed a' w h2 h0 hall)
       · by_cases hji : j = i
         · subst hji; exact getD_set_eq (by omega)
         · rw [getD_set_ne hji]; exact hall j (by omega)
       · rw [getD_set_ne (by omega)]; exact h1 j (by omega)
   · have hlt := ready_lt hi
     have hun := ready_un' hi
     have hge : m + k ≤ i := by
        rcases Nat.lt_or_ge i (m + k) with h | h
        · rw [h1 i h] at hun; cases hun
        · exact h
     have hall := tail_all ht (by omega) (by omega) hc hi
     have hie : i = m + k := by
        rcases Nat.lt_or_ge (m + k) i with h | h
        · have := hall _ h; rw [h2 _ (Nat.le_refl _)] at this; cases this
        · omega
     subst hie
     obtain ⟨t', ht'⟩ : ∃ t', t - k = t' + 1 := ⟨t - k - 1, by omega⟩
     rw [ht'] at h3
     refine wpOp_mono (fun a2 w2 h => Or.inr ⟨k + 1, by omega, by simpa using hsz, hc.set hi, fun j hj => ?_, fun j hj => ?_, by rw [show t - (k + 1) = t' by omega]; exact h⟩) h3
     · by_cases hji : j = m + k
       · subst hji; exact getD_set_eq (by omega)
       · rw [getD_set_ne hji]; exact hall j (by omega)
     · rw [getD_set_ne (by omega)]; exact h2 j (by omega)
 · rintro listed a' w (⟨h1, h2, h0⟩ | ⟨k, hk, hsz, hc, h1, h2, h3⟩) hr
   · have hall := all_listed h2.size hb hr
     have ht0 : t = 0 := by
        rcases Nat.eq_zero_or_pos t with h | h
        · exact h
        · have := hall m (by omega); rw [h1 m (Nat.le_refl _)] at this; cases this
     subst ht0
     exact hlast listed a' w h2 h0 (fun j hj => hall j (by omega))
   · have hall := all_listed hsz hb hr
     have hkt : k = t := by
        rcases Nat.lt_or_ge k t with h | h
        · have := hall (m + k) (by omega); rw [h2 _ (Nat.le_refl _)] at this; cases this
        · omega
     subst hkt
     rw [Nat.sub_self] at h3
     exact h3
theorem wp_region_post {id : Nat} {ops : Array Oper} {b : Bool} {Q : Exit → Act → World → Prop} {a : Act} {w : World} (F : Act → Act → World → Prop) (h1 : (Code.region id ops b).wp P (fun e a' w' => e = .normal ∧ F a a' w') a w) (h2 : ∀ a' w', F a a' w' → Q .normal a' w') : (Code.region id ops b).wp P Q a w :=
 Code.wp_mono (fun e a' w' ⟨he, h⟩ => by subst he; exact h2 a' w' h) h1
end
structure Rel where
 R : Value → World → Prop
 mono : ∀ v W W', R v W → Below W.heap.size W W' → R v W'
def Rel.val (u : Value) : Rel := ⟨fun v _ => v = u, fun _ _ _ h _ => h⟩
def RelR (L : List Rel) (i : Nat) (v : Value) (W : World) : Prop := (L.getD i (Rel.val undef)).R v W
theorem RelR.mono {L : List Rel} {W W' : World} (hb : Below W.heap.size W W') (i : Nat) (v : Value) (h : RelR L i v W) : RelR L i v W' := (L.getD i (Rel.val undef)).mono v W W' h hb
end Go.Gb
