/- Texts of this proof, one behind the other. -/
import Derived.Test.YtmigpoiajkihhaaGreatDoorMz4q
import Derived.Lib.BufferOwn
/- words.value, words.Trim and words.Read: walks. -/
namespace Go.Proofs.YtmigpoiajkihhaaGreatDoor
open Go.RowKit Go.Gb
theorem Tryz.info141 : (Tryz.prog.info? 141).map (fun i => (i.zero, i.size, i.bytes)) = some (some (.int .u64 0), 1, 8) := by kernel_rfl
theorem ret_slice {a : Option Addr} {n m c : Nat} (h : n = m) : Ending.returned (.slice a n c) = .returned (.slice a m c) := by rw [h]
theorem dval_take_succ {s : ByteArray} {k : Nat} (hk : k < s.size) (h : s.data.toList.all isD = true) :
  dval (s.data.toList.take (k + 1)) = dval (s.data.toList.take k) * 10 + (s[k].toNat - 48) ∧ 48 ≤ s[k].toNat ∧ s[k].toNat ≤ 57 := by
 have h1 := List.all_eq_true.1 h (s.data.toList[k]'(by rw [size_list]; exact hk)) (List.getElem_mem _)
 rw [isD_iff, get_list s k hk] at h1
 rw [List.take_succ_eq_append_getElem (by rw [size_list]; exact hk), dval_snoc, get_list s k hk]
 exact ⟨rfl, h1⟩
theorem dval_take_lt {s : ByteArray} (h : s.data.toList.all isD = true) {k : Nat} (hk : k ≤ 8) : dval (s.data.toList.take k) < 100000000 := by
 have h1 := dval_lt (s.data.toList.take k) (by
  rw [List.all_eq_true] at h ⊢
  exact fun c hc => h c (List.mem_of_mem_take hc))
 have h2 : 10 ^ (s.data.toList.take k).length ≤ 10 ^ 8 := Nat.pow_le_pow_right (by decide) (by rw [List.length_take]; omega)
 omega
set_option maxHeartbeats 400000 in
theorem value_any (s : ByteArray) (h : s.data.toList.all isD = true) (hl : s.size ≤ 9) (w : World) :
  Calls Tryz.prog 199 #[.string s] w fun e w' => e = .returned (.int .u64 ((dval s.data.toList : Nat) : Int)) ∧ w = w' := by
 have H := Lib.hid h
 clear h
 go_enter Tryz.func199, Tryz.ntmps199
 go_wp2
 go_loop [3, 7, 4] (fun n i _ => ∃ (k m : Nat), k ≤ s.size ∧ i = .int .i64 k ∧ n = .int .u64 (m : Int) ∧ Hid (m = dval (s.data.toList.take k))) (fun _ i _ => s.size - (intOf i).toNat)
 case atStart => exact ⟨0, 0, Nat.zero_le _, rfl, rfl, rfl⟩
 case round =>
  obtain ⟨k, m, hk, rfl, rfl, hm⟩ := hrel
  by_cases hlt : k < s.size
  · obtain ⟨h1, h2, h3⟩ := dval_take_succ hlt H.out
   have h4 : m < 100000000 := by rw [hm.out]; exact dval_take_lt H.out (by omega)
   have H1 := Lib.hid h1
   clear h1
   go_wp2
   go_round
   case rel => exact ⟨k + 1, m * 10 + (s[k].toNat - 48), by omega, by go_num, by congr 1; omega, by have := hm.out; subst this; exact H1.out.symm⟩
   case measure => simp [intOf]; omega
  · have hk' : k = s.size := by omega
   have HK := Lib.hid hk'
   clear hk'
   go_wp2
   go_ret
   refine ⟨ret_int ?_, rfl⟩
   rw [hm.out, HK.out, List.take_of_length_le (by rw [size_list]; exact Nat.le_refl _)]
def Zs (xs : List Nat) (n : Nat) : Prop := n ≤ xs.length ∧ ∀ i, n ≤ i → i < xs.length → xs.getD i 0 = 0
theorem Zs.start (xs : List Nat) : Zs xs xs.length := ⟨Nat.le_refl _, fun i h1 h2 => by omega⟩
theorem Zs.step {xs : List Nat} {n : Nat} (h : Zs xs n) (h0 : xs.getD (n - 1) 0 = 0) : Zs xs (n - 1) := by
 refine ⟨by have := h.1; omega, fun i h1 h2 => ?_⟩
 by_cases hi : n ≤ i
 · exact h.2 i hi h2
 · obtain rfl : i = n - 1 := by omega
  exact h0
theorem Zs.fin {xs : List Nat} {n : Nat} (h : Zs xs n) (hB : ∀ x ∈ xs, x < BB) (hl : n = 0 ∨ xs.getD (n - 1) 0 ≠ 0) : n = (digs (wval xs)).length := by
 rw [digs_take h.1 hB h.2 hl, List.length_take, Nat.min_eq_left h.1]
set_option maxHeartbeats 800000 in
theorem Trim_some (b o c : Nat) (xs : List Nat) (hB : ∀ x ∈ xs, x < BB) (hxc : xs.length ≤ c) (hcm : c ≤ maxLen) (w : World)
  (hc : ∀ i, i < xs.length → w.cell? ⟨b, o + i, none⟩ = some (.int .u64 ((xs.getD i 0 : Nat) : Int))) :
  Calls Tryz.prog 194 #[.slice (some ⟨b, o, none⟩) xs.length c] w fun e w' => e = .returned (.slice (some ⟨b, o, none⟩) (digs (wval xs)).length c) ∧ w = w' := by
 unfold maxLen at hcm
 have HC := Lib.hid hc
 have HB := Lib.hid hB
 clear hc hB
 go_enter Tryz.func194, Tryz.ntmps194
 go_wp2
 go_loop [0] (fun x => ∃ n : Nat, n ≤ c ∧ x = .slice (some ⟨b, o, none⟩) n c ∧ Zs xs n) (fun x => match x with | .slice _ n _ => n | _ => 0)
 case atStart => exact ⟨xs.length, hxc, rfl, Zs.start xs⟩
 case round =>
  obtain ⟨n, hn, rfl, hz⟩ := hrel
  by_cases h0 : n = 0
  · have HF := Lib.hid (hz.fin HB.out (Or.inl h0))
   subst h0
   go_wp2
   go_ret
   exact ⟨ret_slice HF.out, rfl⟩
  · have hp : 0 < n := by omega
   have hcell := HC.out (n - 1) (by have := hz.1; omega)
   by_cases hd : xs.getD (n - 1) 0 = 0
   · rw [hd] at hcell
    have hz' := hz.step hd
    clear hd
    go_wp2
    go_round
    case rel => exact ⟨n - 1, by omega, rfl, hz'⟩
    case measure => simp; omega
   · have HF := Lib.hid (hz.fin HB.out (Or.inr hd))
    obtain ⟨d, hdd⟩ : ∃ d, d = xs.getD (n - 1) 0 := ⟨_, rfl⟩
    rw [← hdd] at hcell hd
    have hb : ((d : Int) == 0) = false := by simpa using hd
    have hd' : 0 < d := by omega
    clear hd hdd
    go_wp2
    go_ret
    exact ⟨ret_slice HF.out, rfl⟩
theorem Trim_own (k : TypeId) (B : Nat) (v : Value) (xs : List Nat) (hB : ∀ x ∈ xs, x < BB) (w : World) (h : Own .u64 k B w v xs) :
  Calls Tryz.prog 194 #[v] w fun e w' => ∃ v', e = .returned v' ∧ Own .u64 k B w v' (digs (wval xs)) ∧ w = w' := by
 have hd : xs.take (digs (wval xs)).length = digs (wval xs) ∧ (digs (wval xs)).length ≤ xs.length := by
  have hlen : (digs (wval xs)).length ≤ xs.length := digs_length_le (wval_lt xs hB)
  refine ⟨?_, hlen⟩
  generalize hm : (digs (wval xs)).length = m at hlen
  have key : ∀ (n : Nat), Zs xs n → digs (wval xs) = xs.take (digs (wval xs)).length := by
   intro n
   induction n with
   | zero => intro hz; have e := digs_take hz.1 hB hz.2 (Or.inl rfl); have := hz.fin hB (Or.inl rfl); rw [← this]; exact e
   | succ n ih =>
    intro hz
    by_cases h0 : xs.getD n 0 = 0
    · exact ih (by have := hz.step (by simpa using h0); simpa using this)
    · have e := digs_take hz.1 hB hz.2 (Or.inr (by simpa using h0))
     have := hz.fin hB (Or.inr (by simpa using h0))
     rw [← this]; exact e
  rw [← hm]
  exact (key _ (Zs.start xs)).symm
 have h0 := h
 obtain ⟨h1, h2⟩ := h
 rcases h2 with ⟨rfl, h3⟩ | ⟨g, cap, cur, rfl, hg, hh, hn, hc, hs, ht⟩
 · obtain rfl : xs = [] := List.length_eq_zero_iff.1 h3
  have hz : digs (wval []) = [] := by unfold wval; exact digs_zero
  rw [hz]
  clear hd hB h0 hz
  go_enter Tryz.func194, Tryz.ntmps194
  go_wp2
  refine wp_loop_rounds 1 ?_
  rw [rounds_succ]
  go_wp2
  go_ret
  exact ⟨_, rfl, Own.nil _ _ _ _, rfl⟩
 · have hrd : ∀ i, i < xs.length → w.cell? ⟨g, 0 + i, none⟩ = some (.int .u64 ((xs.getD i 0 : Nat) : Int)) := by
   rcases h0.rd with ⟨hv, _⟩ | ⟨b, o, c, hv, _, _, _, h5⟩
   · injection hv with hv; cases hv
   · injection hv with e1 e2 e3
    injection e1 with e1
    injection e1 with e4 e5 e6
    subst e4 e5 e3
    exact h5
  refine (Trim_some g 0 cap xs hB hn hc w hrd).mono fun e w' ⟨he, hw⟩ => ⟨_, he, ?_, hw⟩
  have := h0.take (digs (wval xs)).length hd.2
  rwa [hd.1] at this
end Go.Proofs.YtmigpoiajkihhaaGreatDoor
/- A block of the call's own that is known whole; words.carryOn: walks. -/
namespace Go.Proofs.YtmigpoiajkihhaaGreatDoor
open Go.RowKit Go.Gb
def Blk (w : World) (g : Nat) (zs : List Nat) : Prop := w.heap[g]? = some (.cells (cls .u64 zs).toArray 141 (0, 0))
theorem Blk.lt {w : World} {g : Nat} {zs : List Nat} (h : Blk w g zs) : g < w.heap.size := (Array.getElem?_eq_some_iff.1 h).1
theorem Blk.cell {w : World} {g : Nat} {zs : List Nat} (h : Blk w g zs) {i : Nat} (hi : i < zs.length) : w.cell? ⟨g, i, none⟩ = some (.int .u64 ((zs.getD i 0 : Nat) : Int)) := by
 unfold Blk at h
 have := cls_get (k := .u64) hi
 simp only [World.cell?, h]
 simpa using this
theorem Blk.free {w : World} {g : Nat} {zs : List Nat} (h : Blk w g zs) (i : Nat) : w.frozen? ⟨g, i, none⟩ = false := by
 unfold Blk at h
 simp only [World.frozen?, h]
 simp
theorem Blk.set {w : World} {g : Nat} {zs : List Nat} (h : Blk w g zs) (i v : Nat) : Blk (w.setCell ⟨g, i, none⟩ (.int .u64 ((v : Nat) : Int))) g (zs.set i v) := by
 unfold Blk at *
 simp only [World.setCell, Array.getElem?_modify, h]
 simp [cls_set]
theorem Blk.grown {w w' : World} {g : Nat} {zs : List Nat} (h : Blk w g zs) {row : Option Nat} (hg : w.grownBy w' row) (hne : row ≠ some g) : Blk w' g zs := by
 unfold Blk at *
 rw [hg.block g (Array.getElem?_eq_some_iff.1 h).1 (fun e => hne e.symm)]
 exact h
theorem Blk.below {w w' : World} {g : Nat} {zs : List Nat} (h : Blk w g zs) (hb : Below w.heap.size w w') : Blk w' g zs := by
 unfold Blk at *
 rw [hb.block g (Array.getElem?_eq_some_iff.1 h).1]
 exact h
theorem Blk.own {w : World} {g B : Nat} {zs : List Nat} (h : Blk w g zs) (hB : B ≤ g) (hm : zs.length ≤ maxLen) (n : Nat) (hn : n ≤ zs.length) : Own .u64 141 B w (.slice (some ⟨g, 0, none⟩) n zs.length) (zs.take n) := by
 refine ⟨by simp [cls], Or.inr ⟨g, zs.length, (cls .u64 zs).toArray, ?_, hB, h, ?_, hm, by simp [cls], ?_⟩⟩
 · rw [List.length_take, Nat.min_eq_left hn]
 · rw [List.length_take]; omega
 · rw [cls_take, List.length_take, Nat.mul_one, Nat.min_eq_left hn]
theorem Blk.of_made {w : World} {B g n : Nat} {xs : List Value} {zs : List Nat} (h : w.ownsRow B 141 1 (.slice (some ⟨g, 0, none⟩) n n) n xs) (hx : xs = cls .u64 zs) : Blk w g zs := by
 obtain ⟨h1, h2⟩ := h
 rcases h2 with ⟨h2, _⟩ | ⟨g', cap, cur, hv, hg, hh, hn, hc, hs, ht⟩
 · cases h2
 · injection hv with e1 e2 e3
  injection e1 with e1
  injection e1 with e4 e5 e6
  subst e4 e3
  unfold Blk
  rw [hh]
  rw [Nat.mul_one] at ht hs
  rw [List.take_of_length_le (by simpa using Nat.le_of_eq hs)] at ht
  congr 2
  rw [← hx, ← ht]
theorem set_mid (pre ys r : List Nat) (x v : Nat) : (pre ++ (ys ++ (x :: r))).set (pre.length + ys.length) v = pre ++ ((ys ++ [v]) ++ r) := by
 simp
theorem get_mid (pre ys r : List Nat) (x : Nat) : (pre ++ (ys ++ (x :: r))).getD (pre.length + ys.length) 0 = x := by
 simp [List.getD]
set_option maxHeartbeats 1000000 in
theorem carryOn_any (g c : Nat) (pre xs post : List Nat) (hM : ∀ i, i < xs.length → xs.getD i 0 ≤ MM 18) (hl : xs.length ≤ 1000000) (w : World) (hb : Blk w g (pre ++ (xs ++ post))) :
  Calls Tryz.prog 245 #[.slice (some ⟨g, pre.length, none⟩) xs.length c] w fun e w' => e = .returned (.tuple #[]) ∧ (∃ (ys : List Nat) (k : Nat), ys.length = xs.length ∧ (∀ y ∈ ys, y < BB) ∧ wval ys + BB ^ xs.length * k = wval xs ∧ Blk w' g (pre ++ (ys ++ post))) ∧ w.grownBy w' (some g) := by
 have HM := Lib.hid hM
 have HB := Lib.hid hb
 clear hM hb
 go_enter Tryz.func245, Tryz.ntmps245
 go_wp2
 go_loopw [2, 3, 4, 7] (fun cc _ _ ii wr => ∃ (i k : Nat) (ys : List Nat), i ≤ xs.length ∧ ii = .int .i64 i ∧ cc = .int .u64 (k : Int) ∧ CarInv xs ys i k ∧ Hid (Blk wr g (pre ++ (ys ++ (xs.drop i ++ post)))) ∧ Hid (w.grownBy wr (some g))) (fun _ _ _ ii _ => xs.length - (intOf ii).toNat)
 case atStart => exact ⟨0, 0, [], Nat.zero_le _, rfl, rfl, CarInv.start xs, HB, World.grownBy.refl _ _⟩
 case round =>
  obtain ⟨i, k, ys, hi, rfl, rfl, hc, hB, hG⟩ := hrel
  by_cases hlt : i < xs.length
  · obtain ⟨hc', hbd⟩ := hc.step hlt (HM.out i hlt)
   have hx0 := Lib.hid hc.1
   have hdr := drop_consD hlt
   have hB' := hB.out
   rw [hdr, List.cons_append] at hB'
   have hyl : ys.length = i := hc.1
   have hcell := hB'.cell (i := pre.length + ys.length) (by simp)
   have hfree := hB'.free (pre.length + ys.length)
   have hset := hB'.set (pre.length + ys.length) ((xs.getD i 0 + k) % BB)
   rw [get_mid] at hcell
   rw [set_mid] at hset
   rw [hyl] at hcell hfree hset
   have HS := Lib.hid hset
   have hG' := Lib.hid (Lib.grownBy_setB hG.out (pre.length + i) (.int .u64 (((xs.getD i 0 + k) % BB : Nat) : Int)))
   have HC := Lib.hid hc'
   clear hset hdr hB' hyl hc'
   generalize xs.getD i 0 = x at *
   have hmod : ((x : Int) + (k : Int)) % 1000000000 = (((x + k) % BB : Nat) : Int) := by rw [BB_eq]; omega
   have hdiv : ((x : Int) + (k : Int)) / 1000000000 = (((x + k) / BB : Nat) : Int) := by rw [BB_eq]; omega
   have HMd := Lib.hid hmod
   have HDv := Lib.hid hdiv
   clear hmod hdiv
   go_wp2
   go_roundw
   case rel => exact ⟨i + 1, (x + k) / BB, ys ++ [(x + k) % BB], by omega, by go_num, by rw [HDv.out], HC.out, by rw [HMd.out]; exact HS.out, by rw [HMd.out]; exact hG'.out⟩
   case measure => simp [intOf]; omega
  · have hi' : i = xs.length := by omega
   have hfin := hc
   rw [hi'] at hfin
   have hfin := hfin.done
   have hB' := hB.out
   rw [hi', List.drop_of_length_le (Nat.le_refl _), List.nil_append] at hB'
   have HF := Lib.hid hfin
   have HB' := Lib.hid hB'
   clear hfin hB' hi'
   go_wp2
   go_end0
   obtain ⟨h1, h2, h3⟩ := HF.out
   exact ⟨rfl, ⟨ys, k, h1, h2, h3, HB'.out⟩, hG.out⟩
end Go.Proofs.YtmigpoiajkihhaaGreatDoor
/- words.Multiply: walks. -/
namespace Go.Proofs.YtmigpoiajkihhaaGreatDoor
open Go.RowKit Go.Gb
theorem madeCells_u64 (n : Nat) : (madeCells #[Value.int .u64 0] n).toList = cls .u64 (List.replicate n 0) := by
 apply List.ext_getElem
 · simp [size_madeCells, cls]
 · intro i h1 h2
  simp [madeCells, cls, Nat.mod_one]
set_option maxHeartbeats 2000000 in
set_option maxRecDepth 100000 in
theorem Multiply_some (b1 o1 c1 b2 o2 c2 : Nat) (xs ys : List Nat) (hx : ∀ x ∈ xs, x < BB) (hy : ∀ y ∈ ys, y < BB) (hlx : xs.length ≤ 100000) (hly : ys.length ≤ 100000) (w : World)
  (hb1 : b1 < w.heap.size) (hb2 : b2 < w.heap.size)
  (hcx : ∀ i, i < xs.length → w.cell? ⟨b1, o1 + i, none⟩ = some (.int .u64 ((xs.getD i 0 : Nat) : Int)))
  (hcy : ∀ i, i < ys.length → w.cell? ⟨b2, o2 + i, none⟩ = some (.int .u64 ((ys.getD i 0 : Nat) : Int))) :
  Calls Tryz.prog 218 #[.slice (some ⟨b1, o1, none⟩) xs.length c1, .slice (some ⟨b2, o2, none⟩) ys.length c2] w fun e w' =>
   ∃ v, e = .returned v ∧ Own .u64 141 w.heap.size w' v (digs (wval xs * wval ys)) ∧ Below w.heap.size w w' := by
 obtain ⟨i0, hi, hz0, hz1, hz2⟩ := info_parts Tryz.info141
 have HX := Lib.hid hx
 have HY := Lib.hid hy
 have HCX := Lib.hid hcx
 have HCY := Lib.hid hcy
 clear hx hy hcx hcy
 go_enter Tryz.func218, Tryz.ntmps218
 go_wp2_with (at_make; refine wpList_make_full _ rfl _ _ 138 rfl w.heap.size 141 i0 (.int .u64 0) 1 Tryz.underlying138 hi hz0 hz1 _ _ _ _ (xs.length + ys.length) rfl rfl (by omega) (by omega) ?b2 ?b3 (Nat.le_refl _) ?_)
 case b2 => rw [hz2]; omega
 case b3 => unfold maxLen; omega
 intro w0 hown0 hgrow0
 have hB0 : Blk w0 w.heap.size (List.replicate (xs.length + ys.length) 0) := Blk.of_made hown0 (madeCells_u64 _)
 have hnx0 : Below w.heap.size w w0 := (Below.refl _ _).grown hgrow0 (Nat.le_refl _) (fun k h => by cases h)
 have HB0 := Lib.hid hB0
 have HN0 := Lib.hid hnx0
 clear hown0 hgrow0 hB0 hnx0
 go_wp2
 go_loopw [19] (fun ii wr => ∃ (i : Nat) (os : List Nat), i ≤ xs.length ∧ ii = .int .i64 i ∧ Hid (MulInv xs ys os i) ∧ Hid (Blk wr w.heap.size os) ∧ Hid (Below w.heap.size w wr)) (fun ii _ => xs.length - (intOf ii).toNat)
 case atStart => exact ⟨0, _, Nat.zero_le _, rfl, MulInv.start xs ys, HB0, HN0⟩
 case round =>
  obtain ⟨i, os, hi', rfl, hm, hb, hn⟩ := hrel
  by_cases hlt : i < xs.length
  · have hcell := (hn.out.cell (p := ⟨b1, o1 + i, none⟩) hb1).trans (HCX.out i hlt)
   have hne : ¬ xs.length + ys.length = i := by omega
   obtain ⟨xi, hxi⟩ : ∃ xi, xi = xs.getD i 0 := ⟨_, rfl⟩
   rw [← hxi] at hcell
   have HXI := Lib.hid hxi
   clear hxi
   have hrow := hm.out.row
   have HR := Lib.hid hrow
   clear hrow
   go_wp2
   obtain ⟨wo, rfl⟩ : ∃ wo : World, wo = wr := ⟨_, rfl⟩
   go_loopw [33] (fun kk wr => ∃ (k : Nat) (os : List Nat), k ≤ ys.length ∧ kk = .int .i64 k ∧ Hid (RowInv xs ys os i k) ∧ Hid (Blk wr w.heap.size os) ∧ Hid (Below w.heap.size w wr)) (fun kk _ => ys.length - (intOf kk).toNat)
   case atStart => exact ⟨0, os, Nat.zero_le _, rfl, HR, hb, hn⟩
   case round =>
    clear HR hb hn hm hcell
    obtain ⟨k, os, hk', rfl, hm, hb, hn⟩ := hrel
    by_cases hkt : k < ys.length
    · have hcell := (hn.out.cell (p := ⟨b2, o2 + k, none⟩) hb2).trans (HCY.out k hkt)
     obtain ⟨hm1, hbd⟩ := hm.out.step hlt hkt HX.out HY.out
     have hbd' := Nat.le_trans hbd (MM_le (r := 18) (by omega))
     have hlo := hm.out.1
     have hco := hb.out.cell (i := i + k) (by rw [hlo]; omega)
     have hfo := hb.out.free (i + k)
     have hset := hb.out.set (i + k) (os.getD (i + k) 0 + xs.getD i 0 * ys.getD k 0)
     have hbel := hn.out.setCell (p := ⟨w.heap.size, i + k, none⟩) (Nat.le_refl _) (.int .u64 ((os.getD (i + k) 0 + xs.getD i 0 * ys.getD k 0 : Nat) : Int))
     rw [← HXI.out] at hm1 hbd' hset hbel
     have HM1 := Lib.hid hm1
     have HS := Lib.hid hset
     have HBL := Lib.hid hbel
     clear hm1 hbd hlo hset hbel
     generalize ys.getD k 0 = yk at *
     generalize os.getD (i + k) 0 = ok at *
     obtain ⟨p, hp⟩ : ∃ p : Nat, p = xi * yk := ⟨_, rfl⟩
     rw [← hp] at hbd'
     have hpi : (xi : Int) * (yk : Int) = (p : Int) := by rw [hp]; exact (Int.natCast_mul _ _).symm
     have HP := Lib.hid hp
     clear hp
     go_wp2
     go_roundw
     case rel => exact ⟨k + 1, os.set (i + k) (ok + p), by omega, by go_num, by rw [HP.out]; exact HM1, by have h := HS.out; rw [← HP.out, Int.natCast_add] at h; exact h, by have h := HBL.out; rw [← HP.out, Int.natCast_add] at h; exact h⟩
     case measure => simp [intOf]; omega
    · have hk2 : k = ys.length := by omega
     rw [hk2] at hm
     clear hk2
     have hol := hm.out.1
     by_cases h17 : i % 18 = 17
     · have hb17 : ((i : Int) % 18 == 17) = true := by simp; omega
      have hpre : (os.take (i - 17)).length = i - 17 := by rw [List.length_take]; omega
      have hca := carryOn_any w.heap.size (xs.length + ys.length - (i - 17)) (os.take (i - 17)) (os.drop (i - 17)) [] (fun j hj => by
       have h3 := hm.out.2.2.1 (i - 17 + j) (by simp at hj; omega)
       have h4 : MM (i % 18 + 1) ≤ MM 18 := by unfold MM; omega
       have h5 : (os.drop (i - 17)).getD j 0 = os.getD (i - 17 + j) 0 := by simp [List.getD]
       rw [h5]; omega) (by simp; omega) wr (by rw [List.append_nil, List.take_append_drop]; exact hb.out)
      rw [hpre, List.length_drop, hol] at hca
      have HCA := Lib.hid hca
      have hge : 17 ≤ i := by omega
      have hne17 : ¬ xs.length + ys.length = i - 17 := by omega
      have H17 := Lib.hid h17
      clear hca h17
      go_wp2_with fail
      rw [show ((i : Int) - 18 + 1).toNat = i - 17 from by omega]
      refine HCA.out.mono ?_
      rintro e w1 ⟨rfl, ⟨zs, q, hz1', hz2', hz3', hz4'⟩, hgr⟩
      have hnx := Lib.hid (hn.out.grown hgr (by have := hn.out.size; omega) (fun k h => by cases h; exact Nat.le_refl _))
      have hmx := Lib.hid (hm.out.carried hlt H17.out HX.out HY.out (by rw [hz1', hol]) hz2' (by rw [hz1']; exact hz3'))
      rw [List.append_nil] at hz4'
      have hbx := Lib.hid hz4'
      clear hz1' hz2' hz3' hz4' hgr
      go_wp2
      go_roundw
      case rel => exact ⟨i + 1, _, by omega, by go_num, hmx, hbx, hnx⟩
      case measure => simp [intOf]; omega
     · have hb17 : ((i : Int) % 18 == 17) = false := by simp; omega
      have HNX := Lib.hid (hm.out.next hlt h17)
      clear h17
      go_wp2
      go_roundw
      case rel => exact ⟨i + 1, os, by omega, by go_num, HNX, hb, hn⟩
      case measure => simp [intOf]; omega
  · have hi2 : i = xs.length := by omega
   rw [hi2] at hm
   clear hi2
   have hol := hm.out.1
   have hca := carryOn_any w.heap.size (xs.length + ys.length) [] os [] (fun j hj => by
    have h3 := hm.out.2.2.1 j hj
    have h4 : MM (xs.length % 18) ≤ MM 18 := by unfold MM; omega
    omega) (by omega) wr (by rw [List.append_nil]; exact hb.out)
   rw [hol] at hca
   have HCA := Lib.hid hca
   clear hca
   go_wp2_with fail
   refine HCA.out.mono ?_
   rintro e w1 ⟨rfl, ⟨zs, q, hz1', hz2', hz3', hz4'⟩, hgr⟩
   have hnx := Lib.hid (hn.out.grown hgr (by have := hn.out.size; omega) (fun k h => by cases h; exact Nat.le_refl _))
   have hval := hm.out.done HX.out HY.out (by rw [hol]; exact hz3')
   rw [List.append_nil] at hz4'
   have hown := Blk.own (show Blk w1 w.heap.size zs from hz4') (Nat.le_refl _) (by unfold maxLen; omega) zs.length (Nat.le_refl _)
   rw [List.take_of_length_le (Nat.le_refl _)] at hown
   have htr := Trim_own 141 w.heap.size _ zs hz2' w1 hown
   rw [hz1', hval] at htr
   have HTR := Lib.hid htr
   clear hz1' hz2' hz3' hz4' hgr hval hown htr
   go_wp2_with fail
   refine HTR.out.mono ?_
   rintro e w2 ⟨v', rfl, hown, rfl⟩
   go_wp2
   go_ret
   exact ⟨v', rfl, hown, hnx.out⟩
set_option maxHeartbeats 1000000 in
set_option maxRecDepth 100000 in
theorem Multiply_nil1 (a1 a2 : Option Addr) (c1 m c2 : Nat) (hly : m ≤ 100000) (w : World) :
  Calls Tryz.prog 218 #[.slice a1 0 c1, .slice a2 m c2] w fun e w' =>
   ∃ v, e = .returned v ∧ Own .u64 141 w.heap.size w' v (digs 0) ∧ Below w.heap.size w w' := by
 obtain ⟨i0, hi, hz0, hz1, hz2⟩ := info_parts Tryz.info141
 go_enter Tryz.func218, Tryz.ntmps218
 go_wp2_with (at_make; refine wpList_make_full _ rfl _ _ 138 rfl w.heap.size 141 i0 (.int .u64 0) 1 Tryz.underlying138 hi hz0 hz1 _ _ _ _ m rfl rfl (by omega) (by omega) ?b2 ?b3 (Nat.le_refl _) ?_)
 case b2 => rw [hz2]; omega
 case b3 => unfold maxLen; omega
 intro w0 hown0 hgrow0
 have hB0 : Blk w0 w.heap.size (List.replicate m 0) := Blk.of_made hown0 (madeCells_u64 _)
 have hnx0 : Below w.heap.size w w0 := (Below.refl _ _).grown hgrow0 (Nat.le_refl _) (fun k h => by cases h)
 have hca := carryOn_any w.heap.size m [] (List.replicate m 0) [] (fun j hj => by
  have : (List.replicate m 0).getD j 0 = 0 := by rw [getD_of_lt hj]; simp
  rw [this]; omega) (by simp; omega) w0 (by rw [List.append_nil]; exact hB0)
 rw [List.length_replicate] at hca
 have HCA := Lib.hid hca
 have HN0 := Lib.hid hnx0
 clear hown0 hgrow0 hB0 hnx0 hca
 go_wp2
 refine wp_loop_rounds 1 ?_
 rw [rounds_succ]
 go_wp2_with fail
 refine HCA.out.mono ?_
 rintro e w1 ⟨rfl, ⟨zs, q, hz1', hz2', hz3', hz4'⟩, hgr⟩
 have hnx := Lib.hid (HN0.out.grown hgr HN0.out.size (fun k h => by cases h; exact Nat.le_refl _))
 have hval : wval zs = 0 := by
  have := wval_zeros [] m
  simp only [List.nil_append] at this
  rw [this] at hz3'
  have h0 : wval [] = 0 := rfl
  omega
 rw [List.append_nil] at hz4'
 have hown := Blk.own (show Blk w1 w.heap.size zs from hz4') (Nat.le_refl _) (by unfold maxLen; omega) zs.length (Nat.le_refl _)
 rw [List.take_of_length_le (Nat.le_refl _)] at hown
 have htr := Trim_own 141 w.heap.size _ zs hz2' w1 hown
 rw [hz1', hval] at htr
 have HTR := Lib.hid htr
 clear hz1' hz2' hz3' hz4' hgr hval hown htr
 go_wp2_with fail
 refine HTR.out.mono ?_
 rintro e w2 ⟨v', rfl, hown, rfl⟩
 go_wp2
 go_ret
 exact ⟨v', rfl, hown, hnx.out⟩
set_option maxHeartbeats 2000000 in
set_option maxRecDepth 100000 in
theorem Multiply_nil2 (b1 o1 c1 c2 : Nat) (a2 : Option Addr) (xs ys : List Nat) (hy0 : ys = []) (hx : ∀ x ∈ xs, x < BB) (hy : ∀ y ∈ ys, y < BB) (hlx : xs.length ≤ 100000) (hly : ys.length ≤ 100000) (w : World)
  (hb1 : b1 < w.heap.size)
  (hcx : ∀ i, i < xs.length → w.cell? ⟨b1, o1 + i, none⟩ = some (.int .u64 ((xs.getD i 0 : Nat) : Int))) :
  Calls Tryz.prog 218 #[.slice (some ⟨b1, o1, none⟩) xs.length c1, .slice a2 ys.length c2] w fun e w' =>
   ∃ v, e = .returned v ∧ Own .u64 141 w.heap.size w' v (digs (wval xs * wval ys)) ∧ Below w.heap.size w w' := by
 obtain ⟨i0, hi, hz0, hz1, hz2⟩ := info_parts Tryz.info141
 have HX := Lib.hid hx
 have HY := Lib.hid hy
 have HCX := Lib.hid hcx
 have hyl0 : ys.length ≤ 0 := by rw [hy0]; exact Nat.le_refl _
 clear hx hy hcx hy0
 go_enter Tryz.func218, Tryz.ntmps218
 go_wp2_with (at_make; refine wpList_make_full _ rfl _ _ 138 rfl w.heap.size 141 i0 (.int .u64 0) 1 Tryz.underlying138 hi hz0 hz1 _ _ _ _ (xs.length + ys.length) rfl rfl (by omega) (by omega) ?b2 ?b3 (Nat.le_refl _) ?_)
 case b2 => rw [hz2]; omega
 case b3 => unfold maxLen; omega
 intro w0 hown0 hgrow0
 have hB0 : Blk w0 w.heap.size (List.replicate (xs.length + ys.length) 0) := Blk.of_made hown0 (madeCells_u64 _)
 have hnx0 : Below w.heap.size w w0 := (Below.refl _ _).grown hgrow0 (Nat.le_refl _) (fun k h => by cases h)
 have HB0 := Lib.hid hB0
 have HN0 := Lib.hid hnx0
 clear hown0 hgrow0 hB0 hnx0
 go_wp2
 go_loopw [19] (fun ii wr => ∃ (i : Nat) (os : List Nat), i ≤ xs.length ∧ ii = .int .i64 i ∧ Hid (MulInv xs ys os i) ∧ Hid (Blk wr w.heap.size os) ∧ Hid (Below w.heap.size w wr)) (fun ii _ => xs.length - (intOf ii).toNat)
 case atStart => exact ⟨0, _, Nat.zero_le _, rfl, MulInv.start xs ys, HB0, HN0⟩
 case round =>
  obtain ⟨i, os, hi', rfl, hm, hb, hn⟩ := hrel
  by_cases hlt : i < xs.length
  · have hcell := (hn.out.cell (p := ⟨b1, o1 + i, none⟩) hb1).trans (HCX.out i hlt)
   have hne : ¬ xs.length + ys.length = i := by omega
   obtain ⟨xi, hxi⟩ : ∃ xi, xi = xs.getD i 0 := ⟨_, rfl⟩
   rw [← hxi] at hcell
   have HXI := Lib.hid hxi
   clear hxi
   have hrow := hm.out.row
   have HR := Lib.hid hrow
   clear hrow
   go_wp2
   obtain ⟨wo, rfl⟩ : ∃ wo : World, wo = wr := ⟨_, rfl⟩
   go_loopw [33] (fun kk wr => ∃ (k : Nat) (os : List Nat), k ≤ ys.length ∧ kk = .int .i64 k ∧ Hid (RowInv xs ys os i k) ∧ Hid (Blk wr w.heap.size os) ∧ Hid (Below w.heap.size w wr)) (fun kk _ => ys.length - (intOf kk).toNat)
   case atStart => exact ⟨0, os, Nat.zero_le _, rfl, HR, hb, hn⟩
   case round =>
    clear HR hb hn hm hcell
    obtain ⟨k, os, hk', rfl, hm, hb, hn⟩ := hrel
    by_cases hkt : k < ys.length
    · exact absurd hkt (by omega)
    · have hk2 : k = ys.length := by omega
     rw [hk2] at hm
     clear hk2
     have hol := hm.out.1
     by_cases h17 : i % 18 = 17
     · have hb17 : ((i : Int) % 18 == 17) = true := by simp; omega
      have hpre : (os.take (i - 17)).length = i - 17 := by rw [List.length_take]; omega
      have hca := carryOn_any w.heap.size (xs.length + ys.length - (i - 17)) (os.take (i - 17)) (os.drop (i - 17)) [] (fun j hj => by
       have h3 := hm.out.2.2.1 (i - 17 + j) (by simp at hj; omega)
       have h4 : MM (i % 18 + 1) ≤ MM 18 := by unfold MM; omega
       have h5 : (os.drop (i - 17)).getD j 0 = os.getD (i - 17 + j) 0 := by simp [List.getD]
       rw [h5]; omega) (by simp; omega) wr (by rw [List.append_nil, List.take_append_drop]; exact hb.out)
      rw [hpre, List.length_drop, hol] at hca
      have HCA := Lib.hid hca
      have hge : 17 ≤ i := by omega
      have hne17 : ¬ xs.length + ys.length = i - 17 := by omega
      have H17 := Lib.hid h17
      clear hca h17
      go_wp2_with fail
      rw [show ((i : Int) - 18 + 1).toNat = i - 17 from by omega]
      refine HCA.out.mono ?_
      rintro e w1 ⟨rfl, ⟨zs, q, hz1', hz2', hz3', hz4'⟩, hgr⟩
      have hnx := Lib.hid (hn.out.grown hgr (by have := hn.out.size; omega) (fun k h => by cases h; exact Nat.le_refl _))
      have hmx := Lib.hid (hm.out.carried hlt H17.out HX.out HY.out (by rw [hz1', hol]) hz2' (by rw [hz1']; exact hz3'))
      rw [List.append_nil] at hz4'
      have hbx := Lib.hid hz4'
      clear hz1' hz2' hz3' hz4' hgr
      go_wp2
      go_roundw
      case rel => exact ⟨i + 1, _, by omega, by go_num, hmx, hbx, hnx⟩
      case measure => simp [intOf]; omega
     · have hb17 : ((i : Int) % 18 == 17) = false := by simp; omega
      have HNX := Lib.hid (hm.out.next hlt h17)
      clear h17
      go_wp2
      go_roundw
      case rel => exact ⟨i + 1, os, by omega, by go_num, HNX, hb, hn⟩
      case measure => simp [intOf]; omega
  · have hi2 : i = xs.length := by omega
   rw [hi2] at hm
   clear hi2
   have hol := hm.out.1
   have hca := carryOn_any w.heap.size (xs.length + ys.length) [] os [] (fun j hj => by
    have h3 := hm.out.2.2.1 j hj
    have h4 : MM (xs.length % 18) ≤ MM 18 := by unfold MM; omega
    omega) (by omega) wr (by rw [List.append_nil]; exact hb.out)
   rw [hol] at hca
   have HCA := Lib.hid hca
   clear hca
   go_wp2_with fail
   refine HCA.out.mono ?_
   rintro e w1 ⟨rfl, ⟨zs, q, hz1', hz2', hz3', hz4'⟩, hgr⟩
   have hnx := Lib.hid (hn.out.grown hgr (by have := hn.out.size; omega) (fun k h => by cases h; exact Nat.le_refl _))
   have hval := hm.out.done HX.out HY.out (by rw [hol]; exact hz3')
   rw [List.append_nil] at hz4'
   have hown := Blk.own (show Blk w1 w.heap.size zs from hz4') (Nat.le_refl _) (by unfold maxLen; omega) zs.length (Nat.le_refl _)
   rw [List.take_of_length_le (Nat.le_refl _)] at hown
   have htr := Trim_own 141 w.heap.size _ zs hz2' w1 hown
   rw [hz1', hval] at htr
   have HTR := Lib.hid htr
   clear hz1' hz2' hz3' hz4' hgr hval hown htr
   go_wp2_with fail
   refine HTR.out.mono ?_
   rintro e w2 ⟨v', rfl, hown, rfl⟩
   go_wp2
   go_ret
   exact ⟨v', rfl, hown, hnx.out⟩
theorem Multiply_any (v1 v2 : Value) (a b : Nat) (hla : (digs a).length ≤ 100000) (hlb : (digs b).length ≤ 100000) (w : World) (h1 : Rd .u64 w v1 (digs a)) (h2 : Rd .u64 w v2 (digs b)) :
  Calls Tryz.prog 218 #[v1, v2] w fun e w' => ∃ v, e = .returned v ∧ Own .u64 141 w.heap.size w' v (digs (a * b)) ∧ Below w.heap.size w w' := by
 rcases h1 with ⟨rfl, h1⟩ | ⟨b1, o1, c1, rfl, _, _, k1, r1⟩
 · have ha : a = 0 := by have := wval_digs a; rw [h1] at this; exact this.symm
  rw [ha, Nat.zero_mul]
  rcases h2 with ⟨rfl, h2⟩ | ⟨b2, o2, c2, rfl, _, _, k2, r2⟩
  · exact Multiply_nil1 none none 0 0 0 (by omega) w
  · exact Multiply_nil1 none _ 0 _ c2 hlb w
 · rcases h2 with ⟨rfl, h2⟩ | ⟨b2, o2, c2, rfl, _, _, k2, r2⟩
  · have hb : b = 0 := by have := wval_digs b; rw [h2] at this; exact this.symm
   have := Multiply_nil2 b1 o1 c1 0 none (digs a) [] rfl (digs_lt a) (by simp) hla (by simp) w k1 r1
   rw [wval_digs] at this
   rw [hb]
   exact this
  · have := Multiply_some b1 o1 c1 b2 o2 c2 (digs a) (digs b) (digs_lt a) (digs_lt b) hla hlb w k1 k2 r1 r2
   rw [wval_digs, wval_digs] at this
   exact this
end Go.Proofs.YtmigpoiajkihhaaGreatDoor
