/- Texts of this proof, one behind the other. -/
import Derived.Test.YtblccbnejcngaaaGreatDoorMwd
import Derived.Test.YtblccbnejcngaaaGreatDoorMrm
import Derived.Test.YtblccbnejcngaaaGreatDoorMkc
import Derived.Test.YtblccbnejcngaaaGreatDoorWh
/- A block of bytes whose first bytes are known. -/
namespace Go.Proofs.YtblccbnejcngaaaGreatDoor
open Go.RowKit Go.Gb

/-- Block g, of cap cells, begins with the bytes bs. -/
def RowB (w : World) (g cap : Nat) (bs : List UInt8) : Prop := ∃ cur : Array Value, w.heap[g]? = some (.cells cur 5 (0, 0)) ∧ cur.size = cap ∧ bs.length ≤ cap ∧ cur.toList.take bs.length = Lib.byteCells bs
theorem RowB.le {w : World} {g cap : Nat} {bs : List UInt8} (h : RowB w g cap bs) : bs.length ≤ cap := by
  obtain ⟨cur, _, _, h3, _⟩ := h
  exact h3
theorem byteCells_get {bs : List UInt8} {i : Nat} (h : i < bs.length) : (Lib.byteCells bs)[i]? = some (.int .u8 ((bs.getD i 0).toNat : Int)) := by
  simp [Lib.byteCells, List.getD, h]
theorem RowB.cell {w : World} {g cap : Nat} {bs : List UInt8} (h : RowB w g cap bs) {i : Nat} (hi : i < bs.length) : w.cell? ⟨g, i, none⟩ = some (.int .u8 ((bs.getD i 0).toNat : Int)) := by
  obtain ⟨cur, h1, h2, h3, h4⟩ := h
  have h5 := byteCells_get hi
  rw [← h4, List.getElem?_take, if_pos hi] at h5
  simp only [World.cell?, h1]
  simpa using h5
theorem RowB.free {w : World} {g cap : Nat} {bs : List UInt8} (h : RowB w g cap bs) (i : Nat) : w.frozen? ⟨g, i, none⟩ = false := by
  obtain ⟨cur, h1, h2, h3, h4⟩ := h
  simp only [World.frozen?, h1]
  simp
theorem RowB.set {w : World} {g cap : Nat} {bs : List UInt8} (h : RowB w g cap bs) (i : Nat) (v : UInt8) : RowB (w.setCell ⟨g, i, none⟩ (.int .u8 (v.toNat : Int))) g cap (bs.set i v) := by
  obtain ⟨cur, h1, h2, h3, h4⟩ := h
  refine ⟨cur.setIfInBounds i (.int .u8 (v.toNat : Int)), ?_, by simp [h2], by simpa using h3, ?_⟩
  · simp only [World.setCell, Array.getElem?_modify, h1]
    simp
  · rw [List.length_set, Lib.byteCells, List.map_set, Array.toList_setIfInBounds, List.take_set, h4]
    rfl
theorem RowB.drewN {w : World} {g cap : Nat} {bs : List UInt8} (h : RowB w g cap bs) (n : Nat) : RowB (w.drewN n) g cap bs := h
theorem RowB.of_own {w : World} {B : Nat} {v : Value} {bs : List UInt8} (h : w.ownsRow B 5 1 v bs.length (Lib.byteCells bs)) (hp : 0 < bs.length) : ∃ g cap, v = .slice (some ⟨g, 0, none⟩) bs.length cap ∧ B ≤ g ∧ cap ≤ maxLen ∧ RowB w g cap bs := by
  obtain ⟨h1, h2⟩ := h
  rcases h2 with ⟨h2, h3⟩ | ⟨g, cap, cur, hv, hg, hh, hn, hc, hs, ht⟩
  · omega
  · rw [Nat.mul_one] at hs ht
    exact ⟨g, cap, hv, hg, hc, cur, hh, hs, hn, ht⟩

end Go.Proofs.YtblccbnejcngaaaGreatDoor
/- A block of words of 32 bits whose first words are known. -/
namespace Go.Gb
theorem back_top {Yt Z V r P t c B : Nat} (hZ : Z < P) (hr : r < P) (hs : Yt + V = Z + P * c) (hY : Yt + P * t + V = r + P * B) : c + t = B := by
  have h : Z + P * (c + t) = r + P * B := by rw [Nat.mul_add]; omega
  have hP : 0 < P := by omega
  have h1 := congrArg (· / P) h
  simp only [Nat.add_mul_div_left _ _ hP, Nat.div_eq_of_lt hZ, Nat.div_eq_of_lt hr, Nat.zero_add] at h1
  exact h1
end Go.Gb
namespace Go.Proofs.YtblccbnejcngaaaGreatDoor
open Go.RowKit Go.Gb

/-- Block g, of cap cells, begins with the words zs, of 32 bits. -/
def Row4 (w : World) (g cap : Nat) (zs : List Nat) : Prop := ∃ cur : Array Value, w.heap[g]? = some (.cells cur 74 (0, 0)) ∧ cur.size = cap ∧ zs.length ≤ cap ∧ cur.toList.take zs.length = cls .u32 zs
theorem Row4.lt {w : World} {g cap : Nat} {zs : List Nat} (h : Row4 w g cap zs) : g < w.heap.size := by
  obtain ⟨cur, h1, _⟩ := h
  exact (Array.getElem?_eq_some_iff.1 h1).1
theorem Row4.le {w : World} {g cap : Nat} {zs : List Nat} (h : Row4 w g cap zs) : zs.length ≤ cap := by
  obtain ⟨cur, _, _, h3, _⟩ := h
  exact h3
theorem Row4.cell {w : World} {g cap : Nat} {zs : List Nat} (h : Row4 w g cap zs) {i : Nat} (hi : i < zs.length) : w.cell? ⟨g, i, none⟩ = some (.int .u32 ((zs.getD i 0 : Nat) : Int)) := by
  obtain ⟨cur, h1, h2, h3, h4⟩ := h
  have h5 := cls_get (k := .u32) hi
  rw [← h4, List.getElem?_take, if_pos hi] at h5
  simp only [World.cell?, h1]
  simpa using h5
theorem Row4.free {w : World} {g cap : Nat} {zs : List Nat} (h : Row4 w g cap zs) (i : Nat) : w.frozen? ⟨g, i, none⟩ = false := by
  obtain ⟨cur, h1, h2, h3, h4⟩ := h
  simp only [World.frozen?, h1]
  simp
theorem Row4.set {w : World} {g cap : Nat} {zs : List Nat} (h : Row4 w g cap zs) (i v : Nat) : Row4 (w.setCell ⟨g, i, none⟩ (.int .u32 ((v : Nat) : Int))) g cap (zs.set i v) := by
  obtain ⟨cur, h1, h2, h3, h4⟩ := h
  refine ⟨cur.setIfInBounds i (.int .u32 (v : Int)), ?_, by simp [h2], by simpa using h3, ?_⟩
  · simp only [World.setCell, Array.getElem?_modify, h1]
    simp
  · rw [List.length_set, cls_set, ← h4, Array.toList_setIfInBounds, List.take_set]
theorem Row4.aside {w : World} {g cap k i : Nat} {zs : List Nat} {v : Value} (h : Row4 w g cap zs) (hne : g ≠ k) : Row4 (w.setCell ⟨k, i, none⟩ v) g cap zs := by
  obtain ⟨cur, h1, h2, h3, h4⟩ := h
  exact ⟨cur, by rw [Below.heap_setCell _ _ _ _ hne]; exact h1, h2, h3, h4⟩
theorem Row4.below {w w' : World} {g cap : Nat} {zs : List Nat} (h : Row4 w g cap zs) (hb : Below w.heap.size w w') : Row4 w' g cap zs := by
  obtain ⟨cur, h1, h2, h3, h4⟩ := h
  exact ⟨cur, by rw [hb.block g (Array.getElem?_eq_some_iff.1 h1).1]; exact h1, h2, h3, h4⟩
theorem Row4.grown {w w' : World} {g cap : Nat} {zs : List Nat} (h : Row4 w g cap zs) {row : Option Nat} (hg : w.grownBy w' row) (hne : row ≠ some g) : Row4 w' g cap zs := by
  obtain ⟨cur, h1, h2, h3, h4⟩ := h
  exact ⟨cur, by rw [hg.block g (Array.getElem?_eq_some_iff.1 h1).1 (fun e => hne e.symm)]; exact h1, h2, h3, h4⟩
theorem Row4.drewN {w : World} {g cap : Nat} {zs : List Nat} (h : Row4 w g cap zs) (n : Nat) : Row4 (w.drewN n) g cap zs := h
theorem Row4.take {w : World} {g cap : Nat} {zs : List Nat} (h : Row4 w g cap zs) (m : Nat) (hm : m ≤ zs.length) : Row4 w g cap (zs.take m) := by
  obtain ⟨cur, h1, h2, h3, h4⟩ := h
  refine ⟨cur, h1, h2, by simp; omega, ?_⟩
  rw [cls_take, ← h4, List.take_take, List.length_take, Nat.min_eq_left hm]
theorem Row4.own {w : World} {g cap B : Nat} {zs : List Nat} (h : Row4 w g cap zs) (hB : B ≤ g) (hm : cap ≤ maxLen) : Own .u32 74 B w (.slice (some ⟨g, 0, none⟩) zs.length cap) zs := by
  obtain ⟨cur, h1, h2, h3, h4⟩ := h
  refine ⟨by simp [cls], Or.inr ⟨g, cap, cur, rfl, hB, h1, h3, hm, by simp [h2], ?_⟩⟩
  rw [Nat.mul_one]; exact h4
theorem Row4.of_own {w : World} {B : Nat} {v : Value} {zs : List Nat} (h : Own .u32 74 B w v zs) (hp : 0 < zs.length) : ∃ g cap, v = .slice (some ⟨g, 0, none⟩) zs.length cap ∧ B ≤ g ∧ cap ≤ maxLen ∧ Row4 w g cap zs := by
  obtain ⟨h1, h2⟩ := h
  rcases h2 with ⟨h2, h3⟩ | ⟨g, cap, cur, hv, hg, hh, hn, hc, hs, ht⟩
  · omega
  · rw [Nat.mul_one] at hs ht
    exact ⟨g, cap, hv, hg, hc, cur, hh, hs, hn, ht⟩
end Go.Proofs.YtblccbnejcngaaaGreatDoor
/- garboardref01.Small, wide, word and small: walks. -/
namespace Go.Proofs.YtblccbnejcngaaaGreatDoor
open Go.RowKit Go.Gb

theorem Blk4.alloc {w : World} (zs : List Nat) (cs : Array Value) (h : cs = (cls .u32 zs).toArray) : Blk4 (w.alloc (.cells cs 74)) w.heap.size zs := by
  unfold Blk4
  rw [heap_alloc_new, h]
theorem rtrim_lit (zs : List Nat) (hB : ∀ z ∈ zs, z < BB) (hl : zs.length ≤ 10) (cs : Array Value) (h : cs = (cls .u32 zs).toArray) (n : Nat) (hn : n = zs.length) (w : World) :
    Calls Tryz.prog 73 #[.slice (some ⟨w.heap.size, 0, none⟩) n n] (w.alloc (.cells cs 74)) fun e w' => ∃ v', e = .returned v' ∧ Own .u32 74 w.heap.size w' v' (digs (wval zs)) ∧ w.alloc (.cells cs 74) = w' := by
  subst hn
  exact (rtrim_own 74 w.heap.size _ zs hB _ ((Blk4.alloc zs cs h).own (Nat.le_refl _) (by unfold maxLen; omega))).mono fun e w' ⟨v', h1, h2, h3⟩ => ⟨v', h1, h3 ▸ h2, h3⟩

set_option maxRecDepth 100000 in
theorem RSmall1 (n : Nat) (hn : n < 4294967296) (w : World) :
    Calls Tryz.prog 48 #[.int .u32 (n : Int)] w fun e w' => ∃ v, e = .returned v ∧ Own .u32 74 w.heap.size w' v (digs n) ∧ Below w.heap.size w w' := by
  obtain ⟨lo, hlo⟩ : ∃ lo, lo = n % BB := ⟨_, rfl⟩
  obtain ⟨hi, hhi⟩ : ∃ hi, hi = n / BB := ⟨_, rfl⟩
  have e1 : (n : Int) % 1000000000 = (lo : Int) := by rw [hlo, BB_eq]; omega
  have e2 : (n : Int) / 1000000000 = (hi : Int) := by rw [hhi, BB_eq]; omega
  have htr := rtrim_lit [lo, hi] (by intro z hz; simp at hz; rcases hz with rfl | rfl; · rw [hlo]; exact Nat.mod_lt _ BB_pos
                                     · rw [hhi, Nat.div_lt_iff_lt_mul BB_pos, BB_eq]; omega) (by simp) #[.int .u32 (lo : Int), .int .u32 (hi : Int)] (by simp [cls]) 2 rfl w
  rw [show wval [lo, hi] = n by simp only [wval, Nat.mul_zero, Nat.add_zero]; rw [hlo, hhi]; exact Nat.mod_add_div _ _] at htr
  have HTR := Lib.hid htr
  have k1 : (n : Int) ≤ 4294967295 := by omega
  have k2 : (lo : Int) ≤ 999999999 := by rw [BB_eq] at hlo; omega
  have k3 : (hi : Int) ≤ 4 := by rw [BB_eq] at hhi; omega
  clear htr hlo hhi hn
  go_enter Tryz.func48, Tryz.ntmps48
  go_wp2_with fail
  refine HTR.out.mono ?_
  rintro e w2 ⟨v', rfl, hown, rfl⟩
  go_wp2
  go_ret
  exact ⟨v', rfl, hown, (Below.refl _ _).alloc (Nat.le_refl _) _⟩

set_option maxRecDepth 100000 in
theorem Rwide (n : Nat) (hn : n < 18446744073709551616) (w : World) :
    Calls Tryz.prog 58 #[.int .u64 (n : Int)] w fun e w' => ∃ v, e = .returned v ∧ Own .u32 74 w.heap.size w' v (digs n) ∧ Below w.heap.size w w' := by
  obtain ⟨a, ha⟩ : ∃ a, a = n % BB := ⟨_, rfl⟩
  obtain ⟨q, hq⟩ : ∃ q, q = n / BB := ⟨_, rfl⟩
  obtain ⟨b, hb⟩ : ∃ b, b = q % BB := ⟨_, rfl⟩
  obtain ⟨c, hc⟩ : ∃ c, c = q / BB := ⟨_, rfl⟩
  have e1 : (n : Int) % 1000000000 = (a : Int) := by rw [ha, BB_eq]; omega
  have e2 : (n : Int) / 1000000000 = (q : Int) := by rw [hq, BB_eq]; omega
  have e3 : (q : Int) % 1000000000 = (b : Int) := by rw [hb, BB_eq]; omega
  have e4 : (q : Int) / 1000000000 = (c : Int) := by rw [hc, BB_eq]; omega
  have k2 : (a : Int) ≤ 999999999 := by rw [BB_eq] at ha; omega
  have k3 : (b : Int) ≤ 999999999 := by rw [BB_eq] at hb; omega
  have k5 : (q : Int) ≤ 18446744073 := by rw [BB_eq] at hq; omega
  have k4 : (c : Int) ≤ 18 := by rw [BB_eq] at hc; omega
  have htr := rtrim_lit [a, b, c] (by intro z hz; simp at hz; rw [BB_eq]; rcases hz with rfl | rfl | rfl <;> omega) (by simp) #[.int .u32 (a : Int), .int .u32 (b : Int), .int .u32 (c : Int)] (by simp [cls]) 3 rfl w
  rw [show wval [a, b, c] = n by
    simp only [wval, Nat.mul_zero, Nat.add_zero]
    rw [hb, hc, Nat.mod_add_div, ha, hq, Nat.mod_add_div]] at htr
  have HTR := Lib.hid htr
  have k1 : (n : Int) ≤ 18446744073709551615 := by omega
  clear htr ha hq hb hc hn
  go_enter Tryz.func58, Tryz.ntmps58
  go_wp2_with fail
  refine HTR.out.mono ?_
  rintro e w2 ⟨v', rfl, hown, rfl⟩
  go_wp2
  go_ret
  exact ⟨v', rfl, hown, (Below.refl _ _).alloc (Nat.le_refl _) _⟩

set_option maxRecDepth 100000 in
theorem Rword (v : Value) (a : Nat) (hl : (digs a).length ≤ 2) (w : World) (h : Rd .u32 w v (digs a)) :
    Calls Tryz.prog 57 #[v] w fun e w' => e = .returned (.int .u64 (a : Int)) ∧ w = w' := by
  obtain ⟨p, c, rfl, r⟩ := h.gen
  have hv := wval_digs a
  have hB := digs_lt a
  generalize digs a = xs at *
  match xs, hl with
  | [], _ =>
    have h0 : a = 0 := by rw [← hv]; rfl
    subst h0
    clear hv hB r h hl
    simp only [List.length_nil]
    go_enter Tryz.func57, Tryz.ntmps57
    go_wp2
    refine wp_loop_rounds 1 ?_
    rw [rounds_succ]
    go_wp2
    go_ret
    exact ⟨rfl, rfl⟩
  | [x], _ =>
    have h0 : a = x := by rw [← hv]; simp [wval]
    have hx := hB x (by simp)
    rw [BB_eq] at hx
    subst h0
    obtain ⟨b, o, rfl, hb, hc⟩ := r 0 (by simp)
    simp only [List.getD_cons_zero, Nat.add_zero] at hc
    have k1 : (a : Int) ≤ 999999999 := by omega
    clear hv hB r h hl hb hx
    simp only [List.length_cons, List.length_nil]
    go_enter Tryz.func57, Tryz.ntmps57
    go_wp2
    refine wp_loop_rounds 2 ?_
    rw [rounds_succ]
    go_wp2
    rw [rounds_succ]
    go_wp2
    go_ret
    exact ⟨rfl, rfl⟩
  | [x, y], _ =>
    have hx := hB x (by simp)
    have hy := hB y (by simp)
    have h0 : a = x + 1000000000 * y := by rw [← hv]; simp only [wval, Nat.mul_zero, Nat.add_zero]; rw [BB_eq]
    rw [BB_eq] at hx hy
    obtain ⟨b, o, rfl, hb, hc⟩ := r 0 (by simp)
    obtain ⟨b', o', hp, hb', hc'⟩ := r 1 (by simp)
    injection hp with hp
    injection hp with e1 e2 e3
    subst e1 e2
    simp only [List.getD_cons_zero, List.getD_cons_succ, Nat.add_zero] at hc hc'
    have k1 : (x : Int) ≤ 999999999 := by omega
    have k2 : (y : Int) ≤ 999999999 := by omega
    have H0 := Lib.hid h0
    clear hv hB r h hl hb hb' hx hy h0
    simp only [List.length_cons, List.length_nil]
    go_enter Tryz.func57, Tryz.ntmps57
    go_wp2
    refine wp_loop_rounds 3 ?_
    rw [rounds_succ]
    go_wp2
    rw [rounds_succ]
    go_wp2
    rw [rounds_succ]
    go_wp2
    go_ret
    exact ⟨ret_int (by have := H0.out; omega), rfl⟩
  | _ :: _ :: _ :: _, hl => simp at hl

set_option maxRecDepth 100000 in
set_option maxHeartbeats 4000000 in
theorem Rsmall_any (v1 : Value) (a d : Nat) (hd : 0 < d) (hdB : d < BB) (hl : (digs a).length ≤ 100000) (w : World) (h1 : Rd .u32 w v1 (digs a)) :
    Calls Tryz.prog 72 #[v1, .int .u32 (d : Int)] w fun e w' => ∃ v, e = .returned (.tuple #[v, .int .u32 ((a % d : Nat) : Int)]) ∧ Own .u32 74 w.heap.size w' v (digs (a / d)) ∧ Below w.heap.size w w' := by
  obtain ⟨i0, hi, hz0, hz1, hz2⟩ := info_parts Tryz.info74
  obtain ⟨p, c, rfl, r1⟩ := h1.gen
  have hv := wval_digs a
  have hx := digs_lt a
  generalize digs a = xs at *
  have HX := Lib.hid hx
  have HV := Lib.hid hv
  have HR := Lib.hid r1
  have hd1 : (1 : Int) ≤ (d : Int) := by omega
  have hd2 : (d : Int) ≤ 999999999 := by rw [BB_eq] at hdB; omega
  have hdz : ((d : Int) == 0) = false := beq_eq_false_iff_ne.2 (by omega)
  have HD := Lib.hid hd
  clear h1 hx hv r1 hd hdB
  go_enter Tryz.func72, Tryz.ntmps72
  go_wp2_with (at_make; refine wpList_make_full _ rfl _ _ 47 rfl w.heap.size 74 i0 (.int .u32 0) 1 Tryz.underlying47 hi hz0 hz1 _ _ _ _ xs.length rfl rfl (by omega) (by omega) ?b2 ?b3 (Nat.le_refl _) ?_)
  case b2 => rw [hz2]; omega
  case b3 => unfold maxLen; omega
  intro w0 hown0 hgrow0
  have HB0 := Lib.hid (show Blk4 w0 w.heap.size (List.replicate xs.length 0) from Blk4.of_made hown0 (madeCells_u32 _))
  have HN0 := Lib.hid ((Below.refl w.heap.size w).grown hgrow0 (Nat.le_refl _) (fun k h => by cases h))
  clear hown0 hgrow0
  go_wp2
  go_loopw [7, 8] (fun rr ii wr => ∃ (z : Int) (r : Nat) (os : List Nat), -1 ≤ z ∧ z < xs.length ∧ ii = .int .i64 z ∧ rr = .int .u64 (r : Int) ∧ Hid (DwInv xs os d (z + 1).toNat r) ∧ Hid (Blk4 wr w.heap.size (List.replicate (z + 1).toNat 0 ++ os)) ∧ Hid (Below w.heap.size w wr)) (fun _ ii _ => (intOf ii + 1).toNat)
  case atStart => exact ⟨(xs.length : Int) - 1, 0, [], by omega, by omega, rfl, rfl, by rw [show ((xs.length : Int) - 1 + 1).toNat = xs.length by omega]; exact DwInv.start xs HD.out, by rw [show ((xs.length : Int) - 1 + 1).toNat = xs.length by omega, List.append_nil]; exact HB0, HN0⟩
  case round =>
    obtain ⟨z, r, os, hz1', hz8, rfl, rfl, hI, hB, hn⟩ := hrel
    by_cases hz : 0 ≤ z
    · obtain ⟨j, rfl⟩ := Int.eq_ofNat_of_zero_le hz
      have hj : j < xs.length := by omega
      have hI' := hI.out
      have hB' := hB.out
      rw [show ((j : Int) + 1).toNat = j + 1 by omega] at hI' hB'
      obtain ⟨b1, o1, rfl, hb1, hc1⟩ := HR.out j hj
      have hcx := (hn.out.cell (p := ⟨b1, o1 + j, none⟩) hb1).trans hc1
      have hxw := HX.out _ (mem_getD hj)
      have hst := hI'.step hj HX.out
      have hr := hI'.2.2.1
      rw [repl_snoc, List.append_assoc] at hB'
      have e1 : (List.replicate j 0 ++ ([0] ++ os)).getD j 0 = 0 := by simp [List.getD]
      have hcell := hB'.cell (i := j) (by simp)
      have hfree := hB'.free j
      have hset := hB'.set j ((r * BB + xs.getD j 0) / d)
      have e2 : (List.replicate j 0 ++ ([0] ++ os)).set j ((r * BB + xs.getD j 0) / d) = List.replicate j 0 ++ ((r * BB + xs.getD j 0) / d :: os) := by simp
      rw [e1] at hcell
      rw [e2] at hset
      have hqB := div_word_lt hr hxw
      have hbel := hn.out.setCell (p := ⟨w.heap.size, j, none⟩) (Nat.le_refl _) (.int .u32 (((r * BB + xs.getD j 0) / d : Nat) : Int))
      have HS := Lib.hid hset
      have HI := Lib.hid hst
      have HBL := Lib.hid hbel
      clear hI' hB' hst e1 e2 hset hbel hI hB hn hb1 hc1
      generalize xs.getD j 0 = x at *
      rw [BB_eq] at hxw
      have hr2 : r < 999999999 := by omega
      obtain ⟨q, hq⟩ : ∃ q, q = (r * BB + x) / d := ⟨_, rfl⟩
      obtain ⟨m, hm⟩ : ∃ m, m = (r * BB + x) % d := ⟨_, rfl⟩
      rw [← hq] at hqB HS HI HBL
      rw [← hm] at HI
      have hqI : ((r : Int) * 1000000000 + (x : Int)) / (d : Int) = (q : Int) := by rw [hq, BB_eq]; rfl
      have hmI : ((r : Int) * 1000000000 + (x : Int)) % (d : Int) = (m : Int) := by rw [hm, BB_eq]; rfl
      have k1 : (x : Int) ≤ 999999999 := by omega
      have k2 : (r : Int) ≤ 999999999 := by omega
      have k3 : (q : Int) ≤ 999999999 := by rw [BB_eq] at hqB; omega
      clear hq hm hxw hr hr2 hqB
      go_wp2
      go_roundw
      case rel => exact ⟨(j : Int) - 1, m, q :: os, by omega, by omega, rfl, val_int1 hmI, by rw [show ((j : Int) - 1 + 1).toNat = j by omega]; exact HI, by rw [show ((j : Int) - 1 + 1).toNat = j by omega]; exact HS, HBL⟩
      case measure => simp [intOf]
    · have hz0' : (z + 1).toNat = 0 := by omega
      have hI' := hI.out
      have hB' := hB.out
      rw [hz0'] at hI' hB'
      obtain ⟨g1, g2, g3, g4⟩ := hI'
      rw [List.drop_zero, HV.out] at g4
      rw [List.replicate_zero, List.nil_append] at hB'
      have hown := Blk4.own hB' (Nat.le_refl _) (by unfold maxLen; omega)
      have hq : wval os = a / d := by rw [g4, Nat.add_comm, Nat.add_mul_div_right _ _ HD.out, Nat.div_eq_of_lt g3, Nat.zero_add]
      have hm : r = a % d := by rw [g4, Nat.add_comm, Nat.add_mul_mod_self_right, Nat.mod_eq_of_lt g3]
      have htr := rtrim_own 74 w.heap.size _ os g2 wr hown
      rw [g1, Nat.sub_zero, hq] at htr
      have HTR := Lib.hid htr
      have HM := Lib.hid hm
      have k2 : (r : Int) ≤ 999999999 := by omega
      clear g1 g2 g3 g4 hB' hown hq htr hz0' hm
      go_wp2_with fail
      refine HTR.out.mono ?_
      rintro e w2 ⟨v', rfl, hown, rfl⟩
      go_wp2
      go_ret2
      exact ⟨v', ret_pair_int (by rw [HM.out]), hown, hn.out⟩

end Go.Proofs.YtblccbnejcngaaaGreatDoor
/- garboardref01.reduce: a walk. -/
namespace Go.Gb
/-- Inside the subtraction of a multiple: what is carried, and what is borrowed. -/
def RdI (xs vs : List Nat) (t : Nat) (ys : List Nat) (i C b : Nat) : Prop := SubI xs vs t ys i (C + b) ∧ C ≤ 999999999 ∧ b ≤ 1
theorem RdI.start (xs vs : List Nat) (t : Nat) : RdI xs vs t [] 0 0 0 := ⟨SubI.start xs vs t, by omega, by omega⟩
theorem RdI.keep {xs vs ys : List Nat} {t i C b x v : Nat} (h : RdI xs vs t ys i C b) (ex : xs.getD i 0 = x) (ev : vs.getD i 0 = v) (ht : t < BB) (hv : v < BB) (hx : x < BB) (hle : (t * v + C) % BB + b ≤ x) : RdI xs vs t (ys ++ [x - ((t * v + C) % BB + b)]) (i + 1) ((t * v + C) / BB) 0 := by
  obtain ⟨h1, h2, h3⟩ := h
  have hq := (sub_carry (t := t) (v := v) (c := C) ht hv (by rw [BB_eq]; omega)).2
  have hd := Nat.div_add_mod (t * v + C) BB
  have hqB : (t * v + C) / BB + 1 ≤ BB := by rw [BB_eq] at hq ⊢; omega
  refine ⟨h1.next (by omega) (by omega) ?_, hq, by omega⟩
  rw [ex, ev]
  generalize t * v = p at *
  generalize (p + C) / BB = q at *
  generalize (p + C) % BB = lo at *
  rw [Nat.add_zero]
  omega
theorem RdI.borrow {xs vs ys : List Nat} {t i C b x v : Nat} (h : RdI xs vs t ys i C b) (ex : xs.getD i 0 = x) (ev : vs.getD i 0 = v) (ht : t < BB) (hv : v < BB) (hlt : x < (t * v + C) % BB + b) : RdI xs vs t (ys ++ [x + BB - ((t * v + C) % BB + b)]) (i + 1) ((t * v + C) / BB) 1 := by
  obtain ⟨h1, h2, h3⟩ := h
  have hq := (sub_carry (t := t) (v := v) (c := C) ht hv (by rw [BB_eq]; omega)).2
  have hd := Nat.div_add_mod (t * v + C) BB
  have hm := Nat.mod_lt (t * v + C) BB_pos
  have hqB : (t * v + C) / BB + 1 ≤ BB := by rw [BB_eq] at hq ⊢; omega
  refine ⟨h1.next (by omega) (by omega) ?_, hq, by omega⟩
  rw [ex, ev]
  generalize t * v = p at *
  generalize (p + C) / BB = q at *
  generalize (p + C) % BB = lo at *
  rw [Nat.mul_add]
  omega
end Go.Gb
namespace Go.Proofs.YtblccbnejcngaaaGreatDoor
open Go.RowKit Go.Gb

theorem grown_drewN {w w' : World} {row : Option Nat} (h : w.grownBy w' row) (n : Nat) : w.grownBy (w'.drewN n) row := ⟨h.os, h.tape, h.output, h.size, h.block⟩

set_option maxRecDepth 100000 in
set_option maxHeartbeats 8000000 in
theorem Rreduce_any (g cap b2 o2 c2 n t A U : Nat) (pre xs post vs : List Nat) (hA : pre.length = A) (hU : (pre ++ (xs ++ post)).length = U) (hxl : xs.length = n + 1) (hvl : vs.length = n) (hn : n ≤ 100000) (hA9 : A ≤ 100000) (ht : t < BB) (hx : ∀ x ∈ xs, x < BB) (hv : ∀ v ∈ vs, v < BB)
    (hV0 : 0 < wval vs) (hVn : wval vs < BB ^ n) (hg1 : wval xs / wval vs ≤ t) (hg2 : t ≤ wval xs / wval vs + 1) (w : World)
    (hb : Row4 w g cap (pre ++ (xs ++ post))) (hb2 : b2 < w.heap.size) (hne : b2 ≠ g) (hcv : ∀ i, i < n → w.cell? ⟨b2, o2 + i, none⟩ = some (.int .u32 ((vs.getD i 0 : Nat) : Int))) :
    Calls Tryz.prog 74 #[.slice (some ⟨g, 0, none⟩) U cap, .slice (some ⟨b2, o2, none⟩) n c2, .int .i64 (A : Int), .int .u64 (t : Int)] w fun e w' =>
      ∃ zs : List Nat, e = .returned (.int .u32 ((wval xs / wval vs : Nat) : Int)) ∧ zs.length = n + 1 ∧ (∀ z ∈ zs, z < BB) ∧ wval zs = wval xs % wval vs ∧ Row4 w' g cap (pre ++ (zs ++ post)) ∧ w.grownBy w' (some g) := by
  have HX := Lib.hid hx
  have HV := Lib.hid hv
  have HB := Lib.hid hb
  have HCV := Lib.hid hcv
  have HT := Lib.hid ht
  have HXL := Lib.hid hxl
  have HVL := Lib.hid hvl
  have HA := Lib.hid hA
  have HG := Lib.hid (And.intro hg1 hg2)
  have HV0 := Lib.hid (And.intro hV0 hVn)
  have hUn : A + n < U := by rw [← hU, ← hA, List.length_append, List.length_append, hxl]; omega
  have ht9 : (t : Int) ≤ 999999999 := by rw [BB_eq] at ht; omega
  clear hx hv hb hcv ht hxl hvl hA hU hg1 hg2 hV0 hVn
  go_enter Tryz.func74, Tryz.ntmps74
  go_wp2
  go_loopw [10, 11, 12] (fun bb cc ii wr => ∃ (i C b : Nat) (ys : List Nat), i ≤ n ∧ ii = .int .i64 i ∧ cc = .int .u64 (C : Int) ∧ bb = .int .i64 (b : Int) ∧ Hid (RdI xs vs t ys i C b) ∧ Hid (Row4 wr g cap (pre ++ (ys ++ (xs.drop i ++ post)))) ∧ Hid (w.grownBy wr (some g))) (fun _ _ ii _ => n - (intOf ii).toNat)
  case atStart => exact ⟨0, 0, 0, [], Nat.zero_le _, rfl, rfl, rfl, RdI.start xs vs t, HB, World.grownBy.refl _ _⟩
  case round =>
    obtain ⟨i, C, b, ys, hi, rfl, rfl, rfl, hI, hB, hG⟩ := hrel
    have hdr := drop_consD (xs := xs) (i := i) (by have := HXL.out; omega)
    have hxw := HX.out _ (mem_getD (xs := xs) (i := i) (by have := HXL.out; omega))
    have hB' := hB.out
    rw [hdr, List.cons_append] at hB'
    have hyl : ys.length = i := hI.out.1.1
    have hcell := hB'.cell (i := pre.length + ys.length) (by simp)
    have hfree := hB'.free (pre.length + ys.length)
    rw [get_mid] at hcell
    rw [hyl, HA.out] at hcell hfree
    have hC9 : (C : Int) ≤ 999999999 := by have := hI.out.2.1; omega
    have hb1 : (b : Int) ≤ 1 := by have := hI.out.2.2; omega
    have i3 : (n : Int) ≤ 100000 := by omega
    have i4 : (A : Int) ≤ 100000 := by omega
    have i5 : (A : Int) + (n : Int) < (U : Int) := by omega
    have hi9 : (i : Int) ≤ (n : Int) := by omega
    by_cases hlt : i < n
    · have hcv := (grown_cell hG.out hb2 hne).trans (HCV.out i hlt)
      have hvw := HV.out _ (mem_getD (xs := vs) (i := i) (by have := HVL.out; omega))
      have hpc := sub_carry (c := C) HT.out hvw (by rw [BB_eq]; omega)
      have hset : ∀ (z : Nat), Row4 (wr.setCell ⟨g, A + i, none⟩ (.int .u32 (z : Int))) g cap (pre ++ (ys ++ (z :: (xs.drop (i + 1) ++ post)))) := by
        intro z
        have := hB'.set (pre.length + ys.length) z
        rwa [set_mid', hyl, HA.out] at this
      have hkp := fun x v (e1 : xs.getD i 0 = x) (e2 : vs.getD i 0 = v) => hI.out.keep e1 e2 HT.out
      have hbw := fun x v (e1 : xs.getD i 0 = x) (e2 : vs.getD i 0 = v) => hI.out.borrow e1 e2 HT.out
      have HKP := Lib.hid (hkp _ _ rfl rfl hvw hxw)
      have HBW := Lib.hid (hbw _ _ rfl rfl hvw)
      have HSET := Lib.hid hset
      clear hkp hbw hset hB' hdr hyl hB hI
      generalize xs.getD i 0 = x at *
      generalize vs.getD i 0 = v at *
      obtain ⟨p, hp⟩ : ∃ p : Nat, p = t * v := ⟨_, rfl⟩
      have e1 : (t : Int) * (v : Int) = (p : Int) := by rw [hp]; exact (Int.natCast_mul _ _).symm
      rw [← hp] at hpc HKP HBW
      have w1 : IntKind.u64.wrap (p : Int) = (p : Int) := IntWalk.u64_in _ (by omega)
      obtain ⟨q, hq⟩ : ∃ q : Nat, q = (p + C) / BB := ⟨_, rfl⟩
      obtain ⟨lo, hlo⟩ : ∃ lo : Nat, lo = (p + C) % BB := ⟨_, rfl⟩
      rw [← hq] at hpc HKP HBW
      rw [← hlo] at HKP HBW
      have hmod : ((p : Int) + (C : Int)) % 1000000000 = (lo : Int) := by rw [hlo, BB_eq]; omega
      have hdiv : ((p : Int) + (C : Int)) / 1000000000 = (q : Int) := by rw [hq, BB_eq]; omega
      have hlo2 : (lo : Int) ≤ 999999999 := by rw [BB_eq] at hlo; omega
      have hx2 : (x : Int) ≤ 999999999 := by rw [BB_eq] at hxw; omega
      have hv2 : (v : Int) ≤ 999999999 := by rw [BB_eq] at hvw; omega
      have hp2 : (p : Int) ≤ 999999998000000001 := by omega
      have hq2 : (q : Int) ≤ 999999999 := by omega
      have i1 : (i : Int) < (n : Int) := by omega
      clear hp hq hlo hpc hvw hxw
      by_cases hle : lo + b ≤ x
      · obtain ⟨y, hy⟩ : ∃ y : Nat, y = x - (lo + b) := ⟨_, rfl⟩
        have hval : (x : Int) - (lo : Int) - (b : Int) = (y : Int) := by omega
        have hneg : decide ((y : Int) < 0) = false := decide_eq_false (by omega)
        have hy9 : (y : Int) ≤ 999999999 := by omega
        have HN := Lib.hid (show RdI xs vs t (ys ++ [y]) (i + 1) q 0 by rw [hy]; exact HKP.out hle)
        have HS := Lib.hid (HSET.out y)
        have HGG := Lib.hid (Lib.grownBy_setB hG.out (A + i) (.int .u32 (y : Int)))
        clear HKP HBW HSET hy hle hG
        go_wp2
        go_roundw
        case rel => exact ⟨i + 1, q, 0, ys ++ [y], by omega, by go_num, val_int1 hdiv, rfl, HN, by rw [List.append_assoc]; exact HS, HGG⟩
        case measure => simp [intOf]; omega
      · obtain ⟨y, hy⟩ : ∃ y : Nat, y = x + BB - (lo + b) := ⟨_, rfl⟩
        have hval : (x : Int) - (lo : Int) - (b : Int) + 1000000000 = (y : Int) := by rw [BB_eq] at hy; omega
        have hneg : (x : Int) - (lo : Int) - (b : Int) < 0 := by omega
        have hy9 : (y : Int) ≤ 999999999 := by omega
        have HN := Lib.hid (show RdI xs vs t (ys ++ [y]) (i + 1) q 1 by rw [hy]; exact HBW.out (by omega))
        have HS := Lib.hid (HSET.out y)
        have HGG := Lib.hid (Lib.grownBy_setB hG.out (A + i) (.int .u32 (y : Int)))
        clear HKP HBW HSET hy hle hG
        go_wp2
        go_roundw
        case rel => exact ⟨i + 1, q, 1, ys ++ [y], by omega, by go_num, val_int1 hdiv, rfl, HN, by rw [List.append_assoc]; exact HS, HGG⟩
        case measure => simp [intOf]; omega
    · have hi' : i = n := by omega
      subst hi'
      have hd0 : xs.drop (i + 1) = [] := List.drop_of_length_le (by have := HXL.out; omega)
      rw [hd0, List.nil_append] at hB'
      have hlast := fun (k y : Nat) (h2 : y < BB) h3 => hI.out.1.last (y := y) (k := k) HVL.out HXL.out h2 h3
      have hset : ∀ (z : Nat), Row4 (wr.setCell ⟨g, A + i, none⟩ (.int .u32 (z : Int))) g cap (pre ++ (ys ++ (z :: post))) := by
        intro z
        have := hB'.set (pre.length + ys.length) z
        rwa [set_mid', hyl, HA.out] at this
      have HL := Lib.hid hlast
      have HSET := Lib.hid hset
      have Hyl := Lib.hid hyl
      have hCb := hI.out.2
      have d1 : decide ((i : Int) < (i : Int)) = false := decide_eq_false (by omega)
      clear hlast hset hB' hdr hyl hB hI hd0 hi9
      generalize xs.getD i 0 = x at *
      have hx2 : (x : Int) ≤ 999999999 := by rw [BB_eq] at hxw; omega
      by_cases hle : C + b ≤ x
      · obtain ⟨y, hy⟩ : ∃ y : Nat, y = x - (C + b) := ⟨_, rfl⟩
        have hval : (x : Int) - (C : Int) - (b : Int) = (y : Int) := by omega
        have hy0 : (0 : Int) ≤ (y : Int) := by omega
        have hy9 : (y : Int) ≤ 999999999 := by omega
        obtain ⟨f1, f2, f3⟩ := HL.out 0 y (by rw [BB_eq]; omega) (by rw [hy]; omega)
        obtain ⟨s1, s2⟩ := step_right HV0.out.1 HG.out.1 f3 rfl
        have HF := Lib.hid (And.intro f1 (And.intro f2 s2))
        have HS1 := Lib.hid s1
        have HS := Lib.hid (HSET.out y)
        have HGG := Lib.hid (Lib.grownBy_setB hG.out (A + i) (.int .u32 (y : Int)))
        clear HL HSET hy hle hG f1 f2 f3 s1 s2 hCb hxw
        go_wp2
        go_ret
        exact ⟨ys ++ [y], ret_int (by rw [← HS1.out]), HF.out.1, HF.out.2.1, HF.out.2.2, by rw [List.append_assoc]; exact HS.out, HGG.out⟩
      · obtain ⟨y, hy⟩ : ∃ y : Nat, y = x + BB - (C + b) := ⟨_, rfl⟩
        have hval : (x : Int) - (C : Int) - (b : Int) + 1000000000 = (y : Int) := by rw [BB_eq] at hy; omega
        have hneg : decide (0 ≤ (x : Int) - (C : Int) - (b : Int)) = false := decide_eq_false (by omega)
        have hneg2 : decide ((b : Int) ≤ (x : Int) - (C : Int)) = false := decide_eq_false (by omega)
        have hy9 : (y : Int) ≤ 999999999 := by omega
        obtain ⟨f1, f2, f3⟩ := HL.out 1 y (by rw [BB_eq]; omega) (by rw [hy]; rw [BB_eq] at *; omega)
        obtain ⟨s1, s2, s3⟩ := step_wrong HV0.out.1 HG.out.1 HG.out.2 (wval_le_of_len f2 (Nat.le_of_eq f1)) f3
        have HF := Lib.hid (And.intro f1 f2)
        have HS1 := Lib.hid (And.intro s1 (And.intro s2 s3))
        have HS0 := Lib.hid (show Row4 (wr.setCell ⟨g, A + i, none⟩ (.int .u32 (y : Int))) g cap (pre ++ ([] ++ ((ys ++ [y]).drop 0 ++ post))) by
          have := HSET.out y
          rw [List.nil_append, List.drop_zero, List.append_assoc]; exact this)
        have HG0 := Lib.hid (Lib.grownBy_setB hG.out (A + i) (.int .u32 (y : Int)))
        have ht1 : (1 : Int) ≤ (t : Int) := by omega
        have hfr := hfree
        clear HL HSET hy hle hG f1 f2 f3 s1 s2 s3 hCb hxw
        go_wp2
        clear hcell
        generalize wr.setCell ⟨g, A + i, none⟩ (.int .u32 (y : Int)) = wx at *
        go_loopw [16, 17] (fun cc ii wr => ∃ (k c : Nat) (zs : List Nat), k ≤ i ∧ ii = .int .i64 k ∧ cc = .int .u32 (c : Int) ∧ Hid (SumInv (ys ++ [y]) vs zs k c) ∧ Hid (Row4 wr g cap (pre ++ (zs ++ ((ys ++ [y]).drop k ++ post)))) ∧ Hid (w.grownBy wr (some g))) (fun _ ii _ => i - (intOf ii).toNat)
        case atStart => exact ⟨0, 0, [], Nat.zero_le _, rfl, rfl, SumInv.start _ _, HS0, HG0⟩
        case round =>
          clear HS0 HG0 hfr hfree
          obtain ⟨k, c, zs, hk, rfl, rfl, hI, hB, hG⟩ := hrel
          have hdr := drop_consD (xs := ys ++ [y]) (i := k) (by have := HF.out.1; omega)
          have hyw := HF.out.2 _ (mem_getD (xs := ys ++ [y]) (i := k) (by have := HF.out.1; omega))
          have hB' := hB.out
          rw [hdr, List.cons_append] at hB'
          have hzl : zs.length = k := hI.out.1
          have hcell := hB'.cell (i := pre.length + zs.length) (by simp)
          have hfree := hB'.free (pre.length + zs.length)
          rw [get_mid] at hcell
          rw [hzl, HA.out] at hcell hfree
          have hc1 : (c : Int) ≤ 1 := by have := hI.out.2.2.1; omega
          by_cases hlk : k < i
          · have hcv := (grown_cell hG.out hb2 hne).trans (HCV.out k hlk)
            have hvw := HV.out _ (mem_getD (xs := vs) (i := k) (by have := HVL.out; omega))
            have HN := Lib.hid (hI.out.step hyw hvw)
            have hset : ∀ (n z : Nat), Row4 ((wr.drewN n).setCell ⟨g, A + k, none⟩ (.int .u32 (z : Int))) g cap (pre ++ (zs ++ (z :: ((ys ++ [y]).drop (k + 1) ++ post)))) := by
              intro n z
              have := (hB'.drewN n).set (pre.length + zs.length) z
              rwa [set_mid', hzl, HA.out] at this
            have HSET := Lib.hid hset
            clear hset hB' hdr hzl hB hI
            generalize (ys ++ [y]).getD k 0 = x2 at *
            generalize vs.getD k 0 = v at *
            obtain ⟨lo, hlo⟩ : ∃ lo : Nat, lo = (x2 + v + c) % BB := ⟨_, rfl⟩
            obtain ⟨q, hq⟩ : ∃ q : Nat, q = (x2 + v + c) / BB := ⟨_, rfl⟩
            rw [← hq, ← hlo] at HN
            have hmod : ((x2 : Int) + (v : Int) + (c : Int)) % 1000000000 = (lo : Int) := by rw [hlo, BB_eq]; omega
            have hdiv : ((x2 : Int) + (v : Int) + (c : Int)) / 1000000000 = (q : Int) := by rw [hq, BB_eq]; omega
            have hx3 : (x2 : Int) ≤ 999999999 := by rw [BB_eq] at hyw; omega
            have hv3 : (v : Int) ≤ 999999999 := by rw [BB_eq] at hvw; omega
            have j1 : (k : Int) < (i : Int) := by omega
            have HGG := Lib.hid (fun n => Lib.grownBy_setB (grown_drewN hG.out n) (A + k) (.int .u32 (lo : Int)))
            have HS := Lib.hid (fun n => HSET.out n lo)
            clear hlo hq hyw hvw HSET hG
            go_wp2
            go_quiet (fail)
            have HS2 := Lib.hid (HS.out nq)
            have HG2 := Lib.hid (HGG.out nq)
            have hf2 : (wr.drewN nq).frozen? ⟨g, A + k, none⟩ = false := hfree
            have hc2' : (wr.drewN nq).cell? ⟨g, A + k, none⟩ = some (.int .u32 (x2 : Int)) := hcell
            clear HS HGG hcell hfree hcv
            generalize wr.drewN nq = w2 at *
            go_wp2
            go_roundw
            case rel => exact ⟨k + 1, q, zs ++ [lo], by omega, by go_num, val_int1 (by omega), HN, by rw [List.append_assoc]; exact HS2, HG2⟩
            case measure => simp [intOf]; omega
          · have hk' : k = i := by omega
            subst hk'
            have hyv : wval (ys ++ [y]) = wval ((ys ++ [y]).take k) + BB ^ k * (ys ++ [y]).getD k 0 := by rw [← take_succ_any, List.take_of_length_le (by have := HF.out.1; omega)]
            have hgy : (ys ++ [y]).getD k 0 = y := by simp [List.getD, Hyl.out]
            obtain ⟨f1, f2, f3, f4⟩ := hI.out
            rw [List.take_of_length_le (show vs.length ≤ k by have := HVL.out; omega)] at f4
            have hzlt : wval zs < BB ^ k := wval_le_of_len f2 (Nat.le_of_eq f1)
            have hrlt : wval xs % wval vs < BB ^ k := Nat.lt_trans (Nat.mod_lt _ HV0.out.1) HV0.out.2
            have s3 := HS1.out.2.2
            rw [hyv, hgy, Nat.pow_succ] at s3
            have hz := back_rest hzlt hrlt f4.symm s3
            have ht := back_top hzlt hrlt f4.symm s3
            have hd0 : (ys ++ [y]).drop (k + 1) = [] := List.drop_of_length_le (by have := HF.out.1; omega)
            rw [hd0, List.nil_append, hgy] at hB'
            rw [hgy] at hcell
            have hset : Row4 (wr.setCell ⟨g, A + k, none⟩ (.int .u32 ((0 : Nat) : Int))) g cap (pre ++ (zs ++ (0 :: post))) := by
              have := hB'.set (pre.length + zs.length) 0
              rwa [set_mid', hzl, HA.out] at this
            have hmod : ((y : Int) + (c : Int)) % 1000000000 = 0 := by rw [BB_eq] at ht; omega
            have HSET := Lib.hid hset
            have HGG := Lib.hid (Lib.grownBy_setB hG.out (A + k) (.int .u32 ((0 : Nat) : Int)))
            have HZ := Lib.hid (show wval (zs ++ [0]) = wval xs % wval vs by rw [wval_snoc, Nat.mul_zero, Nat.add_zero]; exact hz)
            have HZL := Lib.hid (show (zs ++ [0]).length = k + 1 by simp [f1])
            have HZB := Lib.hid (all_snoc f2 BB_pos)
            have d2 : decide ((k : Int) < (k : Int)) = false := decide_eq_false (by omega)
            clear hset hB' hdr hzl hB hI hyv hgy f1 f2 f3 f4 hzlt hrlt s3 hz ht hd0 hyw hG
            go_wp2
            go_ret
            exact ⟨zs ++ [0], ret_int (by have := HS1.out.1; omega), HZL.out, HZB.out, HZ.out, by rw [List.append_assoc]; exact HSET.out, HGG.out⟩

end Go.Proofs.YtblccbnejcngaaaGreatDoor
