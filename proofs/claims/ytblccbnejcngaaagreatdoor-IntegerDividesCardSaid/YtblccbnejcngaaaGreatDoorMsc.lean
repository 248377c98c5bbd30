/- Texts of this proof, one behind the other. -/
import Derived.Test.YtblccbnejcngaaaGreatDoorMzd
import Derived.Test.YtblccbnejcngaaaGreatDoorMsr
import Derived.Deep.DeepCutAuto
import Derived.Deep.CutRange
import Derived.Test.YtblccbnejcngaaaGreatDoorMij
/- garboardref02's integers by signs and lengths that the walk leaves alone; contracts in numbers. -/
namespace Go.Proofs.YtblccbnejcngaaaGreatDoor
open Go.RowKit Go.Gb

def zneg (z : Int) : Bool := decide (z < 0)
def nlen (n : Nat) : Nat := (digs n).length
def zlen (z : Int) : Nat := nlen z.natAbs
/-- The slice v reads, in the world w, as the natural number n. -/
def RN (w : World) (v : Value) (n : Nat) : Prop := Rd .u32 w v (digs n)
theorem RN.below {w w' : World} {v : Value} {n : Nat} (h : RN w v n) (hb : Below w.heap.size w w') : RN w' v n := Rd.below h hb
theorem RN.sh {w : World} {v : Value} {n : Nat} (h : RN w v n) : ∃ p c, v = .slice p (nlen n) c := rd_form h
theorem RN.set {w : World} {v : Value} {n g : Nat} {cs : Array Value} {T : TypeId} (h : RN w v n) (hg : SBk w g cs T) (hn : noInt cs = true) (i : Nat) (u : Value) : RN (w.setCell ⟨g, i, none⟩ u) v n := Rd.set h hg hn i u
theorem store_rn {v : Value} {n g : Nat} {T : TypeId} (l : List Value) {w : World} {cs : Array Value} (h : RN w v n) (hg : SBk w g cs T) (hn : noInt cs = true) (hl : l.all plainV = true) : RN (storeAll w g 0 l) v n := store_rd l 0 h hg hn hl
theorem Rz.sh {w : World} {u : Value} {z : Int} (h : Rz w u z) : ∃ p c, u = .agg #[.bool (zneg z), .slice p (zlen z) c] ∧ RN w (.slice p (zlen z) c) z.natAbs := rz_form h
theorem Rz.mk {w : World} {p : Option Addr} {c : Nat} {z : Int} (h : RN w (.slice p (zlen z) c) z.natAbs) : Rz w (.agg #[.bool (zneg z), .slice p (zlen z) c]) z := ⟨_, rfl, h⟩
theorem Rz.set {w : World} {u : Value} {z : Int} {g : Nat} {cs : Array Value} {T : TypeId} (h : Rz w u z) (hg : SBk w g cs T) (hn : noInt cs = true) (i : Nat) (v : Value) : Rz (w.setCell ⟨g, i, none⟩ v) u z := by
  obtain ⟨v', e, h⟩ := h
  exact ⟨v', e, Rd.set h hg hn i v⟩
/-- A slot holds the slice of n; the struct of z; a pair of either. -/
def Rel.nat (n : Nat) : Rel := ⟨fun v W => ∃ p c, v = .slice p (nlen n) c ∧ RN W (.slice p (nlen n) c) n, fun _ _ _ ⟨p, c, e, h⟩ hb => ⟨p, c, e, h.below hb⟩⟩
def Rel.int (z : Int) : Rel := ⟨fun v W => ∃ p c, v = .agg #[.bool (zneg z), .slice p (zlen z) c] ∧ RN W (.slice p (zlen z) c) z.natAbs, fun _ _ _ ⟨p, c, e, h⟩ hb => ⟨p, c, e, h.below hb⟩⟩
def Rel.int2 (y z : Int) : Rel := ⟨fun v W => ∃ p c p' c', v = .tuple #[.agg #[.bool (zneg y), .slice p (zlen y) c], .agg #[.bool (zneg z), .slice p' (zlen z) c']] ∧ RN W (.slice p (zlen y) c) y.natAbs ∧ RN W (.slice p' (zlen z) c') z.natAbs, fun _ _ _ ⟨p, c, p', c', e, h, k⟩ hb => ⟨p, c, p', c', e, h.below hb, k.below hb⟩⟩

/-- The struct of an integer z in block g. -/
def HZ (w : World) (g : Nat) (z : Int) : Prop := ∃ p c, SBk w g #[.bool (zneg z), .slice p (zlen z) c] 49 ∧ RN w (.slice p (zlen z) c) z.natAbs
theorem HZ.below {w w' : World} {g : Nat} {z : Int} (h : HZ w g z) (hb : Below w.heap.size w w') : HZ w' g z := by
  obtain ⟨p, c, h, r⟩ := h
  exact ⟨p, c, h.below hb, r.below hb⟩
theorem HZ.lt {w : World} {g : Nat} {z : Int} (h : HZ w g z) : g < w.heap.size := by obtain ⟨p, c, h, _⟩ := h; exact h.lt
theorem HZ.alloc {w : World} {g : Nat} {z : Int} (h : HZ w g z) (o : Obj) : HZ (w.alloc o) g z := h.below ((Below.refl _ _).alloc (Nat.le_refl _) o)
/-- The cells of such a block. -/
theorem HZ.cells {w : World} {g : Nat} {z : Int} (h : HZ w g z) : ∃ p c, w.cell? ⟨g, 0, none⟩ = some (.bool (zneg z)) ∧ w.cell? ⟨g, 1, none⟩ = some (.slice p (zlen z) c) ∧ w.frozen? ⟨g, 0, none⟩ = false ∧ w.frozen? ⟨g, 1, none⟩ = false ∧ RN w (.slice p (zlen z) c) z.natAbs ∧ Rz w (.agg #[.bool (zneg z), .slice p (zlen z) c]) z := by
  obtain ⟨p, c, h, r⟩ := h
  exact ⟨p, c, h.cell rfl, h.cell rfl, h.frozen, h.frozen, r, Rz.mk r⟩
/-- A struct stored whole into a block. -/
theorem HZ.put {w : World} {g : Nat} {b : Value} {v : Value} {p : Option Addr} {c : Nat} {z : Int} (h : SBk w g #[b, v] 49) (hn : noInt #[b, v] = true) (r : RN w (.slice p (zlen z) c) z.natAbs) : HZ ((w.setCell ⟨g, 0, none⟩ (.bool (zneg z))).setCell ⟨g, 1, none⟩ (.slice p (zlen z) c)) g z := by
  have h1 : SBk (w.setCell ⟨g, 0, none⟩ (.bool (zneg z))) g #[.bool (zneg z), v] 49 := h.set _
  have hn1 : noInt #[.bool (zneg z), v] = true := by
    unfold noInt at hn ⊢
    simp at hn ⊢
    exact hn.2
  exact ⟨p, c, h1.set _, (r.set h hn 0 _).set h1 hn1 1 _⟩

theorem cOver (v1 v2 : Value) (a b : Nat) (hb : b ≠ 0) (hl : nlen a ≤ 50000) (w : World) (h1 : RN w v1 a) (h2 : RN w v2 b) :
    Calls Tryz.prog 46 #[v1, v2] w fun e w' => ∃ p c p' c', e = .returned (.tuple #[.slice p (nlen (a / b)) c, .slice p' (nlen (a % b)) c']) ∧ RN w' (.slice p (nlen (a / b)) c) (a / b) ∧ RN w' (.slice p' (nlen (a % b)) c') (a % b) ∧ Below w.heap.size w w' := by
  refine (ROver_any v1 v2 a b hb hl w h1 h2).mono ?_
  rintro e w' ⟨q, r, rfl, hq, hr, hB⟩
  obtain ⟨p, c, rfl⟩ := RN.sh hq
  obtain ⟨p', c', rfl⟩ := RN.sh hr
  exact ⟨p, c, p', c', rfl, hq, hr, hB⟩
theorem own_rn {f : FuncId} {args : Array Value} {w : World} {n : Nat} (h : Calls Tryz.prog f args w fun e w' => ∃ v, e = .returned v ∧ Own .u32 74 w.heap.size w' v (digs n) ∧ Below w.heap.size w w') :
    Calls Tryz.prog f args w fun e w' => ∃ p c, e = .returned (.slice p (nlen n) c) ∧ RN w' (.slice p (nlen n) c) n ∧ Below w.heap.size w w' := by
  refine h.mono ?_
  rintro e w' ⟨v, rfl, ho, hb⟩
  obtain ⟨p, c, rfl⟩ := RN.sh ho.rd
  exact ⟨p, c, rfl, ho.rd, hb⟩
theorem cPlus (v1 v2 : Value) (a b : Nat) (hla : nlen a ≤ 100000) (hlb : nlen b ≤ 100000) (w : World) (h1 : RN w v1 a) (h2 : RN w v2 b) :
    Calls Tryz.prog 47 #[v1, v2] w fun e w' => ∃ p c, e = .returned (.slice p (nlen (a + b)) c) ∧ RN w' (.slice p (nlen (a + b)) c) (a + b) ∧ Below w.heap.size w w' := own_rn (RPlus_any v1 v2 a b hla hlb w h1 h2)
theorem cMinus (v1 v2 : Value) (a b : Nat) (hab : b ≤ a) (hla : nlen a ≤ 100000) (w : World) (h1 : RN w v1 a) (h2 : RN w v2 b) :
    Calls Tryz.prog 49 #[v1, v2] w fun e w' => ∃ p c, e = .returned (.slice p (nlen (a - b)) c) ∧ RN w' (.slice p (nlen (a - b)) c) (a - b) ∧ Below w.heap.size w w' := own_rn (RMinus_any v1 v2 a b hab hla w h1 h2)
theorem cSmall (n : Nat) (hn : n < 4294967296) (w : World) :
    Calls Tryz.prog 48 #[.int .u32 (n : Int)] w fun e w' => ∃ p c, e = .returned (.slice p (nlen n) c) ∧ RN w' (.slice p (nlen n) c) n ∧ Below w.heap.size w w' := own_rn (RSmall1 n hn w)
theorem cSmallL (k : Int) (n : Nat) (hk : (n : Int) = k) (hn : n < 4294967296) (w : World) :
    Calls Tryz.prog 48 #[.int .u32 k] w fun e w' => ∃ p c, e = .returned (.slice p (nlen n) c) ∧ RN w' (.slice p (nlen n) c) n ∧ Below w.heap.size w w' := by subst hk; exact cSmall n hn w
theorem cCommon (v1 v2 : Value) (a b g : Nat) (hg : Nat.gcd a b = g) (hla : nlen a ≤ 50000) (hlb : nlen b ≤ 50000) (w : World) (h1 : RN w v1 a) (h2 : RN w v2 b) :
    Calls Tryz.prog 30 #[v1, v2] w fun e w' => ∃ p c, e = .returned (.slice p (nlen g) c) ∧ RN w' (.slice p (nlen g) c) g ∧ Below w.heap.size w w' := by
  subst hg
  refine (RCommon_any v1 v2 a b hla hlb w h1 h2).mono ?_
  rintro e w' ⟨v, rfl, hr, hb⟩
  obtain ⟨p, c, rfl⟩ := RN.sh hr
  exact ⟨p, c, rfl, hr, hb⟩
theorem rz_sh {f : FuncId} {args : Array Value} {w : World} {z : Int} (h : Calls Tryz.prog f args w fun e w' => ∃ u, e = .returned u ∧ Rz w' u z ∧ Below w.heap.size w w') :
    Calls Tryz.prog f args w fun e w' => ∃ p c, e = .returned (.agg #[.bool (zneg z), .slice p (zlen z) c]) ∧ RN w' (.slice p (zlen z) c) z.natAbs ∧ Below w.heap.size w w' := by
  refine h.mono ?_
  rintro e w' ⟨u, rfl, hu, hb⟩
  obtain ⟨p, c, rfl, r⟩ := hu.sh
  exact ⟨p, c, rfl, r, hb⟩
theorem cMake (b : Bool) (v : Value) (n : Nat) (z : Int) (hz : z = if b then -(n : Int) else (n : Int)) (hl : nlen n ≤ 1000000) (w : World) (h : RN w v n) :
    Calls Tryz.prog 29 #[.bool b, v] w fun e w' => ∃ p c, e = .returned (.agg #[.bool (zneg z), .slice p (zlen z) c]) ∧ RN w' (.slice p (zlen z) c) z.natAbs ∧ Below w.heap.size w w' := rz_sh (zMake b v n z hz hl w h)
theorem nlen_zero : nlen 0 = 0 := by unfold nlen; rw [digs_zero]; rfl
theorem nlen_one : nlen 1 = 1 := by decide +kernel
theorem nlen_succ {n : Nat} (h : nlen n ≤ 100000) : nlen (n + 1) ≤ 1000000 := by
  have e : (digs 1).length = 1 := nlen_one
  have := digs_add_len (a := n) (b := 1) (K := 100000) h (by omega)
  unfold nlen
  omega
theorem nlen_mono {a b : Nat} (h : a ≤ b) : nlen a ≤ nlen b := digs_length_mono h

end Go.Proofs.YtblccbnejcngaaaGreatDoor
/- garboardref02.Over: walks. -/
namespace Go.Proofs.YtblccbnejcngaaaGreatDoor
open Go.RowKit Go.Gb

set_option maxRecDepth 100000 in
set_option maxHeartbeats 4000000 in
theorem zOver_f (p1 : Option Addr) (l1 c1 : Nat) (p2 : Option Addr) (l2 c2 : Nat) (bb : Bool) (nq nr : Nat) (q r : Int) (hly : nlen nq ≤ 1000000) (hlr : nlen nr ≤ 1000000)
    (hq : q = if bb then -(nq : Int) else (nq : Int)) (hr : r = ((nr : Nat) : Int)) (w : World)
    (hC : ∀ W, Below w.heap.size w W → Calls Tryz.prog 46 #[.slice p1 l1 c1, .slice p2 l2 c2] W fun e w' => ∃ p c p' c', e = .returned (.tuple #[.slice p (nlen nq) c, .slice p' (nlen nr) c']) ∧ RN w' (.slice p (nlen nq) c) nq ∧ RN w' (.slice p' (nlen nr) c') nr ∧ Below W.heap.size W w') :
    Calls Tryz.prog 24 #[.agg #[.bool false, .slice p1 l1 c1], .agg #[.bool bb, .slice p2 l2 c2]] w fun e w' => ∃ p c p' c', e = .returned (.tuple #[.agg #[.bool (zneg q), .slice p (zlen q) c], .agg #[.bool (zneg r), .slice p' (zlen r) c']]) ∧ RN w' (.slice p (zlen q) c) q.natAbs ∧ RN w' (.slice p' (zlen r) c') r.natAbs ∧ Below w.heap.size w w' := by
  have C1 := Lib.hid hC
  have C2 := Lib.hid (fun v W h => cMake bb v _ q hq hly W h)
  have C3 := Lib.hid (fun v W h => cMake false v _ r hr hlr W h)
  clear hq hr hly hC hlr
  go_enter Tryz.func24, Tryz.ntmps24
  go_upto_region 1 with fail
  refine wp_boxes w [(#[.bool false, .slice p1 l1 c1], 49), (#[.bool bb, .slice p2 l2 c2], 49), (#[.bool false, .slice none 0 0], 49), (#[.bool false, .slice none 0 0], 49)] rfl ?_
  rintro W0 ⟨k1, k2, k3, k4, hb⟩
  have K1 := Lib.hid k1
  have K2 := Lib.hid k2
  have K3 := Lib.hid k3
  have K4 := Lib.hid k4
  have HB0 := Lib.hid (show Below w.heap.size w W0 from hb)
  have d1 := k1.cell (i := 1) rfl
  have d2 := k2.cell (i := 1) rfl
  clear k1 k2 k3 k4 hb
  go_wp2_with fail
  with_reducible refine (C1.out _ HB0.out).mono ?_
  rintro e W1 ⟨pq, cq, pr, cr, rfl, rq, rr, hb⟩
  clear d1 d2
  have K1 := Lib.hid (K1.out.below hb)
  have K2 := Lib.hid (K2.out.below hb)
  have K3 := Lib.hid (K3.out.below hb)
  have K4 := Lib.hid (K4.out.below hb)
  have HB1 := Lib.hid (HB0.out.trans (hb.mono HB0.out.size))
  have RQ := Lib.hid rq
  have RR := Lib.hid rr
  have d1 := K1.out.cell (i := 0) rfl
  have d2 := K2.out.cell (i := 0) rfl
  clear hb rq rr
  go_wp2_with fail
  with_reducible refine (C2.out _ _ RQ.out).mono ?_
  rintro e W2 ⟨pu, cu, rfl, ru, hb⟩
  clear d1 d2
  have K3 := Lib.hid (K3.out.below hb)
  have K4 := Lib.hid (K4.out.below hb)
  have HB2 := Lib.hid (HB1.out.trans (hb.mono HB1.out.size))
  have RU := Lib.hid ru
  have RR := Lib.hid (RR.out.below hb)
  clear hb ru
  go_wp2_with fail
  with_reducible refine (C3.out _ _ RR.out).mono ?_
  rintro e W3 ⟨pv, cv, rfl, rv, hb⟩
  have K3 := Lib.hid (K3.out.below hb)
  have K4 := Lib.hid (K4.out.below hb)
  have HB3 := Lib.hid (HB2.out.trans (hb.mono HB2.out.size))
  have RU := Lib.hid (RU.out.below hb)
  have RV := Lib.hid rv
  have d1 := K3.out.cell (i := 0) rfl
  have d2 := K3.out.cell (i := 1) rfl
  have d3 := K4.out.cell (i := 0) rfl
  have d4 := K4.out.cell (i := 1) rfl
  have f1 := K3.out.frozen (i := 0)
  have f2 := K3.out.frozen (i := 1)
  have f3 := K4.out.frozen (i := 0)
  have f4 := K4.out.frozen (i := 1)
  clear hb rv
  go_wp2
  refine bodyPost_ret (v := .tuple #[.agg #[.bool (zneg q), .slice pu (zlen q) cu], .agg #[.bool (zneg r), .slice pv (zlen r) cv]]) (by simp [results, Tryz.results24, go_sem, d1, d2, d3, d4]) rfl ⟨_, _, _, _, rfl, ?_, ?_, ?_⟩
  · exact put2_rd (put2_rd RU.out K3.out (noInt_z _ _ _ _) _ _ (noInt_z _ _ _ _)) (put2_off K4.out (by omega) _ _) (noInt_z _ _ _ _) _ _ (noInt_z _ _ _ _)
  · exact put2_rd (put2_rd RV.out K3.out (noInt_z _ _ _ _) _ _ (noInt_z _ _ _ _)) (put2_off K4.out (by omega) _ _) (noInt_z _ _ _ _) _ _ (noInt_z _ _ _ _)
  · exact put2_below (put2_below HB3.out (by omega) _ _) (by omega) _ _

set_option maxRecDepth 100000 in
set_option maxHeartbeats 4000000 in
theorem zOver_t0 (p1 : Option Addr) (l1 c1 : Nat) (p2 : Option Addr) (l2 c2 : Nat) (bb : Bool) (nq  : Nat) (q r : Int) (hly : nlen nq ≤ 1000000) 
    (hq : q = if (!bb) then -(nq : Int) else (nq : Int)) (hr : r = ((0 : Nat) : Int)) (w : World)
    (hC : ∀ W, Below w.heap.size w W → Calls Tryz.prog 46 #[.slice p1 l1 c1, .slice p2 l2 c2] W fun e w' => ∃ p c p' c', e = .returned (.tuple #[.slice p (nlen nq) c, .slice p' (nlen 0) c']) ∧ RN w' (.slice p (nlen nq) c) nq ∧ RN w' (.slice p' (nlen 0) c') 0 ∧ Below W.heap.size W w') :
    Calls Tryz.prog 24 #[.agg #[.bool true, .slice p1 l1 c1], .agg #[.bool bb, .slice p2 l2 c2]] w fun e w' => ∃ p c p' c', e = .returned (.tuple #[.agg #[.bool (zneg q), .slice p (zlen q) c], .agg #[.bool (zneg r), .slice p' (zlen r) c']]) ∧ RN w' (.slice p (zlen q) c) q.natAbs ∧ RN w' (.slice p' (zlen r) c') r.natAbs ∧ Below w.heap.size w w' := by
  have C1 := Lib.hid hC
  have C2 := Lib.hid (fun v W h => cMake (!bb) v _ q hq hly W h)
  have C3 := Lib.hid (fun v W h => cMake false v _ r hr (by rw [nlen_zero]; decide) W h)
  rw [nlen_zero] at C1
  clear hq hr hly hC
  go_enter Tryz.func24, Tryz.ntmps24
  go_upto_region 1 with fail
  refine wp_boxes w [(#[.bool true, .slice p1 l1 c1], 49), (#[.bool bb, .slice p2 l2 c2], 49), (#[.bool false, .slice none 0 0], 49), (#[.bool false, .slice none 0 0], 49)] rfl ?_
  rintro W0 ⟨k1, k2, k3, k4, hb⟩
  have K1 := Lib.hid k1
  have K2 := Lib.hid k2
  have K3 := Lib.hid k3
  have K4 := Lib.hid k4
  have HB0 := Lib.hid (show Below w.heap.size w W0 from hb)
  have d1 := k1.cell (i := 1) rfl
  have d2 := k2.cell (i := 1) rfl
  clear k1 k2 k3 k4 hb
  go_wp2_with fail
  with_reducible refine (C1.out _ HB0.out).mono ?_
  rintro e W1 ⟨pq, cq, pr, cr, rfl, rq, rr, hb⟩
  clear d1 d2
  have K1 := Lib.hid (K1.out.below hb)
  have K2 := Lib.hid (K2.out.below hb)
  have K3 := Lib.hid (K3.out.below hb)
  have K4 := Lib.hid (K4.out.below hb)
  have HB1 := Lib.hid (HB0.out.trans (hb.mono HB0.out.size))
  have RQ := Lib.hid rq
  have RR := Lib.hid rr
  have d1 := K1.out.cell (i := 0) rfl
  have d2 := K2.out.cell (i := 0) rfl
  clear hb rq rr
  go_wp2_with fail
  with_reducible refine (C2.out _ _ RQ.out).mono ?_
  rintro e W2 ⟨pu, cu, rfl, ru, hb⟩
  clear d1 d2
  have K3 := Lib.hid (K3.out.below hb)
  have K4 := Lib.hid (K4.out.below hb)
  have HB2 := Lib.hid (HB1.out.trans (hb.mono HB1.out.size))
  have RU := Lib.hid ru
  have RR := Lib.hid (RR.out.below hb)
  clear hb ru
  go_wp2_with fail
  with_reducible refine (C3.out _ _ RR.out).mono ?_
  rintro e W3 ⟨pv, cv, rfl, rv, hb⟩
  have K3 := Lib.hid (K3.out.below hb)
  have K4 := Lib.hid (K4.out.below hb)
  have HB3 := Lib.hid (HB2.out.trans (hb.mono HB2.out.size))
  have RU := Lib.hid (RU.out.below hb)
  have RV := Lib.hid rv
  have d1 := K3.out.cell (i := 0) rfl
  have d2 := K3.out.cell (i := 1) rfl
  have d3 := K4.out.cell (i := 0) rfl
  have d4 := K4.out.cell (i := 1) rfl
  have f1 := K3.out.frozen (i := 0)
  have f2 := K3.out.frozen (i := 1)
  have f3 := K4.out.frozen (i := 0)
  have f4 := K4.out.frozen (i := 1)
  clear hb rv
  go_wp2
  refine bodyPost_ret (v := .tuple #[.agg #[.bool (zneg q), .slice pu (zlen q) cu], .agg #[.bool (zneg r), .slice pv (zlen r) cv]]) (by simp [results, Tryz.results24, go_sem, d1, d2, d3, d4]) rfl ⟨_, _, _, _, rfl, ?_, ?_, ?_⟩
  · exact put2_rd (put2_rd RU.out K3.out (noInt_z _ _ _ _) _ _ (noInt_z _ _ _ _)) (put2_off K4.out (by omega) _ _) (noInt_z _ _ _ _) _ _ (noInt_z _ _ _ _)
  · exact put2_rd (put2_rd RV.out K3.out (noInt_z _ _ _ _) _ _ (noInt_z _ _ _ _)) (put2_off K4.out (by omega) _ _) (noInt_z _ _ _ _) _ _ (noInt_z _ _ _ _)
  · exact put2_below (put2_below HB3.out (by omega) _ _) (by omega) _ _

set_option maxRecDepth 100000 in
set_option maxHeartbeats 4000000 in
theorem zOver_t (p1 : Option Addr) (l1 c1 : Nat) (p2 : Option Addr) (l2 c2 : Nat) (bb : Bool) (nq nr nb : Nat) (q r : Int) (hly : nlen nq ≤ 100000) (hr0 : 0 < nlen nr) (hlb : nlen nb ≤ 100000) (hnr : nr ≤ nb)
    (hq : q = if (!bb) then -((nq + 1 : Nat) : Int) else ((nq + 1 : Nat) : Int)) (hr : r = ((nb - nr : Nat) : Int)) (w : World) (r2 : RN w (.slice p2 l2 c2) nb)
    (hC : ∀ W, Below w.heap.size w W → Calls Tryz.prog 46 #[.slice p1 l1 c1, .slice p2 l2 c2] W fun e w' => ∃ p c p' c', e = .returned (.tuple #[.slice p (nlen nq) c, .slice p' (nlen nr) c']) ∧ RN w' (.slice p (nlen nq) c) nq ∧ RN w' (.slice p' (nlen nr) c') nr ∧ Below W.heap.size W w') :
    Calls Tryz.prog 24 #[.agg #[.bool true, .slice p1 l1 c1], .agg #[.bool bb, .slice p2 l2 c2]] w fun e w' => ∃ p c p' c', e = .returned (.tuple #[.agg #[.bool (zneg q), .slice p (zlen q) c], .agg #[.bool (zneg r), .slice p' (zlen r) c']]) ∧ RN w' (.slice p (zlen q) c) q.natAbs ∧ RN w' (.slice p' (zlen r) c') r.natAbs ∧ Below w.heap.size w w' := by
  have C1 := Lib.hid hC
  have C0 := Lib.hid (fun v1 v2 W h1 h2 => cPlus v1 v2 nq 1 hly (by rw [nlen_one]; decide) W h1 h2)
  have C2 := Lib.hid (fun v W h => cMake (!bb) v _ q hq (nlen_succ hly) W h)
  have C3 := Lib.hid (fun v W h => cMake false v _ r hr (Nat.le_trans (nlen_mono (Nat.sub_le nb nr)) (Nat.le_trans hlb (by decide))) W h)
  have C4 := Lib.hid (fun v1 v2 W h1 h2 => cMinus v1 v2 nb nr hnr hlb W h1 h2)
  have RY := Lib.hid r2
  have e0 : (nlen nr == 0) = false := by rw [beq_eq_false_iff_ne]; omega
  have e1 : ((nlen nr : Int) == 0) = false := by rw [beq_eq_false_iff_ne]; omega
  have e2 : ¬ (nlen nr : Int) = 0 := by omega
  have e3 : ¬ nlen nr = 0 := by omega
  clear hq hr hly hC r2 hr0 hlb hnr
  go_enter Tryz.func24, Tryz.ntmps24
  go_upto_region 1 with fail
  refine wp_boxes w [(#[.bool true, .slice p1 l1 c1], 49), (#[.bool bb, .slice p2 l2 c2], 49), (#[.bool false, .slice none 0 0], 49), (#[.bool false, .slice none 0 0], 49)] rfl ?_
  rintro W0 ⟨k1, k2, k3, k4, hb⟩
  have K1 := Lib.hid k1
  have K2 := Lib.hid k2
  have K3 := Lib.hid k3
  have K4 := Lib.hid k4
  have HB0 := Lib.hid (show Below w.heap.size w W0 from hb)
  have d1 := k1.cell (i := 1) rfl
  have d2 := k2.cell (i := 1) rfl
  clear k1 k2 k3 k4 hb
  go_wp2_with fail
  with_reducible refine (C1.out _ HB0.out).mono ?_
  rintro e W1 ⟨pq, cq, pr, cr, rfl, rq, rr, hb⟩
  clear d1 d2
  have K1 := Lib.hid (K1.out.below hb)
  have K2 := Lib.hid (K2.out.below hb)
  have K3 := Lib.hid (K3.out.below hb)
  have K4 := Lib.hid (K4.out.below hb)
  have HB1 := Lib.hid (HB0.out.trans (hb.mono HB0.out.size))
  have RQ := Lib.hid rq
  have RR := Lib.hid rr
  have d1 := K1.out.cell (i := 0) rfl
  clear hb rq rr
  go_wp2_with fail
  with_reducible refine (cSmallL 1 1 rfl (by decide) W1).mono ?_
  rintro e W2 ⟨pu, cu, rfl, ru, hb⟩
  clear d1
  have K2 := Lib.hid (K2.out.below hb)
  have K3 := Lib.hid (K3.out.below hb)
  have K4 := Lib.hid (K4.out.below hb)
  have HB2 := Lib.hid (HB1.out.trans (hb.mono HB1.out.size))
  have RU := Lib.hid ru
  have RQ := Lib.hid (RQ.out.below hb)
  have RR := Lib.hid (RR.out.below hb)
  clear hb ru
  go_wp2_with fail
  with_reducible refine (C0.out _ _ _ RQ.out RU.out).mono ?_
  rintro e W4 ⟨ps, cs, rfl, rs, hb⟩
  have K2 := Lib.hid (K2.out.below hb)
  have K3 := Lib.hid (K3.out.below hb)
  have K4 := Lib.hid (K4.out.below hb)
  have HB4 := Lib.hid (HB2.out.trans (hb.mono HB2.out.size))
  have RS := Lib.hid rs
  have RR := Lib.hid (RR.out.below hb)
  clear hb rs
  go_wp2_with fail
  refine wp_region_tail (by kernel_rfl) 10 2 (fun i => [36, 37, 38, 39, 40, 41, 42, 43, 44, 45].getD i 0) (RelR [Rel.val (.pointer (some ⟨w.heap.size + 1, 0, none⟩)), Rel.val (.bool bb), Rel.val (.bool (!bb)), Rel.val (.slice ps (nlen (nq + 1)) cs), Rel.int (q), Rel.val (.pointer (some ⟨w.heap.size + 1, 1, none⟩)), Rel.val (.slice p2 l2 c2), Rel.val (.slice pr (nlen nr) cr), Rel.nat (nb - nr), Rel.int (r)]) (fun W => Below W4.heap.size W4 W) (by kernel_rfl) (by kernel_rfl) (by kernel_rfl) (Below.refl _ _).drew ?_ ?_
  · intro listed a W i hI hrd him
    have HI := Lib.hid hI
    have Hi := fun (j : Nat) (h : i = j) => (Lib.hid (h ▸ hrd) : Hid (j ∈ _))
    clear hI hrd
    match i, him with
    | 0, _ =>
      have Hi := Hi 0 rfl
      have y3 : a.tmps[3]? = some (.pointer (some ⟨w.heap.size + 1, 0, none⟩)) := HI.out.rest 3 (by decide)
      refine wpOp_step rfl (fun K' hK => ?_)
      have hK := Lib.hid hK
      go_simp
      exact hK.out _ _ (HI.out.put Hi.out (by decide) rfl (by simp) (by decide) (rfl) (fun j u h => h) (HI.out.world))
    | 1, _ =>
      have Hi := Hi 1 rfl
      have x0 : a.tmps[36]? = some (.pointer (some ⟨w.heap.size + 1, 0, none⟩)) := by
        obtain ⟨v, y, e⟩ := HI.out.at (i := 0) Hi.out (by kernel_rfl) (by decide)
        obtain rfl : v = .pointer (some ⟨w.heap.size + 1, 0, none⟩) := e
        exact y
      have dK20 := (K2.out.below HI.out.world).cell (i := 0) rfl
      refine wpOp_step rfl (fun K' hK => ?_)
      have hK := Lib.hid hK
      go_simp
      exact hK.out _ _ (HI.out.put Hi.out (by decide) rfl (by simp) (by decide) (rfl) (fun j u h => h) (HI.out.world))
    | 2, _ =>
      have Hi := Hi 2 rfl
      have x1 : a.tmps[37]? = some (.bool bb) := by
        obtain ⟨v, y, e⟩ := HI.out.at (i := 1) Hi.out (by kernel_rfl) (by decide)
        obtain rfl : v = .bool bb := e
        exact y
      refine wpOp_step rfl (fun K' hK => ?_)
      have hK := Lib.hid hK
      go_simp
      exact hK.out _ _ (HI.out.put Hi.out (by decide) rfl (by simp) (by decide) (rfl) (fun j u h => h) (HI.out.world))
    | 3, _ =>
      have Hi := Hi 3 rfl
      have y6 : a.tmps[6]? = some (.slice ps (nlen (nq + 1)) cs) := HI.out.rest 6 (by decide)
      refine wpOp_step rfl (fun K' hK => ?_)
      have hK := Lib.hid hK
      go_simp
      exact hK.out _ _ (HI.out.put Hi.out (by decide) rfl (by simp) (by decide) (rfl) (fun j u h => h) (HI.out.world))
    | 4, _ =>
      have Hi := Hi 4 rfl
      have x2 : a.tmps[38]? = some (.bool (!bb)) := by
        obtain ⟨v, y, e⟩ := HI.out.at (i := 2) Hi.out (by kernel_rfl) (by decide)
        obtain rfl : v = .bool (!bb) := e
        exact y
      have x3 : a.tmps[39]? = some (.slice ps (nlen (nq + 1)) cs) := by
        obtain ⟨v, y, e⟩ := HI.out.at (i := 3) Hi.out (by kernel_rfl) (by decide)
        obtain rfl : v = .slice ps (nlen (nq + 1)) cs := e
        exact y
      refine wpOp_step rfl (fun K' hK => ?_)
      have hK := Lib.hid hK
      go_simp
      with_reducible refine (C2.out _ _ (RS.out.below HI.out.world)).mono ?_
      rintro e W' ⟨p4, c4, rfl, r4, hb⟩
      exact hK.out _ _ (HI.out.put Hi.out (by decide) rfl (by simp) (by decide) (⟨p4, c4, rfl, r4⟩) (fun j u h => RelR.mono hb j u h) (HI.out.world.trans (hb.mono HI.out.world.size)))
    | 5, _ =>
      have Hi := Hi 5 rfl
      have y3 : a.tmps[3]? = some (.pointer (some ⟨w.heap.size + 1, 0, none⟩)) := HI.out.rest 3 (by decide)
      refine wpOp_step rfl (fun K' hK => ?_)
      have hK := Lib.hid hK
      go_simp
      exact hK.out _ _ (HI.out.put Hi.out (by decide) rfl (by simp) (by decide) (rfl) (fun j u h => h) (HI.out.world))
    | 6, _ =>
      have Hi := Hi 6 rfl
      have x5 : a.tmps[41]? = some (.pointer (some ⟨w.heap.size + 1, 1, none⟩)) := by
        obtain ⟨v, y, e⟩ := HI.out.at (i := 5) Hi.out (by kernel_rfl) (by decide)
        obtain rfl : v = .pointer (some ⟨w.heap.size + 1, 1, none⟩) := e
        exact y
      have dK21 := (K2.out.below HI.out.world).cell (i := 1) rfl
      refine wpOp_step rfl (fun K' hK => ?_)
      have hK := Lib.hid hK
      go_simp
      exact hK.out _ _ (HI.out.put Hi.out (by decide) rfl (by simp) (by decide) (rfl) (fun j u h => h) (HI.out.world))
    | 7, _ =>
      have Hi := Hi 7 rfl
      have y7 : a.tmps[7]? = some (.slice pr (nlen nr) cr) := HI.out.rest 7 (by decide)
      refine wpOp_step rfl (fun K' hK => ?_)
      have hK := Lib.hid hK
      go_simp
      exact hK.out _ _ (HI.out.put Hi.out (by decide) rfl (by simp) (by decide) (rfl) (fun j u h => h) (HI.out.world))
    | 8, _ =>
      have Hi := Hi 8 rfl
      have x6 : a.tmps[42]? = some (.slice p2 l2 c2) := by
        obtain ⟨v, y, e⟩ := HI.out.at (i := 6) Hi.out (by kernel_rfl) (by decide)
        obtain rfl : v = .slice p2 l2 c2 := e
        exact y
      have x7 : a.tmps[43]? = some (.slice pr (nlen nr) cr) := by
        obtain ⟨v, y, e⟩ := HI.out.at (i := 7) Hi.out (by kernel_rfl) (by decide)
        obtain rfl : v = .slice pr (nlen nr) cr := e
        exact y
      refine wpOp_step rfl (fun K' hK => ?_)
      have hK := Lib.hid hK
      go_simp
      with_reducible refine (C4.out _ _ _ ((RY.out.below HB4.out).below HI.out.world) (RR.out.below HI.out.world)).mono ?_
      rintro e W' ⟨p8, c8, rfl, r8, hb⟩
      exact hK.out _ _ (HI.out.put Hi.out (by decide) rfl (by simp) (by decide) (⟨p8, c8, rfl, r8⟩) (fun j u h => RelR.mono hb j u h) (HI.out.world.trans (hb.mono HI.out.world.size)))
    | 9, _ =>
      have Hi := Hi 9 rfl
      obtain ⟨v, x8, p8, c8, e, r8⟩ := HI.out.at (i := 8) Hi.out (by kernel_rfl) (by decide)
      obtain rfl := e
      have x8 : a.tmps[44]? = some (.slice p8 (nlen (nb - nr)) c8) := x8
      have R8 := Lib.hid r8
      clear r8
      refine wpOp_step rfl (fun K' hK => ?_)
      have hK := Lib.hid hK
      go_simp
      with_reducible refine (C3.out _ _ R8.out).mono ?_
      rintro e W' ⟨p9, c9, rfl, r9, hb⟩
      exact hK.out _ _ (HI.out.put Hi.out (by decide) rfl (by simp) (by decide) (⟨p9, c9, rfl, r9⟩) (fun j u h => RelR.mono hb j u h) (HI.out.world.trans (hb.mono HI.out.world.size)))
    | n + 10, h => exact absurd h (by omega)
  intro listed a W hI hall
  obtain ⟨v0, x0, e0⟩ := hI.slots 0 (by decide) (hall 0 (by decide))
  obtain rfl : v0 = .pointer (some ⟨w.heap.size + 1, 0, none⟩) := e0
  obtain ⟨v1, x1, e1⟩ := hI.slots 1 (by decide) (hall 1 (by decide))
  obtain rfl : v1 = .bool bb := e1
  obtain ⟨v2, x2, e2⟩ := hI.slots 2 (by decide) (hall 2 (by decide))
  obtain rfl : v2 = .bool (!bb) := e2
  obtain ⟨v3, x3, e3⟩ := hI.slots 3 (by decide) (hall 3 (by decide))
  obtain rfl : v3 = .slice ps (nlen (nq + 1)) cs := e3
  obtain ⟨v4, x4, p4, c4, e4, r4⟩ := hI.slots 4 (by decide) (hall 4 (by decide))
  obtain rfl := e4
  have R4 := Lib.hid r4
  clear r4
  obtain ⟨v5, x5, e5⟩ := hI.slots 5 (by decide) (hall 5 (by decide))
  obtain rfl : v5 = .pointer (some ⟨w.heap.size + 1, 1, none⟩) := e5
  obtain ⟨v6, x6, e6⟩ := hI.slots 6 (by decide) (hall 6 (by decide))
  obtain rfl : v6 = .slice p2 l2 c2 := e6
  obtain ⟨v7, x7, e7⟩ := hI.slots 7 (by decide) (hall 7 (by decide))
  obtain rfl : v7 = .slice pr (nlen nr) cr := e7
  obtain ⟨v8, x8, p8, c8, e8, r8⟩ := hI.slots 8 (by decide) (hall 8 (by decide))
  obtain rfl := e8
  have R8 := Lib.hid r8
  clear r8
  obtain ⟨v9, x9, p9, c9, e9, r9⟩ := hI.slots 9 (by decide) (hall 9 (by decide))
  obtain rfl := e9
  have R9 := Lib.hid r9
  clear r9
  have ea := hI.fin [(36, .pointer (some ⟨w.heap.size + 1, 0, none⟩)), (37, .bool bb), (38, .bool (!bb)), (39, .slice ps (nlen (nq + 1)) cs), (40, .agg #[.bool (zneg (q)), .slice p4 (zlen (q)) c4]), (41, .pointer (some ⟨w.heap.size + 1, 1, none⟩)), (42, .slice p2 l2 c2), (43, .slice pr (nlen nr) cr), (44, .slice p8 (nlen (nb - nr)) c8), (45, .agg #[.bool (zneg (r)), .slice p9 (zlen (r)) c9])] (by
    intro p hp
    simp only [List.mem_cons, List.not_mem_nil, or_false] at hp
    rcases hp with rfl | rfl | rfl | rfl | rfl | rfl | rfl | rfl | rfl | rfl
    · exact x0
    · exact x1
    · exact x2
    · exact x3
    · exact x4
    · exact x5
    · exact x6
    · exact x7
    · exact x8
    · exact x9) (by
    intro d hd i him h
    match i, him with
    | 0, _ => exact hd _ (List.Mem.head _) h
    | 1, _ => exact hd _ (List.Mem.tail _ (List.Mem.head _)) h
    | 2, _ => exact hd _ (List.Mem.tail _ (List.Mem.tail _ (List.Mem.head _))) h
    | 3, _ => exact hd _ (List.Mem.tail _ (List.Mem.tail _ (List.Mem.tail _ (List.Mem.head _)))) h
    | 4, _ => exact hd _ (List.Mem.tail _ (List.Mem.tail _ (List.Mem.tail _ (List.Mem.tail _ (List.Mem.head _))))) h
    | 5, _ => exact hd _ (List.Mem.tail _ (List.Mem.tail _ (List.Mem.tail _ (List.Mem.tail _ (List.Mem.tail _ (List.Mem.head _)))))) h
    | 6, _ => exact hd _ (List.Mem.tail _ (List.Mem.tail _ (List.Mem.tail _ (List.Mem.tail _ (List.Mem.tail _ (List.Mem.tail _ (List.Mem.head _))))))) h
    | 7, _ => exact hd _ (List.Mem.tail _ (List.Mem.tail _ (List.Mem.tail _ (List.Mem.tail _ (List.Mem.tail _ (List.Mem.tail _ (List.Mem.tail _ (List.Mem.head _)))))))) h
    | 8, _ => exact hd _ (List.Mem.tail _ (List.Mem.tail _ (List.Mem.tail _ (List.Mem.tail _ (List.Mem.tail _ (List.Mem.tail _ (List.Mem.tail _ (List.Mem.tail _ (List.Mem.head _))))))))) h
    | 9, _ => exact hd _ (List.Mem.tail _ (List.Mem.tail _ (List.Mem.tail _ (List.Mem.tail _ (List.Mem.tail _ (List.Mem.tail _ (List.Mem.tail _ (List.Mem.tail _ (List.Mem.tail _ (List.Mem.head _)))))))))) h
    | n + 10, h => omega)
  have HBW := Lib.hid hI.world
  clear hI hall x0 x1 x2 x3 x4 x5 x6 x7 x8 x9
  subst ea
  simp only [putL, List.setIfInBounds_toArray, List.set_cons_zero, List.set_cons_succ]
  have HB5 := Lib.hid (HB4.out.trans (HBW.out.mono HB4.out.size))
  have K3 := Lib.hid (K3.out.below HBW.out)
  have K4 := Lib.hid (K4.out.below HBW.out)
  have d1 := K3.out.cell (i := 0) rfl
  have d2 := K3.out.cell (i := 1) rfl
  have d3 := K4.out.cell (i := 0) rfl
  have d4 := K4.out.cell (i := 1) rfl
  have f1 := K3.out.frozen (i := 0)
  have f2 := K3.out.frozen (i := 1)
  have f3 := K4.out.frozen (i := 0)
  have f4 := K4.out.frozen (i := 1)
  refine tail_succ (t := 1) ?_
  refine wpOp_step rfl (fun K' hK => ?_)
  have hK := Lib.hid hK
  go_simp
  refine hK.out _ _ ?_
  clear hK
  refine tail_succ (t := 0) ?_
  refine wpOp_step rfl (fun K' hK => ?_)
  have hK := Lib.hid hK
  go_simp
  refine hK.out _ _ ?_
  clear hK
  refine tail_nil ?_
  go_wp2
  refine bodyPost_ret (v := .tuple #[.agg #[.bool (zneg q), .slice p4 (zlen q) c4], .agg #[.bool (zneg r), .slice p9 (zlen r) c9]]) (by simp [results, Tryz.results24, go_sem, d1, d2, d3, d4]) rfl ⟨_, _, _, _, rfl, ?_, ?_, ?_⟩
  · exact put2_rd (put2_rd R4.out K3.out (noInt_z _ _ _ _) _ _ (noInt_z _ _ _ _)) (put2_off K4.out (by omega) _ _) (noInt_z _ _ _ _) _ _ (noInt_z _ _ _ _)
  · exact put2_rd (put2_rd R9.out K3.out (noInt_z _ _ _ _) _ _ (noInt_z _ _ _ _)) (put2_off K4.out (by omega) _ _) (noInt_z _ _ _ _) _ _ (noInt_z _ _ _ _)
  · exact put2_below (put2_below HB5.out (by omega) _ _) (by omega) _ _

end Go.Proofs.YtblccbnejcngaaaGreatDoor
/- garboardref02: Over of any integers, DivMod of texts: walks. -/
namespace Go.Proofs.YtblccbnejcngaaaGreatDoor
open Go.RowKit Go.Gb

theorem nat_div (x y : Int) : ((y.natAbs : Nat) : Int) * ((x.natAbs / y.natAbs : Nat) : Int) + ((x.natAbs % y.natAbs : Nat) : Int) = (x.natAbs : Int) := by
  exact_mod_cast Nat.div_add_mod x.natAbs y.natAbs
theorem over_pos (x y : Int) (hy : y ≠ 0) (hx : zneg x = false) : x / y = (if zneg y then -((x.natAbs / y.natAbs : Nat) : Int) else ((x.natAbs / y.natAbs : Nat) : Int)) ∧ x % y = ((x.natAbs % y.natAbs : Nat) : Int) := by
  have hx0 : ¬ x < 0 := of_decide_eq_false hx
  have h1 := nat_div x y
  have h2 := Nat.mod_lt x.natAbs (y := y.natAbs) (by omega)
  refine div_of_formula x y hy _ _ ⟨?_, by omega, by omega⟩
  generalize ((x.natAbs / y.natAbs : Nat) : Int) = q at *
  unfold zneg
  by_cases h : y < 0
  · have e : y * q = -((y.natAbs : Int) * q) := by rw [show (y.natAbs : Int) = -y by omega, Int.neg_mul, Int.neg_neg]
    rw [decide_eq_true h, if_pos rfl, Int.mul_neg]; omega
  · rw [decide_eq_false h, if_neg (by simp)]
    have e : y * q = (y.natAbs : Int) * q := by rw [show (y.natAbs : Int) = y by omega]
    omega
theorem over_exact (x y : Int) (hy : y ≠ 0) (hx : zneg x = true) (h0 : x.natAbs % y.natAbs = 0) : x / y = (if !zneg y then -((x.natAbs / y.natAbs : Nat) : Int) else ((x.natAbs / y.natAbs : Nat) : Int)) ∧ x % y = 0 := by
  have hx0 : x < 0 := of_decide_eq_true hx
  have h1 := nat_div x y
  rw [h0] at h1
  refine div_of_formula x y hy _ _ ⟨?_, by omega, by omega⟩
  generalize ((x.natAbs / y.natAbs : Nat) : Int) = q at *
  unfold zneg
  by_cases h : y < 0
  · rw [decide_eq_true h]
    have e : y * q = -((y.natAbs : Int) * q) := by rw [show (y.natAbs : Int) = -y by omega, Int.neg_mul, Int.neg_neg]
    simp; omega
  · rw [decide_eq_false h]
    have e : y * q = (y.natAbs : Int) * q := by rw [show (y.natAbs : Int) = y by omega]
    simp [Int.mul_neg]; omega
theorem over_neg (x y : Int) (hy : y ≠ 0) (hx : zneg x = true) (h0 : x.natAbs % y.natAbs ≠ 0) : x / y = (if !zneg y then -((x.natAbs / y.natAbs + 1 : Nat) : Int) else ((x.natAbs / y.natAbs + 1 : Nat) : Int)) ∧ x % y = ((y.natAbs - x.natAbs % y.natAbs : Nat) : Int) := by
  have hx0 : x < 0 := of_decide_eq_true hx
  have h1 := nat_div x y
  have h2 := Nat.mod_lt x.natAbs (y := y.natAbs) (by omega)
  refine div_of_formula x y hy _ _ ⟨?_, by omega, by omega⟩
  rw [Int.natCast_add]
  generalize ((x.natAbs / y.natAbs : Nat) : Int) = q at *
  unfold zneg
  by_cases h : y < 0
  · rw [decide_eq_true h]
    have e : y * q = -((y.natAbs : Int) * q) := by rw [show (y.natAbs : Int) = -y by omega, Int.neg_mul, Int.neg_neg]
    simp [Int.mul_add]; omega
  · rw [decide_eq_false h]
    have e : y * q = (y.natAbs : Int) * q := by rw [show (y.natAbs : Int) = y by omega]
    simp [Int.mul_add, Int.mul_neg]; omega
theorem nlen_pos {n : Nat} (h : n ≠ 0) : 0 < nlen n := List.length_pos_iff.2 (by rw [digs_pos h]; simp)

theorem sOver (x y q r : Int) (hq : x / y = q) (hr : x % y = r) (hy : y ≠ 0) (hx : zlen x ≤ 50000) (hly : zlen y ≤ 50000) (p1 : Option Addr) (c1 : Nat) (p2 : Option Addr) (c2 : Nat) (w : World) (r1 : RN w (.slice p1 (zlen x) c1) x.natAbs) (r2 : RN w (.slice p2 (zlen y) c2) y.natAbs) :
    Calls Tryz.prog 24 #[.agg #[.bool (zneg x), .slice p1 (zlen x) c1], .agg #[.bool (zneg y), .slice p2 (zlen y) c2]] w fun e w' => ∃ p c p' c', e = .returned (.tuple #[.agg #[.bool (zneg q), .slice p (zlen q) c], .agg #[.bool (zneg r), .slice p' (zlen r) c']]) ∧ RN w' (.slice p (zlen q) c) q.natAbs ∧ RN w' (.slice p' (zlen r) c') r.natAbs ∧ Below w.heap.size w w' := by
  have hdl : nlen (x.natAbs / y.natAbs) ≤ 50000 := Nat.le_trans (nlen_mono (Nat.div_le_self _ _)) hx
  have hml : nlen (x.natAbs % y.natAbs) ≤ 50000 := Nat.le_trans (nlen_mono (Nat.mod_le _ _)) hx
  have hC := fun W (h : Below w.heap.size w W) => cOver (.slice p1 (zlen x) c1) (.slice p2 (zlen y) c2) x.natAbs y.natAbs (by omega) hx W (r1.below h) (r2.below h)
  cases hs : zneg x with
  | false =>
    obtain ⟨e1, e2⟩ := over_pos x y hy hs
    exact zOver_f p1 _ c1 p2 _ c2 (zneg y) _ _ q r (by omega) (by omega) (hq ▸ e1) (hr ▸ e2) w hC
  | true =>
    by_cases h0 : x.natAbs % y.natAbs = 0
    · obtain ⟨e1, e2⟩ := over_exact x y hy hs h0
      rw [h0] at hC
      exact zOver_t0 p1 _ c1 p2 _ c2 (zneg y) _ q r (by omega) (hq ▸ e1) (hr ▸ e2) w hC
    · obtain ⟨e1, e2⟩ := over_neg x y hy hs h0
      have hlt := Nat.mod_lt x.natAbs (y := y.natAbs) (by omega)
      exact zOver_t p1 _ c1 p2 _ c2 (zneg y) _ _ y.natAbs q r (by omega) (nlen_pos h0) (by unfold zlen at hly; omega) (by omega) (hq ▸ e1) (hr ▸ e2) w r2 hC

theorem sBoth (x y : Int) (fx : FitZ x) (fy : FitZ y) (hx : (Sz x).size ≤ 1000) (hy : (Sz y).size ≤ 1000) (w : World) :
    Calls Tryz.prog 22 #[.string (Sz x), .string (Sz y)] w fun e w' => ∃ p1 c1 p2 c2, e = .returned (.tuple #[.agg #[.bool (zneg x), .slice p1 (zlen x) c1], .agg #[.bool (zneg y), .slice p2 (zlen y) c2], .int .i64 0]) ∧ RN w' (.slice p1 (zlen x) c1) x.natAbs ∧ RN w' (.slice p2 (zlen y) c2) y.natAbs ∧ Below w.heap.size w w' := zBoth x y fx fy hx hy w
theorem sTo (z : Int) (s : ByteArray) (hs : Sz z = s) (hf : zlen z ≤ 10000) (hs2 : (Sn z.natAbs).size ≤ 100000) (p : Option Addr) (c : Nat) (w : World) (h : RN w (.slice p (zlen z) c) z.natAbs) :
    Calls Tryz.prog 25 #[.agg #[.bool (zneg z), .slice p (zlen z) c]] w fun e w' => e = .returned (.string s) ∧ Below w.heap.size w w' := by subst hs; exact zTo _ z hf hs2 w (Rz.mk h)
theorem sSignum (z s : Int) (hs : z.sign = s) (p : Option Addr) (c : Nat) (w : World) (h : RN w (.slice p (zlen z) c) z.natAbs) :
    Calls Tryz.prog 23 #[.agg #[.bool (zneg z), .slice p (zlen z) c]] w fun e w' => e = .returned (.int .i64 s) ∧ Below w.heap.size w w' := by subst hs; exact zSignum _ z w (Rz.mk h)
theorem sTimes (x y z : Int) (hz : x * y = z) (hx : zlen x ≤ 50000) (hy : zlen y ≤ 50000) (p1 : Option Addr) (c1 : Nat) (p2 : Option Addr) (c2 : Nat) (w : World) (r1 : RN w (.slice p1 (zlen x) c1) x.natAbs) (r2 : RN w (.slice p2 (zlen y) c2) y.natAbs) :
    Calls Tryz.prog 33 #[.agg #[.bool (zneg x), .slice p1 (zlen x) c1], .agg #[.bool (zneg y), .slice p2 (zlen y) c2]] w fun e w' => ∃ p c, e = .returned (.agg #[.bool (zneg z), .slice p (zlen z) c]) ∧ RN w' (.slice p (zlen z) c) z.natAbs ∧ Below w.heap.size w w' := by subst hz; exact rz_sh (zTimes _ _ x y hx hy w (Rz.mk r1) (Rz.mk r2))
theorem sMinus (x y z : Int) (hz : x - y = z) (hx : zlen x ≤ 50000) (hy : zlen y ≤ 50000) (p1 : Option Addr) (c1 : Nat) (p2 : Option Addr) (c2 : Nat) (w : World) (r1 : RN w (.slice p1 (zlen x) c1) x.natAbs) (r2 : RN w (.slice p2 (zlen y) c2) y.natAbs) :
    Calls Tryz.prog 32 #[.agg #[.bool (zneg x), .slice p1 (zlen x) c1], .agg #[.bool (zneg y), .slice p2 (zlen y) c2]] w fun e w' => ∃ p c, e = .returned (.agg #[.bool (zneg z), .slice p (zlen z) c]) ∧ RN w' (.slice p (zlen z) c) z.natAbs ∧ Below w.heap.size w w' := by subst hz; exact rz_sh (zMinus _ _ x y hx hy w (Rz.mk r1) (Rz.mk r2))
theorem sOpposite (x z : Int) (hz : -x = z) (hx : zlen x ≤ 1000000) (p1 : Option Addr) (c1 : Nat) (w : World) (r1 : RN w (.slice p1 (zlen x) c1) x.natAbs) :
    Calls Tryz.prog 34 #[.agg #[.bool (zneg x), .slice p1 (zlen x) c1]] w fun e w' => ∃ p c, e = .returned (.agg #[.bool (zneg z), .slice p (zlen z) c]) ∧ RN w' (.slice p (zlen z) c) z.natAbs ∧ Below w.heap.size w w' := by subst hz; exact rz_sh (zOpposite _ x hx w (Rz.mk r1))

set_option maxRecDepth 100000 in
set_option maxHeartbeats 4000000 in
theorem ZDivMod_raw (a b sq sr : ByteArray) (x y q r s : Int) (hs : s ≠ 0) (w : World)
    (h1 : ∀ W, Calls Tryz.prog 22 #[.string a, .string b] W fun e w' => ∃ p1 c1 p2 c2, e = .returned (.tuple #[.agg #[.bool (zneg x), .slice p1 (zlen x) c1], .agg #[.bool (zneg y), .slice p2 (zlen y) c2], .int .i64 0]) ∧ RN w' (.slice p1 (zlen x) c1) x.natAbs ∧ RN w' (.slice p2 (zlen y) c2) y.natAbs ∧ Below W.heap.size W w')
    (h2 : ∀ p c W, RN W (.slice p (zlen y) c) y.natAbs → Calls Tryz.prog 23 #[.agg #[.bool (zneg y), .slice p (zlen y) c]] W fun e w' => e = .returned (.int .i64 s) ∧ Below W.heap.size W w')
    (h3 : ∀ p1 c1 p2 c2 W, RN W (.slice p1 (zlen x) c1) x.natAbs → RN W (.slice p2 (zlen y) c2) y.natAbs → Calls Tryz.prog 24 #[.agg #[.bool (zneg x), .slice p1 (zlen x) c1], .agg #[.bool (zneg y), .slice p2 (zlen y) c2]] W fun e w' => ∃ p c p' c', e = .returned (.tuple #[.agg #[.bool (zneg q), .slice p (zlen q) c], .agg #[.bool (zneg r), .slice p' (zlen r) c']]) ∧ RN w' (.slice p (zlen q) c) q.natAbs ∧ RN w' (.slice p' (zlen r) c') r.natAbs ∧ Below W.heap.size W w')
    (h4 : ∀ p c W, RN W (.slice p (zlen q) c) q.natAbs → Calls Tryz.prog 25 #[.agg #[.bool (zneg q), .slice p (zlen q) c]] W fun e w' => e = .returned (.string sq) ∧ Below W.heap.size W w')
    (h5 : ∀ p c W, RN W (.slice p (zlen r) c) r.natAbs → Calls Tryz.prog 25 #[.agg #[.bool (zneg r), .slice p (zlen r) c]] W fun e w' => e = .returned (.string sr) ∧ Below W.heap.size W w') :
    Calls Tryz.prog 7 #[.string a, .string b] w fun e w' => e = .returned (.tuple #[.string sq, .string sr, .int .i64 0]) ∧ Below w.heap.size w w' := by
  have C1 := Lib.hid h1
  have C2 := Lib.hid h2
  have C3 := Lib.hid h3
  have C4 := Lib.hid h4
  have C5 := Lib.hid h5
  have k0 : (s == 0) = false := by rw [beq_eq_false_iff_ne]; exact hs
  have HS := Lib.hid hs
  clear h1 h2 h3 h4 h5 hs
  go_enter Tryz.func7, Tryz.ntmps7
  have HB0 := Lib.hid (Below.refl w.heap.size w)
  go_wp2_with fail
  with_reducible refine (C1.out _).mono ?_
  rintro e W1 ⟨pa_1, ca_1, pb_1, cb_1, rfl, r1_0, r1_1, hb⟩
  have HB1 := Lib.hid (HB0.out.trans (hb.mono HB0.out.size))
  have RX := Lib.hid r1_0
  have RY := Lib.hid r1_1
  clear hb r1_0 r1_1
  go_upto_region 2 with fail
  refine wp_boxes W1 [(#[.bool (zneg x), .slice pa_1 (zlen x) ca_1], 49), (#[.bool (zneg y), .slice pb_1 (zlen y) cb_1], 49)] rfl ?_
  have L1 := HB1.out.size
  rintro W2 ⟨k1, k2, hb⟩
  have hb : Below W1.heap.size W1 W2 := hb
  have RX := Lib.hid (RX.out.below hb)
  have RY := Lib.hid (RY.out.below hb)
  have HB2 := Lib.hid (HB1.out.trans (hb.mono HB1.out.size))
  have K1 := Lib.hid k1
  have K2 := Lib.hid k2
  clear k1 k2 hb
  have dK20 := K2.out.cell (i := 0) rfl
  have dK21 := K2.out.cell (i := 1) rfl
  go_wp2_with fail
  with_reducible refine (C2.out _ _ _ RY.out).mono ?_
  rintro e W3 ⟨rfl, hb⟩
  clear dK20 dK21
  have K1 := Lib.hid (K1.out.below hb)
  have K2 := Lib.hid (K2.out.below hb)
  have RX := Lib.hid (RX.out.below hb)
  have RY := Lib.hid (RY.out.below hb)
  have HB3 := Lib.hid (HB2.out.trans (hb.mono HB2.out.size))
  clear hb
  have dK10 := K1.out.cell (i := 0) rfl
  have dK11 := K1.out.cell (i := 1) rfl
  have dK20 := K2.out.cell (i := 0) rfl
  have dK21 := K2.out.cell (i := 1) rfl
  go_wp2_with fail
  with_reducible refine (C3.out _ _ _ _ _ RX.out RY.out).mono ?_
  rintro e W4 ⟨pa_3, ca_3, pb_3, cb_3, rfl, r3_0, r3_1, hb⟩
  clear dK10 dK11 dK20 dK21
  have K1 := Lib.hid (K1.out.below hb)
  have K2 := Lib.hid (K2.out.below hb)
  have RX := Lib.hid (RX.out.below hb)
  have RY := Lib.hid (RY.out.below hb)
  have HB4 := Lib.hid (HB3.out.trans (hb.mono HB3.out.size))
  have RQ := Lib.hid r3_0
  have RR := Lib.hid r3_1
  clear hb r3_0 r3_1
  go_upto_region 7 with fail
  refine wp_boxes W4 [(#[.bool (zneg q), .slice pa_3 (zlen q) ca_3], 49), (#[.bool (zneg r), .slice pb_3 (zlen r) cb_3], 49)] rfl ?_
  have L2 := K1.out.lt
  have L3 := K2.out.lt
  have L4 := HB4.out.size
  rintro W5 ⟨k3, k4, hb⟩
  have hb : Below W4.heap.size W4 W5 := hb
  have K1 := Lib.hid (K1.out.below hb)
  have K2 := Lib.hid (K2.out.below hb)
  have RX := Lib.hid (RX.out.below hb)
  have RY := Lib.hid (RY.out.below hb)
  have RQ := Lib.hid (RQ.out.below hb)
  have RR := Lib.hid (RR.out.below hb)
  have HB5 := Lib.hid (HB4.out.trans (hb.mono HB4.out.size))
  have K3 := Lib.hid k3
  have K4 := Lib.hid k4
  clear k3 k4 hb
  go_wp2_with fail
  refine wp_region_post (fun a0 a' V => a' = ⟨putL [(31, .agg #[.bool (zneg q), .slice pa_3 (zlen q) ca_3]), (32, .string sq), (33, .agg #[.bool (zneg r), .slice pb_3 (zlen r) cb_3]), (34, .string sr), (4, .string sq), (5, .string sr), (6, .int .i64 0)] a0.tmps, a0.defers⟩ ∧ Below w.heap.size w V ∧ SBk V (W1.heap.size) #[.bool (zneg x), .slice pa_1 (zlen x) ca_1] 49 ∧ SBk V (W1.heap.size + 1) #[.bool (zneg y), .slice pb_1 (zlen y) cb_1] 49 ∧ SBk V (W4.heap.size) #[.bool (zneg q), .slice pa_3 (zlen q) ca_3] 49 ∧ SBk V (W4.heap.size + 1) #[.bool (zneg r), .slice pb_3 (zlen r) cb_3] 49 ∧ RN V (.slice pa_1 (zlen x) ca_1) x.natAbs ∧ RN V (.slice pb_1 (zlen y) cb_1) y.natAbs ∧ RN V (.slice pa_3 (zlen q) ca_3) q.natAbs ∧ RN V (.slice pb_3 (zlen r) cb_3) r.natAbs) ?_ ?_
  · refine wp_region_tail_d (by kernel_rfl) 7 0 (fun i => [31, 32, 33, 34, 4, 5, 6].getD i 0) (RelR [Rel.val (.agg #[.bool (zneg q), .slice pa_3 (zlen q) ca_3]), Rel.val (.string sq), Rel.val (.agg #[.bool (zneg r), .slice pb_3 (zlen r) cb_3]), Rel.val (.string sr), Rel.val (.string sq), Rel.val (.string sr), Rel.val (.int .i64 0)]) (fun W => Below W5.heap.size W5 W) (fun _ _ => True) (by kernel_rfl) (by kernel_rfl) (by kernel_rfl) trivial (Below.refl _ _).drew ?_ ?_
    · intro listed a W i hI hD hrd him
      have HI := Lib.hid hI
      have HD := Lib.hid hD
      have Hi := fun (j : Nat) (h : i = j) => (Lib.hid (h ▸ hrd) : Hid (j ∈ _))
      clear hI hrd hD
      match i, him with
      | 0, _ =>
        have Hi := Hi 0 rfl
        have y10 : a.tmps[10]? = some (.pointer (some ⟨W4.heap.size, 0, none⟩)) := HI.out.rest 10 (by decide)
        have dK30 := (K3.out.below HI.out.world).cell (i := 0) rfl
        have dK31 := (K3.out.below HI.out.world).cell (i := 1) rfl
        refine wpOp_step rfl (fun K' hK => ?_)
        have hK := Lib.hid hK
        go_simp
        exact hK.out _ _ ⟨HI.out.put Hi.out (by decide) rfl (by simp) (by decide) (rfl) (fun j u h => h) (HI.out.world), trivial⟩
      | 1, _ =>
        have Hi := Hi 1 rfl
        have x0 : a.tmps[31]? = some (.agg #[.bool (zneg q), .slice pa_3 (zlen q) ca_3]) := by
          obtain ⟨v', y', e'⟩ := HI.out.at (i := 0) Hi.out (by kernel_rfl) (by decide)
          obtain rfl : v' = .agg #[.bool (zneg q), .slice pa_3 (zlen q) ca_3] := e'
          exact y'
        refine wpOp_step rfl (fun K' hK => ?_)
        have hK := Lib.hid hK
        go_simp
        with_reducible refine (C4.out _ _ _ (RQ.out.below HI.out.world)).mono ?_
        rintro e W' ⟨rfl, hb⟩
        exact hK.out _ _ ⟨HI.out.put Hi.out (by decide) rfl (by simp) (by decide) (rfl) (fun j u h => RelR.mono hb j u h) (HI.out.world.trans (hb.mono HI.out.world.size)), trivial⟩
      | 2, _ =>
        have Hi := Hi 2 rfl
        have y11 : a.tmps[11]? = some (.pointer (some ⟨W4.heap.size + 1, 0, none⟩)) := HI.out.rest 11 (by decide)
        have dK40 := (K4.out.below HI.out.world).cell (i := 0) rfl
        have dK41 := (K4.out.below HI.out.world).cell (i := 1) rfl
        refine wpOp_step rfl (fun K' hK => ?_)
        have hK := Lib.hid hK
        go_simp
        exact hK.out _ _ ⟨HI.out.put Hi.out (by decide) rfl (by simp) (by decide) (rfl) (fun j u h => h) (HI.out.world), trivial⟩
      | 3, _ =>
        have Hi := Hi 3 rfl
        have x2 : a.tmps[33]? = some (.agg #[.bool (zneg r), .slice pb_3 (zlen r) cb_3]) := by
          obtain ⟨v', y', e'⟩ := HI.out.at (i := 2) Hi.out (by kernel_rfl) (by decide)
          obtain rfl : v' = .agg #[.bool (zneg r), .slice pb_3 (zlen r) cb_3] := e'
          exact y'
        refine wpOp_step rfl (fun K' hK => ?_)
        have hK := Lib.hid hK
        go_simp
        with_reducible refine (C5.out _ _ _ (RR.out.below HI.out.world)).mono ?_
        rintro e W' ⟨rfl, hb⟩
        exact hK.out _ _ ⟨HI.out.put Hi.out (by decide) rfl (by simp) (by decide) (rfl) (fun j u h => RelR.mono hb j u h) (HI.out.world.trans (hb.mono HI.out.world.size)), trivial⟩
      | 4, _ =>
        have Hi := Hi 4 rfl
        have x1 : a.tmps[32]? = some (.string sq) := by
          obtain ⟨v', y', e'⟩ := HI.out.at (i := 1) Hi.out (by kernel_rfl) (by decide)
          obtain rfl : v' = .string sq := e'
          exact y'
        refine wpOp_step rfl (fun K' hK => ?_)
        have hK := Lib.hid hK
        go_simp
        exact hK.out _ _ ⟨HI.out.put Hi.out (by decide) rfl (by simp) (by decide) (rfl) (fun j u h => h) (HI.out.world), trivial⟩
      | 5, _ =>
        have Hi := Hi 5 rfl
        have x3 : a.tmps[34]? = some (.string sr) := by
          obtain ⟨v', y', e'⟩ := HI.out.at (i := 3) Hi.out (by kernel_rfl) (by decide)
          obtain rfl : v' = .string sr := e'
          exact y'
        refine wpOp_step rfl (fun K' hK => ?_)
        have hK := Lib.hid hK
        go_simp
        exact hK.out _ _ ⟨HI.out.put Hi.out (by decide) rfl (by simp) (by decide) (rfl) (fun j u h => h) (HI.out.world), trivial⟩
      | 6, _ =>
        have Hi := Hi 6 rfl
        refine wpOp_step rfl (fun K' hK => ?_)
        have hK := Lib.hid hK
        go_simp
        exact hK.out _ _ ⟨HI.out.put Hi.out (by decide) rfl (by simp) (by decide) (rfl) (fun j u h => h) (HI.out.world), trivial⟩
      | n + 7, h => exact absurd h (by omega)
    · intro listed a W hI hD hall
      obtain ⟨v0, x0, e0⟩ := hI.slots 0 (by decide) (hall 0 (by decide))
      obtain rfl : v0 = .agg #[.bool (zneg q), .slice pa_3 (zlen q) ca_3] := e0
      have x0 : a.tmps[31]? = some (.agg #[.bool (zneg q), .slice pa_3 (zlen q) ca_3]) := x0
      obtain ⟨v1, x1, e1⟩ := hI.slots 1 (by decide) (hall 1 (by decide))
      obtain rfl : v1 = .string sq := e1
      have x1 : a.tmps[32]? = some (.string sq) := x1
      obtain ⟨v2, x2, e2⟩ := hI.slots 2 (by decide) (hall 2 (by decide))
      obtain rfl : v2 = .agg #[.bool (zneg r), .slice pb_3 (zlen r) cb_3] := e2
      have x2 : a.tmps[33]? = some (.agg #[.bool (zneg r), .slice pb_3 (zlen r) cb_3]) := x2
      obtain ⟨v3, x3, e3⟩ := hI.slots 3 (by decide) (hall 3 (by decide))
      obtain rfl : v3 = .string sr := e3
      have x3 : a.tmps[34]? = some (.string sr) := x3
      obtain ⟨v4, x4, e4⟩ := hI.slots 4 (by decide) (hall 4 (by decide))
      obtain rfl : v4 = .string sq := e4
      have x4 : a.tmps[4]? = some (.string sq) := x4
      obtain ⟨v5, x5, e5⟩ := hI.slots 5 (by decide) (hall 5 (by decide))
      obtain rfl : v5 = .string sr := e5
      have x5 : a.tmps[5]? = some (.string sr) := x5
      obtain ⟨v6, x6, e6⟩ := hI.slots 6 (by decide) (hall 6 (by decide))
      obtain rfl : v6 = .int .i64 0 := e6
      have x6 : a.tmps[6]? = some (.int .i64 0) := x6
      have ea := hI.fin [(31, .agg #[.bool (zneg q), .slice pa_3 (zlen q) ca_3]), (32, .string sq), (33, .agg #[.bool (zneg r), .slice pb_3 (zlen r) cb_3]), (34, .string sr), (4, .string sq), (5, .string sr), (6, .int .i64 0)] (by
        intro p hp
        simp only [List.mem_cons, List.not_mem_nil, or_false] at hp
        rcases hp with rfl | rfl | rfl | rfl | rfl | rfl | rfl
        · exact x0
        · exact x1
        · exact x2
        · exact x3
        · exact x4
        · exact x5
        · exact x6) (by
        intro d hd i him h
        match i, him with
        | 0, _ => exact hd _ (ix 0 rfl) h
        | 1, _ => exact hd _ (ix 1 rfl) h
        | 2, _ => exact hd _ (ix 2 rfl) h
        | 3, _ => exact hd _ (ix 3 rfl) h
        | 4, _ => exact hd _ (ix 4 rfl) h
        | 5, _ => exact hd _ (ix 5 rfl) h
        | 6, _ => exact hd _ (ix 6 rfl) h
        | n + 7, h => omega)
      have EA := Lib.hid ea
      have HBW := Lib.hid hI.world
      have HI := Lib.hid hI
      clear ea hI hall
      have K1 := Lib.hid (K1.out.below HBW.out)
      have K2 := Lib.hid (K2.out.below HBW.out)
      have K3 := Lib.hid (K3.out.below HBW.out)
      have K4 := Lib.hid (K4.out.below HBW.out)
      have RX := Lib.hid (RX.out.below HBW.out)
      have RY := Lib.hid (RY.out.below HBW.out)
      have RQ := Lib.hid (RQ.out.below HBW.out)
      have RR := Lib.hid (RR.out.below HBW.out)
      have HBX := Lib.hid (HB5.out.trans (HBW.out.mono HB5.out.size))
      refine tail_nil ?_
      exact ⟨rfl, EA.out, HBX.out, K1.out, K2.out, K3.out, K4.out, RX.out, RY.out, RQ.out, RR.out⟩
  rintro a' W6 ⟨rfl, z0, z1, z2, z3, z4, z5, z6, z7, z8⟩
  have HB6 := Lib.hid z0
  have K1 := Lib.hid z1
  have K2 := Lib.hid z2
  have K3 := Lib.hid z3
  have K4 := Lib.hid z4
  have RX := Lib.hid z5
  have RY := Lib.hid z6
  have RQ := Lib.hid z7
  have RR := Lib.hid z8
  clear z0 z1 z2 z3 z4 z5 z6 z7 z8
  simp only [putL, List.setIfInBounds_toArray, List.set_cons_zero, List.set_cons_succ]
  go_wp2
  exact bodyPost_ret (v := .tuple #[.string sq, .string sr, .int .i64 0]) (by simp [results, Tryz.results7, go_sem]) rfl ⟨rfl, HB6.out⟩

end Go.Proofs.YtblccbnejcngaaaGreatDoor
/- garboardref02: Small; Bezout of a number and 0: walks. -/
namespace Go.Proofs.YtblccbnejcngaaaGreatDoor
open Go.RowKit Go.Gb

set_option maxRecDepth 100000 in
set_option maxHeartbeats 4000000 in
theorem sSmall (k : Int) (n : Nat) (hk : (n : Int) = k) (h0 : 0 ≤ k) (h1 : k ≤ 1000000) (w : World) :
    Calls Tryz.prog 31 #[.int .i64 k] w fun e w' => ∃ p c, e = .returned (.agg #[.bool (zneg k), .slice p (zlen k) c]) ∧ RN w' (.slice p (zlen k) c) k.natAbs ∧ Below w.heap.size w w' := by
  have hl : nlen n ≤ 1000000 := Nat.le_trans (nlen_mono (show n ≤ 1000000 by omega)) (by decide +kernel)
  have C1 := Lib.hid (fun W => cSmallL k n hk (by omega) W)
  have C2 := Lib.hid (fun v W h => cMake false v n k (by rw [if_neg (by simp)]; exact hk.symm) hl W h)
  have d0 : decide (k < 0) = false := decide_eq_false (by omega)
  have e0 : ¬ k < 0 := by omega
  clear hl hk
  go_enter Tryz.func31, Tryz.ntmps31
  go_upto_region 1 with fail
  refine wp_boxes w [(#[.bool false, .slice none 0 0], 49)] rfl ?_
  rintro W0 ⟨k1, hb⟩
  have HB0 := Lib.hid (show Below w.heap.size w W0 from hb)
  have K1 := Lib.hid k1
  clear k1 hb
  go_wp2_with fail
  with_reducible refine (C1.out _).mono ?_
  rintro e W1 ⟨p_1, c_1, rfl, r1_0, hb⟩
  have K1 := Lib.hid (K1.out.below hb)
  have HB1 := Lib.hid (HB0.out.trans (hb.mono HB0.out.size))
  have RN1 := Lib.hid r1_0
  clear hb r1_0
  go_wp2_with fail
  with_reducible refine (C2.out _ _ RN1.out).mono ?_
  rintro e W2 ⟨p_2, c_2, rfl, r2_0, hb⟩
  have K1 := Lib.hid (K1.out.below hb)
  have HB2 := Lib.hid (HB1.out.trans (hb.mono HB1.out.size))
  have RK := Lib.hid r2_0
  clear hb r2_0
  have dK10 := K1.out.cell (i := 0) rfl
  have dK11 := K1.out.cell (i := 1) rfl
  have fK10 := K1.out.frozen (i := 0)
  have fK11 := K1.out.frozen (i := 1)
  go_wp2
  exact bodyPost_ret (v := .agg #[.bool (zneg k), .slice p_2 (zlen k) c_2]) (by simp [results, Tryz.results31, go_sem, dK10, dK11]) rfl ⟨_, _, rfl, (store_rn [.bool (zneg k), .slice p_2 (zlen k) c_2] RK.out K1.out (by simp [noInt]) (by simp [plainV])), (store_below (l := [.bool (zneg k), .slice p_2 (zlen k) c_2]) (i := 0) (by omega) HB2.out)⟩

set_option maxRecDepth 100000 in
set_option maxHeartbeats 4000000 in
theorem sSmall_neg (w : World) :
    Calls Tryz.prog 31 #[.int .i64 (-1)] w fun e w' => ∃ p c, e = .returned (.agg #[.bool (zneg (-1)), .slice p (zlen (-1)) c]) ∧ RN w' (.slice p (zlen (-1)) c) (-1 : Int).natAbs ∧ Below w.heap.size w w' := by
  have C1 := Lib.hid (fun W => cSmallL 1 1 rfl (by decide) W)
  have C2 := Lib.hid (fun v W h => cMake true v 1 (-1) rfl (by rw [nlen_one]; decide) W h)
  go_enter Tryz.func31, Tryz.ntmps31
  go_upto_region 1 with fail
  refine wp_boxes w [(#[.bool false, .slice none 0 0], 49)] rfl ?_
  rintro W0 ⟨k1, hb⟩
  have HB0 := Lib.hid (show Below w.heap.size w W0 from hb)
  have K1 := Lib.hid k1
  clear k1 hb
  go_wp2_with fail
  with_reducible refine (C1.out _).mono ?_
  rintro e W1 ⟨p_1, c_1, rfl, r1_0, hb⟩
  have K1 := Lib.hid (K1.out.below hb)
  have HB1 := Lib.hid (HB0.out.trans (hb.mono HB0.out.size))
  have RN1 := Lib.hid r1_0
  clear hb r1_0
  go_wp2_with fail
  with_reducible refine (C2.out _ _ RN1.out).mono ?_
  rintro e W2 ⟨p_2, c_2, rfl, r2_0, hb⟩
  have K1 := Lib.hid (K1.out.below hb)
  have HB2 := Lib.hid (HB1.out.trans (hb.mono HB1.out.size))
  have RK := Lib.hid r2_0
  clear hb r2_0
  have dK10 := K1.out.cell (i := 0) rfl
  have dK11 := K1.out.cell (i := 1) rfl
  have fK10 := K1.out.frozen (i := 0)
  have fK11 := K1.out.frozen (i := 1)
  go_wp2
  exact bodyPost_ret (v := .agg #[.bool (zneg (-1)), .slice p_2 (zlen (-1)) c_2]) (by simp [results, Tryz.results31, go_sem, dK10, dK11]) rfl ⟨_, _, rfl, (store_rn [.bool (zneg (-1)), .slice p_2 (zlen (-1)) c_2] RK.out K1.out (by simp [noInt]) (by simp [plainV])), (store_below (l := [.bool (zneg (-1)), .slice p_2 (zlen (-1)) c_2]) (i := 0) (by omega) HB2.out)⟩

set_option maxRecDepth 100000 in
set_option maxHeartbeats 4000000 in
theorem ZBezout_zero_raw (a b sg ss : ByteArray) (x y z s : Int) (g : Nat) (w : World)
    (h1 : ∀ W, Calls Tryz.prog 22 #[.string a, .string b] W fun e w' => ∃ p1 c1 p2 c2, e = .returned (.tuple #[.agg #[.bool (zneg x), .slice p1 (zlen x) c1], .agg #[.bool (zneg y), .slice p2 (zlen y) c2], .int .i64 0]) ∧ RN w' (.slice p1 (zlen x) c1) x.natAbs ∧ RN w' (.slice p2 (zlen y) c2) y.natAbs ∧ Below W.heap.size W w')
    (h2 : ∀ v1 v2 W, RN W v1 x.natAbs → RN W v2 y.natAbs → Calls Tryz.prog 30 #[v1, v2] W fun e w' => ∃ p c, e = .returned (.slice p (nlen g) c) ∧ RN w' (.slice p (nlen g) c) g ∧ Below W.heap.size W w')
    (h3 : ∀ v W, RN W v g → Calls Tryz.prog 29 #[.bool false, v] W fun e w' => ∃ p c, e = .returned (.agg #[.bool (zneg z), .slice p (zlen z) c]) ∧ RN w' (.slice p (zlen z) c) z.natAbs ∧ Below W.heap.size W w')
    (h4 : ∀ p c W, RN W (.slice p (zlen y) c) y.natAbs → Calls Tryz.prog 23 #[.agg #[.bool (zneg y), .slice p (zlen y) c]] W fun e w' => e = .returned (.int .i64 0) ∧ Below W.heap.size W w')
    (h5 : ∀ p c W, RN W (.slice p (zlen z) c) z.natAbs → Calls Tryz.prog 25 #[.agg #[.bool (zneg z), .slice p (zlen z) c]] W fun e w' => e = .returned (.string sg) ∧ Below W.heap.size W w')
    (h6 : ∀ p c W, RN W (.slice p (zlen x) c) x.natAbs → Calls Tryz.prog 23 #[.agg #[.bool (zneg x), .slice p (zlen x) c]] W fun e w' => e = .returned (.int .i64 s) ∧ Below W.heap.size W w')
    (h7 : ∀ W, Calls Tryz.prog 31 #[.int .i64 s] W fun e w' => ∃ p c, e = .returned (.agg #[.bool (zneg s), .slice p (zlen s) c]) ∧ RN w' (.slice p (zlen s) c) s.natAbs ∧ Below W.heap.size W w')
    (h8 : ∀ p c W, RN W (.slice p (zlen s) c) s.natAbs → Calls Tryz.prog 25 #[.agg #[.bool (zneg s), .slice p (zlen s) c]] W fun e w' => e = .returned (.string ss) ∧ Below W.heap.size W w') :
    Calls Tryz.prog 9 #[.string a, .string b] w fun e w' => e = .returned (.tuple #[.string sg, .string ss, .string ⟨#[48]⟩, .int .i64 0]) ∧ Below w.heap.size w w' := by
  have C1 := Lib.hid h1
  have C2 := Lib.hid h2
  have C3 := Lib.hid h3
  have C4 := Lib.hid h4
  have C5 := Lib.hid h5
  have C6 := Lib.hid h6
  have C7 := Lib.hid h7
  have C8 := Lib.hid h8
  clear h1 h2 h3 h4 h5 h6 h7 h8
  go_enter Tryz.func9, Tryz.ntmps9
  have HB0 := Lib.hid (Below.refl w.heap.size w)
  go_wp2_with fail
  with_reducible refine (C1.out _).mono ?_
  rintro e W1 ⟨pa_1, ca_1, pb_1, cb_1, rfl, r1_0, r1_1, hb⟩
  have HB1 := Lib.hid (HB0.out.trans (hb.mono HB0.out.size))
  have RX := Lib.hid r1_0
  have RY := Lib.hid r1_1
  clear hb r1_0 r1_1
  go_upto_region 2 with fail
  refine wp_boxes W1 [(#[.bool (zneg x), .slice pa_1 (zlen x) ca_1], 49), (#[.bool (zneg y), .slice pb_1 (zlen y) cb_1], 49)] rfl ?_
  have L1 := HB1.out.size
  rintro W2 ⟨k1, k2, hb⟩
  have hb : Below W1.heap.size W1 W2 := hb
  have RX := Lib.hid (RX.out.below hb)
  have RY := Lib.hid (RY.out.below hb)
  have HB2 := Lib.hid (HB1.out.trans (hb.mono HB1.out.size))
  have K1 := Lib.hid k1
  have K2 := Lib.hid k2
  clear k1 k2 hb
  have dK11 := K1.out.cell (i := 1) rfl
  have dK21 := K2.out.cell (i := 1) rfl
  go_wp2_with fail
  with_reducible refine (C2.out _ _ _ RX.out RY.out).mono ?_
  rintro e W3 ⟨p_2, c_2, rfl, r2_0, hb⟩
  clear dK11 dK21
  have K1 := Lib.hid (K1.out.below hb)
  have K2 := Lib.hid (K2.out.below hb)
  have RX := Lib.hid (RX.out.below hb)
  have RY := Lib.hid (RY.out.below hb)
  have HB3 := Lib.hid (HB2.out.trans (hb.mono HB2.out.size))
  have RG0 := Lib.hid r2_0
  clear hb r2_0
  go_wp2_with fail
  with_reducible refine (C3.out _ _ RG0.out).mono ?_
  rintro e W4 ⟨p_3, c_3, rfl, r3_0, hb⟩
  have K1 := Lib.hid (K1.out.below hb)
  have K2 := Lib.hid (K2.out.below hb)
  have RX := Lib.hid (RX.out.below hb)
  have RY := Lib.hid (RY.out.below hb)
  have RG0 := Lib.hid (RG0.out.below hb)
  have HB4 := Lib.hid (HB3.out.trans (hb.mono HB3.out.size))
  have RG := Lib.hid r3_0
  clear hb r3_0
  go_upto_region 5 with fail
  refine wp_boxes W4 [(#[.bool (zneg z), .slice p_3 (zlen z) c_3], 49)] rfl ?_
  have L2 := K1.out.lt
  have L3 := K2.out.lt
  have L4 := HB4.out.size
  rintro W5 ⟨k3, hb⟩
  have hb : Below W4.heap.size W4 W5 := hb
  have K1 := Lib.hid (K1.out.below hb)
  have K2 := Lib.hid (K2.out.below hb)
  have RX := Lib.hid (RX.out.below hb)
  have RY := Lib.hid (RY.out.below hb)
  have RG0 := Lib.hid (RG0.out.below hb)
  have RG := Lib.hid (RG.out.below hb)
  have HB5 := Lib.hid (HB4.out.trans (hb.mono HB4.out.size))
  have K3 := Lib.hid k3
  clear k3 hb
  have dK20 := K2.out.cell (i := 0) rfl
  have dK21 := K2.out.cell (i := 1) rfl
  go_wp2_with fail
  with_reducible refine (C4.out _ _ _ RY.out).mono ?_
  rintro e W6 ⟨rfl, hb⟩
  clear dK20 dK21
  have K1 := Lib.hid (K1.out.below hb)
  have K2 := Lib.hid (K2.out.below hb)
  have K3 := Lib.hid (K3.out.below hb)
  have RX := Lib.hid (RX.out.below hb)
  have RY := Lib.hid (RY.out.below hb)
  have RG0 := Lib.hid (RG0.out.below hb)
  have RG := Lib.hid (RG.out.below hb)
  have HB6 := Lib.hid (HB5.out.trans (hb.mono HB5.out.size))
  clear hb
  go_wp2_with fail
  refine wp_region_post (fun a0 a' V => ∃ pw1_4 cw1_4, a' = ⟨putL [(41, .agg #[.bool (zneg z), .slice p_3 (zlen z) c_3]), (42, .string sg), (43, .agg #[.bool (zneg x), .slice pa_1 (zlen x) ca_1]), (44, .int .i64 s), (45, .agg #[.bool (zneg s), .slice pw1_4 (zlen s) cw1_4]), (46, .string ss), (4, .string sg), (5, .string ss), (6, .string ⟨#[48]⟩), (7, .int .i64 0)] a0.tmps, a0.defers⟩ ∧ Below w.heap.size w V ∧ SBk V (W1.heap.size) #[.bool (zneg x), .slice pa_1 (zlen x) ca_1] 49 ∧ SBk V (W1.heap.size + 1) #[.bool (zneg y), .slice pb_1 (zlen y) cb_1] 49 ∧ SBk V (W4.heap.size) #[.bool (zneg z), .slice p_3 (zlen z) c_3] 49 ∧ RN V (.slice pa_1 (zlen x) ca_1) x.natAbs ∧ RN V (.slice pb_1 (zlen y) cb_1) y.natAbs ∧ RN V (.slice p_2 (nlen g) c_2) g ∧ RN V (.slice p_3 (zlen z) c_3) z.natAbs ∧ RN V (.slice pw1_4 (zlen s) cw1_4) s.natAbs) ?_ ?_
  · refine wp_region_tail_d (by kernel_rfl) 10 0 (fun i => [41, 42, 43, 44, 45, 46, 4, 5, 6, 7].getD i 0) (RelR [Rel.val (.agg #[.bool (zneg z), .slice p_3 (zlen z) c_3]), Rel.val (.string sg), Rel.val (.agg #[.bool (zneg x), .slice pa_1 (zlen x) ca_1]), Rel.val (.int .i64 s), Rel.int s, Rel.val (.string ss), Rel.val (.string sg), Rel.val (.string ss), Rel.val (.string ⟨#[48]⟩), Rel.val (.int .i64 0)]) (fun W => Below W6.heap.size W6 W) (fun _ _ => True) (by kernel_rfl) (by kernel_rfl) (by kernel_rfl) trivial (Below.refl _ _).drew ?_ ?_
    · intro listed a W i hI hD hrd him
      have HI := Lib.hid hI
      have HD := Lib.hid hD
      have Hi := fun (j : Nat) (h : i = j) => (Lib.hid (h ▸ hrd) : Hid (j ∈ _))
      clear hI hrd hD
      match i, him with
      | 0, _ =>
        have Hi := Hi 0 rfl
        have y11 : a.tmps[11]? = some (.pointer (some ⟨W4.heap.size, 0, none⟩)) := HI.out.rest 11 (by decide)
        have dK30 := (K3.out.below HI.out.world).cell (i := 0) rfl
        have dK31 := (K3.out.below HI.out.world).cell (i := 1) rfl
        refine wpOp_step rfl (fun K' hK => ?_)
        have hK := Lib.hid hK
        go_simp
        exact hK.out _ _ ⟨HI.out.put Hi.out (by decide) rfl (by simp) (by decide) (rfl) (fun j u h => h) (HI.out.world), trivial⟩
      | 1, _ =>
        have Hi := Hi 1 rfl
        have x0 : a.tmps[41]? = some (.agg #[.bool (zneg z), .slice p_3 (zlen z) c_3]) := by
          obtain ⟨v', y', e'⟩ := HI.out.at (i := 0) Hi.out (by kernel_rfl) (by decide)
          obtain rfl : v' = .agg #[.bool (zneg z), .slice p_3 (zlen z) c_3] := e'
          exact y'
        refine wpOp_step rfl (fun K' hK => ?_)
        have hK := Lib.hid hK
        go_simp
        with_reducible refine (C5.out _ _ _ (RG.out.below HI.out.world)).mono ?_
        rintro e W' ⟨rfl, hb⟩
        exact hK.out _ _ ⟨HI.out.put Hi.out (by decide) rfl (by simp) (by decide) (rfl) (fun j u h => RelR.mono hb j u h) (HI.out.world.trans (hb.mono HI.out.world.size)), trivial⟩
      | 2, _ =>
        have Hi := Hi 2 rfl
        have y8 : a.tmps[8]? = some (.pointer (some ⟨W1.heap.size, 0, none⟩)) := HI.out.rest 8 (by decide)
        have dK10 := (K1.out.below HI.out.world).cell (i := 0) rfl
        have dK11 := (K1.out.below HI.out.world).cell (i := 1) rfl
        refine wpOp_step rfl (fun K' hK => ?_)
        have hK := Lib.hid hK
        go_simp
        exact hK.out _ _ ⟨HI.out.put Hi.out (by decide) rfl (by simp) (by decide) (rfl) (fun j u h => h) (HI.out.world), trivial⟩
      | 3, _ =>
        have Hi := Hi 3 rfl
        have x2 : a.tmps[43]? = some (.agg #[.bool (zneg x), .slice pa_1 (zlen x) ca_1]) := by
          obtain ⟨v', y', e'⟩ := HI.out.at (i := 2) Hi.out (by kernel_rfl) (by decide)
          obtain rfl : v' = .agg #[.bool (zneg x), .slice pa_1 (zlen x) ca_1] := e'
          exact y'
        refine wpOp_step rfl (fun K' hK => ?_)
        have hK := Lib.hid hK
        go_simp
        with_reducible refine (C6.out _ _ _ (RX.out.below HI.out.world)).mono ?_
        rintro e W' ⟨rfl, hb⟩
        exact hK.out _ _ ⟨HI.out.put Hi.out (by decide) rfl (by simp) (by decide) (rfl) (fun j u h => RelR.mono hb j u h) (HI.out.world.trans (hb.mono HI.out.world.size)), trivial⟩
      | 4, _ =>
        have Hi := Hi 4 rfl
        have x3 : a.tmps[44]? = some (.int .i64 s) := by
          obtain ⟨v', y', e'⟩ := HI.out.at (i := 3) Hi.out (by kernel_rfl) (by decide)
          obtain rfl : v' = .int .i64 s := e'
          exact y'
        refine wpOp_step rfl (fun K' hK => ?_)
        have hK := Lib.hid hK
        go_simp
        with_reducible refine (C7.out _).mono ?_
        rintro e W' ⟨pw1_4, cw1_4, rfl, rrw1_4, hb⟩
        exact hK.out _ _ ⟨HI.out.put Hi.out (by decide) rfl (by simp) (by decide) (⟨pw1_4, cw1_4, rfl, rrw1_4⟩) (fun j u h => RelR.mono hb j u h) (HI.out.world.trans (hb.mono HI.out.world.size)), trivial⟩
      | 5, _ =>
        have Hi := Hi 5 rfl
        obtain ⟨v', x4, pw1_4, cw1_4, e, rrw1_4⟩ := HI.out.at (i := 4) Hi.out (by kernel_rfl) (by decide)
        obtain rfl := e
        have x4 : a.tmps[45]? = some (.agg #[.bool (zneg s), .slice pw1_4 (zlen s) cw1_4]) := x4
        have RRW1_4 := Lib.hid rrw1_4
        clear rrw1_4
        refine wpOp_step rfl (fun K' hK => ?_)
        have hK := Lib.hid hK
        go_simp
        with_reducible refine (C8.out _ _ _ RRW1_4.out).mono ?_
        rintro e W' ⟨rfl, hb⟩
        exact hK.out _ _ ⟨HI.out.put Hi.out (by decide) rfl (by simp) (by decide) (rfl) (fun j u h => RelR.mono hb j u h) (HI.out.world.trans (hb.mono HI.out.world.size)), trivial⟩
      | 6, _ =>
        have Hi := Hi 6 rfl
        have x1 : a.tmps[42]? = some (.string sg) := by
          obtain ⟨v', y', e'⟩ := HI.out.at (i := 1) Hi.out (by kernel_rfl) (by decide)
          obtain rfl : v' = .string sg := e'
          exact y'
        refine wpOp_step rfl (fun K' hK => ?_)
        have hK := Lib.hid hK
        go_simp
        exact hK.out _ _ ⟨HI.out.put Hi.out (by decide) rfl (by simp) (by decide) (rfl) (fun j u h => h) (HI.out.world), trivial⟩
      | 7, _ =>
        have Hi := Hi 7 rfl
        have x5 : a.tmps[46]? = some (.string ss) := by
          obtain ⟨v', y', e'⟩ := HI.out.at (i := 5) Hi.out (by kernel_rfl) (by decide)
          obtain rfl : v' = .string ss := e'
          exact y'
        refine wpOp_step rfl (fun K' hK => ?_)
        have hK := Lib.hid hK
        go_simp
        exact hK.out _ _ ⟨HI.out.put Hi.out (by decide) rfl (by simp) (by decide) (rfl) (fun j u h => h) (HI.out.world), trivial⟩
      | 8, _ =>
        have Hi := Hi 8 rfl
        refine wpOp_step rfl (fun K' hK => ?_)
        have hK := Lib.hid hK
        go_simp
        exact hK.out _ _ ⟨HI.out.put Hi.out (by decide) rfl (by simp) (by decide) (rfl) (fun j u h => h) (HI.out.world), trivial⟩
      | 9, _ =>
        have Hi := Hi 9 rfl
        refine wpOp_step rfl (fun K' hK => ?_)
        have hK := Lib.hid hK
        go_simp
        exact hK.out _ _ ⟨HI.out.put Hi.out (by decide) rfl (by simp) (by decide) (rfl) (fun j u h => h) (HI.out.world), trivial⟩
      | n + 10, h => exact absurd h (by omega)
    · intro listed a W hI hD hall
      obtain ⟨v0, x0, e0⟩ := hI.slots 0 (by decide) (hall 0 (by decide))
      obtain rfl : v0 = .agg #[.bool (zneg z), .slice p_3 (zlen z) c_3] := e0
      have x0 : a.tmps[41]? = some (.agg #[.bool (zneg z), .slice p_3 (zlen z) c_3]) := x0
      obtain ⟨v1, x1, e1⟩ := hI.slots 1 (by decide) (hall 1 (by decide))
      obtain rfl : v1 = .string sg := e1
      have x1 : a.tmps[42]? = some (.string sg) := x1
      obtain ⟨v2, x2, e2⟩ := hI.slots 2 (by decide) (hall 2 (by decide))
      obtain rfl : v2 = .agg #[.bool (zneg x), .slice pa_1 (zlen x) ca_1] := e2
      have x2 : a.tmps[43]? = some (.agg #[.bool (zneg x), .slice pa_1 (zlen x) ca_1]) := x2
      obtain ⟨v3, x3, e3⟩ := hI.slots 3 (by decide) (hall 3 (by decide))
      obtain rfl : v3 = .int .i64 s := e3
      have x3 : a.tmps[44]? = some (.int .i64 s) := x3
      obtain ⟨v4, x4, pw1_4, cw1_4, e4, rrw1_4⟩ := hI.slots 4 (by decide) (hall 4 (by decide))
      obtain rfl := e4
      have RRW1_4 := Lib.hid rrw1_4
      clear rrw1_4
      have x4 : a.tmps[45]? = some (.agg #[.bool (zneg s), .slice pw1_4 (zlen s) cw1_4]) := x4
      obtain ⟨v5, x5, e5⟩ := hI.slots 5 (by decide) (hall 5 (by decide))
      obtain rfl : v5 = .string ss := e5
      have x5 : a.tmps[46]? = some (.string ss) := x5
      obtain ⟨v6, x6, e6⟩ := hI.slots 6 (by decide) (hall 6 (by decide))
      obtain rfl : v6 = .string sg := e6
      have x6 : a.tmps[4]? = some (.string sg) := x6
      obtain ⟨v7, x7, e7⟩ := hI.slots 7 (by decide) (hall 7 (by decide))
      obtain rfl : v7 = .string ss := e7
      have x7 : a.tmps[5]? = some (.string ss) := x7
      obtain ⟨v8, x8, e8⟩ := hI.slots 8 (by decide) (hall 8 (by decide))
      obtain rfl : v8 = .string ⟨#[48]⟩ := e8
      have x8 : a.tmps[6]? = some (.string ⟨#[48]⟩) := x8
      obtain ⟨v9, x9, e9⟩ := hI.slots 9 (by decide) (hall 9 (by decide))
      obtain rfl : v9 = .int .i64 0 := e9
      have x9 : a.tmps[7]? = some (.int .i64 0) := x9
      have ea := hI.fin [(41, .agg #[.bool (zneg z), .slice p_3 (zlen z) c_3]), (42, .string sg), (43, .agg #[.bool (zneg x), .slice pa_1 (zlen x) ca_1]), (44, .int .i64 s), (45, .agg #[.bool (zneg s), .slice pw1_4 (zlen s) cw1_4]), (46, .string ss), (4, .string sg), (5, .string ss), (6, .string ⟨#[48]⟩), (7, .int .i64 0)] (by
        intro p hp
        simp only [List.mem_cons, List.not_mem_nil, or_false] at hp
        rcases hp with rfl | rfl | rfl | rfl | rfl | rfl | rfl | rfl | rfl | rfl
        · exact x0
        · exact x1
        · exact x2
        · exact x3
        · exact x4
        · exact x5
        · exact x6
        · exact x7
        · exact x8
        · exact x9) (by
        intro d hd i him h
        match i, him with
        | 0, _ => exact hd _ (ix 0 rfl) h
        | 1, _ => exact hd _ (ix 1 rfl) h
        | 2, _ => exact hd _ (ix 2 rfl) h
        | 3, _ => exact hd _ (ix 3 rfl) h
        | 4, _ => exact hd _ (ix 4 rfl) h
        | 5, _ => exact hd _ (ix 5 rfl) h
        | 6, _ => exact hd _ (ix 6 rfl) h
        | 7, _ => exact hd _ (ix 7 rfl) h
        | 8, _ => exact hd _ (ix 8 rfl) h
        | 9, _ => exact hd _ (ix 9 rfl) h
        | n + 10, h => omega)
      have EA := Lib.hid ea
      have HBW := Lib.hid hI.world
      have HI := Lib.hid hI
      clear ea hI hall
      have K1 := Lib.hid (K1.out.below HBW.out)
      have K2 := Lib.hid (K2.out.below HBW.out)
      have K3 := Lib.hid (K3.out.below HBW.out)
      have RX := Lib.hid (RX.out.below HBW.out)
      have RY := Lib.hid (RY.out.below HBW.out)
      have RG0 := Lib.hid (RG0.out.below HBW.out)
      have RG := Lib.hid (RG.out.below HBW.out)
      have HBX := Lib.hid (HB6.out.trans (HBW.out.mono HB6.out.size))
      have RS := RRW1_4
      refine tail_nil ?_
      exact ⟨rfl, pw1_4, cw1_4, EA.out, HBX.out, K1.out, K2.out, K3.out, RX.out, RY.out, RG0.out, RG.out, RS.out⟩
  rintro a' W7 ⟨pw1_4, cw1_4, rfl, z0, z1, z2, z3, z4, z5, z6, z7, z8⟩
  have HB7 := Lib.hid z0
  have K1 := Lib.hid z1
  have K2 := Lib.hid z2
  have K3 := Lib.hid z3
  have RX := Lib.hid z4
  have RY := Lib.hid z5
  have RG0 := Lib.hid z6
  have RG := Lib.hid z7
  have RS := Lib.hid z8
  clear z0 z1 z2 z3 z4 z5 z6 z7 z8
  simp only [putL, List.setIfInBounds_toArray, List.set_cons_zero, List.set_cons_succ]
  go_wp2
  exact bodyPost_ret (v := .tuple #[.string sg, .string ss, .string ⟨#[48]⟩, .int .i64 0]) (by simp [results, Tryz.results9, go_sem]) rfl ⟨rfl, HB7.out⟩

end Go.Proofs.YtblccbnejcngaaaGreatDoor
