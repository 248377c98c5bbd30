/- Texts of this proof, one behind the other. -/
import Derived.Test.YtmigpoiajkihhaaGreatDoorMz46q
import Derived.Test.YtmigpoiajkihhaaGreatDoorMz22q
import Derived.Test.YtmigpoiajkihhaaGreatDoorMz18q
import Derived.Deep.RegionHeld3
import Derived.Test.YtmigpoiajkihhaaGreatDoorMz21q
import Derived.Deep.DeepCutAuto
import Derived.Deep.CutRange
import Derived.Test.YtmigpoiajkihhaaGreatDoorMz15q
import Derived.Lib.Hide
/- Blocks of structs: what a block of cells holds, and stores into it. No program is mentioned. -/
namespace Go.Gb
open Go Go.RowKit
def SBk (w : World) (g : Nat) (cs : Array Value) (T : TypeId) : Prop := w.heap[g]? = some (.cells cs T (0, 0))
theorem SBk.lt {w : World} {g : Nat} {cs : Array Value} {T : TypeId} (h : SBk w g cs T) : g < w.heap.size := (Array.getElem?_eq_some_iff.1 h).1
theorem SBk.cell {w : World} {g i : Nat} {cs : Array Value} {T : TypeId} {v : Value} (h : SBk w g cs T) (hi : cs[i]? = some v) : w.cell? ⟨g, i, none⟩ = some v := by
 unfold SBk at h; simp [World.cell?, h, hi]
theorem SBk.frozen {w : World} {g i : Nat} {cs : Array Value} {T : TypeId} (h : SBk w g cs T) : w.frozen? ⟨g, i, none⟩ = false := by
 unfold SBk at h; simp [World.frozen?, h]
theorem SBk.below {w w' : World} {g : Nat} {cs : Array Value} {T : TypeId} (h : SBk w g cs T) (hb : Below w.heap.size w w') : SBk w' g cs T := by
 unfold SBk; rw [hb.block g h.lt]; exact h
theorem SBk.new (w : World) (cs : Array Value) (T : TypeId) : SBk (w.alloc (.cells cs T)) w.heap.size cs T := heap_alloc_new _ _
theorem SBk.set {w : World} {g i : Nat} {cs : Array Value} {T : TypeId} (h : SBk w g cs T) (v : Value) : SBk (w.setCell ⟨g, i, none⟩ v) g (cs.setIfInBounds i v) T := by
 unfold SBk at *
 simp only [World.setCell, Array.getElem?_modify, h]
 simp
def noInt (cs : Array Value) : Bool := cs.all fun v => match v with | .int _ _ => false | _ => true
theorem noInt_get {cs : Array Value} (h : noInt cs = true) {i : Nat} {k : IntKind} {n : Int} : cs[i]? ≠ some (.int k n) := by
 intro e
 have := Array.all_eq_true'.1 h _ (Array.mem_of_getElem? e)
 simp at this
theorem Rd.set {w : World} {v : Value} {xs : List Nat} {k : IntKind} {g : Nat} {cs : Array Value} {T : TypeId} (h : Rd k w v xs) (hg : SBk w g cs T) (hn : noInt cs = true) (i : Nat) (u : Value) : Rd k (w.setCell ⟨g, i, none⟩ u) v xs := by
 rcases h with h | ⟨b', o, c', h1, h2, h3, h4, h5⟩
 · exact Or.inl h
 · refine Or.inr ⟨b', o, c', h1, h2, h3, by simpa [World.setCell] using h4, fun j hj => ?_⟩
   have h6 := h5 j hj
   have hne : b' ≠ g := by
    intro e
    subst e
    unfold SBk at hg
    simp only [World.cell?, hg] at h6
    exact noInt_get hn (by simpa using h6)
   exact (wc_ne hne).trans h6
def Bx (w : World) : List (Array Value × TypeId) → World → Prop
 | [], W => W = w
 | (cs, T) :: l, W => Bx (w.alloc (.cells cs T)) l W
def BxI (w : World) (n : Nat) : List (Array Value × TypeId) → World → Prop
 | [], W => Below w.heap.size w W
 | (cs, T) :: l, W => SBk W n cs T ∧ BxI w (n + 1) l W
theorem boxes_gen (w0 : World) : ∀ (l : List (Array Value × TypeId)) (w W : World) (n : Nat), w.heap.size = n → Below w0.heap.size w0 w → Bx w l W → Below w.heap.size w W ∧ BxI w0 n l W
 | [], w, W, n, hn, hb, h => by
   obtain rfl : W = w := h
   exact ⟨Below.refl _ _, hb⟩
 | (cs, T) :: l, w, W, n, hn, hb, h => by
   have h1 := boxes_gen w0 l (w.alloc (.cells cs T)) W (n + 1) (by simp [hn]) (hb.alloc hb.size _) h
   have h2 : Below w.heap.size w W := ((Below.refl w.heap.size w).alloc (Nat.le_refl _) (.cells cs T)).trans (h1.1.mono (by simp))
   refine ⟨h2, ?_, h1.2⟩
   subst hn
   exact (SBk.new w cs T).below h1.1
theorem boxes (w : World) (l : List (Array Value × TypeId)) (W : World) (h : Bx w l W) : BxI w w.heap.size l W := (boxes_gen w l w W _ rfl (Below.refl _ _) h).2
theorem wp_boxes {P : Program} {c : Code} {Q : Exit → Act → World → Prop} {a : Act} {W : World} (w : World) (l : List (Array Value × TypeId)) (h : Bx w l W) (k : ∀ W, BxI w w.heap.size l W → c.wp P Q a W) : c.wp P Q a W := k W (boxes w l W h)
def storeAll (w : World) (g : Nat) : Nat → List Value → World
 | _, [] => w
 | i, x :: l => storeAll (w.setCell ⟨g, i, none⟩ x) g (i + 1) l
def plainV : Value → Bool
 | .int _ _ => false
 | _ => true
theorem noInt_set {cs : Array Value} (h : noInt cs = true) {x : Value} (hx : plainV x = true) (i : Nat) : noInt (cs.setIfInBounds i x) = true := by
 unfold noInt at *
 refine Array.all_eq_true'.2 fun y hy => ?_
 rcases Array.mem_or_eq_of_mem_setIfInBounds hy with hy | rfl
 · exact Array.all_eq_true'.1 h y hy
 · cases y <;> first | rfl | cases hx
theorem store_rd {k : IntKind} {v : Value} {xs : List Nat} {g : Nat} {T : TypeId} : ∀ (l : List Value) (i : Nat) {w : World} {cs : Array Value}, Rd k w v xs → SBk w g cs T → noInt cs = true → l.all plainV = true → Rd k (storeAll w g i l) v xs
 | [], _, _, _, h, _, _, _ => h
 | x :: l, i, _, _, h, hg, hn, hl => by
   rw [List.all_cons, Bool.and_eq_true] at hl
   exact store_rd l (i + 1) (h.set hg hn i x) (hg.set x) (noInt_set hn hl.1 i) hl.2
theorem store_below {B g : Nat} {a : World} (hg : B ≤ g) : ∀ (l : List Value) (i : Nat) {w : World}, Below B a w → Below B a (storeAll w g i l)
 | [], _, _, h => h
 | x :: l, i, _, h => store_below hg l (i + 1) (h.setCell (p := ⟨g, i, none⟩) hg x)
end Go.Gb
/- garboardref02's integers by signs and lengths that the walk leaves alone; contracts in numbers. -/
namespace Go.Proofs.YtmigpoiajkihhaaGreatDoor
open Go.RowKit Go.Gb
def zneg (z : Int) : Bool := decide (z < 0)
def nlen (n : Nat) : Nat := (digs n).length
def zlen (z : Int) : Nat := nlen z.natAbs
def RN (w : World) (v : Value) (n : Nat) : Prop := Rd .u32 w v (digs n)
theorem RN.below {w w' : World} {v : Value} {n : Nat} (h : RN w v n) (hb : Below w.heap.size w w') : RN w' v n := Rd.below h hb
theorem RN.sh {w : World} {v : Value} {n : Nat} (h : RN w v n) : ∃ p c, v = .slice p (nlen n) c := rd_form h
theorem store_rn {v : Value} {n g : Nat} {T : TypeId} (l : List Value) {w : World} {cs : Array Value} (h : RN w v n) (hg : SBk w g cs T) (hn : noInt cs = true) (hl : l.all plainV = true) : RN (storeAll w g 0 l) v n := store_rd l 0 h hg hn hl
theorem Rz.sh {w : World} {u : Value} {z : Int} (h : Rz w u z) : ∃ p c, u = .agg #[.bool (zneg z), .slice p (zlen z) c] ∧ RN w (.slice p (zlen z) c) z.natAbs := rz_form h
theorem Rz.mk {w : World} {p : Option Addr} {c : Nat} {z : Int} (h : RN w (.slice p (zlen z) c) z.natAbs) : Rz w (.agg #[.bool (zneg z), .slice p (zlen z) c]) z := ⟨_, rfl, h⟩
def Rel.int (z : Int) : Rel := ⟨fun v W => ∃ p c, v = .agg #[.bool (zneg z), .slice p (zlen z) c] ∧ RN W (.slice p (zlen z) c) z.natAbs, fun _ _ _ ⟨p, c, e, h⟩ hb => ⟨p, c, e, h.below hb⟩⟩
def HZ (w : World) (g : Nat) (z : Int) : Prop := ∃ p c, SBk w g #[.bool (zneg z), .slice p (zlen z) c] 50 ∧ RN w (.slice p (zlen z) c) z.natAbs
theorem cCmp (v1 v2 : Value) (a b : Nat) (hl : nlen a ≤ 1000000) (w : World) (h1 : RN w v1 a) (h2 : RN w v2 b) :
 Calls Tryz.prog 85 #[v1, v2] w fun e w' => e = .returned (.int .i64 (cmpN a b)) ∧ Below w.heap.size w w' := RCmp_any v1 v2 a b hl w h1 h2
theorem cOver (v1 v2 : Value) (a b : Nat) (hb : b ≠ 0) (hl : nlen a ≤ 50000) (w : World) (h1 : RN w v1 a) (h2 : RN w v2 b) :
 Calls Tryz.prog 82 #[v1, v2] w fun e w' => ∃ p c p' c', e = .returned (.tuple #[.slice p (nlen (a / b)) c, .slice p' (nlen (a % b)) c']) ∧ RN w' (.slice p (nlen (a / b)) c) (a / b) ∧ RN w' (.slice p' (nlen (a % b)) c') (a % b) ∧ Below w.heap.size w w' := by
 refine (ROver_any v1 v2 a b hb hl w h1 h2).mono ?_
 rintro e w' ⟨q, r, rfl, hq, hr, hB⟩
 obtain ⟨p, c, rfl⟩ := RN.sh hq
 obtain ⟨p', c', rfl⟩ := RN.sh hr
 exact ⟨p, c, p', c', rfl, hq, hr, hB⟩
theorem own_rn {f : FuncId} {args : Array Value} {w : World} {n : Nat} (h : Calls Tryz.prog f args w fun e w' => ∃ v, e = .returned v ∧ Own .u32 81 w.heap.size w' v (digs n) ∧ Below w.heap.size w w') :
 Calls Tryz.prog f args w fun e w' => ∃ p c, e = .returned (.slice p (nlen n) c) ∧ RN w' (.slice p (nlen n) c) n ∧ Below w.heap.size w w' := by
 refine h.mono ?_
 rintro e w' ⟨v, rfl, ho, hb⟩
 obtain ⟨p, c, rfl⟩ := RN.sh ho.rd
 exact ⟨p, c, rfl, ho.rd, hb⟩
theorem cSmall (n : Nat) (hn : n < 4294967296) (w : World) :
 Calls Tryz.prog 63 #[.int .u32 (n : Int)] w fun e w' => ∃ p c, e = .returned (.slice p (nlen n) c) ∧ RN w' (.slice p (nlen n) c) n ∧ Below w.heap.size w w' := own_rn (RSmall1 n hn w)
theorem cSmallL (k : Int) (n : Nat) (hk : (n : Int) = k) (hn : n < 4294967296) (w : World) :
 Calls Tryz.prog 63 #[.int .u32 k] w fun e w' => ∃ p c, e = .returned (.slice p (nlen n) c) ∧ RN w' (.slice p (nlen n) c) n ∧ Below w.heap.size w w' := by subst hk; exact cSmall n hn w
theorem cCommon (v1 v2 : Value) (a b g : Nat) (hg : Nat.gcd a b = g) (hla : nlen a ≤ 50000) (hlb : nlen b ≤ 50000) (w : World) (h1 : RN w v1 a) (h2 : RN w v2 b) :
 Calls Tryz.prog 81 #[v1, v2] w fun e w' => ∃ p c, e = .returned (.slice p (nlen g) c) ∧ RN w' (.slice p (nlen g) c) g ∧ Below w.heap.size w w' := by
 subst hg
 refine (RCommon_any v1 v2 a b hla hlb w h1 h2).mono ?_
 rintro e w' ⟨v, rfl, hr, hb⟩
 obtain ⟨p, c, rfl⟩ := RN.sh hr
 exact ⟨p, c, rfl, hr, hb⟩
theorem rz_sh {f : FuncId} {args : Array Value} {w : World} {z : Int} (h : Calls Tryz.prog f args w fun e w' => ∃ u, e = .returned u ∧ Rz w' u z ∧ Below w.heap.size w w') :
 Calls Tryz.prog f args w fun e w' => ∃ p c, e = .returned (.agg #[.bool (zneg z), .slice p (zlen z) c]) ∧ RN w' (.slice p (zlen z) c) z.natAbs ∧ Below w.heap.size w w' := by
 refine h.mono ?_
 rintro e w' ⟨u, rfl, hu, hb⟩
 obtain ⟨p, c, rfl, r⟩ := hu.sh
 exact ⟨p, c, rfl, r, hb⟩
theorem cMake (b : Bool) (v : Value) (n : Nat) (z : Int) (hz : z = if b then -(n : Int) else (n : Int)) (hl : nlen n ≤ 1000000) (w : World) (h : RN w v n) :
 Calls Tryz.prog 41 #[.bool b, v] w fun e w' => ∃ p c, e = .returned (.agg #[.bool (zneg z), .slice p (zlen z) c]) ∧ RN w' (.slice p (zlen z) c) z.natAbs ∧ Below w.heap.size w w' := rz_sh (zMake b v n z hz hl w h)
theorem nlen_one : nlen 1 = 1 := by decide +kernel
theorem nlen_mono {a b : Nat} (h : a ≤ b) : nlen a ≤ nlen b := digs_length_mono h
end Go.Proofs.YtmigpoiajkihhaaGreatDoor
/- garboardref02: Over of any integers, DivMod of texts: walks. -/
namespace Go.Proofs.YtmigpoiajkihhaaGreatDoor
open Go.RowKit Go.Gb
theorem sTo (z : Int) (s : ByteArray) (hs : Sz z = s) (hf : zlen z ≤ 10000) (hs2 : (Sn z.natAbs).size ≤ 100000) (p : Option Addr) (c : Nat) (w : World) (h : RN w (.slice p (zlen z) c) z.natAbs) :
 Calls Tryz.prog 56 #[.agg #[.bool (zneg z), .slice p (zlen z) c]] w fun e w' => e = .returned (.string s) ∧ Below w.heap.size w w' := by subst hs; exact zTo _ z hf hs2 w (Rz.mk h)
theorem sSignum (z s : Int) (hs : z.sign = s) (p : Option Addr) (c : Nat) (w : World) (h : RN w (.slice p (zlen z) c) z.natAbs) :
 Calls Tryz.prog 38 #[.agg #[.bool (zneg z), .slice p (zlen z) c]] w fun e w' => e = .returned (.int .i64 s) ∧ Below w.heap.size w w' := by subst hs; exact zSignum _ z w (Rz.mk h)
end Go.Proofs.YtmigpoiajkihhaaGreatDoor
/- garboardref02: Small; Bezout of a number and 0: walks. -/
namespace Go.Proofs.YtmigpoiajkihhaaGreatDoor
set_option maxRecDepth 100000
set_option maxHeartbeats 20000000
open Go.RowKit Go.Gb
theorem sSmall (k : Int) (n : Nat) (hk : (n : Int) = k) (h0 : 0 ≤ k) (h1 : k ≤ 1000000) (w : World) :
 Calls Tryz.prog 112 #[.int .i64 k] w fun e w' => ∃ p c, e = .returned (.agg #[.bool (zneg k), .slice p (zlen k) c]) ∧ RN w' (.slice p (zlen k) c) k.natAbs ∧ Below w.heap.size w w' := by
 have hl : nlen n ≤ 1000000 := Nat.le_trans (nlen_mono (show n ≤ 1000000 by omega)) (by decide +kernel)
 have C1 := Lib.hid (fun W => cSmallL k n hk (by omega) W)
 have C2 := Lib.hid (fun v W h => cMake false v n k (by rw [if_neg (by simp)]; exact hk.symm) hl W h)
 have d0 : decide (k < 0) = false := decide_eq_false (by omega)
 have e0 : ¬ k < 0 := by omega
 clear hl hk
 go_enter Tryz.func112, Tryz.ntmps112
 go_upto_region 1 with fail
 refine wp_boxes w [(#[.bool false, .slice none 0 0], 50)] rfl ?_
 rintro W0 ⟨k1, hb⟩
 have HB0 := Lib.hid (show Below w.heap.size w W0 from hb)
 have K1 := Lib.hid k1
 clear k1 hb
 go_wp2_with fail
 with_reducible refine (C1.out _).mono ?_
 rintro e W1 ⟨p_1, c_1, rfl, r1_0, hb⟩
 have K1 := Lib.hid (K1.out.below hb)
 have HB1 := Lib.hid (HB0.out.trans (hb.mono HB0.out.size))
 have RN1 := Lib.hid r1_0
 clear hb r1_0
 go_wp2_with fail
 with_reducible refine (C2.out _ _ RN1.out).mono ?_
 rintro e W2 ⟨p_2, c_2, rfl, r2_0, hb⟩
 have K1 := Lib.hid (K1.out.below hb)
 have HB2 := Lib.hid (HB1.out.trans (hb.mono HB1.out.size))
 have RK := Lib.hid r2_0
 clear hb r2_0
 have dK10 := K1.out.cell (i := 0) rfl
 have dK11 := K1.out.cell (i := 1) rfl
 have fK10 := K1.out.frozen (i := 0)
 have fK11 := K1.out.frozen (i := 1)
 go_wp2
 exact bodyPost_ret (v := .agg #[.bool (zneg k), .slice p_2 (zlen k) c_2]) (by simp [results, Tryz.results112, go_sem, dK10, dK11]) rfl ⟨_, _, rfl, (store_rn [.bool (zneg k), .slice p_2 (zlen k) c_2] RK.out K1.out (by simp [noInt]) (by simp [plainV])), (store_below (l := [.bool (zneg k), .slice p_2 (zlen k) c_2]) (i := 0) (by omega) HB2.out)⟩
end Go.Proofs.YtmigpoiajkihhaaGreatDoor
/- garboardref03: fractions by what the walk leaves alone; lowest, Int, Neg, Inv, Sign, Mul, Add: walks. -/
namespace Go.Proofs.YtmigpoiajkihhaaGreatDoor
set_option maxRecDepth 100000
set_option maxHeartbeats 20000000
open Go.RowKit Go.Gb
theorem cOverE (v1 v2 : Value) (a b q r : Nat) (hq : a / b = q) (hr : a % b = r) (hb : b ≠ 0) (hl : nlen a ≤ 50000) (w : World) (h1 : RN w v1 a) (h2 : RN w v2 b) :
 Calls Tryz.prog 82 #[v1, v2] w fun e w' => ∃ p c p' c', e = .returned (.tuple #[.slice p (nlen q) c, .slice p' (nlen r) c']) ∧ RN w' (.slice p (nlen q) c) q ∧ RN w' (.slice p' (nlen r) c') r ∧ Below w.heap.size w w' := by
 subst hq hr; exact cOver v1 v2 a b hb hl w h1 h2
theorem rn_cell {w : World} {p : Option Addr} {n c g : Nat} (h : RN w (.slice p n c) g) (hg : (digs g).length = 1) : ∃ b o, p = some ⟨b, o, none⟩ ∧ n = 1 ∧ w.cell? ⟨b, o, none⟩ = some (.int .u32 (g : Int)) := by
 rcases h with ⟨e, h⟩ | ⟨b, o, c', e, h2, h3, h4, h5⟩
 · rw [h] at hg; cases hg
 · injection e with e1 e2 e3
   refine ⟨b, o, e1, by omega, ?_⟩
   have h6 := h5 0 (by omega)
   have hv := wval_digs g
   have hd : digs g = [(digs g).getD 0 0] := by
    match hk : digs g, hg with
    | [x], _ => rfl
   rw [hd] at hv
   have e0 : (digs g).getD 0 0 = g := by simpa [wval] using hv
   rw [e0] at h6
   exact h6
theorem lowest_one (z : Int) (d : Nat) (hz : zlen z ≤ 50000) (hd : nlen d ≤ 50000) (p1 : Option Addr) (c1 : Nat) (s1 : Option Addr) (d1 : Nat) (hg : Nat.gcd z.natAbs d = 1) (w : World) (r1 : RN w (.slice p1 (zlen z) c1) z.natAbs) (t1 : RN w (.slice s1 (nlen d) d1) d) :
 Calls Tryz.prog 40 #[.agg #[.bool (zneg z), .slice p1 (zlen z) c1], .slice s1 (nlen d) d1] w fun e w' => ∃ p c s e1, e = .returned (.agg #[.bool (zneg z), .slice p (zlen z) c, .slice s (nlen d) e1]) ∧ RN w' (.slice p (zlen z) c) z.natAbs ∧ RN w' (.slice s (nlen d) e1) d ∧ Below w.heap.size w w' := by
 have C1 := Lib.hid (show ∀ v1 v2 W, RN W v1 z.natAbs → RN W v2 d → Calls Tryz.prog 81 #[v1, v2] W fun e w' => ∃ b o c, e = .returned (.slice (some ⟨b, o, none⟩) 1 c) ∧ w'.cell? ⟨b, o, none⟩ = some (.int .u32 1) ∧ Below W.heap.size W w' from fun v1 v2 W h1 h2 => by
  refine (cCommon v1 v2 z.natAbs d 1 hg hz hd W h1 h2).mono ?_
  rintro e w' ⟨p, c, rfl, hr, hb⟩
  obtain ⟨b, o, rfl, _, h⟩ := rn_cell hr nlen_one
  rw [nlen_one]
  exact ⟨b, o, c, rfl, h, hb⟩)
 clear hg hz hd
 have R1 := Lib.hid r1
 have T1 := Lib.hid t1
 clear r1 t1
 go_enter Tryz.func40, Tryz.ntmps40
 go_upto_region 1 with fail
 refine wp_boxes w [(#[.bool (zneg z), .slice p1 (zlen z) c1], 50), (#[.bool false, .slice none 0 0, .slice none 0 0], 55)] rfl ?_
 rintro W0 ⟨k1, k2, hb⟩
 have HB0 := Lib.hid (show Below w.heap.size w W0 from hb)
 have R1 := Lib.hid (R1.out.below HB0.out)
 have T1 := Lib.hid (T1.out.below HB0.out)
 have K1 := Lib.hid k1
 have K2 := Lib.hid k2
 clear k1 k2 hb
 have dK11 := K1.out.cell (i := 1) rfl
 go_wp2_with fail
 with_reducible refine (C1.out _ _ _ R1.out T1.out).mono ?_
 rintro e W1 ⟨b_1, o_1, c_1, rfl, r1_0, hb⟩
 clear dK11
 have K1 := Lib.hid (K1.out.below hb)
 have K2 := Lib.hid (K2.out.below hb)
 have R1 := Lib.hid (R1.out.below hb)
 have T1 := Lib.hid (T1.out.below hb)
 have HB1 := Lib.hid (HB0.out.trans (hb.mono HB0.out.size))
 have XC := Lib.hid r1_0
 clear hb r1_0
 have dxc := XC.out
 have dK10 := K1.out.cell (i := 0) rfl
 have dK11 := K1.out.cell (i := 1) rfl
 have dK20 := K2.out.cell (i := 0) rfl
 have dK21 := K2.out.cell (i := 1) rfl
 have dK22 := K2.out.cell (i := 2) rfl
 have fK20 := K2.out.frozen (i := 0)
 have fK21 := K2.out.frozen (i := 1)
 have fK22 := K2.out.frozen (i := 2)
 go_wp2
 exact bodyPost_ret (v := .agg #[.bool (zneg z), .slice p1 (zlen z) c1, .slice s1 (nlen d) d1]) (by simp [results, Tryz.results40, go_sem, dK20, dK21, dK22]) rfl ⟨_, _, _, _, rfl, (store_rn [.bool (zneg z), .slice p1 (zlen z) c1, .slice s1 (nlen d) d1] R1.out K2.out (by simp [noInt]) (by simp [plainV])), (store_rn [.bool (zneg z), .slice p1 (zlen z) c1, .slice s1 (nlen d) d1] T1.out K2.out (by simp [noInt]) (by simp [plainV])), (store_below (l := [.bool (zneg z), .slice p1 (zlen z) c1, .slice s1 (nlen d) d1]) (i := 0) (by omega) HB1.out)⟩
theorem lowest_word (z : Int) (d : Nat) (hz : zlen z ≤ 50000) (hd : nlen d ≤ 50000) (p1 : Option Addr) (c1 : Nat) (s1 : Option Addr) (d1 : Nat) (g a a1 b b1 : Nat) (y : Int) (hg : Nat.gcd z.natAbs d = g) (g0 : g ≠ 0) (g1 : g ≠ 1) (gl : nlen g = 1) (ha : z.natAbs / g = a) (ha1 : z.natAbs % g = a1) (hb : d / g = b) (hb1 : d % g = b1) (hy : y = if zneg z then -(a : Int) else (a : Int)) (w : World) (r1 : RN w (.slice p1 (zlen z) c1) z.natAbs) (t1 : RN w (.slice s1 (nlen d) d1) d) :
 Calls Tryz.prog 40 #[.agg #[.bool (zneg z), .slice p1 (zlen z) c1], .slice s1 (nlen d) d1] w fun e w' => ∃ p c s e1, e = .returned (.agg #[.bool (zneg y), .slice p (zlen y) c, .slice s (nlen b) e1]) ∧ RN w' (.slice p (zlen y) c) y.natAbs ∧ RN w' (.slice s (nlen b) e1) b ∧ Below w.heap.size w w' := by
 have C1 := Lib.hid (show ∀ v1 v2 W, RN W v1 z.natAbs → RN W v2 d → Calls Tryz.prog 81 #[v1, v2] W fun e w' => ∃ b o c, e = .returned (.slice (some ⟨b, o, none⟩) 1 c) ∧ w'.cell? ⟨b, o, none⟩ = some (.int .u32 (g : Int)) ∧ RN w' (.slice (some ⟨b, o, none⟩) 1 c) g ∧ Below W.heap.size W w' from fun v1 v2 W h1 h2 => by
  refine (cCommon v1 v2 z.natAbs d g hg hz hd W h1 h2).mono ?_
  rintro e w' ⟨p, c, rfl, hr, hb⟩
  obtain ⟨b, o, rfl, _, h⟩ := rn_cell hr gl
  rw [gl] at hr ⊢
  exact ⟨b, o, c, rfl, h, hr, hb⟩)
 have C2 := Lib.hid (fun v1 v2 W h1 h2 => cOverE v1 v2 z.natAbs g a a1 ha ha1 g0 hz W h1 h2)
 have C3 := Lib.hid (fun v1 v2 W h1 h2 => cOverE v1 v2 d g b b1 hb hb1 g0 hd W h1 h2)
 have C4 := Lib.hid (fun v W h => cMake (zneg z) v a y hy (by rw [← ha]; exact Nat.le_trans (nlen_mono (Nat.div_le_self _ _)) (Nat.le_trans hz (by decide))) W h)
 have g1' : ((g : Int) == 1) = false := by rw [beq_eq_false_iff_ne]; omega
 have g2' : ¬ (g : Int) = 1 := by omega
 have g3' : ¬ g = 1 := g1
 clear gl g1
 clear hg hz hd g0 ha ha1 hb hb1 hy
 have R1 := Lib.hid r1
 have T1 := Lib.hid t1
 clear r1 t1
 go_enter Tryz.func40, Tryz.ntmps40
 go_upto_region 1 with fail
 refine wp_boxes w [(#[.bool (zneg z), .slice p1 (zlen z) c1], 50), (#[.bool false, .slice none 0 0, .slice none 0 0], 55)] rfl ?_
 rintro W0 ⟨k1, k2, hb⟩
 have HB0 := Lib.hid (show Below w.heap.size w W0 from hb)
 have R1 := Lib.hid (R1.out.below HB0.out)
 have T1 := Lib.hid (T1.out.below HB0.out)
 have K1 := Lib.hid k1
 have K2 := Lib.hid k2
 clear k1 k2 hb
 have dK11 := K1.out.cell (i := 1) rfl
 go_wp2_with fail
 with_reducible refine (C1.out _ _ _ R1.out T1.out).mono ?_
 rintro e W1 ⟨b_1, o_1, c_1, rfl, r1_0, r1_1, hb⟩
 clear dK11
 have K1 := Lib.hid (K1.out.below hb)
 have K2 := Lib.hid (K2.out.below hb)
 have R1 := Lib.hid (R1.out.below hb)
 have T1 := Lib.hid (T1.out.below hb)
 have HB1 := Lib.hid (HB0.out.trans (hb.mono HB0.out.size))
 have XC := Lib.hid r1_0
 have RG := Lib.hid r1_1
 clear hb r1_0 r1_1
 have dxc := XC.out
 have dK11 := K1.out.cell (i := 1) rfl
 go_wp2_with fail
 with_reducible refine (C2.out _ _ _ R1.out RG.out).mono ?_
 rintro e W2 ⟨pa_2, ca_2, pb_2, cb_2, rfl, r2_0, r2_1, hb⟩
 clear dK11
 have K1 := Lib.hid (K1.out.below hb)
 have K2 := Lib.hid (K2.out.below hb)
 have T1 := Lib.hid (T1.out.below hb)
 have RG := Lib.hid (RG.out.below hb)
 have HB2 := Lib.hid (HB1.out.trans (hb.mono HB1.out.size))
 have RA := Lib.hid r2_0
 have RA1 := Lib.hid r2_1
 clear hb r2_0 r2_1
 go_wp2_with fail
 with_reducible refine (C3.out _ _ _ T1.out RG.out).mono ?_
 rintro e W3 ⟨pa_3, ca_3, pb_3, cb_3, rfl, r3_0, r3_1, hb⟩
 have K1 := Lib.hid (K1.out.below hb)
 have K2 := Lib.hid (K2.out.below hb)
 have RA := Lib.hid (RA.out.below hb)
 have HB3 := Lib.hid (HB2.out.trans (hb.mono HB2.out.size))
 have RB := Lib.hid r3_0
 have RB1 := Lib.hid r3_1
 clear hb r3_0 r3_1
 have dK10 := K1.out.cell (i := 0) rfl
 go_wp2_with fail
 with_reducible refine (C4.out _ _ RA.out).mono ?_
 rintro e W4 ⟨p_4, c_4, rfl, r4_0, hb⟩
 clear dK10
 have K2 := Lib.hid (K2.out.below hb)
 have RB := Lib.hid (RB.out.below hb)
 have HB4 := Lib.hid (HB3.out.trans (hb.mono HB3.out.size))
 have RY := Lib.hid r4_0
 clear hb r4_0
 have dK20 := K2.out.cell (i := 0) rfl
 have dK21 := K2.out.cell (i := 1) rfl
 have dK22 := K2.out.cell (i := 2) rfl
 have fK20 := K2.out.frozen (i := 0)
 have fK21 := K2.out.frozen (i := 1)
 have fK22 := K2.out.frozen (i := 2)
 go_wp2
 exact bodyPost_ret (v := .agg #[.bool (zneg y), .slice p_4 (zlen y) c_4, .slice pa_3 (nlen b) ca_3]) (by simp [results, Tryz.results40, go_sem, dK20, dK21, dK22]) rfl ⟨_, _, _, _, rfl, (store_rn [.bool (zneg y), .slice p_4 (zlen y) c_4, .slice pa_3 (nlen b) ca_3] RY.out K2.out (by simp [noInt]) (by simp [plainV])), (store_rn [.bool (zneg y), .slice p_4 (zlen y) c_4, .slice pa_3 (nlen b) ca_3] RB.out K2.out (by simp [noInt]) (by simp [plainV])), (store_below (l := [.bool (zneg y), .slice p_4 (zlen y) c_4, .slice pa_3 (nlen b) ca_3]) (i := 0) (by omega) HB4.out)⟩
theorem lowest_long (z : Int) (d : Nat) (hz : zlen z ≤ 50000) (hd : nlen d ≤ 50000) (p1 : Option Addr) (c1 : Nat) (s1 : Option Addr) (d1 : Nat) (g a a1 b b1 : Nat) (y : Int) (hg : Nat.gcd z.natAbs d = g) (g0 : g ≠ 0) (gl : nlen g ≠ 1) (ha : z.natAbs / g = a) (ha1 : z.natAbs % g = a1) (hb : d / g = b) (hb1 : d % g = b1) (hy : y = if zneg z then -(a : Int) else (a : Int)) (w : World) (r1 : RN w (.slice p1 (zlen z) c1) z.natAbs) (t1 : RN w (.slice s1 (nlen d) d1) d) :
 Calls Tryz.prog 40 #[.agg #[.bool (zneg z), .slice p1 (zlen z) c1], .slice s1 (nlen d) d1] w fun e w' => ∃ p c s e1, e = .returned (.agg #[.bool (zneg y), .slice p (zlen y) c, .slice s (nlen b) e1]) ∧ RN w' (.slice p (zlen y) c) y.natAbs ∧ RN w' (.slice s (nlen b) e1) b ∧ Below w.heap.size w w' := by
 have C1 := Lib.hid (fun v1 v2 W h1 h2 => cCommon v1 v2 z.natAbs d g hg hz hd W h1 h2)
 have C2 := Lib.hid (fun v1 v2 W h1 h2 => cOverE v1 v2 z.natAbs g a a1 ha ha1 g0 hz W h1 h2)
 have C3 := Lib.hid (fun v1 v2 W h1 h2 => cOverE v1 v2 d g b b1 hb hb1 g0 hd W h1 h2)
 have C4 := Lib.hid (fun v W h => cMake (zneg z) v a y hy (by rw [← ha]; exact Nat.le_trans (nlen_mono (Nat.div_le_self _ _)) (Nat.le_trans hz (by decide))) W h)
 have g1' : ((nlen g : Int) == 1) = false := by rw [beq_eq_false_iff_ne]; omega
 have g2' : ¬ (nlen g : Int) = 1 := by omega
 have g3' : ¬ nlen g = 1 := gl
 clear gl
 clear hg hz hd g0 ha ha1 hb hb1 hy
 have R1 := Lib.hid r1
 have T1 := Lib.hid t1
 clear r1 t1
 go_enter Tryz.func40, Tryz.ntmps40
 go_upto_region 1 with fail
 refine wp_boxes w [(#[.bool (zneg z), .slice p1 (zlen z) c1], 50), (#[.bool false, .slice none 0 0, .slice none 0 0], 55)] rfl ?_
 rintro W0 ⟨k1, k2, hb⟩
 have HB0 := Lib.hid (show Below w.heap.size w W0 from hb)
 have R1 := Lib.hid (R1.out.below HB0.out)
 have T1 := Lib.hid (T1.out.below HB0.out)
 have K1 := Lib.hid k1
 have K2 := Lib.hid k2
 clear k1 k2 hb
 have dK11 := K1.out.cell (i := 1) rfl
 go_wp2_with fail
 with_reducible refine (C1.out _ _ _ R1.out T1.out).mono ?_
 rintro e W1 ⟨p_1, c_1, rfl, r1_0, hb⟩
 clear dK11
 have K1 := Lib.hid (K1.out.below hb)
 have K2 := Lib.hid (K2.out.below hb)
 have R1 := Lib.hid (R1.out.below hb)
 have T1 := Lib.hid (T1.out.below hb)
 have HB1 := Lib.hid (HB0.out.trans (hb.mono HB0.out.size))
 have RG := Lib.hid r1_0
 clear hb r1_0
 have dK11 := K1.out.cell (i := 1) rfl
 go_wp2_with fail
 with_reducible refine (C2.out _ _ _ R1.out RG.out).mono ?_
 rintro e W2 ⟨pa_2, ca_2, pb_2, cb_2, rfl, r2_0, r2_1, hb⟩
 clear dK11
 have K1 := Lib.hid (K1.out.below hb)
 have K2 := Lib.hid (K2.out.below hb)
 have T1 := Lib.hid (T1.out.below hb)
 have RG := Lib.hid (RG.out.below hb)
 have HB2 := Lib.hid (HB1.out.trans (hb.mono HB1.out.size))
 have RA := Lib.hid r2_0
 have RA1 := Lib.hid r2_1
 clear hb r2_0 r2_1
 go_wp2_with fail
 with_reducible refine (C3.out _ _ _ T1.out RG.out).mono ?_
 rintro e W3 ⟨pa_3, ca_3, pb_3, cb_3, rfl, r3_0, r3_1, hb⟩
 have K1 := Lib.hid (K1.out.below hb)
 have K2 := Lib.hid (K2.out.below hb)
 have RA := Lib.hid (RA.out.below hb)
 have HB3 := Lib.hid (HB2.out.trans (hb.mono HB2.out.size))
 have RB := Lib.hid r3_0
 have RB1 := Lib.hid r3_1
 clear hb r3_0 r3_1
 have dK10 := K1.out.cell (i := 0) rfl
 go_wp2_with fail
 with_reducible refine (C4.out _ _ RA.out).mono ?_
 rintro e W4 ⟨p_4, c_4, rfl, r4_0, hb⟩
 clear dK10
 have K2 := Lib.hid (K2.out.below hb)
 have RB := Lib.hid (RB.out.below hb)
 have HB4 := Lib.hid (HB3.out.trans (hb.mono HB3.out.size))
 have RY := Lib.hid r4_0
 clear hb r4_0
 have dK20 := K2.out.cell (i := 0) rfl
 have dK21 := K2.out.cell (i := 1) rfl
 have dK22 := K2.out.cell (i := 2) rfl
 have fK20 := K2.out.frozen (i := 0)
 have fK21 := K2.out.frozen (i := 1)
 have fK22 := K2.out.frozen (i := 2)
 go_wp2
 exact bodyPost_ret (v := .agg #[.bool (zneg y), .slice p_4 (zlen y) c_4, .slice pa_3 (nlen b) ca_3]) (by simp [results, Tryz.results40, go_sem, dK20, dK21, dK22]) rfl ⟨_, _, _, _, rfl, (store_rn [.bool (zneg y), .slice p_4 (zlen y) c_4, .slice pa_3 (nlen b) ca_3] RY.out K2.out (by simp [noInt]) (by simp [plainV])), (store_rn [.bool (zneg y), .slice p_4 (zlen y) c_4, .slice pa_3 (nlen b) ca_3] RB.out K2.out (by simp [noInt]) (by simp [plainV])), (store_below (l := [.bool (zneg y), .slice p_4 (zlen y) c_4, .slice pa_3 (nlen b) ca_3]) (i := 0) (by omega) HB4.out)⟩
end Go.Proofs.YtmigpoiajkihhaaGreatDoor
/- Short words for the operations of a region. No program is mentioned. -/
namespace Go.Gb
open Go Go.RowKit
section
variable {P : Program} {ops : Array Oper} {Q : Exit → Act → World → Prop}
variable {m : Nat} {sl : Nat → Nat} {R : Nat → Value → World → Prop} {a a0 : Act} {W : World → Prop} {listed : Array Bool} {w w' : World}
theorem stepH {i : Nat} {o : Oper} {K : Act → World → Prop} (ho : ops[i]? = some o)
 (h : ∀ K' : Act → World → Prop, Hid (∀ a w, K a w → K' a w) → if Region.wanted o (yielded ops a.tmps) = true then Oper.wp P o a w K' Q else K' (a.put o.dst undef) w) : wpOp P ops Q i K a w :=
 wpOp_step ho (fun K' hK => h K' (Lib.hid hK))
theorem RInv.pv {i d : Nat} {v : Value} (h : RInv ops m sl R a0 W listed a w) (hi : i ∈ Region.ready .any ops listed) (hv : R i v w) (hm : i < m := by decide) (hd : d = sl i := by rfl) (hlo : d < a0.tmps.size := by simp)
 (hinj : ∀ j, j < m → sl j = d → j = i := by decide) : RInv ops m sl R a0 W (listed.setIfInBounds i true) (a.put (some d) v) w := h.put hi hm hd hlo hinj hv (fun _ _ k => k) h.world
theorem RInv.pc {L : List Rel} {w0 : World} {i d : Nat} {v : Value} (h : RInv ops m sl (RelR L) a0 (fun W => Below w0.heap.size w0 W) listed a w) (hi : i ∈ Region.ready .any ops listed) (hb : Below w.heap.size w w') (hv : RelR L i v w') (hm : i < m := by decide) (hd : d = sl i := by rfl) (hlo : d < a0.tmps.size := by simp)
 (hinj : ∀ j, j < m → sl j = d → j = i := by decide) : RInv ops m sl (RelR L) a0 (fun W => Below w0.heap.size w0 W) (listed.setIfInBounds i true) (a.put (some d) v) w' :=
 h.put hi hm hd hlo hinj hv (fun j u k => RelR.mono hb j u k) (h.world.trans (hb.mono h.world.size))
theorem RInv.rv {i j : Nat} {c : Value} (h : RInv ops m sl R a0 W listed a w) (hj : j ∈ Region.ready .any ops listed) (hw : Region.waitsFor .any ops j i = true) (hm : i < m) (hR : ∀ v, R i v w → v = c) : a.tmps[sl i]? = some c := by
 obtain ⟨v, h1, h2⟩ := h.at hj hw hm
 rw [h1, hR v h2]
def RV (ops : Array Oper) (listed : Array Bool) (a : Act) (j d : Nat) (c : Value) : Prop := ∀ i, i ∈ Region.ready .any ops listed → Region.waitsFor .any ops i j = true → a.tmps[d]? = some c
theorem RV.g {j d i : Nat} {c : Value} (h : RV ops listed a j d c) (hi : i ∈ Region.ready .any ops listed) (hw : Region.waitsFor .any ops i j = true) : a.tmps[d]? = some c := h i hi hw
theorem RInv.rh {j d : Nat} {c : Value} (h : RInv ops m sl R a0 W listed a w) (hm : j < m := by decide) (hd : sl j = d := by rfl) (hR : ∀ v, R j v w → v = c := by exact fun _ h => h) : RV ops listed a j d c := by
 subst hd
 exact fun i hi hw => h.rv hi hw hm hR
theorem RInv.sx {c : Value} (h : RInv ops m sl R a0 W listed a w) (hall : ∀ j, j < m → listed.getD j false = true) (i : Nat) {d : Nat} (hm : i < m := by decide) (hd : sl i = d := by rfl) (hR : ∀ v, R i v w → v = c := by exact fun _ h => h) : a.tmps[d]? = some c := by
 subst hd
 obtain ⟨v, h1, h2⟩ := h.slots i hm (hall i hm)
 rw [h1, hR v h2]
def AllT : List (Nat × Value) → Array Value → Prop
 | [], _ => True
 | p :: t, T => T[p.1]? = some p.2 ∧ AllT t T
theorem AllT.mem : ∀ {L : List (Nat × Value)} {T : Array Value}, AllT L T → ∀ p, p ∈ L → T[p.1]? = some p.2
 | _ :: _, _, h, p, hp => by
   rcases List.mem_cons.1 hp with rfl | hp
   · exact h.1
   · exact AllT.mem h.2 p hp
def cov (m : Nat) (sl : Nat → Nat) (L : List (Nat × Value)) : Bool := (List.range m).all fun i => L.any fun p => p.1 == sl i
theorem cov_spec {L : List (Nat × Value)} (h : cov m sl L = true) (d : Nat) (hd : ∀ p, p ∈ L → p.1 ≠ d) : ∀ i, i < m → sl i ≠ d := by
 intro i hi e
 have h1 := List.all_eq_true.1 h i (List.mem_range.2 hi)
 obtain ⟨p, hp, h2⟩ := List.any_eq_true.1 h1
 exact hd p hp ((beq_iff_eq.1 h2).trans e)
theorem RInv.finx {L : List (Nat × Value)} (h : RInv ops m sl R a0 W listed a w) (h1 : AllT L a.tmps) (h2 : cov m sl L = true) : a = ⟨putL L a0.tmps, a0.defers⟩ := h.fin L h1.mem (cov_spec h2)
end
end Go.Gb
