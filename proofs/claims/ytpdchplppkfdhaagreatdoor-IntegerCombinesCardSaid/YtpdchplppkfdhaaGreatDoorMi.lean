/- Texts of this proof, one behind the other. -/
import Derived.Test.YtpdchplppkfdhaaGreatDoorMl
import Derived.Test.YtpdchplppkfdhaaGreatDoorMg
/- integer.combine, with any contract of signed: walks. -/
namespace Go.Proofs.YtpdchplppkfdhaaGreatDoor
open Go.RowKit Go.Gb

set_option maxHeartbeats 8000000 in
set_option maxRecDepth 100000 in
theorem combine_gen (s t : Int) (m n g h : Nat) (z3 : Int) (PK : Nat → Bool → Prop) (hs : ∀ (f : Nat) (neg : Bool), PK f neg → ∀ W, Zz W → Calls Tryz.prog 133 #[.int .i64 s, .string (Sn f)] W fun e w' => e = .returned (Zv (s * (f : Int))) ∧ Below W.heap.size W w') (hg0 : g ≠ 0) (fm : Fit m) (fn : Fit n) (fg : Fit g) (hh : n / g = h) (hh0 : h ≠ 0)
    (lg : (digs g).length ≤ 100000) (fh : Fit h) (w : World) (hl : La w)
    (hcomb : ∀ (v1 v2 : Value) (W : World), Rd .u64 W v1 (digs m) → Rd .u64 W v2 (digs n) → Calls Tryz.prog 142 #[v1, v2] W fun e w' => ∃ (u v : Value) (f : Nat) (neg : Bool), e = .returned (.tuple #[u, v, .bool neg]) ∧ Own .u64 44 W.heap.size w' u (digs g) ∧ Own .u64 44 W.heap.size w' v (digs f) ∧ Hid (PK f neg) ∧ Below W.heap.size W w')
    (hpk : ∀ (f : Nat) (neg : Bool), PK f neg → (digs f).length ≤ 100000 ∧ ∀ z2 : Int, z2 = (if neg then -(s * (f : Int)) else s * (f : Int)) → z2 % (h : Int) = z3 ∧ FitZ z2 ∧ Fit (z2.natAbs + 1)) :
    Calls Tryz.prog 103 #[Zr s m, Zr t n] w fun e w' => e = .returned (.tuple #[.string (Sn g), Zv z3]) ∧ Below w.heap.size w w' := by
  have HR1 := Lib.hid (fun W => nRead m fm W)
  have HR2 := Lib.hid (fun W => nRead n fn W)
  have HCO := Lib.hid hcomb
  have HPK := Lib.hid hpk
  have HS := Lib.hid hs
  have HH0 := Lib.hid hh0
  have FH := Lib.hid fh
  have HWG := Lib.hid (fun (v : Value) (W : World) (R : Rd .u64 W v (digs g)) (T : Tb W) => nWrite v g lg W R T)
  have HDM := Lib.hid (fun (W : World) (T : Tb W) => nDivMod n g fn fg hg0 W T)
  rw [hh] at HDM
  have HL := Lib.hid hl
  unfold Zr
  unfold Zv at *
  clear hs hg0 fm fn fg hh hh0 lg hcomb hpk fh hl
  generalize Sn (n % g) = rr at *
  go_enter Tryz.func103, Tryz.ntmps103
  go_upto_region 1 with fail
  go_cut [6, 7, 8] (fun v6 v7 v8 wx => ∃ (f : Nat) (neg : Bool), Hid (PK f neg) ∧ v8 = .bool neg ∧ wx.cell? ⟨w.heap.size, 0, none⟩ = some (.int .i64 s) ∧ wx.cell? ⟨w.heap.size, 1, none⟩ = some (.string (Sn m)) ∧ wx.cell? ⟨w.heap.size + 1, 0, none⟩ = some (.int .i64 t) ∧ wx.cell? ⟨w.heap.size + 1, 1, none⟩ = some (.string (Sn n)) ∧ wx.cell? ⟨w.heap.size + 1 + 1, 0, none⟩ = some (.int .i64 0) ∧ wx.cell? ⟨w.heap.size + 1 + 1, 1, none⟩ = some (.string ⟨#[]⟩) ∧ wx.frozen? ⟨w.heap.size + 1 + 1, 0, none⟩ = false ∧ wx.frozen? ⟨w.heap.size + 1 + 1, 1, none⟩ = false ∧ w.heap.size + 1 + 1 < wx.heap.size ∧ Hid (Own .u64 44 w.heap.size wx v6 (digs g)) ∧ Hid (Own .u64 44 w.heap.size wx v7 (digs f)) ∧ Hid (Below w.heap.size w wx))
  case first =>
    go_region_held3 (fun w' => w'.cell? ⟨w.heap.size, 0, none⟩ = some (.int .i64 s) ∧ w'.cell? ⟨w.heap.size, 1, none⟩ = some (.string (Sn m)) ∧ w'.cell? ⟨w.heap.size + 1, 0, none⟩ = some (.int .i64 t) ∧ w'.cell? ⟨w.heap.size + 1, 1, none⟩ = some (.string (Sn n))) (first | ((try go_split_ands); refine ⟨?_, ?_, ?_, ?_⟩ <;> (first | (with_reducible assumption) | ((repeat (first | rw [cell_drew] | rw [cell_alloc_lt (by first | assumption | omega | (simp; done) | (simp; omega))] | rw [cell_set_ne (by omega)])); first | (with_reducible assumption) | (rw [cell_new (by first | rfl | simp)]; rfl) | (simp; done)))) | (go_keep; done))
      (first
        | (go_at_call 61; (with_reducible refine (HR1.out _).mono ?_); rintro e w1 ⟨v1, rfl, ho1, hb1⟩; obtain ⟨hc1, hf1⟩ := bcell hb1; have hz1 := hb1.size; (try simp at hz1); have HB1 : Below w.heap.size w w1 := (by refine Below.trans ?_ (hb1.mono (by first | omega | (simp; omega) | simp)); repeat (first | exact Below.refl _ _ | refine Below.alloc ?_ (by first | omega | (simp; omega) | simp) _ | refine Below.drew ?_)); have u1 : w.heap.size + 1 + 1 < w1.heap.size := (by omega); have m1_0 : w1.cell? ⟨w.heap.size, 0, none⟩ = some (.int .i64 s) := (by rw [hc1 _ _ (by first | omega | (simp; omega) | simp)]; (repeat (first | rw [cell_drew] | rw [cell_alloc_lt (by first | assumption | omega | (simp; done) | (simp; omega))] | rw [cell_set_ne (by omega)])); first | (with_reducible assumption) | (rw [cell_new (by first | rfl | simp)]; rfl) | (simp; done)); have m1_1 : w1.cell? ⟨w.heap.size, 1, none⟩ = some (.string (Sn m)) := (by rw [hc1 _ _ (by first | omega | (simp; omega) | simp)]; (repeat (first | rw [cell_drew] | rw [cell_alloc_lt (by first | assumption | omega | (simp; done) | (simp; omega))] | rw [cell_set_ne (by omega)])); first | (with_reducible assumption) | (rw [cell_new (by first | rfl | simp)]; rfl) | (simp; done)); have m1_2 : w1.cell? ⟨w.heap.size + 1, 0, none⟩ = some (.int .i64 t) := (by rw [hc1 _ _ (by first | omega | (simp; omega) | simp)]; (repeat (first | rw [cell_drew] | rw [cell_alloc_lt (by first | assumption | omega | (simp; done) | (simp; omega))] | rw [cell_set_ne (by omega)])); first | (with_reducible assumption) | (rw [cell_new (by first | rfl | simp)]; rfl) | (simp; done)); have m1_3 : w1.cell? ⟨w.heap.size + 1, 1, none⟩ = some (.string (Sn n)) := (by rw [hc1 _ _ (by first | omega | (simp; omega) | simp)]; (repeat (first | rw [cell_drew] | rw [cell_alloc_lt (by first | assumption | omega | (simp; done) | (simp; omega))] | rw [cell_set_ne (by omega)])); first | (with_reducible assumption) | (rw [cell_new (by first | rfl | simp)]; rfl) | (simp; done)); have m1_4 : w1.cell? ⟨w.heap.size + 1 + 1, 0, none⟩ = some (.int .i64 0) := (by rw [hc1 _ _ (by first | omega | (simp; omega) | simp)]; (repeat (first | rw [cell_drew] | rw [cell_alloc_lt (by first | assumption | omega | (simp; done) | (simp; omega))] | rw [cell_set_ne (by omega)])); first | (with_reducible assumption) | (rw [cell_new (by first | rfl | simp)]; rfl) | (simp; done)); have m1_5 : w1.cell? ⟨w.heap.size + 1 + 1, 1, none⟩ = some (.string ⟨#[]⟩) := (by rw [hc1 _ _ (by first | omega | (simp; omega) | simp)]; (repeat (first | rw [cell_drew] | rw [cell_alloc_lt (by first | assumption | omega | (simp; done) | (simp; omega))] | rw [cell_set_ne (by omega)])); first | (with_reducible assumption) | (rw [cell_new (by first | rfl | simp)]; rfl) | (simp; done)); have f1_0 : w1.frozen? ⟨w.heap.size + 1 + 1, 0, none⟩ = false := (by rw [hf1 _ _ (by first | omega | (simp; omega) | simp)]; (repeat (first | rw [froz_drew] | rw [froz_set] | rw [froz_alloc_lt (by first | assumption | omega | (simp; done) | (simp; omega))])); first | (with_reducible assumption) | (rw [froz_new (by first | rfl | simp)]) | (simp; done)); have f1_1 : w1.frozen? ⟨w.heap.size + 1 + 1, 1, none⟩ = false := (by rw [hf1 _ _ (by first | omega | (simp; omega) | simp)]; (repeat (first | rw [froz_drew] | rw [froz_set] | rw [froz_alloc_lt (by first | assumption | omega | (simp; done) | (simp; omega))])); first | (with_reducible assumption) | (rw [froz_new (by first | rfl | simp)]) | (simp; done)))
        | (go_at_call 61; (with_reducible refine (HR2.out _).mono ?_); rintro e w2 ⟨v2, rfl, ho2, hb2⟩; obtain ⟨hc2, hf2⟩ := bcell hb2; have hz2 := hb2.size; (try simp at hz2); have HB2 : Below w.heap.size w w2 := (by refine Below.trans ?_ (hb2.mono (by first | omega | (simp; omega) | simp)); repeat (first | exact HB1 | refine Below.alloc ?_ (by first | omega | (simp; omega) | simp) _ | refine Below.drew ?_)); have u2 : w.heap.size + 1 + 1 < w2.heap.size := (by omega); have m2_0 : w2.cell? ⟨w.heap.size, 0, none⟩ = some (.int .i64 s) := (by rw [hc2 _ _ (by first | omega | (simp; omega) | simp)]; (repeat (first | rw [cell_drew] | rw [cell_alloc_lt (by first | assumption | omega | (simp; done) | (simp; omega))] | rw [cell_set_ne (by omega)])); first | (with_reducible assumption) | (rw [cell_new (by first | rfl | simp)]; rfl) | (simp; done)); have m2_1 : w2.cell? ⟨w.heap.size, 1, none⟩ = some (.string (Sn m)) := (by rw [hc2 _ _ (by first | omega | (simp; omega) | simp)]; (repeat (first | rw [cell_drew] | rw [cell_alloc_lt (by first | assumption | omega | (simp; done) | (simp; omega))] | rw [cell_set_ne (by omega)])); first | (with_reducible assumption) | (rw [cell_new (by first | rfl | simp)]; rfl) | (simp; done)); have m2_2 : w2.cell? ⟨w.heap.size + 1, 0, none⟩ = some (.int .i64 t) := (by rw [hc2 _ _ (by first | omega | (simp; omega) | simp)]; (repeat (first | rw [cell_drew] | rw [cell_alloc_lt (by first | assumption | omega | (simp; done) | (simp; omega))] | rw [cell_set_ne (by omega)])); first | (with_reducible assumption) | (rw [cell_new (by first | rfl | simp)]; rfl) | (simp; done)); have m2_3 : w2.cell? ⟨w.heap.size + 1, 1, none⟩ = some (.string (Sn n)) := (by rw [hc2 _ _ (by first | omega | (simp; omega) | simp)]; (repeat (first | rw [cell_drew] | rw [cell_alloc_lt (by first | assumption | omega | (simp; done) | (simp; omega))] | rw [cell_set_ne (by omega)])); first | (with_reducible assumption) | (rw [cell_new (by first | rfl | simp)]; rfl) | (simp; done)); have m2_4 : w2.cell? ⟨w.heap.size + 1 + 1, 0, none⟩ = some (.int .i64 0) := (by rw [hc2 _ _ (by first | omega | (simp; omega) | simp)]; (repeat (first | rw [cell_drew] | rw [cell_alloc_lt (by first | assumption | omega | (simp; done) | (simp; omega))] | rw [cell_set_ne (by omega)])); first | (with_reducible assumption) | (rw [cell_new (by first | rfl | simp)]; rfl) | (simp; done)); have m2_5 : w2.cell? ⟨w.heap.size + 1 + 1, 1, none⟩ = some (.string ⟨#[]⟩) := (by rw [hc2 _ _ (by first | omega | (simp; omega) | simp)]; (repeat (first | rw [cell_drew] | rw [cell_alloc_lt (by first | assumption | omega | (simp; done) | (simp; omega))] | rw [cell_set_ne (by omega)])); first | (with_reducible assumption) | (rw [cell_new (by first | rfl | simp)]; rfl) | (simp; done)); have f2_0 : w2.frozen? ⟨w.heap.size + 1 + 1, 0, none⟩ = false := (by rw [hf2 _ _ (by first | omega | (simp; omega) | simp)]; (repeat (first | rw [froz_drew] | rw [froz_set] | rw [froz_alloc_lt (by first | assumption | omega | (simp; done) | (simp; omega))])); first | (with_reducible assumption) | (rw [froz_new (by first | rfl | simp)]) | (simp; done)); have f2_1 : w2.frozen? ⟨w.heap.size + 1 + 1, 1, none⟩ = false := (by rw [hf2 _ _ (by first | omega | (simp; omega) | simp)]; (repeat (first | rw [froz_drew] | rw [froz_set] | rw [froz_alloc_lt (by first | assumption | omega | (simp; done) | (simp; omega))])); first | (with_reducible assumption) | (rw [froz_new (by first | rfl | simp)]) | (simp; done)); have hr1 := ho1.rd.below hb2)
        | (go_at_call 142; (refine (HCO.out v1 v2 _ hr1 ho2.rd).mono ?_); rintro e w3 ⟨uu, vv, f, neg, rfl, hog, hof, hkp, hb3⟩; obtain ⟨hc3, hf3⟩ := bcell hb3; have hz3 := hb3.size; (try simp at hz3); have HB3 : Below w.heap.size w w3 := (by refine Below.trans ?_ (hb3.mono (by first | omega | (simp; omega) | simp)); repeat (first | exact HB2 | refine Below.alloc ?_ (by first | omega | (simp; omega) | simp) _ | refine Below.drew ?_)); have u3 : w.heap.size + 1 + 1 < w3.heap.size := (by omega); have m3_0 : w3.cell? ⟨w.heap.size, 0, none⟩ = some (.int .i64 s) := (by rw [hc3 _ _ (by first | omega | (simp; omega) | simp)]; (repeat (first | rw [cell_drew] | rw [cell_alloc_lt (by first | assumption | omega | (simp; done) | (simp; omega))] | rw [cell_set_ne (by omega)])); first | (with_reducible assumption) | (rw [cell_new (by first | rfl | simp)]; rfl) | (simp; done)); have m3_1 : w3.cell? ⟨w.heap.size, 1, none⟩ = some (.string (Sn m)) := (by rw [hc3 _ _ (by first | omega | (simp; omega) | simp)]; (repeat (first | rw [cell_drew] | rw [cell_alloc_lt (by first | assumption | omega | (simp; done) | (simp; omega))] | rw [cell_set_ne (by omega)])); first | (with_reducible assumption) | (rw [cell_new (by first | rfl | simp)]; rfl) | (simp; done)); have m3_2 : w3.cell? ⟨w.heap.size + 1, 0, none⟩ = some (.int .i64 t) := (by rw [hc3 _ _ (by first | omega | (simp; omega) | simp)]; (repeat (first | rw [cell_drew] | rw [cell_alloc_lt (by first | assumption | omega | (simp; done) | (simp; omega))] | rw [cell_set_ne (by omega)])); first | (with_reducible assumption) | (rw [cell_new (by first | rfl | simp)]; rfl) | (simp; done)); have m3_3 : w3.cell? ⟨w.heap.size + 1, 1, none⟩ = some (.string (Sn n)) := (by rw [hc3 _ _ (by first | omega | (simp; omega) | simp)]; (repeat (first | rw [cell_drew] | rw [cell_alloc_lt (by first | assumption | omega | (simp; done) | (simp; omega))] | rw [cell_set_ne (by omega)])); first | (with_reducible assumption) | (rw [cell_new (by first | rfl | simp)]; rfl) | (simp; done)); have m3_4 : w3.cell? ⟨w.heap.size + 1 + 1, 0, none⟩ = some (.int .i64 0) := (by rw [hc3 _ _ (by first | omega | (simp; omega) | simp)]; (repeat (first | rw [cell_drew] | rw [cell_alloc_lt (by first | assumption | omega | (simp; done) | (simp; omega))] | rw [cell_set_ne (by omega)])); first | (with_reducible assumption) | (rw [cell_new (by first | rfl | simp)]; rfl) | (simp; done)); have m3_5 : w3.cell? ⟨w.heap.size + 1 + 1, 1, none⟩ = some (.string ⟨#[]⟩) := (by rw [hc3 _ _ (by first | omega | (simp; omega) | simp)]; (repeat (first | rw [cell_drew] | rw [cell_alloc_lt (by first | assumption | omega | (simp; done) | (simp; omega))] | rw [cell_set_ne (by omega)])); first | (with_reducible assumption) | (rw [cell_new (by first | rfl | simp)]; rfl) | (simp; done)); have f3_0 : w3.frozen? ⟨w.heap.size + 1 + 1, 0, none⟩ = false := (by rw [hf3 _ _ (by first | omega | (simp; omega) | simp)]; (repeat (first | rw [froz_drew] | rw [froz_set] | rw [froz_alloc_lt (by first | assumption | omega | (simp; done) | (simp; omega))])); first | (with_reducible assumption) | (rw [froz_new (by first | rfl | simp)]) | (simp; done)); have f3_1 : w3.frozen? ⟨w.heap.size + 1 + 1, 1, none⟩ = false := (by rw [hf3 _ _ (by first | omega | (simp; omega) | simp)]; (repeat (first | rw [froz_drew] | rw [froz_set] | rw [froz_alloc_lt (by first | assumption | omega | (simp; done) | (simp; omega))])); first | (with_reducible assumption) | (rw [froz_new (by first | rfl | simp)]) | (simp; done))))
    all_goals
      go_wp2_with fail
      go_meet
      exact ⟨f, neg, hkp, rfl, m3_0, m3_1, m3_2, m3_3, m3_4, m3_5, f3_0, f3_1, u3, hog.mono HB2.size, hof.mono HB2.size, HB3⟩
  case rest =>
    obtain ⟨f, neg, kp, rfl, c0, c1, c2, c3, c4, c5, r0, r1, ksz, kog, kof, kb⟩ := hcut
    obtain ⟨lf, hzz⟩ := HPK.out f neg kp.out
    obtain ⟨z, hz⟩ : ∃ z, z = s * (f : Int) := ⟨_, rfl⟩
    obtain ⟨z2, hz2⟩ : ∃ z2, z2 = if neg then -z else z := ⟨_, rfl⟩
    obtain ⟨hz3, fz2, fz2'⟩ := hzz z2 (by rw [hz2, hz])
    have HWF := Lib.hid (fun (v : Value) (W : World) (R : Rd .u64 W v (digs f)) (T : Tb W) => nWrite v f lf W R T)
    have HSG := Lib.hid (fun (W : World) (Z : Zz W) => HS.out f neg kp.out W Z)
    rw [← hz] at HSG
    have HNG := Lib.hid (fun W => negative_any z W)
    have HDV := Lib.hid (fun W (hW : La W) => divide_e z2 (h : Int) (z2 / (h : Int)) z3 (by have := HH0.out; omega) rfl hz3 fz2 FH.out.nat fz2' W hW)
    rw [zv_pos HH0.out] at HDV
    unfold Zv at HNG HDV
    clear hzz hz hz3 fz2 fz2' lf kp
    go_wp2_with fail
    refine (HWG.out _ _ kog.out.rd (HL.out.on kb.out).tb).mono ?_
    rintro e w4 ⟨rfl, hb4⟩
    have KOF := Lib.hid (kof.out.below hb4)
    obtain ⟨hc4, hf4⟩ := bcell hb4; have hz4 := hb4.size; (try simp at hz4); have HB4 : Below w.heap.size w w4 := (by refine Below.trans ?_ (hb4.mono (by first | omega | (simp; omega) | simp)); repeat (first | exact kb.out | refine Below.alloc ?_ (by first | omega | (simp; omega) | simp) _ | refine Below.drew ?_)); have u4 : w.heap.size + 1 + 1 < w4.heap.size := (by omega); have m4_0 : w4.cell? ⟨w.heap.size, 0, none⟩ = some (.int .i64 s) := (by rw [hc4 _ _ (by first | omega | (simp; omega) | simp)]; (repeat (first | rw [cell_drew] | rw [cell_alloc_lt (by first | assumption | omega | (simp; done) | (simp; omega))] | rw [cell_set_ne (by omega)])); first | (with_reducible assumption) | (rw [cell_new (by first | rfl | simp)]; rfl) | (simp; done)); have m4_1 : w4.cell? ⟨w.heap.size, 1, none⟩ = some (.string (Sn m)) := (by rw [hc4 _ _ (by first | omega | (simp; omega) | simp)]; (repeat (first | rw [cell_drew] | rw [cell_alloc_lt (by first | assumption | omega | (simp; done) | (simp; omega))] | rw [cell_set_ne (by omega)])); first | (with_reducible assumption) | (rw [cell_new (by first | rfl | simp)]; rfl) | (simp; done)); have m4_2 : w4.cell? ⟨w.heap.size + 1, 0, none⟩ = some (.int .i64 t) := (by rw [hc4 _ _ (by first | omega | (simp; omega) | simp)]; (repeat (first | rw [cell_drew] | rw [cell_alloc_lt (by first | assumption | omega | (simp; done) | (simp; omega))] | rw [cell_set_ne (by omega)])); first | (with_reducible assumption) | (rw [cell_new (by first | rfl | simp)]; rfl) | (simp; done)); have m4_3 : w4.cell? ⟨w.heap.size + 1, 1, none⟩ = some (.string (Sn n)) := (by rw [hc4 _ _ (by first | omega | (simp; omega) | simp)]; (repeat (first | rw [cell_drew] | rw [cell_alloc_lt (by first | assumption | omega | (simp; done) | (simp; omega))] | rw [cell_set_ne (by omega)])); first | (with_reducible assumption) | (rw [cell_new (by first | rfl | simp)]; rfl) | (simp; done)); have m4_4 : w4.cell? ⟨w.heap.size + 1 + 1, 0, none⟩ = some (.int .i64 0) := (by rw [hc4 _ _ (by first | omega | (simp; omega) | simp)]; (repeat (first | rw [cell_drew] | rw [cell_alloc_lt (by first | assumption | omega | (simp; done) | (simp; omega))] | rw [cell_set_ne (by omega)])); first | (with_reducible assumption) | (rw [cell_new (by first | rfl | simp)]; rfl) | (simp; done)); have m4_5 : w4.cell? ⟨w.heap.size + 1 + 1, 1, none⟩ = some (.string ⟨#[]⟩) := (by rw [hc4 _ _ (by first | omega | (simp; omega) | simp)]; (repeat (first | rw [cell_drew] | rw [cell_alloc_lt (by first | assumption | omega | (simp; done) | (simp; omega))] | rw [cell_set_ne (by omega)])); first | (with_reducible assumption) | (rw [cell_new (by first | rfl | simp)]; rfl) | (simp; done)); have f4_0 : w4.frozen? ⟨w.heap.size + 1 + 1, 0, none⟩ = false := (by rw [hf4 _ _ (by first | omega | (simp; omega) | simp)]; (repeat (first | rw [froz_drew] | rw [froz_set] | rw [froz_alloc_lt (by first | assumption | omega | (simp; done) | (simp; omega))])); first | (with_reducible assumption) | (rw [froz_new (by first | rfl | simp)]) | (simp; done)); have f4_1 : w4.frozen? ⟨w.heap.size + 1 + 1, 1, none⟩ = false := (by rw [hf4 _ _ (by first | omega | (simp; omega) | simp)]; (repeat (first | rw [froz_drew] | rw [froz_set] | rw [froz_alloc_lt (by first | assumption | omega | (simp; done) | (simp; omega))])); first | (with_reducible assumption) | (rw [froz_new (by first | rfl | simp)]) | (simp; done))
    have HB4 := Lib.hid HB4
    clear hc4 hf4 hb4 hz4 c0 c1 c2 c3 c4 c5 r0 r1 kog kof
    go_wp2_with fail
    refine (HDM.out _ (HL.out.on HB4.out).tb).mono ?_
    rintro e w5 ⟨rfl, hb5⟩
    have KOF := Lib.hid (KOF.out.below hb5)
    obtain ⟨hc5, hf5⟩ := bcell hb5; have hz5 := hb5.size; (try simp at hz5); have HB5 : Below w.heap.size w w5 := (by refine Below.trans ?_ (hb5.mono (by first | omega | (simp; omega) | simp)); repeat (first | exact HB4.out | refine Below.alloc ?_ (by first | omega | (simp; omega) | simp) _ | refine Below.drew ?_)); have u5 : w.heap.size + 1 + 1 < w5.heap.size := (by omega); have m5_0 : w5.cell? ⟨w.heap.size, 0, none⟩ = some (.int .i64 s) := (by rw [hc5 _ _ (by first | omega | (simp; omega) | simp)]; (repeat (first | rw [cell_drew] | rw [cell_alloc_lt (by first | assumption | omega | (simp; done) | (simp; omega))] | rw [cell_set_ne (by omega)])); first | (with_reducible assumption) | (rw [cell_new (by first | rfl | simp)]; rfl) | (simp; done)); have m5_1 : w5.cell? ⟨w.heap.size, 1, none⟩ = some (.string (Sn m)) := (by rw [hc5 _ _ (by first | omega | (simp; omega) | simp)]; (repeat (first | rw [cell_drew] | rw [cell_alloc_lt (by first | assumption | omega | (simp; done) | (simp; omega))] | rw [cell_set_ne (by omega)])); first | (with_reducible assumption) | (rw [cell_new (by first | rfl | simp)]; rfl) | (simp; done)); have m5_2 : w5.cell? ⟨w.heap.size + 1, 0, none⟩ = some (.int .i64 t) := (by rw [hc5 _ _ (by first | omega | (simp; omega) | simp)]; (repeat (first | rw [cell_drew] | rw [cell_alloc_lt (by first | assumption | omega | (simp; done) | (simp; omega))] | rw [cell_set_ne (by omega)])); first | (with_reducible assumption) | (rw [cell_new (by first | rfl | simp)]; rfl) | (simp; done)); have m5_3 : w5.cell? ⟨w.heap.size + 1, 1, none⟩ = some (.string (Sn n)) := (by rw [hc5 _ _ (by first | omega | (simp; omega) | simp)]; (repeat (first | rw [cell_drew] | rw [cell_alloc_lt (by first | assumption | omega | (simp; done) | (simp; omega))] | rw [cell_set_ne (by omega)])); first | (with_reducible assumption) | (rw [cell_new (by first | rfl | simp)]; rfl) | (simp; done)); have m5_4 : w5.cell? ⟨w.heap.size + 1 + 1, 0, none⟩ = some (.int .i64 0) := (by rw [hc5 _ _ (by first | omega | (simp; omega) | simp)]; (repeat (first | rw [cell_drew] | rw [cell_alloc_lt (by first | assumption | omega | (simp; done) | (simp; omega))] | rw [cell_set_ne (by omega)])); first | (with_reducible assumption) | (rw [cell_new (by first | rfl | simp)]; rfl) | (simp; done)); have m5_5 : w5.cell? ⟨w.heap.size + 1 + 1, 1, none⟩ = some (.string ⟨#[]⟩) := (by rw [hc5 _ _ (by first | omega | (simp; omega) | simp)]; (repeat (first | rw [cell_drew] | rw [cell_alloc_lt (by first | assumption | omega | (simp; done) | (simp; omega))] | rw [cell_set_ne (by omega)])); first | (with_reducible assumption) | (rw [cell_new (by first | rfl | simp)]; rfl) | (simp; done)); have f5_0 : w5.frozen? ⟨w.heap.size + 1 + 1, 0, none⟩ = false := (by rw [hf5 _ _ (by first | omega | (simp; omega) | simp)]; (repeat (first | rw [froz_drew] | rw [froz_set] | rw [froz_alloc_lt (by first | assumption | omega | (simp; done) | (simp; omega))])); first | (with_reducible assumption) | (rw [froz_new (by first | rfl | simp)]) | (simp; done)); have f5_1 : w5.frozen? ⟨w.heap.size + 1 + 1, 1, none⟩ = false := (by rw [hf5 _ _ (by first | omega | (simp; omega) | simp)]; (repeat (first | rw [froz_drew] | rw [froz_set] | rw [froz_alloc_lt (by first | assumption | omega | (simp; done) | (simp; omega))])); first | (with_reducible assumption) | (rw [froz_new (by first | rfl | simp)]) | (simp; done))
    have HB5 := Lib.hid HB5
    clear hc5 hf5 hb5 hz5 m4_0 m4_1 m4_2 m4_3 m4_4 m4_5 f4_0 f4_1
    go_upto_region 4 with fail
    go_cut [13] (fun v13 wx => ∃ g13 : Nat, v13 = .pointer (some ⟨g13, 0, none⟩) ∧ wx.cell? ⟨g13, 0, none⟩ = some (.int .i64 z.sign) ∧ wx.cell? ⟨g13, 1, none⟩ = some (.string (Sn z.natAbs)) ∧ wx.cell? ⟨w.heap.size + 1 + 1, 0, none⟩ = some (.int .i64 0) ∧ wx.cell? ⟨w.heap.size + 1 + 1, 1, none⟩ = some (.string ⟨#[]⟩) ∧ wx.frozen? ⟨g13, 0, none⟩ = false ∧ wx.frozen? ⟨g13, 1, none⟩ = false ∧ wx.frozen? ⟨w.heap.size + 1 + 1, 0, none⟩ = false ∧ wx.frozen? ⟨w.heap.size + 1 + 1, 1, none⟩ = false ∧ w.heap.size + 1 + 1 < g13 ∧ g13 < wx.heap.size ∧ Hid (Below w.heap.size w wx))
    case first =>
      go_region_held3 (fun w' => w'.cell? ⟨w.heap.size, 0, none⟩ = some (.int .i64 s) ∧ w'.cell? ⟨w.heap.size, 1, none⟩ = some (.string (Sn m))) (first | ((try go_split_ands); refine ⟨?_, ?_⟩ <;> (first | (with_reducible assumption) | ((repeat (first | rw [cell_drew] | rw [cell_alloc_lt (by first | assumption | omega | (simp; done) | (simp; omega))] | rw [cell_set_ne (by omega)])); first | (with_reducible assumption) | (rw [cell_new (by first | rfl | simp)]; rfl) | (simp; done)))) | (go_keep; done))
        (first
          | (go_at_call 59; (refine (HWF.out _ _ (KOF.out.rd.below ?br) (HL.out.on ?bb).tb).mono ?_); (case br => repeat (first | exact Below.refl _ _ | refine Below.alloc ?_ (by first | omega | (simp; omega) | simp) _ | refine Below.drew ?_)); (case bb => repeat (first | exact HB5.out | refine Below.alloc ?_ (by first | omega | (simp; omega) | simp | (have := (HB5.out).size; simp; omega)) _ | refine Below.drew ?_)); rintro e w6 ⟨rfl, hb6⟩; obtain ⟨hc6, hf6⟩ := bcell hb6; have hz6 := hb6.size; (try simp at hz6); have HB6 : Below w.heap.size w w6 := (by refine Below.trans ?_ (hb6.mono (by first | omega | (simp; omega) | simp)); repeat (first | exact HB5.out | refine Below.alloc ?_ (by first | omega | (simp; omega) | simp) _ | refine Below.drew ?_)); have u6 : w.heap.size + 1 + 1 < w6.heap.size := (by omega); (try have y1 : ¬ w5.heap.size = w6.heap.size := (by omega)); (try have y2 : w5.heap.size < w6.heap.size := (by omega)); have m6_0 : w6.cell? ⟨w.heap.size, 0, none⟩ = some (.int .i64 s) := (by rw [hc6 _ _ (by first | omega | (simp; omega) | simp)]; (repeat (first | rw [cell_drew] | rw [cell_alloc_lt (by first | assumption | omega | (simp; done) | (simp; omega))] | rw [cell_set_ne (by omega)])); first | (with_reducible assumption) | (rw [cell_new (by first | rfl | simp)]; rfl) | (simp; done)); have m6_1 : w6.cell? ⟨w.heap.size, 1, none⟩ = some (.string (Sn m)) := (by rw [hc6 _ _ (by first | omega | (simp; omega) | simp)]; (repeat (first | rw [cell_drew] | rw [cell_alloc_lt (by first | assumption | omega | (simp; done) | (simp; omega))] | rw [cell_set_ne (by omega)])); first | (with_reducible assumption) | (rw [cell_new (by first | rfl | simp)]; rfl) | (simp; done)); have m6_2 : w6.cell? ⟨w.heap.size + 1 + 1, 0, none⟩ = some (.int .i64 0) := (by rw [hc6 _ _ (by first | omega | (simp; omega) | simp)]; (repeat (first | rw [cell_drew] | rw [cell_alloc_lt (by first | assumption | omega | (simp; done) | (simp; omega))] | rw [cell_set_ne (by omega)])); first | (with_reducible assumption) | (rw [cell_new (by first | rfl | simp)]; rfl) | (simp; done)); have m6_3 : w6.cell? ⟨w.heap.size + 1 + 1, 1, none⟩ = some (.string ⟨#[]⟩) := (by rw [hc6 _ _ (by first | omega | (simp; omega) | simp)]; (repeat (first | rw [cell_drew] | rw [cell_alloc_lt (by first | assumption | omega | (simp; done) | (simp; omega))] | rw [cell_set_ne (by omega)])); first | (with_reducible assumption) | (rw [cell_new (by first | rfl | simp)]; rfl) | (simp; done)); have f6_0 : w6.frozen? ⟨w.heap.size + 1 + 1, 0, none⟩ = false := (by rw [hf6 _ _ (by first | omega | (simp; omega) | simp)]; (repeat (first | rw [froz_drew] | rw [froz_set] | rw [froz_alloc_lt (by first | assumption | omega | (simp; done) | (simp; omega))])); first | (with_reducible assumption) | (rw [froz_new (by first | rfl | simp)]) | (simp; done)); have f6_1 : w6.frozen? ⟨w.heap.size + 1 + 1, 1, none⟩ = false := (by rw [hf6 _ _ (by first | omega | (simp; omega) | simp)]; (repeat (first | rw [froz_drew] | rw [froz_set] | rw [froz_alloc_lt (by first | assumption | omega | (simp; done) | (simp; omega))])); first | (with_reducible assumption) | (rw [froz_new (by first | rfl | simp)]) | (simp; done)))
          | (go_at_call 133; (refine (HSG.out _ (HL.out.on ?bc).zz).mono ?_); (case bc => repeat (first | exact HB6 | refine Below.alloc ?_ (by first | omega | (simp; omega) | simp | (have := (HB6).size; simp; omega)) _ | refine Below.drew ?_)); rintro e w7 ⟨rfl, hb7⟩; obtain ⟨hc7, hf7⟩ := bcell hb7; have hz7 := hb7.size; (try simp at hz7); have HB7 : Below w.heap.size w w7 := (by refine Below.trans ?_ (hb7.mono (by first | omega | (simp; omega) | simp)); repeat (first | exact HB6 | refine Below.alloc ?_ (by first | omega | (simp; omega) | simp) _ | refine Below.drew ?_)); have u7 : w.heap.size + 1 + 1 < w7.heap.size := (by omega); (try have y3 : ¬ w5.heap.size = w7.heap.size := (by omega)); (try have y4 : w5.heap.size < w7.heap.size := (by omega)); (try have y5 : ¬ w6.heap.size = w7.heap.size := (by omega)); (try have y6 : w6.heap.size < w7.heap.size := (by omega)); have m7_0 : w7.cell? ⟨w.heap.size, 0, none⟩ = some (.int .i64 s) := (by rw [hc7 _ _ (by first | omega | (simp; omega) | simp)]; (repeat (first | rw [cell_drew] | rw [cell_alloc_lt (by first | assumption | omega | (simp; done) | (simp; omega))] | rw [cell_set_ne (by omega)])); first | (with_reducible assumption) | (rw [cell_new (by first | rfl | simp)]; rfl) | (simp; done)); have m7_1 : w7.cell? ⟨w.heap.size, 1, none⟩ = some (.string (Sn m)) := (by rw [hc7 _ _ (by first | omega | (simp; omega) | simp)]; (repeat (first | rw [cell_drew] | rw [cell_alloc_lt (by first | assumption | omega | (simp; done) | (simp; omega))] | rw [cell_set_ne (by omega)])); first | (with_reducible assumption) | (rw [cell_new (by first | rfl | simp)]; rfl) | (simp; done)); have m7_2 : w7.cell? ⟨w.heap.size + 1 + 1, 0, none⟩ = some (.int .i64 0) := (by rw [hc7 _ _ (by first | omega | (simp; omega) | simp)]; (repeat (first | rw [cell_drew] | rw [cell_alloc_lt (by first | assumption | omega | (simp; done) | (simp; omega))] | rw [cell_set_ne (by omega)])); first | (with_reducible assumption) | (rw [cell_new (by first | rfl | simp)]; rfl) | (simp; done)); have m7_3 : w7.cell? ⟨w.heap.size + 1 + 1, 1, none⟩ = some (.string ⟨#[]⟩) := (by rw [hc7 _ _ (by first | omega | (simp; omega) | simp)]; (repeat (first | rw [cell_drew] | rw [cell_alloc_lt (by first | assumption | omega | (simp; done) | (simp; omega))] | rw [cell_set_ne (by omega)])); first | (with_reducible assumption) | (rw [cell_new (by first | rfl | simp)]; rfl) | (simp; done)); have f7_0 : w7.frozen? ⟨w.heap.size + 1 + 1, 0, none⟩ = false := (by rw [hf7 _ _ (by first | omega | (simp; omega) | simp)]; (repeat (first | rw [froz_drew] | rw [froz_set] | rw [froz_alloc_lt (by first | assumption | omega | (simp; done) | (simp; omega))])); first | (with_reducible assumption) | (rw [froz_new (by first | rfl | simp)]) | (simp; done)); have f7_1 : w7.frozen? ⟨w.heap.size + 1 + 1, 1, none⟩ = false := (by rw [hf7 _ _ (by first | omega | (simp; omega) | simp)]; (repeat (first | rw [froz_drew] | rw [froz_set] | rw [froz_alloc_lt (by first | assumption | omega | (simp; done) | (simp; omega))])); first | (with_reducible assumption) | (rw [froz_new (by first | rfl | simp)]) | (simp; done))))
      all_goals
        go_wp2_with fail
        go_meet
        refine ⟨_, rfl, ?_, ?_, ?_, ?_, ?_, ?_, ?_, ?_, ?_, ?_, (by repeat (first | exact HB7 | refine Below.setCell ?_ (by first | omega | (simp; omega) | simp) _ | refine Below.alloc ?_ (by first | omega | (simp; omega) | simp | (have := (HB7).size; simp; omega)) _ | refine Below.drew ?_))⟩
        all_goals (first | omega | (simp; done) | (simp; omega) | ((repeat (first | rw [cell_drew] | rw [froz_drew] | rw [cell_alloc_lt (by first | assumption | omega | (simp; done) | (simp; omega))] | rw [froz_alloc_lt (by first | assumption | omega | (simp; done) | (simp; omega))] | rw [cell_set_ne (by omega)] | rw [froz_set] | rw [cell_set_off (by decide)] | rw [hc7 _ _ (by first | assumption | omega | (simp; done) | (simp; omega))] | rw [hf7 _ _ (by first | assumption | omega | (simp; done) | (simp; omega))] | rw [hc6 _ _ (by first | assumption | omega | (simp; done) | (simp; omega))] | rw [hf6 _ _ (by first | assumption | omega | (simp; done) | (simp; omega))])); first | (with_reducible assumption) | (rw [cell_new (by first | rfl | simp)]; rfl) | (rw [froz_new (by first | rfl | simp)]) | (simp; done) | (refine cell_set_same (u := .int .i64 0) ?_; (repeat (first | rw [cell_drew] | rw [froz_drew] | rw [cell_alloc_lt (by first | assumption | omega | (simp; done) | (simp; omega))] | rw [froz_alloc_lt (by first | assumption | omega | (simp; done) | (simp; omega))] | rw [cell_set_ne (by omega)] | rw [froz_set] | rw [cell_set_off (by decide)] | rw [hc7 _ _ (by first | assumption | omega | (simp; done) | (simp; omega))] | rw [hf7 _ _ (by first | assumption | omega | (simp; done) | (simp; omega))] | rw [hc6 _ _ (by first | assumption | omega | (simp; done) | (simp; omega))] | rw [hf6 _ _ (by first | assumption | omega | (simp; done) | (simp; omega))])); first | (with_reducible assumption) | (rw [cell_new (by first | rfl | simp)]; rfl) | (simp; done)) | (refine cell_set_same (u := .string ⟨#[]⟩) ?_; (repeat (first | rw [cell_drew] | rw [froz_drew] | rw [cell_alloc_lt (by first | assumption | omega | (simp; done) | (simp; omega))] | rw [froz_alloc_lt (by first | assumption | omega | (simp; done) | (simp; omega))] | rw [cell_set_ne (by omega)] | rw [froz_set] | rw [cell_set_off (by decide)] | rw [hc7 _ _ (by first | assumption | omega | (simp; done) | (simp; omega))] | rw [hf7 _ _ (by first | assumption | omega | (simp; done) | (simp; omega))] | rw [hc6 _ _ (by first | assumption | omega | (simp; done) | (simp; omega))] | rw [hf6 _ _ (by first | assumption | omega | (simp; done) | (simp; omega))])); first | (with_reducible assumption) | (rw [cell_new (by first | rfl | simp)]; rfl) | (simp; done))))
    case rest =>
      obtain ⟨g13, rfl, c0, c1, c2, c3, r0, r1, r2, r3, kg, kl, kb⟩ := hcut
      have HR5 := Lib.hid True.intro
      cases neg
      · rw [if_neg (by decide)] at hz2
        obtain rfl : z = z2 := hz2.symm
        go_wp2_with fail
        refine (HDV.out _ (HL.out.on kb.out)).mono ?_
        rintro e w9 ⟨rfl, hb9⟩
        have HB9 := Lib.hid (kb.out.trans (hb9.mono kb.out.size))
        obtain ⟨hc9, hf9⟩ := bcell hb9
        have kb1 := kb.out.size
        have d0 : w9.cell? ⟨g13, 0, none⟩ = some (.int .i64 z.sign) := by rw [hc9 _ _ (by first | omega | (simp; omega) | simp)]; with_reducible assumption
        have df0 : w9.frozen? ⟨g13, 0, none⟩ = false := by rw [hf9 _ _ (by first | omega | (simp; omega) | simp)]; with_reducible assumption
        have d1 : w9.cell? ⟨g13, 1, none⟩ = some (.string (Sn z.natAbs)) := by rw [hc9 _ _ (by first | omega | (simp; omega) | simp)]; with_reducible assumption
        have df1 : w9.frozen? ⟨g13, 1, none⟩ = false := by rw [hf9 _ _ (by first | omega | (simp; omega) | simp)]; with_reducible assumption
        have d2 : w9.cell? ⟨w.heap.size + 1 + 1, 0, none⟩ = some (.int .i64 0) := by rw [hc9 _ _ (by first | omega | (simp; omega) | simp)]; with_reducible assumption
        have df2 : w9.frozen? ⟨w.heap.size + 1 + 1, 0, none⟩ = false := by rw [hf9 _ _ (by first | omega | (simp; omega) | simp)]; with_reducible assumption
        have d3 : w9.cell? ⟨w.heap.size + 1 + 1, 1, none⟩ = some (.string ⟨#[]⟩) := by rw [hc9 _ _ (by first | omega | (simp; omega) | simp)]; with_reducible assumption
        have df3 : w9.frozen? ⟨w.heap.size + 1 + 1, 1, none⟩ = false := by rw [hf9 _ _ (by first | omega | (simp; omega) | simp)]; with_reducible assumption
        go_wp2
        have k0 := (show ((w9.setCell ⟨g13, 0, none⟩ (.int .i64 z3.sign)).setCell ⟨g13, 1, none⟩ (.string (Sn z3.natAbs))).cell? ⟨g13, 0, none⟩ = some (.int .i64 z3.sign) by rw [cell_set_off (by decide)]; exact cell_set_same d0)
        have k1 := (show ((w9.setCell ⟨g13, 0, none⟩ (.int .i64 z3.sign)).setCell ⟨g13, 1, none⟩ (.string (Sn z3.natAbs))).cell? ⟨g13, 1, none⟩ = some (.string (Sn z3.natAbs)) from cell_set_same (by rw [cell_set_off (by decide)]; exact d1))
        have k2 := (show ((w9.setCell ⟨g13, 0, none⟩ (.int .i64 z3.sign)).setCell ⟨g13, 1, none⟩ (.string (Sn z3.natAbs))).cell? ⟨w.heap.size + 1 + 1, 0, none⟩ = some (.int .i64 0) by rw [cell_set_ne (by omega), cell_set_ne (by omega)]; exact d2)
        have k3 := (show ((w9.setCell ⟨g13, 0, none⟩ (.int .i64 z3.sign)).setCell ⟨g13, 1, none⟩ (.string (Sn z3.natAbs))).cell? ⟨w.heap.size + 1 + 1, 1, none⟩ = some (.string ⟨#[]⟩) by rw [cell_set_ne (by omega), cell_set_ne (by omega)]; exact d3)
        have k2f := (show ((w9.setCell ⟨g13, 0, none⟩ (.int .i64 z3.sign)).setCell ⟨g13, 1, none⟩ (.string (Sn z3.natAbs))).frozen? ⟨w.heap.size + 1 + 1, 0, none⟩ = false by rw [froz_set, froz_set]; exact df2)
        have k3f := (show ((w9.setCell ⟨g13, 0, none⟩ (.int .i64 z3.sign)).setCell ⟨g13, 1, none⟩ (.string (Sn z3.natAbs))).frozen? ⟨w.heap.size + 1 + 1, 1, none⟩ = false by rw [froz_set, froz_set]; exact df3)
        have KW := Lib.hid (show Below w.heap.size w ((w9.setCell ⟨g13, 0, none⟩ (.int .i64 z3.sign)).setCell ⟨g13, 1, none⟩ (.string (Sn z3.natAbs))) from (HB9.out.setCell (p := ⟨g13, 0, none⟩) (by show w.heap.size ≤ g13; omega) _).setCell (p := ⟨g13, 1, none⟩) (by show w.heap.size ≤ g13; omega) _)
        generalize ((w9.setCell ⟨g13, 0, none⟩ (.int .i64 z3.sign)).setCell ⟨g13, 1, none⟩ (.string (Sn z3.natAbs))) = W at *
        obtain ⟨g5, hg5⟩ : ∃ g5, g5 = w.heap.size + 1 + 1 := ⟨_, rfl⟩
        rw [← hg5] at k2 k3 k2f k3f
        rw [← hg5]
        have hle := Lib.hid (show w.heap.size ≤ g5 by omega)
        have dn : g13 ≠ g5 := by omega
        clear hg5 hc9 hf9 d0 d1 d2 d3 df0 df1 df2 df3 c0 c1 c2 c3 r0 r1 r2 r3 kg kl kb1 HB9 
        clear HR1 HR2 HCO HPK HS HH0 FH HWG HDM HL HWF HSG HNG HDV
        go_region
        all_goals
          go_wp2
          refine bodyPost_ret (v := .tuple #[.string (Sn g), .agg #[.int .i64 z3.sign, .string (Sn z3.natAbs)]]) (by simp [results, Tryz.results103, go_sem, k2, k3]) rfl ⟨rfl, ?_⟩
          repeat (first | exact KW.out | refine Below.setCell ?_ hle.out _ | refine Below.drew ?_)
      · rw [if_pos rfl] at hz2
        rw [← hz2] at HNG
        clear hz2
        go_wp2_with fail
        refine (HNG.out _).mono ?_
        rintro e w8 ⟨rfl, hb8⟩
        have HB8 := Lib.hid (kb.out.trans (hb8.mono kb.out.size))
        obtain ⟨hc8, hf8⟩ := bcell hb8
        have kb1 := kb.out.size
        have kz8 := hb8.size
        have e0 : w8.cell? ⟨g13, 0, none⟩ = some (.int .i64 z.sign) := by rw [hc8 _ _ (by first | omega | (simp; omega) | simp)]; with_reducible assumption
        have ef0 : w8.frozen? ⟨g13, 0, none⟩ = false := by rw [hf8 _ _ (by first | omega | (simp; omega) | simp)]; with_reducible assumption
        have e1 : w8.cell? ⟨g13, 1, none⟩ = some (.string (Sn z.natAbs)) := by rw [hc8 _ _ (by first | omega | (simp; omega) | simp)]; with_reducible assumption
        have ef1 : w8.frozen? ⟨g13, 1, none⟩ = false := by rw [hf8 _ _ (by first | omega | (simp; omega) | simp)]; with_reducible assumption
        have e2 : w8.cell? ⟨w.heap.size + 1 + 1, 0, none⟩ = some (.int .i64 0) := by rw [hc8 _ _ (by first | omega | (simp; omega) | simp)]; with_reducible assumption
        have ef2 : w8.frozen? ⟨w.heap.size + 1 + 1, 0, none⟩ = false := by rw [hf8 _ _ (by first | omega | (simp; omega) | simp)]; with_reducible assumption
        have e3 : w8.cell? ⟨w.heap.size + 1 + 1, 1, none⟩ = some (.string ⟨#[]⟩) := by rw [hc8 _ _ (by first | omega | (simp; omega) | simp)]; with_reducible assumption
        have ef3 : w8.frozen? ⟨w.heap.size + 1 + 1, 1, none⟩ = false := by rw [hf8 _ _ (by first | omega | (simp; omega) | simp)]; with_reducible assumption
        have el : g13 < w8.heap.size := by omega
        go_wp2_with fail
        refine (HDV.out _ (HL.out.on ?bd)).mono ?_
        case bd => repeat (first | exact HB8.out | refine Below.setCell ?_ (by first | omega | (simp; omega) | simp) _ | refine Below.drew ?_)
        rintro e w9 ⟨rfl, hb9⟩
        have HB9 : Hid (Below w.heap.size w w9) := Lib.hid (by
          refine Below.trans ?_ (hb9.mono ?_)
          · repeat (first | exact HB8.out | refine Below.setCell ?_ (by first | omega | (simp; omega) | simp) _ | refine Below.drew ?_)
          · first | omega | (simp; omega))
        obtain ⟨hc9, hf9⟩ := bcell hb9
        have d0 : w9.cell? ⟨g13, 0, none⟩ = some (.int .i64 z2.sign) := by rw [hc9 _ _ (by first | omega | (simp; omega) | simp)]; (repeat (first | rw [cell_set_ne (by omega)] | rw [cell_set_off (by decide)])); refine cell_set_same (u := .int .i64 z.sign) ?_; (repeat (first | rw [cell_set_ne (by omega)] | rw [cell_set_off (by decide)])); with_reducible assumption
        have df0 : w9.frozen? ⟨g13, 0, none⟩ = false := by rw [hf9 _ _ (by first | omega | (simp; omega) | simp)]; (repeat rw [froz_set]); with_reducible assumption
        have d1 : w9.cell? ⟨g13, 1, none⟩ = some (.string (Sn z2.natAbs)) := by rw [hc9 _ _ (by first | omega | (simp; omega) | simp)]; (repeat (first | rw [cell_set_ne (by omega)] | rw [cell_set_off (by decide)])); refine cell_set_same (u := .string (Sn z.natAbs)) ?_; (repeat (first | rw [cell_set_ne (by omega)] | rw [cell_set_off (by decide)])); with_reducible assumption
        have df1 : w9.frozen? ⟨g13, 1, none⟩ = false := by rw [hf9 _ _ (by first | omega | (simp; omega) | simp)]; (repeat rw [froz_set]); with_reducible assumption
        have d2 : w9.cell? ⟨w.heap.size + 1 + 1, 0, none⟩ = some (.int .i64 0) := by rw [hc9 _ _ (by first | omega | (simp; omega) | simp)]; (repeat (first | rw [cell_set_ne (by omega)] | rw [cell_set_off (by decide)])); with_reducible assumption
        have df2 : w9.frozen? ⟨w.heap.size + 1 + 1, 0, none⟩ = false := by rw [hf9 _ _ (by first | omega | (simp; omega) | simp)]; (repeat rw [froz_set]); with_reducible assumption
        have d3 : w9.cell? ⟨w.heap.size + 1 + 1, 1, none⟩ = some (.string ⟨#[]⟩) := by rw [hc9 _ _ (by first | omega | (simp; omega) | simp)]; (repeat (first | rw [cell_set_ne (by omega)] | rw [cell_set_off (by decide)])); with_reducible assumption
        have df3 : w9.frozen? ⟨w.heap.size + 1 + 1, 1, none⟩ = false := by rw [hf9 _ _ (by first | omega | (simp; omega) | simp)]; (repeat rw [froz_set]); with_reducible assumption
        go_wp2
        have k0 := (show ((w9.setCell ⟨g13, 0, none⟩ (.int .i64 z3.sign)).setCell ⟨g13, 1, none⟩ (.string (Sn z3.natAbs))).cell? ⟨g13, 0, none⟩ = some (.int .i64 z3.sign) by rw [cell_set_off (by decide)]; exact cell_set_same d0)
        have k1 := (show ((w9.setCell ⟨g13, 0, none⟩ (.int .i64 z3.sign)).setCell ⟨g13, 1, none⟩ (.string (Sn z3.natAbs))).cell? ⟨g13, 1, none⟩ = some (.string (Sn z3.natAbs)) from cell_set_same (by rw [cell_set_off (by decide)]; exact d1))
        have k2 := (show ((w9.setCell ⟨g13, 0, none⟩ (.int .i64 z3.sign)).setCell ⟨g13, 1, none⟩ (.string (Sn z3.natAbs))).cell? ⟨w.heap.size + 1 + 1, 0, none⟩ = some (.int .i64 0) by rw [cell_set_ne (by omega), cell_set_ne (by omega)]; exact d2)
        have k3 := (show ((w9.setCell ⟨g13, 0, none⟩ (.int .i64 z3.sign)).setCell ⟨g13, 1, none⟩ (.string (Sn z3.natAbs))).cell? ⟨w.heap.size + 1 + 1, 1, none⟩ = some (.string ⟨#[]⟩) by rw [cell_set_ne (by omega), cell_set_ne (by omega)]; exact d3)
        have k2f := (show ((w9.setCell ⟨g13, 0, none⟩ (.int .i64 z3.sign)).setCell ⟨g13, 1, none⟩ (.string (Sn z3.natAbs))).frozen? ⟨w.heap.size + 1 + 1, 0, none⟩ = false by rw [froz_set, froz_set]; exact df2)
        have k3f := (show ((w9.setCell ⟨g13, 0, none⟩ (.int .i64 z3.sign)).setCell ⟨g13, 1, none⟩ (.string (Sn z3.natAbs))).frozen? ⟨w.heap.size + 1 + 1, 1, none⟩ = false by rw [froz_set, froz_set]; exact df3)
        have KW := Lib.hid (show Below w.heap.size w ((w9.setCell ⟨g13, 0, none⟩ (.int .i64 z3.sign)).setCell ⟨g13, 1, none⟩ (.string (Sn z3.natAbs))) from (HB9.out.setCell (p := ⟨g13, 0, none⟩) (by show w.heap.size ≤ g13; omega) _).setCell (p := ⟨g13, 1, none⟩) (by show w.heap.size ≤ g13; omega) _)
        generalize ((w9.setCell ⟨g13, 0, none⟩ (.int .i64 z3.sign)).setCell ⟨g13, 1, none⟩ (.string (Sn z3.natAbs))) = W at *
        obtain ⟨g5, hg5⟩ : ∃ g5, g5 = w.heap.size + 1 + 1 := ⟨_, rfl⟩
        rw [← hg5] at k2 k3 k2f k3f
        rw [← hg5]
        have hle := Lib.hid (show w.heap.size ≤ g5 by omega)
        have dn : g13 ≠ g5 := by omega
        clear hg5 hc9 hf9 d0 d1 d2 d3 df0 df1 df2 df3 c0 c1 c2 c3 r0 r1 r2 r3 kg kl kb1 HB9 hc8 hf8 kz8 e0 e1 e2 e3 ef0 ef1 ef2 ef3 el HB8
        clear HR1 HR2 HCO HPK HS HH0 FH HWG HDM HL HWF HSG HNG HDV
        go_region
        all_goals
          go_wp2
          refine bodyPost_ret (v := .tuple #[.string (Sn g), .agg #[.int .i64 z3.sign, .string (Sn z3.natAbs)]]) (by simp [results, Tryz.results103, go_sem, k2, k3]) rfl ⟨rfl, ?_⟩
          repeat (first | exact KW.out | refine Below.setCell ?_ hle.out _ | refine Below.drew ?_)

end Go.Proofs.YtpdchplppkfdhaaGreatDoor
/- integer.combine and integer.Bezout of any two integers: walks. -/
namespace Go.Proofs.YtpdchplppkfdhaaGreatDoor
open Go.RowKit Go.Gb

theorem fit_of_digs {f k : Nat} (hk : k ≤ 200) (h : (digs f).length ≤ k) : Fit (f + 1) := by
  have h1 := lt_pow_digs f
  have h2 : BB ^ (digs f).length ≤ BB ^ k := Nat.pow_le_pow_right BB_pos h
  have h3 : BB ^ k = 10 ^ (9 * k) := by rw [BB_eq, show 1000000000 = 10 ^ 9 from rfl, ← Nat.pow_mul]
  have h4 : 10 ^ (9 * k) < 10 ^ (9 * k + 1) := Nat.pow_lt_pow_right (by decide) (by omega)
  have h5 : Sm (9 * k + 1) (f + 1) := by unfold Sm; omega
  unfold Fit
  exact h5.mono (by omega)
theorem Fit.pred {f : Nat} (h : Fit (f + 1)) : Fit f := Fit.le h (by omega)

theorem nGCDV (x y g : Nat) (hg : Nat.gcd x y = g) (hx : Fit x) (hy : Fit y) (w : World) (htab : Tb w) :
    Calls Tryz.prog 23 #[.string (Sn x), .string (Sn y)] w fun e w' => e = .returned (.tuple #[.string (Sn g), .int .i64 0]) ∧ Below w.heap.size w w' := by
  have sx := hx.size
  have sy := hy.size
  have h := GCD_yes (Sn x) (Sn y) (sn_vld x) (sn_vld y) (by omega) (by omega) (by
    rw [sn_dval, sn_dval]
    exact Common_any x y (Nat.le_trans (sm_digs hx (by decide)) (by decide)) (Nat.le_trans (sm_digs hy (by decide)) (by decide))) w htab
  rw [sn_dval, sn_dval, hg] at h
  exact h

def PkZ (f : Nat) (_ : Bool) : Prop := f = 0
def PkS (a g n : Nat) (f : Nat) (neg : Bool) : Prop := (∃ k : Int, (if neg then -(f : Int) else (f : Int)) * (a : Int) = (g : Int) + k * (n : Int)) ∧ (digs f).length ≤ (digs n).length + 1

theorem combine_zero (z2 : Int) (hz2 : z2 ≠ 0) (h2 : SmZ 120 z2) (w : World) (hl : La w) :
    Calls Tryz.prog 103 #[Zv 0, Zv z2] w fun e w' => e = .returned (.tuple #[.string (Sn z2.natAbs), Zv 0]) ∧ Below w.heap.size w w' := by
  have hn0 : z2.natAbs ≠ 0 := by omega
  have hfit : Fit z2.natAbs := h2.fit (by decide)
  have hd := sm_digs h2 (by decide)
  refine combine_gen 0 z2.sign 0 z2.natAbs z2.natAbs 1 0 PkZ ?_ hn0 fit0 hfit hfit (Nat.div_self (by omega)) (by decide) (by omega) fit1 w hl ?_ ?_
  · rintro f neg hf W hW
    obtain rfl : f = 0 := hf
    rw [sn_zero]
    exact signed_zero 0 W hW
  · intro v1 v2 W r1 r2
    exact Combine_zero z2.natAbs hn0 (by omega) v1 v2 W r1 r2
  · rintro f neg hf
    obtain rfl : f = 0 := hf
    refine ⟨by rw [digs_zero]; decide, fun z hz => ?_⟩
    obtain rfl : z = 0 := by rw [hz]; cases neg <;> rfl
    exact ⟨rfl, fit0, fit1⟩

theorem combine_some (z1 z2 : Int) (hz1 : z1 ≠ 0) (hz2 : z2 ≠ 0) (h1 : SmZ 120 z1) (h2 : SmZ 120 z2) (g h : Nat) (x : Int) (hg : g = Nat.gcd z1.natAbs z2.natAbs) (hh : z2.natAbs / g = h) (g0 : g ≠ 0) (h0 : h ≠ 0)
    (hx : ∀ x' : Int, (∃ k : Int, z1 * x' = (g : Int) + k * (z2.natAbs : Int)) → x' % (h : Int) = x) (w : World) (hl : La w) :
    Calls Tryz.prog 103 #[Zv z1, Zv z2] w fun e w' => e = .returned (.tuple #[.string (Sn g), Zv x]) ∧ Below w.heap.size w w' := by
  have hn0 : z2.natAbs ≠ 0 := by omega
  have hfit : Fit z2.natAbs := h2.fit (by decide)
  have hgn : g ≤ z2.natAbs := by rw [hg]; exact Nat.gcd_le_right _ (by omega)
  have hd1 := sm_digs h1 (by decide)
  have hd2 := sm_digs h2 (by decide)
  have hdg := digs_length_mono hgn
  have hs : z1.sign = 1 ∨ z1.sign = -1 := by
    rcases Int.lt_trichotomy z1 0 with h | h | h
    · exact Or.inr (Int.sign_eq_neg_one_of_neg h)
    · exact absurd h hz1
    · exact Or.inl (Int.sign_eq_one_of_pos h)
  refine combine_gen z1.sign z2.sign z1.natAbs z2.natAbs g h x (PkS z1.natAbs g z2.natAbs) (fun f neg _ W hW => signed_any z1.sign f _ rfl hs W hW) g0 (h1.fit (by decide)) hfit (Fit.le hfit hgn) hh h0 (by omega)
    (Fit.le hfit (by rw [← hh]; exact Nat.div_le_self _ _)) w hl ?_ ?_
  · intro v1 v2 W r1 r2
    refine (Combine_any z1.natAbs z2.natAbs hn0 (by omega) (by omega) v1 v2 W r1 r2).mono ?_
    rintro e w' ⟨u, v, f, neg, he, ho1, ho2, hk, hlen, hB⟩
    rw [← hg] at ho1 hk
    exact ⟨u, v, f, neg, he, ho1, ho2, ⟨hk, hlen⟩, hB⟩
  · rintro f neg ⟨⟨k, hk⟩, hlen⟩
    refine ⟨by omega, fun z hz => ?_⟩
    have hff := fit_of_digs (k := 121) (by decide) (by omega : (digs f).length ≤ 121)
    have hza : z.natAbs = f := by
      rw [hz]
      rcases hs with e | e <;> rw [e] <;> cases neg <;> simp
    refine ⟨hx z ⟨k, ?_⟩, ?_, ?_⟩
    · rw [← hk, hz]
      have e : z1 = z1.sign * (z1.natAbs : Int) := (Int.sign_mul_natAbs z1).symm
      have e2 : z1.sign * z1.sign = 1 := by rcases hs with e | e <;> rw [e] <;> rfl
      have key : ∀ t : Int, z1 * (z1.sign * t) = t * (z1.natAbs : Int) := by
        intro t
        conv => lhs; lhs; rw [e]
        rw [show z1.sign * (z1.natAbs : Int) * (z1.sign * t) = z1.sign * z1.sign * (t * (z1.natAbs : Int)) by ac_rfl, e2, Int.one_mul]
      cases neg with
      | false => simp only [Bool.false_eq_true, if_false]; exact key _
      | true => simp only [if_true]; rw [show -(z1.sign * (f : Int)) = z1.sign * -(f : Int) by rw [Int.mul_neg]]; exact key _
    · unfold FitZ; rw [hza]; exact hff.pred
    · rw [hza]; exact hff

theorem combine_any (z1 z2 : Int) (hz2 : z2 ≠ 0) (h1 : SmZ 120 z1) (h2 : SmZ 120 z2) (g h : Nat) (x : Int) (hg : g = Nat.gcd z1.natAbs z2.natAbs) (hh : z2.natAbs / g = h) (g0 : g ≠ 0) (h0 : h ≠ 0)
    (hx : ∀ x' : Int, (∃ k : Int, z1 * x' = (g : Int) + k * (z2.natAbs : Int)) → x' % (h : Int) = x) (w : World) (hl : La w) :
    Calls Tryz.prog 103 #[Zv z1, Zv z2] w fun e w' => e = .returned (.tuple #[.string (Sn g), Zv x]) ∧ Below w.heap.size w w' := by
  by_cases hz1 : z1 = 0
  · subst hz1
    rw [Int.natAbs_zero, Nat.gcd_zero_left] at hg
    have := hx 0 ⟨-1, by rw [hg]; omega⟩
    rw [Int.zero_emod] at this
    rw [← this, hg]
    exact combine_zero z2 hz2 h2 w hl
  · exact combine_some z1 z2 hz1 hz2 h1 h2 g h x hg hh g0 h0 hx w hl

theorem zBezout (z1 z2 : Int) (hz2 : z2 ≠ 0) (h1 : SmZ 120 z1) (h2 : SmZ 120 z2) (g h : Nat) (x y : Int) (hg : g = Nat.gcd z1.natAbs z2.natAbs) (hh : z2.natAbs / g = h) (g0 : g ≠ 0) (h0 : h ≠ 0)
    (hx0 : 0 ≤ x) (hxh : x < (h : Int)) (hxy : z1 * x + z2 * y = (g : Int)) (hx : ∀ x' : Int, (∃ k : Int, z1 * x' = (g : Int) + k * (z2.natAbs : Int)) → x' % (h : Int) = x) (w : World) (hl : La w) :
    Calls Tryz.prog 51 #[.string (Sz z1), .string (Sz z2)] w fun e w' => e = .returned (.tuple #[.string (Sn g), .string (Sz x), .string (Sz y), .int .i64 0]) ∧ Below w.heap.size w w' := by
  have hgn : g ≤ z2.natAbs := by rw [hg]; exact Nat.gcd_le_right _ (by omega)
  have hhn : h ≤ z2.natAbs := by rw [← hh]; exact Nat.div_le_self _ _
  have sx : SmZ 120 x := Sm.le h2 (by omega)
  have sg : SmZ 120 (g : Int) := Sm.le h2 (by rw [Int.natAbs_natCast]; exact hgn)
  have sp := h1.mul sx
  have sr := SmZ.sub (k := 240) (show SmZ 240 (g : Int) from Sm.mono sg (by decide)) sp
  have er : (g : Int) - z1 * x = z2 * y := by omega
  have hym : y.natAbs ≤ (z2 * y).natAbs := by
    rw [Int.natAbs_mul]
    have : 1 * y.natAbs ≤ z2.natAbs * y.natAbs := Nat.mul_le_mul_right _ (by omega)
    omega
  have sy : SmZ 241 y := Sm.le (er ▸ sr) hym
  refine bezout_walk (Sz z1) (Sz z2) z1.sign z2.sign x.sign (z1 * x).sign ((g : Int) - z1 * x).sign y.sign 0 (Sn z1.natAbs) (Sn z2.natAbs) (Sn g) (Sn x.natAbs) (Sn (z1 * x).natAbs) (Sn ((g : Int) - z1 * x).natAbs) (Sn y.natAbs) ⟨#[48]⟩ (Sz x) (Sz y)
    (fun e => hz2 (Int.sign_eq_zero_iff_zero.1 e)) w hl.zz ?_ ?_ ?_ ?_ ?_ ?_ ?_
  · exact readBoth_yes z1 z2 (h1.fit (by decide)) (h2.fit (by decide)) w hl.zz
  · intro W hb
    exact combine_any z1 z2 hz2 h1 h2 g h x hg hh g0 h0 hx W (hl.on hb)
  · intro W hb
    exact multiply_any z1 x (h1.fit (by decide)) (sx.fit (by decide)) W (hl.on hb)
  · intro W hb
    have h := zsubtract (g : Int) (z1 * x) (sg.fit (by decide)) (sp.fit (by decide)) W (hl.on hb)
    rw [zv_pos g0] at h
    exact h
  · intro W hb
    have h := divide_e ((g : Int) - z1 * x) z2 y 0 hz2 (by rw [er]; exact Int.mul_ediv_cancel_left y hz2) (by rw [er]; exact Int.mul_emod_right z2 y) (sr.fit (by decide)) (h2.fit (by decide)) (SmZ.succ sr (by decide)) W (hl.on hb)
    rw [zv_zero] at h
    exact h
  · intro W
    exact string_any x (sx.fit (by decide)) W
  · intro W
    exact string_any y (sy.fit (by decide)) W

end Go.Proofs.YtpdchplppkfdhaaGreatDoor
