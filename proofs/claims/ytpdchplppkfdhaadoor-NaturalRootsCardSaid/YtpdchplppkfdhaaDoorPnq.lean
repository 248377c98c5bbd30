/- garboardlaw01.NaturalRoots: the card. -/
import Derived.Test.YtpdchplppkfdhaaDoorLnq
import Derived.Test.YtpdchplppkfdhaaDoorPb
namespace Go.Proofs.YtpdchplppkfdhaaDoor
open Go.ChangeShapes Go.WideShapes Go.ChangeAt Go.WideMaps Go.WideElems Go.RowKit Go.Gb
open Go.ChangeMaps (open_string shut_string)

set_option maxRecDepth 100000 in
theorem naturalRoots_post {H : Type} {enc : TypeId × Value → H} {f : Func} {s : ChangeSpec} {apart fresh handsOn again : Bool} {W W' : World} {a : ByteArray} {b : Int} {c : Int} {ds gs : List (DataW H)}
    (hp : f.params.toList = [9, 5, 5]) (hr : f.resultTypes = #[4])
    (hf : (s.fn H (ds ++ gs)).args = [.lit (.string a.data.toList), .lit (.int .u8 b), .lit (.int .u8 c)]) (hf2 : (s.fn H (ds ++ gs)).results = [.lit (.bool true)])
    (ha : a.size ≤ maxLen) (hb : (Lit.int .u8 b).wf = true) (hc : (Lit.int .u8 c).wf = true)
    (hv : ∀ sp : Nat → Bool, DataW.TrodVars enc Tryd.prog W' sp s.vars (s.fn H (ds ++ gs)).vars [])
    (hW : DataW.Whole enc Tryd.prog f.params.toList s.vars apart W #[Value.string a, Value.int .u8 b, Value.int .u8 c].toList ds gs []) (hB : Below W.heap.size W W') :
    s.post enc Tryd.prog f apart fresh handsOn again W #[.string a, .int .u8 b, .int .u8 c] (.bool true) W' := by
  refine post_plain hW (fun _ _ _ => ?_) (fun _ => ?_) hv (hB.frame _) ?_
  · rw [hr, hf2]
    exact trodAll_mk1 (shut_bool Tryd.underlying4 _)
  · rw [hp, hf]
    exact trodAll_cons_mk (shut_string Tryd.underlying9 ha) (trodAll_cons_mk (shut_int Tryd.underlying5 hb) (trodAll_mk1 (shut_int Tryd.underlying5 hc)))
  · exact ok_one hr rfl (okWide_bool_mk Tryd.underlying4 _)

set_option maxRecDepth 100000 in
theorem naturalRoots_lifted (os : Os) (started : os.Started) (H : Type) (enc : TypeId × Value → H) :
    ReturnsInHanded {} Tryd.checked os 7 .any (fun w args => (Rows.naturalRootsSpec.pre enc Tryd.prog Tryd.f7 [] false w args ∧ laidMetH Tryd.prog laidList w) ∧ sizedMet enc Tryd.prog Tryd.f7 (OpenSpec.ofChange Rows.naturalRootsSpec) false w args)
      (Rows.naturalRootsSpec.post enc Tryd.prog Tryd.f7 false true false false) := by
  refine returnsInHanded_of_change_and (C := Tryd.checked) (X := fun w _ => laidMetH Tryd.prog laidList w) (fun _ _ _ hh h => h.of_heap hh) own started (by kernel_rfl) Tryd.func7
    (ChangeSpec.witness_shaped (enc := enc) (C := Tryd.checked) (os := os) (X := fun w _ => laidMetH Tryd.prog laidList w) false (World.doorLaid Tryd.prog 4000 os) #[.string ⟨#[]⟩, .int .u8 0, .int .u8 0] 8 rfl (World.shaped_of_RefB (by kernel_rfl) (by kernel_rfl)) (by kernel_rfl) (by kernel_rfl) (by kernel_rfl) (door_met os _)) ?_
  intro W base args ds gs before hval0 hW _ _ hL _
  have hval : ∀ (j : Nat) t v, Tryd.f7.params[j]? = some t → args[j]? = some v → Value.okWide Tryd.prog W .any base t v := hval0
  have hW' := hW
  obtain ⟨p, q, hA0, hV, rfl, hfz, hnd⟩ := hW
  have hA : DataW.TrodAll enc Tryd.prog W 0 (fun _ => true) true Tryd.f7.params.toList args.toList ds p := hA0
  rw [Tryd.params7] at hA hval
  obtain ⟨v0, v1, v2, d0, d1, d2, p0, p1, p2, rfl, rfl, rfl, h0, h1, h2⟩ := trodAll_three hA
  obtain ⟨rfl, rfl⟩ := trodVars_none hV
  obtain ⟨a, rfl, rfl, rfl, ha⟩ := open_string Tryd.underlying9 (hval 0 9 v0 rfl rfl) h0
  obtain ⟨b, rfl, rfl, rfl, hb⟩ := open_int Tryd.underlying5 (hval 1 5 v1 rfl rfl) h1
  obtain ⟨c, rfl, rfl, rfl, hc⟩ := open_int Tryd.underlying5 (hval 2 5 v2 rfl rfl) h2
  clear hA0 hval0
  simp only [List.append_nil] at hW'
  refine (roots_any a b c hb hc W (tb_of_laid hL)).mono fun e W' ⟨he, hB⟩ => ?_
  subst he
  refine ⟨_, rfl, naturalRoots_post (by kernel_rfl) (by kernel_rfl) ?_ ?_ ha hb hc ?_ hW' hB⟩
  · exact rfl
  · exact rfl
  · exact fun _ => rfl

theorem naturalRoots_said : Rows.NaturalRootsSaid :=
  OpenClaim.holds_of_wide 7 Tryd.f7 rfl rfl rfl rfl rfl rfl rfl ⟨rfl, rfl, rfl, rfl, rfl⟩ rfl rfl rfl rfl rfl (by kernel_rfl) Tryd.func7 (by kernel_rfl)
    (of_decide_eq_true (by kernel_rfl)) (by unfold Func.isWrapper; first | (rw [if_pos (by decide +kernel)]; kernel_rfl) | (rw [if_neg (by decide +kernel)]; exact ⟨rfl, rfl⟩))
    (fun os started H enc _ => naturalRoots_lifted os started H enc)

theorem naturalRoots_plain (f : FuncId) (fn : Func) (hf : Tryd.pinned.checked.prog.funcNamed "garboard/garboardlaw01.NaturalRoots" = some f) (hfn : Tryd.pinned.checked.prog.funcs[f]? = some fn) :
    true = Tryd.pinned.checked.prog.looks [] ∧ ∀ (j : Nat) t, fn.params[j]? = some t → Tryd.pinned.checked.prog.wantsStandIn t = false := by
  obtain rfl : f = 7 := Option.some.inj ((show Tryd.prog.funcNamed "garboard/garboardlaw01.NaturalRoots" = some 7 by kernel_rfl).symm.trans hf) |>.symm
  obtain rfl : fn = Tryd.f7 := (Option.some.inj (Tryd.func7.symm.trans hfn)).symm
  refine ⟨by kernel_rfl, fun j t ht => ?_⟩
  rw [Tryd.params7] at ht
  have hm := Array.mem_of_getElem? ht
  have ho : t = 9 ∨ t = 5 := by simp at hm; omega
  rcases ho with rfl | rfl
  · exact (show Tryd.prog.wantsStandIn 9 = false by kernel_rfl)
  · exact (show Tryd.prog.wantsStandIn 5 = false by kernel_rfl)

theorem naturalRoots_card : Rows.NaturalRootsCardSaid :=
  Claim7.holds_tied_plain_at .later [] _ _ _ _ naturalRoots_said (fun _ h => by cases h) (by kernel_rfl) (fun _ h => by cases h) naturalRoots_row_tie rfl ⟨rfl, rfl⟩ (by kernel_rfl) rfl naturalRoots_plain (by kernel_rfl)

end Go.Proofs.YtpdchplppkfdhaaDoor
