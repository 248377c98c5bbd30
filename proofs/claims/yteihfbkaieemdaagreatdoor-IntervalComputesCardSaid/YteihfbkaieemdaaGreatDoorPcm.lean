/- texts -/
import Derived.Test.YteihfbkaieemdaaGreatDoorMz49q
set_option maxRecDepth 100000
set_option maxHeartbeats 20000000
namespace Go.Proofs.YteihfbkaieemdaaGreatDoor
open Go.ChangeShapes Go.WideShapes Go.ChangeAt Go.WideMaps Go.WideElems Go.RowKit Go.Gb
open Go.ChangeMaps (open_string shut_string)
theorem jG {H:Type}{enc:TypeId × Value→H}{f:Func}{s:ChangeSpec}{apart fresh handsOn again:Bool}{W W':World}{al au:ByteArray}{bl bu:ByteArray}{ds gs:List (DataW H)}
 (hp:f.params.toList=[24,24]) (hr:f.resultTypes=#[4])
 (hf:(s.fn H (ds++gs)).args=[.agg [.lit (.string al.data.toList),.lit (.string au.data.toList)],.agg [.lit (.string bl.data.toList),.lit (.string bu.data.toList)]]) (hf2:(s.fn H (ds++gs)).results=[.lit (.bool true)])
 (hal:al.size≤maxLen) (hau:au.size≤maxLen) (hbl:bl.size≤maxLen) (hbu:bu.size≤maxLen)
 (hv:∀ sp:Nat→Bool,DataW.TrodVars enc Tryz.prog W' sp s.vars (s.fn H (ds++gs)).vars [])
 (hW:DataW.Whole enc Tryz.prog f.params.toList s.vars apart W #[Value.agg #[.string al,.string au],Value.agg #[.string bl,.string bu]].toList ds gs []) (hB:Below W.heap.size W W') :
 s.post enc Tryz.prog f apart fresh handsOn again W #[.agg #[.string al,.string au],.agg #[.string bl,.string bu]] (.bool true) W':=by
 refine xX hW (fun _ _ _=>?_) (fun _=>?_) hv (hB.frame _) ?_
 · rw[hr,hf2]
   exact trodAll_mk1 (shut_bool Tryz.underlying4 _)
 · rw[hp,hf]
   exact trodAll_cons_mk (zB hal hau) (trodAll_mk1 (zB hbl hbu))
 · exact ok_one hr rfl (okWide_bool_mk Tryz.underlying4 _)
theorem je (os:Os)(started:os.Started)(H:Type)(enc:TypeId × Value→H) :
 ReturnsInHanded {} Tryz.checked os 3 .any (fun w args=>(Rows.intervalComputesSpec.pre enc Tryz.prog Tryz.f3 [] false w args∧laidMetH Tryz.prog jE w)∧sizedMet enc Tryz.prog Tryz.f3 (OpenSpec.ofChange Rows.intervalComputesSpec) false w args)
  (Rows.intervalComputesSpec.post enc Tryz.prog Tryz.f3 false true false false):=by
 refine returnsInHanded_of_change_and (C:=Tryz.checked) (X:=fun w _=>laidMetH Tryz.prog jE w) (fun _ _ _ hh h=>h.of_heap hh) own started (by kernel_rfl) Tryz.func3
  (ChangeSpec.witness_shaped (enc:=enc) (C:=Tryz.checked) (os:=os) (X:=fun w _=>laidMetH Tryz.prog jE w) false (World.doorLaid Tryz.prog 4000 os) #[.agg #[.string ⟨#[]⟩,.string ⟨#[]⟩],.agg #[.string ⟨#[]⟩,.string ⟨#[]⟩]] 8 rfl (World.shaped_of_RefB (by kernel_rfl) (by kernel_rfl)) (by kernel_rfl) (by kernel_rfl) (by kernel_rfl) (z0A os _)) ?_
 intro W base args ds gs before hval0 hW _ _ hL _;have hval:∀ (j:Nat) t v,Tryz.f3.params[j]? = some t→args[j]? = some v→Value.okWide Tryz.prog W .any base t v:=hval0;have hW':=hW;obtain⟨p,q,hA0,hV,rfl,hfz,hnd⟩:=hW;have hA:DataW.TrodAll enc Tryz.prog W 0 (fun _=>true) true Tryz.f3.params.toList args.toList ds p:=hA0;rw[Tryz.params3]at hA hval;obtain⟨v0,v1,d0,d1,p0,p1,rfl,rfl,rfl,h0,h1⟩:=trodAll_two hA;obtain⟨rfl,rfl⟩:=trodVars_none hV;obtain⟨al,au,rfl,rfl,rfl,hal,hau⟩:=zX (hval 0 24 v0 rfl rfl) h0;obtain⟨bl,bu,rfl,rfl,rfl,hbl,hbu⟩:=zX (hval 1 24 v1 rfl rfl) h1;clear hA0 hval0;simp only[List.append_nil]at hW';refine(oH al au bl bu  W (yg hL)).mono fun e W' ⟨he,hB⟩=>?_;subst he;refine⟨_,rfl,jG (by kernel_rfl) (by kernel_rfl) ?_ ?_ hal hau hbl hbu ?_ hW' hB⟩
 · exact rfl
 · exact rfl
 · exact fun _=>rfl
theorem jF:Rows.IntervalComputesSaid :=
 OpenClaim.holds_of_wide 3 Tryz.f3 rfl rfl rfl rfl rfl rfl rfl ⟨rfl,rfl,rfl,rfl,rfl⟩ rfl rfl rfl rfl rfl (by kernel_rfl) Tryz.func3 (by kernel_rfl)
  (of_decide_eq_true (by kernel_rfl)) (by unfold Func.isWrapper;first|(rw[if_pos (by decide +kernel)];kernel_rfl)|(rw[if_neg (by decide +kernel)];exact⟨rfl,rfl⟩))
  (fun os started H enc _=>je os started H enc)
theorem jl (f:FuncId)(fn:Func)(hf:Tryz.pinned.checked.prog.funcNamed "garboard/garboardlaw04.IntervalComputes" = some f)(hfn:Tryz.pinned.checked.prog.funcs[f]? = some fn) :
 true=Tryz.pinned.checked.prog.looks []∧∀ (j:Nat) t,fn.params[j]? = some t→Tryz.pinned.checked.prog.wantsStandIn t=false:=by
 obtain rfl:f=3:=Option.some.inj ((show Tryz.prog.funcNamed "garboard/garboardlaw04.IntervalComputes" = some 3 by kernel_rfl).symm.trans hf) |>.symm
 obtain rfl:fn=Tryz.f3:=(Option.some.inj (Tryz.func3.symm.trans hfn)).symm;refine⟨by kernel_rfl,fun j t ht=>?_⟩;rw[Tryz.params3]at ht;obtain rfl:t=24:=by simpa using Array.mem_of_getElem? ht
 exact(show Tryz.prog.wantsStandIn 24=false by kernel_rfl)
theorem intervalComputes_card:Rows.IntervalComputesCardSaid :=
 Claim7.holds_tied_plain_at .later [] _ _ _ _ jF (fun _ h=>by cases h) (by kernel_rfl) (fun _ h=>by cases h) intervalComputes_row_tie rfl ⟨rfl,rfl⟩ (by kernel_rfl) rfl jl (by kernel_rfl)
