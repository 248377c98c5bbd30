/- texts -/
import Derived.Test.YtlgkolkcokaefaaGreatDoorJi
set_option maxRecDepth 100000
set_option maxHeartbeats 20000000
namespace Go.Proofs.YtlgkolkcokaefaaGreatDoor
open Go.ChangeShapes Go.WideShapes Go.ChangeAt Go.WideMaps Go.WideElems Go.RowKit Go.Gb
open Go.ChangeMaps (open_string shut_string)
theorem kW {H:Type}{enc:TypeId × Value→H}{f:Func}{s:ChangeSpec}{apart fresh handsOn again:Bool}{W W':World}{ap aq:ByteArray}{b1 b2 b3:ByteArray}{ds gs:List (DataW H)}
 (hp:f.params.toList=[24,29]) (hr:f.resultTypes=#[4])
 (hf:(s.fn H (ds++gs)).args=[.agg [.lit (.string ap.data.toList),.lit (.string aq.data.toList)],.agg [.lit (.string b1.data.toList),.lit (.string b2.data.toList),.lit (.string b3.data.toList)]]) (hf2:(s.fn H (ds++gs)).results=[.lit (.bool true)])
 (hap:ap.size≤maxLen) (haq:aq.size≤maxLen) (hb1:b1.size≤maxLen) (hb2:b2.size≤maxLen) (hb3:b3.size≤maxLen)
 (hv:∀ sp:Nat→Bool,DataW.TrodVars enc Tryz.prog W' sp s.vars (s.fn H (ds++gs)).vars [])
 (hW:DataW.Whole enc Tryz.prog f.params.toList s.vars apart W #[Value.agg #[.string ap,.string aq],Value.agg #[.string b1,.string b2,.string b3]].toList ds gs []) (hB:Below W.heap.size W W') :
 s.post enc Tryz.prog f apart fresh handsOn again W #[.agg #[.string ap,.string aq],.agg #[.string b1,.string b2,.string b3]] (.bool true) W':=by
 refine xI hW (fun _ _ _=>?_) (fun _=>?_) hv (hB.frame _) ?_
 · rw[hr,hf2]
   exact trodAll_mk1 (shut_bool Tryz.underlying4 _)
 · rw[hp,hf]
   exact trodAll_cons_mk (z1s hap haq) (trodAll_mk1 (z1r hb1 hb2 hb3))
 · exact ok_one hr rfl (okWide_bool_mk Tryz.underlying4 _)
theorem jJ (os:Os)(started:os.Started)(H:Type)(enc:TypeId × Value→H) :
 ReturnsInHanded {} Tryz.checked os 4 .any (fun w args=>(Rows.attitudeTurnsSpec.pre enc Tryz.prog Tryz.f4 [] false w args∧laidMetH Tryz.prog jh w)∧sizedMet enc Tryz.prog Tryz.f4 (OpenSpec.ofChange Rows.attitudeTurnsSpec) false w args)
  (Rows.attitudeTurnsSpec.post enc Tryz.prog Tryz.f4 false true false false):=by
 refine returnsInHanded_of_change_and (C:=Tryz.checked) (X:=fun w _=>laidMetH Tryz.prog jh w) (fun _ _ _ hh h=>h.of_heap hh) own started (by kernel_rfl) Tryz.func4
  (ChangeSpec.witness_shaped (enc:=enc) (C:=Tryz.checked) (os:=os) (X:=fun w _=>laidMetH Tryz.prog jh w) false (World.doorLaid Tryz.prog 4000 os) #[.agg #[.string ⟨#[]⟩,.string ⟨#[]⟩],.agg #[.string ⟨#[]⟩,.string ⟨#[]⟩,.string ⟨#[]⟩]] 8 rfl (World.shaped_of_RefB (by kernel_rfl) (by kernel_rfl)) (by kernel_rfl) (by kernel_rfl) (by kernel_rfl) (z0x os _)) ?_
 intro W base args ds gs before hval0 hW _ _ hL _;have hval:∀ (j:Nat) t v,Tryz.f4.params[j]? = some t→args[j]? = some v→Value.okWide Tryz.prog W .any base t v:=hval0;have hW':=hW;obtain⟨p,q,hA0,hV,rfl,hfz,hnd⟩:=hW;have hA:DataW.TrodAll enc Tryz.prog W 0 (fun _=>true) true Tryz.f4.params.toList args.toList ds p:=hA0;rw[Tryz.params4]at hA hval;obtain⟨v0,v1,d0,d1,p0,p1,rfl,rfl,rfl,h0,h1⟩:=trodAll_two hA;obtain⟨rfl,rfl⟩:=trodVars_none hV;obtain⟨ap,aq,rfl,rfl,rfl,hap,haq⟩:=z1L (hval 0 24 v0 rfl rfl) h0;obtain⟨b1,b2,b3,rfl,rfl,rfl,hb1,hb2,hb3⟩:=z1K (hval 1 29 v1 rfl rfl) h1;clear hA0 hval0;simp only[List.append_nil]at hW';refine(yf ap aq b1 b2 b3  W (xN hL)).mono fun e W' ⟨he,hB⟩=>?_;subst he;refine⟨_,rfl,kW (by kernel_rfl) (by kernel_rfl) ?_ ?_ hap haq hb1 hb2 hb3 ?_ hW' hB⟩
 · exact rfl
 · exact rfl
 · exact fun _=>rfl
theorem kU:Rows.AttitudeTurnsSaid :=
 OpenClaim.holds_of_wide 4 Tryz.f4 rfl rfl rfl rfl rfl rfl rfl ⟨rfl,rfl,rfl,rfl,rfl⟩ rfl rfl rfl rfl rfl (by kernel_rfl) Tryz.func4 (by kernel_rfl)
  (of_decide_eq_true (by kernel_rfl)) (by unfold Func.isWrapper;first|(rw[if_pos (by decide +kernel)];kernel_rfl)|(rw[if_neg (by decide +kernel)];exact⟨rfl,rfl⟩))
  (fun os started H enc _=>jJ os started H enc)
theorem jW (f:FuncId)(fn:Func)(hf:Tryz.pinned.checked.prog.funcNamed "garboard/garboardlaw16.AttitudeTurns" = some f)(hfn:Tryz.pinned.checked.prog.funcs[f]? = some fn) :
 true=Tryz.pinned.checked.prog.looks []∧∀ (j:Nat) t,fn.params[j]? = some t→Tryz.pinned.checked.prog.wantsStandIn t=false:=by
 obtain rfl:f=4:=Option.some.inj ((show Tryz.prog.funcNamed "garboard/garboardlaw16.AttitudeTurns" = some 4 by kernel_rfl).symm.trans hf) |>.symm
 obtain rfl:fn=Tryz.f4:=(Option.some.inj (Tryz.func4.symm.trans hfn)).symm;refine⟨by kernel_rfl,fun j t ht=>?_⟩;rw[Tryz.params4]at ht;have hm:=Array.mem_of_getElem? ht;have ho:t=24∨t=29:=by simp at hm;omega
 rcases ho with rfl|rfl
 · exact(show Tryz.prog.wantsStandIn 24=false by kernel_rfl)
 · exact(show Tryz.prog.wantsStandIn 29=false by kernel_rfl)
theorem attitudeTurns_card:Rows.AttitudeTurnsCardSaid :=
 Claim7.holds_tied_plain_at .later [] _ _ _ _ kU (fun _ h=>by cases h) (by kernel_rfl) (fun _ h=>by cases h) attitudeTurns_row_tie rfl ⟨rfl,rfl⟩ (by kernel_rfl) rfl jW (by kernel_rfl)
