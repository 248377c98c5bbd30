/- texts -/
import Derived.Test.YtikihamjpenboaaGreatDoorMz49q
set_option maxRecDepth 100000
set_option maxHeartbeats 20000000
namespace Go.Proofs.YtikihamjpenboaaGreatDoor
open Go.ChangeShapes Go.WideShapes Go.ChangeAt Go.WideMaps Go.WideElems Go.RowKit Go.Gb
open Go.ChangeMaps (open_string shut_string)
theorem mq {H:Type}{enc:TypeId × Value→H}{f:Func}{s:ChangeSpec}{apart fresh handsOn again:Bool}{W W':World}{a:ByteArray}{bl bu:ByteArray}{c:Int}{ds gs:List (DataW H)}
 (hp:f.params.toList=[22,24,3]) (hr:f.resultTypes=#[4])
 (hf:(s.fn H (ds++gs)).args=[.lit (.string a.data.toList),.agg [.lit (.string bl.data.toList),.lit (.string bu.data.toList)],.lit (.int .i64 c)]) (hf2:(s.fn H (ds++gs)).results=[.lit (.bool true)])
 (ha:a.size≤maxLen) (hbl:bl.size≤maxLen) (hbu:bu.size≤maxLen) (hc:(Lit.int .i64 c).wf=true)
 (hv:∀ sp:Nat→Bool,DataW.TrodVars enc Tryz.prog W' sp s.vars (s.fn H (ds++gs)).vars [])
 (hW:DataW.Whole enc Tryz.prog f.params.toList s.vars apart W #[Value.string a,Value.agg #[.string bl,.string bu],Value.int .i64 c].toList ds gs []) (hB:Below W.heap.size W W') :
 s.post enc Tryz.prog f apart fresh handsOn again W #[.string a,.agg #[.string bl,.string bu],.int .i64 c] (.bool true) W':=by
 refine zg hW (fun _ _ _=>?_) (fun _=>?_) hv (hB.frame _) ?_
 · rw[hr,hf2]
   exact trodAll_mk1 (shut_bool Tryz.underlying4 _)
 · rw[hp,hf]
   exact trodAll_cons_mk (shut_string Tryz.underlying22 ha) (trodAll_cons_mk (z4K hbl hbu) (trodAll_mk1 (shut_int Tryz.underlying3 hc)))
 · exact ok_one hr rfl (okWide_bool_mk Tryz.underlying4 _)
theorem kI (os:Os)(started:os.Started)(H:Type)(enc:TypeId × Value→H) :
 ReturnsInHanded {} Tryz.checked os 3 .any (fun w args=>(Rows.rootEnclosesSpec.pre enc Tryz.prog Tryz.f3 [] false w args∧laidMetH Tryz.prog jJ w)∧sizedMet enc Tryz.prog Tryz.f3 (OpenSpec.ofChange Rows.rootEnclosesSpec) false w args)
  (Rows.rootEnclosesSpec.post enc Tryz.prog Tryz.f3 false true false false):=by
 refine returnsInHanded_of_change_and (C:=Tryz.checked) (X:=fun w _=>laidMetH Tryz.prog jJ w) (fun _ _ _ hh h=>h.of_heap hh) own started (by kernel_rfl) Tryz.func3
  (ChangeSpec.witness_shaped (enc:=enc) (C:=Tryz.checked) (os:=os) (X:=fun w _=>laidMetH Tryz.prog jJ w) false (World.doorLaid Tryz.prog 4000 os) #[.string ⟨#[]⟩,.agg #[.string ⟨#[]⟩,.string ⟨#[]⟩],.int .i64 0] 8 rfl (World.shaped_of_RefB (by kernel_rfl) (by kernel_rfl)) (by kernel_rfl) (by kernel_rfl) (by kernel_rfl) (z1M os _)) ?_
 intro W base args ds gs before hval0 hW _ _ hL _;have hval:∀ (j:Nat) t v,Tryz.f3.params[j]? = some t→args[j]? = some v→Value.okWide Tryz.prog W .any base t v:=hval0;have hW':=hW;obtain⟨p,q,hA0,hV,rfl,hfz,hnd⟩:=hW;have hA:DataW.TrodAll enc Tryz.prog W 0 (fun _=>true) true Tryz.f3.params.toList args.toList ds p:=hA0;rw[Tryz.params3]at hA hval;obtain⟨v0,v1,v2,d0,d1,d2,p0,p1,p2,rfl,rfl,rfl,h0,h1,h2⟩:=trodAll_three hA;obtain⟨rfl,rfl⟩:=trodVars_none hV;obtain⟨a,rfl,rfl,rfl,ha⟩:=open_string Tryz.underlying22 (hval 0 22 v0 rfl rfl) h0;obtain⟨bl,bu,rfl,rfl,rfl,hbl,hbu⟩:=z5d (hval 1 24 v1 rfl rfl) h1;obtain⟨c,rfl,rfl,rfl,hc⟩:=open_int Tryz.underlying3 (hval 2 3 v2 rfl rfl) h2;have bc:=uI hc;clear hA0 hval0;simp only[List.append_nil]at hW';refine(rF a bl bu c bc.1 bc.2 W (wE hL)).mono fun e W' ⟨he,hB⟩=>?_;subst he;refine⟨_,rfl,mq (by kernel_rfl) (by kernel_rfl) ?_ ?_ ha hbl hbu hc ?_ hW' hB⟩
 · exact rfl
 · exact rfl
 · exact fun _=>rfl
theorem mo:Rows.RootEnclosesSaid :=
 OpenClaim.holds_of_wide 3 Tryz.f3 rfl rfl rfl rfl rfl rfl rfl ⟨rfl,rfl,rfl,rfl,rfl⟩ rfl rfl rfl rfl rfl (by kernel_rfl) Tryz.func3 (by kernel_rfl)
  (of_decide_eq_true (by kernel_rfl)) (by unfold Func.isWrapper;first|(rw[if_pos (by decide +kernel)];kernel_rfl)|(rw[if_neg (by decide +kernel)];exact⟨rfl,rfl⟩))
  (fun os started H enc _=>kI os started H enc)
theorem l8 (f:FuncId)(fn:Func)(hf:Tryz.pinned.checked.prog.funcNamed "garboard/garboardlaw05.RootEncloses" = some f)(hfn:Tryz.pinned.checked.prog.funcs[f]? = some fn) :
 true=Tryz.pinned.checked.prog.looks []∧∀ (j:Nat) t,fn.params[j]? = some t→Tryz.pinned.checked.prog.wantsStandIn t=false:=by
 obtain rfl:f=3:=Option.some.inj ((show Tryz.prog.funcNamed "garboard/garboardlaw05.RootEncloses" = some 3 by kernel_rfl).symm.trans hf) |>.symm
 obtain rfl:fn=Tryz.f3:=(Option.some.inj (Tryz.func3.symm.trans hfn)).symm;refine⟨by kernel_rfl,fun j t ht=>?_⟩;rw[Tryz.params3]at ht;have hm:=Array.mem_of_getElem? ht;have ho:t=22∨t=24∨t=3:=by simp at hm;omega
 rcases ho with rfl|rfl|rfl
 · exact(show Tryz.prog.wantsStandIn 22=false by kernel_rfl)
 · exact(show Tryz.prog.wantsStandIn 24=false by kernel_rfl)
 · exact(show Tryz.prog.wantsStandIn 3=false by kernel_rfl)
theorem rootEncloses_card:Rows.RootEnclosesCardSaid :=
 Claim7.holds_tied_plain_at .later [] _ _ _ _ mo (fun _ h=>by cases h) (by kernel_rfl) (fun _ h=>by cases h) rootEncloses_row_tie rfl ⟨rfl,rfl⟩ (by kernel_rfl) rfl l8 (by kernel_rfl)
