/- texts -/
import Derived.Test.YtnpkghpfmieboaaGreatDoorMz49q
set_option maxRecDepth 100000
set_option maxHeartbeats 20000000
namespace Go.Proofs.YtnpkghpfmieboaaGreatDoor
open Go.ChangeShapes Go.WideShapes Go.ChangeAt Go.WideMaps Go.WideElems Go.RowKit Go.Gb
open Go.ChangeMaps (open_string shut_string)
theorem lU {H:Type}{enc:TypeId × Value→H}{f:Func}{s:ChangeSpec}{apart fresh handsOn again:Bool}{W W':World}{a1 a2 a3 ac:ByteArray}{b1 b2 b3:ByteArray}{c1 c2 c3:ByteArray}{d1 d2 d3:ByteArray}{ds gs:List (DataW H)}
 (hp:f.params.toList=[26,24,24,24]) (hr:f.resultTypes=#[4])
 (hf:(s.fn H (ds++gs)).args=[.agg [.agg [.lit (.string a1.data.toList),.lit (.string a2.data.toList),.lit (.string a3.data.toList)],.lit (.string ac.data.toList)],.agg [.lit (.string b1.data.toList),.lit (.string b2.data.toList),.lit (.string b3.data.toList)],.agg [.lit (.string c1.data.toList),.lit (.string c2.data.toList),.lit (.string c3.data.toList)],.agg [.lit (.string d1.data.toList),.lit (.string d2.data.toList),.lit (.string d3.data.toList)]]) (hf2:(s.fn H (ds++gs)).results=[.lit (.bool true)])
 (ha1:a1.size≤maxLen) (ha2:a2.size≤maxLen) (ha3:a3.size≤maxLen) (hac:ac.size≤maxLen) (hb1:b1.size≤maxLen) (hb2:b2.size≤maxLen) (hb3:b3.size≤maxLen) (hc1:c1.size≤maxLen) (hc2:c2.size≤maxLen) (hc3:c3.size≤maxLen) (hd1:d1.size≤maxLen) (hd2:d2.size≤maxLen) (hd3:d3.size≤maxLen)
 (hv:∀ sp:Nat→Bool,DataW.TrodVars enc Tryz.prog W' sp s.vars (s.fn H (ds++gs)).vars [])
 (hW:DataW.Whole enc Tryz.prog f.params.toList s.vars apart W #[Value.agg #[.string a1,.string a2,.string a3,.string ac],Value.agg #[.string b1,.string b2,.string b3],Value.agg #[.string c1,.string c2,.string c3],Value.agg #[.string d1,.string d2,.string d3]].toList ds gs []) (hB:Below W.heap.size W W') :
 s.post enc Tryz.prog f apart fresh handsOn again W #[.agg #[.string a1,.string a2,.string a3,.string ac],.agg #[.string b1,.string b2,.string b3],.agg #[.string c1,.string c2,.string c3],.agg #[.string d1,.string d2,.string d3]] (.bool true) W':=by
 refine yY hW (fun _ _ _=>?_) (fun _=>?_) hv (hB.frame _) ?_
 · rw[hr,hf2]
   exact trodAll_mk1 (shut_bool Tryz.underlying4 _)
 · rw[hp,hf]
   exact trodAll_cons_mk (yQ ha1 ha2 ha3 hac) (trodAll_cons_mk (qZ hb1 hb2 hb3) (trodAll_cons_mk (qZ hc1 hc2 hc3) (trodAll_mk1 (qZ hd1 hd2 hd3))))
 · exact ok_one hr rfl (okWide_bool_mk Tryz.underlying4 _)
theorem jY (os:Os)(started:os.Started)(H:Type)(enc:TypeId × Value→H) :
 ReturnsInHanded {} Tryz.checked os 3 .any (fun w args=>(Rows.vectorPlanesSpec.pre enc Tryz.prog Tryz.f3 [] false w args∧laidMetH Tryz.prog jC w)∧sizedMet enc Tryz.prog Tryz.f3 (OpenSpec.ofChange Rows.vectorPlanesSpec) false w args)
  (Rows.vectorPlanesSpec.post enc Tryz.prog Tryz.f3 false true false false):=by
 refine returnsInHanded_of_change_and (C:=Tryz.checked) (X:=fun w _=>laidMetH Tryz.prog jC w) (fun _ _ _ hh h=>h.of_heap hh) own started (by kernel_rfl) Tryz.func3
  (ChangeSpec.witness_shaped (enc:=enc) (C:=Tryz.checked) (os:=os) (X:=fun w _=>laidMetH Tryz.prog jC w) false (World.doorLaid Tryz.prog 4000 os) #[.agg #[.string ⟨#[]⟩,.string ⟨#[]⟩,.string ⟨#[]⟩,.string ⟨#[]⟩],.agg #[.string ⟨#[]⟩,.string ⟨#[]⟩,.string ⟨#[]⟩],.agg #[.string ⟨#[]⟩,.string ⟨#[]⟩,.string ⟨#[]⟩],.agg #[.string ⟨#[]⟩,.string ⟨#[]⟩,.string ⟨#[]⟩]] 8 rfl (World.shaped_of_RefB (by kernel_rfl) (by kernel_rfl)) (by kernel_rfl) (by kernel_rfl) (by kernel_rfl) (z0W os _)) ?_
 intro W base args ds gs before hval0 hW _ _ hL _;have hval:∀ (j:Nat) t v,Tryz.f3.params[j]? = some t→args[j]? = some v→Value.okWide Tryz.prog W .any base t v:=hval0;have hW':=hW;obtain⟨p,q,hA0,hV,rfl,hfz,hnd⟩:=hW;have hA:DataW.TrodAll enc Tryz.prog W 0 (fun _=>true) true Tryz.f3.params.toList args.toList ds p:=hA0;rw[Tryz.params3]at hA hval;obtain⟨v0,v1,v2,v3,d0,d1,d2,d3,p0,p1,p2,p3,rfl,rfl,rfl,h0,h1,h2,h3⟩:=trodAll_four hA;obtain⟨rfl,rfl⟩:=trodVars_none hV;obtain⟨a1,a2,a3,ac,rfl,rfl,rfl,ha1,ha2,ha3,hac⟩:=zf (hval 0 26 v0 rfl rfl) h0;obtain⟨b1,b2,b3,rfl,rfl,rfl,hb1,hb2,hb3⟩:=rG (hval 1 24 v1 rfl rfl) h1;obtain⟨c1,c2,c3,rfl,rfl,rfl,hc1,hc2,hc3⟩:=rG (hval 2 24 v2 rfl rfl) h2;obtain⟨d1,d2,d3,rfl,rfl,rfl,hd1,hd2,hd3⟩:=rG (hval 3 24 v3 rfl rfl) h3;clear hA0 hval0;simp only[List.append_nil]at hW';refine(vo a1 a2 a3 ac b1 b2 b3 c1 c2 c3 d1 d2 d3  W (zi hL)).mono fun e W' ⟨he,hB⟩=>?_;subst he;refine⟨_,rfl,lU (by kernel_rfl) (by kernel_rfl) ?_ ?_ ha1 ha2 ha3 hac hb1 hb2 hb3 hc1 hc2 hc3 hd1 hd2 hd3 ?_ hW' hB⟩
 · exact rfl
 · exact rfl
 · exact fun _=>rfl
theorem lT:Rows.VectorPlanesSaid :=
 OpenClaim.holds_of_wide 3 Tryz.f3 rfl rfl rfl rfl rfl rfl rfl ⟨rfl,rfl,rfl,rfl,rfl⟩ rfl rfl rfl rfl rfl (by kernel_rfl) Tryz.func3 (by kernel_rfl)
  (of_decide_eq_true (by kernel_rfl)) (by unfold Func.isWrapper;first|(rw[if_pos (by decide +kernel)];kernel_rfl)|(rw[if_neg (by decide +kernel)];exact⟨rfl,rfl⟩))
  (fun os started H enc _=>jY os started H enc)
theorem kH (f:FuncId)(fn:Func)(hf:Tryz.pinned.checked.prog.funcNamed "garboard/garboardlaw11.VectorPlanes" = some f)(hfn:Tryz.pinned.checked.prog.funcs[f]? = some fn) :
 true=Tryz.pinned.checked.prog.looks []∧∀ (j:Nat) t,fn.params[j]? = some t→Tryz.pinned.checked.prog.wantsStandIn t=false:=by
 obtain rfl:f=3:=Option.some.inj ((show Tryz.prog.funcNamed "garboard/garboardlaw11.VectorPlanes" = some 3 by kernel_rfl).symm.trans hf) |>.symm
 obtain rfl:fn=Tryz.f3:=(Option.some.inj (Tryz.func3.symm.trans hfn)).symm;refine⟨by kernel_rfl,fun j t ht=>?_⟩;rw[Tryz.params3]at ht;have hm:=Array.mem_of_getElem? ht;have ho:t=26∨t=24:=by simp at hm;omega
 rcases ho with rfl|rfl
 · exact(show Tryz.prog.wantsStandIn 26=false by kernel_rfl)
 · exact(show Tryz.prog.wantsStandIn 24=false by kernel_rfl)
theorem vectorPlanes_card:Rows.VectorPlanesCardSaid :=
 Claim7.holds_tied_plain_at .later [] _ _ _ _ lT (fun _ h=>by cases h) (by kernel_rfl) (fun _ h=>by cases h) vectorPlanes_row_tie rfl ⟨rfl,rfl⟩ (by kernel_rfl) rfl kH (by kernel_rfl)
