/- garboardlaw05.RootDecides: the card. -/
import Derived.Test.YtggoeabhbkbadaaGreatDoorOv
set_option maxRecDepth 100000
set_option maxHeartbeats 20000000
namespace Go.Proofs.YtggoeabhbkbadaaGreatDoor
open Go.ChangeShapes Go.WideShapes Go.ChangeAt Go.WideMaps Go.WideElems Go.RowKit Go.Gb
open Go.ChangeMaps (open_string shut_string)
theorem rootDecides_post {H:Type}{enc:TypeId × Value→H}{f:Func}{s:ChangeSpec}{apart fresh handsOn again:Bool}{W W':World}{a:ByteArray}{b:ByteArray}{c:ByteArray}{d:Int}{ds gs:List (DataW H)}
 (hp:f.params.toList=[22,22,22,23]) (hr:f.resultTypes=#[4])
 (hf:(s.fn H (ds++gs)).args=[.lit (.string a.data.toList),.lit (.string b.data.toList),.lit (.string c.data.toList),.lit (.int .u16 d)]) (hf2:(s.fn H (ds++gs)).results=[.lit (.bool true)])
 (ha:a.size≤maxLen) (hb:b.size≤maxLen) (hc:c.size≤maxLen) (hd:(Lit.int .u16 d).wf=true)
 (hv:∀ sp:Nat→Bool,DataW.TrodVars enc Tryz.prog W' sp s.vars (s.fn H (ds++gs)).vars [])
 (hW:DataW.Whole enc Tryz.prog f.params.toList s.vars apart W #[Value.string a,Value.string b,Value.string c,Value.int .u16 d].toList ds gs []) (hB:Below W.heap.size W W') :
 s.post enc Tryz.prog f apart fresh handsOn again W #[.string a,.string b,.string c,.int .u16 d] (.bool true) W':=by
 refine post_plain hW (fun _ _ _=>?_) (fun _=>?_) hv (hB.frame _) ?_
 · rw[hr,hf2]
   exact trodAll_mk1 (shut_bool Tryz.underlying4 _)
 · rw[hp,hf]
   exact trodAll_cons_mk (shut_string Tryz.underlying22 ha) (trodAll_cons_mk (shut_string Tryz.underlying22 hb) (trodAll_cons_mk (shut_string Tryz.underlying22 hc) (trodAll_mk1 (shut_int Tryz.underlying23 hd))))
 · exact ok_one hr rfl (okWide_bool_mk Tryz.underlying4 _)
theorem rootDecides_lifted (os:Os)(started:os.Started)(H:Type)(enc:TypeId × Value→H) :
 ReturnsInHanded {} Tryz.checked os 6 .any (fun w args=>(Rows.rootDecidesSpec.pre enc Tryz.prog Tryz.f6 [] false w args∧laidMetH Tryz.prog laidListS w)∧sizedMet enc Tryz.prog Tryz.f6 (OpenSpec.ofChange Rows.rootDecidesSpec) false w args)
  (Rows.rootDecidesSpec.post enc Tryz.prog Tryz.f6 false true false false):=by
 refine returnsInHanded_of_change_and (C:=Tryz.checked) (X:=fun w _=>laidMetH Tryz.prog laidListS w) (fun _ _ _ hh h=>h.of_heap hh) own started (by kernel_rfl) Tryz.func6
  (ChangeSpec.witness_shaped (enc:=enc) (C:=Tryz.checked) (os:=os) (X:=fun w _=>laidMetH Tryz.prog laidListS w) false (World.doorLaid Tryz.prog 4000 os) #[.string ⟨#[]⟩,.string ⟨#[]⟩,.string ⟨#[]⟩,.int .u16 0] 8 rfl (World.shaped_of_RefB (by kernel_rfl) (by kernel_rfl)) (by kernel_rfl) (by kernel_rfl) (by kernel_rfl) (door_metS os _)) ?_
 intro W base args ds gs before hval0 hW _ _ hL _
 have hval:∀ (j:Nat) t v,Tryz.f6.params[j]? = some t→args[j]? = some v→Value.okWide Tryz.prog W .any base t v:=hval0
 have hW':=hW
 obtain⟨p,q,hA0,hV,rfl,hfz,hnd⟩:=hW
 have hA:DataW.TrodAll enc Tryz.prog W 0 (fun _=>true) true Tryz.f6.params.toList args.toList ds p:=hA0
 rw[Tryz.params6]at hA hval
 obtain⟨v0,v1,v2,v3,d0,d1,d2,d3,p0,p1,p2,p3,rfl,rfl,rfl,h0,h1,h2,h3⟩:=trodAll_four hA
 obtain⟨rfl,rfl⟩:=trodVars_none hV
 obtain⟨a,rfl,rfl,rfl,ha⟩:=open_string Tryz.underlying22 (hval 0 22 v0 rfl rfl) h0
 obtain⟨b,rfl,rfl,rfl,hb⟩:=open_string Tryz.underlying22 (hval 1 22 v1 rfl rfl) h1
 obtain⟨c,rfl,rfl,rfl,hc⟩:=open_string Tryz.underlying22 (hval 2 22 v2 rfl rfl) h2
 obtain⟨d,rfl,rfl,rfl,hd⟩:=open_int Tryz.underlying23 (hval 3 23 v3 rfl rfl) h3
 have bd:=int_bounds_h hd
 clear hA0 hval0
 simp only[List.append_nil]at hW'
 refine(rdecides_any a b c d bd.1 bd.2 W (lb_of_laidS hL)).mono fun e W' ⟨he,hB⟩=>?_
 subst he
 refine⟨_,rfl,rootDecides_post (by kernel_rfl) (by kernel_rfl) ?_ ?_ ha hb hc hd ?_ hW' hB⟩
 · exact rfl
 · exact rfl
 · exact fun _=>rfl
theorem rootDecides_said:Rows.RootDecidesSaid :=
 OpenClaim.holds_of_wide 6 Tryz.f6 rfl rfl rfl rfl rfl rfl rfl ⟨rfl,rfl,rfl,rfl,rfl⟩ rfl rfl rfl rfl rfl (by kernel_rfl) Tryz.func6 (by kernel_rfl)
  (of_decide_eq_true (by kernel_rfl)) (by unfold Func.isWrapper;first|(rw[if_pos (by decide +kernel)];kernel_rfl)|(rw[if_neg (by decide +kernel)];exact⟨rfl,rfl⟩))
  (fun os started H enc _=>rootDecides_lifted os started H enc)
theorem rootDecides_plain (f:FuncId)(fn:Func)(hf:Tryz.pinned.checked.prog.funcNamed "garboard/garboardlaw05.RootDecides" = some f)(hfn:Tryz.pinned.checked.prog.funcs[f]? = some fn) :
 true=Tryz.pinned.checked.prog.looks []∧∀ (j:Nat) t,fn.params[j]? = some t→Tryz.pinned.checked.prog.wantsStandIn t=false:=by
 obtain rfl:f=6:=Option.some.inj ((show Tryz.prog.funcNamed "garboard/garboardlaw05.RootDecides" = some 6 by kernel_rfl).symm.trans hf) |>.symm
 obtain rfl:fn=Tryz.f6:=(Option.some.inj (Tryz.func6.symm.trans hfn)).symm
 refine⟨by kernel_rfl,fun j t ht=>?_⟩
 rw[Tryz.params6]at ht
 have hm:=Array.mem_of_getElem? ht
 have ho:t=22∨t=23:=by simp at hm;omega
 rcases ho with rfl|rfl
 · exact(show Tryz.prog.wantsStandIn 22=false by kernel_rfl)
 · exact(show Tryz.prog.wantsStandIn 23=false by kernel_rfl)
theorem rootDecides_card:Rows.RootDecidesCardSaid :=
 Claim7.holds_tied_plain_at .later [] _ _ _ _ rootDecides_said (fun _ h=>by cases h) (by kernel_rfl) (fun _ h=>by cases h) rootDecides_row_tie rfl ⟨rfl,rfl⟩ (by kernel_rfl) rfl rootDecides_plain (by kernel_rfl)
end Go.Proofs.YtggoeabhbkbadaaGreatDoor
