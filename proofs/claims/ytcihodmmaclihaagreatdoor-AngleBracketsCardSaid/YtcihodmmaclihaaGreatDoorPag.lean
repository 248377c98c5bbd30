/- garboardlaw06.AngleBrackets: the card. -/
import Derived.Test.YtcihodmmaclihaaGreatDoorBc
set_option maxRecDepth 100000
set_option maxHeartbeats 20000000
namespace Go.Proofs.YtcihodmmaclihaaGreatDoor
open Go.ChangeShapes Go.WideShapes Go.ChangeAt Go.WideMaps Go.WideElems Go.RowKit Go.Gb
open Go.ChangeMaps (open_string shut_string)
theorem angleBrackets_post {H:Type}{enc:TypeId × Value→H}{f:Func}{s:ChangeSpec}{apart fresh handsOn again:Bool}{W W':World}{a:ByteArray}{b:Int}{c:Int}{ds gs:List (DataW H)}
 (hp:f.params.toList=[22,5,5]) (hr:f.resultTypes=#[4])
 (hf:(s.fn H (ds++gs)).args=[.lit (.string a.data.toList),.lit (.int .u8 b),.lit (.int .u8 c)]) (hf2:(s.fn H (ds++gs)).results=[.lit (.bool true)])
 (ha:a.size≤maxLen) (hb:(Lit.int .u8 b).wf=true) (hc:(Lit.int .u8 c).wf=true)
 (hv:∀ sp:Nat→Bool,DataW.TrodVars enc Tryz.prog W' sp s.vars (s.fn H (ds++gs)).vars [])
 (hW:DataW.Whole enc Tryz.prog f.params.toList s.vars apart W #[Value.string a,Value.int .u8 b,Value.int .u8 c].toList ds gs []) (hB:Below W.heap.size W W') :
 s.post enc Tryz.prog f apart fresh handsOn again W #[.string a,.int .u8 b,.int .u8 c] (.bool true) W':=by
 refine post_plain hW (fun _ _ _=>?_) (fun _=>?_) hv (hB.frame _) ?_
 · rw[hr,hf2]
   exact trodAll_mk1 (shut_bool Tryz.underlying4 _)
 · rw[hp,hf]
   exact trodAll_cons_mk (shut_string Tryz.underlying22 ha) (trodAll_cons_mk (shut_int Tryz.underlying5 hb) (trodAll_mk1 (shut_int Tryz.underlying5 hc)))
 · exact ok_one hr rfl (okWide_bool_mk Tryz.underlying4 _)
theorem angleBrackets_lifted (os:Os)(started:os.Started)(H:Type)(enc:TypeId × Value→H) :
 ReturnsInHanded {} Tryz.checked os 5 .any (fun w args=>(Rows.angleBracketsSpec.pre enc Tryz.prog Tryz.f5 [] false w args∧laidMetH Tryz.prog laidListZ w)∧sizedMet enc Tryz.prog Tryz.f5 (OpenSpec.ofChange Rows.angleBracketsSpec) false w args)
  (Rows.angleBracketsSpec.post enc Tryz.prog Tryz.f5 false true false false):=by
 refine returnsInHanded_of_change_and (C:=Tryz.checked) (X:=fun w _=>laidMetH Tryz.prog laidListZ w) (fun _ _ _ hh h=>h.of_heap hh) own started (by kernel_rfl) Tryz.func5
  (ChangeSpec.witness_shaped (enc:=enc) (C:=Tryz.checked) (os:=os) (X:=fun w _=>laidMetH Tryz.prog laidListZ w) false (World.doorLaid Tryz.prog 4000 os) #[.string ⟨#[]⟩,.int .u8 0,.int .u8 0] 8 rfl (World.shaped_of_RefB (by kernel_rfl) (by kernel_rfl)) (by kernel_rfl) (by kernel_rfl) (by kernel_rfl) (door_metZ os _)) ?_
 intro W base args ds gs before hval0 hW _ _ hL _
 have hval:∀ (j:Nat) t v,Tryz.f5.params[j]? = some t→args[j]? = some v→Value.okWide Tryz.prog W .any base t v:=hval0
 have hW':=hW
 obtain⟨p,q,hA0,hV,rfl,hfz,hnd⟩:=hW
 have hA:DataW.TrodAll enc Tryz.prog W 0 (fun _=>true) true Tryz.f5.params.toList args.toList ds p:=hA0
 rw[Tryz.params5]at hA hval
 obtain⟨v0,v1,v2,d0,d1,d2,p0,p1,p2,rfl,rfl,rfl,h0,h1,h2⟩:=trodAll_three hA
 obtain⟨rfl,rfl⟩:=trodVars_none hV
 obtain⟨a,rfl,rfl,rfl,ha⟩:=open_string Tryz.underlying22 (hval 0 22 v0 rfl rfl) h0
 obtain⟨b,rfl,rfl,rfl,hb⟩:=open_int Tryz.underlying5 (hval 1 5 v1 rfl rfl) h1
 have bb:=int_bounds_u hb
 obtain⟨c,rfl,rfl,rfl,hc⟩:=open_int Tryz.underlying5 (hval 2 5 v2 rfl rfl) h2
 have bc:=int_bounds_u hc
 clear hA0 hval0
 simp only[List.append_nil]at hW'
 refine(abrackets_any a b c bb.1 bb.2 bc.1 bc.2 W (la_of_laid hL)).mono fun e W' ⟨he,hB⟩=>?_
 subst he
 refine⟨_,rfl,angleBrackets_post (by kernel_rfl) (by kernel_rfl) ?_ ?_ ha hb hc ?_ hW' hB⟩
 · exact rfl
 · exact rfl
 · exact fun _=>rfl
theorem angleBrackets_said:Rows.AngleBracketsSaid :=
 OpenClaim.holds_of_wide 5 Tryz.f5 rfl rfl rfl rfl rfl rfl rfl ⟨rfl,rfl,rfl,rfl,rfl⟩ rfl rfl rfl rfl rfl (by kernel_rfl) Tryz.func5 (by kernel_rfl)
  (of_decide_eq_true (by kernel_rfl)) (by unfold Func.isWrapper;first|(rw[if_pos (by decide +kernel)];kernel_rfl)|(rw[if_neg (by decide +kernel)];exact⟨rfl,rfl⟩))
  (fun os started H enc _=>angleBrackets_lifted os started H enc)
theorem angleBrackets_plain (f:FuncId)(fn:Func)(hf:Tryz.pinned.checked.prog.funcNamed "garboard/garboardlaw06.AngleBrackets" = some f)(hfn:Tryz.pinned.checked.prog.funcs[f]? = some fn) :
 true=Tryz.pinned.checked.prog.looks []∧∀ (j:Nat) t,fn.params[j]? = some t→Tryz.pinned.checked.prog.wantsStandIn t=false:=by
 obtain rfl:f=5:=Option.some.inj ((show Tryz.prog.funcNamed "garboard/garboardlaw06.AngleBrackets" = some 5 by kernel_rfl).symm.trans hf) |>.symm
 obtain rfl:fn=Tryz.f5:=(Option.some.inj (Tryz.func5.symm.trans hfn)).symm
 refine⟨by kernel_rfl,fun j t ht=>?_⟩
 rw[Tryz.params5]at ht
 have hm:=Array.mem_of_getElem? ht
 have ho:t=22∨t=5:=by simp at hm;omega
 rcases ho with rfl|rfl
 · exact(show Tryz.prog.wantsStandIn 22=false by kernel_rfl)
 · exact(show Tryz.prog.wantsStandIn 5=false by kernel_rfl)
theorem angleBrackets_card:Rows.AngleBracketsCardSaid :=
 Claim7.holds_tied_plain_at .later [] _ _ _ _ angleBrackets_said (fun _ h=>by cases h) (by kernel_rfl) (fun _ h=>by cases h) angleBrackets_row_tie rfl ⟨rfl,rfl⟩ (by kernel_rfl) rfl angleBrackets_plain (by kernel_rfl)
end Go.Proofs.YtcihodmmaclihaaGreatDoor
