/- texts -/
import Derived.Test.YteihfbkaieemdaaGreatDoorMz49q
set_option maxRecDepth 100000
set_option maxHeartbeats 20000000
namespace Go.Proofs.YteihfbkaieemdaaGreatDoor
open Go.ChangeShapes Go.WideShapes Go.ChangeAt Go.WideMaps Go.WideElems Go.RowKit Go.Gb
open Go.ChangeMaps (open_string shut_string)
theorem kX {H:Type}{enc:TypeId × Value→H}{f:Func}{s:ChangeSpec}{apart fresh handsOn:Bool}{W W':World}{args:Array Value}{d0 d1 d2 d3:DataW H}{gs:List (DataW H)}{ps pa:List MemPlace}
 (hp:f.params.toList=[24,24,32,3]) (hr:f.resultTypes=#[4])
 (hf:(s.fn H ([d0,d1,d2,d3]++gs)).args=[d0,d1,d2,d3]) (hf2:(s.fn H ([d0,d1,d2,d3]++gs)).results=[.lit (.bool true)])
 (hv:∀ sp:Nat→Bool,DataW.TrodVars enc Tryz.prog W' sp s.vars (s.fn H ([d0,d1,d2,d3]++gs)).vars [])
 (hT:DataW.TrodAll enc Tryz.prog W' 0 (fun b=>decide (b<W.heap.size)) true [24,24,32,3] args.toList [d0,d1,d2,d3] pa)
 (hW:DataW.Whole enc Tryz.prog f.params.toList s.vars apart W args.toList [d0,d1,d2,d3] gs ps) (hB:Below W.heap.size W W') :
 s.post enc Tryz.prog f apart fresh handsOn false W args (.bool true) W':=by
 refine zZ (pa:=pa) hW (fun _ _ _=>?_) ?_ hv (hB.frame _)
 · rw[hr,hf2]
   exact trodAll_mk1 (shut_bool Tryz.underlying4 _)
 · rw[hp,hf]
   exact hT
theorem jY (os:Os)(started:os.Started)(H:Type)(enc:TypeId × Value→H) :
 ReturnsInHanded {} Tryz.checked os 4 .any (fun w args=>(Rows.intervalJoinsSpec.pre enc Tryz.prog Tryz.f4 [] false w args∧laidMetH Tryz.prog jE w)∧sizedMet enc Tryz.prog Tryz.f4 (OpenSpec.ofChange Rows.intervalJoinsSpec) false w args)
  (Rows.intervalJoinsSpec.post enc Tryz.prog Tryz.f4 false true false false):=by
 refine returnsInHanded_of_change_and (C:=Tryz.checked) (X:=fun w _=>laidMetH Tryz.prog jE w) (fun _ _ _ hh h=>h.of_heap hh) own started (by kernel_rfl) Tryz.func4
  (ChangeSpec.witness_shaped (enc:=enc) (C:=Tryz.checked) (os:=os) (X:=fun w _=>laidMetH Tryz.prog jE w) false (World.doorLaid Tryz.prog 4000 os) #[.agg #[.string ⟨#[]⟩,.string ⟨#[]⟩],.agg #[.string ⟨#[]⟩,.string ⟨#[]⟩],.slice none 0 0,.int .i64 0] 8 rfl (World.shaped_of_RefB (by kernel_rfl) (by kernel_rfl)) (by kernel_rfl) (by kernel_rfl) (by kernel_rfl) (z0L os _)) ?_
 intro W base args ds gs before hval0 hW _ _ hL _;have hval:∀ (j:Nat) t v,Tryz.f4.params[j]? = some t→args[j]? = some v→Value.okWide Tryz.prog W .any base t v:=hval0;have hW':=hW;obtain⟨p,q,hA0,hV,rfl,hfz,hnd⟩:=hW;have hA:DataW.TrodAll enc Tryz.prog W 0 (fun _=>true) true Tryz.f4.params.toList args.toList ds p:=hA0;rw[Tryz.params4]at hA hval;obtain⟨v0,v1,v2,v3,d0,d1,d2,d3,p0,p1,p2,p3,rfl,rfl,rfl,h0,h1,h2,h3⟩:=trodAll_four hA;obtain⟨rfl,rfl⟩:=trodVars_none hV;simp only[List.append_nil]at hW';have hlt:∀ x∈p0++p1++p2++p3,x.block<W.heap.size:=fun x hx=>by simpa using hW'.lt x (by simpa using hx)
 have hlt0:∀ x∈p0,x.block<W.heap.size:=fun x hx=>hlt x (by simp[hx]);have T0:=fun(W':World) (hB:Below W.heap.size W W')=>Below.trod laidOut (by kernel_rfl) (of_decide_eq_true (by kernel_rfl)) h0 hB hlt0;have hlt1:∀ x∈p1,x.block<W.heap.size:=fun x hx=>hlt x (by simp[hx]);have T1:=fun(W':World) (hB:Below W.heap.size W W')=>Below.trod laidOut (by kernel_rfl) (of_decide_eq_true (by kernel_rfl)) h1 hB hlt1;have hlt2:∀ x∈p2,x.block<W.heap.size:=fun x hx=>hlt x (by simp[hx]);have T2:=fun(W':World) (hB:Below W.heap.size W W')=>Below.trod laidOut (by kernel_rfl) (of_decide_eq_true (by kernel_rfl)) h2 hB hlt2;have hlt3:∀ x∈p3,x.block<W.heap.size:=fun x hx=>hlt x (by simp[hx]);have T3:=fun(W':World) (hB:Below W.heap.size W W')=>Below.trod laidOut (by kernel_rfl) (of_decide_eq_true (by kernel_rfl)) h3 hB hlt3;obtain⟨al,au,rfl,rfl,rfl,hal,hau⟩:=z04 (hval 0 24 v0 rfl rfl) h0;obtain⟨bl,bu,rfl,rfl,rfl,hbl,hbu⟩:=z04 (hval 1 24 v1 rfl rfl) h1;obtain⟨ca,cn,cc,cX,rfl,hc⟩:=yw (hval 2 32 v2 rfl rfl) h2 (hlt2);obtain⟨d,rfl,rfl,rfl,hd⟩:=open_int Tryz.underlying3 (hval 3 3 v3 rfl rfl) h3;have bd:=tL hd;clear hA0 hval0;refine(vg al au bl bu ca cn cc cX d bd.1 bd.2 W (yB hL) hc).mono fun e W' ⟨he,hB⟩=>?_;subst he;refine⟨_,rfl,kX (by kernel_rfl) (by kernel_rfl) ?_ ?_ ?_ (trodAll_cons_mk (T0 W' hB) (trodAll_cons_mk (T1 W' hB) (trodAll_cons_mk (T2 W' hB) (trodAll_mk1 (T3 W' hB))))) hW' hB⟩
 · exact rfl
 · exact rfl
 · exact fun _=>rfl
theorem kW:Rows.IntervalJoinsSaid :=
 OpenClaim.holds_of_wide 4 Tryz.f4 rfl rfl rfl rfl rfl rfl rfl ⟨rfl,rfl,rfl,rfl,rfl⟩ rfl rfl rfl rfl rfl (by kernel_rfl) Tryz.func4 (by kernel_rfl)
  (of_decide_eq_true (by kernel_rfl)) (by unfold Func.isWrapper;first|(rw[if_pos (by decide +kernel)];kernel_rfl)|(rw[if_neg (by decide +kernel)];exact⟨rfl,rfl⟩))
  (fun os started H enc _=>jY os started H enc)
theorem kC (f:FuncId)(fn:Func)(hf:Tryz.pinned.checked.prog.funcNamed "garboard/garboardlaw04.IntervalJoins" = some f)(hfn:Tryz.pinned.checked.prog.funcs[f]? = some fn) :
 true=Tryz.pinned.checked.prog.looks []∧∀ (j:Nat) t,fn.params[j]? = some t→Tryz.pinned.checked.prog.wantsStandIn t=false:=by
 obtain rfl:f=4:=Option.some.inj ((show Tryz.prog.funcNamed "garboard/garboardlaw04.IntervalJoins" = some 4 by kernel_rfl).symm.trans hf) |>.symm
 obtain rfl:fn=Tryz.f4:=(Option.some.inj (Tryz.func4.symm.trans hfn)).symm;refine⟨by kernel_rfl,fun j t ht=>?_⟩;rw[Tryz.params4]at ht;have hm:=Array.mem_of_getElem? ht;have ho:t=24∨t=32∨t=3:=by simp at hm;omega
 rcases ho with rfl|rfl|rfl
 · exact(show Tryz.prog.wantsStandIn 24=false by kernel_rfl)
 · exact(show Tryz.prog.wantsStandIn 32=false by kernel_rfl)
 · exact(show Tryz.prog.wantsStandIn 3=false by kernel_rfl)
theorem intervalJoins_card:Rows.IntervalJoinsCardSaid :=
 Claim7.holds_tied_plain_at .later [] _ _ _ _ kW (fun _ h=>by cases h) (by kernel_rfl) (fun _ h=>by cases h) intervalJoins_row_tie rfl ⟨rfl,rfl⟩ (by kernel_rfl) rfl kC (by kernel_rfl)
