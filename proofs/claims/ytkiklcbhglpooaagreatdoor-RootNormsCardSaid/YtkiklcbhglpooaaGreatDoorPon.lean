/- texts -/
import Derived.Test.YtkiklcbhglpooaaGreatDoorMz49q
set_option maxRecDepth 100000
set_option maxHeartbeats 20000000
namespace Go.Proofs.YtkiklcbhglpooaaGreatDoor
open Go.ChangeShapes Go.WideShapes Go.ChangeAt Go.WideMaps Go.WideElems Go.RowKit Go.Gb
open Go.ChangeMaps (open_string shut_string)
theorem oJ {H:Type}{enc:TypeId × Value→H}{f:Func}{s:ChangeSpec}{apart fresh handsOn:Bool}{W W':World}{args:Array Value}{d0 d1:DataW H}{gs:List (DataW H)}{ps pa:List MemPlace}
 (hp:f.params.toList=[22,3]) (hr:f.resultTypes=#[4])
 (hf:(s.fn H ([d0,d1]++gs)).args=[d0,d1]) (hf2:(s.fn H ([d0,d1]++gs)).results=[.lit (.bool true)])
 (hv:∀ sp:Nat→Bool,DataW.TrodVars enc Tryz.prog W' sp s.vars (s.fn H ([d0,d1]++gs)).vars [])
 (hT:DataW.TrodAll enc Tryz.prog W' 0 (fun b=>decide (b<W.heap.size)) true [22,3] args.toList [d0,d1] pa)
 (hW:DataW.Whole enc Tryz.prog f.params.toList s.vars apart W args.toList [d0,d1] gs ps) (hB:Below W.heap.size W W') :
 s.post enc Tryz.prog f apart fresh handsOn false W args (.bool true) W':=by
 refine z0t (pa:=pa) hW (fun _ _ _=>?_) ?_ hv (hB.frame _)
 · rw[hr,hf2]
   exact trodAll_mk1 (shut_bool Tryz.underlying4 _)
 · rw[hp,hf]
   exact hT
theorem mO (os:Os)(started:os.Started)(H:Type)(enc:TypeId × Value→H) :
 ReturnsInHanded {} Tryz.checked os 3 .any (fun w args=>(Rows.rootNormsSpec.pre enc Tryz.prog Tryz.f3 [] false w args∧laidMetH Tryz.prog jF w)∧sizedMet enc Tryz.prog Tryz.f3 (OpenSpec.ofChange Rows.rootNormsSpec) false w args)
  (Rows.rootNormsSpec.post enc Tryz.prog Tryz.f3 false true false false):=by
 refine returnsInHanded_of_change_and (C:=Tryz.checked) (X:=fun w _=>laidMetH Tryz.prog jF w) (fun _ _ _ hh h=>h.of_heap hh) own started (by kernel_rfl) Tryz.func3
  (ChangeSpec.witness_shaped (enc:=enc) (C:=Tryz.checked) (os:=os) (X:=fun w _=>laidMetH Tryz.prog jF w) false (World.doorLaid Tryz.prog 4000 os) #[.slice none 0 0,.int .i64 0] 8 rfl (World.shaped_of_RefB (by kernel_rfl) (by kernel_rfl)) (by kernel_rfl) (by kernel_rfl) (by kernel_rfl) (z1l os _)) ?_
 intro W base args ds gs before hval0 hW _ _ hL _;have hval:∀ (j:Nat) t v,Tryz.f3.params[j]? = some t→args[j]? = some v→Value.okWide Tryz.prog W .any base t v:=hval0;have hW':=hW;obtain⟨p,q,hA0,hV,rfl,hfz,hnd⟩:=hW;have hA:DataW.TrodAll enc Tryz.prog W 0 (fun _=>true) true Tryz.f3.params.toList args.toList ds p:=hA0;rw[Tryz.params3]at hA hval;obtain⟨v0,v1,d0,d1,p0,p1,rfl,rfl,rfl,h0,h1⟩:=trodAll_two hA;obtain⟨rfl,rfl⟩:=trodVars_none hV;simp only[List.append_nil]at hW';have hlt:∀ x∈p0++p1,x.block<W.heap.size:=fun x hx=>by simpa using hW'.lt x (by simpa using hx)
 have hlt0:∀ x∈p0,x.block<W.heap.size:=fun x hx=>hlt x (by simp[hx]);have T0:=fun(W':World) (hB:Below W.heap.size W W')=>Below.trod laidOut (by kernel_rfl) (of_decide_eq_true (by kernel_rfl)) h0 hB hlt0;have hlt1:∀ x∈p1,x.block<W.heap.size:=fun x hx=>hlt x (by simp[hx]);have T1:=fun(W':World) (hB:Below W.heap.size W W')=>Below.trod laidOut (by kernel_rfl) (of_decide_eq_true (by kernel_rfl)) h1 hB hlt1;obtain⟨aa,an,ac,aX,rfl,ha⟩:=z0A (hval 0 22 v0 rfl rfl) h0 (hlt0);obtain⟨b,rfl,rfl,rfl,hb⟩:=open_int Tryz.underlying3 (hval 1 3 v1 rfl rfl) h1;have bb:=uo hb;clear hA0 hval0;refine(yF aa an ac aX b bb.1 bb.2 W (vN hL) ha).mono fun e W' ⟨he,hB⟩=>?_;subst he;refine⟨_,rfl,oJ (by kernel_rfl) (by kernel_rfl) ?_ ?_ ?_ (trodAll_cons_mk (T0 W' hB) (trodAll_mk1 (T1 W' hB))) hW' hB⟩
 · exact rfl
 · exact rfl
 · exact fun _=>rfl
theorem oI:Rows.RootNormsSaid :=
 OpenClaim.holds_of_wide 3 Tryz.f3 rfl rfl rfl rfl rfl rfl rfl ⟨rfl,rfl,rfl,rfl,rfl⟩ rfl rfl rfl rfl rfl (by kernel_rfl) Tryz.func3 (by kernel_rfl)
  (of_decide_eq_true (by kernel_rfl)) (by unfold Func.isWrapper;first|(rw[if_pos (by decide +kernel)];kernel_rfl)|(rw[if_neg (by decide +kernel)];exact⟨rfl,rfl⟩))
  (fun os started H enc _=>mO os started H enc)
theorem nH (f:FuncId)(fn:Func)(hf:Tryz.pinned.checked.prog.funcNamed "garboard/garboardlaw05.RootNorms" = some f)(hfn:Tryz.pinned.checked.prog.funcs[f]? = some fn) :
 true=Tryz.pinned.checked.prog.looks []∧∀ (j:Nat) t,fn.params[j]? = some t→Tryz.pinned.checked.prog.wantsStandIn t=false:=by
 obtain rfl:f=3:=Option.some.inj ((show Tryz.prog.funcNamed "garboard/garboardlaw05.RootNorms" = some 3 by kernel_rfl).symm.trans hf) |>.symm
 obtain rfl:fn=Tryz.f3:=(Option.some.inj (Tryz.func3.symm.trans hfn)).symm;refine⟨by kernel_rfl,fun j t ht=>?_⟩;rw[Tryz.params3]at ht;have hm:=Array.mem_of_getElem? ht;have ho:t=22∨t=3:=by simp at hm;omega
 rcases ho with rfl|rfl
 · exact(show Tryz.prog.wantsStandIn 22=false by kernel_rfl)
 · exact(show Tryz.prog.wantsStandIn 3=false by kernel_rfl)
theorem rootNorms_card:Rows.RootNormsCardSaid :=
 Claim7.holds_tied_plain_at .later [] _ _ _ _ oI (fun _ h=>by cases h) (by kernel_rfl) (fun _ h=>by cases h) rootNorms_row_tie rfl ⟨rfl,rfl⟩ (by kernel_rfl) rfl nH (by kernel_rfl)
