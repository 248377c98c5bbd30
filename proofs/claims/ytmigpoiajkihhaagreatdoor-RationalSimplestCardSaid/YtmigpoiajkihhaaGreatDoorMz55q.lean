/- Texts of this proof, one behind the other. -/
import Derived.Test.YtmigpoiajkihhaaGreatDoorCards
import Derived.Test.YtmigpoiajkihhaaGreatDoorTie
import Derived.ProofKit
import Derived.LaidMore
import Derived.OpenShut
import Derived.Lay
import Derived.Test.YtmigpoiajkihhaaGreatDoorMz52q
open Go.Proofs.Tryz
namespace Go.Proofs.YtmigpoiajkihhaaGreatDoor
open Go.ChangeShapes Go.WideShapes Go.ChangeAt Go.WideMaps Go.WideElems Go.RowKit
theorem own:ownKnob Tryz.prog.godebug=none:=by kernel_rfl
theorem gTab:Tryz.prog.globalNamed "internal/strconv.uint64pow10" = some 4:=by kernel_rfl
theorem z1r:(Tryz.prog.globals[4]?).map (·.type)=some 235:=by kernel_rfl
theorem z1G:Tryz.prog.cellsOf 235=20:=by kernel_rfl
theorem z1F:Tryz.prog.cellsOf 141=1:=by kernel_rfl
theorem z2S:Tryz.prog.globalNamed "garboard/integer.zero" = some 0:=by kernel_rfl
theorem zS:(Tryz.prog.globals[0]?).map (·.type)=some 93:=by kernel_rfl
def fw:List (String × DataW Unit):=[("math/bits.deBruijn32tab",Rows.laid_math_bits_deBruijn32tab),("math/bits.deBruijn64tab",Rows.laid_math_bits_deBruijn64tab),("internal/strconv.uint64pow10",Rows.laid_internal_strconv_uint64pow10),("unicode/utf8.acceptRanges",Rows.laid_unicode_utf8_acceptRanges),("strconv.ErrRange",Rows.laid_strconv_ErrRange),("strconv.ErrSyntax",Rows.laid_strconv_ErrSyntax),("garboard/integer.zero",Rows.laid_garboard_integer_zero),("unicode/utf8.first",Rows.laid_unicode_utf8_first)]
theorem uM {W:World}(h:laidMetH Tryz.prog fw W):La W:=by
 rw[MakeChecks.laidMetH_plain _ _ _ (by kernel_rfl)]at h
 obtain⟨ps,⟨g0,t0,cs0,f0,p0,q0,hg0,ht0,hv0,hd0,⟨g1,t1,cs1,f1,p1,q1,hg1,ht1,hv1,hd1,⟨g2,t2,cs2,f2,p2,q2,hg2,ht2,hv2,hd2,⟨g3,t3,cs3,f3,p3,q3,hg3,ht3,hv3,hd3,⟨g4,t4,cs4,f4,p4,q4,hg4,ht4,hv4,hd4,⟨g5,t5,cs5,f5,p5,q5,hg5,ht5,hv5,hd5,⟨g6,t6,cs6,f6,p6,q6,hg6,ht6,hv6,hd6,⟨g7,t7,cs7,f7,p7,q7,hg7,ht7,hv7,hd7,_,_⟩,_⟩,_⟩,_⟩,_⟩,_⟩,_⟩,_⟩,_,_⟩:=h
 obtain rfl:=Option.some.inj (gTab.symm.trans hg2)
 obtain rfl:=Option.some.inj (z1r.symm.trans ht2)
 obtain rfl:=Option.some.inj (z2S.symm.trans hg6)
 obtain rfl:=Option.some.inj (zS.symm.trans ht6)
 refine⟨?_,?_⟩
 · unfold Tb Lib.TabIs
   rw[hv2]
   congr 1
   apply Array.ext'
   rw[Lib.cells_of_tab (k:=.u64) (zs:=Lib.pow10Tab) underlying235 underlying141 z1F z1G hd2]
 · obtain⟨k0,k1,hu,e0,o0,e1,o1⟩:∃ k0 k1:Field,Tryz.prog.underlying 93=some (.struct #[k0,k1])∧k0.type=3∧k0.offset=0∧k1.type=9∧k1.offset=1:=⟨_,_,underlying93,rfl,rfl,rfl,rfl⟩
   obtain⟨y0,y1,n,hx,hlen,h0,h1⟩:=trod_struct2 hu hd6
   rw[e0,o0]at h0
   rw[e1,o1]at h1
   obtain⟨m,hc0,hy0,_⟩:=DataW.trod_int underlying3 h0
   obtain⟨s,hc1,hy1,_⟩:=DataW.trod_string underlying9 h1
   subst hy0 hy1
   have hc:Tryz.prog.cellsOf 93=2:=by kernel_rfl
   have hci:Tryz.prog.cellsOf 3=1:=by kernel_rfl
   have hcs:Tryz.prog.cellsOf 9=1:=by kernel_rfl
   rw[hc]at hlen
   rw[hci]at hc0
   rw[hcs]at hc1
   have hd:m=0∧s.data.toList=[48]:=by
    have:=congrArg Prod.fst hx
    simpa [Rows.laid_garboard_integer_zero,eq_comm] using this
   obtain⟨rfl,hs⟩:=hd
   have hs':s=⟨#[48]⟩:=by
    cases s with
    | mk d=>exact congrArg ByteArray.mk (Array.ext' hs)
   subst hs'
   have hl:cs6.toList=[.int .i64 0,.string ⟨#[48]⟩]:=by
    match hcs6:cs6.toList,hlen with
    | [a,b],_ =>
      rw[hcs6]at hc0 hc1
      simp at hc0 hc1
      rw[hc0,hc1]
   have g0':=World.var?_cell z2S hv6 0
   have g1':=World.var?_cell z2S hv6 1
   have ha:cs6=#[.int .i64 0,.string ⟨#[48]⟩]:=Array.ext' hl
   rw[ha]at g0' g1'
   have c0:W.cell? ⟨0,0,none⟩=some (.int .i64 0):=by simpa using g0'
   have c1:W.cell? ⟨0,1,none⟩=some (.string ⟨#[48]⟩):=by simpa using g1'
   exact⟨World.block_lt_of_cell? W _ c0,c0,c1⟩
theorem z03 (os:Os)(args:Array Value):laidMetH Tryz.prog fw ((World.laidAll Tryz.prog os fw).forCall (fun _ _=>0) ⟨#[],args,[]⟩).memory:=by
 rw[MakeChecks.laidMetH_plain _ _ _ (by kernel_rfl)]
 exact laidMet_laidAll _ (by kernel_rfl) (by kernel_rfl)
theorem sZ (os:Os):(World.laidAll Tryz.prog os fw).Shaped Tryz.prog:=World.shaped_of_ZipB (by kernel_rfl) (by kernel_rfl)
end Go.Proofs.YtmigpoiajkihhaaGreatDoor
namespace Go.Proofs.YtmigpoiajkihhaaGreatDoor
open Go.ChangeShapes Go.WideShapes Go.ChangeAt Go.WideMaps Go.WideElems Go.RowKit Go.Gb
open Go.ChangeMaps (open_string shut_string)
theorem xL {H:Type}{enc:TypeId × Value→H}{P:Program}{f:Func}{s:ChangeSpec}{apart fresh handsOn again:Bool}{W W':World}{args:Array Value}{v:Value}{ds gs:List (DataW H)}
 (hW:DataW.Whole enc P f.params.toList s.vars apart W args.toList ds gs [])
 (hres:∀ (b:Nat) (sp:Nat→Bool) (hd:Bool),DataW.TrodAll enc P W' b sp hd f.resultTypes.toList (v.resultList f.resultTypes.size) (s.fn H (ds++gs)).results [])
 (hargs:∀ sp:Nat→Bool,DataW.TrodAll enc P W' 0 sp true f.params.toList args.toList (s.fn H (ds++gs)).args [])
 (hvars:∀ sp:Nat→Bool,DataW.TrodVars enc P W' sp s.vars (s.fn H (ds++gs)).vars [])
 (hk:W.keptBut W' (fun _=>False))
 (hok:∀ (j:Nat) (t:TypeId) (r:Value),f.resultTypes[j]? = some t→(v.resultList f.resultTypes.size)[j]? = some r→Value.okWide P W' .any 0 t r) :
 s.post enc P f apart fresh handsOn again W args v W':=by
 refine⟨ds,gs,[],[],[],[],hW,hres _ _ _,hargs _,hvars _,World.keptBut_mono (fun p hp=>hp.elim) hk,fun _=>?_⟩
 refine⟨hok,_,_,([]++[])++[],⟨[]++[],[],trodAll_append (hargs _) (hres _ _ _),hvars _,rfl,?_,?_⟩,?_⟩
 · intro b off hp
   simp at hp
 · intro ha
   simp
 · intro p hp _
   simp at hp
end Go.Proofs.YtmigpoiajkihhaaGreatDoor
set_option maxRecDepth 100000
set_option maxHeartbeats 20000000
namespace Go.Proofs.YtmigpoiajkihhaaGreatDoor
open Go.ChangeShapes Go.WideShapes Go.ChangeAt Go.WideMaps Go.WideElems Go.RowKit Go.Gb
open Go.ChangeMaps (open_string shut_string)
theorem j5 {H:Type}{enc:TypeId × Value→H}{f:Func}{s:ChangeSpec}{apart fresh handsOn again:Bool}{W W':World}{a:ByteArray}{b:ByteArray}{ds gs:List (DataW H)}
 (hp:f.params.toList=[22,22]) (hr:f.resultTypes=#[4])
 (hf:(s.fn H (ds++gs)).args=[.lit (.string a.data.toList),.lit (.string b.data.toList)]) (hf2:(s.fn H (ds++gs)).results=[.lit (.bool true)])
 (ha:a.size≤maxLen) (hb:b.size≤maxLen)
 (hv:∀ sp:Nat→Bool,DataW.TrodVars enc Tryz.prog W' sp s.vars (s.fn H (ds++gs)).vars [])
 (hW:DataW.Whole enc Tryz.prog f.params.toList s.vars apart W #[Value.string a,Value.string b].toList ds gs []) (hB:Below W.heap.size W W') :
 s.post enc Tryz.prog f apart fresh handsOn again W #[.string a,.string b] (.bool true) W':=by
 refine xL hW (fun _ _ _=>?_) (fun _=>?_) hv (hB.frame _) ?_
 · rw[hr,hf2]
   exact trodAll_mk1 (shut_bool underlying4 _)
 · rw[hp,hf]
   exact trodAll_cons_mk (shut_string underlying22 ha) (trodAll_mk1 (shut_string underlying22 hb))
 · exact ok_one hr rfl (okWide_bool_mk underlying4 _)
theorem iH (os:Os)(started:os.Started)(H:Type)(enc:TypeId × Value→H) :
 ReturnsInHanded {} Tryz.checked os 6 .any (fun w args=>(Rows.rationalSimplestSpec.pre enc Tryz.prog Tryz.f6 [] false w args∧laidMetH Tryz.prog fw w)∧sizedMet enc Tryz.prog Tryz.f6 (OpenSpec.ofChange Rows.rationalSimplestSpec) false w args)
  (Rows.rationalSimplestSpec.post enc Tryz.prog Tryz.f6 false true false false):=by
 refine returnsInHanded_of_change_and (C:=Tryz.checked) (X:=fun w _=>laidMetH Tryz.prog fw w) (fun _ _ _ hh h=>h.of_heap hh) own started (by kernel_rfl) func6
  (ChangeSpec.witness_shaped (enc:=enc) (C:=Tryz.checked) (os:=os) (X:=fun w _=>laidMetH Tryz.prog fw w) false (World.laidAll Tryz.prog os fw) #[.string ⟨#[]⟩,.string ⟨#[]⟩] 8 (World.laidAll_os _ _ _) (sZ os) (by kernel_rfl) (by kernel_rfl) (by kernel_rfl) (z03 os _)) ?_
 intro W base args ds gs before hval0 hW _ _ hL _
 have hval:∀ (j:Nat) t v,Tryz.f6.params[j]? = some t→args[j]? = some v→Value.okWide Tryz.prog W .any base t v:=hval0
 have hW':=hW
 obtain⟨p,q,hA0,hV,rfl,hfz,hnd⟩:=hW
 have hA:DataW.TrodAll enc Tryz.prog W 0 (fun _=>true) true Tryz.f6.params.toList args.toList ds p:=hA0
 rw[Tryz.params6]at hA hval
 obtain⟨v0,v1,d0,d1,p0,p1,rfl,rfl,rfl,h0,h1⟩:=trodAll_two hA
 obtain⟨rfl,rfl⟩:=trodVars_none hV
 obtain⟨a,rfl,rfl,rfl,ha⟩:=open_string underlying22 (hval 0 22 v0 rfl rfl) h0
 obtain⟨b,rfl,rfl,rfl,hb⟩:=open_string underlying22 (hval 1 22 v1 rfl rfl) h1
 clear hA0 hval0
 simp only[List.append_nil]at hW'
 refine(zn a b  W (uM hL)).mono fun e W' ⟨he,hB⟩=>?_
 subst he
 refine⟨_,rfl,j5 (by kernel_rfl) (by kernel_rfl) ?_ ?_ ha hb ?_ hW' hB⟩
 · exact rfl
 · exact rfl
 · exact fun _=>rfl
theorem iZ:Rows.RationalSimplestSaid :=
 OpenClaim.holds_of_wide 6 Tryz.f6 rfl rfl rfl rfl rfl rfl rfl ⟨rfl,rfl,rfl,rfl,rfl⟩ rfl rfl rfl rfl rfl (by kernel_rfl) func6 (by kernel_rfl)
  (of_decide_eq_true (by kernel_rfl)) (by unfold Func.isWrapper;first|(rw[if_pos (by decide +kernel)];kernel_rfl)|(rw[if_neg (by decide +kernel)];exact⟨rfl,rfl⟩))
  (fun os started H enc _=>iH os started H enc)
theorem iQ (f:FuncId)(fn:Func)(hf:Tryz.pinned.checked.prog.funcNamed "garboard/garboardlaw03.RationalSimplest" = some f)(hfn:Tryz.pinned.checked.prog.funcs[f]? = some fn) :
 true=Tryz.pinned.checked.prog.looks []∧∀ (j:Nat) t,fn.params[j]? = some t→Tryz.pinned.checked.prog.wantsStandIn t=false:=by
 obtain rfl:f=6:=Option.some.inj ((show Tryz.prog.funcNamed "garboard/garboardlaw03.RationalSimplest" = some 6 by kernel_rfl).symm.trans hf) |>.symm
 obtain rfl:fn=Tryz.f6:=(Option.some.inj (func6.symm.trans hfn)).symm
 refine⟨by kernel_rfl,fun j t ht=>?_⟩
 rw[Tryz.params6]at ht
 obtain rfl:t=22:=by simpa using Array.mem_of_getElem? ht
 exact(show Tryz.prog.wantsStandIn 22=false by kernel_rfl)
theorem rationalSimplest_card:Rows.RationalSimplestCardSaid :=
 Claim7.holds_tied_plain_at .later [] _ _ _ _ iZ (fun _ h=>by cases h) (by kernel_rfl) (fun _ h=>by cases h) rationalSimplest_row_tie rfl ⟨rfl,rfl⟩ (by kernel_rfl) rfl iQ (by kernel_rfl)
end Go.Proofs.YtmigpoiajkihhaaGreatDoor
