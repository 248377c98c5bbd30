/- Texts of this proof, one behind the other. -/
import Derived.Test.YtmigpoiajkihhaaGreatDoorCards
import Derived.Test.YtmigpoiajkihhaaGreatDoorTie
import Derived.Test.YtmigpoiajkihhaaGreatDoorMz3q
import Derived.Test.YtmigpoiajkihhaaGreatDoorMz12q
import Derived.ProofKit
import Derived.LaidMore
import Derived.OpenShut
import Derived.Stop.Joined
import Derived.Lay
import Derived.SevenTiedAt
import Derived.ChangeSame
import Derived.Test.YtmigpoiajkihhaaGreatDoorMz52q
/- What the rows of rational take as laid: eight variables, one of them pinned; a start that fits. -/
namespace Go.Proofs.YtmigpoiajkihhaaGreatDoor
open Go.ChangeShapes Go.WideShapes Go.ChangeAt Go.WideMaps Go.WideElems Go.RowKit
theorem own:ownKnob Tryz.prog.godebug=none:=by kernel_rfl
theorem gTab:Tryz.prog.globalNamed "internal/strconv.uint64pow10" = some 4:=by kernel_rfl
theorem gTabType:(Tryz.prog.globals[4]?).map (·.type)=some 235:=by kernel_rfl
theorem cellsTab:Tryz.prog.cellsOf 235=20:=by kernel_rfl
theorem cellsU64:Tryz.prog.cellsOf 141=1:=by kernel_rfl
theorem gZero:Tryz.prog.globalNamed "garboard/integer.zero" = some 0:=by kernel_rfl
theorem gZeroType:(Tryz.prog.globals[0]?).map (·.type)=some 93:=by kernel_rfl
def laidListQ:List (String × DataW Unit):=[("math/bits.deBruijn32tab",Rows.laid_math_bits_deBruijn32tab),("math/bits.deBruijn64tab",Rows.laid_math_bits_deBruijn64tab),("internal/strconv.uint64pow10",Rows.laid_internal_strconv_uint64pow10),("unicode/utf8.acceptRanges",Rows.laid_unicode_utf8_acceptRanges),("strconv.ErrRange",Rows.laid_strconv_ErrRange),("strconv.ErrSyntax",Rows.laid_strconv_ErrSyntax),("garboard/integer.zero",Rows.laid_garboard_integer_zero),("unicode/utf8.first",Rows.laid_unicode_utf8_first)]
theorem la_of_laidQ {W:World} (h:laidMetH Tryz.prog laidListQ W):La W:=by
 rw [MakeChecks.laidMetH_plain _ _ _ (by kernel_rfl)] at h
 obtain ⟨ps,⟨g0,t0,cs0,f0,p0,q0,hg0,ht0,hv0,hd0,⟨g1,t1,cs1,f1,p1,q1,hg1,ht1,hv1,hd1,⟨g2,t2,cs2,f2,p2,q2,hg2,ht2,hv2,hd2,⟨g3,t3,cs3,f3,p3,q3,hg3,ht3,hv3,hd3,⟨g4,t4,cs4,f4,p4,q4,hg4,ht4,hv4,hd4,⟨g5,t5,cs5,f5,p5,q5,hg5,ht5,hv5,hd5,⟨g6,t6,cs6,f6,p6,q6,hg6,ht6,hv6,hd6,⟨g7,t7,cs7,f7,p7,q7,hg7,ht7,hv7,hd7,_,_⟩,_⟩,_⟩,_⟩,_⟩,_⟩,_⟩,_⟩,_,_⟩:=h
 obtain rfl:=Option.some.inj (gTab.symm.trans hg2)
 obtain rfl:=Option.some.inj (gTabType.symm.trans ht2)
 obtain rfl:=Option.some.inj (gZero.symm.trans hg6)
 obtain rfl:=Option.some.inj (gZeroType.symm.trans ht6)
 refine ⟨?_,?_⟩
 · unfold Tb Lib.TabIs
   rw [hv2]
   congr 1
   apply Array.ext'
   rw [Lib.cells_of_tab (k:=.u64) (zs:=Lib.pow10Tab) Tryz.underlying235 Tryz.underlying141 cellsU64 cellsTab hd2]
 · obtain ⟨k0,k1,hu,e0,o0,e1,o1⟩:∃ k0 k1:Field,Tryz.prog.underlying 93=some (.struct #[k0,k1])∧k0.type=3∧k0.offset=0∧k1.type=9∧k1.offset=1:=⟨_,_,Tryz.underlying93,rfl,rfl,rfl,rfl⟩
   obtain ⟨y0,y1,n,hx,hlen,h0,h1⟩:=trod_struct2 hu hd6
   rw [e0,o0] at h0
   rw [e1,o1] at h1
   obtain ⟨m,hc0,hy0,_⟩:=DataW.trod_int Tryz.underlying3 h0
   obtain ⟨s,hc1,hy1,_⟩:=DataW.trod_string Tryz.underlying9 h1
   subst hy0 hy1
   have hc:Tryz.prog.cellsOf 93=2:=by kernel_rfl
   have hci:Tryz.prog.cellsOf 3=1:=by kernel_rfl
   have hcs:Tryz.prog.cellsOf 9=1:=by kernel_rfl
   rw [hc] at hlen
   rw [hci] at hc0
   rw [hcs] at hc1
   have hd:m=0∧s.data.toList=[48]:=by
    have:=congrArg Prod.fst hx
    simpa [Rows.laid_garboard_integer_zero,eq_comm] using this
   obtain ⟨rfl,hs⟩:=hd
   have hs':s=⟨#[48]⟩:=by
    cases s with
    | mk d=>exact congrArg ByteArray.mk (Array.ext' hs)
   subst hs'
   have hl:cs6.toList=[.int .i64 0,.string ⟨#[48]⟩]:=by
    match hcs6:cs6.toList,hlen with
    | [a,b],_ =>
      rw [hcs6] at hc0 hc1
      simp at hc0 hc1
      rw [hc0,hc1]
   have g0':=World.var?_cell gZero hv6 0
   have g1':=World.var?_cell gZero hv6 1
   have ha:cs6=#[.int .i64 0,.string ⟨#[48]⟩]:=Array.ext' hl
   rw [ha] at g0' g1'
   have c0:W.cell? ⟨0,0,none⟩=some (.int .i64 0):=by simpa using g0'
   have c1:W.cell? ⟨0,1,none⟩=some (.string ⟨#[48]⟩):=by simpa using g1'
   exact ⟨World.block_lt_of_cell? W _ c0,c0,c1⟩
theorem door_metQ (os:Os) (args:Array Value):laidMetH Tryz.prog laidListQ ((World.laidAll Tryz.prog os laidListQ).forCall (fun _ _=>0) ⟨#[],args,[]⟩).memory:=by
 rw [MakeChecks.laidMetH_plain _ _ _ (by kernel_rfl)]
 exact laidMet_laidAll _ (by kernel_rfl) (by kernel_rfl)
theorem door_shapedQ (os:Os):(World.laidAll Tryz.prog os laidListQ).Shaped Tryz.prog:=World.shaped_of_ZipB (by kernel_rfl) (by kernel_rfl)
end Go.Proofs.YtmigpoiajkihhaaGreatDoor
/- What the cards of all laws share. -/
namespace Go.Proofs.YtmigpoiajkihhaaGreatDoor
open Go.ChangeShapes Go.WideShapes Go.ChangeAt Go.WideMaps Go.WideElems Go.RowKit Go.Gb
open Go.ChangeMaps (open_string shut_string)
theorem post_plain {H:Type} {enc:TypeId × Value→H} {P:Program} {f:Func} {s:ChangeSpec} {apart fresh handsOn again:Bool} {W W':World} {args:Array Value} {v:Value} {ds gs:List (DataW H)}
 (hW:DataW.Whole enc P f.params.toList s.vars apart W args.toList ds gs [])
 (hres:∀ (b:Nat) (sp:Nat→Bool) (hd:Bool),DataW.TrodAll enc P W' b sp hd f.resultTypes.toList (v.resultList f.resultTypes.size) (s.fn H (ds ++ gs)).results [])
 (hargs:∀ sp:Nat→Bool,DataW.TrodAll enc P W' 0 sp true f.params.toList args.toList (s.fn H (ds ++ gs)).args [])
 (hvars:∀ sp:Nat→Bool,DataW.TrodVars enc P W' sp s.vars (s.fn H (ds ++ gs)).vars [])
 (hk:W.keptBut W' (fun _=>False))
 (hok:∀ (j:Nat) (t:TypeId) (r:Value),f.resultTypes[j]? = some t→(v.resultList f.resultTypes.size)[j]? = some r→Value.okWide P W' .any 0 t r) :
 s.post enc P f apart fresh handsOn again W args v W':=by
 refine ⟨ds,gs,[],[],[],[],hW,hres _ _ _,hargs _,hvars _,World.keptBut_mono (fun p hp=>hp.elim) hk,fun _=>?_⟩
 refine ⟨hok,_,_,([] ++ []) ++ [],⟨[] ++ [],[],trodAll_append (hargs _) (hres _ _ _),hvars _,rfl,?_,?_⟩,?_⟩
 · intro b off hp
   simp at hp
 · intro ha
   simp
 · intro p hp _
   simp at hp
end Go.Proofs.YtmigpoiajkihhaaGreatDoor
/- garboardlaw03.RationalTexts: the card. -/
namespace Go.Proofs.YtmigpoiajkihhaaGreatDoor
set_option maxRecDepth 100000
set_option maxHeartbeats 20000000
open Go.ChangeShapes Go.WideShapes Go.ChangeAt Go.WideMaps Go.WideElems Go.RowKit Go.Gb
open Go.ChangeMaps (open_string shut_string)
theorem rationalTexts_post {H:Type} {enc:TypeId × Value→H} {f:Func} {s:ChangeSpec} {apart fresh handsOn again:Bool} {W W':World} {a:ByteArray} {b:Int} {c:ByteArray} {ds gs:List (DataW H)}
 (hp:f.params.toList=[22,3,9]) (hr:f.resultTypes=#[4])
 (hf:(s.fn H (ds ++ gs)).args=[.lit (.string a.data.toList),.lit (.int .i64 b),.lit (.string c.data.toList)]) (hf2:(s.fn H (ds ++ gs)).results=[.lit (.bool true)])
 (ha:a.size≤maxLen) (hb:(Lit.int .i64 b).wf=true) (hc:c.size≤maxLen)
 (hv:∀ sp:Nat→Bool,DataW.TrodVars enc Tryz.prog W' sp s.vars (s.fn H (ds ++ gs)).vars [])
 (hW:DataW.Whole enc Tryz.prog f.params.toList s.vars apart W #[Value.string a,Value.int .i64 b,Value.string c].toList ds gs []) (hB:Below W.heap.size W W') :
 s.post enc Tryz.prog f apart fresh handsOn again W #[.string a,.int .i64 b,.string c] (.bool true) W':=by
 refine post_plain hW (fun _ _ _=>?_) (fun _=>?_) hv (hB.frame _) ?_
 · rw [hr,hf2]
   exact trodAll_mk1 (shut_bool Tryz.underlying4 _)
 · rw [hp,hf]
   exact trodAll_cons_mk (shut_string Tryz.underlying22 ha) (trodAll_cons_mk (shut_int Tryz.underlying3 hb) (trodAll_mk1 (shut_string Tryz.underlying9 hc)))
 · exact ok_one hr rfl (okWide_bool_mk Tryz.underlying4 _)
theorem rationalTexts_lifted (os:Os) (started:os.Started) (H:Type) (enc:TypeId × Value→H) :
 ReturnsInHanded {} Tryz.checked os 5 .any (fun w args=>(Rows.rationalTextsSpec.pre enc Tryz.prog Tryz.f5 [] false w args∧laidMetH Tryz.prog laidListQ w)∧sizedMet enc Tryz.prog Tryz.f5 (OpenSpec.ofChange Rows.rationalTextsSpec) false w args)
  (Rows.rationalTextsSpec.post enc Tryz.prog Tryz.f5 false true false false):=by
 refine returnsInHanded_of_change_and (C:=Tryz.checked) (X:=fun w _=>laidMetH Tryz.prog laidListQ w) (fun _ _ _ hh h=>h.of_heap hh) own started (by kernel_rfl) Tryz.func5
  (ChangeSpec.witness_shaped (enc:=enc) (C:=Tryz.checked) (os:=os) (X:=fun w _=>laidMetH Tryz.prog laidListQ w) false (World.laidAll Tryz.prog os laidListQ) #[.string ⟨#[]⟩,.int .i64 0,.string ⟨#[]⟩] 8 (World.laidAll_os _ _ _) (door_shapedQ os) (by kernel_rfl) (by kernel_rfl) (by kernel_rfl) (door_metQ os _)) ?_
 intro W base args ds gs before hval0 hW _ _ hL _
 have hval:∀ (j:Nat) t v,Tryz.f5.params[j]? = some t→args[j]? = some v→Value.okWide Tryz.prog W .any base t v:=hval0
 have hW':=hW
 obtain ⟨p,q,hA0,hV,rfl,hfz,hnd⟩:=hW
 have hA:DataW.TrodAll enc Tryz.prog W 0 (fun _=>true) true Tryz.f5.params.toList args.toList ds p:=hA0
 rw [Tryz.params5] at hA hval
 obtain ⟨v0,v1,v2,d0,d1,d2,p0,p1,p2,rfl,rfl,rfl,h0,h1,h2⟩:=trodAll_three hA
 obtain ⟨rfl,rfl⟩:=trodVars_none hV
 obtain ⟨a,rfl,rfl,rfl,ha⟩:=open_string Tryz.underlying22 (hval 0 22 v0 rfl rfl) h0
 obtain ⟨b,rfl,rfl,rfl,hb⟩:=open_int Tryz.underlying3 (hval 1 3 v1 rfl rfl) h1
 obtain ⟨c,rfl,rfl,rfl,hc⟩:=open_string Tryz.underlying9 (hval 2 9 v2 rfl rfl) h2
 clear hA0 hval0
 simp only [List.append_nil] at hW'
 refine (qtext_wf a b c hb W (la_of_laidQ hL)).mono fun e W' ⟨he,hB⟩=>?_
 subst he
 refine ⟨_,rfl,rationalTexts_post (by kernel_rfl) (by kernel_rfl) ?_ ?_ ha hb hc ?_ hW' hB⟩
 · exact rfl
 · exact rfl
 · exact fun _=>rfl
theorem rationalTexts_said:Rows.RationalTextsSaid :=
 OpenClaim.holds_of_wide 5 Tryz.f5 rfl rfl rfl rfl rfl rfl rfl ⟨rfl,rfl,rfl,rfl,rfl⟩ rfl rfl rfl rfl rfl (by kernel_rfl) Tryz.func5 (by kernel_rfl)
  (of_decide_eq_true (by kernel_rfl)) (by unfold Func.isWrapper;first|(rw [if_pos (by decide +kernel)];kernel_rfl)|(rw [if_neg (by decide +kernel)];exact ⟨rfl,rfl⟩))
  (fun os started H enc _=>rationalTexts_lifted os started H enc)
theorem rationalTexts_plain (f:FuncId) (fn:Func) (hf:Tryz.pinned.checked.prog.funcNamed "garboard/garboardlaw03.RationalTexts" = some f) (hfn:Tryz.pinned.checked.prog.funcs[f]? = some fn) :
 true=Tryz.pinned.checked.prog.looks []∧∀ (j:Nat) t,fn.params[j]? = some t→Tryz.pinned.checked.prog.wantsStandIn t=false:=by
 obtain rfl:f=5:=Option.some.inj ((show Tryz.prog.funcNamed "garboard/garboardlaw03.RationalTexts" = some 5 by kernel_rfl).symm.trans hf) |>.symm
 obtain rfl:fn=Tryz.f5:=(Option.some.inj (Tryz.func5.symm.trans hfn)).symm
 refine ⟨by kernel_rfl,fun j t ht=>?_⟩
 rw [Tryz.params5] at ht
 have hm:=Array.mem_of_getElem? ht
 have ho:t=22∨t=3∨t=9:=by simp at hm;omega
 rcases ho with rfl|rfl|rfl
 · exact (show Tryz.prog.wantsStandIn 22=false by kernel_rfl)
 · exact (show Tryz.prog.wantsStandIn 3=false by kernel_rfl)
 · exact (show Tryz.prog.wantsStandIn 9=false by kernel_rfl)
theorem rationalTexts_card:Rows.RationalTextsCardSaid :=
 Claim7.holds_tied_plain_at .later [] _ _ _ _ rationalTexts_said (fun _ h=>by cases h) (by kernel_rfl) (fun _ h=>by cases h) rationalTexts_row_tie rfl ⟨rfl,rfl⟩ (by kernel_rfl) rfl rationalTexts_plain (by kernel_rfl)
end Go.Proofs.YtmigpoiajkihhaaGreatDoor
