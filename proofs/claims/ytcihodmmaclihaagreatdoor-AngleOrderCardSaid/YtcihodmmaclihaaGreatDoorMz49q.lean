/- Texts of this proof, one behind the other. -/
import Derived.Test.YtcihodmmaclihaaGreatDoorCards
import Derived.Test.YtcihodmmaclihaaGreatDoorTie
import Derived.LaidMore
import Derived.Lib.SmallJoins
import Derived.Test.YtcihodmmaclihaaGreatDoorMz43q
namespace Go.Proofs.YtcihodmmaclihaaGreatDoor
open Go.ChangeShapes Go.WideShapes Go.ChangeAt Go.WideMaps Go.WideElems Go.RowKit
theorem own:ownKnob Tryz.prog.godebug=none:=by kernel_rfl
theorem gTab:Tryz.prog.globalNamed "internal/strconv.uint64pow10" = some 4:=by kernel_rfl
theorem gTabType:(Tryz.prog.globals[4]?).map (·.type)=some 191:=by kernel_rfl
theorem cellsTab:Tryz.prog.cellsOf 191=20:=by kernel_rfl
theorem cellsU64:Tryz.prog.cellsOf 143=1:=by kernel_rfl
def laidList:List (String × DataW Unit):=[("math/bits.deBruijn32tab",Rows.laid_math_bits_deBruijn32tab),("math/bits.deBruijn64tab",Rows.laid_math_bits_deBruijn64tab),("internal/strconv.uint64pow10",Rows.laid_internal_strconv_uint64pow10),("strconv.ErrRange",Rows.laid_strconv_ErrRange),("strconv.ErrSyntax",Rows.laid_strconv_ErrSyntax)]
theorem tb_of_laid {W:World}(h:laidMetH Tryz.prog laidList W):Tb W:=by
 rw[MakeChecks.laidMetH_plain _ _ _ (by kernel_rfl)]at h
 obtain⟨ps,⟨g0,t0,cs0,f0,p0,q0,hg0,ht0,hv0,hd0,⟨g1,t1,cs1,f1,p1,q1,hg1,ht1,hv1,hd1,⟨g2,t2,cs2,f2,p2,q2,hg2,ht2,hv2,hd2,_,_⟩,_⟩,_⟩,_,_⟩:=h
 obtain rfl:=Option.some.inj (gTab.symm.trans hg2)
 obtain rfl:=Option.some.inj (gTabType.symm.trans ht2)
 unfold Tb Lib.TabIs
 rw[hv2]
 congr 1
 apply Array.ext'
 rw[Lib.cells_of_tab (k:=.u64) (zs:=Lib.pow10Tab) Tryz.underlying191 Tryz.underlying143 cellsU64 cellsTab hd2]
theorem door_met (os:Os)(args:Array Value):laidMetH Tryz.prog laidList ((World.doorLaid Tryz.prog 4000 os).forCall (fun _ _=>0) ⟨#[],args,[]⟩).memory:=by
 rw[MakeChecks.laidMetH_plain _ _ _ (by kernel_rfl)]
 exact laidMet_of_run' 8 (by kernel_rfl) (by kernel_rfl)
end Go.Proofs.YtcihodmmaclihaaGreatDoor
namespace Go.Proofs.YtcihodmmaclihaaGreatDoor
open Go.ChangeShapes Go.WideShapes Go.ChangeAt Go.WideMaps Go.WideElems Go.RowKit Go.Gb
open Go.ChangeMaps (open_string shut_string)
theorem post_plain {H:Type}{enc:TypeId × Value→H}{P:Program}{f:Func}{s:ChangeSpec}{apart fresh handsOn again:Bool}{W W':World}{args:Array Value}{v:Value}{ds gs:List (DataW H)}
 (hW:DataW.Whole enc P f.params.toList s.vars apart W args.toList ds gs [])
 (hres:∀ (b:Nat) (sp:Nat→Bool) (hd:Bool),DataW.TrodAll enc P W' b sp hd f.resultTypes.toList (v.resultList f.resultTypes.size) (s.fn H (ds++gs)).results [])
 (hargs:∀ sp:Nat→Bool,DataW.TrodAll enc P W' 0 sp true f.params.toList args.toList (s.fn H (ds++gs)).args [])
 (hvars:∀ sp:Nat→Bool,DataW.TrodVars enc P W' sp s.vars (s.fn H (ds++gs)).vars [])
 (hk:W.keptBut W' (fun _=>False))
 (hok:∀ (j:Nat) (t:TypeId) (r:Value),f.resultTypes[j]? = some t→(v.resultList f.resultTypes.size)[j]? = some r→Value.okWide P W' .any 0 t r) :
 s.post enc P f apart fresh handsOn again W args v W':=by
 refine⟨ds,gs,[],[],[],[],hW,hres _ _ _,hargs _,hvars _,World.keptBut_mono (fun p hp=>hp.elim) hk,fun _=>?_⟩
 refine⟨hok,_,_,([]++[])++[],⟨[]++[],[],trodAll_append (hargs _) (hres _ _ _),hvars _,rfl,?_,?_⟩,?_⟩
 · intro b off hp
   simp at hp
 · intro ha
   simp
 · intro p hp _
   simp at hp
end Go.Proofs.YtcihodmmaclihaaGreatDoor
namespace Go.Proofs.YtcihodmmaclihaaGreatDoor
open Go.ChangeShapes Go.WideShapes Go.ChangeAt Go.WideMaps Go.WideElems Go.RowKit
theorem gZero:Tryz.prog.globalNamed "garboard/integer.zero" = some 1:=by kernel_rfl
theorem gZeroType:(Tryz.prog.globals[1]?).map (·.type)=some 109:=by kernel_rfl
def laidListZ:List (String × DataW Unit):=[("math/bits.deBruijn32tab",Rows.laid_math_bits_deBruijn32tab),("math/bits.deBruijn64tab",Rows.laid_math_bits_deBruijn64tab),("internal/strconv.uint64pow10",Rows.laid_internal_strconv_uint64pow10),("strconv.ErrRange",Rows.laid_strconv_ErrRange),("strconv.ErrSyntax",Rows.laid_strconv_ErrSyntax),("garboard/integer.zero",Rows.laid_garboard_integer_zero)]
theorem la_of_laid {W:World}(h:laidMetH Tryz.prog laidListZ W):La W:=by
 rw[MakeChecks.laidMetH_plain _ _ _ (by kernel_rfl)]at h
 obtain⟨ps,⟨g0,t0,cs0,f0,p0,q0,hg0,ht0,hv0,hd0,⟨g1,t1,cs1,f1,p1,q1,hg1,ht1,hv1,hd1,⟨g2,t2,cs2,f2,p2,q2,hg2,ht2,hv2,hd2,⟨g3,t3,cs3,f3,p3,q3,hg3,ht3,hv3,hd3,⟨g4,t4,cs4,f4,p4,q4,hg4,ht4,hv4,hd4,⟨g5,t5,cs5,f5,p5,q5,hg5,ht5,hv5,hd5,_,_⟩,_⟩,_⟩,_⟩,_⟩,_⟩,_,_⟩:=h
 obtain rfl:=Option.some.inj (gTab.symm.trans hg2)
 obtain rfl:=Option.some.inj (gTabType.symm.trans ht2)
 obtain rfl:=Option.some.inj (gZero.symm.trans hg5)
 obtain rfl:=Option.some.inj (gZeroType.symm.trans ht5)
 refine⟨?_,?_⟩
 · unfold Tb Lib.TabIs
   rw[hv2]
   congr 1
   apply Array.ext'
   rw[Lib.cells_of_tab (k:=.u64) (zs:=Lib.pow10Tab) Tryz.underlying191 Tryz.underlying143 cellsU64 cellsTab hd2]
 · obtain⟨k0,k1,hu,e0,o0,e1,o1⟩:∃ k0 k1:Field,Tryz.prog.underlying 109=some (.struct #[k0,k1])∧k0.type=3∧k0.offset=0∧k1.type=9∧k1.offset=1:=⟨_,_,Tryz.underlying109,rfl,rfl,rfl,rfl⟩
   obtain⟨y0,y1,n,hx,hlen,h0,h1⟩:=trod_struct2 hu hd5
   rw[e0,o0]at h0
   rw[e1,o1]at h1
   obtain⟨m,hc0,hy0,_⟩:=DataW.trod_int Tryz.underlying3 h0
   obtain⟨s,hc1,hy1,_⟩:=DataW.trod_string Tryz.underlying9 h1
   subst hy0 hy1
   have hc:Tryz.prog.cellsOf 109=2:=by kernel_rfl
   have hci:Tryz.prog.cellsOf 3=1:=by kernel_rfl
   have hcs:Tryz.prog.cellsOf 9=1:=by kernel_rfl
   rw[hc]at hlen
   rw[hci]at hc0
   rw[hcs]at hc1
   have hd:m=0∧s.data.toList=[48]:=by
    have:=congrArg Prod.fst hx
    simpa [Rows.laid_garboard_integer_zero,eq_comm] using this
   obtain⟨rfl,hs⟩:=hd
   have hs':s=⟨#[48]⟩:=by
    cases s with
    | mk d=>exact congrArg ByteArray.mk (Array.ext' hs)
   subst hs'
   have hl:cs5.toList=[.int .i64 0,.string ⟨#[48]⟩]:=by
    match hcs5:cs5.toList,hlen with
    | [a,b],_ =>
      rw[hcs5]at hc0 hc1
      simp at hc0 hc1
      rw[hc0,hc1]
   have g0':=World.var?_cell gZero hv5 0
   have g1':=World.var?_cell gZero hv5 1
   have ha:cs5=#[.int .i64 0,.string ⟨#[48]⟩]:=Array.ext' hl
   rw[ha]at g0' g1'
   have c0:W.cell? ⟨1,0,none⟩=some (.int .i64 0):=by simpa using g0'
   have c1:W.cell? ⟨1,1,none⟩=some (.string ⟨#[48]⟩):=by simpa using g1'
   exact⟨World.block_lt_of_cell? W _ c0,c0,c1⟩
theorem door_metZ (os:Os)(args:Array Value):laidMetH Tryz.prog laidListZ ((World.doorLaid Tryz.prog 4000 os).forCall (fun _ _=>0) ⟨#[],args,[]⟩).memory:=by
 rw[MakeChecks.laidMetH_plain _ _ _ (by kernel_rfl)]
 exact laidMet_of_run' 8 (by kernel_rfl) (by kernel_rfl)
end Go.Proofs.YtcihodmmaclihaaGreatDoor
set_option maxRecDepth 100000
set_option maxHeartbeats 20000000
namespace Go.Proofs.YtcihodmmaclihaaGreatDoor
open Go.ChangeShapes Go.WideShapes Go.ChangeAt Go.WideMaps Go.WideElems Go.RowKit Go.Gb Go.Joins
open Go.ChangeMaps (open_string shut_string)
theorem open_iv {H:Type}{enc:TypeId × Value→H}{W:World}{base b0:Nat}{spare:Nat→Bool}{held:Bool}{r:Reach}{v:Value}{d:DataW H}{p:List MemPlace}
 (hv:Value.okWide Tryz.prog W r b0 26 v) (h:DataW.Trod enc Tryz.prog W base spare held 26 v d p) :
 ∃ l u:ByteArray,v=.agg #[.string l,.string u]∧d=.agg [.lit (.string l.data.toList),.lit (.string u.data.toList)]∧p=[]∧l.size≤maxLen∧u.size≤maxLen:=by
 obtain⟨c0,c1,y0,y1,m,rfl,rfl,rfl,hy0,hy1⟩:=open_agg2 Tryz.underlying26 (by kernel_rfl) (by kernel_rfl) hv h
 obtain⟨l,e0,rfl,wl⟩:=DataW.trod_string Tryz.underlying22 hy0
 obtain⟨u,e1,rfl,wu⟩:=DataW.trod_string Tryz.underlying22 hy1
 simp at e0 e1
 subst e0 e1
 exact⟨l,u,rfl,rfl,rfl,wl,wu⟩
theorem shut_iv {H:Type}{enc:TypeId × Value→H}{W:World}{base:Nat}{spare:Nat→Bool}{held:Bool}{l u:ByteArray}(hl:l.size≤maxLen)(hu:u.size≤maxLen) :
 DataW.Trod enc Tryz.prog W base spare held 26 (.agg #[.string l,.string u]) (.agg [.lit (.string l.data.toList),.lit (.string u.data.toList)]) [] :=
 shut_agg2 (y0:=(.lit (.string l.data.toList),[])) (y1:=(.lit (.string u.data.toList),[])) Tryz.underlying26 (by kernel_rfl) (by kernel_rfl) ⟨1,by simp[DataW.trod,Tryz.underlying22,hl]⟩ ⟨1,by simp[DataW.trod,Tryz.underlying22,hu]⟩
theorem int_bounds_u {x:Int}(h:(Lit.int .u8 x).wf=true):0≤x∧x≤255:=by
 have h1:IntKind.u8.min≤x∧x≤IntKind.u8.max:=by simpa [Lit.wf] using h
 exact⟨Int.le_trans (show(0:Int)≤IntKind.u8.min by decide) h1.1,Int.le_trans h1.2 (show IntKind.u8.max≤255 by decide)⟩
theorem int_bounds_h {x:Int}(h:(Lit.int .u16 x).wf=true):0≤x∧x≤65535:=by
 have h1:IntKind.u16.min≤x∧x≤IntKind.u16.max:=by simpa [Lit.wf] using h
 exact⟨Int.le_trans (show(0:Int)≤IntKind.u16.min by decide) h1.1,Int.le_trans h1.2 (show IntKind.u16.max≤65535 by decide)⟩
end Go.Proofs.YtcihodmmaclihaaGreatDoor
set_option maxRecDepth 100000
set_option maxHeartbeats 20000000
open Go.Lib (hid)
namespace Go.Proofs.YtcihodmmaclihaaGreatDoor
open Go.RowKit Go.Gb
theorem afind_e1 (d:ByteArray)(n k:Int)(w₀:World)(h1:CV w₀ 31 #[.string d] (.bool false))  :
 CV w₀ 16 #[.string d,.int .i64 n,.int .i64 k] (.tuple #[.agg #[.string ⟨#[]⟩,.string ⟨#[]⟩],.int .i64 1]):=by
 intro w hw
 have C1:=hid (h1.mono hw)
 clear h1 hw
 go_enter Tryz.func16,Tryz.ntmps16
 go_upto_region 1 with fail
 refine wp_boxes w [(#[.string ⟨#[]⟩,.string ⟨#[]⟩],26)] rfl ?_
 rintro W0 ⟨k1,hb⟩
 have HB0:=hid (show Below w.heap.size w W0 from hb)
 have K1:=hid k1
 clear k1 hb
 go_wp2_with fail
 with_reducible refine(C1.out _ HB0.out).mono ?_
 rintro e W1 ⟨rfl,hb⟩
 have K1:=hid (K1.out.below hb)
 have HB1:=hbt HB0 hb
 clear hb
 have dK10:=K1.out.cell (i:=0) rfl
 have dK11:=K1.out.cell (i:=1) rfl
 have fK10:=K1.out.frozen (i:=0)
 have fK11:=K1.out.frozen (i:=1)
 go_wp2
 exact bodyPost_ret (v:=.tuple #[.agg #[.string ⟨#[]⟩,.string ⟨#[]⟩],.int .i64 1]) (by simp[results,Tryz.results16,go_sem,dK10,dK11]) rfl ⟨rfl,(store_below (l:=[.string ⟨#[]⟩,.string ⟨#[]⟩]) (i:=0) (by omega) HB1.out)⟩
theorem afind_e2 (d:ByteArray)(n k:Int)(w₀:World)(h1:CV w₀ 31 #[.string d] (.bool true))(h2:CV w₀ 15 #[.agg #[.string ⟨#[45,57,48]⟩,.string ⟨#[57,48]⟩],.string d] (.bool false))  :
 CV w₀ 16 #[.string d,.int .i64 n,.int .i64 k] (.tuple #[.agg #[.string ⟨#[]⟩,.string ⟨#[]⟩],.int .i64 2]):=by
 intro w hw
 have C1:=hid (h1.mono hw)
 have C2:=hid (h2.mono hw)
 clear h1 h2 hw
 go_enter Tryz.func16,Tryz.ntmps16
 go_upto_region 1 with fail
 refine wp_boxes w [(#[.string ⟨#[]⟩,.string ⟨#[]⟩],26)] rfl ?_
 rintro W0 ⟨k1,hb⟩
 have HB0:=hid (show Below w.heap.size w W0 from hb)
 have K1:=hid k1
 clear k1 hb
 go_wp2_with fail
 with_reducible refine(C1.out _ HB0.out).mono ?_
 rintro e W1 ⟨rfl,hb⟩
 have K1:=hid (K1.out.below hb)
 have HB1:=hbt HB0 hb
 clear hb
 go_wp2_with fail
 with_reducible refine(C2.out _ HB1.out).mono ?_
 rintro e W2 ⟨rfl,hb⟩
 have K1:=hid (K1.out.below hb)
 have HB2:=hbt HB1 hb
 clear hb
 have dK10:=K1.out.cell (i:=0) rfl
 have dK11:=K1.out.cell (i:=1) rfl
 have fK10:=K1.out.frozen (i:=0)
 have fK11:=K1.out.frozen (i:=1)
 go_wp2
 exact bodyPost_ret (v:=.tuple #[.agg #[.string ⟨#[]⟩,.string ⟨#[]⟩],.int .i64 2]) (by simp[results,Tryz.results16,go_sem,dK10,dK11]) rfl ⟨rfl,(store_below (l:=[.string ⟨#[]⟩,.string ⟨#[]⟩]) (i:=0) (by omega) HB2.out)⟩
theorem aFind_no {a:ByteArray}(n k:Int)(h:vldQ a.data.toList=false)(ha:a.size≤900)(w:World)(hla:La w):CV w 16 #[.string a,.int .i64 n,.int .i64 k] (.tuple #[.agg #[.string ⟨#[]⟩,.string ⟨#[]⟩],.int .i64 1]) :=
 afind_e1 a n k w (avno h ha w hla)
theorem aFind_out {d:Rat}(n k:Int)(h:¬ (-90≤d∧d≤90))(hd:FitQ d)(w:World)(hla:La w):CV w 16 #[.string (Sq d),.int .i64 n,.int .i64 k] (.tuple #[.agg #[.string ⟨#[]⟩,.string ⟨#[]⟩],.int .i64 2]):=by
 have b90:SmQ 3 (90:Rat):=⟨by unfold Sm;decide,by unfold Sm;decide⟩
 have n90:SmQ 3 (-90:Rat):=⟨by unfold Sm;decide,by unfold Sm;decide⟩
 have hh:CV w 15 #[.agg #[.string (Sq (-90:Rat)),.string (Sq (90:Rat))],.string (Sq d)] (.bool false):=fun W hW=>xHas (-90) 90 d false (decide_eq_false h) (by decide +kernel) (n90.fit (by decide)) (b90.fit (by decide)) hd W (hla.on hW)
 rw[show Sq (-90:Rat)=⟨#[45,57,48]⟩from by decide +kernel,show Sq (90:Rat)=⟨#[57,48]⟩from by decide +kernel]at hh
 exact afind_e2 _ n k w (avcv hd w hla) hh
end Go.Proofs.YtcihodmmaclihaaGreatDoor
