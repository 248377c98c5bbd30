/- Texts of this proof, one behind the other. -/
import Derived.Test.YtggoeabhbkbadaaGreatDoorCards
import Derived.Test.YtggoeabhbkbadaaGreatDoorTie
import Derived.LaidMore
import Derived.Lib.SmallJoins
import Derived.Test.YtggoeabhbkbadaaGreatDoorMz45q
namespace Go.Proofs.YtggoeabhbkbadaaGreatDoor
open Go.ChangeShapes Go.WideShapes Go.ChangeAt Go.WideMaps Go.WideElems Go.RowKit
theorem own:ownKnob Tryz.prog.godebug=none:=by kernel_rfl
theorem gTab:Tryz.prog.globalNamed "internal/strconv.uint64pow10" = some 2:=by kernel_rfl
theorem gTabType:(Tryz.prog.globals[2]?).map (·.type)=some 175:=by kernel_rfl
theorem cellsTab:Tryz.prog.cellsOf 175=20:=by kernel_rfl
theorem cellsU64:Tryz.prog.cellsOf 138=1:=by kernel_rfl
def laidList:List (String × DataW Unit):=[("math/bits.deBruijn32tab",Rows.laid_math_bits_deBruijn32tab),("math/bits.deBruijn64tab",Rows.laid_math_bits_deBruijn64tab),("internal/strconv.uint64pow10",Rows.laid_internal_strconv_uint64pow10),("strconv.ErrRange",Rows.laid_strconv_ErrRange),("strconv.ErrSyntax",Rows.laid_strconv_ErrSyntax)]
theorem tb_of_laid {W:World}(h:laidMetH Tryz.prog laidList W):Tb W:=by
 rw[MakeChecks.laidMetH_plain _ _ _ (by kernel_rfl)]at h
 obtain⟨ps,⟨g0,t0,cs0,f0,p0,q0,hg0,ht0,hv0,hd0,⟨g1,t1,cs1,f1,p1,q1,hg1,ht1,hv1,hd1,⟨g2,t2,cs2,f2,p2,q2,hg2,ht2,hv2,hd2,_,_⟩,_⟩,_⟩,_,_⟩:=h
 obtain rfl:=Option.some.inj (gTab.symm.trans hg2)
 obtain rfl:=Option.some.inj (gTabType.symm.trans ht2)
 unfold Tb Lib.TabIs
 rw[hv2]
 congr 1
 apply Array.ext'
 rw[Lib.cells_of_tab (k:=.u64) (zs:=Lib.pow10Tab) Tryz.underlying175 Tryz.underlying138 cellsU64 cellsTab hd2]
theorem door_met (os:Os)(args:Array Value):laidMetH Tryz.prog laidList ((World.doorLaid Tryz.prog 4000 os).forCall (fun _ _=>0) ⟨#[],args,[]⟩).memory:=by
 rw[MakeChecks.laidMetH_plain _ _ _ (by kernel_rfl)]
 exact laidMet_of_run' 8 (by kernel_rfl) (by kernel_rfl)
end Go.Proofs.YtggoeabhbkbadaaGreatDoor
namespace Go.Proofs.YtggoeabhbkbadaaGreatDoor
open Go.ChangeShapes Go.WideShapes Go.ChangeAt Go.WideMaps Go.WideElems Go.RowKit Go.Gb
open Go.ChangeMaps (open_string shut_string)
theorem post_plain {H:Type}{enc:TypeId × Value→H}{P:Program}{f:Func}{s:ChangeSpec}{apart fresh handsOn again:Bool}{W W':World}{args:Array Value}{v:Value}{ds gs:List (DataW H)}
 (hW:DataW.Whole enc P f.params.toList s.vars apart W args.toList ds gs [])
 (hres:∀ (b:Nat) (sp:Nat→Bool) (hd:Bool),DataW.TrodAll enc P W' b sp hd f.resultTypes.toList (v.resultList f.resultTypes.size) (s.fn H (ds++gs)).results [])
 (hargs:∀ sp:Nat→Bool,DataW.TrodAll enc P W' 0 sp true f.params.toList args.toList (s.fn H (ds++gs)).args [])
 (hvars:∀ sp:Nat→Bool,DataW.TrodVars enc P W' sp s.vars (s.fn H (ds++gs)).vars [])
 (hk:W.keptBut W' (fun _=>False))
 (hok:∀ (j:Nat) (t:TypeId) (r:Value),f.resultTypes[j]? = some t→(v.resultList f.resultTypes.size)[j]? = some r→Value.okWide P W' .any 0 t r) :
 s.post enc P f apart fresh handsOn again W args v W':=by
 refine⟨ds,gs,[],[],[],[],hW,hres _ _ _,hargs _,hvars _,World.keptBut_mono (fun p hp=>hp.elim) hk,fun _=>?_⟩
 refine⟨hok,_,_,([]++[])++[],⟨[]++[],[],trodAll_append (hargs _) (hres _ _ _),hvars _,rfl,?_,?_⟩,?_⟩
 · intro b off hp
   simp at hp
 · intro ha
   simp
 · intro p hp _
   simp at hp
end Go.Proofs.YtggoeabhbkbadaaGreatDoor
namespace Go.Proofs.YtggoeabhbkbadaaGreatDoor
open Go.ChangeShapes Go.WideShapes Go.ChangeAt Go.WideMaps Go.WideElems Go.RowKit
theorem gZero:Tryz.prog.globalNamed "garboard/integer.zero" = some 1:=by kernel_rfl
theorem gZeroType:(Tryz.prog.globals[1]?).map (·.type)=some 116:=by kernel_rfl
def laidListZ:List (String × DataW Unit):=[("math/bits.deBruijn32tab",Rows.laid_math_bits_deBruijn32tab),("math/bits.deBruijn64tab",Rows.laid_math_bits_deBruijn64tab),("internal/strconv.uint64pow10",Rows.laid_internal_strconv_uint64pow10),("strconv.ErrRange",Rows.laid_strconv_ErrRange),("strconv.ErrSyntax",Rows.laid_strconv_ErrSyntax),("garboard/integer.zero",Rows.laid_garboard_integer_zero)]
theorem la_of_laid {W:World}(h:laidMetH Tryz.prog laidListZ W):La W:=by
 rw[MakeChecks.laidMetH_plain _ _ _ (by kernel_rfl)]at h
 obtain⟨ps,⟨g0,t0,cs0,f0,p0,q0,hg0,ht0,hv0,hd0,⟨g1,t1,cs1,f1,p1,q1,hg1,ht1,hv1,hd1,⟨g2,t2,cs2,f2,p2,q2,hg2,ht2,hv2,hd2,⟨g3,t3,cs3,f3,p3,q3,hg3,ht3,hv3,hd3,⟨g4,t4,cs4,f4,p4,q4,hg4,ht4,hv4,hd4,⟨g5,t5,cs5,f5,p5,q5,hg5,ht5,hv5,hd5,_,_⟩,_⟩,_⟩,_⟩,_⟩,_⟩,_,_⟩:=h
 obtain rfl:=Option.some.inj (gTab.symm.trans hg2)
 obtain rfl:=Option.some.inj (gTabType.symm.trans ht2)
 obtain rfl:=Option.some.inj (gZero.symm.trans hg5)
 obtain rfl:=Option.some.inj (gZeroType.symm.trans ht5)
 refine⟨?_,?_⟩
 · unfold Tb Lib.TabIs
   rw[hv2]
   congr 1
   apply Array.ext'
   rw[Lib.cells_of_tab (k:=.u64) (zs:=Lib.pow10Tab) Tryz.underlying175 Tryz.underlying138 cellsU64 cellsTab hd2]
 · obtain⟨k0,k1,hu,e0,o0,e1,o1⟩:∃ k0 k1:Field,Tryz.prog.underlying 116=some (.struct #[k0,k1])∧k0.type=3∧k0.offset=0∧k1.type=9∧k1.offset=1:=⟨_,_,Tryz.underlying116,rfl,rfl,rfl,rfl⟩
   obtain⟨y0,y1,n,hx,hlen,h0,h1⟩:=trod_struct2 hu hd5
   rw[e0,o0]at h0
   rw[e1,o1]at h1
   obtain⟨m,hc0,hy0,_⟩:=DataW.trod_int Tryz.underlying3 h0
   obtain⟨s,hc1,hy1,_⟩:=DataW.trod_string Tryz.underlying9 h1
   subst hy0 hy1
   have hc:Tryz.prog.cellsOf 116=2:=by kernel_rfl
   have hci:Tryz.prog.cellsOf 3=1:=by kernel_rfl
   have hcs:Tryz.prog.cellsOf 9=1:=by kernel_rfl
   rw[hc]at hlen
   rw[hci]at hc0
   rw[hcs]at hc1
   have hd:m=0∧s.data.toList=[48]:=by
    have:=congrArg Prod.fst hx
    simpa [Rows.laid_garboard_integer_zero,eq_comm] using this
   obtain⟨rfl,hs⟩:=hd
   have hs':s=⟨#[48]⟩:=by
    cases s with
    | mk d=>exact congrArg ByteArray.mk (Array.ext' hs)
   subst hs'
   have hl:cs5.toList=[.int .i64 0,.string ⟨#[48]⟩]:=by
    match hcs5:cs5.toList,hlen with
    | [a,b],_ =>
      rw[hcs5]at hc0 hc1
      simp at hc0 hc1
      rw[hc0,hc1]
   have g0':=World.var?_cell gZero hv5 0
   have g1':=World.var?_cell gZero hv5 1
   have ha:cs5=#[.int .i64 0,.string ⟨#[48]⟩]:=Array.ext' hl
   rw[ha]at g0' g1'
   have c0:W.cell? ⟨1,0,none⟩=some (.int .i64 0):=by simpa using g0'
   have c1:W.cell? ⟨1,1,none⟩=some (.string ⟨#[48]⟩):=by simpa using g1'
   exact⟨World.block_lt_of_cell? W _ c0,c0,c1⟩
theorem door_metZ (os:Os)(args:Array Value):laidMetH Tryz.prog laidListZ ((World.doorLaid Tryz.prog 4000 os).forCall (fun _ _=>0) ⟨#[],args,[]⟩).memory:=by
 rw[MakeChecks.laidMetH_plain _ _ _ (by kernel_rfl)]
 exact laidMet_of_run' 8 (by kernel_rfl) (by kernel_rfl)
end Go.Proofs.YtggoeabhbkbadaaGreatDoor
set_option maxRecDepth 100000
set_option maxHeartbeats 20000000
namespace Go.Proofs.YtggoeabhbkbadaaGreatDoor
open Go.ChangeShapes Go.WideShapes Go.ChangeAt Go.WideMaps Go.WideElems Go.RowKit Go.Gb Go.Joins
open Go.ChangeMaps (open_string shut_string)
theorem open_iv {H:Type}{enc:TypeId × Value→H}{W:World}{base b0:Nat}{spare:Nat→Bool}{held:Bool}{r:Reach}{v:Value}{d:DataW H}{p:List MemPlace}
 (hv:Value.okWide Tryz.prog W r b0 27 v) (h:DataW.Trod enc Tryz.prog W base spare held 27 v d p) :
 ∃ l u:ByteArray,v=.agg #[.string l,.string u]∧d=.agg [.lit (.string l.data.toList),.lit (.string u.data.toList)]∧p=[]∧l.size≤maxLen∧u.size≤maxLen:=by
 obtain⟨c0,c1,y0,y1,m,rfl,rfl,rfl,hy0,hy1⟩:=open_agg2 Tryz.underlying27 (by kernel_rfl) (by kernel_rfl) hv h
 obtain⟨l,e0,rfl,wl⟩:=DataW.trod_string Tryz.underlying22 hy0
 obtain⟨u,e1,rfl,wu⟩:=DataW.trod_string Tryz.underlying22 hy1
 simp at e0 e1
 subst e0 e1
 exact⟨l,u,rfl,rfl,rfl,wl,wu⟩
theorem shut_iv {H:Type}{enc:TypeId × Value→H}{W:World}{base:Nat}{spare:Nat→Bool}{held:Bool}{l u:ByteArray}(hl:l.size≤maxLen)(hu:u.size≤maxLen) :
 DataW.Trod enc Tryz.prog W base spare held 27 (.agg #[.string l,.string u]) (.agg [.lit (.string l.data.toList),.lit (.string u.data.toList)]) [] :=
 shut_agg2 (y0:=(.lit (.string l.data.toList),[])) (y1:=(.lit (.string u.data.toList),[])) Tryz.underlying27 (by kernel_rfl) (by kernel_rfl) ⟨1,by simp[DataW.trod,Tryz.underlying22,hl]⟩ ⟨1,by simp[DataW.trod,Tryz.underlying22,hu]⟩
theorem int_bounds_u {x:Int}(h:(Lit.int .u8 x).wf=true):0≤x∧x≤255:=by
 have h1:IntKind.u8.min≤x∧x≤IntKind.u8.max:=by simpa [Lit.wf] using h
 exact⟨Int.le_trans (show(0:Int)≤IntKind.u8.min by decide) h1.1,Int.le_trans h1.2 (show IntKind.u8.max≤255 by decide)⟩
theorem int_bounds_h {x:Int}(h:(Lit.int .u16 x).wf=true):0≤x∧x≤65535:=by
 have h1:IntKind.u16.min≤x∧x≤IntKind.u16.max:=by simpa [Lit.wf] using h
 exact⟨Int.le_trans (show(0:Int)≤IntKind.u16.min by decide) h1.1,Int.le_trans h1.2 (show IntKind.u16.max≤65535 by decide)⟩
end Go.Proofs.YtggoeabhbkbadaaGreatDoor
namespace Go.Proofs.YtggoeabhbkbadaaGreatDoor
open Go.ChangeShapes Go.WideShapes Go.ChangeAt Go.WideMaps Go.WideElems Go.RowKit Go.Gb
theorem gSet:Tryz.prog.globalNamed "garboard/root.settled" = some 0:=by kernel_rfl
theorem gSetType:(Tryz.prog.globals[0]?).map (·.type)=some 101:=by kernel_rfl
def laidListS:List (String × DataW Unit):=[("math/bits.deBruijn32tab",Rows.laid_math_bits_deBruijn32tab),("math/bits.deBruijn64tab",Rows.laid_math_bits_deBruijn64tab),("internal/strconv.uint64pow10",Rows.laid_internal_strconv_uint64pow10),("strconv.ErrRange",Rows.laid_strconv_ErrRange),("strconv.ErrSyntax",Rows.laid_strconv_ErrSyntax),("garboard/integer.zero",Rows.laid_garboard_integer_zero),("garboard/root.settled",Rows.laid_garboard_root_settled)]
theorem lb_of_laidS {W:World}(h:laidMetH Tryz.prog laidListS W):Lb W:=by
 rw[MakeChecks.laidMetH_plain _ _ _ (by kernel_rfl)]at h
 obtain⟨ps,⟨g0,t0,cs0,f0,p0,q0,hg0,ht0,hv0,hd0,⟨g1,t1,cs1,f1,p1,q1,hg1,ht1,hv1,hd1,⟨g2,t2,cs2,f2,p2,q2,hg2,ht2,hv2,hd2,⟨g3,t3,cs3,f3,p3,q3,hg3,ht3,hv3,hd3,⟨g4,t4,cs4,f4,p4,q4,hg4,ht4,hv4,hd4,⟨g5,t5,cs5,f5,p5,q5,hg5,ht5,hv5,hd5,⟨g6,t6,cs6,f6,p6,q6,hg6,ht6,hv6,hd6,_,_⟩,_⟩,_⟩,_⟩,_⟩,_⟩,_⟩,_,_⟩:=h
 obtain rfl:=Option.some.inj (gTab.symm.trans hg2)
 obtain rfl:=Option.some.inj (gTabType.symm.trans ht2)
 obtain rfl:=Option.some.inj (gZero.symm.trans hg5)
 obtain rfl:=Option.some.inj (gZeroType.symm.trans ht5)
 obtain rfl:=Option.some.inj (gSet.symm.trans hg6)
 obtain rfl:=Option.some.inj (gSetType.symm.trans ht6)
 refine⟨⟨?_,?_⟩,?_⟩
 · unfold Tb Lib.TabIs
   rw[hv2]
   congr 1
   apply Array.ext'
   rw[Lib.cells_of_tab (k:=.u64) (zs:=Lib.pow10Tab) Tryz.underlying175 Tryz.underlying138 cellsU64 cellsTab hd2]
 · obtain⟨k0,k1,hu,e0,o0,e1,o1⟩:∃ k0 k1:Field,Tryz.prog.underlying 116=some (.struct #[k0,k1])∧k0.type=3∧k0.offset=0∧k1.type=9∧k1.offset=1:=⟨_,_,Tryz.underlying116,rfl,rfl,rfl,rfl⟩
   obtain⟨y0,y1,n,hx,hlen,h0,h1⟩:=trod_struct2 hu hd5
   rw[e0,o0]at h0
   rw[e1,o1]at h1
   obtain⟨m,hc0,hy0,_⟩:=DataW.trod_int Tryz.underlying3 h0
   obtain⟨s,hc1,hy1,_⟩:=DataW.trod_string Tryz.underlying9 h1
   subst hy0 hy1
   have hc:Tryz.prog.cellsOf 116=2:=by kernel_rfl
   have hci:Tryz.prog.cellsOf 3=1:=by kernel_rfl
   have hcs:Tryz.prog.cellsOf 9=1:=by kernel_rfl
   rw[hc]at hlen
   rw[hci]at hc0
   rw[hcs]at hc1
   have hd:m=0∧s.data.toList=[48]:=by
    have:=congrArg Prod.fst hx
    simpa [Rows.laid_garboard_integer_zero,eq_comm] using this
   obtain⟨rfl,hs⟩:=hd
   have hs':s=⟨#[48]⟩:=by
    cases s with
    | mk d=>exact congrArg ByteArray.mk (Array.ext' hs)
   subst hs'
   have hl:cs5.toList=[.int .i64 0,.string ⟨#[48]⟩]:=by
    match hcs5:cs5.toList,hlen with
    | [a,b],_ =>
      rw[hcs5]at hc0 hc1
      simp at hc0 hc1
      rw[hc0,hc1]
   have g0':=World.var?_cell gZero hv5 0
   have g1':=World.var?_cell gZero hv5 1
   have ha:cs5=#[.int .i64 0,.string ⟨#[48]⟩]:=Array.ext' hl
   rw[ha]at g0' g1'
   have c0:W.cell? ⟨1,0,none⟩=some (.int .i64 0):=by simpa using g0'
   have c1:W.cell? ⟨1,1,none⟩=some (.string ⟨#[48]⟩):=by simpa using g1'
   exact⟨World.block_lt_of_cell? W _ c0,c0,c1⟩
 · obtain⟨xs,m,_,hx,hlen,hl,hel⟩:=DataW.trod_array Tryz.underlying101 hd6
   have hc9:Tryz.prog.cellsOf 101=9:=by kernel_rfl
   have hc3:Tryz.prog.cellsOf 100=3:=by kernel_rfl
   have hc1:Tryz.prog.cellsOf 3=1:=by kernel_rfl
   rw[hc9]at hlen
   rw[hc3]at hel
   have hd:xs.map (·.1)=[.agg [.lit (.int .i64 (-1)),.lit (.int .i64 (-1)),.lit (.int .i64 2)],.agg [.lit (.int .i64 (-1)),.lit (.int .i64 0),.lit (.int .i64 1)],.agg [.lit (.int .i64 2),.lit (.int .i64 1),.lit (.int .i64 1)]]:=by
    have:=congrArg Prod.fst hx
    simpa [Rows.laid_garboard_root_settled,eq_comm] using this
   have k0:=hel 0 (by decide)
   have k1:=hel 1 (by decide)
   have k2:=hel 2 (by decide)
   clear hel hx
   match xs,hl,hd with
   | [(r0,p0),(r1,p1),(r2,p2)],_,hd =>
     simp only[List.map_cons,List.map_nil,List.cons.injEq,and_true]at hd
     obtain⟨e0,e1,e2⟩:=hd
     subst e0 e1 e2
     have c0:=Lib.cells_of_tab (k:=.i64) (zs:=[-1,-1,2]) Tryz.underlying100 Tryz.underlying3 hc1 hc3 k0
     have c1:=Lib.cells_of_tab (k:=.i64) (zs:=[-1,0,1]) Tryz.underlying100 Tryz.underlying3 hc1 hc3 k1
     have c2:=Lib.cells_of_tab (k:=.i64) (zs:=[2,1,1]) Tryz.underlying100 Tryz.underlying3 hc1 hc3 k2
     have hcs:cs6.toList=[.int .i64 (-1),.int .i64 (-1),.int .i64 2,.int .i64 (-1),.int .i64 0,.int .i64 1,.int .i64 2,.int .i64 1,.int .i64 1]:=by
       have e:cs6.toList=(cs6.toList.drop (0*3)).take 3++((cs6.toList.drop (1*3)).take 3++(cs6.toList.drop (2*3)).take 3):=by
        match cs6.toList,hlen with
        | [_,_,_,_,_,_,_,_,_],_=>rfl
       rw[e,c0,c1,c2]
       rfl
     have ha:cs6=#[.int .i64 (-1),.int .i64 (-1),.int .i64 2,.int .i64 (-1),.int .i64 0,.int .i64 1,.int .i64 2,.int .i64 1,.int .i64 1]:=Array.ext' hcs
     have hcell:∀ i v,(#[.int .i64 (-1),.int .i64 (-1),.int .i64 2,.int .i64 (-1),.int .i64 0,.int .i64 1,.int .i64 2,.int .i64 1,.int .i64 1]:Array Value)[i]? = some v→W.cell? ⟨0,i,none⟩=some v:=fun i v hv=>by
       have g:=World.var?_cell gSet hv6 i
       rw[ha]at g
       exact g.trans hv
     exact⟨World.block_lt_of_cell? W _ (hcell 0 _ rfl),hcell⟩
theorem door_metS (os:Os)(args:Array Value):laidMetH Tryz.prog laidListS ((World.doorLaid Tryz.prog 4000 os).forCall (fun _ _=>0) ⟨#[],args,[]⟩).memory:=by
 rw[MakeChecks.laidMetH_plain _ _ _ (by kernel_rfl)]
 exact laidMet_of_run' 8 (by kernel_rfl) (by kernel_rfl)
end Go.Proofs.YtggoeabhbkbadaaGreatDoor
set_option maxRecDepth 100000
set_option maxHeartbeats 20000000
open Go.Lib (hid)
namespace Go.Proofs.YtggoeabhbkbadaaGreatDoor
open Go.RowKit Go.Gb
def NuI (k j:Nat) (s:ByteArray):Prop:=j≤k∧(0<j→Lib.decDigits j++s.data.toList=Lib.decDigits k)∧(j=0→s.data.toList=Lib.decDigits k)
theorem NuI.size {k j:Nat}{s:ByteArray}(h:NuI k j s)(hk:k<10^6):s.size≤6:=by
 have hl:=dec_len 6 k hk (by decide)
 rw[← size_list]
 rcases Nat.eq_zero_or_pos j with h0|h0
 · rw[h.2.2 h0];exact hl
 · have:=congrArg List.length (h.2.1 h0)
   rw[List.length_append]at this
   omega
theorem dec_step (j:Nat)(h:10≤j):Lib.decDigits j=Lib.decDigits (j / 10)++[UInt8.ofNat (48+j%10)]:=by
 conv=>lhs;rw[Lib.decDigits,dif_neg (by omega)]
theorem dec_one (j:Nat)(h:j<10):Lib.decDigits j=[UInt8.ofNat (48+j)]:=by
 rw[Lib.decDigits,dif_pos h]
theorem NuI.step {k j:Nat}{s:ByteArray}(h:NuI k j s)(h0:0<j):NuI k (j / 10) (⟨#[UInt8.ofNat (48+j%10)]⟩++s):=by
 have e:((⟨#[UInt8.ofNat (48+j%10)]⟩++s:ByteArray)).data.toList=UInt8.ofNat (48+j%10) :: s.data.toList:=by simp
 refine⟨Nat.le_trans (Nat.div_le_self _ _) h.1,fun h1=>?_,fun h1=>?_⟩
 · rw[e,← h.2.1 h0,dec_step j (by omega)]
   simp
 · have hj:j<10:=by omega
   rw[e,← h.2.1 h0,dec_one j hj,Nat.mod_eq_of_lt hj]
   rfl
theorem NuI.end {k:Nat}{s:ByteArray}(h:NuI k 0 s):s=Sn k:=by
 apply ByteArray.ext
 apply Array.ext'
 rw[h.2.2 rfl,sn_list]
theorem NuI.start (k:Nat)(h:1≤k):NuI k k ⟨#[]⟩:=⟨Nat.le_refl _,fun _=>by simp,fun h0=>by omega⟩
theorem onumber (k:Nat)(hk1:1≤k)(hk2:k≤100000)(w₀:World):CV w₀ 14 #[.int .i64 (k:Int)] (.string (Sn k)):=by
 intro w hw
 clear hw
 have HB0:=hid (Below.refl w.heap.size w)
 have HS:=hid (NuI.start k hk1)
 have HK:=hid hk2
 clear hk1 hk2
 go_enter Tryz.func14,Tryz.ntmps14
 go_wp2
 go_loopg [0,3] k (fun j s0 s3 wr=>∃ (m:Nat) (s:ByteArray),j=m∧s0=.int .i64 (m:Int)∧s3=.string s∧Hid (NuI k m s)∧Hid (Below w.heap.size w wr))
 case atStart=>exact⟨k,⟨#[]⟩,rfl,rfl,rfl,HS,HB0⟩
 case round =>
  obtain⟨m,s,rfl,rfl,rfl,hi,hB⟩:=hrel
  rcases Nat.eq_zero_or_pos gk with h0|h0
  · subst h0
    have hs:=hid hi.out.end
    go_wp2
    go_ret
    exact⟨(by rw[hs.out];rfl),hB.out⟩
  · have hle:=hi.out.1
    have hkb:=HK.out
    have hsz:=hi.out.size (show k<10^6 by omega)
    obtain⟨r,hr⟩:∃ r,gk%10=r:=⟨_,rfl⟩
    have r9:r<10:=by omega
    obtain⟨ch,hch⟩:∃ ch,UInt8.ofNat (48+r)=ch:=⟨_,rfl⟩
    have hc:ch.toNat=48+r:=by
        rw[← hch,UInt8.toNat_ofNat']
        omega
    have e0:(0:Int)<(gk:Int):=by omega
    have e1:(gk:Int).tmod 10=(r:Int):=by rw[Int.tmod_eq_emod_of_nonneg (by omega)];omega
    have e2:IntKind.i64.wrap (r:Int)=(r:Int):=by simp[IntKind.wrap,IntKind.bits,IntKind.signed];omega
    have e3:(48:Int)+(r:Int)=(ch.toNat:Int):=by omega
    have e4:IntKind.i64.wrap (ch.toNat:Int)=(ch.toNat:Int):=by simp[IntKind.wrap,IntKind.bits,IntKind.signed];omega
    have e5:IntKind.u8.wrap (ch.toNat:Int)=(ch.toNat:Int):=by simp[IntKind.wrap,IntKind.bits,IntKind.signed];omega
    obtain⟨q,hq⟩:∃ q,gk / 10=q:=⟨_,rfl⟩
    have e6:(gk:Int).tdiv 10=(q:Int):=by rw[Int.tdiv_eq_ediv_of_nonneg (by omega)];omega
    have e7:IntKind.i64.wrap (q:Int)=(q:Int):=by simp[IntKind.wrap,IntKind.bits,IntKind.signed];omega
    have hst:=hid (show NuI k q (⟨#[ch]⟩++s) from hq▸hch▸hr▸hi.out.step h0)
    have hlt:=hid (show q<gk by omega)
    have hcv:(convert 63 9 (.slice (some ⟨wr.heap.size,0,none⟩) 1 1)).run Tryz.prog (wr.alloc (.cells #[.int .u8 (ch.toNat:Int)] 5))=.ok (.string ⟨#[ch]⟩) (wr.alloc (.cells #[.int .u8 (ch.toNat:Int)] 5)):=run_convert_bytes_back (P:=Tryz.prog) (wr.alloc (.cells #[.int .u8 (ch.toNat:Int)] 5)) 63 9 5 ⟨wr.heap.size,0,none⟩ 1 [ch] Tryz.underlying63 Tryz.underlying5 Tryz.underlying9 (fun j hj=>by
        obtain rfl:j=0:=by simpa using hj
        exact(SBk.new wr _ _).cell (i:=0) rfl)
    have hadd:=fun W:World=>run_string_add_sum (P:=Tryz.prog) W ⟨#[ch]⟩ s (by show 1+s.size≤_;omega)
    have hB2:=hid (hB.out.alloc hB.out.size (.cells #[.int .u8 (ch.toNat:Int)] 5))
    clear hi hB hle hkb hsz hr r9 hch hc hq h0
    go_wp2
    go_roundg q
    case measure=>exact hlt.out
    case rel=>exact⟨q,_,rfl,rfl,rfl,hst,hB2⟩
end Go.Proofs.YtggoeabhbkbadaaGreatDoor
