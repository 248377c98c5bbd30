/- texts -/
import Derived.Test.YtlgkolkcokaefaaGreatDoorMz15q
import Derived.Test.YtlgkolkcokaefaaGreatDoorCards
import Derived.Test.YtlgkolkcokaefaaGreatDoorTie
import Derived.LaidMore
import Derived.Lib.SmallJoins
open Go.Proofs.Tryz
namespace Go.Proofs.YtlgkolkcokaefaaGreatDoor
open Go.RowKit
abbrev CL (f : FuncId) (args : Array Value) (v : Value) : Prop := ∀ W, La W → Calls Tryz.prog f args W fun e w' => e = .returned v ∧ Below W.heap.size W w'
end Go.Proofs.YtlgkolkcokaefaaGreatDoor
namespace Go.Gb
open Go Go.RowKit
theorem mR {w:World}{g:Nat}{T:TypeId}{x0 x1 a b:Value}(h:SBk w g #[x0,x1] T):SBk (storeAll w g 0 [a,b]) g #[a,b] T:=by
 have:=bL [a,b] 0 h;simpa [ow] using this
theorem oo (w:World)(g:Nat)(a b:Value):storeAll w g 0 [a,b]=(w.setCell ⟨g,0,none⟩ a).setCell ⟨g,1,none⟩ b:=rfl
theorem dM {w:World}{g:Nat}{T:TypeId}{x0 x1 x2 a b c:Value}(h:SBk w g #[x0,x1,x2] T):SBk (storeAll w g 0 [a,b,c]) g #[a,b,c] T:=by
 have:=bL [a,b,c] 0 h;simpa [ow] using this
theorem jv (w:World)(g:Nat)(a b c:Value):storeAll w g 0 [a,b,c]=((w.setCell ⟨g,0,none⟩ a).setCell ⟨g,1,none⟩ b).setCell ⟨g,2,none⟩ c:=rfl
theorem bZ (W:World)(o:Obj):Below W.heap.size W (W.alloc o):=(Below.refl W.heap.size W).alloc (Nat.le_refl _) o
theorem rT (s:Nat)(v:Value):∀ (L:List (Nat × Value)) (t:Array Value),putL (L++[(s,v)]) t=(putL L t).setIfInBounds s v
 | [],_=>rfl
 | p :: L,t=>rT s v L (t.setIfInBounds p.1 p.2)
theorem jw {a:Act}{L L':List (Nat × Value)}{t:Array Value}{b:Act}{s:Nat}{v:Value}(h:a=⟨putL L t,b.defers⟩)(hL:L++[(s,v)]=L'):(⟨a.tmps.setIfInBounds s v,a.defers⟩:Act)=⟨putL L' t,b.defers⟩:=by
 subst hL;rw[rT,h]
theorem jL {w:World}{g:Nat}{T:TypeId}{x0 x1 x2 x3 x4 x5 x6 x7 x8 a b c d e f h i j:Value}(hk:SBk w g #[x0,x1,x2,x3,x4,x5,x6,x7,x8] T):SBk (storeAll w g 0 [a,b,c,d,e,f,h,i,j]) g #[a,b,c,d,e,f,h,i,j] T:=by
 have:=bL [a,b,c,d,e,f,h,i,j] 0 hk;simpa [ow] using this
theorem kZ (w:World)(g:Nat)(a b c d e f h i j:Value):storeAll w g 0 [a,b,c,d,e,f,h,i,j]=((((((((w.setCell ⟨g,0,none⟩ a).setCell ⟨g,1,none⟩ b).setCell ⟨g,2,none⟩ c).setCell ⟨g,3,none⟩ d).setCell ⟨g,4,none⟩ e).setCell ⟨g,5,none⟩ f).setCell ⟨g,6,none⟩ h).setCell ⟨g,7,none⟩ i).setCell ⟨g,8,none⟩ j:=rfl
theorem rq {w:World}{g:Nat}{T:TypeId}{x0 x1 x2 x3 x4 x5 x6 x7 x8 x9 x10 x11 x12 x13 x14 x15 x16 x17 x18 x19 x20 x21 x22 x23 x24 x25 x26 y0 y1 y2 y3 y4 y5 y6 y7 y8 y9 y10 y11 y12 y13 y14 y15 y16 y17 y18 y19 y20 y21 y22 y23 y24 y25 y26:Value}(hk:SBk w g #[x0,x1,x2,x3,x4,x5,x6,x7,x8,x9,x10,x11,x12,x13,x14,x15,x16,x17,x18,x19,x20,x21,x22,x23,x24,x25,x26] T):SBk (storeAll w g 0 [y0,y1,y2,y3,y4,y5,y6,y7,y8,y9,y10,y11,y12,y13,y14,y15,y16,y17,y18,y19,y20,y21,y22,y23,y24,y25,y26]) g #[y0,y1,y2,y3,y4,y5,y6,y7,y8,y9,y10,y11,y12,y13,y14,y15,y16,y17,y18,y19,y20,y21,y22,y23,y24,y25,y26] T:=by
 have:=bL [y0,y1,y2,y3,y4,y5,y6,y7,y8,y9,y10,y11,y12,y13,y14,y15,y16,y17,y18,y19,y20,y21,y22,y23,y24,y25,y26] 0 hk;simpa [ow] using this
def bQ:Array Value:=#[.bool false,.slice none 0 0,.slice none 0 0,.bool false,.slice none 0 0,.slice none 0 0,.bool false,.slice none 0 0,.slice none 0 0,.bool false,.slice none 0 0,.slice none 0 0,.bool false,.slice none 0 0,.slice none 0 0,.bool false,.slice none 0 0,.slice none 0 0,.bool false,.slice none 0 0,.slice none 0 0,.bool false,.slice none 0 0,.slice none 0 0,.bool false,.slice none 0 0,.slice none 0 0]
theorem SBk.row {w:World}{g:Nat}{cs:Array Value}{T:TypeId}(h:SBk w g cs T)(ds:Array Value):SBk (w.setRow g ds) g ds T:=setRow_heap w g cs ds T (0,0) h
theorem jk {n g:Nat}{w W:World}(h:Below n w W)(ds:Array Value)(hg:n≤g):Below n w (W.setRow g ds) :=
 h.trans ⟨rfl,rfl,rfl,by simp,fun k hk=>setRow_other W g k ds (by omega)⟩
theorem setRow_self {w:World}{g:Nat}{cur:Array Value}{T:TypeId}(h:SBk w g cur T):w.setRow g cur=w:=by
 have hh:(w.setRow g cur).heap=w.heap:=by
  apply Array.ext_getElem?
  intro k;by_cases hk:k=g
  · subst hk
    rw[setRow_heap w k cur cur T (0,0) h];exact h.symm
  · exact setRow_other w g k cur hk
 unfold World.setRow at hh ⊢
 simp only at hh;rw[hh]
theorem iq {g:Nat}{T:TypeId}:∀ (vs:List Value) (i:Nat) (cur:Array Value) (w:World),SBk w g cur T→i+vs.length=cur.size→storeAll w g i vs=w.setRow g (cur.toList.take i++vs).toArray
 | [],i,cur,w,h,hl=>by
   have:(cur.toList.take i++([]:List Value)).toArray=cur:=by
    rw[List.append_nil,List.take_of_length_le (by simp at hl ⊢;omega)]
   rw[this];exact(setRow_self h).symm
 | v :: vs,i,cur,w,h,hl=>by
   have h1:w.setCell ⟨g,i,none⟩ v=w.setRow g (cur.setIfInBounds i v):=setCell_eq_setRow w g i cur T (0,0) v h;rw[storeAll,h1,iq vs (i+1) (cur.setIfInBounds i v) _ (SBk.row h _) (by simp at hl ⊢;omega),setRow_setRow];congr 2
   have hi:i<cur.size:=by simp at hl;omega
   have:((cur.setIfInBounds i v).toList.take (i+1))=cur.toList.take i++[v]:=by
     rw[Array.toList_setIfInBounds,List.take_add_one,List.getElem?_set_self (by simpa using hi),List.take_set_of_le (Nat.le_refl i)];rfl
   rw[this,List.append_assoc];rfl
theorem rH {w:World}{g:Nat}{cur:Array Value}{T:TypeId}{vs:List Value}(h:SBk w g cur T)(hl:cur.size=vs.length):storeAll w g 0 vs=w.setRow g vs.toArray:=by
 have:=iq vs 0 cur w h (by omega);simpa using this
def qV (P:Program) (ty:TypeId) (n:Nat):Bool:=(match P.underlying ty with|some (.struct _)=>true|some (.array _ _)=>true|_=>false)&&decide ((P.info? ty).map (·.size)=some n)
theorem kD {P:Program}{w:World}{g:Nat}{cs:Array Value}{T ty:TypeId}(h:SBk w g cs T)(n:Nat)(hn:cs.size=n)(hc:qV P ty n=true):(loadVar ty ⟨g,0,none⟩).run P w=.ok (.agg cs) w:=by
 subst hn;unfold qV at hc
 rw[Bool.and_eq_true,decide_eq_true_eq]at hc
 cases hu:P.underlying ty with
 | none=>rw[hu]at hc;simp at hc
 | some d=>exact run_loadVar_row w g T ty cs (0,0) d h hu (by rw[hu]at hc;cases d<;>simp_all) hc.2
theorem iw {P:Program}{fn:Func}{a b:Tmp}{t:TypeId}{w:World}{p:Addr}{v u:Value}{tmps:Array Value}(hf:fn.results=#[.cell a t,.tmp b])(hp:tmps.getD a undef=.pointer (some p))
 (hl:(loadVar t p).run P w=.ok v w) (hu:tmps.getD b undef=u):(results fn tmps).run P w=.ok (.tuple #[v,u]) w:=by
 subst hu;rw[Array.getD_eq_getD_getElem?]at hp;simp[results,hf,hp,asAddr,hl]
theorem wO {a:Act}{t:Tmp}{v:Value}(h:a.tmps[t]? = some v):a.eval (.tmp t)=v:=by
 simp[Act.eval,h]
theorem sG {P:Program}{T:TypeId}{cs:Array Value}(n:Nat)(hn:cs.size=n)(hc:qV P T n=true):(P.info? T).map (·.size)=some cs.size:=by
 unfold qV at hc
 rw[Bool.and_eq_true,decide_eq_true_eq]at hc;rw[hn,hc.2]
theorem dN {P:Program}{ops:Array Oper}{rest:List Oper}{o:Oper}{a:Act}{W:World}{Q:Exit→Act→World→Prop}{T:TypeId}{x y:Operand}{zs cs:Array Value}(n:Nat)(hgd:o.guard=none)(ho:o.op=.store T x y)
 (hx:a.eval x=.pointer (some ⟨W.heap.size,0,none⟩)) (hy:a.eval y=.agg cs) (hs:cs.size=n) (hz:zs.size=n) (hc:qV P T n=true) (h1:cs.all (·.oneCell')=true)
 (h:∀ V,SBk V W.heap.size cs T→Below W.heap.size W V→wpList P ops Q rest (a.put o.dst undef) V):wpList P ops Q (o :: rest) a (W.alloc (.cells zs T)) :=
 wpList_store_row hgd T x y ho W.heap.size cs hx hy T zs (SBk.new W zs T) (sG n hs hc) (by omega) h1
  (h _ (SBk.row (SBk.new W zs T) cs) (jk (bZ W _) cs (Nat.le_refl _)))
end Go.Gb
namespace Go.Proofs.YtlgkolkcokaefaaGreatDoor
open Go.ChangeShapes Go.WideShapes Go.ChangeAt Go.WideMaps Go.WideElems Go.RowKit
theorem own:ownKnob Tryz.prog.godebug=none:=by kernel_rfl
theorem gTab:Tryz.prog.globalNamed "internal/strconv.uint64pow10" = some 2:=by kernel_rfl
theorem wM:(Tryz.prog.globals[2]?).map (·.type)=some 237:=by kernel_rfl
theorem wV:Tryz.prog.cellsOf 237=20:=by kernel_rfl
theorem wU:Tryz.prog.cellsOf 110=1:=by kernel_rfl
def wH:List (String × DataW Unit):=[("math/bits.deBruijn32tab",Rows.laid_math_bits_deBruijn32tab),("math/bits.deBruijn64tab",Rows.laid_math_bits_deBruijn64tab),("internal/strconv.uint64pow10",Rows.laid_internal_strconv_uint64pow10),("strconv.ErrRange",Rows.laid_strconv_ErrRange),("strconv.ErrSyntax",Rows.laid_strconv_ErrSyntax)]
theorem z3W {W:World}(h:laidMetH Tryz.prog wH W):Tb W:=by
 rw[MakeChecks.laidMetH_plain _ _ _ (by kernel_rfl)]at h;obtain⟨ps,⟨g0,t0,cs0,f0,p0,q0,hg0,ht0,hv0,hd0,⟨g1,t1,cs1,f1,p1,q1,hg1,ht1,hv1,hd1,⟨g2,t2,cs2,f2,p2,q2,hg2,ht2,hv2,hd2,_,_⟩,_⟩,_⟩,_,_⟩:=h;obtain rfl:=Option.some.inj (gTab.symm.trans hg2);obtain rfl:=Option.some.inj (wM.symm.trans ht2);unfold Tb Lib.TabIs
 rw[hv2];congr 1
 apply Array.ext'
 rw[Lib.cells_of_tab (k:=.u64) (zs:=Lib.pow10Tab) underlying237 underlying110 wU wV hd2]
theorem z4P (os:Os)(args:Array Value):laidMetH Tryz.prog wH ((World.doorLaid Tryz.prog 4000 os).forCall (fun _ _=>0) ⟨#[],args,[]⟩).memory:=by
 rw[MakeChecks.laidMetH_plain _ _ _ (by kernel_rfl)];exact laidMet_of_run' 8 (by kernel_rfl) (by kernel_rfl)
end Go.Proofs.YtlgkolkcokaefaaGreatDoor
namespace Go.Proofs.YtlgkolkcokaefaaGreatDoor
open Go.ChangeShapes Go.WideShapes Go.ChangeAt Go.WideMaps Go.WideElems Go.RowKit Go.Gb
open Go.ChangeMaps (open_string shut_string)
theorem xP {H:Type}{enc:TypeId × Value→H}{P:Program}{f:Func}{s:ChangeSpec}{apart fresh handsOn again:Bool}{W W':World}{args:Array Value}{v:Value}{ds gs:List (DataW H)}
 (hW:DataW.Whole enc P f.params.toList s.vars apart W args.toList ds gs [])
 (hres:∀ (b:Nat) (sp:Nat→Bool) (hd:Bool),DataW.TrodAll enc P W' b sp hd f.resultTypes.toList (v.resultList f.resultTypes.size) (s.fn H (ds++gs)).results [])
 (hargs:∀ sp:Nat→Bool,DataW.TrodAll enc P W' 0 sp true f.params.toList args.toList (s.fn H (ds++gs)).args [])
 (hvars:∀ sp:Nat→Bool,DataW.TrodVars enc P W' sp s.vars (s.fn H (ds++gs)).vars [])
 (hk:W.keptBut W' (fun _=>False))
 (hok:∀ (j:Nat) (t:TypeId) (r:Value),f.resultTypes[j]? = some t→(v.resultList f.resultTypes.size)[j]? = some r→Value.okWide P W' .any 0 t r) :
 s.post enc P f apart fresh handsOn again W args v W':=by
 refine⟨ds,gs,[],[],[],[],hW,hres _ _ _,hargs _,hvars _,World.keptBut_mono (fun p hp=>hp.elim) hk,fun _=>?_⟩;refine⟨hok,_,_,([]++[])++[],⟨[]++[],[],trodAll_append (hargs _) (hres _ _ _),hvars _,rfl,?_,?_⟩,?_⟩
 · intro b off hp
   simp at hp
 · intro ha
   simp
 · intro p hp _
   simp at hp
end Go.Proofs.YtlgkolkcokaefaaGreatDoor
namespace Go.Proofs.YtlgkolkcokaefaaGreatDoor
open Go.ChangeShapes Go.WideShapes Go.ChangeAt Go.WideMaps Go.WideElems Go.RowKit
theorem z3G:Tryz.prog.globalNamed "garboard/integer.zero" = some 1:=by kernel_rfl
theorem z0v:(Tryz.prog.globals[1]?).map (·.type)=some 155:=by kernel_rfl
def jd:List (String × DataW Unit):=[("math/bits.deBruijn32tab",Rows.laid_math_bits_deBruijn32tab),("math/bits.deBruijn64tab",Rows.laid_math_bits_deBruijn64tab),("internal/strconv.uint64pow10",Rows.laid_internal_strconv_uint64pow10),("strconv.ErrRange",Rows.laid_strconv_ErrRange),("strconv.ErrSyntax",Rows.laid_strconv_ErrSyntax),("garboard/integer.zero",Rows.laid_garboard_integer_zero)]
theorem xV {W:World}(h:laidMetH Tryz.prog jd W):La W:=by
 rw[MakeChecks.laidMetH_plain _ _ _ (by kernel_rfl)]at h;obtain⟨ps,⟨g0,t0,cs0,f0,p0,q0,hg0,ht0,hv0,hd0,⟨g1,t1,cs1,f1,p1,q1,hg1,ht1,hv1,hd1,⟨g2,t2,cs2,f2,p2,q2,hg2,ht2,hv2,hd2,⟨g3,t3,cs3,f3,p3,q3,hg3,ht3,hv3,hd3,⟨g4,t4,cs4,f4,p4,q4,hg4,ht4,hv4,hd4,⟨g5,t5,cs5,f5,p5,q5,hg5,ht5,hv5,hd5,_,_⟩,_⟩,_⟩,_⟩,_⟩,_⟩,_,_⟩:=h;obtain rfl:=Option.some.inj (gTab.symm.trans hg2);obtain rfl:=Option.some.inj (wM.symm.trans ht2);obtain rfl:=Option.some.inj (z3G.symm.trans hg5);obtain rfl:=Option.some.inj (z0v.symm.trans ht5);refine⟨?_,?_⟩
 · unfold Tb Lib.TabIs
   rw[hv2];congr 1
   apply Array.ext'
   rw[Lib.cells_of_tab (k:=.u64) (zs:=Lib.pow10Tab) underlying237 underlying110 wU wV hd2]
 · obtain⟨k0,k1,hu,e0,o0,e1,o1⟩:∃ k0 k1:Field,Tryz.prog.underlying 155=some (.struct #[k0,k1])∧k0.type=3∧k0.offset=0∧k1.type=9∧k1.offset=1:=⟨_,_,underlying155,rfl,rfl,rfl,rfl⟩
   obtain⟨y0,y1,n,hx,hlen,h0,h1⟩:=trod_struct2 hu hd5;rw[e0,o0]at h0;rw[e1,o1]at h1;obtain⟨m,hc0,hy0,_⟩:=DataW.trod_int underlying3 h0;obtain⟨s,hc1,hy1,_⟩:=DataW.trod_string underlying9 h1;subst hy0 hy1;have hc:Tryz.prog.cellsOf 155=2:=by kernel_rfl
   have hci:Tryz.prog.cellsOf 3=1:=by kernel_rfl
   have hcs:Tryz.prog.cellsOf 9=1:=by kernel_rfl
   rw[hc]at hlen;rw[hci]at hc0;rw[hcs]at hc1
   have hd:m=0∧s.data.toList=[48]:=by
    have:=congrArg Prod.fst hx;simpa [Rows.laid_garboard_integer_zero,eq_comm] using this
   obtain⟨rfl,hs⟩:=hd
   have hs':s=⟨#[48]⟩:=by
    cases s with
    | mk d=>exact congrArg ByteArray.mk (Array.ext' hs)
   subst hs'
   have hl:cs5.toList=[.int .i64 0,.string ⟨#[48]⟩]:=by
    match hcs5:cs5.toList,hlen with
    | [a,b],_ =>
      rw[hcs5]at hc0 hc1;simp at hc0 hc1
      rw[hc0,hc1]
   have g0':=World.var?_cell z3G hv5 0;have g1':=World.var?_cell z3G hv5 1;have ha:cs5=#[.int .i64 0,.string ⟨#[48]⟩]:=Array.ext' hl;rw[ha]at g0' g1';have c0:W.cell? ⟨1,0,none⟩=some (.int .i64 0):=by simpa using g0'
   have c1:W.cell? ⟨1,1,none⟩=some (.string ⟨#[48]⟩):=by simpa using g1'
   exact⟨World.block_lt_of_cell? W _ c0,c0,c1⟩
theorem z0G (os:Os)(args:Array Value):laidMetH Tryz.prog jd ((World.doorLaid Tryz.prog 4000 os).forCall (fun _ _=>0) ⟨#[],args,[]⟩).memory:=by
 rw[MakeChecks.laidMetH_plain _ _ _ (by kernel_rfl)];exact laidMet_of_run' 8 (by kernel_rfl) (by kernel_rfl)
end Go.Proofs.YtlgkolkcokaefaaGreatDoor
set_option maxRecDepth 100000
set_option maxHeartbeats 20000000
namespace Go.Proofs.YtlgkolkcokaefaaGreatDoor
open Go.ChangeShapes Go.WideShapes Go.ChangeAt Go.WideMaps Go.WideElems Go.RowKit Go.Gb Go.Joins
open Go.ChangeMaps (open_string shut_string)
theorem z4N {H:Type}{enc:TypeId × Value→H}{W:World}{base b0:Nat}{spare:Nat→Bool}{held:Bool}{r:Reach}{v:Value}{d:DataW H}{p:List MemPlace}
 (hv:Value.okWide Tryz.prog W r b0 29 v) (h:DataW.Trod enc Tryz.prog W base spare held 29 v d p) :
 ∃ x y z:ByteArray,v=.agg #[.string x,.string y,.string z]∧d=.agg [.lit (.string x.data.toList),.lit (.string y.data.toList),.lit (.string z.data.toList)]∧p=[]∧x.size≤maxLen∧y.size≤maxLen∧z.size≤maxLen:=by
 obtain⟨c0,c1,c2,y0,y1,y2,m,rfl,rfl,rfl,hy0,hy1,hy2⟩:=open_agg3 underlying29 (by kernel_rfl) (by kernel_rfl) hv h;obtain⟨x,e0,rfl,wx⟩:=DataW.trod_string underlying22 hy0;obtain⟨y,e1,rfl,wy⟩:=DataW.trod_string underlying22 hy1;obtain⟨z,e2,rfl,wz⟩:=DataW.trod_string underlying22 hy2;simp at e0 e1 e2
 subst e0 e1 e2;exact⟨x,y,z,rfl,rfl,rfl,wx,wy,wz⟩
theorem z4M {H:Type}{enc:TypeId × Value→H}{W:World}{base:Nat}{spare:Nat→Bool}{held:Bool}{x y z:ByteArray}(hx:x.size≤maxLen)(hy:y.size≤maxLen)(hz:z.size≤maxLen) :
 DataW.Trod enc Tryz.prog W base spare held 29 (.agg #[.string x,.string y,.string z]) (.agg [.lit (.string x.data.toList),.lit (.string y.data.toList),.lit (.string z.data.toList)]) [] :=
 shut_agg3 (y0:=(.lit (.string x.data.toList),[])) (y1:=(.lit (.string y.data.toList),[])) (y2:=(.lit (.string z.data.toList),[])) underlying29 (by kernel_rfl) (by kernel_rfl) ⟨1,by simp[DataW.trod,underlying22,hx]⟩ ⟨1,by simp[DataW.trod,underlying22,hy]⟩ ⟨1,by simp[DataW.trod,underlying22,hz]⟩
theorem z1O {H:Type}{enc:TypeId × Value→H}{W:World}{base b0:Nat}{spare:Nat→Bool}{held:Bool}{r:Reach}{v:Value}{d:DataW H}{p:List MemPlace}
 (hv:Value.okWide Tryz.prog W r b0 24 v) (h:DataW.Trod enc Tryz.prog W base spare held 24 v d p) :
 ∃ l u:ByteArray,v=.agg #[.string l,.string u]∧d=.agg [.lit (.string l.data.toList),.lit (.string u.data.toList)]∧p=[]∧l.size≤maxLen∧u.size≤maxLen:=by
 obtain⟨c0,c1,y0,y1,m,rfl,rfl,rfl,hy0,hy1⟩:=open_agg2 underlying24 (by kernel_rfl) (by kernel_rfl) hv h;obtain⟨l,e0,rfl,wl⟩:=DataW.trod_string underlying22 hy0;obtain⟨u,e1,rfl,wu⟩:=DataW.trod_string underlying22 hy1;simp at e0 e1
 subst e0 e1;exact⟨l,u,rfl,rfl,rfl,wl,wu⟩
theorem z1v {H:Type}{enc:TypeId × Value→H}{W:World}{base:Nat}{spare:Nat→Bool}{held:Bool}{l u:ByteArray}(hl:l.size≤maxLen)(hu:u.size≤maxLen) :
 DataW.Trod enc Tryz.prog W base spare held 24 (.agg #[.string l,.string u]) (.agg [.lit (.string l.data.toList),.lit (.string u.data.toList)]) [] :=
 shut_agg2 (y0:=(.lit (.string l.data.toList),[])) (y1:=(.lit (.string u.data.toList),[])) underlying24 (by kernel_rfl) (by kernel_rfl) ⟨1,by simp[DataW.trod,underlying22,hl]⟩ ⟨1,by simp[DataW.trod,underlying22,hu]⟩
end Go.Proofs.YtlgkolkcokaefaaGreatDoor
