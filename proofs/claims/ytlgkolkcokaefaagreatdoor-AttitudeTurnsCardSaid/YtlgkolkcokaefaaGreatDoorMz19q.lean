/- texts -/
import Derived.Test.YtlgkolkcokaefaaGreatDoorMz5q
import Derived.BigQuiet
import Derived.Deep.DeepCutAuto
import Derived.StillTailTactics
import Derived.Test.YtlgkolkcokaefaaGreatDoorCards
import Derived.Test.YtlgkolkcokaefaaGreatDoorTie
import Derived.ProofKit
import Derived.LaidMore
import Derived.OpenShut
open Go.Proofs.Tryz
namespace Go.Gb
open Go Go.RowKit
theorem tX {w:World}{g:Nat}{T:TypeId}{x0 x1 a b:Value}(h:SBk w g #[x0,x1] T):SBk (storeAll w g 0 [a,b]) g #[a,b] T:=by
 have:=bz [a,b] 0 h;simpa [oz] using this
theorem xA (w:World)(g:Nat)(a b:Value):storeAll w g 0 [a,b]=(w.setCell ⟨g,0,none⟩ a).setCell ⟨g,1,none⟩ b:=rfl
theorem dh {w:World}{g:Nat}{T:TypeId}{x0 x1 x2 a b c:Value}(h:SBk w g #[x0,x1,x2] T):SBk (storeAll w g 0 [a,b,c]) g #[a,b,c] T:=by
 have:=bz [a,b,c] 0 h;simpa [oz] using this
theorem fP (w:World)(g:Nat)(a b c:Value):storeAll w g 0 [a,b,c]=((w.setCell ⟨g,0,none⟩ a).setCell ⟨g,1,none⟩ b).setCell ⟨g,2,none⟩ c:=rfl
theorem dC (W:World)(o:Obj):Below W.heap.size W (W.alloc o):=(Below.refl W.heap.size W).alloc (Nat.le_refl _) o
theorem rT (s:Nat)(v:Value):∀ (L:List (Nat × Value)) (t:Array Value),putL (L++[(s,v)]) t=(putL L t).setIfInBounds s v
 | [],_=>rfl
 | p :: L,t=>rT s v L (t.setIfInBounds p.1 p.2)
theorem kD {a:Act}{L L':List (Nat × Value)}{t:Array Value}{b:Act}{s:Nat}{v:Value}(h:a=⟨putL L t,b.defers⟩)(hL:L++[(s,v)]=L'):(⟨a.tmps.setIfInBounds s v,a.defers⟩:Act)=⟨putL L' t,b.defers⟩:=by
 subst hL;rw[rT,h]
theorem gu {w:World}{g:Nat}{T:TypeId}{x0 x1 x2 x3 x4 x5 x6 x7 x8 a b c d e f h i j:Value}(hk:SBk w g #[x0,x1,x2,x3,x4,x5,x6,x7,x8] T):SBk (storeAll w g 0 [a,b,c,d,e,f,h,i,j]) g #[a,b,c,d,e,f,h,i,j] T:=by
 have:=bz [a,b,c,d,e,f,h,i,j] 0 hk;simpa [oz] using this
theorem iy (w:World)(g:Nat)(a b c d e f h i j:Value):storeAll w g 0 [a,b,c,d,e,f,h,i,j]=((((((((w.setCell ⟨g,0,none⟩ a).setCell ⟨g,1,none⟩ b).setCell ⟨g,2,none⟩ c).setCell ⟨g,3,none⟩ d).setCell ⟨g,4,none⟩ e).setCell ⟨g,5,none⟩ f).setCell ⟨g,6,none⟩ h).setCell ⟨g,7,none⟩ i).setCell ⟨g,8,none⟩ j:=rfl
theorem rq {w:World}{g:Nat}{T:TypeId}{x0 x1 x2 x3 x4 x5 x6 x7 x8 x9 x10 x11 x12 x13 x14 x15 x16 x17 x18 x19 x20 x21 x22 x23 x24 x25 x26 y0 y1 y2 y3 y4 y5 y6 y7 y8 y9 y10 y11 y12 y13 y14 y15 y16 y17 y18 y19 y20 y21 y22 y23 y24 y25 y26:Value}(hk:SBk w g #[x0,x1,x2,x3,x4,x5,x6,x7,x8,x9,x10,x11,x12,x13,x14,x15,x16,x17,x18,x19,x20,x21,x22,x23,x24,x25,x26] T):SBk (storeAll w g 0 [y0,y1,y2,y3,y4,y5,y6,y7,y8,y9,y10,y11,y12,y13,y14,y15,y16,y17,y18,y19,y20,y21,y22,y23,y24,y25,y26]) g #[y0,y1,y2,y3,y4,y5,y6,y7,y8,y9,y10,y11,y12,y13,y14,y15,y16,y17,y18,y19,y20,y21,y22,y23,y24,y25,y26] T:=by
 have:=bz [y0,y1,y2,y3,y4,y5,y6,y7,y8,y9,y10,y11,y12,y13,y14,y15,y16,y17,y18,y19,y20,y21,y22,y23,y24,y25,y26] 0 hk;simpa [oz] using this
def bY:Array Value:=#[.bool false,.slice none 0 0,.slice none 0 0,.bool false,.slice none 0 0,.slice none 0 0,.bool false,.slice none 0 0,.slice none 0 0,.bool false,.slice none 0 0,.slice none 0 0,.bool false,.slice none 0 0,.slice none 0 0,.bool false,.slice none 0 0,.slice none 0 0,.bool false,.slice none 0 0,.slice none 0 0,.bool false,.slice none 0 0,.slice none 0 0,.bool false,.slice none 0 0,.slice none 0 0]
theorem SBk.row {w:World}{g:Nat}{cs:Array Value}{T:TypeId}(h:SBk w g cs T)(ds:Array Value):SBk (w.setRow g ds) g ds T:=setRow_heap w g cs ds T (0,0) h
theorem jr {n g:Nat}{w W:World}(h:Below n w W)(ds:Array Value)(hg:n≤g):Below n w (W.setRow g ds) :=
 h.trans ⟨rfl,rfl,rfl,by simp,fun k hk=>setRow_other W g k ds (by omega)⟩
theorem setRow_self {w:World}{g:Nat}{cur:Array Value}{T:TypeId}(h:SBk w g cur T):w.setRow g cur=w:=by
 have hh:(w.setRow g cur).heap=w.heap:=by
  apply Array.ext_getElem?
  intro k;by_cases hk:k=g
  · subst hk
    rw[setRow_heap w k cur cur T (0,0) h];exact h.symm
  · exact setRow_other w g k cur hk
 unfold World.setRow at hh ⊢
 simp only at hh;rw[hh]
theorem iA {g:Nat}{T:TypeId}:∀ (vs:List Value) (i:Nat) (cur:Array Value) (w:World),SBk w g cur T→i+vs.length=cur.size→storeAll w g i vs=w.setRow g (cur.toList.take i++vs).toArray
 | [],i,cur,w,h,hl=>by
   have:(cur.toList.take i++([]:List Value)).toArray=cur:=by
    rw[List.append_nil,List.take_of_length_le (by simp at hl ⊢;omega)]
   rw[this];exact(setRow_self h).symm
 | v :: vs,i,cur,w,h,hl=>by
   have h1:w.setCell ⟨g,i,none⟩ v=w.setRow g (cur.setIfInBounds i v):=setCell_eq_setRow w g i cur T (0,0) v h;rw[storeAll,h1,iA vs (i+1) (cur.setIfInBounds i v) _ (SBk.row h _) (by simp at hl ⊢;omega),setRow_setRow];congr 2
   have hi:i<cur.size:=by simp at hl;omega
   have:((cur.setIfInBounds i v).toList.take (i+1))=cur.toList.take i++[v]:=by
     rw[Array.toList_setIfInBounds,List.take_add_one,List.getElem?_set_self (by simpa using hi),List.take_set_of_le (Nat.le_refl i)];rfl
   rw[this,List.append_assoc];rfl
theorem rH {w:World}{g:Nat}{cur:Array Value}{T:TypeId}{vs:List Value}(h:SBk w g cur T)(hl:cur.size=vs.length):storeAll w g 0 vs=w.setRow g vs.toArray:=by
 have:=iA vs 0 cur w h (by omega);simpa using this
def mP (P:Program) (ty:TypeId) (n:Nat):Bool:=(match P.underlying ty with|some (.struct _)=>true|some (.array _ _)=>true|_=>false)&&decide ((P.info? ty).map (·.size)=some n)
theorem kF {P:Program}{w:World}{g:Nat}{cs:Array Value}{T ty:TypeId}(h:SBk w g cs T)(n:Nat)(hn:cs.size=n)(hc:mP P ty n=true):(loadVar ty ⟨g,0,none⟩).run P w=.ok (.agg cs) w:=by
 subst hn;unfold mP at hc
 rw[Bool.and_eq_true,decide_eq_true_eq]at hc
 cases hu:P.underlying ty with
 | none=>rw[hu]at hc;simp at hc
 | some d=>exact run_loadVar_row w g T ty cs (0,0) d h hu (by rw[hu]at hc;cases d<;>simp_all) hc.2
theorem iB {P:Program}{fn:Func}{a b:Tmp}{t:TypeId}{w:World}{p:Addr}{v u:Value}{tmps:Array Value}(hf:fn.results=#[.cell a t,.tmp b])(hp:tmps.getD a undef=.pointer (some p))
 (hl:(loadVar t p).run P w=.ok v w) (hu:tmps.getD b undef=u):(results fn tmps).run P w=.ok (.tuple #[v,u]) w:=by
 subst hu;rw[Array.getD_eq_getD_getElem?]at hp;simp[results,hf,hp,asAddr,hl]
theorem wM {a:Act}{t:Tmp}{v:Value}(h:a.tmps[t]? = some v):a.eval (.tmp t)=v:=by
 simp[Act.eval,h]
theorem nC {P:Program}{T:TypeId}{cs:Array Value}(n:Nat)(hn:cs.size=n)(hc:mP P T n=true):(P.info? T).map (·.size)=some cs.size:=by
 unfold mP at hc
 rw[Bool.and_eq_true,decide_eq_true_eq]at hc;rw[hn,hc.2]
theorem iX {P:Program}{ops:Array Oper}{rest:List Oper}{o:Oper}{a:Act}{w:World}{Q:Exit→Act→World→Prop}{T ty:TypeId}{x:Operand}{g:Nat}{cs:Array Value}(n:Nat)(hgd:o.guard=none)(ho:o.op=.load ty x)
 (hx:a.eval x=.pointer (some ⟨g,0,none⟩)) (k:SBk w g cs T) (hs:cs.size=n) (hc:mP P ty n=true) (h:wpList P ops Q rest (a.put o.dst (.agg cs)) w):wpList P ops Q (o :: rest) a w:=by
 have hi:=nC n hs hc;unfold mP at hc
 rw[Bool.and_eq_true,decide_eq_true_eq]at hc
 cases hu:P.underlying ty with
 | none=>rw[hu]at hc;simp at hc
 | some d=>exact wpList_load_row hgd ty x ho g hx T cs (0,0) d k hu (by rw[hu]at hc;cases d<;>simp_all) hi h
theorem fO {P:Program}{ops:Array Oper}{rest:List Oper}{o:Oper}{a:Act}{W:World}{Q:Exit→Act→World→Prop}{T:TypeId}{x y:Operand}{zs cs:Array Value}(n:Nat)(hgd:o.guard=none)(ho:o.op=.store T x y)
 (hx:a.eval x=.pointer (some ⟨W.heap.size,0,none⟩)) (hy:a.eval y=.agg cs) (hs:cs.size=n) (hz:zs.size=n) (hc:mP P T n=true) (h1:cs.all (·.oneCell')=true)
 (h:∀ V,SBk V W.heap.size cs T→Below W.heap.size W V→wpList P ops Q rest (a.put o.dst undef) V):wpList P ops Q (o :: rest) a (W.alloc (.cells zs T)) :=
 wpList_store_row hgd T x y ho W.heap.size cs hx hy T zs (SBk.new W zs T) (nC n hs hc) (by omega) h1
  (h _ (SBk.row (SBk.new W zs T) cs) (jr (dC W _) cs (Nat.le_refl _)))
end Go.Gb
set_option maxRecDepth 100000
set_option maxHeartbeats 20000000
open Go.Lib (hid)
namespace Go.Proofs.YtlgkolkcokaefaaGreatDoor
open Go.RowKit Go.Gb
abbrev CV (w:World) (f:Nat) (args:Array Value) (v:Value):Prop:=∀ W,Below w.heap.size w W→Calls Tryz.prog f args W fun e w'=>e=.returned v∧Below W.heap.size W w'
theorem CV.mono {w W:World}{f:Nat}{args:Array Value}{v:Value}(h:CV w f args v)(hb:Below w.heap.size w W):CV W f args v:=fun X hX=>h X (hb.trans (hX.mono hb.size))
theorem CV.at {w:World}{f:Nat}{args:Array Value}{v:Value}(h:CV w f args v):Calls Tryz.prog f args w fun e w'=>e=.returned v∧Below w.heap.size w w':=h w (Below.refl _ _)
theorem hRat (x:ByteArray)(n:Int)(w₀:World)   :
 CV w₀ 77 #[.string x,.int .i64 n] (.string x):=by
 intro w hw;clear hw;go_enter func77,ntmps77
 have HB0:=hid (Below.refl w.heap.size w);go_wp2;exact bodyPost_ret (v:=.string x) (by simp[results,results77,go_sem]) rfl ⟨rfl,HB0.out⟩
theorem hInt (x n:Int)(w₀:World)   :
 CV w₀ 92 #[.int .i64 x,.int .i64 n] (.int .i64 x):=by
 intro w hw;clear hw;go_enter func92,ntmps92
 have HB0:=hid (Below.refl w.heap.size w);go_wp2;exact bodyPost_ret (v:=.int .i64 x) (by simp[results,results92,go_sem]) rfl ⟨rfl,HB0.out⟩
theorem z03 (x y z:ByteArray)(n:Int)(w₀:World)(h1:CV w₀ 85 #[.string x,.string y] (.tuple #[.string z,.int .i64 n]))  :
 CV w₀ 64 #[.string x,.string y] (.string z):=by
 intro w hw;have C1:=hid (h1.mono hw);clear h1 hw;go_enter func64,ntmps64
 have HB0:=hid (Below.refl w.heap.size w);go_wp2_with fail
 with_reducible refine(C1.out _ HB0.out).mono ?_
 rintro e W1 ⟨rfl,hb⟩;have HB1:=hbt HB0 hb;clear hb;go_wp2_with fail
 with_reducible refine(hRat z n _ _ HB1.out).mono ?_
 rintro e W2 ⟨rfl,hb⟩;have HB2:=hbt HB1 hb;clear hb;go_wp2;exact bodyPost_ret (v:=.string z) (by simp[results,results64,go_sem]) rfl ⟨rfl,HB2.out⟩
theorem xR (x y z:ByteArray)(n:Int)(w₀:World)(h1:CV w₀ 84 #[.string x,.string y] (.tuple #[.string z,.int .i64 n]))  :
 CV w₀ 62 #[.string x,.string y] (.string z):=by
 intro w hw;have C1:=hid (h1.mono hw);clear h1 hw;go_enter func62,ntmps62
 have HB0:=hid (Below.refl w.heap.size w);go_wp2_with fail
 with_reducible refine(C1.out _ HB0.out).mono ?_
 rintro e W1 ⟨rfl,hb⟩;have HB1:=hbt HB0 hb;clear hb;go_wp2_with fail
 with_reducible refine(hRat z n _ _ HB1.out).mono ?_
 rintro e W2 ⟨rfl,hb⟩;have HB2:=hbt HB1 hb;clear hb;go_wp2;exact bodyPost_ret (v:=.string z) (by simp[results,results62,go_sem]) rfl ⟨rfl,HB2.out⟩
theorem xO (x y z:ByteArray)(n:Int)(w₀:World)(h1:CV w₀ 78 #[.string x,.string y] (.tuple #[.string z,.int .i64 n]))  :
 CV w₀ 58 #[.string x,.string y] (.string z):=by
 intro w hw;have C1:=hid (h1.mono hw);clear h1 hw;go_enter func58,ntmps58
 have HB0:=hid (Below.refl w.heap.size w);go_wp2_with fail
 with_reducible refine(C1.out _ HB0.out).mono ?_
 rintro e W1 ⟨rfl,hb⟩;have HB1:=hbt HB0 hb;clear hb;go_wp2_with fail
 with_reducible refine(hRat z n _ _ HB1.out).mono ?_
 rintro e W2 ⟨rfl,hb⟩;have HB2:=hbt HB1 hb;clear hb;go_wp2;exact bodyPost_ret (v:=.string z) (by simp[results,results58,go_sem]) rfl ⟨rfl,HB2.out⟩
theorem z04 (x y z:ByteArray)(n:Int)(w₀:World)(h1:CV w₀ 94 #[.string x,.string y] (.tuple #[.string z,.int .i64 n]))  :
 CV w₀ 76 #[.string x,.string y] (.string z):=by
 intro w hw;have C1:=hid (h1.mono hw);clear h1 hw;go_enter func76,ntmps76
 have HB0:=hid (Below.refl w.heap.size w);go_wp2_with fail
 with_reducible refine(C1.out _ HB0.out).mono ?_
 rintro e W1 ⟨rfl,hb⟩;have HB1:=hbt HB0 hb;clear hb;go_wp2_with fail
 with_reducible refine(hRat z n _ _ HB1.out).mono ?_
 rintro e W2 ⟨rfl,hb⟩;have HB2:=hbt HB1 hb;clear hb;go_wp2;exact bodyPost_ret (v:=.string z) (by simp[results,results76,go_sem]) rfl ⟨rfl,HB2.out⟩
theorem xQ (x y:ByteArray)(c n:Int)(w₀:World)(h1:CV w₀ 93 #[.string x,.string y] (.tuple #[.int .i64 c,.int .i64 n]))  :
 CV w₀ 75 #[.string x,.string y] (.int .i64 c):=by
 intro w hw;have C1:=hid (h1.mono hw);clear h1 hw;go_enter func75,ntmps75
 have HB0:=hid (Below.refl w.heap.size w);go_wp2_with fail
 with_reducible refine(C1.out _ HB0.out).mono ?_
 rintro e W1 ⟨rfl,hb⟩;have HB1:=hbt HB0 hb;clear hb;go_wp2_with fail
 with_reducible refine(hInt c n _ _ HB1.out).mono ?_
 rintro e W2 ⟨rfl,hb⟩;have HB2:=hbt HB1 hb;clear hb;go_wp2;exact bodyPost_ret (v:=.int .i64 c) (by simp[results,results75,go_sem]) rfl ⟨rfl,HB2.out⟩
theorem z1T (x z:ByteArray)(w₀:World)(h1:CV w₀ 62 #[.string ⟨#[48]⟩,.string x] (.string z))  :
 CV w₀ 34 #[.string x] (.string z):=by
 intro w hw;have C1:=hid (h1.mono hw);clear h1 hw;go_enter func34,ntmps34
 have HB0:=hid (Below.refl w.heap.size w);go_wp2_with fail
 with_reducible refine(C1.out _ HB0.out).mono ?_
 rintro e W1 ⟨rfl,hb⟩;have HB1:=hbt HB0 hb;clear hb;go_wp2;exact bodyPost_ret (v:=.string z) (by simp[results,results34,go_sem]) rfl ⟨rfl,HB1.out⟩
theorem hread (x y z:ByteArray)(w₀:World)   :
 CV w₀ 37 #[.agg #[.string x,.string y,.string z]] (.agg #[.string x,.string y,.string z]):=by
 intro w hw;clear hw;go_enter func37,ntmps37
 go_upto_region 1 with fail
 refine au w [(#[.string x,.string y,.string z],29),(#[.string ⟨#[]⟩,.string ⟨#[]⟩,.string ⟨#[]⟩],65)] rfl ?_;rintro W0 ⟨k1,k2,hb⟩;have HB0:=hid (show Below w.heap.size w W0 from hb);have K1:=hid k1;have K2:=hid k2;clear k1 k2 hb;obtain ⟨dK10,dK11,dK12⟩:=ax K1.out rfl rfl rfl;obtain ⟨dK20,dK21,dK22⟩:=ax K2.out rfl rfl rfl;obtain ⟨fK20,fK21,fK22⟩:=aT K2.out;go_wp2;exact bodyPost_ret (v:=.agg #[.string x,.string y,.string z]) (by simp[results,results37,go_sem,dK20,dK21,dK22]) rfl ⟨rfl,(av (l:=[.string x,.string y,.string z]) (i:=0) (by omega) HB0.out)⟩
theorem nD (x y z:ByteArray)(w₀:World)   :
 CV w₀ 31 #[.agg #[.string x,.string y,.string z]] (.agg #[.string x,.string y,.string z]):=by
 intro w hw;clear hw;go_enter func31,ntmps31
 go_upto_region 1 with fail
 refine au w [(#[.string x,.string y,.string z],65),(#[.string ⟨#[]⟩,.string ⟨#[]⟩,.string ⟨#[]⟩],29)] rfl ?_;rintro W0 ⟨k1,k2,hb⟩;have HB0:=hid (show Below w.heap.size w W0 from hb);have K1:=hid k1;have K2:=hid k2;clear k1 k2 hb;obtain ⟨dK10,dK11,dK12⟩:=ax K1.out rfl rfl rfl;obtain ⟨dK20,dK21,dK22⟩:=ax K2.out rfl rfl rfl;obtain ⟨fK20,fK21,fK22⟩:=aT K2.out;go_wp2;exact bodyPost_ret (v:=.agg #[.string x,.string y,.string z]) (by simp[results,results31,go_sem,dK20,dK21,dK22]) rfl ⟨rfl,(av (l:=[.string x,.string y,.string z]) (i:=0) (by omega) HB0.out)⟩
theorem uu (t u wh m c d s:ByteArray)(w₀:World)(h1:CV w₀ 58 #[.string t,.string t] (.string u))(h2:CV w₀ 64 #[.string ⟨#[49]⟩,.string u] (.string wh))(h3:CV w₀ 62 #[.string ⟨#[49]⟩,.string u] (.string m))(h4:CV w₀ 76 #[.string m,.string wh] (.string c))(h5:CV w₀ 58 #[.string ⟨#[50]⟩,.string t] (.string d))(h6:CV w₀ 76 #[.string d,.string wh] (.string s))  :
 CV w₀ 57 #[.string t] (.tuple #[.string c,.string s]):=by
 intro w hw;obtain ⟨C1,C2,C3,C4,C5,C6⟩:=bL (h1.mono hw) (h2.mono hw) (h3.mono hw) (h4.mono hw) (h5.mono hw) (h6.mono hw);clear h1 h2 h3 h4 h5 h6 hw;go_enter func57,ntmps57
 have HB0:=hid (Below.refl w.heap.size w);go_wp2_with fail
 with_reducible refine(C1.out _ HB0.out).mono ?_
 rintro e W1 ⟨rfl,hb⟩;have HB1:=hbt HB0 hb;clear hb;go_wp2_with fail
 with_reducible refine(C2.out _ HB1.out).mono ?_
 rintro e W2 ⟨rfl,hb⟩;have HB2:=hbt HB1 hb;clear hb;go_wp2_with fail
 with_reducible refine(C3.out _ HB2.out).mono ?_
 rintro e W3 ⟨rfl,hb⟩;have HB3:=hbt HB2 hb;clear hb;go_wp2_with fail
 with_reducible refine(C4.out _ HB3.out).mono ?_
 rintro e W4 ⟨rfl,hb⟩;have HB4:=hbt HB3 hb;clear hb;go_wp2_with fail
 with_reducible refine(C5.out _ HB4.out).mono ?_
 rintro e W5 ⟨rfl,hb⟩;have HB5:=hbt HB4 hb;clear hb;go_wp2_with fail
 with_reducible refine(C6.out _ HB5.out).mono ?_
 rintro e W6 ⟨rfl,hb⟩;have HB6:=hbt HB5 hb;clear hb;go_wp2;exact bodyPost_ret (v:=.tuple #[.string c,.string s]) (by simp[results,results57,go_sem]) rfl ⟨rfl,HB6.out⟩
theorem xS (p q c s d t st nst ct nt sd nsd cd:ByteArray)(w₀:World)(h1:CV w₀ 57 #[.string p] (.tuple #[.string c,.string s]))(h2:CV w₀ 57 #[.string q] (.tuple #[.string d,.string t]))(h3:CV w₀ 58 #[.string s,.string t] (.string st))(h4:CV w₀ 34 #[.string st] (.string nst))(h5:CV w₀ 58 #[.string c,.string t] (.string ct))(h6:CV w₀ 34 #[.string t] (.string nt))(h7:CV w₀ 58 #[.string s,.string d] (.string sd))(h8:CV w₀ 34 #[.string sd] (.string nsd))(h9:CV w₀ 58 #[.string c,.string d] (.string cd))  :
 CV w₀ 30 #[.agg #[.string p,.string q]] (.agg #[.string d,.string nst,.string ct,.string ⟨#[48]⟩,.string c,.string s,.string nt,.string nsd,.string cd]):=by
 intro w hw;obtain ⟨C1,C2,C3,C4,C5,C6,C7,C8,C9⟩:=dL (h1.mono hw) (h2.mono hw) (h3.mono hw) (h4.mono hw) (h5.mono hw) (h6.mono hw) (h7.mono hw) (h8.mono hw) (h9.mono hw);clear h1 h2 h3 h4 h5 h6 h7 h8 h9 hw;go_enter func30,ntmps30
 go_upto_region 1 with fail
 refine au w [(#[.string p,.string q],24),(#[.string ⟨#[]⟩,.string ⟨#[]⟩,.string ⟨#[]⟩,.string ⟨#[]⟩,.string ⟨#[]⟩,.string ⟨#[]⟩,.string ⟨#[]⟩,.string ⟨#[]⟩,.string ⟨#[]⟩],67)] rfl ?_;rintro W0 ⟨k1,k2,hb⟩;have HB0:=hid (show Below w.heap.size w W0 from hb);have K1:=hid k1;have K2:=hid k2;clear k1 k2 hb;have dK10:=K1.out.cell (i:=0) rfl;go_wp2_with fail
 with_reducible refine(C1.out _ HB0.out).mono ?_
 rintro e W1 ⟨rfl,hb⟩;clear dK10;have K1:=hid (K1.out.below hb);have K2:=hid (K2.out.below hb);have HB1:=hbt HB0 hb;clear hb;have dK11:=K1.out.cell (i:=1) rfl;go_wp2_with fail
 with_reducible refine(C2.out _ HB1.out).mono ?_
 rintro e W2 ⟨rfl,hb⟩;clear dK11;have K2:=hid (K2.out.below hb);have HB2:=hbt HB1 hb;clear hb;go_wp2_with fail
 with_reducible refine(C3.out _ HB2.out).mono ?_
 rintro e W3 ⟨rfl,hb⟩;have K2:=hid (K2.out.below hb);have HB3:=hbt HB2 hb;clear hb;go_wp2_with fail
 with_reducible refine(C4.out _ HB3.out).mono ?_
 rintro e W4 ⟨rfl,hb⟩;have K2:=hid (K2.out.below hb);have HB4:=hbt HB3 hb;clear hb;go_wp2_with fail
 with_reducible refine(C5.out _ HB4.out).mono ?_
 rintro e W5 ⟨rfl,hb⟩;have K2:=hid (K2.out.below hb);have HB5:=hbt HB4 hb;clear hb;go_wp2_with fail
 with_reducible refine(C6.out _ HB5.out).mono ?_
 rintro e W6 ⟨rfl,hb⟩;have K2:=hid (K2.out.below hb);have HB6:=hbt HB5 hb;clear hb;go_wp2_with fail
 with_reducible refine(C7.out _ HB6.out).mono ?_
 rintro e W7 ⟨rfl,hb⟩;have K2:=hid (K2.out.below hb);have HB7:=hbt HB6 hb;clear hb;go_wp2_with fail
 with_reducible refine(C8.out _ HB7.out).mono ?_
 rintro e W8 ⟨rfl,hb⟩;have K2:=hid (K2.out.below hb);have HB8:=hbt HB7 hb;clear hb;go_wp2_with fail
 with_reducible refine(C9.out _ HB8.out).mono ?_
 rintro e W9 ⟨rfl,hb⟩;have K2:=hid (K2.out.below hb);have HB9:=hbt HB8 hb;clear hb;obtain ⟨dK20,dK21,dK22,dK23,dK24,dK25,dK26,dK27,dK28⟩:=d9 K2.out rfl rfl rfl rfl rfl rfl rfl rfl rfl;obtain ⟨fK20,fK21,fK22,fK23,fK24,fK25,fK26,fK27,fK28⟩:=iG K2.out;go_wp2;exact bodyPost_ret (v:=.agg #[.string d,.string nst,.string ct,.string ⟨#[48]⟩,.string c,.string s,.string nt,.string nsd,.string cd]) (by simp[results,results30,go_sem,dK20,dK21,dK22,dK23,dK24,dK25,dK26,dK27,dK28]) rfl ⟨rfl,(av (l:=[.string d,.string nst,.string ct,.string ⟨#[48]⟩,.string c,.string s,.string nt,.string nsd,.string cd]) (i:=0) (by omega) HB9.out)⟩
open Go.Lib (hid)
theorem z5c  (w₀:World)   :
 CV w₀ 55 #[.slice none 0 0] (.bool true):=by
 intro w hw;clear hw;go_enter func55,ntmps55
 have HB0:=hid (Below.refl w.heap.size w);go_wp2;refine wp_loop_rounds 1 ?_;rw[rounds_succ];go_wp2;exact bodyPost_ret (v:=.bool true) (by simp[results,results55,go_sem]) rfl ⟨rfl,HB0.out⟩
theorem z4H (g:Nat)(x:ByteArray)(w₀:World)(h1:CV w₀ 74 #[.string x] (.bool true))  (kKX:SBk w₀ g #[.string x] 22) :
 CV w₀ 55 #[.slice (some ⟨g,0,none⟩) 1 1] (.bool true):=by
 intro w hw;have C1:=hid (h1.mono hw);have KX:=hid (kKX.below hw);clear h1 kKX hw;go_enter func55,ntmps55
 have HB0:=hid (Below.refl w.heap.size w);go_wp2;refine wp_loop_rounds 2 ?_;rw[rounds_succ];have dKX0:=KX.out.cell (i:=0) rfl;go_wp2_with fail
 with_reducible refine(C1.out _ HB0.out).mono ?_
 rintro e W1 ⟨rfl,hb⟩;clear dKX0;have HB1:=hbt HB0 hb;clear hb;go_wp2;rw[rounds_succ];go_wp2;exact bodyPost_ret (v:=.bool true) (by simp[results,results55,go_sem]) rfl ⟨rfl,HB1.out⟩
theorem z0b (g:Nat)(x y:ByteArray)(w₀:World)(h1:CV w₀ 74 #[.string x] (.bool false))  (kKX:SBk w₀ g #[.string x,.string y] 22) :
 CV w₀ 55 #[.slice (some ⟨g,0,none⟩) 2 2] (.bool false):=by
 intro w hw;have C1:=hid (h1.mono hw);have KX:=hid (kKX.below hw);clear h1 kKX hw;go_enter func55,ntmps55
 have HB0:=hid (Below.refl w.heap.size w);go_wp2;refine wp_loop_rounds 3 ?_;rw[rounds_succ];have dKX0:=KX.out.cell (i:=0) rfl;go_wp2_with fail
 with_reducible refine(C1.out _ HB0.out).mono ?_
 rintro e W1 ⟨rfl,hb⟩;clear dKX0;have HB1:=hbt HB0 hb;clear hb;go_wp2;exact bodyPost_ret (v:=.bool false) (by simp[results,results55,go_sem]) rfl ⟨rfl,HB1.out⟩
theorem z0a (g:Nat)(x y:ByteArray)(w₀:World)(h1:CV w₀ 74 #[.string x] (.bool true))(h2:CV w₀ 74 #[.string y] (.bool false))  (kKX:SBk w₀ g #[.string x,.string y] 22) :
 CV w₀ 55 #[.slice (some ⟨g,0,none⟩) 2 2] (.bool false):=by
 intro w hw;obtain ⟨C1,C2,KX⟩:=ah (h1.mono hw) (h2.mono hw) (kKX.below hw);clear h1 h2 kKX hw;go_enter func55,ntmps55
 have HB0:=hid (Below.refl w.heap.size w);go_wp2;refine wp_loop_rounds 3 ?_;rw[rounds_succ];have dKX0:=KX.out.cell (i:=0) rfl;go_wp2_with fail
 with_reducible refine(C1.out _ HB0.out).mono ?_
 rintro e W1 ⟨rfl,hb⟩;clear dKX0;have KX:=hid (KX.out.below hb);have HB1:=hbt HB0 hb;clear hb;go_wp2;rw[rounds_succ];have dKX1:=KX.out.cell (i:=1) rfl;go_wp2_with fail
 with_reducible refine(C2.out _ HB1.out).mono ?_
 rintro e W2 ⟨rfl,hb⟩;clear dKX1;have HB2:=hbt HB1 hb;clear hb;go_wp2;exact bodyPost_ret (v:=.bool false) (by simp[results,results55,go_sem]) rfl ⟨rfl,HB2.out⟩
theorem z1V (g:Nat)(x y:ByteArray)(w₀:World)(h1:CV w₀ 74 #[.string x] (.bool true))(h2:CV w₀ 74 #[.string y] (.bool true))  (kKX:SBk w₀ g #[.string x,.string y] 22) :
 CV w₀ 55 #[.slice (some ⟨g,0,none⟩) 2 2] (.bool true):=by
 intro w hw;obtain ⟨C1,C2,KX⟩:=ah (h1.mono hw) (h2.mono hw) (kKX.below hw);clear h1 h2 kKX hw;go_enter func55,ntmps55
 have HB0:=hid (Below.refl w.heap.size w);go_wp2;refine wp_loop_rounds 3 ?_;rw[rounds_succ];have dKX0:=KX.out.cell (i:=0) rfl;go_wp2_with fail
 with_reducible refine(C1.out _ HB0.out).mono ?_
 rintro e W1 ⟨rfl,hb⟩;clear dKX0;have KX:=hid (KX.out.below hb);have HB1:=hbt HB0 hb;clear hb;go_wp2;rw[rounds_succ];have dKX1:=KX.out.cell (i:=1) rfl;go_wp2_with fail
 with_reducible refine(C2.out _ HB1.out).mono ?_
 rintro e W2 ⟨rfl,hb⟩;clear dKX1;have HB2:=hbt HB1 hb;clear hb;go_wp2;rw[rounds_succ];go_wp2;exact bodyPost_ret (v:=.bool true) (by simp[results,results55,go_sem]) rfl ⟨rfl,HB2.out⟩
abbrev An2 (w:World) (x y:ByteArray) (b:Bool):Prop:=∀ (g:Nat) (W:World),Below w.heap.size w W→SBk W g #[.string x,.string y] 22→CR 55 #[.slice (some ⟨g,0,none⟩) 2 2] W (.bool b)
theorem dZ {w W:World}{x y:ByteArray}{b:Bool}(h:An2 w x y b)(hb:Below w.heap.size w W):An2 W x y b:=fun g X hX=>h g X (hb.trans (hX.mono hb.size))
theorem uR {x y:ByteArray}{vx vy:Bool}{w:World}(hx:CV w 74 #[.string x] (.bool vx))(hy:CV w 74 #[.string y] (.bool vy)):An2 w x y (vx&&vy):=by
 intro g W hb k;have hx:=hx.mono hb;have hy:=hy.mono hb
 cases vx with
 | false=>exact(z0b g x y W hx k).at
 | true =>
   cases vy with
   | false=>exact(z0a g x y W hx hy k).at
   | true =>
     exact(z1V g x y W hx hy k).at
theorem z09 (g:Nat)(x y z:ByteArray)(w₀:World)(h1:CV w₀ 74 #[.string x] (.bool false))  (kKX:SBk w₀ g #[.string x,.string y,.string z] 22) :
 CV w₀ 55 #[.slice (some ⟨g,0,none⟩) 3 3] (.bool false):=by
 intro w hw;have C1:=hid (h1.mono hw);have KX:=hid (kKX.below hw);clear h1 kKX hw;go_enter func55,ntmps55
 have HB0:=hid (Below.refl w.heap.size w);go_wp2;refine wp_loop_rounds 4 ?_;rw[rounds_succ];have dKX0:=KX.out.cell (i:=0) rfl;go_wp2_with fail
 with_reducible refine(C1.out _ HB0.out).mono ?_
 rintro e W1 ⟨rfl,hb⟩;clear dKX0;have HB1:=hbt HB0 hb;clear hb;go_wp2;exact bodyPost_ret (v:=.bool false) (by simp[results,results55,go_sem]) rfl ⟨rfl,HB1.out⟩
theorem z08 (g:Nat)(x y z:ByteArray)(w₀:World)(h1:CV w₀ 74 #[.string x] (.bool true))(h2:CV w₀ 74 #[.string y] (.bool false))  (kKX:SBk w₀ g #[.string x,.string y,.string z] 22) :
 CV w₀ 55 #[.slice (some ⟨g,0,none⟩) 3 3] (.bool false):=by
 intro w hw;obtain ⟨C1,C2,KX⟩:=ah (h1.mono hw) (h2.mono hw) (kKX.below hw);clear h1 h2 kKX hw;go_enter func55,ntmps55
 have HB0:=hid (Below.refl w.heap.size w);go_wp2;refine wp_loop_rounds 4 ?_;rw[rounds_succ];have dKX0:=KX.out.cell (i:=0) rfl;go_wp2_with fail
 with_reducible refine(C1.out _ HB0.out).mono ?_
 rintro e W1 ⟨rfl,hb⟩;clear dKX0;have KX:=hid (KX.out.below hb);have HB1:=hbt HB0 hb;clear hb;go_wp2;rw[rounds_succ];have dKX1:=KX.out.cell (i:=1) rfl;go_wp2_with fail
 with_reducible refine(C2.out _ HB1.out).mono ?_
 rintro e W2 ⟨rfl,hb⟩;clear dKX1;have HB2:=hbt HB1 hb;clear hb;go_wp2;exact bodyPost_ret (v:=.bool false) (by simp[results,results55,go_sem]) rfl ⟨rfl,HB2.out⟩
theorem z07 (g:Nat)(x y z:ByteArray)(w₀:World)(h1:CV w₀ 74 #[.string x] (.bool true))(h2:CV w₀ 74 #[.string y] (.bool true))(h3:CV w₀ 74 #[.string z] (.bool false))  (kKX:SBk w₀ g #[.string x,.string y,.string z] 22) :
 CV w₀ 55 #[.slice (some ⟨g,0,none⟩) 3 3] (.bool false):=by
 intro w hw;obtain ⟨C1,C2,C3,KX⟩:=aH (h1.mono hw) (h2.mono hw) (h3.mono hw) (kKX.below hw);clear h1 h2 h3 kKX hw;go_enter func55,ntmps55
 have HB0:=hid (Below.refl w.heap.size w);go_wp2;refine wp_loop_rounds 4 ?_;rw[rounds_succ];have dKX0:=KX.out.cell (i:=0) rfl;go_wp2_with fail
 with_reducible refine(C1.out _ HB0.out).mono ?_
 rintro e W1 ⟨rfl,hb⟩;clear dKX0;have KX:=hid (KX.out.below hb);have HB1:=hbt HB0 hb;clear hb;go_wp2;rw[rounds_succ];have dKX1:=KX.out.cell (i:=1) rfl;go_wp2_with fail
 with_reducible refine(C2.out _ HB1.out).mono ?_
 rintro e W2 ⟨rfl,hb⟩;clear dKX1;have KX:=hid (KX.out.below hb);have HB2:=hbt HB1 hb;clear hb;go_wp2;rw[rounds_succ];have dKX2:=KX.out.cell (i:=2) rfl;go_wp2_with fail
 with_reducible refine(C3.out _ HB2.out).mono ?_
 rintro e W3 ⟨rfl,hb⟩;clear dKX2;have HB3:=hbt HB2 hb;clear hb;go_wp2;exact bodyPost_ret (v:=.bool false) (by simp[results,results55,go_sem]) rfl ⟨rfl,HB3.out⟩
theorem z1U (g:Nat)(x y z:ByteArray)(w₀:World)(h1:CV w₀ 74 #[.string x] (.bool true))(h2:CV w₀ 74 #[.string y] (.bool true))(h3:CV w₀ 74 #[.string z] (.bool true))  (kKX:SBk w₀ g #[.string x,.string y,.string z] 22) :
 CV w₀ 55 #[.slice (some ⟨g,0,none⟩) 3 3] (.bool true):=by
 intro w hw;obtain ⟨C1,C2,C3,KX⟩:=aH (h1.mono hw) (h2.mono hw) (h3.mono hw) (kKX.below hw);clear h1 h2 h3 kKX hw;go_enter func55,ntmps55
 have HB0:=hid (Below.refl w.heap.size w);go_wp2;refine wp_loop_rounds 4 ?_;rw[rounds_succ];have dKX0:=KX.out.cell (i:=0) rfl;go_wp2_with fail
 with_reducible refine(C1.out _ HB0.out).mono ?_
 rintro e W1 ⟨rfl,hb⟩;clear dKX0;have KX:=hid (KX.out.below hb);have HB1:=hbt HB0 hb;clear hb;go_wp2;rw[rounds_succ];have dKX1:=KX.out.cell (i:=1) rfl;go_wp2_with fail
 with_reducible refine(C2.out _ HB1.out).mono ?_
 rintro e W2 ⟨rfl,hb⟩;clear dKX1;have KX:=hid (KX.out.below hb);have HB2:=hbt HB1 hb;clear hb;go_wp2;rw[rounds_succ];have dKX2:=KX.out.cell (i:=2) rfl;go_wp2_with fail
 with_reducible refine(C3.out _ HB2.out).mono ?_
 rintro e W3 ⟨rfl,hb⟩;clear dKX2;have HB3:=hbt HB2 hb;clear hb;go_wp2;rw[rounds_succ];go_wp2;exact bodyPost_ret (v:=.bool true) (by simp[results,results55,go_sem]) rfl ⟨rfl,HB3.out⟩
abbrev An3 (w:World) (x y z:ByteArray) (b:Bool):Prop:=∀ (g:Nat) (W:World),Below w.heap.size w W→SBk W g #[.string x,.string y,.string z] 22→CR 55 #[.slice (some ⟨g,0,none⟩) 3 3] W (.bool b)
theorem fK {w W:World}{x y z:ByteArray}{b:Bool}(h:An3 w x y z b)(hb:Below w.heap.size w W):An3 W x y z b:=fun g X hX=>h g X (hb.trans (hX.mono hb.size))
theorem z0N {x y z:ByteArray}{vx vy vz:Bool}{w:World}(hx:CV w 74 #[.string x] (.bool vx))(hy:CV w 74 #[.string y] (.bool vy))(hz:CV w 74 #[.string z] (.bool vz)):An3 w x y z (vx&&vy&&vz):=by
 intro g W hb k;have hx:=hx.mono hb;have hy:=hy.mono hb;have hz:=hz.mono hb
 cases vx with
 | false=>exact(z09 g x y z W hx k).at
 | true =>
   cases vy with
   | false=>exact(z08 g x y z W hx hy k).at
   | true =>
     cases vz with
     | false=>exact(z07 g x y z W hx hy hz k).at
     | true =>
       exact(z1U g x y z W hx hy hz k).at
theorem z1X (l x u:ByteArray)(w₀:World)(h1:CV w₀ 75 #[.string l,.string x] (.int .i64 1))  :
 CV w₀ 56 #[.string l,.string x,.string u] (.bool false):=by
 intro w hw;have C1:=hid (h1.mono hw);clear h1 hw;go_enter func56,ntmps56
 have HB0:=hid (Below.refl w.heap.size w);go_wp2_with fail
 with_reducible refine(C1.out _ HB0.out).mono ?_
 rintro e W1 ⟨rfl,hb⟩;have HB1:=hbt HB0 hb;clear hb;go_wp2;exact bodyPost_ret (v:=.bool false) (by simp[results,results56,go_sem]) rfl ⟨rfl,HB1.out⟩
theorem z0d (l x u:ByteArray)(c d:Int)(b:Bool)(w₀:World)(h1:CV w₀ 75 #[.string l,.string x] (.int .i64 c))(h2:CV w₀ 75 #[.string x,.string u] (.int .i64 d))(f1:decide (c≤0)=true)(f2:decide (d≤0)=b) :
 CV w₀ 56 #[.string l,.string x,.string u] (.bool b):=by
 intro w hw;have C1:=hid (h1.mono hw);have C2:=hid (h2.mono hw);have g1:=f1;have g2:=f2;clear f1 f2 h1 h2 hw;go_enter func56,ntmps56
 have HB0:=hid (Below.refl w.heap.size w);go_wp2_with fail
 with_reducible refine(C1.out _ HB0.out).mono ?_
 rintro e W1 ⟨rfl,hb⟩;have HB1:=hbt HB0 hb;clear hb;go_wp2_with fail
 with_reducible refine(C2.out _ HB1.out).mono ?_
 rintro e W2 ⟨rfl,hb⟩;have HB2:=hbt HB1 hb;clear hb;go_wp2;exact bodyPost_ret (v:=.bool b) (by simp[results,results56,go_sem]) rfl ⟨rfl,HB2.out⟩
theorem z3C (p q:ByteArray)(w₀:World)(h1:CV w₀ 56 #[.string ⟨#[45,49]⟩,.string p,.string ⟨#[49]⟩] (.bool true))(h2:CV w₀ 56 #[.string ⟨#[45,49,47,50]⟩,.string q,.string ⟨#[49,47,50]⟩] (.bool true))(kn:An2 w₀ p q true) :
 CV w₀ 29 #[.agg #[.string p,.string q],.slice none 0 0] (.int .i64 0):=by
 intro w hw;obtain ⟨C1,C2,KN⟩:=ah (h1.mono hw) (h2.mono hw) (dZ kn hw);clear kn h1 h2 hw;go_enter func29,ntmps29
 go_upto_region 1 with fail
 refine au w [(#[.string p,.string q],24)] rfl ?_;rintro W0 ⟨k1,hb⟩;have HB0:=hid (show Below w.heap.size w W0 from hb);have K1:=hid k1;clear k1 hb;obtain ⟨dK10,dK11⟩:=aI K1.out rfl rfl;go_wp2_with fail
 have hb:=dC W0 (.cells #[.string p,.string q] 22);have k2:=SBk.new W0 #[.string p,.string q] 22;generalize W0.alloc (.cells #[.string p,.string q] 22)=W1 at *;have K1:=hid (K1.out.below hb);have HB1:=hbt HB0 hb;have K2:=hid k2;clear k2 hb;with_reducible refine((KN.out _ _ HB1.out K2.out)).mono ?_
 rintro e W2 ⟨rfl,hb⟩;clear dK10 dK11;have K1:=hid (K1.out.below hb);have HB2:=hbt HB1 hb;clear hb;go_wp2_with fail
 with_reducible refine((z5c _ _ HB2.out)).mono ?_
 rintro e W3 ⟨rfl,hb⟩;have K1:=hid (K1.out.below hb);have HB3:=hbt HB2 hb;clear hb;have dK10:=K1.out.cell (i:=0) rfl;go_wp2_with fail
 with_reducible refine(C1.out _ HB3.out).mono ?_
 rintro e W4 ⟨rfl,hb⟩;clear dK10;have K1:=hid (K1.out.below hb);have HB4:=hbt HB3 hb;clear hb;have dK11:=K1.out.cell (i:=1) rfl;go_wp2_with fail
 with_reducible refine(C2.out _ HB4.out).mono ?_
 rintro e W5 ⟨rfl,hb⟩;clear dK11;have HB5:=hbt HB4 hb;clear hb;go_wp2;exact bodyPost_ret (v:=.int .i64 0) (by simp[results,results29,go_sem]) rfl ⟨rfl,HB5.out⟩
theorem z3B (g:Nat)(p q x y z:ByteArray)(w₀:World)  (kn:An2 w₀ p q false)(kKX:SBk w₀ g #[.string x,.string y,.string z] 22) :
 CV w₀ 29 #[.agg #[.string p,.string q],.slice (some ⟨g,0,none⟩) 3 3] (.int .i64 1):=by
 intro w hw;have KN:=hid (dZ kn hw);clear kn;have KX:=hid (kKX.below hw);clear kKX hw;go_enter func29,ntmps29
 go_upto_region 1 with fail
 refine au w [(#[.string p,.string q],24)] rfl ?_;rintro W0 ⟨k1,hb⟩;have HB0:=hid (show Below w.heap.size w W0 from hb);have K1:=hid k1;clear k1 hb;obtain ⟨dK10,dK11⟩:=aI K1.out rfl rfl;go_wp2_with fail
 have hb:=dC W0 (.cells #[.string p,.string q] 22);have k2:=SBk.new W0 #[.string p,.string q] 22;generalize W0.alloc (.cells #[.string p,.string q] 22)=W1 at *;have HB1:=hbt HB0 hb;have K2:=hid k2;clear k2 hb;with_reducible refine((KN.out _ _ HB1.out K2.out)).mono ?_
 rintro e W2 ⟨rfl,hb⟩;clear dK10 dK11;have HB2:=hbt HB1 hb;clear hb;go_wp2;exact bodyPost_ret (v:=.int .i64 1) (by simp[results,results29,go_sem]) rfl ⟨rfl,HB2.out⟩
theorem z3A (g:Nat)(p q x y z:ByteArray)(w₀:World)  (kn:An2 w₀ p q true)(ko:An3 w₀ x y z false)(kKX:SBk w₀ g #[.string x,.string y,.string z] 22) :
 CV w₀ 29 #[.agg #[.string p,.string q],.slice (some ⟨g,0,none⟩) 3 3] (.int .i64 1):=by
 intro w hw;have KN:=hid (dZ kn hw);clear kn;have KO:=hid (fK ko hw);clear ko;have KX:=hid (kKX.below hw);clear kKX hw;go_enter func29,ntmps29
 go_upto_region 1 with fail
 refine au w [(#[.string p,.string q],24)] rfl ?_;rintro W0 ⟨k1,hb⟩;have HB0:=hid (show Below w.heap.size w W0 from hb);have KX:=hid (KX.out.below HB0.out);have K1:=hid k1;clear k1 hb;obtain ⟨dK10,dK11⟩:=aI K1.out rfl rfl;go_wp2_with fail
 have hb:=dC W0 (.cells #[.string p,.string q] 22);have k2:=SBk.new W0 #[.string p,.string q] 22;generalize W0.alloc (.cells #[.string p,.string q] 22)=W1 at *;have KX:=hid (KX.out.below hb);have HB1:=hbt HB0 hb;have K2:=hid k2;clear k2 hb;with_reducible refine((KN.out _ _ HB1.out K2.out)).mono ?_
 rintro e W2 ⟨rfl,hb⟩;clear dK10 dK11;have KX:=hid (KX.out.below hb);have HB2:=hbt HB1 hb;clear hb;go_wp2_with fail
 with_reducible refine((KO.out _ _ HB2.out KX.out)).mono ?_
 rintro e W3 ⟨rfl,hb⟩;have HB3:=hbt HB2 hb;clear hb;go_wp2;exact bodyPost_ret (v:=.int .i64 1) (by simp[results,results29,go_sem]) rfl ⟨rfl,HB3.out⟩
theorem z3z (g:Nat)(p q x y z:ByteArray)(w₀:World)(h1:CV w₀ 56 #[.string ⟨#[45,49]⟩,.string p,.string ⟨#[49]⟩] (.bool false))(kn:An2 w₀ p q true)(ko:An3 w₀ x y z true)(kKX:SBk w₀ g #[.string x,.string y,.string z] 22) :
 CV w₀ 29 #[.agg #[.string p,.string q],.slice (some ⟨g,0,none⟩) 3 3] (.int .i64 2):=by
 intro w hw;have C1:=hid (h1.mono hw);have KN:=hid (dZ kn hw);clear kn;have KO:=hid (fK ko hw);clear ko;have KX:=hid (kKX.below hw);clear h1 kKX hw;go_enter func29,ntmps29
 go_upto_region 1 with fail
 refine au w [(#[.string p,.string q],24)] rfl ?_;rintro W0 ⟨k1,hb⟩;have HB0:=hid (show Below w.heap.size w W0 from hb);have KX:=hid (KX.out.below HB0.out);have K1:=hid k1;clear k1 hb;obtain ⟨dK10,dK11⟩:=aI K1.out rfl rfl;go_wp2_with fail
 have hb:=dC W0 (.cells #[.string p,.string q] 22);have k2:=SBk.new W0 #[.string p,.string q] 22;generalize W0.alloc (.cells #[.string p,.string q] 22)=W1 at *;have KX:=hid (KX.out.below hb);have K1:=hid (K1.out.below hb);have HB1:=hbt HB0 hb;have K2:=hid k2;clear k2 hb;with_reducible refine((KN.out _ _ HB1.out K2.out)).mono ?_
 rintro e W2 ⟨rfl,hb⟩;clear dK10 dK11;have KX:=hid (KX.out.below hb);have K1:=hid (K1.out.below hb);have HB2:=hbt HB1 hb;clear hb;go_wp2_with fail
 with_reducible refine((KO.out _ _ HB2.out KX.out)).mono ?_
 rintro e W3 ⟨rfl,hb⟩;have K1:=hid (K1.out.below hb);have HB3:=hbt HB2 hb;clear hb;have dK10:=K1.out.cell (i:=0) rfl;go_wp2_with fail
 with_reducible refine(C1.out _ HB3.out).mono ?_
 rintro e W4 ⟨rfl,hb⟩;clear dK10;have HB4:=hbt HB3 hb;clear hb;go_wp2;exact bodyPost_ret (v:=.int .i64 2) (by simp[results,results29,go_sem]) rfl ⟨rfl,HB4.out⟩
theorem z3y (g:Nat)(p q x y z:ByteArray)(w₀:World)(h1:CV w₀ 56 #[.string ⟨#[45,49]⟩,.string p,.string ⟨#[49]⟩] (.bool true))(h2:CV w₀ 56 #[.string ⟨#[45,49,47,50]⟩,.string q,.string ⟨#[49,47,50]⟩] (.bool false))(kn:An2 w₀ p q true)(ko:An3 w₀ x y z true)(kKX:SBk w₀ g #[.string x,.string y,.string z] 22) :
 CV w₀ 29 #[.agg #[.string p,.string q],.slice (some ⟨g,0,none⟩) 3 3] (.int .i64 2):=by
 intro w hw;obtain ⟨C1,C2,KN⟩:=ah (h1.mono hw) (h2.mono hw) (dZ kn hw);clear kn;have KO:=hid (fK ko hw);clear ko;have KX:=hid (kKX.below hw);clear h1 h2 kKX hw;go_enter func29,ntmps29
 go_upto_region 1 with fail
 refine au w [(#[.string p,.string q],24)] rfl ?_;rintro W0 ⟨k1,hb⟩;have HB0:=hid (show Below w.heap.size w W0 from hb);have KX:=hid (KX.out.below HB0.out);have K1:=hid k1;clear k1 hb;obtain ⟨dK10,dK11⟩:=aI K1.out rfl rfl;go_wp2_with fail
 have hb:=dC W0 (.cells #[.string p,.string q] 22);have k2:=SBk.new W0 #[.string p,.string q] 22;generalize W0.alloc (.cells #[.string p,.string q] 22)=W1 at *;have KX:=hid (KX.out.below hb);have K1:=hid (K1.out.below hb);have HB1:=hbt HB0 hb;have K2:=hid k2;clear k2 hb;with_reducible refine((KN.out _ _ HB1.out K2.out)).mono ?_
 rintro e W2 ⟨rfl,hb⟩;clear dK10 dK11;have KX:=hid (KX.out.below hb);have K1:=hid (K1.out.below hb);have HB2:=hbt HB1 hb;clear hb;go_wp2_with fail
 with_reducible refine((KO.out _ _ HB2.out KX.out)).mono ?_
 rintro e W3 ⟨rfl,hb⟩;have K1:=hid (K1.out.below hb);have HB3:=hbt HB2 hb;clear hb;have dK10:=K1.out.cell (i:=0) rfl;go_wp2_with fail
 with_reducible refine(C1.out _ HB3.out).mono ?_
 rintro e W4 ⟨rfl,hb⟩;clear dK10;have K1:=hid (K1.out.below hb);have HB4:=hbt HB3 hb;clear hb;have dK11:=K1.out.cell (i:=1) rfl;go_wp2_with fail
 with_reducible refine(C2.out _ HB4.out).mono ?_
 rintro e W5 ⟨rfl,hb⟩;clear dK11;have HB5:=hbt HB4 hb;clear hb;go_wp2;exact bodyPost_ret (v:=.int .i64 2) (by simp[results,results29,go_sem]) rfl ⟨rfl,HB5.out⟩
theorem z0g (g:Nat)(p q x y z:ByteArray)(w₀:World)(h1:CV w₀ 56 #[.string ⟨#[45,49]⟩,.string p,.string ⟨#[49]⟩] (.bool true))(h2:CV w₀ 56 #[.string ⟨#[45,49,47,50]⟩,.string q,.string ⟨#[49,47,50]⟩] (.bool true))(kn:An2 w₀ p q true)(ko:An3 w₀ x y z true)(kKX:SBk w₀ g #[.string x,.string y,.string z] 22) :
 CV w₀ 29 #[.agg #[.string p,.string q],.slice (some ⟨g,0,none⟩) 3 3] (.int .i64 0):=by
 intro w hw;obtain ⟨C1,C2,KN⟩:=ah (h1.mono hw) (h2.mono hw) (dZ kn hw);clear kn;have KO:=hid (fK ko hw);clear ko;have KX:=hid (kKX.below hw);clear h1 h2 kKX hw;go_enter func29,ntmps29
 go_upto_region 1 with fail
 refine au w [(#[.string p,.string q],24)] rfl ?_;rintro W0 ⟨k1,hb⟩;have HB0:=hid (show Below w.heap.size w W0 from hb);have KX:=hid (KX.out.below HB0.out);have K1:=hid k1;clear k1 hb;obtain ⟨dK10,dK11⟩:=aI K1.out rfl rfl;go_wp2_with fail
 have hb:=dC W0 (.cells #[.string p,.string q] 22);have k2:=SBk.new W0 #[.string p,.string q] 22;generalize W0.alloc (.cells #[.string p,.string q] 22)=W1 at *;have KX:=hid (KX.out.below hb);have K1:=hid (K1.out.below hb);have HB1:=hbt HB0 hb;have K2:=hid k2;clear k2 hb;with_reducible refine((KN.out _ _ HB1.out K2.out)).mono ?_
 rintro e W2 ⟨rfl,hb⟩;clear dK10 dK11;have KX:=hid (KX.out.below hb);have K1:=hid (K1.out.below hb);have HB2:=hbt HB1 hb;clear hb;go_wp2_with fail
 with_reducible refine((KO.out _ _ HB2.out KX.out)).mono ?_
 rintro e W3 ⟨rfl,hb⟩;have K1:=hid (K1.out.below hb);have HB3:=hbt HB2 hb;clear hb;have dK10:=K1.out.cell (i:=0) rfl;go_wp2_with fail
 with_reducible refine(C1.out _ HB3.out).mono ?_
 rintro e W4 ⟨rfl,hb⟩;clear dK10;have K1:=hid (K1.out.below hb);have HB4:=hbt HB3 hb;clear hb;have dK11:=K1.out.cell (i:=1) rfl;go_wp2_with fail
 with_reducible refine(C2.out _ HB4.out).mono ?_
 rintro e W5 ⟨rfl,hb⟩;clear dK11;have HB5:=hbt HB4 hb;clear hb;go_wp2;exact bodyPost_ret (v:=.int .i64 0) (by simp[results,results29,go_sem]) rfl ⟨rfl,HB5.out⟩
abbrev Ch3 (w:World) (p q x y z:ByteArray) (er:Int):Prop:=∀ (g:Nat) (W:World),Below w.heap.size w W→SBk W g #[.string x,.string y,.string z] 22→CR 29 #[.agg #[.string p,.string q],.slice (some ⟨g,0,none⟩) 3 3] W (.int .i64 er)
theorem jG {w W:World}{p q x y z:ByteArray}{er:Int}(h:Ch3 w p q x y z er)(hb:Below w.heap.size w W):Ch3 W p q x y z er:=fun g X hX=>h g X (hb.trans (hX.mono hb.size))
open Go.ChangeShapes Go.WideShapes Go.ChangeAt Go.WideMaps Go.WideElems Go.RowKit
theorem own:ownKnob Tryz.prog.godebug=none:=by kernel_rfl
theorem gTab:Tryz.prog.globalNamed "internal/strconv.uint64pow10" = some 2:=by kernel_rfl
theorem wK:(Tryz.prog.globals[2]?).map (·.type)=some 237:=by kernel_rfl
theorem wS:Tryz.prog.cellsOf 237=20:=by kernel_rfl
theorem wR:Tryz.prog.cellsOf 110=1:=by kernel_rfl
def wG:List (String × DataW Unit):=[("math/bits.deBruijn32tab",Rows.laid_math_bits_deBruijn32tab),("math/bits.deBruijn64tab",Rows.laid_math_bits_deBruijn64tab),("internal/strconv.uint64pow10",Rows.laid_internal_strconv_uint64pow10),("strconv.ErrRange",Rows.laid_strconv_ErrRange),("strconv.ErrSyntax",Rows.laid_strconv_ErrSyntax)]
theorem z3S {W:World}(h:laidMetH Tryz.prog wG W):Tb W:=by
 rw[MakeChecks.laidMetH_plain _ _ _ (by kernel_rfl)]at h;obtain⟨ps,⟨g0,t0,cs0,f0,p0,q0,hg0,ht0,hv0,hd0,⟨g1,t1,cs1,f1,p1,q1,hg1,ht1,hv1,hd1,⟨g2,t2,cs2,f2,p2,q2,hg2,ht2,hv2,hd2,_,_⟩,_⟩,_⟩,_,_⟩:=h;obtain rfl:=Option.some.inj (gTab.symm.trans hg2);obtain rfl:=Option.some.inj (wK.symm.trans ht2);unfold Tb Lib.TabIs
 rw[hv2];congr 1
 apply Array.ext'
 rw[Lib.cells_of_tab (k:=.u64) (zs:=Lib.pow10Tab) underlying237 underlying110 wR wS hd2]
theorem z4I (os:Os)(args:Array Value):laidMetH Tryz.prog wG ((World.doorLaid Tryz.prog 4000 os).forCall (fun _ _=>0) ⟨#[],args,[]⟩).memory:=by
 rw[MakeChecks.laidMetH_plain _ _ _ (by kernel_rfl)];exact laidMet_of_run' 8 (by kernel_rfl) (by kernel_rfl)
end Go.Proofs.YtlgkolkcokaefaaGreatDoor
namespace Go.Proofs.YtlgkolkcokaefaaGreatDoor
open Go.ChangeShapes Go.WideShapes Go.ChangeAt Go.WideMaps Go.WideElems Go.RowKit Go.Gb
open Go.ChangeMaps (open_string shut_string)
theorem xI {H:Type}{enc:TypeId × Value→H}{P:Program}{f:Func}{s:ChangeSpec}{apart fresh handsOn again:Bool}{W W':World}{args:Array Value}{v:Value}{ds gs:List (DataW H)}
 (hW:DataW.Whole enc P f.params.toList s.vars apart W args.toList ds gs [])
 (hres:∀ (b:Nat) (sp:Nat→Bool) (hd:Bool),DataW.TrodAll enc P W' b sp hd f.resultTypes.toList (v.resultList f.resultTypes.size) (s.fn H (ds++gs)).results [])
 (hargs:∀ sp:Nat→Bool,DataW.TrodAll enc P W' 0 sp true f.params.toList args.toList (s.fn H (ds++gs)).args [])
 (hvars:∀ sp:Nat→Bool,DataW.TrodVars enc P W' sp s.vars (s.fn H (ds++gs)).vars [])
 (hk:W.keptBut W' (fun _=>False))
 (hok:∀ (j:Nat) (t:TypeId) (r:Value),f.resultTypes[j]? = some t→(v.resultList f.resultTypes.size)[j]? = some r→Value.okWide P W' .any 0 t r) :
 s.post enc P f apart fresh handsOn again W args v W':=by
 refine⟨ds,gs,[],[],[],[],hW,hres _ _ _,hargs _,hvars _,World.keptBut_mono (fun p hp=>hp.elim) hk,fun _=>?_⟩;refine⟨hok,_,_,([]++[])++[],⟨[]++[],[],trodAll_append (hargs _) (hres _ _ _),hvars _,rfl,?_,?_⟩,?_⟩
 · intro b off hp
   simp at hp
 · intro ha
   simp
 · intro p hp _
   simp at hp
