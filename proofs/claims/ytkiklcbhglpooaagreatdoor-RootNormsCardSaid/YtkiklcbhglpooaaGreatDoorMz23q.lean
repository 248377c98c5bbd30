/- texts -/
import Derived.Test.YtkiklcbhglpooaaGreatDoorMz13q
import Derived.Test.YtkiklcbhglpooaaGreatDoorCards
import Derived.Test.YtkiklcbhglpooaaGreatDoorTie
import Derived.ProofKit
import Derived.LaidMore
import Derived.OpenShut
open Go.Proofs.Tryz
namespace Go.Proofs.YtkiklcbhglpooaaGreatDoor
open Go.RowKit
abbrev CL (f : FuncId) (args : Array Value) (v : Value) : Prop := ∀ W, La W → Calls Tryz.prog f args W fun e w' => e = .returned v ∧ Below W.heap.size W w'
end Go.Proofs.YtkiklcbhglpooaaGreatDoor
namespace Go.Gb
open Go Go.RowKit
def SBk (w:World) (g:Nat) (cs:Array Value) (T:TypeId):Prop:=w.heap[g]? = some (.cells cs T (0,0))
theorem SBk.lt {w:World}{g:Nat}{cs:Array Value}{T:TypeId}(h:SBk w g cs T):g<w.heap.size:=(Array.getElem?_eq_some_iff.1 h).1
theorem SBk.cell {w:World}{g i:Nat}{cs:Array Value}{T:TypeId}{v:Value}(h:SBk w g cs T)(hi:cs[i]? = some v):w.cell? ⟨g,i,none⟩=some v:=by
 unfold SBk at h;simp[World.cell?,h,hi]
theorem SBk.frozen {w:World}{g i:Nat}{cs:Array Value}{T:TypeId}(h:SBk w g cs T):w.frozen? ⟨g,i,none⟩=false:=by
 unfold SBk at h;simp[World.frozen?,h]
theorem SBk.below {w w':World}{g:Nat}{cs:Array Value}{T:TypeId}(h:SBk w g cs T)(hb:Below w.heap.size w w'):SBk w' g cs T:=by
 unfold SBk;rw[hb.block g h.lt];exact h
theorem SBk.new (w:World)(cs:Array Value)(T:TypeId):SBk (w.alloc (.cells cs T)) w.heap.size cs T:=heap_alloc_new _ _
theorem SBk.set {w:World}{g i:Nat}{cs:Array Value}{T:TypeId}(h:SBk w g cs T)(v:Value):SBk (w.setCell ⟨g,i,none⟩ v) g (cs.setIfInBounds i v) T:=by
 unfold SBk at *
 simp only[World.setCell,Array.getElem?_modify,h];simp
theorem SBk.off {w:World}{g g' i:Nat}{cs:Array Value}{T:TypeId}(h:SBk w g cs T)(hg:g≠g')(v:Value):SBk (w.setCell ⟨g',i,none⟩ v) g cs T:=by
 unfold SBk at *
 rw[← h];exact Below.heap_setCell w ⟨g',i,none⟩ v g hg
def bL (cs:Array Value):Bool:=cs.all fun v=>match v with | .int _ _=>false|_=>true
theorem z0I {cs:Array Value}(h:bL cs=true){i:Nat}{k:IntKind}{n:Int}:cs[i]? ≠ some (.int k n):=by
 intro e;have:=Array.all_eq_true'.1 h _ (Array.mem_of_getElem? e);simp at this
theorem Rd.set {w:World}{v:Value}{xs:List Nat}{k:IntKind}{g:Nat}{cs:Array Value}{T:TypeId}(h:Rd k w v xs)(hg:SBk w g cs T)(hn:bL cs=true)(i:Nat)(u:Value):Rd k (w.setCell ⟨g,i,none⟩ u) v xs:=by
 rcases h with h|⟨b',o,c',h1,h2,h3,h4,h5⟩
 · exact Or.inl h
 · refine Or.inr ⟨b',o,c',h1,h2,h3,by simpa [World.setCell] using h4,fun j hj=>?_⟩
   have h6:=h5 j hj
   have hne:b'≠g:=by
    intro e;subst e;unfold SBk at hg
    simp only[World.cell?,hg]at h6;exact z0I hn (by simpa using h6)
   exact(zR hne).trans h6
theorem z1R {P:Program}{c:Code}{Q:Exit→Act→World→Prop}{a:Act}{w:World}(I:World→Prop)(h:I w)(k:∀ W,I W→c.wp P Q a W):c.wp P Q a w:=k w h
def Bx (w:World):List (Array Value × TypeId)→World→Prop
 | [],W=>W=w
 | (cs,T) :: l,W=>Bx (w.alloc (.cells cs T)) l W
def BxI (w:World) (n:Nat):List (Array Value × TypeId)→World→Prop
 | [],W=>Below w.heap.size w W
 | (cs,T) :: l,W=>SBk W n cs T∧BxI w (n+1) l W
theorem uJ (w0:World):∀ (l:List (Array Value × TypeId)) (w W:World) (n:Nat),w.heap.size=n→Below w0.heap.size w0 w→Bx w l W→Below w.heap.size w W∧BxI w0 n l W
 | [],w,W,n,hn,hb,h=>by
   obtain rfl:W=w:=h;exact⟨Below.refl _ _,hb⟩
 | (cs,T) :: l,w,W,n,hn,hb,h=>by
   have h1:=uJ w0 l (w.alloc (.cells cs T)) W (n+1) (by simp[hn]) (hb.alloc hb.size _) h;have h2:Below w.heap.size w W:=((Below.refl w.heap.size w).alloc (Nat.le_refl _) (.cells cs T)).trans (h1.1.mono (by simp));refine⟨h2,?_,h1.2⟩;subst hn;exact(SBk.new w cs T).below h1.1
theorem boxes (w:World)(l:List (Array Value × TypeId))(W:World)(h:Bx w l W):BxI w w.heap.size l W:=(uJ w l w W _ rfl (Below.refl _ _) h).2
theorem aG {P:Program}{c:Code}{Q:Exit→Act→World→Prop}{a:Act}{W:World}(w:World)(l:List (Array Value × TypeId))(h:Bx w l W)(k:∀ W,BxI w w.heap.size l W→c.wp P Q a W):c.wp P Q a W:=k W (boxes w l W h)
theorem dm (b:Bool)(p:Option Addr)(n c:Nat):bL #[.bool b,.slice p n c]=true:=by simp[bL]
theorem jP {w:World}{g g':Nat}{cs:Array Value}{T:TypeId}(h:SBk w g cs T)(hg:g≠g')(x y:Value):SBk ((w.setCell ⟨g',0,none⟩ x).setCell ⟨g',1,none⟩ y) g cs T:=(h.off hg x).off hg y
theorem gU {B g:Nat}{a w:World}(h:Below B a w)(hg:B≤g)(x y:Value):Below B a ((w.setCell ⟨g,0,none⟩ x).setCell ⟨g,1,none⟩ y):=(h.setCell (p:=⟨g,0,none⟩) hg x).setCell (p:=⟨g,1,none⟩) hg y
theorem gI {w:World}{v:Value}{xs:List Nat}{k:IntKind}{g:Nat}{a b:Value}{T:TypeId}(h:Rd k w v xs)(hg:SBk w g #[a,b] T)(hn:bL #[a,b]=true)(x y:Value)(hx:bL #[x,b]=true):Rd k ((w.setCell ⟨g,0,none⟩ x).setCell ⟨g,1,none⟩ y) v xs:=by
 have h1:SBk (w.setCell ⟨g,0,none⟩ x) g #[x,b] T:=hg.set x;exact(h.set hg hn 0 x).set h1 hx 1 y
def storeAll (w:World) (g:Nat):Nat→List Value→World
 | _,[]=>w
 | i,x :: l=>storeAll (w.setCell ⟨g,i,none⟩ x) g (i+1) l
def xk (cs:Array Value):Nat→List Value→Array Value
 | _,[]=>cs
 | i,x :: l=>xk (cs.setIfInBounds i x) (i+1) l
def bi:Value→Bool
 | .int _ _=>false
 | _=>true
theorem z0H {cs:Array Value}(h:bL cs=true){x:Value}(hx:bi x=true)(i:Nat):bL (cs.setIfInBounds i x)=true:=by
 unfold bL at *
 refine Array.all_eq_true'.2 fun y hy=>?_;rcases Array.mem_or_eq_of_mem_setIfInBounds hy with hy|rfl
 · exact Array.all_eq_true'.1 h y hy
 · cases y<;>first|rfl|cases hx
theorem jf {k:IntKind}{v:Value}{xs:List Nat}{g:Nat}{T:TypeId}:∀ (l:List Value) (i:Nat) {w:World} {cs:Array Value},Rd k w v xs→SBk w g cs T→bL cs=true→l.all bi=true→Rd k (storeAll w g i l) v xs
 | [],_,_,_,h,_,_,_=>h
 | x :: l,i,_,_,h,hg,hn,hl=>by
   rw[List.all_cons,Bool.and_eq_true]at hl;exact jf l (i+1) (h.set hg hn i x) (hg.set x) (z0H hn hl.1 i) hl.2
theorem cK {g:Nat}{T:TypeId}:∀ (l:List Value) (i:Nat) {w:World} {cs:Array Value},SBk w g cs T→SBk (storeAll w g i l) g (xk cs i l) T
 | [],_,_,_,h=>h
 | x :: l,i,_,_,h=>cK l (i+1) (h.set x)
theorem bY {g g':Nat}{cs:Array Value}{T:TypeId}(hg:g≠g'):∀ (l:List Value) (i:Nat) {w:World},SBk w g cs T→SBk (storeAll w g' i l) g cs T
 | [],_,_,h=>h
 | x :: l,i,_,h=>bY hg l (i+1) (h.off hg x)
theorem az {B g:Nat}{a:World}(hg:B≤g):∀ (l:List Value) (i:Nat) {w:World},Below B a w→Below B a (storeAll w g i l)
 | [],_,_,h=>h
 | x :: l,i,_,h=>az hg l (i+1) (h.setCell (p:=⟨g,i,none⟩) hg x)
instance {W W':World}{g:Nat}{c:Array Value}{T:TypeId}:Gr (SBk W g c T) W W' (SBk W' g c T):=⟨fun h k=>k.below h⟩
theorem ay {w:World} {g:Nat} {cs:Array Value} {T:TypeId} {x0 x1:Value} (h:SBk w g cs T) (h0:cs[0]?=some x0) (h1:cs[1]?=some x1):w.cell? ⟨g,0,none⟩=some x0∧w.cell? ⟨g,1,none⟩=some x1:=⟨h.cell h0,h.cell h1⟩
theorem bI {w:World} {g:Nat} {cs:Array Value} {T:TypeId} (h:SBk w g cs T):w.frozen? ⟨g,0,none⟩=false∧w.frozen? ⟨g,1,none⟩=false:=⟨h.frozen,h.frozen⟩
theorem aU {w:World} {g:Nat} {cs:Array Value} {T:TypeId} {x0 x1 x2:Value} (h:SBk w g cs T) (h0:cs[0]?=some x0) (h1:cs[1]?=some x1) (h2:cs[2]?=some x2):w.cell? ⟨g,0,none⟩=some x0∧w.cell? ⟨g,1,none⟩=some x1∧w.cell? ⟨g,2,none⟩=some x2:=⟨h.cell h0,h.cell h1,h.cell h2⟩
theorem bZ {w:World} {g:Nat} {cs:Array Value} {T:TypeId} (h:SBk w g cs T):w.frozen? ⟨g,0,none⟩=false∧w.frozen? ⟨g,1,none⟩=false∧w.frozen? ⟨g,2,none⟩=false:=⟨h.frozen,h.frozen,h.frozen⟩
theorem sG {w:World} {g:Nat} {cs:Array Value} {T:TypeId} {x0 x1 x2 x3 x4 x5:Value} (h:SBk w g cs T) (h0:cs[0]?=some x0) (h1:cs[1]?=some x1) (h2:cs[2]?=some x2) (h3:cs[3]?=some x3) (h4:cs[4]?=some x4) (h5:cs[5]?=some x5):w.cell? ⟨g,0,none⟩=some x0∧w.cell? ⟨g,1,none⟩=some x1∧w.cell? ⟨g,2,none⟩=some x2∧w.cell? ⟨g,3,none⟩=some x3∧w.cell? ⟨g,4,none⟩=some x4∧w.cell? ⟨g,5,none⟩=some x5:=⟨h.cell h0,h.cell h1,h.cell h2,h.cell h3,h.cell h4,h.cell h5⟩
theorem uw {w:World} {g:Nat} {cs:Array Value} {T:TypeId} (h:SBk w g cs T):w.frozen? ⟨g,0,none⟩=false∧w.frozen? ⟨g,1,none⟩=false∧w.frozen? ⟨g,2,none⟩=false∧w.frozen? ⟨g,3,none⟩=false∧w.frozen? ⟨g,4,none⟩=false∧w.frozen? ⟨g,5,none⟩=false:=⟨h.frozen,h.frozen,h.frozen,h.frozen,h.frozen,h.frozen⟩
theorem nD {w:World}{g:Nat}{T:TypeId}{x0 x1 a b:Value}(h:SBk w g #[x0,x1] T):SBk (storeAll w g 0 [a,b]) g #[a,b] T:=by
 have:=cK [a,b] 0 h;simpa [xk] using this
theorem pF (w:World)(g:Nat)(a b:Value):storeAll w g 0 [a,b]=(w.setCell ⟨g,0,none⟩ a).setCell ⟨g,1,none⟩ b:=rfl
theorem kC {w:World}{g:Nat}{T:TypeId}{x0 x1 x2 a b c:Value}(h:SBk w g #[x0,x1,x2] T):SBk (storeAll w g 0 [a,b,c]) g #[a,b,c] T:=by
 have:=cK [a,b,c] 0 h;simpa [xk] using this
theorem lM (w:World)(g:Nat)(a b c:Value):storeAll w g 0 [a,b,c]=((w.setCell ⟨g,0,none⟩ a).setCell ⟨g,1,none⟩ b).setCell ⟨g,2,none⟩ c:=rfl
theorem om (W:World)(o:Obj):Below W.heap.size W (W.alloc o):=(Below.refl W.heap.size W).alloc (Nat.le_refl _) o
end Go.Gb
set_option maxRecDepth 100000
set_option maxHeartbeats 20000000
open Go.Lib (hid)
namespace Go.Proofs.YtkiklcbhglpooaaGreatDoor
open Go.RowKit Go.Gb
abbrev CV (w:World) (f:Nat) (args:Array Value) (v:Value):Prop:=∀ W,Below w.heap.size w W→Calls Tryz.prog f args W fun e w'=>e=.returned v∧Below W.heap.size W w'
theorem CV.mono {w W:World}{f:Nat}{args:Array Value}{v:Value}(h:CV w f args v)(hb:Below w.heap.size w W):CV W f args v:=fun X hX=>h X (hb.trans (hX.mono hb.size))
theorem CV.at {w:World}{f:Nat}{args:Array Value}{v:Value}(h:CV w f args v):Calls Tryz.prog f args w fun e w'=>e=.returned v∧Below w.heap.size w w':=h w (Below.refl _ _)
theorem sRat (x:ByteArray)(n:Int)(w₀:World)   :
 CV w₀ 63 #[.string x,.int .i64 n] (.string x):=by
 intro w hw;clear hw;go_enter func63,ntmps63
 have u6:=hid (Below.refl w.heap.size w);go_wp2;exact bodyPost_ret (v:=.string x) (by simp[results,results63,go_sem]) rfl ⟨rfl,u6.o⟩
theorem sStr (x:ByteArray)(n:Int)(w₀:World)   :
 CV w₀ 164 #[.string x,.int .i64 n] (.string x):=by
 intro w hw;clear hw;go_enter func164,ntmps164
 have u6:=hid (Below.refl w.heap.size w);go_wp2;exact bodyPost_ret (v:=.string x) (by simp[results,results164,go_sem]) rfl ⟨rfl,u6.o⟩
theorem sInt (x n:Int)(w₀:World)   :
 CV w₀ 151 #[.int .i64 x,.int .i64 n] (.int .i64 x):=by
 intro w hw;clear hw;go_enter func151,ntmps151
 have u6:=hid (Below.refl w.heap.size w);go_wp2;exact bodyPost_ret (v:=.int .i64 x) (by simp[results,results151,go_sem]) rfl ⟨rfl,u6.o⟩
theorem z0z (x y z:ByteArray)(n:Int)(w₀:World)(h1:CV w₀ 64 #[.string x,.string y] (.tuple #[.string z,.int .i64 n]))  :
 CV w₀ 25 #[.string x,.string y] (.string z):=by
 intro w hw;have C1:=hid (h1.mono hw);clear h1 hw;go_enter func25,ntmps25
 have u6:=hid (Below.refl w.heap.size w);go_wp2_with fail
 with_reducible refine(C1.o _ u6.o).mono ?_
 rintro e W1 ⟨rfl,hb⟩;have w9:=hbt u6 hb;clear hb;go_wp2_with fail
 with_reducible refine(sRat z n _ _ w9.o).mono ?_
 rintro e W2 ⟨rfl,hb⟩;have wo:=hbt w9 hb;clear hb;go_wp2;exact bodyPost_ret (v:=.string z) (by simp[results,results25,go_sem]) rfl ⟨rfl,wo.o⟩
theorem yN (x y z:ByteArray)(n:Int)(w₀:World)(h1:CV w₀ 65 #[.string x,.string y] (.tuple #[.string z,.int .i64 n]))  :
 CV w₀ 26 #[.string x,.string y] (.string z):=by
 intro w hw;have C1:=hid (h1.mono hw);clear h1 hw;go_enter func26,ntmps26
 have u6:=hid (Below.refl w.heap.size w);go_wp2_with fail
 with_reducible refine(C1.o _ u6.o).mono ?_
 rintro e W1 ⟨rfl,hb⟩;have w9:=hbt u6 hb;clear hb;go_wp2_with fail
 with_reducible refine(sRat z n _ _ w9.o).mono ?_
 rintro e W2 ⟨rfl,hb⟩;have wo:=hbt w9 hb;clear hb;go_wp2;exact bodyPost_ret (v:=.string z) (by simp[results,results26,go_sem]) rfl ⟨rfl,wo.o⟩
theorem z0B (x y z:ByteArray)(n:Int)(w₀:World)(h1:CV w₀ 93 #[.string x,.string y] (.tuple #[.string z,.int .i64 n]))  :
 CV w₀ 56 #[.string x,.string y] (.string z):=by
 intro w hw;have C1:=hid (h1.mono hw);clear h1 hw;go_enter func56,ntmps56
 have u6:=hid (Below.refl w.heap.size w);go_wp2_with fail
 with_reducible refine(C1.o _ u6.o).mono ?_
 rintro e W1 ⟨rfl,hb⟩;have w9:=hbt u6 hb;clear hb;go_wp2_with fail
 with_reducible refine(sRat z n _ _ w9.o).mono ?_
 rintro e W2 ⟨rfl,hb⟩;have wo:=hbt w9 hb;clear hb;go_wp2;exact bodyPost_ret (v:=.string z) (by simp[results,results56,go_sem]) rfl ⟨rfl,wo.o⟩
theorem yP (x y:ByteArray)(c n:Int)(w₀:World)(h1:CV w₀ 96 #[.string x,.string y] (.tuple #[.int .i64 c,.int .i64 n]))  :
 CV w₀ 111 #[.string x,.string y] (.int .i64 c):=by
 intro w hw;have C1:=hid (h1.mono hw);clear h1 hw;go_enter func111,ntmps111
 have u6:=hid (Below.refl w.heap.size w);go_wp2_with fail
 with_reducible refine(C1.o _ u6.o).mono ?_
 rintro e W1 ⟨rfl,hb⟩;have w9:=hbt u6 hb;clear hb;go_wp2_with fail
 with_reducible refine(sInt c n _ _ w9.o).mono ?_
 rintro e W2 ⟨rfl,hb⟩;have wo:=hbt w9 hb;clear hb;go_wp2;exact bodyPost_ret (v:=.int .i64 c) (by simp[results,results111,go_sem]) rfl ⟨rfl,wo.o⟩
theorem z0y (x:ByteArray)(c:Int)(w₀:World)(h1:CV w₀ 111 #[.string x,.string ⟨#[48]⟩] (.int .i64 c))  :
 CV w₀ 55 #[.string x] (.int .i64 c):=by
 intro w hw;have C1:=hid (h1.mono hw);clear h1 hw;go_enter func55,ntmps55
 have u6:=hid (Below.refl w.heap.size w);go_wp2_with fail
 with_reducible refine(C1.o _ u6.o).mono ?_
 rintro e W1 ⟨rfl,hb⟩;have w9:=hbt u6 hb;clear hb;go_wp2;exact bodyPost_ret (v:=.int .i64 c) (by simp[results,results55,go_sem]) rfl ⟨rfl,w9.o⟩
theorem yS (x z:ByteArray)(n:Int)(w₀:World)(h1:CV w₀ 165 #[.string x] (.tuple #[.string z,.int .i64 n]))  :
 CV w₀ 115 #[.string x] (.string z):=by
 intro w hw;have C1:=hid (h1.mono hw);clear h1 hw;go_enter func115,ntmps115
 have u6:=hid (Below.refl w.heap.size w);go_wp2_with fail
 with_reducible refine(C1.o _ u6.o).mono ?_
 rintro e W1 ⟨rfl,hb⟩;have w9:=hbt u6 hb;clear hb;go_wp2_with fail
 with_reducible refine(sStr z n _ _ w9.o).mono ?_
 rintro e W2 ⟨rfl,hb⟩;have wo:=hbt w9 hb;clear hb;go_wp2;exact bodyPost_ret (v:=.string z) (by simp[results,results115,go_sem]) rfl ⟨rfl,wo.o⟩
open Go.Lib (hid)
theorem yQ (g:Nat)(x y p q r s l u:ByteArray)(n er:Int)(w₀:World)(h1:CV w₀ 24 #[.string x] (.bool true))(h2:CV w₀ 26 #[.string x,.string x] (.string p))(h3:CV w₀ 25 #[.string ⟨#[48]⟩,.string p] (.string q))(h4:CV w₀ 24 #[.string y] (.bool true))(h5:CV w₀ 26 #[.string y,.string y] (.string r))(h6:CV w₀ 25 #[.string q,.string r] (.string s))(h7:CV w₀ 17 #[.string s,.int .i64 n] (.tuple #[.agg #[.string l,.string u],.int .i64 er]))  (kKX:SBk w₀ g #[.string x,.string y] 25) :
 CV w₀ 7 #[.slice (some ⟨g,0,none⟩) 2 2,.int .i64 n] (.tuple #[.agg #[.string l,.string u],.int .i64 er]):=by
 intro w hw;obtain ⟨C1,C2,C3,C4,C5,C6,C7,KX⟩:=jU (h1.mono hw) (h2.mono hw) (h3.mono hw) (h4.mono hw) (h5.mono hw) (h6.mono hw) (h7.mono hw) (kKX.below hw);clear h1 h2 h3 h4 h5 h6 h7 kKX hw;go_enter func7,ntmps7
 go_upto_region 1 with fail
 refine aG w [(#[.string ⟨#[]⟩,.string ⟨#[]⟩],27)] rfl ?_;rintro W0 ⟨k1,hb⟩;have u6:=hid (show Below w.heap.size w W0 from hb);have KX:=hid (KX.o.below u6.o);have K1:=hid k1;clear k1 hb;go_wp2;refine wp_loop_rounds 3 ?_;rw[rounds_succ];have dKX0:=KX.o.cell (i:=0) rfl;go_wp2_with fail
 with_reducible refine(C1.o _ u6.o).mono ?_
 rintro e W1 ⟨rfl,hb⟩;clear dKX0;have KX:=hid (KX.o.below hb);have K1:=hid (K1.o.below hb);have w9:=hbt u6 hb;clear hb;go_wp2_with fail
 with_reducible refine(C2.o _ w9.o).mono ?_
 rintro e W2 ⟨rfl,hb⟩;have KX:=hid (KX.o.below hb);have K1:=hid (K1.o.below hb);have wo:=hbt w9 hb;clear hb;go_wp2_with fail
 with_reducible refine(C3.o _ wo.o).mono ?_
 rintro e W3 ⟨rfl,hb⟩;have KX:=hid (KX.o.below hb);have K1:=hid (K1.o.below hb);have si:=hbt wo hb;clear hb;go_wp2;rw[rounds_succ];have dKX1:=KX.o.cell (i:=1) rfl;go_wp2_with fail
 with_reducible refine(C4.o _ si.o).mono ?_
 rintro e W4 ⟨rfl,hb⟩;clear dKX1;have K1:=hid (K1.o.below hb);have su:=hbt si hb;clear hb;go_wp2_with fail
 with_reducible refine(C5.o _ su.o).mono ?_
 rintro e W5 ⟨rfl,hb⟩;have K1:=hid (K1.o.below hb);have p8:=hbt su hb;clear hb;go_wp2_with fail
 with_reducible refine(C6.o _ p8.o).mono ?_
 rintro e W6 ⟨rfl,hb⟩;have K1:=hid (K1.o.below hb);have p9:=hbt p8 hb;clear hb;go_wp2;rw[rounds_succ];go_wp2_with fail
 with_reducible refine(C7.o _ p9.o).mono ?_
 rintro e W7 ⟨rfl,hb⟩;have K1:=hid (K1.o.below hb);have pq:=hbt p9 hb;clear hb;obtain ⟨wu,ww⟩:=ay K1.o rfl rfl;obtain ⟨pu,ol⟩:=bI K1.o;go_wp2;exact bodyPost_ret (v:=.tuple #[.agg #[.string l,.string u],.int .i64 er]) (by simp[results,results7,go_sem,wu,ww]) rfl ⟨rfl,(az (l:=[.string l,.string u]) (i:=0) (by omega) pq.o)⟩
theorem dS {w:World}{g:Nat}{x y v:Value}{T:TypeId}(h:SBk w g #[x,y] T):SBk (w.setCell ⟨g,0,none⟩ v) g #[v,y] T:=by
 have k:=h.set (i:=0) v;simpa using k
theorem lF {w:World}{g:Nat}{x v:Value}{T:TypeId}(h:SBk w g #[x] T):SBk (w.setCell ⟨g,0,none⟩ v) g #[v] T:=by
 have k:=h.set (i:=0) v;simpa using k
theorem di {w:World}{g:Nat}{x y v:Value}{T:TypeId}(h:SBk w g #[x,y] T):SBk (w.setCell ⟨g,1,none⟩ v) g #[x,v] T:=by
 have k:=h.set (i:=1) v;simpa using k
theorem nN (b3 b2 b4:Nat)(l u p q:ByteArray)(n er:Int)(w₀:World)(h1:CV w₀ 59 #[.agg #[.string l,.string u],.int .i64 n] (.tuple #[.agg #[.string p,.string q],.int .i64 er]))(h34:b3≠b4)(W:World)(hW:Below w₀.heap.size w₀ W)
 (c0:W.cell? ⟨b3,0,none⟩=some (.string l)) (c1:W.cell? ⟨b3,1,none⟩=some (.string u)) (c2:W.cell? ⟨b2,0,none⟩=some (.int .i64 n)) (c4:W.cell? ⟨b4,0,none⟩=some (.int .i64 0))
 (f0:W.frozen? ⟨b3,0,none⟩=false) (f1:W.frozen? ⟨b3,1,none⟩=false) (f4:W.frozen? ⟨b4,0,none⟩=false) :
 CallsD Tryz.prog 58 #[.pointer (some ⟨b3,0,none⟩),.pointer (some ⟨b2,0,none⟩),.pointer (some ⟨b4,0,none⟩)] .returning W fun e u' w'=>u'=.returning∧(e=.returned (.tuple #[])∧w'.cell? ⟨b3,0,none⟩=some (.string p)∧w'.cell? ⟨b3,1,none⟩=some (.string q)∧w'.cell? ⟨b4,0,none⟩=some (.int .i64 er)∧∀ n0 w0,n0≤b3→n0≤b4→Below n0 w0 W→Below n0 w0 w'):=by
 have C1:=hid (h1.mono hW);have l3:=World.block_lt_of_cell? W _ c0;have l4:=World.block_lt_of_cell? W _ c4;have hB:=hid (Below.refl W.heap.size W);clear h1 hW;go_enter_d func58,ntmps58
 go_wp2_with fail
 with_reducible refine(C1.o _ hB.o).mono ?_
 rintro e W1 ⟨rfl,hb⟩;have k0:=(hb.cell (p:=⟨b3,0,none⟩) l3).trans c0;have k1:=(hb.cell (p:=⟨b3,1,none⟩) l3).trans c1;have k4:=(hb.cell (p:=⟨b4,0,none⟩) l4).trans c4;have j0:=(hb.frozen (p:=⟨b3,0,none⟩) l3).trans f0;have j1:=(hb.frozen (p:=⟨b3,1,none⟩) l3).trans f1;have j4:=(hb.frozen (p:=⟨b4,0,none⟩) l4).trans f4;have hbb:=hid hb;clear hb c0 c1 c2 c4 f0 f1 f4 l4;go_wp2;first|go_end0|refine bodyPost_ret (results_none rfl _ _ _) rfl ?_
 refine⟨rfl,?_,?_,?_,?_⟩
 · simp[go_sem, *]
 · simp[go_sem, *]
 · simp[go_sem, *]
 · intro n0 w0 h3 h4 h
   exact(((h.trans (hbb.o.mono (by omega))).setCell (p:=⟨b3,0,none⟩) h3 _).setCell (p:=⟨b3,1,none⟩) h3 _).setCell (p:=⟨b4,0,none⟩) h4 _
theorem z2G (l f p q:ByteArray)(n s:Int)(w₀:World)(h1:CV w₀ 39 #[.agg #[.string l,.string l]] (.bool true))(h2:CV w₀ 55 #[.string l] (.int .i64 s))(h3:CV w₀ 60 #[.string l,.int .i64 n] (.string f))(hR:CV w₀ 59 #[.agg #[.string f,.string f],.int .i64 n] (.tuple #[.agg #[.string p,.string q],.int .i64 0]))(f1:decide (s<0)=false)(f2:1≤n)(f3:n≤1000000000) :
 CV w₀ 21 #[.agg #[.string l,.string l],.int .i64 n] (.tuple #[.agg #[.string p,.string q],.int .i64 0]):=by
 intro w hw;obtain ⟨C1,C2,C3,CR⟩:=aP (h1.mono hw) (h2.mono hw) (h3.mono hw) (hR.mono hw);clear h3 hR;have g1:=f1;have g2:decide (n<1)=false:=decide_eq_false (by omega);have g3:decide (1000000000<n)=false:=decide_eq_false (by omega);clear f1 f2 f3 h1 h2 hw;have hmf:∀ (fn:Fn) (first cap:Array Value) (w:World),(Instr.makeFunc fn first cap).run Tryz.prog w=.ok (.func fn first cap) w:=fun _ _ _ _=>rfl;go_enter_defers func21,ntmps21
 go_upto_region 1 with fail
 refine aG w [(#[.string l,.string l],27),(#[.int .i64 n],3),(#[.string ⟨#[]⟩,.string ⟨#[]⟩],27),(#[.int .i64 0],28)] rfl ?_;rintro W0 ⟨k1,k2,k3,k4,hb⟩;have u6:=hid (show Below w.heap.size w W0 from hb);obtain ⟨K1,K2,K3,K4⟩:=aP k1 k2 k3 k4;clear k1 k2 k3 k4 hb;obtain ⟨wu,ww⟩:=ay K1.o rfl rfl;go_wp2_with fail
 with_reducible refine(C1.o _ u6.o).mono ?_
 rintro e W1 ⟨rfl,hb⟩;clear wu ww;obtain ⟨K1,K2,K3,K4⟩:=bD hb K1 K2 K3 K4;have w9:=hbt u6 hb;clear hb;have wu:=K1.o.cell (i:=0) rfl;go_wp2_with fail
 with_reducible refine(C2.o _ w9.o).mono ?_
 rintro e W2 ⟨rfl,hb⟩;clear wu;obtain ⟨K2,K1,K3,K4⟩:=bD hb K2 K1 K3 K4;have wo:=hbt w9 hb;clear hb;have sj:=K2.o.cell (i:=0) rfl;have wu:=K1.o.cell (i:=0) rfl;go_wp2_with fail
 with_reducible refine(C3.o _ wo.o).mono ?_
 rintro e W3 ⟨rfl,hb⟩;clear sj wu;obtain ⟨K1,K2,K3,K4⟩:=bD hb K1 K2 K3 K4;have si:=hbt wo hb;clear hb;obtain ⟨wu,ww⟩:=ay K1.o rfl rfl;have sj:=K2.o.cell (i:=0) rfl;obtain ⟨sw,r9⟩:=ay K3.o rfl rfl;have rq:=K4.o.cell (i:=0) rfl;have ru:=K3.o.frozen (i:=0);have rM:=K3.o.frozen (i:=1);have rV:=K4.o.frozen (i:=0);go_wp2;have hn2:w.heap.size+1≠w.heap.size+1+1:=by omega
 have hn4:w.heap.size+1+1+1≠w.heap.size+1+1:=by omega
 have hn34:w.heap.size+1+1≠w.heap.size+1+1+1:=by omega
 have hn24:w.heap.size+1≠w.heap.size+1+1+1:=by omega
 refine leaves_cons (f:=58) (args:=#[.pointer (some ⟨(w.heap.size+1+1),0,none⟩),.pointer (some ⟨(w.heap.size+1),0,none⟩),.pointer (some ⟨(w.heap.size+1+1+1),0,none⟩)]) (by simp) (by simp[go_sem]) ?_;refine(nN (w.heap.size+1+1) (w.heap.size+1) (w.heap.size+1+1+1) f f p q n 0 w CR.o (by omega) _ ?_ ?_ ?_ ?_ ?_ ?_ ?_ ?_).mono ?_
 · repeat (first|exact si.o|refine Below.setCell ?_ (by first|omega|(simp;omega)|simp) _)
 · exact((di (dS (di (dS K3.o)))).off hn34 _).cell (i:=0) rfl
 · exact((di (dS (di (dS K3.o)))).off hn34 _).cell (i:=1) rfl
 · exact(((((K2.o.off hn2 _).off hn2 _).off hn2 _).off hn2 _).off hn24 _).cell (i:=0) rfl
 · exact(lF ((((K4.o.off hn4 _).off hn4 _).off hn4 _).off hn4 _)).cell (i:=0) rfl
 · exact((di (dS (di (dS K3.o)))).off hn34 _).frozen (i:=0)
 · exact((di (dS (di (dS K3.o)))).off hn34 _).frozen (i:=1)
 · exact(lF ((((K4.o.off hn4 _).off hn4 _).off hn4 _).off hn4 _)).frozen (i:=0)
 rintro e u' w' ⟨rfl,rfl,r0,r1,r4,hB⟩
 have hB':Below w.heap.size w w':=by
  refine hB _ _ (by omega) (by omega) ?_;repeat (first|exact si.o|refine Below.setCell ?_ (by first|omega|(simp;omega)|simp) _)
 simp[Leaves,settle,results,results21,go_sem,r0,r1,r4]
 exact hB'
theorem z2H (l u f g p q:ByteArray)(n s:Int)(w₀:World)(h1:CV w₀ 39 #[.agg #[.string l,.string u]] (.bool true))(h2:CV w₀ 55 #[.string l] (.int .i64 s))(h3:CV w₀ 60 #[.string l,.int .i64 n] (.string f))(h4:CV w₀ 60 #[.string u,.int .i64 n] (.string g))(hR:CV w₀ 59 #[.agg #[.string f,.string g],.int .i64 n] (.tuple #[.agg #[.string p,.string q],.int .i64 0]))(f1:decide (s<0)=false)(f4:(u.toList==l.toList)=false)(f2:1≤n)(f3:n≤1000000000) :
 CV w₀ 21 #[.agg #[.string l,.string u],.int .i64 n] (.tuple #[.agg #[.string p,.string q],.int .i64 0]):=by
 intro w hw;obtain ⟨C1,C2,C3,C4,CR⟩:=cB (h1.mono hw) (h2.mono hw) (h3.mono hw) (h4.mono hw) (hR.mono hw);have g4:=f4;clear h3 h4 hR f4;have g1:=f1;have g2:decide (n<1)=false:=decide_eq_false (by omega);have g3:decide (1000000000<n)=false:=decide_eq_false (by omega);clear f1 f2 f3 h1 h2 hw;have hmf:∀ (fn:Fn) (first cap:Array Value) (w:World),(Instr.makeFunc fn first cap).run Tryz.prog w=.ok (.func fn first cap) w:=fun _ _ _ _=>rfl;go_enter_defers func21,ntmps21
 go_upto_region 1 with fail
 refine aG w [(#[.string l,.string u],27),(#[.int .i64 n],3),(#[.string ⟨#[]⟩,.string ⟨#[]⟩],27),(#[.int .i64 0],28)] rfl ?_;rintro W0 ⟨k1,k2,k3,k4,hb⟩;have u6:=hid (show Below w.heap.size w W0 from hb);obtain ⟨K1,K2,K3,K4⟩:=aP k1 k2 k3 k4;clear k1 k2 k3 k4 hb;obtain ⟨wu,ww⟩:=ay K1.o rfl rfl;go_wp2_with fail
 with_reducible refine(C1.o _ u6.o).mono ?_
 rintro e W1 ⟨rfl,hb⟩;clear wu ww;obtain ⟨K1,K2,K3,K4⟩:=bD hb K1 K2 K3 K4;have w9:=hbt u6 hb;clear hb;have wu:=K1.o.cell (i:=0) rfl;go_wp2_with fail
 with_reducible refine(C2.o _ w9.o).mono ?_
 rintro e W2 ⟨rfl,hb⟩;clear wu;obtain ⟨K2,K1,K3,K4⟩:=bD hb K2 K1 K3 K4;have wo:=hbt w9 hb;clear hb;have sj:=K2.o.cell (i:=0) rfl;have wu:=K1.o.cell (i:=0) rfl;go_wp2_with fail
 with_reducible refine(C3.o _ wo.o).mono ?_
 rintro e W3 ⟨rfl,hb⟩;clear sj wu;obtain ⟨K1,K2,K3,K4⟩:=bD hb K1 K2 K3 K4;have si:=hbt wo hb;clear hb;obtain ⟨wu,ww⟩:=ay K1.o rfl rfl;have sj:=K2.o.cell (i:=0) rfl;obtain ⟨sw,r9⟩:=ay K3.o rfl rfl;have rq:=K4.o.cell (i:=0) rfl;have ru:=K3.o.frozen (i:=0);have rM:=K3.o.frozen (i:=1);have rV:=K4.o.frozen (i:=0);go_wp2_with fail
 refine(C4.o _ ?_).mono ?_
 · repeat (first|exact si.o|refine Below.setCell ?_ (by first|omega|(simp;omega)|simp) _)
 rintro e W4 ⟨rfl,hb⟩;have L3:=K3.o.lt;have sz:(W3.setCell ⟨w.heap.size+1+1,0,none⟩ (.string f)).heap.size=W3.heap.size:=by simp
 have K1:=hid ((K1.o.off (show w.heap.size≠w.heap.size+1+1 by omega) _).below hb);have K2:=hid ((K2.o.off (show w.heap.size+1≠w.heap.size+1+1 by omega) _).below hb);have K3:=hid (show SBk W4 (w.heap.size+1+1) #[.string f,.string ⟨#[]⟩] 27 from(K3.o.set (i:=0) _).below hb);have K4:=hid ((K4.o.off (show w.heap.size+1+1+1≠w.heap.size+1+1 by omega) _).below hb);have su:=hid ((si.o.setCell (p:=⟨w.heap.size+1+1,0,none⟩) (show w.heap.size≤w.heap.size+1+1 by omega) (.string f)).trans (hb.mono (by rw[sz];omega)));clear hb wu ww sj sw r9 rq ru rM rV L3 sz;obtain ⟨wu,ww⟩:=ay K1.o rfl rfl;have sj:=K2.o.cell (i:=0) rfl;obtain ⟨sw,r9⟩:=ay K3.o rfl rfl;have rq:=K4.o.cell (i:=0) rfl;have ru:=K3.o.frozen (i:=0);have rM:=K3.o.frozen (i:=1);have rV:=K4.o.frozen (i:=0);go_wp2;have hn2:w.heap.size+1≠w.heap.size+1+1:=by omega
 have hn4:w.heap.size+1+1+1≠w.heap.size+1+1:=by omega
 have hn34:w.heap.size+1+1≠w.heap.size+1+1+1:=by omega
 have hn24:w.heap.size+1≠w.heap.size+1+1+1:=by omega
 refine leaves_cons (f:=58) (args:=#[.pointer (some ⟨(w.heap.size+1+1),0,none⟩),.pointer (some ⟨(w.heap.size+1),0,none⟩),.pointer (some ⟨(w.heap.size+1+1+1),0,none⟩)]) (by simp) (by simp[go_sem]) ?_;refine(nN (w.heap.size+1+1) (w.heap.size+1) (w.heap.size+1+1+1) f g p q n 0 w CR.o (by omega) _ ?_ ?_ ?_ ?_ ?_ ?_ ?_ ?_).mono ?_
 · repeat (first|exact su.o|refine Below.setCell ?_ (by first|omega|(simp;omega)|simp) _)
 · exact((di (dS (di K3.o))).off hn34 _).cell (i:=0) rfl
 · exact((di (dS (di K3.o))).off hn34 _).cell (i:=1) rfl
 · exact((((K2.o.off hn2 _).off hn2 _).off hn2 _).off hn24 _).cell (i:=0) rfl
 · exact(lF (((K4.o.off hn4 _).off hn4 _).off hn4 _)).cell (i:=0) rfl
 · exact((di (dS (di K3.o))).off hn34 _).frozen (i:=0)
 · exact((di (dS (di K3.o))).off hn34 _).frozen (i:=1)
 · exact(lF (((K4.o.off hn4 _).off hn4 _).off hn4 _)).frozen (i:=0)
 rintro e u' w' ⟨rfl,rfl,r0,r1,r4,hB⟩
 have hB':Below w.heap.size w w':=by
  refine hB _ _ (by omega) (by omega) ?_;repeat (first|exact su.o|refine Below.setCell ?_ (by first|omega|(simp;omega)|simp) _)
 simp[Leaves,settle,results,results21,go_sem,r0,r1,r4]
 exact hB'
open Go.ChangeShapes Go.WideShapes Go.ChangeAt Go.WideMaps Go.WideElems Go.RowKit
theorem own:ownKnob Tryz.prog.godebug=none:=by kernel_rfl
theorem gTab:Tryz.prog.globalNamed "internal/strconv.uint64pow10" = some 3:=by kernel_rfl
theorem z2U:(Tryz.prog.globals[3]?).map (·.type)=some 256:=by kernel_rfl
theorem z3r:Tryz.prog.cellsOf 256=20:=by kernel_rfl
theorem z3q:Tryz.prog.cellsOf 133=1:=by kernel_rfl
def z5Q:List (String × DataW Unit):=[("math/bits.deBruijn32tab",Rows.laid_math_bits_deBruijn32tab),("math/bits.deBruijn64tab",Rows.laid_math_bits_deBruijn64tab),("internal/strconv.uint64pow10",Rows.laid_internal_strconv_uint64pow10),("strconv.ErrRange",Rows.laid_strconv_ErrRange),("strconv.ErrSyntax",Rows.laid_strconv_ErrSyntax)]
theorem z4H:Tryz.prog.globalNamed "garboard/integer.zero" = some 1:=by kernel_rfl
theorem z19:(Tryz.prog.globals[1]?).map (·.type)=some 172:=by kernel_rfl
def z5A:List (String × DataW Unit):=[("math/bits.deBruijn32tab",Rows.laid_math_bits_deBruijn32tab),("math/bits.deBruijn64tab",Rows.laid_math_bits_deBruijn64tab),("internal/strconv.uint64pow10",Rows.laid_internal_strconv_uint64pow10),("strconv.ErrRange",Rows.laid_strconv_ErrRange),("strconv.ErrSyntax",Rows.laid_strconv_ErrSyntax),("garboard/integer.zero",Rows.laid_garboard_integer_zero)]
