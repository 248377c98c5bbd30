/- texts -/
import Derived.Test.YtcchkjpdchcjpaaGreatDoorMz19q
import Derived.Test.YtcchkjpdchcjpaaGreatDoorCards
import Derived.Test.YtcchkjpdchcjpaaGreatDoorTie
import Derived.LaidMore
import Derived.Lib.SmallJoins
open Go.Proofs.Tryz
namespace Go.Proofs.YtcchkjpdchcjpaaGreatDoor
open Go.RowKit
abbrev CL (f : FuncId) (args : Array Value) (v : Value) : Prop := ∀ W, La W → Calls Tryz.prog f args W fun e w' => e = .returned v ∧ Below W.heap.size W w'
end Go.Proofs.YtcchkjpdchcjpaaGreatDoor
namespace Go.Gb
open Go Go.RowKit
def SBk (w:World) (g:Nat) (cs:Array Value) (T:TypeId):Prop:=w.heap[g]? = some (.cells cs T (0,0))
theorem SBk.lt {w:World}{g:Nat}{cs:Array Value}{T:TypeId}(h:SBk w g cs T):g<w.heap.size:=(Array.getElem?_eq_some_iff.1 h).1
theorem SBk.cell {w:World}{g i:Nat}{cs:Array Value}{T:TypeId}{v:Value}(h:SBk w g cs T)(hi:cs[i]? = some v):w.cell? ⟨g,i,none⟩=some v:=by
 unfold SBk at h;simp[World.cell?,h,hi]
theorem SBk.frozen {w:World}{g i:Nat}{cs:Array Value}{T:TypeId}(h:SBk w g cs T):w.frozen? ⟨g,i,none⟩=false:=by
 unfold SBk at h;simp[World.frozen?,h]
theorem SBk.below {w w':World}{g:Nat}{cs:Array Value}{T:TypeId}(h:SBk w g cs T)(hb:Below w.heap.size w w'):SBk w' g cs T:=by
 unfold SBk;rw[hb.block g h.lt];exact h
theorem SBk.new (w:World)(cs:Array Value)(T:TypeId):SBk (w.alloc (.cells cs T)) w.heap.size cs T:=heap_alloc_new _ _
theorem SBk.set {w:World}{g i:Nat}{cs:Array Value}{T:TypeId}(h:SBk w g cs T)(v:Value):SBk (w.setCell ⟨g,i,none⟩ v) g (cs.setIfInBounds i v) T:=by
 unfold SBk at *
 simp only[World.setCell,Array.getElem?_modify,h];simp
theorem SBk.off {w:World}{g g' i:Nat}{cs:Array Value}{T:TypeId}(h:SBk w g cs T)(hg:g≠g')(v:Value):SBk (w.setCell ⟨g',i,none⟩ v) g cs T:=by
 unfold SBk at *
 rw[← h];exact Below.heap_setCell w ⟨g',i,none⟩ v g hg
def cB (cs:Array Value):Bool:=cs.all fun v=>match v with | .int _ _=>false|_=>true
theorem z0r {cs:Array Value}(h:cB cs=true){i:Nat}{k:IntKind}{n:Int}:cs[i]? ≠ some (.int k n):=by
 intro e;have:=Array.all_eq_true'.1 h _ (Array.mem_of_getElem? e);simp at this
theorem Rd.set {w:World}{v:Value}{xs:List Nat}{k:IntKind}{g:Nat}{cs:Array Value}{T:TypeId}(h:Rd k w v xs)(hg:SBk w g cs T)(hn:cB cs=true)(i:Nat)(u:Value):Rd k (w.setCell ⟨g,i,none⟩ u) v xs:=by
 rcases h with h|⟨b',o,c',h1,h2,h3,h4,h5⟩
 · exact Or.inl h
 · refine Or.inr ⟨b',o,c',h1,h2,h3,by simpa [World.setCell] using h4,fun j hj=>?_⟩
   have h6:=h5 j hj
   have hne:b'≠g:=by
    intro e;subst e;unfold SBk at hg
    simp only[World.cell?,hg]at h6;exact z0r hn (by simpa using h6)
   exact(zt hne).trans h6
def Bx (w:World):List (Array Value × TypeId)→World→Prop
 | [],W=>W=w
 | (cs,T) :: l,W=>Bx (w.alloc (.cells cs T)) l W
def BxI (w:World) (n:Nat):List (Array Value × TypeId)→World→Prop
 | [],W=>Below w.heap.size w W
 | (cs,T) :: l,W=>SBk W n cs T∧BxI w (n+1) l W
theorem ui (w0:World):∀ (l:List (Array Value × TypeId)) (w W:World) (n:Nat),w.heap.size=n→Below w0.heap.size w0 w→Bx w l W→Below w.heap.size w W∧BxI w0 n l W
 | [],w,W,n,hn,hb,h=>by
   obtain rfl:W=w:=h;exact⟨Below.refl _ _,hb⟩
 | (cs,T) :: l,w,W,n,hn,hb,h=>by
   have h1:=ui w0 l (w.alloc (.cells cs T)) W (n+1) (by simp[hn]) (hb.alloc hb.size _) h;have h2:Below w.heap.size w W:=((Below.refl w.heap.size w).alloc (Nat.le_refl _) (.cells cs T)).trans (h1.1.mono (by simp));refine⟨h2,?_,h1.2⟩;subst hn;exact(SBk.new w cs T).below h1.1
theorem boxes (w:World)(l:List (Array Value × TypeId))(W:World)(h:Bx w l W):BxI w w.heap.size l W:=(ui w l w W _ rfl (Below.refl _ _) h).2
theorem aA {P:Program}{c:Code}{Q:Exit→Act→World→Prop}{a:Act}{W:World}(w:World)(l:List (Array Value × TypeId))(h:Bx w l W)(k:∀ W,BxI w w.heap.size l W→c.wp P Q a W):c.wp P Q a W:=k W (boxes w l W h)
def storeAll (w:World) (g:Nat):Nat→List Value→World
 | _,[]=>w
 | i,x :: l=>storeAll (w.setCell ⟨g,i,none⟩ x) g (i+1) l
def zR (cs:Array Value):Nat→List Value→Array Value
 | _,[]=>cs
 | i,x :: l=>zR (cs.setIfInBounds i x) (i+1) l
def bH:Value→Bool
 | .int _ _=>false
 | _=>true
theorem z0q {cs:Array Value}(h:cB cs=true){x:Value}(hx:bH x=true)(i:Nat):cB (cs.setIfInBounds i x)=true:=by
 unfold cB at *
 refine Array.all_eq_true'.2 fun y hy=>?_;rcases Array.mem_or_eq_of_mem_setIfInBounds hy with hy|rfl
 · exact Array.all_eq_true'.1 h y hy
 · cases y<;>first|rfl|cases hx
theorem mr {k:IntKind}{v:Value}{xs:List Nat}{g:Nat}{T:TypeId}:∀ (l:List Value) (i:Nat) {w:World} {cs:Array Value},Rd k w v xs→SBk w g cs T→cB cs=true→l.all bH=true→Rd k (storeAll w g i l) v xs
 | [],_,_,_,h,_,_,_=>h
 | x :: l,i,_,_,h,hg,hn,hl=>by
   rw[List.all_cons,Bool.and_eq_true]at hl;exact mr l (i+1) (h.set hg hn i x) (hg.set x) (z0q hn hl.1 i) hl.2
theorem fw {g:Nat}{T:TypeId}:∀ (l:List Value) (i:Nat) {w:World} {cs:Array Value},SBk w g cs T→SBk (storeAll w g i l) g (zR cs i l) T
 | [],_,_,_,h=>h
 | x :: l,i,_,_,h=>fw l (i+1) (h.set x)
theorem aZ {g g':Nat}{cs:Array Value}{T:TypeId}(hg:g≠g'):∀ (l:List Value) (i:Nat) {w:World},SBk w g cs T→SBk (storeAll w g' i l) g cs T
 | [],_,_,h=>h
 | x :: l,i,_,h=>aZ hg l (i+1) (h.off hg x)
theorem aJ {B g:Nat}{a:World}(hg:B≤g):∀ (l:List Value) (i:Nat) {w:World},Below B a w→Below B a (storeAll w g i l)
 | [],_,_,h=>h
 | x :: l,i,_,h=>aJ hg l (i+1) (h.setCell (p:=⟨g,i,none⟩) hg x)
instance {W W':World}{g:Nat}{c:Array Value}{T:TypeId}:Gr (SBk W g c T) W W' (SBk W' g c T):=⟨fun h k=>k.below h⟩
theorem au {w:World} {g:Nat} {cs:Array Value} {T:TypeId} {x0 x1:Value} (h:SBk w g cs T) (h0:cs[0]?=some x0) (h1:cs[1]?=some x1):w.cell? ⟨g,0,none⟩=some x0∧w.cell? ⟨g,1,none⟩=some x1:=⟨h.cell h0,h.cell h1⟩
theorem dU {w:World} {g:Nat} {cs:Array Value} {T:TypeId} (h:SBk w g cs T):w.frozen? ⟨g,0,none⟩=false∧w.frozen? ⟨g,1,none⟩=false:=⟨h.frozen,h.frozen⟩
theorem aK {w:World} {g:Nat} {cs:Array Value} {T:TypeId} {x0 x1 x2:Value} (h:SBk w g cs T) (h0:cs[0]?=some x0) (h1:cs[1]?=some x1) (h2:cs[2]?=some x2):w.cell? ⟨g,0,none⟩=some x0∧w.cell? ⟨g,1,none⟩=some x1∧w.cell? ⟨g,2,none⟩=some x2:=⟨h.cell h0,h.cell h1,h.cell h2⟩
theorem bJ {w:World} {g:Nat} {cs:Array Value} {T:TypeId} (h:SBk w g cs T):w.frozen? ⟨g,0,none⟩=false∧w.frozen? ⟨g,1,none⟩=false∧w.frozen? ⟨g,2,none⟩=false:=⟨h.frozen,h.frozen,h.frozen⟩
theorem bY {w:World}{g:Nat}{T:TypeId}{x0 x1 x2 a b c:Value}(h:SBk w g #[x0,x1,x2] T):SBk (storeAll w g 0 [a,b,c]) g #[a,b,c] T:=by
 have:=fw [a,b,c] 0 h;simpa [zR] using this
theorem oN (w:World)(g:Nat)(a b c:Value):storeAll w g 0 [a,b,c]=((w.setCell ⟨g,0,none⟩ a).setCell ⟨g,1,none⟩ b).setCell ⟨g,2,none⟩ c:=rfl
theorem bQ (W:World)(o:Obj):Below W.heap.size W (W.alloc o):=(Below.refl W.heap.size W).alloc (Nat.le_refl _) o
theorem sQ (s:Nat)(v:Value):∀ (L:List (Nat × Value)) (t:Array Value),putL (L++[(s,v)]) t=(putL L t).setIfInBounds s v
 | [],_=>rfl
 | p :: L,t=>sQ s v L (t.setIfInBounds p.1 p.2)
theorem jG {a:Act}{L L':List (Nat × Value)}{t:Array Value}{b:Act}{s:Nat}{v:Value}(h:a=⟨putL L t,b.defers⟩)(hL:L++[(s,v)]=L'):(⟨a.tmps.setIfInBounds s v,a.defers⟩:Act)=⟨putL L' t,b.defers⟩:=by
 subst hL;rw[sQ,h]
end Go.Gb
set_option maxRecDepth 100000
set_option maxHeartbeats 20000000
open Go.Lib (hid)
namespace Go.Proofs.YtcchkjpdchcjpaaGreatDoor
open Go.RowKit Go.Gb
theorem z4Q (B g F S P Q a b c d f s:Nat)(n o:Bool)(hm:Made a b c d o F S f s)(hf:Fac a b c d)(hd9:d≤1000000000)(hlF:(aa F).length≤80000)(hlS:(aa S).length≤80000)(hlP:(aa P).length≤80000)(hlQ:(aa Q).length≤80000)(w:World)(h:EuSt B w g F S P Q n)(hB:B≤w.heap.size) :
 Calls Tryz.prog 191 #[.pointer (some ⟨g,0,none⟩),.agg #[.int .u64 (a:Int),.int .u64 (b:Int),.int .u64 (c:Int),.int .u64 (d:Int),.bool o]] w fun e w'=>e=.returned (.tuple #[])∧Hid (EuSt B w' g f s (a*P+b*Q) (c*P+d*Q) (n != o))∧Below B w w':=by
 cases o with
 | false=>exact yN B g F S P Q a b c d f s n hm hf hd9 hlF hlS hlP hlQ w h hB
 | true=>exact z0O B g F S P Q a b c d f s n hm hf hd9 hlF hlS hlP hlQ w h hB
theorem EuSt.kp {B g F S P Q:Nat}{n:Bool}{w w':World}(h:EuSt B w g F S P Q n){Z:Nat→Prop}(hk:Kp Z w w')(hg:¬ Z g)(hn:∀ {v:Value} {xs:List Nat},Own .u64 101 B w v xs→∀ k,At v k→¬ Z k):EuSt B w' g F S P Q n:=by
 obtain⟨vf,vs,vp,vq,hE,hBg,L⟩:=h;exact⟨vf,vs,vp,vq,hE.kp hk hg,hBg,L.kp hk (fun k h=>h.elim (hn L.f k) (fun h=>h.elim (hn L.s k) (fun h=>h.elim (hn L.p k) (hn L.q k))))⟩
theorem EuSt.below {B g F S P Q:Nat}{n:Bool}{w w':World}(h:EuSt B w g F S P Q n)(hb:Below w.heap.size w w'):EuSt B w' g F S P Q n :=
 h.kp (Z:=fun _=>False) (Kp.of_below hb) (fun h=>h) (fun _ _ _ h=>h)
theorem z3U {w:World}(g a b c d:Nat)(o:Bool):Kp (fun k=>k=g) w (set5 w g a b c d o) :=
 (((((Kp.refl (fun k=>k=g) w).set (p:=⟨g,0,none⟩) (fun _=>rfl) _).set (p:=⟨g,1,none⟩) (fun _=>rfl) _).set (p:=⟨g,2,none⟩) (fun _=>rfl) _).set (p:=⟨g,3,none⟩) (fun _=>rfl) _).set (p:=⟨g,4,none⟩) (fun _=>rfl) _
theorem EuSt.set5 {B g k F S P Q a b c d:Nat}{o n:Bool}{w:World}(h:EuSt B w g F S P Q n)(hs:Sb w k a b c d o)(a' b' c' d':Nat)(o':Bool):EuSt B (set5 w k a' b' c' d' o') g F S P Q n:=by
 obtain⟨vf,vs,vp,vq,hE,_,_⟩:=id h;exact h.kp (z3U k a' b' c' d' o') (jw hE hs) (fun ho j hj e=>kC hs ho (e▸hj))
theorem EuSt.alloc {B g F S P Q:Nat}{n:Bool}{w:World}(h:EuSt B w g F S P Q n)(x:Obj):EuSt B (w.alloc x) g F S P Q n:=h.below ((Below.refl _ w).alloc (Nat.le_refl _) x)
theorem EuSt.drew {B g F S P Q:Nat}{n:Bool}{w:World}(h:EuSt B w g F S P Q n):EuSt B w.drew g F S P Q n:=h.below ((Below.refl _ w).drew)
def EuN (k G F S:Nat):Prop:=k=F+S∧S≤F∧Nat.gcd F S=G
theorem z0I {B g F S P Q a b c d:Nat}{n o:Bool}{w w1:World}(h:EuSt B w g F S P Q n)(hB:B≤w.heap.size)(hb:Below w.drew.heap.size w.drew w1) :
 Sb (w1.alloc (.cells #[.int .u64 (a:Int),.int .u64 (b:Int),.int .u64 (c:Int),.int .u64 (d:Int),.bool o] 188)) w1.heap.size a b c d o∧EuSt B (w1.alloc (.cells #[.int .u64 (a:Int),.int .u64 (b:Int),.int .u64 (c:Int),.int .u64 (d:Int),.bool o] 188)) g F S P Q n ∧
 Below B w (w1.alloc (.cells #[.int .u64 (a:Int),.int .u64 (b:Int),.int .u64 (c:Int),.int .u64 (d:Int),.bool o] 188)) :=
 ⟨ky w1 a b c d o,(h.drew.below hb).alloc _,((Below.refl B w).drew.trans (hb.mono hB)).alloc (Nat.le_trans hB hb.size) _⟩
theorem z0H {B g F S P Q a b c d:Nat}{n o:Bool}{w w1:World}(h:EuSt B w g F S P Q n)(hB:B≤w.heap.size)(hb:Below (w.alloc (.cells #[.int .u64 0,.int .u64 0,.int .u64 0,.int .u64 0,.bool false] 188)).drew.heap.size (w.alloc (.cells #[.int .u64 0,.int .u64 0,.int .u64 0,.int .u64 0,.bool false] 188)).drew w1) :
 Sb (set5 w1 w.heap.size a b c d o) w.heap.size a b c d o∧EuSt B (set5 w1 w.heap.size a b c d o) g F S P Q n∧Below B w (set5 w1 w.heap.size a b c d o):=by
 have hs:Sb w1 w.heap.size 0 0 0 0 false:=bE (uI (ky w 0 0 0 0 false)) hb;have he:EuSt B w1 g F S P Q n:=((h.alloc _).drew).below hb;refine⟨fU hs a b c d o,he.set5 hs a b c d o,dC ?_ hB a b c d o⟩;exact(((Below.refl B w).alloc hB _).drew).trans (hb.mono (Nat.le_trans hB (by show _≤(World.alloc _ _).heap.size;rw[World.size_alloc];omega)))
theorem eRun (I:Nat→Nat→Nat→Nat→Bool→Prop)(hI:Keeps I)(B g F S P Q:Nat)(n:Bool)(h0:I F S P Q n)(w:World)(h:EuSt B w g F S P Q n)(hB:B≤w.heap.size) :
 Calls Tryz.prog 158 #[.pointer (some ⟨g,0,none⟩)] w fun e w'=>∃ (P' Q':Nat) (n':Bool),e=.returned (.tuple #[])∧Hid (EuSt B w' g (Nat.gcd F S) 0 P' Q' n')∧Hid (I (Nat.gcd F S) 0 P' Q' n')∧Below B w w':=by
 obtain ⟨HI,H0,HE,HB⟩:=aY hI h0 h hB;obtain⟨l1,l2,l3,l4⟩:=hI.len F S P Q n h0;obtain⟨vf,vs,vp,vq,hE,hBg,L⟩:=h;have HLs:=hid (mO vf vs F S (by omega) w.drew L.f.rd L.s.rd);obtain⟨c0,c1,c2,c3,c4⟩:=hE.cells;clear hI h0 hB hE L hBg l1 l2 l3 l4;go_enter func158,ntmps158
 go_upto_region 0 with fail
 go_cut [11] (fun v wx=>v=.bool (decide (F<S))∧Hid (EuSt B wx g F S P Q n)∧Hid (Below B w wx))
 case first =>
  go_region_with (go_at_call 188;go_must (refine HLs.o.mono ?_;rintro e w1 ⟨rfl,hb1⟩))
  all_goals
   have E':=hid (HE.o.drew.below hb1);have B':=hid (show Below B w w1 from(Below.refl B w).drew.trans (hb1.mono HB.o));clear hb1;go_wp2_with fail
   go_meet
   exact⟨rfl,E',B'⟩
 case rest =>
  clear c0 c1 c2 c3 c4 HLs HE;obtain⟨rfl,HE,HW⟩:=hcut;go_upto_if 11 with fail
  go_cut [12] (fun _ wx=>∃ (F' S' P' Q':Nat) (n':Bool),Hid (EuN (F+S) (Nat.gcd F S) F' S')∧Hid (EuSt B wx g F' S' P' Q' n')∧Hid (I F' S' P' Q' n')∧Hid (Below B w wx))
  case first =>
   by_cases hFS:F<S
   · rw[decide_eq_true hFS]
     obtain⟨l1,l2,l3,l4⟩:=HI.o.len F S P Q n H0.o;have hn:=HI.o.div F S P Q n (by omega) H0.o;have ln:=HI.o.len _ _ _ _ _ hn;have HDv:=hid (z0N B g F S P Q n (by omega) l1 l3 l4 ln.2.2.2 wc HE.o (Nat.le_trans HB.o HW.o.size));rw[Nat.mod_eq_of_lt hFS]at hn HDv;have HN:=hid hn;have HA:=hid (show EuN (F+S) (Nat.gcd F S) S F from⟨Nat.add_comm _ _,Nat.le_of_lt hFS,Nat.gcd_comm _ _⟩);clear hn ln l1 l2 l3 l4 hFS;go_wp2_with fail
     refine HDv.o.mono ?_;rintro e w2 ⟨rfl,hE2,hb2⟩;have HW2:=hid (HW.o.trans hb2);clear hb2;go_wp2_with fail
     go_meet
     exact⟨S,F,Q,_,_,HA,hE2,HN,HW2⟩
   · rw[decide_eq_false hFS]
     have HA:=hid (show EuN (F+S) (Nat.gcd F S) F S from⟨rfl,by omega,rfl⟩);clear hFS;go_wp2_with fail
     go_meet
     exact⟨F,S,P,Q,n,HA,HE,H0,HW⟩
  case rest =>
   clear HE HW H0;obtain⟨F0,S0,P0,Q0,n0,hA0,hE0,hI0,hW0⟩:=hcut;go_wp2;go_loopg [2] (F+S) (fun k _ wr=>∃ (F' S' P' Q':Nat) (n':Bool),Hid (EuN k (Nat.gcd F S) F' S')∧Hid (EuSt B wr g F' S' P' Q' n')∧Hid (I F' S' P' Q' n')∧Hid (Below B w wr))
   case atStart=>exact⟨F0,S0,P0,Q0,n0,hA0,hE0,hI0,hW0⟩
   case round =>
        obtain⟨F1,S1,P1,Q1,n1,hA,hE,hJ,hW⟩:=hrel;clear hA0 hE0 hI0 hW0;obtain⟨vf,vs,vp,vq,hEb,hBg,L⟩:=hE.o;obtain⟨af,cf,rfl⟩:=aV L.f.rd;obtain⟨as_,cs_,rfl⟩:=aV L.s.rd;obtain⟨c0,c1,c2,c3,c4⟩:=hEb.cells;obtain⟨l1,l2,l3,l4⟩:=HI.o.len _ _ _ _ _ hJ.o;by_cases hS1:S1=0
        · subst hS1
          rw[aR,show([]:List Nat).length=0 from rfl]at c1;clear hEb L hBg c0 c2 c3 c4 l1 l2 l3 l4;have hg:=hA.o.2.2;rw[Nat.gcd_zero_right]at hg;have HG:=hid hg;clear hg;go_wp2;go_end0
          exact⟨P1,Q1,n1,rfl,by rw[← HG.o];exact hE,by rw[← HG.o];exact hJ,hW.o⟩
        · have hm:0<(aa S1).length:=by rw[bL hS1];simp
          have HFo:=hid (nO _ _ F1 S1 hS1 hA.o.2.1 l1 wr.drew L.f.rd L.s.rd);have HFo2:=hid (nO _ _ F1 S1 hS1 hA.o.2.1 l1 (wr.alloc (.cells #[.int .u64 0,.int .u64 0,.int .u64 0,.int .u64 0,.bool false] 188)).drew (L.f.rd.below ((Below.refl _ wr).alloc (Nat.le_refl _) _).drew) (L.s.rd.below ((Below.refl _ wr).alloc (Nat.le_refl _) _).drew));unfold Stp at HFo HFo2
          obtain ⟨hZ,HS1⟩:=aH (Nat.le_trans HB.o hW.o.size) hS1;generalize (aa S1).length=m at *;generalize (aa F1).length=mf at *;have hgw:=hEb.lt;have GA:=hid (show g<wr.drew.heap.size from hgw);have GB:=hid (show g<(wr.alloc (.cells #[.int .u64 0,.int .u64 0,.int .u64 0,.int .u64 0,.bool false] 188)).drew.heap.size by show _<(World.alloc _ _).heap.size;rw[World.size_alloc];omega);have DA0:=hid (show wr.drew.cell? ⟨g,0,none⟩=some (.slice af mf cf) from c0);have DA1:=hid (show wr.drew.cell? ⟨g,1,none⟩=some (.slice as_ m cs_) from c1);have DB0:=hid (show(wr.alloc (.cells #[.int .u64 0,.int .u64 0,.int .u64 0,.int .u64 0,.bool false] 188)).drew.cell? ⟨g,0,none⟩=some (.slice af mf cf) by rw[mU,fu hgw];exact c0);have DB1:=hid (show(wr.alloc (.cells #[.int .u64 0,.int .u64 0,.int .u64 0,.int .u64 0,.bool false] 188)).drew.cell? ⟨g,1,none⟩=some (.slice as_ m cs_) by rw[mU,fu hgw];exact c1);clear hEb L hBg l1 l2 l3 l4 hS1;go_upto_region 3 with fail
          go_cut [2]from 14 to 36 (fun v2 wx=>∃ (k a b c d:Nat) (o:Bool),v2=.pointer (some ⟨k,0,none⟩)∧Hid (Sb wx k a b c d o)∧Hid (EuSt B wx g F1 S1 P1 Q1 n1)∧Hid (Seen F1 S1 a b c d o)∧Hid (Below B w wx))
          case first =>
           go_region_held3 (fun w'=>w'.cell? ⟨g,0,none⟩=some (.slice af mf cf)∧w'.cell? ⟨g,1,none⟩=some (.slice as_ m cs_)) (first|((try go_split_ands);refine⟨?_,?_⟩<;>(first|(with_reducible assumption)|((repeat (first|rw[mU]|rw[fu (by first|assumption|omega|(simp;done)|(simp;omega))]|rw[zt (by omega)]));first|(with_reducible assumption)|(simp;done))))|(go_keep;done))
            (first
               | (go_at_call 190;(refine(HFo.o).mono ?_);rintro e w1 ⟨a,b,c,d,o,rfl,hSeen,hb1⟩;have u6:=hid hb1;obtain⟨hc1,hf1⟩:=wbc hb1;have hz1:=hb1.size;(try simp at hz1);have d0:w1.cell? ⟨g,0,none⟩=some (.slice af mf cf):=(hc1 _ _ GA.o).trans DA0.o;have d1:w1.cell? ⟨g,1,none⟩=some (.slice as_ m cs_):=(hc1 _ _ GA.o).trans DA1.o)
               | (go_at_call 190;(refine(HFo2.o).mono ?_);rintro e w1 ⟨a,b,c,d,o,rfl,hSeen,hb1⟩;have u6:=hid hb1;obtain⟨hc1,hf1⟩:=wbc hb1;have hz1:=hb1.size;(try simp at hz1);have d0:w1.cell? ⟨g,0,none⟩=some (.slice af mf cf):=(hc1 _ _ GB.o).trans DB0.o;have d1:w1.cell? ⟨g,1,none⟩=some (.slice as_ m cs_):=(hc1 _ _ GB.o).trans DB1.o))
           · obtain⟨q1,q2,q3⟩:=z0I (a:=a) (b:=b) (c:=c) (d:=d) (o:=o) hE.o hZ.o u6.o
             obtain ⟨Q1,Q2,Q3⟩:=ae q1 q2 (hW.o.trans q3);clear q1 q2 q3;go_wp2_with fail
             go_meet
             exact⟨_,a,b,c,d,o,rfl,Q1,Q2,hSeen,Q3⟩
           · obtain⟨q1,q2,q3⟩:=z0H (a:=a) (b:=b) (c:=c) (d:=d) (o:=o) hE.o hZ.o u6.o
             obtain ⟨Q1,Q2,Q3⟩:=ae q1 q2 (hW.o.trans q3);clear q1 q2 q3;go_wp2_with fail
             go_meet
             exact⟨_,a,b,c,d,o,rfl,Q1,Q2,hSeen,Q3⟩
          case rest =>
           clear hE hW hZ c0 c1 c2 c3 c4 HFo HFo2 hgw;obtain⟨k,a,b,c,d,o,rfl,hS,hE,hSeen,hW⟩:=hcut;have hZ:=Nat.le_trans HB.o hW.o.size;obtain⟨s0,s1,s2,s3,s4⟩:=bz hS.o;obtain⟨l1,l2,l3,l4⟩:=HI.o.len _ _ _ _ _ hJ.o;obtain⟨hk,hle,hg⟩:=hA.o;by_cases hb:b=0
           · have hbz:((b:Int)==0)=true:=beq_iff_eq.2 (by omega)
             have hn:=HI.o.div F1 S1 P1 Q1 n1 HS1.o hJ.o;have ln:=HI.o.len _ _ _ _ _ hn;have HDv:=hid (z0N B g F1 S1 P1 Q1 n1 HS1.o l1 l3 l4 ln.2.2.2 wc hE.o hZ);have hlt:=Nat.mod_lt F1 (Nat.pos_of_ne_zero HS1.o);have HA:=hid (show EuN (S1+F1%S1) (Nat.gcd F S) S1 (F1%S1) from⟨rfl,Nat.le_of_lt hlt,by rw[← hg,Nat.gcd_comm S1,← Nat.gcd_rec,Nat.gcd_comm]⟩);have HLt:=hid (show S1+F1%S1<gk by omega);have HN:=hid hn;clear hn ln hlt hk hle hg l1 l2 l3 l4 hb hZ;go_wp2_with fail
             refine HDv.o.mono ?_;rintro e w2 ⟨rfl,hE2,hb2⟩;have HW2:=hid (hW.o.trans hb2);clear hb2;go_wp2;go_roundg (S1+F1%S1)
             case measure=>exact HLt.o
             case rel=>exact⟨S1,F1%S1,Q1,_,_,HA,hE2,HN,HW2⟩
           · have hbz:((b:Int)==0)=false:=beq_eq_false_iff_ne.2 (by omega)
             have hF1:F1≠0:=by have:=HS1.o;omega
             obtain⟨f,s,hm,hsf,hFac,hD,hd9⟩:=hSeen.o.resolve_left hb;have hn:=HI.o.app F1 S1 P1 Q1 n1 a b c d o f s hF1 hb hm hD hFac hsf hJ.o;have HAp:=hid (z4Q B g F1 S1 P1 Q1 a b c d f s n1 o hm hFac hd9 l1 l2 l3 l4 wc hE.o hZ);have HA:=hid (show EuN (f+s) (Nat.gcd F S) f s from⟨rfl,hsf,by rw[hm.gcd hD,hg]⟩);have HLt:=hid (show f+s<gk by have:=hm.less hD hFac hb hF1 hsf;omega);have HN:=hid hn;clear hn hk hle hg l1 l2 l3 l4 hb hZ hF1 hm hsf hFac hD hd9;go_wp2_with fail
             refine HAp.o.mono ?_;rintro e w2 ⟨rfl,hE2,hb2⟩;have HW2:=hid (hW.o.trans hb2);clear hb2;go_wp2;go_roundg (f+s)
             case measure=>exact HLt.o
             case rel=>exact⟨f,s,_,_,_,HA,hE2,HN,HW2⟩
open Go.Lib (hid)
theorem xz {B a b:Nat}{u1 u2 u3 u4:Value}{P Q:Nat}{w:World}(hB:B≤w.heap.size)(o1:Own .u64 101 B w u1 (aa a))(o2:Own .u64 101 B w u2 (aa b))(o3:Own .u64 101 B w u3 (aa P))(o4:Own .u64 101 B w u4 (aa Q))
 (a12:Apt u1 u2) (a13:Apt u1 u3) (a14:Apt u1 u4) (a23:Apt u2 u3) (a24:Apt u2 u4) (a34:Apt u3 u4) (n:Bool) :
 EuSt B (w.alloc (.cells #[u1,u2,u3,u4,.bool n] 195)) w.heap.size a b P Q n:=by
 have hb:=(Below.refl _ w).alloc (Nat.le_refl _) (.cells #[u1,u2,u3,u4,.bool n] 195);refine⟨u1,u2,u3,u4,?_,hB,⟨o1.below hb,o2.below hb,o3.below hb,o4.below hb,a12,a13,a14,a23,a24,a34⟩⟩;unfold Eb
 rw[heap_alloc_new]
theorem wz (v1 v2:Value)(a b:Nat)(hl:2<(aa a).length∨2<(aa b).length)(hla:(aa a).length≤70000)(hlb:(aa b).length≤70000)(w:World)(h1:Rd .u64 w v1 (aa a))(h2:Rd .u64 w v2 (aa b)) :
 Calls Tryz.prog 125 #[v1,v2] w fun e w'=>∃ v,e=.returned v∧Own .u64 101 w.heap.size w' v (aa (Nat.gcd a b))∧Below w.heap.size w w':=by
 have hlN:(aa (a+b)).length≤80000:=by
  have:=jy hla hlb;omega
 have HI:=hid (CmI.keeps hlN);have HC1:=hid (o8 v1 (aa a) (by omega) w h1);have HC2:=hid (fun W (h:Rd .u64 W v2 (aa b))=>o8 v2 (aa b) (by omega) W h);have HR2:=hid h2;by_cases hs:(aa a).length≤2
 · have s1:=hid (jY v1 _ hs w h1)
   have s2:=hid (pI v2 _ (by omega) (by omega) w h2);clear hl hla hlb h1 h2 hlN hs;go_enter func125,ntmps125
   go_wp2_with fail
   refine s1.o.mono ?_;rintro e w' ⟨rfl,rfl⟩;go_wp2_with fail
   refine s2.o.mono ?_;rintro e w' ⟨rfl,rfl⟩;clear s1 s2;go_wp2_with fail
   refine HC1.o.mono ?_;rintro e w1 ⟨u1,rfl,ho1,hb1⟩;obtain⟨a1,c1,rfl⟩:=aV ho1.rd;obtain ⟨HO1,u6,HD2⟩:=ae ho1 hb1 (HC2.o w1 (HR2.o.below hb1));clear ho1 hb1;go_wp2_with fail
   refine HD2.o.mono ?_;rintro e w2 ⟨u2,rfl,ho2,hb2⟩;obtain⟨a2,c2,rfl⟩:=aV ho2.rd;have hB2:=u6.o.trans (hb2.mono u6.o.size)
   have hst:=xz (n:=false) hB2.size (HO1.o.below hb2) (ho2.mono u6.o.size) (u3:=.slice none 0 0) (u4:=.slice none 0 0) (P:=0) (Q:=0) (by rw[aR];exact Own.nil _ _ _ _) (by rw[aR];exact Own.nil _ _ _ _)
    (fC ho2 _ (fun g hg=>(HO1.o.at hg).2)).symm (Apt.nil_right _ _ _) (Apt.nil_right _ _ _) (Apt.nil_right _ _ _) (Apt.nil_right _ _ _) (Apt.nil_right _ _ _)
   have hB3:=hB2.alloc hB2.size (.cells #[.slice a1 (aa a).length c1,.slice a2 (aa b).length c2,.slice none 0 0,.slice none 0 0,.bool false] 195);have HRun:=hid (eRun _ HI.o w.heap.size w2.heap.size a b 0 0 false ⟨Nat.le_refl _,rfl,rfl⟩ _ hst hB3.size);have w9:=hid hB3;clear ho2 hb2 hB2 hst hB3 HO1 u6 HC1 HC2 HD2 HR2;go_wp2_with fail
   refine HRun.o.mono ?_;rintro e w4 ⟨P',Q',n',rfl,hE,_,hb4⟩;have wo:=hid (w9.o.trans hb4);obtain⟨vf,vs,vp,vq,hEb,_,L⟩:=hE.o;obtain⟨c0,_,_,_,_⟩:=hEb.cells;have HF:=hid L.f;clear hE hEb L hb4 HRun;go_wp2;go_ret
   exact⟨vf,rfl,HF.o,wo.o⟩
 · have s1:=hid (pI v1 _ (by omega) (by omega) w h1)
   clear hl hla hlb h1 h2 hlN hs;go_enter func125,ntmps125
   go_wp2_with fail
   refine s1.o.mono ?_;rintro e w' ⟨rfl,rfl⟩;clear s1;go_wp2_with fail
   refine HC1.o.mono ?_;rintro e w1 ⟨u1,rfl,ho1,hb1⟩;obtain⟨a1,c1,rfl⟩:=aV ho1.rd;obtain ⟨HO1,u6,HD2⟩:=ae ho1 hb1 (HC2.o w1 (HR2.o.below hb1));clear ho1 hb1;go_wp2_with fail
   refine HD2.o.mono ?_;rintro e w2 ⟨u2,rfl,ho2,hb2⟩;obtain⟨a2,c2,rfl⟩:=aV ho2.rd;have hB2:=u6.o.trans (hb2.mono u6.o.size)
   have hst:=xz (n:=false) hB2.size (HO1.o.below hb2) (ho2.mono u6.o.size) (u3:=.slice none 0 0) (u4:=.slice none 0 0) (P:=0) (Q:=0) (by rw[aR];exact Own.nil _ _ _ _) (by rw[aR];exact Own.nil _ _ _ _)
    (fC ho2 _ (fun g hg=>(HO1.o.at hg).2)).symm (Apt.nil_right _ _ _) (Apt.nil_right _ _ _) (Apt.nil_right _ _ _) (Apt.nil_right _ _ _) (Apt.nil_right _ _ _)
   have hB3:=hB2.alloc hB2.size (.cells #[.slice a1 (aa a).length c1,.slice a2 (aa b).length c2,.slice none 0 0,.slice none 0 0,.bool false] 195);have HRun:=hid (eRun _ HI.o w.heap.size w2.heap.size a b 0 0 false ⟨Nat.le_refl _,rfl,rfl⟩ _ hst hB3.size);have w9:=hid hB3;clear ho2 hb2 hB2 hst hB3 HO1 u6 HC1 HC2 HD2 HR2;go_wp2_with fail
   refine HRun.o.mono ?_;rintro e w4 ⟨P',Q',n',rfl,hE,_,hb4⟩;have wo:=hid (w9.o.trans hb4);obtain⟨vf,vs,vp,vq,hEb,_,L⟩:=hE.o;obtain⟨c0,_,_,_,_⟩:=hEb.cells;have HF:=hid L.f;clear hE hEb L hb4 HRun;go_wp2;go_ret
   exact⟨vf,rfl,HF.o,wo.o⟩
theorem zg (a b:Nat)(hla:(aa a).length≤70000)(hlb:(aa b).length≤70000):z2M a b:=by
 intro v1 v2 w h1 h2;by_cases h:(aa a).length≤2∧(aa b).length≤2
 · exact uB v1 v2 a b h.1 h.2 w h1 h2
 · exact wz v1 v2 a b (by omega) hla hlb w h1 h2
open Go.ChangeShapes Go.WideShapes Go.ChangeAt Go.WideMaps Go.WideElems Go.RowKit
theorem own:ownKnob Tryz.prog.godebug=none:=by kernel_rfl
theorem gTab:Tryz.prog.globalNamed "internal/strconv.uint64pow10" = some 3:=by kernel_rfl
theorem rf:(Tryz.prog.globals[3]?).map (·.type)=some 209:=by kernel_rfl
theorem rH:Tryz.prog.cellsOf 209=20:=by kernel_rfl
theorem rG:Tryz.prog.cellsOf 101=1:=by kernel_rfl
def xn:List (String × DataW Unit):=[("math/bits.deBruijn32tab",Rows.laid_math_bits_deBruijn32tab),("math/bits.deBruijn64tab",Rows.laid_math_bits_deBruijn64tab),("internal/strconv.uint64pow10",Rows.laid_internal_strconv_uint64pow10),("strconv.ErrRange",Rows.laid_strconv_ErrRange),("strconv.ErrSyntax",Rows.laid_strconv_ErrSyntax)]
theorem z4i {W:World}(h:laidMetH Tryz.prog xn W):Tb W:=by
 rw[MakeChecks.laidMetH_plain _ _ _ (by kernel_rfl)]at h;obtain⟨ps,⟨g0,t0,cs0,f0,p0,q0,hg0,ht0,hv0,hd0,⟨g1,t1,cs1,f1,p1,q1,hg1,ht1,hv1,hd1,⟨g2,t2,cs2,f2,p2,q2,hg2,ht2,hv2,hd2,_,_⟩,_⟩,_⟩,_,_⟩:=h;obtain rfl:=Option.some.inj (gTab.symm.trans hg2);obtain rfl:=Option.some.inj (rf.symm.trans ht2);unfold Tb Lib.TabIs
 rw[hv2];congr 1
 apply Array.ext'
 rw[Lib.cells_of_tab (k:=.u64) (zs:=Lib.pow10Tab) underlying209 underlying101 rG rH hd2]
theorem z5c (os:Os)(args:Array Value):laidMetH Tryz.prog xn ((World.doorLaid Tryz.prog 4000 os).forCall (fun _ _=>0) ⟨#[],args,[]⟩).memory:=by
 rw[MakeChecks.laidMetH_plain _ _ _ (by kernel_rfl)];exact laidMet_of_run' 8 (by kernel_rfl) (by kernel_rfl)
end Go.Proofs.YtcchkjpdchcjpaaGreatDoor
namespace Go.Proofs.YtcchkjpdchcjpaaGreatDoor
open Go.ChangeShapes Go.WideShapes Go.ChangeAt Go.WideMaps Go.WideElems Go.RowKit Go.Gb
open Go.ChangeMaps (open_string shut_string)
theorem xZ {H:Type}{enc:TypeId × Value→H}{P:Program}{f:Func}{s:ChangeSpec}{apart fresh handsOn again:Bool}{W W':World}{args:Array Value}{v:Value}{ds gs:List (DataW H)}
 (hW:DataW.Whole enc P f.params.toList s.vars apart W args.toList ds gs [])
 (hres:∀ (b:Nat) (sp:Nat→Bool) (hd:Bool),DataW.TrodAll enc P W' b sp hd f.resultTypes.toList (v.resultList f.resultTypes.size) (s.fn H (ds++gs)).results [])
 (hargs:∀ sp:Nat→Bool,DataW.TrodAll enc P W' 0 sp true f.params.toList args.toList (s.fn H (ds++gs)).args [])
 (hvars:∀ sp:Nat→Bool,DataW.TrodVars enc P W' sp s.vars (s.fn H (ds++gs)).vars [])
 (hk:W.keptBut W' (fun _=>False))
 (hok:∀ (j:Nat) (t:TypeId) (r:Value),f.resultTypes[j]? = some t→(v.resultList f.resultTypes.size)[j]? = some r→Value.okWide P W' .any 0 t r) :
 s.post enc P f apart fresh handsOn again W args v W':=by
 refine⟨ds,gs,[],[],[],[],hW,hres _ _ _,hargs _,hvars _,World.keptBut_mono (fun p hp=>hp.elim) hk,fun _=>?_⟩;refine⟨hok,_,_,([]++[])++[],⟨[]++[],[],trodAll_append (hargs _) (hres _ _ _),hvars _,rfl,?_,?_⟩,?_⟩
 · intro b off hp
   simp at hp
 · intro ha
   simp
 · intro p hp _
   simp at hp
end Go.Proofs.YtcchkjpdchcjpaaGreatDoor
namespace Go.Proofs.YtcchkjpdchcjpaaGreatDoor
open Go.ChangeShapes Go.WideShapes Go.ChangeAt Go.WideMaps Go.WideElems Go.RowKit
theorem yI:Tryz.prog.globalNamed "garboard/integer.zero" = some 1:=by kernel_rfl
theorem tL:(Tryz.prog.globals[1]?).map (·.type)=some 136:=by kernel_rfl
def tH:List (String × DataW Unit):=[("math/bits.deBruijn32tab",Rows.laid_math_bits_deBruijn32tab),("math/bits.deBruijn64tab",Rows.laid_math_bits_deBruijn64tab),("internal/strconv.uint64pow10",Rows.laid_internal_strconv_uint64pow10),("strconv.ErrRange",Rows.laid_strconv_ErrRange),("strconv.ErrSyntax",Rows.laid_strconv_ErrSyntax),("garboard/integer.zero",Rows.laid_garboard_integer_zero)]
theorem z4j {W:World}(h:laidMetH Tryz.prog tH W):La W:=by
 rw[MakeChecks.laidMetH_plain _ _ _ (by kernel_rfl)]at h;obtain⟨ps,⟨g0,t0,cs0,f0,p0,q0,hg0,ht0,hv0,hd0,⟨g1,t1,cs1,f1,p1,q1,hg1,ht1,hv1,hd1,⟨g2,t2,cs2,f2,p2,q2,hg2,ht2,hv2,hd2,⟨g3,t3,cs3,f3,p3,q3,hg3,ht3,hv3,hd3,⟨g4,t4,cs4,f4,p4,q4,hg4,ht4,hv4,hd4,⟨g5,t5,cs5,f5,p5,q5,hg5,ht5,hv5,hd5,_,_⟩,_⟩,_⟩,_⟩,_⟩,_⟩,_,_⟩:=h;obtain rfl:=Option.some.inj (gTab.symm.trans hg2);obtain rfl:=Option.some.inj (rf.symm.trans ht2);obtain rfl:=Option.some.inj (yI.symm.trans hg5);obtain rfl:=Option.some.inj (tL.symm.trans ht5);refine⟨?_,?_⟩
 · unfold Tb Lib.TabIs
   rw[hv2];congr 1
   apply Array.ext'
   rw[Lib.cells_of_tab (k:=.u64) (zs:=Lib.pow10Tab) underlying209 underlying101 rG rH hd2]
 · obtain⟨k0,k1,hu,e0,o0,e1,o1⟩:∃ k0 k1:Field,Tryz.prog.underlying 136=some (.struct #[k0,k1])∧k0.type=3∧k0.offset=0∧k1.type=9∧k1.offset=1:=⟨_,_,underlying136,rfl,rfl,rfl,rfl⟩
   obtain⟨y0,y1,n,hx,hlen,h0,h1⟩:=trod_struct2 hu hd5;rw[e0,o0]at h0;rw[e1,o1]at h1;obtain⟨m,hc0,hy0,_⟩:=DataW.trod_int underlying3 h0;obtain⟨s,hc1,hy1,_⟩:=DataW.trod_string underlying9 h1;subst hy0 hy1;have hc:Tryz.prog.cellsOf 136=2:=by kernel_rfl
   have hci:Tryz.prog.cellsOf 3=1:=by kernel_rfl
   have hcs:Tryz.prog.cellsOf 9=1:=by kernel_rfl
   rw[hc]at hlen;rw[hci]at hc0;rw[hcs]at hc1
   have hd:m=0∧s.data.toList=[48]:=by
    have:=congrArg Prod.fst hx;simpa [Rows.laid_garboard_integer_zero,eq_comm] using this
   obtain⟨rfl,hs⟩:=hd
   have hs':s=⟨#[48]⟩:=by
    cases s with
    | mk d=>exact congrArg ByteArray.mk (Array.ext' hs)
   subst hs'
   have hl:cs5.toList=[.int .i64 0,.string ⟨#[48]⟩]:=by
    match hcs5:cs5.toList,hlen with
    | [a,b],_ =>
      rw[hcs5]at hc0 hc1;simp at hc0 hc1
      rw[hc0,hc1]
   have g0':=World.var?_cell yI hv5 0;have g1':=World.var?_cell yI hv5 1;have ha:cs5=#[.int .i64 0,.string ⟨#[48]⟩]:=Array.ext' hl;rw[ha]at g0' g1';have c0:W.cell? ⟨1,0,none⟩=some (.int .i64 0):=by simpa using g0'
   have c1:W.cell? ⟨1,1,none⟩=some (.string ⟨#[48]⟩):=by simpa using g1'
   exact⟨World.block_lt_of_cell? W _ c0,c0,c1⟩
theorem z4T (os:Os)(args:Array Value):laidMetH Tryz.prog tH ((World.doorLaid Tryz.prog 4000 os).forCall (fun _ _=>0) ⟨#[],args,[]⟩).memory:=by
 rw[MakeChecks.laidMetH_plain _ _ _ (by kernel_rfl)];exact laidMet_of_run' 8 (by kernel_rfl) (by kernel_rfl)
end Go.Proofs.YtcchkjpdchcjpaaGreatDoor
namespace Go.Proofs.YtcchkjpdchcjpaaGreatDoor
open Go.ChangeShapes Go.WideShapes Go.ChangeAt Go.WideMaps Go.WideElems Go.RowKit Go.Gb Go.Joins
open Go.ChangeMaps (open_string shut_string)
theorem z5y {H:Type}{enc:TypeId × Value→H}{W:World}{base b0:Nat}{spare:Nat→Bool}{held:Bool}{r:Reach}{v:Value}{d:DataW H}{p:List MemPlace}
 (hv:Value.okWide Tryz.prog W r b0 31 v) (h:DataW.Trod enc Tryz.prog W base spare held 31 v d p) :
 ∃ l u:ByteArray,v=.agg #[.string l,.string u]∧d=.agg [.lit (.string l.data.toList),.lit (.string u.data.toList)]∧p=[]∧l.size≤maxLen∧u.size≤maxLen:=by
 obtain⟨c0,c1,y0,y1,m,rfl,rfl,rfl,hy0,hy1⟩:=open_agg2 underlying31 (by kernel_rfl) (by kernel_rfl) hv h;obtain⟨l,e0,rfl,wl⟩:=DataW.trod_string underlying22 hy0;obtain⟨u,e1,rfl,wu⟩:=DataW.trod_string underlying22 hy1;simp at e0 e1
 subst e0 e1;exact⟨l,u,rfl,rfl,rfl,wl,wu⟩
theorem z5l {H:Type}{enc:TypeId × Value→H}{W:World}{base:Nat}{spare:Nat→Bool}{held:Bool}{l u:ByteArray}(hl:l.size≤maxLen)(hu:u.size≤maxLen) :
 DataW.Trod enc Tryz.prog W base spare held 31 (.agg #[.string l,.string u]) (.agg [.lit (.string l.data.toList),.lit (.string u.data.toList)]) [] :=
 shut_agg2 (y0:=(.lit (.string l.data.toList),[])) (y1:=(.lit (.string u.data.toList),[])) underlying31 (by kernel_rfl) (by kernel_rfl) ⟨1,by simp[DataW.trod,underlying22,hl]⟩ ⟨1,by simp[DataW.trod,underlying22,hu]⟩
theorem z3d {x:Int}(h:(Lit.int .u8 x).wf=true):0≤x∧x≤255:=by
 have h1:IntKind.u8.min≤x∧x≤IntKind.u8.max:=by simpa [Lit.wf] using h
 exact⟨Int.le_trans (show(0:Int)≤IntKind.u8.min by decide) h1.1,Int.le_trans h1.2 (show IntKind.u8.max≤255 by decide)⟩
theorem z3e {x:Int}(h:(Lit.int .u16 x).wf=true):0≤x∧x≤65535:=by
 have h1:IntKind.u16.min≤x∧x≤IntKind.u16.max:=by simpa [Lit.wf] using h
 exact⟨Int.le_trans (show(0:Int)≤IntKind.u16.min by decide) h1.1,Int.le_trans h1.2 (show IntKind.u16.max≤65535 by decide)⟩
