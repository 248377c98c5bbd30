/- texts -/
import Derived.Test.YtikihamjpenboaaGreatDoorMz4q
import Derived.Test.YtikihamjpenboaaGreatDoorMz7q
import Derived.Carry
import Derived.BigQuiet
import Derived.StillTailTactics
open Go.Proofs.Tryz
namespace Go.Gb
open Go
theorem xG {xs:List Nat}(hx:∀ x∈xs,x<BB){i:Nat}(hi:xs.length=i+1)(k:Nat):ai xs / 10^(9*i+k)=xs.getD i 0 / 10^k:=by
 have h1:=dA xs i (by omega)
 have h2:ai (xs.drop i)=xs.getD i 0:=by
  rw[gu (by omega),List.drop_of_length_le (by omega)];simp[ai]
 have hlt:=jw xs hx i;have hB:BB^i=10^(9*i):=by rw[Nat.pow_mul,show BB=10^9 from by rw[aG]]
 rw[h2]at h1;rw[h1,Nat.pow_add,← hB,← Nat.div_div_eq_div_mul,Nat.add_mul_div_left _ _ (Nat.pow_pos bE),Nat.div_eq_of_lt hlt,Nat.zero_add]
def TOut (xs:List Nat) (bs:List UInt8) (i:Nat):Prop :=
 (i<xs.length∧bs=ldig (ai xs) (9*i))∨(i=xs.length∧∃ m,bs=ldig (ai xs) (m+1)∧10^m≤ai xs∧ai xs<10^(m+1))
def TIn (xs:List Nat) (bs:List UInt8) (i k q:Nat):Prop :=
 k≤9∧q=xs.getD i 0 / 10^k∧bs=ldig (ai xs) (9*i+k)∧(k=0∨i+1<xs.length∨xs.getD i 0 / 10^(k-1)≠0)
theorem TOut.zero {xs:List Nat}(h:0<xs.length):TOut xs [] 0:=Or.inl ⟨h,rfl⟩
theorem TIn.start {xs:List Nat}{bs:List UInt8}{i:Nat}(h:TOut xs bs i)(hi:i<xs.length):TIn xs bs i 0 (xs.getD i 0):=by
 rcases h with⟨_,h⟩|⟨h,_⟩
 · exact⟨by omega,by simp,h,Or.inl rfl⟩
 · omega
theorem TIn.len {xs:List Nat}{bs:List UInt8}{i k q:Nat}(h:TIn xs bs i k q):bs.length=9*i+k:=by rw[h.2.2.1,jm]
theorem TIn.lt {xs:List Nat}{bs:List UInt8}{i k q:Nat}(h:TIn xs bs i k q)(hi:i<xs.length)(hx:∀ x∈xs,x<BB):q<1000000000:=by
 have h1:=hx _ (aV hi);rw[aG]at h1;rw[h.2.1];exact Nat.lt_of_le_of_lt (Nat.div_le_self _ _) h1
theorem TIn.step {xs:List Nat}{bs:List UInt8}{i k q:Nat}(h:TIn xs bs i k q)(hi:i<xs.length)(hx:∀ x∈xs,x<BB)(hk:k<9)(hg:i+1<xs.length∨0<q) :
 TIn xs (bs++[UInt8.ofNat (48+q%10)]) i (k+1) (q / 10):=by
 obtain⟨h1,h2,h3,h4⟩:=h;refine⟨by omega,?_,?_,?_⟩
 · rw[h2,Nat.div_div_eq_div_mul,Nat.pow_succ]
 · rw[h3,h2,← yM hx hi hk,← z1r]
   rfl
 · rcases hg with hg|hg
   · exact Or.inr (Or.inl hg)
   · right;right
     rw[Nat.add_sub_cancel,← h2];omega
theorem TIn.done {xs:List Nat}{bs:List UInt8}{i k q:Nat}(h:TIn xs bs i k q)(hi:i<xs.length)(hx:∀ x∈xs,x<BB)(hl:xs.getD (xs.length-1) 0≠0)(hg:k=9∨(i+1=xs.length∧q=0)):TOut xs bs (i+1):=by
 obtain⟨h1,h2,h3,h4⟩:=h;by_cases hlt:i+1<xs.length
 · obtain rfl:k=9:=by omega
   exact Or.inl ⟨hlt,by rw[h3,Nat.mul_add]⟩
 · have hi1:xs.length=i+1:=by omega
   have hw:=hx _ (aV hi);rw[aG]at hw;rw[show xs.length-1=i by omega]at hl
   have hq0:q=0:=by
    rcases hg with hg|hg
    · rw[h2,hg,Nat.div_eq_of_lt (by omega)]
    · exact hg.2
   obtain⟨j,rfl⟩:∃ j,k=j+1:=by
    refine⟨k-1,?_⟩;rcases Nat.eq_zero_or_pos k with h0|h0
    · rw[h0,Nat.pow_zero,Nat.div_one]at h2
      omega
    · omega
   have h5:xs.getD i 0 / 10^j≠0:=by
    rcases h4 with h4|h4|h4
    · omega
    · omega
    · rwa [Nat.add_sub_cancel]at h4
   have e1:=xG hx hi1 j;have e2:=xG hx hi1 (j+1);rw[← h2,hq0]at e2;refine Or.inr ⟨hi1.symm,9*i+j,h3,?_,?_⟩
   · rcases Nat.lt_or_ge (ai xs) (10^(9*i+j)) with h|h
     · rw[Nat.div_eq_of_lt h]at e1
       exact absurd e1.symm h5
     · exact h
   · rcases Nat.lt_or_ge (ai xs) (10^(9*i+(j+1))) with h|h
     · exact h
     · have:=Nat.div_pos h (Nat.pow_pos (by decide))
       omega
theorem TOut.done {xs:List Nat}{bs:List UInt8}(h:TOut xs bs xs.length):bs.reverse=Lib.decDigits (ai xs)∧0<bs.length:=by
 rcases h with⟨h,_⟩|⟨_,m,h1,h2,h3⟩
 · omega
 · rw[h1]
   exact⟨nk m _ h2 h3,by rw[jm];omega⟩
theorem TOut.len {xs:List Nat}{bs:List UInt8}{i:Nat}(h:TOut xs bs i)(hx:∀ x∈xs,x<BB):bs.length≤9*xs.length:=by
 rcases h with⟨h,e⟩|⟨_,m,h1,h2,h3⟩
 · rw[e,jm];omega
 · rw[h1,jm]
   have h4:=dZ xs hx;rw[show BB=10^9 from by rw[aG],← Nat.pow_mul]at h4;have h5:10^m<10^(9*xs.length):=by omega
   have:=(Nat.pow_lt_pow_iff_right (by decide:1<10)).1 h5;omega
end Go.Gb
namespace Go.Proofs.YtikihamjpenboaaGreatDoor
open Go.RowKit
theorem hbt {w a b : World} (h : Hid (Below w.heap.size w a)) (k : Below a.heap.size a b) : Hid (Below w.heap.size w b) := Lib.hid (h.o.trans (k.mono h.o.size))
end Go.Proofs.YtikihamjpenboaaGreatDoor
namespace Go.Gb
open Go Go.RowKit
def SBk (w:World) (g:Nat) (cs:Array Value) (T:TypeId):Prop:=w.heap[g]? = some (.cells cs T (0,0))
theorem SBk.lt {w:World}{g:Nat}{cs:Array Value}{T:TypeId}(h:SBk w g cs T):g<w.heap.size:=(Array.getElem?_eq_some_iff.1 h).1
theorem SBk.cell {w:World}{g i:Nat}{cs:Array Value}{T:TypeId}{v:Value}(h:SBk w g cs T)(hi:cs[i]? = some v):w.cell? ⟨g,i,none⟩=some v:=by
 unfold SBk at h;simp[World.cell?,h,hi]
theorem SBk.frozen {w:World}{g i:Nat}{cs:Array Value}{T:TypeId}(h:SBk w g cs T):w.frozen? ⟨g,i,none⟩=false:=by
 unfold SBk at h;simp[World.frozen?,h]
theorem SBk.below {w w':World}{g:Nat}{cs:Array Value}{T:TypeId}(h:SBk w g cs T)(hb:Below w.heap.size w w'):SBk w' g cs T:=by
 unfold SBk;rw[hb.block g h.lt];exact h
theorem SBk.new (w:World)(cs:Array Value)(T:TypeId):SBk (w.alloc (.cells cs T)) w.heap.size cs T:=heap_alloc_new _ _
theorem SBk.set {w:World}{g i:Nat}{cs:Array Value}{T:TypeId}(h:SBk w g cs T)(v:Value):SBk (w.setCell ⟨g,i,none⟩ v) g (cs.setIfInBounds i v) T:=by
 unfold SBk at *
 simp only[World.setCell,Array.getElem?_modify,h];simp
theorem SBk.off {w:World}{g g' i:Nat}{cs:Array Value}{T:TypeId}(h:SBk w g cs T)(hg:g≠g')(v:Value):SBk (w.setCell ⟨g',i,none⟩ v) g cs T:=by
 unfold SBk at *
 rw[← h];exact Below.heap_setCell w ⟨g',i,none⟩ v g hg
def bF (cs:Array Value):Bool:=cs.all fun v=>match v with | .int _ _=>false|_=>true
theorem z1f {cs:Array Value}(h:bF cs=true){i:Nat}{k:IntKind}{n:Int}:cs[i]? ≠ some (.int k n):=by
 intro e;have:=Array.all_eq_true'.1 h _ (Array.mem_of_getElem? e);simp at this
theorem Rd.set {w:World}{v:Value}{xs:List Nat}{k:IntKind}{g:Nat}{cs:Array Value}{T:TypeId}(h:Rd k w v xs)(hg:SBk w g cs T)(hn:bF cs=true)(i:Nat)(u:Value):Rd k (w.setCell ⟨g,i,none⟩ u) v xs:=by
 rcases h with h|⟨b',o,c',h1,h2,h3,h4,h5⟩
 · exact Or.inl h
 · refine Or.inr ⟨b',o,c',h1,h2,h3,by simpa [World.setCell] using h4,fun j hj=>?_⟩
   have h6:=h5 j hj
   have hne:b'≠g:=by
    intro e;subst e;unfold SBk at hg
    simp only[World.cell?,hg]at h6;exact z1f hn (by simpa using h6)
   exact(z0e hne).trans h6
theorem z2t {P:Program}{c:Code}{Q:Exit→Act→World→Prop}{a:Act}{w:World}(I:World→Prop)(h:I w)(k:∀ W,I W→c.wp P Q a W):c.wp P Q a w:=k w h
def Bx (w:World):List (Array Value × TypeId)→World→Prop
 | [],W=>W=w
 | (cs,T) :: l,W=>Bx (w.alloc (.cells cs T)) l W
def BxI (w:World) (n:Nat):List (Array Value × TypeId)→World→Prop
 | [],W=>Below w.heap.size w W
 | (cs,T) :: l,W=>SBk W n cs T∧BxI w (n+1) l W
theorem uY (w0:World):∀ (l:List (Array Value × TypeId)) (w W:World) (n:Nat),w.heap.size=n→Below w0.heap.size w0 w→Bx w l W→Below w.heap.size w W∧BxI w0 n l W
 | [],w,W,n,hn,hb,h=>by
   obtain rfl:W=w:=h;exact⟨Below.refl _ _,hb⟩
 | (cs,T) :: l,w,W,n,hn,hb,h=>by
   have h1:=uY w0 l (w.alloc (.cells cs T)) W (n+1) (by simp[hn]) (hb.alloc hb.size _) h;have h2:Below w.heap.size w W:=((Below.refl w.heap.size w).alloc (Nat.le_refl _) (.cells cs T)).trans (h1.1.mono (by simp));refine⟨h2,?_,h1.2⟩;subst hn;exact(SBk.new w cs T).below h1.1
theorem boxes (w:World)(l:List (Array Value × TypeId))(W:World)(h:Bx w l W):BxI w w.heap.size l W:=(uY w l w W _ rfl (Below.refl _ _) h).2
theorem az {P:Program}{c:Code}{Q:Exit→Act→World→Prop}{a:Act}{W:World}(w:World)(l:List (Array Value × TypeId))(h:Bx w l W)(k:∀ W,BxI w w.heap.size l W→c.wp P Q a W):c.wp P Q a W:=k W (boxes w l W h)
theorem dm (b:Bool)(p:Option Addr)(n c:Nat):bF #[.bool b,.slice p n c]=true:=by simp[bF]
theorem jT {w:World}{g g':Nat}{cs:Array Value}{T:TypeId}(h:SBk w g cs T)(hg:g≠g')(x y:Value):SBk ((w.setCell ⟨g',0,none⟩ x).setCell ⟨g',1,none⟩ y) g cs T:=(h.off hg x).off hg y
theorem gU {B g:Nat}{a w:World}(h:Below B a w)(hg:B≤g)(x y:Value):Below B a ((w.setCell ⟨g,0,none⟩ x).setCell ⟨g,1,none⟩ y):=(h.setCell (p:=⟨g,0,none⟩) hg x).setCell (p:=⟨g,1,none⟩) hg y
theorem gJ {w:World}{v:Value}{xs:List Nat}{k:IntKind}{g:Nat}{a b:Value}{T:TypeId}(h:Rd k w v xs)(hg:SBk w g #[a,b] T)(hn:bF #[a,b]=true)(x y:Value)(hx:bF #[x,b]=true):Rd k ((w.setCell ⟨g,0,none⟩ x).setCell ⟨g,1,none⟩ y) v xs:=by
 have h1:SBk (w.setCell ⟨g,0,none⟩ x) g #[x,b] T:=hg.set x;exact(h.set hg hn 0 x).set h1 hx 1 y
def storeAll (w:World) (g:Nat):Nat→List Value→World
 | _,[]=>w
 | i,x :: l=>storeAll (w.setCell ⟨g,i,none⟩ x) g (i+1) l
def xM (cs:Array Value):Nat→List Value→Array Value
 | _,[]=>cs
 | i,x :: l=>xM (cs.setIfInBounds i x) (i+1) l
def aY:Value→Bool
 | .int _ _=>false
 | _=>true
theorem z1e {cs:Array Value}(h:bF cs=true){x:Value}(hx:aY x=true)(i:Nat):bF (cs.setIfInBounds i x)=true:=by
 unfold bF at *
 refine Array.all_eq_true'.2 fun y hy=>?_;rcases Array.mem_or_eq_of_mem_setIfInBounds hy with hy|rfl
 · exact Array.all_eq_true'.1 h y hy
 · cases y<;>first|rfl|cases hx
theorem jh {k:IntKind}{v:Value}{xs:List Nat}{g:Nat}{T:TypeId}:∀ (l:List Value) (i:Nat) {w:World} {cs:Array Value},Rd k w v xs→SBk w g cs T→bF cs=true→l.all aY=true→Rd k (storeAll w g i l) v xs
 | [],_,_,_,h,_,_,_=>h
 | x :: l,i,_,_,h,hg,hn,hl=>by
   rw[List.all_cons,Bool.and_eq_true]at hl;exact jh l (i+1) (h.set hg hn i x) (hg.set x) (z1e hn hl.1 i) hl.2
theorem cK {g:Nat}{T:TypeId}:∀ (l:List Value) (i:Nat) {w:World} {cs:Array Value},SBk w g cs T→SBk (storeAll w g i l) g (xM cs i l) T
 | [],_,_,_,h=>h
 | x :: l,i,_,_,h=>cK l (i+1) (h.set x)
theorem bZ {g g':Nat}{cs:Array Value}{T:TypeId}(hg:g≠g'):∀ (l:List Value) (i:Nat) {w:World},SBk w g cs T→SBk (storeAll w g' i l) g cs T
 | [],_,_,h=>h
 | x :: l,i,_,h=>bZ hg l (i+1) (h.off hg x)
theorem ay {B g:Nat}{a:World}(hg:B≤g):∀ (l:List Value) (i:Nat) {w:World},Below B a w→Below B a (storeAll w g i l)
 | [],_,_,h=>h
 | x :: l,i,_,h=>ay hg l (i+1) (h.setCell (p:=⟨g,i,none⟩) hg x)
instance {W W':World}{g:Nat}{c:Array Value}{T:TypeId}:Gr (SBk W g c T) W W' (SBk W' g c T):=⟨fun h k=>k.below h⟩
theorem au {w:World} {g:Nat} {cs:Array Value} {T:TypeId} {x0 x1:Value} (h:SBk w g cs T) (h0:cs[0]?=some x0) (h1:cs[1]?=some x1):w.cell? ⟨g,0,none⟩=some x0∧w.cell? ⟨g,1,none⟩=some x1:=⟨h.cell h0,h.cell h1⟩
theorem bJ {w:World} {g:Nat} {cs:Array Value} {T:TypeId} (h:SBk w g cs T):w.frozen? ⟨g,0,none⟩=false∧w.frozen? ⟨g,1,none⟩=false:=⟨h.frozen,h.frozen⟩
theorem aP {w:World} {g:Nat} {cs:Array Value} {T:TypeId} {x0 x1 x2:Value} (h:SBk w g cs T) (h0:cs[0]?=some x0) (h1:cs[1]?=some x1) (h2:cs[2]?=some x2):w.cell? ⟨g,0,none⟩=some x0∧w.cell? ⟨g,1,none⟩=some x1∧w.cell? ⟨g,2,none⟩=some x2:=⟨h.cell h0,h.cell h1,h.cell h2⟩
theorem bU {w:World} {g:Nat} {cs:Array Value} {T:TypeId} (h:SBk w g cs T):w.frozen? ⟨g,0,none⟩=false∧w.frozen? ⟨g,1,none⟩=false∧w.frozen? ⟨g,2,none⟩=false:=⟨h.frozen,h.frozen,h.frozen⟩
theorem nK {w:World} {g:Nat} {cs:Array Value} {T:TypeId} {x0 x1 x2 x3 x4 x5:Value} (h:SBk w g cs T) (h0:cs[0]?=some x0) (h1:cs[1]?=some x1) (h2:cs[2]?=some x2) (h3:cs[3]?=some x3) (h4:cs[4]?=some x4) (h5:cs[5]?=some x5):w.cell? ⟨g,0,none⟩=some x0∧w.cell? ⟨g,1,none⟩=some x1∧w.cell? ⟨g,2,none⟩=some x2∧w.cell? ⟨g,3,none⟩=some x3∧w.cell? ⟨g,4,none⟩=some x4∧w.cell? ⟨g,5,none⟩=some x5:=⟨h.cell h0,h.cell h1,h.cell h2,h.cell h3,h.cell h4,h.cell h5⟩
theorem uM {w:World} {g:Nat} {cs:Array Value} {T:TypeId} (h:SBk w g cs T):w.frozen? ⟨g,0,none⟩=false∧w.frozen? ⟨g,1,none⟩=false∧w.frozen? ⟨g,2,none⟩=false∧w.frozen? ⟨g,3,none⟩=false∧w.frozen? ⟨g,4,none⟩=false∧w.frozen? ⟨g,5,none⟩=false:=⟨h.frozen,h.frozen,h.frozen,h.frozen,h.frozen,h.frozen⟩
section
variable {P:Program} {ops:Array Oper} {Q:Exit→Act→World→Prop}
variable {m:Nat} {sl:Nat→Nat} {R:Nat→Value→World→Prop} {a a0:Act} {W:World→Prop} {u6:Array Bool} {w w':World}
theorem aA {i:Nat}{o:Oper}{K:Act→World→Prop}(ho:ops[i]? = some o)
 (h:∀ K':Act→World→Prop,Hid (∀ a w,K a w→K' a w)→if Region.wanted o (yielded ops a.tmps)=true then Oper.wp P o a w K' Q else K' (a.put o.dst undef) w):wpOp P ops Q i K a w :=
 wpOp_step ho (fun K' hK=>h K' (Lib.hid hK))
theorem RInv.pv {i d:Nat}{v:Value}(h:RInv ops m sl R a0 W u6 a w)(hi:i∈Region.ready .any ops u6)(hv:R i v w)(hm:i<m:=by decide)(hd:d=sl i:=by rfl)(hlo:d<a0.tmps.size:=by simp)
 (hinj:∀ j,j<m→sl j=d→j=i:=by decide):RInv ops m sl R a0 W (u6.setIfInBounds i true) (a.put (some d) v) w:=h.put hi hm hd hlo hinj hv (fun _ _ k=>k) h.world
theorem RInv.pc {L:List Rel}{w0:World}{i d:Nat}{v:Value}(h:RInv ops m sl (RelR L) a0 (fun W=>Below w0.heap.size w0 W) u6 a w)(hi:i∈Region.ready .any ops u6)(hb:Below w.heap.size w w')(hv:RelR L i v w')(hm:i<m:=by decide)(hd:d=sl i:=by rfl)(hlo:d<a0.tmps.size:=by simp)
 (hinj:∀ j,j<m→sl j=d→j=i:=by decide):RInv ops m sl (RelR L) a0 (fun W=>Below w0.heap.size w0 W) (u6.setIfInBounds i true) (a.put (some d) v) w' :=
 h.put hi hm hd hlo hinj hv (fun j u k=>RelR.mono hb j u k) (h.world.trans (hb.mono h.world.size))
theorem RInv.rv {i j:Nat}{c:Value}(h:RInv ops m sl R a0 W u6 a w)(hj:j∈Region.ready .any ops u6)(hw:Region.waitsFor .any ops j i=true)(hm:i<m)(hR:∀ v,R i v w→v=c):a.tmps[sl i]? = some c:=by
 obtain⟨v,h1,h2⟩:=h.at hj hw hm;rw[h1,hR v h2]
def RV (ops:Array Oper) (u6:Array Bool) (a:Act) (j d:Nat) (c:Value):Prop:=∀ i,i∈Region.ready .any ops u6→Region.waitsFor .any ops i j=true→a.tmps[d]? = some c
theorem RV.g {j d i:Nat}{c:Value}(h:RV ops u6 a j d c)(hi:i∈Region.ready .any ops u6)(hw:Region.waitsFor .any ops i j=true):a.tmps[d]? = some c:=h i hi hw
theorem RInv.rh {j d:Nat}{c:Value}(h:RInv ops m sl R a0 W u6 a w)(hm:j<m:=by decide)(hd:sl j=d:=by rfl)(hR:∀ v,R j v w→v=c:=by exact fun _ h=>h):RV ops u6 a j d c:=by
 subst hd;exact fun i hi hw=>h.rv hi hw hm hR
theorem RInv.sx {c:Value}(h:RInv ops m sl R a0 W u6 a w)(ww:∀ j,j<m→u6.getD j false=true)(i:Nat){d:Nat}(hm:i<m:=by decide)(hd:sl i=d:=by rfl)(hR:∀ v,R i v w→v=c:=by exact fun _ h=>h):a.tmps[d]? = some c:=by
 subst hd;obtain⟨v,h1,h2⟩:=h.slots i hm (ww i hm);rw[h1,hR v h2]
theorem RInv.sy {c:Value}{q:Nat}(h:RInv ops m sl R a0 W u6 a w)(ww:∀ j,j<m→j≠q→u6.getD j false=true)(i:Nat){d:Nat}(hm:i<m:=by decide)(hq:i≠q:=by decide)(hd:sl i=d:=by rfl)(hR:∀ v,R i v w→v=c:=by exact fun _ h=>h):a.tmps[d]? = some c:=by
 subst hd;obtain⟨v,h1,h2⟩:=h.slots i hm (ww i hm hq);rw[h1,hR v h2]
def AllT:List (Nat × Value)→Array Value→Prop
 | [],_=>True
 | p :: t,T=>T[p.1]? = some p.2∧AllT t T
theorem AllT.mem:∀ {L:List (Nat × Value)} {T:Array Value},AllT L T→∀ p,p∈L→T[p.1]? = some p.2
 | _ :: _,_,h,p,hp=>by
   rcases List.mem_cons.1 hp with rfl|hp
   · exact h.1
   · exact AllT.mem h.2 p hp
def cov (m:Nat) (sl:Nat→Nat) (L:List (Nat × Value)):Bool:=(List.range m).all fun i=>L.any fun p=>p.1==sl i
theorem yG {L:List (Nat × Value)}(h:cov m sl L=true)(d:Nat)(hd:∀ p,p∈L→p.1≠d):∀ i,i<m→sl i≠d:=by
 intro i hi e;have h1:=List.all_eq_true.1 h i (List.mem_range.2 hi);obtain⟨p,hp,h2⟩:=List.any_eq_true.1 h1;exact hd p hp ((beq_iff_eq.1 h2).trans e)
theorem RInv.finx {L:List (Nat × Value)}(h:RInv ops m sl R a0 W u6 a w)(h1:AllT L a.tmps)(h2:cov m sl L=true):a=⟨putL L a0.tmps,a0.defers⟩:=h.fin L h1.mem (yG h2)
theorem RInv.finp {sd:Nat}{v:Value}(h:RInv ops m sl R a0 W u6 a w)(L:List (Nat × Value))(h1:AllT L (a.put (some sd) v).tmps)(h2:(cov m sl L&&L.any fun p=>p.1==sd)=true):a.put (some sd) v=⟨putL L a0.tmps,a0.defers⟩:=by
 rw[Bool.and_eq_true]at h2;refine h.fin_put L h1.mem (fun e he=>⟨yG h2.1 e he,fun k=>?_⟩);obtain⟨p,hp,h3⟩:=List.any_eq_true.1 h2.2;exact he p hp ((beq_iff_eq.1 h3).trans k)
end
theorem RInv.rst {ops:Array Oper}{m:Nat}{sl:Nat→Nat}{R:Nat→Value→World→Prop}{a0 a:Act}{W:World→Prop}{u6:Array Bool}{w:World}{c:Value}(h:RInv ops m sl R a0 W u6 a w)(d:Nat)(h0:a0.tmps[d]? = some c)(hd:∀ i,i<m→sl i≠d:=by decide):a.tmps[d]? = some c:=(h.rest d hd).trans h0
theorem RInv.rg {ops:Array Oper}{m:Nat}{sl:Nat→Nat}{L:List Rel}{a0 a:Act}{W:World→Prop}{u6:Array Bool}{w:World}{c:Value}(h:RInv ops m sl (RelR L) a0 W u6 a w)(j d:Nat)(hL:L.getD j (Rel.val undef)=Rel.val c)(hm:j<m:=by decide)(hd:sl j=d:=by rfl):RV ops u6 a j d c:=h.rh hm hd (fun v k=>by unfold RelR at k;rw[hL]at k;exact k)
theorem RInv.g2 {ops:Array Oper}{m:Nat}{sl:Nat→Nat}{L:List Rel}{a0 a:Act}{W:World→Prop}{u6:Array Bool}{w:World}{c0 c1:Value}(h:RInv ops m sl (RelR L) a0 W u6 a w)(j0 d0 j1 d1:Nat)(l0:L.getD j0 (Rel.val undef)=Rel.val c0:=by rfl)(m0:j0<m:=by decide)(e0:sl j0=d0:=by rfl)(l1:L.getD j1 (Rel.val undef)=Rel.val c1:=by rfl)(m1:j1<m:=by decide)(e1:sl j1=d1:=by rfl):RV ops u6 a j0 d0 c0∧RV ops u6 a j1 d1 c1:=⟨h.rg j0 d0 l0 m0 e0,h.rg j1 d1 l1 m1 e1⟩
theorem RInv.g3 {ops:Array Oper}{m:Nat}{sl:Nat→Nat}{L:List Rel}{a0 a:Act}{W:World→Prop}{u6:Array Bool}{w:World}{c0 c1 c2:Value}(h:RInv ops m sl (RelR L) a0 W u6 a w)(j0 d0 j1 d1 j2 d2:Nat)(l0:L.getD j0 (Rel.val undef)=Rel.val c0:=by rfl)(m0:j0<m:=by decide)(e0:sl j0=d0:=by rfl)(l1:L.getD j1 (Rel.val undef)=Rel.val c1:=by rfl)(m1:j1<m:=by decide)(e1:sl j1=d1:=by rfl)(l2:L.getD j2 (Rel.val undef)=Rel.val c2:=by rfl)(m2:j2<m:=by decide)(e2:sl j2=d2:=by rfl):RV ops u6 a j0 d0 c0∧RV ops u6 a j1 d1 c1∧RV ops u6 a j2 d2 c2:=⟨h.rg j0 d0 l0 m0 e0,h.rg j1 d1 l1 m1 e1,h.rg j2 d2 l2 m2 e2⟩
theorem RInv.g6 {ops:Array Oper}{m:Nat}{sl:Nat→Nat}{L:List Rel}{a0 a:Act}{W:World→Prop}{u6:Array Bool}{w:World}{c0 c1 c2 c3 c4 c5:Value}(h:RInv ops m sl (RelR L) a0 W u6 a w)(j0 d0 j1 d1 j2 d2 j3 d3 j4 d4 j5 d5:Nat)(l0:L.getD j0 (Rel.val undef)=Rel.val c0:=by rfl)(m0:j0<m:=by decide)(e0:sl j0=d0:=by rfl)(l1:L.getD j1 (Rel.val undef)=Rel.val c1:=by rfl)(m1:j1<m:=by decide)(e1:sl j1=d1:=by rfl)(l2:L.getD j2 (Rel.val undef)=Rel.val c2:=by rfl)(m2:j2<m:=by decide)(e2:sl j2=d2:=by rfl)(l3:L.getD j3 (Rel.val undef)=Rel.val c3:=by rfl)(m3:j3<m:=by decide)(e3:sl j3=d3:=by rfl)(l4:L.getD j4 (Rel.val undef)=Rel.val c4:=by rfl)(m4:j4<m:=by decide)(e4:sl j4=d4:=by rfl)(l5:L.getD j5 (Rel.val undef)=Rel.val c5:=by rfl)(m5:j5<m:=by decide)(e5:sl j5=d5:=by rfl):RV ops u6 a j0 d0 c0∧RV ops u6 a j1 d1 c1∧RV ops u6 a j2 d2 c2∧RV ops u6 a j3 d3 c3∧RV ops u6 a j4 d4 c4∧RV ops u6 a j5 d5 c5:=⟨h.rg j0 d0 l0 m0 e0,h.rg j1 d1 l1 m1 e1,h.rg j2 d2 l2 m2 e2,h.rg j3 d3 l3 m3 e3,h.rg j4 d4 l4 m4 e4,h.rg j5 d5 l5 m5 e5⟩
theorem RInv.s2 {ops:Array Oper}{m:Nat}{sl:Nat→Nat}{R:Nat→Value→World→Prop}{a0 a:Act}{W:World→Prop}{u6:Array Bool}{w:World}{c0 c1:Value}(h:RInv ops m sl R a0 W u6 a w)(d0 d1:Nat)(k0:a0.tmps[d0]? = some c0:=by rfl)(e0:∀ i,i<m→sl i≠d0:=by decide)(k1:a0.tmps[d1]? = some c1:=by rfl)(e1:∀ i,i<m→sl i≠d1:=by decide):a.tmps[d0]? = some c0∧a.tmps[d1]? = some c1:=⟨h.rst d0 k0 e0,h.rst d1 k1 e1⟩
theorem RInv.s3 {ops:Array Oper}{m:Nat}{sl:Nat→Nat}{R:Nat→Value→World→Prop}{a0 a:Act}{W:World→Prop}{u6:Array Bool}{w:World}{c0 c1 c2:Value}(h:RInv ops m sl R a0 W u6 a w)(d0 d1 d2:Nat)(k0:a0.tmps[d0]? = some c0:=by rfl)(e0:∀ i,i<m→sl i≠d0:=by decide)(k1:a0.tmps[d1]? = some c1:=by rfl)(e1:∀ i,i<m→sl i≠d1:=by decide)(k2:a0.tmps[d2]? = some c2:=by rfl)(e2:∀ i,i<m→sl i≠d2:=by decide):a.tmps[d0]? = some c0∧a.tmps[d1]? = some c1∧a.tmps[d2]? = some c2:=⟨h.rst d0 k0 e0,h.rst d1 k1 e1,h.rst d2 k2 e2⟩
theorem RV.q {ops:Array Oper}{u6:Array Bool}{a:Act}{j d i:Nat}{c:Value}(h:RV ops u6 a j d c)(hi:i∈Region.ready .any ops u6)(hw:Region.waitsFor .any ops i j=true:=by kernel_rfl):a.tmps[d]? = some c:=h i hi hw
theorem RV.t {ops:Array Oper}{u6:Array Bool}{a:Act}{j d i:Nat}{c:Value}(h:RV ops u6 a j d c)(hi:i∈Region.ready .any ops u6)(hw:Region.waitsFor .any ops i j=true:=by decide +kernel):a.tmps[d]? = some c:=h i hi hw
theorem RInv.pw {ops:Array Oper}{m:Nat}{sl:Nat→Nat}{R:Nat→Value→World→Prop}{a0 a:Act}{W:World→Prop}{u6:Array Bool}{w:World}{i d:Nat}{v:Value}(h:RInv ops m sl R a0 W u6 a w)(hi:i∈Region.ready .any ops u6)(hv:R i v w:=by rfl)(hm:i<m:=by decide)(hd:d=sl i:=by rfl)(hlo:d<a0.tmps.size:=by simp)(hinj:∀ j,j<m→sl j=d→j=i:=by decide):RInv ops m sl R a0 W (u6.setIfInBounds i true) (a.put (some d) v) w∧True:=⟨h.pv hi hv hm hd hlo hinj,trivial⟩
theorem aU {P:Program}{ops:Array Oper}{Q:Exit→Act→World→Prop}{id:Nat}{a:Act}{w:World}(m t:Nat)(sl:List Nat)(L:List Rel)
 (hstep:∀ u6 a' w' k,Hid (RInv ops m (fun i=>sl.getD i 0) (RelR L) a (fun W=>Below w.heap.size w W) u6 a' w')→True→Hid (k∈Region.ready .any ops u6)→k<m→wpOp P ops Q k (fun a' w'=>RInv ops m (fun i=>sl.getD i 0) (RelR L) a (fun W=>Below w.heap.size w W) (u6.setIfInBounds k true) a' w'∧True) a' w')
 (hlast:∀ u6 a' w',Hid (RInv ops m (fun i=>sl.getD i 0) (RelR L) a (fun W=>Below w.heap.size w W) u6 a' w')→True→Hid (∀ j,j<m→u6.getD j false=true)→iR P ops Q t m a' w')
 (hm:P.follows .mixedOrders=true:=by kernel_rfl) (hs:ops.size=m+t:=by kernel_rfl) (hb:zV .any ops=true:=by kernel_rfl) (ht:z0h ops m t=true:=by kernel_rfl):(Code.region id ops true).wp P Q a w :=
 bK hm m t _ _ _ (fun _ _=>True) hs hb ht trivial (Below.refl _ _).drew hstep hlast
end Go.Gb
namespace Go.Gb
open Go Go.RowKit
theorem kH {w:World}{g:Nat}{T:TypeId}{x0 x1 a b:Value}(h:SBk w g #[x0,x1] T):SBk (storeAll w g 0 [a,b]) g #[a,b] T:=by
 have:=cK [a,b] 0 h;simpa [xM] using this
theorem lY (w:World)(g:Nat)(a b:Value):storeAll w g 0 [a,b]=(w.setCell ⟨g,0,none⟩ a).setCell ⟨g,1,none⟩ b:=rfl
theorem kG {w:World}{g:Nat}{T:TypeId}{x0 x1 x2 a b c:Value}(h:SBk w g #[x0,x1,x2] T):SBk (storeAll w g 0 [a,b,c]) g #[a,b,c] T:=by
 have:=cK [a,b,c] 0 h;simpa [xM] using this
theorem lX (w:World)(g:Nat)(a b c:Value):storeAll w g 0 [a,b,c]=((w.setCell ⟨g,0,none⟩ a).setCell ⟨g,1,none⟩ b).setCell ⟨g,2,none⟩ c:=rfl
theorem jO (W:World)(o:Obj):Below W.heap.size W (W.alloc o):=(Below.refl W.heap.size W).alloc (Nat.le_refl _) o
theorem uq (s:Nat)(v:Value):∀ (L:List (Nat × Value)) (t:Array Value),putL (L++[(s,v)]) t=(putL L t).setIfInBounds s v
 | [],_=>rfl
 | p :: L,t=>uq s v L (t.setIfInBounds p.1 p.2)
theorem nG {a:Act}{L L':List (Nat × Value)}{t:Array Value}{b:Act}{s:Nat}{v:Value}(h:a=⟨putL L t,b.defers⟩)(hL:L++[(s,v)]=L'):(⟨a.tmps.setIfInBounds s v,a.defers⟩:Act)=⟨putL L' t,b.defers⟩:=by
 subst hL;rw[uq,h]
theorem SBk.row {w:World}{g:Nat}{cs:Array Value}{T:TypeId}(h:SBk w g cs T)(ds:Array Value):SBk (w.setRow g ds) g ds T:=setRow_heap w g cs ds T (0,0) h
theorem oP {n g:Nat}{w W:World}(h:Below n w W)(ds:Array Value)(hg:n≤g):Below n w (W.setRow g ds) :=
 h.trans ⟨rfl,rfl,rfl,by simp,fun k hk=>setRow_other W g k ds (by omega)⟩
theorem setRow_self {w:World}{g:Nat}{cur:Array Value}{T:TypeId}(h:SBk w g cur T):w.setRow g cur=w:=by
 have hh:(w.setRow g cur).heap=w.heap:=by
  apply Array.ext_getElem?
  intro k;by_cases hk:k=g
  · subst hk
    rw[setRow_heap w k cur cur T (0,0) h];exact h.symm
  · exact setRow_other w g k cur hk
 unfold World.setRow at hh ⊢
 simp only at hh;rw[hh]
theorem iU {g:Nat}{T:TypeId}:∀ (vs:List Value) (i:Nat) (cur:Array Value) (w:World),SBk w g cur T→i+vs.length=cur.size→storeAll w g i vs=w.setRow g (cur.toList.take i++vs).toArray
 | [],i,cur,w,h,hl=>by
   have:(cur.toList.take i++([]:List Value)).toArray=cur:=by
    rw[List.append_nil,List.take_of_length_le (by simp at hl ⊢;omega)]
   rw[this];exact(setRow_self h).symm
 | v :: vs,i,cur,w,h,hl=>by
   have h1:w.setCell ⟨g,i,none⟩ v=w.setRow g (cur.setIfInBounds i v):=setCell_eq_setRow w g i cur T (0,0) v h;rw[storeAll,h1,iU vs (i+1) (cur.setIfInBounds i v) _ (SBk.row h _) (by simp at hl ⊢;omega),setRow_setRow];congr 2
   have hi:i<cur.size:=by simp at hl;omega
   have:((cur.setIfInBounds i v).toList.take (i+1))=cur.toList.take i++[v]:=by
     rw[Array.toList_setIfInBounds,List.take_add_one,List.getElem?_set_self (by simpa using hi),List.take_set_of_le (Nat.le_refl i)];rfl
   rw[this,List.append_assoc];rfl
theorem jE {w:World}{g:Nat}{cur:Array Value}{T:TypeId}{vs:List Value}(h:SBk w g cur T)(hl:cur.size=vs.length):storeAll w g 0 vs=w.setRow g vs.toArray:=by
 have:=iU vs 0 cur w h (by omega);simpa using this
def z4d (P:Program) (ty:TypeId) (n:Nat):Bool:=(match P.underlying ty with|some (.struct _)=>true|some (.array _ _)=>true|_=>false)&&decide ((P.info? ty).map (·.size)=some n)
theorem kr {a:Act}{t:Tmp}{v:Value}(h:a.tmps[t]? = some v):a.eval (.tmp t)=v:=by
 simp[Act.eval,h]
theorem ou {P:Program}{T:TypeId}{cs:Array Value}(n:Nat)(hn:cs.size=n)(hc:z4d P T n=true):(P.info? T).map (·.size)=some cs.size:=by
 unfold z4d at hc
 rw[Bool.and_eq_true,decide_eq_true_eq]at hc;rw[hn,hc.2]
end Go.Gb
namespace Go.Gb
def Ten (s:Nat):Prop:=∃ k,k≤9∧s=10^k
theorem Ten.one:Ten 1:=⟨0,by omega,rfl⟩
theorem Ten.pos {s:Nat}(h:Ten s):0<s:=by
 obtain⟨k,_,rfl⟩:=h;exact Nat.pow_pos (by decide)
theorem Ten.room {s:Nat}(h:Ten s):∃ t,0<t∧BB=s*t:=by
 obtain⟨k,hk,rfl⟩:=h;refine⟨10^(9-k),Nat.pow_pos (by decide),?_⟩;rw[← Nat.pow_add,show k+(9-k)=9 by omega,aG]
theorem Ten.step {s h:Nat}(hs:Ten s)(h0:1≤h)(hlt:h*s*10<BB):Ten (s*10):=by
 obtain⟨k,hk,rfl⟩:=hs;refine⟨k+1,?_,by rw[Nat.pow_succ]⟩;rcases Nat.lt_or_ge k 9 with h9|h9
 · omega
 · obtain rfl:k=9:=by omega
   have h1:1*10^9≤h*10^9:=Nat.mul_le_mul_right _ h0;rw[aG]at hlt;omega
theorem Made.even {a b c d u v f s:Nat}(h:Made a b c d false u v f s):(a:Int)*(u:Int) + -(b:Int)*(v:Int)=(f:Int) ∧ -(c:Int)*(u:Int)+(d:Int)*(v:Int)=(s:Int):=by
 obtain⟨e1,e2⟩:=h.1 rfl;have f1:(a:Int)*(u:Int)=(b:Int)*(v:Int)+(f:Int):=by exact_mod_cast e1
 have f2:(d:Int)*(v:Int)=(c:Int)*(u:Int)+(s:Int):=by exact_mod_cast e2
 rw[Int.neg_mul,Int.neg_mul];omega
theorem Made.odd {a b c d u v f s:Nat}(h:Made a b c d true u v f s) : -(a:Int)*(u:Int)+(b:Int)*(v:Int)=(f:Int)∧(c:Int)*(u:Int) + -(d:Int)*(v:Int)=(s:Int):=by
 obtain⟨e1,e2⟩:=h.2 rfl;have f1:(b:Int)*(v:Int)=(a:Int)*(u:Int)+(f:Int):=by exact_mod_cast e1
 have f2:(c:Int)*(u:Int)=(d:Int)*(v:Int)+(s:Int):=by exact_mod_cast e2
 rw[Int.neg_mul,Int.neg_mul];omega
structure Keeps (I:Nat→Nat→Nat→Nat→Bool→Prop):Prop where
 div:∀ F S P Q n,S≠0→I F S P Q n→I S (F%S) Q (P+F / S*Q) (!n)
 app:∀ F S P Q n a b c d o f s,F≠0→b≠0→Made a b c d o F S f s→Dtm a b c d o→Fac a b c d→s≤f→I F S P Q n→I f s (a*P+b*Q) (c*P+d*Q) (n != o)
 len:∀ F S P Q n,I F S P Q n→(ae F).length≤80000∧(ae S).length≤80000∧(ae P).length≤80000∧(ae Q).length≤80000
def CmI (N F S P Q:Nat) (_:Bool):Prop:=F+S≤N∧P=0∧Q=0
theorem Made.sum {a b c d u v f s:Nat}{o:Bool}(h:Made a b c d o u v f s)(hd:Dtm a b c d o)(hs:Fac a b c d)(hb:b≠0)(hu:u≠0)(hfs:s≤f){N:Nat}(hN:u+v≤N):f+s≤N:=by
 have:=h.less hd hs hb hu hfs;omega
theorem CmI.keeps {N:Nat}(hN:(ae N).length≤80000):Keeps (CmI N):=by
 refine⟨?_,?_,?_⟩
 · rintro F S P Q n hS ⟨h1,rfl,rfl⟩
   have h2:=Nat.mod_le F S;exact⟨by omega,rfl,by simp⟩
 · rintro F S P Q n a b c d o f s hF hb hm hd hf hsf ⟨h1,rfl,rfl⟩
   exact⟨hm.sum hd hf hb hF hsf h1,by simp,by simp⟩
 · rintro F S P Q n ⟨h1,rfl,rfl⟩
   have l1:=aL (show F≤N by omega);have l2:=aL (show S≤N by omega);rw[aN];simp only[List.length_nil];omega
end Go.Gb
namespace Go.Gb
open Go Go.MapKept Go.RowKit
structure PutAt (b:Nat) (es:Array MapEntry) (clock:Nat) (w w':World):Prop where
 below:Below b w w'
 size:w'.heap.size=w.heap.size
 here:w'.heap[b]? = some (.map es clock)
theorem jI {P:Program}(w:World)(t k e:TypeId)(d:TypeDesc)(ht:P.underlying t=some (.map k e))(hd:P.underlying k=some d)(b:Nat)(es:Array MapEntry)(clock:Nat)
 (hb:w.heap[b]? = some (.map es clock)) (key val:Value) (hk:IsKey d key) (hf:Instr.findNow d key es.toList 0=some none) :
 ∃ w',(Instr.mapUpdate t (.map (some b)) key val).run P w=.ok () w'∧PutAt b (es.push ⟨key,val,clock⟩) (clock+1) w w':=by
 have hrun:(Instr.mapUpdate t (.map (some b)) key val).run P w=.ok () { w with heap:=w.heap.setIfInBounds b (.map (es.push ⟨key,val,clock⟩) (clock+1)) }:=by
  simp[Instr.mapUpdate,run_underlying ht,MapKept.run_getObj_map hb,MapKept.run_checkKey hd hk,MapKept.run_findKey hd hf,MapKept.run_setObj_map _ hb,Result.andThen]
 refine⟨_,hrun,?_⟩
 have hlt:b<w.heap.size:=by
  rcases Nat.lt_or_ge b w.heap.size with h|h
  · exact h
  · rw[Array.getElem?_eq_none h]at hb;cases hb
 refine⟨⟨rfl,rfl,rfl,by simp,fun i hi=>?_⟩,by simp,?_⟩
 · show(w.heap.setIfInBounds b _)[i]? = w.heap[i]?
   rw[Array.getElem?_setIfInBounds_ne (by omega)]
 · show(w.heap.setIfInBounds b _)[b]? = _
   rw[Array.getElem?_setIfInBounds_self_of_lt hlt]
theorem z1o {P:Program}(w:World)(t k e:TypeId)(d:TypeDesc)(ht:P.underlying t=some (.map k e))(hd:P.underlying k=some d)(b:Nat)(es:Array MapEntry)(clock:Nat)
 (hb:w.heap[b]? = some (.map es clock)) (key:Value) (hk:IsKey d key) (i:Nat) (val:Value) (hf:Instr.findNow d key es.toList 0=some (some (i,val))) :
 (Instr.lookup t (.map (some b)) key false).run P w=.ok val w:=by
 simp[Instr.lookup,run_underlying ht,MapKept.run_getObj_map hb,MapKept.run_checkKey hd hk,MapKept.run_findKey hd hf,Result.andThen]
end Go.Gb
set_option maxRecDepth 100000
set_option maxHeartbeats 20000000
open Go.Lib (hid)
namespace Go.Proofs.YtikihamjpenboaaGreatDoor
open Go.RowKit Go.Gb
abbrev CV (w:World) (f:Nat) (args:Array Value) (v:Value):Prop:=∀ W,Below w.heap.size w W→Calls Tryz.prog f args W fun e w'=>e=.returned v∧Below W.heap.size W w'
theorem CV.mono {w W:World}{f:Nat}{args:Array Value}{v:Value}(h:CV w f args v)(hb:Below w.heap.size w W):CV W f args v:=fun X hX=>h X (hb.trans (hX.mono hb.size))
theorem CV.at {w:World}{f:Nat}{args:Array Value}{v:Value}(h:CV w f args v):Calls Tryz.prog f args w fun e w'=>e=.returned v∧Below w.heap.size w w':=h w (Below.refl _ _)
theorem sRat (x:ByteArray)(n:Int)(w₀:World)   :
 CV w₀ 46 #[.string x,.int .i64 n] (.string x):=by
 intro w hw;clear hw;go_enter func46,ntmps46
 have w9:=hid (Below.refl w.heap.size w);go_wp2;exact bodyPost_ret (v:=.string x) (by simp[results,results46,go_sem]) rfl ⟨rfl,w9.o⟩
theorem sStr (x:ByteArray)(n:Int)(w₀:World)   :
 CV w₀ 89 #[.string x,.int .i64 n] (.string x):=by
 intro w hw;clear hw;go_enter func89,ntmps89
 have w9:=hid (Below.refl w.heap.size w);go_wp2;exact bodyPost_ret (v:=.string x) (by simp[results,results89,go_sem]) rfl ⟨rfl,w9.o⟩
theorem sInt (x n:Int)(w₀:World)   :
 CV w₀ 87 #[.int .i64 x,.int .i64 n] (.int .i64 x):=by
 intro w hw;clear hw;go_enter func87,ntmps87
 have w9:=hid (Below.refl w.heap.size w);go_wp2;exact bodyPost_ret (v:=.int .i64 x) (by simp[results,results87,go_sem]) rfl ⟨rfl,w9.o⟩
theorem z0Z (x y z:ByteArray)(n:Int)(w₀:World)(h1:CV w₀ 82 #[.string x,.string y] (.tuple #[.string z,.int .i64 n]))  :
 CV w₀ 42 #[.string x,.string y] (.string z):=by
 intro w hw;have C1:=hid (h1.mono hw);clear h1 hw;go_enter func42,ntmps42
 have w9:=hid (Below.refl w.heap.size w);go_wp2_with fail
 with_reducible refine(C1.o _ w9.o).mono ?_
 rintro e W1 ⟨rfl,hb⟩;have wo:=hbt w9 hb;clear hb;go_wp2_with fail
 with_reducible refine(sRat z n _ _ wo.o).mono ?_
 rintro e W2 ⟨rfl,hb⟩;have wu:=hbt wo hb;clear hb;go_wp2;exact bodyPost_ret (v:=.string z) (by simp[results,results42,go_sem]) rfl ⟨rfl,wu.o⟩
theorem zo (x y z:ByteArray)(n:Int)(w₀:World)(h1:CV w₀ 50 #[.string x,.string y] (.tuple #[.string z,.int .i64 n]))  :
 CV w₀ 21 #[.string x,.string y] (.string z):=by
 intro w hw;have C1:=hid (h1.mono hw);clear h1 hw;go_enter func21,ntmps21
 have w9:=hid (Below.refl w.heap.size w);go_wp2_with fail
 with_reducible refine(C1.o _ w9.o).mono ?_
 rintro e W1 ⟨rfl,hb⟩;have wo:=hbt w9 hb;clear hb;go_wp2_with fail
 with_reducible refine(sRat z n _ _ wo.o).mono ?_
 rintro e W2 ⟨rfl,hb⟩;have wu:=hbt wo hb;clear hb;go_wp2;exact bodyPost_ret (v:=.string z) (by simp[results,results21,go_sem]) rfl ⟨rfl,wu.o⟩
theorem z19 (x y z:ByteArray)(n:Int)(w₀:World)(h1:CV w₀ 47 #[.string x,.string y] (.tuple #[.string z,.int .i64 n]))  :
 CV w₀ 19 #[.string x,.string y] (.string z):=by
 intro w hw;have C1:=hid (h1.mono hw);clear h1 hw;go_enter func19,ntmps19
 have w9:=hid (Below.refl w.heap.size w);go_wp2_with fail
 with_reducible refine(C1.o _ w9.o).mono ?_
 rintro e W1 ⟨rfl,hb⟩;have wo:=hbt w9 hb;clear hb;go_wp2_with fail
 with_reducible refine(sRat z n _ _ wo.o).mono ?_
 rintro e W2 ⟨rfl,hb⟩;have wu:=hbt wo hb;clear hb;go_wp2;exact bodyPost_ret (v:=.string z) (by simp[results,results19,go_sem]) rfl ⟨rfl,wu.o⟩
theorem zt (x y:ByteArray)(c n:Int)(w₀:World)(h1:CV w₀ 72 #[.string x,.string y] (.tuple #[.int .i64 c,.int .i64 n]))  :
 CV w₀ 45 #[.string x,.string y] (.int .i64 c):=by
 intro w hw;have C1:=hid (h1.mono hw);clear h1 hw;go_enter func45,ntmps45
 have w9:=hid (Below.refl w.heap.size w);go_wp2_with fail
 with_reducible refine(C1.o _ w9.o).mono ?_
 rintro e W1 ⟨rfl,hb⟩;have wo:=hbt w9 hb;clear hb;go_wp2_with fail
 with_reducible refine(sInt c n _ _ wo.o).mono ?_
 rintro e W2 ⟨rfl,hb⟩;have wu:=hbt wo hb;clear hb;go_wp2;exact bodyPost_ret (v:=.int .i64 c) (by simp[results,results45,go_sem]) rfl ⟨rfl,wu.o⟩
theorem z0Y (x:ByteArray)(c:Int)(w₀:World)(h1:CV w₀ 45 #[.string x,.string ⟨#[48]⟩] (.int .i64 c))  :
 CV w₀ 18 #[.string x] (.int .i64 c):=by
 intro w hw;have C1:=hid (h1.mono hw);clear h1 hw;go_enter func18,ntmps18
 have w9:=hid (Below.refl w.heap.size w);go_wp2_with fail
 with_reducible refine(C1.o _ w9.o).mono ?_
 rintro e W1 ⟨rfl,hb⟩;have wo:=hbt w9 hb;clear hb;go_wp2;exact bodyPost_ret (v:=.int .i64 c) (by simp[results,results18,go_sem]) rfl ⟨rfl,wo.o⟩
theorem zy (x z:ByteArray)(n:Int)(w₀:World)(h1:CV w₀ 90 #[.string x] (.tuple #[.string z,.int .i64 n]))  :
 CV w₀ 49 #[.string x] (.string z):=by
 intro w hw;have C1:=hid (h1.mono hw);clear h1 hw;go_enter func49,ntmps49
 have w9:=hid (Below.refl w.heap.size w);go_wp2_with fail
 with_reducible refine(C1.o _ w9.o).mono ?_
 rintro e W1 ⟨rfl,hb⟩;have wo:=hbt w9 hb;clear hb;go_wp2_with fail
 with_reducible refine(sStr z n _ _ wo.o).mono ?_
 rintro e W2 ⟨rfl,hb⟩;have wu:=hbt wo hb;clear hb;go_wp2;exact bodyPost_ret (v:=.string z) (by simp[results,results49,go_sem]) rfl ⟨rfl,wu.o⟩
end Go.Proofs.YtikihamjpenboaaGreatDoor
namespace Go.Gb
def isq:Nat→Nat
 | 0=>0
 | n+1=>if (isq n+1)*(isq n+1)≤n+1 then isq n+1 else isq n
theorem iI:∀ n,isq n*isq n≤n∧n<(isq n+1)*(isq n+1)
 | 0=>by decide
 | n+1=>by
   have⟨h1,h2⟩:=iI n;unfold isq
   split
   · next h=>exact⟨h,Nat.lt_of_le_of_lt h2 (by grind)⟩
   · next h=>exact⟨by omega,by omega⟩
theorem nH {n s:Nat}(h1:s*s≤n)(h2:n<(s+1)*(s+1)):isq n=s:=by
 have⟨g1,g2⟩:=iI n;rcases Nat.lt_trichotomy (isq n) s with h|h|h
 · have:=Nat.mul_le_mul (show isq n+1≤s by omega) (show isq n+1≤s by omega)
   omega
 · exact h
 · have:=Nat.mul_le_mul (show s+1≤isq n by omega) (show s+1≤isq n by omega)
   omega
theorem z5j {n:Nat}(h:0<n):0<isq n:=by
 have⟨_,g2⟩:=iI n;rcases Nat.eq_zero_or_pos (isq n) with h0|h0
 · rw[h0]at g2;omega
 · exact h0
theorem kC (n:Nat):isq n≤n:=by
 have⟨h,_⟩:=iI n;rcases Nat.eq_zero_or_pos (isq n) with h0|h0
 · omega
 · exact Nat.le_trans (Nat.le_mul_of_pos_left _ h0) h
theorem z4N {a b c d:Rat}(h1:0≤a)(h2:a≤b)(h3:0≤c)(h4:c≤d):a*c≤b*d:=by
 have e1:=Rat.mul_nonneg (show 0≤b-a by grind) h3;have e2:=Rat.mul_nonneg (show 0≤b by grind) (show 0≤d-c by grind);grind
theorem z5P {a b:Rat}(h1:0≤a)(h2:a≤b):a*a≤b*b:=z4N h1 h2 h1 h2
theorem yX {a b:Rat}(hb:0≤b)(h:a*a<b*b):a<b:=by
 rcases Rat.le_total (a:=b) (b:=a) with h1|h1
 · have:=z5P hb h1;grind
 · rcases Rat.le_iff_lt_or_eq.1 h1 with h2|h2
   · exact h2
   · subst h2;grind
def rk (s:Rat):Nat:=isq s.floor.toNat
theorem z4O {s:Rat}(hs:0≤s):((rk s:Nat):Rat)*((rk s:Nat):Rat)≤s∧s<(((rk s:Nat):Rat)+1)*(((rk s:Nat):Rat)+1):=by
 have h0:0≤s.floor:=Rat.le_floor_iff.2 (by simpa using hs);obtain⟨f,hf⟩:∃ f:Nat,s.floor=(f:Int):=⟨s.floor.toNat,by omega⟩;have⟨g1,g2⟩:=iI f;have e:rk s=isq f:=by unfold rk;rw[hf];rfl
 rw[e];have l1:((f:Int):Rat)≤s:=by rw[← hf];exact Rat.floor_le _
 have l2:s<((f:Int):Rat)+1:=by
  have:=Rat.lt_floor_add_one s;rw[hf]at this;simpa using this
 have c1:((isq f*isq f:Nat):Rat)≤((f:Nat):Rat):=Rat.natCast_le_natCast.2 g1;have c2:(((f+1:Nat)):Rat)≤(((isq f+1)*(isq f+1):Nat):Rat):=Rat.natCast_le_natCast.2 g2;have fc:((f:Int):Rat)=((f:Nat):Rat):=rfl;rw[Rat.natCast_mul]at c1 c2;rw[Rat.natCast_add,Rat.natCast_add]at c2;rw[fc]at l1 l2;constructor
 · grind
 · have:((1:Nat):Rat)=1:=rfl
   grind
theorem dR (k:Nat):(0:Rat)≤((k:Nat):Rat):=by exact_mod_cast (Rat.natCast_le_natCast.2 (Nat.zero_le k):((0:Nat):Rat)≤((k:Nat):Rat))
theorem z0J {a b:Nat}:((a:Nat):Rat)≤((b:Nat):Rat)↔a≤b:=Rat.natCast_le_natCast
theorem z0I {a b:Nat}:((a:Nat):Rat)<((b:Nat):Rat)↔a<b:=Rat.natCast_lt_natCast
theorem rE {k:Nat}(h:1≤k):(0:Rat)<((k:Nat):Rat):=by
 have:=(z0I (a:=0) (b:=k)).2 h;simpa using this
theorem ku {a b c:Rat}(hc:0<c)(h:a≤b):a / c≤b / c:=by
 rw[Rat.div_def,Rat.div_def];have:=Rat.mul_nonneg (show 0≤b-a by grind) (show 0≤c⁻¹ from Rat.le_of_lt (Rat.inv_pos.2 hc));grind
def eK (x:Rat) (n:Nat):Nat:=rk (x*((n:Rat)*(n:Rat)))
def eX (x:Rat) (n:Nat):Bool:=decide ((eK x n:Rat)*(eK x n:Rat)=x*((n:Rat)*(n:Rat)))
def eH (x:Rat) (n:Nat):Nat:=if eX x n then eK x n else eK x n+1
theorem sN {x:Rat}{n:Nat}(hx:0≤x):(eK x n:Rat)*(eK x n:Rat)≤x*((n:Rat)*(n:Rat))∧x*((n:Rat)*(n:Rat))<((eK x n:Rat)+1)*((eK x n:Rat)+1) :=
 z4O (Rat.mul_nonneg hx (Rat.mul_nonneg (dR n) (dR n)))
theorem z1J {x:Rat}{n:Nat}(hx:0≤x):x*((n:Rat)*(n:Rat))≤(eH x n:Rat)*(eH x n:Rat)∧(eX x n=false→(eH x n:Rat)=(eK x n:Rat)+1∧(eK x n:Rat)*(eK x n:Rat)<x*((n:Rat)*(n:Rat))∧x*((n:Rat)*(n:Rat))<(eH x n:Rat)*(eH x n:Rat))∧(eX x n=true→eH x n=eK x n∧(eK x n:Rat)*(eK x n:Rat)=x*((n:Rat)*(n:Rat))):=by
 have⟨h1,h2⟩:=sN (n:=n) hx
 cases h:eX x n with
 | true =>
   have e:eH x n=eK x n:=by unfold eH;rw[h];rfl
   have e2:=of_decide_eq_true h;rw[e];exact⟨by grind,(fun h=>by cases h),fun _=>⟨rfl,e2⟩⟩
 | false =>
   have e:eH x n=eK x n+1:=by unfold eH;rw[h];rfl
   have e2:=of_decide_eq_false h;have e3:((eH x n:Nat):Rat)=(eK x n:Rat)+1:=by rw[e,Rat.natCast_add];rfl
   rw[e3];exact⟨by grind,(fun _=>⟨rfl,by grind,h2⟩),fun h=>by cases h⟩
theorem uE {a b:Nat}(h:(a:Rat)*(a:Rat)<(b:Rat)*(b:Rat)):a<b:=z0I.1 (yX (dR b) h)
theorem z6V {x:Rat}{n m:Nat}(hx:0≤x)(h:(m:Rat)*(m:Rat)≤x*((n:Rat)*(n:Rat))):m≤eK x n:=by
 have⟨_,h2⟩:=sN (n:=n) hx;have e:((eK x n+1:Nat):Rat)=(eK x n:Rat)+1:=by rw[Rat.natCast_add];rfl
 rw[← e]at h2;have:=uE (a:=m) (b:=eK x n+1) (by grind);omega
