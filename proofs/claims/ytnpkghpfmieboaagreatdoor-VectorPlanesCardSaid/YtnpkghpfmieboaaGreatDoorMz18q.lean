/- texts -/
import Derived.Test.YtnpkghpfmieboaaGreatDoorMz7q
import Derived.Test.YtnpkghpfmieboaaGreatDoorMz10q
namespace Go.Gb
open Go Go.RowKit
section
variable {P:Program} {ops:Array Oper} {Q:Exit→Act→World→Prop}
variable {m:Nat} {sl:Nat→Nat} {R:Nat→Value→World→Prop} {a a0:Act} {W:World→Prop} {u6:Array Bool} {w w':World}
theorem av {i:Nat}{o:Oper}{K:Act→World→Prop}(ho:ops[i]? = some o)
 (h:∀ K':Act→World→Prop,Hid (∀ a w,K a w→K' a w)→if Region.wanted o (yielded ops a.tmps)=true then Oper.wp P o a w K' Q else K' (a.put o.dst undef) w):wpOp P ops Q i K a w :=
 wpOp_step ho (fun K' hK=>h K' (Lib.hid hK))
theorem RInv.pv {i d:Nat}{v:Value}(h:RInv ops m sl R a0 W u6 a w)(hi:i∈Region.ready .any ops u6)(hv:R i v w)(hm:i<m:=by decide)(hd:d=sl i:=by rfl)(hlo:d<a0.tmps.size:=by simp)
 (hinj:∀ j,j<m→sl j=d→j=i:=by decide):RInv ops m sl R a0 W (u6.setIfInBounds i true) (a.put (some d) v) w:=h.put hi hm hd hlo hinj hv (fun _ _ k=>k) h.world
theorem RInv.pc {L:List Rel}{w0:World}{i d:Nat}{v:Value}(h:RInv ops m sl (RelR L) a0 (fun W=>Below w0.heap.size w0 W) u6 a w)(hi:i∈Region.ready .any ops u6)(hb:Below w.heap.size w w')(hv:RelR L i v w')(hm:i<m:=by decide)(hd:d=sl i:=by rfl)(hlo:d<a0.tmps.size:=by simp)
 (hinj:∀ j,j<m→sl j=d→j=i:=by decide):RInv ops m sl (RelR L) a0 (fun W=>Below w0.heap.size w0 W) (u6.setIfInBounds i true) (a.put (some d) v) w' :=
 h.put hi hm hd hlo hinj hv (fun j u k=>RelR.mono hb j u k) (h.world.trans (hb.mono h.world.size))
theorem RInv.rv {i j:Nat}{c:Value}(h:RInv ops m sl R a0 W u6 a w)(hj:j∈Region.ready .any ops u6)(hw:Region.waitsFor .any ops j i=true)(hm:i<m)(hR:∀ v,R i v w→v=c):a.tmps[sl i]? = some c:=by
 obtain⟨v,h1,h2⟩:=h.at hj hw hm;rw[h1,hR v h2]
def RV (ops:Array Oper) (u6:Array Bool) (a:Act) (j d:Nat) (c:Value):Prop:=∀ i,i∈Region.ready .any ops u6→Region.waitsFor .any ops i j=true→a.tmps[d]? = some c
theorem RInv.rh {j d:Nat}{c:Value}(h:RInv ops m sl R a0 W u6 a w)(hm:j<m:=by decide)(hd:sl j=d:=by rfl)(hR:∀ v,R j v w→v=c:=by exact fun _ h=>h):RV ops u6 a j d c:=by
 subst hd;exact fun i hi hw=>h.rv hi hw hm hR
theorem RInv.sx {c:Value}(h:RInv ops m sl R a0 W u6 a w)(w9:∀ j,j<m→u6.getD j false=true)(i:Nat){d:Nat}(hm:i<m:=by decide)(hd:sl i=d:=by rfl)(hR:∀ v,R i v w→v=c:=by exact fun _ h=>h):a.tmps[d]? = some c:=by
 subst hd;obtain⟨v,h1,h2⟩:=h.slots i hm (w9 i hm);rw[h1,hR v h2]
theorem RInv.sy {c:Value}{q:Nat}(h:RInv ops m sl R a0 W u6 a w)(w9:∀ j,j<m→j≠q→u6.getD j false=true)(i:Nat){d:Nat}(hm:i<m:=by decide)(hq:i≠q:=by decide)(hd:sl i=d:=by rfl)(hR:∀ v,R i v w→v=c:=by exact fun _ h=>h):a.tmps[d]? = some c:=by
 subst hd;obtain⟨v,h1,h2⟩:=h.slots i hm (w9 i hm hq);rw[h1,hR v h2]
def AllT:List (Nat × Value)→Array Value→Prop
 | [],_=>True
 | p :: t,T=>T[p.1]? = some p.2∧AllT t T
theorem AllT.mem:∀ {L:List (Nat × Value)} {T:Array Value},AllT L T→∀ p,p∈L→T[p.1]? = some p.2
 | _ :: _,_,h,p,hp=>by
   rcases List.mem_cons.1 hp with rfl|hp
   · exact h.1
   · exact AllT.mem h.2 p hp
def cov (m:Nat) (sl:Nat→Nat) (L:List (Nat × Value)):Bool:=(List.range m).all fun i=>L.any fun p=>p.1==sl i
theorem yA {L:List (Nat × Value)}(h:cov m sl L=true)(d:Nat)(hd:∀ p,p∈L→p.1≠d):∀ i,i<m→sl i≠d:=by
 intro i hi e;have h1:=List.all_eq_true.1 h i (List.mem_range.2 hi);obtain⟨p,hp,h2⟩:=List.any_eq_true.1 h1;exact hd p hp ((beq_iff_eq.1 h2).trans e)
theorem RInv.finx {L:List (Nat × Value)}(h:RInv ops m sl R a0 W u6 a w)(h1:AllT L a.tmps)(h2:cov m sl L=true):a=⟨aR L a0.tmps,a0.defers⟩:=h.fin L h1.mem (yA h2)
theorem RInv.finp {sd:Nat}{v:Value}(h:RInv ops m sl R a0 W u6 a w)(L:List (Nat × Value))(h1:AllT L (a.put (some sd) v).tmps)(h2:(cov m sl L&&L.any fun p=>p.1==sd)=true):a.put (some sd) v=⟨aR L a0.tmps,a0.defers⟩:=by
 rw[Bool.and_eq_true]at h2;refine h.fin_put L h1.mem (fun e he=>⟨yA h2.1 e he,fun k=>?_⟩);obtain⟨p,hp,h3⟩:=List.any_eq_true.1 h2.2;exact he p hp ((beq_iff_eq.1 h3).trans k)
end
theorem RInv.rst {ops:Array Oper}{m:Nat}{sl:Nat→Nat}{R:Nat→Value→World→Prop}{a0 a:Act}{W:World→Prop}{u6:Array Bool}{w:World}{c:Value}(h:RInv ops m sl R a0 W u6 a w)(d:Nat)(h0:a0.tmps[d]? = some c)(hd:∀ i,i<m→sl i≠d:=by decide):a.tmps[d]? = some c:=(h.rest d hd).trans h0
theorem RInv.rg {ops:Array Oper}{m:Nat}{sl:Nat→Nat}{L:List Rel}{a0 a:Act}{W:World→Prop}{u6:Array Bool}{w:World}{c:Value}(h:RInv ops m sl (RelR L) a0 W u6 a w)(j d:Nat)(hL:L.getD j (Rel.val undef)=Rel.val c)(hm:j<m:=by decide)(hd:sl j=d:=by rfl):RV ops u6 a j d c:=h.rh hm hd (fun v k=>by unfold RelR at k;rw[hL]at k;exact k)
theorem RInv.g2 {ops:Array Oper}{m:Nat}{sl:Nat→Nat}{L:List Rel}{a0 a:Act}{W:World→Prop}{u6:Array Bool}{w:World}{c0 c1:Value}(h:RInv ops m sl (RelR L) a0 W u6 a w)(j0 d0 j1 d1:Nat)(l0:L.getD j0 (Rel.val undef)=Rel.val c0:=by rfl)(m0:j0<m:=by decide)(e0:sl j0=d0:=by rfl)(l1:L.getD j1 (Rel.val undef)=Rel.val c1:=by rfl)(m1:j1<m:=by decide)(e1:sl j1=d1:=by rfl):RV ops u6 a j0 d0 c0∧RV ops u6 a j1 d1 c1:=⟨h.rg j0 d0 l0 m0 e0,h.rg j1 d1 l1 m1 e1⟩
theorem RInv.g3 {ops:Array Oper}{m:Nat}{sl:Nat→Nat}{L:List Rel}{a0 a:Act}{W:World→Prop}{u6:Array Bool}{w:World}{c0 c1 c2:Value}(h:RInv ops m sl (RelR L) a0 W u6 a w)(j0 d0 j1 d1 j2 d2:Nat)(l0:L.getD j0 (Rel.val undef)=Rel.val c0:=by rfl)(m0:j0<m:=by decide)(e0:sl j0=d0:=by rfl)(l1:L.getD j1 (Rel.val undef)=Rel.val c1:=by rfl)(m1:j1<m:=by decide)(e1:sl j1=d1:=by rfl)(l2:L.getD j2 (Rel.val undef)=Rel.val c2:=by rfl)(m2:j2<m:=by decide)(e2:sl j2=d2:=by rfl):RV ops u6 a j0 d0 c0∧RV ops u6 a j1 d1 c1∧RV ops u6 a j2 d2 c2:=⟨h.rg j0 d0 l0 m0 e0,h.rg j1 d1 l1 m1 e1,h.rg j2 d2 l2 m2 e2⟩
theorem RInv.g6 {ops:Array Oper}{m:Nat}{sl:Nat→Nat}{L:List Rel}{a0 a:Act}{W:World→Prop}{u6:Array Bool}{w:World}{c0 c1 c2 c3 c4 c5:Value}(h:RInv ops m sl (RelR L) a0 W u6 a w)(j0 d0 j1 d1 j2 d2 j3 d3 j4 d4 j5 d5:Nat)(l0:L.getD j0 (Rel.val undef)=Rel.val c0:=by rfl)(m0:j0<m:=by decide)(e0:sl j0=d0:=by rfl)(l1:L.getD j1 (Rel.val undef)=Rel.val c1:=by rfl)(m1:j1<m:=by decide)(e1:sl j1=d1:=by rfl)(l2:L.getD j2 (Rel.val undef)=Rel.val c2:=by rfl)(m2:j2<m:=by decide)(e2:sl j2=d2:=by rfl)(l3:L.getD j3 (Rel.val undef)=Rel.val c3:=by rfl)(m3:j3<m:=by decide)(e3:sl j3=d3:=by rfl)(l4:L.getD j4 (Rel.val undef)=Rel.val c4:=by rfl)(m4:j4<m:=by decide)(e4:sl j4=d4:=by rfl)(l5:L.getD j5 (Rel.val undef)=Rel.val c5:=by rfl)(m5:j5<m:=by decide)(e5:sl j5=d5:=by rfl):RV ops u6 a j0 d0 c0∧RV ops u6 a j1 d1 c1∧RV ops u6 a j2 d2 c2∧RV ops u6 a j3 d3 c3∧RV ops u6 a j4 d4 c4∧RV ops u6 a j5 d5 c5:=⟨h.rg j0 d0 l0 m0 e0,h.rg j1 d1 l1 m1 e1,h.rg j2 d2 l2 m2 e2,h.rg j3 d3 l3 m3 e3,h.rg j4 d4 l4 m4 e4,h.rg j5 d5 l5 m5 e5⟩
theorem RInv.s2 {ops:Array Oper}{m:Nat}{sl:Nat→Nat}{R:Nat→Value→World→Prop}{a0 a:Act}{W:World→Prop}{u6:Array Bool}{w:World}{c0 c1:Value}(h:RInv ops m sl R a0 W u6 a w)(d0 d1:Nat)(k0:a0.tmps[d0]? = some c0:=by rfl)(e0:∀ i,i<m→sl i≠d0:=by decide)(k1:a0.tmps[d1]? = some c1:=by rfl)(e1:∀ i,i<m→sl i≠d1:=by decide):a.tmps[d0]? = some c0∧a.tmps[d1]? = some c1:=⟨h.rst d0 k0 e0,h.rst d1 k1 e1⟩
theorem RInv.s3 {ops:Array Oper}{m:Nat}{sl:Nat→Nat}{R:Nat→Value→World→Prop}{a0 a:Act}{W:World→Prop}{u6:Array Bool}{w:World}{c0 c1 c2:Value}(h:RInv ops m sl R a0 W u6 a w)(d0 d1 d2:Nat)(k0:a0.tmps[d0]? = some c0:=by rfl)(e0:∀ i,i<m→sl i≠d0:=by decide)(k1:a0.tmps[d1]? = some c1:=by rfl)(e1:∀ i,i<m→sl i≠d1:=by decide)(k2:a0.tmps[d2]? = some c2:=by rfl)(e2:∀ i,i<m→sl i≠d2:=by decide):a.tmps[d0]? = some c0∧a.tmps[d1]? = some c1∧a.tmps[d2]? = some c2:=⟨h.rst d0 k0 e0,h.rst d1 k1 e1,h.rst d2 k2 e2⟩
theorem RInv.s6 {ops:Array Oper}{m:Nat}{sl:Nat→Nat}{R:Nat→Value→World→Prop}{a0 a:Act}{W:World→Prop}{u6:Array Bool}{w:World}{c0 c1 c2 c3 c4 c5:Value}(h:RInv ops m sl R a0 W u6 a w)(d0 d1 d2 d3 d4 d5:Nat)(k0:a0.tmps[d0]? = some c0:=by rfl)(e0:∀ i,i<m→sl i≠d0:=by decide)(k1:a0.tmps[d1]? = some c1:=by rfl)(e1:∀ i,i<m→sl i≠d1:=by decide)(k2:a0.tmps[d2]? = some c2:=by rfl)(e2:∀ i,i<m→sl i≠d2:=by decide)(k3:a0.tmps[d3]? = some c3:=by rfl)(e3:∀ i,i<m→sl i≠d3:=by decide)(k4:a0.tmps[d4]? = some c4:=by rfl)(e4:∀ i,i<m→sl i≠d4:=by decide)(k5:a0.tmps[d5]? = some c5:=by rfl)(e5:∀ i,i<m→sl i≠d5:=by decide):a.tmps[d0]? = some c0∧a.tmps[d1]? = some c1∧a.tmps[d2]? = some c2∧a.tmps[d3]? = some c3∧a.tmps[d4]? = some c4∧a.tmps[d5]? = some c5:=⟨h.rst d0 k0 e0,h.rst d1 k1 e1,h.rst d2 k2 e2,h.rst d3 k3 e3,h.rst d4 k4 e4,h.rst d5 k5 e5⟩
theorem RV.q {ops:Array Oper}{u6:Array Bool}{a:Act}{j d i:Nat}{c:Value}(h:RV ops u6 a j d c)(hi:i∈Region.ready .any ops u6)(hw:Region.waitsFor .any ops i j=true:=by kernel_rfl):a.tmps[d]? = some c:=h i hi hw
theorem RV.t {ops:Array Oper}{u6:Array Bool}{a:Act}{j d i:Nat}{c:Value}(h:RV ops u6 a j d c)(hi:i∈Region.ready .any ops u6)(hw:Region.waitsFor .any ops i j=true:=by decide +kernel):a.tmps[d]? = some c:=h i hi hw
theorem RInv.pw {ops:Array Oper}{m:Nat}{sl:Nat→Nat}{R:Nat→Value→World→Prop}{a0 a:Act}{W:World→Prop}{u6:Array Bool}{w:World}{i d:Nat}{v:Value}(h:RInv ops m sl R a0 W u6 a w)(hi:i∈Region.ready .any ops u6)(hv:R i v w:=by rfl)(hm:i<m:=by decide)(hd:d=sl i:=by rfl)(hlo:d<a0.tmps.size:=by simp)(hinj:∀ j,j<m→sl j=d→j=i:=by decide):RInv ops m sl R a0 W (u6.setIfInBounds i true) (a.put (some d) v) w∧True:=⟨h.pv hi hv hm hd hlo hinj,trivial⟩
theorem aC {P:Program}{ops:Array Oper}{Q:Exit→Act→World→Prop}{id:Nat}{a:Act}{w:World}(m t:Nat)(sl:List Nat)(L:List Rel)
 (hstep:∀ u6 a' w' k,Hid (RInv ops m (fun i=>sl.getD i 0) (RelR L) a (fun W=>Below w.heap.size w W) u6 a' w')→True→Hid (k∈Region.ready .any ops u6)→k<m→wpOp P ops Q k (fun a' w'=>RInv ops m (fun i=>sl.getD i 0) (RelR L) a (fun W=>Below w.heap.size w W) (u6.setIfInBounds k true) a' w'∧True) a' w')
 (hlast:∀ u6 a' w',Hid (RInv ops m (fun i=>sl.getD i 0) (RelR L) a (fun W=>Below w.heap.size w W) u6 a' w')→True→Hid (∀ j,j<m→u6.getD j false=true)→iO P ops Q t m a' w')
 (hm:P.follows .mixedOrders=true:=by kernel_rfl) (hs:ops.size=m+t:=by kernel_rfl) (hb:zB .any ops=true:=by kernel_rfl) (ht:zV ops m t=true:=by kernel_rfl):(Code.region id ops true).wp P Q a w :=
 dR hm m t _ _ _ (fun _ _=>True) hs hb ht trivial (Below.refl _ _).drew hstep hlast
end Go.Gb
namespace Go.Gb
def Ten (s:Nat):Prop:=∃ k,k≤9∧s=10^k
theorem Ten.one:Ten 1:=⟨0,by omega,rfl⟩
theorem Ten.pos {s:Nat}(h:Ten s):0<s:=by
 obtain⟨k,_,rfl⟩:=h;exact Nat.pow_pos (by decide)
theorem Ten.room {s:Nat}(h:Ten s):∃ t,0<t∧BB=s*t:=by
 obtain⟨k,hk,rfl⟩:=h;refine⟨10^(9-k),Nat.pow_pos (by decide),?_⟩;rw[← Nat.pow_add,show k+(9-k)=9 by omega,aI]
theorem Ten.step {s h:Nat}(hs:Ten s)(h0:1≤h)(hlt:h*s*10<BB):Ten (s*10):=by
 obtain⟨k,hk,rfl⟩:=hs;refine⟨k+1,?_,by rw[Nat.pow_succ]⟩;rcases Nat.lt_or_ge k 9 with h9|h9
 · omega
 · obtain rfl:k=9:=by omega
   have h1:1*10^9≤h*10^9:=Nat.mul_le_mul_right _ h0;rw[aI]at hlt;omega
theorem Made.even {a b c d u v f s:Nat}(h:Made a b c d false u v f s):(a:Int)*(u:Int) + -(b:Int)*(v:Int)=(f:Int) ∧ -(c:Int)*(u:Int)+(d:Int)*(v:Int)=(s:Int):=by
 obtain⟨e1,e2⟩:=h.1 rfl;have f1:(a:Int)*(u:Int)=(b:Int)*(v:Int)+(f:Int):=by exact_mod_cast e1
 have f2:(d:Int)*(v:Int)=(c:Int)*(u:Int)+(s:Int):=by exact_mod_cast e2
 rw[Int.neg_mul,Int.neg_mul];omega
theorem Made.odd {a b c d u v f s:Nat}(h:Made a b c d true u v f s) : -(a:Int)*(u:Int)+(b:Int)*(v:Int)=(f:Int)∧(c:Int)*(u:Int) + -(d:Int)*(v:Int)=(s:Int):=by
 obtain⟨e1,e2⟩:=h.2 rfl;have f1:(b:Int)*(v:Int)=(a:Int)*(u:Int)+(f:Int):=by exact_mod_cast e1
 have f2:(c:Int)*(u:Int)=(d:Int)*(v:Int)+(s:Int):=by exact_mod_cast e2
 rw[Int.neg_mul,Int.neg_mul];omega
structure Keeps (I:Nat→Nat→Nat→Nat→Bool→Prop):Prop where
 div:∀ F S P Q n,S≠0→I F S P Q n→I S (F%S) Q (P+F / S*Q) (!n)
 app:∀ F S P Q n a b c d o f s,F≠0→b≠0→Made a b c d o F S f s→Dtm a b c d o→Fac a b c d→s≤f→I F S P Q n→I f s (a*P+b*Q) (c*P+d*Q) (n != o)
 len:∀ F S P Q n,I F S P Q n→(aa F).length≤80000∧(aa S).length≤80000∧(aa P).length≤80000∧(aa Q).length≤80000
def CmI (N F S P Q:Nat) (_:Bool):Prop:=F+S≤N∧P=0∧Q=0
theorem Made.sum {a b c d u v f s:Nat}{o:Bool}(h:Made a b c d o u v f s)(hd:Dtm a b c d o)(hs:Fac a b c d)(hb:b≠0)(hu:u≠0)(hfs:s≤f){N:Nat}(hN:u+v≤N):f+s≤N:=by
 have:=h.less hd hs hb hu hfs;omega
theorem CmI.keeps {N:Nat}(hN:(aa N).length≤80000):Keeps (CmI N):=by
 refine⟨?_,?_,?_⟩
 · rintro F S P Q n hS ⟨h1,rfl,rfl⟩
   have h2:=Nat.mod_le F S;exact⟨by omega,rfl,by simp⟩
 · rintro F S P Q n a b c d o f s hF hb hm hd hf hsf ⟨h1,rfl,rfl⟩
   exact⟨hm.sum hd hf hb hF hsf h1,by simp,by simp⟩
 · rintro F S P Q n ⟨h1,rfl,rfl⟩
   have l1:=aN (show F≤N by omega);have l2:=aN (show S≤N by omega);rw[aU];simp only[List.length_nil];omega
end Go.Gb
namespace Go.Gb
open Go
theorem xy {xs:List Nat}(hx:∀ x∈xs,x<BB){i:Nat}(hi:xs.length=i+1)(k:Nat):aj xs / 10^(9*i+k)=xs.getD i 0 / 10^k:=by
 have h1:=dB xs i (by omega)
 have h2:aj (xs.drop i)=xs.getD i 0:=by
  rw[fU (by omega),List.drop_of_length_le (by omega)];simp[aj]
 have hlt:=jl xs hx i;have hB:BB^i=10^(9*i):=by rw[Nat.pow_mul,show BB=10^9 from by rw[aI]]
 rw[h2]at h1;rw[h1,Nat.pow_add,← hB,← Nat.div_div_eq_div_mul,Nat.add_mul_div_left _ _ (Nat.pow_pos bR),Nat.div_eq_of_lt hlt,Nat.zero_add]
def TOut (xs:List Nat) (bs:List UInt8) (i:Nat):Prop :=
 (i<xs.length∧bs=ldig (aj xs) (9*i))∨(i=xs.length∧∃ m,bs=ldig (aj xs) (m+1)∧10^m≤aj xs∧aj xs<10^(m+1))
def TIn (xs:List Nat) (bs:List UInt8) (i k q:Nat):Prop :=
 k≤9∧q=xs.getD i 0 / 10^k∧bs=ldig (aj xs) (9*i+k)∧(k=0∨i+1<xs.length∨xs.getD i 0 / 10^(k-1)≠0)
theorem TOut.zero {xs:List Nat}(h:0<xs.length):TOut xs [] 0:=Or.inl ⟨h,rfl⟩
theorem TIn.start {xs:List Nat}{bs:List UInt8}{i:Nat}(h:TOut xs bs i)(hi:i<xs.length):TIn xs bs i 0 (xs.getD i 0):=by
 rcases h with⟨_,h⟩|⟨h,_⟩
 · exact⟨by omega,by simp,h,Or.inl rfl⟩
 · omega
theorem TIn.len {xs:List Nat}{bs:List UInt8}{i k q:Nat}(h:TIn xs bs i k q):bs.length=9*i+k:=by rw[h.2.2.1,je]
theorem TIn.lt {xs:List Nat}{bs:List UInt8}{i k q:Nat}(h:TIn xs bs i k q)(hi:i<xs.length)(hx:∀ x∈xs,x<BB):q<1000000000:=by
 have h1:=hx _ (aZ hi);rw[aI]at h1;rw[h.2.1];exact Nat.lt_of_le_of_lt (Nat.div_le_self _ _) h1
theorem TIn.step {xs:List Nat}{bs:List UInt8}{i k q:Nat}(h:TIn xs bs i k q)(hi:i<xs.length)(hx:∀ x∈xs,x<BB)(hk:k<9)(hg:i+1<xs.length∨0<q) :
 TIn xs (bs++[UInt8.ofNat (48+q%10)]) i (k+1) (q / 10):=by
 obtain⟨h1,h2,h3,h4⟩:=h;refine⟨by omega,?_,?_,?_⟩
 · rw[h2,Nat.div_div_eq_div_mul,Nat.pow_succ]
 · rw[h3,h2,← yG hx hi hk,← z0F]
   rfl
 · rcases hg with hg|hg
   · exact Or.inr (Or.inl hg)
   · right;right
     rw[Nat.add_sub_cancel,← h2];omega
theorem TIn.done {xs:List Nat}{bs:List UInt8}{i k q:Nat}(h:TIn xs bs i k q)(hi:i<xs.length)(hx:∀ x∈xs,x<BB)(hl:xs.getD (xs.length-1) 0≠0)(hg:k=9∨(i+1=xs.length∧q=0)):TOut xs bs (i+1):=by
 obtain⟨h1,h2,h3,h4⟩:=h;by_cases hlt:i+1<xs.length
 · obtain rfl:k=9:=by omega
   exact Or.inl ⟨hlt,by rw[h3,Nat.mul_add]⟩
 · have hi1:xs.length=i+1:=by omega
   have hw:=hx _ (aZ hi);rw[aI]at hw;rw[show xs.length-1=i by omega]at hl
   have hq0:q=0:=by
    rcases hg with hg|hg
    · rw[h2,hg,Nat.div_eq_of_lt (by omega)]
    · exact hg.2
   obtain⟨j,rfl⟩:∃ j,k=j+1:=by
    refine⟨k-1,?_⟩;rcases Nat.eq_zero_or_pos k with h0|h0
    · rw[h0,Nat.pow_zero,Nat.div_one]at h2
      omega
    · omega
   have h5:xs.getD i 0 / 10^j≠0:=by
    rcases h4 with h4|h4|h4
    · omega
    · omega
    · rwa [Nat.add_sub_cancel]at h4
   have e1:=xy hx hi1 j;have e2:=xy hx hi1 (j+1);rw[← h2,hq0]at e2;refine Or.inr ⟨hi1.symm,9*i+j,h3,?_,?_⟩
   · rcases Nat.lt_or_ge (aj xs) (10^(9*i+j)) with h|h
     · rw[Nat.div_eq_of_lt h]at e1
       exact absurd e1.symm h5
     · exact h
   · rcases Nat.lt_or_ge (aj xs) (10^(9*i+(j+1))) with h|h
     · exact h
     · have:=Nat.div_pos h (Nat.pow_pos (by decide))
       omega
theorem TOut.done {xs:List Nat}{bs:List UInt8}(h:TOut xs bs xs.length):bs.reverse=Lib.decDigits (aj xs)∧0<bs.length:=by
 rcases h with⟨h,_⟩|⟨_,m,h1,h2,h3⟩
 · omega
 · rw[h1]
   exact⟨ni m _ h2 h3,by rw[je];omega⟩
theorem TOut.len {xs:List Nat}{bs:List UInt8}{i:Nat}(h:TOut xs bs i)(hx:∀ x∈xs,x<BB):bs.length≤9*xs.length:=by
 rcases h with⟨h,e⟩|⟨_,m,h1,h2,h3⟩
 · rw[e,je];omega
 · rw[h1,je]
   have h4:=dV xs hx;rw[show BB=10^9 from by rw[aI],← Nat.pow_mul]at h4;have h5:10^m<10^(9*xs.length):=by omega
   have:=(Nat.pow_lt_pow_iff_right (by decide:1<10)).1 h5;omega
end Go.Gb
set_option maxRecDepth 100000
set_option maxHeartbeats 20000000
open Go.Lib (hid)
namespace Go.Proofs.YtnpkghpfmieboaaGreatDoor
open Go.RowKit Go.Gb
theorem kJ {k:IntKind}{a b:Int}(h:a=b):Value.int k a=.int k b:=by rw[h]
theorem z2F {d:Nat}(h:d<10):Value.int .u8 (48+(d:Int))=.int .u8 ((UInt8.ofNat (48+d)).toNat:Int):=by
 rw[gq h];exact kJ (by omega)
theorem xJ {W:World}{B:Nat}{v:Value}{bs:List UInt8}{d:Nat}(hd:d<10)(h:W.ownsRow B 5 1 v (bs.length+1) (Lib.byteCells bs++[.int .u8 (48+(d:Int))])):W.ownsRow B 5 1 v (bs++[UInt8.ofNat (48+d)]).length (Lib.byteCells (bs++[UInt8.ofNat (48+d)])):=by
 rw[z2F hd]at h;rw[List.length_append,Lib.byteCells_append];exact h
theorem z2Z (b o c:Nat)(xs:List Nat)(hx:∀ x∈xs,x<BB)(hp:0<xs.length)(hlast:xs.getD (xs.length-1) 0≠0)(hl:xs.length≤10000)(w:World)(hb:b<w.heap.size)
 (hcx:∀ i,i<xs.length→w.cell? ⟨b,o+i,none⟩=some (.int .u32 ((xs.getD i 0:Nat):Int))) :
 CR 60 #[.slice (some ⟨b,o,none⟩) xs.length c] w (.string ⟨(Lib.decDigits (aj xs)).toArray⟩):=by
 obtain⟨i0,hi,hz0,hz1,hz2⟩:=info_parts Tryz.info5;obtain ⟨HX,HCX,HLA,HO0⟩:=aL hx hcx hlast (World.ownsRow_nil w w.heap.size 5 1);have d0:((xs.length:Int)==0)=false:=beq_eq_false_iff_ne.2 (by omega);have HP:=hid hp;clear hx hcx hlast hp;go_enter Tryz.func60,Tryz.ntmps60
 go_wp2;go_loopw [3,4] (fun v ii wr=>∃ (i:Nat) (bs:List UInt8),i≤xs.length∧ii=.int .i64 i∧Hid (TOut xs bs i)∧Hid (wr.ownsRow w.heap.size 5 1 v bs.length (Lib.byteCells bs))∧Hid (Below w.heap.size w wr)) (fun _ ii _=>xs.length-(intOf ii).toNat)
 case atStart=>exact⟨0,[],Nat.zero_le _,rfl,TOut.zero HP.o,HO0,Below.refl _ _⟩
 case round =>
  obtain⟨i,bs,hi',rfl,hT,ho,hn⟩:=hrel;by_cases hlt:i<xs.length
  · have hcell:=(hn.o.cell (p:=⟨b,o+i,none⟩) hb).trans (HCX.o i hlt)
    have HS:=hid (TIn.start hT.o hlt);have hq0:=(TIn.start hT.o hlt).lt hlt HX.o;clear hT;generalize xs.getD i 0=x at *;go_wp2;obtain⟨wo,rfl⟩:∃ wo:World,wo=wr:=⟨_,rfl⟩;go_loopw [3,5,6] (fun v qq kk wr=>∃ (k q:Nat) (bs:List UInt8),k≤9∧q<1000000000∧kk=.int .i64 k∧qq=.int .u32 (q:Int)∧Hid (TIn xs bs i k q)∧Hid (wr.ownsRow w.heap.size 5 1 v bs.length (Lib.byteCells bs))∧Hid (Below w.heap.size w wr)) (fun _ _ kk _=>9-(intOf kk).toNat)
    case atStart=>exact⟨0,x,bs,by omega,hq0,rfl,rfl,HS,ho,hn⟩
    case round =>
        clear HS ho hn hcell hq0;obtain⟨k,q,bs,hk9,hq9,rfl,rfl,hI,ho,hn⟩:=hrel;have hbl:bs.length≤90009:=by have:=hI.o.len;omega
        have hq9':(q:Int)≤999999999:=by omega
        obtain⟨d,hd⟩:∃ d:Nat,d=q%10:=⟨_,rfl⟩;have hd10:d<10:=by omega
        have hmod:(q:Int)%10=(d:Int):=by omega
        have hd9:(d:Int)≤9:=by omega
        have w1:IntKind.u8.wrap (48+(d:Int))=48+(d:Int):=by rw[IntKind.wrap_u8];omega
        by_cases hg:k<9∧(i+1<xs.length∨0<q)
        · obtain⟨hk,hg⟩:=hg
          have HST:=hid (show TIn xs (bs++[UInt8.ofNat (48+d)]) i (k+1) (q / 10) by rw[hd];exact hI.o.step hlt HX.o hk hg);obtain ⟨Hd,Hd10⟩:=aD hd hd10;have k1:(k:Int)<9:=by omega
          clear hd hd10 hI;by_cases hl2:i+1<xs.length
          · have k2:(i:Int)+1<(xs.length:Int):=by omega
            clear hg;go_wp2_with (at_builtin;refine wpList_append_own _ rfl _ _ 122 rfl w.heap.size 5 i0 (.int .u8 0) 1 1 Tryz.underlying122 hi hz0 hz1 hz2 rfl (by decide) _ _ _ rfl (ho.o.alloc _) ⟨wr.heap.size,0,none⟩ 1 1 [.int .u8 (48+(d:Int))] rfl rfl (cells_one _ _ _) (by intro u hu;simp at hu;subst hu;rfl) (by unfold maxLen;omega) (by omega) (by have:=hn.o.size;simp;omega) ?_)
            intro v' w1 hown' hgrow _;have HO:=hid (xJ Hd10.o hown');have HN:=hid ((hn.o.alloc hn.o.size _).grown hgrow (by have:=hn.o.size;simp;omega) (fun k hk=>(ho.o.lt k hk).1));clear hown' hgrow;go_wp2;go_roundw
            case rel=>exact⟨k+1,q / 10,_,by omega,by omega,by go_num,kJ (by omega),HST,HO,HN⟩
            case measure=>simp[intOf];omega
          · have k2:decide ((i:Int)+1<(xs.length:Int))=false:=decide_eq_false (by omega)
            have k3:0<(q:Int):=by omega
            clear hg;go_wp2_with (at_builtin;refine wpList_append_own _ rfl _ _ 122 rfl w.heap.size 5 i0 (.int .u8 0) 1 1 Tryz.underlying122 hi hz0 hz1 hz2 rfl (by decide) _ _ _ rfl (ho.o.alloc _) ⟨wr.heap.size,0,none⟩ 1 1 [.int .u8 (48+(d:Int))] rfl rfl (cells_one _ _ _) (by intro u hu;simp at hu;subst hu;rfl) (by unfold maxLen;omega) (by omega) (by have:=hn.o.size;simp;omega) ?_)
            intro v' w1 hown' hgrow _;have HO:=hid (xJ Hd10.o hown');have HN:=hid ((hn.o.alloc hn.o.size _).grown hgrow (by have:=hn.o.size;simp;omega) (fun k hk=>(ho.o.lt k hk).1));clear hown' hgrow;go_wp2;go_roundw
            case rel=>exact⟨k+1,q / 10,_,by omega,by omega,by go_num,kJ (by omega),HST,HO,HN⟩
            case measure=>simp[intOf];omega
        · have HD:=hid (hI.o.done hlt HX.o HLA.o (by omega))
          clear hd hd10 hmod w1;by_cases hk:k<9
          · have k1:(k:Int)<9:=by omega
            have k2:decide ((i:Int)+1<(xs.length:Int))=false:=decide_eq_false (by omega);have k3:decide (0<(q:Int))=false:=decide_eq_false (by omega);have k4:decide (0<q)=false:=decide_eq_false (by omega);have k5:¬ 0<q:=by omega
            clear hg hI;go_wp2;go_roundw
            case rel=>exact⟨i+1,bs,by omega,by go_num,HD,ho,hn⟩
            case measure=>simp[intOf];omega
          · have k1:decide ((k:Int)<9)=false:=decide_eq_false (by omega)
            have k2:¬ (k:Int)<9:=by omega
            clear hg hI;go_wp2;go_roundw
            case rel=>exact⟨i+1,bs,by omega,by go_num,HD,ho,hn⟩
            case measure=>simp[intOf];omega
  · have hi2:i=xs.length:=by omega
    have hT':=hT.o;have hbl:=hT'.len HX.o;rw[hi2]at hT';obtain⟨hrev,hbp⟩:=hT'.done;obtain⟨g,cap,rfl,hg,hcm,hR⟩:=RowB.of_own ho.o hbp;obtain⟨n,hn0⟩:∃ n,n=bs.length:=⟨_,rfl⟩;have HR0:=hid (show RowB wr g cap (swp bs 0) by rw[z1O];exact hR);obtain ⟨Hg,HREV⟩:=aD hg hrev;rw[← hn0]at hbl hbp;have Hn0:=hid hn0;have k1:decide ((i:Int)<(xs.length:Int))=false:=decide_eq_false (by omega);rw[← hn0];clear hT hT' hrev ho hR hg hi2 hn0 hcm;go_wp2;obtain⟨wo,rfl⟩:∃ wo:World,wo=wr:=⟨_,rfl⟩;go_loopw [7,8] (fun ii kk wr=>∃ (i k:Nat),i+k+1=n∧ii=.int .i64 i∧kk=.int .i64 k∧Hid (RowB wr g cap (swp bs i))∧Hid (Below w.heap.size w wr)) (fun ii _ _=>n-(intOf ii).toNat)
    case atStart=>exact⟨0,n-1,by omega,rfl,kJ (by omega),HR0,hn⟩
    case round =>
        clear HR0 hn;obtain⟨i,k,hik,rfl,rfl,hR,hn⟩:=hrel;have hnl:=Hn0.o;by_cases hlk:i<k
        · have hkk:bs.length-1-i=k:=by omega
          have hc1:=hR.o.cell (i:=i) (by rw[dU];omega);have hc2:=hR.o.cell (i:=k) (by rw[dU];omega);rw[z3I bs i (by omega)]at hc1;have hh:=z1Q bs i (by omega);rw[hkk]at hh;rw[hh]at hc2;have hs:=z1P bs i (by omega);rw[hkk]at hs;have hf1:=hR.o.free i;have hf2:=hR.o.free k;obtain⟨x,hx⟩:∃ x,x=bs.getD i 0:=⟨_,rfl⟩;obtain⟨y,hy⟩:∃ y,y=bs.getD k 0:=⟨_,rfl⟩;rw[← hx]at hc1 hs;rw[← hy]at hc2 hs
          have HSET:=hid (show RowB (((wr.setCell ⟨g,i,none⟩ (.int .u8 (y.toNat:Int))).setCell ⟨g,k,none⟩ (.int .u8 (x.toNat:Int))).drew) g cap (swp bs (i+1)) by
           have h1:=(hR.o.set i y).set k x;rw[hs]at h1
           exact h1)
          have HB:=hid (((hn.o.setCell (p:=⟨g,i,none⟩) Hg.o (.int .u8 (y.toNat:Int))).setCell (p:=⟨g,k,none⟩) Hg.o (.int .u8 (x.toNat:Int))).drew);have hne:¬ i=k:=by omega
          have j1:(i:Int)<(k:Int):=by omega
          have j2:(k:Int)<(n:Int):=by omega
          have hc3:(wr.setCell ⟨g,i,none⟩ (.int .u8 (y.toNat:Int))).cell? ⟨g,k,none⟩=some (.int .u8 (y.toNat:Int)):=(World.cell?_setCell_other _ _ _ _ (by intro e;injection e with e1 e2;exact hne e2)).trans hc2;clear hx hy hs hh hkk hR hn hnl;generalize x.toNat=a at *;generalize y.toNat=b2 at *;go_wp2;go_region
          go_wp2;go_roundw
          case rel=>exact⟨i+1,k-1,by omega,by go_num,kJ (by omega),HSET,HB⟩
          case measure=>simp[intOf];omega
        · have hsd:=z1R bs i (by omega)
          have hR':=hR.o;rw[hsd,HREV.o]at hR';have hdl:(Lib.decDigits (aj xs)).length=n:=by rw[← HREV.o,List.length_reverse];omega
          have hcv:(convert 122 9 (.slice (some ⟨g,0,none⟩) n cap)).run Tryz.prog wr=.ok (.string ⟨(Lib.decDigits (aj xs)).toArray⟩) wr:=by
           have h:=run_convert_bytes_back (P:=Tryz.prog) wr 122 9 5 ⟨g,0,none⟩ cap (Lib.decDigits (aj xs)) Tryz.underlying122 Tryz.underlying5 Tryz.underlying9 (fun j hj=>by
            have h1:=hR'.cell hj;rw[Lib.add_plain,Nat.zero_add,h1]
            simp[List.getD,hj])
           rw[hdl]at h;exact h
          have k2:decide ((i:Int)<(k:Int))=false:=decide_eq_false (by omega);clear hsd hR hR' hdl hnl;go_wp2;go_ret
          exact⟨rfl,hn.o⟩
