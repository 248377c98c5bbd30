/- texts -/
import Derived.Test.YtcchkjpdchcjpaaGreatDoorMz24q
import Derived.StillTailTactics
open Go.Proofs.Tryz
namespace Go.Gb
open Go Go.RowKit
section
variable {P:Program} {ops:Array Oper} {Q:Exit→Act→World→Prop}
variable {m:Nat} {sl:Nat→Nat} {R:Nat→Value→World→Prop} {a a0:Act} {W:World→Prop} {u6:Array Bool} {w w':World}
theorem aj {i:Nat}{o:Oper}{K:Act→World→Prop}(ho:ops[i]? = some o)
 (h:∀ K':Act→World→Prop,Hid (∀ a w,K a w→K' a w)→if Region.wanted o (yielded ops a.tmps)=true then Oper.wp P o a w K' Q else K' (a.put o.dst undef) w):wpOp P ops Q i K a w :=
 wpOp_step ho (fun K' hK=>h K' (Lib.hid hK))
theorem RInv.pv {i d:Nat}{v:Value}(h:RInv ops m sl R a0 W u6 a w)(hi:i∈Region.ready .any ops u6)(hv:R i v w)(hm:i<m:=by decide)(hd:d=sl i:=by rfl)(hlo:d<a0.tmps.size:=by simp)
 (hinj:∀ j,j<m→sl j=d→j=i:=by decide):RInv ops m sl R a0 W (u6.setIfInBounds i true) (a.put (some d) v) w:=h.put hi hm hd hlo hinj hv (fun _ _ k=>k) h.world
theorem RInv.pc {L:List Rel}{w0:World}{i d:Nat}{v:Value}(h:RInv ops m sl (RelR L) a0 (fun W=>Below w0.heap.size w0 W) u6 a w)(hi:i∈Region.ready .any ops u6)(hb:Below w.heap.size w w')(hv:RelR L i v w')(hm:i<m:=by decide)(hd:d=sl i:=by rfl)(hlo:d<a0.tmps.size:=by simp)
 (hinj:∀ j,j<m→sl j=d→j=i:=by decide):RInv ops m sl (RelR L) a0 (fun W=>Below w0.heap.size w0 W) (u6.setIfInBounds i true) (a.put (some d) v) w' :=
 h.put hi hm hd hlo hinj hv (fun j u k=>RelR.mono hb j u k) (h.world.trans (hb.mono h.world.size))
theorem RInv.rv {i j:Nat}{c:Value}(h:RInv ops m sl R a0 W u6 a w)(hj:j∈Region.ready .any ops u6)(hw:Region.waitsFor .any ops j i=true)(hm:i<m)(hR:∀ v,R i v w→v=c):a.tmps[sl i]? = some c:=by
 obtain⟨v,h1,h2⟩:=h.at hj hw hm;rw[h1,hR v h2]
def RV (ops:Array Oper) (u6:Array Bool) (a:Act) (j d:Nat) (c:Value):Prop:=∀ i,i∈Region.ready .any ops u6→Region.waitsFor .any ops i j=true→a.tmps[d]? = some c
theorem RV.g {j d i:Nat}{c:Value}(h:RV ops u6 a j d c)(hi:i∈Region.ready .any ops u6)(hw:Region.waitsFor .any ops i j=true):a.tmps[d]? = some c:=h i hi hw
theorem RInv.rh {j d:Nat}{c:Value}(h:RInv ops m sl R a0 W u6 a w)(hm:j<m:=by decide)(hd:sl j=d:=by rfl)(hR:∀ v,R j v w→v=c:=by exact fun _ h=>h):RV ops u6 a j d c:=by
 subst hd;exact fun i hi hw=>h.rv hi hw hm hR
theorem RInv.sx {c:Value}(h:RInv ops m sl R a0 W u6 a w)(ww:∀ j,j<m→u6.getD j false=true)(i:Nat){d:Nat}(hm:i<m:=by decide)(hd:sl i=d:=by rfl)(hR:∀ v,R i v w→v=c:=by exact fun _ h=>h):a.tmps[d]? = some c:=by
 subst hd;obtain⟨v,h1,h2⟩:=h.slots i hm (ww i hm);rw[h1,hR v h2]
theorem RInv.sy {c:Value}{q:Nat}(h:RInv ops m sl R a0 W u6 a w)(ww:∀ j,j<m→j≠q→u6.getD j false=true)(i:Nat){d:Nat}(hm:i<m:=by decide)(hq:i≠q:=by decide)(hd:sl i=d:=by rfl)(hR:∀ v,R i v w→v=c:=by exact fun _ h=>h):a.tmps[d]? = some c:=by
 subst hd;obtain⟨v,h1,h2⟩:=h.slots i hm (ww i hm hq);rw[h1,hR v h2]
def AllT:List (Nat × Value)→Array Value→Prop
 | [],_=>True
 | p :: t,T=>T[p.1]? = some p.2∧AllT t T
theorem AllT.mem:∀ {L:List (Nat × Value)} {T:Array Value},AllT L T→∀ p,p∈L→T[p.1]? = some p.2
 | _ :: _,_,h,p,hp=>by
   rcases List.mem_cons.1 hp with rfl|hp
   · exact h.1
   · exact AllT.mem h.2 p hp
def cov (m:Nat) (sl:Nat→Nat) (L:List (Nat × Value)):Bool:=(List.range m).all fun i=>L.any fun p=>p.1==sl i
theorem xE {L:List (Nat × Value)}(h:cov m sl L=true)(d:Nat)(hd:∀ p,p∈L→p.1≠d):∀ i,i<m→sl i≠d:=by
 intro i hi e;have h1:=List.all_eq_true.1 h i (List.mem_range.2 hi);obtain⟨p,hp,h2⟩:=List.any_eq_true.1 h1;exact hd p hp ((beq_iff_eq.1 h2).trans e)
theorem RInv.finx {L:List (Nat × Value)}(h:RInv ops m sl R a0 W u6 a w)(h1:AllT L a.tmps)(h2:cov m sl L=true):a=⟨putL L a0.tmps,a0.defers⟩:=h.fin L h1.mem (xE h2)
theorem RInv.finp {sd:Nat}{v:Value}(h:RInv ops m sl R a0 W u6 a w)(L:List (Nat × Value))(h1:AllT L (a.put (some sd) v).tmps)(h2:(cov m sl L&&L.any fun p=>p.1==sd)=true):a.put (some sd) v=⟨putL L a0.tmps,a0.defers⟩:=by
 rw[Bool.and_eq_true]at h2;refine h.fin_put L h1.mem (fun e he=>⟨xE h2.1 e he,fun k=>?_⟩);obtain⟨p,hp,h3⟩:=List.any_eq_true.1 h2.2;exact he p hp ((beq_iff_eq.1 h3).trans k)
end
theorem RInv.rst {ops:Array Oper}{m:Nat}{sl:Nat→Nat}{R:Nat→Value→World→Prop}{a0 a:Act}{W:World→Prop}{u6:Array Bool}{w:World}{c:Value}(h:RInv ops m sl R a0 W u6 a w)(d:Nat)(h0:a0.tmps[d]? = some c)(hd:∀ i,i<m→sl i≠d:=by decide):a.tmps[d]? = some c:=(h.rest d hd).trans h0
theorem RInv.rg {ops:Array Oper}{m:Nat}{sl:Nat→Nat}{L:List Rel}{a0 a:Act}{W:World→Prop}{u6:Array Bool}{w:World}{c:Value}(h:RInv ops m sl (RelR L) a0 W u6 a w)(j d:Nat)(hL:L.getD j (Rel.val undef)=Rel.val c)(hm:j<m:=by decide)(hd:sl j=d:=by rfl):RV ops u6 a j d c:=h.rh hm hd (fun v k=>by unfold RelR at k;rw[hL]at k;exact k)
theorem RInv.g2 {ops:Array Oper}{m:Nat}{sl:Nat→Nat}{L:List Rel}{a0 a:Act}{W:World→Prop}{u6:Array Bool}{w:World}{c0 c1:Value}(h:RInv ops m sl (RelR L) a0 W u6 a w)(j0 d0 j1 d1:Nat)(l0:L.getD j0 (Rel.val undef)=Rel.val c0:=by rfl)(m0:j0<m:=by decide)(e0:sl j0=d0:=by rfl)(l1:L.getD j1 (Rel.val undef)=Rel.val c1:=by rfl)(m1:j1<m:=by decide)(e1:sl j1=d1:=by rfl):RV ops u6 a j0 d0 c0∧RV ops u6 a j1 d1 c1:=⟨h.rg j0 d0 l0 m0 e0,h.rg j1 d1 l1 m1 e1⟩
theorem RInv.g3 {ops:Array Oper}{m:Nat}{sl:Nat→Nat}{L:List Rel}{a0 a:Act}{W:World→Prop}{u6:Array Bool}{w:World}{c0 c1 c2:Value}(h:RInv ops m sl (RelR L) a0 W u6 a w)(j0 d0 j1 d1 j2 d2:Nat)(l0:L.getD j0 (Rel.val undef)=Rel.val c0:=by rfl)(m0:j0<m:=by decide)(e0:sl j0=d0:=by rfl)(l1:L.getD j1 (Rel.val undef)=Rel.val c1:=by rfl)(m1:j1<m:=by decide)(e1:sl j1=d1:=by rfl)(l2:L.getD j2 (Rel.val undef)=Rel.val c2:=by rfl)(m2:j2<m:=by decide)(e2:sl j2=d2:=by rfl):RV ops u6 a j0 d0 c0∧RV ops u6 a j1 d1 c1∧RV ops u6 a j2 d2 c2:=⟨h.rg j0 d0 l0 m0 e0,h.rg j1 d1 l1 m1 e1,h.rg j2 d2 l2 m2 e2⟩
theorem RInv.g6 {ops:Array Oper}{m:Nat}{sl:Nat→Nat}{L:List Rel}{a0 a:Act}{W:World→Prop}{u6:Array Bool}{w:World}{c0 c1 c2 c3 c4 c5:Value}(h:RInv ops m sl (RelR L) a0 W u6 a w)(j0 d0 j1 d1 j2 d2 j3 d3 j4 d4 j5 d5:Nat)(l0:L.getD j0 (Rel.val undef)=Rel.val c0:=by rfl)(m0:j0<m:=by decide)(e0:sl j0=d0:=by rfl)(l1:L.getD j1 (Rel.val undef)=Rel.val c1:=by rfl)(m1:j1<m:=by decide)(e1:sl j1=d1:=by rfl)(l2:L.getD j2 (Rel.val undef)=Rel.val c2:=by rfl)(m2:j2<m:=by decide)(e2:sl j2=d2:=by rfl)(l3:L.getD j3 (Rel.val undef)=Rel.val c3:=by rfl)(m3:j3<m:=by decide)(e3:sl j3=d3:=by rfl)(l4:L.getD j4 (Rel.val undef)=Rel.val c4:=by rfl)(m4:j4<m:=by decide)(e4:sl j4=d4:=by rfl)(l5:L.getD j5 (Rel.val undef)=Rel.val c5:=by rfl)(m5:j5<m:=by decide)(e5:sl j5=d5:=by rfl):RV ops u6 a j0 d0 c0∧RV ops u6 a j1 d1 c1∧RV ops u6 a j2 d2 c2∧RV ops u6 a j3 d3 c3∧RV ops u6 a j4 d4 c4∧RV ops u6 a j5 d5 c5:=⟨h.rg j0 d0 l0 m0 e0,h.rg j1 d1 l1 m1 e1,h.rg j2 d2 l2 m2 e2,h.rg j3 d3 l3 m3 e3,h.rg j4 d4 l4 m4 e4,h.rg j5 d5 l5 m5 e5⟩
theorem RInv.s2 {ops:Array Oper}{m:Nat}{sl:Nat→Nat}{R:Nat→Value→World→Prop}{a0 a:Act}{W:World→Prop}{u6:Array Bool}{w:World}{c0 c1:Value}(h:RInv ops m sl R a0 W u6 a w)(d0 d1:Nat)(k0:a0.tmps[d0]? = some c0:=by rfl)(e0:∀ i,i<m→sl i≠d0:=by decide)(k1:a0.tmps[d1]? = some c1:=by rfl)(e1:∀ i,i<m→sl i≠d1:=by decide):a.tmps[d0]? = some c0∧a.tmps[d1]? = some c1:=⟨h.rst d0 k0 e0,h.rst d1 k1 e1⟩
theorem RV.q {ops:Array Oper}{u6:Array Bool}{a:Act}{j d i:Nat}{c:Value}(h:RV ops u6 a j d c)(hi:i∈Region.ready .any ops u6)(hw:Region.waitsFor .any ops i j=true:=by kernel_rfl):a.tmps[d]? = some c:=h i hi hw
theorem RV.t {ops:Array Oper}{u6:Array Bool}{a:Act}{j d i:Nat}{c:Value}(h:RV ops u6 a j d c)(hi:i∈Region.ready .any ops u6)(hw:Region.waitsFor .any ops i j=true:=by decide +kernel):a.tmps[d]? = some c:=h i hi hw
theorem RInv.pw {ops:Array Oper}{m:Nat}{sl:Nat→Nat}{R:Nat→Value→World→Prop}{a0 a:Act}{W:World→Prop}{u6:Array Bool}{w:World}{i d:Nat}{v:Value}(h:RInv ops m sl R a0 W u6 a w)(hi:i∈Region.ready .any ops u6)(hv:R i v w:=by rfl)(hm:i<m:=by decide)(hd:d=sl i:=by rfl)(hlo:d<a0.tmps.size:=by simp)(hinj:∀ j,j<m→sl j=d→j=i:=by decide):RInv ops m sl R a0 W (u6.setIfInBounds i true) (a.put (some d) v) w∧True:=⟨h.pv hi hv hm hd hlo hinj,trivial⟩
theorem df {P:Program}{ops:Array Oper}{Q:Exit→Act→World→Prop}{id:Nat}{a:Act}{w:World}(m t:Nat)(sl:List Nat)(L:List Rel)
 (hstep:∀ u6 a' w' k,Hid (RInv ops m (fun i=>sl.getD i 0) (RelR L) a (fun W=>Below w.heap.size w W) u6 a' w')→True→Hid (k∈Region.ready .any ops u6)→k<m→wpOp P ops Q k (fun a' w'=>RInv ops m (fun i=>sl.getD i 0) (RelR L) a (fun W=>Below w.heap.size w W) (u6.setIfInBounds k true) a' w'∧True) a' w')
 (hlast:∀ u6 a' w',Hid (RInv ops m (fun i=>sl.getD i 0) (RelR L) a (fun W=>Below w.heap.size w W) u6 a' w')→True→Hid (∀ j,j<m→u6.getD j false=true)→iI P ops Q t m a' w')
 (hm:P.follows .mixedOrders=true:=by kernel_rfl) (hs:ops.size=m+t:=by kernel_rfl) (hb:yR .any ops=true:=by kernel_rfl) (ht:zy ops m t=true:=by kernel_rfl):(Code.region id ops true).wp P Q a w :=
 aC hm m t _ _ _ (fun _ _=>True) hs hb ht trivial (Below.refl _ _).drew hstep hlast
end Go.Gb
set_option maxRecDepth 100000
set_option maxHeartbeats 20000000
open Go.Lib (hid)
namespace Go.Proofs.YtcchkjpdchcjpaaGreatDoor
open Go.RowKit Go.Gb
abbrev CV (w:World) (f:Nat) (args:Array Value) (v:Value):Prop:=∀ W,Below w.heap.size w W→Calls Tryz.prog f args W fun e w'=>e=.returned v∧Below W.heap.size W w'
theorem CV.mono {w W:World}{f:Nat}{args:Array Value}{v:Value}(h:CV w f args v)(hb:Below w.heap.size w W):CV W f args v:=fun X hX=>h X (hb.trans (hX.mono hb.size))
theorem CV.at {w:World}{f:Nat}{args:Array Value}{v:Value}(h:CV w f args v):Calls Tryz.prog f args w fun e w'=>e=.returned v∧Below w.heap.size w w':=h w (Below.refl _ _)
theorem sRat (x:ByteArray)(n:Int)(w₀:World)   :
 CV w₀ 58 #[.string x,.int .i64 n] (.string x):=by
 intro w hw;clear hw;go_enter func58,ntmps58
 have w9:=hid (Below.refl w.heap.size w);go_wp2;exact bodyPost_ret (v:=.string x) (by simp[results,results58,go_sem]) rfl ⟨rfl,w9.o⟩
theorem sStr (x:ByteArray)(n:Int)(w₀:World)   :
 CV w₀ 91 #[.string x,.int .i64 n] (.string x):=by
 intro w hw;clear hw;go_enter func91,ntmps91
 have w9:=hid (Below.refl w.heap.size w);go_wp2;exact bodyPost_ret (v:=.string x) (by simp[results,results91,go_sem]) rfl ⟨rfl,w9.o⟩
theorem sInt (x n:Int)(w₀:World)   :
 CV w₀ 68 #[.int .i64 x,.int .i64 n] (.int .i64 x):=by
 intro w hw;clear hw;go_enter func68,ntmps68
 have w9:=hid (Below.refl w.heap.size w);go_wp2;exact bodyPost_ret (v:=.int .i64 x) (by simp[results,results68,go_sem]) rfl ⟨rfl,w9.o⟩
theorem z0g (x y z:ByteArray)(n:Int)(w₀:World)(h1:CV w₀ 67 #[.string x,.string y] (.tuple #[.string z,.int .i64 n]))  :
 CV w₀ 36 #[.string x,.string y] (.string z):=by
 intro w hw;have C1:=hid (h1.mono hw);clear h1 hw;go_enter func36,ntmps36
 have w9:=hid (Below.refl w.heap.size w);go_wp2_with fail
 with_reducible refine(C1.o _ w9.o).mono ?_
 rintro e W1 ⟨rfl,hb⟩;have wo:=hbt w9 hb;clear hb;go_wp2_with fail
 with_reducible refine(sRat z n _ _ wo.o).mono ?_
 rintro e W2 ⟨rfl,hb⟩;have wu:=hbt wo hb;clear hb;go_wp2;exact bodyPost_ret (v:=.string z) (by simp[results,results36,go_sem]) rfl ⟨rfl,wu.o⟩
theorem ym (x y z:ByteArray)(n:Int)(w₀:World)(h1:CV w₀ 62 #[.string x,.string y] (.tuple #[.string z,.int .i64 n]))  :
 CV w₀ 30 #[.string x,.string y] (.string z):=by
 intro w hw;have C1:=hid (h1.mono hw);clear h1 hw;go_enter func30,ntmps30
 have w9:=hid (Below.refl w.heap.size w);go_wp2_with fail
 with_reducible refine(C1.o _ w9.o).mono ?_
 rintro e W1 ⟨rfl,hb⟩;have wo:=hbt w9 hb;clear hb;go_wp2_with fail
 with_reducible refine(sRat z n _ _ wo.o).mono ?_
 rintro e W2 ⟨rfl,hb⟩;have wu:=hbt wo hb;clear hb;go_wp2;exact bodyPost_ret (v:=.string z) (by simp[results,results30,go_sem]) rfl ⟨rfl,wu.o⟩
theorem z0h (x y z:ByteArray)(n:Int)(w₀:World)(h1:CV w₀ 59 #[.string x,.string y] (.tuple #[.string z,.int .i64 n]))  :
 CV w₀ 28 #[.string x,.string y] (.string z):=by
 intro w hw;have C1:=hid (h1.mono hw);clear h1 hw;go_enter func28,ntmps28
 have w9:=hid (Below.refl w.heap.size w);go_wp2_with fail
 with_reducible refine(C1.o _ w9.o).mono ?_
 rintro e W1 ⟨rfl,hb⟩;have wo:=hbt w9 hb;clear hb;go_wp2_with fail
 with_reducible refine(sRat z n _ _ wo.o).mono ?_
 rintro e W2 ⟨rfl,hb⟩;have wu:=hbt wo hb;clear hb;go_wp2;exact bodyPost_ret (v:=.string z) (by simp[results,results28,go_sem]) rfl ⟨rfl,wu.o⟩
theorem yo (x y:ByteArray)(c n:Int)(w₀:World)(h1:CV w₀ 63 #[.string x,.string y] (.tuple #[.int .i64 c,.int .i64 n]))  :
 CV w₀ 39 #[.string x,.string y] (.int .i64 c):=by
 intro w hw;have C1:=hid (h1.mono hw);clear h1 hw;go_enter func39,ntmps39
 have w9:=hid (Below.refl w.heap.size w);go_wp2_with fail
 with_reducible refine(C1.o _ w9.o).mono ?_
 rintro e W1 ⟨rfl,hb⟩;have wo:=hbt w9 hb;clear hb;go_wp2_with fail
 with_reducible refine(sInt c n _ _ wo.o).mono ?_
 rintro e W2 ⟨rfl,hb⟩;have wu:=hbt wo hb;clear hb;go_wp2;exact bodyPost_ret (v:=.int .i64 c) (by simp[results,results39,go_sem]) rfl ⟨rfl,wu.o⟩
theorem z0f (x:ByteArray)(c:Int)(w₀:World)(h1:CV w₀ 39 #[.string x,.string ⟨#[48]⟩] (.int .i64 c))  :
 CV w₀ 27 #[.string x] (.int .i64 c):=by
 intro w hw;have C1:=hid (h1.mono hw);clear h1 hw;go_enter func27,ntmps27
 have w9:=hid (Below.refl w.heap.size w);go_wp2_with fail
 with_reducible refine(C1.o _ w9.o).mono ?_
 rintro e W1 ⟨rfl,hb⟩;have wo:=hbt w9 hb;clear hb;go_wp2;exact bodyPost_ret (v:=.int .i64 c) (by simp[results,results27,go_sem]) rfl ⟨rfl,wo.o⟩
theorem yw (x z:ByteArray)(n:Int)(w₀:World)(h1:CV w₀ 92 #[.string x] (.tuple #[.string z,.int .i64 n]))  :
 CV w₀ 61 #[.string x] (.string z):=by
 intro w hw;have C1:=hid (h1.mono hw);clear h1 hw;go_enter func61,ntmps61
 have w9:=hid (Below.refl w.heap.size w);go_wp2_with fail
 with_reducible refine(C1.o _ w9.o).mono ?_
 rintro e W1 ⟨rfl,hb⟩;have wo:=hbt w9 hb;clear hb;go_wp2_with fail
 with_reducible refine(sStr z n _ _ wo.o).mono ?_
 rintro e W2 ⟨rfl,hb⟩;have wu:=hbt wo hb;clear hb;go_wp2;exact bodyPost_ret (v:=.string z) (by simp[results,results61,go_sem]) rfl ⟨rfl,wu.o⟩
open Go.Lib (hid)
theorem z5B {n g:Nat}(hg:1≤g):n<((g+n / g) / 2+1)*((g+n / g) / 2+1):=by
 have h:=uT (n:=(n:Int)) (g:=(g:Int)) (by omega);unfold nG at h
 exact_mod_cast h
theorem npos {n g:Nat}(hn:1≤n)(hg:1≤g):1≤(g+n / g) / 2:=by
 have h:=yD (n:=(n:Int)) (g:=(g:Int)) (by omega) (by omega);unfold nG at h
 exact_mod_cast h
theorem z5A {n g:Nat}(hg:1≤g)(h:g≤(g+n / g) / 2):g*g≤n:=by
 have h:=uS (n:=(n:Int)) (g:=(g:Int)) (by omega) (by unfold nG;exact_mod_cast h);exact_mod_cast h
def AbG (n g:Nat):Prop:=1≤g∧n<(g+1)*(g+1)
theorem uN (w₀:World):CV w₀ 29 #[.string ⟨#[48]⟩] (.string ⟨#[48]⟩):=by
 intro w hw;clear hw;go_enter func29,ntmps29
 go_wp2;go_ret
 exact⟨rfl,Below.refl _ _⟩
theorem yj (x:ByteArray)(n g0:Nat)(T:Nat→ByteArray)(q t:Nat→ByteArray)(hx:(x.toList==[48])=false)(hn:1≤n)(hg0:AbG n g0)(w₀:World)
 (hfg:CV w₀ 60 #[.string x] (.string (T g0)))
 (h1:∀ g,AbG n g→g≤g0→CV w₀ 28 #[.string x,.string (T g)] (.string (q g)))
 (h2:∀ g,AbG n g→g≤g0→CV w₀ 61 #[.string (q g)] (.string (T (n / g))))
 (h3:∀ g,AbG n g→g≤g0→CV w₀ 36 #[.string (T g),.string (T (n / g))] (.string (T (g+n / g))))
 (h4:∀ g,AbG n g→g≤g0→CV w₀ 30 #[.string (T (g+n / g)),.string ⟨#[49,47,50]⟩] (.string (t g)))
 (h5:∀ g,AbG n g→g≤g0→CV w₀ 61 #[.string (t g)] (.string (T ((g+n / g) / 2))))
 (h6:∀ g,AbG n g→g≤g0→CV w₀ 39 #[.string (T ((g+n / g) / 2)),.string (T g)] (.int .i64 (if (g+n / g) / 2<g then -1 else if g<(g+n / g) / 2 then 1 else 0))) :
 CV w₀ 29 #[.string x] (.string (T (isq n))):=by
 intro w hw;have C0:=hid (hfg.mono hw);have C1:=hid (fun g ha hg=>(h1 g ha hg).mono hw);have C2:=hid (fun g ha hg=>(h2 g ha hg).mono hw);have C3:=hid (fun g ha hg=>(h3 g ha hg).mono hw);have C4:=hid (fun g ha hg=>(h4 g ha hg).mono hw);have C5:=hid (fun g ha hg=>(h5 g ha hg).mono hw);have C6:=hid (fun g ha hg=>(h6 g ha hg).mono hw);have HN:=hid hn;have HG0:=hid hg0;clear hfg h1 h2 h3 h4 h5 h6 hw hn hg0;go_enter func29,ntmps29
 go_wp2_with fail
 refine(C0.o _ (Below.refl _ _)).mono ?_;rintro e w1 ⟨rfl,hb⟩;have HB:=hid (show Below w.heap.size w w1 from hb);clear hb;go_wp2;go_loopg [3] g0 (fun k s3 wr=>∃ g,k=g∧s3=.string (T g)∧Hid (AbG n g)∧Hid (g≤g0)∧Hid (Below w.heap.size w wr))
 case atStart=>exact⟨g0,rfl,rfl,HG0,hid (Nat.le_refl _),HB⟩
 case round =>
  obtain⟨g,rfl,rfl,ha,hg,hB⟩:=hrel;obtain ⟨D1,D2,D3,D4,D5,D6⟩:=bX (C1.o gk ha.o hg.o) (C2.o gk ha.o hg.o) (C3.o gk ha.o hg.o) (C4.o gk ha.o hg.o) (C5.o gk ha.o hg.o) (C6.o gk ha.o hg.o);have HS:=hid (z5B (n:=n) ha.o.1);have HP:=hid (npos HN.o ha.o.1);have HT:=hid (fun h=>z5A (n:=n) ha.o.1 h);generalize (gk+n / gk) / 2=nx at *;go_wp2_with fail
  refine(D1.o _ hB.o).mono ?_;rintro e w2 ⟨rfl,hb⟩;have B2:=hid (hB.o.trans (hb.mono hB.o.size));clear hb;go_wp2_with fail
  refine(D2.o _ B2.o).mono ?_;rintro e w3 ⟨rfl,hb⟩;have B3:=hid (B2.o.trans (hb.mono B2.o.size));clear hb;go_wp2_with fail
  refine(D3.o _ B3.o).mono ?_;rintro e w4 ⟨rfl,hb⟩;have B4:=hid (B3.o.trans (hb.mono B3.o.size));clear hb;go_wp2_with fail
  refine(D4.o _ B4.o).mono ?_;rintro e w5 ⟨rfl,hb⟩;have B5:=hid (B4.o.trans (hb.mono B4.o.size));clear hb;go_wp2_with fail
  refine(D5.o _ B5.o).mono ?_;rintro e w6 ⟨rfl,hb⟩;have B6:=hid (B5.o.trans (hb.mono B5.o.size));clear hb;by_cases hlt:nx<gk
  · rw[if_pos hlt]at D6
    have HLT:=hid hlt;clear hlt;go_wp2_with fail
    refine(D6.o _ B6.o).mono ?_;rintro e w7 ⟨rfl,hb⟩;have B7:=hid (B6.o.trans (hb.mono B6.o.size));clear hb;go_wp2;go_roundg nx
    case measure=>exact HLT.o
    case rel=>exact⟨nx,rfl,rfl,hid ⟨HP.o,HS.o⟩,hid (Nat.le_trans (Nat.le_of_lt HLT.o) hg.o),B7⟩
  · rw[if_neg hlt]at D6
    have HE:=hid (mG (HT.o (by omega)) ha.o.2);obtain⟨c,hc⟩:∃ c:Int,(if gk<nx then (1:Int) else 0)=c:=⟨_,rfl⟩;have hc0:decide (0≤c)=true:=decide_eq_true (by rw[← hc];split<;>decide);rw[hc]at D6;clear hc hlt;go_wp2_with fail
    refine(D6.o _ B6.o).mono ?_;rintro e w7 ⟨rfl,hb⟩;have B7:=hid (B6.o.trans (hb.mono B6.o.size));clear hb;go_wp2;go_ret
    exact⟨(by rw[HE.o];rfl),B7.o⟩
end Go.Proofs.YtcchkjpdchcjpaaGreatDoor
open Go.Lib (hid)
namespace Go.Proofs.YtcchkjpdchcjpaaGreatDoor
open Go.RowKit Go.Gb
theorem wrap_small {z:Int}(h0:0≤z)(h1:z≤1000000):IntKind.i64.wrap z=z:=by
 have:z.natAbs≤1000000:=by omega
 simp[IntKind.wrap,IntKind.bits,IntKind.signed]
 omega
theorem tq (x:ByteArray)(w₀:World)  (h1:((x.size:Nat):Int).tdiv 4=0) :
 CV w₀ 60 #[.string x] (.string ⟨#[51,50]⟩):=by
 intro w hw;have k1:=h1;clear h1 hw;go_enter func60,ntmps60
 have w9:=hid (Below.refl w.heap.size w);go_wp2;exact bodyPost_ret (v:=.string ⟨#[51,50]⟩) (by simp[results,results60,go_sem]) rfl ⟨rfl,w9.o⟩
theorem uQ (x hx r g z:ByteArray)(d m:Nat)(w₀:World)(h1:CV w₀ 29 #[.string hx] (.string r))(h2:CV w₀ 36 #[.string r,.string ⟨#[49]⟩] (.string g))(h3:CV w₀ 90 #[.string ⟨#[48]⟩,.int .i64 (d:Int)] (.string z))(e1:((x.size:Nat):Int).tdiv 4=(d:Int))(e2:IntKind.i64.wrap (d:Int)=(d:Int))(e3:((d:Int)==0)=false)(e4:IntKind.i64.wrap (2*(d:Int))=2*(d:Int))(e5:((x.size:Nat):Int)-2*(d:Int)=(m:Int))(e6:IntKind.i64.wrap (m:Int)=(m:Int))(e7:m≤x.size)(e8:x.extract 0 m=hx)(e9:g.size+z.size≤1000000) :
 CV w₀ 60 #[.string x] (.string (g++z)):=by
 intro w hw;obtain ⟨C1,C2,C3⟩:=ae (h1.mono hw) (h2.mono hw) (h3.mono hw);have k1:=e1;have k2:=e2;have k3:=e3;have k3':¬ (d:Int)=0:=by simpa using e3
 have k4:=e4;have k5:=e5;have k6:=e6;have k7:(m:Int)≤(x.size:Int):=by omega
 have k8:=e8;have k9:=fun W:World=>run_string_add_sum (P:=Tryz.prog) W g z (by omega);clear e1 e2 e3 e4 e5 e6 e7 e8 e9 h1 h2 h3 hw;go_enter func60,ntmps60
 have w9:=hid (Below.refl w.heap.size w);go_wp2_with fail
 with_reducible refine(C1.o _ w9.o).mono ?_
 rintro e W1 ⟨rfl,hb⟩;have wo:=hbt w9 hb;clear hb;go_wp2_with fail
 with_reducible refine(C2.o _ wo.o).mono ?_
 rintro e W2 ⟨rfl,hb⟩;have wu:=hbt wo hb;clear hb;go_wp2_with fail
 with_reducible refine(C3.o _ wu.o).mono ?_
 rintro e W3 ⟨rfl,hb⟩;have sw:=hbt wu hb;clear hb;go_wp2;exact bodyPost_ret (v:=.string (g++z)) (by simp[results,results60,go_sem]) rfl ⟨rfl,sw.o⟩
theorem z2j (g:Nat)(a b c d:ByteArray)(w:World)(ha:a.size≤40)(hb:b.size≤40)(hc:c.size≤40)(hd:d.size≤40)(hc:w.cell? ⟨g,0,none⟩=some (.string a)∧w.cell? ⟨g,1,none⟩=some (.string b)∧w.cell? ⟨g,2,none⟩=some (.string c)∧w.cell? ⟨g,3,none⟩=some (.string d)) :
 Calls Tryz.prog 5 #[.slice (some ⟨g,0,none⟩) 4 4] w fun e w'=>e=.returned (.bool false)∧w=w':=by
 obtain⟨c0,c1,c2,c3⟩:=hc;have ka:¬ (40:Int)<(a.size:Int):=by omega
 have kb:¬ (40:Int)<(b.size:Int):=by omega
 have kc:¬ (40:Int)<(c.size:Int):=by omega
 have kd:¬ (40:Int)<(d.size:Int):=by omega
 go_enter func5,ntmps5
 go_wp2;refine wp_loop_rounds 5 ?_;rw[rounds_succ];go_wp2;rw[rounds_succ];go_wp2;rw[rounds_succ];go_wp2;rw[rounds_succ];go_wp2;rw[rounds_succ];go_wp2;go_ret
 exact⟨rfl,rfl⟩
theorem z0z (g:Nat)(a b c d:ByteArray)(w:World)(hab:40<a.size∨40<b.size∨40<c.size∨40<d.size)(hc:w.cell? ⟨g,0,none⟩=some (.string a)∧w.cell? ⟨g,1,none⟩=some (.string b)∧w.cell? ⟨g,2,none⟩=some (.string c)∧w.cell? ⟨g,3,none⟩=some (.string d)) :
 Calls Tryz.prog 5 #[.slice (some ⟨g,0,none⟩) 4 4] w fun e w'=>e=.returned (.bool true)∧w=w':=by
 obtain⟨c0,c1,c2,c3⟩:=hc;by_cases ha:40<a.size
 · have ka:(40:Int)<(a.size:Int):=by omega
   clear hab;go_enter func5,ntmps5
   go_wp2;refine wp_loop_rounds 5 ?_;rw[rounds_succ];go_wp2;go_ret
   exact⟨rfl,rfl⟩
 · have ka:¬ (40:Int)<(a.size:Int):=by omega
   by_cases hb:40<b.size
   · have kb:(40:Int)<(b.size:Int):=by omega
     clear hab;go_enter func5,ntmps5
     go_wp2;refine wp_loop_rounds 5 ?_;rw[rounds_succ];go_wp2;rw[rounds_succ];go_wp2;go_ret
     exact⟨rfl,rfl⟩
   · have kb:¬ (40:Int)<(b.size:Int):=by omega
     by_cases hc:40<c.size
     · have kc:(40:Int)<(c.size:Int):=by omega
       clear hab;go_enter func5,ntmps5
       go_wp2;refine wp_loop_rounds 5 ?_;rw[rounds_succ];go_wp2;rw[rounds_succ];go_wp2;rw[rounds_succ];go_wp2;go_ret
       exact⟨rfl,rfl⟩
     · have kc:¬ (40:Int)<(c.size:Int):=by omega
       have kd:(40:Int)<(d.size:Int):=by omega
       clear hab;go_enter func5,ntmps5
       go_wp2;refine wp_loop_rounds 5 ?_;rw[rounds_succ];go_wp2;rw[rounds_succ];go_wp2;rw[rounds_succ];go_wp2;rw[rounds_succ];go_wp2;go_ret
       exact⟨rfl,rfl⟩
