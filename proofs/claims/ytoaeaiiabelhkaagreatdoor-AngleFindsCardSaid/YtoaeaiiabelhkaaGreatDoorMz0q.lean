/- texts -/
import Derived.Lib.Hide
import Derived.StillTail
import Derived.WalkKit
import Derived.Lib.ItoaNum
import Derived.Carry
namespace Go.RowKit
theorem Hid.o {p:Prop}(h:Hid p):p:=h
end Go.RowKit
namespace Go.RowKit
open Go
theorem Below.kc {B i g:Nat}{w w':World}{s v}(h:Below B w w')(e:w.cell? ⟨g,i,s⟩=v)(k:g<B):w'.cell? ⟨g,i,s⟩=v:=(h.cell k).trans e
theorem Below.kf {B i g:Nat}{w w':World}{s v}(h:Below B w w')(e:w.frozen? ⟨g,i,s⟩=v)(k:g<B):w'.frozen? ⟨g,i,s⟩=v:=(h.frozen k).trans e
theorem Below.kb {w w0:World}(h:Below w.heap.size w w0)(k:w.heap.size≤w0.heap.size):Hid (∀ W:World,Below w0.heap.size w0 W→Below w.heap.size w W):=Lib.hid fun _ a=>h.trans (a.mono k)
theorem Below.kz {w0:World}{n:Nat}(h:n≤w0.heap.size):Hid (∀ W:World,Below w0.heap.size w0 W→n≤W.heap.size):=Lib.hid fun _ a=>Nat.le_trans h a.size
theorem Hid.kl {w w0:World}{P:World→Prop}(h:Hid (∀ W:World,Below w0.heap.size w0 W→Below w.heap.size w W))(k:∀ W:World,Below w.heap.size w W→P W):Hid (∀ W:World,Below w0.heap.size w0 W→P W):=Lib.hid fun W a=>k W (h.out W a)
end Go.RowKit
namespace Go.Gb
open Go.RowKit
class Gr (p:Prop)(W W':World)(q:outParam Prop):Prop where g:Below W.heap.size W W'→p→q
theorem aB {A B:Prop} (a:A) (b:B):RowKit.Hid A∧RowKit.Hid B:=⟨a,b⟩
theorem ak {A B C:Prop} (a:A) (b:B) (c:C):RowKit.Hid A∧RowKit.Hid B∧RowKit.Hid C:=⟨a,b,c⟩
theorem aN {A B C D:Prop} (a:A) (b:B) (c:C) (d:D):RowKit.Hid A∧RowKit.Hid B∧RowKit.Hid C∧RowKit.Hid D:=⟨a,b,c,d⟩
theorem bz {A B C D E:Prop} (a:A) (b:B) (c:C) (d:D) (e:E):RowKit.Hid A∧RowKit.Hid B∧RowKit.Hid C∧RowKit.Hid D∧RowKit.Hid E:=⟨a,b,c,d,e⟩
theorem di {A B C D E F:Prop} (a:A) (b:B) (c:C) (d:D) (e:E) (f:F):RowKit.Hid A∧RowKit.Hid B∧RowKit.Hid C∧RowKit.Hid D∧RowKit.Hid E∧RowKit.Hid F:=⟨a,b,c,d,e,f⟩
theorem eB {A B C D E F G:Prop} (a:A) (b:B) (c:C) (d:D) (e:E) (f:F) (g:G):RowKit.Hid A∧RowKit.Hid B∧RowKit.Hid C∧RowKit.Hid D∧RowKit.Hid E∧RowKit.Hid F∧RowKit.Hid G:=⟨a,b,c,d,e,f,g⟩
theorem jc {A B C D E F G H:Prop} (a:A) (b:B) (c:C) (d:D) (e:E) (f:F) (g:G) (h:H):RowKit.Hid A∧RowKit.Hid B∧RowKit.Hid C∧RowKit.Hid D∧RowKit.Hid E∧RowKit.Hid F∧RowKit.Hid G∧RowKit.Hid H:=⟨a,b,c,d,e,f,g,h⟩
theorem bQ {A B C D E F G H I:Prop} (a:A) (b:B) (c:C) (d:D) (e:E) (f:F) (g:G) (h:H) (i:I):RowKit.Hid A∧RowKit.Hid B∧RowKit.Hid C∧RowKit.Hid D∧RowKit.Hid E∧RowKit.Hid F∧RowKit.Hid G∧RowKit.Hid H∧RowKit.Hid I:=⟨a,b,c,d,e,f,g,h,i⟩
theorem aK {W W':World} {p0 q0 p1 q1:Prop} (h:Below W.heap.size W W') (a0:Hid p0) (a1:Hid p1) [i0:Gr p0 W W' q0] [i1:Gr p1 W W' q1]:Hid q0∧Hid q1:=⟨i0.g h a0,i1.g h a1⟩
theorem bA {W W':World} {p0 q0 p1 q1 p2 q2:Prop} (h:Below W.heap.size W W') (a0:Hid p0) (a1:Hid p1) (a2:Hid p2) [i0:Gr p0 W W' q0] [i1:Gr p1 W W' q1] [i2:Gr p2 W W' q2]:Hid q0∧Hid q1∧Hid q2:=⟨i0.g h a0,i1.g h a1,i2.g h a2⟩
theorem bY {W W':World} {p0 q0 p1 q1 p2 q2 p3 q3:Prop} (h:Below W.heap.size W W') (a0:Hid p0) (a1:Hid p1) (a2:Hid p2) (a3:Hid p3) [i0:Gr p0 W W' q0] [i1:Gr p1 W W' q1] [i2:Gr p2 W W' q2] [i3:Gr p3 W W' q3]:Hid q0∧Hid q1∧Hid q2∧Hid q3:=⟨i0.g h a0,i1.g h a1,i2.g h a2,i3.g h a3⟩
theorem gm {W W':World} {p0 q0 p1 q1 p2 q2 p3 q3 p4 q4:Prop} (h:Below W.heap.size W W') (a0:Hid p0) (a1:Hid p1) (a2:Hid p2) (a3:Hid p3) (a4:Hid p4) [i0:Gr p0 W W' q0] [i1:Gr p1 W W' q1] [i2:Gr p2 W W' q2] [i3:Gr p3 W W' q3] [i4:Gr p4 W W' q4]:Hid q0∧Hid q1∧Hid q2∧Hid q3∧Hid q4:=⟨i0.g h a0,i1.g h a1,i2.g h a2,i3.g h a3,i4.g h a4⟩
theorem kU {W W':World} {p0 q0 p1 q1 p2 q2 p3 q3 p4 q4 p5 q5:Prop} (h:Below W.heap.size W W') (a0:Hid p0) (a1:Hid p1) (a2:Hid p2) (a3:Hid p3) (a4:Hid p4) (a5:Hid p5) [i0:Gr p0 W W' q0] [i1:Gr p1 W W' q1] [i2:Gr p2 W W' q2] [i3:Gr p3 W W' q3] [i4:Gr p4 W W' q4] [i5:Gr p5 W W' q5]:Hid q0∧Hid q1∧Hid q2∧Hid q3∧Hid q4∧Hid q5:=⟨i0.g h a0,i1.g h a1,i2.g h a2,i3.g h a3,i4.g h a4,i5.g h a5⟩
theorem iq {W W':World} {p0 q0 p1 q1 p2 q2 p3 q3 p4 q4 p5 q5 p6 q6:Prop} (h:Below W.heap.size W W') (a0:Hid p0) (a1:Hid p1) (a2:Hid p2) (a3:Hid p3) (a4:Hid p4) (a5:Hid p5) (a6:Hid p6) [i0:Gr p0 W W' q0] [i1:Gr p1 W W' q1] [i2:Gr p2 W W' q2] [i3:Gr p3 W W' q3] [i4:Gr p4 W W' q4] [i5:Gr p5 W W' q5] [i6:Gr p6 W W' q6]:Hid q0∧Hid q1∧Hid q2∧Hid q3∧Hid q4∧Hid q5∧Hid q6:=⟨i0.g h a0,i1.g h a1,i2.g h a2,i3.g h a3,i4.g h a4,i5.g h a5,i6.g h a6⟩
theorem jQ {W W':World} {p0 q0 p1 q1 p2 q2 p3 q3 p4 q4 p5 q5 p6 q6 p7 q7:Prop} (h:Below W.heap.size W W') (a0:Hid p0) (a1:Hid p1) (a2:Hid p2) (a3:Hid p3) (a4:Hid p4) (a5:Hid p5) (a6:Hid p6) (a7:Hid p7) [i0:Gr p0 W W' q0] [i1:Gr p1 W W' q1] [i2:Gr p2 W W' q2] [i3:Gr p3 W W' q3] [i4:Gr p4 W W' q4] [i5:Gr p5 W W' q5] [i6:Gr p6 W W' q6] [i7:Gr p7 W W' q7]:Hid q0∧Hid q1∧Hid q2∧Hid q3∧Hid q4∧Hid q5∧Hid q6∧Hid q7:=⟨i0.g h a0,i1.g h a1,i2.g h a2,i3.g h a3,i4.g h a4,i5.g h a5,i6.g h a6,i7.g h a7⟩
theorem jd {W W':World} {p0 q0 p1 q1 p2 q2 p3 q3 p4 q4 p5 q5 p6 q6 p7 q7 p8 q8:Prop} (h:Below W.heap.size W W') (a0:Hid p0) (a1:Hid p1) (a2:Hid p2) (a3:Hid p3) (a4:Hid p4) (a5:Hid p5) (a6:Hid p6) (a7:Hid p7) (a8:Hid p8) [i0:Gr p0 W W' q0] [i1:Gr p1 W W' q1] [i2:Gr p2 W W' q2] [i3:Gr p3 W W' q3] [i4:Gr p4 W W' q4] [i5:Gr p5 W W' q5] [i6:Gr p6 W W' q6] [i7:Gr p7 W W' q7] [i8:Gr p8 W W' q8]:Hid q0∧Hid q1∧Hid q2∧Hid q3∧Hid q4∧Hid q5∧Hid q6∧Hid q7∧Hid q8:=⟨i0.g h a0,i1.g h a1,i2.g h a2,i3.g h a3,i4.g h a4,i5.g h a5,i6.g h a6,i7.g h a7,i8.g h a8⟩
end Go.Gb
namespace Go.Gb
open Go
section
variable {P:Program} {ops:Array Oper} {Q:Exit→Act→World→Prop} {md:Region.Mode}
def Closed (md:Region.Mode) (ops:Array Oper) (u6:Array Bool):Prop:=∀ j i,u6.getD j false=true→Region.waitsFor md ops j i=true→u6.getD i false=true
theorem z2x {j i:Nat}{o:Oper}(ho:ops[j]? = some o)(h:Region.waitsFor md ops j i=true):∃ e∈o.after,Region.binds md e=true∧e.on=i:=by
 obtain⟨o',ho',e,he,hb⟩:=Region.waitsFor_spec h;obtain rfl:o'=o:=Option.some.inj (ho'.symm.trans ho);exact⟨e,he,hb⟩
theorem ko {u6:Array Bool}{j i:Nat}(hj:j∈Region.ready md ops u6)(h:Region.waitsFor md ops j i=true):u6.getD i false=true:=by
 obtain⟨_,o,ho,uu⟩:=mem_ready.1 hj;obtain⟨e,he,hb,rfl⟩:=z2x ho h;exact uu e he hb
theorem qR {u6:Array Bool}{j:Nat}(hj:j∈Region.ready md ops u6):u6.getD j true=false:=(mem_ready.1 hj).1
theorem kL {u6:Array Bool}{j:Nat}(hj:j∈Region.ready md ops u6):j<ops.size:=by
 obtain⟨_,o,ho,_⟩:=mem_ready.1 hj;exact(Array.getElem?_eq_some_iff.1 ho).1
theorem jW {u6:Array Bool}{i j:Nat}(h:(u6.setIfInBounds i true).getD j false=true):j=i∨u6.getD j false=true:=by
 by_cases hij:j=i
 · exact Or.inl hij
 · right
   simp only[Array.getD_eq_getD_getElem?]at h ⊢;rwa [Array.getElem?_setIfInBounds_ne (Ne.symm hij)]at h
theorem kW {u6:Array Bool}{i j:Nat}(h:u6.getD j false=true):(u6.setIfInBounds i true).getD j false=true:=by
 simp only[Array.getD_eq_getD_getElem?]at h ⊢;by_cases hij:i=j
 · subst hij
   rw[Array.getElem?_setIfInBounds_self];split
   · rfl
   · rename_i hlt
     rw[Array.getElem?_eq_none (by omega)]at h;exact h
 · rw[Array.getElem?_setIfInBounds_ne hij];exact h
theorem Closed.set {u6:Array Bool}{i:Nat}(h:Closed md ops u6)(hi:i∈Region.ready md ops u6):Closed md ops (u6.setIfInBounds i true):=by
 intro j k hj hw;rcases jW hj with rfl|hj
 · exact kW (ko hi hw)
 · exact kW (h j k hj hw)
theorem wL (n:Nat):Closed md ops (Array.replicate n false):=by
 intro j i hj _;exfalso
 simp only[Array.getD_eq_getD_getElem?,Array.getElem?_replicate]at hj;split at hj<;>simp at hj
theorem sS (I:Array Bool→Act→World→Prop)
 (hstep:∀ u6 a w i,I u6 a w→i∈Region.ready md ops u6→wpOp P ops Q i (fun a' w'=>I (u6.setIfInBounds i true) a' w') a w)
 (hend:∀ u6 a w,I u6 a w→Region.ready md ops u6=[]→Q .normal a w) :
 ∀ (n:Nat) (U:List Nat) (u6:Array Bool) (a:Act) (w:World),U.length=n→U.Nodup→(∀ i,i∈U↔(i<ops.size∧u6.getD i true=false))→u6.size=ops.size→I u6 a w→wpAny P md ops Q n u6 a w
 | 0,U,u6,a,w,hn,_,hU,_,hI=>by
   have h0:Region.ready md ops u6=[]:=by
    apply List.eq_nil_iff_forall_not_mem.2
    intro i hi;have hm:=(hU i).2 ⟨kL hi,qR hi⟩;rw[List.length_eq_zero_iff.1 hn]at hm;cases hm
   exact⟨h0,hend u6 a w hI h0⟩
 | n+1,U,u6,a,w,hn,hd,hU,hs,hI=>by
   refine⟨fun h0=>hend u6 a w hI h0,fun i hi=>?_⟩;refine wpOp_mono (fun a' w' hI'=>?_) (hstep u6 a w i hI hi);have hm:=(hU i).2 ⟨kL hi,qR hi⟩;refine sS I hstep hend n (U.erase i) _ a' w' (by rw[List.length_erase_of_mem hm,hn];rfl) (hd.erase i) (fun j=>?_) (by simpa using hs) hI';rw[hd.mem_erase_iff,hU j];simp only[Array.getD_eq_getD_getElem?];by_cases hij:j=i
   · subst hij
     rw[Array.getElem?_setIfInBounds_self_of_lt (by rw[hs];exact kL hi)];simp
   · rw[Array.getElem?_setIfInBounds_ne (Ne.symm hij)]
     simp[hij]
theorem qF {id:Nat}{a:Act}{w:World}(hm:P.follows .mixedOrders=true)(I:Array Bool→Act→World→Prop)
 (hstart:I (Array.replicate ops.size false) a w.drew)
 (hstep:∀ u6 a w i,I u6 a w→i∈Region.ready .any ops u6→wpOp P ops Q i (fun a' w'=>I (u6.setIfInBounds i true) a' w') a w)
 (hend:∀ u6 a w,I u6 a w→Region.ready .any ops u6=[]→Q .normal a w):(Code.region id ops true).wp P Q a w:=by
 refine wp_region_any hm ?_;refine sS I hstep hend ops.size (List.range ops.size) _ a _ (by simp) List.nodup_range (fun i=>?_) (by simp) hstart;rw[List.mem_range];simp only[Array.getD_eq_getD_getElem?,Array.getElem?_replicate];constructor
 · intro h;exact⟨h,by rw[if_pos h];rfl⟩
 · intro h;exact h.1
def z3K (md:Region.Mode) (ops:Array Oper):Bool:=(List.range ops.size).all fun j=>match ops[j]? with
 | some o=>o.after.all fun e => !Region.binds md e || decide (e.on<j)
 | none=>true
theorem z5w (hb:z3K md ops=true){j i:Nat}(h:Region.waitsFor md ops j i=true):i<j:=by
 obtain⟨o,ho,e,he,hbi,rfl⟩:=Region.waitsFor_spec h;have hj:j<ops.size:=(Array.getElem?_eq_some_iff.1 ho).1;have h1:=List.all_eq_true.1 hb j (List.mem_range.2 hj);rw[ho]at h1;simp only at h1;have h2:=Array.all_eq_true'.1 h1 e he;rw[hbi]at h2;simpa using h2
theorem qw {u6:Array Bool}(hs:u6.size=ops.size)(hb:z3K md ops=true)(h:Region.ready md ops u6=[]):∀ j,j<ops.size→u6.getD j false=true:=by
 intro j
 induction j using Nat.strongRecOn with
 | _ j ih =>
   intro hj
   cases hl:u6.getD j true with
   | true =>
     simp only[Array.getD_eq_getD_getElem?]at hl ⊢;have hlt:j<u6.size:=by omega
     rw[Array.getElem?_eq_getElem hlt]at hl ⊢;exact hl
   | false =>
     exfalso
     obtain⟨o,ho⟩:∃ o,ops[j]? = some o:=⟨ops[j],Array.getElem?_eq_getElem hj⟩
     have hr:j∈Region.ready md ops u6:=by
       refine mem_ready.2 ⟨hl,o,ho,fun e he hbi=>?_⟩
       have hw:Region.waitsFor md ops j e.on=true:=by
        unfold Region.waitsFor
        rw[ho];simp only;refine Array.any_eq_true'.2 ⟨e,he,?_⟩;simp[hbi]
       have h1:=z5w hb hw;exact ih e.on h1 (by omega)
     rw[h]at hr;cases hr
theorem z0Q {u6:Array Bool}{j:Nat}(hj:j∈Region.ready md ops u6):u6.getD j false=false:=by
 have h:=qR hj;simp only[Array.getD_eq_getD_getElem?]at h ⊢
 cases hc:u6[j]? with
 | none=>rw[hc]at h;simp at h
 | some b=>rw[hc]at h;simpa using h
end
end Go.Gb
namespace Go.Gb
open Go.Lib
def BB:Nat:=1000000000
theorem aG:BB=1000000000:=rfl
theorem bN:0<BB:=by decide
theorem oK:1<BB:=by decide
attribute [irreducible] BB
def isD (c:UInt8):Bool:=decide (48≤c.toNat∧c.toNat≤57)
def aI (l:List UInt8):Nat:=l.foldl (fun n c=>n*10+(c.toNat-48)) 0
def vld (l:List UInt8):Bool:=decide (l≠[])&&l.all isD&&(decide (l.length=1) || decide (l.headD 0≠48))
theorem fw (c:UInt8):isD c=true↔48≤c.toNat∧c.toNat≤57:=by simp[isD]
theorem z1y (l:List UInt8):∀ a:Nat,l.foldl (fun n c=>n*10+(c.toNat-48)) a=a*10^l.length+aI l:=by
 unfold aI
 induction l with
 | nil=>intro a;simp
 | cons c l ih =>
   intro a;simp only[List.foldl_cons,List.length_cons];rw[ih,ih (0*10+(c.toNat-48)),Nat.pow_succ,Nat.add_mul,Nat.zero_mul,Nat.zero_add,Nat.mul_assoc,Nat.mul_comm 10 (10^l.length),Nat.add_assoc]
theorem gU (l m:List UInt8):aI (l++m)=aI l*10^m.length+aI m:=by
 show(l++m).foldl _ 0=_
 rw[List.foldl_append,z1y];rfl
theorem l7 (c:UInt8):aI [c]=c.toNat-48:=by simp[aI]
theorem kZ (l:List UInt8)(c:UInt8):aI (l++[c])=aI l*10+(c.toNat-48):=by
 rw[gU,l7];simp
theorem l8 (c:UInt8)(l:List UInt8):aI (c :: l)=(c.toNat-48)*10^l.length+aI l:=by
 have:=gU [c] l;rw[l7]at this;simpa using this
theorem fO {d:Nat}(h:d<10):(UInt8.ofNat (48+d)).toNat=48+d:=by
 simp;omega
theorem gT (l:List UInt8)(h:l.all isD=true):aI l<10^l.length:=by
 induction l with
 | nil=>simp[aI]
 | cons c l ih =>
   simp only[List.all_cons,Bool.and_eq_true]at h;have hc:=(fw c).1 h.1;have hl:=ih h.2;rw[l8,List.length_cons,Nat.pow_succ];have h1:(c.toNat-48)*10^l.length≤9*10^l.length:=Nat.mul_le_mul_right _ (by omega);omega
theorem gp (n:Nat):aI (decDigits n)=n:=by
 induction n using Nat.strongRecOn with
 | _ u ih =>
   by_cases h:u<10
   · rw[decDigits,dif_pos h,l7,fO h];omega
   · rw[decDigits,dif_neg h,kZ,ih (u / 10) (by omega),fO (Nat.mod_lt _ (by decide))];omega
theorem iV (n:Nat):decDigits n≠[]:=by
 intro h;have h1:=decDigits_length n;have h2:=nDigits_pos n;rw[h]at h1;simp at h1;omega
theorem je (n:Nat):(decDigits n).all isD=true:=by
 induction n using Nat.strongRecOn with
 | _ u ih =>
   by_cases h:u<10
   · rw[decDigits,dif_pos h];simp only[List.all_cons,List.all_nil,Bool.and_true]
     rw[fw,fO h];omega
   · rw[decDigits,dif_neg h,List.all_append,ih (u / 10) (by omega)]
     simp only[List.all_cons,List.all_nil,Bool.and_true,Bool.true_and];rw[fw,fO (Nat.mod_lt _ (by decide))];omega
theorem z3B (n:Nat)(h0:0<n):((decDigits n).headD 0).toNat≠48:=by
 induction n using Nat.strongRecOn with
 | _ u ih =>
   by_cases h:u<10
   · rw[decDigits,dif_pos h];simp only[List.headD_cons];rw[fO h];omega
   · rw[decDigits,dif_neg h]
     have hh:=ih (u / 10) (by omega) (by omega);have hn:=iV (u / 10)
     cases hd:decDigits (u / 10) with
     | nil=>exact absurd hd hn
     | cons c l=>rw[hd]at hh;simpa using hh
theorem gJ (l:List UInt8):vld l=true↔l≠[]∧l.all isD=true∧(l.length=1∨(l.headD 0).toNat≠48):=by
 unfold vld
 simp only[Bool.and_eq_true,Bool.or_eq_true,decide_eq_true_eq,and_assoc]
 have:(l.headD 0≠48)↔((l.headD 0).toNat≠48):=by
  constructor
  · intro h h2;apply h;apply UInt8.toNat_inj.1;simpa using h2
  · intro h h2;apply h;rw[h2];rfl
 rw[this]
theorem nG (n:Nat):vld (decDigits n)=true:=by
 rw[gJ];refine⟨iV n,je n,?_⟩;by_cases h:0<n
 · exact Or.inr (z3B n h)
 · left;obtain rfl:n=0:=by omega
   rw[decDigits,dif_pos (by decide)];rfl
theorem uG (l:List UInt8)(hne:l≠[])(uu:l.all isD=true)(hh:(l.headD 0).toNat≠48):0<aI l∧decDigits (aI l)=l:=by
 generalize hn:l.length=n
 induction n generalizing l with
 | zero=>exact absurd (List.length_eq_zero_iff.1 hn) hne
 | succ n ih =>
   obtain⟨m,c,rfl⟩:∃ m c,l=m++[c]:=⟨l.dropLast,l.getLast hne,(List.dropLast_concat_getLast hne).symm⟩;rw[List.all_append]at uu;simp only[List.all_cons,List.all_nil,Bool.and_true,Bool.and_eq_true]at uu;have hc:=(fw c).1 uu.2
   have hcc:UInt8.ofNat (48+(c.toNat-48))=c:=by
    apply UInt8.toNat_inj.1;rw[fO (by omega)];omega
   by_cases hm:m=[]
   · subst hm
     simp only[List.nil_append,List.headD_cons]at hh ⊢;rw[l7];refine⟨by omega,?_⟩;rw[decDigits,dif_pos (by omega),hcc]
   · have hhm:(m.headD 0).toNat≠48:=by
        cases m with
        | nil=>exact absurd rfl hm
        | cons a m=>simpa using hh
     obtain⟨h1,h2⟩:=ih m hm uu.1 hhm (by simpa using hn);rw[kZ];refine⟨by omega,?_⟩;rw[decDigits,dif_neg (by omega)];rw[show(aI m*10+(c.toNat-48)) / 10=aI m by omega,show(aI m*10+(c.toNat-48))%10=c.toNat-48 by omega,h2,hcc]
theorem jS (l:List UInt8)(h:vld l=true):decDigits (aI l)=l:=by
 obtain⟨h1,h2,h3⟩:=(gJ l).1 h;by_cases hh:(l.headD 0).toNat≠48
 · exact(uG l h1 h2 hh).2
 · rcases h3 with h3|h3
   · match l,h3 with
     | [c],_ =>
       simp only[List.headD_cons]at hh;rw[l7];have:c.toNat=48:=by omega
       rw[this,decDigits,dif_pos (by decide)];congr 1;apply UInt8.toNat_inj.1;rw[this];rfl
   · exact absurd h3 hh
theorem z5t {a b:Nat}(h:decDigits a=decDigits b):a=b:=by rw[← gp a,← gp b,h]
theorem eO {l m:List UInt8}(hl:vld l=true)(hm:vld m=true)(h:l.length<m.length):aI l<aI m:=by
 obtain⟨l1,l2,_⟩:=(gJ l).1 hl;obtain⟨m1,m2,m3⟩:=(gJ m).1 hm;have hlt:=gT l l2;have hl0:0<l.length:=List.length_pos_iff.2 l1
 have hh:(m.headD 0).toNat≠48:=by
  rcases m3 with h3|h3
  · omega
  · exact h3
 cases m with
 | nil=>simp at h
 | cons c m =>
   simp only[List.headD_cons]at hh;simp only[List.all_cons,Bool.and_eq_true]at m2;have hc:=(fw c).1 m2.1;rw[l8];have h1:1*10^m.length≤(c.toNat-48)*10^m.length:=Nat.mul_le_mul_right _ (by omega);have h2:10^l.length≤10^m.length:=Nat.pow_le_pow_right (by decide) (by simp at h;omega);omega
theorem yD {p:List UInt8}{x y:UInt8}{l m:List UInt8}(hl:l.length=m.length)(al:(l.all isD)=true)(hx:isD x=true)(hy:isD y=true)(h:x.toNat<y.toNat) :
 aI (p++x :: l)<aI (p++y :: m):=by
 rw[gU,gU,l8,l8];simp only[List.length_cons,hl];have h1:=gT l al;rw[hl]at h1;have hx':=(fw x).1 hx;have hy':=(fw y).1 hy;have h2:(x.toNat-48+1)*10^m.length≤(y.toNat-48)*10^m.length:=Nat.mul_le_mul_right _ (by omega);rw[Nat.add_mul]at h2;omega
def ae (n:Nat):List Nat:=if _h:n=0 then [] else n%BB :: ae (n / BB)
termination_by n
decreasing_by exact Nat.div_lt_self (by omega) oK
def ai:List Nat→Nat
 | []=>0
 | w :: ws=>w+BB*ai ws
theorem aQ:ae 0=[]:=by rw[ae];simp
theorem bP {n:Nat}(h:n≠0):ae n=n%BB :: ae (n / BB):=by rw[ae,dif_neg h]
theorem lh {w n:Nat}(hw:w<BB)(h:w≠0∨n≠0):ae (w+BB*n)=w :: ae n:=by
 have hB:0<BB:=bN;rw[bP]
 · rw[Nat.add_mul_mod_self_left,Nat.mod_eq_of_lt hw,Nat.add_mul_div_left _ _ hB,Nat.div_eq_of_lt hw,Nat.zero_add]
 · rcases h with h|h
   · omega
   · intro h2
     have:BB*n=0:=by omega
     rcases Nat.mul_eq_zero.1 this with h3|h3
     · exact absurd h3 (by have:=bN;omega)
     · exact h h3
theorem az (n:Nat):ai (ae n)=n:=by
 induction n using Nat.strongRecOn with
 | _ n ih =>
   by_cases h:n=0
   · subst h;rw[aQ];rfl
   · rw[bP h,ai,ih (n / BB) (Nat.div_lt_self (by omega) oK)]
     exact Nat.mod_add_div n BB
theorem aR (n:Nat):∀ w∈ae n,w<BB:=by
 induction n using Nat.strongRecOn with
 | _ n ih =>
   by_cases h:n=0
   · subst h;rw[aQ];simp
   · rw[bP h]
     intro w hw;rcases List.mem_cons.1 hw with hw|hw
     · rw[hw];exact Nat.mod_lt _ bN
     · exact ih (n / BB) (Nat.div_lt_self (by omega) oK) w hw
theorem dW (l m:List Nat):ai (l++m)=ai l+BB^l.length*ai m:=by
 induction l with
 | nil=>simp[ai]
 | cons w l ih=>simp only[List.cons_append,ai,ih,List.length_cons,Nat.pow_succ,Nat.mul_add,Nat.add_assoc];rw[← Nat.mul_assoc BB,Nat.mul_comm BB (BB^l.length)]
theorem dI (l:List Nat)(w:Nat):ai (l++[w])=ai l+BB^l.length*w:=by
 rw[dW];simp[ai]
theorem dS (l:List Nat)(h:∀ w∈l,w<BB):ai l<BB^l.length:=by
 induction l with
 | nil=>simp[ai]
 | cons w l ih =>
   have hw:=h w (by simp);have hl:=ih (fun x hx=>h x (by simp[hx]));simp only[ai,List.length_cons,Nat.pow_succ];have:BB*(ai l+1)≤BB*BB^l.length:=Nat.mul_le_mul_left _ hl;rw[Nat.mul_comm (BB^l.length)];rw[Nat.mul_add]at this;omega
theorem z1H (l:List Nat)(h:∀ w∈l,w<BB)(hl:∀ (hne:l≠[]),l.getLast hne≠0):ae (ai l)=l:=by
 induction l with
 | nil=>exact aQ
 | cons w l ih =>
   have hw:=h w (by simp);by_cases hn:l=[]
   · subst hn
     have h0:w≠0:=by simpa using hl (by simp)
     have:=lh (n:=0) hw (Or.inl h0);rw[aQ]at this;simpa [ai] using this
   · have ih':=ih (fun x hx=>h x (by simp[hx])) (fun hne=>by have:=hl (by simp);rwa [List.getLast_cons hne]at this)
     have h0:ai l≠0:=by
        intro h0;rw[h0,aQ]at ih';exact hn ih'.symm
     rw[ai,lh hw (Or.inr h0),ih']
theorem eQ (l:List Nat)(k:Nat):ai (l++List.replicate k 0)=ai l:=by
 rw[dW]
 have:ai (List.replicate k 0)=0:=by
  induction k with
  | zero=>rfl
  | succ k ih=>rw[List.replicate_succ,ai,ih];rfl
 rw[this];simp
theorem bL {n k:Nat}(h:n<BB^k):(ae n).length≤k:=by
 induction k generalizing n with
 | zero=>obtain rfl:n=0:=by simpa using h
         rw[aQ];simp
 | succ k ih =>
   by_cases h0:n=0
   · subst h0;rw[aQ];simp
   · rw[bP h0,List.length_cons]
     have:n / BB<BB^k:=by rw[Nat.div_lt_iff_lt_mul bN];rwa [Nat.pow_succ]at h
     have:=ih this;omega
theorem dG (n:Nat):n<BB^(ae n).length:=by
 have:=dS (ae n) (aR n);rwa [az]at this
theorem l9 (n:Nat)(hne:ae n≠[]):(ae n).getLast hne≠0:=by
 induction n using Nat.strongRecOn with
 | _ n ih =>
   by_cases h:n=0
   · subst h;exact absurd aQ hne
   · have hlt:n / BB<n:=Nat.div_lt_self (by omega) oK
     by_cases h1:ae (n / BB)=[]
     · have h2:n / BB=0:=by have:=az (n / BB);rw[h1]at this;exact this.symm
       have h3:ae n=[n%BB]:=by rw[bP h,h1]
       simp only[h3,List.getLast_singleton];have:=Nat.mod_add_div n BB;rw[h2]at this;omega
     · have h3:ae n=n%BB :: ae (n / BB):=bP h
       have h4:=ih (n / BB) hlt h1;simp only[h3,List.getLast_cons h1];exact h4
theorem aP {a b:Nat}(h:a≤b):(ae a).length≤(ae b).length :=
 bL (Nat.lt_of_le_of_lt h (dG b))
theorem ek {a b:Nat}(h:(ae a).length<(ae b).length):a<b:=by
 refine Nat.lt_of_not_le fun h2=>?_;have:=aP h2;omega
def pad9 (w:Nat):List UInt8:=(List.range 9).map fun t=>UInt8.ofNat (48+w / 10^(8-t)%10)
theorem kr (w:Nat):(pad9 w).length=9:=by simp[pad9]
theorem jE (v:Nat)(hv:0<v):∀ (k w:Nat),w<10^k→decDigits (v*10^k+w)=decDigits v++(List.range k).map fun t=>UInt8.ofNat (48+w / 10^(k-1-t)%10)
 | 0,w,h=>by obtain rfl:w=0:=by simpa using h
             simp
 | k+1,w,h=>by
   have hp:1≤10^k:=Nat.one_le_pow _ _ (by decide)
   have e1:v*10^(k+1)+w=(v*10^k+w / 10)*10+w%10:=by
    rw[Nat.pow_succ,← Nat.mul_assoc,Nat.add_mul];omega
   have hw:w / 10<10^k:=by rw[Nat.pow_succ]at h;omega
   have hge:1≤v*10^k:=Nat.mul_pos hv hp
   rw[e1,decDigits,dif_neg (by omega),show((v*10^k+w / 10)*10+w%10) / 10=v*10^k+w / 10 by omega,show((v*10^k+w / 10)*10+w%10)%10=w%10 by omega,
    jE v hv k (w / 10) hw,List.range_succ,List.map_append,List.append_assoc]
   congr 1
   congr 1
   · refine List.map_congr_left fun t ht=>?_
     have ht':t<k:=List.mem_range.1 ht;rw[show k+1-1-t=(k-1-t)+1 by omega,Nat.pow_succ,Nat.mul_comm,Nat.div_div_eq_div_mul]
   · simp
theorem z3z {v w:Nat}(hv:0<v)(hw:w<BB):decDigits (w+BB*v)=decDigits v++pad9 w:=by
 have hB:=aG;have:=jE v hv 9 w (by omega);rw[show w+BB*v=v*10^9+w by rw[hB];omega,this];rfl
theorem bU {xs:List Nat}{i:Nat}(h:i<xs.length):xs.getD i 0=xs[i]:=by simp[List.getD,h]
theorem bf {xs:List Nat}{i:Nat}(h:i<xs.length):xs.getD i 0∈xs:=by rw[bU h];exact List.getElem_mem h
theorem z3O {xs:List Nat}{M:Nat}(h:∀ i,i<xs.length→xs.getD i 0<M):∀ w∈xs,w<M:=by
 intro w hw;obtain⟨i,hi,rfl⟩:=List.mem_iff_getElem.1 hw;have:=h i hi;rwa [bU hi]at this
theorem yY {xs:List Nat}{i:Nat}(h:i<xs.length):xs.take (i+1)=xs.take i++[xs.getD i 0]:=by
 rw[List.take_succ_eq_append_getElem h,bU h]
theorem eU {xs:List Nat}{i:Nat}(h:i<xs.length):xs.drop i=xs.getD i 0 :: xs.drop (i+1):=by
 rw[List.drop_eq_getElem_cons h,bU h]
theorem dE {xs:List Nat}{i:Nat}(h:i<xs.length):ai (xs.take (i+1))=ai (xs.take i)+BB^i*xs.getD i 0:=by
 rw[yY h,dI,List.length_take,Nat.min_eq_left (by omega)]
theorem fJ {xs:List Nat}{i:Nat}(h:i<xs.length):ai (xs.drop i)=xs.getD i 0+BB*ai (xs.drop (i+1)):=by
 rw[eU h,ai]
theorem dw (xs:List Nat)(i:Nat)(h:i≤xs.length):ai xs=ai (xs.take i)+BB^i*ai (xs.drop i):=by
 have:=dW (xs.take i) (xs.drop i);rwa [List.take_append_drop,List.length_take,Nat.min_eq_left h]at this
theorem kX {xs:List Nat}{i j v:Nat}:(xs.set i v).getD j 0=if i=j∧j<xs.length then v else xs.getD j 0:=by
 simp only[List.getD,List.getElem?_set];by_cases h:i=j
 · subst h
   by_cases h2:i<xs.length
   · simp[h2]
   · simp[h2]
 · simp[h]
theorem qE {xs:List Nat}{i v:Nat}(h:i<xs.length):ai (xs.set i v)+BB^i*xs.getD i 0=ai xs+BB^i*v:=by
 have h1:=dw (xs.set i v) i (by simp;omega);have h2:=dw xs i (by omega);have h3:i<(xs.set i v).length:=by simpa using h
 rw[fJ h3]at h1;rw[fJ h]at h2;have e1:(xs.set i v).take i=xs.take i:=by rw[List.take_set_of_le (Nat.le_refl _)]
 have e2:(xs.set i v).drop (i+1)=xs.drop (i+1):=by rw[List.drop_set_of_lt (by omega)]
 have e3:(xs.set i v).getD i 0=v:=by rw[kX];simp[h]
 rw[e1,e2,e3,Nat.mul_add]at h1;rw[Nat.mul_add]at h2;omega
theorem z0j {xs:List Nat}(h:∀ i,i<xs.length→xs.getD i 0=0):ai xs=0:=by
 induction xs with
 | nil=>rfl
 | cons w xs ih =>
   have h0:=h 0 (by simp);simp at h0
   have:=ih (fun i hi=>by have:=h (i+1) (by simpa using hi);simpa using this);rw[ai,h0,this];rfl
theorem oL {xs:List Nat}{n:Nat}(h:∀ i,n≤i→i<xs.length→xs.getD i 0=0):ai (xs.drop n)=0:=by
 refine z0j fun i hi=>?_;have:=h (n+i) (by omega) (by simp at hi;omega);simpa [List.getD] using this
theorem gV {xs:List Nat}{n:Nat}(hn:n≤xs.length)(hB:∀ w∈xs,w<BB)(hz:∀ i,n≤i→i<xs.length→xs.getD i 0=0)(hl:n=0∨xs.getD (n-1) 0≠0):ae (ai xs)=xs.take n:=by
 have h1:=dw xs n hn;rw[oL hz,Nat.mul_zero,Nat.add_zero]at h1;rw[h1];refine z1H _ (fun w hw=>hB w (List.mem_of_mem_take hw)) fun hne=>?_;have hn0:n≠0:=by intro h;subst h;simp at hne
 have h2:(xs.take n).getLast hne=xs.getD (n-1) 0:=by
  rw[List.getLast_eq_getElem,bU (by omega)];simp[Nat.min_eq_left hn]
 rw[h2];rcases hl with hl|hl
 · exact absurd hl hn0
 · exact hl
theorem jO {xs ys:List Nat}{i:Nat}(hl:xs.length=ys.length)(hi:i<xs.length)(hx:∀ w∈xs,w<BB)(he:∀ j,i<j→j<xs.length→xs.getD j 0=ys.getD j 0)(h:xs.getD i 0<ys.getD i 0):ai xs<ai ys:=by
 have h1:=dw xs (i+1) (by omega);have h2:=dw ys (i+1) (by omega)
 have e:xs.drop (i+1)=ys.drop (i+1):=by
  apply List.ext_getElem (by simp[hl])
  intro k hk1 hk2;simp at hk1 hk2 ⊢
  have:=he (i+1+k) (by omega) (by omega);rwa [bU (by omega),bU (by omega)]at this
 rw[dE hi]at h1;rw[dE (by omega),← e]at h2;have h3:=dS (xs.take i) (fun w hw=>hx w (List.mem_of_mem_take hw));rw[List.length_take,Nat.min_eq_left (by omega)]at h3;have h4:BB^i*(xs.getD i 0+1)≤BB^i*ys.getD i 0:=Nat.mul_le_mul_left _ (by omega);rw[Nat.mul_add]at h4;omega
theorem o8 {xs ys:List Nat}(hl:xs.length=ys.length)(he:∀ j,j<xs.length→xs.getD j 0=ys.getD j 0):xs=ys:=by
 apply List.ext_getElem hl
 intro k hk1 hk2;have:=he k hk1;rwa [bU hk1,bU hk2]at this
theorem bW {xs:List Nat}{n:Nat}(h:∀ w∈xs,w<BB)(hl:xs.length≤n):ai xs<BB^n :=
 Nat.lt_of_lt_of_le (dS xs h) (Nat.pow_le_pow_right bN hl)
def dm (x y os:List Nat) (i c:Nat):Prop:=os.length=i∧(∀ w∈os,w<BB)∧c≤1∧ai os+BB^i*c=ai (x.take i)+ai (y.take i)
theorem dm.start (x y:List Nat):dm x y [] 0 0:=⟨rfl,by simp,by omega,by simp[ai]⟩
theorem aJ (y:List Nat)(i:Nat):ai (y.take (i+1))=ai (y.take i)+BB^i*y.getD i 0:=by
 by_cases h:i<y.length
 · exact dE h
 · rw[List.take_of_length_le (by omega),List.take_of_length_le (by omega)]
   simp[List.getD,List.getElem?_eq_none (show y.length≤i by omega)]
theorem dm.small {x y os:List Nat}{i c:Nat}(h:dm x y os i c)(hs:x.getD i 0+y.getD i 0+c<BB):dm x y (os++[x.getD i 0+y.getD i 0+c]) (i+1) 0:=by
 obtain⟨h1,h2,h3,h4⟩:=h;refine⟨by simp[h1],?_,by omega,?_⟩
 · intro w hw
   rcases List.mem_append.1 hw with hw|hw
   · exact h2 w hw
   · have hw:=List.mem_singleton.1 hw;omega
 · rw[dI,h1,aJ,aJ,Nat.mul_add,Nat.mul_add,Nat.mul_zero];omega
theorem dm.big {x y os:List Nat}{i c:Nat}(h:dm x y os i c)(hx:x.getD i 0<BB)(hy:y.getD i 0<BB)(hs:BB≤x.getD i 0+y.getD i 0+c):dm x y (os++[x.getD i 0+y.getD i 0+c-BB]) (i+1) 1:=by
 obtain⟨h1,h2,h3,h4⟩:=h;refine⟨by simp[h1],?_,by omega,?_⟩
 · intro w hw
   rcases List.mem_append.1 hw with hw|hw
   · exact h2 w hw
   · have hw:=List.mem_singleton.1 hw;omega
 · rw[dI,h1,aJ,aJ,Nat.mul_one,Nat.pow_succ]
   have e:BB^i*(x.getD i 0+y.getD i 0+c-BB)+BB^i*BB=BB^i*(x.getD i 0+y.getD i 0+c):=by rw[← Nat.mul_add,show x.getD i 0+y.getD i 0+c-BB+BB=x.getD i 0+y.getD i 0+c by omega]
   rw[Nat.mul_add,Nat.mul_add]at e;omega
theorem dm.done {x y os:List Nat}{c:Nat}(h:dm x y os x.length c)(hl:y.length≤x.length):ai (os++[c])=ai x+ai y∧∀ w∈os++[c],w<BB:=by
 obtain⟨h1,h2,h3,h4⟩:=h;rw[List.take_of_length_le (Nat.le_refl _),List.take_of_length_le hl]at h4;refine⟨by rw[dI,h1];exact h4,fun w hw=>?_⟩;rcases List.mem_append.1 hw with hw|hw
 · exact h2 w hw
 · have hw:=List.mem_singleton.1 hw;have:=oK;omega
def eF (x y os:List Nat) (i c:Nat):Prop:=os.length=i∧(∀ w∈os,w<BB)∧c≤1∧ai os+ai (y.take i)=ai (x.take i)+BB^i*c
theorem eF.start (x y:List Nat):eF x y [] 0 0:=⟨rfl,by simp,by omega,by simp[ai]⟩
theorem eF.small {x y os:List Nat}{i c:Nat}(h:eF x y os i c)(hx:x.getD i 0<BB)(hs:y.getD i 0+c≤x.getD i 0):eF x y (os++[x.getD i 0-(y.getD i 0+c)]) (i+1) 0:=by
 obtain⟨h1,h2,h3,h4⟩:=h;refine⟨by simp[h1],?_,by omega,?_⟩
 · intro w hw
   rcases List.mem_append.1 hw with hw|hw
   · exact h2 w hw
   · have hw:=List.mem_singleton.1 hw;omega
 · rw[dI,h1,aJ,aJ,Nat.mul_zero]
   have e:BB^i*(x.getD i 0-(y.getD i 0+c))+BB^i*(y.getD i 0+c)=BB^i*x.getD i 0:=by rw[← Nat.mul_add,show x.getD i 0-(y.getD i 0+c)+(y.getD i 0+c)=x.getD i 0 by omega]
   rw[Nat.mul_add (BB^i) (y.getD i 0)]at e;omega
theorem eF.big {x y os:List Nat}{i c:Nat}(h:eF x y os i c)(hy:y.getD i 0<BB)(hs:x.getD i 0<y.getD i 0+c):eF x y (os++[x.getD i 0+BB-(y.getD i 0+c)]) (i+1) 1:=by
 obtain⟨h1,h2,h3,h4⟩:=h;refine⟨by simp[h1],?_,by omega,?_⟩
 · intro w hw
   rcases List.mem_append.1 hw with hw|hw
   · exact h2 w hw
   · have hw:=List.mem_singleton.1 hw;omega
 · rw[dI,h1,aJ,aJ,Nat.mul_one,Nat.pow_succ]
   have e:BB^i*(x.getD i 0+BB-(y.getD i 0+c))+BB^i*(y.getD i 0+c)=BB^i*(x.getD i 0+BB):=by rw[← Nat.mul_add,show x.getD i 0+BB-(y.getD i 0+c)+(y.getD i 0+c)=x.getD i 0+BB by omega]
   rw[Nat.mul_add (BB^i) (y.getD i 0),Nat.mul_add]at e;omega
theorem eF.done {x y os:List Nat}{c:Nat}(h:eF x y os x.length c)(hl:y.length≤x.length)(hle:ai y≤ai x):ai os=ai x-ai y∧∀ w∈os,w<BB:=by
 obtain⟨h1,h2,h3,h4⟩:=h;rw[List.take_of_length_le (Nat.le_refl _),List.take_of_length_le hl]at h4;refine⟨?_,h2⟩;have hlt:=dS os h2;rw[h1]at hlt
 have:c=0:=by
  rcases Nat.eq_zero_or_pos c with h|h
  · exact h
  · obtain rfl:c=1:=by omega
    omega
 subst this;omega
theorem z3w {X Y r d:Nat}(w:Nat)(h:X=Y*d+r)(hr:r<d):w+BB*X=(BB*Y+(r*BB+w) / d)*d+(r*BB+w)%d∧(r*BB+w)%d<d:=by
 have hd:0<d:=by omega
 refine⟨?_,Nat.mod_lt _ hd⟩;have:=Nat.div_add_mod (r*BB+w) d;rw[Nat.add_mul,Nat.add_assoc,Nat.mul_comm ((r*BB+w) / d) d,this,h,Nat.mul_add,Nat.mul_assoc,Nat.mul_comm BB r];omega
theorem o9 {r w d:Nat}(hr:r<d)(hw:w<BB):(r*BB+w) / d<BB:=by
 rw[Nat.div_lt_iff_lt_mul (by omega)];have h:(r+1)*BB≤d*BB:=Nat.mul_le_mul_right _ hr;rw[Nat.add_mul,Nat.mul_comm d]at h;omega
end Go.Gb
namespace Go.Proofs.YtoaeaiiabelhkaaGreatDoor
open Go.RowKit
theorem hbt {w a b : World} (h : Hid (Below w.heap.size w a)) (k : Below a.heap.size a b) : Hid (Below w.heap.size w b) := Lib.hid (h.out.trans (k.mono h.out.size))
end Go.Proofs.YtoaeaiiabelhkaaGreatDoor
namespace Go.Gb
open Go Go.MapKept Go.RowKit
structure PutAt (b:Nat) (es:Array MapEntry) (clock:Nat) (w w':World):Prop where
 below:Below b w w'
 size:w'.heap.size=w.heap.size
 here:w'.heap[b]? = some (.map es clock)
theorem jB {P:Program}(w:World)(t k e:TypeId)(d:TypeDesc)(ht:P.underlying t=some (.map k e))(hd:P.underlying k=some d)(b:Nat)(es:Array MapEntry)(clock:Nat)
 (hb:w.heap[b]? = some (.map es clock)) (key val:Value) (hk:IsKey d key) (hf:Instr.findNow d key es.toList 0=some none) :
 ∃ w',(Instr.mapUpdate t (.map (some b)) key val).run P w=.ok () w'∧PutAt b (es.push ⟨key,val,clock⟩) (clock+1) w w':=by
 have hrun:(Instr.mapUpdate t (.map (some b)) key val).run P w=.ok () { w with heap:=w.heap.setIfInBounds b (.map (es.push ⟨key,val,clock⟩) (clock+1)) }:=by
  simp[Instr.mapUpdate,run_underlying ht,MapKept.run_getObj_map hb,MapKept.run_checkKey hd hk,MapKept.run_findKey hd hf,MapKept.run_setObj_map _ hb,Result.andThen]
 refine⟨_,hrun,?_⟩
 have hlt:b<w.heap.size:=by
  rcases Nat.lt_or_ge b w.heap.size with h|h
  · exact h
  · rw[Array.getElem?_eq_none h]at hb;cases hb
 refine⟨⟨rfl,rfl,rfl,by simp,fun i hi=>?_⟩,by simp,?_⟩
 · show(w.heap.setIfInBounds b _)[i]? = w.heap[i]?
   rw[Array.getElem?_setIfInBounds_ne (by omega)]
 · show(w.heap.setIfInBounds b _)[b]? = _
   rw[Array.getElem?_setIfInBounds_self_of_lt hlt]
theorem z1g {P:Program}(w:World)(t k e:TypeId)(d:TypeDesc)(ht:P.underlying t=some (.map k e))(hd:P.underlying k=some d)(b:Nat)(es:Array MapEntry)(clock:Nat)
 (hb:w.heap[b]? = some (.map es clock)) (key:Value) (hk:IsKey d key) (i:Nat) (val:Value) (hf:Instr.findNow d key es.toList 0=some (some (i,val))) :
 (Instr.lookup t (.map (some b)) key false).run P w=.ok val w:=by
 simp[Instr.lookup,run_underlying ht,MapKept.run_getObj_map hb,MapKept.run_checkKey hd hk,MapKept.run_findKey hd hf,Result.andThen]
end Go.Gb
namespace Go.Gb
def cosQ (t:Rat):Rat:=(1-t*t) / (1+t*t)
def sinQ (t:Rat):Rat:=2*t / (1+t*t)
theorem z4Q (t:Rat):0<1+t*t:=by
 have:0≤t*t:=by
  rcases Rat.le_total (a:=0) (b:=t) with h|h
  · exact Rat.mul_nonneg h h
  · have:=Rat.mul_nonneg (show 0 ≤ -t by grind) (show 0 ≤ -t by grind)
    grind
 grind
theorem z4g (t:Rat):1+t*t≠0:=by have:=z4Q t;grind
theorem vz {a b:Rat}(ha:0≤a)(hb:0<b):0≤a / b:=by
 rcases Rat.le_total (a:=0) (b:=a / b) with h|h
 · exact h
 · have h2:a / b*b=a:=Rat.div_mul_cancel (by grind)
   have h3:=Rat.mul_nonneg (show 0 ≤ -(a / b) by grind) (show 0≤b by grind);have h4:a=0:=by grind
   rw[h4];grind
def sumQ (s t:Rat):Rat:=(s+t) / (1-s*t)
def powU (x:Rat):Nat→Rat
 | 0=>x
 | i+1=>powU x i*(0-x*x)
def iK (x:Rat) (i:Nat):Rat:=powU x i / ((2*i+1:Nat):Rat)
def serU (x:Rat):Nat→Rat
 | 0=>0
 | n+1=>serU x n+iK x n
