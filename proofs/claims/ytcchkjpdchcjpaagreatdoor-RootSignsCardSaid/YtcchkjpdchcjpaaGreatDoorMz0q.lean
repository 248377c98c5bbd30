/- texts -/
import Derived.Lib.Hide
import Derived.StillTail
import Derived.Carry
import Derived.Test.YtcchkjpdchcjpaaGreatDoorProg
import Derived.Shelf.Strings.Repeat
namespace Go.RowKit
theorem Hid.o {p:Prop}(h:Hid p):p:=h
end Go.RowKit
open Go.Proofs.Tryz
namespace Go.Gb
open Go.RowKit
class Gr (p:Prop)(W W':World)(q:outParam Prop):Prop where g:Below W.heap.size W W'→p→q
theorem aH {A B:Prop} (a:A) (b:B):RowKit.Hid A∧RowKit.Hid B:=⟨a,b⟩
theorem ae {A B C:Prop} (a:A) (b:B) (c:C):RowKit.Hid A∧RowKit.Hid B∧RowKit.Hid C:=⟨a,b,c⟩
theorem aY {A B C D:Prop} (a:A) (b:B) (c:C) (d:D):RowKit.Hid A∧RowKit.Hid B∧RowKit.Hid C∧RowKit.Hid D:=⟨a,b,c,d⟩
theorem bO {A B C D E:Prop} (a:A) (b:B) (c:C) (d:D) (e:E):RowKit.Hid A∧RowKit.Hid B∧RowKit.Hid C∧RowKit.Hid D∧RowKit.Hid E:=⟨a,b,c,d,e⟩
theorem bX {A B C D E F:Prop} (a:A) (b:B) (c:C) (d:D) (e:E) (f:F):RowKit.Hid A∧RowKit.Hid B∧RowKit.Hid C∧RowKit.Hid D∧RowKit.Hid E∧RowKit.Hid F:=⟨a,b,c,d,e,f⟩
theorem fK {A B C D E F G:Prop} (a:A) (b:B) (c:C) (d:D) (e:E) (f:F) (g:G):RowKit.Hid A∧RowKit.Hid B∧RowKit.Hid C∧RowKit.Hid D∧RowKit.Hid E∧RowKit.Hid F∧RowKit.Hid G:=⟨a,b,c,d,e,f,g⟩
theorem eO {A B C D E F G H:Prop} (a:A) (b:B) (c:C) (d:D) (e:E) (f:F) (g:G) (h:H):RowKit.Hid A∧RowKit.Hid B∧RowKit.Hid C∧RowKit.Hid D∧RowKit.Hid E∧RowKit.Hid F∧RowKit.Hid G∧RowKit.Hid H:=⟨a,b,c,d,e,f,g,h⟩
theorem bZ {A B C D E F G H I:Prop} (a:A) (b:B) (c:C) (d:D) (e:E) (f:F) (g:G) (h:H) (i:I):RowKit.Hid A∧RowKit.Hid B∧RowKit.Hid C∧RowKit.Hid D∧RowKit.Hid E∧RowKit.Hid F∧RowKit.Hid G∧RowKit.Hid H∧RowKit.Hid I:=⟨a,b,c,d,e,f,g,h,i⟩
theorem ax {W W':World} {p0 q0 p1 q1:Prop} (h:Below W.heap.size W W') (a0:Hid p0) (a1:Hid p1) [i0:Gr p0 W W' q0] [i1:Gr p1 W W' q1]:Hid q0∧Hid q1:=⟨i0.g h a0,i1.g h a1⟩
theorem aI {W W':World} {p0 q0 p1 q1 p2 q2:Prop} (h:Below W.heap.size W W') (a0:Hid p0) (a1:Hid p1) (a2:Hid p2) [i0:Gr p0 W W' q0] [i1:Gr p1 W W' q1] [i2:Gr p2 W W' q2]:Hid q0∧Hid q1∧Hid q2:=⟨i0.g h a0,i1.g h a1,i2.g h a2⟩
theorem bI {W W':World} {p0 q0 p1 q1 p2 q2 p3 q3:Prop} (h:Below W.heap.size W W') (a0:Hid p0) (a1:Hid p1) (a2:Hid p2) (a3:Hid p3) [i0:Gr p0 W W' q0] [i1:Gr p1 W W' q1] [i2:Gr p2 W W' q2] [i3:Gr p3 W W' q3]:Hid q0∧Hid q1∧Hid q2∧Hid q3:=⟨i0.g h a0,i1.g h a1,i2.g h a2,i3.g h a3⟩
theorem dQ {W W':World} {p0 q0 p1 q1 p2 q2 p3 q3 p4 q4:Prop} (h:Below W.heap.size W W') (a0:Hid p0) (a1:Hid p1) (a2:Hid p2) (a3:Hid p3) (a4:Hid p4) [i0:Gr p0 W W' q0] [i1:Gr p1 W W' q1] [i2:Gr p2 W W' q2] [i3:Gr p3 W W' q3] [i4:Gr p4 W W' q4]:Hid q0∧Hid q1∧Hid q2∧Hid q3∧Hid q4:=⟨i0.g h a0,i1.g h a1,i2.g h a2,i3.g h a3,i4.g h a4⟩
theorem jL {W W':World} {p0 q0 p1 q1 p2 q2 p3 q3 p4 q4 p5 q5:Prop} (h:Below W.heap.size W W') (a0:Hid p0) (a1:Hid p1) (a2:Hid p2) (a3:Hid p3) (a4:Hid p4) (a5:Hid p5) [i0:Gr p0 W W' q0] [i1:Gr p1 W W' q1] [i2:Gr p2 W W' q2] [i3:Gr p3 W W' q3] [i4:Gr p4 W W' q4] [i5:Gr p5 W W' q5]:Hid q0∧Hid q1∧Hid q2∧Hid q3∧Hid q4∧Hid q5:=⟨i0.g h a0,i1.g h a1,i2.g h a2,i3.g h a3,i4.g h a4,i5.g h a5⟩
theorem xw {W W':World} {p0 q0 p1 q1 p2 q2 p3 q3 p4 q4 p5 q5 p6 q6 p7 q7:Prop} (h:Below W.heap.size W W') (a0:Hid p0) (a1:Hid p1) (a2:Hid p2) (a3:Hid p3) (a4:Hid p4) (a5:Hid p5) (a6:Hid p6) (a7:Hid p7) [i0:Gr p0 W W' q0] [i1:Gr p1 W W' q1] [i2:Gr p2 W W' q2] [i3:Gr p3 W W' q3] [i4:Gr p4 W W' q4] [i5:Gr p5 W W' q5] [i6:Gr p6 W W' q6] [i7:Gr p7 W W' q7]:Hid q0∧Hid q1∧Hid q2∧Hid q3∧Hid q4∧Hid q5∧Hid q6∧Hid q7:=⟨i0.g h a0,i1.g h a1,i2.g h a2,i3.g h a3,i4.g h a4,i5.g h a5,i6.g h a6,i7.g h a7⟩
end Go.Gb
namespace Go.Proofs.YtcchkjpdchcjpaaGreatDoor
open Go.RowKit
theorem hbt {w a b : World} (h : Hid (Below w.heap.size w a)) (k : Below a.heap.size a b) : Hid (Below w.heap.size w b) := Lib.hid (h.out.trans (k.mono h.out.size))
end Go.Proofs.YtcchkjpdchcjpaaGreatDoor
namespace Go.Gb
open Go
section
variable {P:Program} {ops:Array Oper} {Q:Exit→Act→World→Prop} {md:Region.Mode}
def Closed (md:Region.Mode) (ops:Array Oper) (u6:Array Bool):Prop:=∀ j i,u6.getD j false=true→Region.waitsFor md ops j i=true→u6.getD i false=true
theorem z1m {j i:Nat}{o:Oper}(ho:ops[j]? = some o)(h:Region.waitsFor md ops j i=true):∃ e∈o.after,Region.binds md e=true∧e.on=i:=by
 obtain⟨o',ho',e,he,hb⟩:=Region.waitsFor_spec h;obtain rfl:o'=o:=Option.some.inj (ho'.symm.trans ho);exact⟨e,he,hb⟩
theorem j6 {u6:Array Bool}{j i:Nat}(hj:j∈Region.ready md ops u6)(h:Region.waitsFor md ops j i=true):u6.getD i false=true:=by
 obtain⟨_,o,ho,w9⟩:=mem_ready.1 hj;obtain⟨e,he,hb,rfl⟩:=z1m ho h;exact w9 e he hb
theorem qE {u6:Array Bool}{j:Nat}(hj:j∈Region.ready md ops u6):u6.getD j true=false:=(mem_ready.1 hj).1
theorem ig {u6:Array Bool}{j:Nat}(hj:j∈Region.ready md ops u6):j<ops.size:=by
 obtain⟨_,o,ho,_⟩:=mem_ready.1 hj;exact(Array.getElem?_eq_some_iff.1 ho).1
theorem jR {u6:Array Bool}{i j:Nat}(h:(u6.setIfInBounds i true).getD j false=true):j=i∨u6.getD j false=true:=by
 by_cases hij:j=i
 · exact Or.inl hij
 · right
   simp only[Array.getD_eq_getD_getElem?]at h ⊢;rwa [Array.getElem?_setIfInBounds_ne (Ne.symm hij)]at h
theorem kJ {u6:Array Bool}{i j:Nat}(h:u6.getD j false=true):(u6.setIfInBounds i true).getD j false=true:=by
 simp only[Array.getD_eq_getD_getElem?]at h ⊢;by_cases hij:i=j
 · subst hij
   rw[Array.getElem?_setIfInBounds_self];split
   · rfl
   · rename_i hlt
     rw[Array.getElem?_eq_none (by omega)]at h;exact h
 · rw[Array.getElem?_setIfInBounds_ne hij];exact h
theorem Closed.set {u6:Array Bool}{i:Nat}(h:Closed md ops u6)(hi:i∈Region.ready md ops u6):Closed md ops (u6.setIfInBounds i true):=by
 intro j k hj hw;rcases jR hj with rfl|hj
 · exact kJ (j6 hi hw)
 · exact kJ (h j k hj hw)
theorem nW (n:Nat):Closed md ops (Array.replicate n false):=by
 intro j i hj _;exfalso
 simp only[Array.getD_eq_getD_getElem?,Array.getElem?_replicate]at hj;split at hj<;>simp at hj
theorem rX (I:Array Bool→Act→World→Prop)
 (hstep:∀ u6 a w i,I u6 a w→i∈Region.ready md ops u6→wpOp P ops Q i (fun a' w'=>I (u6.setIfInBounds i true) a' w') a w)
 (hend:∀ u6 a w,I u6 a w→Region.ready md ops u6=[]→Q .normal a w) :
 ∀ (n:Nat) (U:List Nat) (u6:Array Bool) (a:Act) (w:World),U.length=n→U.Nodup→(∀ i,i∈U↔(i<ops.size∧u6.getD i true=false))→u6.size=ops.size→I u6 a w→wpAny P md ops Q n u6 a w
 | 0,U,u6,a,w,hn,_,hU,_,hI=>by
   have h0:Region.ready md ops u6=[]:=by
    apply List.eq_nil_iff_forall_not_mem.2
    intro i hi;have hm:=(hU i).2 ⟨ig hi,qE hi⟩;rw[List.length_eq_zero_iff.1 hn]at hm;cases hm
   exact⟨h0,hend u6 a w hI h0⟩
 | n+1,U,u6,a,w,hn,hd,hU,hs,hI=>by
   refine⟨fun h0=>hend u6 a w hI h0,fun i hi=>?_⟩;refine wpOp_mono (fun a' w' hI'=>?_) (hstep u6 a w i hI hi);have hm:=(hU i).2 ⟨ig hi,qE hi⟩;refine rX I hstep hend n (U.erase i) _ a' w' (by rw[List.length_erase_of_mem hm,hn];rfl) (hd.erase i) (fun j=>?_) (by simpa using hs) hI';rw[hd.mem_erase_iff,hU j];simp only[Array.getD_eq_getD_getElem?];by_cases hij:j=i
   · subst hij
     rw[Array.getElem?_setIfInBounds_self_of_lt (by rw[hs];exact ig hi)];simp
   · rw[Array.getElem?_setIfInBounds_ne (Ne.symm hij)]
     simp[hij]
theorem iX {id:Nat}{a:Act}{w:World}(hm:P.follows .mixedOrders=true)(I:Array Bool→Act→World→Prop)
 (hstart:I (Array.replicate ops.size false) a w.drew)
 (hstep:∀ u6 a w i,I u6 a w→i∈Region.ready .any ops u6→wpOp P ops Q i (fun a' w'=>I (u6.setIfInBounds i true) a' w') a w)
 (hend:∀ u6 a w,I u6 a w→Region.ready .any ops u6=[]→Q .normal a w):(Code.region id ops true).wp P Q a w:=by
 refine wp_region_any hm ?_;refine rX I hstep hend ops.size (List.range ops.size) _ a _ (by simp) List.nodup_range (fun i=>?_) (by simp) hstart;rw[List.mem_range];simp only[Array.getD_eq_getD_getElem?,Array.getElem?_replicate];constructor
 · intro h;exact⟨h,by rw[if_pos h];rfl⟩
 · intro h;exact h.1
def yR (md:Region.Mode) (ops:Array Oper):Bool:=(List.range ops.size).all fun j=>match ops[j]? with
 | some o=>o.after.all fun e => !Region.binds md e || decide (e.on<j)
 | none=>true
theorem z4e (hb:yR md ops=true){j i:Nat}(h:Region.waitsFor md ops j i=true):i<j:=by
 obtain⟨o,ho,e,he,hbi,rfl⟩:=Region.waitsFor_spec h;have hj:j<ops.size:=(Array.getElem?_eq_some_iff.1 ho).1;have h1:=List.all_eq_true.1 hb j (List.mem_range.2 hj);rw[ho]at h1;simp only at h1;have h2:=Array.all_eq_true'.1 h1 e he;rw[hbi]at h2;simpa using h2
theorem iV {u6:Array Bool}(hs:u6.size=ops.size)(hb:yR md ops=true)(h:Region.ready md ops u6=[]):∀ j,j<ops.size→u6.getD j false=true:=by
 intro j
 induction j using Nat.strongRecOn with
 | _ j ih =>
   intro hj
   cases hl:u6.getD j true with
   | true =>
     simp only[Array.getD_eq_getD_getElem?]at hl ⊢;have hlt:j<u6.size:=by omega
     rw[Array.getElem?_eq_getElem hlt]at hl ⊢;exact hl
   | false =>
     exfalso
     obtain⟨o,ho⟩:∃ o,ops[j]? = some o:=⟨ops[j],Array.getElem?_eq_getElem hj⟩
     have hr:j∈Region.ready md ops u6:=by
       refine mem_ready.2 ⟨hl,o,ho,fun e he hbi=>?_⟩
       have hw:Region.waitsFor md ops j e.on=true:=by
        unfold Region.waitsFor
        rw[ho];simp only;refine Array.any_eq_true'.2 ⟨e,he,?_⟩;simp[hbi]
       have h1:=z4e hb hw;exact ih e.on h1 (by omega)
     rw[h]at hr;cases hr
theorem nu {u6:Array Bool}{j:Nat}(hj:j∈Region.ready md ops u6):u6.getD j false=false:=by
 have h:=qE hj;simp only[Array.getD_eq_getD_getElem?]at h ⊢
 cases hc:u6[j]? with
 | none=>rw[hc]at h;simp at h
 | some b=>rw[hc]at h;simpa using h
end
end Go.Gb
namespace Go.Gb
open Go Go.MapKept Go.RowKit
structure PutAt (b:Nat) (es:Array MapEntry) (clock:Nat) (w w':World):Prop where
 below:Below b w w'
 size:w'.heap.size=w.heap.size
 here:w'.heap[b]? = some (.map es clock)
theorem jr {P:Program}(w:World)(t k e:TypeId)(d:TypeDesc)(ht:P.underlying t=some (.map k e))(hd:P.underlying k=some d)(b:Nat)(es:Array MapEntry)(clock:Nat)
 (hb:w.heap[b]? = some (.map es clock)) (key val:Value) (hk:IsKey d key) (hf:Instr.findNow d key es.toList 0=some none) :
 ∃ w',(Instr.mapUpdate t (.map (some b)) key val).run P w=.ok () w'∧PutAt b (es.push ⟨key,val,clock⟩) (clock+1) w w':=by
 have hrun:(Instr.mapUpdate t (.map (some b)) key val).run P w=.ok () { w with heap:=w.heap.setIfInBounds b (.map (es.push ⟨key,val,clock⟩) (clock+1)) }:=by
  simp[Instr.mapUpdate,run_underlying ht,MapKept.run_getObj_map hb,MapKept.run_checkKey hd hk,MapKept.run_findKey hd hf,MapKept.run_setObj_map _ hb,Result.andThen]
 refine⟨_,hrun,?_⟩
 have hlt:b<w.heap.size:=by
  rcases Nat.lt_or_ge b w.heap.size with h|h
  · exact h
  · rw[Array.getElem?_eq_none h]at hb;cases hb
 refine⟨⟨rfl,rfl,rfl,by simp,fun i hi=>?_⟩,by simp,?_⟩
 · show(w.heap.setIfInBounds b _)[i]? = w.heap[i]?
   rw[Array.getElem?_setIfInBounds_ne (by omega)]
 · show(w.heap.setIfInBounds b _)[b]? = _
   rw[Array.getElem?_setIfInBounds_self_of_lt hlt]
theorem z0y {P:Program}(w:World)(t k e:TypeId)(d:TypeDesc)(ht:P.underlying t=some (.map k e))(hd:P.underlying k=some d)(b:Nat)(es:Array MapEntry)(clock:Nat)
 (hb:w.heap[b]? = some (.map es clock)) (key:Value) (hk:IsKey d key) (i:Nat) (val:Value) (hf:Instr.findNow d key es.toList 0=some (some (i,val))) :
 (Instr.lookup t (.map (some b)) key false).run P w=.ok val w:=by
 simp[Instr.lookup,run_underlying ht,MapKept.run_getObj_map hb,MapKept.run_checkKey hd hk,MapKept.run_findKey hd hf,Result.andThen]
end Go.Gb
namespace Go.Gb
def isq:Nat→Nat
 | 0=>0
 | n+1=>if (isq n+1)*(isq n+1)≤n+1 then isq n+1 else isq n
theorem jJ:∀ n,isq n*isq n≤n∧n<(isq n+1)*(isq n+1)
 | 0=>by decide
 | n+1=>by
   have⟨h1,h2⟩:=jJ n;unfold isq
   split
   · next h=>exact⟨h,Nat.lt_of_le_of_lt h2 (by grind)⟩
   · next h=>exact⟨by omega,by omega⟩
theorem mG {n s:Nat}(h1:s*s≤n)(h2:n<(s+1)*(s+1)):isq n=s:=by
 have⟨g1,g2⟩:=jJ n;rcases Nat.lt_trichotomy (isq n) s with h|h|h
 · have:=Nat.mul_le_mul (show isq n+1≤s by omega) (show isq n+1≤s by omega)
   omega
 · exact h
 · have:=Nat.mul_le_mul (show s+1≤isq n by omega) (show s+1≤isq n by omega)
   omega
theorem z3V {n:Nat}(h:0<n):0<isq n:=by
 have⟨_,g2⟩:=jJ n;rcases Nat.eq_zero_or_pos (isq n) with h0|h0
 · rw[h0]at g2;omega
 · exact h0
theorem pG (n:Nat):isq n≤n:=by
 have⟨h,_⟩:=jJ n;rcases Nat.eq_zero_or_pos (isq n) with h0|h0
 · omega
 · exact Nat.le_trans (Nat.le_mul_of_pos_left _ h0) h
end Go.Gb
namespace Go.Proofs
open Go.Shelf
def Tryz.lays105_ren:Go.Shelf.Ren:=⟨fun|105=>90|212=>113|99=>114|165=>115|166=>116|170=>117|169=>118|263=>137|264=>138|206=>139|240=>140|241=>141|276=>172|277=>173|n=>n,fun|9=>9|3=>3|4=>4|20=>20|0=>0|46=>140|109=>141|5=>5|72=>146|76=>150|51=>81|146=>168|53=>101|148=>170|70=>143|37=>144|75=>149|127=>172|164=>202|80=>152|n=>n,fun|n=>n⟩
theorem Tryz.lays105:Go.Proofs.Lays.n105 Tryz.prog Tryz.lays105_ren:={
 mixed:=by kernel_rfl
 f99:=func114.trans (congrArg some (by kernel_rfl))
 f105:=func90.trans (congrArg some (by kernel_rfl))
 f165:=func115.trans (congrArg some (by kernel_rfl))
 f166:=func116.trans (congrArg some (by kernel_rfl))
 f169:=func118.trans (congrArg some (by kernel_rfl))
 f170:=func117.trans (congrArg some (by kernel_rfl))
 f206:=func139.trans (congrArg some (by kernel_rfl))
 f212:=func113.trans (congrArg some (by kernel_rfl))
 f240:=func140.trans (congrArg some (by kernel_rfl))
 f241:=func141.trans (congrArg some (by kernel_rfl))
 f263:=func137.trans (congrArg some (by kernel_rfl))
 f264:=func138.trans (congrArg some (by kernel_rfl))
 f276:=func172.trans (congrArg some (by kernel_rfl))
 f277:=func173.trans (congrArg some (by kernel_rfl))
 t0:=underlying0
 a0:=isAgg0
 z0:=sizeOf0
 v0:=zeroValue0
 t3:=underlying3
 a3:=isAgg3
 z3:=sizeOf3
 v3:=zeroValue3
 t4:=underlying4
 a4:=isAgg4
 z4:=sizeOf4
 v4:=zeroValue4
 t5:=underlying5
 a5:=isAgg5
 z5:=sizeOf5
 v5:=zeroValue5
 t9:=underlying9
 a9:=isAgg9
 z9:=sizeOf9
 v9:=zeroValue9
 t20:=underlying20
 a20:=isAgg20
 z20:=sizeOf20
 v20:=zeroValue20
 t37:=underlying144
 a37:=isAgg144
 z37:=sizeOf144
 v37:=zeroValue144
 t46:=underlying140
 a46:=isAgg140
 z46:=sizeOf140
 v46:=zeroValue140
 t51:=underlying81
 a51:=isAgg81
 z51:=sizeOf81
 v51:=zeroValue81
 t53:=underlying101
 a53:=isAgg101
 z53:=sizeOf101
 v53:=zeroValue101
 t70:=underlying143
 a70:=isAgg143
 z70:=sizeOf143
 v70:=zeroValue143
 t72:=underlying146
 a72:=isAgg146
 z72:=sizeOf146
 v72:=zeroValue146
 t75:=underlying149
 a75:=isAgg149
 z75:=sizeOf149
 v75:=zeroValue149
 t76:=underlying150
 a76:=isAgg150
 z76:=sizeOf150
 v76:=zeroValue150
 t109:=underlying141
 a109:=isAgg141
 z109:=sizeOf141
 v109:=zeroValue141
 t127:=underlying172
 a127:=isAgg172
 z127:=sizeOf172
 v127:=zeroValue172
 t146:=underlying168
 a146:=isAgg168
 z146:=sizeOf168
 v146:=zeroValue168
 t148:=underlying170
 a148:=isAgg170
 z148:=sizeOf170
 v148:=zeroValue170
 t164:=underlying202
 a164:=isAgg202
 z164:=sizeOf202
 v164:=zeroValue202 }
theorem Tryz.Builder_Extra_105:Builder.Extra Tryz.prog Tryz.lays105_ren:={
 sizeBuilder:=by kernel_rfl
 liesBuilder:=by kernel_rfl
 t5:=underlying5
 a5:=isAgg5
 z5:=sizeOf5
 v5:=zeroValue5
 infoByte:=by kernel_rfl
 cellsByte:=by kernel_rfl
 sizeByte:=by kernel_rfl
 neB5:=by decide }
open Go.RowKit Go.Lib in
theorem Tryz.strings_Repeat (s:ByteArray)(c:Nat)(w:World)(hc:c≤9223372036854775807)(hlen:s.size*c≤140737488355328) :
 Calls Tryz.prog 90 #[.string s,.int .i64 c] w fun e w'=>e=.returned (.string ⟨(Lib.repeatL s.data.toList c).toArray⟩)∧Below w.heap.size w w':=Any.strings_Repeat Tryz.lays105 Tryz.Builder_Extra_105 s c w hc hlen
