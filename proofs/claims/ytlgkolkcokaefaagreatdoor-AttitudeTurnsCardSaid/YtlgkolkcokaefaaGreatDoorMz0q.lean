/- texts -/
import Derived.StillTail
import Derived.Test.YtlgkolkcokaefaaGreatDoorProg
import Derived.Shelf.Strconv.Itoa4
import Derived.Shelf.Strconv.ParseIntPublic10
import Derived.Shelf.Strings.Search2
import Derived.Carry
open Go.Proofs.Tryz
namespace Go.Gb
theorem aD {A B:Prop} (a:A) (b:B):RowKit.Hid A∧RowKit.Hid B:=⟨a,b⟩
theorem ah {A B C:Prop} (a:A) (b:B) (c:C):RowKit.Hid A∧RowKit.Hid B∧RowKit.Hid C:=⟨a,b,c⟩
theorem aH {A B C D:Prop} (a:A) (b:B) (c:C) (d:D):RowKit.Hid A∧RowKit.Hid B∧RowKit.Hid C∧RowKit.Hid D:=⟨a,b,c,d⟩
theorem aO {A B C D E:Prop} (a:A) (b:B) (c:C) (d:D) (e:E):RowKit.Hid A∧RowKit.Hid B∧RowKit.Hid C∧RowKit.Hid D∧RowKit.Hid E:=⟨a,b,c,d,e⟩
theorem bL {A B C D E F:Prop} (a:A) (b:B) (c:C) (d:D) (e:E) (f:F):RowKit.Hid A∧RowKit.Hid B∧RowKit.Hid C∧RowKit.Hid D∧RowKit.Hid E∧RowKit.Hid F:=⟨a,b,c,d,e,f⟩
theorem bK {A B C D E F G:Prop} (a:A) (b:B) (c:C) (d:D) (e:E) (f:F) (g:G):RowKit.Hid A∧RowKit.Hid B∧RowKit.Hid C∧RowKit.Hid D∧RowKit.Hid E∧RowKit.Hid F∧RowKit.Hid G:=⟨a,b,c,d,e,f,g⟩
theorem gV {A B C D E F G H:Prop} (a:A) (b:B) (c:C) (d:D) (e:E) (f:F) (g:G) (h:H):RowKit.Hid A∧RowKit.Hid B∧RowKit.Hid C∧RowKit.Hid D∧RowKit.Hid E∧RowKit.Hid F∧RowKit.Hid G∧RowKit.Hid H:=⟨a,b,c,d,e,f,g,h⟩
theorem dL {A B C D E F G H I:Prop} (a:A) (b:B) (c:C) (d:D) (e:E) (f:F) (g:G) (h:H) (i:I):RowKit.Hid A∧RowKit.Hid B∧RowKit.Hid C∧RowKit.Hid D∧RowKit.Hid E∧RowKit.Hid F∧RowKit.Hid G∧RowKit.Hid H∧RowKit.Hid I:=⟨a,b,c,d,e,f,g,h,i⟩
theorem jk {A B C D E F G H I J:Prop} (a:A) (b:B) (c:C) (d:D) (e:E) (f:F) (g:G) (h:H) (i:I) (j:J):RowKit.Hid A∧RowKit.Hid B∧RowKit.Hid C∧RowKit.Hid D∧RowKit.Hid E∧RowKit.Hid F∧RowKit.Hid G∧RowKit.Hid H∧RowKit.Hid I∧RowKit.Hid J:=⟨a,b,c,d,e,f,g,h,i,j⟩
theorem gH {A B C D E F G H I J K:Prop} (a:A) (b:B) (c:C) (d:D) (e:E) (f:F) (g:G) (h:H) (i:I) (j:J) (k:K):RowKit.Hid A∧RowKit.Hid B∧RowKit.Hid C∧RowKit.Hid D∧RowKit.Hid E∧RowKit.Hid F∧RowKit.Hid G∧RowKit.Hid H∧RowKit.Hid I∧RowKit.Hid J∧RowKit.Hid K:=⟨a,b,c,d,e,f,g,h,i,j,k⟩
theorem fu {A B C D E F G H I J K L:Prop} (a:A) (b:B) (c:C) (d:D) (e:E) (f:F) (g:G) (h:H) (i:I) (j:J) (k:K) (l:L):RowKit.Hid A∧RowKit.Hid B∧RowKit.Hid C∧RowKit.Hid D∧RowKit.Hid E∧RowKit.Hid F∧RowKit.Hid G∧RowKit.Hid H∧RowKit.Hid I∧RowKit.Hid J∧RowKit.Hid K∧RowKit.Hid L:=⟨a,b,c,d,e,f,g,h,i,j,k,l⟩
end Go.Gb
namespace Go.Proofs.YtlgkolkcokaefaaGreatDoor
open Go.RowKit
theorem hbt {w a b : World} (h : Hid (Below w.heap.size w a)) (k : Below a.heap.size a b) : Hid (Below w.heap.size w b) := Lib.hid (h.out.trans (k.mono h.out.size))
end Go.Proofs.YtlgkolkcokaefaaGreatDoor
namespace Go.Gb
open Go
section
variable {P:Program} {ops:Array Oper} {Q:Exit→Act→World→Prop} {md:Region.Mode}
def Closed (md:Region.Mode) (ops:Array Oper) (aa:Array Bool):Prop:=∀ j i,aa.getD j false=true→Region.waitsFor md ops j i=true→aa.getD i false=true
theorem z19 {j i:Nat}{o:Oper}(ho:ops[j]? = some o)(h:Region.waitsFor md ops j i=true):∃ e∈o.after,Region.binds md e=true∧e.on=i:=by
 obtain⟨o',ho',e,he,hb⟩:=Region.waitsFor_spec h;obtain rfl:o'=o:=Option.some.inj (ho'.symm.trans ho);exact⟨e,he,hb⟩
theorem jQ {aa:Array Bool}{j i:Nat}(hj:j∈Region.ready md ops aa)(h:Region.waitsFor md ops j i=true):aa.getD i false=true:=by
 obtain⟨_,o,ho,hall⟩:=mem_ready.1 hj;obtain⟨e,he,hb,rfl⟩:=z19 ho h;exact hall e he hb
theorem pR {aa:Array Bool}{j:Nat}(hj:j∈Region.ready md ops aa):aa.getD j true=false:=(mem_ready.1 hj).1
theorem iN {aa:Array Bool}{j:Nat}(hj:j∈Region.ready md ops aa):j<ops.size:=by
 obtain⟨_,o,ho,_⟩:=mem_ready.1 hj;exact(Array.getElem?_eq_some_iff.1 ho).1
theorem jK {aa:Array Bool}{i j:Nat}(h:(aa.setIfInBounds i true).getD j false=true):j=i∨aa.getD j false=true:=by
 by_cases hij:j=i
 · exact Or.inl hij
 · right
   simp only[Array.getD_eq_getD_getElem?]at h ⊢;rwa [Array.getElem?_setIfInBounds_ne (Ne.symm hij)]at h
theorem kI {aa:Array Bool}{i j:Nat}(h:aa.getD j false=true):(aa.setIfInBounds i true).getD j false=true:=by
 simp only[Array.getD_eq_getD_getElem?]at h ⊢;by_cases hij:i=j
 · subst hij
   rw[Array.getElem?_setIfInBounds_self];split
   · rfl
   · rename_i hlt
     rw[Array.getElem?_eq_none (by omega)]at h;exact h
 · rw[Array.getElem?_setIfInBounds_ne hij];exact h
theorem Closed.set {aa:Array Bool}{i:Nat}(h:Closed md ops aa)(hi:i∈Region.ready md ops aa):Closed md ops (aa.setIfInBounds i true):=by
 intro j k hj hw;rcases jK hj with rfl|hj
 · exact kI (jQ hi hw)
 · exact kI (h j k hj hw)
theorem uN (n:Nat):Closed md ops (Array.replicate n false):=by
 intro j i hj _;exfalso
 simp only[Array.getD_eq_getD_getElem?,Array.getElem?_replicate]at hj;split at hj<;>simp at hj
theorem qW (I:Array Bool→Act→World→Prop)
 (hstep:∀ aa a w i,I aa a w→i∈Region.ready md ops aa→wpOp P ops Q i (fun a' w'=>I (aa.setIfInBounds i true) a' w') a w)
 (hend:∀ aa a w,I aa a w→Region.ready md ops aa=[]→Q .normal a w) :
 ∀ (n:Nat) (U:List Nat) (aa:Array Bool) (a:Act) (w:World),U.length=n→U.Nodup→(∀ i,i∈U↔(i<ops.size∧aa.getD i true=false))→aa.size=ops.size→I aa a w→wpAny P md ops Q n aa a w
 | 0,U,aa,a,w,hn,_,hU,_,hI=>by
   have h0:Region.ready md ops aa=[]:=by
    apply List.eq_nil_iff_forall_not_mem.2
    intro i hi;have hm:=(hU i).2 ⟨iN hi,pR hi⟩;rw[List.length_eq_zero_iff.1 hn]at hm;cases hm
   exact⟨h0,hend aa a w hI h0⟩
 | n+1,U,aa,a,w,hn,hd,hU,hs,hI=>by
   refine⟨fun h0=>hend aa a w hI h0,fun i hi=>?_⟩;refine wpOp_mono (fun a' w' hI'=>?_) (hstep aa a w i hI hi);have hm:=(hU i).2 ⟨iN hi,pR hi⟩;refine qW I hstep hend n (U.erase i) _ a' w' (by rw[List.length_erase_of_mem hm,hn];rfl) (hd.erase i) (fun j=>?_) (by simpa using hs) hI';rw[hd.mem_erase_iff,hU j];simp only[Array.getD_eq_getD_getElem?];by_cases hij:j=i
   · subst hij
     rw[Array.getElem?_setIfInBounds_self_of_lt (by rw[hs];exact iN hi)];simp
   · rw[Array.getElem?_setIfInBounds_ne (Ne.symm hij)]
     simp[hij]
theorem jY {id:Nat}{a:Act}{w:World}(hm:P.follows .mixedOrders=true)(I:Array Bool→Act→World→Prop)
 (hstart:I (Array.replicate ops.size false) a w.drew)
 (hstep:∀ aa a w i,I aa a w→i∈Region.ready .any ops aa→wpOp P ops Q i (fun a' w'=>I (aa.setIfInBounds i true) a' w') a w)
 (hend:∀ aa a w,I aa a w→Region.ready .any ops aa=[]→Q .normal a w):(Code.region id ops true).wp P Q a w:=by
 refine wp_region_any hm ?_;refine qW I hstep hend ops.size (List.range ops.size) _ a _ (by simp) List.nodup_range (fun i=>?_) (by simp) hstart;rw[List.mem_range];simp only[Array.getD_eq_getD_getElem?,Array.getElem?_replicate];constructor
 · intro h;exact⟨h,by rw[if_pos h];rfl⟩
 · intro h;exact h.1
def z2B (md:Region.Mode) (ops:Array Oper):Bool:=(List.range ops.size).all fun j=>match ops[j]? with
 | some o=>o.after.all fun e => !Region.binds md e || decide (e.on<j)
 | none=>true
theorem z3N (hb:z2B md ops=true){j i:Nat}(h:Region.waitsFor md ops j i=true):i<j:=by
 obtain⟨o,ho,e,he,hbi,rfl⟩:=Region.waitsFor_spec h;have hj:j<ops.size:=(Array.getElem?_eq_some_iff.1 ho).1;have h1:=List.all_eq_true.1 hb j (List.mem_range.2 hj);rw[ho]at h1;simp only at h1;have h2:=Array.all_eq_true'.1 h1 e he;rw[hbi]at h2;simpa using h2
theorem jH {aa:Array Bool}(hs:aa.size=ops.size)(hb:z2B md ops=true)(h:Region.ready md ops aa=[]):∀ j,j<ops.size→aa.getD j false=true:=by
 intro j
 induction j using Nat.strongRecOn with
 | _ j ih =>
   intro hj
   cases hl:aa.getD j true with
   | true =>
     simp only[Array.getD_eq_getD_getElem?]at hl ⊢;have hlt:j<aa.size:=by omega
     rw[Array.getElem?_eq_getElem hlt]at hl ⊢;exact hl
   | false =>
     exfalso
     obtain⟨o,ho⟩:∃ o,ops[j]? = some o:=⟨ops[j],Array.getElem?_eq_getElem hj⟩
     have hr:j∈Region.ready md ops aa:=by
       refine mem_ready.2 ⟨hl,o,ho,fun e he hbi=>?_⟩
       have hw:Region.waitsFor md ops j e.on=true:=by
        unfold Region.waitsFor
        rw[ho];simp only;refine Array.any_eq_true'.2 ⟨e,he,?_⟩;simp[hbi]
       have h1:=z3N hb hw;exact ih e.on h1 (by omega)
     rw[h]at hr;cases hr
theorem rJ {aa:Array Bool}{j:Nat}(hj:j∈Region.ready md ops aa):aa.getD j false=false:=by
 have h:=pR hj;simp only[Array.getD_eq_getD_getElem?]at h ⊢
 cases hc:aa[j]? with
 | none=>rw[hc]at h;simp at h
 | some b=>rw[hc]at h;simpa using h
end
end Go.Gb
namespace Go.Proofs
open Go.Shelf
def Tryz.laysM173_ren:Go.Shelf.Ren:=⟨fun|173=>133|246=>149|283=>176|284=>177|285=>178|286=>179|129=>209|317=>208|318=>210|319=>211|320=>212|337=>230|338=>231|n=>n,fun|2=>2|3=>3|9=>9|4=>4|171=>211|0=>0|53=>110|37=>115|5=>5|173=>214|212=>237|51=>89|20=>20|213=>238|46=>186|232=>264|233=>265|n=>n,fun|17=>2|18=>5|19=>6|n=>n⟩
theorem Tryz.laysM173:Go.Proofs.LaysM.n173 Tryz.prog Tryz.laysM173_ren:={
 mixed:=by kernel_rfl
 f129:=func209.trans (congrArg some (by kernel_rfl))
 f173:=func133.trans (congrArg some (by kernel_rfl))
 f246:=func149.trans (congrArg some (by kernel_rfl))
 f283:=func176.trans (congrArg some (by kernel_rfl))
 f284:=func177.trans (congrArg some (by kernel_rfl))
 f285:=func178.trans (congrArg some (by kernel_rfl))
 f286:=func179.trans (congrArg some (by kernel_rfl))
 f317:=func208.trans (congrArg some (by kernel_rfl))
 f318:=func210.trans (congrArg some (by kernel_rfl))
 f319:=func211.trans (congrArg some (by kernel_rfl))
 f320:=func212.trans (congrArg some (by kernel_rfl))
 f337:=func230.trans (congrArg some (by kernel_rfl))
 f338:=func231.trans (congrArg some (by kernel_rfl))
 t0:=underlying0
 a0:=isAgg0
 z0:=sizeOf0
 v0:=zeroValue0
 t2:=underlying2
 a2:=isAgg2
 z2:=sizeOf2
 v2:=zeroValue2
 t3:=underlying3
 a3:=isAgg3
 z3:=sizeOf3
 v3:=zeroValue3
 t4:=underlying4
 a4:=isAgg4
 z4:=sizeOf4
 v4:=zeroValue4
 t5:=underlying5
 a5:=isAgg5
 z5:=sizeOf5
 v5:=zeroValue5
 t9:=underlying9
 a9:=isAgg9
 z9:=sizeOf9
 v9:=zeroValue9
 t20:=underlying20
 a20:=isAgg20
 z20:=sizeOf20
 v20:=zeroValue20
 t37:=underlying115
 a37:=isAgg115
 z37:=sizeOf115
 v37:=zeroValue115
 t46:=underlying186
 a46:=isAgg186
 z46:=sizeOf186
 v46:=zeroValue186
 t51:=underlying89
 a51:=isAgg89
 z51:=sizeOf89
 v51:=zeroValue89
 t53:=underlying110
 a53:=isAgg110
 z53:=sizeOf110
 v53:=zeroValue110
 t171:=underlying211
 a171:=isAgg211
 z171:=sizeOf211
 v171:=zeroValue211
 t173:=underlying214
 a173:=isAgg214
 z173:=sizeOf214
 v173:=zeroValue214
 t212:=underlying237
 a212:=isAgg237
 z212:=sizeOf237
 v212:=zeroValue237
 t213:=underlying238
 a213:=isAgg238
 z213:=sizeOf238
 t232:=underlying264
 a232:=isAgg264
 z232:=sizeOf264
 v232:=zeroValue264
 t233:=underlying265
 a233:=isAgg265
 z233:=sizeOf265
 v233:=zeroValue265
 g17:=by kernel_rfl
 g18:=by kernel_rfl
 g19:=by kernel_rfl
 i0:=by kernel_rfl
 i2:=by kernel_rfl
 i3:=by kernel_rfl
 i4:=by kernel_rfl
 i5:=by kernel_rfl
 i9:=by kernel_rfl
 i20:=by kernel_rfl
 i37:=by kernel_rfl
 i46:=by kernel_rfl
 i51:=by kernel_rfl
 i53:=by kernel_rfl
 i171:=by kernel_rfl
 i173:=by kernel_rfl
 i212:=by kernel_rfl
 i232:=by kernel_rfl
 i233:=by kernel_rfl
 m17:=by kernel_rfl
 m18:=by kernel_rfl
 m19:=by kernel_rfl }
open Go.RowKit Go.Sort Go.Lib in
theorem Tryz.strconv_FormatInt_10 (n:Int)(h0 : -9223372036854775808≤n)(h1:n≤9223372036854775807)(w:World)(htab:Lib.TabIs Tryz.prog w "internal/strconv.uint64pow10" .u64 Lib.pow10Tab) :
 Calls Tryz.prog 133 #[.int .i64 n,.int .i64 10] w fun e w'=>e=.returned (.string ⟨(Lib.itoa n).toArray⟩)∧∃ k os,w'=grow (w.drewN k) os:=Any.strconv_FormatInt_10 Tryz.laysM173 n h0 h1 w htab
def Tryz.laysC174_ren:Go.Shelf.Ren:=⟨fun|174=>139|247=>155|245=>156|287=>183|279=>184|280=>185|281=>186|282=>187|321=>213|322=>214|316=>215|171=>217|205=>216|243=>232|246=>149|283=>176|284=>177|285=>178|286=>179|129=>209|317=>208|318=>210|319=>211|320=>212|337=>230|338=>231|n=>n,fun|9=>9|3=>3|2=>2|75=>170|85=>171|4=>4|167=>218|5=>5|53=>110|175=>219|46=>186|168=>221|37=>115|0=>0|210=>243|21=>21|127=>252|145=>255|143=>253|171=>211|173=>214|212=>237|51=>89|20=>20|213=>238|232=>264|233=>265|80=>208|n=>n,fun|15=>3|16=>4|17=>2|18=>5|19=>6|n=>n⟩
theorem Tryz.laysC174:Go.Proofs.LaysC.n174 Tryz.prog Tryz.laysC174_ren:={
 mixed:=by kernel_rfl
 f129:=func209.trans (congrArg some (by kernel_rfl))
 f171:=func217.trans (congrArg some (by kernel_rfl))
 f174:=func139.trans (congrArg some (by kernel_rfl))
 f205:=func216.trans (congrArg some (by kernel_rfl))
 f243:=func232.trans (congrArg some (by kernel_rfl))
 f245:=func156.trans (congrArg some (by kernel_rfl))
 f246:=func149.trans (congrArg some (by kernel_rfl))
 f247:=func155.trans (congrArg some (by kernel_rfl))
 f279:=func184.trans (congrArg some (by kernel_rfl))
 f280:=func185.trans (congrArg some (by kernel_rfl))
 f281:=func186.trans (congrArg some (by kernel_rfl))
 f282:=func187.trans (congrArg some (by kernel_rfl))
 f283:=func176.trans (congrArg some (by kernel_rfl))
 f284:=func177.trans (congrArg some (by kernel_rfl))
 f285:=func178.trans (congrArg some (by kernel_rfl))
 f286:=func179.trans (congrArg some (by kernel_rfl))
 f287:=func183.trans (congrArg some (by kernel_rfl))
 f316:=func215.trans (congrArg some (by kernel_rfl))
 f317:=func208.trans (congrArg some (by kernel_rfl))
 f318:=func210.trans (congrArg some (by kernel_rfl))
 f319:=func211.trans (congrArg some (by kernel_rfl))
 f320:=func212.trans (congrArg some (by kernel_rfl))
 f321:=func213.trans (congrArg some (by kernel_rfl))
 f322:=func214.trans (congrArg some (by kernel_rfl))
 f337:=func230.trans (congrArg some (by kernel_rfl))
 f338:=func231.trans (congrArg some (by kernel_rfl))
 t0:=underlying0
 a0:=isAgg0
 z0:=sizeOf0
 v0:=zeroValue0
 t2:=underlying2
 a2:=isAgg2
 z2:=sizeOf2
 v2:=zeroValue2
 t3:=underlying3
 a3:=isAgg3
 z3:=sizeOf3
 v3:=zeroValue3
 t4:=underlying4
 a4:=isAgg4
 z4:=sizeOf4
 v4:=zeroValue4
 t5:=underlying5
 a5:=isAgg5
 z5:=sizeOf5
 v5:=zeroValue5
 t9:=underlying9
 a9:=isAgg9
 z9:=sizeOf9
 v9:=zeroValue9
 t20:=underlying20
 a20:=isAgg20
 z20:=sizeOf20
 v20:=zeroValue20
 t21:=underlying21
 a21:=isAgg21
 z21:=sizeOf21
 v21:=zeroValue21
 t37:=underlying115
 a37:=isAgg115
 z37:=sizeOf115
 v37:=zeroValue115
 t46:=underlying186
 a46:=isAgg186
 z46:=sizeOf186
 v46:=zeroValue186
 t51:=underlying89
 a51:=isAgg89
 z51:=sizeOf89
 v51:=zeroValue89
 t53:=underlying110
 a53:=isAgg110
 z53:=sizeOf110
 v53:=zeroValue110
 t75:=underlying170
 a75:=isAgg170
 z75:=sizeOf170
 v75:=zeroValue170
 t85:=underlying171
 a85:=isAgg171
 z85:=sizeOf171
 v85:=zeroValue171
 t127:=underlying252
 a127:=isAgg252
 z127:=sizeOf252
 v127:=zeroValue252
 t143:=underlying253
 a143:=isAgg253
 z143:=sizeOf253
 v143:=zeroValue253
 t145:=underlying255
 a145:=isAgg255
 z145:=sizeOf255
 v145:=zeroValue255
 t167:=underlying218
 a167:=isAgg218
 z167:=sizeOf218
 v167:=zeroValue218
 t168:=underlying221
 a168:=isAgg221
 z168:=sizeOf221
 v168:=zeroValue221
 t171:=underlying211
 a171:=isAgg211
 z171:=sizeOf211
 v171:=zeroValue211
 t173:=underlying214
 a173:=isAgg214
 z173:=sizeOf214
 v173:=zeroValue214
 t175:=underlying219
 a175:=isAgg219
 z175:=sizeOf219
 v175:=zeroValue219
 t210:=underlying243
 a210:=isAgg243
 z210:=sizeOf243
 v210:=zeroValue243
 t212:=underlying237
 a212:=isAgg237
 z212:=sizeOf237
 v212:=zeroValue237
 t213:=underlying238
 a213:=isAgg238
 z213:=sizeOf238
 t232:=underlying264
 a232:=isAgg264
 z232:=sizeOf264
 v232:=zeroValue264
 t233:=underlying265
 a233:=isAgg265
 z233:=sizeOf265
 v233:=zeroValue265
 g15:=by kernel_rfl
 g16:=by kernel_rfl
 g17:=by kernel_rfl
 g18:=by kernel_rfl
 g19:=by kernel_rfl
 t80:=underlying208
 a80:=isAgg208
 z80:=sizeOf208
 v80:=zeroValue208
 i0:=by kernel_rfl
 i2:=by kernel_rfl
 i3:=by kernel_rfl
 i4:=by kernel_rfl
 i5:=by kernel_rfl
 i9:=by kernel_rfl
 i20:=by kernel_rfl
 i21:=by kernel_rfl
 i37:=by kernel_rfl
 i46:=by kernel_rfl
 i51:=by kernel_rfl
 i53:=by kernel_rfl
 i75:=by kernel_rfl
 i80:=by kernel_rfl
 i85:=by kernel_rfl
 i127:=by kernel_rfl
 i143:=by kernel_rfl
 i145:=by kernel_rfl
 i167:=by kernel_rfl
 i168:=by kernel_rfl
 i171:=by kernel_rfl
 i173:=by kernel_rfl
 i175:=by kernel_rfl
 i210:=by kernel_rfl
 i212:=by kernel_rfl
 i232:=by kernel_rfl
 i233:=by kernel_rfl
 m15:=by kernel_rfl
 m16:=by kernel_rfl
 m17:=by kernel_rfl
 m18:=by kernel_rfl
 m19:=by kernel_rfl
 c0:=by kernel_rfl
 c2:=by kernel_rfl
 c3:=by kernel_rfl
 c4:=by kernel_rfl
 c5:=by kernel_rfl
 c9:=by kernel_rfl
 c20:=by kernel_rfl
 c21:=by kernel_rfl
 c37:=by kernel_rfl
 c46:=by kernel_rfl
 c51:=by kernel_rfl
 c53:=by kernel_rfl
 c75:=by kernel_rfl
 c80:=by kernel_rfl
 c85:=by kernel_rfl
 c127:=by kernel_rfl
 c143:=by kernel_rfl
 c145:=by kernel_rfl
 c167:=by kernel_rfl
 c168:=by kernel_rfl
 c171:=by kernel_rfl
 c173:=by kernel_rfl
 c175:=by kernel_rfl
 c210:=by kernel_rfl
 c212:=by kernel_rfl
 c213:=by kernel_rfl
 c232:=by kernel_rfl
 c233:=by kernel_rfl }
open Go.RowKit in
theorem Tryz.strconv_ParseInt_10_at64_ok (s:ByteArray)(hmax:s.size≤9223372036854775806)(v:Int)(h:Lib.parseIntB 64 s.data.toList=.ok v)(w:World) :
 Calls Tryz.prog 139 #[.string s,.int .i64 10,.int .i64 64] w fun e w'=>e=.returned (.tuple #[.int .i64 v,.nilIface])∧(w'=w∨∃ t,w'=Lib.bytesWorld w 5 t):=Any.strconv_ParseInt_10_at64_ok Tryz.laysC174 s hmax v h w
def Tryz.lays219_ren:Go.Shelf.Ren:=⟨fun|219=>135|217=>150|225=>151|224=>152|267=>153|266=>180|314=>181|n=>n,fun|9=>9|3=>3|4=>4|5=>5|46=>186|146=>216|51=>89|n=>n,fun|1=>0|n=>n⟩
theorem Tryz.lays219:Go.Proofs.Lays.n219 Tryz.prog Tryz.lays219_ren:={
 mixed:=by kernel_rfl
 f217:=func150.trans (congrArg some (by kernel_rfl))
 f219:=func135.trans (congrArg some (by kernel_rfl))
 f224:=func152.trans (congrArg some (by kernel_rfl))
 f225:=func151.trans (congrArg some (by kernel_rfl))
 f266:=func180.trans (congrArg some (by kernel_rfl))
 f267:=func153.trans (congrArg some (by kernel_rfl))
 f314:=func181.trans (congrArg some (by kernel_rfl))
 t3:=underlying3
 a3:=isAgg3
 z3:=sizeOf3
 v3:=zeroValue3
 t4:=underlying4
 a4:=isAgg4
 z4:=sizeOf4
 v4:=zeroValue4
 t5:=underlying5
 a5:=isAgg5
 z5:=sizeOf5
 v5:=zeroValue5
 t9:=underlying9
 a9:=isAgg9
 z9:=sizeOf9
 v9:=zeroValue9
 t46:=underlying186
 a46:=isAgg186
 z46:=sizeOf186
 v46:=zeroValue186
 t51:=underlying89
 a51:=isAgg89
 z51:=sizeOf89
 v51:=zeroValue89
 t146:=underlying216
 a146:=isAgg216
 z146:=sizeOf216
 v146:=zeroValue216
 g1:=by kernel_rfl }
open Go.RowKit Go.Lib in
theorem Tryz.stringslite_Index_one (s:ByteArray)(c:UInt8)(w:World) :
 Calls Tryz.prog 135 #[.string s,.string ⟨#[c]⟩] w fun e w'=>e=.returned (.int .i64 (Lib.indexByte s.data.toList c))∧w'=w:=Any.stringslite_Index_one Tryz.lays219 s c w
end Go.Proofs
namespace Go.Gb
open Go Go.MapKept Go.RowKit
structure PutAt (b:Nat) (es:Array MapEntry) (clock:Nat) (w w':World):Prop where
 below:Below b w w'
 size:w'.heap.size=w.heap.size
 here:w'.heap[b]? = some (.map es clock)
theorem jg {P:Program}(w:World)(t k e:TypeId)(d:TypeDesc)(ht:P.underlying t=some (.map k e))(hd:P.underlying k=some d)(b:Nat)(es:Array MapEntry)(clock:Nat)
 (hb:w.heap[b]? = some (.map es clock)) (key val:Value) (hk:IsKey d key) (hf:Instr.findNow d key es.toList 0=some none) :
 ∃ w',(Instr.mapUpdate t (.map (some b)) key val).run P w=.ok () w'∧PutAt b (es.push ⟨key,val,clock⟩) (clock+1) w w':=by
 have hrun:(Instr.mapUpdate t (.map (some b)) key val).run P w=.ok () { w with heap:=w.heap.setIfInBounds b (.map (es.push ⟨key,val,clock⟩) (clock+1)) }:=by
  simp[Instr.mapUpdate,run_underlying ht,MapKept.run_getObj_map hb,MapKept.run_checkKey hd hk,MapKept.run_findKey hd hf,MapKept.run_setObj_map _ hb,Result.andThen]
 refine⟨_,hrun,?_⟩
 have hlt:b<w.heap.size:=by
  rcases Nat.lt_or_ge b w.heap.size with h|h
  · exact h
  · rw[Array.getElem?_eq_none h]at hb;cases hb
 refine⟨⟨rfl,rfl,rfl,by simp,fun i hi=>?_⟩,by simp,?_⟩
 · show(w.heap.setIfInBounds b _)[i]? = w.heap[i]?
   rw[Array.getElem?_setIfInBounds_ne (by omega)]
 · show(w.heap.setIfInBounds b _)[b]? = _
   rw[Array.getElem?_setIfInBounds_self_of_lt hlt]
theorem zR {P:Program}(w:World)(t k e:TypeId)(d:TypeDesc)(ht:P.underlying t=some (.map k e))(hd:P.underlying k=some d)(b:Nat)(es:Array MapEntry)(clock:Nat)
 (hb:w.heap[b]? = some (.map es clock)) (key:Value) (hk:IsKey d key) (i:Nat) (val:Value) (hf:Instr.findNow d key es.toList 0=some (some (i,val))) :
 (Instr.lookup t (.map (some b)) key false).run P w=.ok val w:=by
 simp[Instr.lookup,run_underlying ht,MapKept.run_getObj_map hb,MapKept.run_checkKey hd hk,MapKept.run_findKey hd hf,Result.andThen]
end Go.Gb
namespace Go.Gb
def cosQ (t:Rat):Rat:=(1-t*t) / (1+t*t)
def sinQ (t:Rat):Rat:=2*t / (1+t*t)
theorem z3g (t:Rat):0<1+t*t:=by
 have:0≤t*t:=by
  rcases Rat.le_total (a:=0) (b:=t) with h|h
  · exact Rat.mul_nonneg h h
  · have:=Rat.mul_nonneg (show 0 ≤ -t by grind) (show 0 ≤ -t by grind)
    grind
 grind
theorem qX (t:Rat):1+t*t≠0:=by have:=z3g t;grind
def dotR (a1 a2 a3 b1 b2 b3:Rat):Rat:=a1*b1+a2*b2+a3*b3
section
variable {c s d t:Rat} (h:c*c+s*s=1) (k:d*d+t*t=1)
include h k
end
