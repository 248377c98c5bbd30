/- Texts of this proof, one behind the other. -/
import Derived.Test.YtmigpoiajkihhaaGreatDoorQg
import Derived.Carry
open Go.Proofs.Tryz
set_option maxRecDepth 100000
set_option maxHeartbeats 20000000
open Go.Lib (hid)
namespace Go.Proofs.YtmigpoiajkihhaaGreatDoor
open Go.RowKit Go.Gb
theorem z2O (a b:Int):(if b>a then b else a)=max a b:=by rw[Int.max_def];split<;>split<;>omega
theorem wC {P:Program}(w:World)(ts:Array TypeId)(t:TypeId)(k:IntKind)(a b c d:Int) :
 (Builtin.max_ ts t #[.int k a,.int k b,.int k c,.int k d]).run P w=.ok (.int k (max (max (max a b) c) d)) w:=by
 simp[Builtin.max_,Builtin.max2,← z2O]
theorem rE (x1 x2 y1 y2:ByteArray)(h:9<x1.size∨9<x2.size∨9<y1.size∨9<y2.size)(w:World) :
 CR 86 #[.agg #[.string x1,.string x2],.agg #[.string y1,.string y2]] w (.tuple #[.agg #[.int .i64 0,.int .i64 0],.agg #[.int .i64 0,.int .i64 0],.bool false]):=by
 have hm := @wC Tryz.prog
 have k1:9<max (max (max (x1.size:Int) (x2.size:Int)) (y1.size:Int)) (y2.size:Int):=by omega
 clear h
 go_enter func86,ntmps86
 go_wp2
 refine bodyPost_ret (v:=.tuple #[.agg #[.int .i64 0,.int .i64 0],.agg #[.int .i64 0,.int .i64 0],.bool false]) (by simp[results,results86,go_sem]) rfl ⟨rfl,?_⟩
 repeat (first|exact Below.refl _ _|refine Below.setCell ?_ (by first|omega|(simp;omega)|simp) _|refine Below.alloc ?_ (by first|omega|(simp;omega)|simp) _|refine Below.drew ?_)
theorem pJ (x1 x2 y1 y2:ByteArray)(a b c d:Int)(h:x1.size≤9∧x2.size≤9∧y1.size≤9∧y2.size≤9)(w:World)
 (h1:CQ 134 #[.string x1] (.int .i64 a))
 (h2:CQ 134 #[.string x2] (.int .i64 b))
 (h3:CQ 134 #[.string y1] (.int .i64 c))
 (h4:CQ 134 #[.string y2] (.int .i64 d)) :
 CR 86 #[.agg #[.string x1,.string x2],.agg #[.string y1,.string y2]] w (.tuple #[.agg #[.int .i64 a,.int .i64 b],.agg #[.int .i64 c,.int .i64 d],.bool true]):=by
 have hm := @wC Tryz.prog
 have k1:decide (9<max (x1.size:Int) (max (x2.size:Int) (max (y1.size:Int) (y2.size:Int))))=false:=by rw[decide_eq_false_iff_not];omega
 clear h
 have C1:=hid h1
 have C2:=hid h2
 have C3:=hid h3
 have C4:=hid h4
 obtain⟨w0,hw0⟩:∃ w0:World,w0=((((w.alloc (.cells #[.string x1,.string x2] 44)).alloc (.cells #[.string y1,.string y2] 44)).alloc (.cells #[.int .i64 0,.int .i64 0] 104)).alloc (.cells #[.int .i64 0,.int .i64 0] 104)):=⟨_,rfl⟩
 have hz0:w0.heap.size=w.heap.size+4:=by rw[hw0];simp
 have hB0:Below w.heap.size w w0:=by
  rw[hw0]
  repeat (first|exact Below.refl _ _|refine Below.setCell ?_ (by first|omega|(simp;omega)|simp) _|refine Below.alloc ?_ (by first|omega|(simp;omega)|simp) _|refine Below.drew ?_)
 have hS0:w0.cell? ⟨w.heap.size,0,none⟩=some (.string x1)∧w0.cell? ⟨w.heap.size,1,none⟩=some (.string x2)∧w0.cell? ⟨w.heap.size+1,0,none⟩=some (.string y1)∧w0.cell? ⟨w.heap.size+1,1,none⟩=some (.string y2):=by rw[hw0];exact⟨((q_lt).trans ((q_lt).trans ((q_lt).trans ((aW).trans rfl)))),((q_lt).trans ((q_lt).trans ((q_lt).trans ((aW).trans rfl)))),((q_lt).trans ((q_lt).trans ((aW).trans rfl))),((q_lt).trans ((q_lt).trans ((aW).trans rfl)))⟩
 have KS:=hid (show ∀ W:World,Below w0.heap.size w0 W→(W.cell? ⟨w.heap.size,0,none⟩=some (.string x1)∧W.cell? ⟨w.heap.size,1,none⟩=some (.string x2)∧W.cell? ⟨w.heap.size+1,0,none⟩=some (.string y1)∧W.cell? ⟨w.heap.size+1,1,none⟩=some (.string y2)) from fun W hB=>by
  obtain⟨c0,c1,c2,c3⟩:=hS0
  exact⟨(hB.cell (p:=⟨w.heap.size,0,none⟩) (by show w.heap.size<_;omega)).trans c0,(hB.cell (p:=⟨w.heap.size,1,none⟩) (by show w.heap.size<_;omega)).trans c1,(hB.cell (p:=⟨w.heap.size+1,0,none⟩) (by show w.heap.size+1<_;omega)).trans c2,(hB.cell (p:=⟨w.heap.size+1,1,none⟩) (by show w.heap.size+1<_;omega)).trans c3⟩)
 have KZ:=hid (show ∀ W:World,Below w0.heap.size w0 W→w.heap.size+4≤W.heap.size from fun W hB=>by have:=hB.size;omega)
 have KB:=hid (show ∀ W:World,Below w0.heap.size w0 W→Below w.heap.size w W from fun W hB=>hB0.trans (hB.mono (by omega)))
 have hR0:w0.cell? ⟨w.heap.size+1+1,0,none⟩=some (.int .i64 0)∧w0.cell? ⟨w.heap.size+1+1,1,none⟩=some (.int .i64 0)∧w0.cell? ⟨w.heap.size+1+1+1,0,none⟩=some (.int .i64 0)∧w0.cell? ⟨w.heap.size+1+1+1,1,none⟩=some (.int .i64 0)∧w0.frozen? ⟨w.heap.size+1+1,0,none⟩=false∧w0.frozen? ⟨w.heap.size+1+1,1,none⟩=false∧w0.frozen? ⟨w.heap.size+1+1+1,0,none⟩=false∧w0.frozen? ⟨w.heap.size+1+1+1,1,none⟩=false:=by rw[hw0];exact⟨((q_lt).trans ((aW).trans rfl)),((q_lt).trans ((aW).trans rfl)),((aW).trans rfl),((aW).trans rfl),((gL).trans (bT)),((gL).trans (bT)),(bT),(bT)⟩
 have KR:=hid (show ∀ W:World,Below w0.heap.size w0 W→(W.cell? ⟨w.heap.size+1+1,0,none⟩=some (.int .i64 0)∧W.cell? ⟨w.heap.size+1+1,1,none⟩=some (.int .i64 0)∧W.cell? ⟨w.heap.size+1+1+1,0,none⟩=some (.int .i64 0)∧W.cell? ⟨w.heap.size+1+1+1,1,none⟩=some (.int .i64 0)∧W.frozen? ⟨w.heap.size+1+1,0,none⟩=false∧W.frozen? ⟨w.heap.size+1+1,1,none⟩=false∧W.frozen? ⟨w.heap.size+1+1+1,0,none⟩=false∧W.frozen? ⟨w.heap.size+1+1+1,1,none⟩=false) from fun W hB=>by
  obtain⟨c0,c1,c2,c3,f0,f1,f2,f3⟩:=hR0
  exact⟨(hB.cell (p:=⟨w.heap.size+1+1,0,none⟩) (by show w.heap.size+1+1<_;omega)).trans c0,(hB.cell (p:=⟨w.heap.size+1+1,1,none⟩) (by show w.heap.size+1+1<_;omega)).trans c1,(hB.cell (p:=⟨w.heap.size+1+1+1,0,none⟩) (by show w.heap.size+1+1+1<_;omega)).trans c2,(hB.cell (p:=⟨w.heap.size+1+1+1,1,none⟩) (by show w.heap.size+1+1+1<_;omega)).trans c3,(hB.frozen (p:=⟨w.heap.size+1+1,0,none⟩) (by show w.heap.size+1+1<_;omega)).trans f0,(hB.frozen (p:=⟨w.heap.size+1+1,1,none⟩) (by show w.heap.size+1+1<_;omega)).trans f1,(hB.frozen (p:=⟨w.heap.size+1+1+1,0,none⟩) (by show w.heap.size+1+1+1<_;omega)).trans f2,(hB.frozen (p:=⟨w.heap.size+1+1+1,1,none⟩) (by show w.heap.size+1+1+1<_;omega)).trans f3⟩)
 clear hR0
 have KT0:=hid (show ∀ (W:World) (v u:Value),Below w0.heap.size w0 W→(((W.setCell ⟨w.heap.size+1+1,0,none⟩ v).setCell ⟨w.heap.size+1+1,1,none⟩ u).cell? ⟨w.heap.size,0,none⟩=some (.string x1)∧((W.setCell ⟨w.heap.size+1+1,0,none⟩ v).setCell ⟨w.heap.size+1+1,1,none⟩ u).cell? ⟨w.heap.size,1,none⟩=some (.string x2)∧((W.setCell ⟨w.heap.size+1+1,0,none⟩ v).setCell ⟨w.heap.size+1+1,1,none⟩ u).cell? ⟨w.heap.size+1,0,none⟩=some (.string y1)∧((W.setCell ⟨w.heap.size+1+1,0,none⟩ v).setCell ⟨w.heap.size+1+1,1,none⟩ u).cell? ⟨w.heap.size+1,1,none⟩=some (.string y2)) from fun W v u hB=>by
  have hh:=KS.out W hB
  obtain⟨c0,c1,c2,c3⟩:=hh
  exact⟨(dm (by omega)).trans ((dm (by omega)).trans c0),(dm (by omega)).trans ((dm (by omega)).trans c1),(dm (by omega)).trans ((dm (by omega)).trans c2),(dm (by omega)).trans ((dm (by omega)).trans c3)⟩)
 have KT1:=hid (show ∀ (W:World) (v u:Value),Below w0.heap.size w0 W→(((W.setCell ⟨w.heap.size+1+1+1,0,none⟩ v).setCell ⟨w.heap.size+1+1+1,1,none⟩ u).cell? ⟨w.heap.size,0,none⟩=some (.string x1)∧((W.setCell ⟨w.heap.size+1+1+1,0,none⟩ v).setCell ⟨w.heap.size+1+1+1,1,none⟩ u).cell? ⟨w.heap.size,1,none⟩=some (.string x2)∧((W.setCell ⟨w.heap.size+1+1+1,0,none⟩ v).setCell ⟨w.heap.size+1+1+1,1,none⟩ u).cell? ⟨w.heap.size+1,0,none⟩=some (.string y1)∧((W.setCell ⟨w.heap.size+1+1+1,0,none⟩ v).setCell ⟨w.heap.size+1+1+1,1,none⟩ u).cell? ⟨w.heap.size+1,1,none⟩=some (.string y2)) from fun W v u hB=>by
  have hh:=KS.out W hB
  obtain⟨c0,c1,c2,c3⟩:=hh
  exact⟨(dm (by omega)).trans ((dm (by omega)).trans c0),(dm (by omega)).trans ((dm (by omega)).trans c1),(dm (by omega)).trans ((dm (by omega)).trans c2),(dm (by omega)).trans ((dm (by omega)).trans c3)⟩)
 have KT2:=hid (show ∀ (W:World) (v u v2 u2:Value),Below w0.heap.size w0 W→(((((W.setCell ⟨w.heap.size+1+1,0,none⟩ v).setCell ⟨w.heap.size+1+1,1,none⟩ u).setCell ⟨w.heap.size+1+1+1,0,none⟩ v2).setCell ⟨w.heap.size+1+1+1,1,none⟩ u2).cell? ⟨w.heap.size,0,none⟩=some (.string x1)∧((((W.setCell ⟨w.heap.size+1+1,0,none⟩ v).setCell ⟨w.heap.size+1+1,1,none⟩ u).setCell ⟨w.heap.size+1+1+1,0,none⟩ v2).setCell ⟨w.heap.size+1+1+1,1,none⟩ u2).cell? ⟨w.heap.size,1,none⟩=some (.string x2)∧((((W.setCell ⟨w.heap.size+1+1,0,none⟩ v).setCell ⟨w.heap.size+1+1,1,none⟩ u).setCell ⟨w.heap.size+1+1+1,0,none⟩ v2).setCell ⟨w.heap.size+1+1+1,1,none⟩ u2).cell? ⟨w.heap.size+1,0,none⟩=some (.string y1)∧((((W.setCell ⟨w.heap.size+1+1,0,none⟩ v).setCell ⟨w.heap.size+1+1,1,none⟩ u).setCell ⟨w.heap.size+1+1+1,0,none⟩ v2).setCell ⟨w.heap.size+1+1+1,1,none⟩ u2).cell? ⟨w.heap.size+1,1,none⟩=some (.string y2)) from fun W v u v2 u2 hB=>by
  have hh:=KS.out W hB
  obtain⟨c0,c1,c2,c3⟩:=hh
  exact⟨(dm (by omega)).trans ((dm (by omega)).trans ((dm (by omega)).trans ((dm (by omega)).trans c0))),(dm (by omega)).trans ((dm (by omega)).trans ((dm (by omega)).trans ((dm (by omega)).trans c1))),(dm (by omega)).trans ((dm (by omega)).trans ((dm (by omega)).trans ((dm (by omega)).trans c2))),(dm (by omega)).trans ((dm (by omega)).trans ((dm (by omega)).trans ((dm (by omega)).trans c3)))⟩)
 have F0:=hid (Below.refl w0.heap.size w0)
 have HW0:=hid hw0
 clear hz0 hB0 hS0 hw0 h1 h2 h3 h4
 go_enter func86,ntmps86
 go_wp2_with fail
 rw[← HW0.out]
 obtain⟨d0,d1,d2,d3⟩:=KS.out _ F0.out
 go_wp2_with fail
 go_region_held3 (fun w'=>w'.cell? ⟨w.heap.size,0,none⟩=some (.string x1)∧w'.cell? ⟨w.heap.size,1,none⟩=some (.string x2)∧w'.cell? ⟨w.heap.size+1,0,none⟩=some (.string y1)∧w'.cell? ⟨w.heap.size+1,1,none⟩=some (.string y2)) (first|(with_reducible exact KS.out _ F4.out)|(with_reducible exact KS.out _ F4.out.drew)|(with_reducible exact KS.out _ F3.out)|(with_reducible exact KS.out _ F3.out.drew)|(with_reducible exact KS.out _ F2.out)|(with_reducible exact KS.out _ F2.out.drew)|(with_reducible exact KS.out _ F1.out)|(with_reducible exact KS.out _ F1.out.drew)|(with_reducible exact KS.out _ F0.out)|(with_reducible exact KS.out _ F0.out.drew)|(with_reducible exact KT2.out _ _ _ _ _ F4.out)|(with_reducible exact KT2.out _ _ _ _ _ F4.out.drew)|(with_reducible exact KT0.out _ _ _ F4.out)|(with_reducible exact KT0.out _ _ _ F4.out.drew)|(with_reducible exact KT1.out _ _ _ F4.out)|(with_reducible exact KT1.out _ _ _ F4.out.drew))
  (first
   | (go_at_call 134;(with_reducible refine(C1.out _).mono ?_);rintro e w1 ⟨rfl,hb⟩;have F1:=hid (show Below w0.heap.size w0 w1 by first|exact av F0.out hb|exact av F0.out.drew hb);clear hb)
   | (go_at_call 134;(with_reducible refine(C2.out _).mono ?_);rintro e w2 ⟨rfl,hb⟩;have F2:=hid (show Below w0.heap.size w0 w2 by first|exact av F1.out hb|exact av F1.out.drew hb);clear hb)
   | (go_at_call 134;(with_reducible refine(C3.out _).mono ?_);rintro e w3 ⟨rfl,hb⟩;have F3:=hid (show Below w0.heap.size w0 w3 by first|exact av F2.out hb|exact av F2.out.drew hb);clear hb)
   | (go_at_call 134;(with_reducible refine(C4.out _).mono ?_);rintro e w4 ⟨rfl,hb⟩;have F4:=hid (show Below w0.heap.size w0 w4 by first|exact av F3.out hb|exact av F3.out.drew hb);clear hb;have hz:=KZ.out _ F4.out;obtain⟨m0,m1,m2,m3,n0,n1,n2,n3⟩:=KR.out _ F4.out)
   | fail)
 all_goals
  have hz:=KZ.out _ F4.out
  go_wp2
  refine bodyPost_ret (v:=.tuple #[.agg #[.int .i64 a,.int .i64 b],.agg #[.int .i64 c,.int .i64 d],.bool true]) (by simp[results,results86,go_sem,m0,m1,m2,m3]) rfl ⟨rfl,?_⟩
  repeat (first|exact KB.out _ F4.out|refine Below.setCell ?_ (by first|omega|(simp;omega)|simp) _|refine Below.alloc ?_ (by first|omega|(simp;omega)|simp) _|refine Below.drew ?_)
end Go.Proofs.YtmigpoiajkihhaaGreatDoor
namespace Go.Gb
open Go Go.MapKept Go.RowKit
structure PutAt (b:Nat) (es:Array MapEntry) (clock:Nat) (w w':World):Prop where
 below:Below b w w'
 size:w'.heap.size=w.heap.size
 here:w'.heap[b]? = some (.map es clock)
theorem qm {P:Program}(w:World)(t k e:TypeId)(d:TypeDesc)(ht:P.underlying t=some (.map k e))(hd:P.underlying k=some d)(b:Nat)(es:Array MapEntry)(clock:Nat)
 (hb:w.heap[b]? = some (.map es clock)) (key val:Value) (hk:IsKey d key) (hf:Instr.findNow d key es.toList 0=some none) :
 ∃ w',(Instr.mapUpdate t (.map (some b)) key val).run P w=.ok () w'∧PutAt b (es.push ⟨key,val,clock⟩) (clock+1) w w':=by
 have hrun:(Instr.mapUpdate t (.map (some b)) key val).run P w=.ok () { w with heap:=w.heap.setIfInBounds b (.map (es.push ⟨key,val,clock⟩) (clock+1)) }:=by
  simp[Instr.mapUpdate,run_underlying ht,MapKept.run_getObj_map hb,MapKept.run_checkKey hd hk,MapKept.run_findKey hd hf,MapKept.run_setObj_map _ hb,Result.andThen]
 refine⟨_,hrun,?_⟩
 have hlt:b<w.heap.size:=by
  rcases Nat.lt_or_ge b w.heap.size with h|h
  · exact h
  · rw[Array.getElem?_eq_none h]at hb;cases hb
 refine⟨⟨rfl,rfl,rfl,by simp,fun i hi=>?_⟩,by simp,?_⟩
 · show(w.heap.setIfInBounds b _)[i]? = w.heap[i]?
   rw[Array.getElem?_setIfInBounds_ne (by omega)]
 · show(w.heap.setIfInBounds b _)[b]? = _
   rw[Array.getElem?_setIfInBounds_self_of_lt hlt]
theorem z2P {P:Program}(w:World)(t k e:TypeId)(d:TypeDesc)(ht:P.underlying t=some (.map k e))(hd:P.underlying k=some d)(b:Nat)(es:Array MapEntry)(clock:Nat)
 (hb:w.heap[b]? = some (.map es clock)) (key:Value) (hk:IsKey d key) (i:Nat) (val:Value) (hf:Instr.findNow d key es.toList 0=some (some (i,val))) :
 (Instr.lookup t (.map (some b)) key false).run P w=.ok val w:=by
 simp[Instr.lookup,run_underlying ht,MapKept.run_getObj_map hb,MapKept.run_checkKey hd hk,MapKept.run_findKey hd hf,Result.andThen]
end Go.Gb
set_option maxRecDepth 100000
set_option maxHeartbeats 20000000
open Go.Lib (hid)
namespace Go.Proofs.YtmigpoiajkihhaaGreatDoor
open Go.RowKit Go.Gb
theorem eO {w0 a:World}(h:Below w0.heap.size w0 a)(o:Obj):Below w0.heap.size w0 (a.alloc o):=h.alloc h.size o
theorem z1q (w:World)(o:Obj):(w.alloc o).heap[w.heap.size]? = some o:=heap_alloc_new w o
theorem wK {b c:Nat}{es:Array MapEntry}{u v w:World}(h:PutAt b es c v w)(hu:Below b u v):Below b u w:=hu.trans h.below
theorem dM (a b x1 x2 y1 y2 d:ByteArray)(p q r s t u:Int)(ch:Int)(fs fa:Nat)(o:Nat)(hsel:(ch=43∧fs=91∧fa=92)∨(ch=45∧fs=93∧fa=94)∨(ch=42∧fs=95∧fa=96)∨(ch=47∧fs=97∧fa=98))(hk:MapKept.IsKey (.int .u8) (.int .u8 ch))(hf:Instr.findNow (.int .u8) (.int .u8 ch) (#[⟨.int .u8 43,.agg #[.func (.func 91) #[] #[],.func (.func 92) #[] #[]],0⟩,⟨.int .u8 45,.agg #[.func (.func 93) #[] #[],.func (.func 94) #[] #[]],1⟩,⟨.int .u8 42,.agg #[.func (.func 95) #[] #[],.func (.func 96) #[] #[]],2⟩,⟨.int .u8 47,.agg #[.func (.func 97) #[] #[],.func (.func 98) #[] #[]],3⟩]:Array MapEntry).toList 0=some (some (o,.agg #[.func (.func fs) #[] #[],.func (.func fa) #[] #[]])))(w:World)(hl:La w)
 (h1:CL 45 #[.string a,.string b] (.tuple #[.agg #[.string x1,.string x2],.agg #[.string y1,.string y2],.bool true]))
 (h2:CQ 86 #[.agg #[.string x1,.string x2],.agg #[.string y1,.string y2]] (.tuple #[.agg #[.int .i64 p,.int .i64 q],.agg #[.int .i64 r,.int .i64 s],.bool true]))
 (h3:CQ fs #[.agg #[.int .i64 p,.int .i64 q],.agg #[.int .i64 r,.int .i64 s]] (.agg #[.int .i64 t,.int .i64 u]))
 (h4:CL 99 #[.agg #[.int .i64 t,.int .i64 u]] (.string d)) :
 CR 49 #[.string a,.int .u8 ch,.string b] w (.tuple #[.string d,.int .i64 0]):=by
 have HSEL:=hid hsel
 clear hsel
 have C1:=hid (h1 w hl)
 have C2:=hid h2
 have C3:=hid h3
 have C4:=hid h4
 have HL:=hid hl
 clear h1 h2 h3 h4 hl
 go_enter func49,ntmps49
 go_wp2_with fail
 refine C1.out.mono ?_
 rintro e w1 ⟨rfl,hb⟩
 have F1:=hid hb
 obtain⟨w2,hw2⟩:∃ W:World,W=(w1.alloc (.cells #[.string x1,.string x2] 44)).alloc (.cells #[.string y1,.string y2] 44):=⟨_,rfl⟩
 have HW2:=hid hw2
 have z2:w2.heap.size=w1.heap.size+1+1:=by rw[hw2];simp
 have F2:=hid (show Below w.heap.size w w2 by rw[hw2];exact eO (eO hb _) _)
 have SZ:w1.heap.size<(w1.alloc (.cells #[.string x1,.string x2] 44)).heap.size:=by simp
 have c0:w2.cell? ⟨w1.heap.size,0,none⟩=some (.string x1):=by rw[hw2];exact(q_lt SZ).trans ((aW rfl).trans rfl)
 have c1:w2.cell? ⟨w1.heap.size,1,none⟩=some (.string x2):=by rw[hw2];exact(q_lt SZ).trans ((aW rfl).trans rfl)
 have c2:w2.cell? ⟨w1.heap.size+1,0,none⟩=some (.string y1):=by rw[hw2];exact(aW (by simp)).trans rfl
 have c3:w2.cell? ⟨w1.heap.size+1,1,none⟩=some (.string y2):=by rw[hw2];exact(aW (by simp)).trans rfl
 have KS:=hid (show ∀ W:World,Below w2.heap.size w2 W→(W.cell? ⟨w1.heap.size,0,none⟩=some (.string x1)∧W.cell? ⟨w1.heap.size,1,none⟩=some (.string x2)∧W.cell? ⟨w1.heap.size+1,0,none⟩=some (.string y1)∧W.cell? ⟨w1.heap.size+1,1,none⟩=some (.string y2)) from fun W hB =>
  ⟨(hB.cell (p:=⟨w1.heap.size,0,none⟩) (by show w1.heap.size<_;omega)).trans c0,(hB.cell (p:=⟨w1.heap.size,1,none⟩) (by show w1.heap.size<_;omega)).trans c1,(hB.cell (p:=⟨w1.heap.size+1,0,none⟩) (by show w1.heap.size+1<_;omega)).trans c2,(hB.cell (p:=⟨w1.heap.size+1,1,none⟩) (by show w1.heap.size+1<_;omega)).trans c3⟩)
 have KB:=hid (show ∀ W:World,Below w2.heap.size w2 W→Below w.heap.size w W from fun W hB=>F2.out.trans (hB.mono F2.out.size))
 obtain⟨v1,e1,hp⟩:=qm (P:=Tryz.prog) (w2.alloc (.map #[] 0)) 113 5 112 (.int .u8) underlying113 underlying5 w2.heap.size #[] 0 (z1q w2 (.map #[] 0)) (.int .u8 43) (.agg #[.func (.func 91) #[] #[],.func (.func 92) #[] #[]]) rfl rfl
 have hm1:=hp.here
 have FM1:=wK hp ((Below.refl w2.heap.size w2).alloc (Nat.le_refl _) (.map #[] 0))
 have hs1:=hp.size
 clear hp
 obtain⟨v2,e2,hp⟩:=qm (P:=Tryz.prog) v1 113 5 112 (.int .u8) underlying113 underlying5 w2.heap.size #[⟨.int .u8 43,.agg #[.func (.func 91) #[] #[],.func (.func 92) #[] #[]],0⟩] 1 hm1 (.int .u8 45) (.agg #[.func (.func 93) #[] #[],.func (.func 94) #[] #[]]) rfl rfl
 have hm2:=hp.here
 have FM2:=wK hp FM1
 have hs2:=hp.size
 clear hp hm1 FM1
 obtain⟨v3,e3,hp⟩:=qm (P:=Tryz.prog) v2 113 5 112 (.int .u8) underlying113 underlying5 w2.heap.size #[⟨.int .u8 43,.agg #[.func (.func 91) #[] #[],.func (.func 92) #[] #[]],0⟩,⟨.int .u8 45,.agg #[.func (.func 93) #[] #[],.func (.func 94) #[] #[]],1⟩] 2 hm2 (.int .u8 42) (.agg #[.func (.func 95) #[] #[],.func (.func 96) #[] #[]]) rfl rfl
 have hm3:=hp.here
 have FM3:=wK hp FM2
 have hs3:=hp.size
 clear hp hm2 FM2
 obtain⟨v4,e4,hp⟩:=qm (P:=Tryz.prog) v3 113 5 112 (.int .u8) underlying113 underlying5 w2.heap.size #[⟨.int .u8 43,.agg #[.func (.func 91) #[] #[],.func (.func 92) #[] #[]],0⟩,⟨.int .u8 45,.agg #[.func (.func 93) #[] #[],.func (.func 94) #[] #[]],1⟩,⟨.int .u8 42,.agg #[.func (.func 95) #[] #[],.func (.func 96) #[] #[]],2⟩] 3 hm3 (.int .u8 47) (.agg #[.func (.func 97) #[] #[],.func (.func 98) #[] #[]]) rfl rfl
 have hm4:=hp.here
 have FM4:=wK hp FM3
 have hs4:=hp.size
 clear hp hm3 FM3
 have e5:=z2P (P:=Tryz.prog) v4 113 5 112 (.int .u8) underlying113 underlying5 w2.heap.size _ 4 hm4 (.int .u8 ch) hk o _ hf
 clear hk hf
 have FM4:=hid FM4
 have s4:v4.heap.size=w2.heap.size+1:=by rw[hs4,hs3,hs2,hs1];simp
 have s4:=hid s4
 have hmk := @run_makeMap Tryz.prog
 clear hb hw2 z2 SZ c0 c1 c2 c3 hm4 hs1 hs2 hs3 hs4
 go_upto_region 4 with fail
 rw[← HW2.out]
 obtain⟨v5,hv5⟩:∃ W:World,W=v4.alloc (.cells #[.func (.func fs) #[] #[],.func (.func fa) #[] #[]] 112):=⟨_,rfl⟩
 have HV5:=hid hv5
 have F5:Below w2.heap.size w2 v5:=by rw[hv5];exact eO FM4.out _
 have f0:v5.cell? ⟨w2.heap.size+1,0,none⟩=some (.func (.func fs) #[] #[]):=by rw[hv5];exact(aW s4.out.symm).trans rfl
 have f1:v5.cell? ⟨w2.heap.size+1,1,none⟩=some (.func (.func fa) #[] #[]):=by rw[hv5];exact(aW s4.out.symm).trans rfl
 have z5:w2.heap.size+1<v5.heap.size:=by rw[hv5];simp;have:=s4.out;omega
 obtain⟨d0,d1,d2,d3⟩:=KS.out _ F5
 have F5:=hid F5
 have f0:=hid f0
 have f1:=hid f1
 have z5:=hid z5
 clear hv5
 go_upto_region 6 with fail
 rw[← HV5.out]
 go_wp2_with fail
 refine(C2.out _).mono ?_
 rintro e w6 ⟨rfl,hb6⟩
 obtain⟨v7,hv7⟩:∃ W:World,W=(w6.alloc (.cells #[.int .i64 p,.int .i64 q] 104)).alloc (.cells #[.int .i64 r,.int .i64 s] 104):=⟨_,rfl⟩
 have HV7:=hid hv7
 have b7:Below v5.heap.size v5 v7:=by rw[hv7];exact eO (eO hb6 _) _
 have F7:=hid (F5.out.trans (b7.mono F5.out.size))
 have g0:=(b7.cell (p:=⟨w2.heap.size+1,0,none⟩) z5.out).trans f0.out
 have g1:=(b7.cell (p:=⟨w2.heap.size+1,1,none⟩) z5.out).trans f1.out
 clear d0 d1 d2 d3
 obtain⟨d0,d1,d2,d3⟩:=KS.out _ F7.out
 have SZ:w6.heap.size<(w6.alloc (.cells #[.int .i64 p,.int .i64 q] 104)).heap.size:=by simp
 have k0:v7.cell? ⟨w6.heap.size,0,none⟩=some (.int .i64 p):=by rw[hv7];exact(q_lt SZ).trans ((aW rfl).trans rfl)
 have k1:v7.cell? ⟨w6.heap.size,1,none⟩=some (.int .i64 q):=by rw[hv7];exact(q_lt SZ).trans ((aW rfl).trans rfl)
 have k2:v7.cell? ⟨w6.heap.size+1,0,none⟩=some (.int .i64 r):=by rw[hv7];exact(aW (by simp)).trans rfl
 have k3:v7.cell? ⟨w6.heap.size+1,1,none⟩=some (.int .i64 s):=by rw[hv7];exact(aW (by simp)).trans rfl
 clear hv7 b7 SZ hb6
 go_upto_region 8 with fail
 rw[← HV7.out]
 rcases HSEL.out with⟨rfl,rfl,rfl⟩|⟨rfl,rfl,rfl⟩|⟨rfl,rfl,rfl⟩|⟨rfl,rfl,rfl⟩
 all_goals
  go_wp2_with fail
  refine(C3.out _).mono ?_
  rintro e w8 ⟨rfl,hb8⟩
  have F8:=hid (av F7.out hb8)
  clear hb8
  go_wp2_with fail
  refine(C4.out _ (HL.out.on (KB.out _ F8.out))).mono ?_
  rintro e w9 ⟨rfl,hb9⟩
  have F9:=hid (av F8.out hb9)
  clear hb9
  go_wp2
  go_ret2
  exact⟨rfl,KB.out _ F9.out⟩
theorem jY (a b x1 x2 y1 y2 d:ByteArray)(p q r s t u:Int)(w:World)(hl:La w)
 (h1:CL 45 #[.string a,.string b] (.tuple #[.agg #[.string x1,.string x2],.agg #[.string y1,.string y2],.bool true]))
 (h2:CQ 86 #[.agg #[.string x1,.string x2],.agg #[.string y1,.string y2]] (.tuple #[.agg #[.int .i64 p,.int .i64 q],.agg #[.int .i64 r,.int .i64 s],.bool true]))
 (h3:CQ 91 #[.agg #[.int .i64 p,.int .i64 q],.agg #[.int .i64 r,.int .i64 s]] (.agg #[.int .i64 t,.int .i64 u]))
 (h4:CL 99 #[.agg #[.int .i64 t,.int .i64 u]] (.string d)) :
 CR 49 #[.string a,.int .u8 43,.string b] w (.tuple #[.string d,.int .i64 0]) :=
 dM a b x1 x2 y1 y2 d p q r s t u 43 91 92 0 (by simp) rfl rfl w hl h1 h2 h3 h4
theorem jJ (a b x1 x2 y1 y2 d:ByteArray)(p q r s t u:Int)(w:World)(hl:La w)
 (h1:CL 45 #[.string a,.string b] (.tuple #[.agg #[.string x1,.string x2],.agg #[.string y1,.string y2],.bool true]))
 (h2:CQ 86 #[.agg #[.string x1,.string x2],.agg #[.string y1,.string y2]] (.tuple #[.agg #[.int .i64 p,.int .i64 q],.agg #[.int .i64 r,.int .i64 s],.bool true]))
 (h3:CQ 93 #[.agg #[.int .i64 p,.int .i64 q],.agg #[.int .i64 r,.int .i64 s]] (.agg #[.int .i64 t,.int .i64 u]))
 (h4:CL 99 #[.agg #[.int .i64 t,.int .i64 u]] (.string d)) :
 CR 49 #[.string a,.int .u8 45,.string b] w (.tuple #[.string d,.int .i64 0]) :=
 dM a b x1 x2 y1 y2 d p q r s t u 45 93 94 1 (by simp) rfl rfl w hl h1 h2 h3 h4
theorem kY (a b x1 x2 y1 y2 d:ByteArray)(p q r s t u:Int)(w:World)(hl:La w)
 (h1:CL 45 #[.string a,.string b] (.tuple #[.agg #[.string x1,.string x2],.agg #[.string y1,.string y2],.bool true]))
 (h2:CQ 86 #[.agg #[.string x1,.string x2],.agg #[.string y1,.string y2]] (.tuple #[.agg #[.int .i64 p,.int .i64 q],.agg #[.int .i64 r,.int .i64 s],.bool true]))
 (h3:CQ 95 #[.agg #[.int .i64 p,.int .i64 q],.agg #[.int .i64 r,.int .i64 s]] (.agg #[.int .i64 t,.int .i64 u]))
 (h4:CL 99 #[.agg #[.int .i64 t,.int .i64 u]] (.string d)) :
 CR 49 #[.string a,.int .u8 42,.string b] w (.tuple #[.string d,.int .i64 0]) :=
 dM a b x1 x2 y1 y2 d p q r s t u 42 95 96 2 (by simp) rfl rfl w hl h1 h2 h3 h4
theorem iq (a b x1 x2 y1 y2 d:ByteArray)(p q r s t u:Int)(w:World)(hl:La w)
 (h1:CL 45 #[.string a,.string b] (.tuple #[.agg #[.string x1,.string x2],.agg #[.string y1,.string y2],.bool true]))
 (h2:CQ 86 #[.agg #[.string x1,.string x2],.agg #[.string y1,.string y2]] (.tuple #[.agg #[.int .i64 p,.int .i64 q],.agg #[.int .i64 r,.int .i64 s],.bool true]))
 (h3:CQ 97 #[.agg #[.int .i64 p,.int .i64 q],.agg #[.int .i64 r,.int .i64 s]] (.agg #[.int .i64 t,.int .i64 u]))
 (h4:CL 99 #[.agg #[.int .i64 t,.int .i64 u]] (.string d)) :
 CR 49 #[.string a,.int .u8 47,.string b] w (.tuple #[.string d,.int .i64 0]) :=
 dM a b x1 x2 y1 y2 d p q r s t u 47 97 98 3 (by simp) rfl rfl w hl h1 h2 h3 h4
end Go.Proofs.YtmigpoiajkihhaaGreatDoor
