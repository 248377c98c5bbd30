/- texts -/
import Derived.Test.YtoaeaiiabelhkaaGreatDoorQe
open Go.Proofs.Tryz
set_option maxRecDepth 100000
set_option maxHeartbeats 20000000
open Go.Lib (hid)
namespace Go.Proofs.YtoaeaiiabelhkaaGreatDoor
open Go.RowKit Go.Gb
def Nq (w:World) (g:Nat) (s:ByteArray) (b:ByteArray):Prop:=w.heap[g]? = some (.cells #[.string s,.string b] 67 (0,0))
theorem Nq.lt {w:World}{g:Nat}{s:ByteArray}{b:ByteArray}(h:Nq w g s b):g<w.heap.size:=(Array.getElem?_eq_some_iff.1 h).1
theorem Nq.below {w w':World}{g:Nat}{s:ByteArray}{b:ByteArray}(h:Nq w g s b)(hb:Below w.heap.size w w'):Nq w' g s b:=by
 unfold Nq at *
 rw[hb.block g (Array.getElem?_eq_some_iff.1 h).1];exact h
theorem Nq.new (w:World)(s:ByteArray)(b:ByteArray):Nq (w.alloc (.cells #[.string s,.string b] 67)) w.heap.size s b:=by
 unfold Nq;rw[heap_alloc_new]
theorem Nq.alloc {w:World}{g:Nat}{s:ByteArray}{b:ByteArray}(h:Nq w g s b)(o:Obj):Nq (w.alloc o) g s b:=h.below ((Below.refl _ _).alloc (Nat.le_refl _) o)
theorem Nq.c0 {w:World}{g:Nat}{s:ByteArray}{b:ByteArray}(h:Nq w g s b):w.cell? ⟨g,0,none⟩=some (.string s):=by
 unfold Nq at h;simp[World.cell?,h]
theorem Nq.c1 {w:World}{g:Nat}{s:ByteArray}{b:ByteArray}(h:Nq w g s b):w.cell? ⟨g,1,none⟩=some (.string b):=by
 unfold Nq at h;simp[World.cell?,h]
theorem Nq.f {w:World}{g:Nat}{s:ByteArray}{b:ByteArray}(h:Nq w g s b)(i:Nat):w.frozen? ⟨g,i,none⟩=false:=by
 unfold Nq at h;simp only[World.frozen?,h];simp
theorem zK (a1 a2:ByteArray)(s t b c:ByteArray)(o1 o2:Bool)(w:World)(hl:La w)
 (h1:CL 39 #[.string a1] (.tuple #[.agg #[.string s,.string b],.bool o1]))
 (h2:CL 39 #[.string a2] (.tuple #[.agg #[.string t,.string c],.bool o2])) :
 CR 74 #[.string a1,.string a2] w (.tuple #[.agg #[.string s,.string b],.agg #[.string t,.string c],.bool (o1&&o2)]):=by
 have HX:=hid h1;have HL:=hid hl;clear hl;have HY:=hid h2;clear h1 h2;have u6:=hid (((Below.refl w.heap.size w).alloc (Nat.le_refl _) (.cells #[.string ⟨#[]⟩,.string ⟨#[]⟩] 67)).alloc (by simp) (.cells #[.string ⟨#[]⟩,.string ⟨#[]⟩] 67));have HN4:=hid ((Nq.new w ⟨#[]⟩ ⟨#[]⟩).alloc (.cells #[.string ⟨#[]⟩,.string ⟨#[]⟩] 67));have HN5:=Nq.new (w.alloc (.cells #[.string ⟨#[]⟩,.string ⟨#[]⟩] 67)) ⟨#[]⟩ ⟨#[]⟩;rw[World.size_alloc]at HN5;have HN5:=hid HN5;go_enter func74,ntmps74
 go_wp2_with fail
 refine(HX.o _ (HL.o.on u6.o)).mono ?_;rintro e w1 ⟨rfl,hb1⟩;obtain ⟨uu,HN4,HN5,HN7⟩:=aN ((u6.o.trans (hb1.mono u6.o.size)).alloc (u6.o.trans (hb1.mono u6.o.size)).size (.cells #[.string s,.string b] 67)) ((HN4.o.below hb1).alloc (.cells #[.string s,.string b] 67)) ((HN5.o.below hb1).alloc (.cells #[.string s,.string b] 67)) (Nq.new w1 s b);have hz1:=hid (show w.heap.size+1<w1.heap.size by have:=hb1.size;simp at this;omega);clear hb1;go_wp2_with fail
 refine(HY.o _ (HL.o.on uu.o)).mono ?_;rintro e w2 ⟨rfl,hb2⟩;have w9:=uu.o.trans (hb2.mono uu.o.size);obtain ⟨wm,HN4,HN5,HN7,HN9⟩:=bz (w9.alloc w9.size (.cells #[.string t,.string c] 67)) ((HN4.o.below hb2).alloc (.cells #[.string t,.string c] 67)) ((HN5.o.below hb2).alloc (.cells #[.string t,.string c] 67)) ((HN7.o.below hb2).alloc (.cells #[.string t,.string c] 67)) (Nq.new w2 t c);have hz2:=hid (show w1.heap.size<w2.heap.size by have:=hb2.size;simp at this;omega);clear hb2 w9;go_wp2;have hz1:=hz1.o;have hz2:=hz2.o;have c40:=HN4.o.c0;have c41:=HN4.o.c1;have f4:=HN4.o.f;have c50:=HN5.o.c0;have c51:=HN5.o.c1;have f5:=HN5.o.f;have c70:=HN7.o.c0;have c71:=HN7.o.c1;have c90:=HN9.o.c0;have c91:=HN9.o.c1;generalize w2.alloc (.cells #[.string t,.string c] 67)=W3 at *;have hlt:w2.heap.size<W3.heap.size:=HN9.o.lt;obtain⟨g4,hg4⟩:∃ g,g=w.heap.size:=⟨_,rfl⟩;obtain⟨g5,hg5⟩:∃ g,g=w.heap.size+1:=⟨_,rfl⟩;obtain⟨g7,hg7⟩:∃ g,g=w1.heap.size:=⟨_,rfl⟩;obtain⟨g9,hg9⟩:∃ g,g=w2.heap.size:=⟨_,rfl⟩;rw[← hg4]at c40 c41;rw[← hg5]at c50 c51;rw[← hg7]at c70 c71;rw[← hg9]at c90 c91;rw[← hg5,← hg4,← hg7,← hg9];have n1:g7≠g4:=by omega
 have n2:g9≠g4:=by omega
 have n3:g7≠g5:=by omega
 have n4:g9≠g5:=by omega
 have n5:g5≠g4:=by omega
 have f40:=f4 0;have f41:=f4 1;have f50:=f5 0;have f51:=f5 1;rw[← hg4]at f40 f41;rw[← hg5]at f50 f51;have hle4:=hid (show w.heap.size≤g4 by omega);have hle5:=hid (show w.heap.size≤g5 by omega);clear f4 f5 hg4 hg5 hg7 hg9 hz1 hz2 hlt;cases o1
 · go_region
   all_goals
    go_wp2;refine bodyPost_ret (v:=.tuple #[.agg #[.string s,.string b],.agg #[.string t,.string c],.bool (false&&o2)]) (by simp[results,results74,go_sem,c40,c41,c50,c51]) rfl ⟨rfl,?_⟩;repeat (first|exact wm.o|refine Below.setCell ?_ (by first|exact hle4.o|exact hle5.o) _|refine Below.drew ?_)
 · go_region
   all_goals
    go_wp2;refine bodyPost_ret (v:=.tuple #[.agg #[.string s,.string b],.agg #[.string t,.string c],.bool (true&&o2)]) (by simp[results,results74,go_sem,c40,c41,c50,c51]) rfl ⟨rfl,?_⟩;repeat (first|exact wm.o|refine Below.setCell ?_ (by first|exact hle4.o|exact hle5.o) _|refine Below.drew ?_)
theorem eH (x y:Rat)(hx:aO x)(hy:aO y)(w:World)(hl:La w) :
 CR 74 #[.string (Sq x),.string (Sq y)] w (.tuple #[Fv x,Fv y,.bool true]) :=
 zK (Sq x) (Sq y) _ _ _ _ true true w hl (fun W hW=>o6 x hx W hW) (fun W hW=>o6 y hy W hW)
theorem jL (q:Rat)(hq:aO q)(w:World)(hl:La w) :
 CR 16 #[.string (Sq q)] w (.bool true):=by
 have HR:=hid (o6 q hq w hl);unfold Fv at HR
 generalize Sz q.num=n at *;generalize Sz (q.den:Int)=d at *;generalize Sq q=a at *;clear hq hl;go_enter func16,ntmps16
 go_wp2_with fail
 refine HR.o.mono ?_;rintro e w1 ⟨rfl,hb⟩;have HB:=hid (hb.alloc hb.size (.cells #[.string n,.string d] 67));clear hb;go_wp2;go_ret
 exact⟨rfl,HB.o⟩
theorem z0T (a:ByteArray)(h:vldQ a.data.toList=false)(ha:a.size≤900)(w:World)(hl:La w) :
 CR 16 #[.string a] w (.bool false):=by
 have HR:=hid (z3n a h ha w hl);clear h ha hl;go_enter func16,ntmps16
 go_wp2_with fail
 refine HR.o.mono ?_;rintro e w1 ⟨⟨n,d,rfl⟩,hb⟩;have HB:=hid (hb.alloc hb.size (.cells #[.string n,.string d] 67));clear hb;go_wp2;go_ret
 exact⟨rfl,HB.o⟩
theorem z3l (x1 x2 y1 y2 z1 z2 u v:ByteArray)(w:World)(hl:La w)
 (h1:CL 140 #[.agg #[.string y1,.string y2]] (.agg #[.string z1,.string z2]))
 (h2:CL 107 #[.agg #[.string x1,.string x2],.agg #[.string z1,.string z2]] (.agg #[.string u,.string v])) :
 CR 109 #[.agg #[.string x1,.string x2],.agg #[.string y1,.string y2]] w (.agg #[.string u,.string v]):=by
 have C1:=hid h1;have C2:=hid h2;obtain⟨w0,hw0⟩:∃ w0:World,w0=(((w.alloc (.cells #[.string x1,.string x2] 67)).alloc (.cells #[.string y1,.string y2] 67)).alloc (.cells #[.string ⟨#[]⟩,.string ⟨#[]⟩] 67)):=⟨_,rfl⟩;have hz0:w0.heap.size=w.heap.size+3:=by rw[hw0];simp
 have hB0:Below w.heap.size w w0:=by
  rw[hw0];repeat (first|exact Below.refl _ _|refine Below.setCell ?_ (by first|omega|(simp;omega)|simp) _|refine Below.alloc ?_ (by first|omega|(simp;omega)|simp) _|refine Below.drew ?_)
 have hS0:w0.cell? ⟨w.heap.size,0,none⟩=some (.string x1)∧w0.cell? ⟨w.heap.size,1,none⟩=some (.string x2)∧w0.cell? ⟨w.heap.size+1,0,none⟩=some (.string y1)∧w0.cell? ⟨w.heap.size+1,1,none⟩=some (.string y2):=by rw[hw0];exact⟨((q_lt).trans ((q_lt).trans ((aM).trans rfl))),((q_lt).trans ((q_lt).trans ((aM).trans rfl))),((q_lt).trans ((aM).trans rfl)),((q_lt).trans ((aM).trans rfl))⟩
 have KS:=hid (show ∀ W:World,Below w0.heap.size w0 W→(W.cell? ⟨w.heap.size,0,none⟩=some (.string x1)∧W.cell? ⟨w.heap.size,1,none⟩=some (.string x2)∧W.cell? ⟨w.heap.size+1,0,none⟩=some (.string y1)∧W.cell? ⟨w.heap.size+1,1,none⟩=some (.string y2)) from fun W hB=>by
  obtain⟨c0,c1,c2,c3⟩:=hS0
  exact⟨hB.kc c0 (by omega),hB.kc c1 (by omega),hB.kc c2 (by omega),hB.kc c3 (by omega)⟩)
 have KZ:=Below.kz (show w.heap.size+3≤w0.heap.size by omega);have KB:=hB0.kb (by omega);have hR0:w0.cell? ⟨w.heap.size+1+1,0,none⟩=some (.string ⟨#[]⟩)∧w0.cell? ⟨w.heap.size+1+1,1,none⟩=some (.string ⟨#[]⟩)∧w0.frozen? ⟨w.heap.size+1+1,0,none⟩=false∧w0.frozen? ⟨w.heap.size+1+1,1,none⟩=false:=by rw[hw0];exact⟨((aM).trans rfl),((aM).trans rfl),(bG),(bG)⟩
 have KR:=hid (show ∀ W:World,Below w0.heap.size w0 W→(W.cell? ⟨w.heap.size+1+1,0,none⟩=some (.string ⟨#[]⟩)∧W.cell? ⟨w.heap.size+1+1,1,none⟩=some (.string ⟨#[]⟩)∧W.frozen? ⟨w.heap.size+1+1,0,none⟩=false∧W.frozen? ⟨w.heap.size+1+1,1,none⟩=false) from fun W hB=>by
  obtain⟨c0,c1,f0,f1⟩:=hR0
  exact⟨hB.kc c0 (by omega),hB.kc c1 (by omega),hB.kf f0 (by omega),hB.kf f1 (by omega)⟩)
 clear hR0
 have KT0:=hid (show ∀ (W:World) (v u:Value),Below w0.heap.size w0 W→(((W.setCell ⟨w.heap.size+1+1,0,none⟩ v).setCell ⟨w.heap.size+1+1,1,none⟩ u).cell? ⟨w.heap.size,0,none⟩=some (.string x1)∧((W.setCell ⟨w.heap.size+1+1,0,none⟩ v).setCell ⟨w.heap.size+1+1,1,none⟩ u).cell? ⟨w.heap.size,1,none⟩=some (.string x2)∧((W.setCell ⟨w.heap.size+1+1,0,none⟩ v).setCell ⟨w.heap.size+1+1,1,none⟩ u).cell? ⟨w.heap.size+1,0,none⟩=some (.string y1)∧((W.setCell ⟨w.heap.size+1+1,0,none⟩ v).setCell ⟨w.heap.size+1+1,1,none⟩ u).cell? ⟨w.heap.size+1,1,none⟩=some (.string y2)) from fun W v u hB=>by
  have hh:=KS.o W hB;obtain⟨c0,c1,c2,c3⟩:=hh
  exact⟨(aY (by omega)).trans ((aY (by omega)).trans c0),(aY (by omega)).trans ((aY (by omega)).trans c1),(aY (by omega)).trans ((aY (by omega)).trans c2),(aY (by omega)).trans ((aY (by omega)).trans c3)⟩)
 have F0:=hid (Below.refl w0.heap.size w0);have HW0:=hid hw0;clear hz0 hB0 hS0 hw0;have HL:=KB.kl fun _=>hl.on;clear hl h1 h2;go_enter func109,ntmps109
 go_wp2_with fail
 rw[← HW0.o];go_wp2_with fail
 go_region_held3 (fun w'=>w'.cell? ⟨w.heap.size,0,none⟩=some (.string x1)∧w'.cell? ⟨w.heap.size,1,none⟩=some (.string x2)∧w'.cell? ⟨w.heap.size+1,0,none⟩=some (.string y1)∧w'.cell? ⟨w.heap.size+1,1,none⟩=some (.string y2)) (first|exact KS.o _ F2.o|exact KS.o _ F2.o.drew|exact KS.o _ F1.o|exact KS.o _ F1.o.drew|exact KS.o _ F0.o|exact KS.o _ F0.o.drew|exact KT0.o _ _ _ F2.o|exact KT0.o _ _ _ F2.o.drew)
  (first
   | (go_at_call 140;(with_reducible refine(C1.o _ ?la0).mono ?_);(case la0=>first|exact HL.o _ F0.o|exact HL.o _ F0.o.drew);rintro e w1 ⟨rfl,hb⟩;have F1:=hid (show Below w0.heap.size w0 w1 by first|exact au F0.o hb|exact au F0.o.drew hb);clear hb)
   | (go_at_call 107;(with_reducible refine(C2.o _ ?la1).mono ?_);(case la1=>first|exact HL.o _ F1.o|exact HL.o _ F1.o.drew);rintro e w2 ⟨rfl,hb⟩;have F2:=hid (show Below w0.heap.size w0 w2 by first|exact au F1.o hb|exact au F1.o.drew hb);clear hb;have hz:=KZ.o _ F2.o;obtain⟨m0,m1,n0,n1⟩:=KR.o _ F2.o)
   | fail)
 all_goals
  have hz:=KZ.o _ F2.o;go_wp2;refine bodyPost_ret (v:=.agg #[.string u,.string v]) (by simp[results,results109,go_sem,m0,m1]) rfl ⟨rfl,?_⟩;repeat (first|exact KB.o _ F2.o|refine Below.setCell ?_ (by first|omega|(simp;omega)|simp) _|refine Below.alloc ?_ (by first|omega|(simp;omega)|simp) _|refine Below.drew ?_)
theorem z3r (x1 x2 y1 y2 z1 z2 u v:ByteArray)(w:World)(hl:La w)
 (h1:CL 141 #[.agg #[.string y1,.string y2]] (.agg #[.string z1,.string z2]))
 (h2:CL 111 #[.agg #[.string x1,.string x2],.agg #[.string z1,.string z2]] (.agg #[.string u,.string v])) :
 CR 113 #[.agg #[.string x1,.string x2],.agg #[.string y1,.string y2]] w (.agg #[.string u,.string v]):=by
 have C1:=hid h1;have C2:=hid h2;obtain⟨w0,hw0⟩:∃ w0:World,w0=(((w.alloc (.cells #[.string x1,.string x2] 67)).alloc (.cells #[.string y1,.string y2] 67)).alloc (.cells #[.string ⟨#[]⟩,.string ⟨#[]⟩] 67)):=⟨_,rfl⟩;have hz0:w0.heap.size=w.heap.size+3:=by rw[hw0];simp
 have hB0:Below w.heap.size w w0:=by
  rw[hw0];repeat (first|exact Below.refl _ _|refine Below.setCell ?_ (by first|omega|(simp;omega)|simp) _|refine Below.alloc ?_ (by first|omega|(simp;omega)|simp) _|refine Below.drew ?_)
 have hS0:w0.cell? ⟨w.heap.size,0,none⟩=some (.string x1)∧w0.cell? ⟨w.heap.size,1,none⟩=some (.string x2)∧w0.cell? ⟨w.heap.size+1,0,none⟩=some (.string y1)∧w0.cell? ⟨w.heap.size+1,1,none⟩=some (.string y2):=by rw[hw0];exact⟨((q_lt).trans ((q_lt).trans ((aM).trans rfl))),((q_lt).trans ((q_lt).trans ((aM).trans rfl))),((q_lt).trans ((aM).trans rfl)),((q_lt).trans ((aM).trans rfl))⟩
 have KS:=hid (show ∀ W:World,Below w0.heap.size w0 W→(W.cell? ⟨w.heap.size,0,none⟩=some (.string x1)∧W.cell? ⟨w.heap.size,1,none⟩=some (.string x2)∧W.cell? ⟨w.heap.size+1,0,none⟩=some (.string y1)∧W.cell? ⟨w.heap.size+1,1,none⟩=some (.string y2)) from fun W hB=>by
  obtain⟨c0,c1,c2,c3⟩:=hS0
  exact⟨hB.kc c0 (by omega),hB.kc c1 (by omega),hB.kc c2 (by omega),hB.kc c3 (by omega)⟩)
 have KZ:=Below.kz (show w.heap.size+3≤w0.heap.size by omega);have KB:=hB0.kb (by omega);have hR0:w0.cell? ⟨w.heap.size+1+1,0,none⟩=some (.string ⟨#[]⟩)∧w0.cell? ⟨w.heap.size+1+1,1,none⟩=some (.string ⟨#[]⟩)∧w0.frozen? ⟨w.heap.size+1+1,0,none⟩=false∧w0.frozen? ⟨w.heap.size+1+1,1,none⟩=false:=by rw[hw0];exact⟨((aM).trans rfl),((aM).trans rfl),(bG),(bG)⟩
 have KR:=hid (show ∀ W:World,Below w0.heap.size w0 W→(W.cell? ⟨w.heap.size+1+1,0,none⟩=some (.string ⟨#[]⟩)∧W.cell? ⟨w.heap.size+1+1,1,none⟩=some (.string ⟨#[]⟩)∧W.frozen? ⟨w.heap.size+1+1,0,none⟩=false∧W.frozen? ⟨w.heap.size+1+1,1,none⟩=false) from fun W hB=>by
  obtain⟨c0,c1,f0,f1⟩:=hR0
  exact⟨hB.kc c0 (by omega),hB.kc c1 (by omega),hB.kf f0 (by omega),hB.kf f1 (by omega)⟩)
 clear hR0
 have KT0:=hid (show ∀ (W:World) (v u:Value),Below w0.heap.size w0 W→(((W.setCell ⟨w.heap.size+1+1,0,none⟩ v).setCell ⟨w.heap.size+1+1,1,none⟩ u).cell? ⟨w.heap.size,0,none⟩=some (.string x1)∧((W.setCell ⟨w.heap.size+1+1,0,none⟩ v).setCell ⟨w.heap.size+1+1,1,none⟩ u).cell? ⟨w.heap.size,1,none⟩=some (.string x2)∧((W.setCell ⟨w.heap.size+1+1,0,none⟩ v).setCell ⟨w.heap.size+1+1,1,none⟩ u).cell? ⟨w.heap.size+1,0,none⟩=some (.string y1)∧((W.setCell ⟨w.heap.size+1+1,0,none⟩ v).setCell ⟨w.heap.size+1+1,1,none⟩ u).cell? ⟨w.heap.size+1,1,none⟩=some (.string y2)) from fun W v u hB=>by
  have hh:=KS.o W hB;obtain⟨c0,c1,c2,c3⟩:=hh
  exact⟨(aY (by omega)).trans ((aY (by omega)).trans c0),(aY (by omega)).trans ((aY (by omega)).trans c1),(aY (by omega)).trans ((aY (by omega)).trans c2),(aY (by omega)).trans ((aY (by omega)).trans c3)⟩)
 have F0:=hid (Below.refl w0.heap.size w0);have HW0:=hid hw0;clear hz0 hB0 hS0 hw0;have HL:=KB.kl fun _=>hl.on;clear hl h1 h2;go_enter func113,ntmps113
 go_wp2_with fail
 rw[← HW0.o];go_wp2_with fail
 go_region_held3 (fun w'=>w'.cell? ⟨w.heap.size,0,none⟩=some (.string x1)∧w'.cell? ⟨w.heap.size,1,none⟩=some (.string x2)∧w'.cell? ⟨w.heap.size+1,0,none⟩=some (.string y1)∧w'.cell? ⟨w.heap.size+1,1,none⟩=some (.string y2)) (first|exact KS.o _ F2.o|exact KS.o _ F2.o.drew|exact KS.o _ F1.o|exact KS.o _ F1.o.drew|exact KS.o _ F0.o|exact KS.o _ F0.o.drew|exact KT0.o _ _ _ F2.o|exact KT0.o _ _ _ F2.o.drew)
  (first
   | (go_at_call 141;(with_reducible refine(C1.o _ ?la0).mono ?_);(case la0=>first|exact HL.o _ F0.o|exact HL.o _ F0.o.drew);rintro e w1 ⟨rfl,hb⟩;have F1:=hid (show Below w0.heap.size w0 w1 by first|exact au F0.o hb|exact au F0.o.drew hb);clear hb)
   | (go_at_call 111;(with_reducible refine(C2.o _ ?la1).mono ?_);(case la1=>first|exact HL.o _ F1.o|exact HL.o _ F1.o.drew);rintro e w2 ⟨rfl,hb⟩;have F2:=hid (show Below w0.heap.size w0 w2 by first|exact au F1.o hb|exact au F1.o.drew hb);clear hb;have hz:=KZ.o _ F2.o;obtain⟨m0,m1,n0,n1⟩:=KR.o _ F2.o)
   | fail)
 all_goals
  have hz:=KZ.o _ F2.o;go_wp2;refine bodyPost_ret (v:=.agg #[.string u,.string v]) (by simp[results,results113,go_sem,m0,m1]) rfl ⟨rfl,?_⟩;repeat (first|exact KB.o _ F2.o|refine Below.setCell ?_ (by first|omega|(simp;omega)|simp) _|refine Below.alloc ?_ (by first|omega|(simp;omega)|simp) _|refine Below.drew ?_)
theorem fneg (q:Rat)(hq:aO q)(w:World)(hl:La w):CR 140 #[Fv q] w (Fv (-q)):=by
 unfold Fv
 exact z3p _ _ _ w hl (fun W hW=>rneg _ _ rfl hq.numL W hW)
theorem finv (q:Rat)(hq:aO q)(h0:q≠0)(w:World)(hl:La w):CR 141 #[Fv q] w (Fv q⁻¹):=by
 have hn:q.num≠0:=fun h=>h0 (Rat.num_eq_zero.1 h);unfold Fv
 rcases Int.lt_or_gt_of_ne hn with h|h
 · obtain⟨e1,e2⟩:=kS h
   rw[e1,e2];exact uC _ _ _ _ w hl (fun W hW=>qQ _ _ (Int.sign_eq_neg_one_of_neg h) hq.numL W hW) (fun W hW=>rneg _ _ rfl hq.numL W hW) (fun W hW=>rneg _ _ rfl hq.denL W hW)
 · obtain⟨e1,e2⟩:=nW h
   rw[e1,e2];exact uB _ _ w hl (fun W hW=>qQ _ _ (Int.sign_eq_one_of_pos h) hq.numL W hW)
theorem fmul (x y:Rat)(hx:aO x)(hy:aO y)(w:World)(hl:La w):CR 111 #[Fv x,Fv y] w (Fv (x*y)):=by
 obtain⟨g1,h1⟩:∃ g:Nat,g=Nat.gcd x.num.natAbs y.den:=⟨_,rfl⟩;obtain⟨g2,h2⟩:∃ g:Nat,g=Nat.gcd y.num.natAbs x.den:=⟨_,rfl⟩;obtain⟨e1,e2⟩:=z1b x y g1 g2 h1 h2;have p1:g1≠0:=by rw[h1];exact Nat.ne_of_gt (Nat.gcd_pos_of_pos_right _ (Nat.pos_of_ne_zero y.den_nz))
 have p2:g2≠0:=by rw[h2];exact Nat.ne_of_gt (Nat.gcd_pos_of_pos_right _ (Nat.pos_of_ne_zero x.den_nz))
 have fg1:FitL (g1:Int):=FitL.le hy.denL (by rw[Int.natAbs_natCast,Int.natAbs_natCast,h1];exact Nat.gcd_le_right _ (Nat.pos_of_ne_zero y.den_nz));have fg2:FitL (g2:Int):=FitL.le hx.denL (by rw[Int.natAbs_natCast,Int.natAbs_natCast,h2];exact Nat.gcd_le_right _ (Nat.pos_of_ne_zero x.den_nz));have fq:∀ {z:Int} (g:Nat),Sm 900 z.natAbs→Sm 900 (z / (g:Int)).natAbs:=fun g h=>Sm.le h (Int.natAbs_ediv_le_natAbs _ _);have ft:∀ {a b:Int},Sm 900 a.natAbs→Sm 900 b.natAbs→FitL (a*b):=fun ha hb=>by unfold FitL;rw[Int.natAbs_mul];exact(Sm.mul ha hb).mono (by decide)
 have sx:Sm 900 (x.den:Int).natAbs:=by rw[Int.natAbs_natCast];exact hx.2
 have sy:Sm 900 (y.den:Int).natAbs:=by rw[Int.natAbs_natCast];exact hy.2
 unfold Fv
 rw[e1,e2,Int.natCast_mul,Int.natCast_ediv,Int.natCast_ediv];refine z3q _ _ _ _ (Sz (g1:Int)) (Sz (g2:Int)) _ _ _ _ _ _ w hl (fun W hW=>lK _ _ _ (by rw[h1,Int.natAbs_natCast]) hx.numL hy.denL W hW) (fun W hW=>lK _ _ _ (by rw[h2,Int.natAbs_natCast]) hy.numL hx.denL W hW) (fun W hW=>rquo _ _ _ (by omega) rfl hx.numL fg1 W hW) (fun W hW=>rquo _ _ _ (by omega) rfl hy.numL fg2 W hW) (fun W hW=>nK _ _ _ rfl (FitL.of (fq g1 hx.1) (by decide)) (FitL.of (fq g2 hy.1) (by decide)) (ft (fq g1 hx.1) (fq g2 hy.1)) W hW) (fun W hW=>rquo _ _ _ (by omega) rfl hx.denL fg2 W hW) (fun W hW=>rquo _ _ _ (by omega) rfl hy.denL fg1 W hW) (fun W hW=>nK _ _ _ rfl (FitL.of (fq g2 sx) (by decide)) (FitL.of (fq g1 sy) (by decide)) (ft (fq g2 sx) (fq g1 sy)) W hW)
theorem fadd (x y:Rat)(hx:aO x)(hy:aO y)(w:World)(hl:La w):CR 107 #[Fv x,Fv y] w (Fv (x+y)):=by
 obtain⟨g,hg⟩:∃ g:Nat,g=Nat.gcd x.den y.den:=⟨_,rfl⟩;obtain⟨m,hm⟩:∃ m:Nat,m=y.den / g:=⟨_,rfl⟩;obtain⟨num,hnum⟩:∃ num:Int,num=x.num*(m:Int)+y.num*((x.den / g:Nat):Int):=⟨_,rfl⟩;obtain⟨r,hr⟩:∃ r:Nat,r=Nat.gcd num.natAbs g:=⟨_,rfl⟩;obtain⟨e1,e2⟩:=z2d x y g m r num hg hm hnum hr;have px:=Nat.pos_of_ne_zero x.den_nz;have p1:0<g:=by rw[hg];exact Nat.gcd_pos_of_pos_left _ px
 have p2:0<r:=by rw[hr];exact Nat.gcd_pos_of_pos_right _ p1
 have lg:g≤x.den:=by rw[hg];exact Nat.gcd_le_left _ px
 have lr:r≤x.den:=Nat.le_trans (by rw[hr];exact Nat.gcd_le_right _ p1) lg;have sg:Sm 900 g:=Sm.le hx.2 lg;have sr:Sm 900 r:=Sm.le hx.2 lr;have sm:Sm 900 m:=Sm.le hy.2 (by rw[hm];exact Nat.div_le_self _ _);have sq:Sm 900 (x.den / g):=Sm.le hx.2 (Nat.div_le_self _ _);have sv:Sm 900 (x.den / r):=Sm.le hx.2 (Nat.div_le_self _ _);have s1:Sm 1800 (x.num*(m:Int)).natAbs:=by rw[Int.natAbs_mul,Int.natAbs_natCast];exact(Sm.mul hx.1 sm).mono (by decide)
 have s2:Sm 1800 (y.num*((x.den / g:Nat):Int)).natAbs:=by rw[Int.natAbs_mul,Int.natAbs_natCast];exact(Sm.mul hy.1 sq).mono (by decide)
 have s3:Sm 1801 num.natAbs:=by rw[hnum];exact Sm.le ((Sm.add s1 s2).mono (by decide)) (Int.natAbs_add_le _ _)
 have s4:Sm 1800 (x.den / r*m):=(Sm.mul sv sm).mono (by decide);have fl:∀ {n k:Nat},Sm k n→k≤1900→FitL (n:Int):=fun h hk=>FitL.nat (h.mono hk);have f3:FitL num:=FitL.of s3 (by decide);unfold Fv
 rw[e1,e2];refine z3t _ _ _ _ (Sz (g:Int)) (Sz (m:Int)) (Sz (x.num*(m:Int))) (Sz ((x.den / g:Nat):Int)) (Sz (y.num*((x.den / g:Nat):Int))) (Sz num) (Sz (r:Int)) _ (Sz ((x.den / r:Nat):Int)) _ w hl ?_ ?_ ?_ ?_ ?_ ?_ ?_ ?_ ?_ ?_
 · exact fun W hW=>lK _ _ _ (by rw[hg,Int.natAbs_natCast,Int.natAbs_natCast]) hx.denL hy.denL W hW
 · exact fun W hW=>rquo _ _ _ (by omega) (by rw[hm,Int.natCast_ediv]) hy.denL (fl sg (by decide)) W hW
 · exact fun W hW=>nK _ _ _ rfl hx.numL (fl sm (by decide)) (FitL.of s1 (by decide)) W hW
 · exact fun W hW=>rquo _ _ _ (by omega) (by rw[Int.natCast_ediv]) hx.denL (fl sg (by decide)) W hW
 · exact fun W hW=>nK _ _ _ rfl hy.numL (fl sq (by decide)) (FitL.of s2 (by decide)) W hW
 · exact fun W hW=>z7c _ _ _ hnum.symm (FitL.of s1 (by decide)) (FitL.of s2 (by decide)) f3 W hW
 · exact fun W hW=>lK _ _ _ (by rw[hr,Int.natAbs_natCast]) f3 (fl sg (by decide)) W hW
 · exact fun W hW=>rquo _ _ _ (by omega) rfl f3 (fl sr (by decide)) W hW
 · exact fun W hW=>rquo _ _ _ (by omega) (by rw[Int.natCast_ediv]) hx.denL (fl sr (by decide)) W hW
 · exact fun W hW=>nK _ _ _ (by rw[Int.natCast_mul]) (fl sv (by decide)) (fl sm (by decide)) (fl s4 (by decide)) W hW
theorem aO.neg {q:Rat}(h:aO q):aO (-q):=SmQ.neg (show SmQ 900 q from h)
theorem aO.inv {q:Rat}(h:aO q)(h0:q≠0):aO q⁻¹:=SmQ.inv (show SmQ 900 q from h) h0
theorem fsub (x y:Rat)(hx:aO x)(hy:aO y)(w:World)(hl:La w):CR 109 #[Fv x,Fv y] w (Fv (x-y)):=by
 have h1:=fun W hW=>fneg y hy W hW;have h2:=fun W hW=>fadd x (-y) hx hy.neg W hW;rw[← Rat.sub_eq_add_neg]at h2;exact z3l _ _ _ _ _ _ _ _ w hl h1 h2
theorem fdiv (x y:Rat)(hx:aO x)(hy:aO y)(h0:y≠0)(w:World)(hl:La w):CR 113 #[Fv x,Fv y] w (Fv (x / y)):=by
 have h1:=fun W hW=>finv y hy h0 W hW;have h2:=fun W hW=>fmul x y⁻¹ hx (hy.inv h0) W hW;rw[← Rat.div_def]at h2;exact z3r _ _ _ _ _ _ _ _ w hl h1 h2
