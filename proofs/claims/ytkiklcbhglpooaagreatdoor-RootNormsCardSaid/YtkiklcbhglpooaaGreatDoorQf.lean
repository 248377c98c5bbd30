/- texts -/
import Derived.Test.YtkiklcbhglpooaaGreatDoorQe
open Go.Proofs.Tryz
set_option maxRecDepth 100000
set_option maxHeartbeats 20000000
open Go.Lib (hid)
namespace Go.Proofs.YtkiklcbhglpooaaGreatDoor
open Go.RowKit Go.Gb
def Nq (w:World) (g:Nat) (s:ByteArray) (b:ByteArray):Prop:=w.heap[g]? = some (.cells #[.string s,.string b] 86 (0,0))
theorem Nq.lt {w:World}{g:Nat}{s:ByteArray}{b:ByteArray}(h:Nq w g s b):g<w.heap.size:=(Array.getElem?_eq_some_iff.1 h).1
theorem Nq.below {w w':World}{g:Nat}{s:ByteArray}{b:ByteArray}(h:Nq w g s b)(hb:Below w.heap.size w w'):Nq w' g s b:=by
 unfold Nq at *
 rw[hb.block g (Array.getElem?_eq_some_iff.1 h).1];exact h
theorem Nq.new (w:World)(s:ByteArray)(b:ByteArray):Nq (w.alloc (.cells #[.string s,.string b] 86)) w.heap.size s b:=by
 unfold Nq;rw[heap_alloc_new]
theorem Nq.alloc {w:World}{g:Nat}{s:ByteArray}{b:ByteArray}(h:Nq w g s b)(o:Obj):Nq (w.alloc o) g s b:=h.below ((Below.refl _ _).alloc (Nat.le_refl _) o)
theorem Nq.c0 {w:World}{g:Nat}{s:ByteArray}{b:ByteArray}(h:Nq w g s b):w.cell? ⟨g,0,none⟩=some (.string s):=by
 unfold Nq at h;simp[World.cell?,h]
theorem Nq.c1 {w:World}{g:Nat}{s:ByteArray}{b:ByteArray}(h:Nq w g s b):w.cell? ⟨g,1,none⟩=some (.string b):=by
 unfold Nq at h;simp[World.cell?,h]
theorem Nq.f {w:World}{g:Nat}{s:ByteArray}{b:ByteArray}(h:Nq w g s b)(i:Nat):w.frozen? ⟨g,i,none⟩=false:=by
 unfold Nq at h;simp only[World.frozen?,h];simp
theorem zl (a1 a2:ByteArray)(s t b c:ByteArray)(o1 o2:Bool)(w:World)(hl:La w)
 (h1:CL 62 #[.string a1] (.tuple #[.agg #[.string s,.string b],.bool o1]))
 (h2:CL 62 #[.string a2] (.tuple #[.agg #[.string t,.string c],.bool o2])) :
 CR 138 #[.string a1,.string a2] w (.tuple #[.agg #[.string s,.string b],.agg #[.string t,.string c],.bool (o1&&o2)]):=by
 have HX:=hid h1;have HL:=hid hl;clear hl;have HY:=hid h2;clear h1 h2;have u6:=hid (((Below.refl w.heap.size w).alloc (Nat.le_refl _) (.cells #[.string ⟨#[]⟩,.string ⟨#[]⟩] 86)).alloc (by simp) (.cells #[.string ⟨#[]⟩,.string ⟨#[]⟩] 86));have HN4:=hid ((Nq.new w ⟨#[]⟩ ⟨#[]⟩).alloc (.cells #[.string ⟨#[]⟩,.string ⟨#[]⟩] 86));have HN5:=Nq.new (w.alloc (.cells #[.string ⟨#[]⟩,.string ⟨#[]⟩] 86)) ⟨#[]⟩ ⟨#[]⟩;rw[World.size_alloc]at HN5;have HN5:=hid HN5;go_enter func138,ntmps138
 go_wp2_with fail
 refine(HX.o _ (HL.o.on u6.o)).mono ?_;rintro e w1 ⟨rfl,hb1⟩;obtain ⟨wo,HN4,HN5,HN7⟩:=aP ((u6.o.trans (hb1.mono u6.o.size)).alloc (u6.o.trans (hb1.mono u6.o.size)).size (.cells #[.string s,.string b] 86)) ((HN4.o.below hb1).alloc (.cells #[.string s,.string b] 86)) ((HN5.o.below hb1).alloc (.cells #[.string s,.string b] 86)) (Nq.new w1 s b);have hz1:=hid (show w.heap.size+1<w1.heap.size by have:=hb1.size;simp at this;omega);clear hb1;go_wp2_with fail
 refine(HY.o _ (HL.o.on wo.o)).mono ?_;rintro e w2 ⟨rfl,hb2⟩;have w9:=wo.o.trans (hb2.mono wo.o.size);obtain ⟨wu,HN4,HN5,HN7,HN9⟩:=cB (w9.alloc w9.size (.cells #[.string t,.string c] 86)) ((HN4.o.below hb2).alloc (.cells #[.string t,.string c] 86)) ((HN5.o.below hb2).alloc (.cells #[.string t,.string c] 86)) ((HN7.o.below hb2).alloc (.cells #[.string t,.string c] 86)) (Nq.new w2 t c);have hz2:=hid (show w1.heap.size<w2.heap.size by have:=hb2.size;simp at this;omega);clear hb2 w9;go_wp2;have hz1:=hz1.o;have hz2:=hz2.o;have c40:=HN4.o.c0;have c41:=HN4.o.c1;have f4:=HN4.o.f;have c50:=HN5.o.c0;have c51:=HN5.o.c1;have f5:=HN5.o.f;have c70:=HN7.o.c0;have c71:=HN7.o.c1;have c90:=HN9.o.c0;have c91:=HN9.o.c1;generalize w2.alloc (.cells #[.string t,.string c] 86)=W3 at *;have hlt:w2.heap.size<W3.heap.size:=HN9.o.lt;obtain⟨g4,hg4⟩:∃ g,g=w.heap.size:=⟨_,rfl⟩;obtain⟨g5,hg5⟩:∃ g,g=w.heap.size+1:=⟨_,rfl⟩;obtain⟨g7,hg7⟩:∃ g,g=w1.heap.size:=⟨_,rfl⟩;obtain⟨g9,hg9⟩:∃ g,g=w2.heap.size:=⟨_,rfl⟩;rw[← hg4]at c40 c41;rw[← hg5]at c50 c51;rw[← hg7]at c70 c71;rw[← hg9]at c90 c91;rw[← hg5,← hg4,← hg7,← hg9];have n1:g7≠g4:=by omega
 have n2:g9≠g4:=by omega
 have n3:g7≠g5:=by omega
 have n4:g9≠g5:=by omega
 have n5:g5≠g4:=by omega
 have f40:=f4 0;have f41:=f4 1;have f50:=f5 0;have f51:=f5 1;rw[← hg4]at f40 f41;rw[← hg5]at f50 f51;have hle4:=hid (show w.heap.size≤g4 by omega);have hle5:=hid (show w.heap.size≤g5 by omega);clear f4 f5 hg4 hg5 hg7 hg9 hz1 hz2 hlt;cases o1
 · go_region
   all_goals
    go_wp2;refine bodyPost_ret (v:=.tuple #[.agg #[.string s,.string b],.agg #[.string t,.string c],.bool (false&&o2)]) (by simp[results,results138,go_sem,c40,c41,c50,c51]) rfl ⟨rfl,?_⟩;repeat (first|exact wu.o|refine Below.setCell ?_ (by first|exact hle4.o|exact hle5.o) _|refine Below.drew ?_)
 · go_region
   all_goals
    go_wp2;refine bodyPost_ret (v:=.tuple #[.agg #[.string s,.string b],.agg #[.string t,.string c],.bool (true&&o2)]) (by simp[results,results138,go_sem,c40,c41,c50,c51]) rfl ⟨rfl,?_⟩;repeat (first|exact wu.o|refine Below.setCell ?_ (by first|exact hle4.o|exact hle5.o) _|refine Below.drew ?_)
theorem eT (x y:Rat)(hx:FitQ x)(hy:FitQ y)(w:World)(hl:La w) :
 CR 138 #[.string (Sq x),.string (Sq y)] w (.tuple #[Fv x,Fv y,.bool true]) :=
 zl (Sq x) (Sq y) _ _ _ _ true true w hl (fun W hW=>jG x hx W hW) (fun W hW=>jG y hy W hW)
theorem pQ (q:Rat)(hq:FitQ q)(w:World)(hl:La w) :
 CR 24 #[.string (Sq q)] w (.bool true):=by
 have HR:=hid (jG q hq w hl);unfold Fv at HR
 generalize Sz q.num=n at *;generalize Sz (q.den:Int)=d at *;generalize Sq q=a at *;clear hq hl;go_enter func24,ntmps24
 go_wp2_with fail
 refine HR.o.mono ?_;rintro e w1 ⟨rfl,hb⟩;have HB:=hid (hb.alloc hb.size (.cells #[.string n,.string d] 86));clear hb;go_wp2;go_ret
 exact⟨rfl,HB.o⟩
theorem z0p (a:ByteArray)(h:vldQ a.data.toList=false)(ha:a.size≤900)(w:World)(hl:La w) :
 CR 24 #[.string a] w (.bool false):=by
 have HR:=hid (z2Y a h ha w hl);clear h ha hl;go_enter func24,ntmps24
 go_wp2_with fail
 refine HR.o.mono ?_;rintro e w1 ⟨⟨n,d,rfl⟩,hb⟩;have HB:=hid (hb.alloc hb.size (.cells #[.string n,.string d] 86));clear hb;go_wp2;go_ret
 exact⟨rfl,HB.o⟩
theorem z5q (q:Rat)(hq:FitQ q)(w:World)(hl:La w) :
 CR 54 #[.string (Sq q)] w (.tuple #[.string (Sz q.num),.string (Sz (q.den:Int)),.int .i64 0]):=by
 have HR:=hid (jG q hq w hl);unfold Fv at HR
 generalize Sz q.num=n at *;generalize Sz (q.den:Int)=d at *;generalize Sq q=a at *;clear hq hl;go_enter func54,ntmps54
 go_wp2_with fail
 refine HR.o.mono ?_;rintro e w1 ⟨rfl,hb⟩;have HB:=hid (hb.alloc hb.size (.cells #[.string n,.string d] 86));clear hb;go_wp2;go_region
 all_goals
  go_wp2;go_ret3
  exact⟨rfl,HB.o.drew⟩
theorem yG (a n d q r:ByteArray)(w:World)(hl:La w)
 (h1:CL 62 #[.string a] (.tuple #[.agg #[.string n,.string d],.bool true]))
 (h2:CL 196 #[.string n,.string d] (.tuple #[.string q,.string r,.int .i64 0])) :
 CR 165 #[.string a] w (.tuple #[.string q,.int .i64 0]):=by
 obtain ⟨HR,HD,HL⟩:=av (h1 w hl) h2 hl;clear h1 h2 hl;go_enter func165,ntmps165
 go_wp2_with fail
 refine HR.o.mono ?_;rintro e w1 ⟨rfl,hb⟩;have HB:=hid (hb.alloc hb.size (.cells #[.string n,.string d] 86));clear hb;go_wp2_with fail
 refine(HD.o _ (HL.o.on HB.o)).mono ?_;rintro e w2 ⟨rfl,hb⟩;have w9:=hbt HB hb;clear hb;go_wp2;go_ret2
 exact⟨rfl,w9.o⟩
theorem z3W (q:Rat)(hq:FitQ q)(w:World)(hl:La w) :
 CR 165 #[.string (Sq q)] w (.tuple #[.string (Sz (q.num / (q.den:Int))),.int .i64 0]) :=
 yG _ _ _ _ _ w hl (fun W hW=>jG q hq W hW) (fun W hW=>zO q.num (q.den:Int) _ _ (by have:=q.den_nz;omega) rfl rfl hq.numL.z hq.denL.z hq.numL.succ W hW)
theorem oK (a b g u v:ByteArray)(s:Int)(hs:0≤s)(w:World)(hl:La w)
 (h1:CL 121 #[.string b] (.int .i64 s))
 (h2:CL 174 #[.string a,.string b] (.string g))
 (h3:CL 185 #[.string a,.string g] (.string u))
 (h4:CL 185 #[.string b,.string g] (.string v)) :
 CR 198 #[.string a,.string b] w (.agg #[.string u,.string v]):=by
 have hs1:decide (s<0)=false:=by rw[decide_eq_false_iff_not];omega
 clear hs;obtain ⟨C1,C2,C3,C4⟩:=aP h1 h2 h3 h4;obtain⟨w0,hw0⟩:∃ w0:World,w0=(w.alloc (.cells #[.string ⟨#[]⟩,.string ⟨#[]⟩] 86)):=⟨_,rfl⟩;have hz0:w0.heap.size=w.heap.size+1:=by rw[hw0];simp
 have hB0:Below w.heap.size w w0:=by
  rw[hw0];repeat (first|exact Below.refl _ _|refine Below.setCell ?_ (by first|omega|(simp;omega)|simp) _|refine Below.alloc ?_ (by first|omega|(simp;omega)|simp) _|refine Below.drew ?_)
 have hS0:w0.cell? ⟨w.heap.size,0,none⟩=some (.string ⟨#[]⟩)∧w0.cell? ⟨w.heap.size,1,none⟩=some (.string ⟨#[]⟩):=by rw[hw0];exact⟨((aO).trans rfl),((aO).trans rfl)⟩
 have KS:=hid (show ∀ W:World,Below w0.heap.size w0 W→(W.cell? ⟨w.heap.size,0,none⟩=some (.string ⟨#[]⟩)∧W.cell? ⟨w.heap.size,1,none⟩=some (.string ⟨#[]⟩)) from fun W hB=>by
  obtain⟨c0,c1⟩:=hS0
  exact⟨(hB.cell (p:=⟨w.heap.size,0,none⟩) (by show w.heap.size<_;omega)).trans c0,(hB.cell (p:=⟨w.heap.size,1,none⟩) (by show w.heap.size<_;omega)).trans c1⟩)
 have KZ:=hid (show ∀ W:World,Below w0.heap.size w0 W→w.heap.size+1≤W.heap.size from fun W hB=>by have:=hB.size;omega);have KB:=hid (show ∀ W:World,Below w0.heap.size w0 W→Below w.heap.size w W from fun W hB=>hB0.trans (hB.mono (by omega)));have hR0:w0.cell? ⟨w.heap.size,0,none⟩=some (.string ⟨#[]⟩)∧w0.cell? ⟨w.heap.size,1,none⟩=some (.string ⟨#[]⟩)∧w0.frozen? ⟨w.heap.size,0,none⟩=false∧w0.frozen? ⟨w.heap.size,1,none⟩=false:=by rw[hw0];exact⟨((aO).trans rfl),((aO).trans rfl),(cz),(cz)⟩
 have KR:=hid (show ∀ W:World,Below w0.heap.size w0 W→(W.cell? ⟨w.heap.size,0,none⟩=some (.string ⟨#[]⟩)∧W.cell? ⟨w.heap.size,1,none⟩=some (.string ⟨#[]⟩)∧W.frozen? ⟨w.heap.size,0,none⟩=false∧W.frozen? ⟨w.heap.size,1,none⟩=false) from fun W hB=>by
  obtain⟨c0,c1,f0,f1⟩:=hR0
  exact⟨(hB.cell (p:=⟨w.heap.size,0,none⟩) (by show w.heap.size<_;omega)).trans c0,(hB.cell (p:=⟨w.heap.size,1,none⟩) (by show w.heap.size<_;omega)).trans c1,(hB.frozen (p:=⟨w.heap.size,0,none⟩) (by show w.heap.size<_;omega)).trans f0,(hB.frozen (p:=⟨w.heap.size,1,none⟩) (by show w.heap.size<_;omega)).trans f1⟩)
 clear hR0;have F0:=hid (Below.refl w0.heap.size w0);have HW0:=hid hw0;clear hz0 hB0 hS0 hw0;have HL:=hid (show ∀ W:World,Below w0.heap.size w0 W→La W from fun W hB=>hl.on (KB.o W hB));clear hl h1 h2 h3 h4;go_enter func198,ntmps198
 go_wp2_with fail
 rw[← HW0.o];obtain⟨d0,d1⟩:=KS.o _ F0.o;go_wp2_with fail
 refine(C1.o _ (HL.o _ F0.o)).mono ?_;rintro e w1 ⟨rfl,hb⟩;have F1:=hid (ak F0.o hb);clear hb d0 d1;obtain⟨d0,d1⟩:=KS.o _ F1.o;go_wp2_with fail
 refine(C2.o _ (HL.o _ F1.o)).mono ?_;rintro e w2 ⟨rfl,hb⟩;have F2:=hid (ak F1.o hb);clear hb d0 d1;obtain⟨d0,d1⟩:=KS.o _ F2.o;go_wp2_with fail
 refine(C3.o _ (HL.o _ F2.o)).mono ?_;rintro e w3 ⟨rfl,hb⟩;have F3:=hid (ak F2.o hb);clear hb d0 d1;obtain⟨d0,d1⟩:=KS.o _ F3.o;go_wp2_with fail
 refine(C4.o _ (HL.o _ F3.o)).mono ?_;rintro e w4 ⟨rfl,hb⟩;have F4:=hid (ak F3.o hb);clear hb d0 d1;obtain⟨d0,d1⟩:=KS.o _ F4.o
 all_goals
  obtain⟨m0,m1,n0,n1⟩:=KR.o _ F4.o;have hz:=KZ.o _ F4.o;go_wp2;refine bodyPost_ret (v:=.agg #[.string u,.string v]) (by simp[results,results198,go_sem,m0,m1]) rfl ⟨rfl,?_⟩;repeat (first|exact KB.o _ F4.o|refine Below.setCell ?_ (by first|omega|(simp;omega)|simp) _|refine Below.alloc ?_ (by first|omega|(simp;omega)|simp) _|refine Below.drew ?_)
theorem oL (a b a' b' g u v:ByteArray)(w:World)(hl:La w)
 (h1:CL 121 #[.string b] (.int .i64 (-1)))
 (h2:CL 211 #[.string a] (.string a'))
 (h3:CL 211 #[.string b] (.string b'))
 (h4:CL 174 #[.string a',.string b'] (.string g))
 (h5:CL 185 #[.string a',.string g] (.string u))
 (h6:CL 185 #[.string b',.string g] (.string v)) :
 CR 198 #[.string a,.string b] w (.agg #[.string u,.string v]):=by
 obtain ⟨C1,C2,C3,C4,C5,C6⟩:=dw h1 h2 h3 h4 h5 h6;obtain⟨w0,hw0⟩:∃ w0:World,w0=(w.alloc (.cells #[.string ⟨#[]⟩,.string ⟨#[]⟩] 86)):=⟨_,rfl⟩;have hz0:w0.heap.size=w.heap.size+1:=by rw[hw0];simp
 have hB0:Below w.heap.size w w0:=by
  rw[hw0];repeat (first|exact Below.refl _ _|refine Below.setCell ?_ (by first|omega|(simp;omega)|simp) _|refine Below.alloc ?_ (by first|omega|(simp;omega)|simp) _|refine Below.drew ?_)
 have hS0:w0.cell? ⟨w.heap.size,0,none⟩=some (.string ⟨#[]⟩)∧w0.cell? ⟨w.heap.size,1,none⟩=some (.string ⟨#[]⟩):=by rw[hw0];exact⟨((aO).trans rfl),((aO).trans rfl)⟩
 have KS:=hid (show ∀ W:World,Below w0.heap.size w0 W→(W.cell? ⟨w.heap.size,0,none⟩=some (.string ⟨#[]⟩)∧W.cell? ⟨w.heap.size,1,none⟩=some (.string ⟨#[]⟩)) from fun W hB=>by
  obtain⟨c0,c1⟩:=hS0
  exact⟨(hB.cell (p:=⟨w.heap.size,0,none⟩) (by show w.heap.size<_;omega)).trans c0,(hB.cell (p:=⟨w.heap.size,1,none⟩) (by show w.heap.size<_;omega)).trans c1⟩)
 have KZ:=hid (show ∀ W:World,Below w0.heap.size w0 W→w.heap.size+1≤W.heap.size from fun W hB=>by have:=hB.size;omega);have KB:=hid (show ∀ W:World,Below w0.heap.size w0 W→Below w.heap.size w W from fun W hB=>hB0.trans (hB.mono (by omega)));have hR0:w0.cell? ⟨w.heap.size,0,none⟩=some (.string ⟨#[]⟩)∧w0.cell? ⟨w.heap.size,1,none⟩=some (.string ⟨#[]⟩)∧w0.frozen? ⟨w.heap.size,0,none⟩=false∧w0.frozen? ⟨w.heap.size,1,none⟩=false:=by rw[hw0];exact⟨((aO).trans rfl),((aO).trans rfl),(cz),(cz)⟩
 have KR:=hid (show ∀ W:World,Below w0.heap.size w0 W→(W.cell? ⟨w.heap.size,0,none⟩=some (.string ⟨#[]⟩)∧W.cell? ⟨w.heap.size,1,none⟩=some (.string ⟨#[]⟩)∧W.frozen? ⟨w.heap.size,0,none⟩=false∧W.frozen? ⟨w.heap.size,1,none⟩=false) from fun W hB=>by
  obtain⟨c0,c1,f0,f1⟩:=hR0
  exact⟨(hB.cell (p:=⟨w.heap.size,0,none⟩) (by show w.heap.size<_;omega)).trans c0,(hB.cell (p:=⟨w.heap.size,1,none⟩) (by show w.heap.size<_;omega)).trans c1,(hB.frozen (p:=⟨w.heap.size,0,none⟩) (by show w.heap.size<_;omega)).trans f0,(hB.frozen (p:=⟨w.heap.size,1,none⟩) (by show w.heap.size<_;omega)).trans f1⟩)
 clear hR0;have F0:=hid (Below.refl w0.heap.size w0);have HW0:=hid hw0;clear hz0 hB0 hS0 hw0;have HL:=hid (show ∀ W:World,Below w0.heap.size w0 W→La W from fun W hB=>hl.on (KB.o W hB));clear hl h1 h2 h3 h4 h5 h6;go_enter func198,ntmps198
 go_wp2_with fail
 rw[← HW0.o];obtain⟨d0,d1⟩:=KS.o _ F0.o;go_wp2_with fail
 refine(C1.o _ (HL.o _ F0.o)).mono ?_;rintro e w1 ⟨rfl,hb⟩;have F1:=hid (ak F0.o hb);clear hb d0 d1;obtain⟨d0,d1⟩:=KS.o _ F1.o;go_wp2_with fail
 refine(C2.o _ (HL.o _ F1.o)).mono ?_;rintro e w2 ⟨rfl,hb⟩;have F2:=hid (ak F1.o hb);clear hb d0 d1;obtain⟨d0,d1⟩:=KS.o _ F2.o;go_wp2_with fail
 refine(C3.o _ (HL.o _ F2.o)).mono ?_;rintro e w3 ⟨rfl,hb⟩;have F3:=hid (ak F2.o hb);clear hb d0 d1;obtain⟨d0,d1⟩:=KS.o _ F3.o;go_wp2_with fail
 refine(C4.o _ (HL.o _ F3.o)).mono ?_;rintro e w4 ⟨rfl,hb⟩;have F4:=hid (ak F3.o hb);clear hb d0 d1;obtain⟨d0,d1⟩:=KS.o _ F4.o;go_wp2_with fail
 refine(C5.o _ (HL.o _ F4.o)).mono ?_;rintro e w5 ⟨rfl,hb⟩;have F5:=hid (ak F4.o hb);clear hb d0 d1;obtain⟨d0,d1⟩:=KS.o _ F5.o;go_wp2_with fail
 refine(C6.o _ (HL.o _ F5.o)).mono ?_;rintro e w6 ⟨rfl,hb⟩;have F6:=hid (ak F5.o hb);clear hb d0 d1;obtain⟨d0,d1⟩:=KS.o _ F6.o
 all_goals
  obtain⟨m0,m1,n0,n1⟩:=KR.o _ F6.o;have hz:=KZ.o _ F6.o;go_wp2;refine bodyPost_ret (v:=.agg #[.string u,.string v]) (by simp[results,results198,go_sem,m0,m1]) rfl ⟨rfl,?_⟩;repeat (first|exact KB.o _ F6.o|refine Below.setCell ?_ (by first|omega|(simp;omega)|simp) _|refine Below.alloc ?_ (by first|omega|(simp;omega)|simp) _|refine Below.drew ?_)
theorem z2W (x1 x2 y1 y2 z1 z2 u v:ByteArray)(w:World)(hl:La w)
 (h1:CL 187 #[.agg #[.string y1,.string y2]] (.agg #[.string z1,.string z2]))
 (h2:CL 153 #[.agg #[.string x1,.string x2],.agg #[.string z1,.string z2]] (.agg #[.string u,.string v])) :
 CR 155 #[.agg #[.string x1,.string x2],.agg #[.string y1,.string y2]] w (.agg #[.string u,.string v]):=by
 have C1:=hid h1;have C2:=hid h2;obtain⟨w0,hw0⟩:∃ w0:World,w0=(((w.alloc (.cells #[.string x1,.string x2] 86)).alloc (.cells #[.string y1,.string y2] 86)).alloc (.cells #[.string ⟨#[]⟩,.string ⟨#[]⟩] 86)):=⟨_,rfl⟩;have hz0:w0.heap.size=w.heap.size+3:=by rw[hw0];simp
 have hB0:Below w.heap.size w w0:=by
  rw[hw0];repeat (first|exact Below.refl _ _|refine Below.setCell ?_ (by first|omega|(simp;omega)|simp) _|refine Below.alloc ?_ (by first|omega|(simp;omega)|simp) _|refine Below.drew ?_)
 have hS0:w0.cell? ⟨w.heap.size,0,none⟩=some (.string x1)∧w0.cell? ⟨w.heap.size,1,none⟩=some (.string x2)∧w0.cell? ⟨w.heap.size+1,0,none⟩=some (.string y1)∧w0.cell? ⟨w.heap.size+1,1,none⟩=some (.string y2):=by rw[hw0];exact⟨((q_lt).trans ((q_lt).trans ((aO).trans rfl))),((q_lt).trans ((q_lt).trans ((aO).trans rfl))),((q_lt).trans ((aO).trans rfl)),((q_lt).trans ((aO).trans rfl))⟩
 have KS:=hid (show ∀ W:World,Below w0.heap.size w0 W→(W.cell? ⟨w.heap.size,0,none⟩=some (.string x1)∧W.cell? ⟨w.heap.size,1,none⟩=some (.string x2)∧W.cell? ⟨w.heap.size+1,0,none⟩=some (.string y1)∧W.cell? ⟨w.heap.size+1,1,none⟩=some (.string y2)) from fun W hB=>by
  obtain⟨c0,c1,c2,c3⟩:=hS0
  exact⟨(hB.cell (p:=⟨w.heap.size,0,none⟩) (by show w.heap.size<_;omega)).trans c0,(hB.cell (p:=⟨w.heap.size,1,none⟩) (by show w.heap.size<_;omega)).trans c1,(hB.cell (p:=⟨w.heap.size+1,0,none⟩) (by show w.heap.size+1<_;omega)).trans c2,(hB.cell (p:=⟨w.heap.size+1,1,none⟩) (by show w.heap.size+1<_;omega)).trans c3⟩)
 have KZ:=hid (show ∀ W:World,Below w0.heap.size w0 W→w.heap.size+3≤W.heap.size from fun W hB=>by have:=hB.size;omega);have KB:=hid (show ∀ W:World,Below w0.heap.size w0 W→Below w.heap.size w W from fun W hB=>hB0.trans (hB.mono (by omega)));have hR0:w0.cell? ⟨w.heap.size+1+1,0,none⟩=some (.string ⟨#[]⟩)∧w0.cell? ⟨w.heap.size+1+1,1,none⟩=some (.string ⟨#[]⟩)∧w0.frozen? ⟨w.heap.size+1+1,0,none⟩=false∧w0.frozen? ⟨w.heap.size+1+1,1,none⟩=false:=by rw[hw0];exact⟨((aO).trans rfl),((aO).trans rfl),(cz),(cz)⟩
 have KR:=hid (show ∀ W:World,Below w0.heap.size w0 W→(W.cell? ⟨w.heap.size+1+1,0,none⟩=some (.string ⟨#[]⟩)∧W.cell? ⟨w.heap.size+1+1,1,none⟩=some (.string ⟨#[]⟩)∧W.frozen? ⟨w.heap.size+1+1,0,none⟩=false∧W.frozen? ⟨w.heap.size+1+1,1,none⟩=false) from fun W hB=>by
  obtain⟨c0,c1,f0,f1⟩:=hR0
  exact⟨(hB.cell (p:=⟨w.heap.size+1+1,0,none⟩) (by show w.heap.size+1+1<_;omega)).trans c0,(hB.cell (p:=⟨w.heap.size+1+1,1,none⟩) (by show w.heap.size+1+1<_;omega)).trans c1,(hB.frozen (p:=⟨w.heap.size+1+1,0,none⟩) (by show w.heap.size+1+1<_;omega)).trans f0,(hB.frozen (p:=⟨w.heap.size+1+1,1,none⟩) (by show w.heap.size+1+1<_;omega)).trans f1⟩)
 clear hR0
 have KT0:=hid (show ∀ (W:World) (v u:Value),Below w0.heap.size w0 W→(((W.setCell ⟨w.heap.size+1+1,0,none⟩ v).setCell ⟨w.heap.size+1+1,1,none⟩ u).cell? ⟨w.heap.size,0,none⟩=some (.string x1)∧((W.setCell ⟨w.heap.size+1+1,0,none⟩ v).setCell ⟨w.heap.size+1+1,1,none⟩ u).cell? ⟨w.heap.size,1,none⟩=some (.string x2)∧((W.setCell ⟨w.heap.size+1+1,0,none⟩ v).setCell ⟨w.heap.size+1+1,1,none⟩ u).cell? ⟨w.heap.size+1,0,none⟩=some (.string y1)∧((W.setCell ⟨w.heap.size+1+1,0,none⟩ v).setCell ⟨w.heap.size+1+1,1,none⟩ u).cell? ⟨w.heap.size+1,1,none⟩=some (.string y2)) from fun W v u hB=>by
  have hh:=KS.o W hB;obtain⟨c0,c1,c2,c3⟩:=hh
  exact⟨(bA (by omega)).trans ((bA (by omega)).trans c0),(bA (by omega)).trans ((bA (by omega)).trans c1),(bA (by omega)).trans ((bA (by omega)).trans c2),(bA (by omega)).trans ((bA (by omega)).trans c3)⟩)
 have F0:=hid (Below.refl w0.heap.size w0);have HW0:=hid hw0;clear hz0 hB0 hS0 hw0;have HL:=hid (show ∀ W:World,Below w0.heap.size w0 W→La W from fun W hB=>hl.on (KB.o W hB));clear hl h1 h2;go_enter func155,ntmps155
 go_wp2_with fail
 rw[← HW0.o];go_wp2_with fail
 go_region_held3 (fun w'=>w'.cell? ⟨w.heap.size,0,none⟩=some (.string x1)∧w'.cell? ⟨w.heap.size,1,none⟩=some (.string x2)∧w'.cell? ⟨w.heap.size+1,0,none⟩=some (.string y1)∧w'.cell? ⟨w.heap.size+1,1,none⟩=some (.string y2)) (first|exact KS.o _ F2.o|exact KS.o _ F2.o.drew|exact KS.o _ F1.o|exact KS.o _ F1.o.drew|exact KS.o _ F0.o|exact KS.o _ F0.o.drew|exact KT0.o _ _ _ F2.o|exact KT0.o _ _ _ F2.o.drew)
  (first
   | (go_at_call 187;(with_reducible refine(C1.o _ ?la0).mono ?_);(case la0=>first|exact HL.o _ F0.o|exact HL.o _ F0.o.drew);rintro e w1 ⟨rfl,hb⟩;have F1:=hid (show Below w0.heap.size w0 w1 by first|exact ak F0.o hb|exact ak F0.o.drew hb);clear hb)
   | (go_at_call 153;(with_reducible refine(C2.o _ ?la1).mono ?_);(case la1=>first|exact HL.o _ F1.o|exact HL.o _ F1.o.drew);rintro e w2 ⟨rfl,hb⟩;have F2:=hid (show Below w0.heap.size w0 w2 by first|exact ak F1.o hb|exact ak F1.o.drew hb);clear hb;have hz:=KZ.o _ F2.o;obtain⟨m0,m1,n0,n1⟩:=KR.o _ F2.o)
   | fail)
 all_goals
  have hz:=KZ.o _ F2.o;go_wp2;refine bodyPost_ret (v:=.agg #[.string u,.string v]) (by simp[results,results155,go_sem,m0,m1]) rfl ⟨rfl,?_⟩;repeat (first|exact KB.o _ F2.o|refine Below.setCell ?_ (by first|omega|(simp;omega)|simp) _|refine Below.alloc ?_ (by first|omega|(simp;omega)|simp) _|refine Below.drew ?_)
theorem z3c (x1 x2 y1 y2 z1 z2 u v:ByteArray)(w:World)(hl:La w)
 (h1:CL 188 #[.agg #[.string y1,.string y2]] (.agg #[.string z1,.string z2]))
 (h2:CL 157 #[.agg #[.string x1,.string x2],.agg #[.string z1,.string z2]] (.agg #[.string u,.string v])) :
 CR 159 #[.agg #[.string x1,.string x2],.agg #[.string y1,.string y2]] w (.agg #[.string u,.string v]):=by
 have C1:=hid h1;have C2:=hid h2;obtain⟨w0,hw0⟩:∃ w0:World,w0=(((w.alloc (.cells #[.string x1,.string x2] 86)).alloc (.cells #[.string y1,.string y2] 86)).alloc (.cells #[.string ⟨#[]⟩,.string ⟨#[]⟩] 86)):=⟨_,rfl⟩;have hz0:w0.heap.size=w.heap.size+3:=by rw[hw0];simp
 have hB0:Below w.heap.size w w0:=by
  rw[hw0];repeat (first|exact Below.refl _ _|refine Below.setCell ?_ (by first|omega|(simp;omega)|simp) _|refine Below.alloc ?_ (by first|omega|(simp;omega)|simp) _|refine Below.drew ?_)
 have hS0:w0.cell? ⟨w.heap.size,0,none⟩=some (.string x1)∧w0.cell? ⟨w.heap.size,1,none⟩=some (.string x2)∧w0.cell? ⟨w.heap.size+1,0,none⟩=some (.string y1)∧w0.cell? ⟨w.heap.size+1,1,none⟩=some (.string y2):=by rw[hw0];exact⟨((q_lt).trans ((q_lt).trans ((aO).trans rfl))),((q_lt).trans ((q_lt).trans ((aO).trans rfl))),((q_lt).trans ((aO).trans rfl)),((q_lt).trans ((aO).trans rfl))⟩
 have KS:=hid (show ∀ W:World,Below w0.heap.size w0 W→(W.cell? ⟨w.heap.size,0,none⟩=some (.string x1)∧W.cell? ⟨w.heap.size,1,none⟩=some (.string x2)∧W.cell? ⟨w.heap.size+1,0,none⟩=some (.string y1)∧W.cell? ⟨w.heap.size+1,1,none⟩=some (.string y2)) from fun W hB=>by
  obtain⟨c0,c1,c2,c3⟩:=hS0
  exact⟨(hB.cell (p:=⟨w.heap.size,0,none⟩) (by show w.heap.size<_;omega)).trans c0,(hB.cell (p:=⟨w.heap.size,1,none⟩) (by show w.heap.size<_;omega)).trans c1,(hB.cell (p:=⟨w.heap.size+1,0,none⟩) (by show w.heap.size+1<_;omega)).trans c2,(hB.cell (p:=⟨w.heap.size+1,1,none⟩) (by show w.heap.size+1<_;omega)).trans c3⟩)
 have KZ:=hid (show ∀ W:World,Below w0.heap.size w0 W→w.heap.size+3≤W.heap.size from fun W hB=>by have:=hB.size;omega);have KB:=hid (show ∀ W:World,Below w0.heap.size w0 W→Below w.heap.size w W from fun W hB=>hB0.trans (hB.mono (by omega)));have hR0:w0.cell? ⟨w.heap.size+1+1,0,none⟩=some (.string ⟨#[]⟩)∧w0.cell? ⟨w.heap.size+1+1,1,none⟩=some (.string ⟨#[]⟩)∧w0.frozen? ⟨w.heap.size+1+1,0,none⟩=false∧w0.frozen? ⟨w.heap.size+1+1,1,none⟩=false:=by rw[hw0];exact⟨((aO).trans rfl),((aO).trans rfl),(cz),(cz)⟩
 have KR:=hid (show ∀ W:World,Below w0.heap.size w0 W→(W.cell? ⟨w.heap.size+1+1,0,none⟩=some (.string ⟨#[]⟩)∧W.cell? ⟨w.heap.size+1+1,1,none⟩=some (.string ⟨#[]⟩)∧W.frozen? ⟨w.heap.size+1+1,0,none⟩=false∧W.frozen? ⟨w.heap.size+1+1,1,none⟩=false) from fun W hB=>by
  obtain⟨c0,c1,f0,f1⟩:=hR0
  exact⟨(hB.cell (p:=⟨w.heap.size+1+1,0,none⟩) (by show w.heap.size+1+1<_;omega)).trans c0,(hB.cell (p:=⟨w.heap.size+1+1,1,none⟩) (by show w.heap.size+1+1<_;omega)).trans c1,(hB.frozen (p:=⟨w.heap.size+1+1,0,none⟩) (by show w.heap.size+1+1<_;omega)).trans f0,(hB.frozen (p:=⟨w.heap.size+1+1,1,none⟩) (by show w.heap.size+1+1<_;omega)).trans f1⟩)
 clear hR0
 have KT0:=hid (show ∀ (W:World) (v u:Value),Below w0.heap.size w0 W→(((W.setCell ⟨w.heap.size+1+1,0,none⟩ v).setCell ⟨w.heap.size+1+1,1,none⟩ u).cell? ⟨w.heap.size,0,none⟩=some (.string x1)∧((W.setCell ⟨w.heap.size+1+1,0,none⟩ v).setCell ⟨w.heap.size+1+1,1,none⟩ u).cell? ⟨w.heap.size,1,none⟩=some (.string x2)∧((W.setCell ⟨w.heap.size+1+1,0,none⟩ v).setCell ⟨w.heap.size+1+1,1,none⟩ u).cell? ⟨w.heap.size+1,0,none⟩=some (.string y1)∧((W.setCell ⟨w.heap.size+1+1,0,none⟩ v).setCell ⟨w.heap.size+1+1,1,none⟩ u).cell? ⟨w.heap.size+1,1,none⟩=some (.string y2)) from fun W v u hB=>by
  have hh:=KS.o W hB;obtain⟨c0,c1,c2,c3⟩:=hh
  exact⟨(bA (by omega)).trans ((bA (by omega)).trans c0),(bA (by omega)).trans ((bA (by omega)).trans c1),(bA (by omega)).trans ((bA (by omega)).trans c2),(bA (by omega)).trans ((bA (by omega)).trans c3)⟩)
 have F0:=hid (Below.refl w0.heap.size w0);have HW0:=hid hw0;clear hz0 hB0 hS0 hw0;have HL:=hid (show ∀ W:World,Below w0.heap.size w0 W→La W from fun W hB=>hl.on (KB.o W hB));clear hl h1 h2;go_enter func159,ntmps159
 go_wp2_with fail
 rw[← HW0.o];go_wp2_with fail
 go_region_held3 (fun w'=>w'.cell? ⟨w.heap.size,0,none⟩=some (.string x1)∧w'.cell? ⟨w.heap.size,1,none⟩=some (.string x2)∧w'.cell? ⟨w.heap.size+1,0,none⟩=some (.string y1)∧w'.cell? ⟨w.heap.size+1,1,none⟩=some (.string y2)) (first|exact KS.o _ F2.o|exact KS.o _ F2.o.drew|exact KS.o _ F1.o|exact KS.o _ F1.o.drew|exact KS.o _ F0.o|exact KS.o _ F0.o.drew|exact KT0.o _ _ _ F2.o|exact KT0.o _ _ _ F2.o.drew)
  (first
   | (go_at_call 188;(with_reducible refine(C1.o _ ?la0).mono ?_);(case la0=>first|exact HL.o _ F0.o|exact HL.o _ F0.o.drew);rintro e w1 ⟨rfl,hb⟩;have F1:=hid (show Below w0.heap.size w0 w1 by first|exact ak F0.o hb|exact ak F0.o.drew hb);clear hb)
   | (go_at_call 157;(with_reducible refine(C2.o _ ?la1).mono ?_);(case la1=>first|exact HL.o _ F1.o|exact HL.o _ F1.o.drew);rintro e w2 ⟨rfl,hb⟩;have F2:=hid (show Below w0.heap.size w0 w2 by first|exact ak F1.o hb|exact ak F1.o.drew hb);clear hb;have hz:=KZ.o _ F2.o;obtain⟨m0,m1,n0,n1⟩:=KR.o _ F2.o)
   | fail)
 all_goals
  have hz:=KZ.o _ F2.o;go_wp2;refine bodyPost_ret (v:=.agg #[.string u,.string v]) (by simp[results,results159,go_sem,m0,m1]) rfl ⟨rfl,?_⟩;repeat (first|exact KB.o _ F2.o|refine Below.setCell ?_ (by first|omega|(simp;omega)|simp) _|refine Below.alloc ?_ (by first|omega|(simp;omega)|simp) _|refine Below.drew ?_)
theorem fneg (q:Rat)(hq:FitQ q)(w:World)(hl:La w):CR 187 #[Fv q] w (Fv (-q)):=by
 unfold Fv
 exact z3a _ _ _ w hl (fun W hW=>rneg _ _ rfl hq.numL W hW)
theorem finv (q:Rat)(hq:FitQ q)(h0:q≠0)(w:World)(hl:La w):CR 188 #[Fv q] w (Fv q⁻¹):=by
 have hn:q.num≠0:=fun h=>h0 (Rat.num_eq_zero.1 h);unfold Fv
 rcases Int.lt_or_gt_of_ne hn with h|h
 · obtain⟨e1,e2⟩:=l8 h
   rw[e1,e2];exact uB _ _ _ _ w hl (fun W hW=>nG _ _ (Int.sign_eq_neg_one_of_neg h) hq.numL W hW) (fun W hW=>rneg _ _ rfl hq.numL W hW) (fun W hW=>rneg _ _ rfl hq.denL W hW)
 · obtain⟨e1,e2⟩:=inv_pos h
   rw[e1,e2];exact uA _ _ w hl (fun W hW=>nG _ _ (Int.sign_eq_one_of_pos h) hq.numL W hW)
theorem fmul (x y:Rat)(hx:FitQ x)(hy:FitQ y)(w:World)(hl:La w):CR 157 #[Fv x,Fv y] w (Fv (x*y)):=by
 obtain⟨g1,h1⟩:∃ g:Nat,g=Nat.gcd x.num.natAbs y.den:=⟨_,rfl⟩;obtain⟨g2,h2⟩:∃ g:Nat,g=Nat.gcd y.num.natAbs x.den:=⟨_,rfl⟩;obtain⟨e1,e2⟩:=z0M x y g1 g2 h1 h2;have p1:g1≠0:=by rw[h1];exact Nat.ne_of_gt (Nat.gcd_pos_of_pos_right _ (Nat.pos_of_ne_zero y.den_nz))
 have p2:g2≠0:=by rw[h2];exact Nat.ne_of_gt (Nat.gcd_pos_of_pos_right _ (Nat.pos_of_ne_zero x.den_nz))
 have fg1:FitL (g1:Int):=FitL.le hy.denL (by rw[Int.natAbs_natCast,Int.natAbs_natCast,h1];exact Nat.gcd_le_right _ (Nat.pos_of_ne_zero y.den_nz));have fg2:FitL (g2:Int):=FitL.le hx.denL (by rw[Int.natAbs_natCast,Int.natAbs_natCast,h2];exact Nat.gcd_le_right _ (Nat.pos_of_ne_zero x.den_nz));have fq:∀ {z:Int} (g:Nat),Sm 900 z.natAbs→Sm 900 (z / (g:Int)).natAbs:=fun g h=>Sm.le h (Int.natAbs_ediv_le_natAbs _ _);have ft:∀ {a b:Int},Sm 900 a.natAbs→Sm 900 b.natAbs→FitL (a*b):=fun ha hb=>by unfold FitL;rw[Int.natAbs_mul];exact(Sm.mul ha hb).mono (by decide)
 have sx:Sm 900 (x.den:Int).natAbs:=by rw[Int.natAbs_natCast];exact hx.2
 have sy:Sm 900 (y.den:Int).natAbs:=by rw[Int.natAbs_natCast];exact hy.2
 unfold Fv
 rw[e1,e2,Int.natCast_mul,Int.natCast_ediv,Int.natCast_ediv];refine z3b _ _ _ _ (Sz (g1:Int)) (Sz (g2:Int)) _ _ _ _ _ _ w hl (fun W hW=>jB _ _ _ (by rw[h1,Int.natAbs_natCast]) hx.numL hy.denL W hW) (fun W hW=>jB _ _ _ (by rw[h2,Int.natAbs_natCast]) hy.numL hx.denL W hW) (fun W hW=>rquo _ _ _ (by omega) rfl hx.numL fg1 W hW) (fun W hW=>rquo _ _ _ (by omega) rfl hy.numL fg2 W hW) (fun W hW=>nE _ _ _ rfl (FitL.of (fq g1 hx.1) (by decide)) (FitL.of (fq g2 hy.1) (by decide)) (ft (fq g1 hx.1) (fq g2 hy.1)) W hW) (fun W hW=>rquo _ _ _ (by omega) rfl hx.denL fg2 W hW) (fun W hW=>rquo _ _ _ (by omega) rfl hy.denL fg1 W hW) (fun W hW=>nE _ _ _ rfl (FitL.of (fq g2 sx) (by decide)) (FitL.of (fq g1 sy) (by decide)) (ft (fq g2 sx) (fq g1 sy)) W hW)
theorem fadd (x y:Rat)(hx:FitQ x)(hy:FitQ y)(w:World)(hl:La w):CR 153 #[Fv x,Fv y] w (Fv (x+y)):=by
 obtain⟨g,hg⟩:∃ g:Nat,g=Nat.gcd x.den y.den:=⟨_,rfl⟩;obtain⟨m,hm⟩:∃ m:Nat,m=y.den / g:=⟨_,rfl⟩;obtain⟨num,hnum⟩:∃ num:Int,num=x.num*(m:Int)+y.num*((x.den / g:Nat):Int):=⟨_,rfl⟩;obtain⟨r,hr⟩:∃ r:Nat,r=Nat.gcd num.natAbs g:=⟨_,rfl⟩;obtain⟨e1,e2⟩:=z1C x y g m r num hg hm hnum hr;have px:=Nat.pos_of_ne_zero x.den_nz;have p1:0<g:=by rw[hg];exact Nat.gcd_pos_of_pos_left _ px
 have p2:0<r:=by rw[hr];exact Nat.gcd_pos_of_pos_right _ p1
 have lg:g≤x.den:=by rw[hg];exact Nat.gcd_le_left _ px
 have lr:r≤x.den:=Nat.le_trans (by rw[hr];exact Nat.gcd_le_right _ p1) lg;have sg:Sm 900 g:=Sm.le hx.2 lg;have sr:Sm 900 r:=Sm.le hx.2 lr;have sm:Sm 900 m:=Sm.le hy.2 (by rw[hm];exact Nat.div_le_self _ _);have sq:Sm 900 (x.den / g):=Sm.le hx.2 (Nat.div_le_self _ _);have sv:Sm 900 (x.den / r):=Sm.le hx.2 (Nat.div_le_self _ _);have s1:Sm 1800 (x.num*(m:Int)).natAbs:=by rw[Int.natAbs_mul,Int.natAbs_natCast];exact(Sm.mul hx.1 sm).mono (by decide)
 have s2:Sm 1800 (y.num*((x.den / g:Nat):Int)).natAbs:=by rw[Int.natAbs_mul,Int.natAbs_natCast];exact(Sm.mul hy.1 sq).mono (by decide)
 have s3:Sm 1801 num.natAbs:=by rw[hnum];exact Sm.le ((Sm.add s1 s2).mono (by decide)) (Int.natAbs_add_le _ _)
 have s4:Sm 1800 (x.den / r*m):=(Sm.mul sv sm).mono (by decide);have fl:∀ {n k:Nat},Sm k n→k≤1900→FitL (n:Int):=fun h hk=>FitL.nat (h.mono hk);have f3:FitL num:=FitL.of s3 (by decide);unfold Fv
 rw[e1,e2];refine z3e _ _ _ _ (Sz (g:Int)) (Sz (m:Int)) (Sz (x.num*(m:Int))) (Sz ((x.den / g:Nat):Int)) (Sz (y.num*((x.den / g:Nat):Int))) (Sz num) (Sz (r:Int)) _ (Sz ((x.den / r:Nat):Int)) _ w hl ?_ ?_ ?_ ?_ ?_ ?_ ?_ ?_ ?_ ?_
 · exact fun W hW=>jB _ _ _ (by rw[hg,Int.natAbs_natCast,Int.natAbs_natCast]) hx.denL hy.denL W hW
 · exact fun W hW=>rquo _ _ _ (by omega) (by rw[hm,Int.natCast_ediv]) hy.denL (fl sg (by decide)) W hW
 · exact fun W hW=>nE _ _ _ rfl hx.numL (fl sm (by decide)) (FitL.of s1 (by decide)) W hW
 · exact fun W hW=>rquo _ _ _ (by omega) (by rw[Int.natCast_ediv]) hx.denL (fl sg (by decide)) W hW
 · exact fun W hW=>nE _ _ _ rfl hy.numL (fl sq (by decide)) (FitL.of s2 (by decide)) W hW
 · exact fun W hW=>z6c _ _ _ hnum.symm (FitL.of s1 (by decide)) (FitL.of s2 (by decide)) f3 W hW
 · exact fun W hW=>jB _ _ _ (by rw[hr,Int.natAbs_natCast]) f3 (fl sg (by decide)) W hW
 · exact fun W hW=>rquo _ _ _ (by omega) rfl f3 (fl sr (by decide)) W hW
 · exact fun W hW=>rquo _ _ _ (by omega) (by rw[Int.natCast_ediv]) hx.denL (fl sr (by decide)) W hW
 · exact fun W hW=>nE _ _ _ (by rw[Int.natCast_mul]) (fl sv (by decide)) (fl sm (by decide)) (fl s4 (by decide)) W hW
theorem FitQ.neg {q:Rat}(h:FitQ q):FitQ (-q):=SmQ.neg (show SmQ 900 q from h)
theorem FitQ.inv {q:Rat}(h:FitQ q)(h0:q≠0):FitQ q⁻¹:=SmQ.inv (show SmQ 900 q from h) h0
theorem fsub (x y:Rat)(hx:FitQ x)(hy:FitQ y)(w:World)(hl:La w):CR 155 #[Fv x,Fv y] w (Fv (x-y)):=by
 have h1:=fun W hW=>fneg y hy W hW;have h2:=fun W hW=>fadd x (-y) hx hy.neg W hW;rw[← Rat.sub_eq_add_neg]at h2;exact z2W _ _ _ _ _ _ _ _ w hl h1 h2
theorem fdiv (x y:Rat)(hx:FitQ x)(hy:FitQ y)(h0:y≠0)(w:World)(hl:La w):CR 159 #[Fv x,Fv y] w (Fv (x / y)):=by
 have h1:=fun W hW=>finv y hy h0 W hW;have h2:=fun W hW=>fmul x y⁻¹ hx (hy.inv h0) W hW;rw[← Rat.div_def]at h2;exact z3c _ _ _ _ _ _ _ _ w hl h1 h2
theorem z4I (a b:Int)(hb:b≠0)(ha:FitL a)(fb:FitL b)(w:World)(hl:La w):CR 198 #[.string (Sz a),.string (Sz b)] w (Fv (Rat.divInt a b)):=by
 unfold Fv
 rcases Int.lt_or_gt_of_ne hb with h|h
 · obtain⟨n,hn⟩:∃ n:Nat,b = -(n:Int):=⟨b.natAbs,by omega⟩
   subst hn;have hn0:n≠0:=by omega
   have e:Rat.divInt a (-(n:Int))=mkRat (-a) n:=by rw[Rat.divInt_neg',Rat.divInt_ofNat]
   obtain⟨e1,e2⟩:=jS (-a) n hn0;have fn:FitL (n:Int):=by have:=fb.neg;rwa [Int.neg_neg]at this
   have hg:0<Nat.gcd (-a).natAbs n:=Nat.gcd_pos_of_pos_right _ (Nat.pos_of_ne_zero hn0);have fg:FitL ((Nat.gcd (-a).natAbs n:Nat):Int):=FitL.le fn (by rw[Int.natAbs_natCast,Int.natAbs_natCast];exact Nat.gcd_le_right _ (Nat.pos_of_ne_zero hn0));rw[e,e1,e2,Int.natCast_ediv];exact oL _ _ (Sz (-a)) (Sz (n:Int)) (Sz ((Nat.gcd (-a).natAbs n:Nat):Int)) _ _ w hl (fun W hW=>nG _ _ (Int.sign_eq_neg_one_of_neg h) fb W hW) (fun W hW=>rneg _ _ rfl ha W hW) (fun W hW=>rneg _ _ (by omega) fb W hW) (fun W hW=>jB _ _ _ (by rw[Int.natAbs_natCast]) ha.neg fn W hW) (fun W hW=>rquo _ _ _ (by omega) rfl ha.neg fg W hW) (fun W hW=>rquo _ _ _ (by omega) rfl fn fg W hW)
 · obtain⟨n,hn⟩:∃ n:Nat,b=(n:Int):=⟨b.natAbs,by omega⟩
   subst hn;have hn0:n≠0:=by omega
   have e:Rat.divInt a (n:Int)=mkRat a n:=Rat.divInt_ofNat _ _;obtain⟨e1,e2⟩:=jS a n hn0;have hg:0<Nat.gcd a.natAbs n:=Nat.gcd_pos_of_pos_right _ (Nat.pos_of_ne_zero hn0);have fg:FitL ((Nat.gcd a.natAbs n:Nat):Int):=FitL.le fb (by rw[Int.natAbs_natCast,Int.natAbs_natCast];exact Nat.gcd_le_right _ (Nat.pos_of_ne_zero hn0));rw[e,e1,e2,Int.natCast_ediv];exact oK _ _ (Sz ((Nat.gcd a.natAbs n:Nat):Int)) _ _ 1 (by decide) w hl (fun W hW=>nG _ _ (Int.sign_eq_one_of_pos h) fb W hW) (fun W hW=>jB _ _ _ (by rw[Int.natAbs_natCast]) ha fb W hW) (fun W hW=>rquo _ _ _ (by omega) rfl ha fg W hW) (fun W hW=>rquo _ _ _ (by omega) rfl fb fg W hW)
