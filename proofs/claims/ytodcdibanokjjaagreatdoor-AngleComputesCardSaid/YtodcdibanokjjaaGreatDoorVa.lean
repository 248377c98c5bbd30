/- texts -/
import Derived.Test.YtodcdibanokjjaaGreatDoorQj
open Go.Proofs.Tryz
set_option maxRecDepth 100000
set_option maxHeartbeats 20000000
open Go.Lib (hid)
namespace Go.Proofs.YtodcdibanokjjaaGreatDoor
open Go.RowKit Go.Gb
theorem xy (a b:ByteArray)(c n:Int)(w:World)(h1:CR 48 #[.string a,.string b] w (.tuple #[.int .i64 c,.int .i64 n])) :
 CR 77 #[.string a,.string b] w (.int .i64 c):=by
 have C1:=hid h1;clear h1;go_enter func77,ntmps77
 go_wp2_with fail
 refine C1.out.mono ?_;rintro e w1 ⟨rfl,hb⟩;go_wp2;go_ret
 exact⟨rfl,hb⟩
theorem nT (l h:ByteArray)(c:Int)(hc:c≤0)(w:World)(hl:La w)
 (h1:CL 48 #[.string l,.string h] (.tuple #[.int .i64 c,.int .i64 0])) :
 CR 19 #[.agg #[.string l,.string h]] w (.bool true):=by
 have C1:=hid h1;obtain⟨w0,hw0⟩:∃ w0:World,w0=(w.alloc (.cells #[.string l,.string h] 32)):=⟨_,rfl⟩;have hz0:w0.heap.size=w.heap.size+1:=by rw[hw0];simp
 have hB0:Below w.heap.size w w0:=by
  rw[hw0];repeat (first|exact Below.refl _ _|refine Below.setCell ?_ (by first|omega|(simp;omega)|simp) _|refine Below.alloc ?_ (by first|omega|(simp;omega)|simp) _|refine Below.drew ?_)
 have hS0:w0.cell? ⟨w.heap.size,0,none⟩=some (.string l)∧w0.cell? ⟨w.heap.size,1,none⟩=some (.string h):=by rw[hw0];exact⟨((aI).trans rfl),((aI).trans rfl)⟩
 have KS:=hid (show ∀ W:World,Below w0.heap.size w0 W→(W.cell? ⟨w.heap.size,0,none⟩=some (.string l)∧W.cell? ⟨w.heap.size,1,none⟩=some (.string h)) from fun W hB=>by
  obtain⟨c0,c1⟩:=hS0
  exact⟨(hB.cell (p:=⟨w.heap.size,0,none⟩) (by show w.heap.size<_;omega)).trans c0,(hB.cell (p:=⟨w.heap.size,1,none⟩) (by show w.heap.size<_;omega)).trans c1⟩)
 have KZ:=hid (show ∀ W:World,Below w0.heap.size w0 W→w.heap.size+1≤W.heap.size from fun W hB=>by have:=hB.size;omega);have KB:=hid (show ∀ W:World,Below w0.heap.size w0 W→Below w.heap.size w W from fun W hB=>hB0.trans (hB.mono (by omega)));obtain ⟨F0,HW0⟩:=hz2 (Below.refl w0.heap.size w0) hw0;clear hz0 hB0 hS0 hw0;have HL:=hid (show ∀ W:World,Below w0.heap.size w0 W→La W from fun W hB=>hl.on (KB.out W hB));clear hl h1;go_enter func19,ntmps19
 go_wp2_with fail
 rw[← HW0.out];obtain⟨d0,d1⟩:=KS.out _ F0.out;go_wp2_with fail
 refine(C1.out _ (HL.out _ F0.out)).mono ?_;rintro e w1 ⟨rfl,hb⟩;have F1:=hid (aj F0.out hb);clear hb d0 d1;obtain⟨d0,d1⟩:=KS.out _ F1.out;go_wp2;go_ret
 exact⟨rfl,KB.out _ F1.out⟩
theorem z1L (l h:ByteArray)(w:World)(hl:La w)
 (h1:CL 48 #[.string l,.string h] (.tuple #[.int .i64 1,.int .i64 0])) :
 CR 19 #[.agg #[.string l,.string h]] w (.bool false):=by
 have C1:=hid h1;obtain⟨w0,hw0⟩:∃ w0:World,w0=(w.alloc (.cells #[.string l,.string h] 32)):=⟨_,rfl⟩;have hz0:w0.heap.size=w.heap.size+1:=by rw[hw0];simp
 have hB0:Below w.heap.size w w0:=by
  rw[hw0];repeat (first|exact Below.refl _ _|refine Below.setCell ?_ (by first|omega|(simp;omega)|simp) _|refine Below.alloc ?_ (by first|omega|(simp;omega)|simp) _|refine Below.drew ?_)
 have hS0:w0.cell? ⟨w.heap.size,0,none⟩=some (.string l)∧w0.cell? ⟨w.heap.size,1,none⟩=some (.string h):=by rw[hw0];exact⟨((aI).trans rfl),((aI).trans rfl)⟩
 have KS:=hid (show ∀ W:World,Below w0.heap.size w0 W→(W.cell? ⟨w.heap.size,0,none⟩=some (.string l)∧W.cell? ⟨w.heap.size,1,none⟩=some (.string h)) from fun W hB=>by
  obtain⟨c0,c1⟩:=hS0
  exact⟨(hB.cell (p:=⟨w.heap.size,0,none⟩) (by show w.heap.size<_;omega)).trans c0,(hB.cell (p:=⟨w.heap.size,1,none⟩) (by show w.heap.size<_;omega)).trans c1⟩)
 have KZ:=hid (show ∀ W:World,Below w0.heap.size w0 W→w.heap.size+1≤W.heap.size from fun W hB=>by have:=hB.size;omega);have KB:=hid (show ∀ W:World,Below w0.heap.size w0 W→Below w.heap.size w W from fun W hB=>hB0.trans (hB.mono (by omega)));obtain ⟨F0,HW0⟩:=hz2 (Below.refl w0.heap.size w0) hw0;clear hz0 hB0 hS0 hw0;have HL:=hid (show ∀ W:World,Below w0.heap.size w0 W→La W from fun W hB=>hl.on (KB.out W hB));clear hl h1;go_enter func19,ntmps19
 go_wp2_with fail
 rw[← HW0.out];obtain⟨d0,d1⟩:=KS.out _ F0.out;go_wp2_with fail
 refine(C1.out _ (HL.out _ F0.out)).mono ?_;rintro e w1 ⟨rfl,hb⟩;have F1:=hid (aj F0.out hb);clear hb d0 d1;obtain⟨d0,d1⟩:=KS.out _ F1.out;go_wp2;go_ret
 exact⟨rfl,KB.out _ F1.out⟩
theorem ry (l h x:ByteArray)(c d:Int)(hc:c≤0)(hd:d≤0)(w:World)(hl:La w)
 (h1:CL 77 #[.string l,.string x] (.int .i64 c))
 (h2:CL 77 #[.string x,.string h] (.int .i64 d)) :
 CR 47 #[.agg #[.string l,.string h],.string x] w (.bool true):=by
 obtain ⟨C1,C2⟩:=hz2 h1 h2;obtain⟨w0,hw0⟩:∃ w0:World,w0=(w.alloc (.cells #[.string l,.string h] 32)):=⟨_,rfl⟩;have hz0:w0.heap.size=w.heap.size+1:=by rw[hw0];simp
 have hB0:Below w.heap.size w w0:=by
  rw[hw0];repeat (first|exact Below.refl _ _|refine Below.setCell ?_ (by first|omega|(simp;omega)|simp) _|refine Below.alloc ?_ (by first|omega|(simp;omega)|simp) _|refine Below.drew ?_)
 have hS0:w0.cell? ⟨w.heap.size,0,none⟩=some (.string l)∧w0.cell? ⟨w.heap.size,1,none⟩=some (.string h):=by rw[hw0];exact⟨((aI).trans rfl),((aI).trans rfl)⟩
 have KS:=hid (show ∀ W:World,Below w0.heap.size w0 W→(W.cell? ⟨w.heap.size,0,none⟩=some (.string l)∧W.cell? ⟨w.heap.size,1,none⟩=some (.string h)) from fun W hB=>by
  obtain⟨c0,c1⟩:=hS0
  exact⟨(hB.cell (p:=⟨w.heap.size,0,none⟩) (by show w.heap.size<_;omega)).trans c0,(hB.cell (p:=⟨w.heap.size,1,none⟩) (by show w.heap.size<_;omega)).trans c1⟩)
 have KZ:=hid (show ∀ W:World,Below w0.heap.size w0 W→w.heap.size+1≤W.heap.size from fun W hB=>by have:=hB.size;omega);have KB:=hid (show ∀ W:World,Below w0.heap.size w0 W→Below w.heap.size w W from fun W hB=>hB0.trans (hB.mono (by omega)));obtain ⟨F0,HW0⟩:=hz2 (Below.refl w0.heap.size w0) hw0;clear hz0 hB0 hS0 hw0;have HL:=hid (show ∀ W:World,Below w0.heap.size w0 W→La W from fun W hB=>hl.on (KB.out W hB));clear hl h1 h2;go_enter func47,ntmps47
 go_wp2_with fail
 rw[← HW0.out];obtain⟨d0,d1⟩:=KS.out _ F0.out;go_wp2_with fail
 refine(C1.out _ (HL.out _ F0.out)).mono ?_;rintro e w1 ⟨rfl,hb⟩;have F1:=hid (aj F0.out hb);clear hb d0 d1;obtain⟨d0,d1⟩:=KS.out _ F1.out;go_wp2_with fail
 refine(C2.out _ (HL.out _ F1.out)).mono ?_;rintro e w2 ⟨rfl,hb⟩;have F2:=hid (aj F1.out hb);clear hb d0 d1;obtain⟨d0,d1⟩:=KS.out _ F2.out;go_wp2;go_ret
 exact⟨rfl,KB.out _ F2.out⟩
theorem rA (l h x:ByteArray)(w:World)(hl:La w)
 (h1:CL 77 #[.string l,.string x] (.int .i64 1)) :
 CR 47 #[.agg #[.string l,.string h],.string x] w (.bool false):=by
 have C1:=hid h1;obtain⟨w0,hw0⟩:∃ w0:World,w0=(w.alloc (.cells #[.string l,.string h] 32)):=⟨_,rfl⟩;have hz0:w0.heap.size=w.heap.size+1:=by rw[hw0];simp
 have hB0:Below w.heap.size w w0:=by
  rw[hw0];repeat (first|exact Below.refl _ _|refine Below.setCell ?_ (by first|omega|(simp;omega)|simp) _|refine Below.alloc ?_ (by first|omega|(simp;omega)|simp) _|refine Below.drew ?_)
 have hS0:w0.cell? ⟨w.heap.size,0,none⟩=some (.string l)∧w0.cell? ⟨w.heap.size,1,none⟩=some (.string h):=by rw[hw0];exact⟨((aI).trans rfl),((aI).trans rfl)⟩
 have KS:=hid (show ∀ W:World,Below w0.heap.size w0 W→(W.cell? ⟨w.heap.size,0,none⟩=some (.string l)∧W.cell? ⟨w.heap.size,1,none⟩=some (.string h)) from fun W hB=>by
  obtain⟨c0,c1⟩:=hS0
  exact⟨(hB.cell (p:=⟨w.heap.size,0,none⟩) (by show w.heap.size<_;omega)).trans c0,(hB.cell (p:=⟨w.heap.size,1,none⟩) (by show w.heap.size<_;omega)).trans c1⟩)
 have KZ:=hid (show ∀ W:World,Below w0.heap.size w0 W→w.heap.size+1≤W.heap.size from fun W hB=>by have:=hB.size;omega);have KB:=hid (show ∀ W:World,Below w0.heap.size w0 W→Below w.heap.size w W from fun W hB=>hB0.trans (hB.mono (by omega)));obtain ⟨F0,HW0⟩:=hz2 (Below.refl w0.heap.size w0) hw0;clear hz0 hB0 hS0 hw0;have HL:=hid (show ∀ W:World,Below w0.heap.size w0 W→La W from fun W hB=>hl.on (KB.out W hB));clear hl h1;go_enter func47,ntmps47
 go_wp2_with fail
 rw[← HW0.out];obtain⟨d0,d1⟩:=KS.out _ F0.out;go_wp2_with fail
 refine(C1.out _ (HL.out _ F0.out)).mono ?_;rintro e w1 ⟨rfl,hb⟩;have F1:=hid (aj F0.out hb);clear hb d0 d1;obtain⟨d0,d1⟩:=KS.out _ F1.out;go_wp2;go_ret
 exact⟨rfl,KB.out _ F1.out⟩
theorem rz (l h x:ByteArray)(c:Int)(hc:c≤0)(w:World)(hl:La w)
 (h1:CL 77 #[.string l,.string x] (.int .i64 c))
 (h2:CL 77 #[.string x,.string h] (.int .i64 1)) :
 CR 47 #[.agg #[.string l,.string h],.string x] w (.bool false):=by
 obtain ⟨C1,C2⟩:=hz2 h1 h2;obtain⟨w0,hw0⟩:∃ w0:World,w0=(w.alloc (.cells #[.string l,.string h] 32)):=⟨_,rfl⟩;have hz0:w0.heap.size=w.heap.size+1:=by rw[hw0];simp
 have hB0:Below w.heap.size w w0:=by
  rw[hw0];repeat (first|exact Below.refl _ _|refine Below.setCell ?_ (by first|omega|(simp;omega)|simp) _|refine Below.alloc ?_ (by first|omega|(simp;omega)|simp) _|refine Below.drew ?_)
 have hS0:w0.cell? ⟨w.heap.size,0,none⟩=some (.string l)∧w0.cell? ⟨w.heap.size,1,none⟩=some (.string h):=by rw[hw0];exact⟨((aI).trans rfl),((aI).trans rfl)⟩
 have KS:=hid (show ∀ W:World,Below w0.heap.size w0 W→(W.cell? ⟨w.heap.size,0,none⟩=some (.string l)∧W.cell? ⟨w.heap.size,1,none⟩=some (.string h)) from fun W hB=>by
  obtain⟨c0,c1⟩:=hS0
  exact⟨(hB.cell (p:=⟨w.heap.size,0,none⟩) (by show w.heap.size<_;omega)).trans c0,(hB.cell (p:=⟨w.heap.size,1,none⟩) (by show w.heap.size<_;omega)).trans c1⟩)
 have KZ:=hid (show ∀ W:World,Below w0.heap.size w0 W→w.heap.size+1≤W.heap.size from fun W hB=>by have:=hB.size;omega);have KB:=hid (show ∀ W:World,Below w0.heap.size w0 W→Below w.heap.size w W from fun W hB=>hB0.trans (hB.mono (by omega)));obtain ⟨F0,HW0⟩:=hz2 (Below.refl w0.heap.size w0) hw0;clear hz0 hB0 hS0 hw0;have HL:=hid (show ∀ W:World,Below w0.heap.size w0 W→La W from fun W hB=>hl.on (KB.out W hB));clear hl h1 h2;go_enter func47,ntmps47
 go_wp2_with fail
 rw[← HW0.out];obtain⟨d0,d1⟩:=KS.out _ F0.out;go_wp2_with fail
 refine(C1.out _ (HL.out _ F0.out)).mono ?_;rintro e w1 ⟨rfl,hb⟩;have F1:=hid (aj F0.out hb);clear hb d0 d1;obtain⟨d0,d1⟩:=KS.out _ F1.out;go_wp2_with fail
 refine(C2.out _ (HL.out _ F1.out)).mono ?_;rintro e w2 ⟨rfl,hb⟩;have F2:=hid (aj F1.out hb);clear hb d0 d1;obtain⟨d0,d1⟩:=KS.out _ F2.out;go_wp2;go_ret
 exact⟨rfl,KB.out _ F2.out⟩
theorem z1O (l h x:ByteArray)(r:Bool)(w:World)(hl:La w)
 (h1:CL 19 #[.agg #[.string l,.string h]] (.bool true))
 (h2:CL 45 #[.string x] (.bool true))
 (h3:CL 47 #[.agg #[.string l,.string h],.string x] (.bool r)) :
 CR 18 #[.agg #[.string l,.string h],.string x] w (.bool r):=by
 obtain ⟨C1,C2,C3⟩:=hz3 h1 h2 h3;obtain⟨w0,hw0⟩:∃ w0:World,w0=(w.alloc (.cells #[.string l,.string h] 32)):=⟨_,rfl⟩;have hz0:w0.heap.size=w.heap.size+1:=by rw[hw0];simp
 have hB0:Below w.heap.size w w0:=by
  rw[hw0];repeat (first|exact Below.refl _ _|refine Below.setCell ?_ (by first|omega|(simp;omega)|simp) _|refine Below.alloc ?_ (by first|omega|(simp;omega)|simp) _|refine Below.drew ?_)
 have hS0:w0.cell? ⟨w.heap.size,0,none⟩=some (.string l)∧w0.cell? ⟨w.heap.size,1,none⟩=some (.string h):=by rw[hw0];exact⟨((aI).trans rfl),((aI).trans rfl)⟩
 have KS:=hid (show ∀ W:World,Below w0.heap.size w0 W→(W.cell? ⟨w.heap.size,0,none⟩=some (.string l)∧W.cell? ⟨w.heap.size,1,none⟩=some (.string h)) from fun W hB=>by
  obtain⟨c0,c1⟩:=hS0
  exact⟨(hB.cell (p:=⟨w.heap.size,0,none⟩) (by show w.heap.size<_;omega)).trans c0,(hB.cell (p:=⟨w.heap.size,1,none⟩) (by show w.heap.size<_;omega)).trans c1⟩)
 have KZ:=hid (show ∀ W:World,Below w0.heap.size w0 W→w.heap.size+1≤W.heap.size from fun W hB=>by have:=hB.size;omega);have KB:=hid (show ∀ W:World,Below w0.heap.size w0 W→Below w.heap.size w W from fun W hB=>hB0.trans (hB.mono (by omega)));obtain ⟨F0,HW0⟩:=hz2 (Below.refl w0.heap.size w0) hw0;clear hz0 hB0 hS0 hw0;have HL:=hid (show ∀ W:World,Below w0.heap.size w0 W→La W from fun W hB=>hl.on (KB.out W hB));clear hl h1 h2 h3;go_enter func18,ntmps18
 go_wp2_with fail
 rw[← HW0.out];obtain⟨d0,d1⟩:=KS.out _ F0.out;go_wp2_with fail
 refine(C1.out _ (HL.out _ F0.out)).mono ?_;rintro e w1 ⟨rfl,hb⟩;have F1:=hid (aj F0.out hb);clear hb d0 d1;obtain⟨d0,d1⟩:=KS.out _ F1.out;go_wp2_with fail
 refine(C2.out _ (HL.out _ F1.out)).mono ?_;rintro e w2 ⟨rfl,hb⟩;have F2:=hid (aj F1.out hb);clear hb d0 d1;obtain⟨d0,d1⟩:=KS.out _ F2.out;go_wp2_with fail
 refine(C3.out _ (HL.out _ F2.out)).mono ?_;rintro e w3 ⟨rfl,hb⟩;have F3:=hid (aj F2.out hb);clear hb d0 d1;obtain⟨d0,d1⟩:=KS.out _ F3.out;go_wp2;go_ret
 exact⟨rfl,KB.out _ F3.out⟩
theorem z1M (l1 h1 l2 h2 r s:ByteArray)(w:World)(hl:La w)
 (g1:CL 19 #[.agg #[.string l1,.string h1]] (.bool true))
 (g2:CL 19 #[.agg #[.string l2,.string h2]] (.bool true))
 (g3:CL 52 #[.string l1,.string h2] (.tuple #[.string r,.int .i64 0]))
 (g4:CL 52 #[.string h1,.string l2] (.tuple #[.string s,.int .i64 0])) :
 CR 108 #[.agg #[.string l1,.string h1],.agg #[.string l2,.string h2]] w (.tuple #[.agg #[.string r,.string s],.int .i64 0]):=by
 obtain ⟨C1,C2,C3,C4⟩:=hz4 g1 g2 g3 g4;obtain⟨w0,hw0⟩:∃ w0:World,w0=(((w.alloc (.cells #[.string l1,.string h1] 32)).alloc (.cells #[.string l2,.string h2] 32)).alloc (.cells #[.string ⟨#[]⟩,.string ⟨#[]⟩] 32)):=⟨_,rfl⟩;have hz0:w0.heap.size=w.heap.size+3:=by rw[hw0];simp
 have hB0:Below w.heap.size w w0:=by
  rw[hw0];repeat (first|exact Below.refl _ _|refine Below.setCell ?_ (by first|omega|(simp;omega)|simp) _|refine Below.alloc ?_ (by first|omega|(simp;omega)|simp) _|refine Below.drew ?_)
 have hS0:w0.cell? ⟨w.heap.size,0,none⟩=some (.string l1)∧w0.cell? ⟨w.heap.size,1,none⟩=some (.string h1)∧w0.cell? ⟨w.heap.size+1,0,none⟩=some (.string l2)∧w0.cell? ⟨w.heap.size+1,1,none⟩=some (.string h2):=by rw[hw0];exact⟨((q_lt).trans ((q_lt).trans ((aI).trans rfl))),((q_lt).trans ((q_lt).trans ((aI).trans rfl))),((q_lt).trans ((aI).trans rfl)),((q_lt).trans ((aI).trans rfl))⟩
 have KS:=hid (show ∀ W:World,Below w0.heap.size w0 W→(W.cell? ⟨w.heap.size,0,none⟩=some (.string l1)∧W.cell? ⟨w.heap.size,1,none⟩=some (.string h1)∧W.cell? ⟨w.heap.size+1,0,none⟩=some (.string l2)∧W.cell? ⟨w.heap.size+1,1,none⟩=some (.string h2)) from fun W hB=>by
  obtain⟨c0,c1,c2,c3⟩:=hS0
  exact⟨(hB.cell (p:=⟨w.heap.size,0,none⟩) (by show w.heap.size<_;omega)).trans c0,(hB.cell (p:=⟨w.heap.size,1,none⟩) (by show w.heap.size<_;omega)).trans c1,(hB.cell (p:=⟨w.heap.size+1,0,none⟩) (by show w.heap.size+1<_;omega)).trans c2,(hB.cell (p:=⟨w.heap.size+1,1,none⟩) (by show w.heap.size+1<_;omega)).trans c3⟩)
 have KZ:=hid (show ∀ W:World,Below w0.heap.size w0 W→w.heap.size+3≤W.heap.size from fun W hB=>by have:=hB.size;omega);have KB:=hid (show ∀ W:World,Below w0.heap.size w0 W→Below w.heap.size w W from fun W hB=>hB0.trans (hB.mono (by omega)));have hR0:w0.cell? ⟨w.heap.size+1+1,0,none⟩=some (.string ⟨#[]⟩)∧w0.cell? ⟨w.heap.size+1+1,1,none⟩=some (.string ⟨#[]⟩)∧w0.frozen? ⟨w.heap.size+1+1,0,none⟩=false∧w0.frozen? ⟨w.heap.size+1+1,1,none⟩=false:=by rw[hw0];exact⟨((aI).trans rfl),((aI).trans rfl),(bi),(bi)⟩
 have KR:=hid (show ∀ W:World,Below w0.heap.size w0 W→(W.cell? ⟨w.heap.size+1+1,0,none⟩=some (.string ⟨#[]⟩)∧W.cell? ⟨w.heap.size+1+1,1,none⟩=some (.string ⟨#[]⟩)∧W.frozen? ⟨w.heap.size+1+1,0,none⟩=false∧W.frozen? ⟨w.heap.size+1+1,1,none⟩=false) from fun W hB=>by
  obtain⟨c0,c1,f0,f1⟩:=hR0
  exact⟨(hB.cell (p:=⟨w.heap.size+1+1,0,none⟩) (by show w.heap.size+1+1<_;omega)).trans c0,(hB.cell (p:=⟨w.heap.size+1+1,1,none⟩) (by show w.heap.size+1+1<_;omega)).trans c1,(hB.frozen (p:=⟨w.heap.size+1+1,0,none⟩) (by show w.heap.size+1+1<_;omega)).trans f0,(hB.frozen (p:=⟨w.heap.size+1+1,1,none⟩) (by show w.heap.size+1+1<_;omega)).trans f1⟩)
 clear hR0
 have KT0:=hid (show ∀ (W:World) (v u:Value),Below w0.heap.size w0 W→(((W.setCell ⟨w.heap.size+1+1,0,none⟩ v).setCell ⟨w.heap.size+1+1,1,none⟩ u).cell? ⟨w.heap.size,0,none⟩=some (.string l1)∧((W.setCell ⟨w.heap.size+1+1,0,none⟩ v).setCell ⟨w.heap.size+1+1,1,none⟩ u).cell? ⟨w.heap.size,1,none⟩=some (.string h1)∧((W.setCell ⟨w.heap.size+1+1,0,none⟩ v).setCell ⟨w.heap.size+1+1,1,none⟩ u).cell? ⟨w.heap.size+1,0,none⟩=some (.string l2)∧((W.setCell ⟨w.heap.size+1+1,0,none⟩ v).setCell ⟨w.heap.size+1+1,1,none⟩ u).cell? ⟨w.heap.size+1,1,none⟩=some (.string h2)) from fun W v u hB=>by
  have hh:=KS.out W hB;obtain⟨c0,c1,c2,c3⟩:=hh
  exact⟨(aR (by omega)).trans ((aR (by omega)).trans c0),(aR (by omega)).trans ((aR (by omega)).trans c1),(aR (by omega)).trans ((aR (by omega)).trans c2),(aR (by omega)).trans ((aR (by omega)).trans c3)⟩)
 obtain ⟨F0,HW0⟩:=hz2 (Below.refl w0.heap.size w0) hw0;clear hz0 hB0 hS0 hw0;have HL:=hid (show ∀ W:World,Below w0.heap.size w0 W→La W from fun W hB=>hl.on (KB.out W hB));clear hl g1 g2 g3 g4;go_enter func108,ntmps108
 go_wp2_with fail
 rw[← HW0.out];obtain⟨d0,d1,d2,d3⟩:=KS.out _ F0.out;go_wp2_with fail
 refine(C1.out _ (HL.out _ F0.out)).mono ?_;rintro e w1 ⟨rfl,hb⟩;have F1:=hid (aj F0.out hb);clear hb d0 d1 d2 d3;obtain⟨d0,d1,d2,d3⟩:=KS.out _ F1.out;go_wp2_with fail
 refine(C2.out _ (HL.out _ F1.out)).mono ?_;rintro e w2 ⟨rfl,hb⟩;have F2:=hid (aj F1.out hb);clear hb d0 d1 d2 d3;obtain⟨d0,d1,d2,d3⟩:=KS.out _ F2.out;go_wp2_with fail
 refine(C3.out _ (HL.out _ F2.out)).mono ?_;rintro e w3 ⟨rfl,hb⟩;have F3:=hid (aj F2.out hb);clear hb d0 d1 d2 d3;obtain⟨d0,d1,d2,d3⟩:=KS.out _ F3.out;go_wp2_with fail
 refine(C4.out _ (HL.out _ F3.out)).mono ?_;rintro e w4 ⟨rfl,hb⟩;have F4:=hid (aj F3.out hb);clear hb d0 d1 d2 d3;obtain⟨d0,d1,d2,d3⟩:=KS.out _ F4.out
 all_goals
  obtain⟨m0,m1,n0,n1⟩:=KR.out _ F4.out;have hz:=KZ.out _ F4.out;go_wp2;refine bodyPost_ret (v:=.tuple #[.agg #[.string r,.string s],.int .i64 0]) (by simp[results,results108,go_sem,m0,m1]) rfl ⟨rfl,?_⟩;repeat (first|exact KB.out _ F4.out|refine Below.setCell ?_ (by first|omega|(simp;omega)|simp) _|refine Below.alloc ?_ (by first|omega|(simp;omega)|simp) _|refine Below.drew ?_)
end Go.Proofs.YtodcdibanokjjaaGreatDoor
