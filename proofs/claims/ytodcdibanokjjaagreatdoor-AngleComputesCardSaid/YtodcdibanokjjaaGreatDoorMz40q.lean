/- texts -/
import Derived.Test.YtodcdibanokjjaaGreatDoorQj
import Derived.Lib.Repeat
import Derived.Shelf.Strings.SlTrimAscii
import Derived.Test.YtodcdibanokjjaaGreatDoorMz39q
open Go.Proofs.Tryz
set_option maxRecDepth 100000
set_option maxHeartbeats 20000000
open Go.Lib (hid)
namespace Go.Proofs.YtodcdibanokjjaaGreatDoor
open Go.RowKit Go.Gb
theorem xO (a b:ByteArray)(c n:Int)(w:World)(h1:CR 48 #[.string a,.string b] w (.tuple #[.int .i64 c,.int .i64 n])) :
 CR 77 #[.string a,.string b] w (.int .i64 c):=by
 have C1:=hid h1;clear h1;go_enter func77,ntmps77
 go_wp2_with fail
 refine C1.out.mono ?_;rintro e w1 ⟨rfl,hb⟩;go_wp2;go_ret
 exact⟨rfl,hb⟩
theorem om (l h:ByteArray)(c:Int)(hc:c≤0)(w:World)(hl:La w)
 (h1:CL 48 #[.string l,.string h] (.tuple #[.int .i64 c,.int .i64 0])) :
 CR 19 #[.agg #[.string l,.string h]] w (.bool true):=by
 have C1:=hid h1;obtain⟨w0,hw0⟩:∃ w0:World,w0=(w.alloc (.cells #[.string l,.string h] 32)):=⟨_,rfl⟩;have hz0:w0.heap.size=w.heap.size+1:=by rw[hw0];simp
 have hB0:Below w.heap.size w w0:=by
  rw[hw0];repeat (first|exact Below.refl _ _|refine Below.setCell ?_ (by first|omega|(simp;omega)|simp) _|refine Below.alloc ?_ (by first|omega|(simp;omega)|simp) _|refine Below.drew ?_)
 have hS0:w0.cell? ⟨w.heap.size,0,none⟩=some (.string l)∧w0.cell? ⟨w.heap.size,1,none⟩=some (.string h):=by rw[hw0];exact⟨((aN).trans rfl),((aN).trans rfl)⟩
 have KS:=hid (show ∀ W:World,Below w0.heap.size w0 W→(W.cell? ⟨w.heap.size,0,none⟩=some (.string l)∧W.cell? ⟨w.heap.size,1,none⟩=some (.string h)) from fun W hB=>by
  obtain⟨c0,c1⟩:=hS0
  exact⟨(hB.cell (p:=⟨w.heap.size,0,none⟩) (by show w.heap.size<_;omega)).trans c0,(hB.cell (p:=⟨w.heap.size,1,none⟩) (by show w.heap.size<_;omega)).trans c1⟩)
 have KZ:=hid (show ∀ W:World,Below w0.heap.size w0 W→w.heap.size+1≤W.heap.size from fun W hB=>by have:=hB.size;omega);have KB:=hid (show ∀ W:World,Below w0.heap.size w0 W→Below w.heap.size w W from fun W hB=>hB0.trans (hB.mono (by omega)));have F0:=hid (Below.refl w0.heap.size w0);have HW0:=hid hw0;clear hz0 hB0 hS0 hw0;have HL:=hid (show ∀ W:World,Below w0.heap.size w0 W→La W from fun W hB=>hl.on (KB.out W hB));clear hl h1;go_enter func19,ntmps19
 go_wp2_with fail
 rw[← HW0.out];obtain⟨d0,d1⟩:=KS.out _ F0.out;go_wp2_with fail
 refine(C1.out _ (HL.out _ F0.out)).mono ?_;rintro e w1 ⟨rfl,hb⟩;have F1:=hid (ak F0.out hb);clear hb d0 d1;obtain⟨d0,d1⟩:=KS.out _ F1.out;go_wp2;go_ret
 exact⟨rfl,KB.out _ F1.out⟩
theorem z2a (l h:ByteArray)(w:World)(hl:La w)
 (h1:CL 48 #[.string l,.string h] (.tuple #[.int .i64 1,.int .i64 0])) :
 CR 19 #[.agg #[.string l,.string h]] w (.bool false):=by
 have C1:=hid h1;obtain⟨w0,hw0⟩:∃ w0:World,w0=(w.alloc (.cells #[.string l,.string h] 32)):=⟨_,rfl⟩;have hz0:w0.heap.size=w.heap.size+1:=by rw[hw0];simp
 have hB0:Below w.heap.size w w0:=by
  rw[hw0];repeat (first|exact Below.refl _ _|refine Below.setCell ?_ (by first|omega|(simp;omega)|simp) _|refine Below.alloc ?_ (by first|omega|(simp;omega)|simp) _|refine Below.drew ?_)
 have hS0:w0.cell? ⟨w.heap.size,0,none⟩=some (.string l)∧w0.cell? ⟨w.heap.size,1,none⟩=some (.string h):=by rw[hw0];exact⟨((aN).trans rfl),((aN).trans rfl)⟩
 have KS:=hid (show ∀ W:World,Below w0.heap.size w0 W→(W.cell? ⟨w.heap.size,0,none⟩=some (.string l)∧W.cell? ⟨w.heap.size,1,none⟩=some (.string h)) from fun W hB=>by
  obtain⟨c0,c1⟩:=hS0
  exact⟨(hB.cell (p:=⟨w.heap.size,0,none⟩) (by show w.heap.size<_;omega)).trans c0,(hB.cell (p:=⟨w.heap.size,1,none⟩) (by show w.heap.size<_;omega)).trans c1⟩)
 have KZ:=hid (show ∀ W:World,Below w0.heap.size w0 W→w.heap.size+1≤W.heap.size from fun W hB=>by have:=hB.size;omega);have KB:=hid (show ∀ W:World,Below w0.heap.size w0 W→Below w.heap.size w W from fun W hB=>hB0.trans (hB.mono (by omega)));have F0:=hid (Below.refl w0.heap.size w0);have HW0:=hid hw0;clear hz0 hB0 hS0 hw0;have HL:=hid (show ∀ W:World,Below w0.heap.size w0 W→La W from fun W hB=>hl.on (KB.out W hB));clear hl h1;go_enter func19,ntmps19
 go_wp2_with fail
 rw[← HW0.out];obtain⟨d0,d1⟩:=KS.out _ F0.out;go_wp2_with fail
 refine(C1.out _ (HL.out _ F0.out)).mono ?_;rintro e w1 ⟨rfl,hb⟩;have F1:=hid (ak F0.out hb);clear hb d0 d1;obtain⟨d0,d1⟩:=KS.out _ F1.out;go_wp2;go_ret
 exact⟨rfl,KB.out _ F1.out⟩
theorem rT (l h x:ByteArray)(c d:Int)(hc:c≤0)(hd:d≤0)(w:World)(hl:La w)
 (h1:CL 77 #[.string l,.string x] (.int .i64 c))
 (h2:CL 77 #[.string x,.string h] (.int .i64 d)) :
 CR 47 #[.agg #[.string l,.string h],.string x] w (.bool true):=by
 have C1:=hid h1;have C2:=hid h2;obtain⟨w0,hw0⟩:∃ w0:World,w0=(w.alloc (.cells #[.string l,.string h] 32)):=⟨_,rfl⟩;have hz0:w0.heap.size=w.heap.size+1:=by rw[hw0];simp
 have hB0:Below w.heap.size w w0:=by
  rw[hw0];repeat (first|exact Below.refl _ _|refine Below.setCell ?_ (by first|omega|(simp;omega)|simp) _|refine Below.alloc ?_ (by first|omega|(simp;omega)|simp) _|refine Below.drew ?_)
 have hS0:w0.cell? ⟨w.heap.size,0,none⟩=some (.string l)∧w0.cell? ⟨w.heap.size,1,none⟩=some (.string h):=by rw[hw0];exact⟨((aN).trans rfl),((aN).trans rfl)⟩
 have KS:=hid (show ∀ W:World,Below w0.heap.size w0 W→(W.cell? ⟨w.heap.size,0,none⟩=some (.string l)∧W.cell? ⟨w.heap.size,1,none⟩=some (.string h)) from fun W hB=>by
  obtain⟨c0,c1⟩:=hS0
  exact⟨(hB.cell (p:=⟨w.heap.size,0,none⟩) (by show w.heap.size<_;omega)).trans c0,(hB.cell (p:=⟨w.heap.size,1,none⟩) (by show w.heap.size<_;omega)).trans c1⟩)
 have KZ:=hid (show ∀ W:World,Below w0.heap.size w0 W→w.heap.size+1≤W.heap.size from fun W hB=>by have:=hB.size;omega);have KB:=hid (show ∀ W:World,Below w0.heap.size w0 W→Below w.heap.size w W from fun W hB=>hB0.trans (hB.mono (by omega)));have F0:=hid (Below.refl w0.heap.size w0);have HW0:=hid hw0;clear hz0 hB0 hS0 hw0;have HL:=hid (show ∀ W:World,Below w0.heap.size w0 W→La W from fun W hB=>hl.on (KB.out W hB));clear hl h1 h2;go_enter func47,ntmps47
 go_wp2_with fail
 rw[← HW0.out];obtain⟨d0,d1⟩:=KS.out _ F0.out;go_wp2_with fail
 refine(C1.out _ (HL.out _ F0.out)).mono ?_;rintro e w1 ⟨rfl,hb⟩;have F1:=hid (ak F0.out hb);clear hb d0 d1;obtain⟨d0,d1⟩:=KS.out _ F1.out;go_wp2_with fail
 refine(C2.out _ (HL.out _ F1.out)).mono ?_;rintro e w2 ⟨rfl,hb⟩;have F2:=hid (ak F1.out hb);clear hb d0 d1;obtain⟨d0,d1⟩:=KS.out _ F2.out;go_wp2;go_ret
 exact⟨rfl,KB.out _ F2.out⟩
theorem rW (l h x:ByteArray)(w:World)(hl:La w)
 (h1:CL 77 #[.string l,.string x] (.int .i64 1)) :
 CR 47 #[.agg #[.string l,.string h],.string x] w (.bool false):=by
 have C1:=hid h1;obtain⟨w0,hw0⟩:∃ w0:World,w0=(w.alloc (.cells #[.string l,.string h] 32)):=⟨_,rfl⟩;have hz0:w0.heap.size=w.heap.size+1:=by rw[hw0];simp
 have hB0:Below w.heap.size w w0:=by
  rw[hw0];repeat (first|exact Below.refl _ _|refine Below.setCell ?_ (by first|omega|(simp;omega)|simp) _|refine Below.alloc ?_ (by first|omega|(simp;omega)|simp) _|refine Below.drew ?_)
 have hS0:w0.cell? ⟨w.heap.size,0,none⟩=some (.string l)∧w0.cell? ⟨w.heap.size,1,none⟩=some (.string h):=by rw[hw0];exact⟨((aN).trans rfl),((aN).trans rfl)⟩
 have KS:=hid (show ∀ W:World,Below w0.heap.size w0 W→(W.cell? ⟨w.heap.size,0,none⟩=some (.string l)∧W.cell? ⟨w.heap.size,1,none⟩=some (.string h)) from fun W hB=>by
  obtain⟨c0,c1⟩:=hS0
  exact⟨(hB.cell (p:=⟨w.heap.size,0,none⟩) (by show w.heap.size<_;omega)).trans c0,(hB.cell (p:=⟨w.heap.size,1,none⟩) (by show w.heap.size<_;omega)).trans c1⟩)
 have KZ:=hid (show ∀ W:World,Below w0.heap.size w0 W→w.heap.size+1≤W.heap.size from fun W hB=>by have:=hB.size;omega);have KB:=hid (show ∀ W:World,Below w0.heap.size w0 W→Below w.heap.size w W from fun W hB=>hB0.trans (hB.mono (by omega)));have F0:=hid (Below.refl w0.heap.size w0);have HW0:=hid hw0;clear hz0 hB0 hS0 hw0;have HL:=hid (show ∀ W:World,Below w0.heap.size w0 W→La W from fun W hB=>hl.on (KB.out W hB));clear hl h1;go_enter func47,ntmps47
 go_wp2_with fail
 rw[← HW0.out];obtain⟨d0,d1⟩:=KS.out _ F0.out;go_wp2_with fail
 refine(C1.out _ (HL.out _ F0.out)).mono ?_;rintro e w1 ⟨rfl,hb⟩;have F1:=hid (ak F0.out hb);clear hb d0 d1;obtain⟨d0,d1⟩:=KS.out _ F1.out;go_wp2;go_ret
 exact⟨rfl,KB.out _ F1.out⟩
theorem rU (l h x:ByteArray)(c:Int)(hc:c≤0)(w:World)(hl:La w)
 (h1:CL 77 #[.string l,.string x] (.int .i64 c))
 (h2:CL 77 #[.string x,.string h] (.int .i64 1)) :
 CR 47 #[.agg #[.string l,.string h],.string x] w (.bool false):=by
 have C1:=hid h1;have C2:=hid h2;obtain⟨w0,hw0⟩:∃ w0:World,w0=(w.alloc (.cells #[.string l,.string h] 32)):=⟨_,rfl⟩;have hz0:w0.heap.size=w.heap.size+1:=by rw[hw0];simp
 have hB0:Below w.heap.size w w0:=by
  rw[hw0];repeat (first|exact Below.refl _ _|refine Below.setCell ?_ (by first|omega|(simp;omega)|simp) _|refine Below.alloc ?_ (by first|omega|(simp;omega)|simp) _|refine Below.drew ?_)
 have hS0:w0.cell? ⟨w.heap.size,0,none⟩=some (.string l)∧w0.cell? ⟨w.heap.size,1,none⟩=some (.string h):=by rw[hw0];exact⟨((aN).trans rfl),((aN).trans rfl)⟩
 have KS:=hid (show ∀ W:World,Below w0.heap.size w0 W→(W.cell? ⟨w.heap.size,0,none⟩=some (.string l)∧W.cell? ⟨w.heap.size,1,none⟩=some (.string h)) from fun W hB=>by
  obtain⟨c0,c1⟩:=hS0
  exact⟨(hB.cell (p:=⟨w.heap.size,0,none⟩) (by show w.heap.size<_;omega)).trans c0,(hB.cell (p:=⟨w.heap.size,1,none⟩) (by show w.heap.size<_;omega)).trans c1⟩)
 have KZ:=hid (show ∀ W:World,Below w0.heap.size w0 W→w.heap.size+1≤W.heap.size from fun W hB=>by have:=hB.size;omega);have KB:=hid (show ∀ W:World,Below w0.heap.size w0 W→Below w.heap.size w W from fun W hB=>hB0.trans (hB.mono (by omega)));have F0:=hid (Below.refl w0.heap.size w0);have HW0:=hid hw0;clear hz0 hB0 hS0 hw0;have HL:=hid (show ∀ W:World,Below w0.heap.size w0 W→La W from fun W hB=>hl.on (KB.out W hB));clear hl h1 h2;go_enter func47,ntmps47
 go_wp2_with fail
 rw[← HW0.out];obtain⟨d0,d1⟩:=KS.out _ F0.out;go_wp2_with fail
 refine(C1.out _ (HL.out _ F0.out)).mono ?_;rintro e w1 ⟨rfl,hb⟩;have F1:=hid (ak F0.out hb);clear hb d0 d1;obtain⟨d0,d1⟩:=KS.out _ F1.out;go_wp2_with fail
 refine(C2.out _ (HL.out _ F1.out)).mono ?_;rintro e w2 ⟨rfl,hb⟩;have F2:=hid (ak F1.out hb);clear hb d0 d1;obtain⟨d0,d1⟩:=KS.out _ F2.out;go_wp2;go_ret
 exact⟨rfl,KB.out _ F2.out⟩
theorem z2e (l h x:ByteArray)(r:Bool)(w:World)(hl:La w)
 (h1:CL 19 #[.agg #[.string l,.string h]] (.bool true))
 (h2:CL 45 #[.string x] (.bool true))
 (h3:CL 47 #[.agg #[.string l,.string h],.string x] (.bool r)) :
 CR 18 #[.agg #[.string l,.string h],.string x] w (.bool r):=by
 obtain ⟨C1,C2,C3⟩:=ai h1 h2 h3;obtain⟨w0,hw0⟩:∃ w0:World,w0=(w.alloc (.cells #[.string l,.string h] 32)):=⟨_,rfl⟩;have hz0:w0.heap.size=w.heap.size+1:=by rw[hw0];simp
 have hB0:Below w.heap.size w w0:=by
  rw[hw0];repeat (first|exact Below.refl _ _|refine Below.setCell ?_ (by first|omega|(simp;omega)|simp) _|refine Below.alloc ?_ (by first|omega|(simp;omega)|simp) _|refine Below.drew ?_)
 have hS0:w0.cell? ⟨w.heap.size,0,none⟩=some (.string l)∧w0.cell? ⟨w.heap.size,1,none⟩=some (.string h):=by rw[hw0];exact⟨((aN).trans rfl),((aN).trans rfl)⟩
 have KS:=hid (show ∀ W:World,Below w0.heap.size w0 W→(W.cell? ⟨w.heap.size,0,none⟩=some (.string l)∧W.cell? ⟨w.heap.size,1,none⟩=some (.string h)) from fun W hB=>by
  obtain⟨c0,c1⟩:=hS0
  exact⟨(hB.cell (p:=⟨w.heap.size,0,none⟩) (by show w.heap.size<_;omega)).trans c0,(hB.cell (p:=⟨w.heap.size,1,none⟩) (by show w.heap.size<_;omega)).trans c1⟩)
 have KZ:=hid (show ∀ W:World,Below w0.heap.size w0 W→w.heap.size+1≤W.heap.size from fun W hB=>by have:=hB.size;omega);have KB:=hid (show ∀ W:World,Below w0.heap.size w0 W→Below w.heap.size w W from fun W hB=>hB0.trans (hB.mono (by omega)));have F0:=hid (Below.refl w0.heap.size w0);have HW0:=hid hw0;clear hz0 hB0 hS0 hw0;have HL:=hid (show ∀ W:World,Below w0.heap.size w0 W→La W from fun W hB=>hl.on (KB.out W hB));clear hl h1 h2 h3;go_enter func18,ntmps18
 go_wp2_with fail
 rw[← HW0.out];obtain⟨d0,d1⟩:=KS.out _ F0.out;go_wp2_with fail
 refine(C1.out _ (HL.out _ F0.out)).mono ?_;rintro e w1 ⟨rfl,hb⟩;have F1:=hid (ak F0.out hb);clear hb d0 d1;obtain⟨d0,d1⟩:=KS.out _ F1.out;go_wp2_with fail
 refine(C2.out _ (HL.out _ F1.out)).mono ?_;rintro e w2 ⟨rfl,hb⟩;have F2:=hid (ak F1.out hb);clear hb d0 d1;obtain⟨d0,d1⟩:=KS.out _ F2.out;go_wp2_with fail
 refine(C3.out _ (HL.out _ F2.out)).mono ?_;rintro e w3 ⟨rfl,hb⟩;have F3:=hid (ak F2.out hb);clear hb d0 d1;obtain⟨d0,d1⟩:=KS.out _ F3.out;go_wp2;go_ret
 exact⟨rfl,KB.out _ F3.out⟩
theorem z2c (l1 h1 l2 h2 r s:ByteArray)(w:World)(hl:La w)
 (g1:CL 19 #[.agg #[.string l1,.string h1]] (.bool true))
 (g2:CL 19 #[.agg #[.string l2,.string h2]] (.bool true))
 (g3:CL 52 #[.string l1,.string h2] (.tuple #[.string r,.int .i64 0]))
 (g4:CL 52 #[.string h1,.string l2] (.tuple #[.string s,.int .i64 0])) :
 CR 108 #[.agg #[.string l1,.string h1],.agg #[.string l2,.string h2]] w (.tuple #[.agg #[.string r,.string s],.int .i64 0]):=by
 obtain ⟨C1,C2,C3,C4⟩:=aG g1 g2 g3 g4;obtain⟨w0,hw0⟩:∃ w0:World,w0=(((w.alloc (.cells #[.string l1,.string h1] 32)).alloc (.cells #[.string l2,.string h2] 32)).alloc (.cells #[.string ⟨#[]⟩,.string ⟨#[]⟩] 32)):=⟨_,rfl⟩;have hz0:w0.heap.size=w.heap.size+3:=by rw[hw0];simp
 have hB0:Below w.heap.size w w0:=by
  rw[hw0];repeat (first|exact Below.refl _ _|refine Below.setCell ?_ (by first|omega|(simp;omega)|simp) _|refine Below.alloc ?_ (by first|omega|(simp;omega)|simp) _|refine Below.drew ?_)
 have hS0:w0.cell? ⟨w.heap.size,0,none⟩=some (.string l1)∧w0.cell? ⟨w.heap.size,1,none⟩=some (.string h1)∧w0.cell? ⟨w.heap.size+1,0,none⟩=some (.string l2)∧w0.cell? ⟨w.heap.size+1,1,none⟩=some (.string h2):=by rw[hw0];exact⟨((q_lt).trans ((q_lt).trans ((aN).trans rfl))),((q_lt).trans ((q_lt).trans ((aN).trans rfl))),((q_lt).trans ((aN).trans rfl)),((q_lt).trans ((aN).trans rfl))⟩
 have KS:=hid (show ∀ W:World,Below w0.heap.size w0 W→(W.cell? ⟨w.heap.size,0,none⟩=some (.string l1)∧W.cell? ⟨w.heap.size,1,none⟩=some (.string h1)∧W.cell? ⟨w.heap.size+1,0,none⟩=some (.string l2)∧W.cell? ⟨w.heap.size+1,1,none⟩=some (.string h2)) from fun W hB=>by
  obtain⟨c0,c1,c2,c3⟩:=hS0
  exact⟨(hB.cell (p:=⟨w.heap.size,0,none⟩) (by show w.heap.size<_;omega)).trans c0,(hB.cell (p:=⟨w.heap.size,1,none⟩) (by show w.heap.size<_;omega)).trans c1,(hB.cell (p:=⟨w.heap.size+1,0,none⟩) (by show w.heap.size+1<_;omega)).trans c2,(hB.cell (p:=⟨w.heap.size+1,1,none⟩) (by show w.heap.size+1<_;omega)).trans c3⟩)
 have KZ:=hid (show ∀ W:World,Below w0.heap.size w0 W→w.heap.size+3≤W.heap.size from fun W hB=>by have:=hB.size;omega);have KB:=hid (show ∀ W:World,Below w0.heap.size w0 W→Below w.heap.size w W from fun W hB=>hB0.trans (hB.mono (by omega)));have hR0:w0.cell? ⟨w.heap.size+1+1,0,none⟩=some (.string ⟨#[]⟩)∧w0.cell? ⟨w.heap.size+1+1,1,none⟩=some (.string ⟨#[]⟩)∧w0.frozen? ⟨w.heap.size+1+1,0,none⟩=false∧w0.frozen? ⟨w.heap.size+1+1,1,none⟩=false:=by rw[hw0];exact⟨((aN).trans rfl),((aN).trans rfl),(bF),(bF)⟩
 have KR:=hid (show ∀ W:World,Below w0.heap.size w0 W→(W.cell? ⟨w.heap.size+1+1,0,none⟩=some (.string ⟨#[]⟩)∧W.cell? ⟨w.heap.size+1+1,1,none⟩=some (.string ⟨#[]⟩)∧W.frozen? ⟨w.heap.size+1+1,0,none⟩=false∧W.frozen? ⟨w.heap.size+1+1,1,none⟩=false) from fun W hB=>by
  obtain⟨c0,c1,f0,f1⟩:=hR0
  exact⟨(hB.cell (p:=⟨w.heap.size+1+1,0,none⟩) (by show w.heap.size+1+1<_;omega)).trans c0,(hB.cell (p:=⟨w.heap.size+1+1,1,none⟩) (by show w.heap.size+1+1<_;omega)).trans c1,(hB.frozen (p:=⟨w.heap.size+1+1,0,none⟩) (by show w.heap.size+1+1<_;omega)).trans f0,(hB.frozen (p:=⟨w.heap.size+1+1,1,none⟩) (by show w.heap.size+1+1<_;omega)).trans f1⟩)
 clear hR0
 have KT0:=hid (show ∀ (W:World) (v u:Value),Below w0.heap.size w0 W→(((W.setCell ⟨w.heap.size+1+1,0,none⟩ v).setCell ⟨w.heap.size+1+1,1,none⟩ u).cell? ⟨w.heap.size,0,none⟩=some (.string l1)∧((W.setCell ⟨w.heap.size+1+1,0,none⟩ v).setCell ⟨w.heap.size+1+1,1,none⟩ u).cell? ⟨w.heap.size,1,none⟩=some (.string h1)∧((W.setCell ⟨w.heap.size+1+1,0,none⟩ v).setCell ⟨w.heap.size+1+1,1,none⟩ u).cell? ⟨w.heap.size+1,0,none⟩=some (.string l2)∧((W.setCell ⟨w.heap.size+1+1,0,none⟩ v).setCell ⟨w.heap.size+1+1,1,none⟩ u).cell? ⟨w.heap.size+1,1,none⟩=some (.string h2)) from fun W v u hB=>by
  have hh:=KS.out W hB;obtain⟨c0,c1,c2,c3⟩:=hh
  exact⟨(aX (by omega)).trans ((aX (by omega)).trans c0),(aX (by omega)).trans ((aX (by omega)).trans c1),(aX (by omega)).trans ((aX (by omega)).trans c2),(aX (by omega)).trans ((aX (by omega)).trans c3)⟩)
 have F0:=hid (Below.refl w0.heap.size w0);have HW0:=hid hw0;clear hz0 hB0 hS0 hw0;have HL:=hid (show ∀ W:World,Below w0.heap.size w0 W→La W from fun W hB=>hl.on (KB.out W hB));clear hl g1 g2 g3 g4;go_enter func108,ntmps108
 go_wp2_with fail
 rw[← HW0.out];obtain⟨d0,d1,d2,d3⟩:=KS.out _ F0.out;go_wp2_with fail
 refine(C1.out _ (HL.out _ F0.out)).mono ?_;rintro e w1 ⟨rfl,hb⟩;have F1:=hid (ak F0.out hb);clear hb d0 d1 d2 d3;obtain⟨d0,d1,d2,d3⟩:=KS.out _ F1.out;go_wp2_with fail
 refine(C2.out _ (HL.out _ F1.out)).mono ?_;rintro e w2 ⟨rfl,hb⟩;have F2:=hid (ak F1.out hb);clear hb d0 d1 d2 d3;obtain⟨d0,d1,d2,d3⟩:=KS.out _ F2.out;go_wp2_with fail
 refine(C3.out _ (HL.out _ F2.out)).mono ?_;rintro e w3 ⟨rfl,hb⟩;have F3:=hid (ak F2.out hb);clear hb d0 d1 d2 d3;obtain⟨d0,d1,d2,d3⟩:=KS.out _ F3.out;go_wp2_with fail
 refine(C4.out _ (HL.out _ F3.out)).mono ?_;rintro e w4 ⟨rfl,hb⟩;have F4:=hid (ak F3.out hb);clear hb d0 d1 d2 d3;obtain⟨d0,d1,d2,d3⟩:=KS.out _ F4.out
 all_goals
  obtain⟨m0,m1,n0,n1⟩:=KR.out _ F4.out;have hz:=KZ.out _ F4.out;go_wp2;refine bodyPost_ret (v:=.tuple #[.agg #[.string r,.string s],.int .i64 0]) (by simp[results,results108,go_sem,m0,m1]) rfl ⟨rfl,?_⟩;repeat (first|exact KB.out _ F4.out|refine Below.setCell ?_ (by first|omega|(simp;omega)|simp) _|refine Below.alloc ?_ (by first|omega|(simp;omega)|simp) _|refine Below.drew ?_)
theorem sj {w:World}{v:Value}{p q:Addr}:(w.setCell p v).frozen? q=w.frozen? q:=by simp
theorem xV {q:Rat}(h1:q.num.natAbs<1000)(h2:q.den<1000):aO q:=⟨(show Sm 3 _ by unfold Sm;omega).mono (by decide),(show Sm 3 _ by unfold Sm;omega).mono (by decide)⟩
theorem qnd (q:Rat)(n:Int)(d:Nat)(a x y:ByteArray)(h:q.num=n∧q.den=d∧Sq q=a∧Sz n=x∧Sz (d:Int)=y):Sq q=a∧Fv q=.agg #[.string x,.string y]:=by
 obtain⟨h1,h2,h3,h4,h5⟩:=h;refine⟨h3,?_⟩;unfold Fv
 rw[h1,h2,h4,h5]
theorem q5:Sq 5=⟨#[53]⟩∧Fv 5=.agg #[.string ⟨#[53]⟩,.string ⟨#[49]⟩]:=qnd _ 5 1 _ _ _ (by decide +kernel)
theorem q_0:Sq (0:Rat)=⟨#[48]⟩:=by decide +kernel
theorem q_1:Sq (1:Rat)=⟨#[49]⟩:=by decide +kernel
end Go.Proofs.YtodcdibanokjjaaGreatDoor
open Go.Lib (hid)
namespace Go.Proofs.YtodcdibanokjjaaGreatDoor
open Go.RowKit Go.Gb
def fF (p:Rat × Rat) (x:Rat):Rat × Rat:=if x<p.1 then (x,p.2) else if p.2<x then (p.1,x) else p
def exOf (q:Nat→Rat):Nat→Rat × Rat
 | 0=>(q 0,q 0)
 | i+1=>fF (exOf q i) (q (i+1))
theorem wI (q:Nat→Rat):∀ i:Nat,(∀ j,j≤i→aO (q j))→aO (exOf q i).1∧aO (exOf q i).2
 | 0,h=>⟨h 0 (Nat.le_refl _),h 0 (Nat.le_refl _)⟩
 | i+1,h=>by
   have h1:=wI q i (fun j hj=>h j (by omega));have h2:=h (i+1) (Nat.le_refl _);show aO (fF (exOf q i) (q (i+1))).1∧aO (fF (exOf q i) (q (i+1))).2
   unfold fF
   split
   · exact⟨h2,h1.2⟩
   · split
     · exact⟨h1.1,h2⟩
     · exact h1
theorem kD (x y:Rat)(c:Int)(hc:cmpQ x y=c)(hx:aO x)(hy:aO y)(w:World)(hl:La w) :
 CR 77 #[.string (Sq x),.string (Sq y)] w (.int .i64 c):=xO _ _ _ _ w (qi x y c hc hx hy w hl)
def Ex (w wr:World) (lo hi:Rat):Prop:=Below w.heap.size w wr∧w.heap.size+2≤wr.heap.size∧(wr.cell? ⟨w.heap.size,0,none⟩=some (.string ⟨#[]⟩)∧wr.cell? ⟨w.heap.size,1,none⟩=some (.string ⟨#[]⟩)∧wr.frozen? ⟨w.heap.size,0,none⟩=false∧wr.frozen? ⟨w.heap.size,1,none⟩=false) ∧
 (wr.cell? ⟨w.heap.size+1,0,none⟩=some (.string (Sq lo))∧wr.cell? ⟨w.heap.size+1,1,none⟩=some (.string (Sq hi))∧wr.frozen? ⟨w.heap.size+1,0,none⟩=false∧wr.frozen? ⟨w.heap.size+1,1,none⟩=false)
theorem Ex.call {w a b:World}{lo hi:Rat}(h:Ex w a lo hi)(hb:Below a.heap.size a b):Ex w b lo hi:=by
 obtain⟨h1,h2,⟨a0,a1,a2,a3⟩,⟨b0,b1,b2,b3⟩⟩:=h;refine⟨h1.trans (hb.mono h1.size),Nat.le_trans h2 hb.size,⟨?_,?_,?_,?_⟩,⟨?_,?_,?_,?_⟩⟩
 · exact(hb.cell (p:=⟨w.heap.size,0,none⟩) (by show w.heap.size<_;omega)).trans a0
 · exact(hb.cell (p:=⟨w.heap.size,1,none⟩) (by show w.heap.size<_;omega)).trans a1
 · exact(hb.frozen (p:=⟨w.heap.size,0,none⟩) (by show w.heap.size<_;omega)).trans a2
 · exact(hb.frozen (p:=⟨w.heap.size,1,none⟩) (by show w.heap.size<_;omega)).trans a3
 · exact(hb.cell (p:=⟨w.heap.size+1,0,none⟩) (by show w.heap.size+1<_;omega)).trans b0
 · exact(hb.cell (p:=⟨w.heap.size+1,1,none⟩) (by show w.heap.size+1<_;omega)).trans b1
 · exact(hb.frozen (p:=⟨w.heap.size+1,0,none⟩) (by show w.heap.size+1<_;omega)).trans b2
 · exact(hb.frozen (p:=⟨w.heap.size+1,1,none⟩) (by show w.heap.size+1<_;omega)).trans b3
theorem Ex.drew {w a:World}{lo hi:Rat}(h:Ex w a lo hi):Ex w a.drew lo hi:=⟨h.1.drew,h.2.1,h.2.2⟩
theorem Ex.setLo {w a:World}{lo hi:Rat}(h:Ex w a lo hi)(x:Rat):Ex w (a.setCell ⟨w.heap.size+1,0,none⟩ (.string (Sq x))) x hi:=by
 obtain⟨h1,h2,⟨a0,a1,a2,a3⟩,⟨b0,b1,b2,b3⟩⟩:=h;refine⟨h1.setCell (p:=⟨w.heap.size+1,0,none⟩) (by show w.heap.size≤w.heap.size+1;omega) _,by simpa using h2,⟨(aX (by omega)).trans a0,(aX (by omega)).trans a1,?_,?_⟩,⟨World.cell?_setCell_same _ _ _ b0,(World.cell?_setCell_other _ _ _ _ (by intro e;injection e with e1 e2;exact absurd e2 (by decide))).trans b1,?_,?_⟩⟩<;>rw[sj]<;>assumption
theorem Ex.setHi {w a:World}{lo hi:Rat}(h:Ex w a lo hi)(x:Rat):Ex w (a.setCell ⟨w.heap.size+1,1,none⟩ (.string (Sq x))) lo x:=by
 obtain⟨h1,h2,⟨a0,a1,a2,a3⟩,⟨b0,b1,b2,b3⟩⟩:=h;refine⟨h1.setCell (p:=⟨w.heap.size+1,1,none⟩) (by show w.heap.size≤w.heap.size+1;omega) _,by simpa using h2,⟨(aX (by omega)).trans a0,(aX (by omega)).trans a1,?_,?_⟩,⟨(World.cell?_setCell_other _ _ _ _ (by intro e;injection e with e1 e2;exact absurd e2 (by decide))).trans b0,World.cell?_setCell_same _ _ _ b1,?_,?_⟩⟩<;>rw[sj]<;>assumption
theorem Ex.start (w:World)(x:Rat):Ex w ((w.alloc (.cells #[.string ⟨#[]⟩,.string ⟨#[]⟩] 32)).alloc (.cells #[.string (Sq x),.string (Sq x)] 32)) x x:=by
 refine⟨((Below.refl w.heap.size w).alloc (Nat.le_refl _) _).alloc (by simp) _,by simp,⟨(q_lt (by simp)).trans ((aN rfl).trans rfl),(q_lt (by simp)).trans ((aN rfl).trans rfl),(jG (by simp)).trans (bF rfl),(jG (by simp)).trans (bF rfl)⟩,⟨(aN (by simp)).trans rfl,(aN (by simp)).trans rfl,bF (by simp),bF (by simp)⟩⟩
theorem lZ (g n c:Nat)(q:Nat→Rat)(hn1:2≤n)(hn2:n≤5000)(hnc:n≤c)(w:World)(hl:La w)(hg:g<w.heap.size)
 (hq:∀ i,i<n→aO (q i)) (hcell:∀ i,i<n→w.cell? ⟨g,i,none⟩=some (.string (Sq (q i)))) :
 CR 133 #[.slice (some ⟨g,0,none⟩) n c] w (.agg #[.string (Sq (exOf q (n-1)).1),.string (Sq (exOf q (n-1)).2)]):=by
 obtain ⟨HQ,HC,HL⟩:=ai hq hcell hl;have hn3:(0:Int)<(n:Int):=by omega
 have hn4:(1:Int)≤(n:Int):=by omega
 have hn6:0<n:=by omega
 have hn7:¬ (n:Int)≤0:=by omega
 have hn8:¬ n=0:=by omega
 have hn5:(n:Int)≤(c:Int):=by omega
 have k0:(w.alloc (.cells #[.string ⟨#[]⟩,.string ⟨#[]⟩] 32)).cell? ⟨g,0,none⟩=some (.string (Sq (q 0))):=(q_lt hg).trans (hcell 0 (by omega));clear hcell hq hl;go_enter func133,ntmps133
 have KC:=hid (show ∀ W:World,Below w.heap.size w W→W.cell? ⟨g,0,none⟩=some (.string (Sq (q 0))) from fun W hB=>(hB.cell (p:=⟨g,0,none⟩) hg).trans (HC.out 0 (by omega)));have F0:=hid ((Below.refl w.heap.size w).alloc (Nat.le_refl _) (.cells #[.string ⟨#[]⟩,.string ⟨#[]⟩] 32));have F1:=hid (fun o=>F0.out.alloc (o:=o) (by simp));have F2:=hid (fun o=>F0.out.drew.alloc (o:=o) (by simp));go_wp2_with fail
 go_region_held3 (fun w'=>w'.cell? ⟨g,0,none⟩=some (.string (Sq (q 0)))) (first|(with_reducible exact KC.out _ F0.out)|(with_reducible exact KC.out _ F0.out.drew)|(with_reducible exact KC.out _ (F1.out _))|(with_reducible exact KC.out _ (F2.out _))|(with_reducible exact KC.out _ (F1.out _).drew))
  (fail)
 have E0:=hid (Ex.start w (q 0)).drew;clear k0 F0 F1 F2;generalize ((w.alloc (.cells #[.string ⟨#[]⟩,.string ⟨#[]⟩] 32)).alloc (.cells #[.string (Sq (q 0)),.string (Sq (q 0))] 32)).drew=w0 at *;go_wp2_with fail
 go_loopw [5,16] (fun _ ii wr=>∃ (i:Nat),i+1≤n∧ii=.int .i64 (i:Int)∧Hid (Ex w wr (exOf q i).1 (exOf q i).2)) (fun _ ii _=>n-(intOf ii).toNat)
 case atStart=>exact⟨0,by omega,rfl,E0⟩
 case round =>
  obtain⟨i,hi,rfl,hE⟩:=hrel;have hi2:(i:Int)≤5000:=by omega
  have hi3:(0:Int)≤(i:Int):=by omega
  have wi:IntKind.i64.wrap ((i:Int)+1)=(i:Int)+1:=IntWalk.i64_in _ (by omega);obtain⟨⟨r0,r1,r2,r3⟩,⟨f0,f1,f2,f3⟩⟩:=hE.out.2.2;by_cases hlt:i+1<n
  · have hcx:=(hE.out.1.cell (p:=⟨g,i+1,none⟩) hg).trans (HC.out (i+1) hlt)
    have hcx2:=hcx;rw[Nat.add_comm i 1]at hcx2;have hlt2:(i:Int)<((n-1:Nat):Int):=by omega
    have hlt3:i<n-1:=by omega
    have hfit:=wI q i (fun j hj=>HQ.out j (by omega));have FX:=HQ.out (i+1) hlt;have hnext:exOf q (i+1)=fF (exOf q i) (q (i+1)):=rfl;generalize hp:exOf q i=p at *;obtain⟨lo,up⟩:=p;rw[show q (1+i)=q (i+1) by rw[Nat.add_comm]]at hcx2;generalize q (i+1)=x at *;clear hp;by_cases h1:x<lo
    · have HO:=hid (fun W hW=>kD x lo (-1) (uK h1) FX hfit.1 W hW)
      have HNX:=hid (show exOf q (i+1)=(x,up) by rw[hnext];unfold fF;rw[if_pos h1]);clear hnext h1 FX hfit;go_wp2_with fail
      refine(HO.out _ (HL.out.on hE.out.1)).mono ?_;rintro e w1 ⟨rfl,hb⟩;have hE1:=hid (hE.out.call hb);clear hb r0 r1 r2 r3 f0 f1 f2 f3 hcx hcx2;obtain⟨⟨r0,r1,r2,r3⟩,⟨f0,f1,f2,f3⟩⟩:=hE1.out.2.2;go_wp2;go_roundw
      case rel=>exact⟨i+1,by omega,by go_num,hid (by rw[HNX.out];exact hE1.out.setLo x)⟩
      case measure=>simp[intOf];omega
    · obtain⟨c1,hc1,hc2'⟩:∃ c1,cmpQ x lo=c1∧decide (c1<0)=false:=by
       rcases eZ x lo with⟨h,e⟩|⟨h,e⟩|⟨h,e⟩
       · exact absurd h h1
       · exact⟨0,e,by decide⟩
       · exact⟨1,e,by decide⟩
      have HO:=hid (fun W hW=>kD x lo c1 hc1 FX hfit.1 W hW);by_cases h2:up<x
      · have HO2:=hid (fun W hW=>kD x up 1 (nS h2) FX hfit.2 W hW)
        have HNX:=hid (show exOf q (i+1)=(lo,x) by rw[hnext];unfold fF;rw[if_neg h1,if_pos h2]);clear hnext h1 h2 FX hfit hc1;go_wp2_with fail
        refine(HO.out _ (HL.out.on hE.out.1)).mono ?_;rintro e w1 ⟨rfl,hb⟩;have hE1:=hid (hE.out.call hb);clear hb r0 r1 r2 r3 f0 f1 f2 f3 hcx hcx2;obtain⟨⟨r0,r1,r2,r3⟩,⟨f0,f1,f2,f3⟩⟩:=hE1.out.2.2;go_wp2_with fail
        refine(HO2.out _ (HL.out.on hE1.out.1)).mono ?_;rintro e w2 ⟨rfl,hb⟩;have hE2:=hid (hE1.out.call hb);clear hb r0 r1 r2 r3 f0 f1 f2 f3;obtain⟨⟨r0,r1,r2,r3⟩,⟨f0,f1,f2,f3⟩⟩:=hE2.out.2.2;go_wp2;go_roundw
        case rel=>exact⟨i+1,by omega,by go_num,hid (by rw[HNX.out];exact hE2.out.setHi x)⟩
        case measure=>simp[intOf];omega
      · obtain⟨c3,hc3,hc4⟩:∃ c3,cmpQ x up=c3∧decide (0<c3)=false:=by
         rcases eZ x up with⟨h,e⟩|⟨h,e⟩|⟨h,e⟩
         · exact⟨-1,e,by decide⟩
         · exact⟨0,e,by decide⟩
         · exact absurd h h2
        have HO2:=hid (fun W hW=>kD x up c3 hc3 FX hfit.2 W hW);have HNX:=hid (show exOf q (i+1)=(lo,up) by rw[hnext];unfold fF;rw[if_neg h1,if_neg h2]);clear hnext h1 h2 FX hfit hc1 hc3;go_wp2_with fail
        refine(HO.out _ (HL.out.on hE.out.1)).mono ?_;rintro e w1 ⟨rfl,hb⟩;have hE1:=hid (hE.out.call hb);clear hb r0 r1 r2 r3 f0 f1 f2 f3 hcx hcx2;obtain⟨⟨r0,r1,r2,r3⟩,⟨f0,f1,f2,f3⟩⟩:=hE1.out.2.2;go_wp2_with fail
        refine(HO2.out _ (HL.out.on hE1.out.1)).mono ?_;rintro e w2 ⟨rfl,hb⟩;have hE2:=hid (hE1.out.call hb);clear hb r0 r1 r2 r3 f0 f1 f2 f3;obtain⟨⟨r0,r1,r2,r3⟩,⟨f0,f1,f2,f3⟩⟩:=hE2.out.2.2;go_wp2;go_roundw
        case rel=>exact⟨i+1,by omega,by go_num,hid (by rw[HNX.out];exact hE2.out)⟩
        case measure=>simp[intOf];omega
  · have hge:decide ((i:Int)<((n-1:Nat):Int))=false:=by rw[decide_eq_false_iff_not];omega
    have hin:n-1=i:=by omega
    go_wp2;refine bodyPost_ret (v:=.agg #[.string (Sq (exOf q i).1),.string (Sq (exOf q i).2)]) (by simp[results,results133,go_sem,r0,r1]) rfl ⟨by rw[hin],?_⟩;exact(hE.out.1.setCell (p:=⟨w.heap.size,0,none⟩) (Nat.le_refl _) _).setCell (p:=⟨w.heap.size,1,none⟩) (Nat.le_refl _) _
open Go.Lib (hid)
theorem z3Q (n:Int)(en:Nat)(sn:ByteArray)(p1:Option Addr)(c1:Nat)(s1:Option Addr)(d1:Nat)(w:World)(h1:∀ p1 c1 W,RN W (.slice p1 (aa n) c1) n.natAbs→CR 55 #[.agg #[.bool (ah n),.slice p1 (aa n) c1]] W (.string sn))(h2:∀ s1 d1 W,RN W (.slice s1 (ag en) d1) en→CR 56 #[.slice s1 (ag en) d1] W (.string ⟨#[49]⟩))(r1:RN w (.slice p1 (aa n) c1) n.natAbs)(t1:RN w (.slice s1 (ag en) d1) en) :
 CR 28 #[.agg #[.bool (ah n),.slice p1 (aa n) c1,.slice s1 (ag en) d1]] w (.string sn):=by
 obtain ⟨C1,C2,R1,T1⟩:=aG h1 h2 r1 t1;clear h1 h2 r1 t1;go_enter func28,ntmps28
 go_upto_region 1 with fail
 refine ay w [(#[.bool (ah n),.slice p1 (aa n) c1,.slice s1 (ag en) d1],48)] rfl ?_;rintro W0 ⟨k1,hb⟩;have HB0:=hid (show Below w.heap.size w W0 from hb);obtain ⟨R1,T1,K1⟩:=ai (R1.out.below HB0.out) (T1.out.below HB0.out) k1;clear k1 hb;obtain ⟨dK10,dK11⟩:=aI K1.out rfl rfl;go_wp2_with fail
 with_reducible refine(C1.out _ _ _ R1.out).mono ?_
 rintro e W1 ⟨rfl,hb⟩;clear dK10 dK11;have K1:=hid (K1.out.below hb);have T1:=hid (T1.out.below hb);have HB1:=hbt HB0 hb;clear hb;have dK12:=K1.out.cell (i:=2) rfl;go_wp2_with fail
 with_reducible refine(C2.out _ _ _ T1.out).mono ?_
 rintro e W2 ⟨rfl,hb⟩;clear dK12;have HB2:=hbt HB1 hb;clear hb;go_wp2;exact bodyPost_ret (v:=.string sn) (by simp[results,results28,go_sem]) rfl ⟨rfl,HB2.out⟩
theorem z1L (n:Int)(en:Nat)(sn sd res:ByteArray)(hsd:(sd.toList==[49])=false)(hr:sn++(⟨#[47]⟩++sd)=res)(hl1:sn.size≤10000)(hl2:sd.size≤10000)(p1:Option Addr)(c1:Nat)(s1:Option Addr)(d1:Nat)(w:World)(h1:∀ p1 c1 W,RN W (.slice p1 (aa n) c1) n.natAbs→CR 55 #[.agg #[.bool (ah n),.slice p1 (aa n) c1]] W (.string sn))(h2:∀ s1 d1 W,RN W (.slice s1 (ag en) d1) en→CR 56 #[.slice s1 (ag en) d1] W (.string sd))(r1:RN w (.slice p1 (aa n) c1) n.natAbs)(t1:RN w (.slice s1 (ag en) d1) en) :
 CR 28 #[.agg #[.bool (ah n),.slice p1 (aa n) c1,.slice s1 (ag en) d1]] w (.string res):=by
 obtain ⟨C1,C2,R1,T1,HR,HL1,HL2⟩:=cB h1 h2 r1 t1 hr hl1 hl2;have k0:¬ sd.toList=[49]:=by simpa using hsd
 clear hr hl1 hl2 h1 h2 r1 t1;go_enter func28,ntmps28
 go_upto_region 1 with fail
 refine ay w [(#[.bool (ah n),.slice p1 (aa n) c1,.slice s1 (ag en) d1],48)] rfl ?_;rintro W0 ⟨k1,hb⟩;have HB0:=hid (show Below w.heap.size w W0 from hb);obtain ⟨R1,T1,K1⟩:=ai (R1.out.below HB0.out) (T1.out.below HB0.out) k1;clear k1 hb;obtain ⟨dK10,dK11⟩:=aI K1.out rfl rfl;go_wp2_with fail
 with_reducible refine(C1.out _ _ _ R1.out).mono ?_
 rintro e W1 ⟨rfl,hb⟩;clear dK10 dK11;have K1:=hid (K1.out.below hb);have T1:=hid (T1.out.below hb);have HB1:=hbt HB0 hb;clear hb;have dK12:=K1.out.cell (i:=2) rfl;go_wp2_with fail
 with_reducible refine(C2.out _ _ _ T1.out).mono ?_
 rintro e W2 ⟨rfl,hb⟩;clear dK12;have HB2:=hbt HB1 hb;clear hb;have ha1:=run_string_add_sum (P:=Tryz.prog) W2 ⟨#[47]⟩ sd (by have:=HL2.out;have e:(⟨#[47]⟩:ByteArray).size=1:=rfl;omega);have ha2:=run_string_add_sum (P:=Tryz.prog) W2 sn (⟨#[47]⟩++sd) (by have:=HL1.out;have:=HL2.out;have e:(⟨#[47]⟩:ByteArray).size=1:=rfl;rw[ByteArray.size_append];omega);rw[HR.out]at ha2;go_wp2;exact bodyPost_ret (v:=.string res) (by simp[results,results28,go_sem]) rfl ⟨rfl,HB2.out⟩
end Go.Proofs.YtodcdibanokjjaaGreatDoor
