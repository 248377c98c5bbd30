/- texts -/
import Derived.Test.YtbcnefnbkdbobaaGreatDoorQj
open Go.Proofs.Tryz
set_option maxRecDepth 100000
set_option maxHeartbeats 20000000
open Go.Lib (hid)
namespace Go.Proofs.YtbcnefnbkdbobaaGreatDoor
open Go.RowKit Go.Gb
theorem wS (a b:ByteArray)(w:World)(h1:Calls Tryz.prog 50 #[.string a,.string b] w (z2R false w)) :
 CR 33 #[.string a,.string b] w (.tuple #[.int .i64 0,.int .i64 1]):=by
 have C1:=hid h1;clear h1;go_enter func33,ntmps33
 go_wp2_with fail
 refine C1.o.mono ?_;rintro e w1 ⟨⟨x1,x2,y1,y2,rfl⟩,hb⟩;have HB:=hid ((hb.alloc hb.size (.cells #[.string x1,.string x2] 75)).alloc (by have:=hb.size;simp;omega) (.cells #[.string y1,.string y2] 75));clear hb;go_wp2;go_ret2
 exact⟨rfl,HB.o⟩
theorem wH (a b:ByteArray)(c n:Int)(w:World)(h1:CR 33 #[.string a,.string b] w (.tuple #[.int .i64 c,.int .i64 n])) :
 CR 30 #[.string a,.string b] w (.int .i64 c):=by
 have C1:=hid h1;clear h1;go_enter func30,ntmps30
 go_wp2_with fail
 refine C1.o.mono ?_;rintro e w1 ⟨rfl,hb⟩;go_wp2;go_ret
 exact⟨rfl,hb⟩
theorem nN (l h:ByteArray)(c:Int)(hc:c≤0)(w:World)(hl:La w)
 (h1:CL 33 #[.string l,.string h] (.tuple #[.int .i64 c,.int .i64 0])) :
 CR 11 #[.agg #[.string l,.string h]] w (.bool true):=by
 have C1:=hid h1;obtain⟨w0,hw0⟩:∃ w0:World,w0=(w.alloc (.cells #[.string l,.string h] 24)):=⟨_,rfl⟩;have hz0:w0.heap.size=w.heap.size+1:=by rw[hw0];simp
 have hB0:Below w.heap.size w w0:=by
  rw[hw0];repeat (first|exact Below.refl _ _|refine Below.setCell ?_ (by first|omega|(simp;omega)|simp) _|refine Below.alloc ?_ (by first|omega|(simp;omega)|simp) _|refine Below.drew ?_)
 have hS0:w0.cell? ⟨w.heap.size,0,none⟩=some (.string l)∧w0.cell? ⟨w.heap.size,1,none⟩=some (.string h):=by rw[hw0];exact⟨((ax).trans rfl),((ax).trans rfl)⟩
 have KS:=hid (show ∀ W:World,Below w0.heap.size w0 W→(W.cell? ⟨w.heap.size,0,none⟩=some (.string l)∧W.cell? ⟨w.heap.size,1,none⟩=some (.string h)) from fun W hB=>by
  obtain⟨c0,c1⟩:=hS0
  exact⟨(hB.cell (p:=⟨w.heap.size,0,none⟩) (by show w.heap.size<_;omega)).trans c0,(hB.cell (p:=⟨w.heap.size,1,none⟩) (by show w.heap.size<_;omega)).trans c1⟩)
 have KZ:=hid (show ∀ W:World,Below w0.heap.size w0 W→w.heap.size+1≤W.heap.size from fun W hB=>by have:=hB.size;omega);have KB:=hid (show ∀ W:World,Below w0.heap.size w0 W→Below w.heap.size w W from fun W hB=>hB0.trans (hB.mono (by omega)));have F0:=hid (Below.refl w0.heap.size w0);have HW0:=hid hw0;clear hz0 hB0 hS0 hw0;have HL:=hid (show ∀ W:World,Below w0.heap.size w0 W→La W from fun W hB=>hl.on (KB.o W hB));clear hl h1;go_enter func11,ntmps11
 go_wp2_with fail
 rw[← HW0.o];obtain⟨d0,d1⟩:=KS.o _ F0.o;go_wp2_with fail
 refine(C1.o _ (HL.o _ F0.o)).mono ?_;rintro e w1 ⟨rfl,hb⟩;have F1:=hid (ae F0.o hb);clear hb d0 d1;obtain⟨d0,d1⟩:=KS.o _ F1.o;go_wp2;go_ret
 exact⟨rfl,KB.o _ F1.o⟩
theorem pK (l h:ByteArray)(w:World)(hl:La w)
 (h1:CL 33 #[.string l,.string h] (.tuple #[.int .i64 1,.int .i64 0])) :
 CR 11 #[.agg #[.string l,.string h]] w (.bool false):=by
 have C1:=hid h1;obtain⟨w0,hw0⟩:∃ w0:World,w0=(w.alloc (.cells #[.string l,.string h] 24)):=⟨_,rfl⟩;have hz0:w0.heap.size=w.heap.size+1:=by rw[hw0];simp
 have hB0:Below w.heap.size w w0:=by
  rw[hw0];repeat (first|exact Below.refl _ _|refine Below.setCell ?_ (by first|omega|(simp;omega)|simp) _|refine Below.alloc ?_ (by first|omega|(simp;omega)|simp) _|refine Below.drew ?_)
 have hS0:w0.cell? ⟨w.heap.size,0,none⟩=some (.string l)∧w0.cell? ⟨w.heap.size,1,none⟩=some (.string h):=by rw[hw0];exact⟨((ax).trans rfl),((ax).trans rfl)⟩
 have KS:=hid (show ∀ W:World,Below w0.heap.size w0 W→(W.cell? ⟨w.heap.size,0,none⟩=some (.string l)∧W.cell? ⟨w.heap.size,1,none⟩=some (.string h)) from fun W hB=>by
  obtain⟨c0,c1⟩:=hS0
  exact⟨(hB.cell (p:=⟨w.heap.size,0,none⟩) (by show w.heap.size<_;omega)).trans c0,(hB.cell (p:=⟨w.heap.size,1,none⟩) (by show w.heap.size<_;omega)).trans c1⟩)
 have KZ:=hid (show ∀ W:World,Below w0.heap.size w0 W→w.heap.size+1≤W.heap.size from fun W hB=>by have:=hB.size;omega);have KB:=hid (show ∀ W:World,Below w0.heap.size w0 W→Below w.heap.size w W from fun W hB=>hB0.trans (hB.mono (by omega)));have F0:=hid (Below.refl w0.heap.size w0);have HW0:=hid hw0;clear hz0 hB0 hS0 hw0;have HL:=hid (show ∀ W:World,Below w0.heap.size w0 W→La W from fun W hB=>hl.on (KB.o W hB));clear hl h1;go_enter func11,ntmps11
 go_wp2_with fail
 rw[← HW0.o];obtain⟨d0,d1⟩:=KS.o _ F0.o;go_wp2_with fail
 refine(C1.o _ (HL.o _ F0.o)).mono ?_;rintro e w1 ⟨rfl,hb⟩;have F1:=hid (ae F0.o hb);clear hb d0 d1;obtain⟨d0,d1⟩:=KS.o _ F1.o;go_wp2;go_ret
 exact⟨rfl,KB.o _ F1.o⟩
theorem pJ (l h:ByteArray)(w:World)(hl:La w)
 (h1:CL 33 #[.string l,.string h] (.tuple #[.int .i64 0,.int .i64 1])) :
 CR 11 #[.agg #[.string l,.string h]] w (.bool false):=by
 have C1:=hid h1;obtain⟨w0,hw0⟩:∃ w0:World,w0=(w.alloc (.cells #[.string l,.string h] 24)):=⟨_,rfl⟩;have hz0:w0.heap.size=w.heap.size+1:=by rw[hw0];simp
 have hB0:Below w.heap.size w w0:=by
  rw[hw0];repeat (first|exact Below.refl _ _|refine Below.setCell ?_ (by first|omega|(simp;omega)|simp) _|refine Below.alloc ?_ (by first|omega|(simp;omega)|simp) _|refine Below.drew ?_)
 have hS0:w0.cell? ⟨w.heap.size,0,none⟩=some (.string l)∧w0.cell? ⟨w.heap.size,1,none⟩=some (.string h):=by rw[hw0];exact⟨((ax).trans rfl),((ax).trans rfl)⟩
 have KS:=hid (show ∀ W:World,Below w0.heap.size w0 W→(W.cell? ⟨w.heap.size,0,none⟩=some (.string l)∧W.cell? ⟨w.heap.size,1,none⟩=some (.string h)) from fun W hB=>by
  obtain⟨c0,c1⟩:=hS0
  exact⟨(hB.cell (p:=⟨w.heap.size,0,none⟩) (by show w.heap.size<_;omega)).trans c0,(hB.cell (p:=⟨w.heap.size,1,none⟩) (by show w.heap.size<_;omega)).trans c1⟩)
 have KZ:=hid (show ∀ W:World,Below w0.heap.size w0 W→w.heap.size+1≤W.heap.size from fun W hB=>by have:=hB.size;omega);have KB:=hid (show ∀ W:World,Below w0.heap.size w0 W→Below w.heap.size w W from fun W hB=>hB0.trans (hB.mono (by omega)));have F0:=hid (Below.refl w0.heap.size w0);have HW0:=hid hw0;clear hz0 hB0 hS0 hw0;have HL:=hid (show ∀ W:World,Below w0.heap.size w0 W→La W from fun W hB=>hl.on (KB.o W hB));clear hl h1;go_enter func11,ntmps11
 go_wp2_with fail
 rw[← HW0.o];obtain⟨d0,d1⟩:=KS.o _ F0.o;go_wp2_with fail
 refine(C1.o _ (HL.o _ F0.o)).mono ?_;rintro e w1 ⟨rfl,hb⟩;have F1:=hid (ae F0.o hb);clear hb d0 d1;obtain⟨d0,d1⟩:=KS.o _ F1.o;go_wp2;go_ret
 exact⟨rfl,KB.o _ F1.o⟩
theorem qZ (l h x:ByteArray)(c d:Int)(hc:c≤0)(hd:d≤0)(w:World)(hl:La w)
 (h1:CL 30 #[.string l,.string x] (.int .i64 c))
 (h2:CL 30 #[.string x,.string h] (.int .i64 d)) :
 CR 34 #[.agg #[.string l,.string h],.string x] w (.bool true):=by
 have C1:=hid h1;have C2:=hid h2;obtain⟨w0,hw0⟩:∃ w0:World,w0=(w.alloc (.cells #[.string l,.string h] 24)):=⟨_,rfl⟩;have hz0:w0.heap.size=w.heap.size+1:=by rw[hw0];simp
 have hB0:Below w.heap.size w w0:=by
  rw[hw0];repeat (first|exact Below.refl _ _|refine Below.setCell ?_ (by first|omega|(simp;omega)|simp) _|refine Below.alloc ?_ (by first|omega|(simp;omega)|simp) _|refine Below.drew ?_)
 have hS0:w0.cell? ⟨w.heap.size,0,none⟩=some (.string l)∧w0.cell? ⟨w.heap.size,1,none⟩=some (.string h):=by rw[hw0];exact⟨((ax).trans rfl),((ax).trans rfl)⟩
 have KS:=hid (show ∀ W:World,Below w0.heap.size w0 W→(W.cell? ⟨w.heap.size,0,none⟩=some (.string l)∧W.cell? ⟨w.heap.size,1,none⟩=some (.string h)) from fun W hB=>by
  obtain⟨c0,c1⟩:=hS0
  exact⟨(hB.cell (p:=⟨w.heap.size,0,none⟩) (by show w.heap.size<_;omega)).trans c0,(hB.cell (p:=⟨w.heap.size,1,none⟩) (by show w.heap.size<_;omega)).trans c1⟩)
 have KZ:=hid (show ∀ W:World,Below w0.heap.size w0 W→w.heap.size+1≤W.heap.size from fun W hB=>by have:=hB.size;omega);have KB:=hid (show ∀ W:World,Below w0.heap.size w0 W→Below w.heap.size w W from fun W hB=>hB0.trans (hB.mono (by omega)));have F0:=hid (Below.refl w0.heap.size w0);have HW0:=hid hw0;clear hz0 hB0 hS0 hw0;have HL:=hid (show ∀ W:World,Below w0.heap.size w0 W→La W from fun W hB=>hl.on (KB.o W hB));clear hl h1 h2;go_enter func34,ntmps34
 go_wp2_with fail
 rw[← HW0.o];obtain⟨d0,d1⟩:=KS.o _ F0.o;go_wp2_with fail
 refine(C1.o _ (HL.o _ F0.o)).mono ?_;rintro e w1 ⟨rfl,hb⟩;have F1:=hid (ae F0.o hb);clear hb d0 d1;obtain⟨d0,d1⟩:=KS.o _ F1.o;go_wp2_with fail
 refine(C2.o _ (HL.o _ F1.o)).mono ?_;rintro e w2 ⟨rfl,hb⟩;have F2:=hid (ae F1.o hb);clear hb d0 d1;obtain⟨d0,d1⟩:=KS.o _ F2.o;go_wp2;go_ret
 exact⟨rfl,KB.o _ F2.o⟩
theorem rq (l h x:ByteArray)(w:World)(hl:La w)
 (h1:CL 30 #[.string l,.string x] (.int .i64 1)) :
 CR 34 #[.agg #[.string l,.string h],.string x] w (.bool false):=by
 have C1:=hid h1;obtain⟨w0,hw0⟩:∃ w0:World,w0=(w.alloc (.cells #[.string l,.string h] 24)):=⟨_,rfl⟩;have hz0:w0.heap.size=w.heap.size+1:=by rw[hw0];simp
 have hB0:Below w.heap.size w w0:=by
  rw[hw0];repeat (first|exact Below.refl _ _|refine Below.setCell ?_ (by first|omega|(simp;omega)|simp) _|refine Below.alloc ?_ (by first|omega|(simp;omega)|simp) _|refine Below.drew ?_)
 have hS0:w0.cell? ⟨w.heap.size,0,none⟩=some (.string l)∧w0.cell? ⟨w.heap.size,1,none⟩=some (.string h):=by rw[hw0];exact⟨((ax).trans rfl),((ax).trans rfl)⟩
 have KS:=hid (show ∀ W:World,Below w0.heap.size w0 W→(W.cell? ⟨w.heap.size,0,none⟩=some (.string l)∧W.cell? ⟨w.heap.size,1,none⟩=some (.string h)) from fun W hB=>by
  obtain⟨c0,c1⟩:=hS0
  exact⟨(hB.cell (p:=⟨w.heap.size,0,none⟩) (by show w.heap.size<_;omega)).trans c0,(hB.cell (p:=⟨w.heap.size,1,none⟩) (by show w.heap.size<_;omega)).trans c1⟩)
 have KZ:=hid (show ∀ W:World,Below w0.heap.size w0 W→w.heap.size+1≤W.heap.size from fun W hB=>by have:=hB.size;omega);have KB:=hid (show ∀ W:World,Below w0.heap.size w0 W→Below w.heap.size w W from fun W hB=>hB0.trans (hB.mono (by omega)));have F0:=hid (Below.refl w0.heap.size w0);have HW0:=hid hw0;clear hz0 hB0 hS0 hw0;have HL:=hid (show ∀ W:World,Below w0.heap.size w0 W→La W from fun W hB=>hl.on (KB.o W hB));clear hl h1;go_enter func34,ntmps34
 go_wp2_with fail
 rw[← HW0.o];obtain⟨d0,d1⟩:=KS.o _ F0.o;go_wp2_with fail
 refine(C1.o _ (HL.o _ F0.o)).mono ?_;rintro e w1 ⟨rfl,hb⟩;have F1:=hid (ae F0.o hb);clear hb d0 d1;obtain⟨d0,d1⟩:=KS.o _ F1.o;go_wp2;go_ret
 exact⟨rfl,KB.o _ F1.o⟩
theorem rf (l h x:ByteArray)(c:Int)(hc:c≤0)(w:World)(hl:La w)
 (h1:CL 30 #[.string l,.string x] (.int .i64 c))
 (h2:CL 30 #[.string x,.string h] (.int .i64 1)) :
 CR 34 #[.agg #[.string l,.string h],.string x] w (.bool false):=by
 have C1:=hid h1;have C2:=hid h2;obtain⟨w0,hw0⟩:∃ w0:World,w0=(w.alloc (.cells #[.string l,.string h] 24)):=⟨_,rfl⟩;have hz0:w0.heap.size=w.heap.size+1:=by rw[hw0];simp
 have hB0:Below w.heap.size w w0:=by
  rw[hw0];repeat (first|exact Below.refl _ _|refine Below.setCell ?_ (by first|omega|(simp;omega)|simp) _|refine Below.alloc ?_ (by first|omega|(simp;omega)|simp) _|refine Below.drew ?_)
 have hS0:w0.cell? ⟨w.heap.size,0,none⟩=some (.string l)∧w0.cell? ⟨w.heap.size,1,none⟩=some (.string h):=by rw[hw0];exact⟨((ax).trans rfl),((ax).trans rfl)⟩
 have KS:=hid (show ∀ W:World,Below w0.heap.size w0 W→(W.cell? ⟨w.heap.size,0,none⟩=some (.string l)∧W.cell? ⟨w.heap.size,1,none⟩=some (.string h)) from fun W hB=>by
  obtain⟨c0,c1⟩:=hS0
  exact⟨(hB.cell (p:=⟨w.heap.size,0,none⟩) (by show w.heap.size<_;omega)).trans c0,(hB.cell (p:=⟨w.heap.size,1,none⟩) (by show w.heap.size<_;omega)).trans c1⟩)
 have KZ:=hid (show ∀ W:World,Below w0.heap.size w0 W→w.heap.size+1≤W.heap.size from fun W hB=>by have:=hB.size;omega);have KB:=hid (show ∀ W:World,Below w0.heap.size w0 W→Below w.heap.size w W from fun W hB=>hB0.trans (hB.mono (by omega)));have F0:=hid (Below.refl w0.heap.size w0);have HW0:=hid hw0;clear hz0 hB0 hS0 hw0;have HL:=hid (show ∀ W:World,Below w0.heap.size w0 W→La W from fun W hB=>hl.on (KB.o W hB));clear hl h1 h2;go_enter func34,ntmps34
 go_wp2_with fail
 rw[← HW0.o];obtain⟨d0,d1⟩:=KS.o _ F0.o;go_wp2_with fail
 refine(C1.o _ (HL.o _ F0.o)).mono ?_;rintro e w1 ⟨rfl,hb⟩;have F1:=hid (ae F0.o hb);clear hb d0 d1;obtain⟨d0,d1⟩:=KS.o _ F1.o;go_wp2_with fail
 refine(C2.o _ (HL.o _ F1.o)).mono ?_;rintro e w2 ⟨rfl,hb⟩;have F2:=hid (ae F1.o hb);clear hb d0 d1;obtain⟨d0,d1⟩:=KS.o _ F2.o;go_wp2;go_ret
 exact⟨rfl,KB.o _ F2.o⟩
theorem z0A (l h x:ByteArray)(r:Bool)(w:World)(hl:La w)
 (h1:CL 11 #[.agg #[.string l,.string h]] (.bool true))
 (h2:CL 28 #[.string x] (.bool true))
 (h3:CL 34 #[.agg #[.string l,.string h],.string x] (.bool r)) :
 CR 13 #[.agg #[.string l,.string h],.string x] w (.bool r):=by
 obtain ⟨C1,C2,C3⟩:=av h1 h2 h3;obtain⟨w0,hw0⟩:∃ w0:World,w0=(w.alloc (.cells #[.string l,.string h] 24)):=⟨_,rfl⟩;have hz0:w0.heap.size=w.heap.size+1:=by rw[hw0];simp
 have hB0:Below w.heap.size w w0:=by
  rw[hw0];repeat (first|exact Below.refl _ _|refine Below.setCell ?_ (by first|omega|(simp;omega)|simp) _|refine Below.alloc ?_ (by first|omega|(simp;omega)|simp) _|refine Below.drew ?_)
 have hS0:w0.cell? ⟨w.heap.size,0,none⟩=some (.string l)∧w0.cell? ⟨w.heap.size,1,none⟩=some (.string h):=by rw[hw0];exact⟨((ax).trans rfl),((ax).trans rfl)⟩
 have KS:=hid (show ∀ W:World,Below w0.heap.size w0 W→(W.cell? ⟨w.heap.size,0,none⟩=some (.string l)∧W.cell? ⟨w.heap.size,1,none⟩=some (.string h)) from fun W hB=>by
  obtain⟨c0,c1⟩:=hS0
  exact⟨(hB.cell (p:=⟨w.heap.size,0,none⟩) (by show w.heap.size<_;omega)).trans c0,(hB.cell (p:=⟨w.heap.size,1,none⟩) (by show w.heap.size<_;omega)).trans c1⟩)
 have KZ:=hid (show ∀ W:World,Below w0.heap.size w0 W→w.heap.size+1≤W.heap.size from fun W hB=>by have:=hB.size;omega);have KB:=hid (show ∀ W:World,Below w0.heap.size w0 W→Below w.heap.size w W from fun W hB=>hB0.trans (hB.mono (by omega)));have F0:=hid (Below.refl w0.heap.size w0);have HW0:=hid hw0;clear hz0 hB0 hS0 hw0;have HL:=hid (show ∀ W:World,Below w0.heap.size w0 W→La W from fun W hB=>hl.on (KB.o W hB));clear hl h1 h2 h3;go_enter func13,ntmps13
 go_wp2_with fail
 rw[← HW0.o];obtain⟨d0,d1⟩:=KS.o _ F0.o;go_wp2_with fail
 refine(C1.o _ (HL.o _ F0.o)).mono ?_;rintro e w1 ⟨rfl,hb⟩;have F1:=hid (ae F0.o hb);clear hb d0 d1;obtain⟨d0,d1⟩:=KS.o _ F1.o;go_wp2_with fail
 refine(C2.o _ (HL.o _ F1.o)).mono ?_;rintro e w2 ⟨rfl,hb⟩;have F2:=hid (ae F1.o hb);clear hb d0 d1;obtain⟨d0,d1⟩:=KS.o _ F2.o;go_wp2_with fail
 refine(C3.o _ (HL.o _ F2.o)).mono ?_;rintro e w3 ⟨rfl,hb⟩;have F3:=hid (ae F2.o hb);clear hb d0 d1;obtain⟨d0,d1⟩:=KS.o _ F3.o;go_wp2;go_ret
 exact⟨rfl,KB.o _ F3.o⟩
theorem ry (l h x:ByteArray)(w:World)(hl:La w)
 (h1:CL 11 #[.agg #[.string l,.string h]] (.bool false)) :
 CR 13 #[.agg #[.string l,.string h],.string x] w (.bool false):=by
 have C1:=hid h1;obtain⟨w0,hw0⟩:∃ w0:World,w0=(w.alloc (.cells #[.string l,.string h] 24)):=⟨_,rfl⟩;have hz0:w0.heap.size=w.heap.size+1:=by rw[hw0];simp
 have hB0:Below w.heap.size w w0:=by
  rw[hw0];repeat (first|exact Below.refl _ _|refine Below.setCell ?_ (by first|omega|(simp;omega)|simp) _|refine Below.alloc ?_ (by first|omega|(simp;omega)|simp) _|refine Below.drew ?_)
 have hS0:w0.cell? ⟨w.heap.size,0,none⟩=some (.string l)∧w0.cell? ⟨w.heap.size,1,none⟩=some (.string h):=by rw[hw0];exact⟨((ax).trans rfl),((ax).trans rfl)⟩
 have KS:=hid (show ∀ W:World,Below w0.heap.size w0 W→(W.cell? ⟨w.heap.size,0,none⟩=some (.string l)∧W.cell? ⟨w.heap.size,1,none⟩=some (.string h)) from fun W hB=>by
  obtain⟨c0,c1⟩:=hS0
  exact⟨(hB.cell (p:=⟨w.heap.size,0,none⟩) (by show w.heap.size<_;omega)).trans c0,(hB.cell (p:=⟨w.heap.size,1,none⟩) (by show w.heap.size<_;omega)).trans c1⟩)
 have KZ:=hid (show ∀ W:World,Below w0.heap.size w0 W→w.heap.size+1≤W.heap.size from fun W hB=>by have:=hB.size;omega);have KB:=hid (show ∀ W:World,Below w0.heap.size w0 W→Below w.heap.size w W from fun W hB=>hB0.trans (hB.mono (by omega)));have F0:=hid (Below.refl w0.heap.size w0);have HW0:=hid hw0;clear hz0 hB0 hS0 hw0;have HL:=hid (show ∀ W:World,Below w0.heap.size w0 W→La W from fun W hB=>hl.on (KB.o W hB));clear hl h1;go_enter func13,ntmps13
 go_wp2_with fail
 rw[← HW0.o];obtain⟨d0,d1⟩:=KS.o _ F0.o;go_wp2_with fail
 refine(C1.o _ (HL.o _ F0.o)).mono ?_;rintro e w1 ⟨rfl,hb⟩;have F1:=hid (ae F0.o hb);clear hb d0 d1;obtain⟨d0,d1⟩:=KS.o _ F1.o;go_wp2;go_ret
 exact⟨rfl,KB.o _ F1.o⟩
theorem ru (l h x:ByteArray)(w:World)(hl:La w)
 (h1:CL 11 #[.agg #[.string l,.string h]] (.bool true))
 (h2:CL 28 #[.string x] (.bool false)) :
 CR 13 #[.agg #[.string l,.string h],.string x] w (.bool false):=by
 have C1:=hid h1;have C2:=hid h2;obtain⟨w0,hw0⟩:∃ w0:World,w0=(w.alloc (.cells #[.string l,.string h] 24)):=⟨_,rfl⟩;have hz0:w0.heap.size=w.heap.size+1:=by rw[hw0];simp
 have hB0:Below w.heap.size w w0:=by
  rw[hw0];repeat (first|exact Below.refl _ _|refine Below.setCell ?_ (by first|omega|(simp;omega)|simp) _|refine Below.alloc ?_ (by first|omega|(simp;omega)|simp) _|refine Below.drew ?_)
 have hS0:w0.cell? ⟨w.heap.size,0,none⟩=some (.string l)∧w0.cell? ⟨w.heap.size,1,none⟩=some (.string h):=by rw[hw0];exact⟨((ax).trans rfl),((ax).trans rfl)⟩
 have KS:=hid (show ∀ W:World,Below w0.heap.size w0 W→(W.cell? ⟨w.heap.size,0,none⟩=some (.string l)∧W.cell? ⟨w.heap.size,1,none⟩=some (.string h)) from fun W hB=>by
  obtain⟨c0,c1⟩:=hS0
  exact⟨(hB.cell (p:=⟨w.heap.size,0,none⟩) (by show w.heap.size<_;omega)).trans c0,(hB.cell (p:=⟨w.heap.size,1,none⟩) (by show w.heap.size<_;omega)).trans c1⟩)
 have KZ:=hid (show ∀ W:World,Below w0.heap.size w0 W→w.heap.size+1≤W.heap.size from fun W hB=>by have:=hB.size;omega);have KB:=hid (show ∀ W:World,Below w0.heap.size w0 W→Below w.heap.size w W from fun W hB=>hB0.trans (hB.mono (by omega)));have F0:=hid (Below.refl w0.heap.size w0);have HW0:=hid hw0;clear hz0 hB0 hS0 hw0;have HL:=hid (show ∀ W:World,Below w0.heap.size w0 W→La W from fun W hB=>hl.on (KB.o W hB));clear hl h1 h2;go_enter func13,ntmps13
 go_wp2_with fail
 rw[← HW0.o];obtain⟨d0,d1⟩:=KS.o _ F0.o;go_wp2_with fail
 refine(C1.o _ (HL.o _ F0.o)).mono ?_;rintro e w1 ⟨rfl,hb⟩;have F1:=hid (ae F0.o hb);clear hb d0 d1;obtain⟨d0,d1⟩:=KS.o _ F1.o;go_wp2_with fail
 refine(C2.o _ (HL.o _ F1.o)).mono ?_;rintro e w2 ⟨rfl,hb⟩;have F2:=hid (ae F1.o hb);clear hb d0 d1;obtain⟨d0,d1⟩:=KS.o _ F2.o;go_wp2;go_ret
 exact⟨rfl,KB.o _ F2.o⟩
theorem fe (l h:ByteArray)(c:Int)(w:World)(hl:La w)
 (h1:CL 11 #[.agg #[.string l,.string h]] (.bool true))
 (h2:CL 30 #[.string l,.string ⟨#[48]⟩] (.int .i64 c))
 (h3:CL 30 #[.string h,.string ⟨#[48]⟩] (.int .i64 c)) :
 CR 9 #[.agg #[.string l,.string h]] w (.tuple #[.int .i64 c,.bool true,.int .i64 0]):=by
 obtain ⟨C1,C2,C3⟩:=av h1 h2 h3;obtain⟨w0,hw0⟩:∃ w0:World,w0=(w.alloc (.cells #[.string l,.string h] 24)):=⟨_,rfl⟩;have hz0:w0.heap.size=w.heap.size+1:=by rw[hw0];simp
 have hB0:Below w.heap.size w w0:=by
  rw[hw0];repeat (first|exact Below.refl _ _|refine Below.setCell ?_ (by first|omega|(simp;omega)|simp) _|refine Below.alloc ?_ (by first|omega|(simp;omega)|simp) _|refine Below.drew ?_)
 have hS0:w0.cell? ⟨w.heap.size,0,none⟩=some (.string l)∧w0.cell? ⟨w.heap.size,1,none⟩=some (.string h):=by rw[hw0];exact⟨((ax).trans rfl),((ax).trans rfl)⟩
 have KS:=hid (show ∀ W:World,Below w0.heap.size w0 W→(W.cell? ⟨w.heap.size,0,none⟩=some (.string l)∧W.cell? ⟨w.heap.size,1,none⟩=some (.string h)) from fun W hB=>by
  obtain⟨c0,c1⟩:=hS0
  exact⟨(hB.cell (p:=⟨w.heap.size,0,none⟩) (by show w.heap.size<_;omega)).trans c0,(hB.cell (p:=⟨w.heap.size,1,none⟩) (by show w.heap.size<_;omega)).trans c1⟩)
 have KZ:=hid (show ∀ W:World,Below w0.heap.size w0 W→w.heap.size+1≤W.heap.size from fun W hB=>by have:=hB.size;omega);have KB:=hid (show ∀ W:World,Below w0.heap.size w0 W→Below w.heap.size w W from fun W hB=>hB0.trans (hB.mono (by omega)));have F0:=hid (Below.refl w0.heap.size w0);have HW0:=hid hw0;clear hz0 hB0 hS0 hw0;have HL:=hid (show ∀ W:World,Below w0.heap.size w0 W→La W from fun W hB=>hl.on (KB.o W hB));clear hl h1 h2 h3;go_enter func9,ntmps9
 go_wp2_with fail
 rw[← HW0.o];obtain⟨d0,d1⟩:=KS.o _ F0.o;go_wp2_with fail
 refine(C1.o _ (HL.o _ F0.o)).mono ?_;rintro e w1 ⟨rfl,hb⟩;have F1:=hid (ae F0.o hb);clear hb d0 d1;obtain⟨d0,d1⟩:=KS.o _ F1.o;go_wp2_with fail
 go_region_held3 (fun w'=>w'.cell? ⟨w.heap.size,0,none⟩=some (.string l)∧w'.cell? ⟨w.heap.size,1,none⟩=some (.string h)) (first|(with_reducible exact KS.o _ F3.o)|(with_reducible exact KS.o _ F3.o.drew)|(with_reducible exact KS.o _ F2.o)|(with_reducible exact KS.o _ F2.o.drew)|(with_reducible exact KS.o _ F1.o)|(with_reducible exact KS.o _ F1.o.drew))
  (first
   | (go_at_call 30;(with_reducible refine(C2.o _ ?la1).mono ?_);(case la1=>first|exact HL.o _ F1.o|exact HL.o _ F1.o.drew);rintro e w2 ⟨rfl,hb⟩;have F2:=hid (show Below w0.heap.size w0 w2 by first|exact ae F1.o hb|exact ae F1.o.drew hb);clear hb)
   | (go_at_call 30;(with_reducible refine(C3.o _ ?la2).mono ?_);(case la2=>first|exact HL.o _ F2.o|exact HL.o _ F2.o.drew);rintro e w3 ⟨rfl,hb⟩;have F3:=hid (show Below w0.heap.size w0 w3 by first|exact ae F2.o hb|exact ae F2.o.drew hb);clear hb)
   | fail)
 all_goals
  go_wp2;refine bodyPost_ret (v:=.tuple #[.int .i64 c,.bool true,.int .i64 0]) (by simp[results,results9,go_sem]) rfl ⟨rfl,KB.o _ (by first|exact F3.o|exact F3.o.drew)⟩
theorem iL (l h:ByteArray)(c d:Int)(hne:c≠d)(w:World)(hl:La w)
 (h1:CL 11 #[.agg #[.string l,.string h]] (.bool true))
 (h2:CL 30 #[.string l,.string ⟨#[48]⟩] (.int .i64 c))
 (h3:CL 30 #[.string h,.string ⟨#[48]⟩] (.int .i64 d)) :
 CR 9 #[.agg #[.string l,.string h]] w (.tuple #[.int .i64 0,.bool false,.int .i64 0]):=by
 have hcd:(c==d)=false:=by rw[beq_eq_false_iff_ne];exact hne
 clear hne;obtain ⟨C1,C2,C3⟩:=av h1 h2 h3;obtain⟨w0,hw0⟩:∃ w0:World,w0=(w.alloc (.cells #[.string l,.string h] 24)):=⟨_,rfl⟩;have hz0:w0.heap.size=w.heap.size+1:=by rw[hw0];simp
 have hB0:Below w.heap.size w w0:=by
  rw[hw0];repeat (first|exact Below.refl _ _|refine Below.setCell ?_ (by first|omega|(simp;omega)|simp) _|refine Below.alloc ?_ (by first|omega|(simp;omega)|simp) _|refine Below.drew ?_)
 have hS0:w0.cell? ⟨w.heap.size,0,none⟩=some (.string l)∧w0.cell? ⟨w.heap.size,1,none⟩=some (.string h):=by rw[hw0];exact⟨((ax).trans rfl),((ax).trans rfl)⟩
 have KS:=hid (show ∀ W:World,Below w0.heap.size w0 W→(W.cell? ⟨w.heap.size,0,none⟩=some (.string l)∧W.cell? ⟨w.heap.size,1,none⟩=some (.string h)) from fun W hB=>by
  obtain⟨c0,c1⟩:=hS0
  exact⟨(hB.cell (p:=⟨w.heap.size,0,none⟩) (by show w.heap.size<_;omega)).trans c0,(hB.cell (p:=⟨w.heap.size,1,none⟩) (by show w.heap.size<_;omega)).trans c1⟩)
 have KZ:=hid (show ∀ W:World,Below w0.heap.size w0 W→w.heap.size+1≤W.heap.size from fun W hB=>by have:=hB.size;omega);have KB:=hid (show ∀ W:World,Below w0.heap.size w0 W→Below w.heap.size w W from fun W hB=>hB0.trans (hB.mono (by omega)));have F0:=hid (Below.refl w0.heap.size w0);have HW0:=hid hw0;clear hz0 hB0 hS0 hw0;have HL:=hid (show ∀ W:World,Below w0.heap.size w0 W→La W from fun W hB=>hl.on (KB.o W hB));clear hl h1 h2 h3;go_enter func9,ntmps9
 go_wp2_with fail
 rw[← HW0.o];obtain⟨d0,d1⟩:=KS.o _ F0.o;go_wp2_with fail
 refine(C1.o _ (HL.o _ F0.o)).mono ?_;rintro e w1 ⟨rfl,hb⟩;have F1:=hid (ae F0.o hb);clear hb d0 d1;obtain⟨d0,d1⟩:=KS.o _ F1.o;go_wp2_with fail
 go_region_held3 (fun w'=>w'.cell? ⟨w.heap.size,0,none⟩=some (.string l)∧w'.cell? ⟨w.heap.size,1,none⟩=some (.string h)) (first|(with_reducible exact KS.o _ F3.o)|(with_reducible exact KS.o _ F3.o.drew)|(with_reducible exact KS.o _ F2.o)|(with_reducible exact KS.o _ F2.o.drew)|(with_reducible exact KS.o _ F1.o)|(with_reducible exact KS.o _ F1.o.drew))
  (first
   | (go_at_call 30;(with_reducible refine(C2.o _ ?la1).mono ?_);(case la1=>first|exact HL.o _ F1.o|exact HL.o _ F1.o.drew);rintro e w2 ⟨rfl,hb⟩;have F2:=hid (show Below w0.heap.size w0 w2 by first|exact ae F1.o hb|exact ae F1.o.drew hb);clear hb)
   | (go_at_call 30;(with_reducible refine(C3.o _ ?la2).mono ?_);(case la2=>first|exact HL.o _ F2.o|exact HL.o _ F2.o.drew);rintro e w3 ⟨rfl,hb⟩;have F3:=hid (show Below w0.heap.size w0 w3 by first|exact ae F2.o hb|exact ae F2.o.drew hb);clear hb)
   | fail)
 all_goals
  go_wp2;refine bodyPost_ret (v:=.tuple #[.int .i64 0,.bool false,.int .i64 0]) (by simp[results,results9,go_sem]) rfl ⟨rfl,KB.o _ (by first|exact F3.o|exact F3.o.drew)⟩
theorem qY (l h:ByteArray)(w:World)(hl:La w)
 (h1:CL 11 #[.agg #[.string l,.string h]] (.bool false)) :
 CR 9 #[.agg #[.string l,.string h]] w (.tuple #[.int .i64 0,.bool false,.int .i64 1]):=by
 have C1:=hid h1;obtain⟨w0,hw0⟩:∃ w0:World,w0=(w.alloc (.cells #[.string l,.string h] 24)):=⟨_,rfl⟩;have hz0:w0.heap.size=w.heap.size+1:=by rw[hw0];simp
 have hB0:Below w.heap.size w w0:=by
  rw[hw0];repeat (first|exact Below.refl _ _|refine Below.setCell ?_ (by first|omega|(simp;omega)|simp) _|refine Below.alloc ?_ (by first|omega|(simp;omega)|simp) _|refine Below.drew ?_)
 have hS0:w0.cell? ⟨w.heap.size,0,none⟩=some (.string l)∧w0.cell? ⟨w.heap.size,1,none⟩=some (.string h):=by rw[hw0];exact⟨((ax).trans rfl),((ax).trans rfl)⟩
 have KS:=hid (show ∀ W:World,Below w0.heap.size w0 W→(W.cell? ⟨w.heap.size,0,none⟩=some (.string l)∧W.cell? ⟨w.heap.size,1,none⟩=some (.string h)) from fun W hB=>by
  obtain⟨c0,c1⟩:=hS0
  exact⟨(hB.cell (p:=⟨w.heap.size,0,none⟩) (by show w.heap.size<_;omega)).trans c0,(hB.cell (p:=⟨w.heap.size,1,none⟩) (by show w.heap.size<_;omega)).trans c1⟩)
 have KZ:=hid (show ∀ W:World,Below w0.heap.size w0 W→w.heap.size+1≤W.heap.size from fun W hB=>by have:=hB.size;omega);have KB:=hid (show ∀ W:World,Below w0.heap.size w0 W→Below w.heap.size w W from fun W hB=>hB0.trans (hB.mono (by omega)));have F0:=hid (Below.refl w0.heap.size w0);have HW0:=hid hw0;clear hz0 hB0 hS0 hw0;have HL:=hid (show ∀ W:World,Below w0.heap.size w0 W→La W from fun W hB=>hl.on (KB.o W hB));clear hl h1;go_enter func9,ntmps9
 go_wp2_with fail
 rw[← HW0.o];obtain⟨d0,d1⟩:=KS.o _ F0.o;go_wp2_with fail
 refine(C1.o _ (HL.o _ F0.o)).mono ?_;rintro e w1 ⟨rfl,hb⟩;have F1:=hid (ae F0.o hb);clear hb d0 d1;obtain⟨d0,d1⟩:=KS.o _ F1.o;go_wp2;refine bodyPost_ret (v:=.tuple #[.int .i64 0,.bool false,.int .i64 1]) (by simp[results,results9,go_sem]) rfl ⟨rfl,KB.o _ F1.o⟩
theorem z0C (l1 h1 l2 h2 r s:ByteArray)(w:World)(hl:La w)
 (g1:CL 11 #[.agg #[.string l1,.string h1]] (.bool true))
 (g2:CL 11 #[.agg #[.string l2,.string h2]] (.bool true))
 (g3:CL 44 #[.string l1,.string l2] (.tuple #[.string r,.int .i64 0]))
 (g4:CL 44 #[.string h1,.string h2] (.tuple #[.string s,.int .i64 0])) :
 CR 20 #[.agg #[.string l1,.string h1],.agg #[.string l2,.string h2]] w (.tuple #[.agg #[.string r,.string s],.int .i64 0]):=by
 obtain ⟨C1,C2,C3,C4⟩:=aP g1 g2 g3 g4;obtain⟨w0,hw0⟩:∃ w0:World,w0=(((w.alloc (.cells #[.string l1,.string h1] 24)).alloc (.cells #[.string l2,.string h2] 24)).alloc (.cells #[.string ⟨#[]⟩,.string ⟨#[]⟩] 24)):=⟨_,rfl⟩;have hz0:w0.heap.size=w.heap.size+3:=by rw[hw0];simp
 have hB0:Below w.heap.size w w0:=by
  rw[hw0];repeat (first|exact Below.refl _ _|refine Below.setCell ?_ (by first|omega|(simp;omega)|simp) _|refine Below.alloc ?_ (by first|omega|(simp;omega)|simp) _|refine Below.drew ?_)
 have hS0:w0.cell? ⟨w.heap.size,0,none⟩=some (.string l1)∧w0.cell? ⟨w.heap.size,1,none⟩=some (.string h1)∧w0.cell? ⟨w.heap.size+1,0,none⟩=some (.string l2)∧w0.cell? ⟨w.heap.size+1,1,none⟩=some (.string h2):=by rw[hw0];exact⟨((q_lt).trans ((q_lt).trans ((ax).trans rfl))),((q_lt).trans ((q_lt).trans ((ax).trans rfl))),((q_lt).trans ((ax).trans rfl)),((q_lt).trans ((ax).trans rfl))⟩
 have KS:=hid (show ∀ W:World,Below w0.heap.size w0 W→(W.cell? ⟨w.heap.size,0,none⟩=some (.string l1)∧W.cell? ⟨w.heap.size,1,none⟩=some (.string h1)∧W.cell? ⟨w.heap.size+1,0,none⟩=some (.string l2)∧W.cell? ⟨w.heap.size+1,1,none⟩=some (.string h2)) from fun W hB=>by
  obtain⟨c0,c1,c2,c3⟩:=hS0
  exact⟨(hB.cell (p:=⟨w.heap.size,0,none⟩) (by show w.heap.size<_;omega)).trans c0,(hB.cell (p:=⟨w.heap.size,1,none⟩) (by show w.heap.size<_;omega)).trans c1,(hB.cell (p:=⟨w.heap.size+1,0,none⟩) (by show w.heap.size+1<_;omega)).trans c2,(hB.cell (p:=⟨w.heap.size+1,1,none⟩) (by show w.heap.size+1<_;omega)).trans c3⟩)
 have KZ:=hid (show ∀ W:World,Below w0.heap.size w0 W→w.heap.size+3≤W.heap.size from fun W hB=>by have:=hB.size;omega);have KB:=hid (show ∀ W:World,Below w0.heap.size w0 W→Below w.heap.size w W from fun W hB=>hB0.trans (hB.mono (by omega)));have hR0:w0.cell? ⟨w.heap.size+1+1,0,none⟩=some (.string ⟨#[]⟩)∧w0.cell? ⟨w.heap.size+1+1,1,none⟩=some (.string ⟨#[]⟩)∧w0.frozen? ⟨w.heap.size+1+1,0,none⟩=false∧w0.frozen? ⟨w.heap.size+1+1,1,none⟩=false:=by rw[hw0];exact⟨((ax).trans rfl),((ax).trans rfl),(aS),(aS)⟩
 have KR:=hid (show ∀ W:World,Below w0.heap.size w0 W→(W.cell? ⟨w.heap.size+1+1,0,none⟩=some (.string ⟨#[]⟩)∧W.cell? ⟨w.heap.size+1+1,1,none⟩=some (.string ⟨#[]⟩)∧W.frozen? ⟨w.heap.size+1+1,0,none⟩=false∧W.frozen? ⟨w.heap.size+1+1,1,none⟩=false) from fun W hB=>by
  obtain⟨c0,c1,f0,f1⟩:=hR0
  exact⟨(hB.cell (p:=⟨w.heap.size+1+1,0,none⟩) (by show w.heap.size+1+1<_;omega)).trans c0,(hB.cell (p:=⟨w.heap.size+1+1,1,none⟩) (by show w.heap.size+1+1<_;omega)).trans c1,(hB.frozen (p:=⟨w.heap.size+1+1,0,none⟩) (by show w.heap.size+1+1<_;omega)).trans f0,(hB.frozen (p:=⟨w.heap.size+1+1,1,none⟩) (by show w.heap.size+1+1<_;omega)).trans f1⟩)
 clear hR0
 have KT0:=hid (show ∀ (W:World) (v u:Value),Below w0.heap.size w0 W→(((W.setCell ⟨w.heap.size+1+1,0,none⟩ v).setCell ⟨w.heap.size+1+1,1,none⟩ u).cell? ⟨w.heap.size,0,none⟩=some (.string l1)∧((W.setCell ⟨w.heap.size+1+1,0,none⟩ v).setCell ⟨w.heap.size+1+1,1,none⟩ u).cell? ⟨w.heap.size,1,none⟩=some (.string h1)∧((W.setCell ⟨w.heap.size+1+1,0,none⟩ v).setCell ⟨w.heap.size+1+1,1,none⟩ u).cell? ⟨w.heap.size+1,0,none⟩=some (.string l2)∧((W.setCell ⟨w.heap.size+1+1,0,none⟩ v).setCell ⟨w.heap.size+1+1,1,none⟩ u).cell? ⟨w.heap.size+1,1,none⟩=some (.string h2)) from fun W v u hB=>by
  have hh:=KS.o W hB;obtain⟨c0,c1,c2,c3⟩:=hh
  exact⟨(aK (by omega)).trans ((aK (by omega)).trans c0),(aK (by omega)).trans ((aK (by omega)).trans c1),(aK (by omega)).trans ((aK (by omega)).trans c2),(aK (by omega)).trans ((aK (by omega)).trans c3)⟩)
 have F0:=hid (Below.refl w0.heap.size w0);have HW0:=hid hw0;clear hz0 hB0 hS0 hw0;have HL:=hid (show ∀ W:World,Below w0.heap.size w0 W→La W from fun W hB=>hl.on (KB.o W hB));clear hl g1 g2 g3 g4;go_enter func20,ntmps20
 go_wp2_with fail
 rw[← HW0.o];obtain⟨d0,d1,d2,d3⟩:=KS.o _ F0.o;go_wp2_with fail
 refine(C1.o _ (HL.o _ F0.o)).mono ?_;rintro e w1 ⟨rfl,hb⟩;have F1:=hid (ae F0.o hb);clear hb d0 d1 d2 d3;obtain⟨d0,d1,d2,d3⟩:=KS.o _ F1.o;go_wp2_with fail
 refine(C2.o _ (HL.o _ F1.o)).mono ?_;rintro e w2 ⟨rfl,hb⟩;have F2:=hid (ae F1.o hb);clear hb d0 d1 d2 d3;obtain⟨d0,d1,d2,d3⟩:=KS.o _ F2.o;go_wp2_with fail
 refine(C3.o _ (HL.o _ F2.o)).mono ?_;rintro e w3 ⟨rfl,hb⟩;have F3:=hid (ae F2.o hb);clear hb d0 d1 d2 d3;obtain⟨d0,d1,d2,d3⟩:=KS.o _ F3.o;go_wp2_with fail
 refine(C4.o _ (HL.o _ F3.o)).mono ?_;rintro e w4 ⟨rfl,hb⟩;have F4:=hid (ae F3.o hb);clear hb d0 d1 d2 d3;obtain⟨d0,d1,d2,d3⟩:=KS.o _ F4.o
 all_goals
  obtain⟨m0,m1,n0,n1⟩:=KR.o _ F4.o;have hz:=KZ.o _ F4.o;go_wp2;refine bodyPost_ret (v:=.tuple #[.agg #[.string r,.string s],.int .i64 0]) (by simp[results,results20,go_sem,m0,m1]) rfl ⟨rfl,?_⟩;repeat (first|exact KB.o _ F4.o|refine Below.setCell ?_ (by first|omega|(simp;omega)|simp) _|refine Below.alloc ?_ (by first|omega|(simp;omega)|simp) _|refine Below.drew ?_)
theorem z0y (l1 h1 l2 h2 r s:ByteArray)(w:World)(hl:La w)
 (g1:CL 11 #[.agg #[.string l1,.string h1]] (.bool true))
 (g2:CL 11 #[.agg #[.string l2,.string h2]] (.bool true))
 (g3:CL 45 #[.string l1,.string h2] (.tuple #[.string r,.int .i64 0]))
 (g4:CL 45 #[.string h1,.string l2] (.tuple #[.string s,.int .i64 0])) :
 CR 21 #[.agg #[.string l1,.string h1],.agg #[.string l2,.string h2]] w (.tuple #[.agg #[.string r,.string s],.int .i64 0]):=by
 obtain ⟨C1,C2,C3,C4⟩:=aP g1 g2 g3 g4;obtain⟨w0,hw0⟩:∃ w0:World,w0=(((w.alloc (.cells #[.string l1,.string h1] 24)).alloc (.cells #[.string l2,.string h2] 24)).alloc (.cells #[.string ⟨#[]⟩,.string ⟨#[]⟩] 24)):=⟨_,rfl⟩;have hz0:w0.heap.size=w.heap.size+3:=by rw[hw0];simp
 have hB0:Below w.heap.size w w0:=by
  rw[hw0];repeat (first|exact Below.refl _ _|refine Below.setCell ?_ (by first|omega|(simp;omega)|simp) _|refine Below.alloc ?_ (by first|omega|(simp;omega)|simp) _|refine Below.drew ?_)
 have hS0:w0.cell? ⟨w.heap.size,0,none⟩=some (.string l1)∧w0.cell? ⟨w.heap.size,1,none⟩=some (.string h1)∧w0.cell? ⟨w.heap.size+1,0,none⟩=some (.string l2)∧w0.cell? ⟨w.heap.size+1,1,none⟩=some (.string h2):=by rw[hw0];exact⟨((q_lt).trans ((q_lt).trans ((ax).trans rfl))),((q_lt).trans ((q_lt).trans ((ax).trans rfl))),((q_lt).trans ((ax).trans rfl)),((q_lt).trans ((ax).trans rfl))⟩
 have KS:=hid (show ∀ W:World,Below w0.heap.size w0 W→(W.cell? ⟨w.heap.size,0,none⟩=some (.string l1)∧W.cell? ⟨w.heap.size,1,none⟩=some (.string h1)∧W.cell? ⟨w.heap.size+1,0,none⟩=some (.string l2)∧W.cell? ⟨w.heap.size+1,1,none⟩=some (.string h2)) from fun W hB=>by
  obtain⟨c0,c1,c2,c3⟩:=hS0
  exact⟨(hB.cell (p:=⟨w.heap.size,0,none⟩) (by show w.heap.size<_;omega)).trans c0,(hB.cell (p:=⟨w.heap.size,1,none⟩) (by show w.heap.size<_;omega)).trans c1,(hB.cell (p:=⟨w.heap.size+1,0,none⟩) (by show w.heap.size+1<_;omega)).trans c2,(hB.cell (p:=⟨w.heap.size+1,1,none⟩) (by show w.heap.size+1<_;omega)).trans c3⟩)
 have KZ:=hid (show ∀ W:World,Below w0.heap.size w0 W→w.heap.size+3≤W.heap.size from fun W hB=>by have:=hB.size;omega);have KB:=hid (show ∀ W:World,Below w0.heap.size w0 W→Below w.heap.size w W from fun W hB=>hB0.trans (hB.mono (by omega)));have hR0:w0.cell? ⟨w.heap.size+1+1,0,none⟩=some (.string ⟨#[]⟩)∧w0.cell? ⟨w.heap.size+1+1,1,none⟩=some (.string ⟨#[]⟩)∧w0.frozen? ⟨w.heap.size+1+1,0,none⟩=false∧w0.frozen? ⟨w.heap.size+1+1,1,none⟩=false:=by rw[hw0];exact⟨((ax).trans rfl),((ax).trans rfl),(aS),(aS)⟩
 have KR:=hid (show ∀ W:World,Below w0.heap.size w0 W→(W.cell? ⟨w.heap.size+1+1,0,none⟩=some (.string ⟨#[]⟩)∧W.cell? ⟨w.heap.size+1+1,1,none⟩=some (.string ⟨#[]⟩)∧W.frozen? ⟨w.heap.size+1+1,0,none⟩=false∧W.frozen? ⟨w.heap.size+1+1,1,none⟩=false) from fun W hB=>by
  obtain⟨c0,c1,f0,f1⟩:=hR0
  exact⟨(hB.cell (p:=⟨w.heap.size+1+1,0,none⟩) (by show w.heap.size+1+1<_;omega)).trans c0,(hB.cell (p:=⟨w.heap.size+1+1,1,none⟩) (by show w.heap.size+1+1<_;omega)).trans c1,(hB.frozen (p:=⟨w.heap.size+1+1,0,none⟩) (by show w.heap.size+1+1<_;omega)).trans f0,(hB.frozen (p:=⟨w.heap.size+1+1,1,none⟩) (by show w.heap.size+1+1<_;omega)).trans f1⟩)
 clear hR0
 have KT0:=hid (show ∀ (W:World) (v u:Value),Below w0.heap.size w0 W→(((W.setCell ⟨w.heap.size+1+1,0,none⟩ v).setCell ⟨w.heap.size+1+1,1,none⟩ u).cell? ⟨w.heap.size,0,none⟩=some (.string l1)∧((W.setCell ⟨w.heap.size+1+1,0,none⟩ v).setCell ⟨w.heap.size+1+1,1,none⟩ u).cell? ⟨w.heap.size,1,none⟩=some (.string h1)∧((W.setCell ⟨w.heap.size+1+1,0,none⟩ v).setCell ⟨w.heap.size+1+1,1,none⟩ u).cell? ⟨w.heap.size+1,0,none⟩=some (.string l2)∧((W.setCell ⟨w.heap.size+1+1,0,none⟩ v).setCell ⟨w.heap.size+1+1,1,none⟩ u).cell? ⟨w.heap.size+1,1,none⟩=some (.string h2)) from fun W v u hB=>by
  have hh:=KS.o W hB;obtain⟨c0,c1,c2,c3⟩:=hh
  exact⟨(aK (by omega)).trans ((aK (by omega)).trans c0),(aK (by omega)).trans ((aK (by omega)).trans c1),(aK (by omega)).trans ((aK (by omega)).trans c2),(aK (by omega)).trans ((aK (by omega)).trans c3)⟩)
 have F0:=hid (Below.refl w0.heap.size w0);have HW0:=hid hw0;clear hz0 hB0 hS0 hw0;have HL:=hid (show ∀ W:World,Below w0.heap.size w0 W→La W from fun W hB=>hl.on (KB.o W hB));clear hl g1 g2 g3 g4;go_enter func21,ntmps21
 go_wp2_with fail
 rw[← HW0.o];obtain⟨d0,d1,d2,d3⟩:=KS.o _ F0.o;go_wp2_with fail
 refine(C1.o _ (HL.o _ F0.o)).mono ?_;rintro e w1 ⟨rfl,hb⟩;have F1:=hid (ae F0.o hb);clear hb d0 d1 d2 d3;obtain⟨d0,d1,d2,d3⟩:=KS.o _ F1.o;go_wp2_with fail
 refine(C2.o _ (HL.o _ F1.o)).mono ?_;rintro e w2 ⟨rfl,hb⟩;have F2:=hid (ae F1.o hb);clear hb d0 d1 d2 d3;obtain⟨d0,d1,d2,d3⟩:=KS.o _ F2.o;go_wp2_with fail
 refine(C3.o _ (HL.o _ F2.o)).mono ?_;rintro e w3 ⟨rfl,hb⟩;have F3:=hid (ae F2.o hb);clear hb d0 d1 d2 d3;obtain⟨d0,d1,d2,d3⟩:=KS.o _ F3.o;go_wp2_with fail
 refine(C4.o _ (HL.o _ F3.o)).mono ?_;rintro e w4 ⟨rfl,hb⟩;have F4:=hid (ae F3.o hb);clear hb d0 d1 d2 d3;obtain⟨d0,d1,d2,d3⟩:=KS.o _ F4.o
 all_goals
  obtain⟨m0,m1,n0,n1⟩:=KR.o _ F4.o;have hz:=KZ.o _ F4.o;go_wp2;refine bodyPost_ret (v:=.tuple #[.agg #[.string r,.string s],.int .i64 0]) (by simp[results,results21,go_sem,m0,m1]) rfl ⟨rfl,?_⟩;repeat (first|exact KB.o _ F4.o|refine Below.setCell ?_ (by first|omega|(simp;omega)|simp) _|refine Below.alloc ?_ (by first|omega|(simp;omega)|simp) _|refine Below.drew ?_)
