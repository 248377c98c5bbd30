/- rational.Simplest, Decimal, Parse. -/
import Derived.Test.YtmigpoiajkihhaaGreatDoorTa
import Derived.Shelf.Strings.SlTrimAscii
set_option maxRecDepth 100000
set_option maxHeartbeats 20000000
open Go.Lib (hid)
namespace Go.Proofs.YtmigpoiajkihhaaGreatDoor
open Go.RowKit Go.Gb
theorem lM (a b x1 x2 y1 y2 n d r:ByteArray)(u:World)(hl:La u)
 (h1:CL 45 #[.string a,.string b] (.tuple #[.agg #[.string x1,.string x2],.agg #[.string y1,.string y2],.bool true]))
 (h2:CL 46 #[.agg #[.string x1,.string x2],.agg #[.string y1,.string y2]] (.int .i64 (-1)))
 (h3:CL 71 #[.string y1] (.int .i64 1))
 (h4:CL 71 #[.string x1] (.int .i64 1))
 (h5:CL 72 #[.agg #[.string x1,.string x2],.agg #[.string y1,.string y2]] (.agg #[.string n,.string d]))
 (h6:CQ 35 #[.agg #[.string n,.string d]] (.string r)) :
 CR 31 #[.string a,.string b] u (.tuple #[.string r,.int .i64 0]):=by
 have C1:=hid h1
 have C2:=hid h2
 have C3:=hid h3
 have C4:=hid h4
 have C5:=hid h5
 have C6:=hid h6
 have HU:=hid hl
 clear hl h1 h2 h3 h4 h5 h6
 go_enter Tryz.func31,Tryz.ntmps31
 go_wp2_with fail
 refine(C1.out _ HU.out).mono ?_
 rintro e w ⟨rfl,hbu⟩
 have hl:La w:=HU.out.on hbu
 have HBU:=hid hbu
 clear hbu
 obtain⟨w0,hw0⟩:∃ w0:World,w0=((w.alloc (.cells #[.string x1,.string x2] 44)).alloc (.cells #[.string y1,.string y2] 44)):=⟨_,rfl⟩
 have hz0:w0.heap.size=w.heap.size+2:=by rw[hw0];simp
 have hB0:Below w.heap.size w w0:=by
  rw[hw0]
  repeat (first|exact Below.refl _ _|refine Below.setCell ?_ (by first|omega|(simp;omega)|simp) _|refine Below.alloc ?_ (by first|omega|(simp;omega)|simp) _|refine Below.drew ?_)
 have hS0:w0.cell? ⟨w.heap.size,0,none⟩=some (.string x1)∧w0.cell? ⟨w.heap.size,1,none⟩=some (.string x2)∧w0.cell? ⟨w.heap.size+1,0,none⟩=some (.string y1)∧w0.cell? ⟨w.heap.size+1,1,none⟩=some (.string y2):=by rw[hw0];exact⟨((q_lt).trans ((aW).trans rfl)),((q_lt).trans ((aW).trans rfl)),((aW).trans rfl),((aW).trans rfl)⟩
 have KS:=hid (show ∀ W:World,Below w0.heap.size w0 W→(W.cell? ⟨w.heap.size,0,none⟩=some (.string x1)∧W.cell? ⟨w.heap.size,1,none⟩=some (.string x2)∧W.cell? ⟨w.heap.size+1,0,none⟩=some (.string y1)∧W.cell? ⟨w.heap.size+1,1,none⟩=some (.string y2)) from fun W hB=>by
  obtain⟨c0,c1,c2,c3⟩:=hS0
  exact⟨(hB.cell (p:=⟨w.heap.size,0,none⟩) (by show w.heap.size<_;omega)).trans c0,(hB.cell (p:=⟨w.heap.size,1,none⟩) (by show w.heap.size<_;omega)).trans c1,(hB.cell (p:=⟨w.heap.size+1,0,none⟩) (by show w.heap.size+1<_;omega)).trans c2,(hB.cell (p:=⟨w.heap.size+1,1,none⟩) (by show w.heap.size+1<_;omega)).trans c3⟩)
 have KZ:=hid (show ∀ W:World,Below w0.heap.size w0 W→w.heap.size+2≤W.heap.size from fun W hB=>by have:=hB.size;omega)
 have KB:=hid (show ∀ W:World,Below w0.heap.size w0 W→Below w.heap.size w W from fun W hB=>hB0.trans (hB.mono (by omega)))
 have F0:=hid (Below.refl w0.heap.size w0)
 have HW0:=hid hw0
 clear hz0 hB0 hS0 hw0
 have HL:=hid (show ∀ W:World,Below w0.heap.size w0 W→La W from fun W hB=>hl.on (KB.out W hB))
 clear hl
 go_wp2_with fail
 rw[← HW0.out]
 obtain⟨d0,d1,d2,d3⟩:=KS.out _ F0.out
 go_wp2_with fail
 refine(C2.out _ (HL.out _ F0.out)).mono ?_
 rintro e w1 ⟨rfl,hb⟩
 have F1:=hid (av F0.out hb)
 clear hb d0 d1 d2 d3
 obtain⟨d0,d1,d2,d3⟩:=KS.out _ F1.out
 go_wp2_with fail
 refine(C3.out _ (HL.out _ F1.out)).mono ?_
 rintro e w2 ⟨rfl,hb⟩
 have F2:=hid (av F1.out hb)
 clear hb d0 d1 d2 d3
 obtain⟨d0,d1,d2,d3⟩:=KS.out _ F2.out
 go_wp2_with fail
 refine(C4.out _ (HL.out _ F2.out)).mono ?_
 rintro e w3 ⟨rfl,hb⟩
 have F3:=hid (av F2.out hb)
 clear hb d0 d1 d2 d3
 obtain⟨d0,d1,d2,d3⟩:=KS.out _ F3.out
 go_wp2_with fail
 refine(C5.out _ (HL.out _ F3.out)).mono ?_
 rintro e w4 ⟨rfl,hb⟩
 have F4:=hid (av F3.out hb)
 clear hb d0 d1 d2 d3
 obtain⟨d0,d1,d2,d3⟩:=KS.out _ F4.out
 go_wp2_with fail
 refine(C6.out w4).mono ?_
 rintro e w5 ⟨rfl,hb⟩
 have F5:=hid (av F4.out hb)
 clear hb
 go_wp2
 go_ret2
 exact⟨rfl,HBU.out.trans ((KB.out _ F5.out).mono HBU.out.size)⟩
theorem kR (a b x1 x2 y1 y2:ByteArray)(u:World)(hl:La u)
 (h1:CL 45 #[.string a,.string b] (.tuple #[.agg #[.string x1,.string x2],.agg #[.string y1,.string y2],.bool true]))
 (h2:CL 46 #[.agg #[.string x1,.string x2],.agg #[.string y1,.string y2]] (.int .i64 (-1)))
 (h3:CL 71 #[.string y1] (.int .i64 1))
 (h4:CL 71 #[.string x1] (.int .i64 (-1))) :
 CR 31 #[.string a,.string b] u (.tuple #[.string ⟨#[48]⟩,.int .i64 0]):=by
 have C1:=hid h1
 have C2:=hid h2
 have C3:=hid h3
 have C4:=hid h4
 have HU:=hid hl
 clear hl h1 h2 h3 h4
 go_enter Tryz.func31,Tryz.ntmps31
 go_wp2_with fail
 refine(C1.out _ HU.out).mono ?_
 rintro e w ⟨rfl,hbu⟩
 have hl:La w:=HU.out.on hbu
 have HBU:=hid hbu
 clear hbu
 obtain⟨w0,hw0⟩:∃ w0:World,w0=((w.alloc (.cells #[.string x1,.string x2] 44)).alloc (.cells #[.string y1,.string y2] 44)):=⟨_,rfl⟩
 have hz0:w0.heap.size=w.heap.size+2:=by rw[hw0];simp
 have hB0:Below w.heap.size w w0:=by
  rw[hw0]
  repeat (first|exact Below.refl _ _|refine Below.setCell ?_ (by first|omega|(simp;omega)|simp) _|refine Below.alloc ?_ (by first|omega|(simp;omega)|simp) _|refine Below.drew ?_)
 have hS0:w0.cell? ⟨w.heap.size,0,none⟩=some (.string x1)∧w0.cell? ⟨w.heap.size,1,none⟩=some (.string x2)∧w0.cell? ⟨w.heap.size+1,0,none⟩=some (.string y1)∧w0.cell? ⟨w.heap.size+1,1,none⟩=some (.string y2):=by rw[hw0];exact⟨((q_lt).trans ((aW).trans rfl)),((q_lt).trans ((aW).trans rfl)),((aW).trans rfl),((aW).trans rfl)⟩
 have KS:=hid (show ∀ W:World,Below w0.heap.size w0 W→(W.cell? ⟨w.heap.size,0,none⟩=some (.string x1)∧W.cell? ⟨w.heap.size,1,none⟩=some (.string x2)∧W.cell? ⟨w.heap.size+1,0,none⟩=some (.string y1)∧W.cell? ⟨w.heap.size+1,1,none⟩=some (.string y2)) from fun W hB=>by
  obtain⟨c0,c1,c2,c3⟩:=hS0
  exact⟨(hB.cell (p:=⟨w.heap.size,0,none⟩) (by show w.heap.size<_;omega)).trans c0,(hB.cell (p:=⟨w.heap.size,1,none⟩) (by show w.heap.size<_;omega)).trans c1,(hB.cell (p:=⟨w.heap.size+1,0,none⟩) (by show w.heap.size+1<_;omega)).trans c2,(hB.cell (p:=⟨w.heap.size+1,1,none⟩) (by show w.heap.size+1<_;omega)).trans c3⟩)
 have KZ:=hid (show ∀ W:World,Below w0.heap.size w0 W→w.heap.size+2≤W.heap.size from fun W hB=>by have:=hB.size;omega)
 have KB:=hid (show ∀ W:World,Below w0.heap.size w0 W→Below w.heap.size w W from fun W hB=>hB0.trans (hB.mono (by omega)))
 have F0:=hid (Below.refl w0.heap.size w0)
 have HW0:=hid hw0
 clear hz0 hB0 hS0 hw0
 have HL:=hid (show ∀ W:World,Below w0.heap.size w0 W→La W from fun W hB=>hl.on (KB.out W hB))
 clear hl
 go_wp2_with fail
 rw[← HW0.out]
 obtain⟨d0,d1,d2,d3⟩:=KS.out _ F0.out
 go_wp2_with fail
 refine(C2.out _ (HL.out _ F0.out)).mono ?_
 rintro e w1 ⟨rfl,hb⟩
 have F1:=hid (av F0.out hb)
 clear hb d0 d1 d2 d3
 obtain⟨d0,d1,d2,d3⟩:=KS.out _ F1.out
 go_wp2_with fail
 refine(C3.out _ (HL.out _ F1.out)).mono ?_
 rintro e w2 ⟨rfl,hb⟩
 have F2:=hid (av F1.out hb)
 clear hb d0 d1 d2 d3
 obtain⟨d0,d1,d2,d3⟩:=KS.out _ F2.out
 go_wp2_with fail
 refine(C4.out _ (HL.out _ F2.out)).mono ?_
 rintro e w3 ⟨rfl,hb⟩
 have F3:=hid (av F2.out hb)
 clear hb d0 d1 d2 d3
 obtain⟨d0,d1,d2,d3⟩:=KS.out _ F3.out
 go_wp2
 go_ret2
 exact⟨rfl,HBU.out.trans ((KB.out _ F3.out).mono HBU.out.size)⟩
theorem flS {z:Int}(h:z.natAbs<10):FitL z:=FitL.of (k:=1) (by unfold Sm;omega) (by decide)
theorem flT {z:Int}(h:z.natAbs<1000):FitL z:=FitL.of (k:=3) (by unfold Sm;omega) (by decide)
theorem aZ {q:Rat}(h1:q.num.natAbs<1000)(h2:q.den<1000):FitQ q:=⟨(show Sm 3 _ by unfold Sm;omega).mono (by decide),(show Sm 3 _ by unfold Sm;omega).mono (by decide)⟩
theorem szb:Sz 0=⟨#[48]⟩∧Sz 1=⟨#[49]⟩∧Sz 2=⟨#[50]⟩∧Sz 3=⟨#[51]⟩∧Sz 5=⟨#[53]⟩∧Sz 10=⟨#[49,48]⟩∧Sz (-1)=⟨#[45,49]⟩:=by decide +kernel
theorem qnd (q:Rat)(n:Int)(d:Nat)(a x y:ByteArray)(h:q.num=n∧q.den=d∧Sq q=a∧Sz n=x∧Sz (d:Int)=y):Sq q=a∧Fv q=.agg #[.string x,.string y]:=by
 obtain⟨h1,h2,h3,h4,h5⟩:=h
 refine⟨h3,?_⟩
 unfold Fv
 rw[h1,h2,h4,h5]
theorem q310:Sq (3/10)=⟨#[51,47,49,48]⟩∧Fv (3/10)=.agg #[.string ⟨#[51]⟩,.string ⟨#[49,48]⟩]:=qnd _ 3 10 _ _ _ (by decide +kernel)
theorem q25:Sq (2/5)=⟨#[50,47,53]⟩∧Fv (2/5)=.agg #[.string ⟨#[50]⟩,.string ⟨#[53]⟩]:=qnd _ 2 5 _ _ _ (by decide +kernel)
theorem q13:Sq (1/3)=⟨#[49,47,51]⟩∧Fv (1/3)=.agg #[.string ⟨#[49]⟩,.string ⟨#[51]⟩]:=qnd _ 1 3 _ _ _ (by decide +kernel)
theorem qm12:Sq (-1/2)=⟨#[45,49,47,50]⟩∧Fv (-1/2)=.agg #[.string ⟨#[45,49]⟩,.string ⟨#[50]⟩]:=qnd _ (-1) 2 _ _ _ (by decide +kernel)
theorem q5:Sq 5=⟨#[53]⟩∧Fv 5=.agg #[.string ⟨#[53]⟩,.string ⟨#[49]⟩]:=qnd _ 5 1 _ _ _ (by decide +kernel)
theorem z3e (w:World)(hl:La w) :
 CR 72 #[.agg #[.string ⟨#[51]⟩,.string ⟨#[49,48]⟩],.agg #[.string ⟨#[50]⟩,.string ⟨#[53]⟩]] w (.agg #[.string ⟨#[49]⟩,.string ⟨#[51]⟩]):=by
 have h:=iY (3/10) (2/5) (by decide +kernel) (by decide +kernel) (by decide +kernel) (aZ (by decide +kernel) (by decide +kernel)) (aZ (by decide +kernel) (by decide +kernel)) w hl
 rw[q310.2,q25.2,show bJ (3/10) (2/5)=1/3 by decide +kernel,q13.2]at h
 exact h
theorem qN (w:World)(hl:La w) :
 CR 31 #[.string ⟨#[51,47,49,48]⟩,.string ⟨#[50,47,53]⟩] w (.tuple #[.string ⟨#[49,47,51]⟩,.int .i64 0]):=by
 have fx:FitQ (3/10):=aZ (by decide +kernel) (by decide +kernel)
 have fy:FitQ (2/5):=aZ (by decide +kernel) (by decide +kernel)
 have fz:FitQ (1/3):=aZ (by decide +kernel) (by decide +kernel)
 have h1:=fun W hW=>dD _ _ fx fy W hW
 have h2:=fun W hW=>jy (3/10) (2/5) (-1) (by decide +kernel) fx fy W hW
 have h3:=fun W hW=>ik 2 1 (by decide) (flS (by decide)) W hW
 have h4:=fun W hW=>ik 3 1 (by decide) (flS (by decide)) W hW
 have h6:=fun W=>wR (1/3) fz.numL fz.denL W
 change ∀ W,Calls Tryz.prog 35 #[Fv (1/3)] W _ at h6
 rw[q310.1,q25.1,q310.2,q25.2]at h1
 rw[q310.2,q25.2]at h2
 rw[q13.1,q13.2]at h6
 rw[szb.2.2.1]at h3
 rw[szb.2.2.2.1]at h4
 exact lM _ _ _ _ _ _ _ _ _ w hl h1 h2 h3 h4 (fun W hW=>z3e W hW) h6
theorem qM (w:World)(hl:La w) :
 CR 31 #[.string ⟨#[45,49,47,50]⟩,.string ⟨#[53]⟩] w (.tuple #[.string ⟨#[48]⟩,.int .i64 0]):=by
 have fx:FitQ (-1/2):=aZ (by decide +kernel) (by decide +kernel)
 have fy:FitQ 5:=aZ (by decide +kernel) (by decide +kernel)
 have h1:=fun W hW=>dD _ _ fx fy W hW
 have h2:=fun W hW=>jy (-1/2) 5 (-1) (by decide +kernel) fx fy W hW
 have h3:=fun W hW=>ik 5 1 (by decide) (flS (by decide)) W hW
 have h4:=fun W hW=>ik (-1) (-1) (by decide) (flS (by decide)) W hW
 rw[qm12.1,q5.1,qm12.2,q5.2]at h1
 rw[qm12.2,q5.2]at h2
 rw[szb.2.2.2.2.1]at h3
 rw[szb.2.2.2.2.2.2]at h4
 exact kR _ _ _ _ _ _ w hl h1 h2 h3 h4
theorem nA (a n d p t z r:ByteArray)(k:Nat)(hk0:decide ((k:Int)<0)=false)(hk:decide ((64:Int)<(k:Int))=false)(u:World)(hl:La u)
 (h1:CL 42 #[.string a] (.tuple #[.agg #[.string n,.string d],.bool true]))
 (h2:CQ 61 #[.int .i64 (k:Int)] (.string p))
 (h3:CL 60 #[.string n,.string p] (.string t))
 (h4:CL 59 #[.string t,.string d] (.string z))
 (h5:CQ 58 #[.string z,.int .i64 (k:Int)] (.string r)) :
 CR 27 #[.string a,.int .i64 (k:Int)] u (.tuple #[.string r,.int .i64 0]):=by
 have C1:=hid h1
 have C2:=hid h2
 have C3:=hid h3
 have C4:=hid h4
 have C5:=hid h5
 have HU:=hid hl
 clear hl h1 h2 h3 h4 h5
 go_enter Tryz.func27,Tryz.ntmps27
 go_wp2_with fail
 refine(C1.out _ HU.out).mono ?_
 rintro e w ⟨rfl,hbu⟩
 have hl:La w:=HU.out.on hbu
 have HBU:=hid hbu
 clear hbu
 obtain⟨w0,hw0⟩:∃ w0:World,w0=(w.alloc (.cells #[.string n,.string d] 44)):=⟨_,rfl⟩
 have hz0:w0.heap.size=w.heap.size+1:=by rw[hw0];simp
 have hB0:Below w.heap.size w w0:=by
  rw[hw0]
  repeat (first|exact Below.refl _ _|refine Below.setCell ?_ (by first|omega|(simp;omega)|simp) _|refine Below.alloc ?_ (by first|omega|(simp;omega)|simp) _|refine Below.drew ?_)
 have hS0:w0.cell? ⟨w.heap.size,0,none⟩=some (.string n)∧w0.cell? ⟨w.heap.size,1,none⟩=some (.string d):=by rw[hw0];exact⟨((aW).trans rfl),((aW).trans rfl)⟩
 have KS:=hid (show ∀ W:World,Below w0.heap.size w0 W→(W.cell? ⟨w.heap.size,0,none⟩=some (.string n)∧W.cell? ⟨w.heap.size,1,none⟩=some (.string d)) from fun W hB=>by
  obtain⟨c0,c1⟩:=hS0
  exact⟨(hB.cell (p:=⟨w.heap.size,0,none⟩) (by show w.heap.size<_;omega)).trans c0,(hB.cell (p:=⟨w.heap.size,1,none⟩) (by show w.heap.size<_;omega)).trans c1⟩)
 have KZ:=hid (show ∀ W:World,Below w0.heap.size w0 W→w.heap.size+1≤W.heap.size from fun W hB=>by have:=hB.size;omega)
 have KB:=hid (show ∀ W:World,Below w0.heap.size w0 W→Below w.heap.size w W from fun W hB=>hB0.trans (hB.mono (by omega)))
 have F0:=hid (Below.refl w0.heap.size w0)
 have HW0:=hid hw0
 clear hz0 hB0 hS0 hw0
 have HL:=hid (show ∀ W:World,Below w0.heap.size w0 W→La W from fun W hB=>hl.on (KB.out W hB))
 clear hl
 go_wp2_with fail
 rw[← HW0.out]
 obtain⟨d0,d1⟩:=KS.out _ F0.out
 go_wp2_with fail
 go_region_held3 (fun w'=>w'.cell? ⟨w.heap.size,0,none⟩=some (.string n)∧w'.cell? ⟨w.heap.size,1,none⟩=some (.string d)) (first|(with_reducible exact KS.out _ F4.out)|(with_reducible exact KS.out _ F4.out.drew)|(with_reducible exact KS.out _ F3.out)|(with_reducible exact KS.out _ F3.out.drew)|(with_reducible exact KS.out _ F2.out)|(with_reducible exact KS.out _ F2.out.drew)|(with_reducible exact KS.out _ F1.out)|(with_reducible exact KS.out _ F1.out.drew)|(with_reducible exact KS.out _ F0.out)|(with_reducible exact KS.out _ F0.out.drew))
  (first
   | (go_at_call 61;(with_reducible refine(C2.out _).mono ?_);rintro e w1 ⟨rfl,hb⟩;have F1:=hid (show Below w0.heap.size w0 w1 by first|exact av F0.out hb|exact av F0.out.drew hb);clear hb)
   | (go_at_call 60;(with_reducible refine(C3.out _ ?la1).mono ?_);(case la1=>first|exact HL.out _ F1.out|exact HL.out _ F1.out.drew);rintro e w2 ⟨rfl,hb⟩;have F2:=hid (show Below w0.heap.size w0 w2 by first|exact av F1.out hb|exact av F1.out.drew hb);clear hb)
   | (go_at_call 59;(with_reducible refine(C4.out _ ?la2).mono ?_);(case la2=>first|exact HL.out _ F2.out|exact HL.out _ F2.out.drew);rintro e w3 ⟨rfl,hb⟩;have F3:=hid (show Below w0.heap.size w0 w3 by first|exact av F2.out hb|exact av F2.out.drew hb);clear hb)
   | (go_at_call 58;(with_reducible refine(C5.out _).mono ?_);rintro e w4 ⟨rfl,hb⟩;have F4:=hid (show Below w0.heap.size w0 w4 by first|exact av F3.out hb|exact av F3.out.drew hb);clear hb)
   | fail)
 all_goals
  go_wp2
  go_ret2
  exact⟨rfl,HBU.out.trans ((KB.out _ (by first|exact F4.out|exact F4.out.drew)).mono HBU.out.size)⟩
def tens:List UInt8:=[48,49,50,51,52,53,54,55,56,57]
theorem yF {l:List UInt8}(h:∀ x∈l,x∈tens):Lib.trimS l tens=[]:=by
 have h1:∀ m:List UInt8,(∀ x∈m,x∈tens)→m.dropWhile (tens.contains ·)=[]:=by
  intro m
  induction m with
  | nil=>intro _;rfl
  | cons x t ih =>
    intro hm
    rw[List.dropWhile_cons,if_pos (by simpa using hm x (.head _))]
    exact ih (fun y hy=>hm y (.tail _ hy))
 unfold Lib.trimS Lib.trimLeftS Lib.trimRightS
 rw[h1 l.reverse (fun x hx=>h x (List.mem_reverse.1 hx))]
 rfl
theorem zk (s:ByteArray)(h0:(s.toList==[])=false)(hs:s.size≤100000)(h:∀ x∈s.data.toList,x∈tens)(w:World) :
 CR 68 #[.string s] w (.bool true):=by
 have HT:=hid (fun W=>Any.strings_Trim_laid Tryz.lays160 (by kernel_rfl) s ⟨#[48,49,50,51,52,53,54,55,56,57]⟩ W (by omega) (by decide) (ascii_of_all (by decide)))
 rw[show(⟨#[48,49,50,51,52,53,54,55,56,57]⟩:ByteArray).data.toList=tens from rfl,yF h]at HT
 clear hs h
 go_enter Tryz.func68,Tryz.ntmps68
 go_wp2_with fail
 refine(HT.out _).mono ?_
 rintro e w1 ⟨rfl,hb⟩
 have HB:=hid hb
 clear hb
 go_wp2
 go_ret
 exact⟨rfl,HB.out⟩
theorem qj (s z wh pl dg p x:ByteArray)(r:Int)(hd:(dg.toList==[])=false)(hw:wh.size≤100000)(hp:pl.size≤100000)(hdg:dg.size≤200000)(u:World)(hl:La u)
 (h1:CL 13 #[.string s] (.bool false))
 (h2:CQ 66 #[.string s,.string ⟨#[45]⟩] (.tuple #[.string z,.bool false]))
 (h3:CQ 67 #[.string z,.string ⟨#[46]⟩] (.tuple #[.string wh,.string pl,.bool true]))
 (h4:CQ 68 #[.string wh] (.bool true))
 (h5:CQ 68 #[.string pl] (.bool true))
 (h6:CQ 69 #[.string (wh++pl),.string ⟨#[48]⟩] (.string dg))
 (h7:CQ 61 #[.int .i64 (pl.size:Int)] (.string p))
 (h8:CL 9 #[.string dg,.string p] (.tuple #[.string x,.int .i64 r])) :
 CR 29 #[.string s] u (.tuple #[.string x,.int .i64 r]):=by
 have ea:=fun W:World=>run_string_add_sum (P:=Tryz.prog) W wh pl (by omega)
 have eb:=fun W:World=>run_string_add_sum (P:=Tryz.prog) W ⟨#[45]⟩ dg (by have e:(⟨#[45]⟩:ByteArray).size=1:=rfl;omega)
 have C1:=hid h1
 have C2:=hid h2
 have C3:=hid h3
 have C4:=hid h4
 have C5:=hid h5
 have C6:=hid h6
 have C7:=hid h7
 have C8:=hid h8
 have HL:=hid (show ∀ W:World,Below u.heap.size u W→La W from fun W hB=>hl.on hB)
 have F0:=hid (Below.refl u.heap.size u)
 clear hl hw hp hdg h1 h2 h3 h4 h5 h6 h7 h8
 go_enter Tryz.func29,Tryz.ntmps29
 go_wp2_with fail
 refine(C1.out _ (HL.out _ F0.out)).mono ?_
 rintro e w1 ⟨rfl,hb⟩
 have F1:=hid (av F0.out hb)
 clear hb
 go_wp2_with fail
 refine(C2.out _).mono ?_
 rintro e w2 ⟨rfl,hb⟩
 have F2:=hid (av F1.out hb)
 clear hb
 go_wp2_with fail
 refine(C3.out _).mono ?_
 rintro e w3 ⟨rfl,hb⟩
 have F3:=hid (av F2.out hb)
 clear hb
 go_wp2_with fail
 refine(C4.out _).mono ?_
 rintro e w4 ⟨rfl,hb⟩
 have F4:=hid (av F3.out hb)
 clear hb
 go_wp2_with fail
 refine(C5.out _).mono ?_
 rintro e w5 ⟨rfl,hb⟩
 have F5:=hid (av F4.out hb)
 clear hb
 go_wp2_with fail
 refine(C6.out _).mono ?_
 rintro e w6 ⟨rfl,hb⟩
 have F6:=hid (av F5.out hb)
 clear hb
 go_wp2_with fail
 refine(C7.out _).mono ?_
 rintro e w7 ⟨rfl,hb⟩
 have F7:=hid (av F6.out hb)
 clear hb
 go_wp2_with fail
 refine(C8.out _ (HL.out _ F7.out)).mono ?_
 rintro e w8 ⟨rfl,hb⟩
 have F8:=hid (av F7.out hb)
 clear hb
 go_wp2
 go_ret2
 exact⟨rfl,F8.out⟩
end Go.Proofs.YtmigpoiajkihhaaGreatDoor
