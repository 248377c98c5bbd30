/- texts -/
import Derived.Test.YtkiklcbhglpooaaGreatDoorQj
import Derived.Shelf.Strings.SlTrimAscii
import Derived.Test.YtkiklcbhglpooaaGreatDoorSq
import Derived.Test.YtkiklcbhglpooaaGreatDoorMz42q
open Go.Proofs.Tryz
set_option maxRecDepth 100000
set_option maxHeartbeats 20000000
open Go.Lib (hid)
namespace Go.Proofs.YtkiklcbhglpooaaGreatDoor
open Go.RowKit Go.Gb
theorem oP (l h:ByteArray)(c:Int)(hc:c≤0)(w:World)(hl:La w)
 (h1:CL 96 #[.string l,.string h] (.tuple #[.int .i64 c,.int .i64 0])) :
 CR 39 #[.agg #[.string l,.string h]] w (.bool true):=by
 have C1:=hid h1;obtain⟨w0,hw0⟩:∃ w0:World,w0=(w.alloc (.cells #[.string l,.string h] 27)):=⟨_,rfl⟩;have hz0:w0.heap.size=w.heap.size+1:=by rw[hw0];simp
 have hB0:Below w.heap.size w w0:=by
  rw[hw0];repeat (first|exact Below.refl _ _|refine Below.setCell ?_ (by first|omega|(simp;omega)|simp) _|refine Below.alloc ?_ (by first|omega|(simp;omega)|simp) _|refine Below.drew ?_)
 have hS0:w0.cell? ⟨w.heap.size,0,none⟩=some (.string l)∧w0.cell? ⟨w.heap.size,1,none⟩=some (.string h):=by rw[hw0];exact⟨((aO).trans rfl),((aO).trans rfl)⟩
 have KS:=hid (show ∀ W:World,Below w0.heap.size w0 W→(W.cell? ⟨w.heap.size,0,none⟩=some (.string l)∧W.cell? ⟨w.heap.size,1,none⟩=some (.string h)) from fun W hB=>by
  obtain⟨c0,c1⟩:=hS0
  exact⟨(hB.cell (p:=⟨w.heap.size,0,none⟩) (by show w.heap.size<_;omega)).trans c0,(hB.cell (p:=⟨w.heap.size,1,none⟩) (by show w.heap.size<_;omega)).trans c1⟩)
 have KZ:=hid (show ∀ W:World,Below w0.heap.size w0 W→w.heap.size+1≤W.heap.size from fun W hB=>by have:=hB.size;omega);have KB:=hid (show ∀ W:World,Below w0.heap.size w0 W→Below w.heap.size w W from fun W hB=>hB0.trans (hB.mono (by omega)));have F0:=hid (Below.refl w0.heap.size w0);have HW0:=hid hw0;clear hz0 hB0 hS0 hw0;have HL:=hid (show ∀ W:World,Below w0.heap.size w0 W→La W from fun W hB=>hl.on (KB.o W hB));clear hl h1;go_enter func39,ntmps39
 go_wp2_with fail
 rw[← HW0.o];obtain⟨d0,d1⟩:=KS.o _ F0.o;go_wp2_with fail
 refine(C1.o _ (HL.o _ F0.o)).mono ?_;rintro e w1 ⟨rfl,hb⟩;have F1:=hid (ak F0.o hb);clear hb d0 d1;obtain⟨d0,d1⟩:=KS.o _ F1.o;go_wp2;go_ret
 exact⟨rfl,KB.o _ F1.o⟩
open Go.Lib (hid)
theorem z2O (a b n d r:ByteArray)(hb0:(b.toList==[48])=false)(w:World)(hl:La w)
 (h1:CL 120 #[.string a] (.bool true))
 (h2:CL 120 #[.string b] (.bool true))
 (h3:CL 198 #[.string a,.string b] (.agg #[.string n,.string d]))
 (h4:CQ 162 #[.agg #[.string n,.string d]] (.string r)) :
 CR 167 #[.string a,.string b] w (.tuple #[.string r,.int .i64 0]):=by
 obtain ⟨C1,C2,C3,C4,HL,u6⟩:=dw h1 h2 h3 h4 hl (Below.refl w.heap.size w);clear h1 h2 h3 h4 hl;go_enter func167,ntmps167
 go_wp2_with fail
 refine(C1.o _ (HL.o.on u6.o)).mono ?_;rintro e w1 ⟨rfl,hb⟩;have w9:=hbt u6 hb;clear hb;go_wp2_with fail
 refine(C2.o _ (HL.o.on w9.o)).mono ?_;rintro e w2 ⟨rfl,hb⟩;have wo:=hbt w9 hb;clear hb;go_wp2_with fail
 refine(C3.o _ (HL.o.on wo.o)).mono ?_;rintro e w3 ⟨rfl,hb⟩;have wu:=hbt wo hb;clear hb;go_wp2_with fail
 refine(C4.o _).mono ?_;rintro e w4 ⟨rfl,hb⟩;have ww:=hbt wu hb;clear hb;go_wp2;go_ret2
 exact⟨rfl,ww.o⟩
theorem z1m (a b:Int)(hb:b≠0):(Rat.divInt a b).num.natAbs≤a.natAbs∧(Rat.divInt a b).den≤b.natAbs:=by
 rcases Int.lt_or_gt_of_ne hb with h|h
 · obtain⟨n,hn⟩:∃ n:Nat,b = -(n:Int):=⟨b.natAbs,by omega⟩
   subst hn;have h2:=z2M (-a) n (by omega);rw[Rat.divInt_neg',Rat.divInt_ofNat];rw[Int.natAbs_neg]at h2;rw[Int.natAbs_neg,Int.natAbs_natCast];exact h2
 · obtain⟨n,hn⟩:∃ n:Nat,b=(n:Int):=⟨b.natAbs,by omega⟩
   subst hn;rw[Rat.divInt_ofNat,Int.natAbs_natCast];exact z2M a n (by omega)
theorem lN {k:Nat}{a b:Int}(hb:b≠0)(ha:Sm k a.natAbs)(h:Sm k b.natAbs):SmQ k (Rat.divInt a b):=by
 obtain⟨e1,e2⟩:=z1m a b hb;exact⟨ha.le e1,h.le e2⟩
theorem z6f (a b:Int)(hb:b≠0)(ha:FitL a)(fb:FitL b)(w:World)(hl:La w) :
 CR 167 #[.string (Sz a),.string (Sz b)] w (.tuple #[.string (Sq (Rat.divInt a b)),.int .i64 0]):=by
 have hs:SmQ 1900 (Rat.divInt a b):=lN hb ha fb;have h3:=fun W hW=>z4I a b hb ha fb W hW;unfold Fv at h3
 exact z2O _ _ _ _ _ (z4i hb) w hl (fun W hW=>dE a ha.z W hW.zz) (fun W hW=>dE b fb.z W hW.zz) h3 (fun W=>uu _ hs.1 (FitL.nat hs.2) W)
theorem zi {q:Rat}(h1:q.num.natAbs<1000)(h2:q.den<1000):FitQ q:=⟨(show Sm 3 _ by unfold Sm;omega).mono (by decide),(show Sm 3 _ by unfold Sm;omega).mono (by decide)⟩
theorem qnd (q:Rat)(n:Int)(d:Nat)(a x y:ByteArray)(h:q.num=n∧q.den=d∧Sq q=a∧Sz n=x∧Sz (d:Int)=y):Sq q=a∧Fv q=.agg #[.string x,.string y]:=by
 obtain⟨h1,h2,h3,h4,h5⟩:=h;refine⟨h3,?_⟩;unfold Fv
 rw[h1,h2,h4,h5]
theorem q5:Sq 5=⟨#[53]⟩∧Fv 5=.agg #[.string ⟨#[53]⟩,.string ⟨#[49]⟩]:=qnd _ 5 1 _ _ _ (by decide +kernel)
theorem q_0:Sq (0:Rat)=⟨#[48]⟩:=by decide +kernel
theorem q_1:Sq (1:Rat)=⟨#[49]⟩:=by decide +kernel
end Go.Proofs.YtkiklcbhglpooaaGreatDoor
open Go.Lib (hid)
namespace Go.Proofs.YtkiklcbhglpooaaGreatDoor
open Go.RowKit Go.Gb
theorem zf (x:ByteArray)(w:World)(hl:La w)
 (g1:CL 24 #[.string x] (.bool true)) :
 CR 51 #[.string x] w (.tuple #[.agg #[.string x,.string x],.int .i64 0]):=by
 have C1:=hid g1;obtain⟨w0,hw0⟩:∃ w0:World,w0=(w.alloc (.cells #[.string ⟨#[]⟩,.string ⟨#[]⟩] 27)):=⟨_,rfl⟩;have hz0:w0.heap.size=w.heap.size+1:=by rw[hw0];simp
 have hB0:Below w.heap.size w w0:=by
  rw[hw0];repeat (first|exact Below.refl _ _|refine Below.setCell ?_ (by first|omega|(simp;omega)|simp) _|refine Below.alloc ?_ (by first|omega|(simp;omega)|simp) _|refine Below.drew ?_)
 have hS0:w0.cell? ⟨w.heap.size,0,none⟩=some (.string ⟨#[]⟩)∧w0.cell? ⟨w.heap.size,1,none⟩=some (.string ⟨#[]⟩):=by rw[hw0];exact⟨((aO).trans rfl),((aO).trans rfl)⟩
 have KS:=hid (show ∀ W:World,Below w0.heap.size w0 W→(W.cell? ⟨w.heap.size,0,none⟩=some (.string ⟨#[]⟩)∧W.cell? ⟨w.heap.size,1,none⟩=some (.string ⟨#[]⟩)) from fun W hB=>by
  obtain⟨c0,c1⟩:=hS0
  exact⟨(hB.cell (p:=⟨w.heap.size,0,none⟩) (by show w.heap.size<_;omega)).trans c0,(hB.cell (p:=⟨w.heap.size,1,none⟩) (by show w.heap.size<_;omega)).trans c1⟩)
 have KZ:=hid (show ∀ W:World,Below w0.heap.size w0 W→w.heap.size+1≤W.heap.size from fun W hB=>by have:=hB.size;omega);have KB:=hid (show ∀ W:World,Below w0.heap.size w0 W→Below w.heap.size w W from fun W hB=>hB0.trans (hB.mono (by omega)));have hR0:w0.cell? ⟨w.heap.size,0,none⟩=some (.string ⟨#[]⟩)∧w0.cell? ⟨w.heap.size,1,none⟩=some (.string ⟨#[]⟩)∧w0.frozen? ⟨w.heap.size,0,none⟩=false∧w0.frozen? ⟨w.heap.size,1,none⟩=false:=by rw[hw0];exact⟨((aO).trans rfl),((aO).trans rfl),(cz),(cz)⟩
 have KR:=hid (show ∀ W:World,Below w0.heap.size w0 W→(W.cell? ⟨w.heap.size,0,none⟩=some (.string ⟨#[]⟩)∧W.cell? ⟨w.heap.size,1,none⟩=some (.string ⟨#[]⟩)∧W.frozen? ⟨w.heap.size,0,none⟩=false∧W.frozen? ⟨w.heap.size,1,none⟩=false) from fun W hB=>by
  obtain⟨c0,c1,f0,f1⟩:=hR0
  exact⟨(hB.cell (p:=⟨w.heap.size,0,none⟩) (by show w.heap.size<_;omega)).trans c0,(hB.cell (p:=⟨w.heap.size,1,none⟩) (by show w.heap.size<_;omega)).trans c1,(hB.frozen (p:=⟨w.heap.size,0,none⟩) (by show w.heap.size<_;omega)).trans f0,(hB.frozen (p:=⟨w.heap.size,1,none⟩) (by show w.heap.size<_;omega)).trans f1⟩)
 clear hR0;have F0:=hid (Below.refl w0.heap.size w0);have HW0:=hid hw0;clear hz0 hB0 hS0 hw0;have HL:=hid (show ∀ W:World,Below w0.heap.size w0 W→La W from fun W hB=>hl.on (KB.o W hB));clear hl g1;go_enter func51,ntmps51
 go_wp2_with fail
 rw[← HW0.o];obtain⟨d0,d1⟩:=KS.o _ F0.o;go_wp2_with fail
 refine(C1.o _ (HL.o _ F0.o)).mono ?_;rintro e w1 ⟨rfl,hb⟩;have F1:=hid (ak F0.o hb);clear hb d0 d1;obtain⟨d0,d1⟩:=KS.o _ F1.o
 all_goals
  obtain⟨m0,m1,n0,n1⟩:=KR.o _ F1.o;have hz:=KZ.o _ F1.o;go_wp2;refine bodyPost_ret (v:=.tuple #[.agg #[.string x,.string x],.int .i64 0]) (by simp[results,results51,go_sem,m0,m1]) rfl ⟨rfl,?_⟩;repeat (first|exact KB.o _ F1.o|refine Below.setCell ?_ (by first|omega|(simp;omega)|simp) _|refine Below.alloc ?_ (by first|omega|(simp;omega)|simp) _|refine Below.drew ?_)
open Go.Lib (hid)
theorem nT (x pt t f r:ByteArray)(u:World)(hl:La u)
 (h1:CL 65 #[.string x,.string pt] (.tuple #[.string t,.int .i64 0]))
 (h2:CL 165 #[.string t] (.tuple #[.string f,.int .i64 0]))
 (h3:CL 167 #[.string f,.string pt] (.tuple #[.string r,.int .i64 0])) :
 CR 117 #[.string x,.string pt] u (.string r):=by
 obtain ⟨C1,C2,C3⟩:=av h1 h2 h3;have HL:=hid (show ∀ W:World,Below u.heap.size u W→La W from fun W hB=>hl.on hB);have F0:=hid (Below.refl u.heap.size u);clear hl h1 h2 h3;go_enter func117,ntmps117
 go_wp2_with fail
 refine(C1.o _ (HL.o _ F0.o)).mono ?_;rintro e w1 ⟨rfl,hb⟩;have F1:=hid (ak F0.o hb);clear hb;go_wp2_with fail
 refine(C2.o _ (HL.o _ F1.o)).mono ?_;rintro e w2 ⟨rfl,hb⟩;have F2:=hid (ak F1.o hb);clear hb;go_wp2_with fail
 refine(C3.o _ (HL.o _ F2.o)).mono ?_;rintro e w3 ⟨rfl,hb⟩;have F3:=hid (ak F2.o hb);clear hb;go_wp2;go_ret
 exact⟨rfl,F3.o⟩
theorem z2T (x r:ByteArray)(u:World)(hl:La u)
 (h1:CL 53 #[.string ⟨#[48]⟩,.string x] (.tuple #[.string r,.int .i64 0])) :
 CR 118 #[.string x] u (.string r):=by
 have C1:=hid h1;have HL:=hid (show ∀ W:World,Below u.heap.size u W→La W from fun W hB=>hl.on hB);have F0:=hid (Below.refl u.heap.size u);clear hl h1;go_enter func118,ntmps118
 go_wp2_with fail
 refine(C1.o _ (HL.o _ F0.o)).mono ?_;rintro e w1 ⟨rfl,hb⟩;have F1:=hid (ak F0.o hb);clear hb;go_wp2;go_ret
 exact⟨rfl,F1.o⟩
theorem ze (l h pt p q r s:ByteArray)(n:Int)(hn1:decide (n<1)=false)(hn2:decide (1000000000<n)=false)(w:World)(hl:La w)
 (g1:CL 39 #[.agg #[.string l,.string h]] (.bool true))
 (g2:CL 116 #[.int .i64 n] (.string pt))
 (g3:CL 117 #[.string l,.string pt] (.string p))
 (g4:CL 118 #[.string h] (.string q))
 (g5:CL 117 #[.string q,.string pt] (.string r))
 (g6:CL 118 #[.string r] (.string s)) :
 CR 59 #[.agg #[.string l,.string h],.int .i64 n] w (.tuple #[.agg #[.string p,.string s],.int .i64 0]):=by
 obtain ⟨C1,C2,C3,C4,C5,C6⟩:=dw g1 g2 g3 g4 g5 g6;obtain⟨w0,hw0⟩:∃ w0:World,w0=((w.alloc (.cells #[.string l,.string h] 27)).alloc (.cells #[.string ⟨#[]⟩,.string ⟨#[]⟩] 27)):=⟨_,rfl⟩;have hz0:w0.heap.size=w.heap.size+2:=by rw[hw0];simp
 have hB0:Below w.heap.size w w0:=by
  rw[hw0];repeat (first|exact Below.refl _ _|refine Below.setCell ?_ (by first|omega|(simp;omega)|simp) _|refine Below.alloc ?_ (by first|omega|(simp;omega)|simp) _|refine Below.drew ?_)
 have hS0:w0.cell? ⟨w.heap.size,0,none⟩=some (.string l)∧w0.cell? ⟨w.heap.size,1,none⟩=some (.string h):=by rw[hw0];exact⟨((q_lt).trans ((aO).trans rfl)),((q_lt).trans ((aO).trans rfl))⟩
 have KS:=hid (show ∀ W:World,Below w0.heap.size w0 W→(W.cell? ⟨w.heap.size,0,none⟩=some (.string l)∧W.cell? ⟨w.heap.size,1,none⟩=some (.string h)) from fun W hB=>by
  obtain⟨c0,c1⟩:=hS0
  exact⟨(hB.cell (p:=⟨w.heap.size,0,none⟩) (by show w.heap.size<_;omega)).trans c0,(hB.cell (p:=⟨w.heap.size,1,none⟩) (by show w.heap.size<_;omega)).trans c1⟩)
 have KZ:=hid (show ∀ W:World,Below w0.heap.size w0 W→w.heap.size+2≤W.heap.size from fun W hB=>by have:=hB.size;omega);have KB:=hid (show ∀ W:World,Below w0.heap.size w0 W→Below w.heap.size w W from fun W hB=>hB0.trans (hB.mono (by omega)));have hR0:w0.cell? ⟨w.heap.size+1,0,none⟩=some (.string ⟨#[]⟩)∧w0.cell? ⟨w.heap.size+1,1,none⟩=some (.string ⟨#[]⟩)∧w0.frozen? ⟨w.heap.size+1,0,none⟩=false∧w0.frozen? ⟨w.heap.size+1,1,none⟩=false:=by rw[hw0];exact⟨((aO).trans rfl),((aO).trans rfl),(cz),(cz)⟩
 have KR:=hid (show ∀ W:World,Below w0.heap.size w0 W→(W.cell? ⟨w.heap.size+1,0,none⟩=some (.string ⟨#[]⟩)∧W.cell? ⟨w.heap.size+1,1,none⟩=some (.string ⟨#[]⟩)∧W.frozen? ⟨w.heap.size+1,0,none⟩=false∧W.frozen? ⟨w.heap.size+1,1,none⟩=false) from fun W hB=>by
  obtain⟨c0,c1,f0,f1⟩:=hR0
  exact⟨(hB.cell (p:=⟨w.heap.size+1,0,none⟩) (by show w.heap.size+1<_;omega)).trans c0,(hB.cell (p:=⟨w.heap.size+1,1,none⟩) (by show w.heap.size+1<_;omega)).trans c1,(hB.frozen (p:=⟨w.heap.size+1,0,none⟩) (by show w.heap.size+1<_;omega)).trans f0,(hB.frozen (p:=⟨w.heap.size+1,1,none⟩) (by show w.heap.size+1<_;omega)).trans f1⟩)
 clear hR0
 have KT0:=hid (show ∀ (W:World) (v u:Value),Below w0.heap.size w0 W→(((W.setCell ⟨w.heap.size+1,0,none⟩ v).setCell ⟨w.heap.size+1,1,none⟩ u).cell? ⟨w.heap.size,0,none⟩=some (.string l)∧((W.setCell ⟨w.heap.size+1,0,none⟩ v).setCell ⟨w.heap.size+1,1,none⟩ u).cell? ⟨w.heap.size,1,none⟩=some (.string h)) from fun W v u hB=>by
  have hh:=KS.o W hB;obtain⟨c0,c1⟩:=hh
  exact⟨(bA (by omega)).trans ((bA (by omega)).trans c0),(bA (by omega)).trans ((bA (by omega)).trans c1)⟩)
 have F0:=hid (Below.refl w0.heap.size w0);have HW0:=hid hw0;clear hz0 hB0 hS0 hw0;have HL:=hid (show ∀ W:World,Below w0.heap.size w0 W→La W from fun W hB=>hl.on (KB.o W hB));clear hl g1 g2 g3 g4 g5 g6;go_enter func59,ntmps59
 go_wp2_with fail
 rw[← HW0.o];obtain⟨d0,d1⟩:=KS.o _ F0.o;go_wp2_with fail
 refine(C1.o _ (HL.o _ F0.o)).mono ?_;rintro e w1 ⟨rfl,hb⟩;have F1:=hid (ak F0.o hb);clear hb d0 d1;obtain⟨d0,d1⟩:=KS.o _ F1.o;go_wp2_with fail
 refine(C2.o _ (HL.o _ F1.o)).mono ?_;rintro e w2 ⟨rfl,hb⟩;have F2:=hid (ak F1.o hb);clear hb d0 d1;obtain⟨d0,d1⟩:=KS.o _ F2.o;go_wp2_with fail
 go_region_held3 (fun w'=>w'.cell? ⟨w.heap.size,0,none⟩=some (.string l)∧w'.cell? ⟨w.heap.size,1,none⟩=some (.string h)) (first|(with_reducible exact KS.o _ F6.o)|(with_reducible exact KS.o _ F6.o.drew)|(with_reducible exact KS.o _ F5.o)|(with_reducible exact KS.o _ F5.o.drew)|(with_reducible exact KS.o _ F4.o)|(with_reducible exact KS.o _ F4.o.drew)|(with_reducible exact KS.o _ F3.o)|(with_reducible exact KS.o _ F3.o.drew)|(with_reducible exact KS.o _ F2.o)|(with_reducible exact KS.o _ F2.o.drew)|(with_reducible exact KT0.o _ _ _ F6.o)|(with_reducible exact KT0.o _ _ _ F6.o.drew))
  (first
   | (go_at_call 117;(with_reducible refine(C3.o _ ?la2).mono ?_);(case la2=>first|exact HL.o _ F2.o|exact HL.o _ F2.o.drew);rintro e w3 ⟨rfl,hb⟩;have F3:=hid (show Below w0.heap.size w0 w3 by first|exact ak F2.o hb|exact ak F2.o.drew hb);clear hb)
   | (go_at_call 118;(with_reducible refine(C4.o _ ?la3).mono ?_);(case la3=>first|exact HL.o _ F3.o|exact HL.o _ F3.o.drew);rintro e w4 ⟨rfl,hb⟩;have F4:=hid (show Below w0.heap.size w0 w4 by first|exact ak F3.o hb|exact ak F3.o.drew hb);clear hb)
   | (go_at_call 117;(with_reducible refine(C5.o _ ?la4).mono ?_);(case la4=>first|exact HL.o _ F4.o|exact HL.o _ F4.o.drew);rintro e w5 ⟨rfl,hb⟩;have F5:=hid (show Below w0.heap.size w0 w5 by first|exact ak F4.o hb|exact ak F4.o.drew hb);clear hb)
   | (go_at_call 118;(with_reducible refine(C6.o _ ?la5).mono ?_);(case la5=>first|exact HL.o _ F5.o|exact HL.o _ F5.o.drew);rintro e w6 ⟨rfl,hb⟩;have F6:=hid (show Below w0.heap.size w0 w6 by first|exact ak F5.o hb|exact ak F5.o.drew hb);clear hb;have hz:=KZ.o _ F6.o;obtain⟨m0,m1,n0,n1⟩:=KR.o _ F6.o)
   | fail)
 all_goals
  have hz:=KZ.o _ F6.o;go_wp2;refine bodyPost_ret (v:=.tuple #[.agg #[.string p,.string s],.int .i64 0]) (by simp[results,results59,go_sem,m0,m1]) rfl ⟨rfl,?_⟩;repeat (first|exact KB.o _ F6.o|refine Below.setCell ?_ (by first|omega|(simp;omega)|simp) _|refine Below.alloc ?_ (by first|omega|(simp;omega)|simp) _|refine Below.drew ?_)
def Vq (x y:Rat):Value:=.agg #[.string (Sq x),.string (Sq y)]
theorem z5I {x y:Rat}(h:x≤y):cmpQ x y≤0:=by
 rcases j6 x y with⟨h,e⟩|⟨h,e⟩|⟨h,e⟩<;>rw[e]<;>grind
theorem qj (x y:Rat)(h:x≤y)(hx:FitQ x)(hy:FitQ y)(w:World)(hl:La w) :
 CR 39 #[Vq x y] w (.bool true) :=
 oP _ _ _ (z5I h) w hl (fun W hW=>xI x y _ rfl hx hy W hW)
theorem z5D (x:Rat)(hx:FitQ x)(w:World)(hl:La w) :
 CR 51 #[.string (Sq x)] w (.tuple #[Vq x x,.int .i64 0]) :=
 zf _ w hl (fun W hW=>pQ x hx W hW)
theorem fq00:FitQ 0:=zi (by decide +kernel) (by decide +kernel)
def rdQ (x:Rat) (n:Int):Rat:=Rat.divInt ((x*Rat.ofInt n).num / ((x*Rat.ofInt n).den:Int)) n
theorem z07 {k:Nat}{z:Int}(h:Sm k z.natAbs)(hk:1≤k):SmQ k (Rat.ofInt z):=⟨h,(show Sm 1 1 by simp[Sm]).mono hk⟩
theorem kR {k:Nat}{x:Rat}(h:SmQ k x)(hk:1≤k):Sm (k+1) (x.num / (x.den:Int)).natAbs:=by
 refine Sm.le (n:=x.num.natAbs+1) (Sm.add h.1 ((show Sm 1 1 by simp[Sm]).mono hk)) ?_;have:=Int.natAbs_ediv_le_natAbs x.num (x.den:Int);omega
theorem z5V {k:Nat}{x:Rat}{n:Int}(hx:SmQ k x)(hn:Sm 10 n.natAbs)(hn0:n≠0):SmQ (k+10+1) (rdQ x n):=by
 unfold rdQ
 exact lN hn0 (kR (hx.mul (z07 hn (by decide))) (by omega)) (hn.mono (by omega))
theorem ql {k:Nat}(x:Rat)(n:Int)(hk:k≤800)(hx:SmQ k x)(hn:Sm 10 n.natAbs)(hn0:n≠0)(w:World)(hl:La w) :
 CR 117 #[.string (Sq x),.string (Sz n)] w (.string (Sq (rdQ x n))):=by
 have hm:SmQ (k+10) (x*Rat.ofInt n):=hx.mul (z07 hn (by decide));have h1:=fun W hW=>qMul x (Rat.ofInt n) _ rfl (hx.fit (by omega)) ((z07 hn (by decide)).fit (by decide)) W hW;rw[qM]at h1
 exact nT _ _ _ _ _ w hl h1 (fun W hW=>z3W _ (hm.fit (by omega)) W hW)
  (fun W hW=>z6f _ n hn0 (FitL.of (kR hm (by omega)) (by omega)) (FitL.of hn (by decide)) W hW)
theorem iNeg (x y:Rat)(h:0-x=y)(hx:FitQ x)(w:World)(hl:La w) :
 CR 118 #[.string (Sq x)] w (.string (Sq y)):=by
 have h1:=fun W hW=>qSub 0 x y h fq00 hx W hW;rw[q_0]at h1;exact z2T _ _ w hl h1
theorem z5B (n:Int)(h0 : -9223372036854775808≤n)(h1:n≤9223372036854775807)(w:World)(hl:La w) :
 CR 116 #[.int .i64 n] w (.string (Sz n)):=by
 have h:=Tryz.strconv_Itoa n h0 h1 w hl.tb;rw[z0V]at h;exact h.mono (fun e w' ⟨e1,k,os,e2⟩=>⟨e1,e2▸Lib.below_grow w.heap.size w (Nat.le_refl _) k os⟩)
theorem z5C {k:Nat}(a b:Rat)(n:Int)(hk:k≤790)(h:a≤b)(ha:SmQ k a)(hb:SmQ k b)(hn1:1≤n)(hn2:n≤1000000000)(w:World)(hl:La w) :
 CR 59 #[Vq a b,.int .i64 n] w (.tuple #[Vq (rdQ a n) (0-rdQ (0-b) n),.int .i64 0]):=by
 have hn:Sm 10 n.natAbs:=by
  have:n.natAbs<10^10:=by omega
  exact this
 have hq:SmQ (k+2) (0-b):=((show SmQ 1 0 from⟨by unfold Sm;decide +kernel,by unfold Sm;decide +kernel⟩).sub hb).mono (by omega);have hr:=z5V (n:=n) hq hn (by omega)
 exact ze _ _ _ _ _ _ _ n (by rw[decide_eq_false_iff_not];omega) (by rw[decide_eq_false_iff_not];omega) w hl (fun W hW=>qj a b h (ha.fit (by omega)) (hb.fit (by omega)) W hW)
  (fun W hW=>z5B n (by omega) (by omega) W hW) (fun W hW=>ql a n (by omega) ha hn (by omega) W hW) (fun W hW=>iNeg b _ rfl (hb.fit (by omega)) W hW)
  (fun W hW=>ql _ n (by omega) hq hn (by omega) W hW) (fun W hW=>iNeg _ _ rfl (hr.fit (by omega)) W hW)
theorem ko (n:Nat):Sn n=Sq ((n:Nat):Rat):=by
 rw[← dC];exact(qM (n:Int)).symm
theorem dZ {k n:Nat}(h:Sm k n)(hk:1≤k):SmQ k ((n:Nat):Rat) :=
 ⟨(show Sm k (((n:Nat):Rat)).num.natAbs from by simpa using h),(show Sm k (((n:Nat):Rat)).den from by
   have:(((n:Nat):Rat)).den=1:=rfl;rw[this]
   exact(show Sm 1 1 by unfold Sm;decide).mono hk)⟩
theorem lU {x y z:Rat}(h:x+y=z)(hx:FitQ x)(hy:FitQ y)(w:World)(hla:La w):CV w 25 #[.string (Sq x),.string (Sq y)] (.string (Sq z)) :=
 z0z _ _ _ 0 w (fun W hW=>qAdd x y z h hx hy W (hla.on hW))
theorem fZ {x y z:Rat}(h:x*y=z)(hx:FitQ x)(hy:FitQ y)(w:World)(hla:La w):CV w 26 #[.string (Sq x),.string (Sq y)] (.string (Sq z)) :=
 yN _ _ _ 0 w (fun W hW=>qMul x y z h hx hy W (hla.on hW))
theorem rD {x y z:Rat}(h:x / y=z)(hx:FitQ x)(hy:FitQ y)(h0:y≠0)(w:World)(hla:La w):CV w 56 #[.string (Sq x),.string (Sq y)] (.string (Sq z)) :=
 z0B _ _ _ 0 w (fun W hW=>qDiv x y z h hx hy h0 W (hla.on hW))
theorem rE {x y:Rat}{c:Int}(h:cmpQ x y=c)(hx:FitQ x)(hy:FitQ y)(w:World)(hla:La w):CV w 111 #[.string (Sq x),.string (Sq y)] (.int .i64 c) :=
 yP _ _ _ 0 w (fun W hW=>xI x y c h hx hy W (hla.on hW))
theorem rF {x:Rat}{z:Int}(h:x.num / (x.den:Int)=z)(hx:FitQ x)(w:World)(hla:La w):CV w 115 #[.string (Sq x)] (.string (Sz z)) :=
 yS _ _ 0 w (fun W hW=>h▸z3W x hx W (hla.on hW))
theorem z5v:Sq ((1:Rat) / 2)=⟨#[49,47,50]⟩:=by decide +kernel
theorem z5s {n g:Nat}{k:Nat}(hg:1≤g)(hn:Sm k n)(hgs:Sm k g)(hk:1≤k)(hk2:k≤880)(w:World)(hla:La w) :
 CV w 56 #[.string (Sn n),.string (Sn g)] (.string (Sq (((n:Nat):Rat) / ((g:Nat):Rat)))) ∧
 CV w 115 #[.string (Sq (((n:Nat):Rat) / ((g:Nat):Rat)))] (.string (Sn (n / g))) ∧
 CV w 25 #[.string (Sn g),.string (Sn (n / g))] (.string (Sn (g+n / g))) ∧
 CV w 26 #[.string (Sn (g+n / g)),.string ⟨#[49,47,50]⟩] (.string (Sq (((g+n / g:Nat):Rat)*((1:Rat) / 2)))) ∧
 CV w 115 #[.string (Sq (((g+n / g:Nat):Rat)*((1:Rat) / 2)))] (.string (Sn ((g+n / g) / 2))):=by
 have g0:((g:Nat):Rat)≠0:=by
  intro h;have:=Rat.intCast_eq_zero_iff.1 (show(((g:Nat):Int):Rat)=0 from h);omega
 have qn:=dZ hn hk;have qg:=dZ hgs hk
 have qq:SmQ k (((n:Nat):Rat) / ((g:Nat):Rat)):=by
  have h:=lN (k:=k) (a:=(n:Int)) (b:=(g:Int)) (by omega) (by simpa using hn) (by simpa using hgs);rw[Rat.divInt_eq_div]at h;exact h
 have hd:Sm k (n / g):=hn.le (Nat.div_le_self _ _);have qd:=dZ hd hk;have hs:Sm (k+1) (g+n / g):=Sm.add hgs hd;have qs:=dZ hs (by omega);have hh:SmQ 1 ((1:Rat) / 2):=⟨by unfold Sm;decide +kernel,by unfold Sm;decide +kernel⟩;refine⟨?_,?_,?_,?_,?_⟩
 · rw[ko,ko]
   exact rD rfl (qn.fit (by omega)) (qg.fit (by omega)) g0 w hla
 · have h:=rF (x:=((n:Nat):Rat) / ((g:Nat):Rat)) (z:=((n / g:Nat):Int)) (by
    have:=qw (n:Int) (g:Int) (by omega);rw[Int.natCast_ediv]
    exact this) (qq.fit (by omega)) w hla
   rwa [dC]at h
 · rw[ko,ko,ko]
   exact lU (by rw[Rat.natCast_add]) (qg.fit (by omega)) (qd.fit (by omega)) w hla
 · rw[ko,← z5v]
   exact fZ rfl (qs.fit (by omega)) (hh.fit (by decide)) w hla
 · have h:=rF (x:=((g+n / g:Nat):Rat)*((1:Rat) / 2)) (z:=(((g+n / g) / 2:Nat):Int)) (by
    have e:((g+n / g:Nat):Rat)*((1:Rat) / 2)=(((g+n / g:Nat):Int):Rat) / ((2:Int):Rat):=by
        have e1:(((g+n / g:Nat):Int):Rat)=((g+n / g:Nat):Rat):=rfl;have e2:((2:Int):Rat)=2:=rfl;rw[e1,e2];grind
    rw[e,qw _ 2 (by decide),Int.natCast_ediv]
    rfl) ((qs.mul hh).fit (by omega)) w hla
   rwa [dC]at h
end Go.Proofs.YtkiklcbhglpooaaGreatDoor
namespace Go.Gb
open Go Go.RowKit
theorem SBk.row {w:World}{g:Nat}{cs:Array Value}{T:TypeId}(h:SBk w g cs T)(ds:Array Value):SBk (w.setRow g ds) g ds T:=setRow_heap w g cs ds T (0,0) h
end Go.Gb
namespace Go.Proofs.YtkiklcbhglpooaaGreatDoor
open Go.RowKit Go.Gb
set_option linter.unusedSimpArgs false
set_option linter.unusedVariables false
abbrev KI2 (f:Nat) (x y:Rat) (v:Value):Prop:=∀ (qa qb:QS) (W:World),FQ W qa x→FQ W qb y→Calls Tryz.prog f #[.agg #[.bool qa.b,.slice qa.a qa.n qa.c,.slice qa.e qa.m qa.d,.bool qb.b,.slice qb.a qb.n qb.c,.slice qb.e qb.m qb.d]] W (RP W v)
abbrev Qii (qa qb:QS):Value:=.agg #[.bool qa.b,.slice qa.a qa.n qa.c,.slice qa.e qa.m qa.d,.bool qb.b,.slice qb.a qb.n qb.c,.slice qb.e qb.m qb.d]
theorem dI {f:FuncId}{args:Array Value}{w:World}{v:Value}(h:Calls Tryz.prog f args w fun e w'=>e=.returned v∧w=w'):Calls Tryz.prog f args w fun e w'=>e=.returned v∧Below w.heap.size w w':=by
 refine h.mono ?_;rintro e w' ⟨rfl,rfl⟩;exact⟨rfl,Below.refl _ _⟩
theorem wD {s:ByteArray}{k:Nat}(h:k<s.size):s[k]=s.data.toList[k]'(by rw[aB];exact h):=(gp s k h).symm
theorem tH (s:ByteArray)(hn:(47:UInt8)∉s.data.toList)(hs:s.size≤2000)(W:World) :
 CR 68 #[.string s] W (.tuple #[.string s,.string ⟨#[49]⟩,.bool false]) :=
 dI (z2d s (fun k h e=>hn (by rw[← e,wD h];exact List.getElem_mem _)) (by unfold maxLen;omega) W)
theorem pM (s:ByteArray)(x y:List UInt8)(hl:s.data.toList=x++47 :: y)(hn:(47:UInt8)∉x)(hs:s.size≤2000)(W:World) :
 CR 68 #[.string s] W (.tuple #[.string ⟨x.toArray⟩,.string ⟨y.toArray⟩,.bool true]):=by
 have hsz:s.size=x.length+(y.length+1):=by rw[← aB,hl];simp
 have hxs:(⟨x.toArray⟩:ByteArray).size=x.length:=by show x.toArray.size=_;simp
 refine z01 s ⟨x.toArray⟩ ⟨y.toArray⟩ (by omega) ?_ ?_ ?_ ?_ (by unfold maxLen;omega) W
 · intro k hk h2 e
   apply hn
   rw[← e,wD h2];simp only[hl];rw[List.getElem_append_left (by omega)];exact List.getElem_mem _
 · rw[wD (by omega)]
   simp only[hl,hxs];rw[List.getElem_append_right (Nat.le_refl _)];simp
 · apply ByteArray.ext;apply Array.ext'
   rw[gB,hl,hxs];simp
 · apply ByteArray.ext;apply Array.ext'
   rw[gB,hl,hxs,hsz];simp;exact List.take_of_length_le (by omega)
theorem z3S (q:Rat)(hq:SmQ 900 q)(hs:(Sq q).size≤2000)(W:World) :
 Calls Tryz.prog 28 #[.string (Sq q)] W fun e w'=>∃ p c s d,e=.returned (.tuple #[.agg #[.bool (ai q.num),.slice p (ae q.num) c,.slice s (ah q.den) d],.bool true])∧RN w' (.slice p (ae q.num) c) q.num.natAbs∧RN w' (.slice s (ah q.den) d) q.den∧Below W.heap.size W w':=by
 have fn:FitZ q.num:=by unfold FitZ Fit;exact Sm.mono hq.1 (by decide)
 have z1:(Sz q.num).size≤901:=ky hq.1 (by decide);have z2:(Sn q.den).size≤900:=fP hq.2 (by decide);have hR:=fun W=>z0f (z4Z q.num fn W);by_cases hd:q.den=1
 · rw[jy hd]at hs ⊢
   rw[hd];refine z2X (Sz q.num) (Sz q.num) ⟨#[49]⟩ q.num 1 W (fun W=>tH _ (z1W 47 (by decide) (by decide) _) hs W) (fun W=>dI (uY q.num (by omega) W)) (fun W=>dI ?_) hR (fun W=>?_)
   · exact gV ⟨#[49]⟩ W (by decide)
   · exact nK (jO ⟨#[49]⟩ (by decide) (by decide) W)
 · have hn0:q.num≠0:=by
    intro e;have:=q.reduced;rw[e]at this;unfold Nat.Coprime at this
    rw[Int.natAbs_zero,Nat.gcd_zero_left]at this;exact hd this
   have hd1:1<q.den:=by have:=q.den_pos;omega
   have lz:ae q.num≤900:=fT hq.1 (by decide);have ln:ah q.den≤900:=fT hq.2 (by decide);have e0:Sn q.den=⟨(Lib.decDigits q.den).toArray⟩:=rfl;have e1:(⟨(Sz q.num).data.toList.toArray⟩:ByteArray)=Sz q.num:=by simp
   have hsp:=fun W=>pM (Sq q) _ _ (iD hd) (z1W 47 (by decide) (by decide) _) hs W;rw[e1,← e0]at hsp
   refine z1b (Sq q) (Sz q.num) (Sn q.den) q.num 1 q.num.sign q.den 1 1 (by decide) (fun e=>hn0 (Int.sign_eq_zero_iff_zero.1 e)) W hsp (fun W=>dI (uY q.num (by omega) W)) (fun W=>dI ?_) hR (fun W=>?_)
    (fun W=>kJ 1 1 rfl (by decide) W) (fun s1 d1 s2 d2 W h1 h2=>?_) (fun p c W h=>vv q.num _ rfl p c W h) (fun p1 c1 s2 d2 W h1 h2=>?_) (fun s1 d1 s2 d2 W h1 h2=>?_)
   · have h:=gV (Sn q.den) W (by unfold maxLen;omega)
     rwa [eP]at h
   · have h:=nK (jO (Sn q.den) (by rw[bQ];exact jl _) (by omega) W)
     rwa [bR]at h
   · have h:=cCmp (.slice s1 (ah q.den) d1) (.slice s2 (ah 1) d2) q.den 1 (by omega) W h1 h2
     rwa [show cmpN q.den 1=1 by unfold cmpN;rw[if_neg (by omega),if_pos hd1]]at h
   · exact oh _ _ _ _ 1 q.reduced (Nat.le_trans lz (by decide)) (by omega) W h1 h2
   · have h:=cCmp (.slice s1 (ah 1) d1) (.slice s2 (ah 1) d2) 1 1 (by rw[jQ];decide) W h1 h2
     rwa [show cmpN 1 1=0 by decide]at h
theorem z6b (q:Rat)(hq:SmQ 900 q)(hs:(Sq q).size≤1000)(W:World) :
 Calls Tryz.prog 28 #[.string (Sq q)] W fun e w'=>∃ p c s d,e=.returned (.tuple #[.agg #[.bool (ai q.num),.slice p (ae q.num) c,.slice s (ah q.den) d],.bool true])∧RN w' (.slice p (ae q.num) c) q.num.natAbs∧RN w' (.slice s (ah q.den) d) q.den∧Below W.heap.size W w':=z3S q hq (by omega) W
theorem z2h (a:ByteArray)(hv:vldQ a.data.toList=false)(hs:a.size≤900)(W:World) :
 Calls Tryz.prog 28 #[.string a] W fun e w'=>∃ p c s d,e=.returned (.tuple #[.agg #[.bool (ai (0:Rat).num),.slice p (ae (0:Rat).num) c,.slice s (ah (0:Rat).den) d],.bool false])∧RN w' (.slice p (ae (0:Rat).num) c) (0:Rat).num.natAbs∧RN w' (.slice s (ah (0:Rat).den) d) (0:Rat).den∧Below W.heap.size W w':=by
 have hI:=fun W=>z4m 0 0 0 rfl (by decide) rfl rfl W;rcases o5 47 a.data.toList with⟨h47,e⟩|⟨x,y,h47,el,e⟩
 · unfold vldQ at hv
   rw[e]at hv;simp only[Bool.false_eq_true,if_false]at hv;exact uy a a ⟨#[49]⟩ _ _ false W (fun W=>tH a h47 (by omega) W) (fun W=>dI (pg a hv (by omega) W)) hI
 · have hlen:x.length+(y.length+1)=a.size:=by rw[← aB,el];simp
   have hsp:=fun W=>pM a x y el h47 (by omega) W;have sx:(⟨x.toArray⟩:ByteArray).size≤1000:=by show x.toArray.size≤1000;simp;omega
   have sy:(⟨y.toArray⟩:ByteArray).size≤900:=by show y.toArray.size≤900;simp;omega
   unfold vldQ at hv
   rw[e]at hv;simp only[if_true]at hv
   cases hx:vldZ x with
   | false=>exact uy a ⟨x.toArray⟩ ⟨y.toArray⟩ _ _ true W hsp (fun W=>dI (pg ⟨x.toArray⟩ (by simpa using hx) sx W)) hI
   | true =>
     obtain⟨z,hz⟩:∃ z,z=zval x:=⟨_,rfl⟩;have ex:(⟨x.toArray⟩:ByteArray)=Sz z:=by rw[hz];have:=zV (a:=⟨x.toArray⟩) (by simpa using hx);simpa using this
     have sx2:(Sz z).size≤900:=by rw[← ex];show x.toArray.size≤900;simp;omega
     rw[ex]at hsp sx;have hVx:=fun W=>dI (uY z sx W)
     cases hy:vld y with
     | false =>
       refine z1c a (Sz z) ⟨y.toArray⟩ _ _ true W hsp hVx (fun W=>dI ?_) hI;have h:=gV ⟨y.toArray⟩ W (by unfold maxLen;omega);rwa [show vld (⟨y.toArray⟩:ByteArray).data.toList=false by simpa using hy]at h
     | true =>
       obtain⟨n,hn⟩:∃ n,n=aH y:=⟨_,rfl⟩;have ey:(⟨y.toArray⟩:ByteArray)=Sn n:=by rw[hn];have:=z5U (a:=⟨y.toArray⟩) (by simpa using hy);simpa using this
       have yl:y=Lib.decDigits n:=by
        have:=congrArg (fun b:ByteArray=>b.data.toList) ey;simpa [bQ] using this
       rw[ey]at hsp sy
       have hVy:CQ 70 #[.string (Sn n)] (.bool true):=fun W=>dI (by
        have h:=gV (Sn n) W (by unfold maxLen;omega)
        rwa [eP]at h)
       have kz:Sm 900 z.natAbs:=jA sx2;have kn:Sm 900 n:=by have:=Sm.of (a:=Sn n) (eP n) sy;rwa [bR]at this
       have lz:ae z≤900:=fT kz (by decide);have ln:ah n≤900:=fT kn (by decide);have hR:=fun W=>z0f (z4Z z (by unfold FitZ Fit;exact Sm.mono kz (by decide)) W)
       have hF:∀ W,CN 72 #[.string (Sn n)] W n:=fun W=>by
        have h:=nK (jO (Sn n) (by rw[bQ];exact jl _) (by omega) W);rwa [bR]at h
       have hO:=fun W=>kJ 1 1 rfl (by decide) W;have hC:=fun(s1:Option Addr) (d1:Nat) (s2:Option Addr) (d2:Nat) W h1 h2=>cCmp (.slice s1 (ah n) d1) (.slice s2 (ah 1) d2) n 1 (by omega) W h1 h2;have hS:=fun p c W h=>vv z _ rfl p c W h;by_cases n1:n≤1
       · exact zh a (Sz z) (Sn n) z (cmpN n 1) _ n 1 _ (by unfold cmpN;split<;>first|(split<;>omega)|omega) W hsp hVx hVy hR hF hO hC hI
       · have hk:0<cmpN n 1:=by unfold cmpN;rw[if_neg (by omega),if_pos (by omega)];decide
         by_cases z0:z=0
         · subst z0
           exact z1a a (Sz 0) (Sn n) 0 (cmpN n 1) _ n 1 _ hk W hsp hVx hVy hR hF hO hC hS hI
         · have hsg:z.sign≠0:=fun e=>z0 (Int.sign_eq_zero_iff_zero.1 e)
           have hG:=fun(p1:Option Addr) (c1:Nat) (s2:Option Addr) (d2:Nat) W h1 h2=>oh (.slice p1 (ae z) c1) (.slice s2 (ah n) d2) z.natAbs n _ rfl (Nat.le_trans lz (by decide)) (by omega) W h1 h2;have lg:ah (Nat.gcd z.natAbs n)≤900:=Nat.le_trans (fH (Nat.gcd_le_right _ (by omega))) ln;by_cases g1:Nat.gcd z.natAbs n=1
           · exfalso
             have:vldP x y=true:=by
              unfold vldP
              rw[hx,yl,qK,mV,← hz]
              have e1:(Lib.decDigits n==[49])=false:=by
                rw[beq_eq_false_iff_ne];intro e
                have e2:Sn n=Sn 1:=by
                 apply ByteArray.ext;apply Array.ext'
                 rw[bQ,e];decide +kernel
                have:=z3K e2;omega
              rw[e1];simp[g1]
              omega
             rw[this]at hv;cases hv
           · refine vS a (Sz z) (Sn n) z (cmpN n 1) (cmpN (Nat.gcd z.natAbs n) 1) _ _ n 1 (Nat.gcd z.natAbs n) _ hk hsg ?_ W hsp hVx hVy hR hF hO hC hS hG (fun s1 d1 s2 d2 W h1 h2=>cCmp _ _ _ _ (by omega) W h1 h2) hI
             unfold cmpN
             split
             · decide
             · split
               · decide
               · omega
theorem z3N {q:Rat}{k:Nat}(h:SmQ k q)(h0:0<k)(hk:k≤10000):LQ q:=⟨Nat.le_trans (fT h.1 h0) hk,Nat.le_trans (fT h.2 h0) hk⟩
theorem z0e (a:ByteArray)(ha:a.size≤900):∃ q:Rat,∀ W,Calls Tryz.prog 28 #[.string a] W fun e w'=>∃ p c s d,e=.returned (.tuple #[.agg #[.bool (ai q.num),.slice p (ae q.num) c,.slice s (ah q.den) d],.bool (vldQ a.data.toList)])∧RN w' (.slice p (ae q.num) c) q.num.natAbs∧RN w' (.slice s (ah q.den) d) q.den∧Below W.heap.size W w':=by
 cases h:vldQ a.data.toList with
 | false=>exact⟨0,fun W=>z2h a h ha W⟩
 | true =>
   have e:=z5g h;obtain⟨q,hq⟩:∃ q,q=qval a.data.toList:=⟨_,rfl⟩;rw[← hq]at e;subst e;exact⟨q,fun W=>z6b q (z3L ha (by decide)) (by omega) W⟩
theorem glq {q:Rat}(h:SmQ 40 q):LQ q:=z3N h (by decide) (by decide)
theorem gF {x:Rat}(hx:SmQ 40 x):KSb 28 (.string (Sq x)) x true:=ksb (fun W=>z3S x (hx.mono (by decide)) (by have:=zY (hx.mono (by decide:40≤900)) (by decide);omega) W)
theorem z6s {a:ByteArray}(ha:a.size≤40)(h:vldQ a.data.toList=false):∃ x,KSb 28 (.string a) x false:=by
 obtain⟨x,hx⟩:=z0e a (by omega);rw[h]at hx;exact⟨x,ksb hx⟩
theorem g1 (a:ByteArray)(ha:a.size≤40):(∃ x,a=Sq x∧SmQ 40 x)∨vldQ a.data.toList=false:=by
 cases hv:vldQ a.data.toList with
 | true =>
   have e:=z5g hv;exact Or.inl ⟨_,e,z3L (by rwa [← e]) (by decide)⟩
 | false=>exact Or.inr rfl
theorem z5i (x:Rat)(z:Int)(hz:x.num / (x.den:Int)=z)(hx:LQ x)(p1:Option Addr)(c1:Nat)(s1:Option Addr)(d1:Nat)(W:World)(r1:RN W (.slice p1 (ae x.num) c1) x.num.natAbs)(t1:RN W (.slice s1 (ah x.den) d1) x.den) :
 CZ 82 #[.agg #[.bool (ai x.num),.slice p1 (ae x.num) c1,.slice s1 (ah x.den) d1]] W z :=
 zQ x.num (x.den:Int) z (x.num%(x.den:Int)) x.den p1 c1 s1 d1 W (fun s d W h=>ja false _ x.den _ (by simp) (Nat.le_trans hx.2 (by decide)) W h) (fun p1 c1 p2 c2 W h1 h2=>z6a x.num (x.den:Int) z _ hz rfl (by have:=x.den_pos;omega) (Nat.le_trans hx.1 (by decide)) (by rw[qF];exact Nat.le_trans hx.2 (by decide)) p1 c1 p2 c2 W h1 h2) r1 t1
open Go.ChangeShapes Go.WideShapes Go.ChangeAt Go.WideMaps Go.WideElems Go.RowKit Go.Gb
open Go.ChangeMaps (open_string shut_string)
