/- texts -/
import Derived.Test.YtoaeaiiabelhkaaGreatDoorQj
import Derived.Lib.Repeat
import Derived.Shelf.Strings.SlTrimAscii
import Derived.Test.YtoaeaiiabelhkaaGreatDoorMz38q
open Go.Proofs.Tryz
set_option maxRecDepth 100000
set_option maxHeartbeats 20000000
open Go.Lib (hid)
namespace Go.Proofs.YtoaeaiiabelhkaaGreatDoor
open Go.RowKit Go.Gb
theorem zC (a b:ByteArray)(c n:Int)(w:World)(h1:CR 38 #[.string a,.string b] w (.tuple #[.int .i64 c,.int .i64 n])) :
 CR 73 #[.string a,.string b] w (.int .i64 c):=by
 have C1:=hid h1;clear h1;go_enter func73,ntmps73
 go_wp2_with fail
 refine C1.o.mono ?_;rintro e w1 ⟨rfl,hb⟩;go_wp2;go_ret
 exact⟨rfl,hb⟩
theorem oU (l h:ByteArray)(c:Int)(hc:c≤0)(w:World)(hl:La w)
 (h1:CL 38 #[.string l,.string h] (.tuple #[.int .i64 c,.int .i64 0])) :
 CR 14 #[.agg #[.string l,.string h]] w (.bool true):=by
 have C1:=hid h1;obtain⟨w0,hw0⟩:∃ w0:World,w0=(w.alloc (.cells #[.string l,.string h] 25)):=⟨_,rfl⟩;have hz0:w0.heap.size=w.heap.size+1:=by rw[hw0];simp
 have hB0:Below w.heap.size w w0:=by
  rw[hw0];repeat (first|exact Below.refl _ _|refine Below.setCell ?_ (by first|omega|(simp;omega)|simp) _|refine Below.alloc ?_ (by first|omega|(simp;omega)|simp) _|refine Below.drew ?_)
 have hS0:w0.cell? ⟨w.heap.size,0,none⟩=some (.string l)∧w0.cell? ⟨w.heap.size,1,none⟩=some (.string h):=by rw[hw0];exact⟨((aM).trans rfl),((aM).trans rfl)⟩
 have KS:=hid (show ∀ W:World,Below w0.heap.size w0 W→(W.cell? ⟨w.heap.size,0,none⟩=some (.string l)∧W.cell? ⟨w.heap.size,1,none⟩=some (.string h)) from fun W hB=>by
  obtain⟨c0,c1⟩:=hS0
  exact⟨hB.kc c0 (by omega),hB.kc c1 (by omega)⟩)
 have KZ:=Below.kz (show w.heap.size+1≤w0.heap.size by omega);have KB:=hB0.kb (by omega);have F0:=hid (Below.refl w0.heap.size w0);have HW0:=hid hw0;clear hz0 hB0 hS0 hw0;have HL:=KB.kl fun _=>hl.on;clear hl h1;go_enter func14,ntmps14
 go_wp2_with fail
 rw[← HW0.o];obtain⟨d0,d1⟩:=KS.o _ F0.o;go_wp2_with fail
 refine(C1.o _ (HL.o _ F0.o)).mono ?_;rintro e w1 ⟨rfl,hb⟩;have F1:=hid (au F0.o hb);clear hb d0 d1;obtain⟨d0,d1⟩:=KS.o _ F1.o;go_wp2;go_ret
 exact⟨rfl,KB.o _ F1.o⟩
theorem ul (l h x:ByteArray)(c d:Int)(hc:c≤0)(hd:d≤0)(w:World)(hl:La w)
 (h1:CL 73 #[.string l,.string x] (.int .i64 c))
 (h2:CL 73 #[.string x,.string h] (.int .i64 d)) :
 CR 37 #[.agg #[.string l,.string h],.string x] w (.bool true):=by
 have C1:=hid h1;have C2:=hid h2;obtain⟨w0,hw0⟩:∃ w0:World,w0=(w.alloc (.cells #[.string l,.string h] 25)):=⟨_,rfl⟩;have hz0:w0.heap.size=w.heap.size+1:=by rw[hw0];simp
 have hB0:Below w.heap.size w w0:=by
  rw[hw0];repeat (first|exact Below.refl _ _|refine Below.setCell ?_ (by first|omega|(simp;omega)|simp) _|refine Below.alloc ?_ (by first|omega|(simp;omega)|simp) _|refine Below.drew ?_)
 have hS0:w0.cell? ⟨w.heap.size,0,none⟩=some (.string l)∧w0.cell? ⟨w.heap.size,1,none⟩=some (.string h):=by rw[hw0];exact⟨((aM).trans rfl),((aM).trans rfl)⟩
 have KS:=hid (show ∀ W:World,Below w0.heap.size w0 W→(W.cell? ⟨w.heap.size,0,none⟩=some (.string l)∧W.cell? ⟨w.heap.size,1,none⟩=some (.string h)) from fun W hB=>by
  obtain⟨c0,c1⟩:=hS0
  exact⟨hB.kc c0 (by omega),hB.kc c1 (by omega)⟩)
 have KZ:=Below.kz (show w.heap.size+1≤w0.heap.size by omega);have KB:=hB0.kb (by omega);have F0:=hid (Below.refl w0.heap.size w0);have HW0:=hid hw0;clear hz0 hB0 hS0 hw0;have HL:=KB.kl fun _=>hl.on;clear hl h1 h2;go_enter func37,ntmps37
 go_wp2_with fail
 rw[← HW0.o];obtain⟨d0,d1⟩:=KS.o _ F0.o;go_wp2_with fail
 refine(C1.o _ (HL.o _ F0.o)).mono ?_;rintro e w1 ⟨rfl,hb⟩;have F1:=hid (au F0.o hb);clear hb d0 d1;obtain⟨d0,d1⟩:=KS.o _ F1.o;go_wp2_with fail
 refine(C2.o _ (HL.o _ F1.o)).mono ?_;rintro e w2 ⟨rfl,hb⟩;have F2:=hid (au F1.o hb);clear hb d0 d1;obtain⟨d0,d1⟩:=KS.o _ F2.o;go_wp2;go_ret
 exact⟨rfl,KB.o _ F2.o⟩
theorem uo (l h x:ByteArray)(w:World)(hl:La w)
 (h1:CL 73 #[.string l,.string x] (.int .i64 1)) :
 CR 37 #[.agg #[.string l,.string h],.string x] w (.bool false):=by
 have C1:=hid h1;obtain⟨w0,hw0⟩:∃ w0:World,w0=(w.alloc (.cells #[.string l,.string h] 25)):=⟨_,rfl⟩;have hz0:w0.heap.size=w.heap.size+1:=by rw[hw0];simp
 have hB0:Below w.heap.size w w0:=by
  rw[hw0];repeat (first|exact Below.refl _ _|refine Below.setCell ?_ (by first|omega|(simp;omega)|simp) _|refine Below.alloc ?_ (by first|omega|(simp;omega)|simp) _|refine Below.drew ?_)
 have hS0:w0.cell? ⟨w.heap.size,0,none⟩=some (.string l)∧w0.cell? ⟨w.heap.size,1,none⟩=some (.string h):=by rw[hw0];exact⟨((aM).trans rfl),((aM).trans rfl)⟩
 have KS:=hid (show ∀ W:World,Below w0.heap.size w0 W→(W.cell? ⟨w.heap.size,0,none⟩=some (.string l)∧W.cell? ⟨w.heap.size,1,none⟩=some (.string h)) from fun W hB=>by
  obtain⟨c0,c1⟩:=hS0
  exact⟨hB.kc c0 (by omega),hB.kc c1 (by omega)⟩)
 have KZ:=Below.kz (show w.heap.size+1≤w0.heap.size by omega);have KB:=hB0.kb (by omega);have F0:=hid (Below.refl w0.heap.size w0);have HW0:=hid hw0;clear hz0 hB0 hS0 hw0;have HL:=KB.kl fun _=>hl.on;clear hl h1;go_enter func37,ntmps37
 go_wp2_with fail
 rw[← HW0.o];obtain⟨d0,d1⟩:=KS.o _ F0.o;go_wp2_with fail
 refine(C1.o _ (HL.o _ F0.o)).mono ?_;rintro e w1 ⟨rfl,hb⟩;have F1:=hid (au F0.o hb);clear hb d0 d1;obtain⟨d0,d1⟩:=KS.o _ F1.o;go_wp2;go_ret
 exact⟨rfl,KB.o _ F1.o⟩
theorem um (l h x:ByteArray)(c:Int)(hc:c≤0)(w:World)(hl:La w)
 (h1:CL 73 #[.string l,.string x] (.int .i64 c))
 (h2:CL 73 #[.string x,.string h] (.int .i64 1)) :
 CR 37 #[.agg #[.string l,.string h],.string x] w (.bool false):=by
 have C1:=hid h1;have C2:=hid h2;obtain⟨w0,hw0⟩:∃ w0:World,w0=(w.alloc (.cells #[.string l,.string h] 25)):=⟨_,rfl⟩;have hz0:w0.heap.size=w.heap.size+1:=by rw[hw0];simp
 have hB0:Below w.heap.size w w0:=by
  rw[hw0];repeat (first|exact Below.refl _ _|refine Below.setCell ?_ (by first|omega|(simp;omega)|simp) _|refine Below.alloc ?_ (by first|omega|(simp;omega)|simp) _|refine Below.drew ?_)
 have hS0:w0.cell? ⟨w.heap.size,0,none⟩=some (.string l)∧w0.cell? ⟨w.heap.size,1,none⟩=some (.string h):=by rw[hw0];exact⟨((aM).trans rfl),((aM).trans rfl)⟩
 have KS:=hid (show ∀ W:World,Below w0.heap.size w0 W→(W.cell? ⟨w.heap.size,0,none⟩=some (.string l)∧W.cell? ⟨w.heap.size,1,none⟩=some (.string h)) from fun W hB=>by
  obtain⟨c0,c1⟩:=hS0
  exact⟨hB.kc c0 (by omega),hB.kc c1 (by omega)⟩)
 have KZ:=Below.kz (show w.heap.size+1≤w0.heap.size by omega);have KB:=hB0.kb (by omega);have F0:=hid (Below.refl w0.heap.size w0);have HW0:=hid hw0;clear hz0 hB0 hS0 hw0;have HL:=KB.kl fun _=>hl.on;clear hl h1 h2;go_enter func37,ntmps37
 go_wp2_with fail
 rw[← HW0.o];obtain⟨d0,d1⟩:=KS.o _ F0.o;go_wp2_with fail
 refine(C1.o _ (HL.o _ F0.o)).mono ?_;rintro e w1 ⟨rfl,hb⟩;have F1:=hid (au F0.o hb);clear hb d0 d1;obtain⟨d0,d1⟩:=KS.o _ F1.o;go_wp2_with fail
 refine(C2.o _ (HL.o _ F1.o)).mono ?_;rintro e w2 ⟨rfl,hb⟩;have F2:=hid (au F1.o hb);clear hb d0 d1;obtain⟨d0,d1⟩:=KS.o _ F2.o;go_wp2;go_ret
 exact⟨rfl,KB.o _ F2.o⟩
theorem z3f (l h x:ByteArray)(r:Bool)(w:World)(hl:La w)
 (h1:CL 14 #[.agg #[.string l,.string h]] (.bool true))
 (h2:CL 16 #[.string x] (.bool true))
 (h3:CL 37 #[.agg #[.string l,.string h],.string x] (.bool r)) :
 CR 13 #[.agg #[.string l,.string h],.string x] w (.bool r):=by
 obtain ⟨C1,C2,C3⟩:=ak h1 h2 h3;obtain⟨w0,hw0⟩:∃ w0:World,w0=(w.alloc (.cells #[.string l,.string h] 25)):=⟨_,rfl⟩;have hz0:w0.heap.size=w.heap.size+1:=by rw[hw0];simp
 have hB0:Below w.heap.size w w0:=by
  rw[hw0];repeat (first|exact Below.refl _ _|refine Below.setCell ?_ (by first|omega|(simp;omega)|simp) _|refine Below.alloc ?_ (by first|omega|(simp;omega)|simp) _|refine Below.drew ?_)
 have hS0:w0.cell? ⟨w.heap.size,0,none⟩=some (.string l)∧w0.cell? ⟨w.heap.size,1,none⟩=some (.string h):=by rw[hw0];exact⟨((aM).trans rfl),((aM).trans rfl)⟩
 have KS:=hid (show ∀ W:World,Below w0.heap.size w0 W→(W.cell? ⟨w.heap.size,0,none⟩=some (.string l)∧W.cell? ⟨w.heap.size,1,none⟩=some (.string h)) from fun W hB=>by
  obtain⟨c0,c1⟩:=hS0
  exact⟨hB.kc c0 (by omega),hB.kc c1 (by omega)⟩)
 have KZ:=Below.kz (show w.heap.size+1≤w0.heap.size by omega);have KB:=hB0.kb (by omega);have F0:=hid (Below.refl w0.heap.size w0);have HW0:=hid hw0;clear hz0 hB0 hS0 hw0;have HL:=KB.kl fun _=>hl.on;clear hl h1 h2 h3;go_enter func13,ntmps13
 go_wp2_with fail
 rw[← HW0.o];obtain⟨d0,d1⟩:=KS.o _ F0.o;go_wp2_with fail
 refine(C1.o _ (HL.o _ F0.o)).mono ?_;rintro e w1 ⟨rfl,hb⟩;have F1:=hid (au F0.o hb);clear hb d0 d1;obtain⟨d0,d1⟩:=KS.o _ F1.o;go_wp2_with fail
 refine(C2.o _ (HL.o _ F1.o)).mono ?_;rintro e w2 ⟨rfl,hb⟩;have F2:=hid (au F1.o hb);clear hb d0 d1;obtain⟨d0,d1⟩:=KS.o _ F2.o;go_wp2_with fail
 refine(C3.o _ (HL.o _ F2.o)).mono ?_;rintro e w3 ⟨rfl,hb⟩;have F3:=hid (au F2.o hb);clear hb d0 d1;obtain⟨d0,d1⟩:=KS.o _ F3.o;go_wp2;go_ret
 exact⟨rfl,KB.o _ F3.o⟩
theorem z3d (l1 h1 l2 h2 r s:ByteArray)(w:World)(hl:La w)
 (g1:CL 14 #[.agg #[.string l1,.string h1]] (.bool true))
 (g2:CL 14 #[.agg #[.string l2,.string h2]] (.bool true))
 (g3:CL 70 #[.string l1,.string h2] (.tuple #[.string r,.int .i64 0]))
 (g4:CL 70 #[.string h1,.string l2] (.tuple #[.string s,.int .i64 0])) :
 CR 84 #[.agg #[.string l1,.string h1],.agg #[.string l2,.string h2]] w (.tuple #[.agg #[.string r,.string s],.int .i64 0]):=by
 obtain ⟨C1,C2,C3,C4⟩:=aN g1 g2 g3 g4;obtain⟨w0,hw0⟩:∃ w0:World,w0=(((w.alloc (.cells #[.string l1,.string h1] 25)).alloc (.cells #[.string l2,.string h2] 25)).alloc (.cells #[.string ⟨#[]⟩,.string ⟨#[]⟩] 25)):=⟨_,rfl⟩;have hz0:w0.heap.size=w.heap.size+3:=by rw[hw0];simp
 have hB0:Below w.heap.size w w0:=by
  rw[hw0];repeat (first|exact Below.refl _ _|refine Below.setCell ?_ (by first|omega|(simp;omega)|simp) _|refine Below.alloc ?_ (by first|omega|(simp;omega)|simp) _|refine Below.drew ?_)
 have hS0:w0.cell? ⟨w.heap.size,0,none⟩=some (.string l1)∧w0.cell? ⟨w.heap.size,1,none⟩=some (.string h1)∧w0.cell? ⟨w.heap.size+1,0,none⟩=some (.string l2)∧w0.cell? ⟨w.heap.size+1,1,none⟩=some (.string h2):=by rw[hw0];exact⟨((q_lt).trans ((q_lt).trans ((aM).trans rfl))),((q_lt).trans ((q_lt).trans ((aM).trans rfl))),((q_lt).trans ((aM).trans rfl)),((q_lt).trans ((aM).trans rfl))⟩
 have KS:=hid (show ∀ W:World,Below w0.heap.size w0 W→(W.cell? ⟨w.heap.size,0,none⟩=some (.string l1)∧W.cell? ⟨w.heap.size,1,none⟩=some (.string h1)∧W.cell? ⟨w.heap.size+1,0,none⟩=some (.string l2)∧W.cell? ⟨w.heap.size+1,1,none⟩=some (.string h2)) from fun W hB=>by
  obtain⟨c0,c1,c2,c3⟩:=hS0
  exact⟨hB.kc c0 (by omega),hB.kc c1 (by omega),hB.kc c2 (by omega),hB.kc c3 (by omega)⟩)
 have KZ:=Below.kz (show w.heap.size+3≤w0.heap.size by omega);have KB:=hB0.kb (by omega);have hR0:w0.cell? ⟨w.heap.size+1+1,0,none⟩=some (.string ⟨#[]⟩)∧w0.cell? ⟨w.heap.size+1+1,1,none⟩=some (.string ⟨#[]⟩)∧w0.frozen? ⟨w.heap.size+1+1,0,none⟩=false∧w0.frozen? ⟨w.heap.size+1+1,1,none⟩=false:=by rw[hw0];exact⟨((aM).trans rfl),((aM).trans rfl),(bG),(bG)⟩
 have KR:=hid (show ∀ W:World,Below w0.heap.size w0 W→(W.cell? ⟨w.heap.size+1+1,0,none⟩=some (.string ⟨#[]⟩)∧W.cell? ⟨w.heap.size+1+1,1,none⟩=some (.string ⟨#[]⟩)∧W.frozen? ⟨w.heap.size+1+1,0,none⟩=false∧W.frozen? ⟨w.heap.size+1+1,1,none⟩=false) from fun W hB=>by
  obtain⟨c0,c1,f0,f1⟩:=hR0
  exact⟨hB.kc c0 (by omega),hB.kc c1 (by omega),hB.kf f0 (by omega),hB.kf f1 (by omega)⟩)
 clear hR0
 have KT0:=hid (show ∀ (W:World) (v u:Value),Below w0.heap.size w0 W→(((W.setCell ⟨w.heap.size+1+1,0,none⟩ v).setCell ⟨w.heap.size+1+1,1,none⟩ u).cell? ⟨w.heap.size,0,none⟩=some (.string l1)∧((W.setCell ⟨w.heap.size+1+1,0,none⟩ v).setCell ⟨w.heap.size+1+1,1,none⟩ u).cell? ⟨w.heap.size,1,none⟩=some (.string h1)∧((W.setCell ⟨w.heap.size+1+1,0,none⟩ v).setCell ⟨w.heap.size+1+1,1,none⟩ u).cell? ⟨w.heap.size+1,0,none⟩=some (.string l2)∧((W.setCell ⟨w.heap.size+1+1,0,none⟩ v).setCell ⟨w.heap.size+1+1,1,none⟩ u).cell? ⟨w.heap.size+1,1,none⟩=some (.string h2)) from fun W v u hB=>by
  have hh:=KS.o W hB;obtain⟨c0,c1,c2,c3⟩:=hh
  exact⟨(aY (by omega)).trans ((aY (by omega)).trans c0),(aY (by omega)).trans ((aY (by omega)).trans c1),(aY (by omega)).trans ((aY (by omega)).trans c2),(aY (by omega)).trans ((aY (by omega)).trans c3)⟩)
 have F0:=hid (Below.refl w0.heap.size w0);have HW0:=hid hw0;clear hz0 hB0 hS0 hw0;have HL:=KB.kl fun _=>hl.on;clear hl g1 g2 g3 g4;go_enter func84,ntmps84
 go_wp2_with fail
 rw[← HW0.o];obtain⟨d0,d1,d2,d3⟩:=KS.o _ F0.o;go_wp2_with fail
 refine(C1.o _ (HL.o _ F0.o)).mono ?_;rintro e w1 ⟨rfl,hb⟩;have F1:=hid (au F0.o hb);clear hb d0 d1 d2 d3;obtain⟨d0,d1,d2,d3⟩:=KS.o _ F1.o;go_wp2_with fail
 refine(C2.o _ (HL.o _ F1.o)).mono ?_;rintro e w2 ⟨rfl,hb⟩;have F2:=hid (au F1.o hb);clear hb d0 d1 d2 d3;obtain⟨d0,d1,d2,d3⟩:=KS.o _ F2.o;go_wp2_with fail
 refine(C3.o _ (HL.o _ F2.o)).mono ?_;rintro e w3 ⟨rfl,hb⟩;have F3:=hid (au F2.o hb);clear hb d0 d1 d2 d3;obtain⟨d0,d1,d2,d3⟩:=KS.o _ F3.o;go_wp2_with fail
 refine(C4.o _ (HL.o _ F3.o)).mono ?_;rintro e w4 ⟨rfl,hb⟩;have F4:=hid (au F3.o hb);clear hb d0 d1 d2 d3;obtain⟨d0,d1,d2,d3⟩:=KS.o _ F4.o
 all_goals
  obtain⟨m0,m1,n0,n1⟩:=KR.o _ F4.o;have hz:=KZ.o _ F4.o;go_wp2;refine bodyPost_ret (v:=.tuple #[.agg #[.string r,.string s],.int .i64 0]) (by simp[results,results84,go_sem,m0,m1]) rfl ⟨rfl,?_⟩;repeat (first|exact KB.o _ F4.o|refine Below.setCell ?_ (by first|omega|(simp;omega)|simp) _|refine Below.alloc ?_ (by first|omega|(simp;omega)|simp) _|refine Below.drew ?_)
theorem z1G (a b:Int)(hb:b≠0):(Rat.divInt a b).num.natAbs≤a.natAbs∧(Rat.divInt a b).den≤b.natAbs:=by
 rcases Int.lt_or_gt_of_ne hb with h|h
 · obtain⟨n,hn⟩:∃ n:Nat,b = -(n:Int):=⟨b.natAbs,by omega⟩
   subst hn;have h2:=z3a (-a) n (by omega);rw[Rat.divInt_neg',Rat.divInt_ofNat];rw[Int.natAbs_neg]at h2;rw[Int.natAbs_neg,Int.natAbs_natCast];exact h2
 · obtain⟨n,hn⟩:∃ n:Nat,b=(n:Int):=⟨b.natAbs,by omega⟩
   subst hn;rw[Rat.divInt_ofNat,Int.natAbs_natCast];exact z3a a n (by omega)
theorem lH {k:Nat}{a b:Int}(hb:b≠0)(ha:Sm k a.natAbs)(h:Sm k b.natAbs):SmQ k (Rat.divInt a b):=by
 obtain⟨e1,e2⟩:=z1G a b hb;exact⟨ha.le e1,h.le e2⟩
theorem uz {w:World}{v:Value}{p q:Addr}:(w.setCell p v).frozen? q=w.frozen? q:=by simp
theorem zJ {q:Rat}(h1:q.num.natAbs<1000)(h2:q.den<1000):aO q:=⟨(show Sm 3 _ by unfold Sm;omega).mono (by decide),(show Sm 3 _ by unfold Sm;omega).mono (by decide)⟩
theorem qnd (q:Rat)(n:Int)(d:Nat)(a x y:ByteArray)(h:q.num=n∧q.den=d∧Sq q=a∧Sz n=x∧Sz (d:Int)=y):Sq q=a∧Fv q=.agg #[.string x,.string y]:=by
 obtain⟨h1,h2,h3,h4,h5⟩:=h;refine⟨h3,?_⟩;unfold Fv
 rw[h1,h2,h4,h5]
theorem q5:Sq 5=⟨#[53]⟩∧Fv 5=.agg #[.string ⟨#[53]⟩,.string ⟨#[49]⟩]:=qnd _ 5 1 _ _ _ (by decide +kernel)
theorem q_0:Sq (0:Rat)=⟨#[48]⟩:=by decide +kernel
theorem q_1:Sq (1:Rat)=⟨#[49]⟩:=by decide +kernel
theorem dF {f:FuncId}{args:Array Value}{w:World}{v:Value}(h:Calls Tryz.prog f args w fun e w'=>e=.returned v∧w=w'):Calls Tryz.prog f args w fun e w'=>e=.returned v∧Below w.heap.size w w':=by
 refine h.mono ?_;rintro e w' ⟨rfl,rfl⟩;exact⟨rfl,Below.refl _ _⟩
theorem wN {s:ByteArray}{k:Nat}(h:k<s.size):s[k]=s.data.toList[k]'(by rw[aF];exact h):=(fH s k h).symm
theorem tN (s:ByteArray)(hn:(47:UInt8)∉s.data.toList)(hs:s.size≤2000)(W:World) :
 CR 46 #[.string s] W (.tuple #[.string s,.string ⟨#[49]⟩,.bool false]) :=
 dF (z2F s (fun k h e=>hn (by rw[← e,wN h];exact List.getElem_mem _)) (by unfold maxLen;omega) W)
theorem pO (s:ByteArray)(x y:List UInt8)(hl:s.data.toList=x++47 :: y)(hn:(47:UInt8)∉x)(hs:s.size≤2000)(W:World) :
 CR 46 #[.string s] W (.tuple #[.string ⟨x.toArray⟩,.string ⟨y.toArray⟩,.bool true]):=by
 have hsz:s.size=x.length+(y.length+1):=by rw[← aF,hl];simp
 have hxs:(⟨x.toArray⟩:ByteArray).size=x.length:=by show x.toArray.size=_;simp
 refine z0y s ⟨x.toArray⟩ ⟨y.toArray⟩ (by omega) ?_ ?_ ?_ ?_ (by unfold maxLen;omega) W
 · intro k hk h2 e
   apply hn
   rw[← e,wN h2];simp only[hl];rw[List.getElem_append_left (by omega)];exact List.getElem_mem _
 · rw[wN (by omega)]
   simp only[hl,hxs];rw[List.getElem_append_right (Nat.le_refl _)];simp
 · apply ByteArray.ext;apply Array.ext'
   rw[fM,hl,hxs];simp
 · apply ByteArray.ext;apply Array.ext'
   rw[fM,hl,hxs,hsz];simp;exact List.take_of_length_le (by omega)
theorem z4u (q:Rat)(hq:SmQ 900 q)(hs:(Sq q).size≤2000)(W:World) :
 Calls Tryz.prog 21 #[.string (Sq q)] W fun e w'=>∃ p c s d,e=.returned (.tuple #[.agg #[.bool (ah q.num),.slice p (aa q.num) c,.slice s (ag q.den) d],.bool true])∧RN w' (.slice p (aa q.num) c) q.num.natAbs∧RN w' (.slice s (ag q.den) d) q.den∧Below W.heap.size W w':=by
 have fn:FitZ q.num:=by unfold FitZ Fit;exact Sm.mono hq.1 (by decide)
 have z1:(Sz q.num).size≤901:=jZ hq.1 (by decide);have z2:(Sn q.den).size≤900:=iD hq.2 (by decide);have hR:=fun W=>zm (z5T q.num fn W);by_cases hd:q.den=1
 · rw[jr hd]at hs ⊢
   rw[hd];refine z3m (Sz q.num) (Sz q.num) ⟨#[49]⟩ q.num 1 W (fun W=>tN _ (z2z 47 (by decide) (by decide) _) hs W) (fun W=>dF (vk q.num (by omega) W)) (fun W=>dF ?_) hR (fun W=>?_)
   · exact gF ⟨#[49]⟩ W (by decide)
   · exact nO (jK ⟨#[49]⟩ (by decide) (by decide) W)
 · have hn0:q.num≠0:=by
    intro e;have:=q.reduced;rw[e]at this;unfold Nat.Coprime at this
    rw[Int.natAbs_zero,Nat.gcd_zero_left]at this;exact hd this
   have hd1:1<q.den:=by have:=q.den_pos;omega
   have lz:aa q.num≤900:=gL hq.1 (by decide);have ln:ag q.den≤900:=gL hq.2 (by decide);have e0:Sn q.den=⟨(Lib.decDigits q.den).toArray⟩:=rfl;have e1:(⟨(Sz q.num).data.toList.toArray⟩:ByteArray)=Sz q.num:=by simp
   have hsp:=fun W=>pO (Sq q) _ _ (ic hd) (z2z 47 (by decide) (by decide) _) hs W;rw[e1,← e0]at hsp
   refine z1u (Sq q) (Sz q.num) (Sn q.den) q.num 1 q.num.sign q.den 1 1 (by decide) (fun e=>hn0 (Int.sign_eq_zero_iff_zero.1 e)) W hsp (fun W=>dF (vk q.num (by omega) W)) (fun W=>dF ?_) hR (fun W=>?_)
    (fun W=>jf 1 1 rfl (by decide) W) (fun s1 d1 s2 d2 W h1 h2=>?_) (fun p c W h=>vI q.num _ rfl p c W h) (fun p1 c1 s2 d2 W h1 h2=>?_) (fun s1 d1 s2 d2 W h1 h2=>?_)
   · have h:=gF (Sn q.den) W (by unfold maxLen;omega)
     rwa [eG]at h
   · have h:=nO (jK (Sn q.den) (by rw[cK];exact je _) (by omega) W)
     rwa [cu]at h
   · have h:=cCmp (.slice s1 (ag q.den) d1) (.slice s2 (ag 1) d2) q.den 1 (by omega) W h1 h2
     rwa [show cmpN q.den 1=1 by unfold cmpN;rw[if_neg (by omega),if_pos hd1]]at h
   · exact ow _ _ _ _ 1 q.reduced (Nat.le_trans lz (by decide)) (by omega) W h1 h2
   · have h:=cCmp (.slice s1 (ag 1) d1) (.slice s2 (ag 1) d2) 1 1 (by rw[jM];decide) W h1 h2
     rwa [show cmpN 1 1=0 by decide]at h
theorem z7b (q:Rat)(hq:SmQ 900 q)(hs:(Sq q).size≤1000)(W:World) :
 Calls Tryz.prog 21 #[.string (Sq q)] W fun e w'=>∃ p c s d,e=.returned (.tuple #[.agg #[.bool (ah q.num),.slice p (aa q.num) c,.slice s (ag q.den) d],.bool true])∧RN w' (.slice p (aa q.num) c) q.num.natAbs∧RN w' (.slice s (ag q.den) d) q.den∧Below W.heap.size W w':=z4u q hq (by omega) W
theorem z2I (a:ByteArray)(hv:vldQ a.data.toList=false)(hs:a.size≤900)(W:World) :
 Calls Tryz.prog 21 #[.string a] W fun e w'=>∃ p c s d,e=.returned (.tuple #[.agg #[.bool (ah (0:Rat).num),.slice p (aa (0:Rat).num) c,.slice s (ag (0:Rat).den) d],.bool false])∧RN w' (.slice p (aa (0:Rat).num) c) (0:Rat).num.natAbs∧RN w' (.slice s (ag (0:Rat).den) d) (0:Rat).den∧Below W.heap.size W w':=by
 have hI:=fun W=>z2H 0 0 0 rfl (by decide) rfl rfl W;rcases og 47 a.data.toList with⟨h47,e⟩|⟨x,y,h47,el,e⟩
 · unfold vldQ at hv
   rw[e]at hv;simp only[Bool.false_eq_true,if_false]at hv;exact uy a a ⟨#[49]⟩ _ _ false W (fun W=>tN a h47 (by omega) W) (fun W=>dF (pF a hv (by omega) W)) hI
 · have hlen:x.length+(y.length+1)=a.size:=by rw[← aF,el];simp
   have hsp:=fun W=>pO a x y el h47 (by omega) W;have sx:(⟨x.toArray⟩:ByteArray).size≤1000:=by show x.toArray.size≤1000;simp;omega
   have sy:(⟨y.toArray⟩:ByteArray).size≤900:=by show y.toArray.size≤900;simp;omega
   unfold vldQ at hv
   rw[e]at hv;simp only[if_true]at hv
   cases hx:vldZ x with
   | false=>exact uy a ⟨x.toArray⟩ ⟨y.toArray⟩ _ _ true W hsp (fun W=>dF (pF ⟨x.toArray⟩ (by simpa using hx) sx W)) hI
   | true =>
     obtain⟨z,hz⟩:∃ z,z=zval x:=⟨_,rfl⟩;have ex:(⟨x.toArray⟩:ByteArray)=Sz z:=by rw[hz];have:=z0q (a:=⟨x.toArray⟩) (by simpa using hx);simpa using this
     have sx2:(Sz z).size≤900:=by rw[← ex];show x.toArray.size≤900;simp;omega
     rw[ex]at hsp sx;have hVx:=fun W=>dF (vk z sx W)
     cases hy:vld y with
     | false =>
       refine z1v a (Sz z) ⟨y.toArray⟩ _ _ true W hsp hVx (fun W=>dF ?_) hI;have h:=gF ⟨y.toArray⟩ W (by unfold maxLen;omega);rwa [show vld (⟨y.toArray⟩:ByteArray).data.toList=false by simpa using hy]at h
     | true =>
       obtain⟨n,hn⟩:∃ n,n=aI y:=⟨_,rfl⟩;have ey:(⟨y.toArray⟩:ByteArray)=Sn n:=by rw[hn];have:=z6Y (a:=⟨y.toArray⟩) (by simpa using hy);simpa using this
       have yl:y=Lib.decDigits n:=by
        have:=congrArg (fun b:ByteArray=>b.data.toList) ey;simpa [cK] using this
       rw[ey]at hsp sy
       have hVy:CQ 48 #[.string (Sn n)] (.bool true):=fun W=>dF (by
        have h:=gF (Sn n) W (by unfold maxLen;omega)
        rwa [eG]at h)
       have kz:Sm 900 z.natAbs:=jv sx2;have kn:Sm 900 n:=by have:=Sm.of (a:=Sn n) (eG n) sy;rwa [cu]at this
       have lz:aa z≤900:=gL kz (by decide);have ln:ag n≤900:=gL kn (by decide);have hR:=fun W=>zm (z5T z (by unfold FitZ Fit;exact Sm.mono kz (by decide)) W)
       have hF:∀ W,CN 50 #[.string (Sn n)] W n:=fun W=>by
        have h:=nO (jK (Sn n) (by rw[cK];exact je _) (by omega) W);rwa [cu]at h
       have hO:=fun W=>jf 1 1 rfl (by decide) W;have hC:=fun(s1:Option Addr) (d1:Nat) (s2:Option Addr) (d2:Nat) W h1 h2=>cCmp (.slice s1 (ag n) d1) (.slice s2 (ag 1) d2) n 1 (by omega) W h1 h2;have hS:=fun p c W h=>vI z _ rfl p c W h;by_cases n1:n≤1
       · exact zI a (Sz z) (Sn n) z (cmpN n 1) _ n 1 _ (by unfold cmpN;split<;>first|(split<;>omega)|omega) W hsp hVx hVy hR hF hO hC hI
       · have hk:0<cmpN n 1:=by unfold cmpN;rw[if_neg (by omega),if_pos (by omega)];decide
         by_cases z0:z=0
         · subst z0
           exact z1t a (Sz 0) (Sn n) 0 (cmpN n 1) _ n 1 _ hk W hsp hVx hVy hR hF hO hC hS hI
         · have hsg:z.sign≠0:=fun e=>z0 (Int.sign_eq_zero_iff_zero.1 e)
           have hG:=fun(p1:Option Addr) (c1:Nat) (s2:Option Addr) (d2:Nat) W h1 h2=>ow (.slice p1 (aa z) c1) (.slice s2 (ag n) d2) z.natAbs n _ rfl (Nat.le_trans lz (by decide)) (by omega) W h1 h2;have lg:ag (Nat.gcd z.natAbs n)≤900:=Nat.le_trans (gN (Nat.gcd_le_right _ (by omega))) ln;by_cases g1:Nat.gcd z.natAbs n=1
           · exfalso
             have:vldP x y=true:=by
              unfold vldP
              rw[hx,yl,qJ,mV,← hz]
              have e1:(Lib.decDigits n==[49])=false:=by
                rw[beq_eq_false_iff_ne];intro e
                have e2:Sn n=Sn 1:=by
                 apply ByteArray.ext;apply Array.ext'
                 rw[cK,e];decide +kernel
                have:=z4k e2;omega
              rw[e1];simp[g1]
              omega
             rw[this]at hv;cases hv
           · refine vY a (Sz z) (Sn n) z (cmpN n 1) (cmpN (Nat.gcd z.natAbs n) 1) _ _ n 1 (Nat.gcd z.natAbs n) _ hk hsg ?_ W hsp hVx hVy hR hF hO hC hS hG (fun s1 d1 s2 d2 W h1 h2=>cCmp _ _ _ _ (by omega) W h1 h2) hI
             unfold cmpN
             split
             · decide
             · split
               · decide
               · omega
end Go.Proofs.YtoaeaiiabelhkaaGreatDoor
open Go.Lib (hid)
namespace Go.Proofs.YtoaeaiiabelhkaaGreatDoor
open Go.RowKit Go.Gb
set_option linter.unusedSimpArgs false
theorem z3o (k l n n3:Int)(dn dn3:Nat)(hl:IntKind.u32.wrap l=l)  (w:World)(h1:∀ W,CZ 55 #[.int .i64 k] W n)(h2:∀ W,CN 51 #[.int .u32 l] W dn)(h3:∀ p1 c1 s2 d2 W,RN W (.slice p1 (aa n) c1) n.natAbs→RN W (.slice s2 (ag dn) d2) dn→CF 91 #[.agg #[.bool (ah n),.slice p1 (aa n) c1],.slice s2 (ag dn) d2] W n3 dn3)  :
 CF 58 #[.int .i64 k,.int .i64 l] w n3 dn3:=by
 obtain ⟨C1,C2,C3⟩:=ak h1 h2 h3;clear h1 h2 h3;go_enter func58,ntmps58
 go_upto_region 1 with fail
 refine av w [(#[.bool false,.slice none 0 0,.slice none 0 0],49)] rfl ?_;rintro W0 ⟨k1,hb⟩;have sj:=hid (show Below w.heap.size w W0 from hb);have K1:=hid k1;clear k1 hb;go_wp2_with fail
 with_reducible refine(C1.o _).mono ?_
 rintro e W1 ⟨pu,ol,rfl,wo,hb⟩;have K1:=hid (K1.o.below hb);have su:=hbt sj hb;have RN1:=hid wo;clear hb wo;go_wp2_with fail
 with_reducible refine(C2.o _).mono ?_
 rintro e W2 ⟨oM,oV,rfl,wu,hb⟩;obtain ⟨K1,RN1⟩:=aK hb K1 RN1;have sw:=hbt su hb;have RD1:=hid wu;clear hb wu;go_wp2_with fail
 with_reducible refine(C3.o _ _ _ _ _ RN1.o RD1.o).mono ?_
 rintro e W3 ⟨u6,uu,w9,wm,rfl,ww,si,hb⟩;have K1:=hid (K1.o.below hb);have rM:=hbt sw hb;have RQ:=hid ww;have TQ:=hid si;clear hb ww si;obtain ⟨rV,p8,pq⟩:=aA K1.o rfl rfl rfl;obtain ⟨ny,ma,mf⟩:=bC K1.o;go_wp2;exact bodyPost_ret (v:=.agg #[.bool (ah n3),.slice u6 (aa n3) uu,.slice w9 (ag dn3) wm]) (by simp[results,results58,go_sem,rV,p8,pq]) rfl ⟨_,_,_,_,rfl,(aX [.bool (ah n3),.slice u6 (aa n3) uu,.slice w9 (ag dn3) wm] RQ.o K1.o (by simp[bJ]) (by simp[aU])),(aX [.bool (ah n3),.slice u6 (aa n3) uu,.slice w9 (ag dn3) wm] TQ.o K1.o (by simp[bJ]) (by simp[aU])),(aj (l:=[.bool (ah n3),.slice u6 (aa n3) uu,.slice w9 (ag dn3) wm]) (i:=0) (by omega) rM.o)⟩
