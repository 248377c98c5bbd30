/- texts -/
import Derived.Test.YteihfbkaieemdaaGreatDoorVd
open Go.Proofs.Tryz
set_option maxRecDepth 100000
set_option maxHeartbeats 20000000
open Go.Lib (hid)
namespace Go.Proofs.YteihfbkaieemdaaGreatDoor
open Go.RowKit Go.Gb
theorem nM (x pt t f r:ByteArray)(u:World)(hl:La u)
 (h1:CL 39 #[.string x,.string pt] (.tuple #[.string t,.int .i64 0]))
 (h2:CL 80 #[.string t] (.tuple #[.string f,.int .i64 0]))
 (h3:CL 81 #[.string f,.string pt] (.tuple #[.string r,.int .i64 0])) :
 CR 56 #[.string x,.string pt] u (.string r):=by
 obtain ⟨C1,C2,C3⟩:=ak h1 h2 h3;have HL:=hid (show ∀ W:World,Below u.heap.size u W→La W from fun W hB=>hl.on hB);have F0:=hid (Below.refl u.heap.size u);clear hl h1 h2 h3;go_enter func56,ntmps56
 go_wp2_with fail
 refine(C1.o _ (HL.o _ F0.o)).mono ?_;rintro e w1 ⟨rfl,hb⟩;have F1:=hid (ah F0.o hb);clear hb;go_wp2_with fail
 refine(C2.o _ (HL.o _ F1.o)).mono ?_;rintro e w2 ⟨rfl,hb⟩;have F2:=hid (ah F1.o hb);clear hb;go_wp2_with fail
 refine(C3.o _ (HL.o _ F2.o)).mono ?_;rintro e w3 ⟨rfl,hb⟩;have F3:=hid (ah F2.o hb);clear hb;go_wp2;go_ret
 exact⟨rfl,F3.o⟩
theorem z1M (x r:ByteArray)(u:World)(hl:La u)
 (h1:CL 36 #[.string ⟨#[48]⟩,.string x] (.tuple #[.string r,.int .i64 0])) :
 CR 57 #[.string x] u (.string r):=by
 have C1:=hid h1;have HL:=hid (show ∀ W:World,Below u.heap.size u W→La W from fun W hB=>hl.on hB);have F0:=hid (Below.refl u.heap.size u);clear hl h1;go_enter func57,ntmps57
 go_wp2_with fail
 refine(C1.o _ (HL.o _ F0.o)).mono ?_;rintro e w1 ⟨rfl,hb⟩;have F1:=hid (ah F0.o hb);clear hb;go_wp2;go_ret
 exact⟨rfl,F1.o⟩
theorem ym (l h pt p q r s:ByteArray)(n:Int)(hn1:decide (n<1)=false)(hn2:decide (1000000000<n)=false)(w:World)(hl:La w)
 (g1:CL 27 #[.agg #[.string l,.string h]] (.bool true))
 (g2:CL 55 #[.int .i64 n] (.string pt))
 (g3:CL 56 #[.string l,.string pt] (.string p))
 (g4:CL 57 #[.string h] (.string q))
 (g5:CL 56 #[.string q,.string pt] (.string r))
 (g6:CL 57 #[.string r] (.string s)) :
 CR 22 #[.agg #[.string l,.string h],.int .i64 n] w (.tuple #[.agg #[.string p,.string s],.int .i64 0]):=by
 obtain ⟨C1,C2,C3,C4,C5,C6⟩:=cB g1 g2 g3 g4 g5 g6;obtain⟨w0,hw0⟩:∃ w0:World,w0=((w.alloc (.cells #[.string l,.string h] 24)).alloc (.cells #[.string ⟨#[]⟩,.string ⟨#[]⟩] 24)):=⟨_,rfl⟩;have hz0:w0.heap.size=w.heap.size+2:=by rw[hw0];simp
 have hB0:Below w.heap.size w w0:=by
  rw[hw0];repeat (first|exact Below.refl _ _|refine Below.setCell ?_ (by first|omega|(simp;omega)|simp) _|refine Below.alloc ?_ (by first|omega|(simp;omega)|simp) _|refine Below.drew ?_)
 have hS0:w0.cell? ⟨w.heap.size,0,none⟩=some (.string l)∧w0.cell? ⟨w.heap.size,1,none⟩=some (.string h):=by rw[hw0];exact⟨((q_lt).trans ((aB).trans rfl)),((q_lt).trans ((aB).trans rfl))⟩
 have KS:=hid (show ∀ W:World,Below w0.heap.size w0 W→(W.cell? ⟨w.heap.size,0,none⟩=some (.string l)∧W.cell? ⟨w.heap.size,1,none⟩=some (.string h)) from fun W hB=>by
  obtain⟨c0,c1⟩:=hS0
  exact⟨(hB.cell (p:=⟨w.heap.size,0,none⟩) (by show w.heap.size<_;omega)).trans c0,(hB.cell (p:=⟨w.heap.size,1,none⟩) (by show w.heap.size<_;omega)).trans c1⟩)
 have KZ:=hid (show ∀ W:World,Below w0.heap.size w0 W→w.heap.size+2≤W.heap.size from fun W hB=>by have:=hB.size;omega);have KB:=hid (show ∀ W:World,Below w0.heap.size w0 W→Below w.heap.size w W from fun W hB=>hB0.trans (hB.mono (by omega)));have hR0:w0.cell? ⟨w.heap.size+1,0,none⟩=some (.string ⟨#[]⟩)∧w0.cell? ⟨w.heap.size+1,1,none⟩=some (.string ⟨#[]⟩)∧w0.frozen? ⟨w.heap.size+1,0,none⟩=false∧w0.frozen? ⟨w.heap.size+1,1,none⟩=false:=by rw[hw0];exact⟨((aB).trans rfl),((aB).trans rfl),(bf),(bf)⟩
 have KR:=hid (show ∀ W:World,Below w0.heap.size w0 W→(W.cell? ⟨w.heap.size+1,0,none⟩=some (.string ⟨#[]⟩)∧W.cell? ⟨w.heap.size+1,1,none⟩=some (.string ⟨#[]⟩)∧W.frozen? ⟨w.heap.size+1,0,none⟩=false∧W.frozen? ⟨w.heap.size+1,1,none⟩=false) from fun W hB=>by
  obtain⟨c0,c1,f0,f1⟩:=hR0
  exact⟨(hB.cell (p:=⟨w.heap.size+1,0,none⟩) (by show w.heap.size+1<_;omega)).trans c0,(hB.cell (p:=⟨w.heap.size+1,1,none⟩) (by show w.heap.size+1<_;omega)).trans c1,(hB.frozen (p:=⟨w.heap.size+1,0,none⟩) (by show w.heap.size+1<_;omega)).trans f0,(hB.frozen (p:=⟨w.heap.size+1,1,none⟩) (by show w.heap.size+1<_;omega)).trans f1⟩)
 clear hR0
 have KT0:=hid (show ∀ (W:World) (v u:Value),Below w0.heap.size w0 W→(((W.setCell ⟨w.heap.size+1,0,none⟩ v).setCell ⟨w.heap.size+1,1,none⟩ u).cell? ⟨w.heap.size,0,none⟩=some (.string l)∧((W.setCell ⟨w.heap.size+1,0,none⟩ v).setCell ⟨w.heap.size+1,1,none⟩ u).cell? ⟨w.heap.size,1,none⟩=some (.string h)) from fun W v u hB=>by
  have hh:=KS.o W hB;obtain⟨c0,c1⟩:=hh
  exact⟨(aP (by omega)).trans ((aP (by omega)).trans c0),(aP (by omega)).trans ((aP (by omega)).trans c1)⟩)
 have F0:=hid (Below.refl w0.heap.size w0);have HW0:=hid hw0;clear hz0 hB0 hS0 hw0;have HL:=hid (show ∀ W:World,Below w0.heap.size w0 W→La W from fun W hB=>hl.on (KB.o W hB));clear hl g1 g2 g3 g4 g5 g6;go_enter func22,ntmps22
 go_wp2_with fail
 rw[← HW0.o];obtain⟨d0,d1⟩:=KS.o _ F0.o;go_wp2_with fail
 refine(C1.o _ (HL.o _ F0.o)).mono ?_;rintro e w1 ⟨rfl,hb⟩;have F1:=hid (ah F0.o hb);clear hb d0 d1;obtain⟨d0,d1⟩:=KS.o _ F1.o;go_wp2_with fail
 refine(C2.o _ (HL.o _ F1.o)).mono ?_;rintro e w2 ⟨rfl,hb⟩;have F2:=hid (ah F1.o hb);clear hb d0 d1;obtain⟨d0,d1⟩:=KS.o _ F2.o;go_wp2_with fail
 go_region_held3 (fun w'=>w'.cell? ⟨w.heap.size,0,none⟩=some (.string l)∧w'.cell? ⟨w.heap.size,1,none⟩=some (.string h)) (first|(with_reducible exact KS.o _ F6.o)|(with_reducible exact KS.o _ F6.o.drew)|(with_reducible exact KS.o _ F5.o)|(with_reducible exact KS.o _ F5.o.drew)|(with_reducible exact KS.o _ F4.o)|(with_reducible exact KS.o _ F4.o.drew)|(with_reducible exact KS.o _ F3.o)|(with_reducible exact KS.o _ F3.o.drew)|(with_reducible exact KS.o _ F2.o)|(with_reducible exact KS.o _ F2.o.drew)|(with_reducible exact KT0.o _ _ _ F6.o)|(with_reducible exact KT0.o _ _ _ F6.o.drew))
  (first
   | (go_at_call 56;(with_reducible refine(C3.o _ ?la2).mono ?_);(case la2=>first|exact HL.o _ F2.o|exact HL.o _ F2.o.drew);rintro e w3 ⟨rfl,hb⟩;have F3:=hid (show Below w0.heap.size w0 w3 by first|exact ah F2.o hb|exact ah F2.o.drew hb);clear hb)
   | (go_at_call 57;(with_reducible refine(C4.o _ ?la3).mono ?_);(case la3=>first|exact HL.o _ F3.o|exact HL.o _ F3.o.drew);rintro e w4 ⟨rfl,hb⟩;have F4:=hid (show Below w0.heap.size w0 w4 by first|exact ah F3.o hb|exact ah F3.o.drew hb);clear hb)
   | (go_at_call 56;(with_reducible refine(C5.o _ ?la4).mono ?_);(case la4=>first|exact HL.o _ F4.o|exact HL.o _ F4.o.drew);rintro e w5 ⟨rfl,hb⟩;have F5:=hid (show Below w0.heap.size w0 w5 by first|exact ah F4.o hb|exact ah F4.o.drew hb);clear hb)
   | (go_at_call 57;(with_reducible refine(C6.o _ ?la5).mono ?_);(case la5=>first|exact HL.o _ F5.o|exact HL.o _ F5.o.drew);rintro e w6 ⟨rfl,hb⟩;have F6:=hid (show Below w0.heap.size w0 w6 by first|exact ah F5.o hb|exact ah F5.o.drew hb);clear hb;have hz:=KZ.o _ F6.o;obtain⟨m0,m1,n0,n1⟩:=KR.o _ F6.o)
   | fail)
 all_goals
  have hz:=KZ.o _ F6.o;go_wp2;refine bodyPost_ret (v:=.tuple #[.agg #[.string p,.string s],.int .i64 0]) (by simp[results,results22,go_sem,m0,m1]) rfl ⟨rfl,?_⟩;repeat (first|exact KB.o _ F6.o|refine Below.setCell ?_ (by first|omega|(simp;omega)|simp) _|refine Below.alloc ?_ (by first|omega|(simp;omega)|simp) _|refine Below.drew ?_)
def Vq (x y:Rat):Value:=.agg #[.string (Sq x),.string (Sq y)]
theorem tX {x y:Rat}(h:x≤y):cmpQ x y≤0:=by
 rcases fK x y with⟨h,e⟩|⟨h,e⟩|⟨h,e⟩<;>rw[e]<;>grind
theorem bU (x y:Rat)(h:x≤y)(hx:aS x)(hy:aS y)(w:World)(hl:La w) :
 CR 27 #[Vq x y] w (.bool true) :=
 oI _ _ _ (tX h) w hl (fun W hW=>qF x y _ rfl hx hy W hW)
theorem z0d (x y:Rat)(h:y<x)(hx:aS x)(hy:aS y)(w:World)(hl:La w) :
 CR 27 #[Vq x y] w (.bool false) :=
 qM _ _ w hl (fun W hW=>qF x y 1 (nY h) hx hy W hW)
theorem sF (a:ByteArray)(ha:a.size≤900)(w:World)(hl:La w) :
 Calls Tryz.prog 84 #[.string a] w fun e w'=>(∃ s b:ByteArray,e=.returned (.tuple #[.agg #[.string s,.string b],.bool (vldQ a.data.toList)]))∧Below w.heap.size w w':=by
 cases h:vldQ a.data.toList with
 | false=>exact z2d a h ha w hl
 | true =>
   have e:=z3t h;rw[e];have hq:(Sq (qval a.data.toList)).size≤900:=by rw[← e];exact ha
   exact(jH (qval a.data.toList) (zx hq (by decide)) w hl).mono (fun _ _ ⟨h1,h2⟩=>⟨⟨_,_,h1⟩,h2⟩)
theorem lM (l h:ByteArray)(hv:(vldQ l.data.toList&&vldQ h.data.toList)=false)(hl1:l.size≤900)(hh:h.size≤900)(w:World)(hl:La w) :
 CR 27 #[.agg #[.string l,.string h]] w (.bool false):=by
 refine qL l h w hl (fun W hW=>yE l h W ?_);have h2:=qR l h _ _ W hW (fun V hV=>sF l hl1 V hV) (fun V hV=>sF h hh V hV);rwa [hv]at h2
theorem nO (x y z:Rat)(r:Bool)(hr:decide (x≤z∧z≤y)=r)(hx:aS x)(hy:aS y)(hz:aS z)(w:World)(hl:La w) :
 CR 41 #[Vq x y,.string (Sq z)] w (.bool r):=by
 subst hr;by_cases h1:x≤z
 · by_cases h2:z≤y
   · rw[show decide (x≤z∧z≤y)=true by rw[decide_eq_true_iff];exact⟨h1,h2⟩]
     exact sU _ _ _ _ _ (tX h1) (tX h2) w hl (fun W hW=>ji x z _ rfl hx hz W hW) (fun W hW=>ji z y _ rfl hz hy W hW)
   · rw[show decide (x≤z∧z≤y)=false by rw[decide_eq_false_iff_not];exact fun h=>h2 h.2]
     exact sV _ _ _ _ (tX h1) w hl (fun W hW=>ji x z _ rfl hx hz W hW) (fun W hW=>ji z y 1 (nY (by grind)) hz hy W hW)
 · rw[show decide (x≤z∧z≤y)=false by rw[decide_eq_false_iff_not];exact fun h=>h1 h.1]
   exact sW _ _ _ w hl (fun W hW=>ji x z 1 (nY (by grind)) hx hz W hW)
theorem iHas (x y z:Rat)(r:Bool)(hr:decide (x≤z∧z≤y)=r)(h:x≤y)(hx:aS x)(hy:aS y)(hz:aS z)(w:World)(hl:La w) :
 CR 28 #[Vq x y,.string (Sq z)] w (.bool r) :=
 z1P _ _ _ r w hl (fun W hW=>bU x y h hx hy W hW) (fun W hW=>pE z hz W hW) (fun W hW=>nO x y z r hr hx hy hz W hW)
theorem iAdd (a b c d s t:Rat)(hs:a+c=s)(ht:b+d=t)(h1:a≤b)(h2:c≤d)(ha:aS a)(hb:aS b)(hc:aS c)(hd:aS d)(w:World)(hl:La w) :
 CR 7 #[Vq a b,Vq c d] w (.tuple #[Vq s t,.int .i64 0]) :=
 z1S _ _ _ _ _ _ w hl (fun W hW=>bU a b h1 ha hb W hW) (fun W hW=>bU c d h2 hc hd W hW) (fun W hW=>qAdd a c s hs ha hc W hW) (fun W hW=>qAdd b d t ht hb hd W hW)
theorem iSub (a b c d s t:Rat)(hs:a-d=s)(ht:b-c=t)(h1:a≤b)(h2:c≤d)(ha:aS a)(hb:aS b)(hc:aS c)(hd:aS d)(w:World)(hl:La w) :
 CR 9 #[Vq a b,Vq c d] w (.tuple #[Vq s t,.int .i64 0]) :=
 z1N _ _ _ _ _ _ w hl (fun W hW=>bU a b h1 ha hb W hW) (fun W hW=>bU c d h2 hc hd W hW) (fun W hW=>qSub a d s hs ha hd W hW) (fun W hW=>qSub b c t ht hb hc W hW)
def row4 (p0 p1 p2 p3:Rat):Nat→Rat
 | 0=>p0
 | 1=>p1
 | 2=>p2
 | _=>p3
theorem ext4 (p0 p1 p2 p3:Rat)(f0:aS p0)(f1:aS p1)(f2:aS p2)(f3:aS p3)(W:World)(g:Nat)(hW:La W)(hg:g<W.heap.size)
 (c0:W.cell? ⟨g,0,none⟩=some (.string (Sq p0))) (c1:W.cell? ⟨g,1,none⟩=some (.string (Sq p1))) (c2:W.cell? ⟨g,2,none⟩=some (.string (Sq p2))) (c3:W.cell? ⟨g,3,none⟩=some (.string (Sq p3))) :
 CR 45 #[.slice (some ⟨g,0,none⟩) 4 4] W (.agg #[.string (Sq (exOf (row4 p0 p1 p2 p3) 3).1),.string (Sq (exOf (row4 p0 p1 p2 p3) 3).2)]) :=
 iD g 4 4 (row4 p0 p1 p2 p3) (by decide) (by decide) (by decide) W hW hg
  (fun i hi=>match i,hi with
   | 0,_=>f0
   | 1,_=>f1
   | 2,_=>f2
   | 3,_=>f3)
  (fun i hi=>match i,hi with
   | 0,_=>c0
   | 1,_=>c1
   | 2,_=>c2
   | 3,_=>c3)
theorem iMul (a b c d p0 p1 p2 p3:Rat)(e0:a*c=p0)(e1:a*d=p1)(e2:b*c=p2)(e3:b*d=p3)(h1:a≤b)(h2:c≤d)(ha:aS a)(hb:aS b)(hc:aS c)(hd:aS d)(f0:aS p0)(f1:aS p1)(f2:aS p2)(f3:aS p3)(w:World)(hl:La w) :
 CR 11 #[Vq a b,Vq c d] w (.tuple #[Vq (exOf (row4 p0 p1 p2 p3) 3).1 (exOf (row4 p0 p1 p2 p3) 3).2,.int .i64 0]) :=
 z1O _ _ _ _ _ _ w hl (fun W hW=>bU a b h1 ha hb W hW) (fun W hW=>bU c d h2 hc hd W hW)
  (fun W hW=>oL _ _ _ _ _ _ _ _ _ _ W hW (fun V hV=>qMul a c p0 e0 ha hc V hV) (fun V hV=>qMul a d p1 e1 ha hd V hV) (fun V hV=>qMul b c p2 e2 hb hc V hV) (fun V hV=>qMul b d p3 e3 hb hd V hV) (fun V g hV=>ext4 p0 p1 p2 p3 f0 f1 f2 f3 V g hV))
theorem iDiv (a b c d p0 p1 p2 p3:Rat)(e0:a / c=p0)(e1:a / d=p1)(e2:b / c=p2)(e3:b / d=p3)(h1:a≤b)(h2:c≤d)(hz:decide (c≤0∧0≤d)=false)(ha:aS a)(hb:aS b)(hc:aS c)(hd:aS d)(f0:aS p0)(f1:aS p1)(f2:aS p2)(f3:aS p3)(w:World)(hl:La w) :
 CR 13 #[Vq a b,Vq c d] w (.tuple #[Vq (exOf (row4 p0 p1 p2 p3) 3).1 (exOf (row4 p0 p1 p2 p3) 3).2,.int .i64 0]):=by
 have hz2:=of_decide_eq_false hz;have hc0:c≠0:=by rintro rfl;exact hz2 ⟨by grind,h2⟩
 have hd0:d≠0:=by rintro rfl;exact hz2 ⟨h2,by grind⟩
 have h3:=fun W hW=>nO c d 0 false hz hc hd (aI (by decide +kernel) (by decide +kernel)) W hW;rw[q_0]at h3
 exact z1Q _ _ _ _ _ _ w hl (fun W hW=>bU a b h1 ha hb W hW) (fun W hW=>bU c d h2 hc hd W hW) h3
  (fun W hW=>oN _ _ _ _ _ _ _ _ _ _ W hW (fun V hV=>qDiv a c p0 e0 ha hc hc0 V hV) (fun V hV=>qDiv a d p1 e1 ha hd hd0 V hV) (fun V hV=>qDiv b c p2 e2 hb hc hc0 V hV) (fun V hV=>qDiv b d p3 e3 hb hd hd0 V hV) (fun V g hV=>ext4 p0 p1 p2 p3 f0 f1 f2 f3 V g hV))
theorem z4J (x:Rat)(hx:aS x)(w:World)(hl:La w) :
 CR 26 #[.string (Sq x)] w (.tuple #[Vq x x,.int .i64 0]) :=
 yn _ w hl (fun W hW=>pE x hx W hW)
def row2 (p0 p1:Rat):Nat→Rat
 | 0=>p0
 | _=>p1
def row3 (p0 p1 p2:Rat):Nat→Rat
 | 0=>p0
 | 1=>p1
 | _=>p2
theorem ext2 (p0 p1:Rat)(f0:aS p0)(f1:aS p1)(W:World)(g:Nat)(hW:La W)(hg:g<W.heap.size)
 (c0:W.cell? ⟨g,0,none⟩=some (.string (Sq p0))) (c1:W.cell? ⟨g,1,none⟩=some (.string (Sq p1))) :
 CR 45 #[.slice (some ⟨g,0,none⟩) 2 2] W (.agg #[.string (Sq (exOf (row2 p0 p1) 1).1),.string (Sq (exOf (row2 p0 p1) 1).2)]) :=
 iD g 2 2 (row2 p0 p1) (by decide) (by decide) (by decide) W hW hg
  (fun i hi=>match i,hi with
   | 0,_=>f0
   | 1,_=>f1)
  (fun i hi=>match i,hi with
   | 0,_=>c0
   | 1,_=>c1)
theorem ext3 (p0 p1 p2:Rat)(f0:aS p0)(f1:aS p1)(f2:aS p2)(W:World)(g:Nat)(hW:La W)(hg:g<W.heap.size)
 (c0:W.cell? ⟨g,0,none⟩=some (.string (Sq p0))) (c1:W.cell? ⟨g,1,none⟩=some (.string (Sq p1))) (c2:W.cell? ⟨g,2,none⟩=some (.string (Sq p2))) :
 CR 45 #[.slice (some ⟨g,0,none⟩) 3 3] W (.agg #[.string (Sq (exOf (row3 p0 p1 p2) 2).1),.string (Sq (exOf (row3 p0 p1 p2) 2).2)]) :=
 iD g 3 3 (row3 p0 p1 p2) (by decide) (by decide) (by decide) W hW hg
  (fun i hi=>match i,hi with
   | 0,_=>f0
   | 1,_=>f1
   | 2,_=>f2)
  (fun i hi=>match i,hi with
   | 0,_=>c0
   | 1,_=>c1
   | 2,_=>c2)
theorem fq00:aS 0:=aI (by decide +kernel) (by decide +kernel)
def sqI (a b:Rat):Rat × Rat:=if a≤0∧0≤b then exOf (row3 0 (a*a) (b*b)) 2 else exOf (row2 (a*a) (b*b)) 1
theorem uR (a b p q:Rat)(e0:a*a=p)(e1:b*b=q)(h:a≤b)(ha:aS a)(hb:aS b)(f0:aS p)(f1:aS q)(w:World)(hl:La w) :
 CR 15 #[Vq a b] w (.tuple #[Vq (sqI a b).1 (sqI a b).2,.int .i64 0]):=by
 unfold sqI
 by_cases hz:a≤0∧0≤b
 · rw[if_pos hz,e0,e1]
   have h3:=fun W hW=>nO a b 0 true (by rw[decide_eq_true_iff];exact hz) ha hb fq00 W hW;rw[q_0]at h3;refine mH _ _ _ _ _ _ w hl (fun W hW=>bU a b h ha hb W hW) (fun W hW=>qMul a a p e0 ha ha W hW) (fun W hW=>qMul b b q e1 hb hb W hW) h3 (fun W g hW hg c0 c1 c2=>?_);rw[← q_0]at c0;exact ext3 0 p q fq00 f0 f1 W g hW hg c0 c1 c2
 · rw[if_neg hz,e0,e1]
   have h3:=fun W hW=>nO a b 0 false (by rw[decide_eq_false_iff_not];exact hz) ha hb fq00 W hW;rw[q_0]at h3;exact uQ _ _ _ _ _ _ w hl (fun W hW=>bU a b h ha hb W hW) (fun W hW=>qMul a a p e0 ha ha W hW) (fun W hW=>qMul b b q e1 hb hb W hW) h3 (fun W g hW=>ext2 p q f0 f1 W g hW)
def rdQ (x:Rat) (n:Int):Rat:=Rat.divInt ((x*Rat.ofInt n).num / ((x*Rat.ofInt n).den:Int)) n
theorem zy {k:Nat}{z:Int}(h:Sm k z.natAbs)(hk:1≤k):SmQ k (Rat.ofInt z):=⟨h,(show Sm 1 1 by simp[Sm]).mono hk⟩
theorem wG {k:Nat}{x:Rat}(h:SmQ k x)(hk:1≤k):Sm (k+1) (x.num / (x.den:Int)).natAbs:=by
 refine Sm.le (n:=x.num.natAbs+1) (Sm.add h.1 ((show Sm 1 1 by simp[Sm]).mono hk)) ?_;have:=Int.natAbs_ediv_le_natAbs x.num (x.den:Int);omega
theorem z5f {k:Nat}{x:Rat}{n:Int}(hx:SmQ k x)(hn:Sm 10 n.natAbs)(hn0:n≠0):SmQ (k+10+1) (rdQ x n):=by
 unfold rdQ
 exact pg hn0 (wG (hx.mul (zy hn (by decide))) (by omega)) (hn.mono (by omega))
theorem pO {k:Nat}(x:Rat)(n:Int)(hk:k≤800)(hx:SmQ k x)(hn:Sm 10 n.natAbs)(hn0:n≠0)(w:World)(hl:La w) :
 CR 56 #[.string (Sq x),.string (Sz n)] w (.string (Sq (rdQ x n))):=by
 have hm:SmQ (k+10) (x*Rat.ofInt n):=hx.mul (zy hn (by decide));have h1:=fun W hW=>qMul x (Rat.ofInt n) _ rfl (hx.fit (by omega)) ((zy hn (by decide)).fit (by decide)) W hW;rw[wF]at h1
 exact nM _ _ _ _ _ w hl h1 (fun W hW=>z4E _ (hm.fit (by omega)) W hW)
  (fun W hW=>z5o _ n hn0 (FitL.of (wG hm (by omega)) (by omega)) (FitL.of hn (by decide)) W hW)
theorem iNeg (x y:Rat)(h:0-x=y)(hx:aS x)(w:World)(hl:La w) :
 CR 57 #[.string (Sq x)] w (.string (Sq y)):=by
 have h1:=fun W hW=>qSub 0 x y h fq00 hx W hW;rw[q_0]at h1;exact z1M _ _ w hl h1
theorem z5x (n:Int)(h0 : -9223372036854775808≤n)(h1:n≤9223372036854775807)(w:World)(hl:La w) :
 CR 55 #[.int .i64 n] w (.string (Sz n)):=by
 have h:=Tryz.strconv_Itoa n h0 h1 w hl.tb;rw[z0c]at h;exact h.mono (fun e w' ⟨e1,k,os,e2⟩=>⟨e1,e2▸Lib.below_grow w.heap.size w (Nat.le_refl _) k os⟩)
theorem z4I {k:Nat}(a b:Rat)(n:Int)(hk:k≤400)(h:a≤b)(ha:SmQ k a)(hb:SmQ k b)(hn1:1≤n)(hn2:n≤1000000000)(w:World)(hl:La w) :
 CR 22 #[Vq a b,.int .i64 n] w (.tuple #[Vq (rdQ a n) (0-rdQ (0-b) n),.int .i64 0]):=by
 have hn:Sm 10 n.natAbs:=by
  have:n.natAbs<10^10:=by omega
  exact this
 have hq:SmQ (k+2) (0-b):=((show SmQ 1 0 from⟨by unfold Sm;decide +kernel,by unfold Sm;decide +kernel⟩).sub hb).mono (by omega);have hr:=z5f (n:=n) hq hn (by omega)
 exact ym _ _ _ _ _ _ _ n (by rw[decide_eq_false_iff_not];omega) (by rw[decide_eq_false_iff_not];omega) w hl (fun W hW=>bU a b h (ha.fit (by omega)) (hb.fit (by omega)) W hW)
  (fun W hW=>z5x n (by omega) (by omega) W hW) (fun W hW=>pO a n (by omega) ha hn (by omega) W hW) (fun W hW=>iNeg b _ rfl (hb.fit (by omega)) W hW)
  (fun W hW=>pO _ n (by omega) hq hn (by omega) W hW) (fun W hW=>iNeg _ _ rfl (hr.fit (by omega)) W hW)
theorem z0v (p:Rat × Rat)(x:Rat):(fG p x).1≤p.1∧p.2≤(fG p x).2:=by
 unfold fG
 split
 · constructor<;>grind
 · split
   · constructor<;>grind
   · constructor<;>grind
theorem tL (p:Rat × Rat)(x:Rat)(h:p.1≤p.2):(fG p x).1≤x∧x≤(fG p x).2:=by
 unfold fG
 split
 · constructor<;>grind
 · split
   · constructor<;>grind
   · constructor<;>grind
theorem pQ (q:Nat→Rat):∀ n,(exOf q n).1≤(exOf q n).2
 | 0=>Rat.le_refl
 | n+1=>by
   have h:=pQ q n;have h2:=tL (exOf q n) (q (n+1)) h;show(fG (exOf q n) (q (n+1))).1≤(fG (exOf q n) (q (n+1))).2
   grind
theorem uY (q:Nat→Rat):∀ n i,i≤n→(exOf q n).1≤q i∧q i≤(exOf q n).2
 | 0,i,h=>by
   obtain rfl:i=0:=by omega
   exact⟨Rat.le_refl,Rat.le_refl⟩
 | n+1,i,h=>by
   have h1:=z0v (exOf q n) (q (n+1));have h2:=tL (exOf q n) (q (n+1)) (pQ q n);by_cases hi:i=n+1
   · subst hi;exact h2
   · have h3:=uY q n i (by omega)
     exact⟨Rat.le_trans h1.1 h3.1,Rat.le_trans h3.2 h1.2⟩
theorem qV (q:Nat→Rat):∀ n,(∃ i,i≤n∧(exOf q n).1=q i)∧(∃ i,i≤n∧(exOf q n).2=q i)
 | 0=>⟨⟨0,Nat.le_refl _,rfl⟩,⟨0,Nat.le_refl _,rfl⟩⟩
 | n+1=>by
   obtain⟨⟨i,hi,h1⟩,⟨j,hj,h2⟩⟩:=qV q n;show(∃ i,i≤n+1∧(fG (exOf q n) (q (n+1))).1=q i)∧(∃ i,i≤n+1∧(fG (exOf q n) (q (n+1))).2=q i)
   unfold fG
   split
   · exact⟨⟨n+1,Nat.le_refl _,rfl⟩,⟨j,by omega,h2⟩⟩
   · split
     · exact⟨⟨i,by omega,h1⟩,⟨n+1,Nat.le_refl _,rfl⟩⟩
     · exact⟨⟨i,by omega,h1⟩,⟨j,by omega,h2⟩⟩
def Iv (g:Nat) (x y:ByteArray) (W:World):Prop:=g<W.heap.size∧W.cell? ⟨g,0,none⟩=some (.string x)∧W.cell? ⟨g,1,none⟩=some (.string y)
theorem Iv.mono {g:Nat}{x y:ByteArray}{W W':World}(h:Iv g x y W)(hb:Below W.heap.size W W'):Iv g x y W' :=
 ⟨Nat.lt_of_lt_of_le h.1 hb.size,(hb.cell (p:=⟨g,0,none⟩) h.1).trans h.2.1,(hb.cell (p:=⟨g,1,none⟩) h.1).trans h.2.2⟩
theorem df (W:World)(o:Obj):Below W.heap.size W (W.alloc o):=(Below.refl W.heap.size W).alloc (Nat.le_refl _) o
theorem Iv.al {g:Nat}{x y:ByteArray}{W:World}(h:Iv g x y W)(o:Obj):Iv g x y (W.alloc o):=h.mono (df W o)
theorem z0b (W:World)(x y:ByteArray):Iv W.heap.size x y (W.alloc (.cells #[.string x,.string y] 24)) :=
 ⟨by simp,(aB rfl).trans rfl,(aB rfl).trans rfl⟩theorem iv_boxg {W:World} {g:Nat} (hg:g=W.heap.size) (x y:ByteArray):Iv g x y (W.alloc (.cells #[.string x,.string y] 24)):=by subst hg;exact z0b W x y
theorem dZ (a b:ByteArray)(w:World):CR 24 #[.string a,.string b] w (.agg #[.string a,.string b]):=by
 have HB:=Lib.hid (df w (.cells #[.string a,.string b] 24));go_enter func24,ntmps24
 go_wp2;exact bodyPost_ret (v:=.agg #[.string a,.string b]) (by simp[results,results24,go_sem]) rfl ⟨rfl,HB.o⟩
theorem z4H (g:Nat)(a:ByteArray)(w:World)(hab:40<a.size)(hc:w.cell? ⟨g,0,none⟩=some (.string a)) :
 Calls Tryz.prog 31 #[.slice (some ⟨g,0,none⟩) 1 1] w fun e w'=>e=.returned (.bool true)∧w=w':=by
 have c0:=hc;clear hc;have ka:(40:Int)<(a.size:Int):=by omega
 clear hab;go_enter func31,ntmps31
 go_wp2;refine wp_loop_rounds 2 ?_;rw[rounds_succ];go_wp2;go_ret
 exact⟨rfl,rfl⟩
theorem uB (w:World)(a b:ByteArray):(w.alloc (.cells #[.string a,.string b] 22)).cell? ⟨w.heap.size,0,none⟩=some (.string a)∧(w.alloc (.cells #[.string a,.string b] 22)).cell? ⟨w.heap.size,1,none⟩=some (.string b):=by
 refine⟨?_,?_⟩<;>simp
theorem z1K (g:Nat)(a b:ByteArray)(w:World)(ha:a.size≤40)(hb:b.size≤40)(hc:w.cell? ⟨g,0,none⟩=some (.string a)∧w.cell? ⟨g,1,none⟩=some (.string b)) :
 Calls Tryz.prog 31 #[.slice (some ⟨g,0,none⟩) 2 2] w fun e w'=>e=.returned (.bool false)∧w=w':=by
 obtain⟨c0,c1⟩:=hc;have ka:¬ (40:Int)<(a.size:Int):=by omega
 have kb:¬ (40:Int)<(b.size:Int):=by omega
 go_enter func31,ntmps31
 go_wp2;refine wp_loop_rounds 3 ?_;rw[rounds_succ];go_wp2;rw[rounds_succ];go_wp2;rw[rounds_succ];go_wp2;go_ret
 exact⟨rfl,rfl⟩
theorem z08 (g:Nat)(a b:ByteArray)(w:World)(hab:40<a.size∨40<b.size)(hc:w.cell? ⟨g,0,none⟩=some (.string a)∧w.cell? ⟨g,1,none⟩=some (.string b)) :
 Calls Tryz.prog 31 #[.slice (some ⟨g,0,none⟩) 2 2] w fun e w'=>e=.returned (.bool true)∧w=w':=by
 obtain⟨c0,c1⟩:=hc;by_cases ha:40<a.size
 · have ka:(40:Int)<(a.size:Int):=by omega
   clear hab;go_enter func31,ntmps31
   go_wp2;refine wp_loop_rounds 3 ?_;rw[rounds_succ];go_wp2;go_ret
   exact⟨rfl,rfl⟩
 · have ka:¬ (40:Int)<(a.size:Int):=by omega
   have kb:(40:Int)<(b.size:Int):=by omega
   clear hab;go_enter func31,ntmps31
   go_wp2;refine wp_loop_rounds 3 ?_;rw[rounds_succ];go_wp2;rw[rounds_succ];go_wp2;go_ret
   exact⟨rfl,rfl⟩
def lstQ (x y:Rat):Rat:=if cmpQ x y≤0 then x else y
def mstQ (x y:Rat):Rat:=if 0≤cmpQ x y then x else y
theorem lL (x y:Rat):lstQ x y≤x∧lstQ x y≤y:=by
 unfold lstQ
 rcases fK x y with⟨h,e⟩|⟨h,e⟩|⟨h,e⟩<;>rw[e]<;>simp<;>grind
theorem ky (x y:Rat):x≤mstQ x y∧y≤mstQ x y:=by
 unfold mstQ
 rcases fK x y with⟨h,e⟩|⟨h,e⟩|⟨h,e⟩<;>rw[e]<;>simp<;>grind
theorem jc (x y:Rat):lstQ x y=x∨lstQ x y=y:=by
 unfold lstQ
 split
 · exact Or.inl rfl
 · exact Or.inr rfl
theorem iw (x y:Rat):mstQ x y=x∨mstQ x y=y:=by
 unfold mstQ
 split
 · exact Or.inl rfl
 · exact Or.inr rfl
theorem kg {k:Nat}{x y:Rat}(hx:SmQ k x)(hy:SmQ k y):SmQ k (lstQ x y):=by rcases jc x y with e|e<;>rw[e]<;>assumption
theorem jh {k:Nat}{x y:Rat}(hx:SmQ k x)(hy:SmQ k y):SmQ k (mstQ x y):=by rcases iw x y with e|e<;>rw[e]<;>assumption
theorem qU (q:Nat→Rat)(n:Nat){m:Rat}(h1:∀ i,i≤n→m≤q i)(h2:∃ i,i≤n∧m=q i):(exOf q n).1=m:=by
 obtain⟨i,hi,e⟩:=h2;obtain⟨j,hj,f⟩:=(qV q n).1;have a:=(uY q n i hi).1;have b:=h1 j hj;grind
theorem uX (q:Nat→Rat)(n:Nat){m:Rat}(h1:∀ i,i≤n→q i≤m)(h2:∃ i,i≤n∧m=q i):(exOf q n).2=m:=by
 obtain⟨i,hi,e⟩:=h2;obtain⟨j,hj,f⟩:=(qV q n).2;have a:=(uY q n i hi).2;have b:=h1 j hj;grind
theorem z2W {p0 p1 p2 p3:Rat}{P:Rat→Prop}(h0:P p0)(h1:P p1)(h2:P p2)(h3:P p3)(i:Nat):P (row4 p0 p1 p2 p3 i):=by
 match i with
 | 0=>exact h0
 | 1=>exact h1
 | 2=>exact h2
 | _+3=>exact h3
theorem z2V {p0 p1 p2 p3 m:Rat}(h:m=p0∨m=p1∨m=p2∨m=p3):∃ i,i≤3∧m=row4 p0 p1 p2 p3 i:=by
 rcases h with h|h|h|h
 · exact⟨0,by decide,h⟩
 · exact⟨1,by decide,h⟩
 · exact⟨2,by decide,h⟩
 · exact⟨3,by decide,h⟩
theorem z0w {p0 p1 p2 p3:Rat}:(exOf (row4 p0 p1 p2 p3) 3).1=lstQ (lstQ p0 p2) (lstQ p1 p3):=by
 have a:=lL (lstQ p0 p2) (lstQ p1 p3);have b:=lL p0 p2;have c:=lL p1 p3;refine qU _ _ (fun i _=>z2W (P:=fun x=>lstQ (lstQ p0 p2) (lstQ p1 p3)≤x) ?_ ?_ ?_ ?_ i) (z2V ?_)
 · grind
 · grind
 · grind
 · grind
 · rcases jc (lstQ p0 p2) (lstQ p1 p3) with e|e<;>rw[e]
   · rcases jc p0 p2 with f|f<;>simp[f]
   · rcases jc p1 p3 with f|f<;>simp[f]
theorem z0x {p0 p1 p2 p3:Rat}:(exOf (row4 p0 p1 p2 p3) 3).2=mstQ (mstQ p0 p2) (mstQ p1 p3):=by
 have a:=ky (mstQ p0 p2) (mstQ p1 p3);have b:=ky p0 p2;have c:=ky p1 p3;refine uX _ _ (fun i _=>z2W (P:=fun x=>x≤mstQ (mstQ p0 p2) (mstQ p1 p3)) ?_ ?_ ?_ ?_ i) (z2V ?_)
 · grind
 · grind
 · grind
 · grind
 · rcases iw (mstQ p0 p2) (mstQ p1 p3) with e|e<;>rw[e]
   · rcases iw p0 p2 with f|f<;>simp[f]
   · rcases iw p1 p3 with f|f<;>simp[f]
theorem z07 (x y:Rat):lstQ x y=lstQ y x:=by
 have a:=lL x y;have b:=lL y x;rcases jc x y with e|e<;>rcases jc y x with f|f<;>grind
theorem z02 (x y:Rat):mstQ x y=mstQ y x:=by
 have a:=ky x y;have b:=ky y x;rcases iw x y with e|e<;>rcases iw y x with f|f<;>grind
theorem z4x {a b:Rat}(h:¬ (a≤0∧0≤b)):sqI a b=(lstQ (a*a) (b*b),mstQ (a*a) (b*b)):=by
 unfold sqI
 rw[if_neg h];have a1:=lL (a*a) (b*b);have b1:=ky (a*a) (b*b);refine Prod.ext (qU _ _ (fun i hi=>?_) ?_) (uX _ _ (fun i hi=>?_) ?_)
 · match i,hi with
   | 0,_=>exact a1.1
   | 1,_=>exact a1.2
 · rcases jc (a*a) (b*b) with e|e
   · exact⟨0,by decide,e⟩
   · exact⟨1,by decide,e⟩
 · match i,hi with
   | 0,_=>exact b1.1
   | 1,_=>exact b1.2
 · rcases iw (a*a) (b*b) with e|e
   · exact⟨0,by decide,e⟩
   · exact⟨1,by decide,e⟩
theorem z3u {a b:Rat}(h:a≤0∧0≤b):sqI a b=(0,mstQ (a*a) (b*b)):=by
 unfold sqI
 rw[if_pos h];have b1:=ky (a*a) (b*b)
 have sa:0≤a*a:=by
  have h1:0≤(-a)*(-a):=Rat.mul_nonneg (by grind) (by grind);grind
 have sb:0≤b*b:=Rat.mul_nonneg h.2 h.2;refine Prod.ext (qU _ _ (fun i hi=>?_) ⟨0,by decide,rfl⟩) (uX _ _ (fun i hi=>?_) ?_)
 · match i,hi with
   | 0,_=>exact Rat.le_refl
   | 1,_=>exact sa
   | 2,_=>exact sb
 · match i,hi with
   | 0,_=>exact Rat.le_trans sa b1.1
   | 1,_=>exact b1.1
   | 2,_=>exact b1.2
 · rcases iw (a*a) (b*b) with e|e
   · exact⟨1,by decide,e⟩
   · exact⟨2,by decide,e⟩
end Go.Proofs.YteihfbkaieemdaaGreatDoor
open Go.Lib (hid)
namespace Go.Proofs.YteihfbkaieemdaaGreatDoor
open Go.RowKit Go.Gb
def hcells (q:Nat→Rat) (m:Nat):List Value:=(List.range m).map fun j => .string (Sq (q j))
theorem yo (q:Nat→Rat)(i:Nat):hcells q (2*i)++[.string (Sq (q (2*i))),.string (Sq (q (2*i+1)))]=hcells q (2*i+2):=by
 unfold hcells
 rw[List.range_succ,List.range_succ];simp
theorem yt (q:Nat→Rat){m i:Nat}(h:i<m):(hcells q m)[i]? = some (.string (Sq (q i))):=by
 unfold hcells
 simp[h]
theorem z1E {W:World}{base n:Nat}{e:TypeId}{v:Value}{xs:List Value}(h:W.ownsRow base e 1 v n xs)(hn:0<n) :
 ∃ g cap,v=.slice (some ⟨g,0,none⟩) n cap∧base≤g∧g<W.heap.size∧n≤cap∧∀ i x,xs[i]? = some x→W.cell? ⟨g,i,none⟩=some x:=by
 obtain⟨h1,h2⟩:=h;rcases h2 with⟨h2,h3⟩|⟨g,cap,cur,hv,hg,hh,hn2,hc,hs,ht⟩
 · omega
 · refine⟨g,cap,hv,hg,(Array.getElem?_eq_some_iff.1 hh).1,hn2,fun i x hx=>?_⟩
   have hi:i<n:=by
    have:=(List.getElem?_eq_some_iff.1 hx).1;omega
   rw[← ht,Nat.mul_one,List.getElem?_take,if_pos hi]at hx;simp only[World.cell?,hh];simpa using hx
theorem own_below {W W':World}{base n:Nat}{e:TypeId}{v:Value}{xs:List Value}(h:W.ownsRow base e 1 v n xs)(hb:Below W.heap.size W W'):W'.ownsRow base e 1 v n xs:=by
 obtain⟨h1,h2⟩:=h;refine⟨h1,?_⟩;rcases h2 with h2|⟨g,cap,cur,hv,hg,hh,r⟩
 · exact Or.inl h2
 · exact Or.inr ⟨g,cap,cur,hv,hg,by rw[hb.block g (Array.getElem?_eq_some_iff.1 hh).1];exact hh,r⟩
theorem xJ (w:World)(u v:Value)(T:TypeId):∀ j x,[u,v][j]? = some x→(w.alloc (.cells #[u,v] T)).cell? ((⟨w.heap.size,0,none⟩:Addr).add j)=some x:=by
 intro j x hj
 match j,hj with
 | 0,hj=>simp at hj;subst hj;simp[Addr.add]
 | 1,hj=>simp at hj;subst hj;simp[Addr.add]
theorem z1t:∃ i0:TypeInfo,Tryz.prog.info? 22=some i0∧i0.zero=some (.string ⟨#[]⟩)∧i0.size=1∧i0.bytes=16:=by
 have h1:(Tryz.prog.info? 22).map (fun i=>i.zero)=some (some (.string ⟨#[]⟩)):=by kernel_rfl
 have h2:(Tryz.prog.info? 22).map (fun i=>i.size)=some 1:=by kernel_rfl
 have h3:(Tryz.prog.info? 22).map (fun i=>i.bytes)=some 16:=by kernel_rfl
 cases h:Tryz.prog.info? 22 with
 | none=>rw[h]at h1;cases h1
 | some i =>
   rw[h]at h1 h2 h3;exact⟨i,rfl,by simpa using h1,by simpa using h2,by simpa using h3⟩
theorem z1T (g n c:Nat)(q:Nat→Rat)(hn1:1≤n)(hn2:n≤1024)(hnc:n≤c)(w:World)(hl:La w)(hg:g<w.heap.size)
 (hq:∀ i,i<2*n→aS (q i)) (hv:∀ i,i<n→q (2*i)≤q (2*i+1)) (hcell:∀ i,i<2*n→w.cell? ⟨g,i,none⟩=some (.string (Sq (q i)))) :
 CR 19 #[.slice (some ⟨g,0,none⟩) n c] w (.tuple #[Vq (exOf q (2*n-1)).1 (exOf q (2*n-1)).2,.int .i64 0]):=by
 obtain⟨i0,hi,hz0,hz1,hz2⟩:=z1t;obtain⟨w0,hw0⟩:∃ w0:World,w0=w.alloc (.cells #[.string ⟨#[]⟩,.string ⟨#[]⟩] 24):=⟨_,rfl⟩;have hs0:w0.heap.size=w.heap.size+1:=by rw[hw0];simp
 have hb0:Below w.heap.size w w0:=by rw[hw0];exact df w _
 have hr0:w0.cell? ⟨w.heap.size,0,none⟩=some (.string ⟨#[]⟩)∧w0.cell? ⟨w.heap.size,1,none⟩=some (.string ⟨#[]⟩)∧w0.frozen? ⟨w.heap.size,0,none⟩=false∧w0.frozen? ⟨w.heap.size,1,none⟩=false:=by
  rw[hw0];exact⟨(aB rfl).trans rfl,(aB rfl).trans rfl,bf rfl,bf rfl⟩
 have HQ:=hid hq;have HV:=hid hv;have KB:=hid (show ∀ W:World,Below w0.heap.size w0 W→Below w.heap.size w W from fun W hB=>hb0.trans (hB.mono (by omega)));have HC:=hid (show ∀ W:World,Below w0.heap.size w0 W→∀ i,i<2*n→W.cell? ⟨g,i,none⟩=some (.string (Sq (q i))) from fun W hB i hi'=>((KB.o W hB).cell (p:=⟨g,i,none⟩) hg).trans (hcell i hi'))
 have KR:=hid (show ∀ W:World,Below w0.heap.size w0 W→(W.cell? ⟨w.heap.size,0,none⟩=some (.string ⟨#[]⟩)∧W.cell? ⟨w.heap.size,1,none⟩=some (.string ⟨#[]⟩)∧W.frozen? ⟨w.heap.size,0,none⟩=false∧W.frozen? ⟨w.heap.size,1,none⟩=false) from fun W hB=>by
  obtain⟨c0,c1,f0,f1⟩:=hr0
  exact⟨(hB.cell (p:=⟨w.heap.size,0,none⟩) (by show w.heap.size<_;omega)).trans c0,(hB.cell (p:=⟨w.heap.size,1,none⟩) (by show w.heap.size<_;omega)).trans c1,(hB.frozen (p:=⟨w.heap.size,0,none⟩) (by show w.heap.size<_;omega)).trans f0,(hB.frozen (p:=⟨w.heap.size,1,none⟩) (by show w.heap.size<_;omega)).trans f1⟩)
 have HL:=hid (show ∀ W:World,Below w0.heap.size w0 W→La W from fun W hB=>hl.on (KB.o W hB));have KZ:=hid (show ∀ W:World,Below w0.heap.size w0 W→w.heap.size+1≤W.heap.size from fun W hB=>by have:=hB.size;omega);obtain ⟨F0,HS,HW0⟩:=ak (Below.refl w0.heap.size w0) hs0 hw0;have ne0:¬ (n:Int)=0:=by omega
 have ne1:¬ (1024:Int)<(n:Int):=by omega
 have nc:(n:Int)≤(c:Int):=by omega
 clear hq hv hcell hb0 hr0 hl hs0 hw0;go_enter func19,ntmps19
 go_wp2;rw[← HW0.o];go_loopw [4,6,17] (fun v _ ii wr=>∃ (i:Nat),i≤n∧ii=.int .i64 (i:Int)∧Hid (wr.ownsRow w0.heap.size 22 1 v (2*i) (hcells q (2*i)))∧Hid (Below w0.heap.size w0 wr)) (fun _ _ ii _=>n-(intOf ii).toNat)
 case atStart=>exact⟨0,by omega,rfl,hid (World.ownsRow_nil w0 w0.heap.size 22 1),F0⟩
 case round =>
  obtain⟨i,hin,rfl,hO,hF⟩:=hrel;have hi2:(i:Int)≤1024:=by omega
  have hi3:(0:Int)≤(i:Int):=by omega
  have wi:IntKind.i64.wrap ((i:Int)+1)=(i:Int)+1:=IntWalk.i64_in _ (by omega);by_cases hlt:i<n
  · have c0:wr.cell? ⟨g,i*2,none⟩=some (.string (Sq (q (2*i)))):=by rw[Nat.mul_comm];exact HC.o _ hF.o (2*i) (by omega)
    have c1:wr.cell? ⟨g,i*2+1,none⟩=some (.string (Sq (q (2*i+1)))):=by rw[Nat.mul_comm];exact HC.o _ hF.o (2*i+1) (by omega)
    have FX:=hid (HQ.o (2*i) (by omega));have FY:=hid (HQ.o (2*i+1) (by omega));obtain ⟨HXY,HNX⟩:=aD (HV.o i hlt) (yo q i);generalize q (2*i)=x at *;generalize q (2*i+1)=y at *;have hlt1:(i:Int)<(n:Int):=by omega
    have CV:=hid (fun W hW=>show CR 27 #[.agg #[.string (Sq x),.string (Sq y)]] W (.bool true) from bU x y HXY.o FX.o FY.o W hW);go_wp2_with fail
    obtain ⟨F1,O1⟩:=aD (hF.o.alloc hF.o.size (.cells #[.string (Sq x),.string (Sq y)] 24)) (hO.o.alloc (.cells #[.string (Sq x),.string (Sq y)] 24));refine(CV.o _ (HL.o _ F1.o)).mono ?_;rintro e w1 ⟨rfl,hb⟩;obtain ⟨V2,F2,O2⟩:=ak ((z0b wr (Sq x) (Sq y)).mono hb) (ah F1.o hb) (own_below O1.o hb);clear hb c0 c1 F1 O1 CV;obtain⟨_,c0,c1⟩:=V2.o;go_wp2_with (at_builtin;refine wpList_append_own _ rfl _ _ 71 rfl w0.heap.size 22 i0 (.string ⟨#[]⟩) 1 16 underlying71 hi hz0 hz1 hz2 rfl (by decide) _ (2*i) (hcells q (2*i)) rfl (O2.o.alloc _) ⟨w1.heap.size,0,none⟩ 2 2 [.string (Sq x),.string (Sq y)] rfl rfl (xJ _ _ _ _) (by intro u hu;simp at hu;rcases hu with rfl|rfl<;>rfl) (by unfold maxLen;omega) (by omega) (by have:=F2.o.size;simp;omega) ?_)
    intro v' w2 hown hgrow _;rw[HNX.o]at hown;have F3:=hid ((F2.o.alloc F2.o.size _).grown hgrow (by have:=F2.o.size;simp;omega) (fun k hk=>(O2.o.lt k hk).1));have O3:=hid hown;clear hown hgrow;go_wp2;go_roundw
    case rel=>exact⟨i+1,by omega,by go_num,O3,F3⟩
    case measure=>simp[intOf];omega
  · have hge:decide ((i:Int)<(n:Int))=false:=by rw[decide_eq_false_iff_not];omega
    obtain rfl:i=n:=by omega
    obtain⟨g1,cap,rfl,hg1,hg2,hcap,hcs⟩:=z1E hO.o (by omega);have CE:=hid (iD g1 (2*i) cap q (by omega) (by omega) hcap wr (HL.o _ hF.o) hg2 HQ.o (fun j hj=>hcs j _ (yt q hj)));clear hO hcs;go_wp2_with fail
    refine CE.o.mono ?_;rintro e w1 ⟨rfl,hb⟩;have F1:=hid (ah hF.o hb);clear hb;obtain⟨m0,m1,n0,n1⟩:=KR.o _ F1.o;go_wp2;refine bodyPost_ret (v:=.tuple #[.agg #[.string (Sq (exOf q (2*i-1)).1),.string (Sq (exOf q (2*i-1)).2)],.int .i64 0]) (by simp[results,results19,go_sem,m0,m1]) rfl ⟨rfl,?_⟩;exact((KB.o _ F1.o).setCell (p:=⟨w.heap.size,0,none⟩) (Nat.le_refl _) _).setCell (p:=⟨w.heap.size,1,none⟩) (Nat.le_refl _) _
