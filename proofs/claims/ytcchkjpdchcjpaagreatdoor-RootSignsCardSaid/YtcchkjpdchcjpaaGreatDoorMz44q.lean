/- texts -/
import Derived.Test.YtcchkjpdchcjpaaGreatDoorQj
import Derived.Shelf.Strings.SlTrimAscii
import Derived.Test.YtcchkjpdchcjpaaGreatDoorMz40q
import Derived.Test.YtcchkjpdchcjpaaGreatDoorMz43q
open Go.Proofs.Tryz
namespace Go.Proofs.YtcchkjpdchcjpaaGreatDoor
open Go.RowKit Go.Gb
theorem jP (n:Nat):Sn n=Sq ((n:Nat):Rat):=by
 rw[← di];exact(qm (n:Int)).symm
theorem dO {k n:Nat}(h:Sm k n)(hk:1≤k):SmQ k ((n:Nat):Rat) :=
 ⟨(show Sm k (((n:Nat):Rat)).num.natAbs from by simpa using h),(show Sm k (((n:Nat):Rat)).den from by
   have:(((n:Nat):Rat)).den=1:=rfl;rw[this]
   exact(show Sm 1 1 by unfold Sm;decide).mono hk)⟩
theorem nA {x y z:Rat}(h:x+y=z)(hx:FitQ x)(hy:FitQ y)(w:World)(hla:La w):CV w 36 #[.string (Sq x),.string (Sq y)] (.string (Sq z)) :=
 z0g _ _ _ 0 w (fun W hW=>qAdd x y z h hx hy W (hla.on hW))
theorem fZ {x y z:Rat}(h:x*y=z)(hx:FitQ x)(hy:FitQ y)(w:World)(hla:La w):CV w 30 #[.string (Sq x),.string (Sq y)] (.string (Sq z)) :=
 ym _ _ _ 0 w (fun W hW=>qMul x y z h hx hy W (hla.on hW))
theorem qO {x y z:Rat}(h:x / y=z)(hx:FitQ x)(hy:FitQ y)(h0:y≠0)(w:World)(hla:La w):CV w 28 #[.string (Sq x),.string (Sq y)] (.string (Sq z)) :=
 z0h _ _ _ 0 w (fun W hW=>qDiv x y z h hx hy h0 W (hla.on hW))
theorem qP {x y:Rat}{c:Int}(h:aP x y=c)(hx:FitQ x)(hy:FitQ y)(w:World)(hla:La w):CV w 39 #[.string (Sq x),.string (Sq y)] (.int .i64 c) :=
 yo _ _ _ 0 w (fun W hW=>wW x y c h hx hy W (hla.on hW))
theorem qQ {x:Rat}{z:Int}(h:x.num / (x.den:Int)=z)(hx:FitQ x)(w:World)(hla:La w):CV w 61 #[.string (Sq x)] (.string (Sz z)) :=
 yw _ _ 0 w (fun W hW=>h▸z2Z x hx W (hla.on hW))
theorem z4I:Sq ((1:Rat) / 2)=⟨#[49,47,50]⟩:=by decide +kernel
theorem z4F {n g:Nat}{k:Nat}(hg:1≤g)(hn:Sm k n)(hgs:Sm k g)(hk:1≤k)(hk2:k≤400)(w:World)(hla:La w) :
 CV w 28 #[.string (Sn n),.string (Sn g)] (.string (Sq (((n:Nat):Rat) / ((g:Nat):Rat)))) ∧
 CV w 61 #[.string (Sq (((n:Nat):Rat) / ((g:Nat):Rat)))] (.string (Sn (n / g))) ∧
 CV w 36 #[.string (Sn g),.string (Sn (n / g))] (.string (Sn (g+n / g))) ∧
 CV w 30 #[.string (Sn (g+n / g)),.string ⟨#[49,47,50]⟩] (.string (Sq (((g+n / g:Nat):Rat)*((1:Rat) / 2)))) ∧
 CV w 61 #[.string (Sq (((g+n / g:Nat):Rat)*((1:Rat) / 2)))] (.string (Sn ((g+n / g) / 2))):=by
 have g0:((g:Nat):Rat)≠0:=by
  intro h;have:=Rat.intCast_eq_zero_iff.1 (show(((g:Nat):Int):Rat)=0 from h);omega
 have qn:=dO hn hk;have qg:=dO hgs hk;have hd:Sm k (n / g):=hn.le (Nat.div_le_self _ _);have qd:=dO hd hk;have hs:Sm (k+1) (g+n / g):=Sm.add hgs hd;have qs:=dO hs (by omega);have hh:SmQ 1 ((1:Rat) / 2):=⟨by unfold Sm;decide +kernel,by unfold Sm;decide +kernel⟩;refine⟨?_,?_,?_,?_,?_⟩
 · rw[jP,jP]
   exact qO rfl (qn.fit (by omega)) (qg.fit (by omega)) g0 w hla
 · have h:=qQ (x:=((n:Nat):Rat) / ((g:Nat):Rat)) (z:=((n / g:Nat):Int)) (by
    have:=pO (n:Int) (g:Int) (by omega);rw[Int.natCast_ediv]
    exact this) ((qn.div qg g0).fit (by omega)) w hla
   rwa [di]at h
 · rw[jP,jP,jP]
   exact nA (by rw[Rat.natCast_add]) (qg.fit (by omega)) (qd.fit (by omega)) w hla
 · rw[jP,← z4I]
   exact fZ rfl (qs.fit (by omega)) (hh.fit (by decide)) w hla
 · have h:=qQ (x:=((g+n / g:Nat):Rat)*((1:Rat) / 2)) (z:=(((g+n / g) / 2:Nat):Int)) (by
    have e:((g+n / g:Nat):Rat)*((1:Rat) / 2)=(((g+n / g:Nat):Int):Rat) / ((2:Int):Rat):=by
        have e1:(((g+n / g:Nat):Int):Rat)=((g+n / g:Nat):Rat):=rfl;have e2:((2:Int):Rat)=2:=rfl;rw[e1,e2];grind
    rw[e,pO _ 2 (by decide),Int.natCast_ediv]
    rfl) ((qs.mul hh).fit (by omega)) w hla
   rwa [di]at h
set_option maxRecDepth 100000
set_option maxHeartbeats 20000000
open Go.Lib (hid)
theorem oD (l h:ByteArray)(c:Int)(hc:c≤0)(w:World)(hl:La w)
 (h1:CL 63 #[.string l,.string h] (.tuple #[.int .i64 c,.int .i64 0])) :
 CR 31 #[.agg #[.string l,.string h]] w (.bool true):=by
 have C1:=hid h1;obtain⟨w0,hw0⟩:∃ w0:World,w0=(w.alloc (.cells #[.string l,.string h] 31)):=⟨_,rfl⟩;have hz0:w0.heap.size=w.heap.size+1:=by rw[hw0];simp
 have hB0:Below w.heap.size w w0:=by
  rw[hw0];repeat (first|exact Below.refl _ _|refine Below.setCell ?_ (by first|omega|(simp;omega)|simp) _|refine Below.alloc ?_ (by first|omega|(simp;omega)|simp) _|refine Below.drew ?_)
 have hS0:w0.cell? ⟨w.heap.size,0,none⟩=some (.string l)∧w0.cell? ⟨w.heap.size,1,none⟩=some (.string h):=by rw[hw0];exact⟨((aQ).trans rfl),((aQ).trans rfl)⟩
 have KS:=hid (show ∀ W:World,Below w0.heap.size w0 W→(W.cell? ⟨w.heap.size,0,none⟩=some (.string l)∧W.cell? ⟨w.heap.size,1,none⟩=some (.string h)) from fun W hB=>by
  obtain⟨c0,c1⟩:=hS0
  exact⟨(hB.cell (p:=⟨w.heap.size,0,none⟩) (by show w.heap.size<_;omega)).trans c0,(hB.cell (p:=⟨w.heap.size,1,none⟩) (by show w.heap.size<_;omega)).trans c1⟩)
 have KZ:=hid (show ∀ W:World,Below w0.heap.size w0 W→w.heap.size+1≤W.heap.size from fun W hB=>by have:=hB.size;omega);have KB:=hid (show ∀ W:World,Below w0.heap.size w0 W→Below w.heap.size w W from fun W hB=>hB0.trans (hB.mono (by omega)));have F0:=hid (Below.refl w0.heap.size w0);have HW0:=hid hw0;clear hz0 hB0 hS0 hw0;have HL:=hid (show ∀ W:World,Below w0.heap.size w0 W→La W from fun W hB=>hl.on (KB.o W hB));clear hl h1;go_enter func31,ntmps31
 go_wp2_with fail
 rw[← HW0.o];obtain⟨d0,d1⟩:=KS.o _ F0.o;go_wp2_with fail
 refine(C1.o _ (HL.o _ F0.o)).mono ?_;rintro e w1 ⟨rfl,hb⟩;have F1:=hid (ak F0.o hb);clear hb d0 d1;obtain⟨d0,d1⟩:=KS.o _ F1.o;go_wp2;go_ret
 exact⟨rfl,KB.o _ F1.o⟩
end Go.Proofs.YtcchkjpdchcjpaaGreatDoor
set_option maxRecDepth 100000
set_option maxHeartbeats 20000000
open Go.Lib (hid)
namespace Go.Proofs.YtcchkjpdchcjpaaGreatDoor
open Go.RowKit Go.Gb
theorem z2h (a b n d r:ByteArray)(hb0:(b.toList==[48])=false)(w:World)(hl:La w)
 (h1:CL 87 #[.string a] (.bool true))
 (h2:CL 87 #[.string b] (.bool true))
 (h3:CL 123 #[.string a,.string b] (.agg #[.string n,.string d]))
 (h4:CQ 84 #[.agg #[.string n,.string d]] (.string r)) :
 CR 95 #[.string a,.string b] w (.tuple #[.string r,.int .i64 0]):=by
 obtain ⟨C1,C2,C3,C4,HL,u6⟩:=bX h1 h2 h3 h4 hl (Below.refl w.heap.size w);clear h1 h2 h3 h4 hl;go_enter func95,ntmps95
 go_wp2_with fail
 refine(C1.o _ (HL.o.on u6.o)).mono ?_;rintro e w1 ⟨rfl,hb⟩;have w9:=hbt u6 hb;clear hb;go_wp2_with fail
 refine(C2.o _ (HL.o.on w9.o)).mono ?_;rintro e w2 ⟨rfl,hb⟩;have wo:=hbt w9 hb;clear hb;go_wp2_with fail
 refine(C3.o _ (HL.o.on wo.o)).mono ?_;rintro e w3 ⟨rfl,hb⟩;have wu:=hbt wo hb;clear hb;go_wp2_with fail
 refine(C4.o _).mono ?_;rintro e w4 ⟨rfl,hb⟩;have ww:=hbt wu hb;clear hb;go_wp2;go_ret2
 exact⟨rfl,ww.o⟩
theorem z0Q (a b:Int)(hb:b≠0):(Rat.divInt a b).num.natAbs≤a.natAbs∧(Rat.divInt a b).den≤b.natAbs:=by
 rcases Int.lt_or_gt_of_ne hb with h|h
 · obtain⟨n,hn⟩:∃ n:Nat,b = -(n:Int):=⟨b.natAbs,by omega⟩
   subst hn;have h2:=z2g (-a) n (by omega);rw[Rat.divInt_neg',Rat.divInt_ofNat];rw[Int.natAbs_neg]at h2;rw[Int.natAbs_neg,Int.natAbs_natCast];exact h2
 · obtain⟨n,hn⟩:∃ n:Nat,b=(n:Int):=⟨b.natAbs,by omega⟩
   subst hn;rw[Rat.divInt_ofNat,Int.natAbs_natCast];exact z2g a n (by omega)
theorem oU {k:Nat}{a b:Int}(hb:b≠0)(ha:Sm k a.natAbs)(h:Sm k b.natAbs):SmQ k (Rat.divInt a b):=by
 obtain⟨e1,e2⟩:=z0Q a b hb;exact⟨ha.le e1,h.le e2⟩
theorem z5s (a b:Int)(hb:b≠0)(ha:FitL a)(fb:FitL b)(w:World)(hl:La w) :
 CR 95 #[.string (Sz a),.string (Sz b)] w (.tuple #[.string (Sq (Rat.divInt a b)),.int .i64 0]):=by
 have hs:SmQ 1900 (Rat.divInt a b):=oU hb ha fb;have h3:=fun W hW=>z3W a b hb ha fb W hW;unfold Fv at h3
 exact z2h _ _ _ _ _ (z3m hb) w hl (fun W hW=>dA a ha.z W hW.zz) (fun W hW=>dA b fb.z W hW.zz) h3 (fun W=>tN _ hs.1 (FitL.nat hs.2) W)
theorem yL {q:Rat}(h1:q.num.natAbs<1000)(h2:q.den<1000):FitQ q:=⟨(show Sm 3 _ by unfold Sm;omega).mono (by decide),(show Sm 3 _ by unfold Sm;omega).mono (by decide)⟩
theorem qnd (q:Rat)(n:Int)(d:Nat)(a x y:ByteArray)(h:q.num=n∧q.den=d∧Sq q=a∧Sz n=x∧Sz (d:Int)=y):Sq q=a∧Fv q=.agg #[.string x,.string y]:=by
 obtain⟨h1,h2,h3,h4,h5⟩:=h;refine⟨h3,?_⟩;unfold Fv
 rw[h1,h2,h4,h5]
theorem q5:Sq 5=⟨#[53]⟩∧Fv 5=.agg #[.string ⟨#[53]⟩,.string ⟨#[49]⟩]:=qnd _ 5 1 _ _ _ (by decide +kernel)
theorem q_0:Sq (0:Rat)=⟨#[48]⟩:=by decide +kernel
end Go.Proofs.YtcchkjpdchcjpaaGreatDoor
open Go.Lib (hid)
namespace Go.Proofs.YtcchkjpdchcjpaaGreatDoor
open Go.RowKit Go.Gb
theorem yH (x:ByteArray)(w:World)(hl:La w)
 (g1:CL 35 #[.string x] (.bool true)) :
 CR 25 #[.string x] w (.tuple #[.agg #[.string x,.string x],.int .i64 0]):=by
 have C1:=hid g1;obtain⟨w0,hw0⟩:∃ w0:World,w0=(w.alloc (.cells #[.string ⟨#[]⟩,.string ⟨#[]⟩] 31)):=⟨_,rfl⟩;have hz0:w0.heap.size=w.heap.size+1:=by rw[hw0];simp
 have hB0:Below w.heap.size w w0:=by
  rw[hw0];repeat (first|exact Below.refl _ _|refine Below.setCell ?_ (by first|omega|(simp;omega)|simp) _|refine Below.alloc ?_ (by first|omega|(simp;omega)|simp) _|refine Below.drew ?_)
 have hS0:w0.cell? ⟨w.heap.size,0,none⟩=some (.string ⟨#[]⟩)∧w0.cell? ⟨w.heap.size,1,none⟩=some (.string ⟨#[]⟩):=by rw[hw0];exact⟨((aQ).trans rfl),((aQ).trans rfl)⟩
 have KS:=hid (show ∀ W:World,Below w0.heap.size w0 W→(W.cell? ⟨w.heap.size,0,none⟩=some (.string ⟨#[]⟩)∧W.cell? ⟨w.heap.size,1,none⟩=some (.string ⟨#[]⟩)) from fun W hB=>by
  obtain⟨c0,c1⟩:=hS0
  exact⟨(hB.cell (p:=⟨w.heap.size,0,none⟩) (by show w.heap.size<_;omega)).trans c0,(hB.cell (p:=⟨w.heap.size,1,none⟩) (by show w.heap.size<_;omega)).trans c1⟩)
 have KZ:=hid (show ∀ W:World,Below w0.heap.size w0 W→w.heap.size+1≤W.heap.size from fun W hB=>by have:=hB.size;omega);have KB:=hid (show ∀ W:World,Below w0.heap.size w0 W→Below w.heap.size w W from fun W hB=>hB0.trans (hB.mono (by omega)));have hR0:w0.cell? ⟨w.heap.size,0,none⟩=some (.string ⟨#[]⟩)∧w0.cell? ⟨w.heap.size,1,none⟩=some (.string ⟨#[]⟩)∧w0.frozen? ⟨w.heap.size,0,none⟩=false∧w0.frozen? ⟨w.heap.size,1,none⟩=false:=by rw[hw0];exact⟨((aQ).trans rfl),((aQ).trans rfl),(cz),(cz)⟩
 have KR:=hid (show ∀ W:World,Below w0.heap.size w0 W→(W.cell? ⟨w.heap.size,0,none⟩=some (.string ⟨#[]⟩)∧W.cell? ⟨w.heap.size,1,none⟩=some (.string ⟨#[]⟩)∧W.frozen? ⟨w.heap.size,0,none⟩=false∧W.frozen? ⟨w.heap.size,1,none⟩=false) from fun W hB=>by
  obtain⟨c0,c1,f0,f1⟩:=hR0
  exact⟨(hB.cell (p:=⟨w.heap.size,0,none⟩) (by show w.heap.size<_;omega)).trans c0,(hB.cell (p:=⟨w.heap.size,1,none⟩) (by show w.heap.size<_;omega)).trans c1,(hB.frozen (p:=⟨w.heap.size,0,none⟩) (by show w.heap.size<_;omega)).trans f0,(hB.frozen (p:=⟨w.heap.size,1,none⟩) (by show w.heap.size<_;omega)).trans f1⟩)
 clear hR0;have F0:=hid (Below.refl w0.heap.size w0);have HW0:=hid hw0;clear hz0 hB0 hS0 hw0;have HL:=hid (show ∀ W:World,Below w0.heap.size w0 W→La W from fun W hB=>hl.on (KB.o W hB));clear hl g1;go_enter func25,ntmps25
 go_wp2_with fail
 rw[← HW0.o];obtain⟨d0,d1⟩:=KS.o _ F0.o;go_wp2_with fail
 refine(C1.o _ (HL.o _ F0.o)).mono ?_;rintro e w1 ⟨rfl,hb⟩;have F1:=hid (ak F0.o hb);clear hb d0 d1;obtain⟨d0,d1⟩:=KS.o _ F1.o
 all_goals
  obtain⟨m0,m1,n0,n1⟩:=KR.o _ F1.o;have hz:=KZ.o _ F1.o;go_wp2;refine bodyPost_ret (v:=.tuple #[.agg #[.string x,.string x],.int .i64 0]) (by simp[results,results25,go_sem,m0,m1]) rfl ⟨rfl,?_⟩;repeat (first|exact KB.o _ F1.o|refine Below.setCell ?_ (by first|omega|(simp;omega)|simp) _|refine Below.alloc ?_ (by first|omega|(simp;omega)|simp) _|refine Below.drew ?_)
open Go.Lib (hid)
theorem nL (x pt t f r:ByteArray)(u:World)(hl:La u)
 (h1:CL 62 #[.string x,.string pt] (.tuple #[.string t,.int .i64 0]))
 (h2:CL 92 #[.string t] (.tuple #[.string f,.int .i64 0]))
 (h3:CL 95 #[.string f,.string pt] (.tuple #[.string r,.int .i64 0])) :
 CR 65 #[.string x,.string pt] u (.string r):=by
 obtain ⟨C1,C2,C3⟩:=ae h1 h2 h3;have HL:=hid (show ∀ W:World,Below u.heap.size u W→La W from fun W hB=>hl.on hB);have F0:=hid (Below.refl u.heap.size u);clear hl h1 h2 h3;go_enter func65,ntmps65
 go_wp2_with fail
 refine(C1.o _ (HL.o _ F0.o)).mono ?_;rintro e w1 ⟨rfl,hb⟩;have F1:=hid (ak F0.o hb);clear hb;go_wp2_with fail
 refine(C2.o _ (HL.o _ F1.o)).mono ?_;rintro e w2 ⟨rfl,hb⟩;have F2:=hid (ak F1.o hb);clear hb;go_wp2_with fail
 refine(C3.o _ (HL.o _ F2.o)).mono ?_;rintro e w3 ⟨rfl,hb⟩;have F3:=hid (ak F2.o hb);clear hb;go_wp2;go_ret
 exact⟨rfl,F3.o⟩
theorem z2l (x r:ByteArray)(u:World)(hl:La u)
 (h1:CL 21 #[.string ⟨#[48]⟩,.string x] (.tuple #[.string r,.int .i64 0])) :
 CR 66 #[.string x] u (.string r):=by
 have C1:=hid h1;have HL:=hid (show ∀ W:World,Below u.heap.size u W→La W from fun W hB=>hl.on hB);have F0:=hid (Below.refl u.heap.size u);clear hl h1;go_enter func66,ntmps66
 go_wp2_with fail
 refine(C1.o _ (HL.o _ F0.o)).mono ?_;rintro e w1 ⟨rfl,hb⟩;have F1:=hid (ak F0.o hb);clear hb;go_wp2;go_ret
 exact⟨rfl,F1.o⟩
theorem yG (l h pt p q r s:ByteArray)(n:Int)(hn1:decide (n<1)=false)(hn2:decide (1000000000<n)=false)(w:World)(hl:La w)
 (g1:CL 31 #[.agg #[.string l,.string h]] (.bool true))
 (g2:CL 64 #[.int .i64 n] (.string pt))
 (g3:CL 65 #[.string l,.string pt] (.string p))
 (g4:CL 66 #[.string h] (.string q))
 (g5:CL 65 #[.string q,.string pt] (.string r))
 (g6:CL 66 #[.string r] (.string s)) :
 CR 33 #[.agg #[.string l,.string h],.int .i64 n] w (.tuple #[.agg #[.string p,.string s],.int .i64 0]):=by
 obtain ⟨C1,C2,C3,C4,C5,C6⟩:=bX g1 g2 g3 g4 g5 g6;obtain⟨w0,hw0⟩:∃ w0:World,w0=((w.alloc (.cells #[.string l,.string h] 31)).alloc (.cells #[.string ⟨#[]⟩,.string ⟨#[]⟩] 31)):=⟨_,rfl⟩;have hz0:w0.heap.size=w.heap.size+2:=by rw[hw0];simp
 have hB0:Below w.heap.size w w0:=by
  rw[hw0];repeat (first|exact Below.refl _ _|refine Below.setCell ?_ (by first|omega|(simp;omega)|simp) _|refine Below.alloc ?_ (by first|omega|(simp;omega)|simp) _|refine Below.drew ?_)
 have hS0:w0.cell? ⟨w.heap.size,0,none⟩=some (.string l)∧w0.cell? ⟨w.heap.size,1,none⟩=some (.string h):=by rw[hw0];exact⟨((q_lt).trans ((aQ).trans rfl)),((q_lt).trans ((aQ).trans rfl))⟩
 have KS:=hid (show ∀ W:World,Below w0.heap.size w0 W→(W.cell? ⟨w.heap.size,0,none⟩=some (.string l)∧W.cell? ⟨w.heap.size,1,none⟩=some (.string h)) from fun W hB=>by
  obtain⟨c0,c1⟩:=hS0
  exact⟨(hB.cell (p:=⟨w.heap.size,0,none⟩) (by show w.heap.size<_;omega)).trans c0,(hB.cell (p:=⟨w.heap.size,1,none⟩) (by show w.heap.size<_;omega)).trans c1⟩)
 have KZ:=hid (show ∀ W:World,Below w0.heap.size w0 W→w.heap.size+2≤W.heap.size from fun W hB=>by have:=hB.size;omega);have KB:=hid (show ∀ W:World,Below w0.heap.size w0 W→Below w.heap.size w W from fun W hB=>hB0.trans (hB.mono (by omega)));have hR0:w0.cell? ⟨w.heap.size+1,0,none⟩=some (.string ⟨#[]⟩)∧w0.cell? ⟨w.heap.size+1,1,none⟩=some (.string ⟨#[]⟩)∧w0.frozen? ⟨w.heap.size+1,0,none⟩=false∧w0.frozen? ⟨w.heap.size+1,1,none⟩=false:=by rw[hw0];exact⟨((aQ).trans rfl),((aQ).trans rfl),(cz),(cz)⟩
 have KR:=hid (show ∀ W:World,Below w0.heap.size w0 W→(W.cell? ⟨w.heap.size+1,0,none⟩=some (.string ⟨#[]⟩)∧W.cell? ⟨w.heap.size+1,1,none⟩=some (.string ⟨#[]⟩)∧W.frozen? ⟨w.heap.size+1,0,none⟩=false∧W.frozen? ⟨w.heap.size+1,1,none⟩=false) from fun W hB=>by
  obtain⟨c0,c1,f0,f1⟩:=hR0
  exact⟨(hB.cell (p:=⟨w.heap.size+1,0,none⟩) (by show w.heap.size+1<_;omega)).trans c0,(hB.cell (p:=⟨w.heap.size+1,1,none⟩) (by show w.heap.size+1<_;omega)).trans c1,(hB.frozen (p:=⟨w.heap.size+1,0,none⟩) (by show w.heap.size+1<_;omega)).trans f0,(hB.frozen (p:=⟨w.heap.size+1,1,none⟩) (by show w.heap.size+1<_;omega)).trans f1⟩)
 clear hR0
 have KT0:=hid (show ∀ (W:World) (v u:Value),Below w0.heap.size w0 W→(((W.setCell ⟨w.heap.size+1,0,none⟩ v).setCell ⟨w.heap.size+1,1,none⟩ u).cell? ⟨w.heap.size,0,none⟩=some (.string l)∧((W.setCell ⟨w.heap.size+1,0,none⟩ v).setCell ⟨w.heap.size+1,1,none⟩ u).cell? ⟨w.heap.size,1,none⟩=some (.string h)) from fun W v u hB=>by
  have hh:=KS.o W hB;obtain⟨c0,c1⟩:=hh
  exact⟨(bA (by omega)).trans ((bA (by omega)).trans c0),(bA (by omega)).trans ((bA (by omega)).trans c1)⟩)
 have F0:=hid (Below.refl w0.heap.size w0);have HW0:=hid hw0;clear hz0 hB0 hS0 hw0;have HL:=hid (show ∀ W:World,Below w0.heap.size w0 W→La W from fun W hB=>hl.on (KB.o W hB));clear hl g1 g2 g3 g4 g5 g6;go_enter func33,ntmps33
 go_wp2_with fail
 rw[← HW0.o];obtain⟨d0,d1⟩:=KS.o _ F0.o;go_wp2_with fail
 refine(C1.o _ (HL.o _ F0.o)).mono ?_;rintro e w1 ⟨rfl,hb⟩;have F1:=hid (ak F0.o hb);clear hb d0 d1;obtain⟨d0,d1⟩:=KS.o _ F1.o;go_wp2_with fail
 refine(C2.o _ (HL.o _ F1.o)).mono ?_;rintro e w2 ⟨rfl,hb⟩;have F2:=hid (ak F1.o hb);clear hb d0 d1;obtain⟨d0,d1⟩:=KS.o _ F2.o;go_wp2_with fail
 go_region_held3 (fun w'=>w'.cell? ⟨w.heap.size,0,none⟩=some (.string l)∧w'.cell? ⟨w.heap.size,1,none⟩=some (.string h)) (first|(with_reducible exact KS.o _ F6.o)|(with_reducible exact KS.o _ F6.o.drew)|(with_reducible exact KS.o _ F5.o)|(with_reducible exact KS.o _ F5.o.drew)|(with_reducible exact KS.o _ F4.o)|(with_reducible exact KS.o _ F4.o.drew)|(with_reducible exact KS.o _ F3.o)|(with_reducible exact KS.o _ F3.o.drew)|(with_reducible exact KS.o _ F2.o)|(with_reducible exact KS.o _ F2.o.drew)|(with_reducible exact KT0.o _ _ _ F6.o)|(with_reducible exact KT0.o _ _ _ F6.o.drew))
  (first
   | (go_at_call 65;(with_reducible refine(C3.o _ ?la2).mono ?_);(case la2=>first|exact HL.o _ F2.o|exact HL.o _ F2.o.drew);rintro e w3 ⟨rfl,hb⟩;have F3:=hid (show Below w0.heap.size w0 w3 by first|exact ak F2.o hb|exact ak F2.o.drew hb);clear hb)
   | (go_at_call 66;(with_reducible refine(C4.o _ ?la3).mono ?_);(case la3=>first|exact HL.o _ F3.o|exact HL.o _ F3.o.drew);rintro e w4 ⟨rfl,hb⟩;have F4:=hid (show Below w0.heap.size w0 w4 by first|exact ak F3.o hb|exact ak F3.o.drew hb);clear hb)
   | (go_at_call 65;(with_reducible refine(C5.o _ ?la4).mono ?_);(case la4=>first|exact HL.o _ F4.o|exact HL.o _ F4.o.drew);rintro e w5 ⟨rfl,hb⟩;have F5:=hid (show Below w0.heap.size w0 w5 by first|exact ak F4.o hb|exact ak F4.o.drew hb);clear hb)
   | (go_at_call 66;(with_reducible refine(C6.o _ ?la5).mono ?_);(case la5=>first|exact HL.o _ F5.o|exact HL.o _ F5.o.drew);rintro e w6 ⟨rfl,hb⟩;have F6:=hid (show Below w0.heap.size w0 w6 by first|exact ak F5.o hb|exact ak F5.o.drew hb);clear hb;have hz:=KZ.o _ F6.o;obtain⟨m0,m1,n0,n1⟩:=KR.o _ F6.o)
   | fail)
 all_goals
  have hz:=KZ.o _ F6.o;go_wp2;refine bodyPost_ret (v:=.tuple #[.agg #[.string p,.string s],.int .i64 0]) (by simp[results,results33,go_sem,m0,m1]) rfl ⟨rfl,?_⟩;repeat (first|exact KB.o _ F6.o|refine Below.setCell ?_ (by first|omega|(simp;omega)|simp) _|refine Below.alloc ?_ (by first|omega|(simp;omega)|simp) _|refine Below.drew ?_)
def Vq (x y:Rat):Value:=.agg #[.string (Sq x),.string (Sq y)]
theorem z4U {x y:Rat}(h:x≤y):aP x y≤0:=by
 rcases bB x y with⟨h,e⟩|⟨h,e⟩|⟨h,e⟩<;>rw[e]<;>grind
theorem pK (x y:Rat)(h:x≤y)(hx:FitQ x)(hy:FitQ y)(w:World)(hl:La w) :
 CR 31 #[Vq x y] w (.bool true) :=
 oD _ _ _ (z4U h) w hl (fun W hW=>wW x y _ rfl hx hy W hW)
theorem z4N (x:Rat)(hx:FitQ x)(w:World)(hl:La w) :
 CR 25 #[.string (Sq x)] w (.tuple #[Vq x x,.int .i64 0]) :=
 yH _ w hl (fun W hW=>p9 x hx W hW)
theorem fq00:FitQ 0:=yL (by decide +kernel) (by decide +kernel)
def rdQ (x:Rat) (n:Int):Rat:=Rat.divInt ((x*Rat.ofInt n).num / ((x*Rat.ofInt n).den:Int)) n
theorem zP {k:Nat}{z:Int}(h:Sm k z.natAbs)(hk:1≤k):SmQ k (Rat.ofInt z):=⟨h,(show Sm 1 1 by simp[Sm]).mono hk⟩
theorem mD {k:Nat}{x:Rat}(h:SmQ k x)(hk:1≤k):Sm (k+1) (x.num / (x.den:Int)).natAbs:=by
 refine Sm.le (n:=x.num.natAbs+1) (Sm.add h.1 ((show Sm 1 1 by simp[Sm]).mono hk)) ?_;have:=Int.natAbs_ediv_le_natAbs x.num (x.den:Int);omega
theorem z5k {k:Nat}{x:Rat}{n:Int}(hx:SmQ k x)(hn:Sm 10 n.natAbs)(hn0:n≠0):SmQ (k+10+1) (rdQ x n):=by
 unfold rdQ
 exact oU hn0 (mD (hx.mul (zP hn (by decide))) (by omega)) (hn.mono (by omega))
theorem pM {k:Nat}(x:Rat)(n:Int)(hk:k≤800)(hx:SmQ k x)(hn:Sm 10 n.natAbs)(hn0:n≠0)(w:World)(hl:La w) :
 CR 65 #[.string (Sq x),.string (Sz n)] w (.string (Sq (rdQ x n))):=by
 have hm:SmQ (k+10) (x*Rat.ofInt n):=hx.mul (zP hn (by decide));have h1:=fun W hW=>qMul x (Rat.ofInt n) _ rfl (hx.fit (by omega)) ((zP hn (by decide)).fit (by decide)) W hW;rw[qm]at h1
 exact nL _ _ _ _ _ w hl h1 (fun W hW=>z2Z _ (hm.fit (by omega)) W hW)
  (fun W hW=>z5s _ n hn0 (FitL.of (mD hm (by omega)) (by omega)) (FitL.of hn (by decide)) W hW)
theorem iNeg (x y:Rat)(h:0-x=y)(hx:FitQ x)(w:World)(hl:La w) :
 CR 66 #[.string (Sq x)] w (.string (Sq y)):=by
 have h1:=fun W hW=>qSub 0 x y h fq00 hx W hW;rw[q_0]at h1;exact z2l _ _ w hl h1
theorem z4L (n:Int)(h0 : -9223372036854775808≤n)(h1:n≤9223372036854775807)(w:World)(hl:La w) :
 CR 64 #[.int .i64 n] w (.string (Sz n)):=by
 have h:=Tryz.strconv_Itoa n h0 h1 w hl.tb;rw[z0B]at h;exact h.mono (fun e w' ⟨e1,k,os,e2⟩=>⟨e1,e2▸Lib.below_grow w.heap.size w (Nat.le_refl _) k os⟩)
theorem z4M {k:Nat}(a b:Rat)(n:Int)(hk:k≤400)(h:a≤b)(ha:SmQ k a)(hb:SmQ k b)(hn1:1≤n)(hn2:n≤1000000000)(w:World)(hl:La w) :
 CR 33 #[Vq a b,.int .i64 n] w (.tuple #[Vq (rdQ a n) (0-rdQ (0-b) n),.int .i64 0]):=by
 have hn:Sm 10 n.natAbs:=by
  have:n.natAbs<10^10:=by omega
  exact this
 have hq:SmQ (k+2) (0-b):=((show SmQ 1 0 from⟨by unfold Sm;decide +kernel,by unfold Sm;decide +kernel⟩).sub hb).mono (by omega);have hr:=z5k (n:=n) hq hn (by omega)
 exact yG _ _ _ _ _ _ _ n (by rw[decide_eq_false_iff_not];omega) (by rw[decide_eq_false_iff_not];omega) w hl (fun W hW=>pK a b h (ha.fit (by omega)) (hb.fit (by omega)) W hW)
  (fun W hW=>z4L n (by omega) (by omega) W hW) (fun W hW=>pM a n (by omega) ha hn (by omega) W hW) (fun W hW=>iNeg b _ rfl (hb.fit (by omega)) W hW)
  (fun W hW=>pM _ n (by omega) hq hn (by omega) W hW) (fun W hW=>iNeg _ _ rfl (hr.fit (by omega)) W hW)
theorem z4b (a b:Nat):aP ((a:Nat):Rat) ((b:Nat):Rat)=if a<b then -1 else if b<a then 1 else 0:=by
 unfold aP
 simp only[Rat.natCast_lt_natCast]
theorem zN {n k:Nat}(h:(Sn n).size≤k):Sm k n:=by
 have:=Sm.of (eu n) h;rwa [bT]at this
theorem z3o (n k:Nat)(h:0<n / 10^k):(Sn n).extract 0 ((Sn n).size-k)=Sn (n / 10^k):=by
 apply ByteArray.ext
 apply Array.ext'
 have h1:=yQ n k h;have h2:(Sn n).size=(Lib.decDigits n).length:=by rw[← bS,aF]
 rw[bS,← h1,h2,ByteArray.data_extract,Array.toList_extract,bS];simp
theorem z1u (v k:Nat)(h:0<v):Sn v++⟨(Lib.repeatL [48] k).toArray⟩=Sn (v*10^k):=by
 apply ByteArray.ext
 apply Array.ext'
 have h1:=z0S v k h;have h2:=Lib.repeatL_replicate 48 1 k;rw[Nat.mul_one]at h2;rw[bS,h1,← h2];simp[Sn]
theorem z1Y (n k:Nat)(hn:1≤n)(hk:Sm k n)(hk1:1≤k)(hk2:k≤390)(w:World)(hla:La w)
 (ih:∀ m,m<n→CV w 29 #[.string (Sn m)] (.string (Sn (isq m)))) :
 ∃ g0,AbG n g0∧Sm (k+2) g0∧CV w 60 #[.string (Sn n)] (.string (Sn g0)):=by
 have hs:=gL hk hk1;obtain⟨d,hd⟩:∃ d,(Sn n).size / 4=d:=⟨_,rfl⟩
 have e1:(((Sn n).size:Nat):Int).tdiv 4=(d:Int):=by
  rw[Int.tdiv_eq_ediv_of_nonneg (Int.natCast_nonneg _)];omega
 by_cases h0:d=0
 · subst h0
   have h3:Sm 3 n:=zN (by omega);have h3':n<1000:=h3;refine⟨32,⟨by decide,by omega⟩,?_,?_⟩
   · exact(show Sm 2 32 by unfold Sm;decide).mono (by omega)
   · have h:=tq (Sn n) w e1
     rwa [show(⟨#[51,50]⟩:ByteArray)=Sn 32 from by decide +kernel]at h
 · have hge:10^(d+d)≤n:=by
    apply Nat.le_of_not_lt
    intro hlt;have:=gL (show Sm (d+d) n from hlt) (by omega);omega
   have hp1:0<10^d:=Nat.pow_pos (by decide);have hp2:0<10^(d+d):=Nat.pow_pos (by decide);have hpos:0<n / 10^(d+d):=Nat.div_pos hge hp2;have hone:1<10^(d+d):=Nat.one_lt_pow (by omega) (by decide);have hlt:n / 10^(d+d)<n:=Nat.div_lt_self hn hone;have hle2:10^d≤10^(d+d):=Nat.pow_le_pow_right (by decide) (by omega);have hx:=z3o n (d+d) hpos;obtain⟨s,hs'⟩:∃ s,isq (n / 10^(d+d))=s:=⟨_,rfl⟩;have c1:=ih _ hlt;rw[hs']at c1;have hsp:=(jJ (n / 10^(d+d))).2;rw[hs']at hsp;have hsl:s≤n / 10^(d+d):=hs'▸pG _;have hgf:=vg hsp
   have hprod:n / 10^(d+d)*10^d≤n:=by
    refine Nat.le_trans (Nat.mul_le_mul_left _ hle2) ?_;exact Nat.div_mul_le_self _ _
   have hg0:(s+1)*10^d≤n+n:=by
    rw[Nat.add_mul,Nat.one_mul];have:=Nat.mul_le_mul_right (10^d) hsl;omega
   have hsm:Sm (k+2) ((s+1)*10^d):=((hk.add hk).mono (by omega)).le hg0;refine⟨(s+1)*10^d,⟨Nat.mul_pos (by omega) hp1,hgf⟩,hsm,?_⟩;have hs1:Sm k s:=hk.le (Nat.le_trans hsl (Nat.div_le_self _ _));have q1:=dO hs1 hk1;have q2:=dO (show Sm 1 1 by unfold Sm;decide) (Nat.le_refl 1)
   have c2:CV w 36 #[.string (Sn s),.string ⟨#[49]⟩] (.string (Sn (s+1))):=by
    have h:=nA (x:=((s:Nat):Rat)) (y:=((1:Nat):Rat)) (z:=((s+1:Nat):Rat)) (by rw[Rat.natCast_add]) (q1.fit (by omega)) (q2.fit (by decide)) w hla;rwa [← jP,← jP,← jP,show Sn 1=⟨#[49]⟩from by decide +kernel]at h
   have c3:CV w 90 #[.string ⟨#[48]⟩,.int .i64 (d:Int)] (.string ⟨(Lib.repeatL [48] d).toArray⟩):=fun W _=>by
    have h:=Tryz.strings_Repeat ⟨#[48]⟩ d W (by omega) (by show 1*d≤_;omega);rw[show(⟨#[48]⟩:ByteArray).data.toList=[48]from rfl]at h;exact h
   have hz:(⟨(Lib.repeatL [48] d).toArray⟩:ByteArray).size=d:=by rw[size_mk,Lib.repeatL_length];simp
   have hs1':(Sn (s+1)).size≤k+1:=gL (hs1.add (show Sm k 1 from(show Sm 1 1 by unfold Sm;decide).mono hk1)) (by omega);obtain⟨m,hm⟩:∃ m,m+2*d=(Sn n).size:=⟨(Sn n).size-2*d,by omega⟩
   have hx':(Sn n).extract 0 m=Sn (n / 10^(d+d)):=by
    rw[← hx];congr 1
    omega
   have h:=uQ (Sn n) _ _ _ _ d m w c1 c2 c3 e1 (wrap_small (by omega) (by omega)) (by simpa using h0) (wrap_small (by omega) (by omega)) (by omega) (wrap_small (by omega) (by omega)) (by omega) hx' (by omega);rwa [z1u _ _ (by omega)]at h
theorem qN (k:Nat)(hk1:1≤k)(hk2:k≤390)(n:Nat):Sm k n→∀ w,La w→CV w 29 #[.string (Sn n)] (.string (Sn (isq n))):=by
 induction n using Nat.strongRecOn with
 | ind n ih =>
   intro hk w hla;rcases Nat.eq_zero_or_pos n with rfl|hn
   · have h:=uN w
     rwa [show(⟨#[48]⟩:ByteArray)=Sn 0 from by decide +kernel]at h
   · obtain⟨g0,ha,hg,hf⟩:=z1Y n k hn hk hk1 hk2 w hla (fun m hm=>ih m hm (hk.le (Nat.le_of_lt hm)) w hla)
     have R:=fun g (hag:AbG n g) (hgg:g≤g0)=>z4F (n:=n) (g:=g) (k:=k+2) hag.1 (hk.mono (by omega)) (hg.le hgg) (by omega) (by omega) w hla;refine yj (Sn n) n g0 Sn (fun g=>Sq (((n:Nat):Rat) / ((g:Nat):Rat))) (fun g=>Sq (((g+n / g:Nat):Rat)*((1:Rat) / 2))) ?_ hn ha w hf (fun g a b=>(R g a b).1) (fun g a b=>(R g a b).2.1) (fun g a b=>(R g a b).2.2.1) (fun g a b=>(R g a b).2.2.2.1) (fun g a b=>(R g a b).2.2.2.2) ?_
     · have h:=oQ (x:=((n:Nat):Rat)) (y:=((0:Nat):Rat)) (fun e=>by have:=Rat.natCast_inj.1 e;omega)
       rwa [← jP,← jP,show Sn 0=⟨#[48]⟩from by decide +kernel,toList_data ⟨#[48]⟩]at h
     · intro g hag hgg
       have hsg:=hg.le hgg;have hnx:Sm (k+3) ((g+n / g) / 2):=(hsg.add ((hk.mono (show k≤k+2 by omega)).le (Nat.div_le_self n g))).le (Nat.div_le_self _ _);have h:=qP (z4b ((g+n / g) / 2) g) ((dO hnx (by omega)).fit (by omega)) ((dO hsg (by omega)).fit (by omega)) w hla;rwa [← jP,← jP]at h
def iN (x:Rat) (n:Nat):Rat:=if eX x n then (eK x n:Rat) / (n:Rat) else ((eK x n:Rat)+1 / 2) / (n:Rat)
theorem qz:SmQ 1 ((1:Rat) / 2):=⟨by unfold Sm;decide +kernel,by unfold Sm;decide +kernel⟩
theorem z4y {x:Rat}{n k:Nat}(_h0:0≤x)(hx:SmQ k x)(hn:Sm 10 n)(hk:1≤k):Sm (k+21) (eK x n):=by
 unfold eK rk
 have hp:=hx.mul ((dO hn (by decide)).mul (dO hn (by decide)));have hf:=mD hp (by omega);have e:(x*((n:Rat)*(n:Rat))).num / ((x*((n:Rat)*(n:Rat))).den:Int)=(x*((n:Rat)*(n:Rat))).floor:=(Rat.floor_def _).symm;rw[e]at hf;exact(Sm.le hf (Nat.le_trans (pG _) (by omega))).mono (by omega)
theorem jX {n:Nat}(h:1≤n):((n:Nat):Rat)≠0:=by
 have:=qC h;grind
theorem zO {x:Rat}{n k:Nat}(h0:0≤x)(hx:SmQ k x)(hn:Sm 10 n)(hn1:1≤n)(hk:1≤k):SmQ (k+33) (iN x n):=by
 have h1:=dO (z4y h0 hx hn hk) (by omega);have h2:=dO hn (by decide);unfold iN
 split
 · exact(h1.div h2 (jX hn1)).mono (by omega)
 · exact((h1.add qz).div h2 (jX hn1)).mono (by omega)
theorem z0i {x:Rat}{n k:Nat}(h0:0≤x)(hx:SmQ k x)(hk:1≤k)(hk2:k≤350)(hn1:1≤n)(hn2:n≤1000000000)(w:World)(hla:La w) :
 CV w 34 #[.string (Sq x),.int .i64 (n:Int)] (.string (Sq (iN x n))):=by
 have hn:Sm 10 n:=by
  have h:(1000000000:Nat)<10^10:=by decide
  exact Nat.lt_of_le_of_lt hn2 h
 have qn:=dO hn (by decide);have hpp:=qn.mul qn;have hsq:=hx.mul hpp
 have c1:CV w 64 #[.int .i64 (n:Int)] (.string (Sq ((n:Nat):Rat))):=fun W hW=>by
  have h:=z4L (n:Int) (by omega) (by omega) W (hla.on hW);rwa [di,jP]at h
 have c2:=fZ (x:=((n:Nat):Rat)) (y:=((n:Nat):Rat)) rfl (qn.fit (by decide)) (qn.fit (by decide)) w hla;have c3:=fZ (x:=x) (y:=((n:Nat):Rat)*((n:Nat):Rat)) rfl (hx.fit (by omega)) (hpp.fit (by decide)) w hla;have hpos:0≤x*(((n:Nat):Rat)*((n:Nat):Rat)):=Rat.mul_nonneg h0 (Rat.mul_nonneg (eQ n) (eQ n))
 have hfl:(x*(((n:Nat):Rat)*((n:Nat):Rat))).num / ((x*(((n:Nat):Rat)*((n:Nat):Rat))).den:Int)=(((x*(((n:Nat):Rat)*((n:Nat):Rat))).floor.toNat:Nat):Int):=by
  rw[← Rat.floor_def,Int.toNat_of_nonneg];exact Rat.le_floor_iff.2 hpos
 have c4:=qQ hfl (hsq.fit (by omega)) w hla;rw[di]at c4;have hsf:=mD hsq (by omega);rw[hfl,Int.natAbs_natCast]at hsf;have c5:=qN (k+(10+10)+1) (by omega) (by omega) _ hsf w hla;have hK:=dO (z4y h0 hx hn hk) (by omega);have c6:=fZ (x:=((eK x n:Nat):Rat)) (y:=((eK x n:Nat):Rat)) rfl (hK.fit (by omega)) (hK.fit (by omega)) w hla;rw[show Sn (isq (x*(((n:Nat):Rat)*((n:Nat):Rat))).floor.toNat)=Sq ((eK x n:Nat):Rat) from jP _]at c5;by_cases he:eX x n=true
 · have e:((eK x n:Nat):Rat)*((eK x n:Nat):Rat)=x*(((n:Nat):Rat)*((n:Nat):Rat)):=of_decide_eq_true he
   rw[e]at c6;have c7:=qO (x:=((eK x n:Nat):Rat)) (y:=((n:Nat):Rat)) rfl (hK.fit (by omega)) (qn.fit (by decide)) (jX hn1) w hla;unfold iN
   rw[if_pos he];exact uP _ _ _ _ _ _ _ _ w c1 c2 c3 c4 c5 c6 c7
 · have e:((eK x n:Nat):Rat)*((eK x n:Nat):Rat)≠x*(((n:Nat):Rat)*((n:Nat):Rat)):=fun h=>he (decide_eq_true h)
   have c7:=nA (x:=((eK x n:Nat):Rat)) (y:=(1:Rat) / 2) rfl (hK.fit (by omega)) (qz.fit (by decide)) w hla;rw[z4I]at c7;have c8:=qO (x:=((eK x n:Nat):Rat)+1 / 2) (y:=((n:Nat):Rat)) rfl ((hK.add qz).fit (by omega)) (qn.fit (by decide)) (jX hn1) w hla;unfold iN
   rw[if_neg he];exact yu _ _ _ _ _ _ _ _ _ _ w c1 c2 c3 c4 c5 c6 c7 c8 (oQ e)
def sK (x:Rat):Rat:=((isq x.num.natAbs:Nat):Rat) / ((isq x.den:Nat):Rat)
theorem nJ (x:Rat):1≤isq x.den:=z3V x.den_pos
theorem z1w {x:Rat}{k:Nat}(hx:SmQ k x)(hk:1≤k):SmQ (k+k) (sK x):=by
 unfold sK
 exact(dO (hx.1.le (pG _)) hk).div (dO (hx.2.le (pG _)) hk) (jX (nJ x))
theorem z3B {x:Rat}{k:Nat}(h0:0≤x)(hx:SmQ k x)(hk2:k≤390)(w:World)(hla:La w) :
 CV w 26 #[.string (Sq x)] (.tuple #[.string (Sn x.num.natAbs),.string (Sn x.den),.int .i64 0]):=fun W hW=>by
 have h:=z4D x (hx.fit (by omega)) W (hla.on hW);have e:x.num=((x.num.natAbs:Nat):Int):=(Int.natAbs_of_nonneg (Rat.num_nonneg.2 h0)).symm;rw[e,di,di]at h;exact h
theorem gN {x:Rat}{k:Nat}(hx:SmQ k x)(hk2:k≤900)(w:World)(hla:La w):CV w 27 #[.string (Sq x)] (.int .i64 (aP x 0)):=by
 have h:=qP (x:=x) (y:=0) rfl (hx.fit hk2) ((show SmQ 1 (0:Rat) from⟨by unfold Sm;decide,by unfold Sm;decide⟩).fit (by decide)) w hla;rw[show Sq (0:Rat)=⟨#[48]⟩from by decide +kernel]at h;exact z0f _ _ w h
theorem dm {x:Rat}(h0:0≤x):decide (aP x 0<0)=false:=by
 rcases bB x 0 with⟨h,e⟩|⟨h,e⟩|⟨h,e⟩
 · grind
 · rw[e];rfl
 · rw[e];rfl
theorem yC {x:Rat}{k:Nat}(h0:0≤x)(hx:SmQ k x)(hk:1≤k)(hk2:k≤390)(h:sK x*sK x=x)(w:World)(hla:La w) :
 CV w 11 #[.string (Sq x)] (.tuple #[.string (Sq (sK x)),.bool true,.int .i64 0]):=by
 have q1:=dO (hx.1.le (pG _)) hk;have q2:=dO (hx.2.le (pG _)) hk;have c3:=qN k hk hk2 _ hx.1 w hla;have c4:=qN k hk hk2 _ hx.2 w hla;rw[jP (isq _)]at c3 c4;have c5:=qO (x:=((isq x.num.natAbs:Nat):Rat)) (y:=((isq x.den:Nat):Rat)) (z:=sK x) rfl (q1.fit (by omega)) (q2.fit (by omega)) (jX (nJ x)) w hla;have hr:=z1w hx hk;have c6:=fZ h (hr.fit (by omega)) (hr.fit (by omega)) w hla;exact yx _ _ _ _ _ _ _ w (z3B h0 hx hk2 w hla) (gN hx (by omega) w hla) c3 c4 c5 c6 (dm h0)
theorem kq2 {f:Nat}{x y z:Rat}(h:∀ p1 c1 s1 d1 p2 c2 s2 d2 W,RN W (.slice p1 (ag x.num) c1) x.num.natAbs→RN W (.slice s1 (ai x.den) d1) x.den→RN W (.slice p2 (ag y.num) c2) y.num.natAbs→RN W (.slice s2 (ai y.den) d2) y.den→Calls Tryz.prog f #[.agg #[.bool (av x.num),.slice p1 (ag x.num) c1,.slice s1 (ai x.den) d1],.agg #[.bool (av y.num),.slice p2 (ag y.num) c2,.slice s2 (ai y.den) d2]] W fun e w'=>∃ p c s d,e=.returned (.agg #[.bool (av z.num),.slice p (ag z.num) c,.slice s (ai z.den) d])∧RN w' (.slice p (ag z.num) c) z.num.natAbs∧RN w' (.slice s (ai z.den) d) z.den∧Below W.heap.size W w'):KQ2 f x y z:=by
 rintro⟨b,a,n,c,e,m,d⟩ ⟨b',a',n',c',e',m',d'⟩ W ⟨h1,h2,h3,h4,h5⟩ ⟨k1,k2,k3,k4,k5⟩
 dsimp only at *;subst h1 h2 h3 k1 k2 k3;exact(h _ _ _ _ _ _ _ _ W h4 h5 k4 k5).mono fun _ _ ⟨p,c,s,d,he,hr,ht,hb⟩=>⟨⟨_,p,_,c,s,_,d⟩,he,⟨rfl,rfl,rfl,hr,ht⟩,hb⟩
theorem kp2 {f:Nat}{x y:Rat}{v:Value}(h:∀ p1 c1 s1 d1 p2 c2 s2 d2 W,RN W (.slice p1 (ag x.num) c1) x.num.natAbs→RN W (.slice s1 (ai x.den) d1) x.den→RN W (.slice p2 (ag y.num) c2) y.num.natAbs→RN W (.slice s2 (ai y.den) d2) y.den→Calls Tryz.prog f #[.agg #[.bool (av x.num),.slice p1 (ag x.num) c1,.slice s1 (ai x.den) d1],.agg #[.bool (av y.num),.slice p2 (ag y.num) c2,.slice s2 (ai y.den) d2]] W fun e w'=>e=.returned v∧Below W.heap.size W w'):KP2 f x y v:=by
 rintro⟨b,a,n,c,e,m,d⟩ ⟨b',a',n',c',e',m',d'⟩ W ⟨h1,h2,h3,h4,h5⟩ ⟨k1,k2,k3,k4,k5⟩
 dsimp only at *;subst h1 h2 h3 k1 k2 k3;exact h _ _ _ _ _ _ _ _ W h4 h5 k4 k5
theorem kp1 {f:Nat}{x:Rat}{v:Value}(h:∀ p1 c1 s1 d1 W,RN W (.slice p1 (ag x.num) c1) x.num.natAbs→RN W (.slice s1 (ai x.den) d1) x.den→Calls Tryz.prog f #[.agg #[.bool (av x.num),.slice p1 (ag x.num) c1,.slice s1 (ai x.den) d1]] W fun e w'=>e=.returned v∧Below W.heap.size W w'):KP1 f x v:=by
 rintro⟨b,a,n,c,e,m,d⟩ W ⟨h1,h2,h3,h4,h5⟩
 dsimp only at *;subst h1 h2 h3;exact h _ _ _ _ W h4 h5
theorem ks {f:Nat}{v:Value}{z:Rat}(h:∀ W,Calls Tryz.prog f #[v] W fun e w'=>∃ p c s d,e=.returned (.agg #[.bool (av z.num),.slice p (ag z.num) c,.slice s (ai z.den) d])∧RN w' (.slice p (ag z.num) c) z.num.natAbs∧RN w' (.slice s (ai z.den) d) z.den∧Below W.heap.size W w'):KS f v z:=fun W=>(h W).mono fun _ _ ⟨p,c,s,d,he,hr,ht,hb⟩=>⟨⟨_,p,_,c,s,_,d⟩,he,⟨rfl,rfl,rfl,hr,ht⟩,hb⟩
theorem ksb {f:Nat}{v:Value}{z:Rat}{b:Bool}(h:∀ W,Calls Tryz.prog f #[v] W fun e w'=>∃ p c s d,e=.returned (.tuple #[.agg #[.bool (av z.num),.slice p (ag z.num) c,.slice s (ai z.den) d],.bool b])∧RN w' (.slice p (ag z.num) c) z.num.natAbs∧RN w' (.slice s (ai z.den) d) z.den∧Below W.heap.size W w'):KSb f v z b:=fun W=>(h W).mono fun _ _ ⟨p,c,s,d,he,hr,ht,hb⟩=>⟨⟨_,p,_,c,s,_,d⟩,he,⟨rfl,rfl,rfl,hr,ht⟩,hb⟩
theorem z4x {q:Rat}{k:Nat}(h:SmQ k q)(h0:0<k)(hk:k≤10000):LQ q:=⟨Nat.le_trans (iY h.1 h0) hk,Nat.le_trans (iY h.2 h0) hk⟩
theorem zW (a:ByteArray)(ha:a.size≤900):∃ q:Rat,∀ W,Calls Tryz.prog 18 #[.string a] W fun e w'=>∃ p c s d,e=.returned (.tuple #[.agg #[.bool (av q.num),.slice p (ag q.num) c,.slice s (ai q.den) d],.bool (vldQ a.data.toList)])∧RN w' (.slice p (ag q.num) c) q.num.natAbs∧RN w' (.slice s (ai q.den) d) q.den∧Below W.heap.size W w':=by
 cases h:vldQ a.data.toList with
 | false=>exact⟨0,fun W=>z1y a h ha W⟩
 | true =>
   have e:=uE h;obtain⟨q,hq⟩:∃ q,q=qval a.data.toList:=⟨_,rfl⟩;rw[← hq]at e;subst e;exact⟨q,fun W=>z5o q (mY ha (by decide)) (by omega) W⟩
end Go.Proofs.YtcchkjpdchcjpaaGreatDoor
open Go.Lib (hid)
namespace Go.Proofs.YtcchkjpdchcjpaaGreatDoor
open Go.RowKit Go.Gb
theorem p8 (a:ByteArray)(ha:a.size≤900)(w:World)(hl:La w) :
 Calls Tryz.prog 57 #[.string a] w fun e w'=>(∃ s b:ByteArray,e=.returned (.tuple #[.agg #[.string s,.string b],.bool (vldQ a.data.toList)]))∧Below w.heap.size w w':=by
 cases h:vldQ a.data.toList with
 | false=>exact xy a h ha w hl
 | true =>
   have e:=uE h;obtain⟨q,hq⟩:∃ q,q=qval a.data.toList:=⟨_,rfl⟩;rw[← hq]at e;subst e;refine(iQ q ((mY ha (by decide)).fit (by decide)) w hl).mono ?_;rintro e w' ⟨rfl,hb⟩;exact⟨⟨_,_,rfl⟩,hb⟩
theorem z1F (a b:ByteArray)(h:(vldQ a.data.toList&&vldQ b.data.toList)=false)(ha:a.size≤900)(hb:b.size≤900)(w:World)(hl:La w) :
 Calls Tryz.prog 73 #[.string a,.string b] w fun e w'=>∃ s b t c:ByteArray,e=.returned (.tuple #[.agg #[.string s,.string b],.agg #[.string t,.string c],.bool false])∧Below w.heap.size w w':=by
 refine(rq a b _ _ w hl (fun W hW=>p8 a ha W hW) (fun W hW=>p8 b hb W hW)).mono ?_;rintro e w' ⟨⟨s,u,t,c,rfl⟩,hB⟩;rw[h];exact⟨s,u,t,c,rfl,hB⟩
theorem uL (a b:ByteArray)(k:Int)(h:(vldQ a.data.toList&&vldQ b.data.toList)=false)(ha:a.size≤900)(hb:b.size≤900)(w:World)(hl:La w) :
 CR 50 #[.string a,.int .u8 k,.string b] w (.tuple #[.string ⟨#[]⟩,.int .i64 1]):=by
 have HL:=hid hl;have C1:=hid (fun W (hW:La W)=>z1F a b h ha hb W hW);clear hl h ha hb;go_enter func50,ntmps50
 have u6:=hid (Below.refl w.heap.size w);go_wp2_with fail
 with_reducible refine(C1.o _ (HL.o.on u6.o)).mono ?_
 rintro e W1 ⟨sw,rM,rV,pq,rfl,hb⟩;have w9:=hbt u6 hb;clear hb;go_upto_region 2 with fail
 refine aA W1 [(#[.string sw,.string rM],92),(#[.string rV,.string pq],92)] rfl ?_;have L1:=w9.o.size;rintro W2 ⟨k1,k2,hb⟩;have hb:Below W1.heap.size W1 W2:=hb;have wo:=hbt w9 hb;have K1:=hid k1;have K2:=hid k2;clear k1 k2 hb;go_wp2;exact bodyPost_ret (v:=.tuple #[.string ⟨#[]⟩,.int .i64 1]) (by simp[results,results50,go_sem]) rfl ⟨rfl,wo.o⟩
theorem z3y (a b:ByteArray)(h:(vldQ a.data.toList&&vldQ b.data.toList)=false)(ha:a.size≤900)(hb:b.size≤900)(w:World)(hl:La w) :
 CR 21 #[.string a,.string b] w (.tuple #[.string ⟨#[]⟩,.int .i64 1]):=by
 have HL:=hid hl;have C1:=hid (fun W (hW:La W)=>uL a b 45 h ha hb W hW);clear hl h ha hb;go_enter func21,ntmps21
 have u6:=hid (Below.refl w.heap.size w);go_wp2_with fail
 with_reducible refine(C1.o _ (HL.o.on u6.o)).mono ?_
 rintro e W1 ⟨rfl,hb⟩;have w9:=hbt u6 hb;clear hb;go_wp2;exact bodyPost_ret (v:=.tuple #[.string ⟨#[]⟩,.int .i64 1]) (by simp[results,results21,go_sem]) rfl ⟨rfl,w9.o⟩
