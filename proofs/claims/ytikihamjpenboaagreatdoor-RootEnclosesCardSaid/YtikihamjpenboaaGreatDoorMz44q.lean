/- texts -/
import Derived.Test.YtikihamjpenboaaGreatDoorMz41q
set_option maxRecDepth 100000
set_option maxHeartbeats 20000000
open Go.Lib (hid)
namespace Go.Proofs.YtikihamjpenboaaGreatDoor
open Go.RowKit Go.Gb
theorem zK (x:ByteArray)(w:World)(hl:La w)
 (g1:CL 41 #[.string x] (.bool true)) :
 CR 30 #[.string x] w (.tuple #[.agg #[.string x,.string x],.int .i64 0]):=by
 have C1:=hid g1;obtain⟨w0,hw0⟩:∃ w0:World,w0=(w.alloc (.cells #[.string ⟨#[]⟩,.string ⟨#[]⟩] 24)):=⟨_,rfl⟩;have hz0:w0.heap.size=w.heap.size+1:=by rw[hw0];simp
 have hB0:Below w.heap.size w w0:=by
  rw[hw0];repeat (first|exact Below.refl _ _|refine Below.setCell ?_ (by first|omega|(simp;omega)|simp) _|refine Below.alloc ?_ (by first|omega|(simp;omega)|simp) _|refine Below.drew ?_)
 have hS0:w0.cell? ⟨w.heap.size,0,none⟩=some (.string ⟨#[]⟩)∧w0.cell? ⟨w.heap.size,1,none⟩=some (.string ⟨#[]⟩):=by rw[hw0];exact⟨((aO).trans rfl),((aO).trans rfl)⟩
 have KS:=hid (show ∀ W:World,Below w0.heap.size w0 W→(W.cell? ⟨w.heap.size,0,none⟩=some (.string ⟨#[]⟩)∧W.cell? ⟨w.heap.size,1,none⟩=some (.string ⟨#[]⟩)) from fun W hB=>by
  obtain⟨c0,c1⟩:=hS0
  exact⟨(hB.cell (p:=⟨w.heap.size,0,none⟩) (by show w.heap.size<_;omega)).trans c0,(hB.cell (p:=⟨w.heap.size,1,none⟩) (by show w.heap.size<_;omega)).trans c1⟩)
 have KZ:=hid (show ∀ W:World,Below w0.heap.size w0 W→w.heap.size+1≤W.heap.size from fun W hB=>by have:=hB.size;omega);have KB:=hid (show ∀ W:World,Below w0.heap.size w0 W→Below w.heap.size w W from fun W hB=>hB0.trans (hB.mono (by omega)));have hR0:w0.cell? ⟨w.heap.size,0,none⟩=some (.string ⟨#[]⟩)∧w0.cell? ⟨w.heap.size,1,none⟩=some (.string ⟨#[]⟩)∧w0.frozen? ⟨w.heap.size,0,none⟩=false∧w0.frozen? ⟨w.heap.size,1,none⟩=false:=by rw[hw0];exact⟨((aO).trans rfl),((aO).trans rfl),(cB),(cB)⟩
 have KR:=hid (show ∀ W:World,Below w0.heap.size w0 W→(W.cell? ⟨w.heap.size,0,none⟩=some (.string ⟨#[]⟩)∧W.cell? ⟨w.heap.size,1,none⟩=some (.string ⟨#[]⟩)∧W.frozen? ⟨w.heap.size,0,none⟩=false∧W.frozen? ⟨w.heap.size,1,none⟩=false) from fun W hB=>by
  obtain⟨c0,c1,f0,f1⟩:=hR0
  exact⟨(hB.cell (p:=⟨w.heap.size,0,none⟩) (by show w.heap.size<_;omega)).trans c0,(hB.cell (p:=⟨w.heap.size,1,none⟩) (by show w.heap.size<_;omega)).trans c1,(hB.frozen (p:=⟨w.heap.size,0,none⟩) (by show w.heap.size<_;omega)).trans f0,(hB.frozen (p:=⟨w.heap.size,1,none⟩) (by show w.heap.size<_;omega)).trans f1⟩)
 clear hR0;have F0:=hid (Below.refl w0.heap.size w0);have HW0:=hid hw0;clear hz0 hB0 hS0 hw0;have HL:=hid (show ∀ W:World,Below w0.heap.size w0 W→La W from fun W hB=>hl.on (KB.o W hB));clear hl g1;go_enter Tryz.func30,Tryz.ntmps30
 go_wp2_with fail
 rw[← HW0.o];obtain⟨d0,d1⟩:=KS.o _ F0.o;go_wp2_with fail
 refine(C1.o _ (HL.o _ F0.o)).mono ?_;rintro e w1 ⟨rfl,hb⟩;have F1:=hid (aj F0.o hb);clear hb d0 d1;obtain⟨d0,d1⟩:=KS.o _ F1.o
 all_goals
  obtain⟨m0,m1,n0,n1⟩:=KR.o _ F1.o;have hz:=KZ.o _ F1.o;go_wp2;refine bodyPost_ret (v:=.tuple #[.agg #[.string x,.string x],.int .i64 0]) (by simp[results,Tryz.results30,go_sem,m0,m1]) rfl ⟨rfl,?_⟩;repeat (first|exact KB.o _ F1.o|refine Below.setCell ?_ (by first|omega|(simp;omega)|simp) _|refine Below.alloc ?_ (by first|omega|(simp;omega)|simp) _|refine Below.drew ?_)
open Go.Lib (hid)
theorem oq (x pt t f r:ByteArray)(u:World)(hl:La u)
 (h1:CL 50 #[.string x,.string pt] (.tuple #[.string t,.int .i64 0]))
 (h2:CL 90 #[.string t] (.tuple #[.string f,.int .i64 0]))
 (h3:CL 99 #[.string f,.string pt] (.tuple #[.string r,.int .i64 0])) :
 CR 74 #[.string x,.string pt] u (.string r):=by
 obtain ⟨C1,C2,C3⟩:=ak h1 h2 h3;have HL:=hid (show ∀ W:World,Below u.heap.size u W→La W from fun W hB=>hl.on hB);have F0:=hid (Below.refl u.heap.size u);clear hl h1 h2 h3;go_enter Tryz.func74,Tryz.ntmps74
 go_wp2_with fail
 refine(C1.o _ (HL.o _ F0.o)).mono ?_;rintro e w1 ⟨rfl,hb⟩;have F1:=hid (aj F0.o hb);clear hb;go_wp2_with fail
 refine(C2.o _ (HL.o _ F1.o)).mono ?_;rintro e w2 ⟨rfl,hb⟩;have F2:=hid (aj F1.o hb);clear hb;go_wp2_with fail
 refine(C3.o _ (HL.o _ F2.o)).mono ?_;rintro e w3 ⟨rfl,hb⟩;have F3:=hid (aj F2.o hb);clear hb;go_wp2;go_ret
 exact⟨rfl,F3.o⟩
theorem z3r (x r:ByteArray)(u:World)(hl:La u)
 (h1:CL 40 #[.string ⟨#[48]⟩,.string x] (.tuple #[.string r,.int .i64 0])) :
 CR 75 #[.string x] u (.string r):=by
 have C1:=hid h1;have HL:=hid (show ∀ W:World,Below u.heap.size u W→La W from fun W hB=>hl.on hB);have F0:=hid (Below.refl u.heap.size u);clear hl h1;go_enter Tryz.func75,Tryz.ntmps75
 go_wp2_with fail
 refine(C1.o _ (HL.o _ F0.o)).mono ?_;rintro e w1 ⟨rfl,hb⟩;have F1:=hid (aj F0.o hb);clear hb;go_wp2;go_ret
 exact⟨rfl,F1.o⟩
theorem zJ (l h pt p q r s:ByteArray)(n:Int)(hn1:decide (n<1)=false)(hn2:decide (1000000000<n)=false)(w:World)(hl:La w)
 (g1:CL 31 #[.agg #[.string l,.string h]] (.bool true))
 (g2:CL 73 #[.int .i64 n] (.string pt))
 (g3:CL 74 #[.string l,.string pt] (.string p))
 (g4:CL 75 #[.string h] (.string q))
 (g5:CL 74 #[.string q,.string pt] (.string r))
 (g6:CL 75 #[.string r] (.string s)) :
 CR 33 #[.agg #[.string l,.string h],.int .i64 n] w (.tuple #[.agg #[.string p,.string s],.int .i64 0]):=by
 obtain ⟨C1,C2,C3,C4,C5,C6⟩:=cz g1 g2 g3 g4 g5 g6;obtain⟨w0,hw0⟩:∃ w0:World,w0=((w.alloc (.cells #[.string l,.string h] 24)).alloc (.cells #[.string ⟨#[]⟩,.string ⟨#[]⟩] 24)):=⟨_,rfl⟩;have hz0:w0.heap.size=w.heap.size+2:=by rw[hw0];simp
 have hB0:Below w.heap.size w w0:=by
  rw[hw0];repeat (first|exact Below.refl _ _|refine Below.setCell ?_ (by first|omega|(simp;omega)|simp) _|refine Below.alloc ?_ (by first|omega|(simp;omega)|simp) _|refine Below.drew ?_)
 have hS0:w0.cell? ⟨w.heap.size,0,none⟩=some (.string l)∧w0.cell? ⟨w.heap.size,1,none⟩=some (.string h):=by rw[hw0];exact⟨((q_lt).trans ((aO).trans rfl)),((q_lt).trans ((aO).trans rfl))⟩
 have KS:=hid (show ∀ W:World,Below w0.heap.size w0 W→(W.cell? ⟨w.heap.size,0,none⟩=some (.string l)∧W.cell? ⟨w.heap.size,1,none⟩=some (.string h)) from fun W hB=>by
  obtain⟨c0,c1⟩:=hS0
  exact⟨(hB.cell (p:=⟨w.heap.size,0,none⟩) (by show w.heap.size<_;omega)).trans c0,(hB.cell (p:=⟨w.heap.size,1,none⟩) (by show w.heap.size<_;omega)).trans c1⟩)
 have KZ:=hid (show ∀ W:World,Below w0.heap.size w0 W→w.heap.size+2≤W.heap.size from fun W hB=>by have:=hB.size;omega);have KB:=hid (show ∀ W:World,Below w0.heap.size w0 W→Below w.heap.size w W from fun W hB=>hB0.trans (hB.mono (by omega)));have hR0:w0.cell? ⟨w.heap.size+1,0,none⟩=some (.string ⟨#[]⟩)∧w0.cell? ⟨w.heap.size+1,1,none⟩=some (.string ⟨#[]⟩)∧w0.frozen? ⟨w.heap.size+1,0,none⟩=false∧w0.frozen? ⟨w.heap.size+1,1,none⟩=false:=by rw[hw0];exact⟨((aO).trans rfl),((aO).trans rfl),(cB),(cB)⟩
 have KR:=hid (show ∀ W:World,Below w0.heap.size w0 W→(W.cell? ⟨w.heap.size+1,0,none⟩=some (.string ⟨#[]⟩)∧W.cell? ⟨w.heap.size+1,1,none⟩=some (.string ⟨#[]⟩)∧W.frozen? ⟨w.heap.size+1,0,none⟩=false∧W.frozen? ⟨w.heap.size+1,1,none⟩=false) from fun W hB=>by
  obtain⟨c0,c1,f0,f1⟩:=hR0
  exact⟨(hB.cell (p:=⟨w.heap.size+1,0,none⟩) (by show w.heap.size+1<_;omega)).trans c0,(hB.cell (p:=⟨w.heap.size+1,1,none⟩) (by show w.heap.size+1<_;omega)).trans c1,(hB.frozen (p:=⟨w.heap.size+1,0,none⟩) (by show w.heap.size+1<_;omega)).trans f0,(hB.frozen (p:=⟨w.heap.size+1,1,none⟩) (by show w.heap.size+1<_;omega)).trans f1⟩)
 clear hR0
 have KT0:=hid (show ∀ (W:World) (v u:Value),Below w0.heap.size w0 W→(((W.setCell ⟨w.heap.size+1,0,none⟩ v).setCell ⟨w.heap.size+1,1,none⟩ u).cell? ⟨w.heap.size,0,none⟩=some (.string l)∧((W.setCell ⟨w.heap.size+1,0,none⟩ v).setCell ⟨w.heap.size+1,1,none⟩ u).cell? ⟨w.heap.size,1,none⟩=some (.string h)) from fun W v u hB=>by
  have hh:=KS.o W hB;obtain⟨c0,c1⟩:=hh
  exact⟨(bB (by omega)).trans ((bB (by omega)).trans c0),(bB (by omega)).trans ((bB (by omega)).trans c1)⟩)
 have F0:=hid (Below.refl w0.heap.size w0);have HW0:=hid hw0;clear hz0 hB0 hS0 hw0;have HL:=hid (show ∀ W:World,Below w0.heap.size w0 W→La W from fun W hB=>hl.on (KB.o W hB));clear hl g1 g2 g3 g4 g5 g6;go_enter Tryz.func33,Tryz.ntmps33
 go_wp2_with fail
 rw[← HW0.o];obtain⟨d0,d1⟩:=KS.o _ F0.o;go_wp2_with fail
 refine(C1.o _ (HL.o _ F0.o)).mono ?_;rintro e w1 ⟨rfl,hb⟩;have F1:=hid (aj F0.o hb);clear hb d0 d1;obtain⟨d0,d1⟩:=KS.o _ F1.o;go_wp2_with fail
 refine(C2.o _ (HL.o _ F1.o)).mono ?_;rintro e w2 ⟨rfl,hb⟩;have F2:=hid (aj F1.o hb);clear hb d0 d1;obtain⟨d0,d1⟩:=KS.o _ F2.o;go_wp2_with fail
 go_region_held3 (fun w'=>w'.cell? ⟨w.heap.size,0,none⟩=some (.string l)∧w'.cell? ⟨w.heap.size,1,none⟩=some (.string h)) (first|(with_reducible exact KS.o _ F6.o)|(with_reducible exact KS.o _ F6.o.drew)|(with_reducible exact KS.o _ F5.o)|(with_reducible exact KS.o _ F5.o.drew)|(with_reducible exact KS.o _ F4.o)|(with_reducible exact KS.o _ F4.o.drew)|(with_reducible exact KS.o _ F3.o)|(with_reducible exact KS.o _ F3.o.drew)|(with_reducible exact KS.o _ F2.o)|(with_reducible exact KS.o _ F2.o.drew)|(with_reducible exact KT0.o _ _ _ F6.o)|(with_reducible exact KT0.o _ _ _ F6.o.drew))
  (first
   | (go_at_call 74;(with_reducible refine(C3.o _ ?la2).mono ?_);(case la2=>first|exact HL.o _ F2.o|exact HL.o _ F2.o.drew);rintro e w3 ⟨rfl,hb⟩;have F3:=hid (show Below w0.heap.size w0 w3 by first|exact aj F2.o hb|exact aj F2.o.drew hb);clear hb)
   | (go_at_call 75;(with_reducible refine(C4.o _ ?la3).mono ?_);(case la3=>first|exact HL.o _ F3.o|exact HL.o _ F3.o.drew);rintro e w4 ⟨rfl,hb⟩;have F4:=hid (show Below w0.heap.size w0 w4 by first|exact aj F3.o hb|exact aj F3.o.drew hb);clear hb)
   | (go_at_call 74;(with_reducible refine(C5.o _ ?la4).mono ?_);(case la4=>first|exact HL.o _ F4.o|exact HL.o _ F4.o.drew);rintro e w5 ⟨rfl,hb⟩;have F5:=hid (show Below w0.heap.size w0 w5 by first|exact aj F4.o hb|exact aj F4.o.drew hb);clear hb)
   | (go_at_call 75;(with_reducible refine(C6.o _ ?la5).mono ?_);(case la5=>first|exact HL.o _ F5.o|exact HL.o _ F5.o.drew);rintro e w6 ⟨rfl,hb⟩;have F6:=hid (show Below w0.heap.size w0 w6 by first|exact aj F5.o hb|exact aj F5.o.drew hb);clear hb;have hz:=KZ.o _ F6.o;obtain⟨m0,m1,n0,n1⟩:=KR.o _ F6.o)
   | fail)
 all_goals
  have hz:=KZ.o _ F6.o;go_wp2;refine bodyPost_ret (v:=.tuple #[.agg #[.string p,.string s],.int .i64 0]) (by simp[results,Tryz.results33,go_sem,m0,m1]) rfl ⟨rfl,?_⟩;repeat (first|exact KB.o _ F6.o|refine Below.setCell ?_ (by first|omega|(simp;omega)|simp) _|refine Below.alloc ?_ (by first|omega|(simp;omega)|simp) _|refine Below.drew ?_)
def Vq (x y:Rat):Value:=.agg #[.string (Sq x),.string (Sq y)]
theorem z6m {x y:Rat}(h:x≤y):cmpQ x y≤0:=by
 rcases gV x y with⟨h,e⟩|⟨h,e⟩|⟨h,e⟩<;>rw[e]<;>grind
theorem mG (x y:Rat)(h:x≤y)(hx:FitQ x)(hy:FitQ y)(w:World)(hl:La w) :
 CR 31 #[Vq x y] w (.bool true) :=
 pQ _ _ _ (z6m h) w hl (fun W hW=>rT x y _ rfl hx hy W hW)
theorem z1u (x y:Rat)(h:y<x)(hx:FitQ x)(hy:FitQ y)(w:World)(hl:La w) :
 CR 31 #[Vq x y] w (.bool false) :=
 sF _ _ w hl (fun W hW=>rT x y 1 (z1W h) hx hy W hW)
theorem ui (a:ByteArray)(ha:a.size≤900)(w:World)(hl:La w) :
 Calls Tryz.prog 44 #[.string a] w fun e w'=>(∃ s b:ByteArray,e=.returned (.tuple #[.agg #[.string s,.string b],.bool (vldQ a.data.toList)]))∧Below w.heap.size w w':=by
 cases h:vldQ a.data.toList with
 | false=>exact sK a h ha w hl
 | true =>
   have e:=z4I h;rw[e];have hq:(Sq (qval a.data.toList)).size≤900:=by rw[← e];exact ha
   exact(j5 (qval a.data.toList) (z0r hq (by decide)) w hl).mono (fun _ _ ⟨h1,h2⟩=>⟨⟨_,_,h1⟩,h2⟩)
theorem mH (l h:ByteArray)(hv:(vldQ l.data.toList&&vldQ h.data.toList)=false)(hl1:l.size≤900)(hh:h.size≤900)(w:World)(hl:La w) :
 CR 31 #[.agg #[.string l,.string h]] w (.bool false):=by
 refine sD l h w hl (fun W hW=>zU l h W ?_);have h2:=sM l h _ _ W hW (fun V hV=>ui l hl1 V hV) (fun V hV=>ui h hh V hV);rwa [hv]at h2
theorem z6h (x:Rat)(hx:FitQ x)(w:World)(hl:La w) :
 CR 30 #[.string (Sq x)] w (.tuple #[Vq x x,.int .i64 0]) :=
 zK _ w hl (fun W hW=>qz x hx W hW)
theorem fq00:FitQ 0:=zN (by decide +kernel) (by decide +kernel)
def rdQ (x:Rat) (n:Int):Rat:=Rat.divInt ((x*Rat.ofInt n).num / ((x*Rat.ofInt n).den:Int)) n
theorem z0u {k:Nat}{z:Int}(h:Sm k z.natAbs)(hk:1≤k):SmQ k (Rat.ofInt z):=⟨h,(show Sm 1 1 by simp[Sm]).mono hk⟩
theorem kY {k:Nat}{x:Rat}(h:SmQ k x)(hk:1≤k):Sm (k+1) (x.num / (x.den:Int)).natAbs:=by
 refine Sm.le (n:=x.num.natAbs+1) (Sm.add h.1 ((show Sm 1 1 by simp[Sm]).mono hk)) ?_;have:=Int.natAbs_ediv_le_natAbs x.num (x.den:Int);omega
theorem z6z {k:Nat}{x:Rat}{n:Int}(hx:SmQ k x)(hn:Sm 10 n.natAbs)(hn0:n≠0):SmQ (k+10+1) (rdQ x n):=by
 unfold rdQ
 exact lZ hn0 (kY (hx.mul (z0u hn (by decide))) (by omega)) (hn.mono (by omega))
theorem qH {k:Nat}(x:Rat)(n:Int)(hk:k≤800)(hx:SmQ k x)(hn:Sm 10 n.natAbs)(hn0:n≠0)(w:World)(hl:La w) :
 CR 74 #[.string (Sq x),.string (Sz n)] w (.string (Sq (rdQ x n))):=by
 have hm:SmQ (k+10) (x*Rat.ofInt n):=hx.mul (z0u hn (by decide));have h1:=fun W hW=>qMul x (Rat.ofInt n) _ rfl (hx.fit (by omega)) ((z0u hn (by decide)).fit (by decide)) W hW;rw[qY]at h1
 exact oq _ _ _ _ _ w hl h1 (fun W hW=>z4u _ (hm.fit (by omega)) W hW)
  (fun W hW=>z6I _ n hn0 (FitL.of (kY hm (by omega)) (by omega)) (FitL.of hn (by decide)) W hW)
theorem iNeg (x y:Rat)(h:0-x=y)(hx:FitQ x)(w:World)(hl:La w) :
 CR 75 #[.string (Sq x)] w (.string (Sq y)):=by
 have h1:=fun W hW=>qSub 0 x y h fq00 hx W hW;rw[q_0]at h1;exact z3r _ _ w hl h1
theorem z6f (n:Int)(h0 : -9223372036854775808≤n)(h1:n≤9223372036854775807)(w:World)(hl:La w) :
 CR 73 #[.int .i64 n] w (.string (Sz n)):=by
 have h:=Tryz.strconv_Itoa n h0 h1 w hl.tb;rw[z1s]at h;exact h.mono (fun e w' ⟨e1,k,os,e2⟩=>⟨e1,e2▸Lib.below_grow w.heap.size w (Nat.le_refl _) k os⟩)
theorem z6g {k:Nat}(a b:Rat)(n:Int)(hk:k≤790)(h:a≤b)(ha:SmQ k a)(hb:SmQ k b)(hn1:1≤n)(hn2:n≤1000000000)(w:World)(hl:La w) :
 CR 33 #[Vq a b,.int .i64 n] w (.tuple #[Vq (rdQ a n) (0-rdQ (0-b) n),.int .i64 0]):=by
 have hn:Sm 10 n.natAbs:=by
  have:n.natAbs<10^10:=by omega
  exact this
 have hq:SmQ (k+2) (0-b):=((show SmQ 1 0 from⟨by unfold Sm;decide +kernel,by unfold Sm;decide +kernel⟩).sub hb).mono (by omega);have hr:=z6z (n:=n) hq hn (by omega)
 exact zJ _ _ _ _ _ _ _ n (by rw[decide_eq_false_iff_not];omega) (by rw[decide_eq_false_iff_not];omega) w hl (fun W hW=>mG a b h (ha.fit (by omega)) (hb.fit (by omega)) W hW)
  (fun W hW=>z6f n (by omega) (by omega) W hW) (fun W hW=>qH a n (by omega) ha hn (by omega) W hW) (fun W hW=>iNeg b _ rfl (hb.fit (by omega)) W hW)
  (fun W hW=>qH _ n (by omega) hq hn (by omega) W hW) (fun W hW=>iNeg _ _ rfl (hr.fit (by omega)) W hW)
