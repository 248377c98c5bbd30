/- Texts of this proof, one behind the other. -/
import Derived.Test.YtggoeabhbkbadaaGreatDoorMz38q
import Derived.Test.YtggoeabhbkbadaaGreatDoorOg
set_option maxRecDepth 100000
set_option maxHeartbeats 20000000
open Go.Lib (hid)
namespace Go.Proofs.YtggoeabhbkbadaaGreatDoor
open Go.RowKit Go.Gb
theorem iround_down_raw (x pt t f r:ByteArray)(u:World)(hl:La u)
 (h1:CL 10 #[.string x,.string pt] (.tuple #[.string t,.int .i64 0]))
 (h2:CL 66 #[.string t] (.tuple #[.string f,.int .i64 0]))
 (h3:CL 67 #[.string f,.string pt] (.tuple #[.string r,.int .i64 0])) :
 CR 33 #[.string x,.string pt] u (.string r):=by
 have C1:=hid h1
 have C2:=hid h2
 have C3:=hid h3
 have HL:=hid (show ∀ W:World,Below u.heap.size u W→La W from fun W hB=>hl.on hB)
 have F0:=hid (Below.refl u.heap.size u)
 clear hl h1 h2 h3
 go_enter Tryz.func33,Tryz.ntmps33
 go_wp2_with fail
 refine(C1.out _ (HL.out _ F0.out)).mono ?_
 rintro e w1 ⟨rfl,hb⟩
 have F1:=hid (fr_chain F0.out hb)
 clear hb
 go_wp2_with fail
 refine(C2.out _ (HL.out _ F1.out)).mono ?_
 rintro e w2 ⟨rfl,hb⟩
 have F2:=hid (fr_chain F1.out hb)
 clear hb
 go_wp2_with fail
 refine(C3.out _ (HL.out _ F2.out)).mono ?_
 rintro e w3 ⟨rfl,hb⟩
 have F3:=hid (fr_chain F2.out hb)
 clear hb
 go_wp2
 go_ret
 exact⟨rfl,F3.out⟩
theorem ineg_raw (x r:ByteArray)(u:World)(hl:La u)
 (h1:CL 13 #[.string ⟨#[48]⟩,.string x] (.tuple #[.string r,.int .i64 0])) :
 CR 34 #[.string x] u (.string r):=by
 have C1:=hid h1
 have HL:=hid (show ∀ W:World,Below u.heap.size u W→La W from fun W hB=>hl.on hB)
 have F0:=hid (Below.refl u.heap.size u)
 clear hl h1
 go_enter Tryz.func34,Tryz.ntmps34
 go_wp2_with fail
 refine(C1.out _ (HL.out _ F0.out)).mono ?_
 rintro e w1 ⟨rfl,hb⟩
 have F1:=hid (fr_chain F0.out hb)
 clear hb
 go_wp2
 go_ret
 exact⟨rfl,F1.out⟩
theorem iRound_raw (l h pt p q r s:ByteArray)(n:Int)(hn1:decide (n<1)=false)(hn2:decide (1000000000<n)=false)(w:World)(hl:La w)
 (g1:CL 15 #[.agg #[.string l,.string h]] (.bool true))
 (g2:CL 32 #[.int .i64 n] (.string pt))
 (g3:CL 33 #[.string l,.string pt] (.string p))
 (g4:CL 34 #[.string h] (.string q))
 (g5:CL 33 #[.string q,.string pt] (.string r))
 (g6:CL 34 #[.string r] (.string s)) :
 CR 12 #[.agg #[.string l,.string h],.int .i64 n] w (.tuple #[.agg #[.string p,.string s],.int .i64 0]):=by
 have C1:=hid g1
 have C2:=hid g2
 have C3:=hid g3
 have C4:=hid g4
 have C5:=hid g5
 have C6:=hid g6
 obtain⟨w0,hw0⟩:∃ w0:World,w0=((w.alloc (.cells #[.string l,.string h] 27)).alloc (.cells #[.string ⟨#[]⟩,.string ⟨#[]⟩] 27)):=⟨_,rfl⟩
 have hz0:w0.heap.size=w.heap.size+2:=by rw[hw0];simp
 have hB0:Below w.heap.size w w0:=by
  rw[hw0]
  repeat (first|exact Below.refl _ _|refine Below.setCell ?_ (by first|omega|(simp;omega)|simp) _|refine Below.alloc ?_ (by first|omega|(simp;omega)|simp) _|refine Below.drew ?_)
 have hS0:w0.cell? ⟨w.heap.size,0,none⟩=some (.string l)∧w0.cell? ⟨w.heap.size,1,none⟩=some (.string h):=by rw[hw0];exact⟨((q_lt).trans ((q_new).trans rfl)),((q_lt).trans ((q_new).trans rfl))⟩
 have KS:=hid (show ∀ W:World,Below w0.heap.size w0 W→(W.cell? ⟨w.heap.size,0,none⟩=some (.string l)∧W.cell? ⟨w.heap.size,1,none⟩=some (.string h)) from fun W hB=>by
  obtain⟨c0,c1⟩:=hS0
  exact⟨(hB.cell (p:=⟨w.heap.size,0,none⟩) (by show w.heap.size<_;omega)).trans c0,(hB.cell (p:=⟨w.heap.size,1,none⟩) (by show w.heap.size<_;omega)).trans c1⟩)
 have KZ:=hid (show ∀ W:World,Below w0.heap.size w0 W→w.heap.size+2≤W.heap.size from fun W hB=>by have:=hB.size;omega)
 have KB:=hid (show ∀ W:World,Below w0.heap.size w0 W→Below w.heap.size w W from fun W hB=>hB0.trans (hB.mono (by omega)))
 have hR0:w0.cell? ⟨w.heap.size+1,0,none⟩=some (.string ⟨#[]⟩)∧w0.cell? ⟨w.heap.size+1,1,none⟩=some (.string ⟨#[]⟩)∧w0.frozen? ⟨w.heap.size+1,0,none⟩=false∧w0.frozen? ⟨w.heap.size+1,1,none⟩=false:=by rw[hw0];exact⟨((q_new).trans rfl),((q_new).trans rfl),(fq_new),(fq_new)⟩
 have KR:=hid (show ∀ W:World,Below w0.heap.size w0 W→(W.cell? ⟨w.heap.size+1,0,none⟩=some (.string ⟨#[]⟩)∧W.cell? ⟨w.heap.size+1,1,none⟩=some (.string ⟨#[]⟩)∧W.frozen? ⟨w.heap.size+1,0,none⟩=false∧W.frozen? ⟨w.heap.size+1,1,none⟩=false) from fun W hB=>by
  obtain⟨c0,c1,f0,f1⟩:=hR0
  exact⟨(hB.cell (p:=⟨w.heap.size+1,0,none⟩) (by show w.heap.size+1<_;omega)).trans c0,(hB.cell (p:=⟨w.heap.size+1,1,none⟩) (by show w.heap.size+1<_;omega)).trans c1,(hB.frozen (p:=⟨w.heap.size+1,0,none⟩) (by show w.heap.size+1<_;omega)).trans f0,(hB.frozen (p:=⟨w.heap.size+1,1,none⟩) (by show w.heap.size+1<_;omega)).trans f1⟩)
 clear hR0
 have KT0:=hid (show ∀ (W:World) (v u:Value),Below w0.heap.size w0 W→(((W.setCell ⟨w.heap.size+1,0,none⟩ v).setCell ⟨w.heap.size+1,1,none⟩ u).cell? ⟨w.heap.size,0,none⟩=some (.string l)∧((W.setCell ⟨w.heap.size+1,0,none⟩ v).setCell ⟨w.heap.size+1,1,none⟩ u).cell? ⟨w.heap.size,1,none⟩=some (.string h)) from fun W v u hB=>by
  have hh:=KS.out W hB
  obtain⟨c0,c1⟩:=hh
  exact⟨(q_set (by omega)).trans ((q_set (by omega)).trans c0),(q_set (by omega)).trans ((q_set (by omega)).trans c1)⟩)
 have F0:=hid (Below.refl w0.heap.size w0)
 have HW0:=hid hw0
 clear hz0 hB0 hS0 hw0
 have HL:=hid (show ∀ W:World,Below w0.heap.size w0 W→La W from fun W hB=>hl.on (KB.out W hB))
 clear hl g1 g2 g3 g4 g5 g6
 go_enter Tryz.func12,Tryz.ntmps12
 go_wp2_with fail
 rw[← HW0.out]
 obtain⟨d0,d1⟩:=KS.out _ F0.out
 go_wp2_with fail
 refine(C1.out _ (HL.out _ F0.out)).mono ?_
 rintro e w1 ⟨rfl,hb⟩
 have F1:=hid (fr_chain F0.out hb)
 clear hb d0 d1
 obtain⟨d0,d1⟩:=KS.out _ F1.out
 go_wp2_with fail
 refine(C2.out _ (HL.out _ F1.out)).mono ?_
 rintro e w2 ⟨rfl,hb⟩
 have F2:=hid (fr_chain F1.out hb)
 clear hb d0 d1
 obtain⟨d0,d1⟩:=KS.out _ F2.out
 go_wp2_with fail
 go_region_held3 (fun w'=>w'.cell? ⟨w.heap.size,0,none⟩=some (.string l)∧w'.cell? ⟨w.heap.size,1,none⟩=some (.string h)) (first|(with_reducible exact KS.out _ F6.out)|(with_reducible exact KS.out _ F6.out.drew)|(with_reducible exact KS.out _ F5.out)|(with_reducible exact KS.out _ F5.out.drew)|(with_reducible exact KS.out _ F4.out)|(with_reducible exact KS.out _ F4.out.drew)|(with_reducible exact KS.out _ F3.out)|(with_reducible exact KS.out _ F3.out.drew)|(with_reducible exact KS.out _ F2.out)|(with_reducible exact KS.out _ F2.out.drew)|(with_reducible exact KT0.out _ _ _ F6.out)|(with_reducible exact KT0.out _ _ _ F6.out.drew))
  (first
   | (go_at_call 33;(with_reducible refine(C3.out _ ?la2).mono ?_);(case la2=>first|exact HL.out _ F2.out|exact HL.out _ F2.out.drew);rintro e w3 ⟨rfl,hb⟩;have F3:=hid (show Below w0.heap.size w0 w3 by first|exact fr_chain F2.out hb|exact fr_chain F2.out.drew hb);clear hb)
   | (go_at_call 34;(with_reducible refine(C4.out _ ?la3).mono ?_);(case la3=>first|exact HL.out _ F3.out|exact HL.out _ F3.out.drew);rintro e w4 ⟨rfl,hb⟩;have F4:=hid (show Below w0.heap.size w0 w4 by first|exact fr_chain F3.out hb|exact fr_chain F3.out.drew hb);clear hb)
   | (go_at_call 33;(with_reducible refine(C5.out _ ?la4).mono ?_);(case la4=>first|exact HL.out _ F4.out|exact HL.out _ F4.out.drew);rintro e w5 ⟨rfl,hb⟩;have F5:=hid (show Below w0.heap.size w0 w5 by first|exact fr_chain F4.out hb|exact fr_chain F4.out.drew hb);clear hb)
   | (go_at_call 34;(with_reducible refine(C6.out _ ?la5).mono ?_);(case la5=>first|exact HL.out _ F5.out|exact HL.out _ F5.out.drew);rintro e w6 ⟨rfl,hb⟩;have F6:=hid (show Below w0.heap.size w0 w6 by first|exact fr_chain F5.out hb|exact fr_chain F5.out.drew hb);clear hb;have hz:=KZ.out _ F6.out;obtain⟨m0,m1,n0,n1⟩:=KR.out _ F6.out)
   | fail)
 all_goals
  have hz:=KZ.out _ F6.out
  go_wp2
  refine bodyPost_ret (v:=.tuple #[.agg #[.string p,.string s],.int .i64 0]) (by simp[results,Tryz.results12,go_sem,m0,m1]) rfl ⟨rfl,?_⟩
  repeat (first|exact KB.out _ F6.out|refine Below.setCell ?_ (by first|omega|(simp;omega)|simp) _|refine Below.alloc ?_ (by first|omega|(simp;omega)|simp) _|refine Below.drew ?_)
def Vq (x y:Rat):Value:=.agg #[.string (Sq x),.string (Sq y)]
theorem cmp_le {x y:Rat}(h:x≤y):cmpQ x y≤0:=by
 rcases cmpQ_cases x y with⟨h,e⟩|⟨h,e⟩|⟨h,e⟩<;>rw[e]<;>grind
theorem iValid_yes (x y:Rat)(h:x≤y)(hx:FitQ x)(hy:FitQ y)(w:World)(hl:La w) :
 CR 15 #[Vq x y] w (.bool true) :=
 ivalid_yes_raw _ _ _ (cmp_le h) w hl (fun W hW=>qCompare x y _ rfl hx hy W hW)
theorem iAdd (a b c d s t:Rat)(hs:a+c=s)(ht:b+d=t)(h1:a≤b)(h2:c≤d)(ha:FitQ a)(hb:FitQ b)(hc:FitQ c)(hd:FitQ d)(w:World)(hl:La w) :
 CR 21 #[Vq a b,Vq c d] w (.tuple #[Vq s t,.int .i64 0]) :=
 iAdd_raw _ _ _ _ _ _ w hl (fun W hW=>iValid_yes a b h1 ha hb W hW) (fun W hW=>iValid_yes c d h2 hc hd W hW) (fun W hW=>qAdd a c s hs ha hc W hW) (fun W hW=>qAdd b d t ht hb hd W hW)
def row4 (p0 p1 p2 p3:Rat):Nat→Rat
 | 0=>p0
 | 1=>p1
 | 2=>p2
 | _=>p3
theorem ext4 (p0 p1 p2 p3:Rat)(f0:FitQ p0)(f1:FitQ p1)(f2:FitQ p2)(f3:FitQ p3)(W:World)(g:Nat)(hW:La W)(hg:g<W.heap.size)
 (c0:W.cell? ⟨g,0,none⟩=some (.string (Sq p0))) (c1:W.cell? ⟨g,1,none⟩=some (.string (Sq p1))) (c2:W.cell? ⟨g,2,none⟩=some (.string (Sq p2))) (c3:W.cell? ⟨g,3,none⟩=some (.string (Sq p3))) :
 CR 41 #[.slice (some ⟨g,0,none⟩) 4 4] W (.agg #[.string (Sq (exOf (row4 p0 p1 p2 p3) 3).1),.string (Sq (exOf (row4 p0 p1 p2 p3) 3).2)]) :=
 extremes_any g 4 4 (row4 p0 p1 p2 p3) (by decide) (by decide) (by decide) W hW hg
  (fun i hi=>match i,hi with
   | 0,_=>f0
   | 1,_=>f1
   | 2,_=>f2
   | 3,_=>f3)
  (fun i hi=>match i,hi with
   | 0,_=>c0
   | 1,_=>c1
   | 2,_=>c2
   | 3,_=>c3)
theorem iMul (a b c d p0 p1 p2 p3:Rat)(e0:a*c=p0)(e1:a*d=p1)(e2:b*c=p2)(e3:b*d=p3)(h1:a≤b)(h2:c≤d)(ha:FitQ a)(hb:FitQ b)(hc:FitQ c)(hd:FitQ d)(f0:FitQ p0)(f1:FitQ p1)(f2:FitQ p2)(f3:FitQ p3)(w:World)(hl:La w) :
 CR 20 #[Vq a b,Vq c d] w (.tuple #[Vq (exOf (row4 p0 p1 p2 p3) 3).1 (exOf (row4 p0 p1 p2 p3) 3).2,.int .i64 0]) :=
 iMul_raw _ _ _ _ _ _ w hl (fun W hW=>iValid_yes a b h1 ha hb W hW) (fun W hW=>iValid_yes c d h2 hc hd W hW)
  (fun W hW=>combineMul_raw _ _ _ _ _ _ _ _ _ _ W hW (fun V hV=>qMul a c p0 e0 ha hc V hV) (fun V hV=>qMul a d p1 e1 ha hd V hV) (fun V hV=>qMul b c p2 e2 hb hc V hV) (fun V hV=>qMul b d p3 e3 hb hd V hV) (fun V g hV=>ext4 p0 p1 p2 p3 f0 f1 f2 f3 V g hV))
theorem iExact (x:Rat)(hx:FitQ x)(w:World)(hl:La w) :
 CR 28 #[.string (Sq x)] w (.tuple #[Vq x x,.int .i64 0]) :=
 iExact_raw _ w hl (fun W hW=>qvalid_yes x hx W hW)
def row2 (p0 p1:Rat):Nat→Rat
 | 0=>p0
 | _=>p1
theorem ext2 (p0 p1:Rat)(f0:FitQ p0)(f1:FitQ p1)(W:World)(g:Nat)(hW:La W)(hg:g<W.heap.size)
 (c0:W.cell? ⟨g,0,none⟩=some (.string (Sq p0))) (c1:W.cell? ⟨g,1,none⟩=some (.string (Sq p1))) :
 CR 41 #[.slice (some ⟨g,0,none⟩) 2 2] W (.agg #[.string (Sq (exOf (row2 p0 p1) 1).1),.string (Sq (exOf (row2 p0 p1) 1).2)]) :=
 extremes_any g 2 2 (row2 p0 p1) (by decide) (by decide) (by decide) W hW hg
  (fun i hi=>match i,hi with
   | 0,_=>f0
   | 1,_=>f1)
  (fun i hi=>match i,hi with
   | 0,_=>c0
   | 1,_=>c1)
theorem fq00:FitQ 0:=fitq_small (by decide +kernel) (by decide +kernel)
def rdQ (x:Rat) (n:Int):Rat:=Rat.divInt ((x*Rat.ofInt n).num / ((x*Rat.ofInt n).den:Int)) n
theorem sm_int {k:Nat}{z:Int}(h:Sm k z.natAbs)(hk:1≤k):SmQ k (Rat.ofInt z):=⟨h,(show Sm 1 1 by simp[Sm]).mono hk⟩
theorem sm_floor {k:Nat}{x:Rat}(h:SmQ k x)(hk:1≤k):Sm (k+1) (x.num / (x.den:Int)).natAbs:=by
 refine Sm.le (n:=x.num.natAbs+1) (Sm.add h.1 ((show Sm 1 1 by simp[Sm]).mono hk)) ?_
 have:=Int.natAbs_ediv_le_natAbs x.num (x.den:Int)
 omega
theorem sm_rd {k:Nat}{x:Rat}{n:Int}(hx:SmQ k x)(hn:Sm 10 n.natAbs)(hn0:n≠0):SmQ (k+10+1) (rdQ x n):=by
 unfold rdQ
 exact smq_divInt hn0 (sm_floor (hx.mul (sm_int hn (by decide))) (by omega)) (hn.mono (by omega))
theorem iRoundDown {k:Nat}(x:Rat)(n:Int)(hk:k≤800)(hx:SmQ k x)(hn:Sm 10 n.natAbs)(hn0:n≠0)(w:World)(hl:La w) :
 CR 33 #[.string (Sq x),.string (Sz n)] w (.string (Sq (rdQ x n))):=by
 have hm:SmQ (k+10) (x*Rat.ofInt n):=hx.mul (sm_int hn (by decide))
 have h1:=fun W hW=>qMul x (Rat.ofInt n) _ rfl (hx.fit (by omega)) ((sm_int hn (by decide)).fit (by decide)) W hW
 rw[sq_ofInt]at h1
 exact iround_down_raw _ _ _ _ _ w hl h1 (fun W hW=>qfloor _ (hm.fit (by omega)) W hW)
  (fun W hW=>qMake _ n hn0 (FitL.of (sm_floor hm (by omega)) (by omega)) (FitL.of hn (by decide)) W hW)
theorem iNeg (x y:Rat)(h:0-x=y)(hx:FitQ x)(w:World)(hl:La w) :
 CR 34 #[.string (Sq x)] w (.string (Sq y)):=by
 have h1:=fun W hW=>qSub 0 x y h fq00 hx W hW
 rw[q_0]at h1
 exact ineg_raw _ _ w hl h1
theorem itoaB (n:Int)(h0 : -9223372036854775808≤n)(h1:n≤9223372036854775807)(w:World)(hl:La w) :
 CR 32 #[.int .i64 n] w (.string (Sz n)):=by
 have h:=Tryz.strconv_Itoa n h0 h1 w hl.tb
 rw[itoa_sz]at h
 exact h.mono (fun e w' ⟨e1,k,os,e2⟩=>⟨e1,e2▸Lib.below_grow w.heap.size w (Nat.le_refl _) k os⟩)
theorem iRound {k:Nat}(a b:Rat)(n:Int)(hk:k≤400)(h:a≤b)(ha:SmQ k a)(hb:SmQ k b)(hn1:1≤n)(hn2:n≤1000000000)(w:World)(hl:La w) :
 CR 12 #[Vq a b,.int .i64 n] w (.tuple #[Vq (rdQ a n) (0-rdQ (0-b) n),.int .i64 0]):=by
 have hn:Sm 10 n.natAbs:=by
  have:n.natAbs<10^10:=by omega
  exact this
 have hq:SmQ (k+2) (0-b):=((show SmQ 1 0 from⟨by unfold Sm;decide +kernel,by unfold Sm;decide +kernel⟩).sub hb).mono (by omega)
 have hr:=sm_rd (n:=n) hq hn (by omega)
 exact iRound_raw _ _ _ _ _ _ _ n (by rw[decide_eq_false_iff_not];omega) (by rw[decide_eq_false_iff_not];omega) w hl (fun W hW=>iValid_yes a b h (ha.fit (by omega)) (hb.fit (by omega)) W hW)
  (fun W hW=>itoaB n (by omega) (by omega) W hW) (fun W hW=>iRoundDown a n (by omega) ha hn (by omega) W hW) (fun W hW=>iNeg b _ rfl (hb.fit (by omega)) W hW)
  (fun W hW=>iRoundDown _ n (by omega) hq hn (by omega) W hW) (fun W hW=>iNeg _ _ rfl (hr.fit (by omega)) W hW)
theorem cmp_nat (a b:Nat):cmpQ ((a:Nat):Rat) ((b:Nat):Rat)=if a<b then -1 else if b<a then 1 else 0:=by
 unfold cmpQ
 simp only[Rat.natCast_lt_natCast]
theorem sm_of_len {n k:Nat}(h:(Sn n).size≤k):Sm k n:=by
 have:=Sm.of (sn_vld n) h
 rwa [sn_dval]at this
theorem sn_take (n k:Nat)(h:0<n / 10^k):(Sn n).extract 0 ((Sn n).size-k)=Sn (n / 10^k):=by
 apply ByteArray.ext
 apply Array.ext'
 have h1:=dec_prefix n k h
 have h2:(Sn n).size=(Lib.decDigits n).length:=by rw[← sn_list,size_list]
 rw[sn_list,← h1,h2,ByteArray.data_extract,Array.toList_extract,sn_list]
 simp
theorem sn_zeros (v k:Nat)(h:0<v):Sn v++⟨(Lib.repeatL [48] k).toArray⟩=Sn (v*10^k):=by
 apply ByteArray.ext
 apply Array.ext'
 have h1:=dec_zeros v k h
 have h2:=Lib.repeatL_replicate 48 1 k
 rw[Nat.mul_one]at h2
 rw[sn_list,h1,← h2]
 simp[Sn]
theorem ofirst_n (n k:Nat)(hn:1≤n)(hk:Sm k n)(hk1:1≤k)(hk2:k≤390)(w:World)(hla:La w)
 (ih:∀ m,m<n→CV w 39 #[.string (Sn m)] (.string (Sn (isq m)))) :
 ∃ g0,AbG n g0∧Sm (k+2) g0∧CV w 74 #[.string (Sn n)] (.string (Sn g0)):=by
 have hs:=sn_size hk hk1
 obtain⟨d,hd⟩:∃ d,(Sn n).size / 4=d:=⟨_,rfl⟩
 have e1:(((Sn n).size:Nat):Int).tdiv 4=(d:Int):=by
  rw[Int.tdiv_eq_ediv_of_nonneg (Int.natCast_nonneg _)]
  omega
 by_cases h0:d=0
 · subst h0
   have h3:Sm 3 n:=sm_of_len (by omega)
   have h3':n<1000:=h3
   refine⟨32,⟨by decide,by omega⟩,?_,?_⟩
   · exact(show Sm 2 32 by unfold Sm;decide).mono (by omega)
   · have h:=ofirst_short (Sn n) w e1
     rwa [show(⟨#[51,50]⟩:ByteArray)=Sn 32 from by decide +kernel]at h
 · have hge:10^(d+d)≤n:=by
    apply Nat.le_of_not_lt
    intro hlt
    have:=sn_size (show Sm (d+d) n from hlt) (by omega)
    omega
   have hp1:0<10^d:=Nat.pow_pos (by decide)
   have hp2:0<10^(d+d):=Nat.pow_pos (by decide)
   have hpos:0<n / 10^(d+d):=Nat.div_pos hge hp2
   have hone:1<10^(d+d):=Nat.one_lt_pow (by omega) (by decide)
   have hlt:n / 10^(d+d)<n:=Nat.div_lt_self hn hone
   have hle2:10^d≤10^(d+d):=Nat.pow_le_pow_right (by decide) (by omega)
   have hx:=sn_take n (d+d) hpos
   obtain⟨s,hs'⟩:∃ s,isq (n / 10^(d+d))=s:=⟨_,rfl⟩
   have c1:=ih _ hlt
   rw[hs']at c1
   have hsp:=(isq_spec (n / 10^(d+d))).2
   rw[hs']at hsp
   have hsl:s≤n / 10^(d+d):=hs'▸isq_le _
   have hgf:=guess_first hsp
   have hprod:n / 10^(d+d)*10^d≤n:=by
    refine Nat.le_trans (Nat.mul_le_mul_left _ hle2) ?_
    exact Nat.div_mul_le_self _ _
   have hg0:(s+1)*10^d≤n+n:=by
    rw[Nat.add_mul,Nat.one_mul]
    have:=Nat.mul_le_mul_right (10^d) hsl
    omega
   have hsm:Sm (k+2) ((s+1)*10^d):=((hk.add hk).mono (by omega)).le hg0
   refine⟨(s+1)*10^d,⟨Nat.mul_pos (by omega) hp1,hgf⟩,hsm,?_⟩
   have hs1:Sm k s:=hk.le (Nat.le_trans hsl (Nat.div_le_self _ _))
   have q1:=smq_nat hs1 hk1
   have q2:=smq_nat (show Sm 1 1 by unfold Sm;decide) (Nat.le_refl 1)
   have c2:CV w 48 #[.string (Sn s),.string ⟨#[49]⟩] (.string (Sn (s+1))):=by
    have h:=oplus_n (x:=((s:Nat):Rat)) (y:=((1:Nat):Rat)) (z:=((s+1:Nat):Rat)) (by rw[Rat.natCast_add]) (q1.fit (by omega)) (q2.fit (by decide)) w hla
    rwa [← sn_sq,← sn_sq,← sn_sq,show Sn 1=⟨#[49]⟩from by decide +kernel]at h
   have c3:CV w 97 #[.string ⟨#[48]⟩,.int .i64 (d:Int)] (.string ⟨(Lib.repeatL [48] d).toArray⟩):=fun W _=>by
    have h:=Tryz.strings_Repeat ⟨#[48]⟩ d W (by omega) (by show 1*d≤_;omega)
    rw[show(⟨#[48]⟩:ByteArray).data.toList=[48]from rfl]at h
    exact h
   have hz:(⟨(Lib.repeatL [48] d).toArray⟩:ByteArray).size=d:=by rw[size_mk,Lib.repeatL_length];simp
   have hs1':(Sn (s+1)).size≤k+1:=sn_size (hs1.add (show Sm k 1 from(show Sm 1 1 by unfold Sm;decide).mono hk1)) (by omega)
   obtain⟨m,hm⟩:∃ m,m+2*d=(Sn n).size:=⟨(Sn n).size-2*d,by omega⟩
   have hx':(Sn n).extract 0 m=Sn (n / 10^(d+d)):=by
    rw[← hx]
    congr 1
    omega
   have h:=ofirst_long (Sn n) _ _ _ _ d m w c1 c2 c3 e1 (wrap_small (by omega) (by omega)) (by simpa using h0) (wrap_small (by omega) (by omega)) (by omega) (wrap_small (by omega) (by omega)) (by omega) hx' (by omega)
   rwa [sn_zeros _ _ (by omega)]at h
theorem owhole_n (k:Nat)(hk1:1≤k)(hk2:k≤390)(n:Nat):Sm k n→∀ w,La w→CV w 39 #[.string (Sn n)] (.string (Sn (isq n))):=by
 induction n using Nat.strongRecOn with
 | ind n ih =>
   intro hk w hla
   rcases Nat.eq_zero_or_pos n with rfl|hn
   · have h:=owhole_zero w
     rwa [show(⟨#[48]⟩:ByteArray)=Sn 0 from by decide +kernel]at h
   · obtain⟨g0,ha,hg,hf⟩:=ofirst_n n k hn hk hk1 hk2 w hla (fun m hm=>ih m hm (hk.le (Nat.le_of_lt hm)) w hla)
     have R:=fun g (hag:AbG n g) (hgg:g≤g0)=>oround (n:=n) (g:=g) (k:=k+2) hag.1 (hk.mono (by omega)) (hg.le hgg) (by omega) (by omega) w hla
     refine owhole_raw (Sn n) n g0 Sn (fun g=>Sq (((n:Nat):Rat) / ((g:Nat):Rat))) (fun g=>Sq (((g+n / g:Nat):Rat)*((1:Rat) / 2))) ?_ hn ha w hf (fun g a b=>(R g a b).1) (fun g a b=>(R g a b).2.1) (fun g a b=>(R g a b).2.2.1) (fun g a b=>(R g a b).2.2.2.1) (fun g a b=>(R g a b).2.2.2.2) ?_
     · have h:=sq_neq (x:=((n:Nat):Rat)) (y:=((0:Nat):Rat)) (fun e=>by have:=Rat.natCast_inj.1 e;omega)
       rwa [← sn_sq,← sn_sq,show Sn 0=⟨#[48]⟩from by decide +kernel,toList_data ⟨#[48]⟩]at h
     · intro g hag hgg
       have hsg:=hg.le hgg
       have hnx:Sm (k+3) ((g+n / g) / 2):=(hsg.add ((hk.mono (show k≤k+2 by omega)).le (Nat.div_le_self n g))).le (Nat.div_le_self _ _)
       have h:=oorder_n (cmp_nat ((g+n / g) / 2) g) ((smq_nat hnx (by omega)).fit (by omega)) ((smq_nat hsg (by omega)).fit (by omega)) w hla
       rwa [← sn_sq,← sn_sq]at h
def nearQ (x:Rat) (n:Nat):Rat:=if eX x n then (eK x n:Rat) / (n:Rat) else ((eK x n:Rat)+1 / 2) / (n:Rat)
theorem smq_half:SmQ 1 ((1:Rat) / 2):=⟨by unfold Sm;decide +kernel,by unfold Sm;decide +kernel⟩
theorem sm_eK {x:Rat}{n k:Nat}(_h0:0≤x)(hx:SmQ k x)(hn:Sm 10 n)(hk:1≤k):Sm (k+21) (eK x n):=by
 unfold eK rk
 have hp:=hx.mul ((smq_nat hn (by decide)).mul (smq_nat hn (by decide)))
 have hf:=sm_floor hp (by omega)
 have e:(x*((n:Rat)*(n:Rat))).num / ((x*((n:Rat)*(n:Rat))).den:Int)=(x*((n:Rat)*(n:Rat))).floor:=(Rat.floor_def _).symm
 rw[e]at hf
 exact(Sm.le hf (Nat.le_trans (isq_le _) (by omega))).mono (by omega)
theorem nat_ne0 {n:Nat}(h:1≤n):((n:Nat):Rat)≠0:=by
 have:=rnat_pos h
 grind
theorem sm_near {x:Rat}{n k:Nat}(h0:0≤x)(hx:SmQ k x)(hn:Sm 10 n)(hn1:1≤n)(hk:1≤k):SmQ (k+33) (nearQ x n):=by
 have h1:=smq_nat (sm_eK h0 hx hn hk) (by omega)
 have h2:=smq_nat hn (by decide)
 unfold nearQ
 split
 · exact(h1.div h2 (nat_ne0 hn1)).mono (by omega)
 · exact((h1.add smq_half).div h2 (nat_ne0 hn1)).mono (by omega)
theorem onear_n {x:Rat}{n k:Nat}(h0:0≤x)(hx:SmQ k x)(hk:1≤k)(hk2:k≤350)(hn1:1≤n)(hn2:n≤1000000000)(w:World)(hla:La w) :
 CV w 47 #[.string (Sq x),.int .i64 (n:Int)] (.string (Sq (nearQ x n))):=by
 have hn:Sm 10 n:=by
  have h:(1000000000:Nat)<10^10:=by decide
  exact Nat.lt_of_le_of_lt hn2 h
 have qn:=smq_nat hn (by decide)
 have hpp:=qn.mul qn
 have hsq:=hx.mul hpp
 have c1:CV w 32 #[.int .i64 (n:Int)] (.string (Sq ((n:Nat):Rat))):=fun W hW=>by
  have h:=itoaB (n:Int) (by omega) (by omega) W (hla.on hW)
  rwa [sz_nat,sn_sq]at h
 have c2:=otimes_n (x:=((n:Nat):Rat)) (y:=((n:Nat):Rat)) rfl (qn.fit (by decide)) (qn.fit (by decide)) w hla
 have c3:=otimes_n (x:=x) (y:=((n:Nat):Rat)*((n:Nat):Rat)) rfl (hx.fit (by omega)) (hpp.fit (by decide)) w hla
 have hpos:0≤x*(((n:Nat):Rat)*((n:Nat):Rat)):=Rat.mul_nonneg h0 (Rat.mul_nonneg (rnat_nonneg n) (rnat_nonneg n))
 have hfl:(x*(((n:Nat):Rat)*((n:Nat):Rat))).num / ((x*(((n:Nat):Rat)*((n:Nat):Rat))).den:Int)=(((x*(((n:Nat):Rat)*((n:Nat):Rat))).floor.toNat:Nat):Int):=by
  rw[← Rat.floor_def,Int.toNat_of_nonneg]
  exact Rat.le_floor_iff.2 hpos
 have c4:=ofloor_n hfl (hsq.fit (by omega)) w hla
 rw[sz_nat]at c4
 have hsf:=sm_floor hsq (by omega)
 rw[hfl,Int.natAbs_natCast]at hsf
 have c5:=owhole_n (k+(10+10)+1) (by omega) (by omega) _ hsf w hla
 have hK:=smq_nat (sm_eK h0 hx hn hk) (by omega)
 have c6:=otimes_n (x:=((eK x n:Nat):Rat)) (y:=((eK x n:Nat):Rat)) rfl (hK.fit (by omega)) (hK.fit (by omega)) w hla
 rw[show Sn (isq (x*(((n:Nat):Rat)*((n:Nat):Rat))).floor.toNat)=Sq ((eK x n:Nat):Rat) from sn_sq _]at c5
 by_cases he:eX x n=true
 · have e:((eK x n:Nat):Rat)*((eK x n:Nat):Rat)=x*(((n:Nat):Rat)*((n:Nat):Rat)):=of_decide_eq_true he
   rw[e]at c6
   have c7:=oover_n (x:=((eK x n:Nat):Rat)) (y:=((n:Nat):Rat)) rfl (hK.fit (by omega)) (qn.fit (by decide)) (nat_ne0 hn1) w hla
   unfold nearQ
   rw[if_pos he]
   exact onear_exact _ _ _ _ _ _ _ _ w c1 c2 c3 c4 c5 c6 c7
 · have e:((eK x n:Nat):Rat)*((eK x n:Nat):Rat)≠x*(((n:Nat):Rat)*((n:Nat):Rat)):=fun h=>he (decide_eq_true h)
   have c7:=oplus_n (x:=((eK x n:Nat):Rat)) (y:=(1:Rat) / 2) rfl (hK.fit (by omega)) (smq_half.fit (by decide)) w hla
   rw[ohalf]at c7
   have c8:=oover_n (x:=((eK x n:Nat):Rat)+1 / 2) (y:=((n:Nat):Rat)) rfl ((hK.add smq_half).fit (by omega)) (qn.fit (by decide)) (nat_ne0 hn1) w hla
   unfold nearQ
   rw[if_neg he]
   exact onear_half _ _ _ _ _ _ _ _ _ _ w c1 c2 c3 c4 c5 c6 c7 c8 (sq_neq e)
def rootQ (x:Rat):Rat:=((isq x.num.natAbs:Nat):Rat) / ((isq x.den:Nat):Rat)
theorem isq_den_pos (x:Rat):1≤isq x.den:=isq_pos x.den_pos
theorem sm_rootQ {x:Rat}{k:Nat}(hx:SmQ k x)(hk:1≤k):SmQ (k+k) (rootQ x):=by
 unfold rootQ
 exact(smq_nat (hx.1.le (isq_le _)) hk).div (smq_nat (hx.2.le (isq_le _)) hk) (nat_ne0 (isq_den_pos x))
theorem rquot_nonneg {a b:Nat}(h:1≤b):0≤((a:Nat):Rat) / ((b:Nat):Rat):=by
 have k:=div_le_div (a:=0) (rnat_pos h) (rnat_nonneg a)
 rwa [show(0:Rat) / ((b:Nat):Rat)=0 from by grind]at k
theorem parts_n {x:Rat}{k:Nat}(h0:0≤x)(hx:SmQ k x)(hk2:k≤390)(w:World)(hla:La w) :
 CV w 36 #[.string (Sq x)] (.tuple #[.string (Sn x.num.natAbs),.string (Sn x.den),.int .i64 0]):=fun W hW=>by
 have h:=qparts x (hx.fit (by omega)) W (hla.on hW)
 have e:x.num=((x.num.natAbs:Nat):Int):=(Int.natAbs_of_nonneg (Rat.num_nonneg.2 h0)).symm
 rw[e,sz_nat,sz_nat]at h
 exact h
theorem osign_n {x:Rat}{k:Nat}(hx:SmQ k x)(hk2:k≤900)(w:World)(hla:La w):CV w 37 #[.string (Sq x)] (.int .i64 (cmpQ x 0)):=by
 have h:=oorder_n (x:=x) (y:=0) rfl (hx.fit hk2) ((show SmQ 1 (0:Rat) from⟨by unfold Sm;decide,by unfold Sm;decide⟩).fit (by decide)) w hla
 rw[show Sq (0:Rat)=⟨#[48]⟩from by decide +kernel]at h
 exact osign_raw _ _ w h
theorem cmp0_nonneg {x:Rat}(h0:0≤x):decide (cmpQ x 0<0)=false:=by
 rcases cmpQ_cases x 0 with⟨h,e⟩|⟨h,e⟩|⟨h,e⟩
 · grind
 · rw[e];rfl
 · rw[e];rfl
theorem oExact_yes {x:Rat}{k:Nat}(h0:0≤x)(hx:SmQ k x)(hk:1≤k)(hk2:k≤390)(h:rootQ x*rootQ x=x)(w:World)(hla:La w) :
 CV w 17 #[.string (Sq x)] (.tuple #[.string (Sq (rootQ x)),.bool true,.int .i64 0]):=by
 have q1:=smq_nat (hx.1.le (isq_le _)) hk
 have q2:=smq_nat (hx.2.le (isq_le _)) hk
 have c3:=owhole_n k hk hk2 _ hx.1 w hla
 have c4:=owhole_n k hk hk2 _ hx.2 w hla
 rw[sn_sq (isq _)]at c3 c4
 have c5:=oover_n (x:=((isq x.num.natAbs:Nat):Rat)) (y:=((isq x.den:Nat):Rat)) (z:=rootQ x) rfl (q1.fit (by omega)) (q2.fit (by omega)) (nat_ne0 (isq_den_pos x)) w hla
 have hr:=sm_rootQ hx hk
 have c6:=otimes_n h (hr.fit (by omega)) (hr.fit (by omega)) w hla
 exact oexact_yes _ _ _ _ _ _ _ w (parts_n h0 hx hk2 w hla) (osign_n hx (by omega) w hla) c3 c4 c5 c6 (cmp0_nonneg h0)
theorem oExact_not {x:Rat}{k:Nat}(h0:0≤x)(hx:SmQ k x)(hk:1≤k)(hk2:k≤390)(h:rootQ x*rootQ x≠x)(w:World)(hla:La w) :
 CV w 17 #[.string (Sq x)] (.tuple #[.string ⟨#[]⟩,.bool false,.int .i64 0]):=by
 have q1:=smq_nat (hx.1.le (isq_le _)) hk
 have q2:=smq_nat (hx.2.le (isq_le _)) hk
 have c3:=owhole_n k hk hk2 _ hx.1 w hla
 have c4:=owhole_n k hk hk2 _ hx.2 w hla
 rw[sn_sq (isq _)]at c3 c4
 have c5:=oover_n (x:=((isq x.num.natAbs:Nat):Rat)) (y:=((isq x.den:Nat):Rat)) (z:=rootQ x) rfl (q1.fit (by omega)) (q2.fit (by omega)) (nat_ne0 (isq_den_pos x)) w hla
 have hr:=sm_rootQ hx hk
 have c6:=otimes_n (x:=rootQ x) (y:=rootQ x) rfl (hr.fit (by omega)) (hr.fit (by omega)) w hla
 exact oexact_not _ _ _ _ _ _ _ _ w (parts_n h0 hx hk2 w hla) (osign_n hx (by omega) w hla) c3 c4 c5 c6 (cmp0_nonneg h0) (sq_neq h)
theorem oExact_neg {x:Rat}{k:Nat}(h0:x<0)(hx:SmQ k x)(hk2:k≤390)(w:World)(hla:La w) :
 CV w 17 #[.string (Sq x)] (.tuple #[.string ⟨#[]⟩,.bool false,.int .i64 2]):=by
 have h:=osign_n hx (by omega) w hla
 rw[cmpQ_lt h0]at h
 exact oexact_neg _ _ _ w (fun W hW=>qparts x (hx.fit (by omega)) W (hla.on hW)) h
theorem rootQ_sq (x:Rat)(h0:0≤x):rootQ (x*x)=x:=by
 unfold rootQ
 rw[(sq_parts x).1,(sq_parts x).2,Int.natAbs_mul,isq_sq,isq_sq]
 have e:(x.num.natAbs:Int)=x.num:=Int.natAbs_of_nonneg (Rat.num_nonneg.2 h0)
 have e2:((x.num.natAbs:Nat):Rat)=((x.num:Int):Rat):=by rw[← e];rfl
 rw[e2]
 exact(Rat.divInt_eq_div x.num x.den).symm.trans (Rat.num_divInt_den x)
end Go.Proofs.YtggoeabhbkbadaaGreatDoor
