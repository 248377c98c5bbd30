/- Texts of this proof, one behind the other. -/
import Derived.Test.YtmigpoiajkihhaaGreatDoorMz1q
import Derived.Test.YtmigpoiajkihhaaGreatDoorMz42q
import Derived.Test.YtmigpoiajkihhaaGreatDoorMz39q
import Derived.Test.YtmigpoiajkihhaaGreatDoorMz48q
import Derived.Test.YtmigpoiajkihhaaGreatDoorSjb
import Derived.Test.YtmigpoiajkihhaaGreatDoorMz13q
import Derived.Test.YtmigpoiajkihhaaGreatDoorSq
import Derived.Test.YtmigpoiajkihhaaGreatDoorSu
import Derived.Test.YtmigpoiajkihhaaGreatDoorMz29q
import Derived.Test.YtmigpoiajkihhaaGreatDoorMz12q
import Derived.Test.YtmigpoiajkihhaaGreatDoorMz32q
/- garboardref03: Int, Neg, Inv, Sign, Mul, Add, Sub, Div, Cmp, To: walks over the contracts of what they call. -/
open Go.Lib (hid)
namespace Go.Proofs.YtmigpoiajkihhaaGreatDoor
set_option maxRecDepth 100000
set_option maxHeartbeats 20000000
open Go.RowKit Go.Gb
theorem qTo_one (n:Int) (en:Nat) (sn:ByteArray) (p1:Option Addr) (c1:Nat) (s1:Option Addr) (d1:Nat) (w:World) (h1:∀ p1 c1 W,RN W (.slice p1 (zlen n) c1) n.natAbs→CR 56 #[.agg #[.bool (zneg n),.slice p1 (zlen n) c1]] W (.string sn)) (h2:∀ s1 d1 W,RN W (.slice s1 (nlen en) d1) en→CR 65 #[.slice s1 (nlen en) d1] W (.string ⟨#[49]⟩)) (r1:RN w (.slice p1 (zlen n) c1) n.natAbs) (t1:RN w (.slice s1 (nlen en) d1) en) :
 CR 39 #[.agg #[.bool (zneg n),.slice p1 (zlen n) c1,.slice s1 (nlen en) d1]] w (.string sn):=by
 have C1:=hid h1
 have C2:=hid h2
 have R1:=hid r1
 have T1:=hid t1
 clear h1 h2 r1 t1
 go_enter Tryz.func39,Tryz.ntmps39
 go_upto_region 1 with fail
 refine wp_boxes w [(#[.bool (zneg n),.slice p1 (zlen n) c1,.slice s1 (nlen en) d1],55)] rfl ?_
 rintro W0 ⟨k1,hb⟩
 have HB0:=hid (show Below w.heap.size w W0 from hb)
 have R1:=hid (R1.out.below HB0.out)
 have T1:=hid (T1.out.below HB0.out)
 have K1:=hid k1
 clear k1 hb
 have dK10:=K1.out.cell (i:=0) rfl
 have dK11:=K1.out.cell (i:=1) rfl
 go_wp2_with fail
 with_reducible refine (C1.out _ _ _ R1.out).mono ?_
 rintro e W1 ⟨rfl,hb⟩
 clear dK10 dK11
 have K1:=hid (K1.out.below hb)
 have T1:=hid (T1.out.below hb)
 have HB1:=hid (HB0.out.trans (hb.mono HB0.out.size))
 clear hb
 have dK12:=K1.out.cell (i:=2) rfl
 go_wp2_with fail
 with_reducible refine (C2.out _ _ _ T1.out).mono ?_
 rintro e W2 ⟨rfl,hb⟩
 clear dK12
 have HB2:=hid (HB1.out.trans (hb.mono HB1.out.size))
 clear hb
 go_wp2
 exact bodyPost_ret (v:=.string sn) (by simp [results,Tryz.results39,go_sem]) rfl ⟨rfl,HB2.out⟩
theorem qTo_more (n:Int) (en:Nat) (sn sd res:ByteArray) (hsd:(sd.toList == [49])=false) (hr:sn ++ (⟨#[47]⟩ ++ sd)=res) (hl1:sn.size≤10000) (hl2:sd.size≤10000) (p1:Option Addr) (c1:Nat) (s1:Option Addr) (d1:Nat) (w:World) (h1:∀ p1 c1 W,RN W (.slice p1 (zlen n) c1) n.natAbs→CR 56 #[.agg #[.bool (zneg n),.slice p1 (zlen n) c1]] W (.string sn)) (h2:∀ s1 d1 W,RN W (.slice s1 (nlen en) d1) en→CR 65 #[.slice s1 (nlen en) d1] W (.string sd)) (r1:RN w (.slice p1 (zlen n) c1) n.natAbs) (t1:RN w (.slice s1 (nlen en) d1) en) :
 CR 39 #[.agg #[.bool (zneg n),.slice p1 (zlen n) c1,.slice s1 (nlen en) d1]] w (.string res):=by
 have C1:=hid h1
 have C2:=hid h2
 have R1:=hid r1
 have T1:=hid t1
 have HR:=hid hr
 have HL1:=hid hl1
 have HL2:=hid hl2
 have k0:¬ sd.toList=[49]:=by simpa using hsd
 clear hr hl1 hl2
 clear h1 h2 r1 t1
 go_enter Tryz.func39,Tryz.ntmps39
 go_upto_region 1 with fail
 refine wp_boxes w [(#[.bool (zneg n),.slice p1 (zlen n) c1,.slice s1 (nlen en) d1],55)] rfl ?_
 rintro W0 ⟨k1,hb⟩
 have HB0:=hid (show Below w.heap.size w W0 from hb)
 have R1:=hid (R1.out.below HB0.out)
 have T1:=hid (T1.out.below HB0.out)
 have K1:=hid k1
 clear k1 hb
 have dK10:=K1.out.cell (i:=0) rfl
 have dK11:=K1.out.cell (i:=1) rfl
 go_wp2_with fail
 with_reducible refine (C1.out _ _ _ R1.out).mono ?_
 rintro e W1 ⟨rfl,hb⟩
 clear dK10 dK11
 have K1:=hid (K1.out.below hb)
 have T1:=hid (T1.out.below hb)
 have HB1:=hid (HB0.out.trans (hb.mono HB0.out.size))
 clear hb
 have dK12:=K1.out.cell (i:=2) rfl
 go_wp2_with fail
 with_reducible refine (C2.out _ _ _ T1.out).mono ?_
 rintro e W2 ⟨rfl,hb⟩
 clear dK12
 have HB2:=hid (HB1.out.trans (hb.mono HB1.out.size))
 clear hb
 have ha1:=run_string_add_sum (P:=Tryz.prog) W2 ⟨#[47]⟩ sd (by have:=HL2.out;have e:(⟨#[47]⟩:ByteArray).size=1:=rfl;omega)
 have ha2:=run_string_add_sum (P:=Tryz.prog) W2 sn (⟨#[47]⟩ ++ sd) (by have:=HL1.out;have:=HL2.out;have e:(⟨#[47]⟩:ByteArray).size=1:=rfl;rw [ByteArray.size_append];omega)
 rw [HR.out] at ha2
 go_wp2
 exact bodyPost_ret (v:=.string res) (by simp [results,Tryz.results39,go_sem]) rfl ⟨rfl,HB2.out⟩
end Go.Proofs.YtmigpoiajkihhaaGreatDoor
/- garboardref03's arithmetic in numbers. -/
namespace Go.Proofs.YtmigpoiajkihhaaGreatDoor
open Go.RowKit Go.Gb
def LQ (q:Rat):Prop:=zlen q.num≤10000∧nlen q.den≤10000
theorem z_abs (z:Int):z=if zneg z then -(z.natAbs:Int) else (z.natAbs:Int):=by
 unfold zneg
 by_cases h:z<0
 · rw [decide_eq_true h,if_pos rfl];omega
 · rw [decide_eq_false h,if_neg (by simp)];omega
theorem z_div (z:Int) (g:Nat) (hg:g∣z.natAbs):z / (g:Int)=if zneg z then -((z.natAbs / g:Nat):Int) else ((z.natAbs / g:Nat):Int):=by
 have hd:(g:Int)∣(z.natAbs:Int):=Int.natCast_dvd_natCast.2 hg
 unfold zneg
 by_cases h:z<0
 · rw [decide_eq_true h,if_pos rfl]
   have e:z = -(z.natAbs:Int):=by omega
   conv=>lhs;rw [e]
   rw [Int.neg_ediv_of_dvd hd,Int.natCast_ediv]
 · rw [decide_eq_false h,if_neg (by simp),Int.natCast_ediv]
   congr 1
   omega
theorem z_mul (z:Int) (n:Nat):z * (n:Int)=if zneg z then -((z.natAbs * n:Nat):Int) else ((z.natAbs * n:Nat):Int):=by
 rw [Int.natCast_mul]
 unfold zneg
 by_cases h:z<0
 · rw [decide_eq_true h,if_pos rfl,← Int.neg_mul];congr 1;omega
 · rw [decide_eq_false h,if_neg (by simp)];congr 1;omega
theorem add_same (x y:Rat) (h:x.den=y.den):x+y=mkRat (x.num+y.num) x.den:=by
 rw [add_small,← h,← Int.add_mul,Rat.mkRat_mul_right x.den_nz]
theorem zlen_mul (a b:Int):zlen (a * b)≤zlen a+zlen b:=by
 unfold zlen nlen;rw [Int.natAbs_mul];exact digs_mul_len _ _
theorem nlen_mul (a b:Nat):nlen (a * b)≤nlen a+nlen b:=digs_mul_len a b
theorem zlen_add {a b:Int} {K:Nat} (ha:zlen a≤K) (hb:zlen b≤K):zlen (a+b)≤K+1 :=
 Nat.le_trans (nlen_mono (Int.natAbs_add_le a b)) (digs_add_len (a:=a.natAbs) (b:=b.natAbs) ha hb)
theorem zlen_nat (n:Nat):zlen (n:Int)=nlen n:=by unfold zlen;rw [Int.natAbs_natCast]
theorem sLowest (z:Int) (dn:Nat) (q:Rat) (hq:mkRat z dn=q) (hd:dn≠0) (hz:zlen z≤50000) (hl:nlen dn≤50000) (p1:Option Addr) (c1:Nat) (s2:Option Addr) (d2:Nat) (W:World) (r1:RN W (.slice p1 (zlen z) c1) z.natAbs) (t2:RN W (.slice s2 (nlen dn) d2) dn) :
 Calls Tryz.prog 40 #[.agg #[.bool (zneg z),.slice p1 (zlen z) c1],.slice s2 (nlen dn) d2] W fun e w'=>∃ p c s d,e=.returned (.agg #[.bool (zneg q.num),.slice p (zlen q.num) c,.slice s (nlen q.den) d])∧RN w' (.slice p (zlen q.num) c) q.num.natAbs∧RN w' (.slice s (nlen q.den) d) q.den∧Below W.heap.size W w':=by
 obtain ⟨hn,he⟩:=mk_parts z dn hd
 rw [hq] at hn he
 obtain ⟨g,hg⟩:∃ g,g=Nat.gcd z.natAbs dn:=⟨_,rfl⟩
 rw [← hg] at hn he
 by_cases g1:g=1
 · rw [g1] at hn he
   have e1:q.num=z:=by rw [hn];simp
   have e2:q.den=dn:=by rw [he];simp
   rw [e1,e2]
   exact lowest_one z dn hz hl p1 c1 s2 d2 (by rw [← hg,g1]) W r1 t2
 · have g0:g≠0:=by rw [hg];exact Nat.ne_of_gt (Nat.gcd_pos_of_pos_right _ (by omega))
   have hy:=z_div z g (by rw [hg];exact Nat.gcd_dvd_left _ _)
   rw [hn,he]
   by_cases gl:nlen g=1
   · exact lowest_word z dn hz hl p1 c1 s2 d2 g _ _ _ _ _ hg.symm g0 g1 gl rfl rfl rfl rfl hy W r1 t2
   · exact lowest_long z dn hz hl p1 c1 s2 d2 g _ _ _ _ _ hg.symm g0 gl rfl rfl rfl rfl hy W r1 t2
theorem sQInt (k:Int) (q:Rat) (n:Nat) (hk:(n:Int)=k) (h1:n≤1000000) (hn:q.num=k) (he:q.den=1)  (W:World)  :
 Calls Tryz.prog 84 #[.int .i64 k] W fun e w'=>∃ p c s d,e=.returned (.agg #[.bool (zneg q.num),.slice p (zlen q.num) c,.slice s (nlen q.den) d])∧RN w' (.slice p (zlen q.num) c) q.num.natAbs∧RN w' (.slice s (nlen q.den) d) q.den∧Below W.heap.size W w':=by
 refine qInt_raw k q.num q.den W (fun W=>?_) (fun W=>?_)
 · rw [hn];exact sSmall k n hk (by omega) (by omega) W
 · rw [he];exact cSmallL 1 1 rfl (by decide) W
theorem sQMul (x y q:Rat) (hq:x * y=q) (hx:LQ x) (hy:LQ y) (p1:Option Addr) (c1:Nat) (s1:Option Addr) (d1:Nat) (p2:Option Addr) (c2:Nat) (s2:Option Addr) (d2:Nat) (W:World) (r1:RN W (.slice p1 (zlen x.num) c1) x.num.natAbs) (t1:RN W (.slice s1 (nlen x.den) d1) x.den) (r2:RN W (.slice p2 (zlen y.num) c2) y.num.natAbs) (t2:RN W (.slice s2 (nlen y.den) d2) y.den) :
 Calls Tryz.prog 52 #[.agg #[.bool (zneg x.num),.slice p1 (zlen x.num) c1,.slice s1 (nlen x.den) d1],.agg #[.bool (zneg y.num),.slice p2 (zlen y.num) c2,.slice s2 (nlen y.den) d2]] W fun e w'=>∃ p c s d,e=.returned (.agg #[.bool (zneg q.num),.slice p (zlen q.num) c,.slice s (nlen q.den) d])∧RN w' (.slice p (zlen q.num) c) q.num.natAbs∧RN w' (.slice s (nlen q.den) d) q.den∧Below W.heap.size W w':=by
 obtain ⟨a1,a2⟩:=hx
 obtain ⟨b1,b2⟩:=hy
 have l1:=zlen_mul x.num y.num
 have l2:=nlen_mul x.den y.den
 exact qMul_raw x.num y.num (x.num * y.num) q.num x.den y.den (x.den * y.den) q.den p1 c1 s1 d1 p2 c2 s2 d2 W (fun p1 c1 p2 c2 W h1 h2=>sTimes _ _ _ rfl (by omega) (by omega) p1 c1 p2 c2 W h1 h2)
  (fun s1 d1 s2 d2 W h1 h2=>cTimes _ _ _ _ (by omega) (by omega) W h1 h2)
  (fun p1 c1 s2 d2 W h1 h2=>sLowest _ _ q (by rw [← hq,mul_small]) (Nat.mul_ne_zero x.den_nz y.den_nz) (by omega) (by omega) p1 c1 s2 d2 W h1 h2) r1 t1 r2 t2
theorem sQAdd (x y q:Rat) (hq:x+y=q) (hx:LQ x) (hy:LQ y) (p1:Option Addr) (c1:Nat) (s1:Option Addr) (d1:Nat) (p2:Option Addr) (c2:Nat) (s2:Option Addr) (d2:Nat) (W:World) (r1:RN W (.slice p1 (zlen x.num) c1) x.num.natAbs) (t1:RN W (.slice s1 (nlen x.den) d1) x.den) (r2:RN W (.slice p2 (zlen y.num) c2) y.num.natAbs) (t2:RN W (.slice s2 (nlen y.den) d2) y.den) :
 Calls Tryz.prog 50 #[.agg #[.bool (zneg x.num),.slice p1 (zlen x.num) c1,.slice s1 (nlen x.den) d1],.agg #[.bool (zneg y.num),.slice p2 (zlen y.num) c2,.slice s2 (nlen y.den) d2]] W fun e w'=>∃ p c s d,e=.returned (.agg #[.bool (zneg q.num),.slice p (zlen q.num) c,.slice s (nlen q.den) d])∧RN w' (.slice p (zlen q.num) c) q.num.natAbs∧RN w' (.slice s (nlen q.den) d) q.den∧Below W.heap.size W w':=by
 obtain ⟨a1,a2⟩:=hx
 obtain ⟨b1,b2⟩:=hy
 by_cases he:x.den=y.den
 · have l1:=zlen_add a1 b1
   exact qAdd_same x.num y.num (x.num+y.num) q.num x.den y.den q.den p1 c1 s1 d1 p2 c2 s2 d2 W (fun s1 d1 s2 d2 W h1 h2=>by
        have h:=cCmp _ _ x.den y.den (by omega) W h1 h2
        rwa [show cmpN x.den y.den=0 by rw [he];unfold cmpN;simp] at h)
    (fun p1 c1 p2 c2 W h1 h2=>sPlus _ _ _ rfl (by omega) (by omega) p1 c1 p2 c2 W h1 h2)
    (fun p1 c1 s2 d2 W h1 h2=>sLowest _ _ q (by rw [← hq,add_same x y he]) x.den_nz (by omega) (by omega) p1 c1 s2 d2 W h1 h2) r1 t1 r2 t2
 · have l1:=zlen_mul x.num (y.den:Int)
   have l2:=zlen_mul y.num (x.den:Int)
   have l3:=nlen_mul x.den y.den
   have l4:=nlen_mul x.num.natAbs y.den
   have l5:=nlen_mul y.num.natAbs x.den
   rw [zlen_nat] at l1 l2
   have l6:=zlen_add (a:=x.num * (y.den:Int)) (b:=y.num * (x.den:Int)) (K:=20000) (by omega) (by omega)
   have z1:zlen x.num=nlen x.num.natAbs:=rfl
   have z2:zlen y.num=nlen y.num.natAbs:=rfl
   exact qAdd_other x.num y.num (x.num * (y.den:Int)) (y.num * (x.den:Int)) (x.num * (y.den:Int)+y.num * (x.den:Int)) q.num (cmpN x.den y.den) x.den y.den (x.den * y.den) q.den (x.num.natAbs * y.den) (y.num.natAbs * x.den) (fun e=>he (by unfold cmpN at e;split at e <;> first|(split at e <;> first|omega|simp at e)|simp at e))
    p1 c1 s1 d1 p2 c2 s2 d2 W (fun s1 d1 s2 d2 W h1 h2=>cCmp _ _ x.den y.den (by omega) W h1 h2)
    (fun p1 c1 s2 d2 W h1 h2=>cTimes _ _ _ _ (by omega) (by omega) W h1 h2) (fun s2 d2 W h=>cMake _ _ _ _ (z_mul x.num y.den) (by omega) W h)
    (fun p1 c1 s2 d2 W h1 h2=>cTimes _ _ _ _ (by omega) (by omega) W h1 h2) (fun s2 d2 W h=>cMake _ _ _ _ (z_mul y.num x.den) (by omega) W h)
    (fun p1 c1 p2 c2 W h1 h2=>sPlus _ _ _ rfl (by omega) (by omega) p1 c1 p2 c2 W h1 h2)
    (fun s1 d1 s2 d2 W h1 h2=>cTimes _ _ _ _ (by omega) (by omega) W h1 h2)
    (fun p1 c1 s2 d2 W h1 h2=>sLowest _ _ q (by rw [← hq,add_small]) (Nat.mul_ne_zero x.den_nz y.den_nz) (by omega) (by omega) p1 c1 s2 d2 W h1 h2) r1 t1 r2 t2
theorem sQTo (q:Rat) (s:ByteArray) (hs:Sq q=s) (hq:SmQ 9000 q) (p1:Option Addr) (c1:Nat) (s1:Option Addr) (d1:Nat) (W:World) (r1:RN W (.slice p1 (zlen q.num) c1) q.num.natAbs) (t1:RN W (.slice s1 (nlen q.den) d1) q.den) :
 CR 39 #[.agg #[.bool (zneg q.num),.slice p1 (zlen q.num) c1,.slice s1 (nlen q.den) d1]] W (.string s):=by
 have l1:zlen q.num≤9000:=sm_digs hq.1 (by decide)
 have l2:nlen q.den≤9000:=sm_digs hq.2 (by decide)
 have z1:(Sn q.num.natAbs).size≤9000:=sn_size hq.1 (by decide)
 have z2:(Sn q.den).size≤9000:=sn_size hq.2 (by decide)
 have z3:(Sz q.num).size≤9001:=sz_size hq.1 (by decide)
 have h1:=fun p c W h=>sTo q.num _ rfl (Nat.le_trans l1 (by decide)) (by omega) p c W h
 have h2:=fun (s:Option Addr) (d:Nat) W h=>RTo_any (.slice s (nlen q.den) d) q.den (Nat.le_trans l2 (by decide)) W h
 subst hs
 by_cases hd:q.den=1
 · unfold Sq
   rw [if_pos hd]
   exact qTo_one q.num q.den (Sz q.num) p1 c1 s1 d1 W h1 (fun s d W h=>by
    have:=h2 s d W h
    rwa [hd,show Sn 1=⟨#[49]⟩ by decide +kernel,← hd] at this) r1 t1
 · unfold Sq
   rw [if_neg hd]
   refine qTo_more q.num q.den (Sz q.num) (Sn q.den) _ ?_ ?_ (by omega) (by omega) p1 c1 s1 d1 W h1 h2 r1 t1
   · rw [beq_eq_false_iff_ne]
     intro e
     apply hd
     have e2:Sn q.den=Sn 1:=by
        apply ByteArray.ext;apply Array.ext'
        rw [toList_data] at e
        rw [e];decide +kernel
     exact sn_inj e2
   · apply ByteArray.ext;apply Array.ext'
     simp [Sn]
end Go.Proofs.YtmigpoiajkihhaaGreatDoor
/- garboardref03.From of any text, in numbers. -/
namespace Go.Proofs.YtmigpoiajkihhaaGreatDoor
open Go.RowKit Go.Gb
theorem quiet_below {f:FuncId} {args:Array Value} {w:World} {v:Value} (h:Calls Tryz.prog f args w fun e w'=>e=.returned v∧w=w'):Calls Tryz.prog f args w fun e w'=>e=.returned v∧Below w.heap.size w w':=by
 refine h.mono ?_
 rintro e w' ⟨rfl,rfl⟩
 exact ⟨rfl,Below.refl _ _⟩
theorem at_list {s:ByteArray} {k:Nat} (h:k<s.size):s[k]=s.data.toList[k]'(by rw [size_list];exact h):=(get_list s k h).symm
theorem sSplit_no (s:ByteArray) (hn:(47:UInt8) ∉ s.data.toList) (hs:s.size≤1000) (W:World) :
 CR 43 #[.string s] W (.tuple #[.string s,.string ⟨#[49]⟩,.bool false]) :=
 quiet_below (split_no s (fun k h e=>hn (by rw [← e,at_list h];exact List.getElem_mem _)) (by unfold maxLen;omega) W)
theorem sSplit_yes (s:ByteArray) (x y:List UInt8) (hl:s.data.toList=x ++ 47 :: y) (hn:(47:UInt8) ∉ x) (hs:s.size≤1000) (W:World) :
 CR 43 #[.string s] W (.tuple #[.string ⟨x.toArray⟩,.string ⟨y.toArray⟩,.bool true]):=by
 have hsz:s.size=x.length+(y.length+1):=by rw [← size_list,hl];simp
 have hxs:(⟨x.toArray⟩:ByteArray).size=x.length:=by show x.toArray.size=_;simp
 refine split_yes s ⟨x.toArray⟩ ⟨y.toArray⟩ (by omega) ?_ ?_ ?_ ?_ (by unfold maxLen;omega) W
 · intro k hk h2 e
   apply hn
   rw [← e,at_list h2]
   simp only [hl]
   rw [List.getElem_append_left (by omega)]
   exact List.getElem_mem _
 · rw [at_list (by omega)]
   simp only [hl,hxs]
   rw [List.getElem_append_right (Nat.le_refl _)]
   simp
 · apply ByteArray.ext;apply Array.ext'
   rw [extract_list,hl,hxs];simp
 · apply ByteArray.ext;apply Array.ext'
   rw [extract_list,hl,hxs,hsz];simp
   exact List.take_of_length_le (by omega)
theorem sFrom (q:Rat) (hq:SmQ 900 q) (hs:(Sq q).size≤1000) (W:World) :
 Calls Tryz.prog 44 #[.string (Sq q)] W fun e w'=>∃ p c s d,e=.returned (.tuple #[.agg #[.bool (zneg q.num),.slice p (zlen q.num) c,.slice s (nlen q.den) d],.bool true])∧RN w' (.slice p (zlen q.num) c) q.num.natAbs∧RN w' (.slice s (nlen q.den) d) q.den∧Below W.heap.size W w':=by
 have fn:FitZ q.num:=by unfold FitZ Fit;exact Sm.mono hq.1 (by decide)
 have z1:(Sz q.num).size≤901:=sz_size hq.1 (by decide)
 have z2:(Sn q.den).size≤900:=sn_size hq.2 (by decide)
 have hR:=fun W=>rz_sh (zRead q.num fn W)
 by_cases hd:q.den=1
 · rw [sq_int hd] at hs ⊢
   rw [hd]
   refine from_int (Sz q.num) (Sz q.num) ⟨#[49]⟩ q.num 1 W (fun W=>sSplit_no _ (sz_no 47 (by decide) (by decide) _) hs W) (fun W=>quiet_below (zrValid q.num (by omega) W)) (fun W=>quiet_below ?_) hR (fun W=>?_)
   · exact RValid_any ⟨#[49]⟩ W (by decide)
   · exact own_rn (RFrom_any ⟨#[49]⟩ (by decide) (by decide) W)
 · have hn0:q.num≠0:=by
    intro e
    have:=q.reduced
    rw [e] at this
    unfold Nat.Coprime at this
    rw [Int.natAbs_zero,Nat.gcd_zero_left] at this
    exact hd this
   have hd1:1<q.den:=by have:=q.den_pos;omega
   have lz:zlen q.num≤900:=sm_digs hq.1 (by decide)
   have ln:nlen q.den≤900:=sm_digs hq.2 (by decide)
   have e0:Sn q.den=⟨(Lib.decDigits q.den).toArray⟩:=rfl
   have e1:(⟨(Sz q.num).data.toList.toArray⟩:ByteArray)=Sz q.num:=by simp
   have hsp:=fun W=>sSplit_yes (Sq q) _ _ (sq_frac_list hd) (sz_no 47 (by decide) (by decide) _) hs W
   rw [e1,← e0] at hsp
   refine from_frac (Sq q) (Sz q.num) (Sn q.den) q.num 1 q.num.sign q.den 1 1 (by decide) (fun e=>hn0 (Int.sign_eq_zero_iff_zero.1 e)) W hsp (fun W=>quiet_below (zrValid q.num (by omega) W)) (fun W=>quiet_below ?_) hR (fun W=>?_)
    (fun W=>cSmallL 1 1 rfl (by decide) W) (fun s1 d1 s2 d2 W h1 h2=>?_) (fun p c W h=>sSignum q.num _ rfl p c W h) (fun p1 c1 s2 d2 W h1 h2=>?_) (fun s1 d1 s2 d2 W h1 h2=>?_)
   · have h:=RValid_any (Sn q.den) W (by unfold maxLen;omega)
     rwa [sn_vld] at h
   · have h:=own_rn (RFrom_any (Sn q.den) (by rw [sn_list];exact dec_all _) (by omega) W)
     rwa [sn_dval] at h
   · have h:=cCmp (.slice s1 (nlen q.den) d1) (.slice s2 (nlen 1) d2) q.den 1 (by omega) W h1 h2
     rwa [show cmpN q.den 1=1 by unfold cmpN;rw [if_neg (by omega),if_pos hd1]] at h
   · exact cCommon _ _ _ _ 1 q.reduced (Nat.le_trans lz (by decide)) (by omega) W h1 h2
   · have h:=cCmp (.slice s1 (nlen 1) d1) (.slice s2 (nlen 1) d2) 1 1 (by rw [nlen_one];decide) W h1 h2
     rwa [show cmpN 1 1=0 by decide] at h
theorem sFrom_no (a:ByteArray) (hv:vldQ a.data.toList=false) (hs:a.size≤900) (W:World) :
 Calls Tryz.prog 44 #[.string a] W fun e w'=>∃ p c s d,e=.returned (.tuple #[.agg #[.bool (zneg (0:Rat).num),.slice p (zlen (0:Rat).num) c,.slice s (nlen (0:Rat).den) d],.bool false])∧RN w' (.slice p (zlen (0:Rat).num) c) (0:Rat).num.natAbs∧RN w' (.slice s (nlen (0:Rat).den) d) (0:Rat).den∧Below W.heap.size W w':=by
 have hI:=fun W=>sQInt 0 0 0 rfl (by decide) rfl rfl W
 rcases cut_parts 47 a.data.toList with ⟨h47,e⟩|⟨x,y,h47,el,e⟩
 · unfold vldQ at hv
   rw [e] at hv
   simp only [Bool.false_eq_true,if_false] at hv
   exact from_badP a a ⟨#[49]⟩ _ _ false W (fun W=>sSplit_no a h47 (by omega) W) (fun W=>quiet_below (zrValid_no a hv (by omega) W)) hI
 · have hlen:x.length+(y.length+1)=a.size:=by rw [← size_list,el];simp
   have hsp:=fun W=>sSplit_yes a x y el h47 (by omega) W
   have sx:(⟨x.toArray⟩:ByteArray).size≤1000:=by show x.toArray.size≤1000;simp;omega
   have sy:(⟨y.toArray⟩:ByteArray).size≤900:=by show y.toArray.size≤900;simp;omega
   unfold vldQ at hv
   rw [e] at hv
   simp only [if_true] at hv
   cases hx:vldZ x with
   | false=>exact from_badP a ⟨x.toArray⟩ ⟨y.toArray⟩ _ _ true W hsp (fun W=>quiet_below (zrValid_no ⟨x.toArray⟩ (by simpa using hx) sx W)) hI
   | true =>
     obtain ⟨z,hz⟩:∃ z,z=zval x:=⟨_,rfl⟩
     have ex:(⟨x.toArray⟩:ByteArray)=Sz z:=by rw [hz];have:=sz_of (a:=⟨x.toArray⟩) (by simpa using hx);simpa using this
     have sx2:(Sz z).size≤900:=by rw [← ex];show x.toArray.size≤900;simp;omega
     rw [ex] at hsp sx
     have hVx:=fun W=>quiet_below (zrValid z sx W)
     cases hy:vld y with
     | false =>
       refine from_badD a (Sz z) ⟨y.toArray⟩ _ _ true W hsp hVx (fun W=>quiet_below ?_) hI
       have h:=RValid_any ⟨y.toArray⟩ W (by unfold maxLen;omega)
       rwa [show vld (⟨y.toArray⟩:ByteArray).data.toList=false by simpa using hy] at h
     | true =>
       obtain ⟨n,hn⟩:∃ n,n=dval y:=⟨_,rfl⟩
       have ey:(⟨y.toArray⟩:ByteArray)=Sn n:=by rw [hn];have:=sn_of (a:=⟨y.toArray⟩) (by simpa using hy);simpa using this
       have yl:y=Lib.decDigits n:=by
        have:=congrArg (fun b:ByteArray=>b.data.toList) ey
        simpa [sn_list] using this
       rw [ey] at hsp sy
       have hVy:CQ 80 #[.string (Sn n)] (.bool true):=fun W=>quiet_below (by
        have h:=RValid_any (Sn n) W (by unfold maxLen;omega)
        rwa [sn_vld] at h)
       have kz:Sm 900 z.natAbs:=smz_of' sx2
       have kn:Sm 900 n:=by have:=Sm.of (a:=Sn n) (sn_vld n) sy;rwa [sn_dval] at this
       have lz:zlen z≤900:=sm_digs kz (by decide)
       have ln:nlen n≤900:=sm_digs kn (by decide)
       have hR:=fun W=>rz_sh (zRead z (by unfold FitZ Fit;exact Sm.mono kz (by decide)) W)
       have hF:∀ W,CN 70 #[.string (Sn n)] W n:=fun W=>by
        have h:=own_rn (RFrom_any (Sn n) (by rw [sn_list];exact dec_all _) (by omega) W)
        rwa [sn_dval] at h
       have hO:=fun W=>cSmallL 1 1 rfl (by decide) W
       have hC:=fun (s1:Option Addr) (d1:Nat) (s2:Option Addr) (d2:Nat) W h1 h2=>cCmp (.slice s1 (nlen n) d1) (.slice s2 (nlen 1) d2) n 1 (by omega) W h1 h2
       have hS:=fun p c W h=>sSignum z _ rfl p c W h
       by_cases n1:n≤1
       · exact from_small a (Sz z) (Sn n) z (cmpN n 1) _ n 1 _ (by unfold cmpN;split <;> first|(split <;> omega)|omega) W hsp hVx hVy hR hF hO hC hI
       · have hk:0<cmpN n 1:=by unfold cmpN;rw [if_neg (by omega),if_pos (by omega)];decide
         by_cases z0:z=0
         · subst z0
           exact from_zero a (Sz 0) (Sn n) 0 (cmpN n 1) _ n 1 _ hk W hsp hVx hVy hR hF hO hC hS hI
         · have hsg:z.sign≠0:=fun e=>z0 (Int.sign_eq_zero_iff_zero.1 e)
           have hG:=fun (p1:Option Addr) (c1:Nat) (s2:Option Addr) (d2:Nat) W h1 h2=>cCommon (.slice p1 (zlen z) c1) (.slice s2 (nlen n) d2) z.natAbs n _ rfl (Nat.le_trans lz (by decide)) (by omega) W h1 h2
           have lg:nlen (Nat.gcd z.natAbs n)≤900:=Nat.le_trans (nlen_mono (Nat.gcd_le_right _ (by omega))) ln
           by_cases g1:Nat.gcd z.natAbs n=1
           · exfalso
             have:vldP x y=true:=by
              unfold vldP
              rw [hx,yl,vldZ_nat,zval_nat,← hz]
              have e1:(Lib.decDigits n == [49])=false:=by
                rw [beq_eq_false_iff_ne]
                intro e
                have e2:Sn n=Sn 1:=by
                 apply ByteArray.ext;apply Array.ext'
                 rw [sn_list,e];decide +kernel
                have:=sn_inj e2
                omega
              rw [e1]
              simp [g1]
              omega
             rw [this] at hv
             cases hv
           · refine from_shared a (Sz z) (Sn n) z (cmpN n 1) (cmpN (Nat.gcd z.natAbs n) 1) _ _ n 1 (Nat.gcd z.natAbs n) _ hk hsg ?_ W hsp hVx hVy hR hF hO hC hS hG (fun s1 d1 s2 d2 W h1 h2=>cCmp _ _ _ _ (by omega) W h1 h2) hI
             unfold cmpN
             split
             · decide
             · split
               · decide
               · omega
end Go.Proofs.YtmigpoiajkihhaaGreatDoor
/- garboardref03: Both, Compare, Sum, Difference, Product, Quotient in numbers. -/
namespace Go.Proofs.YtmigpoiajkihhaaGreatDoor
open Go.RowKit Go.Gb
theorem smq_lq {q:Rat} {k:Nat} (h:SmQ k q) (h0:0<k) (hk:k≤10000):LQ q:=⟨Nat.le_trans (sm_digs h.1 h0) hk,Nat.le_trans (sm_digs h.2 h0) hk⟩
theorem sFrom_any (a:ByteArray) (ha:a.size≤900):∃ q:Rat,∀ W,Calls Tryz.prog 44 #[.string a] W fun e w'=>∃ p c s d,e=.returned (.tuple #[.agg #[.bool (zneg q.num),.slice p (zlen q.num) c,.slice s (nlen q.den) d],.bool (vldQ a.data.toList)])∧RN w' (.slice p (zlen q.num) c) q.num.natAbs∧RN w' (.slice s (nlen q.den) d) q.den∧Below W.heap.size W w':=by
 cases h:vldQ a.data.toList with
 | false=>exact ⟨0,fun W=>sFrom_no a h ha W⟩
 | true =>
   have e:=sq_of h
   obtain ⟨q,hq⟩:∃ q,q=qval a.data.toList:=⟨_,rfl⟩
   rw [← hq] at e
   subst e
   exact ⟨q,fun W=>sFrom q (smq_of ha (by decide)) (by omega) W⟩
end Go.Proofs.YtmigpoiajkihhaaGreatDoor
/- garboardref03: Valid, Parts, Make, Whole, Floor, simplest, Simplest in numbers. -/
namespace Go.Proofs.YtmigpoiajkihhaaGreatDoor
open Go.RowKit Go.Gb
theorem srValid (a:ByteArray) (ha:a.size≤900) (W:World) :
 CR 14 #[.string a] W (.bool (vldQ a.data.toList)):=by
 obtain ⟨q,h⟩:=sFrom_any a ha
 exact rvalid_raw a q.num q.den _ W h
theorem sWhole (x:Rat) (z:Int) (hz:x.num / (x.den:Int)=z) (hx:LQ x) (p1:Option Addr) (c1:Nat) (s1:Option Addr) (d1:Nat) (W:World) (r1:RN W (.slice p1 (zlen x.num) c1) x.num.natAbs) (t1:RN W (.slice s1 (nlen x.den) d1) x.den) :
 CZ 57 #[.agg #[.bool (zneg x.num),.slice p1 (zlen x.num) c1,.slice s1 (nlen x.den) d1]] W z :=
 whole_raw x.num (x.den:Int) z (x.num % (x.den:Int)) x.den p1 c1 s1 d1 W (fun s d W h=>cMake false _ x.den _ (by simp) (Nat.le_trans hx.2 (by decide)) W h) (fun p1 c1 p2 c2 W h1 h2=>sOver x.num (x.den:Int) z _ hz rfl (by have:=x.den_pos;omega) (Nat.le_trans hx.1 (by decide)) (by rw [zlen_nat];exact Nat.le_trans hx.2 (by decide)) p1 c1 p2 c2 W h1 h2) r1 t1
theorem fl_sm {k:Nat} {x:Rat} (hx:Sm k x.num.natAbs):Sm k (x.num / (x.den:Int)).natAbs:=Sm.le hx (Int.natAbs_ediv_le_natAbs _ _)
theorem srFloor (x:Rat) (hx:SmQ 900 x) (sx:(Sq x).size≤1000) (W:World) :
 CR 26 #[.string (Sq x)] W (.tuple #[.string (Sz (x.num / (x.den:Int))),.int .i64 0]):=by
 have hs:=fl_sm hx.1
 have l1:zlen (x.num / (x.den:Int))≤900:=sm_digs hs (by decide)
 have z2:(Sn (x.num / (x.den:Int)).natAbs).size≤900:=sn_size hs (by decide)
 exact floor_yes (Sq x) _ x.num (x.num / (x.den:Int)) x.den W (fun W=>sFrom x hx sx W) (fun p1 c1 s1 d1 W h1 h2=>sWhole x _ rfl (smq_lq hx (by decide) (by decide)) p1 c1 s1 d1 W h1 h2) (fun p c W h=>sTo _ _ rfl (by omega) (by omega) p c W h)
theorem srFloor_no (a:ByteArray) (h:vldQ a.data.toList=false) (ha:a.size≤900) (W:World) :
 CR 26 #[.string a] W (.tuple #[.string ⟨#[]⟩,.int .i64 1]):=by
 exact floor_no a (0:Rat).num (0:Rat).den W (fun W=>sFrom_no a h ha W)
end Go.Proofs.YtmigpoiajkihhaaGreatDoor
/- rational.Decimal of any number; Parse of a decimal text. -/
namespace Go.Proofs.YtmigpoiajkihhaaGreatDoor
set_option maxRecDepth 100000
set_option maxHeartbeats 20000000
open Go.RowKit Go.Gb
theorem tens_of (n:Nat) (h1:48≤n) (h2:n≤57):UInt8.ofNat n ∈ tens:=by
 have hc:n=48∨n=49∨n=50∨n=51∨n=52∨n=53∨n=54∨n=55∨n=56∨n=57:=by omega
 rcases hc with rfl|rfl|rfl|rfl|rfl|rfl|rfl|rfl|rfl|rfl <;> decide
def decB (z:Int) (n:Nat):ByteArray:=if n=0 then Sz z else if z<0 then ⟨(45 :: pointL (Lib.decDigits z.natAbs) n).toArray⟩ else pointB (Lib.decDigits z.natAbs) n
theorem minus_point (l:List UInt8) (n:Nat):(⟨#[45]⟩ ++ pointB l n:ByteArray)=⟨(45 :: pointL l n).toArray⟩:=by
 apply ByteArray.ext
 apply Array.ext'
 simp [pointB]
theorem place_any (z:Int) (n:Nat) (hn:n≤64) (hz:(Sz z).size≤3000) (w:World) :
 CR 58 #[.string (Sz z),.int .i64 (n:Int)] w (.string (decB z n)):=by
 rcases Nat.eq_zero_or_pos n with h0|h0
 · subst h0
   unfold decB
   rw [if_pos rfl]
   exact place_zero _ w
 · unfold decB
   rw [if_neg (by omega)]
   by_cases hs:z<0
   · obtain ⟨m,hm,rfl⟩:∃ m:Nat,m≠0∧z = -(m:Int):=⟨z.natAbs,by omega,by omega⟩
     rw [if_pos hs,Int.natAbs_neg,Int.natAbs_natCast,← minus_point]
     rw [sz_neg hm] at hz ⊢
     exact place_neg _ ⟨(Lib.decDigits m).toArray⟩ n h0 hn (by rw [size_mk] at hz ⊢;simp at hz;omega) w (fun W=>cut_neg _ W)
   · obtain ⟨m,rfl⟩:∃ m:Nat,z=(m:Int):=⟨z.natAbs,by omega⟩
     rw [if_neg hs,Int.natAbs_natCast]
     rw [sz_nat] at hz ⊢
     have h:=place_pos (Sn m) (Sn m) n h0 hn hz w (fun W=>cut_not _ (by
        intro t ht
        obtain ⟨c,u,hc,h45⟩:=head_dig (n:=m)
        rw [sn_list,hc] at ht
        injection ht with h1 h2
        exact h45 h1) W)
     rwa [sn_list] at h
theorem near_le (x d:Int) (hd:0<d):(nearZ x d).natAbs≤x.natAbs * 2+d.natAbs:=by
 unfold nearZ
 have h1:((x.natAbs:Int) * 2+d) / (d * 2)≤(x.natAbs:Int) * 2+d:=Int.ediv_le_self _ (by omega)
 have h2:0≤((x.natAbs:Int) * 2+d) / (d * 2):=Int.ediv_nonneg (by omega) (by omega)
 split <;> omega
theorem near_sm {k:Nat} {x d:Int} (hd:0<d) (hx:Sm k x.natAbs) (hk:Sm k d.natAbs):Sm (k+1+1) (nearZ x d).natAbs:=by
 refine Sm.le ?_ (near_le x d hd)
 exact Sm.add (hx.mul (show Sm 1 2 by simp [Sm])) (hk.mono (by omega))
theorem qDecimal (x:Rat) (n:Nat) (hn:n≤64) (hx:FitQ x) (w:World) (hl:La w) :
 CR 27 #[.string (Sq x),.int .i64 (n:Int)] w (.tuple #[.string (decB (nearZ (x.num * ((10 ^ n:Nat):Int)) (x.den:Int)) n),.int .i64 0]):=by
 have hp:Sm 65 ((10 ^ n:Nat):Int).natAbs:=sm_pow10 n 65 (by omega)
 have hm:Sm 965 (x.num * ((10 ^ n:Nat):Int)).natAbs:=by rw [Int.natAbs_mul];exact (Sm.mul (k:=900) hx.1 hp).mono (by decide)
 have hd0:(0:Int)<(x.den:Int):=by have:=x.den_nz;omega
 have hd:Sm 965 (x.den:Int).natAbs:=by rw [Int.natAbs_natCast];exact Sm.mono (k:=900) hx.2 (by decide)
 have h1:=fun W hW=>fread_yes x hx W hW
 unfold Fv at h1
 have h2:=fun W=>rpow10 n (by omega) W
 have h3:=fun W hW=>rtimes x.num ((10 ^ n:Nat):Int) _ rfl hx.numL (FitL.of hp (by decide)) (FitL.of hm (by decide)) W hW
 have h4:=fun W hW=>rnearest (x.num * ((10 ^ n:Nat):Int)) (x.den:Int) hd0 (hm.mono (by decide)) (hd.mono (by decide)) W hW
 have hsz:(Sz (nearZ (x.num * ((10 ^ n:Nat):Int)) (x.den:Int))).size≤3000:=by
  have:=sz_size (near_sm hd0 hm hd) (by decide)
  omega
 have h5:=fun W=>place_any (nearZ (x.num * ((10 ^ n:Nat):Int)) (x.den:Int)) n hn hsz W
 exact decimal_raw _ _ _ _ _ _ _ n (by rw [decide_eq_false_iff_not];omega) (by rw [decide_eq_false_iff_not];omega) w hl h1 h2 h3 h4 h5
theorem decimal_no (a:ByteArray) (N:Int) (h:vldQ a.data.toList=false) (ha:a.size≤900) (w:World) (hl:La w) :
 CR 27 #[.string a,.int .i64 N] w (.tuple #[.string ⟨#[]⟩,.int .i64 1]):=by
 have HR:=Lib.hid (fread_no a h ha w hl)
 clear h ha hl
 go_enter Tryz.func27,Tryz.ntmps27
 go_wp2_with fail
 refine HR.out.mono ?_
 rintro e w1 ⟨⟨n,d,rfl⟩,hb⟩
 have HB:=Lib.hid (hb.alloc hb.size (.cells #[.string n,.string d] 44))
 clear hb
 go_wp2
 go_ret2
 exact ⟨rfl,HB.out⟩
theorem parse_valid (s:ByteArray) (w:World) (h1:CR 13 #[.string s] w (.bool true)) :
 CR 29 #[.string s] w (.tuple #[.string s,.int .i64 0]):=by
 have C1:=Lib.hid h1
 clear h1
 go_enter Tryz.func29,Tryz.ntmps29
 go_wp2_with fail
 refine C1.out.mono ?_
 rintro e w1 ⟨rfl,hb⟩
 go_wp2
 go_ret2
 exact ⟨rfl,hb⟩
theorem vldQ_no46 {l:List UInt8} (h46:46 ∈ l) (h47:47 ∉ l):vldQ l=false:=by
 unfold vldQ
 rw [cut_miss 47 l h47]
 cases hv:vldZ l with
 | false=>rfl
 | true =>
   have h:=szl_of hv
   rw [← h] at h46
   exact absurd h46 (sz_no 46 (by decide) (by decide) _)
theorem nil_no {l:List UInt8} (h:l.length≠0):((⟨l.toArray⟩:ByteArray).toList == [])=false:=by
 rw [toList_data,mk_list,beq_eq_false_iff_ne]
 rintro rfl
 exact h rfl
end Go.Proofs.YtmigpoiajkihhaaGreatDoor
