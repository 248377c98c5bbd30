/- Texts of this proof, one behind the other. -/
import Derived.Test.YtmigpoiajkihhaaGreatDoorSi
import Derived.Test.YtmigpoiajkihhaaGreatDoorSja
import Derived.Test.YtmigpoiajkihhaaGreatDoorMz48q
import Derived.Test.YtmigpoiajkihhaaGreatDoorSl
set_option maxRecDepth 100000
set_option maxHeartbeats 20000000
open Go.Lib (hid)
namespace Go.Proofs.YtmigpoiajkihhaaGreatDoor
open Go.RowKit Go.Gb
theorem z2H (n:Int)(en:Nat)(sn:ByteArray)(p1:Option Addr)(c1:Nat)(s1:Option Addr)(d1:Nat)(w:World)(h1:∀ p1 c1 W,RN W (.slice p1 (aa n) c1) n.natAbs→CR 56 #[.agg #[.bool (ag n),.slice p1 (aa n) c1]] W (.string sn))(h2:∀ s1 d1 W,RN W (.slice s1 (ae en) d1) en→CR 65 #[.slice s1 (ae en) d1] W (.string ⟨#[49]⟩))(r1:RN w (.slice p1 (aa n) c1) n.natAbs)(t1:RN w (.slice s1 (ae en) d1) en) :
 CR 39 #[.agg #[.bool (ag n),.slice p1 (aa n) c1,.slice s1 (ae en) d1]] w (.string sn):=by
 have C1:=hid h1
 have C2:=hid h2
 have R1:=hid r1
 have T1:=hid t1
 clear h1 h2 r1 t1
 go_enter Tryz.func39,Tryz.ntmps39
 go_upto_region 1 with fail
 refine aK w [(#[.bool (ag n),.slice p1 (aa n) c1,.slice s1 (ae en) d1],55)] rfl ?_
 rintro W0 ⟨k1,hb⟩
 have HB0:=hid (show Below w.heap.size w W0 from hb)
 have R1:=hid (R1.out.below HB0.out)
 have T1:=hid (T1.out.below HB0.out)
 have K1:=hid k1
 clear k1 hb
 have dK10:=K1.out.cell (i:=0) rfl
 have dK11:=K1.out.cell (i:=1) rfl
 go_wp2_with fail
 with_reducible refine(C1.out _ _ _ R1.out).mono ?_
 rintro e W1 ⟨rfl,hb⟩
 clear dK10 dK11
 have K1:=hid (K1.out.below hb)
 have T1:=hid (T1.out.below hb)
 have HB1:=hbt HB0 hb
 clear hb
 have dK12:=K1.out.cell (i:=2) rfl
 go_wp2_with fail
 with_reducible refine(C2.out _ _ _ T1.out).mono ?_
 rintro e W2 ⟨rfl,hb⟩
 clear dK12
 have HB2:=hbt HB1 hb
 clear hb
 go_wp2
 exact bodyPost_ret (v:=.string sn) (by simp[results,Tryz.results39,go_sem]) rfl ⟨rfl,HB2.out⟩
theorem z15 (n:Int)(en:Nat)(sn sd res:ByteArray)(hsd:(sd.toList==[49])=false)(hr:sn++(⟨#[47]⟩++sd)=res)(hl1:sn.size≤10000)(hl2:sd.size≤10000)(p1:Option Addr)(c1:Nat)(s1:Option Addr)(d1:Nat)(w:World)(h1:∀ p1 c1 W,RN W (.slice p1 (aa n) c1) n.natAbs→CR 56 #[.agg #[.bool (ag n),.slice p1 (aa n) c1]] W (.string sn))(h2:∀ s1 d1 W,RN W (.slice s1 (ae en) d1) en→CR 65 #[.slice s1 (ae en) d1] W (.string sd))(r1:RN w (.slice p1 (aa n) c1) n.natAbs)(t1:RN w (.slice s1 (ae en) d1) en) :
 CR 39 #[.agg #[.bool (ag n),.slice p1 (aa n) c1,.slice s1 (ae en) d1]] w (.string res):=by
 have C1:=hid h1
 have C2:=hid h2
 have R1:=hid r1
 have T1:=hid t1
 have HR:=hid hr
 have HL1:=hid hl1
 have HL2:=hid hl2
 have k0:¬ sd.toList=[49]:=by simpa using hsd
 clear hr hl1 hl2 h1 h2 r1 t1
 go_enter Tryz.func39,Tryz.ntmps39
 go_upto_region 1 with fail
 refine aK w [(#[.bool (ag n),.slice p1 (aa n) c1,.slice s1 (ae en) d1],55)] rfl ?_
 rintro W0 ⟨k1,hb⟩
 have HB0:=hid (show Below w.heap.size w W0 from hb)
 have R1:=hid (R1.out.below HB0.out)
 have T1:=hid (T1.out.below HB0.out)
 have K1:=hid k1
 clear k1 hb
 have dK10:=K1.out.cell (i:=0) rfl
 have dK11:=K1.out.cell (i:=1) rfl
 go_wp2_with fail
 with_reducible refine(C1.out _ _ _ R1.out).mono ?_
 rintro e W1 ⟨rfl,hb⟩
 clear dK10 dK11
 have K1:=hid (K1.out.below hb)
 have T1:=hid (T1.out.below hb)
 have HB1:=hbt HB0 hb
 clear hb
 have dK12:=K1.out.cell (i:=2) rfl
 go_wp2_with fail
 with_reducible refine(C2.out _ _ _ T1.out).mono ?_
 rintro e W2 ⟨rfl,hb⟩
 clear dK12
 have HB2:=hbt HB1 hb
 clear hb
 have ha1:=run_string_add_sum (P:=Tryz.prog) W2 ⟨#[47]⟩ sd (by have:=HL2.out;have e:(⟨#[47]⟩:ByteArray).size=1:=rfl;omega)
 have ha2:=run_string_add_sum (P:=Tryz.prog) W2 sn (⟨#[47]⟩++sd) (by have:=HL1.out;have:=HL2.out;have e:(⟨#[47]⟩:ByteArray).size=1:=rfl;rw[ByteArray.size_append];omega)
 rw[HR.out]at ha2
 go_wp2
 exact bodyPost_ret (v:=.string res) (by simp[results,Tryz.results39,go_sem]) rfl ⟨rfl,HB2.out⟩
def LQ (q:Rat):Prop:=aa q.num≤10000∧ae q.den≤10000
theorem z_abs (z:Int):z=if ag z then -(z.natAbs:Int) else (z.natAbs:Int):=by
 unfold ag
 by_cases h:z<0
 · rw[decide_eq_true h,if_pos rfl];omega
 · rw[decide_eq_false h,if_neg (by simp)];omega
theorem z4f (z:Int)(g:Nat)(hg:g∣z.natAbs):z / (g:Int)=if ag z then -((z.natAbs / g:Nat):Int) else ((z.natAbs / g:Nat):Int):=by
 have hd:(g:Int)∣(z.natAbs:Int):=Int.natCast_dvd_natCast.2 hg
 unfold ag
 by_cases h:z<0
 · rw[decide_eq_true h,if_pos rfl]
   have e:z = -(z.natAbs:Int):=by omega
   conv=>lhs;rw[e]
   rw[Int.neg_ediv_of_dvd hd,Int.natCast_ediv]
 · rw[decide_eq_false h,if_neg (by simp),Int.natCast_ediv]
   congr 1
   omega
theorem z0r (z:Int)(n:Nat):z*(n:Int)=if ag z then -((z.natAbs*n:Nat):Int) else ((z.natAbs*n:Nat):Int):=by
 rw[Int.natCast_mul]
 unfold ag
 by_cases h:z<0
 · rw[decide_eq_true h,if_pos rfl,← Int.neg_mul];congr 1;omega
 · rw[decide_eq_false h,if_neg (by simp)];congr 1;omega
theorem z1M (x y:Rat)(h:x.den=y.den):x+y=mkRat (x.num+y.num) x.den:=by
 rw[iC,← h,← Int.add_mul,Rat.mkRat_mul_right x.den_nz]
theorem jO (a b:Int):aa (a*b)≤aa a+aa b:=by
 unfold aa ae;rw[Int.natAbs_mul];exact gV _ _
theorem jq (a b:Nat):ae (a*b)≤ae a+ae b:=gV a b
theorem vT {a b:Int}{K:Nat}(ha:aa a≤K)(hb:aa b≤K):aa (a+b)≤K+1 :=
 Nat.le_trans (fo (Int.natAbs_add_le a b)) (fC (a:=a.natAbs) (b:=b.natAbs) ha hb)
theorem oP (n:Nat):aa (n:Int)=ae n:=by unfold aa;rw[Int.natAbs_natCast]
theorem uC (z:Int)(dn:Nat)(q:Rat)(hq:mkRat z dn=q)(hd:dn≠0)(hz:aa z≤50000)(hl:ae dn≤50000)(p1:Option Addr)(c1:Nat)(s2:Option Addr)(d2:Nat)(W:World)(r1:RN W (.slice p1 (aa z) c1) z.natAbs)(t2:RN W (.slice s2 (ae dn) d2) dn) :
 Calls Tryz.prog 40 #[.agg #[.bool (ag z),.slice p1 (aa z) c1],.slice s2 (ae dn) d2] W fun e w'=>∃ p c s d,e=.returned (.agg #[.bool (ag q.num),.slice p (aa q.num) c,.slice s (ae q.den) d])∧RN w' (.slice p (aa q.num) c) q.num.natAbs∧RN w' (.slice s (ae q.den) d) q.den∧Below W.heap.size W w':=by
 obtain⟨hn,he⟩:=iI z dn hd
 rw[hq]at hn he
 obtain⟨g,hg⟩:∃ g,g=Nat.gcd z.natAbs dn:=⟨_,rfl⟩
 rw[← hg]at hn he
 by_cases g1:g=1
 · rw[g1]at hn he
   have e1:q.num=z:=by rw[hn];simp
   have e2:q.den=dn:=by rw[he];simp
   rw[e1,e2]
   exact xR z dn hz hl p1 c1 s2 d2 (by rw[← hg,g1]) W r1 t2
 · have g0:g≠0:=by rw[hg];exact Nat.ne_of_gt (Nat.gcd_pos_of_pos_right _ (by omega))
   have hy:=z4f z g (by rw[hg];exact Nat.gcd_dvd_left _ _)
   rw[hn,he]
   by_cases gl:ae g=1
   · exact uJ z dn hz hl p1 c1 s2 d2 g _ _ _ _ _ hg.symm g0 g1 gl rfl rfl rfl rfl hy W r1 t2
   · exact uK z dn hz hl p1 c1 s2 d2 g _ _ _ _ _ hg.symm g0 gl rfl rfl rfl rfl hy W r1 t2
theorem z3z (k:Int)(q:Rat)(n:Nat)(hk:(n:Int)=k)(h1:n≤1000000)(hn:q.num=k)(he:q.den=1)  (W:World)  :
 Calls Tryz.prog 84 #[.int .i64 k] W fun e w'=>∃ p c s d,e=.returned (.agg #[.bool (ag q.num),.slice p (aa q.num) c,.slice s (ae q.den) d])∧RN w' (.slice p (aa q.num) c) q.num.natAbs∧RN w' (.slice s (ae q.den) d) q.den∧Below W.heap.size W w':=by
 refine z1b k q.num q.den W (fun W=>?_) (fun W=>?_)
 · rw[hn];exact z3w k n hk (by omega) (by omega) W
 · rw[he];exact lC 1 1 rfl (by decide) W
theorem z0L (x q:Rat)(hq : -x=q)(hx:LQ x)(p1:Option Addr)(c1:Nat)(s1:Option Addr)(d1:Nat)(W:World)(r1:RN W (.slice p1 (aa x.num) c1) x.num.natAbs)(t1:RN W (.slice s1 (ae x.den) d1) x.den) :
 Calls Tryz.prog 75 #[.agg #[.bool (ag x.num),.slice p1 (aa x.num) c1,.slice s1 (ae x.den) d1]] W fun e w'=>∃ p c s d,e=.returned (.agg #[.bool (ag q.num),.slice p (aa q.num) c,.slice s (ae q.den) d])∧RN w' (.slice p (aa q.num) c) q.num.natAbs∧RN w' (.slice s (ae q.den) d) q.den∧Below W.heap.size W w':=by
 subst hq
 exact z18 x.num (-x).num x.den p1 c1 s1 d1 W (fun p c W h=>yV x.num _ rfl (Nat.le_trans hx.1 (by decide)) p c W h) r1 t1
theorem z2y (x q:Rat)(hq:x⁻¹=q)(h0:x≠0)(hx:LQ x)(p1:Option Addr)(c1:Nat)(s1:Option Addr)(d1:Nat)(W:World)(r1:RN W (.slice p1 (aa x.num) c1) x.num.natAbs)(t1:RN W (.slice s1 (ae x.den) d1) x.den) :
 Calls Tryz.prog 102 #[.agg #[.bool (ag x.num),.slice p1 (aa x.num) c1,.slice s1 (ae x.den) d1]] W fun e w'=>∃ p c s d,e=.returned (.agg #[.bool (ag q.num),.slice p (aa q.num) c,.slice s (ae q.den) d])∧RN w' (.slice p (aa q.num) c) q.num.natAbs∧RN w' (.slice s (ae q.den) d) q.den∧Below W.heap.size W w':=by
 have hm:q.num=(if ag x.num then -(x.den:Int) else (x.den:Int))∧q.den=x.num.natAbs:=by
  rw[← hq]
  have hn0:x.num≠0:=fun e=>h0 (Rat.num_eq_zero.1 e)
  unfold ag
  rcases Int.lt_trichotomy x.num 0 with h|h|h
  · obtain⟨e1,e2⟩:=qx h
    rw[decide_eq_true h,if_pos rfl]
    exact⟨e1,by omega⟩
  · exact absurd h hn0
  · obtain⟨e1,e2⟩:=kZ h
    rw[decide_eq_false (by omega),if_neg (by simp)]
    exact⟨e1,by omega⟩
 obtain⟨e1,e2⟩:=hm
 rw[e2]
 exact z1a x.num q.num x.den p1 c1 s1 d1 W (fun s d W h=>iM (ag x.num) _ x.den q.num e1 (Nat.le_trans hx.2 (by decide)) W h) r1 t1
theorem mI (x:Rat)(s:Int)(hs:x.num.sign=s)(p1:Option Addr)(c1:Nat)(s1:Option Addr)(d1:Nat)(W:World)(r1:RN W (.slice p1 (aa x.num) c1) x.num.natAbs)(t1:RN W (.slice s1 (ae x.den) d1) x.den) :
 CR 53 #[.agg #[.bool (ag x.num),.slice p1 (aa x.num) c1,.slice s1 (ae x.den) d1]] W (.int .i64 s):=by
 exact zo x.num s x.den p1 c1 s1 d1 W (fun p c W h=>uA x.num s hs p c W h) r1 t1
theorem sQMul (x y q:Rat)(hq:x*y=q)(hx:LQ x)(hy:LQ y)(p1:Option Addr)(c1:Nat)(s1:Option Addr)(d1:Nat)(p2:Option Addr)(c2:Nat)(s2:Option Addr)(d2:Nat)(W:World)(r1:RN W (.slice p1 (aa x.num) c1) x.num.natAbs)(t1:RN W (.slice s1 (ae x.den) d1) x.den)(r2:RN W (.slice p2 (aa y.num) c2) y.num.natAbs)(t2:RN W (.slice s2 (ae y.den) d2) y.den) :
 Calls Tryz.prog 52 #[.agg #[.bool (ag x.num),.slice p1 (aa x.num) c1,.slice s1 (ae x.den) d1],.agg #[.bool (ag y.num),.slice p2 (aa y.num) c2,.slice s2 (ae y.den) d2]] W fun e w'=>∃ p c s d,e=.returned (.agg #[.bool (ag q.num),.slice p (aa q.num) c,.slice s (ae q.den) d])∧RN w' (.slice p (aa q.num) c) q.num.natAbs∧RN w' (.slice s (ae q.den) d) q.den∧Below W.heap.size W w':=by
 obtain⟨a1,a2⟩:=hx
 obtain⟨b1,b2⟩:=hy
 have l1:=jO x.num y.num
 have l2:=jq x.den y.den
 exact z19 x.num y.num (x.num*y.num) q.num x.den y.den (x.den*y.den) q.den p1 c1 s1 d1 p2 c2 s2 d2 W (fun p1 c1 p2 c2 W h1 h2=>z3v _ _ _ rfl (by omega) (by omega) p1 c1 p2 c2 W h1 h2)
  (fun s1 d1 s2 d2 W h1 h2=>nH _ _ _ _ (by omega) (by omega) W h1 h2)
  (fun p1 c1 s2 d2 W h1 h2=>uC _ _ q (by rw[← hq,kg]) (Nat.mul_ne_zero x.den_nz y.den_nz) (by omega) (by omega) p1 c1 s2 d2 W h1 h2) r1 t1 r2 t2
theorem z2z (x y q:Rat)(hq:x+y=q)(hx:LQ x)(hy:LQ y)(p1:Option Addr)(c1:Nat)(s1:Option Addr)(d1:Nat)(p2:Option Addr)(c2:Nat)(s2:Option Addr)(d2:Nat)(W:World)(r1:RN W (.slice p1 (aa x.num) c1) x.num.natAbs)(t1:RN W (.slice s1 (ae x.den) d1) x.den)(r2:RN W (.slice p2 (aa y.num) c2) y.num.natAbs)(t2:RN W (.slice s2 (ae y.den) d2) y.den) :
 Calls Tryz.prog 50 #[.agg #[.bool (ag x.num),.slice p1 (aa x.num) c1,.slice s1 (ae x.den) d1],.agg #[.bool (ag y.num),.slice p2 (aa y.num) c2,.slice s2 (ae y.den) d2]] W fun e w'=>∃ p c s d,e=.returned (.agg #[.bool (ag q.num),.slice p (aa q.num) c,.slice s (ae q.den) d])∧RN w' (.slice p (aa q.num) c) q.num.natAbs∧RN w' (.slice s (ae q.den) d) q.den∧Below W.heap.size W w':=by
 obtain⟨a1,a2⟩:=hx
 obtain⟨b1,b2⟩:=hy
 by_cases he:x.den=y.den
 · have l1:=vT a1 b1
   exact zu x.num y.num (x.num+y.num) q.num x.den y.den q.den p1 c1 s1 d1 p2 c2 s2 d2 W (fun s1 d1 s2 d2 W h1 h2=>by
        have h:=cCmp _ _ x.den y.den (by omega) W h1 h2
        rwa [show cmpN x.den y.den=0 by rw[he];unfold cmpN;simp]at h)
    (fun p1 c1 p2 c2 W h1 h2=>z3A _ _ _ rfl (by omega) (by omega) p1 c1 p2 c2 W h1 h2)
    (fun p1 c1 s2 d2 W h1 h2=>uC _ _ q (by rw[← hq,z1M x y he]) x.den_nz (by omega) (by omega) p1 c1 s2 d2 W h1 h2) r1 t1 r2 t2
 · have l1:=jO x.num (y.den:Int)
   have l2:=jO y.num (x.den:Int)
   have l3:=jq x.den y.den
   have l4:=jq x.num.natAbs y.den
   have l5:=jq y.num.natAbs x.den
   rw[oP]at l1 l2
   have l6:=vT (a:=x.num*(y.den:Int)) (b:=y.num*(x.den:Int)) (K:=20000) (by omega) (by omega)
   have z1:aa x.num=ae x.num.natAbs:=rfl
   have z2:aa y.num=ae y.num.natAbs:=rfl
   exact xK x.num y.num (x.num*(y.den:Int)) (y.num*(x.den:Int)) (x.num*(y.den:Int)+y.num*(x.den:Int)) q.num (cmpN x.den y.den) x.den y.den (x.den*y.den) q.den (x.num.natAbs*y.den) (y.num.natAbs*x.den) (fun e=>he (by unfold cmpN at e;split at e<;>first|(split at e<;>first|omega|simp at e)|simp at e))
    p1 c1 s1 d1 p2 c2 s2 d2 W (fun s1 d1 s2 d2 W h1 h2=>cCmp _ _ x.den y.den (by omega) W h1 h2)
    (fun p1 c1 s2 d2 W h1 h2=>nH _ _ _ _ (by omega) (by omega) W h1 h2) (fun s2 d2 W h=>iM _ _ _ _ (z0r x.num y.den) (by omega) W h)
    (fun p1 c1 s2 d2 W h1 h2=>nH _ _ _ _ (by omega) (by omega) W h1 h2) (fun s2 d2 W h=>iM _ _ _ _ (z0r y.num x.den) (by omega) W h)
    (fun p1 c1 p2 c2 W h1 h2=>z3A _ _ _ rfl (by omega) (by omega) p1 c1 p2 c2 W h1 h2)
    (fun s1 d1 s2 d2 W h1 h2=>nH _ _ _ _ (by omega) (by omega) W h1 h2)
    (fun p1 c1 s2 d2 W h1 h2=>uC _ _ q (by rw[← hq,iC]) (Nat.mul_ne_zero x.den_nz y.den_nz) (by omega) (by omega) p1 c1 s2 d2 W h1 h2) r1 t1 r2 t2
theorem z3y (x y q:Rat)(hq:x-y=q)(hx:LQ x)(hy:LQ y)(p1:Option Addr)(c1:Nat)(s1:Option Addr)(d1:Nat)(p2:Option Addr)(c2:Nat)(s2:Option Addr)(d2:Nat)(W:World)(r1:RN W (.slice p1 (aa x.num) c1) x.num.natAbs)(t1:RN W (.slice s1 (ae x.den) d1) x.den)(r2:RN W (.slice p2 (aa y.num) c2) y.num.natAbs)(t2:RN W (.slice s2 (ae y.den) d2) y.den) :
 Calls Tryz.prog 51 #[.agg #[.bool (ag x.num),.slice p1 (aa x.num) c1,.slice s1 (ae x.den) d1],.agg #[.bool (ag y.num),.slice p2 (aa y.num) c2,.slice s2 (ae y.den) d2]] W fun e w'=>∃ p c s d,e=.returned (.agg #[.bool (ag q.num),.slice p (aa q.num) c,.slice s (ae q.den) d])∧RN w' (.slice p (aa q.num) c) q.num.natAbs∧RN w' (.slice s (ae q.den) d) q.den∧Below W.heap.size W w':=by
 have hny:LQ (-y):=⟨by have:=hy.1;unfold aa at *;rwa [show(-y).num = -y.num from rfl,Int.natAbs_neg],hy.2⟩
 exact z16 x.num y.num (-y).num q.num x.den y.den (-y).den q.den p1 c1 s1 d1 p2 c2 s2 d2 W (fun p1 c1 s1 d1 W h1 h2=>z0L y _ rfl hy p1 c1 s1 d1 W h1 h2)
  (fun p1 c1 s1 d1 p2 c2 s2 d2 W h1 h2 h3 h4=>z2z x (-y) q (by rw[← hq,Rat.sub_eq_add_neg]) hx hny p1 c1 s1 d1 p2 c2 s2 d2 W h1 h2 h3 h4) r1 t1 r2 t2
theorem z0b (x y:Rat):(x.num.sign<y.num.sign→cmpQ x y = -1)∧(y.num.sign<x.num.sign→cmpQ x y=1):=by
 have hx:=x.den_pos
 have hy:=y.den_pos
 rw[iB x y _ _ rfl rfl]
 have key:∀ (a:Int) (n:Nat),0<n→(a*(n:Int)).sign=a.sign:=fun a n hn=>by rw[Int.sign_mul,Int.sign_natCast_of_ne_zero (by omega),Int.mul_one]
 have k1:=key x.num y.den hy
 have k2:=key y.num x.den hx
 generalize x.num*(y.den:Int)=a at *
 generalize y.num*(x.den:Int)=b at *
 rw[← k1,← k2]
 have ha:=Int.sign_trichotomy a
 have lt:a.sign<b.sign→a<b:=by
  intro h
  rcases Int.lt_trichotomy a 0 with h1|h1|h1<;>rcases Int.lt_trichotomy b 0 with h2|h2|h2 <;>
   first|omega|(rw[Int.sign_eq_neg_one_of_neg h1,Int.sign_eq_neg_one_of_neg h2]at h;omega)|(rw[Int.sign_eq_one_of_pos h1,Int.sign_eq_one_of_pos h2]at h;omega)|(rw[Int.sign_eq_one_of_pos h1,Int.sign_eq_neg_one_of_neg h2]at h;omega)|(subst h1;rw[Int.sign_zero,Int.sign_eq_neg_one_of_neg h2]at h;omega)|(subst h2;rw[Int.sign_zero,Int.sign_eq_one_of_pos h1]at h;omega)|(subst h1;subst h2;omega)
 have gt:b.sign<a.sign→b<a:=by
  intro h
  rcases Int.lt_trichotomy a 0 with h1|h1|h1<;>rcases Int.lt_trichotomy b 0 with h2|h2|h2 <;>
   first|omega|(rw[Int.sign_eq_neg_one_of_neg h1,Int.sign_eq_neg_one_of_neg h2]at h;omega)|(rw[Int.sign_eq_one_of_pos h1,Int.sign_eq_one_of_pos h2]at h;omega)|(rw[Int.sign_eq_neg_one_of_neg h1,Int.sign_eq_one_of_pos h2]at h;omega)|(subst h1;rw[Int.sign_zero,Int.sign_eq_one_of_pos h2]at h;omega)|(subst h2;rw[Int.sign_zero,Int.sign_eq_neg_one_of_neg h1]at h;omega)|(subst h1;subst h2;omega)
 constructor
 · intro h;rw[if_pos (lt h)]
 · intro h
   have:=gt h
   rw[if_neg (by omega),if_pos this]
theorem uB (x y:Rat)(k:Int)(hk:cmpQ x y=k)(hx:LQ x)(hy:LQ y)(p1:Option Addr)(c1:Nat)(s1:Option Addr)(d1:Nat)(p2:Option Addr)(c2:Nat)(s2:Option Addr)(d2:Nat)(W:World)(r1:RN W (.slice p1 (aa x.num) c1) x.num.natAbs)(t1:RN W (.slice s1 (ae x.den) d1) x.den)(r2:RN W (.slice p2 (aa y.num) c2) y.num.natAbs)(t2:RN W (.slice s2 (ae y.den) d2) y.den) :
 CR 48 #[.agg #[.bool (ag x.num),.slice p1 (aa x.num) c1,.slice s1 (ae x.den) d1],.agg #[.bool (ag y.num),.slice p2 (aa y.num) c2,.slice s2 (ae y.den) d2]] W (.int .i64 k):=by
 obtain⟨a1,a2⟩:=hx
 obtain⟨b1,b2⟩:=hy
 have hS1:=fun p1 c1 s1 d1 W h1 h2=>mI x _ rfl p1 c1 s1 d1 W h1 h2
 have hS2:=fun p1 c1 s1 d1 W h1 h2=>mI y _ rfl p1 c1 s1 d1 W h1 h2
 obtain⟨hlt,hgt⟩:=z0b x y
 rcases Int.lt_trichotomy x.num.sign y.num.sign with h|h|h
 · rw[← hk,hlt h]
   exact z2I x.num y.num _ _ x.den y.den h p1 c1 s1 d1 p2 c2 s2 d2 W hS1 hS2 r1 t1 r2 t2
 · rw[← h]at hS2
   have l1:=jO x.num (y.den:Int)
   have l2:=jO y.num (x.den:Int)
   rw[oP]at l1 l2
   have l4:=jq x.num.natAbs y.den
   have l5:=jq y.num.natAbs x.den
   have z1:aa x.num=ae x.num.natAbs:=rfl
   have z2:aa y.num=ae y.num.natAbs:=rfl
   refine zt x.num y.num _ (x.num*(y.den:Int)) (y.num*(x.den:Int)) k x.den y.den (x.num.natAbs*y.den) (y.num.natAbs*x.den) p1 c1 s1 d1 p2 c2 s2 d2 W hS1 hS2
    (fun p1 c1 s2 d2 W h1 h2=>nH _ _ _ _ (by omega) (by omega) W h1 h2) (fun s2 d2 W h=>iM _ _ _ _ (z0r x.num y.den) (by omega) W h)
    (fun p1 c1 s2 d2 W h1 h2=>nH _ _ _ _ (by omega) (by omega) W h1 h2) (fun s2 d2 W h=>iM _ _ _ _ (z0r y.num x.den) (by omega) W h) (fun p1 c1 p2 c2 W h1 h2=>?_) r1 t1 r2 t2
   have hc:=zCmp _ _ (x.num*(y.den:Int)) (y.num*(x.den:Int)) (show aa _≤50000 by omega) (show aa _≤50000 by omega) W (Rz.mk h1) (Rz.mk h2)
   rw[show cmpZ (x.num*(y.den:Int)) (y.num*(x.den:Int))=k by rw[← hk,iB x y _ _ rfl rfl];rfl]at hc
   exact hc
 · rw[← hk,hgt h]
   exact z2J x.num y.num _ _ x.den y.den h p1 c1 s1 d1 p2 c2 s2 d2 W hS1 hS2 r1 t1 r2 t2
theorem sQTo (q:Rat)(s:ByteArray)(hs:Sq q=s)(hq:SmQ 9000 q)(p1:Option Addr)(c1:Nat)(s1:Option Addr)(d1:Nat)(W:World)(r1:RN W (.slice p1 (aa q.num) c1) q.num.natAbs)(t1:RN W (.slice s1 (ae q.den) d1) q.den) :
 CR 39 #[.agg #[.bool (ag q.num),.slice p1 (aa q.num) c1,.slice s1 (ae q.den) d1]] W (.string s):=by
 have l1:aa q.num≤9000:=gq hq.1 (by decide)
 have l2:ae q.den≤9000:=gq hq.2 (by decide)
 have z1:(Sn q.num.natAbs).size≤9000:=gY hq.1 (by decide)
 have z2:(Sn q.den).size≤9000:=gY hq.2 (by decide)
 have z3:(Sz q.num).size≤9001:=jH hq.1 (by decide)
 have h1:=fun p c W h=>sTo q.num _ rfl (Nat.le_trans l1 (by decide)) (by omega) p c W h
 have h2:=fun(s:Option Addr) (d:Nat) W h=>z0i (.slice s (ae q.den) d) q.den (Nat.le_trans l2 (by decide)) W h
 subst hs
 by_cases hd:q.den=1
 · unfold Sq
   rw[if_pos hd]
   exact z2H q.num q.den (Sz q.num) p1 c1 s1 d1 W h1 (fun s d W h=>by
    have:=h2 s d W h
    rwa [hd,show Sn 1=⟨#[49]⟩by decide +kernel,← hd]at this) r1 t1
 · unfold Sq
   rw[if_neg hd]
   refine z15 q.num q.den (Sz q.num) (Sn q.den) _ ?_ ?_ (by omega) (by omega) p1 c1 s1 d1 W h1 h2 r1 t1
   · rw[beq_eq_false_iff_ne]
     intro e
     apply hd
     have e2:Sn q.den=Sn 1:=by
       apply ByteArray.ext;apply Array.ext'
       rw[toList_data]at e
       rw[e];decide +kernel
     exact z2c e2
   · apply ByteArray.ext;apply Array.ext'
     simp[Sn]
end Go.Proofs.YtmigpoiajkihhaaGreatDoor
