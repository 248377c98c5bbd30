/- Texts of this proof, one behind the other. -/
import Derived.Test.YtmigpoiajkihhaaGreatDoorSd
namespace Go.Proofs.YtmigpoiajkihhaaGreatDoor
open Go.RowKit Go.Gb
theorem uH (x y:Int):((y.natAbs:Nat):Int)*((x.natAbs / y.natAbs:Nat):Int)+((x.natAbs%y.natAbs:Nat):Int)=(x.natAbs:Int):=by
 exact_mod_cast Nat.div_add_mod x.natAbs y.natAbs
theorem z1f (x y:Int)(hy:y≠0)(hx:ag x=false):x / y=(if ag y then -((x.natAbs / y.natAbs:Nat):Int) else ((x.natAbs / y.natAbs:Nat):Int))∧x%y=((x.natAbs%y.natAbs:Nat):Int):=by
 have hx0:¬ x<0:=of_decide_eq_false hx
 have h1:=uH x y
 have h2:=Nat.mod_lt x.natAbs (y:=y.natAbs) (by omega)
 refine dF x y hy _ _ ⟨?_,by omega,by omega⟩
 generalize ((x.natAbs / y.natAbs:Nat):Int)=q at *
 unfold ag
 by_cases h:y<0
 · have e:y*q = -((y.natAbs:Int)*q):=by rw[show(y.natAbs:Int) = -y by omega,Int.neg_mul,Int.neg_neg]
   rw[decide_eq_true h,if_pos rfl,Int.mul_neg];omega
 · rw[decide_eq_false h,if_neg (by simp)]
   have e:y*q=(y.natAbs:Int)*q:=by rw[show(y.natAbs:Int)=y by omega]
   omega
theorem xP (x y:Int)(hy:y≠0)(hx:ag x=true)(h0:x.natAbs%y.natAbs=0):x / y=(if !ag y then -((x.natAbs / y.natAbs:Nat):Int) else ((x.natAbs / y.natAbs:Nat):Int))∧x%y=0:=by
 have hx0:x<0:=of_decide_eq_true hx
 have h1:=uH x y
 rw[h0]at h1
 refine dF x y hy _ _ ⟨?_,by omega,by omega⟩
 generalize ((x.natAbs / y.natAbs:Nat):Int)=q at *
 unfold ag
 by_cases h:y<0
 · rw[decide_eq_true h]
   have e:y*q = -((y.natAbs:Int)*q):=by rw[show(y.natAbs:Int) = -y by omega,Int.neg_mul,Int.neg_neg]
   simp;omega
 · rw[decide_eq_false h]
   have e:y*q=(y.natAbs:Int)*q:=by rw[show(y.natAbs:Int)=y by omega]
   simp[Int.mul_neg];omega
theorem z1g (x y:Int)(hy:y≠0)(hx:ag x=true)(h0:x.natAbs%y.natAbs≠0):x / y=(if !ag y then -((x.natAbs / y.natAbs+1:Nat):Int) else ((x.natAbs / y.natAbs+1:Nat):Int))∧x%y=((y.natAbs-x.natAbs%y.natAbs:Nat):Int):=by
 have hx0:x<0:=of_decide_eq_true hx
 have h1:=uH x y
 have h2:=Nat.mod_lt x.natAbs (y:=y.natAbs) (by omega)
 refine dF x y hy _ _ ⟨?_,by omega,by omega⟩
 rw[Int.natCast_add]
 generalize ((x.natAbs / y.natAbs:Nat):Int)=q at *
 unfold ag
 by_cases h:y<0
 · rw[decide_eq_true h]
   have e:y*q = -((y.natAbs:Int)*q):=by rw[show(y.natAbs:Int) = -y by omega,Int.neg_mul,Int.neg_neg]
   simp[Int.mul_add];omega
 · rw[decide_eq_false h]
   have e:y*q=(y.natAbs:Int)*q:=by rw[show(y.natAbs:Int)=y by omega]
   simp[Int.mul_add,Int.mul_neg];omega
theorem z1i {n:Nat}(h:n≠0):0<ae n:=List.length_pos_iff.2 (by rw[bA h];simp)
theorem z4j (x y q r:Int)(hq:x / y=q)(hr:x%y=r)(hy:y≠0)(hx:aa x≤50000)(hly:aa y≤50000)(p1:Option Addr)(c1:Nat)(p2:Option Addr)(c2:Nat)(w:World)(r1:RN w (.slice p1 (aa x) c1) x.natAbs)(r2:RN w (.slice p2 (aa y) c2) y.natAbs) :
 Calls Tryz.prog 106 #[.agg #[.bool (ag x),.slice p1 (aa x) c1],.agg #[.bool (ag y),.slice p2 (aa y) c2]] w fun e w'=>∃ p c p' c',e=.returned (.tuple #[.agg #[.bool (ag q),.slice p (aa q) c],.agg #[.bool (ag r),.slice p' (aa r) c']])∧RN w' (.slice p (aa q) c) q.natAbs∧RN w' (.slice p' (aa r) c') r.natAbs∧Below w.heap.size w w':=by
 have hdl:ae (x.natAbs / y.natAbs)≤50000:=Nat.le_trans (fo (Nat.div_le_self _ _)) hx
 have hml:ae (x.natAbs%y.natAbs)≤50000:=Nat.le_trans (fo (Nat.mod_le _ _)) hx
 have hC:=fun W (h:Below w.heap.size w W)=>z3X (.slice p1 (aa x) c1) (.slice p2 (aa y) c2) x.natAbs y.natAbs (by omega) hx W (r1.below h) (r2.below h)
 cases hs:ag x with
 | false =>
   obtain⟨e1,e2⟩:=z1f x y hy hs
   exact z2u p1 _ c1 p2 _ c2 (ag y) _ _ q r (by omega) (by omega) (hq▸e1) (hr▸e2) w hC
 | true =>
   by_cases h0:x.natAbs%y.natAbs=0
   · obtain⟨e1,e2⟩:=xP x y hy hs h0
     rw[h0]at hC
     exact z0s p1 _ c1 p2 _ c2 (ag y) _ q r (by omega) (hq▸e1) (hr▸e2) w hC
   · obtain⟨e1,e2⟩:=z1g x y hy hs h0
     have hlt:=Nat.mod_lt x.natAbs (y:=y.natAbs) (by omega)
     exact z2t p1 _ c1 p2 _ c2 (ag y) _ _ y.natAbs q r (by omega) (z1i h0) (by unfold aa at hly;omega) (by omega) (hq▸e1) (hr▸e2) w r2 hC
theorem sTo (z:Int)(s:ByteArray)(hs:Sz z=s)(hf:aa z≤10000)(hs2:(Sn z.natAbs).size≤100000)(p:Option Addr)(c:Nat)(w:World)(h:RN w (.slice p (aa z) c) z.natAbs) :
 CR 56 #[.agg #[.bool (ag z),.slice p (aa z) c]] w (.string s):=by subst hs;exact zTo _ z hf hs2 w (Rz.mk h)
theorem uA (z s:Int)(hs:z.sign=s)(p:Option Addr)(c:Nat)(w:World)(h:RN w (.slice p (aa z) c) z.natAbs) :
 CR 38 #[.agg #[.bool (ag z),.slice p (aa z) c]] w (.int .i64 s):=by subst hs;exact z2s _ z w (Rz.mk h)
theorem z3v (x y z:Int)(hz:x*y=z)(hx:aa x≤50000)(hy:aa y≤50000)(p1:Option Addr)(c1:Nat)(p2:Option Addr)(c2:Nat)(w:World)(r1:RN w (.slice p1 (aa x) c1) x.natAbs)(r2:RN w (.slice p2 (aa y) c2) y.natAbs) :
 CZ 101 #[.agg #[.bool (ag x),.slice p1 (aa x) c1],.agg #[.bool (ag y),.slice p2 (aa y) c2]] w z:=by subst hz;exact xC (z3l _ _ x y hx hy w (Rz.mk r1) (Rz.mk r2))
theorem z3A (x y z:Int)(hz:x+y=z)(hx:aa x≤50000)(hy:aa y≤50000)(p1:Option Addr)(c1:Nat)(p2:Option Addr)(c2:Nat)(w:World)(r1:RN w (.slice p1 (aa x) c1) x.natAbs)(r2:RN w (.slice p2 (aa y) c2) y.natAbs) :
 CZ 100 #[.agg #[.bool (ag x),.slice p1 (aa x) c1],.agg #[.bool (ag y),.slice p2 (aa y) c2]] w z:=by subst hz;exact xC (z3n _ _ x y hx hy w (Rz.mk r1) (Rz.mk r2))
theorem yV (x z:Int)(hz : -x=z)(hx:aa x≤1000000)(p1:Option Addr)(c1:Nat)(w:World)(r1:RN w (.slice p1 (aa x) c1) x.natAbs) :
 CZ 121 #[.agg #[.bool (ag x),.slice p1 (aa x) c1]] w z:=by subst hz;exact xC (qY _ x hx w (Rz.mk r1))
end Go.Proofs.YtmigpoiajkihhaaGreatDoor
set_option maxRecDepth 100000
set_option maxHeartbeats 20000000
open Go.Lib (hid)
namespace Go.Proofs.YtmigpoiajkihhaaGreatDoor
open Go.RowKit Go.Gb
theorem z3w (k:Int)(n:Nat)(hk:(n:Int)=k)(h0:0≤k)(h1:k≤1000000)(w:World) :
 CZ 112 #[.int .i64 k] w k:=by
 have hl:ae n≤1000000:=Nat.le_trans (fo (show n≤1000000 by omega)) (by decide +kernel)
 have C1:=hid (fun W=>lC k n hk (by omega) W)
 have C2:=hid (fun v W h=>iM false v n k (by rw[if_neg (by simp)];exact hk.symm) hl W h)
 have d0:decide (k<0)=false:=decide_eq_false (by omega)
 have e0:¬ k<0:=by omega
 clear hl hk
 go_enter Tryz.func112,Tryz.ntmps112
 go_upto_region 1 with fail
 refine aK w [(#[.bool false,.slice none 0 0],50)] rfl ?_
 rintro W0 ⟨k1,hb⟩
 have HB0:=hid (show Below w.heap.size w W0 from hb)
 have K1:=hid k1
 clear k1 hb
 go_wp2_with fail
 with_reducible refine(C1.out _).mono ?_
 rintro e W1 ⟨p_1,c_1,rfl,u00,hb⟩
 have K1:=hid (K1.out.below hb)
 have HB1:=hbt HB0 hb
 have RN1:=hid u00
 clear hb u00
 go_wp2_with fail
 with_reducible refine(C2.out _ _ RN1.out).mono ?_
 rintro e W2 ⟨p_2,c_2,rfl,u05,hb⟩
 have K1:=hid (K1.out.below hb)
 have HB2:=hbt HB1 hb
 have RK:=hid u05
 clear hb u05
 have dK10:=K1.out.cell (i:=0) rfl
 have dK11:=K1.out.cell (i:=1) rfl
 have fK10:=K1.out.frozen (i:=0)
 have fK11:=K1.out.frozen (i:=1)
 go_wp2
 exact bodyPost_ret (v:=.agg #[.bool (ag k),.slice p_2 (aa k) c_2]) (by simp[results,Tryz.results112,go_sem,dK10,dK11]) rfl ⟨_,_,rfl,(aG [.bool (ag k),.slice p_2 (aa k) c_2] RK.out K1.out (by simp[bG]) (by simp[aV])),(az (l:=[.bool (ag k),.slice p_2 (aa k) c_2]) (i:=0) (by omega) HB2.out)⟩
end Go.Proofs.YtmigpoiajkihhaaGreatDoor
set_option maxRecDepth 100000
set_option maxHeartbeats 20000000
open Go.Lib (hid)
namespace Go.Proofs.YtmigpoiajkihhaaGreatDoor
open Go.RowKit Go.Gb
theorem wZ (v1 v2:Value)(a b q r:Nat)(hq:a / b=q)(hr:a%b=r)(hb:b≠0)(hl:ae a≤50000)(w:World)(h1:RN w v1 a)(h2:RN w v2 b) :
 Calls Tryz.prog 82 #[v1,v2] w fun e w'=>∃ p c p' c',e=.returned (.tuple #[.slice p (ae q) c,.slice p' (ae r) c'])∧RN w' (.slice p (ae q) c) q∧RN w' (.slice p' (ae r) c') r∧Below w.heap.size w w':=by
 subst hq hr;exact z3X v1 v2 a b hb hl w h1 h2
theorem zg {w:World}{p:Option Addr}{n c g:Nat}(h:RN w (.slice p n c) g)(hg:(ah g).length=1):∃ b o,p=some ⟨b,o,none⟩∧n=1∧w.cell? ⟨b,o,none⟩=some (.int .u32 (g:Int)):=by
 rcases h with⟨e,h⟩|⟨b,o,c',e,h2,h3,h4,h5⟩
 · rw[h]at hg;cases hg
 · injection e with e1 e2 e3
   refine⟨b,o,e1,by omega,?_⟩
   have h6:=h5 0 (by omega)
   have hv:=ak g
   have hd:ah g=[(ah g).getD 0 0]:=by
    match hk:ah g,hg with
    | [x],_=>rfl
   rw[hd]at hv
   have e0:(ah g).getD 0 0=g:=by simpa [ai] using hv
   rw[e0]at h6
   exact h6
theorem xR (z:Int)(d:Nat)(hz:aa z≤50000)(hd:ae d≤50000)(p1:Option Addr)(c1:Nat)(s1:Option Addr)(d1:Nat)(hg:Nat.gcd z.natAbs d=1)(w:World)(r1:RN w (.slice p1 (aa z) c1) z.natAbs)(t1:RN w (.slice s1 (ae d) d1) d) :
 Calls Tryz.prog 40 #[.agg #[.bool (ag z),.slice p1 (aa z) c1],.slice s1 (ae d) d1] w fun e w'=>∃ p c s e1,e=.returned (.agg #[.bool (ag z),.slice p (aa z) c,.slice s (ae d) e1])∧RN w' (.slice p (aa z) c) z.natAbs∧RN w' (.slice s (ae d) e1) d∧Below w.heap.size w w':=by
 have C1:=hid (show ∀ v1 v2 W,RN W v1 z.natAbs→RN W v2 d→Calls Tryz.prog 81 #[v1,v2] W fun e w'=>∃ b o c,e=.returned (.slice (some ⟨b,o,none⟩) 1 c)∧w'.cell? ⟨b,o,none⟩=some (.int .u32 1)∧Below W.heap.size W w' from fun v1 v2 W h1 h2=>by
  refine(nI v1 v2 z.natAbs d 1 hg hz hd W h1 h2).mono ?_
  rintro e w' ⟨p,c,rfl,hr,hb⟩
  obtain⟨b,o,rfl,_,h⟩:=zg hr jZ
  rw[jZ]
  exact⟨b,o,c,rfl,h,hb⟩)
 clear hg hz hd
 have R1:=hid r1
 have T1:=hid t1
 clear r1 t1
 go_enter Tryz.func40,Tryz.ntmps40
 go_upto_region 1 with fail
 refine aK w [(#[.bool (ag z),.slice p1 (aa z) c1],50),(#[.bool false,.slice none 0 0,.slice none 0 0],55)] rfl ?_
 rintro W0 ⟨k1,k2,hb⟩
 have HB0:=hid (show Below w.heap.size w W0 from hb)
 have R1:=hid (R1.out.below HB0.out)
 have T1:=hid (T1.out.below HB0.out)
 have K1:=hid k1
 have K2:=hid k2
 clear k1 k2 hb
 have dK11:=K1.out.cell (i:=1) rfl
 go_wp2_with fail
 with_reducible refine(C1.out _ _ _ R1.out T1.out).mono ?_
 rintro e W1 ⟨b_1,o_1,c_1,rfl,u00,hb⟩
 clear dK11
 have K1:=hid (K1.out.below hb)
 have K2:=hid (K2.out.below hb)
 have R1:=hid (R1.out.below hb)
 have T1:=hid (T1.out.below hb)
 have HB1:=hbt HB0 hb
 have XC:=hid u00
 clear hb u00
 have dxc:=XC.out
 have dK10:=K1.out.cell (i:=0) rfl
 have dK11:=K1.out.cell (i:=1) rfl
 have dK20:=K2.out.cell (i:=0) rfl
 have dK21:=K2.out.cell (i:=1) rfl
 have dK22:=K2.out.cell (i:=2) rfl
 have fK20:=K2.out.frozen (i:=0)
 have fK21:=K2.out.frozen (i:=1)
 have fK22:=K2.out.frozen (i:=2)
 go_wp2
 exact bodyPost_ret (v:=.agg #[.bool (ag z),.slice p1 (aa z) c1,.slice s1 (ae d) d1]) (by simp[results,Tryz.results40,go_sem,dK20,dK21,dK22]) rfl ⟨_,_,_,_,rfl,(aG [.bool (ag z),.slice p1 (aa z) c1,.slice s1 (ae d) d1] R1.out K2.out (by simp[bG]) (by simp[aV])),(aG [.bool (ag z),.slice p1 (aa z) c1,.slice s1 (ae d) d1] T1.out K2.out (by simp[bG]) (by simp[aV])),(az (l:=[.bool (ag z),.slice p1 (aa z) c1,.slice s1 (ae d) d1]) (i:=0) (by omega) HB1.out)⟩
theorem uJ (z:Int)(d:Nat)(hz:aa z≤50000)(hd:ae d≤50000)(p1:Option Addr)(c1:Nat)(s1:Option Addr)(d1:Nat)(g a a1 b b1:Nat)(y:Int)(hg:Nat.gcd z.natAbs d=g)(g0:g≠0)(g1:g≠1)(gl:ae g=1)(ha:z.natAbs / g=a)(ha1:z.natAbs%g=a1)(hb:d / g=b)(hb1:d%g=b1)(hy:y=if ag z then -(a:Int) else (a:Int))(w:World)(r1:RN w (.slice p1 (aa z) c1) z.natAbs)(t1:RN w (.slice s1 (ae d) d1) d) :
 Calls Tryz.prog 40 #[.agg #[.bool (ag z),.slice p1 (aa z) c1],.slice s1 (ae d) d1] w fun e w'=>∃ p c s e1,e=.returned (.agg #[.bool (ag y),.slice p (aa y) c,.slice s (ae b) e1])∧RN w' (.slice p (aa y) c) y.natAbs∧RN w' (.slice s (ae b) e1) b∧Below w.heap.size w w':=by
 have C1:=hid (show ∀ v1 v2 W,RN W v1 z.natAbs→RN W v2 d→Calls Tryz.prog 81 #[v1,v2] W fun e w'=>∃ b o c,e=.returned (.slice (some ⟨b,o,none⟩) 1 c)∧w'.cell? ⟨b,o,none⟩=some (.int .u32 (g:Int))∧RN w' (.slice (some ⟨b,o,none⟩) 1 c) g∧Below W.heap.size W w' from fun v1 v2 W h1 h2=>by
  refine(nI v1 v2 z.natAbs d g hg hz hd W h1 h2).mono ?_
  rintro e w' ⟨p,c,rfl,hr,hb⟩
  obtain⟨b,o,rfl,_,h⟩:=zg hr gl
  rw[gl]at hr ⊢
  exact⟨b,o,c,rfl,h,hr,hb⟩)
 have C2:=hid (fun v1 v2 W h1 h2=>wZ v1 v2 z.natAbs g a a1 ha ha1 g0 hz W h1 h2)
 have C3:=hid (fun v1 v2 W h1 h2=>wZ v1 v2 d g b b1 hb hb1 g0 hd W h1 h2)
 have C4:=hid (fun v W h=>iM (ag z) v a y hy (by rw[← ha];exact Nat.le_trans (fo (Nat.div_le_self _ _)) (Nat.le_trans hz (by decide))) W h)
 have g1':((g:Int)==1)=false:=by rw[beq_eq_false_iff_ne];omega
 have g2':¬ (g:Int)=1:=by omega
 have g3':¬ g=1:=g1
 clear gl g1 hg hz hd g0 ha ha1 hb hb1 hy
 have R1:=hid r1
 have T1:=hid t1
 clear r1 t1
 go_enter Tryz.func40,Tryz.ntmps40
 go_upto_region 1 with fail
 refine aK w [(#[.bool (ag z),.slice p1 (aa z) c1],50),(#[.bool false,.slice none 0 0,.slice none 0 0],55)] rfl ?_
 rintro W0 ⟨k1,k2,hb⟩
 have HB0:=hid (show Below w.heap.size w W0 from hb)
 have R1:=hid (R1.out.below HB0.out)
 have T1:=hid (T1.out.below HB0.out)
 have K1:=hid k1
 have K2:=hid k2
 clear k1 k2 hb
 have dK11:=K1.out.cell (i:=1) rfl
 go_wp2_with fail
 with_reducible refine(C1.out _ _ _ R1.out T1.out).mono ?_
 rintro e W1 ⟨b_1,o_1,c_1,rfl,u00,u0d,hb⟩
 clear dK11
 have K1:=hid (K1.out.below hb)
 have K2:=hid (K2.out.below hb)
 have R1:=hid (R1.out.below hb)
 have T1:=hid (T1.out.below hb)
 have HB1:=hbt HB0 hb
 have XC:=hid u00
 have RG:=hid u0d
 clear hb u00 u0d
 have dxc:=XC.out
 have dK11:=K1.out.cell (i:=1) rfl
 go_wp2_with fail
 with_reducible refine(C2.out _ _ _ R1.out RG.out).mono ?_
 rintro e W2 ⟨u0h,u0i,u0j,u0k,rfl,u05,u06,hb⟩
 clear dK11
 have K1:=hid (K1.out.below hb)
 have K2:=hid (K2.out.below hb)
 have T1:=hid (T1.out.below hb)
 have RG:=hid (RG.out.below hb)
 have HB2:=hbt HB1 hb
 have RA:=hid u05
 have RA1:=hid u06
 clear hb u05 u06
 go_wp2_with fail
 with_reducible refine(C3.out _ _ _ T1.out RG.out).mono ?_
 rintro e W3 ⟨u01,u02,u0l,u0m,rfl,u07,u08,hb⟩
 have K1:=hid (K1.out.below hb)
 have K2:=hid (K2.out.below hb)
 have RA:=hid (RA.out.below hb)
 have HB3:=hbt HB2 hb
 have RB:=hid u07
 have RB1:=hid u08
 clear hb u07 u08
 have dK10:=K1.out.cell (i:=0) rfl
 go_wp2_with fail
 with_reducible refine(C4.out _ _ RA.out).mono ?_
 rintro e W4 ⟨p_4,c_4,rfl,u09,hb⟩
 clear dK10
 have K2:=hid (K2.out.below hb)
 have RB:=hid (RB.out.below hb)
 have HB4:=hbt HB3 hb
 have RY:=hid u09
 clear hb u09
 have dK20:=K2.out.cell (i:=0) rfl
 have dK21:=K2.out.cell (i:=1) rfl
 have dK22:=K2.out.cell (i:=2) rfl
 have fK20:=K2.out.frozen (i:=0)
 have fK21:=K2.out.frozen (i:=1)
 have fK22:=K2.out.frozen (i:=2)
 go_wp2
 exact bodyPost_ret (v:=.agg #[.bool (ag y),.slice p_4 (aa y) c_4,.slice u01 (ae b) u02]) (by simp[results,Tryz.results40,go_sem,dK20,dK21,dK22]) rfl ⟨_,_,_,_,rfl,(aG [.bool (ag y),.slice p_4 (aa y) c_4,.slice u01 (ae b) u02] RY.out K2.out (by simp[bG]) (by simp[aV])),(aG [.bool (ag y),.slice p_4 (aa y) c_4,.slice u01 (ae b) u02] RB.out K2.out (by simp[bG]) (by simp[aV])),(az (l:=[.bool (ag y),.slice p_4 (aa y) c_4,.slice u01 (ae b) u02]) (i:=0) (by omega) HB4.out)⟩
theorem uK (z:Int)(d:Nat)(hz:aa z≤50000)(hd:ae d≤50000)(p1:Option Addr)(c1:Nat)(s1:Option Addr)(d1:Nat)(g a a1 b b1:Nat)(y:Int)(hg:Nat.gcd z.natAbs d=g)(g0:g≠0)(gl:ae g≠1)(ha:z.natAbs / g=a)(ha1:z.natAbs%g=a1)(hb:d / g=b)(hb1:d%g=b1)(hy:y=if ag z then -(a:Int) else (a:Int))(w:World)(r1:RN w (.slice p1 (aa z) c1) z.natAbs)(t1:RN w (.slice s1 (ae d) d1) d) :
 Calls Tryz.prog 40 #[.agg #[.bool (ag z),.slice p1 (aa z) c1],.slice s1 (ae d) d1] w fun e w'=>∃ p c s e1,e=.returned (.agg #[.bool (ag y),.slice p (aa y) c,.slice s (ae b) e1])∧RN w' (.slice p (aa y) c) y.natAbs∧RN w' (.slice s (ae b) e1) b∧Below w.heap.size w w':=by
 have C1:=hid (fun v1 v2 W h1 h2=>nI v1 v2 z.natAbs d g hg hz hd W h1 h2)
 have C2:=hid (fun v1 v2 W h1 h2=>wZ v1 v2 z.natAbs g a a1 ha ha1 g0 hz W h1 h2)
 have C3:=hid (fun v1 v2 W h1 h2=>wZ v1 v2 d g b b1 hb hb1 g0 hd W h1 h2)
 have C4:=hid (fun v W h=>iM (ag z) v a y hy (by rw[← ha];exact Nat.le_trans (fo (Nat.div_le_self _ _)) (Nat.le_trans hz (by decide))) W h)
 have g1':((ae g:Int)==1)=false:=by rw[beq_eq_false_iff_ne];omega
 have g2':¬ (ae g:Int)=1:=by omega
 have g3':¬ ae g=1:=gl
 clear gl hg hz hd g0 ha ha1 hb hb1 hy
 have R1:=hid r1
 have T1:=hid t1
 clear r1 t1
 go_enter Tryz.func40,Tryz.ntmps40
 go_upto_region 1 with fail
 refine aK w [(#[.bool (ag z),.slice p1 (aa z) c1],50),(#[.bool false,.slice none 0 0,.slice none 0 0],55)] rfl ?_
 rintro W0 ⟨k1,k2,hb⟩
 have HB0:=hid (show Below w.heap.size w W0 from hb)
 have R1:=hid (R1.out.below HB0.out)
 have T1:=hid (T1.out.below HB0.out)
 have K1:=hid k1
 have K2:=hid k2
 clear k1 k2 hb
 have dK11:=K1.out.cell (i:=1) rfl
 go_wp2_with fail
 with_reducible refine(C1.out _ _ _ R1.out T1.out).mono ?_
 rintro e W1 ⟨p_1,c_1,rfl,u00,hb⟩
 clear dK11
 have K1:=hid (K1.out.below hb)
 have K2:=hid (K2.out.below hb)
 have R1:=hid (R1.out.below hb)
 have T1:=hid (T1.out.below hb)
 have HB1:=hbt HB0 hb
 have RG:=hid u00
 clear hb u00
 have dK11:=K1.out.cell (i:=1) rfl
 go_wp2_with fail
 with_reducible refine(C2.out _ _ _ R1.out RG.out).mono ?_
 rintro e W2 ⟨u0h,u0i,u0j,u0k,rfl,u05,u06,hb⟩
 clear dK11
 have K1:=hid (K1.out.below hb)
 have K2:=hid (K2.out.below hb)
 have T1:=hid (T1.out.below hb)
 have RG:=hid (RG.out.below hb)
 have HB2:=hbt HB1 hb
 have RA:=hid u05
 have RA1:=hid u06
 clear hb u05 u06
 go_wp2_with fail
 with_reducible refine(C3.out _ _ _ T1.out RG.out).mono ?_
 rintro e W3 ⟨u01,u02,u0l,u0m,rfl,u07,u08,hb⟩
 have K1:=hid (K1.out.below hb)
 have K2:=hid (K2.out.below hb)
 have RA:=hid (RA.out.below hb)
 have HB3:=hbt HB2 hb
 have RB:=hid u07
 have RB1:=hid u08
 clear hb u07 u08
 have dK10:=K1.out.cell (i:=0) rfl
 go_wp2_with fail
 with_reducible refine(C4.out _ _ RA.out).mono ?_
 rintro e W4 ⟨p_4,c_4,rfl,u09,hb⟩
 clear dK10
 have K2:=hid (K2.out.below hb)
 have RB:=hid (RB.out.below hb)
 have HB4:=hbt HB3 hb
 have RY:=hid u09
 clear hb u09
 have dK20:=K2.out.cell (i:=0) rfl
 have dK21:=K2.out.cell (i:=1) rfl
 have dK22:=K2.out.cell (i:=2) rfl
 have fK20:=K2.out.frozen (i:=0)
 have fK21:=K2.out.frozen (i:=1)
 have fK22:=K2.out.frozen (i:=2)
 go_wp2
 exact bodyPost_ret (v:=.agg #[.bool (ag y),.slice p_4 (aa y) c_4,.slice u01 (ae b) u02]) (by simp[results,Tryz.results40,go_sem,dK20,dK21,dK22]) rfl ⟨_,_,_,_,rfl,(aG [.bool (ag y),.slice p_4 (aa y) c_4,.slice u01 (ae b) u02] RY.out K2.out (by simp[bG]) (by simp[aV])),(aG [.bool (ag y),.slice p_4 (aa y) c_4,.slice u01 (ae b) u02] RB.out K2.out (by simp[bG]) (by simp[aV])),(az (l:=[.bool (ag y),.slice p_4 (aa y) c_4,.slice u01 (ae b) u02]) (i:=0) (by omega) HB4.out)⟩
end Go.Proofs.YtmigpoiajkihhaaGreatDoor
