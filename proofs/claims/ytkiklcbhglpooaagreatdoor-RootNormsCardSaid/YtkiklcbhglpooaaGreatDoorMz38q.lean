/- texts -/
import Derived.Test.YtkiklcbhglpooaaGreatDoorMz37q
namespace Go.Proofs.YtkiklcbhglpooaaGreatDoor
open Go.RowKit Go.Gb
theorem vH (x y:Int):((y.natAbs:Nat):Int)*((x.natAbs / y.natAbs:Nat):Int)+((x.natAbs%y.natAbs:Nat):Int)=(x.natAbs:Int):=by
 exact_mod_cast Nat.div_add_mod x.natAbs y.natAbs
theorem z2C (x y:Int)(hy:y≠0)(hx:ai x=false):x / y=(if ai y then -((x.natAbs / y.natAbs:Nat):Int) else ((x.natAbs / y.natAbs:Nat):Int))∧x%y=((x.natAbs%y.natAbs:Nat):Int):=by
 have hx0:¬ x<0:=of_decide_eq_false hx;have h1:=vH x y;have h2:=Nat.mod_lt x.natAbs (y:=y.natAbs) (by omega);refine dV x y hy _ _ ⟨?_,by omega,by omega⟩;generalize ((x.natAbs / y.natAbs:Nat):Int)=q at *;unfold ai
 by_cases h:y<0
 · have e:y*q = -((y.natAbs:Int)*q):=by rw[show(y.natAbs:Int) = -y by omega,Int.neg_mul,Int.neg_neg]
   rw[decide_eq_true h,if_pos rfl,Int.mul_neg];omega
 · rw[decide_eq_false h,if_neg (by simp)]
   have e:y*q=(y.natAbs:Int)*q:=by rw[show(y.natAbs:Int)=y by omega]
   omega
theorem yM (x y:Int)(hy:y≠0)(hx:ai x=true)(h0:x.natAbs%y.natAbs=0):x / y=(if !ai y then -((x.natAbs / y.natAbs:Nat):Int) else ((x.natAbs / y.natAbs:Nat):Int))∧x%y=0:=by
 have hx0:x<0:=of_decide_eq_true hx;have h1:=vH x y;rw[h0]at h1;refine dV x y hy _ _ ⟨?_,by omega,by omega⟩;generalize ((x.natAbs / y.natAbs:Nat):Int)=q at *;unfold ai
 by_cases h:y<0
 · rw[decide_eq_true h]
   have e:y*q = -((y.natAbs:Int)*q):=by rw[show(y.natAbs:Int) = -y by omega,Int.neg_mul,Int.neg_neg]
   simp;omega
 · rw[decide_eq_false h]
   have e:y*q=(y.natAbs:Int)*q:=by rw[show(y.natAbs:Int)=y by omega]
   simp[Int.mul_neg];omega
theorem z2D (x y:Int)(hy:y≠0)(hx:ai x=true)(h0:x.natAbs%y.natAbs≠0):x / y=(if !ai y then -((x.natAbs / y.natAbs+1:Nat):Int) else ((x.natAbs / y.natAbs+1:Nat):Int))∧x%y=((y.natAbs-x.natAbs%y.natAbs:Nat):Int):=by
 have hx0:x<0:=of_decide_eq_true hx;have h1:=vH x y;have h2:=Nat.mod_lt x.natAbs (y:=y.natAbs) (by omega);refine dV x y hy _ _ ⟨?_,by omega,by omega⟩;rw[Int.natCast_add];generalize ((x.natAbs / y.natAbs:Nat):Int)=q at *;unfold ai
 by_cases h:y<0
 · rw[decide_eq_true h]
   have e:y*q = -((y.natAbs:Int)*q):=by rw[show(y.natAbs:Int) = -y by omega,Int.neg_mul,Int.neg_neg]
   simp[Int.mul_add];omega
 · rw[decide_eq_false h]
   have e:y*q=(y.natAbs:Int)*q:=by rw[show(y.natAbs:Int)=y by omega]
   simp[Int.mul_add,Int.mul_neg];omega
theorem z2K {n:Nat}(h:n≠0):0<ah n:=List.length_pos_iff.2 (by rw[bG h];simp)
theorem z6a (x y q r:Int)(hq:x / y=q)(hr:x%y=r)(hy:y≠0)(hx:ae x≤50000)(hly:ae y≤50000)(p1:Option Addr)(c1:Nat)(p2:Option Addr)(c2:Nat)(w:World)(r1:RN w (.slice p1 (ae x) c1) x.natAbs)(r2:RN w (.slice p2 (ae y) c2) y.natAbs) :
 Calls Tryz.prog 131 #[.agg #[.bool (ai x),.slice p1 (ae x) c1],.agg #[.bool (ai y),.slice p2 (ae y) c2]] w fun e w'=>∃ p c p' c',e=.returned (.tuple #[.agg #[.bool (ai q),.slice p (ae q) c],.agg #[.bool (ai r),.slice p' (ae r) c']])∧RN w' (.slice p (ae q) c) q.natAbs∧RN w' (.slice p' (ae r) c') r.natAbs∧Below w.heap.size w w':=by
 have hdl:ah (x.natAbs / y.natAbs)≤50000:=Nat.le_trans (fH (Nat.div_le_self _ _)) hx;have hml:ah (x.natAbs%y.natAbs)≤50000:=Nat.le_trans (fH (Nat.mod_le _ _)) hx;have hC:=fun W (h:Below w.heap.size w W)=>z5M (.slice p1 (ae x) c1) (.slice p2 (ae y) c2) x.natAbs y.natAbs (by omega) hx W (r1.below h) (r2.below h)
 cases hs:ai x with
 | false =>
   obtain⟨e1,e2⟩:=z2C x y hy hs;exact z4f p1 _ c1 p2 _ c2 (ai y) _ _ q r (by omega) (by omega) (hq▸e1) (hr▸e2) w hC
 | true =>
   by_cases h0:x.natAbs%y.natAbs=0
   · obtain⟨e1,e2⟩:=yM x y hy hs h0
     rw[h0]at hC;exact z1O p1 _ c1 p2 _ c2 (ai y) _ q r (by omega) (hq▸e1) (hr▸e2) w hC
   · obtain⟨e1,e2⟩:=z2D x y hy hs h0
     have hlt:=Nat.mod_lt x.natAbs (y:=y.natAbs) (by omega);exact z4e p1 _ c1 p2 _ c2 (ai y) _ _ y.natAbs q r (by omega) (z2K h0) (by unfold ae at hly;omega) (by omega) (hq▸e1) (hr▸e2) w r2 hC
theorem sTo (z:Int)(s:ByteArray)(hs:Sz z=s)(hf:ae z≤10000)(hs2:(Sn z.natAbs).size≤100000)(p:Option Addr)(c:Nat)(w:World)(h:RN w (.slice p (ae z) c) z.natAbs) :
 CR 129 #[.agg #[.bool (ai z),.slice p (ae z) c]] w (.string s):=by subst hs;exact zTo _ z hf hs2 w (Rz.mk h)
theorem vv (z s:Int)(hs:z.sign=s)(p:Option Addr)(c:Nat)(w:World)(h:RN w (.slice p (ae z) c) z.natAbs) :
 CR 74 #[.agg #[.bool (ai z),.slice p (ae z) c]] w (.int .i64 s):=by subst hs;exact z4d _ z w (Rz.mk h)
theorem z5j (x y z:Int)(hz:x*y=z)(hx:ae x≤50000)(hy:ae y≤50000)(p1:Option Addr)(c1:Nat)(p2:Option Addr)(c2:Nat)(w:World)(r1:RN w (.slice p1 (ae x) c1) x.natAbs)(r2:RN w (.slice p2 (ae y) c2) y.natAbs) :
 CZ 80 #[.agg #[.bool (ai x),.slice p1 (ae x) c1],.agg #[.bool (ai y),.slice p2 (ae y) c2]] w z:=by subst hz;exact z0f (z4Y _ _ x y hx hy w (Rz.mk r1) (Rz.mk r2))
theorem z5l (x y z:Int)(hz:x+y=z)(hx:ae x≤50000)(hy:ae y≤50000)(p1:Option Addr)(c1:Nat)(p2:Option Addr)(c2:Nat)(w:World)(r1:RN w (.slice p1 (ae x) c1) x.natAbs)(r2:RN w (.slice p2 (ae y) c2) y.natAbs) :
 CZ 77 #[.agg #[.bool (ai x),.slice p1 (ae x) c1],.agg #[.bool (ai y),.slice p2 (ae y) c2]] w z:=by subst hz;exact z0f (z5a _ _ x y hx hy w (Rz.mk r1) (Rz.mk r2))
set_option maxRecDepth 100000
set_option maxHeartbeats 20000000
open Go.Lib (hid)
theorem z3Q (k:Int)(n:Nat)(hk:(n:Int)=k)(h0:0≤k)(h1:k≤2000000000)(w:World) :
 CZ 66 #[.int .i64 k] w k:=by
 have hl:ah n≤1000000:=Nat.le_trans (fH (show n≤2000000000 by omega)) (by decide +kernel);have C1:=hid (fun W=>kJ k n hk (by omega) W);have C2:=hid (fun v W h=>ja false v n k (by rw[if_neg (by simp)];exact hk.symm) hl W h);have d0:decide (k<0)=false:=decide_eq_false (by omega);have e0:¬ k<0:=by omega
 clear hl hk;go_enter Tryz.func66,Tryz.ntmps66
 go_upto_region 1 with fail
 refine aG w [(#[.bool false,.slice none 0 0],48)] rfl ?_;rintro W0 ⟨k1,hb⟩;have wo:=hid (show Below w.heap.size w W0 from hb);have K1:=hid k1;clear k1 hb;go_wp2_with fail
 with_reducible refine(C1.o _).mono ?_
 rintro e W1 ⟨kz,ol,rfl,w9,hb⟩;have K1:=hid (K1.o.below hb);have sw:=hbt wo hb;have RN1:=hid w9;clear hb w9;go_wp2_with fail
 with_reducible refine(C2.o _ _ RN1.o).mono ?_
 rintro e W2 ⟨oM,oV,rfl,su,hb⟩;have K1:=hid (K1.o.below hb);have rq:=hbt sw hb;have RK:=hid su;clear hb su;obtain ⟨r9,u6⟩:=ay K1.o rfl rfl;obtain ⟨ed,ek⟩:=bI K1.o;go_wp2;exact bodyPost_ret (v:=.agg #[.bool (ai k),.slice oM (ae k) oV]) (by simp[results,Tryz.results66,go_sem,r9,u6]) rfl ⟨_,_,rfl,(aS [.bool (ai k),.slice oM (ae k) oV] RK.o K1.o (by simp[bL]) (by simp[bi])),(az (l:=[.bool (ai k),.slice oM (ae k) oV]) (i:=0) (by omega) rq.o)⟩
end Go.Proofs.YtkiklcbhglpooaaGreatDoor
set_option maxRecDepth 100000
set_option maxHeartbeats 20000000
open Go.Lib (hid)
namespace Go.Proofs.YtkiklcbhglpooaaGreatDoor
open Go.RowKit Go.Gb
theorem xZ (v1 v2:Value)(a b q r:Nat)(hq:a / b=q)(hr:a%b=r)(hb:b≠0)(hl:ah a≤50000)(w:World)(h1:RN w v1 a)(h2:RN w v2 b) :
 Calls Tryz.prog 126 #[v1,v2] w fun e w'=>∃ p c p' c',e=.returned (.tuple #[.slice p (ah q) c,.slice p' (ah r) c'])∧RN w' (.slice p (ah q) c) q∧RN w' (.slice p' (ah r) c') r∧Below w.heap.size w w':=by
 subst hq hr;exact z5M v1 v2 a b hb hl w h1 h2
theorem z0m {w:World}{p:Option Addr}{n c g:Nat}(h:RN w (.slice p n c) g)(hg:(ag g).length=1):∃ b o,p=some ⟨b,o,none⟩∧n=1∧w.cell? ⟨b,o,none⟩=some (.int .u32 (g:Int)):=by
 rcases h with⟨e,h⟩|⟨b,o,c',e,h2,h3,h4,h5⟩
 · rw[h]at hg;cases hg
 · injection e with e1 e2 e3
   refine⟨b,o,e1,by omega,?_⟩;have h6:=h5 0 (by omega);have hv:=ax g
   have hd:ag g=[(ag g).getD 0 0]:=by
    match hk:ag g,hg with
    | [x],_=>rfl
   rw[hd]at hv;have e0:(ag g).getD 0 0=g:=by simpa [aj] using hv
   rw[e0]at h6;exact h6
theorem yZ (z:Int)(d:Nat)(hz:ae z≤50000)(hd:ah d≤50000)(p1:Option Addr)(c1:Nat)(s1:Option Addr)(d1:Nat)(hg:Nat.gcd z.natAbs d=1)(w:World)(r1:RN w (.slice p1 (ae z) c1) z.natAbs)(t1:RN w (.slice s1 (ah d) d1) d) :
 Calls Tryz.prog 76 #[.agg #[.bool (ai z),.slice p1 (ae z) c1],.slice s1 (ah d) d1] w fun e w'=>∃ p c s e1,e=.returned (.agg #[.bool (ai z),.slice p (ae z) c,.slice s (ah d) e1])∧RN w' (.slice p (ae z) c) z.natAbs∧RN w' (.slice s (ah d) e1) d∧Below w.heap.size w w':=by
 have C1:=hid (show ∀ v1 v2 W,RN W v1 z.natAbs→RN W v2 d→Calls Tryz.prog 75 #[v1,v2] W fun e w'=>∃ b o c,e=.returned (.slice (some ⟨b,o,none⟩) 1 c)∧w'.cell? ⟨b,o,none⟩=some (.int .u32 1)∧Below W.heap.size W w' from fun v1 v2 W h1 h2=>by
  refine(oh v1 v2 z.natAbs d 1 hg hz hd W h1 h2).mono ?_;rintro e w' ⟨p,c,rfl,hr,hb⟩;obtain⟨b,o,rfl,_,h⟩:=z0m hr jQ;rw[jQ]
  exact⟨b,o,c,rfl,h,hb⟩)
 clear hg hz hd;have R1:=hid r1;have T1:=hid t1;clear r1 t1;go_enter Tryz.func76,Tryz.ntmps76
 go_upto_region 1 with fail
 refine aG w [(#[.bool (ai z),.slice p1 (ae z) c1],48),(#[.bool false,.slice none 0 0,.slice none 0 0],50)] rfl ?_;rintro W0 ⟨k1,k2,hb⟩;have wo:=hid (show Below w.heap.size w W0 from hb);obtain ⟨R1,T1⟩:=aM wo.o R1 T1;obtain ⟨K1,K2⟩:=aC k1 k2;clear k1 k2 hb;have u6:=K1.o.cell (i:=1) rfl;go_wp2_with fail
 with_reducible refine(C1.o _ _ _ R1.o T1.o).mono ?_
 rintro e W1 ⟨kM,kS,ol,rfl,w9,hb⟩;clear u6;obtain ⟨K1,K2,R1,T1⟩:=bD hb K1 K2 R1 T1;have sw:=hbt wo hb;have XC:=hid w9;clear hb w9;have dxc:=XC.o;obtain ⟨r9,u6⟩:=ay K1.o rfl rfl;obtain ⟨ru,rM,rV⟩:=aU K2.o rfl rfl rfl;obtain ⟨l5,l6,lg⟩:=bZ K2.o;go_wp2;exact bodyPost_ret (v:=.agg #[.bool (ai z),.slice p1 (ae z) c1,.slice s1 (ah d) d1]) (by simp[results,Tryz.results76,go_sem,ru,rM,rV]) rfl ⟨_,_,_,_,rfl,(aS [.bool (ai z),.slice p1 (ae z) c1,.slice s1 (ah d) d1] R1.o K2.o (by simp[bL]) (by simp[bi])),(aS [.bool (ai z),.slice p1 (ae z) c1,.slice s1 (ah d) d1] T1.o K2.o (by simp[bL]) (by simp[bi])),(az (l:=[.bool (ai z),.slice p1 (ae z) c1,.slice s1 (ah d) d1]) (i:=0) (by omega) sw.o)⟩
theorem vJ (z:Int)(d:Nat)(hz:ae z≤50000)(hd:ah d≤50000)(p1:Option Addr)(c1:Nat)(s1:Option Addr)(d1:Nat)(g a a1 b b1:Nat)(y:Int)(hg:Nat.gcd z.natAbs d=g)(g0:g≠0)(g1:g≠1)(gl:ah g=1)(ha:z.natAbs / g=a)(ha1:z.natAbs%g=a1)(hb:d / g=b)(hb1:d%g=b1)(hy:y=if ai z then -(a:Int) else (a:Int))(w:World)(r1:RN w (.slice p1 (ae z) c1) z.natAbs)(t1:RN w (.slice s1 (ah d) d1) d) :
 Calls Tryz.prog 76 #[.agg #[.bool (ai z),.slice p1 (ae z) c1],.slice s1 (ah d) d1] w fun e w'=>∃ p c s e1,e=.returned (.agg #[.bool (ai y),.slice p (ae y) c,.slice s (ah b) e1])∧RN w' (.slice p (ae y) c) y.natAbs∧RN w' (.slice s (ah b) e1) b∧Below w.heap.size w w':=by
 have C1:=hid (show ∀ v1 v2 W,RN W v1 z.natAbs→RN W v2 d→Calls Tryz.prog 75 #[v1,v2] W fun e w'=>∃ b o c,e=.returned (.slice (some ⟨b,o,none⟩) 1 c)∧w'.cell? ⟨b,o,none⟩=some (.int .u32 (g:Int))∧RN w' (.slice (some ⟨b,o,none⟩) 1 c) g∧Below W.heap.size W w' from fun v1 v2 W h1 h2=>by
  refine(oh v1 v2 z.natAbs d g hg hz hd W h1 h2).mono ?_;rintro e w' ⟨p,c,rfl,hr,hb⟩;obtain⟨b,o,rfl,_,h⟩:=z0m hr gl;rw[gl]at hr ⊢
  exact⟨b,o,c,rfl,h,hr,hb⟩)
 have C2:=hid (fun v1 v2 W h1 h2=>xZ v1 v2 z.natAbs g a a1 ha ha1 g0 hz W h1 h2);have C3:=hid (fun v1 v2 W h1 h2=>xZ v1 v2 d g b b1 hb hb1 g0 hd W h1 h2);have C4:=hid (fun v W h=>ja (ai z) v a y hy (by rw[← ha];exact Nat.le_trans (fH (Nat.div_le_self _ _)) (Nat.le_trans hz (by decide))) W h);have g1':((g:Int)==1)=false:=by rw[beq_eq_false_iff_ne];omega
 have g2':¬ (g:Int)=1:=by omega
 have g3':¬ g=1:=g1;clear gl g1 hg hz hd g0 ha ha1 hb hb1 hy;have R1:=hid r1;have T1:=hid t1;clear r1 t1;go_enter Tryz.func76,Tryz.ntmps76
 go_upto_region 1 with fail
 refine aG w [(#[.bool (ai z),.slice p1 (ae z) c1],48),(#[.bool false,.slice none 0 0,.slice none 0 0],50)] rfl ?_;rintro W0 ⟨k1,k2,hb⟩;have wo:=hid (show Below w.heap.size w W0 from hb);obtain ⟨R1,T1⟩:=aM wo.o R1 T1;obtain ⟨K1,K2⟩:=aC k1 k2;clear k1 k2 hb;have u6:=K1.o.cell (i:=1) rfl;go_wp2_with fail
 with_reducible refine(C1.o _ _ _ R1.o T1.o).mono ?_
 rintro e W1 ⟨kM,kS,ol,rfl,w9,lv,hb⟩;clear u6;obtain ⟨K1,K2,R1,T1⟩:=bD hb K1 K2 R1 T1;have sw:=hbt wo hb;have XC:=hid w9;have RG:=hid lv;clear hb w9 lv;have dxc:=XC.o;have u6:=K1.o.cell (i:=1) rfl;go_wp2_with fail
 with_reducible refine(C2.o _ _ _ R1.o RG.o).mono ?_
 rintro e W2 ⟨kV,gy,gF,fo,rfl,su,p8,hb⟩;clear u6;obtain ⟨K1,K2,T1,RG⟩:=bD hb K1 K2 T1 RG;have rq:=hbt sw hb;have RA:=hid su;have RA1:=hid p8;clear hb su p8;go_wp2_with fail
 with_reducible refine(C3.o _ _ _ T1.o RG.o).mono ?_
 rintro e W3 ⟨wu,ww,fq,fQ,rfl,p9,pq,hb⟩;obtain ⟨K1,K2,RA⟩:=bX hb K1 K2 RA;have mf:=hbt rq hb;have RB:=hid p9;have RB1:=hid pq;clear hb p9 pq;have r9:=K1.o.cell (i:=0) rfl;go_wp2_with fail
 with_reducible refine(C4.o _ _ RA.o).mono ?_
 rintro e W4 ⟨si,sj,rfl,pu,hb⟩;clear r9;obtain ⟨K2,RB⟩:=aM hb K2 RB;have mi:=hbt mf hb;have RY:=hid pu;clear hb pu;obtain ⟨ru,rM,rV⟩:=aU K2.o rfl rfl rfl;obtain ⟨l5,l6,lg⟩:=bZ K2.o;go_wp2;exact bodyPost_ret (v:=.agg #[.bool (ai y),.slice si (ae y) sj,.slice wu (ah b) ww]) (by simp[results,Tryz.results76,go_sem,ru,rM,rV]) rfl ⟨_,_,_,_,rfl,(aS [.bool (ai y),.slice si (ae y) sj,.slice wu (ah b) ww] RY.o K2.o (by simp[bL]) (by simp[bi])),(aS [.bool (ai y),.slice si (ae y) sj,.slice wu (ah b) ww] RB.o K2.o (by simp[bL]) (by simp[bi])),(az (l:=[.bool (ai y),.slice si (ae y) sj,.slice wu (ah b) ww]) (i:=0) (by omega) mi.o)⟩
theorem vK (z:Int)(d:Nat)(hz:ae z≤50000)(hd:ah d≤50000)(p1:Option Addr)(c1:Nat)(s1:Option Addr)(d1:Nat)(g a a1 b b1:Nat)(y:Int)(hg:Nat.gcd z.natAbs d=g)(g0:g≠0)(gl:ah g≠1)(ha:z.natAbs / g=a)(ha1:z.natAbs%g=a1)(hb:d / g=b)(hb1:d%g=b1)(hy:y=if ai z then -(a:Int) else (a:Int))(w:World)(r1:RN w (.slice p1 (ae z) c1) z.natAbs)(t1:RN w (.slice s1 (ah d) d1) d) :
 Calls Tryz.prog 76 #[.agg #[.bool (ai z),.slice p1 (ae z) c1],.slice s1 (ah d) d1] w fun e w'=>∃ p c s e1,e=.returned (.agg #[.bool (ai y),.slice p (ae y) c,.slice s (ah b) e1])∧RN w' (.slice p (ae y) c) y.natAbs∧RN w' (.slice s (ah b) e1) b∧Below w.heap.size w w':=by
 have C1:=hid (fun v1 v2 W h1 h2=>oh v1 v2 z.natAbs d g hg hz hd W h1 h2);have C2:=hid (fun v1 v2 W h1 h2=>xZ v1 v2 z.natAbs g a a1 ha ha1 g0 hz W h1 h2);have C3:=hid (fun v1 v2 W h1 h2=>xZ v1 v2 d g b b1 hb hb1 g0 hd W h1 h2);have C4:=hid (fun v W h=>ja (ai z) v a y hy (by rw[← ha];exact Nat.le_trans (fH (Nat.div_le_self _ _)) (Nat.le_trans hz (by decide))) W h);have g1':((ah g:Int)==1)=false:=by rw[beq_eq_false_iff_ne];omega
 have g2':¬ (ah g:Int)=1:=by omega
 have g3':¬ ah g=1:=gl;clear gl hg hz hd g0 ha ha1 hb hb1 hy;have R1:=hid r1;have T1:=hid t1;clear r1 t1;go_enter Tryz.func76,Tryz.ntmps76
 go_upto_region 1 with fail
 refine aG w [(#[.bool (ai z),.slice p1 (ae z) c1],48),(#[.bool false,.slice none 0 0,.slice none 0 0],50)] rfl ?_;rintro W0 ⟨k1,k2,hb⟩;have wo:=hid (show Below w.heap.size w W0 from hb);obtain ⟨R1,T1⟩:=aM wo.o R1 T1;obtain ⟨K1,K2⟩:=aC k1 k2;clear k1 k2 hb;have u6:=K1.o.cell (i:=1) rfl;go_wp2_with fail
 with_reducible refine(C1.o _ _ _ R1.o T1.o).mono ?_
 rintro e W1 ⟨kz,ol,rfl,w9,hb⟩;clear u6;obtain ⟨K1,K2,R1,T1⟩:=bD hb K1 K2 R1 T1;have sw:=hbt wo hb;have RG:=hid w9;clear hb w9;have u6:=K1.o.cell (i:=1) rfl;go_wp2_with fail
 with_reducible refine(C2.o _ _ _ R1.o RG.o).mono ?_
 rintro e W2 ⟨kV,gy,gF,fo,rfl,su,p8,hb⟩;clear u6;obtain ⟨K1,K2,T1,RG⟩:=bD hb K1 K2 T1 RG;have rq:=hbt sw hb;have RA:=hid su;have RA1:=hid p8;clear hb su p8;go_wp2_with fail
 with_reducible refine(C3.o _ _ _ T1.o RG.o).mono ?_
 rintro e W3 ⟨wu,ww,fq,fQ,rfl,p9,pq,hb⟩;obtain ⟨K1,K2,RA⟩:=bX hb K1 K2 RA;have mf:=hbt rq hb;have RB:=hid p9;have RB1:=hid pq;clear hb p9 pq;have r9:=K1.o.cell (i:=0) rfl;go_wp2_with fail
 with_reducible refine(C4.o _ _ RA.o).mono ?_
 rintro e W4 ⟨si,sj,rfl,pu,hb⟩;clear r9;obtain ⟨K2,RB⟩:=aM hb K2 RB;have mi:=hbt mf hb;have RY:=hid pu;clear hb pu;obtain ⟨ru,rM,rV⟩:=aU K2.o rfl rfl rfl;obtain ⟨l5,l6,lg⟩:=bZ K2.o;go_wp2;exact bodyPost_ret (v:=.agg #[.bool (ai y),.slice si (ae y) sj,.slice wu (ah b) ww]) (by simp[results,Tryz.results76,go_sem,ru,rM,rV]) rfl ⟨_,_,_,_,rfl,(aS [.bool (ai y),.slice si (ae y) sj,.slice wu (ah b) ww] RY.o K2.o (by simp[bL]) (by simp[bi])),(aS [.bool (ai y),.slice si (ae y) sj,.slice wu (ah b) ww] RB.o K2.o (by simp[bL]) (by simp[bi])),(az (l:=[.bool (ai y),.slice si (ae y) sj,.slice wu (ah b) ww]) (i:=0) (by omega) mi.o)⟩
