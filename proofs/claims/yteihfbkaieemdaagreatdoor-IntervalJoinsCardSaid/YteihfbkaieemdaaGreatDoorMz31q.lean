/- texts -/
import Derived.Test.YteihfbkaieemdaaGreatDoorMz23q
import Derived.Test.YteihfbkaieemdaaGreatDoorQj
import Derived.Lib.Repeat
import Derived.Shelf.Strings.SlTrimAscii
open Go.Proofs.Tryz
namespace Go.Proofs.YteihfbkaieemdaaGreatDoor
open Go.RowKit Go.Gb
theorem uW (x y:Int):((y.natAbs:Nat):Int)*((x.natAbs / y.natAbs:Nat):Int)+((x.natAbs%y.natAbs:Nat):Int)=(x.natAbs:Int):=by
 exact_mod_cast Nat.div_add_mod x.natAbs y.natAbs
theorem z1R (x y:Int)(hy:y≠0)(hx:ah x=false):x / y=(if ah y then -((x.natAbs / y.natAbs:Nat):Int) else ((x.natAbs / y.natAbs:Nat):Int))∧x%y=((x.natAbs%y.natAbs:Nat):Int):=by
 have hx0:¬ x<0:=of_decide_eq_false hx;have h1:=uW x y;have h2:=Nat.mod_lt x.natAbs (y:=y.natAbs) (by omega);refine eu x y hy _ _ ⟨?_,by omega,by omega⟩;generalize ((x.natAbs / y.natAbs:Nat):Int)=q at *;unfold ah
 by_cases h:y<0
 · have e:y*q = -((y.natAbs:Int)*q):=by rw[show(y.natAbs:Int) = -y by omega,Int.neg_mul,Int.neg_neg]
   rw[decide_eq_true h,if_pos rfl,Int.mul_neg];omega
 · rw[decide_eq_false h,if_neg (by simp)]
   have e:y*q=(y.natAbs:Int)*q:=by rw[show(y.natAbs:Int)=y by omega]
   omega
theorem yu (x y:Int)(hy:y≠0)(hx:ah x=true)(h0:x.natAbs%y.natAbs=0):x / y=(if !ah y then -((x.natAbs / y.natAbs:Nat):Int) else ((x.natAbs / y.natAbs:Nat):Int))∧x%y=0:=by
 have hx0:x<0:=of_decide_eq_true hx;have h1:=uW x y;rw[h0]at h1;refine eu x y hy _ _ ⟨?_,by omega,by omega⟩;generalize ((x.natAbs / y.natAbs:Nat):Int)=q at *;unfold ah
 by_cases h:y<0
 · rw[decide_eq_true h]
   have e:y*q = -((y.natAbs:Int)*q):=by rw[show(y.natAbs:Int) = -y by omega,Int.neg_mul,Int.neg_neg]
   simp;omega
 · rw[decide_eq_false h]
   have e:y*q=(y.natAbs:Int)*q:=by rw[show(y.natAbs:Int)=y by omega]
   simp[Int.mul_neg];omega
theorem z1S (x y:Int)(hy:y≠0)(hx:ah x=true)(h0:x.natAbs%y.natAbs≠0):x / y=(if !ah y then -((x.natAbs / y.natAbs+1:Nat):Int) else ((x.natAbs / y.natAbs+1:Nat):Int))∧x%y=((y.natAbs-x.natAbs%y.natAbs:Nat):Int):=by
 have hx0:x<0:=of_decide_eq_true hx;have h1:=uW x y;have h2:=Nat.mod_lt x.natAbs (y:=y.natAbs) (by omega);refine eu x y hy _ _ ⟨?_,by omega,by omega⟩;rw[Int.natCast_add];generalize ((x.natAbs / y.natAbs:Nat):Int)=q at *;unfold ah
 by_cases h:y<0
 · rw[decide_eq_true h]
   have e:y*q = -((y.natAbs:Int)*q):=by rw[show(y.natAbs:Int) = -y by omega,Int.neg_mul,Int.neg_neg]
   simp[Int.mul_add];omega
 · rw[decide_eq_false h]
   have e:y*q=(y.natAbs:Int)*q:=by rw[show(y.natAbs:Int)=y by omega]
   simp[Int.mul_add,Int.mul_neg];omega
theorem z1U {n:Nat}(h:n≠0):0<ag n:=List.length_pos_iff.2 (by rw[bN h];simp)
theorem z5z (x y q r:Int)(hq:x / y=q)(hr:x%y=r)(hy:y≠0)(hx:aa x≤50000)(hly:aa y≤50000)(p1:Option Addr)(c1:Nat)(p2:Option Addr)(c2:Nat)(w:World)(r1:RN w (.slice p1 (aa x) c1) x.natAbs)(r2:RN w (.slice p2 (aa y) c2) y.natAbs) :
 Calls Tryz.prog 149 #[.agg #[.bool (ah x),.slice p1 (aa x) c1],.agg #[.bool (ah y),.slice p2 (aa y) c2]] w fun e w'=>∃ p c p' c',e=.returned (.tuple #[.agg #[.bool (ah q),.slice p (aa q) c],.agg #[.bool (ah r),.slice p' (aa r) c']])∧RN w' (.slice p (aa q) c) q.natAbs∧RN w' (.slice p' (aa r) c') r.natAbs∧Below w.heap.size w w':=by
 have hdl:ag (x.natAbs / y.natAbs)≤50000:=Nat.le_trans (ig (Nat.div_le_self _ _)) hx;have hml:ag (x.natAbs%y.natAbs)≤50000:=Nat.le_trans (ig (Nat.mod_le _ _)) hx;have hC:=fun W (h:Below w.heap.size w W)=>z5k (.slice p1 (aa x) c1) (.slice p2 (aa y) c2) x.natAbs y.natAbs (by omega) hx W (r1.below h) (r2.below h)
 cases hs:ah x with
 | false =>
   obtain⟨e1,e2⟩:=z1R x y hy hs;exact z3E p1 _ c1 p2 _ c2 (ah y) _ _ q r (by omega) (by omega) (hq▸e1) (hr▸e2) w hC
 | true =>
   by_cases h0:x.natAbs%y.natAbs=0
   · obtain⟨e1,e2⟩:=yu x y hy hs h0
     rw[h0]at hC;exact z1g p1 _ c1 p2 _ c2 (ah y) _ q r (by omega) (hq▸e1) (hr▸e2) w hC
   · obtain⟨e1,e2⟩:=z1S x y hy hs h0
     have hlt:=Nat.mod_lt x.natAbs (y:=y.natAbs) (by omega);exact z3D p1 _ c1 p2 _ c2 (ah y) _ _ y.natAbs q r (by omega) (z1U h0) (by unfold aa at hly;omega) (by omega) (hq▸e1) (hr▸e2) w r2 hC
theorem sTo (z:Int)(s:ByteArray)(hs:Sz z=s)(hf:aa z≤10000)(hs2:(Sn z.natAbs).size≤100000)(p:Option Addr)(c:Nat)(w:World)(h:RN w (.slice p (aa z) c) z.natAbs) :
 CR 99 #[.agg #[.bool (ah z),.slice p (aa z) c]] w (.string s):=by subst hs;exact zTo _ z hf hs2 w (Rz.mk h)
theorem uS (z s:Int)(hs:z.sign=s)(p:Option Addr)(c:Nat)(w:World)(h:RN w (.slice p (aa z) c) z.natAbs) :
 CR 103 #[.agg #[.bool (ah z),.slice p (aa z) c]] w (.int .i64 s):=by subst hs;exact z3C _ z w (Rz.mk h)
theorem z4P (x y z:Int)(hz:x*y=z)(hx:aa x≤50000)(hy:aa y≤50000)(p1:Option Addr)(c1:Nat)(p2:Option Addr)(c2:Nat)(w:World)(r1:RN w (.slice p1 (aa x) c1) x.natAbs)(r2:RN w (.slice p2 (aa y) c2) y.natAbs) :
 CZ 73 #[.agg #[.bool (ah x),.slice p1 (aa x) c1],.agg #[.bool (ah y),.slice p2 (aa y) c2]] w z:=by subst hz;exact zM (z4B _ _ x y hx hy w (Rz.mk r1) (Rz.mk r2))
theorem zK (x z:Int)(hz : -x=z)(hx:aa x≤1000000)(p1:Option Addr)(c1:Nat)(w:World)(r1:RN w (.slice p1 (aa x) c1) x.natAbs) :
 CZ 119 #[.agg #[.bool (ah x),.slice p1 (aa x) c1]] w z:=by subst hz;exact zM (rX _ x hx w (Rz.mk r1))
set_option maxRecDepth 100000
set_option maxHeartbeats 20000000
open Go.Lib (hid)
theorem z4Q (k:Int)(n:Nat)(hk:(n:Int)=k)(h0:0≤k)(h1:k≤2000000000)(w:World) :
 CZ 75 #[.int .i64 k] w k:=by
 have hl:ag n≤1000000:=Nat.le_trans (ig (show n≤2000000000 by omega)) (by decide +kernel);have C1:=hid (fun W=>ma k n hk (by omega) W);have C2:=hid (fun v W h=>jJ false v n k (by rw[if_neg (by simp)];exact hk.symm) hl W h);have d0:decide (k<0)=false:=decide_eq_false (by omega);have e0:¬ k<0:=by omega
 clear hl hk;go_enter func75,ntmps75
 go_upto_region 1 with fail
 refine az w [(#[.bool false,.slice none 0 0],52)] rfl ?_;rintro W0 ⟨k1,hb⟩;have u6:=hid (show Below w.heap.size w W0 from hb);have K1:=hid k1;clear k1 hb;go_wp2_with fail
 with_reducible refine(C1.o _).mono ?_
 rintro e W1 ⟨kM,mf,rfl,wm,hb⟩;have K1:=hid (K1.o.below hb);have wo:=hbt u6 hb;have RN1:=hid wm;clear hb wm;go_wp2_with fail
 with_reducible refine(C2.o _ _ RN1.o).mono ?_
 rintro e W2 ⟨mi,l5,rfl,sw,hb⟩;have K1:=hid (K1.o.below hb);have r9:=hbt wo hb;have RK:=hid sw;clear hb sw;obtain ⟨rq,w9⟩:=av K1.o rfl rfl;obtain ⟨dx,dz⟩:=bF K1.o;go_wp2;exact bodyPost_ret (v:=.agg #[.bool (ah k),.slice mi (aa k) l5]) (by simp[results,results75,go_sem,rq,w9]) rfl ⟨_,_,rfl,(bi [.bool (ah k),.slice mi (aa k) l5] RK.o K1.o (by simp[bL]) (by simp[bA])),(ay (l:=[.bool (ah k),.slice mi (aa k) l5]) (i:=0) (by omega) r9.o)⟩
end Go.Proofs.YteihfbkaieemdaaGreatDoor
set_option maxRecDepth 100000
set_option maxHeartbeats 20000000
open Go.Lib (hid)
namespace Go.Proofs.YteihfbkaieemdaaGreatDoor
open Go.RowKit Go.Gb
theorem xQ (v1 v2:Value)(a b q r:Nat)(hq:a / b=q)(hr:a%b=r)(hb:b≠0)(hl:ag a≤50000)(w:World)(h1:RN w v1 a)(h2:RN w v2 b) :
 Calls Tryz.prog 110 #[v1,v2] w fun e w'=>∃ p c p' c',e=.returned (.tuple #[.slice p (ag q) c,.slice p' (ag r) c'])∧RN w' (.slice p (ag q) c) q∧RN w' (.slice p' (ag r) c') r∧Below w.heap.size w w':=by
 subst hq hr;exact z5k v1 v2 a b hb hl w h1 h2
theorem zU {w:World}{p:Option Addr}{n c g:Nat}(h:RN w (.slice p n c) g)(hg:(ae g).length=1):∃ b o,p=some ⟨b,o,none⟩∧n=1∧w.cell? ⟨b,o,none⟩=some (.int .u32 (g:Int)):=by
 rcases h with⟨e,h⟩|⟨b,o,c',e,h2,h3,h4,h5⟩
 · rw[h]at hg;cases hg
 · injection e with e1 e2 e3
   refine⟨b,o,e1,by omega,?_⟩;have h6:=h5 0 (by omega);have hv:=aA g
   have hd:ae g=[(ae g).getD 0 0]:=by
    match hk:ae g,hg with
    | [x],_=>rfl
   rw[hd]at hv;have e0:(ae g).getD 0 0=g:=by simpa [aj] using hv
   rw[e0]at h6;exact h6
theorem yA (z:Int)(d:Nat)(hz:aa z≤50000)(hd:ag d≤50000)(p1:Option Addr)(c1:Nat)(s1:Option Addr)(d1:Nat)(hg:Nat.gcd z.natAbs d=1)(w:World)(r1:RN w (.slice p1 (aa z) c1) z.natAbs)(t1:RN w (.slice s1 (ag d) d1) d) :
 Calls Tryz.prog 72 #[.agg #[.bool (ah z),.slice p1 (aa z) c1],.slice s1 (ag d) d1] w fun e w'=>∃ p c s e1,e=.returned (.agg #[.bool (ah z),.slice p (aa z) c,.slice s (ag d) e1])∧RN w' (.slice p (aa z) c) z.natAbs∧RN w' (.slice s (ag d) e1) d∧Below w.heap.size w w':=by
 have C1:=hid (show ∀ v1 v2 W,RN W v1 z.natAbs→RN W v2 d→Calls Tryz.prog 109 #[v1,v2] W fun e w'=>∃ b o c,e=.returned (.slice (some ⟨b,o,none⟩) 1 c)∧w'.cell? ⟨b,o,none⟩=some (.int .u32 1)∧Below W.heap.size W w' from fun v1 v2 W h1 h2=>by
  refine(o5 v1 v2 z.natAbs d 1 hg hz hd W h1 h2).mono ?_;rintro e w' ⟨p,c,rfl,hr,hb⟩;obtain⟨b,o,rfl,_,h⟩:=zU hr kS;rw[kS]
  exact⟨b,o,c,rfl,h,hb⟩)
 clear hg hz hd;have R1:=hid r1;have T1:=hid t1;clear r1 t1;go_enter func72,ntmps72
 go_upto_region 1 with fail
 refine az w [(#[.bool (ah z),.slice p1 (aa z) c1],52),(#[.bool false,.slice none 0 0,.slice none 0 0],54)] rfl ?_;rintro W0 ⟨k1,k2,hb⟩;have u6:=hid (show Below w.heap.size w W0 from hb);obtain ⟨R1,T1⟩:=aP u6.o R1 T1;obtain ⟨K1,K2⟩:=aB k1 k2;clear k1 k2 hb;have w9:=K1.o.cell (i:=1) rfl;go_wp2_with fail
 with_reducible refine(C1.o _ _ _ R1.o T1.o).mono ?_
 rintro e W1 ⟨kV,gy,mf,rfl,wm,hb⟩;clear w9;obtain ⟨K1,K2,R1,T1⟩:=bB hb K1 K2 R1 T1;have wo:=hbt u6 hb;have XC:=hid wm;clear hb wm;have dxc:=XC.o;obtain ⟨rq,w9⟩:=av K1.o rfl rfl;obtain ⟨ru,rM,rV⟩:=aS K2.o rfl rfl rfl;obtain ⟨lg,lm,lv⟩:=cB K2.o;go_wp2;exact bodyPost_ret (v:=.agg #[.bool (ah z),.slice p1 (aa z) c1,.slice s1 (ag d) d1]) (by simp[results,results72,go_sem,ru,rM,rV]) rfl ⟨_,_,_,_,rfl,(bi [.bool (ah z),.slice p1 (aa z) c1,.slice s1 (ag d) d1] R1.o K2.o (by simp[bL]) (by simp[bA])),(bi [.bool (ah z),.slice p1 (aa z) c1,.slice s1 (ag d) d1] T1.o K2.o (by simp[bL]) (by simp[bA])),(ay (l:=[.bool (ah z),.slice p1 (aa z) c1,.slice s1 (ag d) d1]) (i:=0) (by omega) wo.o)⟩
theorem uY (z:Int)(d:Nat)(hz:aa z≤50000)(hd:ag d≤50000)(p1:Option Addr)(c1:Nat)(s1:Option Addr)(d1:Nat)(g a a1 b b1:Nat)(y:Int)(hg:Nat.gcd z.natAbs d=g)(g0:g≠0)(g1:g≠1)(gl:ag g=1)(ha:z.natAbs / g=a)(ha1:z.natAbs%g=a1)(hb:d / g=b)(hb1:d%g=b1)(hy:y=if ah z then -(a:Int) else (a:Int))(w:World)(r1:RN w (.slice p1 (aa z) c1) z.natAbs)(t1:RN w (.slice s1 (ag d) d1) d) :
 Calls Tryz.prog 72 #[.agg #[.bool (ah z),.slice p1 (aa z) c1],.slice s1 (ag d) d1] w fun e w'=>∃ p c s e1,e=.returned (.agg #[.bool (ah y),.slice p (aa y) c,.slice s (ag b) e1])∧RN w' (.slice p (aa y) c) y.natAbs∧RN w' (.slice s (ag b) e1) b∧Below w.heap.size w w':=by
 have C1:=hid (show ∀ v1 v2 W,RN W v1 z.natAbs→RN W v2 d→Calls Tryz.prog 109 #[v1,v2] W fun e w'=>∃ b o c,e=.returned (.slice (some ⟨b,o,none⟩) 1 c)∧w'.cell? ⟨b,o,none⟩=some (.int .u32 (g:Int))∧RN w' (.slice (some ⟨b,o,none⟩) 1 c) g∧Below W.heap.size W w' from fun v1 v2 W h1 h2=>by
  refine(o5 v1 v2 z.natAbs d g hg hz hd W h1 h2).mono ?_;rintro e w' ⟨p,c,rfl,hr,hb⟩;obtain⟨b,o,rfl,_,h⟩:=zU hr gl;rw[gl]at hr ⊢
  exact⟨b,o,c,rfl,h,hr,hb⟩)
 have C2:=hid (fun v1 v2 W h1 h2=>xQ v1 v2 z.natAbs g a a1 ha ha1 g0 hz W h1 h2);have C3:=hid (fun v1 v2 W h1 h2=>xQ v1 v2 d g b b1 hb hb1 g0 hd W h1 h2);have C4:=hid (fun v W h=>jJ (ah z) v a y hy (by rw[← ha];exact Nat.le_trans (ig (Nat.div_le_self _ _)) (Nat.le_trans hz (by decide))) W h);have g1':((g:Int)==1)=false:=by rw[beq_eq_false_iff_ne];omega
 have g2':¬ (g:Int)=1:=by omega
 have g3':¬ g=1:=g1;clear gl g1 hg hz hd g0 ha ha1 hb hb1 hy;have R1:=hid r1;have T1:=hid t1;clear r1 t1;go_enter func72,ntmps72
 go_upto_region 1 with fail
 refine az w [(#[.bool (ah z),.slice p1 (aa z) c1],52),(#[.bool false,.slice none 0 0,.slice none 0 0],54)] rfl ?_;rintro W0 ⟨k1,k2,hb⟩;have u6:=hid (show Below w.heap.size w W0 from hb);obtain ⟨R1,T1⟩:=aP u6.o R1 T1;obtain ⟨K1,K2⟩:=aB k1 k2;clear k1 k2 hb;have w9:=K1.o.cell (i:=1) rfl;go_wp2_with fail
 with_reducible refine(C1.o _ _ _ R1.o T1.o).mono ?_
 rintro e W1 ⟨kV,gy,mf,rfl,wm,kz,hb⟩;clear w9;obtain ⟨K1,K2,R1,T1⟩:=bB hb K1 K2 R1 T1;have wo:=hbt u6 hb;have XC:=hid wm;have RG:=hid kz;clear hb wm kz;have dxc:=XC.o;have w9:=K1.o.cell (i:=1) rfl;go_wp2_with fail
 with_reducible refine(C2.o _ _ _ R1.o RG.o).mono ?_
 rintro e W2 ⟨gF,fq,fQ,ed,rfl,sw,p8,hb⟩;clear w9;obtain ⟨K1,K2,T1,RG⟩:=bB hb K1 K2 T1 RG;have r9:=hbt wo hb;have RA:=hid sw;have RA1:=hid p8;clear hb sw p8;go_wp2_with fail
 with_reducible refine(C3.o _ _ _ T1.o RG.o).mono ?_
 rintro e W3 ⟨wu,ww,eX,d9,rfl,p9,pq,hb⟩;obtain ⟨K1,K2,RA⟩:=bR hb K1 K2 RA;have pu:=hbt r9 hb;have RB:=hid p9;have RB1:=hid pq;clear hb p9 pq;have rq:=K1.o.cell (i:=0) rfl;go_wp2_with fail
 with_reducible refine(C4.o _ _ RA.o).mono ?_
 rintro e W4 ⟨si,sj,rfl,ol,hb⟩;clear rq;obtain ⟨K2,RB⟩:=aP hb K2 RB;have oM:=hbt pu hb;have RY:=hid ol;clear hb ol;obtain ⟨ru,rM,rV⟩:=aS K2.o rfl rfl rfl;obtain ⟨lg,lm,lv⟩:=cB K2.o;go_wp2;exact bodyPost_ret (v:=.agg #[.bool (ah y),.slice si (aa y) sj,.slice wu (ag b) ww]) (by simp[results,results72,go_sem,ru,rM,rV]) rfl ⟨_,_,_,_,rfl,(bi [.bool (ah y),.slice si (aa y) sj,.slice wu (ag b) ww] RY.o K2.o (by simp[bL]) (by simp[bA])),(bi [.bool (ah y),.slice si (aa y) sj,.slice wu (ag b) ww] RB.o K2.o (by simp[bL]) (by simp[bA])),(ay (l:=[.bool (ah y),.slice si (aa y) sj,.slice wu (ag b) ww]) (i:=0) (by omega) oM.o)⟩
theorem uZ (z:Int)(d:Nat)(hz:aa z≤50000)(hd:ag d≤50000)(p1:Option Addr)(c1:Nat)(s1:Option Addr)(d1:Nat)(g a a1 b b1:Nat)(y:Int)(hg:Nat.gcd z.natAbs d=g)(g0:g≠0)(gl:ag g≠1)(ha:z.natAbs / g=a)(ha1:z.natAbs%g=a1)(hb:d / g=b)(hb1:d%g=b1)(hy:y=if ah z then -(a:Int) else (a:Int))(w:World)(r1:RN w (.slice p1 (aa z) c1) z.natAbs)(t1:RN w (.slice s1 (ag d) d1) d) :
 Calls Tryz.prog 72 #[.agg #[.bool (ah z),.slice p1 (aa z) c1],.slice s1 (ag d) d1] w fun e w'=>∃ p c s e1,e=.returned (.agg #[.bool (ah y),.slice p (aa y) c,.slice s (ag b) e1])∧RN w' (.slice p (aa y) c) y.natAbs∧RN w' (.slice s (ag b) e1) b∧Below w.heap.size w w':=by
 have C1:=hid (fun v1 v2 W h1 h2=>o5 v1 v2 z.natAbs d g hg hz hd W h1 h2);have C2:=hid (fun v1 v2 W h1 h2=>xQ v1 v2 z.natAbs g a a1 ha ha1 g0 hz W h1 h2);have C3:=hid (fun v1 v2 W h1 h2=>xQ v1 v2 d g b b1 hb hb1 g0 hd W h1 h2);have C4:=hid (fun v W h=>jJ (ah z) v a y hy (by rw[← ha];exact Nat.le_trans (ig (Nat.div_le_self _ _)) (Nat.le_trans hz (by decide))) W h);have g1':((ag g:Int)==1)=false:=by rw[beq_eq_false_iff_ne];omega
 have g2':¬ (ag g:Int)=1:=by omega
 have g3':¬ ag g=1:=gl;clear gl hg hz hd g0 ha ha1 hb hb1 hy;have R1:=hid r1;have T1:=hid t1;clear r1 t1;go_enter func72,ntmps72
 go_upto_region 1 with fail
 refine az w [(#[.bool (ah z),.slice p1 (aa z) c1],52),(#[.bool false,.slice none 0 0,.slice none 0 0],54)] rfl ?_;rintro W0 ⟨k1,k2,hb⟩;have u6:=hid (show Below w.heap.size w W0 from hb);obtain ⟨R1,T1⟩:=aP u6.o R1 T1;obtain ⟨K1,K2⟩:=aB k1 k2;clear k1 k2 hb;have w9:=K1.o.cell (i:=1) rfl;go_wp2_with fail
 with_reducible refine(C1.o _ _ _ R1.o T1.o).mono ?_
 rintro e W1 ⟨kM,mf,rfl,wm,hb⟩;clear w9;obtain ⟨K1,K2,R1,T1⟩:=bB hb K1 K2 R1 T1;have wo:=hbt u6 hb;have RG:=hid wm;clear hb wm;have w9:=K1.o.cell (i:=1) rfl;go_wp2_with fail
 with_reducible refine(C2.o _ _ _ R1.o RG.o).mono ?_
 rintro e W2 ⟨gF,fq,fQ,ed,rfl,sw,p8,hb⟩;clear w9;obtain ⟨K1,K2,T1,RG⟩:=bB hb K1 K2 T1 RG;have r9:=hbt wo hb;have RA:=hid sw;have RA1:=hid p8;clear hb sw p8;go_wp2_with fail
 with_reducible refine(C3.o _ _ _ T1.o RG.o).mono ?_
 rintro e W3 ⟨wu,ww,eX,d9,rfl,p9,pq,hb⟩;obtain ⟨K1,K2,RA⟩:=bR hb K1 K2 RA;have pu:=hbt r9 hb;have RB:=hid p9;have RB1:=hid pq;clear hb p9 pq;have rq:=K1.o.cell (i:=0) rfl;go_wp2_with fail
 with_reducible refine(C4.o _ _ RA.o).mono ?_
 rintro e W4 ⟨si,sj,rfl,ol,hb⟩;clear rq;obtain ⟨K2,RB⟩:=aP hb K2 RB;have oM:=hbt pu hb;have RY:=hid ol;clear hb ol;obtain ⟨ru,rM,rV⟩:=aS K2.o rfl rfl rfl;obtain ⟨lg,lm,lv⟩:=cB K2.o;go_wp2;exact bodyPost_ret (v:=.agg #[.bool (ah y),.slice si (aa y) sj,.slice wu (ag b) ww]) (by simp[results,results72,go_sem,ru,rM,rV]) rfl ⟨_,_,_,_,rfl,(bi [.bool (ah y),.slice si (aa y) sj,.slice wu (ag b) ww] RY.o K2.o (by simp[bL]) (by simp[bA])),(bi [.bool (ah y),.slice si (aa y) sj,.slice wu (ag b) ww] RB.o K2.o (by simp[bL]) (by simp[bA])),(ay (l:=[.bool (ah y),.slice si (aa y) sj,.slice wu (ag b) ww]) (i:=0) (by omega) oM.o)⟩
structure QS where
 b:Bool
 a:Option Addr
 n:Nat
 c:Nat
 e:Option Addr
 m:Nat
 d:Nat
def FQ (W:World) (q:QS) (x:Rat):Prop:=q.b=ah x.num∧q.n=aa x.num∧q.m=ag x.den∧RN W (.slice q.a q.n q.c) x.num.natAbs∧RN W (.slice q.e q.m q.d) x.den
theorem FQ.below {W W':World}{q:QS}{x:Rat}(h:FQ W q x)(hb:Below W.heap.size W W'):FQ W' q x:=⟨h.1,h.2.1,h.2.2.1,h.2.2.2.1.below hb,h.2.2.2.2.below hb⟩
theorem di {q:QS}{x:Rat}{g:Nat}{T:TypeId}(l:List Value)(i:Nat){w:World}{cs:Array Value}(h:FQ w q x)(hg:SBk w g cs T)(hn:bL cs=true)(hl:l.all bA=true):FQ (storeAll w g i l) q x:=⟨h.1,h.2.1,h.2.2.1,mP l i h.2.2.2.1 hg hn hl,mP l i h.2.2.2.2 hg hn hl⟩
abbrev QS.l (q:QS):List Value:=[.bool q.b,.slice q.a q.n q.c,.slice q.e q.m q.d]
abbrev Lvv (qa qb qc:QS):List Value:=[.bool qa.b,.slice qa.a qa.n qa.c,.slice qa.e qa.m qa.d,.bool qb.b,.slice qb.a qb.n qb.c,.slice qb.e qb.m qb.d,.bool qc.b,.slice qc.a qc.n qc.c,.slice qc.e qc.m qc.d]
abbrev QS.v (q:QS):Value:=.agg #[.bool q.b,.slice q.a q.n q.c,.slice q.e q.m q.d]
abbrev Qvv (qa qb qc:QS):Value:=.agg #[.bool qa.b,.slice qa.a qa.n qa.c,.slice qa.e qa.m qa.d,.bool qb.b,.slice qb.a qb.n qb.c,.slice qb.e qb.m qb.d,.bool qc.b,.slice qc.a qc.n qc.c,.slice qc.e qc.m qc.d]
abbrev RQ (W:World) (x:Rat):Ending→World→Prop:=fun e w'=>∃ q:QS,e=.returned (.agg #[.bool q.b,.slice q.a q.n q.c,.slice q.e q.m q.d])∧FQ w' q x∧Below W.heap.size W w'
abbrev RQb (W:World) (x:Rat) (b:Bool):Ending→World→Prop:=fun e w'=>∃ q:QS,e=.returned (.tuple #[.agg #[.bool q.b,.slice q.a q.n q.c,.slice q.e q.m q.d],.bool b])∧FQ w' q x∧Below W.heap.size W w'
abbrev RP (W:World) (v:Value):Ending→World→Prop:=fun e w'=>e=.returned v∧Below W.heap.size W w'
abbrev KQ1 (f:Nat) (x0:Rat) (z:Rat):Prop:=∀ (q0:QS) (W:World),FQ W q0 x0→Calls Tryz.prog f #[.agg #[.bool q0.b,.slice q0.a q0.n q0.c,.slice q0.e q0.m q0.d]] W (RQ W z)
abbrev KQ2 (f:Nat) (x0 x1:Rat) (z:Rat):Prop:=∀ (q0 q1:QS) (W:World),FQ W q0 x0→FQ W q1 x1→Calls Tryz.prog f #[.agg #[.bool q0.b,.slice q0.a q0.n q0.c,.slice q0.e q0.m q0.d],.agg #[.bool q1.b,.slice q1.a q1.n q1.c,.slice q1.e q1.m q1.d]] W (RQ W z)
abbrev KP1 (f:Nat) (x0:Rat) (v:Value):Prop:=∀ (q0:QS) (W:World),FQ W q0 x0→Calls Tryz.prog f #[.agg #[.bool q0.b,.slice q0.a q0.n q0.c,.slice q0.e q0.m q0.d]] W (RP W v)
abbrev KP2 (f:Nat) (x0 x1:Rat) (v:Value):Prop:=∀ (q0 q1:QS) (W:World),FQ W q0 x0→FQ W q1 x1→Calls Tryz.prog f #[.agg #[.bool q0.b,.slice q0.a q0.n q0.c,.slice q0.e q0.m q0.d],.agg #[.bool q1.b,.slice q1.a q1.n q1.c,.slice q1.e q1.m q1.d]] W (RP W v)
abbrev KS (f:Nat) (v0:Value) (z:Rat):Prop:=∀ (W:World),Calls Tryz.prog f #[v0] W (RQ W z)
abbrev KSb (f:Nat) (v0:Value) (z:Rat) (b:Bool):Prop:=∀ (W:World),Calls Tryz.prog f #[v0] W (RQb W z b)
def Rel.q (x:Rat):Rel:=⟨fun v W=>∃ q:QS,v=q.v∧FQ W q x,fun _ _ _ ⟨q,e,h⟩ hb=>⟨q,e,h.below hb⟩⟩
section
variable {ops:Array Oper} {m:Nat} {sl:Nat→Nat} {L:List Rel} {a0:Act} {P:World→Prop} {oV:Array Bool} {a:Act} {w:World}
theorem qAt (h:RInv ops m sl (RelR L) a0 P oV a w)(i d:Nat){j:Nat}{x:Rat}(hj:j∈Region.ready .any ops oV)(hw:Region.waitsFor .any ops j i=true)(hm:i<m:=by decide)(hd:sl i=d:=by rfl)(hR:L.getD i (Rel.val undef)=Rel.q x:=by rfl):∃ q:QS,a.tmps[d]? = some q.v∧Hid (FQ w q x):=by
 obtain⟨v,hv,hr⟩:=h.at hj hw hm;unfold RelR at hr
 rw[hR]at hr;obtain⟨q,rfl,hq⟩:=hr;exact⟨q,hd▸hv,Lib.hid hq⟩
theorem qEnd (h:RInv ops m sl (RelR L) a0 P oV a w)(dn:∀ j,j<m→oV.getD j false=true)(i d:Nat){x:Rat}(hm:i<m:=by decide)(hd:sl i=d:=by rfl)(hR:L.getD i (Rel.val undef)=Rel.q x:=by rfl):∃ q:QS,a.tmps[d]? = some q.v∧Hid (FQ w q x):=by
 obtain⟨v,hv,hr⟩:=h.slots i hm (dn i hm);unfold RelR at hr
 rw[hR]at hr;obtain⟨q,rfl,hq⟩:=hr;exact⟨q,hd▸hv,Lib.hid hq⟩
end
theorem z5h {w:World}{g:Nat}{T:TypeId}{x0 x1:Value}(h:SBk w g #[x0,x1] T):w.cell? ⟨g,0,none⟩=some x0∧w.cell? ⟨g,1,none⟩=some x1:=⟨h.cell (i:=0) rfl,h.cell (i:=1) rfl⟩
theorem cells3 {w:World}{g:Nat}{T:TypeId}{x0 x1 x2:Value}(h:SBk w g #[x0,x1,x2] T):w.cell? ⟨g,0,none⟩=some x0∧w.cell? ⟨g,1,none⟩=some x1∧w.cell? ⟨g,2,none⟩=some x2:=⟨h.cell (i:=0) rfl,h.cell (i:=1) rfl,h.cell (i:=2) rfl⟩
theorem frz2 {w:World}{g:Nat}{T:TypeId}{x0 x1:Value}(h:SBk w g #[x0,x1] T):w.frozen? ⟨g,0,none⟩=false∧w.frozen? ⟨g,1,none⟩=false:=⟨h.frozen (i:=0),h.frozen (i:=1)⟩
instance {W W':World}{q:QS}{x:Rat}:Gr (FQ W q x) W W' (FQ W' q x):=⟨fun h k=>k.below h⟩
theorem kq1 {f:Nat}{x z:Rat}(h:∀ p1 c1 s1 d1 W,RN W (.slice p1 (aa x.num) c1) x.num.natAbs→RN W (.slice s1 (ag x.den) d1) x.den→Calls Tryz.prog f #[.agg #[.bool (ah x.num),.slice p1 (aa x.num) c1,.slice s1 (ag x.den) d1]] W fun e w'=>∃ p c s d,e=.returned (.agg #[.bool (ah z.num),.slice p (aa z.num) c,.slice s (ag z.den) d])∧RN w' (.slice p (aa z.num) c) z.num.natAbs∧RN w' (.slice s (ag z.den) d) z.den∧Below W.heap.size W w'):KQ1 f x z:=by
 rintro⟨b,a,n,c,e,m,d⟩ W ⟨h1,h2,h3,h4,h5⟩
 dsimp only at *;subst h1 h2 h3;exact(h _ _ _ _ W h4 h5).mono fun _ _ ⟨p,c,s,d,he,hr,ht,hb⟩=>⟨⟨_,p,_,c,s,_,d⟩,he,⟨rfl,rfl,rfl,hr,ht⟩,hb⟩
theorem kp2 {f:Nat}{x y:Rat}{v:Value}(h:∀ p1 c1 s1 d1 p2 c2 s2 d2 W,RN W (.slice p1 (aa x.num) c1) x.num.natAbs→RN W (.slice s1 (ag x.den) d1) x.den→RN W (.slice p2 (aa y.num) c2) y.num.natAbs→RN W (.slice s2 (ag y.den) d2) y.den→Calls Tryz.prog f #[.agg #[.bool (ah x.num),.slice p1 (aa x.num) c1,.slice s1 (ag x.den) d1],.agg #[.bool (ah y.num),.slice p2 (aa y.num) c2,.slice s2 (ag y.den) d2]] W fun e w'=>e=.returned v∧Below W.heap.size W w'):KP2 f x y v:=by
 rintro⟨b,a,n,c,e,m,d⟩ ⟨b',a',n',c',e',m',d'⟩ W ⟨h1,h2,h3,h4,h5⟩ ⟨k1,k2,k3,k4,k5⟩
 dsimp only at *;subst h1 h2 h3 k1 k2 k3;exact h _ _ _ _ _ _ _ _ W h4 h5 k4 k5
theorem kp1 {f:Nat}{x:Rat}{v:Value}(h:∀ p1 c1 s1 d1 W,RN W (.slice p1 (aa x.num) c1) x.num.natAbs→RN W (.slice s1 (ag x.den) d1) x.den→Calls Tryz.prog f #[.agg #[.bool (ah x.num),.slice p1 (aa x.num) c1,.slice s1 (ag x.den) d1]] W fun e w'=>e=.returned v∧Below W.heap.size W w'):KP1 f x v:=by
 rintro⟨b,a,n,c,e,m,d⟩ W ⟨h1,h2,h3,h4,h5⟩
 dsimp only at *;subst h1 h2 h3;exact h _ _ _ _ W h4 h5
theorem ks {f:Nat}{v:Value}{z:Rat}(h:∀ W,Calls Tryz.prog f #[v] W fun e w'=>∃ p c s d,e=.returned (.agg #[.bool (ah z.num),.slice p (aa z.num) c,.slice s (ag z.den) d])∧RN w' (.slice p (aa z.num) c) z.num.natAbs∧RN w' (.slice s (ag z.den) d) z.den∧Below W.heap.size W w'):KS f v z:=fun W=>(h W).mono fun _ _ ⟨p,c,s,d,he,hr,ht,hb⟩=>⟨⟨_,p,_,c,s,_,d⟩,he,⟨rfl,rfl,rfl,hr,ht⟩,hb⟩
theorem ksb {f:Nat}{v:Value}{z:Rat}{b:Bool}(h:∀ W,Calls Tryz.prog f #[v] W fun e w'=>∃ p c s d,e=.returned (.tuple #[.agg #[.bool (ah z.num),.slice p (aa z.num) c,.slice s (ag z.den) d],.bool b])∧RN w' (.slice p (aa z.num) c) z.num.natAbs∧RN w' (.slice s (ag z.den) d) z.den∧Below W.heap.size W w'):KSb f v z b:=fun W=>(h W).mono fun _ _ ⟨p,c,s,d,he,hr,ht,hb⟩=>⟨⟨_,p,_,c,s,_,d⟩,he,⟨rfl,rfl,rfl,hr,ht⟩,hb⟩
end Go.Proofs.YteihfbkaieemdaaGreatDoor
open Go.Lib (hid)
namespace Go.Proofs.YteihfbkaieemdaaGreatDoor
open Go.RowKit Go.Gb
theorem z1X (a b n d r:ByteArray)(hb0:(b.toList==[48])=false)(w:World)(hl:La w)
 (h1:CL 115 #[.string a] (.bool true))
 (h2:CL 115 #[.string b] (.bool true))
 (h3:CL 116 #[.string a,.string b] (.agg #[.string n,.string d]))
 (h4:CQ 98 #[.agg #[.string n,.string d]] (.string r)) :
 CR 81 #[.string a,.string b] w (.tuple #[.string r,.int .i64 0]):=by
 obtain ⟨C1,C2,C3,C4,HL,u6⟩:=cK h1 h2 h3 h4 hl (Below.refl w.heap.size w);clear h1 h2 h3 h4 hl;go_enter func81,ntmps81
 go_wp2_with fail
 refine(C1.o _ (HL.o.on u6.o)).mono ?_;rintro e w1 ⟨rfl,hb⟩;have wo:=hbt u6 hb;clear hb;go_wp2_with fail
 refine(C2.o _ (HL.o.on wo.o)).mono ?_;rintro e w2 ⟨rfl,hb⟩;have r9:=hbt wo hb;clear hb;go_wp2_with fail
 refine(C3.o _ (HL.o.on r9.o)).mono ?_;rintro e w3 ⟨rfl,hb⟩;have pu:=hbt r9 hb;clear hb;go_wp2_with fail
 refine(C4.o _).mono ?_;rintro e w4 ⟨rfl,hb⟩;have oM:=hbt pu hb;clear hb;go_wp2;go_ret2
 exact⟨rfl,oM.o⟩
theorem z0M (a b:Int)(hb:b≠0):(Rat.divInt a b).num.natAbs≤a.natAbs∧(Rat.divInt a b).den≤b.natAbs:=by
 rcases Int.lt_or_gt_of_ne hb with h|h
 · obtain⟨n,hn⟩:∃ n:Nat,b = -(n:Int):=⟨b.natAbs,by omega⟩
   subst hn;have h2:=z1W (-a) n (by omega);rw[Rat.divInt_neg',Rat.divInt_ofNat];rw[Int.natAbs_neg]at h2;rw[Int.natAbs_neg,Int.natAbs_natCast];exact h2
 · obtain⟨n,hn⟩:∃ n:Nat,b=(n:Int):=⟨b.natAbs,by omega⟩
   subst hn;rw[Rat.divInt_ofNat,Int.natAbs_natCast];exact z1W a n (by omega)
theorem pz {k:Nat}{a b:Int}(hb:b≠0)(ha:Sm k a.natAbs)(h:Sm k b.natAbs):SmQ k (Rat.divInt a b):=by
 obtain⟨e1,e2⟩:=z0M a b hb;exact⟨ha.le e1,h.le e2⟩
theorem z5E (a b:Int)(hb:b≠0)(ha:FitL a)(fb:FitL b)(w:World)(hl:La w) :
 CR 81 #[.string (Sz a),.string (Sz b)] w (.tuple #[.string (Sq (Rat.divInt a b)),.int .i64 0]):=by
 have hs:SmQ 1900 (Rat.divInt a b):=pz hb ha fb;have h3:=fun W hW=>z4n a b hb ha fb W hW;unfold Fv at h3
 exact z1X _ _ _ _ _ (z3L hb) w hl (fun W hW=>dH a ha.z W hW.zz) (fun W hW=>dH b fb.z W hW.zz) h3 (fun W=>tZ _ hs.1 (FitL.nat hs.2) W)
theorem z3s {w:World}{v u:Value}{b i:Nat}(h:w.cell? ⟨b,i,none⟩=some u):(w.setCell ⟨b,i,none⟩ v).cell? ⟨b,i,none⟩=some v:=World.cell?_setCell_same _ _ _ h
theorem z4U {w:World}{v:Value}{b i k:Nat}(h:i≠k):(w.setCell ⟨b,i,none⟩ v).cell? ⟨b,k,none⟩=w.cell? ⟨b,k,none⟩:=World.cell?_setCell_other _ _ _ _ (by intro e;injection e with e1 e2;exact h e2)
theorem uf {w:World}{v:Value}{p q:Addr}:(w.setCell p v).frozen? q=w.frozen? q:=by simp
theorem aH {q:Rat}(h1:q.num.natAbs<1000)(h2:q.den<1000):aR q:=⟨(show Sm 3 _ by unfold Sm;omega).mono (by decide),(show Sm 3 _ by unfold Sm;omega).mono (by decide)⟩
theorem qnd (q:Rat)(n:Int)(d:Nat)(a x y:ByteArray)(h:q.num=n∧q.den=d∧Sq q=a∧Sz n=x∧Sz (d:Int)=y):Sq q=a∧Fv q=.agg #[.string x,.string y]:=by
 obtain⟨h1,h2,h3,h4,h5⟩:=h;refine⟨h3,?_⟩;unfold Fv
 rw[h1,h2,h4,h5]
theorem q5:Sq 5=⟨#[53]⟩∧Fv 5=.agg #[.string ⟨#[53]⟩,.string ⟨#[49]⟩]:=qnd _ 5 1 _ _ _ (by decide +kernel)
theorem q_0:Sq (0:Rat)=⟨#[48]⟩:=by decide +kernel
