/- texts -/
import Derived.Test.YtikihamjpenboaaGreatDoorMz29q
namespace Go.Proofs.YtikihamjpenboaaGreatDoor
open Go.RowKit Go.Gb
theorem wy (x y:Int):((y.natAbs:Nat):Int)*((x.natAbs / y.natAbs:Nat):Int)+((x.natAbs%y.natAbs:Nat):Int)=(x.natAbs:Int):=by
 exact_mod_cast Nat.div_add_mod x.natAbs y.natAbs
theorem z2Z (x y:Int)(hy:y≠0)(hx:ah x=false):x / y=(if ah y then -((x.natAbs / y.natAbs:Nat):Int) else ((x.natAbs / y.natAbs:Nat):Int))∧x%y=((x.natAbs%y.natAbs:Nat):Int):=by
 have hx0:¬ x<0:=of_decide_eq_false hx;have h1:=wy x y;have h2:=Nat.mod_lt x.natAbs (y:=y.natAbs) (by omega);refine dW x y hy _ _ ⟨?_,by omega,by omega⟩;generalize ((x.natAbs / y.natAbs:Nat):Int)=q at *;unfold ah
 by_cases h:y<0
 · have e:y*q = -((y.natAbs:Int)*q):=by rw[show(y.natAbs:Int) = -y by omega,Int.neg_mul,Int.neg_neg]
   rw[decide_eq_true h,if_pos rfl,Int.mul_neg];omega
 · rw[decide_eq_false h,if_neg (by simp)]
   have e:y*q=(y.natAbs:Int)*q:=by rw[show(y.natAbs:Int)=y by omega]
   omega
theorem zn (x y:Int)(hy:y≠0)(hx:ah x=true)(h0:x.natAbs%y.natAbs=0):x / y=(if !ah y then -((x.natAbs / y.natAbs:Nat):Int) else ((x.natAbs / y.natAbs:Nat):Int))∧x%y=0:=by
 have hx0:x<0:=of_decide_eq_true hx;have h1:=wy x y;rw[h0]at h1;refine dW x y hy _ _ ⟨?_,by omega,by omega⟩;generalize ((x.natAbs / y.natAbs:Nat):Int)=q at *;unfold ah
 by_cases h:y<0
 · rw[decide_eq_true h]
   have e:y*q = -((y.natAbs:Int)*q):=by rw[show(y.natAbs:Int) = -y by omega,Int.neg_mul,Int.neg_neg]
   simp;omega
 · rw[decide_eq_false h]
   have e:y*q=(y.natAbs:Int)*q:=by rw[show(y.natAbs:Int)=y by omega]
   simp[Int.mul_neg];omega
theorem z3a (x y:Int)(hy:y≠0)(hx:ah x=true)(h0:x.natAbs%y.natAbs≠0):x / y=(if !ah y then -((x.natAbs / y.natAbs+1:Nat):Int) else ((x.natAbs / y.natAbs+1:Nat):Int))∧x%y=((y.natAbs-x.natAbs%y.natAbs:Nat):Int):=by
 have hx0:x<0:=of_decide_eq_true hx;have h1:=wy x y;have h2:=Nat.mod_lt x.natAbs (y:=y.natAbs) (by omega);refine dW x y hy _ _ ⟨?_,by omega,by omega⟩;rw[Int.natCast_add];generalize ((x.natAbs / y.natAbs:Nat):Int)=q at *;unfold ah
 by_cases h:y<0
 · rw[decide_eq_true h]
   have e:y*q = -((y.natAbs:Int)*q):=by rw[show(y.natAbs:Int) = -y by omega,Int.neg_mul,Int.neg_neg]
   simp[Int.mul_add];omega
 · rw[decide_eq_false h]
   have e:y*q=(y.natAbs:Int)*q:=by rw[show(y.natAbs:Int)=y by omega]
   simp[Int.mul_add,Int.mul_neg];omega
theorem z3i {n:Nat}(h:n≠0):0<ag n:=List.length_pos_iff.2 (by rw[bH h];simp)
theorem z6D (x y q r:Int)(hq:x / y=q)(hr:x%y=r)(hy:y≠0)(hx:aa x≤50000)(hly:aa y≤50000)(p1:Option Addr)(c1:Nat)(p2:Option Addr)(c2:Nat)(w:World)(r1:RN w (.slice p1 (aa x) c1) x.natAbs)(r2:RN w (.slice p2 (aa y) c2) y.natAbs) :
 Calls Tryz.prog 100 #[.agg #[.bool (ah x),.slice p1 (aa x) c1],.agg #[.bool (ah y),.slice p2 (aa y) c2]] w fun e w'=>∃ p c p' c',e=.returned (.tuple #[.agg #[.bool (ah q),.slice p (aa q) c],.agg #[.bool (ah r),.slice p' (aa r) c']])∧RN w' (.slice p (aa q) c) q.natAbs∧RN w' (.slice p' (aa r) c') r.natAbs∧Below w.heap.size w w':=by
 have hdl:ag (x.natAbs / y.natAbs)≤50000:=Nat.le_trans (fI (Nat.div_le_self _ _)) hx;have hml:ag (x.natAbs%y.natAbs)≤50000:=Nat.le_trans (fI (Nat.mod_le _ _)) hx;have hC:=fun W (h:Below w.heap.size w W)=>z6p (.slice p1 (aa x) c1) (.slice p2 (aa y) c2) x.natAbs y.natAbs (by omega) hx W (r1.below h) (r2.below h)
 cases hs:ah x with
 | false =>
   obtain⟨e1,e2⟩:=z2Z x y hy hs;exact z4D p1 _ c1 p2 _ c2 (ah y) _ _ q r (by omega) (by omega) (hq▸e1) (hr▸e2) w hC
 | true =>
   by_cases h0:x.natAbs%y.natAbs=0
   · obtain⟨e1,e2⟩:=zn x y hy hs h0
     rw[h0]at hC;exact z2q p1 _ c1 p2 _ c2 (ah y) _ q r (by omega) (hq▸e1) (hr▸e2) w hC
   · obtain⟨e1,e2⟩:=z3a x y hy hs h0
     have hlt:=Nat.mod_lt x.natAbs (y:=y.natAbs) (by omega);exact z4C p1 _ c1 p2 _ c2 (ah y) _ _ y.natAbs q r (by omega) (z3i h0) (by unfold aa at hly;omega) (by omega) (hq▸e1) (hr▸e2) w r2 hC
theorem sTo (z:Int)(s:ByteArray)(hs:Sz z=s)(hf:aa z≤10000)(hs2:(Sn z.natAbs).size≤100000)(p:Option Addr)(c:Nat)(w:World)(h:RN w (.slice p (aa z) c) z.natAbs) :
 CR 70 #[.agg #[.bool (ah z),.slice p (aa z) c]] w (.string s):=by subst hs;exact zTo _ z hf hs2 w (Rz.mk h)
theorem vO (z s:Int)(hs:z.sign=s)(p:Option Addr)(c:Nat)(w:World)(h:RN w (.slice p (aa z) c) z.natAbs) :
 CR 59 #[.agg #[.bool (ah z),.slice p (aa z) c]] w (.int .i64 s):=by subst hs;exact z4B _ z w (Rz.mk h)
theorem z5L (x y z:Int)(hz:x*y=z)(hx:aa x≤50000)(hy:aa y≤50000)(p1:Option Addr)(c1:Nat)(p2:Option Addr)(c2:Nat)(w:World)(r1:RN w (.slice p1 (aa x) c1) x.natAbs)(r2:RN w (.slice p2 (aa y) c2) y.natAbs) :
 CZ 69 #[.agg #[.bool (ah x),.slice p1 (aa x) c1],.agg #[.bool (ah y),.slice p2 (aa y) c2]] w z:=by subst hz;exact z0D (z5B _ _ x y hx hy w (Rz.mk r1) (Rz.mk r2))
theorem z5O (x y z:Int)(hz:x+y=z)(hx:aa x≤50000)(hy:aa y≤50000)(p1:Option Addr)(c1:Nat)(p2:Option Addr)(c2:Nat)(w:World)(r1:RN w (.slice p1 (aa x) c1) x.natAbs)(r2:RN w (.slice p2 (aa y) c2) y.natAbs) :
 CZ 101 #[.agg #[.bool (ah x),.slice p1 (aa x) c1],.agg #[.bool (ah y),.slice p2 (aa y) c2]] w z:=by subst hz;exact z0D (z5D _ _ x y hx hy w (Rz.mk r1) (Rz.mk r2))
set_option maxRecDepth 100000
set_option maxHeartbeats 20000000
open Go.Lib (hid)
theorem z4o (k:Int)(n:Nat)(hk:(n:Int)=k)(h0:0≤k)(h1:k≤2000000000)(w:World) :
 CZ 91 #[.int .i64 k] w k:=by
 have hl:ag n≤1000000:=Nat.le_trans (fI (show n≤2000000000 by omega)) (by decide +kernel);have C1:=hid (fun W=>kQ k n hk (by omega) W);have C2:=hid (fun v W h=>jc false v n k (by rw[if_neg (by simp)];exact hk.symm) hl W h);have d0:decide (k<0)=false:=decide_eq_false (by omega);have e0:¬ k<0:=by omega
 clear hl hk;go_enter Tryz.func91,Tryz.ntmps91
 go_upto_region 1 with fail
 refine az w [(#[.bool false,.slice none 0 0],49)] rfl ?_;rintro W0 ⟨k1,hb⟩;have wo:=hid (show Below w.heap.size w W0 from hb);have K1:=hid k1;clear k1 hb;go_wp2_with fail
 with_reducible refine(C1.o _).mono ?_
 rintro e W1 ⟨kM,oM,rfl,w9,hb⟩;have K1:=hid (K1.o.below hb);have r9:=hbt wo hb;have RN1:=hid w9;clear hb w9;go_wp2_with fail
 with_reducible refine(C2.o _ _ RN1.o).mono ?_
 rintro e W2 ⟨oV,mf,rfl,sw,hb⟩;have K1:=hid (K1.o.below hb);have ru:=hbt r9 hb;have RK:=hid sw;clear hb sw;obtain ⟨rq,u6⟩:=au K1.o rfl rfl;obtain ⟨ek,eH⟩:=bJ K1.o;go_wp2;exact bodyPost_ret (v:=.agg #[.bool (ah k),.slice oV (aa k) mf]) (by simp[results,Tryz.results91,go_sem,rq,u6]) rfl ⟨_,_,rfl,(aS [.bool (ah k),.slice oV (aa k) mf] RK.o K1.o (by simp[bF]) (by simp[aY])),(ay (l:=[.bool (ah k),.slice oV (aa k) mf]) (i:=0) (by omega) ru.o)⟩
end Go.Proofs.YtikihamjpenboaaGreatDoor
set_option maxRecDepth 100000
set_option maxHeartbeats 20000000
open Go.Lib (hid)
namespace Go.Proofs.YtikihamjpenboaaGreatDoor
open Go.RowKit Go.Gb
theorem yH (v1 v2:Value)(a b q r:Nat)(hq:a / b=q)(hr:a%b=r)(hb:b≠0)(hl:ag a≤50000)(w:World)(h1:RN w v1 a)(h2:RN w v2 b) :
 Calls Tryz.prog 94 #[v1,v2] w fun e w'=>∃ p c p' c',e=.returned (.tuple #[.slice p (ag q) c,.slice p' (ag r) c'])∧RN w' (.slice p (ag q) c) q∧RN w' (.slice p' (ag r) c') r∧Below w.heap.size w w':=by
 subst hq hr;exact z6p v1 v2 a b hb hl w h1 h2
theorem z0K {w:World}{p:Option Addr}{n c g:Nat}(h:RN w (.slice p n c) g)(hg:(ae g).length=1):∃ b o,p=some ⟨b,o,none⟩∧n=1∧w.cell? ⟨b,o,none⟩=some (.int .u32 (g:Int)):=by
 rcases h with⟨e,h⟩|⟨b,o,c',e,h2,h3,h4,h5⟩
 · rw[h]at hg;cases hg
 · injection e with e1 e2 e3
   refine⟨b,o,e1,by omega,?_⟩;have h6:=h5 0 (by omega);have hv:=ax g
   have hd:ae g=[(ae g).getD 0 0]:=by
    match hk:ae g,hg with
    | [x],_=>rfl
   rw[hd]at hv;have e0:(ae g).getD 0 0=g:=by simpa [ai] using hv
   rw[e0]at h6;exact h6
theorem zI (z:Int)(d:Nat)(hz:aa z≤50000)(hd:ag d≤50000)(p1:Option Addr)(c1:Nat)(s1:Option Addr)(d1:Nat)(hg:Nat.gcd z.natAbs d=1)(w:World)(r1:RN w (.slice p1 (aa z) c1) z.natAbs)(t1:RN w (.slice s1 (ag d) d1) d) :
 Calls Tryz.prog 68 #[.agg #[.bool (ah z),.slice p1 (aa z) c1],.slice s1 (ag d) d1] w fun e w'=>∃ p c s e1,e=.returned (.agg #[.bool (ah z),.slice p (aa z) c,.slice s (ag d) e1])∧RN w' (.slice p (aa z) c) z.natAbs∧RN w' (.slice s (ag d) e1) d∧Below w.heap.size w w':=by
 have C1:=hid (show ∀ v1 v2 W,RN W v1 z.natAbs→RN W v2 d→Calls Tryz.prog 60 #[v1,v2] W fun e w'=>∃ b o c,e=.returned (.slice (some ⟨b,o,none⟩) 1 c)∧w'.cell? ⟨b,o,none⟩=some (.int .u32 1)∧Below W.heap.size W w' from fun v1 v2 W h1 h2=>by
  refine(oO v1 v2 z.natAbs d 1 hg hz hd W h1 h2).mono ?_;rintro e w' ⟨p,c,rfl,hr,hb⟩;obtain⟨b,o,rfl,_,h⟩:=z0K hr jU;rw[jU]
  exact⟨b,o,c,rfl,h,hb⟩)
 clear hg hz hd;have R1:=hid r1;have T1:=hid t1;clear r1 t1;go_enter Tryz.func68,Tryz.ntmps68
 go_upto_region 1 with fail
 refine az w [(#[.bool (ah z),.slice p1 (aa z) c1],49),(#[.bool false,.slice none 0 0,.slice none 0 0],51)] rfl ?_;rintro W0 ⟨k1,k2,hb⟩;have wo:=hid (show Below w.heap.size w W0 from hb);obtain ⟨R1,T1⟩:=aH wo.o R1 T1;obtain ⟨K1,K2⟩:=aD k1 k2;clear k1 k2 hb;have u6:=K1.o.cell (i:=1) rfl;go_wp2_with fail
 with_reducible refine(C1.o _ _ _ R1.o T1.o).mono ?_
 rintro e W1 ⟨kS,kV,oM,rfl,w9,hb⟩;clear u6;obtain ⟨K1,K2,R1,T1⟩:=aW hb K1 K2 R1 T1;have r9:=hbt wo hb;have XC:=hid w9;clear hb w9;have dxc:=XC.o;obtain ⟨rq,u6⟩:=au K1.o rfl rfl;obtain ⟨rM,rV,p8⟩:=aP K2.o rfl rfl rfl;obtain ⟨l6,lg,lv⟩:=bU K2.o;go_wp2;exact bodyPost_ret (v:=.agg #[.bool (ah z),.slice p1 (aa z) c1,.slice s1 (ag d) d1]) (by simp[results,Tryz.results68,go_sem,rM,rV,p8]) rfl ⟨_,_,_,_,rfl,(aS [.bool (ah z),.slice p1 (aa z) c1,.slice s1 (ag d) d1] R1.o K2.o (by simp[bF]) (by simp[aY])),(aS [.bool (ah z),.slice p1 (aa z) c1,.slice s1 (ag d) d1] T1.o K2.o (by simp[bF]) (by simp[aY])),(ay (l:=[.bool (ah z),.slice p1 (aa z) c1,.slice s1 (ag d) d1]) (i:=0) (by omega) r9.o)⟩
theorem wB (z:Int)(d:Nat)(hz:aa z≤50000)(hd:ag d≤50000)(p1:Option Addr)(c1:Nat)(s1:Option Addr)(d1:Nat)(g a a1 b b1:Nat)(y:Int)(hg:Nat.gcd z.natAbs d=g)(g0:g≠0)(g1:g≠1)(gl:ag g=1)(ha:z.natAbs / g=a)(ha1:z.natAbs%g=a1)(hb:d / g=b)(hb1:d%g=b1)(hy:y=if ah z then -(a:Int) else (a:Int))(w:World)(r1:RN w (.slice p1 (aa z) c1) z.natAbs)(t1:RN w (.slice s1 (ag d) d1) d) :
 Calls Tryz.prog 68 #[.agg #[.bool (ah z),.slice p1 (aa z) c1],.slice s1 (ag d) d1] w fun e w'=>∃ p c s e1,e=.returned (.agg #[.bool (ah y),.slice p (aa y) c,.slice s (ag b) e1])∧RN w' (.slice p (aa y) c) y.natAbs∧RN w' (.slice s (ag b) e1) b∧Below w.heap.size w w':=by
 have C1:=hid (show ∀ v1 v2 W,RN W v1 z.natAbs→RN W v2 d→Calls Tryz.prog 60 #[v1,v2] W fun e w'=>∃ b o c,e=.returned (.slice (some ⟨b,o,none⟩) 1 c)∧w'.cell? ⟨b,o,none⟩=some (.int .u32 (g:Int))∧RN w' (.slice (some ⟨b,o,none⟩) 1 c) g∧Below W.heap.size W w' from fun v1 v2 W h1 h2=>by
  refine(oO v1 v2 z.natAbs d g hg hz hd W h1 h2).mono ?_;rintro e w' ⟨p,c,rfl,hr,hb⟩;obtain⟨b,o,rfl,_,h⟩:=z0K hr gl;rw[gl]at hr ⊢
  exact⟨b,o,c,rfl,h,hr,hb⟩)
 have C2:=hid (fun v1 v2 W h1 h2=>yH v1 v2 z.natAbs g a a1 ha ha1 g0 hz W h1 h2);have C3:=hid (fun v1 v2 W h1 h2=>yH v1 v2 d g b b1 hb hb1 g0 hd W h1 h2);have C4:=hid (fun v W h=>jc (ah z) v a y hy (by rw[← ha];exact Nat.le_trans (fI (Nat.div_le_self _ _)) (Nat.le_trans hz (by decide))) W h);have g1':((g:Int)==1)=false:=by rw[beq_eq_false_iff_ne];omega
 have g2':¬ (g:Int)=1:=by omega
 have g3':¬ g=1:=g1;clear gl g1 hg hz hd g0 ha ha1 hb hb1 hy;have R1:=hid r1;have T1:=hid t1;clear r1 t1;go_enter Tryz.func68,Tryz.ntmps68
 go_upto_region 1 with fail
 refine az w [(#[.bool (ah z),.slice p1 (aa z) c1],49),(#[.bool false,.slice none 0 0,.slice none 0 0],51)] rfl ?_;rintro W0 ⟨k1,k2,hb⟩;have wo:=hid (show Below w.heap.size w W0 from hb);obtain ⟨R1,T1⟩:=aH wo.o R1 T1;obtain ⟨K1,K2⟩:=aD k1 k2;clear k1 k2 hb;have u6:=K1.o.cell (i:=1) rfl;go_wp2_with fail
 with_reducible refine(C1.o _ _ _ R1.o T1.o).mono ?_
 rintro e W1 ⟨kS,kV,oM,rfl,w9,kz,hb⟩;clear u6;obtain ⟨K1,K2,R1,T1⟩:=aW hb K1 K2 R1 T1;have r9:=hbt wo hb;have XC:=hid w9;have RG:=hid kz;clear hb w9 kz;have dxc:=XC.o;have u6:=K1.o.cell (i:=1) rfl;go_wp2_with fail
 with_reducible refine(C2.o _ _ _ R1.o RG.o).mono ?_
 rintro e W2 ⟨gy,gF,fo,fq,rfl,sw,p9,hb⟩;clear u6;obtain ⟨K1,K2,T1,RG⟩:=aW hb K1 K2 T1 RG;have ru:=hbt r9 hb;have RA:=hid sw;have RA1:=hid p9;clear hb sw p9;go_wp2_with fail
 with_reducible refine(C3.o _ _ _ T1.o RG.o).mono ?_
 rintro e W3 ⟨wu,ww,fQ,ed,rfl,pq,pu,hb⟩;obtain ⟨K1,K2,RA⟩:=bG hb K1 K2 RA;have mi:=hbt ru hb;have RB:=hid pq;have RB1:=hid pu;clear hb pq pu;have rq:=K1.o.cell (i:=0) rfl;go_wp2_with fail
 with_reducible refine(C4.o _ _ RA.o).mono ?_
 rintro e W4 ⟨si,sj,rfl,ol,hb⟩;clear rq;obtain ⟨K2,RB⟩:=aH hb K2 RB;have l5:=hbt mi hb;have RY:=hid ol;clear hb ol;obtain ⟨rM,rV,p8⟩:=aP K2.o rfl rfl rfl;obtain ⟨l6,lg,lv⟩:=bU K2.o;go_wp2;exact bodyPost_ret (v:=.agg #[.bool (ah y),.slice si (aa y) sj,.slice wu (ag b) ww]) (by simp[results,Tryz.results68,go_sem,rM,rV,p8]) rfl ⟨_,_,_,_,rfl,(aS [.bool (ah y),.slice si (aa y) sj,.slice wu (ag b) ww] RY.o K2.o (by simp[bF]) (by simp[aY])),(aS [.bool (ah y),.slice si (aa y) sj,.slice wu (ag b) ww] RB.o K2.o (by simp[bF]) (by simp[aY])),(ay (l:=[.bool (ah y),.slice si (aa y) sj,.slice wu (ag b) ww]) (i:=0) (by omega) l5.o)⟩
theorem wC (z:Int)(d:Nat)(hz:aa z≤50000)(hd:ag d≤50000)(p1:Option Addr)(c1:Nat)(s1:Option Addr)(d1:Nat)(g a a1 b b1:Nat)(y:Int)(hg:Nat.gcd z.natAbs d=g)(g0:g≠0)(gl:ag g≠1)(ha:z.natAbs / g=a)(ha1:z.natAbs%g=a1)(hb:d / g=b)(hb1:d%g=b1)(hy:y=if ah z then -(a:Int) else (a:Int))(w:World)(r1:RN w (.slice p1 (aa z) c1) z.natAbs)(t1:RN w (.slice s1 (ag d) d1) d) :
 Calls Tryz.prog 68 #[.agg #[.bool (ah z),.slice p1 (aa z) c1],.slice s1 (ag d) d1] w fun e w'=>∃ p c s e1,e=.returned (.agg #[.bool (ah y),.slice p (aa y) c,.slice s (ag b) e1])∧RN w' (.slice p (aa y) c) y.natAbs∧RN w' (.slice s (ag b) e1) b∧Below w.heap.size w w':=by
 have C1:=hid (fun v1 v2 W h1 h2=>oO v1 v2 z.natAbs d g hg hz hd W h1 h2);have C2:=hid (fun v1 v2 W h1 h2=>yH v1 v2 z.natAbs g a a1 ha ha1 g0 hz W h1 h2);have C3:=hid (fun v1 v2 W h1 h2=>yH v1 v2 d g b b1 hb hb1 g0 hd W h1 h2);have C4:=hid (fun v W h=>jc (ah z) v a y hy (by rw[← ha];exact Nat.le_trans (fI (Nat.div_le_self _ _)) (Nat.le_trans hz (by decide))) W h);have g1':((ag g:Int)==1)=false:=by rw[beq_eq_false_iff_ne];omega
 have g2':¬ (ag g:Int)=1:=by omega
 have g3':¬ ag g=1:=gl;clear gl hg hz hd g0 ha ha1 hb hb1 hy;have R1:=hid r1;have T1:=hid t1;clear r1 t1;go_enter Tryz.func68,Tryz.ntmps68
 go_upto_region 1 with fail
 refine az w [(#[.bool (ah z),.slice p1 (aa z) c1],49),(#[.bool false,.slice none 0 0,.slice none 0 0],51)] rfl ?_;rintro W0 ⟨k1,k2,hb⟩;have wo:=hid (show Below w.heap.size w W0 from hb);obtain ⟨R1,T1⟩:=aH wo.o R1 T1;obtain ⟨K1,K2⟩:=aD k1 k2;clear k1 k2 hb;have u6:=K1.o.cell (i:=1) rfl;go_wp2_with fail
 with_reducible refine(C1.o _ _ _ R1.o T1.o).mono ?_
 rintro e W1 ⟨kM,oM,rfl,w9,hb⟩;clear u6;obtain ⟨K1,K2,R1,T1⟩:=aW hb K1 K2 R1 T1;have r9:=hbt wo hb;have RG:=hid w9;clear hb w9;have u6:=K1.o.cell (i:=1) rfl;go_wp2_with fail
 with_reducible refine(C2.o _ _ _ R1.o RG.o).mono ?_
 rintro e W2 ⟨gy,gF,fo,fq,rfl,sw,p9,hb⟩;clear u6;obtain ⟨K1,K2,T1,RG⟩:=aW hb K1 K2 T1 RG;have ru:=hbt r9 hb;have RA:=hid sw;have RA1:=hid p9;clear hb sw p9;go_wp2_with fail
 with_reducible refine(C3.o _ _ _ T1.o RG.o).mono ?_
 rintro e W3 ⟨wu,ww,fQ,ed,rfl,pq,pu,hb⟩;obtain ⟨K1,K2,RA⟩:=bG hb K1 K2 RA;have mi:=hbt ru hb;have RB:=hid pq;have RB1:=hid pu;clear hb pq pu;have rq:=K1.o.cell (i:=0) rfl;go_wp2_with fail
 with_reducible refine(C4.o _ _ RA.o).mono ?_
 rintro e W4 ⟨si,sj,rfl,ol,hb⟩;clear rq;obtain ⟨K2,RB⟩:=aH hb K2 RB;have l5:=hbt mi hb;have RY:=hid ol;clear hb ol;obtain ⟨rM,rV,p8⟩:=aP K2.o rfl rfl rfl;obtain ⟨l6,lg,lv⟩:=bU K2.o;go_wp2;exact bodyPost_ret (v:=.agg #[.bool (ah y),.slice si (aa y) sj,.slice wu (ag b) ww]) (by simp[results,Tryz.results68,go_sem,rM,rV,p8]) rfl ⟨_,_,_,_,rfl,(aS [.bool (ah y),.slice si (aa y) sj,.slice wu (ag b) ww] RY.o K2.o (by simp[bF]) (by simp[aY])),(aS [.bool (ah y),.slice si (aa y) sj,.slice wu (ag b) ww] RB.o K2.o (by simp[bF]) (by simp[aY])),(ay (l:=[.bool (ah y),.slice si (aa y) sj,.slice wu (ag b) ww]) (i:=0) (by omega) l5.o)⟩
