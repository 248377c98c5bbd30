/- texts -/
import Derived.Test.YthbdjinlcgnebaaGreatDoorMz33q
open Go.Proofs.Tryz
namespace Go.Proofs.YthbdjinlcgnebaaGreatDoor
open Go.RowKit Go.Gb
theorem z2O (a b:Nat)(h:(aa a).length≤50000):(aa (a-b)).length≤1000000:=by have:=aM (Nat.sub_le a b);omega
theorem z2F {f:FuncId}{args:Array Value}{w:World}{z:Int}(h:Calls Tryz.prog f args w fun e w'=>∃ p c,e=.returned (.agg #[.bool (au z),.slice p (ah z) c])∧RN w' (.slice p (ah z) c) z.natAbs∧Below w.heap.size w w') :
 Calls Tryz.prog f args w fun e w'=>∃ u,e=.returned u∧Rz w' u z∧Below w.heap.size w w' :=
 h.mono fun _ _ ⟨_,_,e,r,hb⟩=>⟨_,e,Rz.mk r,hb⟩
theorem zR {x y:Int}(h:(au x==au y)=true):x+y=(if au x=true then -((x.natAbs+y.natAbs:Nat):Int) else ((x.natAbs+y.natAbs:Nat):Int)):=by
 unfold au at *
 by_cases hx:x<0<;>by_cases hy:y<0<;>simp[hx,hy]at h ⊢ <;> omega
theorem oK {x y:Int}(h:(au x==au y)=false):(y.natAbs≤x.natAbs→x+y=(if au x=true then -((x.natAbs-y.natAbs:Nat):Int) else ((x.natAbs-y.natAbs:Nat):Int)))∧(x.natAbs<y.natAbs→x+y=(if au y=true then -((y.natAbs-x.natAbs:Nat):Int) else ((y.natAbs-x.natAbs:Nat):Int))):=by
 unfold au at *
 by_cases hx:x<0<;>by_cases hy:y<0<;>simp[hx,hy]at h ⊢ <;> constructor<;>intro h2<;>omega
theorem z4G (u1 u2:Value)(x y:Int)(hx:(aa x.natAbs).length≤50000)(hy:(aa y.natAbs).length≤50000)(w:World)(h1:Rz w u1 x)(h2:Rz w u2 y) :
 Calls Tryz.prog 78 #[u1,u2] w fun e w'=>∃ u,e=.returned u∧Rz w' u (x+y)∧Below w.heap.size w w':=by
 obtain⟨p1,c1,rfl,r1⟩:=h1.sh;obtain⟨p2,c2,rfl,r2⟩:=h2.sh;have hsl:=iq hx hy;have hx':ai x.natAbs≤50000:=hx;have hy':ai y.natAbs≤50000:=hy;have hsl':ai (x.natAbs+y.natAbs)≤50001:=hsl;have hd1:ai (x.natAbs-y.natAbs)≤1000000:=z2O _ _ hx;have hd2:ai (y.natAbs-x.natAbs)≤1000000:=z2O _ _ hy;refine z2F ?_
 cases hs:(au x==au y) with
 | true=>exact yH x y (x+y) (x.natAbs+y.natAbs) hs p1 c1 p2 c2 w (fun p1 c1 p2 c2 W h1 h2=>z5d _ _ _ _ (by omega) (by omega) W h1 h2) (fun s d W h=>qW _ _ _ _ (zR hs) (by omega) W h) r1 r2
 | false =>
   rcases Nat.lt_or_ge x.natAbs y.natAbs with h|h
   · exact z2l x y (x+y) (y.natAbs-x.natAbs) (-1) (by decide) hs p1 c1 p2 c2 w (fun p1 c1 p2 c2 W h1 h2=>by have k:=cCmp (.slice p1 (ah x) c1) (.slice p2 (ah y) c2) x.natAbs y.natAbs (by omega) W h1 h2;rwa [gm h]at k) (fun p1 c1 p2 c2 W h1 h2=>z2S _ _ _ _ (by omega) (by omega) W h1 h2) (fun s d W h'=>qW _ _ _ _ ((oK hs).2 h) hd2 W h') r1 r2
   · exact z2m x y (x+y) (x.natAbs-y.natAbs) (cmpN x.natAbs y.natAbs) (by unfold cmpN;split<;>(try split)<;>omega) hs p1 c1 p2 c2 w (fun p1 c1 p2 c2 W h1 h2=>cCmp _ _ _ _ (by omega) W h1 h2) (fun p1 c1 p2 c2 W h1 h2=>z2S _ _ _ _ h (by omega) W h1 h2) (fun s d W h'=>qW _ _ _ _ ((oK hs).1 h) hd1 W h') r1 r2
theorem xI (x y:Int):x*y=(if (decide (x<0) != decide (y<0)) then -((x.natAbs*y.natAbs:Nat):Int) else ((x.natAbs*y.natAbs:Nat):Int)):=by
 rw[Int.natCast_mul];by_cases hx:x<0
 · by_cases hy:y<0
   · have e1:(x.natAbs:Int) = -x:=by omega
     have e2:(y.natAbs:Int) = -y:=by omega
     rw[e1,e2];simp[hx,hy,Int.neg_mul,Int.mul_neg]
   · have e1:(x.natAbs:Int) = -x:=by omega
     have e2:(y.natAbs:Int)=y:=by omega
     rw[e1,e2];simp[hx,hy,Int.neg_mul]
 · by_cases hy:y<0
   · have e1:(x.natAbs:Int)=x:=by omega
     have e2:(y.natAbs:Int) = -y:=by omega
     rw[e1,e2];simp[hx,hy,Int.mul_neg]
   · have e1:(x.natAbs:Int)=x:=by omega
     have e2:(y.natAbs:Int)=y:=by omega
     rw[e1,e2];simp[hx,hy]
theorem z3P (u1 u2:Value)(x y:Int)(hx:(aa x.natAbs).length≤50000)(hy:(aa y.natAbs).length≤50000)(w:World)(h1:Rz w u1 x)(h2:Rz w u2 y) :
 Calls Tryz.prog 88 #[u1,u2] w fun e w'=>∃ u,e=.returned u∧Rz w' u (x*y)∧Below w.heap.size w w':=by
 obtain⟨p1,c1,rfl,r1⟩:=h1.sh;obtain⟨p2,c2,rfl,r2⟩:=h2.sh;have hml:=il x.natAbs y.natAbs;have hml':ai (x.natAbs*y.natAbs)≤ai x.natAbs+ai y.natAbs:=hml;have hx':ai x.natAbs≤50000:=hx;have hy':ai y.natAbs≤50000:=hy;exact z2F (yG x y (x*y) (x.natAbs*y.natAbs) p1 c1 p2 c2 w (fun p1 c1 p2 c2 W h1 h2=>tu _ _ _ _ (by omega) (by omega) W h1 h2) (fun s d W h=>qW _ _ _ _ (xI x y) (by omega) W h) r1 r2)
theorem sTo (z:Int)(s:ByteArray)(hs:Sz z=s)(hf:ah z≤10000)(hs2:(Sn z.natAbs).size≤100000)(p:Option Addr)(c:Nat)(w:World)(h:RN w (.slice p (ah z) c) z.natAbs) :
 CR 70 #[.agg #[.bool (au z),.slice p (ah z) c]] w (.string s):=by subst hs;exact zTo _ z hf hs2 w (Rz.mk h)
theorem zD (z s:Int)(hs:z.sign=s)(p:Option Addr)(c:Nat)(w:World)(h:RN w (.slice p (ah z) c) z.natAbs) :
 CR 67 #[.agg #[.bool (au z),.slice p (ah z) c]] w (.int .i64 s):=by subst hs;exact z2V _ z w (Rz.mk h)
theorem z3Z (x y z:Int)(hz:x*y=z)(hx:ah x≤50000)(hy:ah y≤50000)(p1:Option Addr)(c1:Nat)(p2:Option Addr)(c2:Nat)(w:World)(r1:RN w (.slice p1 (ah x) c1) x.natAbs)(r2:RN w (.slice p2 (ah y) c2) y.natAbs) :
 CZ 88 #[.agg #[.bool (au x),.slice p1 (ah x) c1],.agg #[.bool (au y),.slice p2 (ah y) c2]] w z:=by subst hz;exact xO (z3P _ _ x y hx hy w (Rz.mk r1) (Rz.mk r2))
theorem z4c (x y z:Int)(hz:x+y=z)(hx:ah x≤50000)(hy:ah y≤50000)(p1:Option Addr)(c1:Nat)(p2:Option Addr)(c2:Nat)(w:World)(r1:RN w (.slice p1 (ah x) c1) x.natAbs)(r2:RN w (.slice p2 (ah y) c2) y.natAbs) :
 CZ 78 #[.agg #[.bool (au x),.slice p1 (ah x) c1],.agg #[.bool (au y),.slice p2 (ah y) c2]] w z:=by subst hz;exact xO (z4G _ _ x y hx hy w (Rz.mk r1) (Rz.mk r2))
theorem zF (x z:Int)(hz : -x=z)(hx:ah x≤1000000)(p1:Option Addr)(c1:Nat)(w:World)(r1:RN w (.slice p1 (ah x) c1) x.natAbs) :
 CZ 108 #[.agg #[.bool (au x),.slice p1 (ah x) c1]] w z:=by subst hz;exact xO (yR _ x hx w (Rz.mk r1))
end Go.Proofs.YthbdjinlcgnebaaGreatDoor
set_option maxRecDepth 100000
set_option maxHeartbeats 20000000
open Go.Lib (hid)
namespace Go.Proofs.YthbdjinlcgnebaaGreatDoor
open Go.RowKit Go.Gb
theorem z4a (k:Int)(n:Nat)(hk:(n:Int)=k)(h0:0≤k)(h1:k≤1000000)(w:World) :
 CZ 83 #[.int .i64 k] w k:=by
 have hl:ai n≤1000000:=Nat.le_trans (je (show n≤1000000 by omega)) (by decide +kernel);have C1:=hid (fun W=>qV k n hk (by omega) W);have C2:=hid (fun v W h=>qW false v n k (by rw[if_neg (by simp)];exact hk.symm) hl W h);have d0:decide (k<0)=false:=decide_eq_false (by omega);have e0:¬ k<0:=by omega
 clear hl hk;go_enter func83,ntmps83
 go_upto_region 1 with fail
 refine ak w [(#[.bool false,.slice none 0 0],59)] rfl ?_;rintro W0 ⟨k1,hb⟩;have w9:=hid (show Below w.heap.size w W0 from hb);have K1:=hid k1;clear k1 hb;go_wp2_with fail
 with_reducible refine(C1.out _).mono ?_
 rintro e W1 ⟨bu,kM,rfl,sw,hb⟩;have K1:=hid (K1.out.below hb);have rf:=hbt w9 hb;have RN1:=hid sw;clear hb sw;go_wp2_with fail
 with_reducible refine(C2.out _ _ RN1.out).mono ?_
 rintro e W2 ⟨kV,gy,rfl,ol,hb⟩;have K1:=hid (K1.out.below hb);have mf:=hbt rf hb;have RK:=hid ol;clear hb ol;obtain ⟨mi,wo⟩:=bH K1.out rfl rfl;obtain ⟨u07,u08⟩:=fP K1.out;go_wp2;exact bodyPost_ret (v:=.agg #[.bool (au k),.slice kV (ah k) gy]) (by simp[results,results83,go_sem,mi,wo]) rfl ⟨_,_,rfl,(bB [.bool (au k),.slice kV (ah k) gy] RK.out K1.out (by simp[bZ]) (by simp[bD])),(av (l:=[.bool (au k),.slice kV (ah k) gy]) (i:=0) (by omega) mf.out)⟩
open Go.Lib (hid)
theorem xu (v1 v2:Value)(a b q r:Nat)(hq:a / b=q)(hr:a%b=r)(hb:b≠0)(hl:ai a≤50000)(w:World)(h1:RN w v1 a)(h2:RN w v2 b) :
 Calls Tryz.prog 87 #[v1,v2] w fun e w'=>∃ p c p' c',e=.returned (.tuple #[.slice p (ai q) c,.slice p' (ai r) c'])∧RN w' (.slice p (ai q) c) q∧RN w' (.slice p' (ai r) c') r∧Below w.heap.size w w':=by
 subst hq hr;exact z5e v1 v2 a b hb hl w h1 h2
theorem zL {w:World}{p:Option Addr}{n c g:Nat}(h:RN w (.slice p n c) g)(hg:(aa g).length=1):∃ b o,p=some ⟨b,o,none⟩∧n=1∧w.cell? ⟨b,o,none⟩=some (.int .u32 (g:Int)):=by
 rcases h with⟨e,h⟩|⟨b,o,c',e,h2,h3,h4,h5⟩
 · rw[h]at hg;cases hg
 · injection e with e1 e2 e3
   refine⟨b,o,e1,by omega,?_⟩;have h6:=h5 0 (by omega);have hv:=aC g
   have hd:aa g=[(aa g).getD 0 0]:=by
    match hk:aa g,hg with
    | [x],_=>rfl
   rw[hd]at hv;have e0:(aa g).getD 0 0=g:=by simpa [aj] using hv
   rw[e0]at h6;exact h6
theorem xZ (z:Int)(d:Nat)(hz:ah z≤50000)(hd:ai d≤50000)(p1:Option Addr)(c1:Nat)(s1:Option Addr)(d1:Nat)(hg:Nat.gcd z.natAbs d=1)(w:World)(r1:RN w (.slice p1 (ah z) c1) z.natAbs)(t1:RN w (.slice s1 (ai d) d1) d) :
 Calls Tryz.prog 77 #[.agg #[.bool (au z),.slice p1 (ah z) c1],.slice s1 (ai d) d1] w fun e w'=>∃ p c s e1,e=.returned (.agg #[.bool (au z),.slice p (ah z) c,.slice s (ai d) e1])∧RN w' (.slice p (ah z) c) z.natAbs∧RN w' (.slice s (ai d) e1) d∧Below w.heap.size w w':=by
 have C1:=hid (show ∀ v1 v2 W,RN W v1 z.natAbs→RN W v2 d→Calls Tryz.prog 68 #[v1,v2] W fun e w'=>∃ b o c,e=.returned (.slice (some ⟨b,o,none⟩) 1 c)∧w'.cell? ⟨b,o,none⟩=some (.int .u32 1)∧Below W.heap.size W w' from fun v1 v2 W h1 h2=>by
  refine(nU v1 v2 z.natAbs d 1 hg hz hd W h1 h2).mono ?_;rintro e w' ⟨p,c,rfl,hr,hb⟩;obtain⟨b,o,rfl,_,h⟩:=zL hr qA;rw[qA]
  exact⟨b,o,c,rfl,h,hb⟩)
 clear hg hz hd;have R1:=hid r1;have T1:=hid t1;clear r1 t1;go_enter func77,ntmps77
 go_upto_region 1 with fail
 refine ak w [(#[.bool (au z),.slice p1 (ah z) c1],59),(#[.bool false,.slice none 0 0,.slice none 0 0],61)] rfl ?_;rintro W0 ⟨k1,k2,hb⟩;have w9:=hid (show Below w.heap.size w W0 from hb);obtain ⟨R1,T1⟩:=aO w9.out R1 T1;obtain ⟨K1,K2⟩:=aD k1 k2;clear k1 k2 hb;have wo:=K1.out.cell (i:=1) rfl;go_wp2_with fail
 with_reducible refine(C1.out _ _ _ R1.out T1.out).mono ?_
 rintro e W1 ⟨bv,bM,kM,rfl,sw,hb⟩;clear wo;obtain ⟨K1,K2,R1,T1⟩:=bi hb K1 K2 R1 T1;have rf:=hbt w9 hb;have XC:=hid sw;clear hb sw;have dxc:=XC.out;obtain ⟨mi,wo⟩:=bH K1.out rfl rfl;obtain ⟨lg,lv,l5⟩:=ag K2.out rfl rfl rfl;obtain ⟨ed,dx,dz⟩:=aN K2.out;go_wp2;exact bodyPost_ret (v:=.agg #[.bool (au z),.slice p1 (ah z) c1,.slice s1 (ai d) d1]) (by simp[results,results77,go_sem,lg,lv,l5]) rfl ⟨_,_,_,_,rfl,(bB [.bool (au z),.slice p1 (ah z) c1,.slice s1 (ai d) d1] R1.out K2.out (by simp[bZ]) (by simp[bD])),(bB [.bool (au z),.slice p1 (ah z) c1,.slice s1 (ai d) d1] T1.out K2.out (by simp[bZ]) (by simp[bD])),(av (l:=[.bool (au z),.slice p1 (ah z) c1,.slice s1 (ai d) d1]) (i:=0) (by omega) rf.out)⟩
theorem uC (z:Int)(d:Nat)(hz:ah z≤50000)(hd:ai d≤50000)(p1:Option Addr)(c1:Nat)(s1:Option Addr)(d1:Nat)(g a a1 b b1:Nat)(y:Int)(hg:Nat.gcd z.natAbs d=g)(g0:g≠0)(g1:g≠1)(gl:ai g=1)(ha:z.natAbs / g=a)(ha1:z.natAbs%g=a1)(hb:d / g=b)(hb1:d%g=b1)(hy:y=if au z then -(a:Int) else (a:Int))(w:World)(r1:RN w (.slice p1 (ah z) c1) z.natAbs)(t1:RN w (.slice s1 (ai d) d1) d) :
 Calls Tryz.prog 77 #[.agg #[.bool (au z),.slice p1 (ah z) c1],.slice s1 (ai d) d1] w fun e w'=>∃ p c s e1,e=.returned (.agg #[.bool (au y),.slice p (ah y) c,.slice s (ai b) e1])∧RN w' (.slice p (ah y) c) y.natAbs∧RN w' (.slice s (ai b) e1) b∧Below w.heap.size w w':=by
 have C1:=hid (show ∀ v1 v2 W,RN W v1 z.natAbs→RN W v2 d→Calls Tryz.prog 68 #[v1,v2] W fun e w'=>∃ b o c,e=.returned (.slice (some ⟨b,o,none⟩) 1 c)∧w'.cell? ⟨b,o,none⟩=some (.int .u32 (g:Int))∧RN w' (.slice (some ⟨b,o,none⟩) 1 c) g∧Below W.heap.size W w' from fun v1 v2 W h1 h2=>by
  refine(nU v1 v2 z.natAbs d g hg hz hd W h1 h2).mono ?_;rintro e w' ⟨p,c,rfl,hr,hb⟩;obtain⟨b,o,rfl,_,h⟩:=zL hr gl;rw[gl]at hr ⊢
  exact⟨b,o,c,rfl,h,hr,hb⟩)
 have C2:=hid (fun v1 v2 W h1 h2=>xu v1 v2 z.natAbs g a a1 ha ha1 g0 hz W h1 h2);have C3:=hid (fun v1 v2 W h1 h2=>xu v1 v2 d g b b1 hb hb1 g0 hd W h1 h2);have C4:=hid (fun v W h=>qW (au z) v a y hy (by rw[← ha];exact Nat.le_trans (je (Nat.div_le_self _ _)) (Nat.le_trans hz (by decide))) W h);have g1':((g:Int)==1)=false:=by rw[beq_eq_false_iff_ne];omega
 have g2':¬ (g:Int)=1:=by omega
 have g3':¬ g=1:=g1;clear gl g1 hg hz hd g0 ha ha1 hb hb1 hy;have R1:=hid r1;have T1:=hid t1;clear r1 t1;go_enter func77,ntmps77
 go_upto_region 1 with fail
 refine ak w [(#[.bool (au z),.slice p1 (ah z) c1],59),(#[.bool false,.slice none 0 0,.slice none 0 0],61)] rfl ?_;rintro W0 ⟨k1,k2,hb⟩;have w9:=hid (show Below w.heap.size w W0 from hb);obtain ⟨R1,T1⟩:=aO w9.out R1 T1;obtain ⟨K1,K2⟩:=aD k1 k2;clear k1 k2 hb;have wo:=K1.out.cell (i:=1) rfl;go_wp2_with fail
 with_reducible refine(C1.out _ _ _ R1.out T1.out).mono ?_
 rintro e W1 ⟨bv,bM,kM,rfl,sw,dX,hb⟩;clear wo;obtain ⟨K1,K2,R1,T1⟩:=bi hb K1 K2 R1 T1;have rf:=hbt w9 hb;have XC:=hid sw;have RG:=hid dX;clear hb sw dX;have dxc:=XC.out;have wo:=K1.out.cell (i:=1) rfl;go_wp2_with fail
 with_reducible refine(C2.out _ _ _ R1.out RG.out).mono ?_
 rintro e W2 ⟨bV,af,u00,u01,rfl,ol,ky,hb⟩;clear wo;obtain ⟨K1,K2,T1,RG⟩:=bi hb K1 K2 T1 RG;have mf:=hbt rf hb;have RA:=hid ol;have RA1:=hid ky;clear hb ol ky;go_wp2_with fail
 with_reducible refine(C3.out _ _ _ T1.out RG.out).mono ?_
 rintro e W3 ⟨rM,rV,u02,u03,rfl,kz,kC,hb⟩;obtain ⟨K1,K2,RA⟩:=aZ hb K1 K2 RA;have fq:=hbt mf hb;have RB:=hid kz;have RB1:=hid kC;clear hb kz kC;have mi:=K1.out.cell (i:=0) rfl;go_wp2_with fail
 with_reducible refine(C4.out _ _ RA.out).mono ?_
 rintro e W4 ⟨p8,pq,rfl,kD,hb⟩;clear mi;obtain ⟨K2,RB⟩:=aO hb K2 RB;have fw:=hbt fq hb;have RY:=hid kD;clear hb kD;obtain ⟨lg,lv,l5⟩:=ag K2.out rfl rfl rfl;obtain ⟨ed,dx,dz⟩:=aN K2.out;go_wp2;exact bodyPost_ret (v:=.agg #[.bool (au y),.slice p8 (ah y) pq,.slice rM (ai b) rV]) (by simp[results,results77,go_sem,lg,lv,l5]) rfl ⟨_,_,_,_,rfl,(bB [.bool (au y),.slice p8 (ah y) pq,.slice rM (ai b) rV] RY.out K2.out (by simp[bZ]) (by simp[bD])),(bB [.bool (au y),.slice p8 (ah y) pq,.slice rM (ai b) rV] RB.out K2.out (by simp[bZ]) (by simp[bD])),(av (l:=[.bool (au y),.slice p8 (ah y) pq,.slice rM (ai b) rV]) (i:=0) (by omega) fw.out)⟩
theorem uD (z:Int)(d:Nat)(hz:ah z≤50000)(hd:ai d≤50000)(p1:Option Addr)(c1:Nat)(s1:Option Addr)(d1:Nat)(g a a1 b b1:Nat)(y:Int)(hg:Nat.gcd z.natAbs d=g)(g0:g≠0)(gl:ai g≠1)(ha:z.natAbs / g=a)(ha1:z.natAbs%g=a1)(hb:d / g=b)(hb1:d%g=b1)(hy:y=if au z then -(a:Int) else (a:Int))(w:World)(r1:RN w (.slice p1 (ah z) c1) z.natAbs)(t1:RN w (.slice s1 (ai d) d1) d) :
 Calls Tryz.prog 77 #[.agg #[.bool (au z),.slice p1 (ah z) c1],.slice s1 (ai d) d1] w fun e w'=>∃ p c s e1,e=.returned (.agg #[.bool (au y),.slice p (ah y) c,.slice s (ai b) e1])∧RN w' (.slice p (ah y) c) y.natAbs∧RN w' (.slice s (ai b) e1) b∧Below w.heap.size w w':=by
 have C1:=hid (fun v1 v2 W h1 h2=>nU v1 v2 z.natAbs d g hg hz hd W h1 h2);have C2:=hid (fun v1 v2 W h1 h2=>xu v1 v2 z.natAbs g a a1 ha ha1 g0 hz W h1 h2);have C3:=hid (fun v1 v2 W h1 h2=>xu v1 v2 d g b b1 hb hb1 g0 hd W h1 h2);have C4:=hid (fun v W h=>qW (au z) v a y hy (by rw[← ha];exact Nat.le_trans (je (Nat.div_le_self _ _)) (Nat.le_trans hz (by decide))) W h);have g1':((ai g:Int)==1)=false:=by rw[beq_eq_false_iff_ne];omega
 have g2':¬ (ai g:Int)=1:=by omega
 have g3':¬ ai g=1:=gl;clear gl hg hz hd g0 ha ha1 hb hb1 hy;have R1:=hid r1;have T1:=hid t1;clear r1 t1;go_enter func77,ntmps77
 go_upto_region 1 with fail
 refine ak w [(#[.bool (au z),.slice p1 (ah z) c1],59),(#[.bool false,.slice none 0 0,.slice none 0 0],61)] rfl ?_;rintro W0 ⟨k1,k2,hb⟩;have w9:=hid (show Below w.heap.size w W0 from hb);obtain ⟨R1,T1⟩:=aO w9.out R1 T1;obtain ⟨K1,K2⟩:=aD k1 k2;clear k1 k2 hb;have wo:=K1.out.cell (i:=1) rfl;go_wp2_with fail
 with_reducible refine(C1.out _ _ _ R1.out T1.out).mono ?_
 rintro e W1 ⟨bu,kM,rfl,sw,hb⟩;clear wo;obtain ⟨K1,K2,R1,T1⟩:=bi hb K1 K2 R1 T1;have rf:=hbt w9 hb;have RG:=hid sw;clear hb sw;have wo:=K1.out.cell (i:=1) rfl;go_wp2_with fail
 with_reducible refine(C2.out _ _ _ R1.out RG.out).mono ?_
 rintro e W2 ⟨bV,af,u00,u01,rfl,ol,ky,hb⟩;clear wo;obtain ⟨K1,K2,T1,RG⟩:=bi hb K1 K2 T1 RG;have mf:=hbt rf hb;have RA:=hid ol;have RA1:=hid ky;clear hb ol ky;go_wp2_with fail
 with_reducible refine(C3.out _ _ _ T1.out RG.out).mono ?_
 rintro e W3 ⟨rM,rV,u02,u03,rfl,kz,kC,hb⟩;obtain ⟨K1,K2,RA⟩:=aZ hb K1 K2 RA;have fq:=hbt mf hb;have RB:=hid kz;have RB1:=hid kC;clear hb kz kC;have mi:=K1.out.cell (i:=0) rfl;go_wp2_with fail
 with_reducible refine(C4.out _ _ RA.out).mono ?_
 rintro e W4 ⟨p8,pq,rfl,kD,hb⟩;clear mi;obtain ⟨K2,RB⟩:=aO hb K2 RB;have fw:=hbt fq hb;have RY:=hid kD;clear hb kD;obtain ⟨lg,lv,l5⟩:=ag K2.out rfl rfl rfl;obtain ⟨ed,dx,dz⟩:=aN K2.out;go_wp2;exact bodyPost_ret (v:=.agg #[.bool (au y),.slice p8 (ah y) pq,.slice rM (ai b) rV]) (by simp[results,results77,go_sem,lg,lv,l5]) rfl ⟨_,_,_,_,rfl,(bB [.bool (au y),.slice p8 (ah y) pq,.slice rM (ai b) rV] RY.out K2.out (by simp[bZ]) (by simp[bD])),(bB [.bool (au y),.slice p8 (ah y) pq,.slice rM (ai b) rV] RB.out K2.out (by simp[bZ]) (by simp[bD])),(av (l:=[.bool (au y),.slice p8 (ah y) pq,.slice rM (ai b) rV]) (i:=0) (by omega) fw.out)⟩
structure QS where
 b:Bool
 a:Option Addr
 n:Nat
 c:Nat
 e:Option Addr
 m:Nat
 d:Nat
def FQ (W:World) (q:QS) (x:Rat):Prop:=q.b=au x.num∧q.n=ah x.num∧q.m=ai x.den∧RN W (.slice q.a q.n q.c) x.num.natAbs∧RN W (.slice q.e q.m q.d) x.den
theorem FQ.below {W W':World}{q:QS}{x:Rat}(h:FQ W q x)(hb:Below W.heap.size W W'):FQ W' q x:=⟨h.1,h.2.1,h.2.2.1,h.2.2.2.1.below hb,h.2.2.2.2.below hb⟩
theorem dB {q:QS}{x:Rat}{g:Nat}{T:TypeId}(l:List Value)(i:Nat){w:World}{cs:Array Value}(h:FQ w q x)(hg:SBk w g cs T)(hn:bZ cs=true)(hl:l.all bD=true):FQ (storeAll w g i l) q x:=⟨h.1,h.2.1,h.2.2.1,mG l i h.2.2.2.1 hg hn hl,mG l i h.2.2.2.2 hg hn hl⟩
abbrev QS.l (q:QS):List Value:=[.bool q.b,.slice q.a q.n q.c,.slice q.e q.m q.d]
abbrev Lvv (qa qb qc:QS):List Value:=[.bool qa.b,.slice qa.a qa.n qa.c,.slice qa.e qa.m qa.d,.bool qb.b,.slice qb.a qb.n qb.c,.slice qb.e qb.m qb.d,.bool qc.b,.slice qc.a qc.n qc.c,.slice qc.e qc.m qc.d]
abbrev QS.v (q:QS):Value:=.agg #[.bool q.b,.slice q.a q.n q.c,.slice q.e q.m q.d]
abbrev Qvv (qa qb qc:QS):Value:=.agg #[.bool qa.b,.slice qa.a qa.n qa.c,.slice qa.e qa.m qa.d,.bool qb.b,.slice qb.a qb.n qb.c,.slice qb.e qb.m qb.d,.bool qc.b,.slice qc.a qc.n qc.c,.slice qc.e qc.m qc.d]
abbrev RQ (W:World) (x:Rat):Ending→World→Prop:=fun e w'=>∃ q:QS,e=.returned (.agg #[.bool q.b,.slice q.a q.n q.c,.slice q.e q.m q.d])∧FQ w' q x∧Below W.heap.size W w'
abbrev RQb (W:World) (x:Rat) (b:Bool):Ending→World→Prop:=fun e w'=>∃ q:QS,e=.returned (.tuple #[.agg #[.bool q.b,.slice q.a q.n q.c,.slice q.e q.m q.d],.bool b])∧FQ w' q x∧Below W.heap.size W w'
abbrev Rv3 (W:World) (xa xb xc:Rat):Ending→World→Prop:=fun e w'=>∃ qa qb qc:QS,e=.returned (.agg #[.bool qa.b,.slice qa.a qa.n qa.c,.slice qa.e qa.m qa.d,.bool qb.b,.slice qb.a qb.n qb.c,.slice qb.e qb.m qb.d,.bool qc.b,.slice qc.a qc.n qc.c,.slice qc.e qc.m qc.d])∧FQ w' qa xa∧FQ w' qb xb∧FQ w' qc xc∧Below W.heap.size W w'
abbrev RVb (W:World) (xa xb xc:Rat) (b:Bool):Ending→World→Prop:=fun e w'=>∃ qa qb qc:QS,e=.returned (.tuple #[.agg #[.bool qa.b,.slice qa.a qa.n qa.c,.slice qa.e qa.m qa.d,.bool qb.b,.slice qb.a qb.n qb.c,.slice qb.e qb.m qb.d,.bool qc.b,.slice qc.a qc.n qc.c,.slice qc.e qc.m qc.d],.bool b])∧FQ w' qa xa∧FQ w' qb xb∧FQ w' qc xc∧Below W.heap.size W w'
abbrev RP (W:World) (v:Value):Ending→World→Prop:=fun e w'=>e=.returned v∧Below W.heap.size W w'
abbrev KQ2 (f:Nat) (x0 x1:Rat) (z:Rat):Prop:=∀ (q0 q1:QS) (W:World),FQ W q0 x0→FQ W q1 x1→Calls Tryz.prog f #[.agg #[.bool q0.b,.slice q0.a q0.n q0.c,.slice q0.e q0.m q0.d],.agg #[.bool q1.b,.slice q1.a q1.n q1.c,.slice q1.e q1.m q1.d]] W (RQ W z)
abbrev KP1 (f:Nat) (x0:Rat) (v:Value):Prop:=∀ (q0:QS) (W:World),FQ W q0 x0→Calls Tryz.prog f #[.agg #[.bool q0.b,.slice q0.a q0.n q0.c,.slice q0.e q0.m q0.d]] W (RP W v)
abbrev KS (f:Nat) (v0:Value) (z:Rat):Prop:=∀ (W:World),Calls Tryz.prog f #[v0] W (RQ W z)
abbrev KSb (f:Nat) (v0:Value) (z:Rat) (b:Bool):Prop:=∀ (W:World),Calls Tryz.prog f #[v0] W (RQb W z b)
abbrev KVb (f:Nat) (v0:Value) (xa xb xc:Rat) (b:Bool):Prop:=∀ (W:World),Calls Tryz.prog f #[v0] W (RVb W xa xb xc b)
abbrev KDot (f:Nat) (x0a x0b x0c x1a x1b x1c:Rat) (z:Rat):Prop:=∀ (q0a q0b q0c q1a q1b q1c:QS) (W:World),FQ W q0a x0a→FQ W q0b x0b→FQ W q0c x0c→FQ W q1a x1a→FQ W q1b x1b→FQ W q1c x1c→Calls Tryz.prog f #[.agg #[.bool q0a.b,.slice q0a.a q0a.n q0a.c,.slice q0a.e q0a.m q0a.d,.bool q0b.b,.slice q0b.a q0b.n q0b.c,.slice q0b.e q0b.m q0b.d,.bool q0c.b,.slice q0c.a q0c.n q0c.c,.slice q0c.e q0c.m q0c.d],.agg #[.bool q1a.b,.slice q1a.a q1a.n q1a.c,.slice q1a.e q1a.m q1a.d,.bool q1b.b,.slice q1b.a q1b.n q1b.c,.slice q1b.e q1b.m q1b.d,.bool q1c.b,.slice q1c.a q1c.n q1c.c,.slice q1c.e q1c.m q1c.d]] W (RQ W z)
abbrev KPl (f:Nat) (x0a x0b x0c x1a x1b x1c:Rat) (xa xb xc:Rat):Prop:=∀ (q0a q0b q0c q1a q1b q1c:QS) (W:World),FQ W q0a x0a→FQ W q0b x0b→FQ W q0c x0c→FQ W q1a x1a→FQ W q1b x1b→FQ W q1c x1c→Calls Tryz.prog f #[.agg #[.bool q0a.b,.slice q0a.a q0a.n q0a.c,.slice q0a.e q0a.m q0a.d,.bool q0b.b,.slice q0b.a q0b.n q0b.c,.slice q0b.e q0b.m q0b.d,.bool q0c.b,.slice q0c.a q0c.n q0c.c,.slice q0c.e q0c.m q0c.d],.agg #[.bool q1a.b,.slice q1a.a q1a.n q1a.c,.slice q1a.e q1a.m q1a.d,.bool q1b.b,.slice q1b.a q1b.n q1b.c,.slice q1b.e q1b.m q1b.d,.bool q1c.b,.slice q1c.a q1c.n q1c.c,.slice q1c.e q1c.m q1c.d]] W (Rv3 W xa xb xc)
abbrev KOut (f:Nat) (x0a x0b x0c:Rat) (v:Value):Prop:=∀ (q0a q0b q0c:QS) (W:World),FQ W q0a x0a→FQ W q0b x0b→FQ W q0c x0c→Calls Tryz.prog f #[.agg #[.bool q0a.b,.slice q0a.a q0a.n q0a.c,.slice q0a.e q0a.m q0a.d,.bool q0b.b,.slice q0b.a q0b.n q0b.c,.slice q0b.e q0b.m q0b.d,.bool q0c.b,.slice q0c.a q0c.n q0c.c,.slice q0c.e q0c.m q0c.d]] W (RP W v)
def Rel.q (x:Rat):Rel:=⟨fun v W=>∃ q:QS,v=q.v∧FQ W q x,fun _ _ _ ⟨q,e,h⟩ hb=>⟨q,e,h.below hb⟩⟩
def Rel.qv (x y z:Rat):Rel:=⟨fun v W=>∃ q r s:QS,v=Qvv q r s∧FQ W q x∧FQ W r y∧FQ W s z,fun _ _ _ ⟨q,r,s,e,h,k,l⟩ hb=>⟨q,r,s,e,h.below hb,k.below hb,l.below hb⟩⟩
section
variable {ops:Array Oper} {m:Nat} {sl:Nat→Nat} {L:List Rel} {a0:Act} {P:World→Prop} {u6:Array Bool} {a:Act} {w:World}
theorem qAt (h:RInv ops m sl (RelR L) a0 P u6 a w)(i d:Nat){j:Nat}{x:Rat}(hj:j∈Region.ready .any ops u6)(hw:Region.waitsFor .any ops j i=true)(hm:i<m:=by decide)(hd:sl i=d:=by rfl)(hR:L.getD i (Rel.val undef)=Rel.q x:=by rfl):∃ q:QS,a.tmps[d]? = some q.v∧Hid (FQ w q x):=by
 obtain⟨v,hv,hr⟩:=h.at hj hw hm;unfold RelR at hr
 rw[hR]at hr;obtain⟨q,rfl,hq⟩:=hr;exact⟨q,hd▸hv,hid hq⟩
theorem qAtv (h:RInv ops m sl (RelR L) a0 P u6 a w)(i d:Nat){j:Nat}{x y z:Rat}(hj:j∈Region.ready .any ops u6)(hw:Region.waitsFor .any ops j i=true)(hm:i<m:=by decide)(hd:sl i=d:=by rfl)(hR:L.getD i (Rel.val undef)=Rel.qv x y z:=by rfl):∃ q r s:QS,a.tmps[d]? = some (Qvv q r s)∧Hid (FQ w q x)∧Hid (FQ w r y)∧Hid (FQ w s z):=by
 obtain⟨v,hv,hr⟩:=h.at hj hw hm;unfold RelR at hr
 rw[hR]at hr;obtain⟨q,r,s,rfl,hq,hr,hs⟩:=hr;exact⟨q,r,s,hd▸hv,hid hq,hid hr,hid hs⟩
theorem qEnd (h:RInv ops m sl (RelR L) a0 P u6 a w)(oM:∀ j,j<m→u6.getD j false=true)(i d:Nat){x:Rat}(hm:i<m:=by decide)(hd:sl i=d:=by rfl)(hR:L.getD i (Rel.val undef)=Rel.q x:=by rfl):∃ q:QS,a.tmps[d]? = some q.v∧Hid (FQ w q x):=by
 obtain⟨v,hv,hr⟩:=h.slots i hm (oM i hm);unfold RelR at hr
 rw[hR]at hr;obtain⟨q,rfl,hq⟩:=hr;exact⟨q,hd▸hv,hid hq⟩
theorem zP (h:RInv ops m sl (RelR L) a0 P u6 a w)(oM:∀ j,j<m→u6.getD j false=true)(i d:Nat){x y z:Rat}(hm:i<m:=by decide)(hd:sl i=d:=by rfl)(hR:L.getD i (Rel.val undef)=Rel.qv x y z:=by rfl):∃ q r s:QS,a.tmps[d]? = some (Qvv q r s)∧Hid (FQ w q x)∧Hid (FQ w r y)∧Hid (FQ w s z):=by
 obtain⟨v,hv,hr⟩:=h.slots i hm (oM i hm);unfold RelR at hr
 rw[hR]at hr;obtain⟨q,r,s,rfl,hq,hr,hs⟩:=hr;exact⟨q,r,s,hd▸hv,hid hq,hid hr,hid hs⟩
end
theorem cells3 {w:World}{g:Nat}{T:TypeId}{x0 x1 x2:Value}(h:SBk w g #[x0,x1,x2] T):w.cell? ⟨g,0,none⟩=some x0∧w.cell? ⟨g,1,none⟩=some x1∧w.cell? ⟨g,2,none⟩=some x2:=⟨h.cell (i:=0) rfl,h.cell (i:=1) rfl,h.cell (i:=2) rfl⟩
theorem dV {w:World}{g:Nat}{T:TypeId}{x0 x1 x2 x3 x4 x5 x6 x7 x8:Value}(h:SBk w g #[x0,x1,x2,x3,x4,x5,x6,x7,x8] T):w.cell? ⟨g,0,none⟩=some x0∧w.cell? ⟨g,1,none⟩=some x1∧w.cell? ⟨g,2,none⟩=some x2∧w.cell? ⟨g,3,none⟩=some x3∧w.cell? ⟨g,4,none⟩=some x4∧w.cell? ⟨g,5,none⟩=some x5∧w.cell? ⟨g,6,none⟩=some x6∧w.cell? ⟨g,7,none⟩=some x7∧w.cell? ⟨g,8,none⟩=some x8:=⟨h.cell (i:=0) rfl,h.cell (i:=1) rfl,h.cell (i:=2) rfl,h.cell (i:=3) rfl,h.cell (i:=4) rfl,h.cell (i:=5) rfl,h.cell (i:=6) rfl,h.cell (i:=7) rfl,h.cell (i:=8) rfl⟩
theorem frz3 {w:World}{g:Nat}{T:TypeId}{x0 x1 x2:Value}(h:SBk w g #[x0,x1,x2] T):w.frozen? ⟨g,0,none⟩=false∧w.frozen? ⟨g,1,none⟩=false∧w.frozen? ⟨g,2,none⟩=false:=⟨h.frozen (i:=0),h.frozen (i:=1),h.frozen (i:=2)⟩
theorem frz9 {w:World}{g:Nat}{T:TypeId}{x0 x1 x2 x3 x4 x5 x6 x7 x8:Value}(h:SBk w g #[x0,x1,x2,x3,x4,x5,x6,x7,x8] T):w.frozen? ⟨g,0,none⟩=false∧w.frozen? ⟨g,1,none⟩=false∧w.frozen? ⟨g,2,none⟩=false∧w.frozen? ⟨g,3,none⟩=false∧w.frozen? ⟨g,4,none⟩=false∧w.frozen? ⟨g,5,none⟩=false∧w.frozen? ⟨g,6,none⟩=false∧w.frozen? ⟨g,7,none⟩=false∧w.frozen? ⟨g,8,none⟩=false:=⟨h.frozen (i:=0),h.frozen (i:=1),h.frozen (i:=2),h.frozen (i:=3),h.frozen (i:=4),h.frozen (i:=5),h.frozen (i:=6),h.frozen (i:=7),h.frozen (i:=8)⟩
instance {W W':World}{q:QS}{x:Rat}:Gr (FQ W q x) W W' (FQ W' q x):=⟨fun h k=>k.below h⟩
end Go.Proofs.YthbdjinlcgnebaaGreatDoor
open Go.Lib (hid)
namespace Go.Proofs.YthbdjinlcgnebaaGreatDoor
open Go.RowKit Go.Gb
theorem zQ (n1 n2 z n:Int)(en1 en2 dn:Nat)(p1:Option Addr)(c1:Nat)(s1:Option Addr)(d1:Nat)(p2:Option Addr)(c2:Nat)(s2:Option Addr)(d2:Nat)(w:World)(h0:∀ s1 d1 s2 d2 W,RN W (.slice s1 (ai en1) d1) en1→RN W (.slice s2 (ai en2) d2) en2→CR 66 #[.slice s1 (ai en1) d1,.slice s2 (ai en2) d2] W (.int .i64 0))(h1:∀ p1 c1 p2 c2 W,RN W (.slice p1 (ah n1) c1) n1.natAbs→RN W (.slice p2 (ah n2) c2) n2.natAbs→CZ 78 #[.agg #[.bool (au n1),.slice p1 (ah n1) c1],.agg #[.bool (au n2),.slice p2 (ah n2) c2]] W z)(h3:∀ p1 c1 s2 d2 W,RN W (.slice p1 (ah z) c1) z.natAbs→RN W (.slice s2 (ai en1) d2) en1→CF 77 #[.agg #[.bool (au z),.slice p1 (ah z) c1],.slice s2 (ai en1) d2] W n dn)(r1:RN w (.slice p1 (ah n1) c1) n1.natAbs)(t1:RN w (.slice s1 (ai en1) d1) en1)(r2:RN w (.slice p2 (ah n2) c2) n2.natAbs)(t2:RN w (.slice s2 (ai en2) d2) en2) :
 CF 55 #[.agg #[.bool (au n1),.slice p1 (ah n1) c1,.slice s1 (ai en1) d1],.agg #[.bool (au n2),.slice p2 (ah n2) c2,.slice s2 (ai en2) d2]] w n dn:=by
 obtain ⟨C0,C1,C3,R1,T1,R2,T2⟩:=fB h0 h1 h3 r1 t1 r2 t2;clear h0 h1 h3 r1 t1 r2 t2;go_enter func55,ntmps55
 go_upto_region 1 with fail
 refine ak w [(#[.bool (au n1),.slice p1 (ah n1) c1,.slice s1 (ai en1) d1],61),(#[.bool (au n2),.slice p2 (ah n2) c2,.slice s2 (ai en2) d2],61),(#[.bool false,.slice none 0 0,.slice none 0 0],61)] rfl ?_;rintro W0 ⟨k1,k2,k3,hb⟩;have w9:=hid (show Below w.heap.size w W0 from hb);obtain ⟨R1,T1,R2,T2⟩:=bi w9.out R1 T1 R2 T2;obtain ⟨K1,K2,K3⟩:=ae k1 k2 k3;clear k1 k2 k3 hb;have dY:=K1.out.cell (i:=2) rfl;have l5:=K2.out.cell (i:=2) rfl;go_wp2_with fail
 with_reducible refine(C0.out _ _ _ _ _ T1.out T2.out).mono ?_
 rintro e W1 ⟨rfl,hb⟩;clear dY l5;obtain ⟨K1,K2,K3,R1,T1,R2⟩:=d9 hb K1 K2 K3 R1 T1 R2;have rf:=hbt w9 hb;clear hb;go_wp2_with fail
 refine aB (fun a0 a' V=>∃ oV ma wu ww wy wz,a'=⟨aV [(13,.pointer (some ⟨w.heap.size,0,none⟩)),(14,.agg #[.bool (au n1),.slice p1 (ah n1) c1]),(15,.pointer (some ⟨w.heap.size+1,0,none⟩)),(16,.agg #[.bool (au n2),.slice p2 (ah n2) c2]),(17,.agg #[.bool (au z),.slice oV (ah z) ma]),(18,.pointer (some ⟨w.heap.size,2,none⟩)),(19,.slice s1 (ai en1) d1),(20,.agg #[.bool (au n),.slice wu (ah n) ww,.slice wy (ai dn) wz])] a0.tmps,a0.defers⟩∧Below w.heap.size w V∧SBk V (w.heap.size+1+1) #[.bool (au n),.slice wu (ah n) ww,.slice wy (ai dn) wz] 61∧RN V (.slice wu (ah n) ww) (n).natAbs∧RN V (.slice wy (ai dn) wz) (dn)) ?_ ?_
 · refine ay (by kernel_rfl) 8 1 (fun i=>[13,14,15,16,17,18,19,20].getD i 0) (RelR [Rel.val (.pointer (some ⟨w.heap.size,0,none⟩)),Rel.val (.agg #[.bool (au n1),.slice p1 (ah n1) c1]),Rel.val (.pointer (some ⟨w.heap.size+1,0,none⟩)),Rel.val (.agg #[.bool (au n2),.slice p2 (ah n2) c2]),Rel.int z,Rel.val (.pointer (some ⟨w.heap.size,2,none⟩)),Rel.val (.slice s1 (ai en1) d1),⟨fun v W=>∃ p c s d,v=.agg #[.bool (au n),.slice p (ah n) c,.slice s (ai dn) d]∧RN W (.slice p (ah n) c) (n).natAbs∧RN W (.slice s (ai dn) d) (dn),fun _ _ _ ⟨p,c,s,d,e,h0,h1⟩ hb=>⟨p,c,s,d,e,h0.below hb,h1.below hb⟩⟩]) (fun W=>Below W1.heap.size W1 W) (fun _ _=>True) (by kernel_rfl) (by kernel_rfl) (by kernel_rfl) trivial (Below.refl _ _).drew ?_ ?_
   · intro u6 a W i hI hD hrd him
     obtain ⟨HI,HD,Hr⟩:=ae hI hD hrd;clear hI hrd hD;have y2:a.tmps[2]? = some (.pointer (some ⟨w.heap.size,0,none⟩)):=HI.out.rest 2 (by decide);have y3:a.tmps[3]? = some (.pointer (some ⟨w.heap.size+1,0,none⟩)):=HI.out.rest 3 (by decide);obtain ⟨mi,wo⟩:=bH (K1.out.below HI.out.world) rfl rfl;obtain ⟨lg,lv⟩:=bH (K2.out.below HI.out.world) rfl rfl;have dY:=(K1.out.below HI.out.world).cell (i:=2) rfl;have X0:RV _ u6 a 0 13 (.pointer (some ⟨w.heap.size,0,none⟩)):=HI.out.rh;have X2:RV _ u6 a 2 15 (.pointer (some ⟨w.heap.size+1,0,none⟩)):=HI.out.rh;have X1:RV _ u6 a 1 14 (.agg #[.bool (au n1),.slice p1 (ah n1) c1]):=HI.out.rh;have X3:RV _ u6 a 3 16 (.agg #[.bool (au n2),.slice p2 (ah n2) c2]):=HI.out.rh;have X5:RV _ u6 a 5 18 (.pointer (some ⟨w.heap.size,2,none⟩)):=HI.out.rh;have X6:RV _ u6 a 6 19 (.slice s1 (ai en1) d1):=HI.out.rh
     match i,him,Hr with
     | 0,_,Hi|1,_,Hi|2,_,Hi|3,_,Hi =>
       try have x0:=X0.g Hi.out (by decide +kernel)
       try have x2:=X2.g Hi.out (by decide +kernel)
       refine ax rfl fun K' hK=>?_;go_simp;exact hK.out _ _ ⟨HI.out.pv Hi.out rfl,trivial⟩
     | 4,_,Hi =>
       have x1:=X1.g Hi.out (by kernel_rfl);have x3:=X3.g Hi.out (by kernel_rfl);refine ax rfl fun K' hK=>?_;go_simp;with_reducible refine(C1.out _ _ _ _ _ (R1.out.below HI.out.world) (R2.out.below HI.out.world)).mono ?_
       rintro e W' ⟨oV,ma,rfl,l6,hb⟩;exact hK.out _ _ ⟨HI.out.pc Hi.out hb ⟨oV,ma,rfl,l6⟩,trivial⟩
     | 5,_,Hi|6,_,Hi =>
       try have x5:=X5.g Hi.out (by decide +kernel)
       refine ax rfl fun K' hK=>?_;go_simp;exact hK.out _ _ ⟨HI.out.pv Hi.out rfl,trivial⟩
     | 7,_,Hi =>
       obtain⟨v',x4,oV,ma,e,l6⟩:=HI.out.at (i:=4) Hi.out (by kernel_rfl) (by decide);obtain rfl:=e;have x4:a.tmps[17]? = some (.agg #[.bool (au z),.slice oV (ah z) ma]):=x4;have fQ:=hid l6;clear l6;have x6:=X6.g Hi.out (by kernel_rfl);refine ax rfl fun K' hK=>?_;go_simp;with_reducible refine(C3.out _ _ _ _ _ fQ.out (T1.out.below HI.out.world)).mono ?_
       rintro e W' ⟨wu,ww,wy,wz,rfl,kE,kK,hb⟩;exact hK.out _ _ ⟨HI.out.pc Hi.out hb ⟨wu,ww,wy,wz,rfl,kE,kK⟩,trivial⟩
     | n+8,h,_=>exact absurd h (by omega)
   · intro u6 a W hI hD oM
     obtain⟨v',x4,oV,ma,e,l6⟩:=hI.slots 4 (by decide) (oM 4 (by decide));obtain rfl:=e;have fQ:=hid l6;clear l6;obtain⟨v',x7,wu,ww,wy,wz,e,kE,kK⟩:=hI.slots 7 (by decide) (oM 7 (by decide));obtain rfl:=e;have u04:=hid kE;clear kE;have u05:=hid kK;clear kK;have x7:a.tmps[20]? = some (.agg #[.bool (au n),.slice wu (ah n) ww,.slice wy (ai dn) wz]):=x7;obtain ⟨cO,HI,HA⟩:=ae hI.world hI oM;clear hI oM;obtain ⟨HBX,K3⟩:=aD (rf.out.trans (cO.out.mono rf.out.size)) (K3.out.below cO.out);have RZ:=fQ;have RQ:=u04;have TQ:=u05;have y4:a.tmps[4]? = some (.pointer (some ⟨w.heap.size+1+1,0,none⟩)):=HI.out.rest 4 (by decide);obtain ⟨bg,bn,bq⟩:=ag K3.out rfl rfl rfl;obtain ⟨u09,u0a,u0b⟩:=aN K3.out;refine aL (t:=0) ?_;refine ax rfl fun K' hK=>?_;go_simp;refine hK.out _ _ ?_;clear hK;refine aR ?_;have s0:∀ {v':Value} {n':Nat},RN W v' n'→RN (storeAll W (w.heap.size+1+1) 0 [.bool (au n),.slice wu (ah n) ww,.slice wy (ai dn) wz]) v' n':=fun h'=>bB _ h' K3.out (by simp[bZ]) (by simp[bD]);exact⟨rfl,oV,ma,wu,ww,wy,wz,(HI.out.finx ⟨HI.out.sx HA.out 0,HI.out.sx HA.out 1,HI.out.sx HA.out 2,HI.out.sx HA.out 3,x4,HI.out.sx HA.out 5,HI.out.sx HA.out 6,x7,trivial⟩ rfl),(av (l:=[.bool (au n),.slice wu (ah n) ww,.slice wy (ai dn) wz]) (i:=0) (by omega) HBX.out),(bO (l:=[.bool (au n),.slice wu (ah n) ww,.slice wy (ai dn) wz]) (i:=0) K3.out),(s0 RQ.out),(s0 TQ.out)⟩
 rintro a' W2 ⟨oV,ma,wu,ww,wy,wz,rfl,z0,z1,z2,z3⟩;obtain ⟨mf,K3,RQ,TQ⟩:=aP z0 z1 z2 z3;clear z0 z1 z2 z3;simp only[aV,List.setIfInBounds_toArray,List.set_cons_zero,List.set_cons_succ];go_wp2;obtain ⟨bg,bn,bq⟩:=ag K3.out rfl rfl rfl;exact bodyPost_ret (v:=.agg #[.bool (au n),.slice wu (ah n) ww,.slice wy (ai dn) wz]) (by simp[results,results55,go_sem,bg,bn,bq]) rfl ⟨_,_,_,_,rfl,RQ.out,TQ.out,mf.out⟩
