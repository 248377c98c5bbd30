/- texts -/
import Derived.Test.YtnpkghpfmieboaaGreatDoorMz31q
open Go.Proofs.Tryz
namespace Go.Proofs.YtnpkghpfmieboaaGreatDoor
open Go.RowKit Go.Gb
theorem z3u (a b:Nat)(h:(aa a).length≤50000):(aa (a-b)).length≤1000000:=by have:=aN (Nat.sub_le a b);omega
theorem z3n {f:FuncId}{args:Array Value}{w:World}{z:Int}(h:Calls Tryz.prog f args w fun e w'=>∃ p c,e=.returned (.agg #[.bool (ai z),.slice p (ae z) c])∧RN w' (.slice p (ae z) c) z.natAbs∧Below w.heap.size w w') :
 Calls Tryz.prog f args w fun e w'=>∃ u,e=.returned u∧Rz w' u z∧Below w.heap.size w w' :=
 h.mono fun _ _ ⟨_,_,e,r,hb⟩=>⟨_,e,Rz.mk r,hb⟩
theorem z0o {x y:Int}(h:(ai x==ai y)=true):x+y=(if ai x=true then -((x.natAbs+y.natAbs:Nat):Int) else ((x.natAbs+y.natAbs:Nat):Int)):=by
 unfold ai at *
 by_cases hx:x<0<;>by_cases hy:y<0<;>simp[hx,hy]at h ⊢ <;> omega
theorem qp {x y:Int}(h:(ai x==ai y)=false):(y.natAbs≤x.natAbs→x+y=(if ai x=true then -((x.natAbs-y.natAbs:Nat):Int) else ((x.natAbs-y.natAbs:Nat):Int)))∧(x.natAbs<y.natAbs→x+y=(if ai y=true then -((y.natAbs-x.natAbs:Nat):Int) else ((y.natAbs-x.natAbs:Nat):Int))):=by
 unfold ai at *
 by_cases hx:x<0<;>by_cases hy:y<0<;>simp[hx,hy]at h ⊢ <;> constructor<;>intro h2<;>omega
theorem z5q (u1 u2:Value)(x y:Int)(hx:(aa x.natAbs).length≤50000)(hy:(aa y.natAbs).length≤50000)(w:World)(h1:Rz w u1 x)(h2:Rz w u2 y) :
 Calls Tryz.prog 85 #[u1,u2] w fun e w'=>∃ u,e=.returned u∧Rz w' u (x+y)∧Below w.heap.size w w':=by
 obtain⟨p1,c1,rfl,r1⟩:=h1.sh;obtain⟨p2,c2,rfl,r2⟩:=h2.sh;have hsl:=iE hx hy;have hx':ag x.natAbs≤50000:=hx;have hy':ag y.natAbs≤50000:=hy;have hsl':ag (x.natAbs+y.natAbs)≤50001:=hsl;have hd1:ag (x.natAbs-y.natAbs)≤1000000:=z3u _ _ hx;have hd2:ag (y.natAbs-x.natAbs)≤1000000:=z3u _ _ hy;refine z3n ?_
 cases hs:(ai x==ai y) with
 | true=>exact zF x y (x+y) (x.natAbs+y.natAbs) hs p1 c1 p2 c2 w (fun p1 c1 p2 c2 W h1 h2=>z5R _ _ _ _ (by omega) (by omega) W h1 h2) (fun s d W h=>pU _ _ _ _ (z0o hs) (by omega) W h) r1 r2
 | false =>
   rcases Nat.lt_or_ge x.natAbs y.natAbs with h|h
   · exact z2W x y (x+y) (y.natAbs-x.natAbs) (-1) (by decide) hs p1 c1 p2 c2 w (fun p1 c1 p2 c2 W h1 h2=>by have k:=cCmp (.slice p1 (ae x) c1) (.slice p2 (ae y) c2) x.natAbs y.natAbs (by omega) W h1 h2;rwa [gB h]at k) (fun p1 c1 p2 c2 W h1 h2=>z3v _ _ _ _ (by omega) (by omega) W h1 h2) (fun s d W h'=>pU _ _ _ _ ((qp hs).2 h) hd2 W h') r1 r2
   · exact z2X x y (x+y) (x.natAbs-y.natAbs) (cmpN x.natAbs y.natAbs) (by unfold cmpN;split<;>(try split)<;>omega) hs p1 c1 p2 c2 w (fun p1 c1 p2 c2 W h1 h2=>cCmp _ _ _ _ (by omega) W h1 h2) (fun p1 c1 p2 c2 W h1 h2=>z3v _ _ _ _ h (by omega) W h1 h2) (fun s d W h'=>pU _ _ _ _ ((qp hs).1 h) hd1 W h') r1 r2
theorem yN (x y:Int):x*y=(if (decide (x<0) != decide (y<0)) then -((x.natAbs*y.natAbs:Nat):Int) else ((x.natAbs*y.natAbs:Nat):Int)):=by
 rw[Int.natCast_mul];by_cases hx:x<0
 · by_cases hy:y<0
   · have e1:(x.natAbs:Int) = -x:=by omega
     have e2:(y.natAbs:Int) = -y:=by omega
     rw[e1,e2];simp[hx,hy,Int.neg_mul,Int.mul_neg]
   · have e1:(x.natAbs:Int) = -x:=by omega
     have e2:(y.natAbs:Int)=y:=by omega
     rw[e1,e2];simp[hx,hy,Int.neg_mul]
 · by_cases hy:y<0
   · have e1:(x.natAbs:Int)=x:=by omega
     have e2:(y.natAbs:Int) = -y:=by omega
     rw[e1,e2];simp[hx,hy,Int.mul_neg]
   · have e1:(x.natAbs:Int)=x:=by omega
     have e2:(y.natAbs:Int)=y:=by omega
     rw[e1,e2];simp[hx,hy]
theorem z4A (u1 u2:Value)(x y:Int)(hx:(aa x.natAbs).length≤50000)(hy:(aa y.natAbs).length≤50000)(w:World)(h1:Rz w u1 x)(h2:Rz w u2 y) :
 Calls Tryz.prog 83 #[u1,u2] w fun e w'=>∃ u,e=.returned u∧Rz w' u (x*y)∧Below w.heap.size w w':=by
 obtain⟨p1,c1,rfl,r1⟩:=h1.sh;obtain⟨p2,c2,rfl,r2⟩:=h2.sh;have hml:=iD x.natAbs y.natAbs;have hml':ag (x.natAbs*y.natAbs)≤ag x.natAbs+ag y.natAbs:=hml;have hx':ag x.natAbs≤50000:=hx;have hy':ag y.natAbs≤50000:=hy;exact z3n (zD x y (x*y) (x.natAbs*y.natAbs) p1 c1 p2 c2 w (fun p1 c1 p2 c2 W h1 h2=>uM _ _ _ _ (by omega) (by omega) W h1 h2) (fun s d W h=>pU _ _ _ _ (yN x y) (by omega) W h) r1 r2)
theorem sTo (z:Int)(s:ByteArray)(hs:Sz z=s)(hf:ae z≤10000)(hs2:(Sn z.natAbs).size≤100000)(p:Option Addr)(c:Nat)(w:World)(h:RN w (.slice p (ae z) c) z.natAbs) :
 CR 59 #[.agg #[.bool (ai z),.slice p (ae z) c]] w (.string s):=by subst hs;exact zTo _ z hf hs2 w (Rz.mk h)
theorem vI (z s:Int)(hs:z.sign=s)(p:Option Addr)(c:Nat)(w:World)(h:RN w (.slice p (ae z) c) z.natAbs) :
 CR 52 #[.agg #[.bool (ai z),.slice p (ae z) c]] w (.int .i64 s):=by subst hs;exact z3w _ z w (Rz.mk h)
theorem z4I (x y z:Int)(hz:x*y=z)(hx:ae x≤50000)(hy:ae y≤50000)(p1:Option Addr)(c1:Nat)(p2:Option Addr)(c2:Nat)(w:World)(r1:RN w (.slice p1 (ae x) c1) x.natAbs)(r2:RN w (.slice p2 (ae y) c2) y.natAbs) :
 CZ 83 #[.agg #[.bool (ai x),.slice p1 (ae x) c1],.agg #[.bool (ai y),.slice p2 (ae y) c2]] w z:=by subst hz;exact yT (z4A _ _ x y hx hy w (Rz.mk r1) (Rz.mk r2))
theorem z4N (x y z:Int)(hz:x+y=z)(hx:ae x≤50000)(hy:ae y≤50000)(p1:Option Addr)(c1:Nat)(p2:Option Addr)(c2:Nat)(w:World)(r1:RN w (.slice p1 (ae x) c1) x.natAbs)(r2:RN w (.slice p2 (ae y) c2) y.natAbs) :
 CZ 85 #[.agg #[.bool (ai x),.slice p1 (ae x) c1],.agg #[.bool (ai y),.slice p2 (ae y) c2]] w z:=by subst hz;exact yT (z5q _ _ x y hx hy w (Rz.mk r1) (Rz.mk r2))
theorem z0d (x z:Int)(hz : -x=z)(hx:ae x≤1000000)(p1:Option Addr)(c1:Nat)(w:World)(r1:RN w (.slice p1 (ae x) c1) x.natAbs) :
 CZ 101 #[.agg #[.bool (ai x),.slice p1 (ae x) c1]] w z:=by subst hz;exact yT (zP _ x hx w (Rz.mk r1))
end Go.Proofs.YtnpkghpfmieboaaGreatDoor
set_option maxRecDepth 100000
set_option maxHeartbeats 20000000
open Go.Lib (hid)
namespace Go.Proofs.YtnpkghpfmieboaaGreatDoor
open Go.RowKit Go.Gb
theorem z4J (k:Int)(n:Nat)(hk:(n:Int)=k)(h0:0≤k)(h1:k≤1000000)(w:World) :
 CZ 96 #[.int .i64 k] w k:=by
 have hl:ag n≤1000000:=Nat.le_trans (jw (show n≤1000000 by omega)) (by decide +kernel);have C1:=hid (fun W=>sN k n hk (by omega) W);have C2:=hid (fun v W h=>pU false v n k (by rw[if_neg (by simp)];exact hk.symm) hl W h);have d0:decide (k<0)=false:=decide_eq_false (by omega);have e0:¬ k<0:=by omega
 clear hl hk;go_enter func96,ntmps96
 go_upto_region 1 with fail
 refine ak w [(#[.bool false,.slice none 0 0],55)] rfl ?_;rintro W0 ⟨k1,hb⟩;have ww:=hid (show Below w.heap.size w W0 from hb);have K1:=hid k1;clear k1 hb;go_wp2_with fail
 with_reducible refine(C1.o _).mono ?_
 rintro e W1 ⟨bz,fQ,rfl,rM,hb⟩;have K1:=hid (K1.o.below hb);have rV:=hbt ww hb;have RN1:=hid rM;clear hb rM;go_wp2_with fail
 with_reducible refine(C2.o _ _ RN1.o).mono ?_
 rintro e W2 ⟨ed,d9,rfl,mf,hb⟩;have K1:=hid (K1.o.below hb);have kr:=hbt rV hb;have RK:=hid mf;clear hb mf;obtain ⟨mi,rf⟩:=bH K1.o rfl rfl;obtain ⟨u09,u0a⟩:=gm K1.o;go_wp2;exact bodyPost_ret (v:=.agg #[.bool (ai k),.slice ed (ae k) d9]) (by simp[results,results96,go_sem,mi,rf]) rfl ⟨_,_,rfl,(bC [.bool (ai k),.slice ed (ae k) d9] RK.o K1.o (by simp[bS]) (by simp[bi])),(au (l:=[.bool (ai k),.slice ed (ae k) d9]) (i:=0) (by omega) kr.o)⟩
open Go.Lib (hid)
theorem yD (v1 v2:Value)(a b q r:Nat)(hq:a / b=q)(hr:a%b=r)(hb:b≠0)(hl:ag a≤50000)(w:World)(h1:RN w v1 a)(h2:RN w v2 b) :
 Calls Tryz.prog 100 #[v1,v2] w fun e w'=>∃ p c p' c',e=.returned (.tuple #[.slice p (ag q) c,.slice p' (ag r) c'])∧RN w' (.slice p (ag q) c) q∧RN w' (.slice p' (ag r) c') r∧Below w.heap.size w w':=by
 subst hq hr;exact z5S v1 v2 a b hb hl w h1 h2
theorem z0j {w:World}{p:Option Addr}{n c g:Nat}(h:RN w (.slice p n c) g)(hg:(aa g).length=1):∃ b o,p=some ⟨b,o,none⟩∧n=1∧w.cell? ⟨b,o,none⟩=some (.int .u32 (g:Int)):=by
 rcases h with⟨e,h⟩|⟨b,o,c',e,h2,h3,h4,h5⟩
 · rw[h]at hg;cases hg
 · injection e with e1 e2 e3
   refine⟨b,o,e1,by omega,?_⟩;have h6:=h5 0 (by omega);have hv:=aB g
   have hd:aa g=[(aa g).getD 0 0]:=by
    match hk:aa g,hg with
    | [x],_=>rfl
   rw[hd]at hv;have e0:(aa g).getD 0 0=g:=by simpa [aj] using hv
   rw[e0]at h6;exact h6
theorem zh (z:Int)(d:Nat)(hz:ae z≤50000)(hd:ag d≤50000)(p1:Option Addr)(c1:Nat)(s1:Option Addr)(d1:Nat)(hg:Nat.gcd z.natAbs d=1)(w:World)(r1:RN w (.slice p1 (ae z) c1) z.natAbs)(t1:RN w (.slice s1 (ag d) d1) d) :
 Calls Tryz.prog 82 #[.agg #[.bool (ai z),.slice p1 (ae z) c1],.slice s1 (ag d) d1] w fun e w'=>∃ p c s e1,e=.returned (.agg #[.bool (ai z),.slice p (ae z) c,.slice s (ag d) e1])∧RN w' (.slice p (ae z) c) z.natAbs∧RN w' (.slice s (ag d) e1) d∧Below w.heap.size w w':=by
 have C1:=hid (show ∀ v1 v2 W,RN W v1 z.natAbs→RN W v2 d→Calls Tryz.prog 78 #[v1,v2] W fun e w'=>∃ b o c,e=.returned (.slice (some ⟨b,o,none⟩) 1 c)∧w'.cell? ⟨b,o,none⟩=some (.int .u32 1)∧Below W.heap.size W w' from fun v1 v2 W h1 h2=>by
  refine(oW v1 v2 z.natAbs d 1 hg hz hd W h1 h2).mono ?_;rintro e w' ⟨p,c,rfl,hr,hb⟩;obtain⟨b,o,rfl,_,h⟩:=z0j hr rH;rw[rH]
  exact⟨b,o,c,rfl,h,hb⟩)
 clear hg hz hd;have R1:=hid r1;have T1:=hid t1;clear r1 t1;go_enter func82,ntmps82
 go_upto_region 1 with fail
 refine ak w [(#[.bool (ai z),.slice p1 (ae z) c1],55),(#[.bool false,.slice none 0 0,.slice none 0 0],57)] rfl ?_;rintro W0 ⟨k1,k2,hb⟩;have ww:=hid (show Below w.heap.size w W0 from hb);obtain ⟨R1,T1⟩:=aQ ww.o R1 T1;obtain ⟨K1,K2⟩:=aD k1 k2;clear k1 k2 hb;have rf:=K1.o.cell (i:=1) rfl;go_wp2_with fail
 with_reducible refine(C1.o _ _ _ R1.o T1.o).mono ?_
 rintro e W1 ⟨bM,bV,fQ,rfl,rM,hb⟩;clear rf;obtain ⟨K1,K2,R1,T1⟩:=aW hb K1 K2 R1 T1;have rV:=hbt ww hb;have XC:=hid rM;clear hb rM;have dxc:=XC.o;obtain ⟨mi,rf⟩:=bH K1.o rfl rfl;obtain ⟨l5,l6,lc⟩:=ah K2.o rfl rfl rfl;obtain ⟨bn,bq,bu⟩:=aP K2.o;go_wp2;exact bodyPost_ret (v:=.agg #[.bool (ai z),.slice p1 (ae z) c1,.slice s1 (ag d) d1]) (by simp[results,results82,go_sem,l5,l6,lc]) rfl ⟨_,_,_,_,rfl,(bC [.bool (ai z),.slice p1 (ae z) c1,.slice s1 (ag d) d1] R1.o K2.o (by simp[bS]) (by simp[bi])),(bC [.bool (ai z),.slice p1 (ae z) c1,.slice s1 (ag d) d1] T1.o K2.o (by simp[bS]) (by simp[bi])),(au (l:=[.bool (ai z),.slice p1 (ae z) c1,.slice s1 (ag d) d1]) (i:=0) (by omega) rV.o)⟩
theorem vQ (z:Int)(d:Nat)(hz:ae z≤50000)(hd:ag d≤50000)(p1:Option Addr)(c1:Nat)(s1:Option Addr)(d1:Nat)(g a a1 b b1:Nat)(y:Int)(hg:Nat.gcd z.natAbs d=g)(g0:g≠0)(g1:g≠1)(gl:ag g=1)(ha:z.natAbs / g=a)(ha1:z.natAbs%g=a1)(hb:d / g=b)(hb1:d%g=b1)(hy:y=if ai z then -(a:Int) else (a:Int))(w:World)(r1:RN w (.slice p1 (ae z) c1) z.natAbs)(t1:RN w (.slice s1 (ag d) d1) d) :
 Calls Tryz.prog 82 #[.agg #[.bool (ai z),.slice p1 (ae z) c1],.slice s1 (ag d) d1] w fun e w'=>∃ p c s e1,e=.returned (.agg #[.bool (ai y),.slice p (ae y) c,.slice s (ag b) e1])∧RN w' (.slice p (ae y) c) y.natAbs∧RN w' (.slice s (ag b) e1) b∧Below w.heap.size w w':=by
 have C1:=hid (show ∀ v1 v2 W,RN W v1 z.natAbs→RN W v2 d→Calls Tryz.prog 78 #[v1,v2] W fun e w'=>∃ b o c,e=.returned (.slice (some ⟨b,o,none⟩) 1 c)∧w'.cell? ⟨b,o,none⟩=some (.int .u32 (g:Int))∧RN w' (.slice (some ⟨b,o,none⟩) 1 c) g∧Below W.heap.size W w' from fun v1 v2 W h1 h2=>by
  refine(oW v1 v2 z.natAbs d g hg hz hd W h1 h2).mono ?_;rintro e w' ⟨p,c,rfl,hr,hb⟩;obtain⟨b,o,rfl,_,h⟩:=z0j hr gl;rw[gl]at hr ⊢
  exact⟨b,o,c,rfl,h,hr,hb⟩)
 have C2:=hid (fun v1 v2 W h1 h2=>yD v1 v2 z.natAbs g a a1 ha ha1 g0 hz W h1 h2);have C3:=hid (fun v1 v2 W h1 h2=>yD v1 v2 d g b b1 hb hb1 g0 hd W h1 h2);have C4:=hid (fun v W h=>pU (ai z) v a y hy (by rw[← ha];exact Nat.le_trans (jw (Nat.div_le_self _ _)) (Nat.le_trans hz (by decide))) W h);have g1':((g:Int)==1)=false:=by rw[beq_eq_false_iff_ne];omega
 have g2':¬ (g:Int)=1:=by omega
 have g3':¬ g=1:=g1;clear gl g1 hg hz hd g0 ha ha1 hb hb1 hy;have R1:=hid r1;have T1:=hid t1;clear r1 t1;go_enter func82,ntmps82
 go_upto_region 1 with fail
 refine ak w [(#[.bool (ai z),.slice p1 (ae z) c1],55),(#[.bool false,.slice none 0 0,.slice none 0 0],57)] rfl ?_;rintro W0 ⟨k1,k2,hb⟩;have ww:=hid (show Below w.heap.size w W0 from hb);obtain ⟨R1,T1⟩:=aQ ww.o R1 T1;obtain ⟨K1,K2⟩:=aD k1 k2;clear k1 k2 hb;have rf:=K1.o.cell (i:=1) rfl;go_wp2_with fail
 with_reducible refine(C1.o _ _ _ R1.o T1.o).mono ?_
 rintro e W1 ⟨bM,bV,fQ,rfl,rM,bv,hb⟩;clear rf;obtain ⟨K1,K2,R1,T1⟩:=aW hb K1 K2 R1 T1;have rV:=hbt ww hb;have XC:=hid rM;have RG:=hid bv;clear hb rM bv;have dxc:=XC.o;have rf:=K1.o.cell (i:=1) rfl;go_wp2_with fail
 with_reducible refine(C2.o _ _ _ R1.o RG.o).mono ?_
 rintro e W2 ⟨af,u00,u01,u02,rfl,mf,ky,hb⟩;clear rf;obtain ⟨K1,K2,T1,RG⟩:=aW hb K1 K2 T1 RG;have kr:=hbt rV hb;have RA:=hid mf;have RA1:=hid ky;clear hb mf ky;go_wp2_with fail
 with_reducible refine(C3.o _ _ _ T1.o RG.o).mono ?_
 rintro e W3 ⟨p8,pq,u03,u04,rfl,kz,kK,hb⟩;obtain ⟨K1,K2,RA⟩:=bL hb K1 K2 RA;have dx:=hbt kr hb;have RB:=hid kz;have RB1:=hid kK;clear hb kz kK;have mi:=K1.o.cell (i:=0) rfl;go_wp2_with fail
 with_reducible refine(C4.o _ _ RA.o).mono ?_
 rintro e W4 ⟨ol,oM,rfl,kM,hb⟩;clear mi;obtain ⟨K2,RB⟩:=aQ hb K2 RB;have dz:=hbt dx hb;have RY:=hid kM;clear hb kM;obtain ⟨l5,l6,lc⟩:=ah K2.o rfl rfl rfl;obtain ⟨bn,bq,bu⟩:=aP K2.o;go_wp2;exact bodyPost_ret (v:=.agg #[.bool (ai y),.slice ol (ae y) oM,.slice p8 (ag b) pq]) (by simp[results,results82,go_sem,l5,l6,lc]) rfl ⟨_,_,_,_,rfl,(bC [.bool (ai y),.slice ol (ae y) oM,.slice p8 (ag b) pq] RY.o K2.o (by simp[bS]) (by simp[bi])),(bC [.bool (ai y),.slice ol (ae y) oM,.slice p8 (ag b) pq] RB.o K2.o (by simp[bS]) (by simp[bi])),(au (l:=[.bool (ai y),.slice ol (ae y) oM,.slice p8 (ag b) pq]) (i:=0) (by omega) dz.o)⟩
theorem vR (z:Int)(d:Nat)(hz:ae z≤50000)(hd:ag d≤50000)(p1:Option Addr)(c1:Nat)(s1:Option Addr)(d1:Nat)(g a a1 b b1:Nat)(y:Int)(hg:Nat.gcd z.natAbs d=g)(g0:g≠0)(gl:ag g≠1)(ha:z.natAbs / g=a)(ha1:z.natAbs%g=a1)(hb:d / g=b)(hb1:d%g=b1)(hy:y=if ai z then -(a:Int) else (a:Int))(w:World)(r1:RN w (.slice p1 (ae z) c1) z.natAbs)(t1:RN w (.slice s1 (ag d) d1) d) :
 Calls Tryz.prog 82 #[.agg #[.bool (ai z),.slice p1 (ae z) c1],.slice s1 (ag d) d1] w fun e w'=>∃ p c s e1,e=.returned (.agg #[.bool (ai y),.slice p (ae y) c,.slice s (ag b) e1])∧RN w' (.slice p (ae y) c) y.natAbs∧RN w' (.slice s (ag b) e1) b∧Below w.heap.size w w':=by
 have C1:=hid (fun v1 v2 W h1 h2=>oW v1 v2 z.natAbs d g hg hz hd W h1 h2);have C2:=hid (fun v1 v2 W h1 h2=>yD v1 v2 z.natAbs g a a1 ha ha1 g0 hz W h1 h2);have C3:=hid (fun v1 v2 W h1 h2=>yD v1 v2 d g b b1 hb hb1 g0 hd W h1 h2);have C4:=hid (fun v W h=>pU (ai z) v a y hy (by rw[← ha];exact Nat.le_trans (jw (Nat.div_le_self _ _)) (Nat.le_trans hz (by decide))) W h);have g1':((ag g:Int)==1)=false:=by rw[beq_eq_false_iff_ne];omega
 have g2':¬ (ag g:Int)=1:=by omega
 have g3':¬ ag g=1:=gl;clear gl hg hz hd g0 ha ha1 hb hb1 hy;have R1:=hid r1;have T1:=hid t1;clear r1 t1;go_enter func82,ntmps82
 go_upto_region 1 with fail
 refine ak w [(#[.bool (ai z),.slice p1 (ae z) c1],55),(#[.bool false,.slice none 0 0,.slice none 0 0],57)] rfl ?_;rintro W0 ⟨k1,k2,hb⟩;have ww:=hid (show Below w.heap.size w W0 from hb);obtain ⟨R1,T1⟩:=aQ ww.o R1 T1;obtain ⟨K1,K2⟩:=aD k1 k2;clear k1 k2 hb;have rf:=K1.o.cell (i:=1) rfl;go_wp2_with fail
 with_reducible refine(C1.o _ _ _ R1.o T1.o).mono ?_
 rintro e W1 ⟨bz,fQ,rfl,rM,hb⟩;clear rf;obtain ⟨K1,K2,R1,T1⟩:=aW hb K1 K2 R1 T1;have rV:=hbt ww hb;have RG:=hid rM;clear hb rM;have rf:=K1.o.cell (i:=1) rfl;go_wp2_with fail
 with_reducible refine(C2.o _ _ _ R1.o RG.o).mono ?_
 rintro e W2 ⟨af,u00,u01,u02,rfl,mf,ky,hb⟩;clear rf;obtain ⟨K1,K2,T1,RG⟩:=aW hb K1 K2 T1 RG;have kr:=hbt rV hb;have RA:=hid mf;have RA1:=hid ky;clear hb mf ky;go_wp2_with fail
 with_reducible refine(C3.o _ _ _ T1.o RG.o).mono ?_
 rintro e W3 ⟨p8,pq,u03,u04,rfl,kz,kK,hb⟩;obtain ⟨K1,K2,RA⟩:=bL hb K1 K2 RA;have dx:=hbt kr hb;have RB:=hid kz;have RB1:=hid kK;clear hb kz kK;have mi:=K1.o.cell (i:=0) rfl;go_wp2_with fail
 with_reducible refine(C4.o _ _ RA.o).mono ?_
 rintro e W4 ⟨ol,oM,rfl,kM,hb⟩;clear mi;obtain ⟨K2,RB⟩:=aQ hb K2 RB;have dz:=hbt dx hb;have RY:=hid kM;clear hb kM;obtain ⟨l5,l6,lc⟩:=ah K2.o rfl rfl rfl;obtain ⟨bn,bq,bu⟩:=aP K2.o;go_wp2;exact bodyPost_ret (v:=.agg #[.bool (ai y),.slice ol (ae y) oM,.slice p8 (ag b) pq]) (by simp[results,results82,go_sem,l5,l6,lc]) rfl ⟨_,_,_,_,rfl,(bC [.bool (ai y),.slice ol (ae y) oM,.slice p8 (ag b) pq] RY.o K2.o (by simp[bS]) (by simp[bi])),(bC [.bool (ai y),.slice ol (ae y) oM,.slice p8 (ag b) pq] RB.o K2.o (by simp[bS]) (by simp[bi])),(au (l:=[.bool (ai y),.slice ol (ae y) oM,.slice p8 (ag b) pq]) (i:=0) (by omega) dz.o)⟩
end Go.Proofs.YtnpkghpfmieboaaGreatDoor
open Go.Lib (hid)
namespace Go.Proofs.YtnpkghpfmieboaaGreatDoor
open Go.RowKit Go.Gb
theorem z2d (n1 n2 m n:Int)(en1 en2 f dn:Nat)(p1:Option Addr)(c1:Nat)(s1:Option Addr)(d1:Nat)(p2:Option Addr)(c2:Nat)(s2:Option Addr)(d2:Nat)(w:World)(h1:∀ p1 c1 s1 d1 W,RN W (.slice p1 (ae n2) c1) n2.natAbs→RN W (.slice s1 (ag en2) d1) en2→CF 79 #[.agg #[.bool (ai n2),.slice p1 (ae n2) c1,.slice s1 (ag en2) d1]] W m f)(h2:∀ p1 c1 s1 d1 p2 c2 s2 d2 W,RN W (.slice p1 (ae n1) c1) n1.natAbs→RN W (.slice s1 (ag en1) d1) en1→RN W (.slice p2 (ae m) c2) m.natAbs→RN W (.slice s2 (ag f) d2) f→CF 61 #[.agg #[.bool (ai n1),.slice p1 (ae n1) c1,.slice s1 (ag en1) d1],.agg #[.bool (ai m),.slice p2 (ae m) c2,.slice s2 (ag f) d2]] W n dn)(r1:RN w (.slice p1 (ae n1) c1) n1.natAbs)(t1:RN w (.slice s1 (ag en1) d1) en1)(r2:RN w (.slice p2 (ae n2) c2) n2.natAbs)(t2:RN w (.slice s2 (ag en2) d2) en2) :
 CF 53 #[.agg #[.bool (ai n1),.slice p1 (ae n1) c1,.slice s1 (ag en1) d1],.agg #[.bool (ai n2),.slice p2 (ae n2) c2,.slice s2 (ag en2) d2]] w n dn:=by
 obtain ⟨C1,C2,R1,T1,R2,T2⟩:=cZ h1 h2 r1 t1 r2 t2;clear h1 h2 r1 t1 r2 t2;go_enter func53,ntmps53
 go_upto_region 1 with fail
 refine ak w [(#[.bool (ai n1),.slice p1 (ae n1) c1,.slice s1 (ag en1) d1],57),(#[.bool (ai n2),.slice p2 (ae n2) c2,.slice s2 (ag en2) d2],57),(#[.bool false,.slice none 0 0,.slice none 0 0],57)] rfl ?_;rintro W0 ⟨k1,k2,k3,hb⟩;have ww:=hid (show Below w.heap.size w W0 from hb);obtain ⟨R1,T1,R2,T2⟩:=aW ww.o R1 T1 R2 T2;obtain ⟨K1,K2,K3⟩:=ax k1 k2 k3;clear k1 k2 k3 hb;go_wp2_with fail
 refine ay (fun a0 a' V=>∃ wy wz si sj u6 w9 wo wu,a'=⟨aR [(5,.agg #[.bool (ai n1),.slice p1 (ae n1) c1,.slice s1 (ag en1) d1]),(6,.agg #[.bool (ai n2),.slice p2 (ae n2) c2,.slice s2 (ag en2) d2]),(7,.agg #[.bool (ai m),.slice wy (ae m) wz,.slice si (ag f) sj]),(8,.agg #[.bool (ai n),.slice u6 (ae n) w9,.slice wo (ag dn) wu])] a0.tmps,a0.defers⟩∧Below w.heap.size w V∧SBk V (w.heap.size+1+1) #[.bool (ai n),.slice u6 (ae n) w9,.slice wo (ag dn) wu] 57∧RN V (.slice u6 (ae n) w9) (n).natAbs∧RN V (.slice wo (ag dn) wu) (dn)) ?_ ?_
 · refine aC 4 1 [5,6,7,8] [Rel.val (.agg #[.bool (ai n1),.slice p1 (ae n1) c1,.slice s1 (ag en1) d1]),Rel.val (.agg #[.bool (ai n2),.slice p2 (ae n2) c2,.slice s2 (ag en2) d2]),⟨fun v W=>∃ p c s d,v=.agg #[.bool (ai m),.slice p (ae m) c,.slice s (ag f) d]∧RN W (.slice p (ae m) c) (m).natAbs∧RN W (.slice s (ag f) d) (f),fun _ _ _ ⟨p,c,s,d,e,h0,h1⟩ hb=>⟨p,c,s,d,e,h0.below hb,h1.below hb⟩⟩,⟨fun v W=>∃ p c s d,v=.agg #[.bool (ai n),.slice p (ae n) c,.slice s (ag dn) d]∧RN W (.slice p (ae n) c) (n).natAbs∧RN W (.slice s (ag dn) d) (dn),fun _ _ _ ⟨p,c,s,d,e,h0,h1⟩ hb=>⟨p,c,s,d,e,h0.below hb,h1.below hb⟩⟩] ?_ ?_
   · intro dX a W i HI hD Hr him
     obtain⟨y2,y3⟩:=HI.o.s2 2 3;obtain ⟨mi,rf,u05⟩:=ah (K1.o.below HI.o.world) rfl rfl rfl;obtain ⟨l5,l6,lc⟩:=ah (K2.o.below HI.o.world) rfl rfl rfl;obtain⟨X1,X0⟩:=HI.o.g2 1 6 0 5
     match i,him,Hr with
     | 0,_,Hi|1,_,Hi =>
       refine av rfl fun K' hK=>?_;go_simp;exact hK.o _ _ (HI.o.pw Hi.o)
     | 2,_,Hi =>
       have x1:=X1.q Hi.o;refine av rfl fun K' hK=>?_;go_simp;with_reducible refine(C1.o _ _ _ _ _ (R2.o.below HI.o.world) (T2.o.below HI.o.world)).mono ?_
       rintro e W' ⟨wy,wz,si,sj,rfl,sw,r9,hb⟩;exact hK.o _ _ ⟨HI.o.pc Hi.o hb ⟨wy,wz,si,sj,rfl,sw,r9⟩,trivial⟩
     | 3,_,Hi =>
       have x0:=X0.q Hi.o;obtain⟨v',x2,wy,wz,si,sj,e,sw,r9⟩:=HI.o.at (i:=2) Hi.o (by kernel_rfl) (by decide);obtain rfl:=e;have x2:a.tmps[7]? = some (.agg #[.bool (ai m),.slice wy (ae m) wz,.slice si (ag f) sj]):=x2;have lg:=hid sw;clear sw;have lv:=hid r9;clear r9;refine av rfl fun K' hK=>?_;go_simp;with_reducible refine(C2.o _ _ _ _ _ _ _ _ _ (R1.o.below HI.o.world) (T1.o.below HI.o.world) lg.o lv.o).mono ?_
       rintro e W' ⟨u6,w9,wo,wu,rfl,oV,ma,hb⟩;exact hK.o _ _ ⟨HI.o.pc Hi.o hb ⟨u6,w9,wo,wu,rfl,oV,ma⟩,trivial⟩
     | n+4,h,_=>exact absurd h (by omega)
   · intro dX a W HI hD HA
     obtain⟨v',x2,wy,wz,si,sj,e,sw,r9⟩:=HI.o.slots 2 (by decide) (HA.o 2 (by decide));obtain rfl:=e;have lg:=hid sw;clear sw;have lv:=hid r9;clear r9;obtain⟨v',x3,u6,w9,wo,wu,e,oV,ma⟩:=HI.o.slots 3 (by decide) (HA.o 3 (by decide));obtain rfl:=e;have dY:=hid oV;clear oV;have cO:=hid ma;clear ma;have x3:a.tmps[8]? = some (.agg #[.bool (ai n),.slice u6 (ae n) w9,.slice wo (ag dn) wu]):=x3;have kV:=hid HI.o.world;obtain ⟨bg,K3⟩:=aD (ww.o.trans (kV.o.mono ww.o.size)) (K3.o.below kV.o);have RM:=lg;have TM:=lv;have RQ:=dY;have TQ:=cO;have y4:=HI.o.rst 4 rfl;obtain ⟨gy,fq,fw⟩:=ah K3.o rfl rfl rfl;obtain ⟨u06,u07,u08⟩:=aP K3.o;refine aH (t:=0) ?_;refine av rfl fun K' hK=>?_;go_simp;refine hK.o _ _ ?_;clear hK;refine aO ?_;have s0:∀ {v':Value} {n':Nat},RN W v' n'→RN (storeAll W (w.heap.size+1+1) 0 [.bool (ai n),.slice u6 (ae n) w9,.slice wo (ag dn) wu]) v' n':=fun h'=>bC _ h' K3.o (by simp[bS]) (by simp[bi]);exact⟨rfl,wy,wz,si,sj,u6,w9,wo,wu,(HI.o.finx ⟨HI.o.sx HA.o 0,HI.o.sx HA.o 1,x2,x3,trivial⟩ rfl),(au (l:=[.bool (ai n),.slice u6 (ae n) w9,.slice wo (ag dn) wu]) (i:=0) (by omega) bg.o),(bO (l:=[.bool (ai n),.slice u6 (ae n) w9,.slice wo (ag dn) wu]) (i:=0) K3.o),(s0 RQ.o),(s0 TQ.o)⟩
 rintro a' W1 ⟨wy,wz,si,sj,u6,w9,wo,wu,rfl,z0,z1,z2,z3⟩;obtain ⟨rV,K3,RQ,TQ⟩:=aL z0 z1 z2 z3;clear z0 z1 z2 z3;simp only[aR,List.setIfInBounds_toArray,List.set_cons_zero,List.set_cons_succ];go_wp2;obtain ⟨gy,fq,fw⟩:=ah K3.o rfl rfl rfl;exact bodyPost_ret (v:=.agg #[.bool (ai n),.slice u6 (ae n) w9,.slice wo (ag dn) wu]) (by simp[results,results53,go_sem,gy,fq,fw]) rfl ⟨_,_,_,_,rfl,RQ.o,TQ.o,rV.o⟩
theorem z2i (n1 n2 m n:Int)(en1 en2 f dn:Nat)(p1:Option Addr)(c1:Nat)(s1:Option Addr)(d1:Nat)(p2:Option Addr)(c2:Nat)(s2:Option Addr)(d2:Nat)(w:World)(h1:∀ p1 c1 s1 d1 W,RN W (.slice p1 (ae n2) c1) n2.natAbs→RN W (.slice s1 (ag en2) d1) en2→CF 87 #[.agg #[.bool (ai n2),.slice p1 (ae n2) c1,.slice s1 (ag en2) d1]] W m f)(h2:∀ p1 c1 s1 d1 p2 c2 s2 d2 W,RN W (.slice p1 (ae n1) c1) n1.natAbs→RN W (.slice s1 (ag en1) d1) en1→RN W (.slice p2 (ae m) c2) m.natAbs→RN W (.slice s2 (ag f) d2) f→CF 58 #[.agg #[.bool (ai n1),.slice p1 (ae n1) c1,.slice s1 (ag en1) d1],.agg #[.bool (ai m),.slice p2 (ae m) c2,.slice s2 (ag f) d2]] W n dn)(r1:RN w (.slice p1 (ae n1) c1) n1.natAbs)(t1:RN w (.slice s1 (ag en1) d1) en1)(r2:RN w (.slice p2 (ae n2) c2) n2.natAbs)(t2:RN w (.slice s2 (ag en2) d2) en2) :
 CF 66 #[.agg #[.bool (ai n1),.slice p1 (ae n1) c1,.slice s1 (ag en1) d1],.agg #[.bool (ai n2),.slice p2 (ae n2) c2,.slice s2 (ag en2) d2]] w n dn:=by
 obtain ⟨C1,C2,R1,T1,R2,T2⟩:=cZ h1 h2 r1 t1 r2 t2;clear h1 h2 r1 t1 r2 t2;go_enter func66,ntmps66
 go_upto_region 1 with fail
 refine ak w [(#[.bool (ai n1),.slice p1 (ae n1) c1,.slice s1 (ag en1) d1],57),(#[.bool (ai n2),.slice p2 (ae n2) c2,.slice s2 (ag en2) d2],57),(#[.bool false,.slice none 0 0,.slice none 0 0],57)] rfl ?_;rintro W0 ⟨k1,k2,k3,hb⟩;have ww:=hid (show Below w.heap.size w W0 from hb);obtain ⟨R1,T1,R2,T2⟩:=aW ww.o R1 T1 R2 T2;obtain ⟨K1,K2,K3⟩:=ax k1 k2 k3;clear k1 k2 k3 hb;go_wp2_with fail
 refine ay (fun a0 a' V=>∃ wy wz si sj u6 w9 wo wu,a'=⟨aR [(5,.agg #[.bool (ai n1),.slice p1 (ae n1) c1,.slice s1 (ag en1) d1]),(6,.agg #[.bool (ai n2),.slice p2 (ae n2) c2,.slice s2 (ag en2) d2]),(7,.agg #[.bool (ai m),.slice wy (ae m) wz,.slice si (ag f) sj]),(8,.agg #[.bool (ai n),.slice u6 (ae n) w9,.slice wo (ag dn) wu])] a0.tmps,a0.defers⟩∧Below w.heap.size w V∧SBk V (w.heap.size+1+1) #[.bool (ai n),.slice u6 (ae n) w9,.slice wo (ag dn) wu] 57∧RN V (.slice u6 (ae n) w9) (n).natAbs∧RN V (.slice wo (ag dn) wu) (dn)) ?_ ?_
 · refine aC 4 1 [5,6,7,8] [Rel.val (.agg #[.bool (ai n1),.slice p1 (ae n1) c1,.slice s1 (ag en1) d1]),Rel.val (.agg #[.bool (ai n2),.slice p2 (ae n2) c2,.slice s2 (ag en2) d2]),⟨fun v W=>∃ p c s d,v=.agg #[.bool (ai m),.slice p (ae m) c,.slice s (ag f) d]∧RN W (.slice p (ae m) c) (m).natAbs∧RN W (.slice s (ag f) d) (f),fun _ _ _ ⟨p,c,s,d,e,h0,h1⟩ hb=>⟨p,c,s,d,e,h0.below hb,h1.below hb⟩⟩,⟨fun v W=>∃ p c s d,v=.agg #[.bool (ai n),.slice p (ae n) c,.slice s (ag dn) d]∧RN W (.slice p (ae n) c) (n).natAbs∧RN W (.slice s (ag dn) d) (dn),fun _ _ _ ⟨p,c,s,d,e,h0,h1⟩ hb=>⟨p,c,s,d,e,h0.below hb,h1.below hb⟩⟩] ?_ ?_
   · intro dX a W i HI hD Hr him
     obtain⟨y2,y3⟩:=HI.o.s2 2 3;obtain ⟨mi,rf,u05⟩:=ah (K1.o.below HI.o.world) rfl rfl rfl;obtain ⟨l5,l6,lc⟩:=ah (K2.o.below HI.o.world) rfl rfl rfl;obtain⟨X1,X0⟩:=HI.o.g2 1 6 0 5
     match i,him,Hr with
     | 0,_,Hi|1,_,Hi =>
       refine av rfl fun K' hK=>?_;go_simp;exact hK.o _ _ (HI.o.pw Hi.o)
     | 2,_,Hi =>
       have x1:=X1.q Hi.o;refine av rfl fun K' hK=>?_;go_simp;with_reducible refine(C1.o _ _ _ _ _ (R2.o.below HI.o.world) (T2.o.below HI.o.world)).mono ?_
       rintro e W' ⟨wy,wz,si,sj,rfl,sw,r9,hb⟩;exact hK.o _ _ ⟨HI.o.pc Hi.o hb ⟨wy,wz,si,sj,rfl,sw,r9⟩,trivial⟩
     | 3,_,Hi =>
       have x0:=X0.q Hi.o;obtain⟨v',x2,wy,wz,si,sj,e,sw,r9⟩:=HI.o.at (i:=2) Hi.o (by kernel_rfl) (by decide);obtain rfl:=e;have x2:a.tmps[7]? = some (.agg #[.bool (ai m),.slice wy (ae m) wz,.slice si (ag f) sj]):=x2;have lg:=hid sw;clear sw;have lv:=hid r9;clear r9;refine av rfl fun K' hK=>?_;go_simp;with_reducible refine(C2.o _ _ _ _ _ _ _ _ _ (R1.o.below HI.o.world) (T1.o.below HI.o.world) lg.o lv.o).mono ?_
       rintro e W' ⟨u6,w9,wo,wu,rfl,oV,ma,hb⟩;exact hK.o _ _ ⟨HI.o.pc Hi.o hb ⟨u6,w9,wo,wu,rfl,oV,ma⟩,trivial⟩
     | n+4,h,_=>exact absurd h (by omega)
   · intro dX a W HI hD HA
     obtain⟨v',x2,wy,wz,si,sj,e,sw,r9⟩:=HI.o.slots 2 (by decide) (HA.o 2 (by decide));obtain rfl:=e;have lg:=hid sw;clear sw;have lv:=hid r9;clear r9;obtain⟨v',x3,u6,w9,wo,wu,e,oV,ma⟩:=HI.o.slots 3 (by decide) (HA.o 3 (by decide));obtain rfl:=e;have dY:=hid oV;clear oV;have cO:=hid ma;clear ma;have x3:a.tmps[8]? = some (.agg #[.bool (ai n),.slice u6 (ae n) w9,.slice wo (ag dn) wu]):=x3;have kV:=hid HI.o.world;obtain ⟨bg,K3⟩:=aD (ww.o.trans (kV.o.mono ww.o.size)) (K3.o.below kV.o);have RM:=lg;have TM:=lv;have RQ:=dY;have TQ:=cO;have y4:=HI.o.rst 4 rfl;obtain ⟨gy,fq,fw⟩:=ah K3.o rfl rfl rfl;obtain ⟨u06,u07,u08⟩:=aP K3.o;refine aH (t:=0) ?_;refine av rfl fun K' hK=>?_;go_simp;refine hK.o _ _ ?_;clear hK;refine aO ?_;have s0:∀ {v':Value} {n':Nat},RN W v' n'→RN (storeAll W (w.heap.size+1+1) 0 [.bool (ai n),.slice u6 (ae n) w9,.slice wo (ag dn) wu]) v' n':=fun h'=>bC _ h' K3.o (by simp[bS]) (by simp[bi]);exact⟨rfl,wy,wz,si,sj,u6,w9,wo,wu,(HI.o.finx ⟨HI.o.sx HA.o 0,HI.o.sx HA.o 1,x2,x3,trivial⟩ rfl),(au (l:=[.bool (ai n),.slice u6 (ae n) w9,.slice wo (ag dn) wu]) (i:=0) (by omega) bg.o),(bO (l:=[.bool (ai n),.slice u6 (ae n) w9,.slice wo (ag dn) wu]) (i:=0) K3.o),(s0 RQ.o),(s0 TQ.o)⟩
 rintro a' W1 ⟨wy,wz,si,sj,u6,w9,wo,wu,rfl,z0,z1,z2,z3⟩;obtain ⟨rV,K3,RQ,TQ⟩:=aL z0 z1 z2 z3;clear z0 z1 z2 z3;simp only[aR,List.setIfInBounds_toArray,List.set_cons_zero,List.set_cons_succ];go_wp2;obtain ⟨gy,fq,fw⟩:=ah K3.o rfl rfl rfl;exact bodyPost_ret (v:=.agg #[.bool (ai n),.slice u6 (ae n) w9,.slice wo (ag dn) wu]) (by simp[results,results66,go_sem,gy,fq,fw]) rfl ⟨_,_,_,_,rfl,RQ.o,TQ.o,rV.o⟩
