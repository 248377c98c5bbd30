/- texts -/
import Derived.Test.YtodcdibanokjjaaGreatDoorMz39q
import Derived.Test.YtodcdibanokjjaaGreatDoorMz30q
open Go.Proofs.Tryz
set_option maxRecDepth 100000
set_option maxHeartbeats 20000000
namespace Go.Proofs.YtodcdibanokjjaaGreatDoor
open Go.RowKit Go.Gb
theorem z2G (ba bb r:Bool)(p1:Option Addr)(l1 c1:Nat)(p2:Option Addr)(l2 c2:Nat)(L:Nat)(s:Int)(w:World)
 (hs:s=if r=true then -1 else if 0<L then 1 else 0)
 (hM:∀ W,Below w.heap.size w W→Calls Tryz.prog 127 #[.agg #[.bool ba,.slice p1 l1 c1],.agg #[.bool bb,.slice p2 l2 c2]] W fun e w'=>∃ p c,e=.returned (.agg #[.bool r,.slice p L c])∧Below W.heap.size W w') :
 CR 97 #[.agg #[.bool ba,.slice p1 l1 c1],.agg #[.bool bb,.slice p2 l2 c2]] w (.int .i64 s):=by
 have HM:=Lib.hid hM;have HS:=Lib.hid (fun W p c=>nK r p L c s hs W);have HW:=Lib.hid (((Below.refl w.heap.size w).alloc (Nat.le_refl _) (.cells #[.bool ba,.slice p1 l1 c1] 46)).alloc (by simp) (.cells #[.bool bb,.slice p2 l2 c2] 46));clear hM hs;go_enter func97,ntmps97
 go_wp2_with fail
 refine(HM.out _ HW.out).mono ?_;rintro e w1 ⟨p,c,rfl,hb1⟩;have HB1:=Lib.hid (HW.out.trans (hb1.mono HW.out.size));clear hb1;go_wp2_with fail
 refine(HS.out w1 p c).mono ?_;rintro e w2 ⟨rfl,hb⟩;have HB2:=Lib.hid (HB1.out.trans (hb.mono HB1.out.size));clear hb;go_wp2;go_ret
 exact⟨rfl,HB2.out⟩
theorem zCmp (u1 u2:Value)(x y:Int)(hx:(ae x.natAbs).length≤50000)(hy:(ae y.natAbs).length≤50000)(w:World)(h1:Rz w u1 x)(h2:Rz w u2 y) :
 CR 97 #[u1,u2] w (.int .i64 (cmpZ x y)):=by
 obtain⟨p1,c1,rfl,r1⟩:=iy h1;obtain⟨p2,c2,rfl,r2⟩:=iy h2;refine z2G _ _ (decide (x-y<0)) p1 _ c1 p2 _ c2 (ae (x-y).natAbs).length (cmpZ x y) w ?_ ?_
 · have hl:=pV (x-y).natAbs
   rcases Int.lt_trichotomy x y with h|h|h
   · rw[nA h,if_pos (decide_eq_true (by omega))]
   · subst h
     rw[qg,Int.sub_self];simp[aM]
   · rw[nC h,if_neg (by rw[decide_eq_false (by omega)];simp),if_pos]
     exact List.length_pos_iff.2 (by rw[bD (by omega)];simp)
 · intro W hW
   exact(p9 rfl rfl (z4q _ _ x y hx hy W (Rz.below ⟨_,rfl,r1⟩ hW) (Rz.below ⟨_,rfl,r2⟩ hW))).mono fun e w' ⟨p,c,e1,_,e3⟩=>⟨p,c,e1,e3⟩
theorem sTo (z:Int)(s:ByteArray)(hs:Sz z=s)(hf:aa z≤10000)(hs2:(Sn z.natAbs).size≤100000)(p:Option Addr)(c:Nat)(w:World)(h:RN w (.slice p (aa z) c) z.natAbs) :
 CR 55 #[.agg #[.bool (ah z),.slice p (aa z) c]] w (.string s):=by subst hs;exact zTo _ z hf hs2 w (Rz.mk h)
theorem tu (z s:Int)(hs:z.sign=s)(p:Option Addr)(c:Nat)(w:World)(h:RN w (.slice p (aa z) c) z.natAbs) :
 CR 65 #[.agg #[.bool (ah z),.slice p (aa z) c]] w (.int .i64 s):=by subst hs;exact z3n _ z w (Rz.mk h)
theorem z4B (x y z:Int)(hz:x*y=z)(hx:aa x≤50000)(hy:aa y≤50000)(p1:Option Addr)(c1:Nat)(p2:Option Addr)(c2:Nat)(w:World)(r1:RN w (.slice p1 (aa x) c1) x.natAbs)(r2:RN w (.slice p2 (aa y) c2) y.natAbs) :
 CZ 63 #[.agg #[.bool (ah x),.slice p1 (aa x) c1],.agg #[.bool (ah y),.slice p2 (aa y) c2]] w z:=by subst hz;exact wW (z4n _ _ x y hx hy w (Rz.mk r1) (Rz.mk r2))
theorem z4E (x y z:Int)(hz:x+y=z)(hx:aa x≤50000)(hy:aa y≤50000)(p1:Option Addr)(c1:Nat)(p2:Option Addr)(c2:Nat)(w:World)(r1:RN w (.slice p1 (aa x) c1) x.natAbs)(r2:RN w (.slice p2 (aa y) c2) y.natAbs) :
 CZ 68 #[.agg #[.bool (ah x),.slice p1 (aa x) c1],.agg #[.bool (ah y),.slice p2 (aa y) c2]] w z:=by subst hz;exact wW (z4p _ _ x y hx hy w (Rz.mk r1) (Rz.mk r2))
theorem zi (x z:Int)(hz : -x=z)(hx:aa x≤1000000)(p1:Option Addr)(c1:Nat)(w:World)(r1:RN w (.slice p1 (aa x) c1) x.natAbs) :
 CZ 98 #[.agg #[.bool (ah x),.slice p1 (aa x) c1]] w z:=by subst hz;exact wW (qC _ x hx w (Rz.mk r1))
end Go.Proofs.YtodcdibanokjjaaGreatDoor
open Go.Lib (hid)
namespace Go.Proofs.YtodcdibanokjjaaGreatDoor
open Go.RowKit Go.Gb
theorem z4C (k:Int)(n:Nat)(hk:(n:Int)=k)(h0:0≤k)(h1:k≤1000000)(w:World) :
 CZ 60 #[.int .i64 k] w k:=by
 have hl:ag n≤1000000:=Nat.le_trans (iN (show n≤1000000 by omega)) (by decide +kernel);have C1:=hid (fun W=>lh k n hk (by omega) W);have C2:=hid (fun v W h=>ll false v n k (by rw[if_neg (by simp)];exact hk.symm) hl W h);have d0:decide (k<0)=false:=decide_eq_false (by omega);have e0:¬ k<0:=by omega
 clear hl hk;go_enter func60,ntmps60
 go_upto_region 1 with fail
 refine ax w [(#[.bool false,.slice none 0 0],46)] rfl ?_;rintro W0 ⟨k1,hb⟩;have HB0:=hid (show Below w.heap.size w W0 from hb);have K1:=hid k1;clear k1 hb;go_wp2_with fail
 with_reducible refine(C1.out _).mono ?_
 rintro e W1 ⟨p_1,c_1,rfl,u00,hb⟩;have K1:=hid (K1.out.below hb);have HB1:=hbt HB0 hb;have RN1:=hid u00;clear hb u00;go_wp2_with fail
 with_reducible refine(C2.out _ _ RN1.out).mono ?_
 rintro e W2 ⟨p_2,c_2,rfl,u05,hb⟩;have K1:=hid (K1.out.below hb);have HB2:=hbt HB1 hb;have RK:=hid u05;clear hb u05;obtain ⟨dK10,dK11⟩:=cz2 K1.out rfl rfl;obtain ⟨fK10,fK11⟩:=fz2 K1.out;go_wp2;exact bodyPost_ret (v:=.agg #[.bool (ah k),.slice p_2 (aa k) c_2]) (by simp[results,results60,go_sem,dK10,dK11]) rfl ⟨_,_,rfl,(aV [.bool (ah k),.slice p_2 (aa k) c_2] RK.out K1.out (by simp[bF]) (by simp[aW])),(au (l:=[.bool (ah k),.slice p_2 (aa k) c_2]) (i:=0) (by omega) HB2.out)⟩
theorem wV (w:World) :
 Calls Tryz.prog 60 #[.int .i64 (-1)] w fun e w'=>∃ p c,e=.returned (.agg #[.bool (ah (-1)),.slice p (aa (-1)) c])∧RN w' (.slice p (aa (-1)) c) (-1:Int).natAbs∧Below w.heap.size w w':=by
 have C1:=hid (fun W=>lh 1 1 rfl (by decide) W);have C2:=hid (fun v W h=>ll true v 1 (-1) rfl (by rw[lU];decide) W h);go_enter func60,ntmps60
 go_upto_region 1 with fail
 refine ax w [(#[.bool false,.slice none 0 0],46)] rfl ?_;rintro W0 ⟨k1,hb⟩;have HB0:=hid (show Below w.heap.size w W0 from hb);have K1:=hid k1;clear k1 hb;go_wp2_with fail
 with_reducible refine(C1.out _).mono ?_
 rintro e W1 ⟨p_1,c_1,rfl,u00,hb⟩;have K1:=hid (K1.out.below hb);have HB1:=hbt HB0 hb;have RN1:=hid u00;clear hb u00;go_wp2_with fail
 with_reducible refine(C2.out _ _ RN1.out).mono ?_
 rintro e W2 ⟨p_2,c_2,rfl,u05,hb⟩;have K1:=hid (K1.out.below hb);have HB2:=hbt HB1 hb;have RK:=hid u05;clear hb u05;obtain ⟨dK10,dK11⟩:=cz2 K1.out rfl rfl;obtain ⟨fK10,fK11⟩:=fz2 K1.out;go_wp2;exact bodyPost_ret (v:=.agg #[.bool (ah (-1)),.slice p_2 (aa (-1)) c_2]) (by simp[results,results60,go_sem,dK10,dK11]) rfl ⟨_,_,rfl,(aV [.bool (ah (-1)),.slice p_2 (aa (-1)) c_2] RK.out K1.out (by simp[bF]) (by simp[aW])),(au (l:=[.bool (ah (-1)),.slice p_2 (aa (-1)) c_2]) (i:=0) (by omega) HB2.out)⟩
open Go.Lib (hid)
theorem wD (v1 v2:Value)(a b q r:Nat)(hq:a / b=q)(hr:a%b=r)(hb:b≠0)(hl:ag a≤50000)(w:World)(h1:RN w v1 a)(h2:RN w v2 b) :
 Calls Tryz.prog 100 #[v1,v2] w fun e w'=>∃ p c p' c',e=.returned (.tuple #[.slice p (ag q) c,.slice p' (ag r) c'])∧RN w' (.slice p (ag q) c) q∧RN w' (.slice p' (ag r) c') r∧Below w.heap.size w w':=by
 subst hq hr;exact z5w v1 v2 a b hb hl w h1 h2
theorem zq {w:World}{p:Option Addr}{n c g:Nat}(h:RN w (.slice p n c) g)(hg:(ae g).length=1):∃ b o,p=some ⟨b,o,none⟩∧n=1∧w.cell? ⟨b,o,none⟩=some (.int .u32 (g:Int)):=by
 rcases h with⟨e,h⟩|⟨b,o,c',e,h2,h3,h4,h5⟩
 · rw[h]at hg;cases hg
 · injection e with e1 e2 e3
   refine⟨b,o,e1,by omega,?_⟩;have h6:=h5 0 (by omega);have hv:=ay g
   have hd:ae g=[(ae g).getD 0 0]:=by
    match hk:ae g,hg with
    | [x],_=>rfl
   rw[hd]at hv;have e0:(ae g).getD 0 0=g:=by simpa [ai] using hv
   rw[e0]at h6;exact h6
theorem xu (z:Int)(d:Nat)(hz:aa z≤50000)(hd:ag d≤50000)(p1:Option Addr)(c1:Nat)(s1:Option Addr)(d1:Nat)(hg:Nat.gcd z.natAbs d=1)(w:World)(r1:RN w (.slice p1 (aa z) c1) z.natAbs)(t1:RN w (.slice s1 (ag d) d1) d) :
 Calls Tryz.prog 62 #[.agg #[.bool (ah z),.slice p1 (aa z) c1],.slice s1 (ag d) d1] w fun e w'=>∃ p c s e1,e=.returned (.agg #[.bool (ah z),.slice p (aa z) c,.slice s (ag d) e1])∧RN w' (.slice p (aa z) c) z.natAbs∧RN w' (.slice s (ag d) e1) d∧Below w.heap.size w w':=by
 have C1:=hid (show ∀ v1 v2 W,RN W v1 z.natAbs→RN W v2 d→Calls Tryz.prog 85 #[v1,v2] W fun e w'=>∃ b o c,e=.returned (.slice (some ⟨b,o,none⟩) 1 c)∧w'.cell? ⟨b,o,none⟩=some (.int .u32 1)∧Below W.heap.size W w' from fun v1 v2 W h1 h2=>by
  refine(nI v1 v2 z.natAbs d 1 hg hz hd W h1 h2).mono ?_;rintro e w' ⟨p,c,rfl,hr,hb⟩;obtain⟨b,o,rfl,_,h⟩:=zq hr lU;rw[lU]
  exact⟨b,o,c,rfl,h,hb⟩)
 clear hg hz hd;obtain ⟨R1,T1⟩:=hz2 r1 t1;clear r1 t1;go_enter func62,ntmps62
 go_upto_region 1 with fail
 refine ax w [(#[.bool (ah z),.slice p1 (aa z) c1],46),(#[.bool false,.slice none 0 0,.slice none 0 0],48)] rfl ?_;rintro W0 ⟨k1,k2,hb⟩;have HB0:=hid (show Below w.heap.size w W0 from hb);obtain ⟨R1,T1,K1,K2⟩:=hz4 (R1.out.below HB0.out) (T1.out.below HB0.out) k1 k2;clear k1 k2 hb;have dK11:=K1.out.cell (i:=1) rfl;go_wp2_with fail
 with_reducible refine(C1.out _ _ _ R1.out T1.out).mono ?_
 rintro e W1 ⟨b_1,o_1,c_1,rfl,u00,hb⟩;clear dK11;obtain ⟨K1,K2,R1,T1⟩:=hz4 (K1.out.below hb) (K2.out.below hb) (R1.out.below hb) (T1.out.below hb);have HB1:=hbt HB0 hb;have XC:=hid u00;clear hb u00;have dxc:=XC.out;obtain ⟨dK10,dK11⟩:=cz2 K1.out rfl rfl;obtain ⟨dK20,dK21,dK22⟩:=cz3 K2.out rfl rfl rfl;obtain ⟨fK20,fK21,fK22⟩:=fz3 K2.out;go_wp2;exact bodyPost_ret (v:=.agg #[.bool (ah z),.slice p1 (aa z) c1,.slice s1 (ag d) d1]) (by simp[results,results62,go_sem,dK20,dK21,dK22]) rfl ⟨_,_,_,_,rfl,(aV [.bool (ah z),.slice p1 (aa z) c1,.slice s1 (ag d) d1] R1.out K2.out (by simp[bF]) (by simp[aW])),(aV [.bool (ah z),.slice p1 (aa z) c1,.slice s1 (ag d) d1] T1.out K2.out (by simp[bF]) (by simp[aW])),(au (l:=[.bool (ah z),.slice p1 (aa z) c1,.slice s1 (ag d) d1]) (i:=0) (by omega) HB1.out)⟩
theorem tN (z:Int)(d:Nat)(hz:aa z≤50000)(hd:ag d≤50000)(p1:Option Addr)(c1:Nat)(s1:Option Addr)(d1:Nat)(g a a1 b b1:Nat)(y:Int)(hg:Nat.gcd z.natAbs d=g)(g0:g≠0)(g1:g≠1)(gl:ag g=1)(ha:z.natAbs / g=a)(ha1:z.natAbs%g=a1)(hb:d / g=b)(hb1:d%g=b1)(hy:y=if ah z then -(a:Int) else (a:Int))(w:World)(r1:RN w (.slice p1 (aa z) c1) z.natAbs)(t1:RN w (.slice s1 (ag d) d1) d) :
 Calls Tryz.prog 62 #[.agg #[.bool (ah z),.slice p1 (aa z) c1],.slice s1 (ag d) d1] w fun e w'=>∃ p c s e1,e=.returned (.agg #[.bool (ah y),.slice p (aa y) c,.slice s (ag b) e1])∧RN w' (.slice p (aa y) c) y.natAbs∧RN w' (.slice s (ag b) e1) b∧Below w.heap.size w w':=by
 have C1:=hid (show ∀ v1 v2 W,RN W v1 z.natAbs→RN W v2 d→Calls Tryz.prog 85 #[v1,v2] W fun e w'=>∃ b o c,e=.returned (.slice (some ⟨b,o,none⟩) 1 c)∧w'.cell? ⟨b,o,none⟩=some (.int .u32 (g:Int))∧RN w' (.slice (some ⟨b,o,none⟩) 1 c) g∧Below W.heap.size W w' from fun v1 v2 W h1 h2=>by
  refine(nI v1 v2 z.natAbs d g hg hz hd W h1 h2).mono ?_;rintro e w' ⟨p,c,rfl,hr,hb⟩;obtain⟨b,o,rfl,_,h⟩:=zq hr gl;rw[gl]at hr ⊢
  exact⟨b,o,c,rfl,h,hr,hb⟩)
 have C2:=hid (fun v1 v2 W h1 h2=>wD v1 v2 z.natAbs g a a1 ha ha1 g0 hz W h1 h2);have C3:=hid (fun v1 v2 W h1 h2=>wD v1 v2 d g b b1 hb hb1 g0 hd W h1 h2);have C4:=hid (fun v W h=>ll (ah z) v a y hy (by rw[← ha];exact Nat.le_trans (iN (Nat.div_le_self _ _)) (Nat.le_trans hz (by decide))) W h);have g1':((g:Int)==1)=false:=by rw[beq_eq_false_iff_ne];omega
 have g2':¬ (g:Int)=1:=by omega
 have g3':¬ g=1:=g1;clear gl g1 hg hz hd g0 ha ha1 hb hb1 hy;obtain ⟨R1,T1⟩:=hz2 r1 t1;clear r1 t1;go_enter func62,ntmps62
 go_upto_region 1 with fail
 refine ax w [(#[.bool (ah z),.slice p1 (aa z) c1],46),(#[.bool false,.slice none 0 0,.slice none 0 0],48)] rfl ?_;rintro W0 ⟨k1,k2,hb⟩;have HB0:=hid (show Below w.heap.size w W0 from hb);obtain ⟨R1,T1,K1,K2⟩:=hz4 (R1.out.below HB0.out) (T1.out.below HB0.out) k1 k2;clear k1 k2 hb;have dK11:=K1.out.cell (i:=1) rfl;go_wp2_with fail
 with_reducible refine(C1.out _ _ _ R1.out T1.out).mono ?_
 rintro e W1 ⟨b_1,o_1,c_1,rfl,u00,u0o,hb⟩;clear dK11;obtain ⟨K1,K2,R1,T1⟩:=hz4 (K1.out.below hb) (K2.out.below hb) (R1.out.below hb) (T1.out.below hb);have HB1:=hbt HB0 hb;obtain ⟨XC,RG⟩:=hz2 u00 u0o;clear hb u00 u0o;have dxc:=XC.out;have dK11:=K1.out.cell (i:=1) rfl;go_wp2_with fail
 with_reducible refine(C2.out _ _ _ R1.out RG.out).mono ?_
 rintro e W2 ⟨u0r,u0s,u0t,u0u,rfl,u05,u0f,hb⟩;clear dK11;obtain ⟨K1,K2,T1,RG⟩:=hz4 (K1.out.below hb) (K2.out.below hb) (T1.out.below hb) (RG.out.below hb);have HB2:=hbt HB1 hb;obtain ⟨RA,RA1⟩:=hz2 u05 u0f;clear hb u05 u0f;go_wp2_with fail
 with_reducible refine(C3.out _ _ _ T1.out RG.out).mono ?_
 rintro e W3 ⟨u06,u07,u0v,u0w,rfl,u0g,u0h,hb⟩;obtain ⟨K1,K2,RA⟩:=hz3 (K1.out.below hb) (K2.out.below hb) (RA.out.below hb);have HB3:=hbt HB2 hb;obtain ⟨RB,RB1⟩:=hz2 u0g u0h;clear hb u0g u0h;have dK10:=K1.out.cell (i:=0) rfl;go_wp2_with fail
 with_reducible refine(C4.out _ _ RA.out).mono ?_
 rintro e W4 ⟨p_4,c_4,rfl,u0i,hb⟩;clear dK10;obtain ⟨K2,RB⟩:=hz2 (K2.out.below hb) (RB.out.below hb);have HB4:=hbt HB3 hb;have RY:=hid u0i;clear hb u0i;obtain ⟨dK20,dK21,dK22⟩:=cz3 K2.out rfl rfl rfl;obtain ⟨fK20,fK21,fK22⟩:=fz3 K2.out;go_wp2;exact bodyPost_ret (v:=.agg #[.bool (ah y),.slice p_4 (aa y) c_4,.slice u06 (ag b) u07]) (by simp[results,results62,go_sem,dK20,dK21,dK22]) rfl ⟨_,_,_,_,rfl,(aV [.bool (ah y),.slice p_4 (aa y) c_4,.slice u06 (ag b) u07] RY.out K2.out (by simp[bF]) (by simp[aW])),(aV [.bool (ah y),.slice p_4 (aa y) c_4,.slice u06 (ag b) u07] RB.out K2.out (by simp[bF]) (by simp[aW])),(au (l:=[.bool (ah y),.slice p_4 (aa y) c_4,.slice u06 (ag b) u07]) (i:=0) (by omega) HB4.out)⟩
theorem tO (z:Int)(d:Nat)(hz:aa z≤50000)(hd:ag d≤50000)(p1:Option Addr)(c1:Nat)(s1:Option Addr)(d1:Nat)(g a a1 b b1:Nat)(y:Int)(hg:Nat.gcd z.natAbs d=g)(g0:g≠0)(gl:ag g≠1)(ha:z.natAbs / g=a)(ha1:z.natAbs%g=a1)(hb:d / g=b)(hb1:d%g=b1)(hy:y=if ah z then -(a:Int) else (a:Int))(w:World)(r1:RN w (.slice p1 (aa z) c1) z.natAbs)(t1:RN w (.slice s1 (ag d) d1) d) :
 Calls Tryz.prog 62 #[.agg #[.bool (ah z),.slice p1 (aa z) c1],.slice s1 (ag d) d1] w fun e w'=>∃ p c s e1,e=.returned (.agg #[.bool (ah y),.slice p (aa y) c,.slice s (ag b) e1])∧RN w' (.slice p (aa y) c) y.natAbs∧RN w' (.slice s (ag b) e1) b∧Below w.heap.size w w':=by
 have C1:=hid (fun v1 v2 W h1 h2=>nI v1 v2 z.natAbs d g hg hz hd W h1 h2);have C2:=hid (fun v1 v2 W h1 h2=>wD v1 v2 z.natAbs g a a1 ha ha1 g0 hz W h1 h2);have C3:=hid (fun v1 v2 W h1 h2=>wD v1 v2 d g b b1 hb hb1 g0 hd W h1 h2);have C4:=hid (fun v W h=>ll (ah z) v a y hy (by rw[← ha];exact Nat.le_trans (iN (Nat.div_le_self _ _)) (Nat.le_trans hz (by decide))) W h);have g1':((ag g:Int)==1)=false:=by rw[beq_eq_false_iff_ne];omega
 have g2':¬ (ag g:Int)=1:=by omega
 have g3':¬ ag g=1:=gl;clear gl hg hz hd g0 ha ha1 hb hb1 hy;obtain ⟨R1,T1⟩:=hz2 r1 t1;clear r1 t1;go_enter func62,ntmps62
 go_upto_region 1 with fail
 refine ax w [(#[.bool (ah z),.slice p1 (aa z) c1],46),(#[.bool false,.slice none 0 0,.slice none 0 0],48)] rfl ?_;rintro W0 ⟨k1,k2,hb⟩;have HB0:=hid (show Below w.heap.size w W0 from hb);obtain ⟨R1,T1,K1,K2⟩:=hz4 (R1.out.below HB0.out) (T1.out.below HB0.out) k1 k2;clear k1 k2 hb;have dK11:=K1.out.cell (i:=1) rfl;go_wp2_with fail
 with_reducible refine(C1.out _ _ _ R1.out T1.out).mono ?_
 rintro e W1 ⟨p_1,c_1,rfl,u00,hb⟩;clear dK11;obtain ⟨K1,K2,R1,T1⟩:=hz4 (K1.out.below hb) (K2.out.below hb) (R1.out.below hb) (T1.out.below hb);have HB1:=hbt HB0 hb;have RG:=hid u00;clear hb u00;have dK11:=K1.out.cell (i:=1) rfl;go_wp2_with fail
 with_reducible refine(C2.out _ _ _ R1.out RG.out).mono ?_
 rintro e W2 ⟨u0r,u0s,u0t,u0u,rfl,u05,u0f,hb⟩;clear dK11;obtain ⟨K1,K2,T1,RG⟩:=hz4 (K1.out.below hb) (K2.out.below hb) (T1.out.below hb) (RG.out.below hb);have HB2:=hbt HB1 hb;obtain ⟨RA,RA1⟩:=hz2 u05 u0f;clear hb u05 u0f;go_wp2_with fail
 with_reducible refine(C3.out _ _ _ T1.out RG.out).mono ?_
 rintro e W3 ⟨u06,u07,u0v,u0w,rfl,u0g,u0h,hb⟩;obtain ⟨K1,K2,RA⟩:=hz3 (K1.out.below hb) (K2.out.below hb) (RA.out.below hb);have HB3:=hbt HB2 hb;obtain ⟨RB,RB1⟩:=hz2 u0g u0h;clear hb u0g u0h;have dK10:=K1.out.cell (i:=0) rfl;go_wp2_with fail
 with_reducible refine(C4.out _ _ RA.out).mono ?_
 rintro e W4 ⟨p_4,c_4,rfl,u0i,hb⟩;clear dK10;obtain ⟨K2,RB⟩:=hz2 (K2.out.below hb) (RB.out.below hb);have HB4:=hbt HB3 hb;have RY:=hid u0i;clear hb u0i;obtain ⟨dK20,dK21,dK22⟩:=cz3 K2.out rfl rfl rfl;obtain ⟨fK20,fK21,fK22⟩:=fz3 K2.out;go_wp2;exact bodyPost_ret (v:=.agg #[.bool (ah y),.slice p_4 (aa y) c_4,.slice u06 (ag b) u07]) (by simp[results,results62,go_sem,dK20,dK21,dK22]) rfl ⟨_,_,_,_,rfl,(aV [.bool (ah y),.slice p_4 (aa y) c_4,.slice u06 (ag b) u07] RY.out K2.out (by simp[bF]) (by simp[aW])),(aV [.bool (ah y),.slice p_4 (aa y) c_4,.slice u06 (ag b) u07] RB.out K2.out (by simp[bF]) (by simp[aW])),(au (l:=[.bool (ah y),.slice p_4 (aa y) c_4,.slice u06 (ag b) u07]) (i:=0) (by omega) HB4.out)⟩
structure QS where
 b:Bool
 a:Option Addr
 n:Nat
 c:Nat
 e:Option Addr
 m:Nat
 d:Nat
def FQ (W:World) (q:QS) (x:Rat):Prop:=q.b=ah x.num∧q.n=aa x.num∧q.m=ag x.den∧RN W (.slice q.a q.n q.c) x.num.natAbs∧RN W (.slice q.e q.m q.d) x.den
theorem FQ.below {W W':World}{q:QS}{x:Rat}(h:FQ W q x)(hb:Below W.heap.size W W'):FQ W' q x:=⟨h.1,h.2.1,h.2.2.1,h.2.2.2.1.below hb,h.2.2.2.2.below hb⟩
theorem bP {q:QS}{x:Rat}{g:Nat}{T:TypeId}(l:List Value)(i:Nat){w:World}{cs:Array Value}(h:FQ w q x)(hg:SBk w g cs T)(hn:bF cs=true)(hl:l.all aW=true):FQ (storeAll w g i l) q x:=⟨h.1,h.2.1,h.2.2.1,lT l i h.2.2.2.1 hg hn hl,lT l i h.2.2.2.2 hg hn hl⟩
abbrev QS.v (q:QS):Value:=.agg #[.bool q.b,.slice q.a q.n q.c,.slice q.e q.m q.d]
abbrev RQ (W:World) (x:Rat):Ending→World→Prop:=fun e w'=>∃ q:QS,e=.returned (.agg #[.bool q.b,.slice q.a q.n q.c,.slice q.e q.m q.d])∧FQ w' q x∧Below W.heap.size W w'
abbrev RQb (W:World) (x:Rat) (b:Bool):Ending→World→Prop:=fun e w'=>∃ q:QS,e=.returned (.tuple #[.agg #[.bool q.b,.slice q.a q.n q.c,.slice q.e q.m q.d],.bool b])∧FQ w' q x∧Below W.heap.size W w'
abbrev RQi (W:World) (x:Rat) (er:Int):Ending→World→Prop:=fun e w'=>∃ q:QS,e=.returned (.tuple #[.agg #[.bool q.b,.slice q.a q.n q.c,.slice q.e q.m q.d],.int .i64 er])∧FQ w' q x∧Below W.heap.size W w'
abbrev RQQi (W:World) (xa xb:Rat) (er:Int):Ending→World→Prop:=fun e w'=>∃ qa qb:QS,e=.returned (.tuple #[.agg #[.bool qa.b,.slice qa.a qa.n qa.c,.slice qa.e qa.m qa.d],.agg #[.bool qb.b,.slice qb.a qb.n qb.c,.slice qb.e qb.m qb.d],.int .i64 er])∧FQ w' qa xa∧FQ w' qb xb∧Below W.heap.size W w'
abbrev RP (W:World) (v:Value):Ending→World→Prop:=fun e w'=>e=.returned v∧Below W.heap.size W w'
abbrev KQ1 (f:Nat) (x0:Rat) (z:Rat):Prop:=∀ (q0:QS) (W:World),FQ W q0 x0→Calls Tryz.prog f #[.agg #[.bool q0.b,.slice q0.a q0.n q0.c,.slice q0.e q0.m q0.d]] W (RQ W z)
abbrev KQ2 (f:Nat) (x0 x1:Rat) (z:Rat):Prop:=∀ (q0 q1:QS) (W:World),FQ W q0 x0→FQ W q1 x1→Calls Tryz.prog f #[.agg #[.bool q0.b,.slice q0.a q0.n q0.c,.slice q0.e q0.m q0.d],.agg #[.bool q1.b,.slice q1.a q1.n q1.c,.slice q1.e q1.m q1.d]] W (RQ W z)
abbrev KP1 (f:Nat) (x0:Rat) (v:Value):Prop:=∀ (q0:QS) (W:World),FQ W q0 x0→Calls Tryz.prog f #[.agg #[.bool q0.b,.slice q0.a q0.n q0.c,.slice q0.e q0.m q0.d]] W (RP W v)
abbrev KP2 (f:Nat) (x0 x1:Rat) (v:Value):Prop:=∀ (q0 q1:QS) (W:World),FQ W q0 x0→FQ W q1 x1→Calls Tryz.prog f #[.agg #[.bool q0.b,.slice q0.a q0.n q0.c,.slice q0.e q0.m q0.d],.agg #[.bool q1.b,.slice q1.a q1.n q1.c,.slice q1.e q1.m q1.d]] W (RP W v)
abbrev KS (f:Nat) (v0:Value) (z:Rat):Prop:=∀ (W:World),Calls Tryz.prog f #[v0] W (RQ W z)
abbrev KSb (f:Nat) (v0:Value) (z:Rat) (b:Bool):Prop:=∀ (W:World),Calls Tryz.prog f #[v0] W (RQb W z b)
abbrev KSi (f:Nat) (v0:Value) (z:Rat) (er:Int):Prop:=∀ (W:World),Calls Tryz.prog f #[v0] W (RQi W z er)
abbrev KBo (f:Nat) (v0 v1:Value) (x y:Rat) (er:Int):Prop:=∀ W:World,Calls Tryz.prog f #[v0,v1] W (RQQi W x y er)
def Rel.q (x:Rat):Rel:=⟨fun v W=>∃ q:QS,v=q.v∧FQ W q x,fun _ _ _ ⟨q,e,h⟩ hb=>⟨q,e,h.below hb⟩⟩
section
variable {ops:Array Oper} {m:Nat} {sl:Nat→Nat} {L:List Rel} {a0:Act} {P:World→Prop} {listed:Array Bool} {a:Act} {w:World}
theorem qAt (h:RInv ops m sl (RelR L) a0 P listed a w)(i d:Nat){j:Nat}{x:Rat}(hj:j∈Region.ready .any ops listed)(hw:Region.waitsFor .any ops j i=true)(hm:i<m:=by decide)(hd:sl i=d:=by rfl)(hR:L.getD i (Rel.val undef)=Rel.q x:=by rfl):∃ q:QS,a.tmps[d]? = some q.v∧Hid (FQ w q x):=by
 obtain⟨v,hv,hr⟩:=h.at hj hw hm;unfold RelR at hr
 rw[hR]at hr;obtain⟨q,rfl,hq⟩:=hr;exact⟨q,hd▸hv,Lib.hid hq⟩
theorem qEnd (h:RInv ops m sl (RelR L) a0 P listed a w)(hall:∀ j,j<m→listed.getD j false=true)(i d:Nat){x:Rat}(hm:i<m:=by decide)(hd:sl i=d:=by rfl)(hR:L.getD i (Rel.val undef)=Rel.q x:=by rfl):∃ q:QS,a.tmps[d]? = some q.v∧Hid (FQ w q x):=by
 obtain⟨v,hv,hr⟩:=h.slots i hm (hall i hm);unfold RelR at hr
 rw[hR]at hr;obtain⟨q,rfl,hq⟩:=hr;exact⟨q,hd▸hv,Lib.hid hq⟩
end
theorem cells3 {w:World}{g:Nat}{T:TypeId}{x0 x1 x2:Value}(h:SBk w g #[x0,x1,x2] T):w.cell? ⟨g,0,none⟩=some x0∧w.cell? ⟨g,1,none⟩=some x1∧w.cell? ⟨g,2,none⟩=some x2:=⟨h.cell (i:=0) rfl,h.cell (i:=1) rfl,h.cell (i:=2) rfl⟩
theorem frz3 {w:World}{g:Nat}{T:TypeId}{x0 x1 x2:Value}(h:SBk w g #[x0,x1,x2] T):w.frozen? ⟨g,0,none⟩=false∧w.frozen? ⟨g,1,none⟩=false∧w.frozen? ⟨g,2,none⟩=false:=⟨h.frozen (i:=0),h.frozen (i:=1),h.frozen (i:=2)⟩
end Go.Proofs.YtodcdibanokjjaaGreatDoor
open Go.Lib (hid)
namespace Go.Proofs.YtodcdibanokjjaaGreatDoor
open Go.RowKit Go.Gb
theorem zC (n1 n2 z n:Int)(en1 en2 dn:Nat)(p1:Option Addr)(c1:Nat)(s1:Option Addr)(d1:Nat)(p2:Option Addr)(c2:Nat)(s2:Option Addr)(d2:Nat)(w:World)(h0:∀ s1 d1 s2 d2 W,RN W (.slice s1 (ag en1) d1) en1→RN W (.slice s2 (ag en2) d2) en2→CR 67 #[.slice s1 (ag en1) d1,.slice s2 (ag en2) d2] W (.int .i64 0))(h1:∀ p1 c1 p2 c2 W,RN W (.slice p1 (aa n1) c1) n1.natAbs→RN W (.slice p2 (aa n2) c2) n2.natAbs→CZ 68 #[.agg #[.bool (ah n1),.slice p1 (aa n1) c1],.agg #[.bool (ah n2),.slice p2 (aa n2) c2]] W z)(h3:∀ p1 c1 s2 d2 W,RN W (.slice p1 (aa z) c1) z.natAbs→RN W (.slice s2 (ag en1) d2) en1→CF 62 #[.agg #[.bool (ah z),.slice p1 (aa z) c1],.slice s2 (ag en1) d2] W n dn)(r1:RN w (.slice p1 (aa n1) c1) n1.natAbs)(t1:RN w (.slice s1 (ag en1) d1) en1)(r2:RN w (.slice p2 (aa n2) c2) n2.natAbs)(t2:RN w (.slice s2 (ag en2) d2) en2) :
 CF 39 #[.agg #[.bool (ah n1),.slice p1 (aa n1) c1,.slice s1 (ag en1) d1],.agg #[.bool (ah n2),.slice p2 (aa n2) c2,.slice s2 (ag en2) d2]] w n dn:=by
 obtain ⟨C0,C1,C3,R1,T1,R2,T2⟩:=hz7 h0 h1 h3 r1 t1 r2 t2;clear h0 h1 h3 r1 t1 r2 t2;go_enter func39,ntmps39
 go_upto_region 1 with fail
 refine ax w [(#[.bool (ah n1),.slice p1 (aa n1) c1,.slice s1 (ag en1) d1],48),(#[.bool (ah n2),.slice p2 (aa n2) c2,.slice s2 (ag en2) d2],48),(#[.bool false,.slice none 0 0,.slice none 0 0],48)] rfl ?_;rintro W0 ⟨k1,k2,k3,hb⟩;have HB0:=hid (show Below w.heap.size w W0 from hb);obtain ⟨R1,T1,R2,T2,K1,K2,K3⟩:=hz7 (R1.out.below HB0.out) (T1.out.below HB0.out) (R2.out.below HB0.out) (T2.out.below HB0.out) k1 k2 k3;clear k1 k2 k3 hb;have dK12:=K1.out.cell (i:=2) rfl;have dK22:=K2.out.cell (i:=2) rfl;go_wp2_with fail
 with_reducible refine(C0.out _ _ _ _ _ T1.out T2.out).mono ?_
 rintro e W1 ⟨rfl,hb⟩;clear dK12 dK22;obtain ⟨K1,K2,K3,R1,T1,R2⟩:=hz6 (K1.out.below hb) (K2.out.below hb) (K3.out.below hb) (R1.out.below hb) (T1.out.below hb) (R2.out.below hb);have HB1:=hbt HB0 hb;clear hb;go_wp2_with fail
 refine aA (fun a0 a' V=>∃ u0a u0b u01 u02 u03 u04,a'=⟨putL [(13,.pointer (some ⟨w.heap.size,0,none⟩)),(14,.agg #[.bool (ah n1),.slice p1 (aa n1) c1]),(15,.pointer (some ⟨w.heap.size+1,0,none⟩)),(16,.agg #[.bool (ah n2),.slice p2 (aa n2) c2]),(17,.agg #[.bool (ah z),.slice u0a (aa z) u0b]),(18,.pointer (some ⟨w.heap.size,2,none⟩)),(19,.slice s1 (ag en1) d1),(20,.agg #[.bool (ah n),.slice u01 (aa n) u02,.slice u03 (ag dn) u04])] a0.tmps,a0.defers⟩∧Below w.heap.size w V∧SBk V (w.heap.size+1+1) #[.bool (ah n),.slice u01 (aa n) u02,.slice u03 (ag dn) u04] 48∧RN V (.slice u01 (aa n) u02) (n).natAbs∧RN V (.slice u03 (ag dn) u04) (dn)) ?_ ?_
 · refine az (by kernel_rfl) 8 1 (fun i=>[13,14,15,16,17,18,19,20].getD i 0) (RelR [Rel.val (.pointer (some ⟨w.heap.size,0,none⟩)),Rel.val (.agg #[.bool (ah n1),.slice p1 (aa n1) c1]),Rel.val (.pointer (some ⟨w.heap.size+1,0,none⟩)),Rel.val (.agg #[.bool (ah n2),.slice p2 (aa n2) c2]),Rel.int z,Rel.val (.pointer (some ⟨w.heap.size,2,none⟩)),Rel.val (.slice s1 (ag en1) d1),⟨fun v W=>∃ p c s d,v=.agg #[.bool (ah n),.slice p (aa n) c,.slice s (ag dn) d]∧RN W (.slice p (aa n) c) (n).natAbs∧RN W (.slice s (ag dn) d) (dn),fun _ _ _ ⟨p,c,s,d,e,h0,h1⟩ hb=>⟨p,c,s,d,e,h0.below hb,h1.below hb⟩⟩]) (fun W=>Below W1.heap.size W1 W) (fun _ _=>True) (by kernel_rfl) (by kernel_rfl) (by kernel_rfl) trivial (Below.refl _ _).drew ?_ ?_
   · intro listed a W i hI hD hrd him
     obtain ⟨HI,HD,Hr⟩:=hz3 hI hD hrd;clear hI hrd hD;have y2:a.tmps[2]? = some (.pointer (some ⟨w.heap.size,0,none⟩)):=HI.out.rest 2 (by decide);have y3:a.tmps[3]? = some (.pointer (some ⟨w.heap.size+1,0,none⟩)):=HI.out.rest 3 (by decide);obtain ⟨dK10,dK11⟩:=cz2 (K1.out.below HI.out.world) rfl rfl;obtain ⟨dK20,dK21⟩:=cz2 (K2.out.below HI.out.world) rfl rfl;have dK12:=(K1.out.below HI.out.world).cell (i:=2) rfl;have X0:RV _ listed a 0 13 (.pointer (some ⟨w.heap.size,0,none⟩)):=HI.out.rh;have X2:RV _ listed a 2 15 (.pointer (some ⟨w.heap.size+1,0,none⟩)):=HI.out.rh;have X1:RV _ listed a 1 14 (.agg #[.bool (ah n1),.slice p1 (aa n1) c1]):=HI.out.rh;have X3:RV _ listed a 3 16 (.agg #[.bool (ah n2),.slice p2 (aa n2) c2]):=HI.out.rh;have X5:RV _ listed a 5 18 (.pointer (some ⟨w.heap.size,2,none⟩)):=HI.out.rh;have X6:RV _ listed a 6 19 (.slice s1 (ag en1) d1):=HI.out.rh
     match i,him,Hr with
     | 0,_,Hi =>
       refine ak rfl fun K' hK=>?_;go_simp;exact hK.out _ _ ⟨HI.out.pv Hi.out rfl,trivial⟩
     | 1,_,Hi =>
       have x0:=X0.g Hi.out (by kernel_rfl);refine ak rfl fun K' hK=>?_;go_simp;exact hK.out _ _ ⟨HI.out.pv Hi.out rfl,trivial⟩
     | 2,_,Hi =>
       refine ak rfl fun K' hK=>?_;go_simp;exact hK.out _ _ ⟨HI.out.pv Hi.out rfl,trivial⟩
     | 3,_,Hi =>
       have x2:=X2.g Hi.out (by kernel_rfl);refine ak rfl fun K' hK=>?_;go_simp;exact hK.out _ _ ⟨HI.out.pv Hi.out rfl,trivial⟩
     | 4,_,Hi =>
       have x1:=X1.g Hi.out (by kernel_rfl);have x3:=X3.g Hi.out (by kernel_rfl);refine ak rfl fun K' hK=>?_;go_simp;with_reducible refine(C1.out _ _ _ _ _ (R1.out.below HI.out.world) (R2.out.below HI.out.world)).mono ?_
       rintro e W' ⟨u0a,u0b,rfl,u0e,hb⟩;exact hK.out _ _ ⟨HI.out.pc Hi.out hb ⟨u0a,u0b,rfl,u0e⟩,trivial⟩
     | 5,_,Hi =>
       refine ak rfl fun K' hK=>?_;go_simp;exact hK.out _ _ ⟨HI.out.pv Hi.out rfl,trivial⟩
     | 6,_,Hi =>
       have x5:=X5.g Hi.out (by kernel_rfl);refine ak rfl fun K' hK=>?_;go_simp;exact hK.out _ _ ⟨HI.out.pv Hi.out rfl,trivial⟩
     | 7,_,Hi =>
       obtain⟨v',x4,u0a,u0b,e,u0e⟩:=HI.out.at (i:=4) Hi.out (by kernel_rfl) (by decide);obtain rfl:=e;have x4:a.tmps[17]? = some (.agg #[.bool (ah z),.slice u0a (aa z) u0b]):=x4;have u0m:=hid u0e;clear u0e;have x6:=X6.g Hi.out (by kernel_rfl);refine ak rfl fun K' hK=>?_;go_simp;with_reducible refine(C3.out _ _ _ _ _ u0m.out (T1.out.below HI.out.world)).mono ?_
       rintro e W' ⟨u01,u02,u03,u04,rfl,u0k,u0l,hb⟩;exact hK.out _ _ ⟨HI.out.pc Hi.out hb ⟨u01,u02,u03,u04,rfl,u0k,u0l⟩,trivial⟩
     | n+8,h,_=>exact absurd h (by omega)
   · intro listed a W hI hD hall
     obtain⟨v',x4,u0a,u0b,e,u0e⟩:=hI.slots 4 (by decide) (hall 4 (by decide));obtain rfl:=e;have u0m:=hid u0e;clear u0e;obtain⟨v',x7,u01,u02,u03,u04,e,u0k,u0l⟩:=hI.slots 7 (by decide) (hall 7 (by decide));obtain rfl:=e;have u0x:=hid u0k;clear u0k;have u0y:=hid u0l;clear u0l;have x7:a.tmps[20]? = some (.agg #[.bool (ah n),.slice u01 (aa n) u02,.slice u03 (ag dn) u04]):=x7;obtain ⟨HBW,HI,HA⟩:=hz3 hI.world hI hall;clear hI hall;obtain ⟨K3,HBX⟩:=hz2 (K3.out.below HBW.out) (HB1.out.trans (HBW.out.mono HB1.out.size));have RZ:=u0m;have RQ:=u0x;have TQ:=u0y;have y4:a.tmps[4]? = some (.pointer (some ⟨w.heap.size+1+1,0,none⟩)):=HI.out.rest 4 (by decide);obtain ⟨dK30,dK31,dK32⟩:=cz3 K3.out rfl rfl rfl;obtain ⟨fK30,fK31,fK32⟩:=fz3 K3.out;refine aL (t:=0) ?_;refine ak rfl fun K' hK=>?_;go_simp;refine hK.out _ _ ?_;clear hK;refine aT ?_;have s0:∀ {v':Value} {n':Nat},RN W v' n'→RN (storeAll W (w.heap.size+1+1) 0 [.bool (ah n),.slice u01 (aa n) u02,.slice u03 (ag dn) u04]) v' n':=fun h'=>aV _ h' K3.out (by simp[bF]) (by simp[aW]);exact⟨rfl,u0a,u0b,u01,u02,u03,u04,(HI.out.finx ⟨HI.out.sx HA.out 0,HI.out.sx HA.out 1,HI.out.sx HA.out 2,HI.out.sx HA.out 3,x4,HI.out.sx HA.out 5,HI.out.sx HA.out 6,x7,trivial⟩ rfl),(au (l:=[.bool (ah n),.slice u01 (aa n) u02,.slice u03 (ag dn) u04]) (i:=0) (by omega) HBX.out),(bJ (l:=[.bool (ah n),.slice u01 (aa n) u02,.slice u03 (ag dn) u04]) (i:=0) K3.out),(s0 RQ.out),(s0 TQ.out)⟩
 rintro a' W2 ⟨u0a,u0b,u01,u02,u03,u04,rfl,z0,z1,z2,z3⟩;obtain ⟨HB2,K3,RQ,TQ⟩:=hz4 z0 z1 z2 z3;clear z0 z1 z2 z3;simp only[putL,List.setIfInBounds_toArray,List.set_cons_zero,List.set_cons_succ];go_wp2;obtain ⟨dK30,dK31,dK32⟩:=cz3 K3.out rfl rfl rfl;exact bodyPost_ret (v:=.agg #[.bool (ah n),.slice u01 (aa n) u02,.slice u03 (ag dn) u04]) (by simp[results,results39,go_sem,dK30,dK31,dK32]) rfl ⟨_,_,_,_,rfl,RQ.out,TQ.out,HB2.out⟩
end Go.Proofs.YtodcdibanokjjaaGreatDoor
