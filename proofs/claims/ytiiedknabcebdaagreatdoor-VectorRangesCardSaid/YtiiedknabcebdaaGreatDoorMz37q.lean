/- texts -/
import Derived.Test.YtiiedknabcebdaaGreatDoorMz36q
import Derived.Test.YtiiedknabcebdaaGreatDoorMz25q
open Go.Proofs.Tryz
set_option maxRecDepth 100000
set_option maxHeartbeats 20000000
namespace Go.Proofs.YtiiedknabcebdaaGreatDoor
open Go.RowKit Go.Gb
theorem z2i (ba bb r:Bool)(p1:Option Addr)(l1 c1:Nat)(p2:Option Addr)(l2 c2:Nat)(L:Nat)(s:Int)(w:World)
 (hs:s=if r=true then -1 else if 0<L then 1 else 0)
 (hM:∀ W,Below w.heap.size w W→Calls Tryz.prog 92 #[.agg #[.bool ba,.slice p1 l1 c1],.agg #[.bool bb,.slice p2 l2 c2]] W fun e w'=>∃ p c,e=.returned (.agg #[.bool r,.slice p L c])∧Below W.heap.size W w') :
 CR 76 #[.agg #[.bool ba,.slice p1 l1 c1],.agg #[.bool bb,.slice p2 l2 c2]] w (.int .i64 s):=by
 have HM:=Lib.hid hM;have HS:=Lib.hid (fun W p c=>nU r p L c s hs W);have HW:=Lib.hid (((Below.refl w.heap.size w).alloc (Nat.le_refl _) (.cells #[.bool ba,.slice p1 l1 c1] 55)).alloc (by simp) (.cells #[.bool bb,.slice p2 l2 c2] 55));clear hM hs;go_enter func76,ntmps76
 go_wp2_with fail
 refine(HM.o _ HW.o).mono ?_;rintro e w1 ⟨p,c,rfl,hb1⟩;have wo:=Lib.hid (HW.o.trans (hb1.mono HW.o.size));clear hb1;go_wp2_with fail
 refine(HS.o w1 p c).mono ?_;rintro e w2 ⟨rfl,hb⟩;have p8:=Lib.hid (wo.o.trans (hb.mono wo.o.size));clear hb;go_wp2;go_ret
 exact⟨rfl,p8.o⟩
theorem zCmp (u1 u2:Value)(x y:Int)(hx:(ae x.natAbs).length≤50000)(hy:(ae y.natAbs).length≤50000)(w:World)(h1:Rz w u1 x)(h2:Rz w u2 y) :
 CR 76 #[u1,u2] w (.int .i64 (cmpZ x y)):=by
 obtain⟨p1,c1,rfl,r1⟩:=iZ h1;obtain⟨p2,c2,rfl,r2⟩:=iZ h2;refine z2i _ _ (decide (x-y<0)) p1 _ c1 p2 _ c2 (ae (x-y).natAbs).length (cmpZ x y) w ?_ ?_
 · have hl:=qo (x-y).natAbs
   rcases Int.lt_trichotomy x y with h|h|h
   · rw[nM h,if_pos (decide_eq_true (by omega))]
   · subst h
     rw[qJ,Int.sub_self];simp[aS]
   · rw[nN h,if_neg (by rw[decide_eq_false (by omega)];simp),if_pos]
     exact List.length_pos_iff.2 (by rw[bO (by omega)];simp)
 · intro W hW
   exact(pK rfl rfl (z3H _ _ x y hx hy W (Rz.below ⟨_,rfl,r1⟩ hW) (Rz.below ⟨_,rfl,r2⟩ hW))).mono fun e w' ⟨p,c,e1,_,e3⟩=>⟨p,c,e1,e3⟩
theorem sTo (z:Int)(s:ByteArray)(hs:Sz z=s)(hf:ag z≤10000)(hs2:(Sn z.natAbs).size≤100000)(p:Option Addr)(c:Nat)(w:World)(h:RN w (.slice p (ag z) c) z.natAbs) :
 CR 50 #[.agg #[.bool (ak z),.slice p (ag z) c]] w (.string s):=by subst hs;exact zTo _ z hf hs2 w (Rz.mk h)
theorem ul (z s:Int)(hs:z.sign=s)(p:Option Addr)(c:Nat)(w:World)(h:RN w (.slice p (ag z) c) z.natAbs) :
 CR 67 #[.agg #[.bool (ak z),.slice p (ag z) c]] w (.int .i64 s):=by subst hs;exact z2M _ z w (Rz.mk h)
theorem z3P (x y z:Int)(hz:x*y=z)(hx:ag x≤50000)(hy:ag y≤50000)(p1:Option Addr)(c1:Nat)(p2:Option Addr)(c2:Nat)(w:World)(r1:RN w (.slice p1 (ag x) c1) x.natAbs)(r2:RN w (.slice p2 (ag y) c2) y.natAbs) :
 CZ 74 #[.agg #[.bool (ak x),.slice p1 (ag x) c1],.agg #[.bool (ak y),.slice p2 (ag y) c2]] w z:=by subst hz;exact zm (z3E _ _ x y hx hy w (Rz.mk r1) (Rz.mk r2))
theorem z3T (x y z:Int)(hz:x+y=z)(hx:ag x≤50000)(hy:ag y≤50000)(p1:Option Addr)(c1:Nat)(p2:Option Addr)(c2:Nat)(w:World)(r1:RN w (.slice p1 (ag x) c1) x.natAbs)(r2:RN w (.slice p2 (ag y) c2) y.natAbs) :
 CZ 72 #[.agg #[.bool (ak x),.slice p1 (ag x) c1],.agg #[.bool (ak y),.slice p2 (ag y) c2]] w z:=by subst hz;exact zm (z3G _ _ x y hx hy w (Rz.mk r1) (Rz.mk r2))
end Go.Proofs.YtiiedknabcebdaaGreatDoor
open Go.Lib (hid)
namespace Go.Proofs.YtiiedknabcebdaaGreatDoor
open Go.RowKit Go.Gb
theorem z3Q (k:Int)(n:Nat)(hk:(n:Int)=k)(h0:0≤k)(h1:k≤1000000)(w:World) :
 CZ 45 #[.int .i64 k] w k:=by
 have hl:ah n≤1000000:=Nat.le_trans (jl (show n≤1000000 by omega)) (by decide +kernel);have C1:=hid (fun W=>qN k n hk (by omega) W);have C2:=hid (fun v W h=>nR false v n k (by rw[if_neg (by simp)];exact hk.symm) hl W h);have d0:decide (k<0)=false:=decide_eq_false (by omega);have e0:¬ k<0:=by omega
 clear hl hk;go_enter func45,ntmps45
 go_upto_region 1 with fail
 refine ay w [(#[.bool false,.slice none 0 0],55)] rfl ?_;rintro W0 ⟨k1,hb⟩;have u6:=hid (show Below w.heap.size w W0 from hb);have K1:=hid k1;clear k1 hb;go_wp2_with fail
 with_reducible refine(C1.o _).mono ?_
 rintro e W1 ⟨kM,mf,rfl,wu,hb⟩;have K1:=hid (K1.o.below hb);have wo:=hbt u6 hb;have RN1:=hid wu;clear hb wu;go_wp2_with fail
 with_reducible refine(C2.o _ _ RN1.o).mono ?_
 rintro e W2 ⟨mi,l5,rfl,rM,hb⟩;have K1:=hid (K1.o.below hb);have p8:=hbt wo hb;have RK:=hid rM;clear hb rM;obtain ⟨rV,w9⟩:=aO K1.o rfl rfl;obtain ⟨u00,u01⟩:=bS K1.o;go_wp2;exact bodyPost_ret (v:=.agg #[.bool (ak k),.slice mi (ag k) l5]) (by simp[results,results45,go_sem,rV,w9]) rfl ⟨_,_,rfl,(bE [.bool (ak k),.slice mi (ag k) l5] RK.o K1.o (by simp[cu]) (by simp[bG])),(au (l:=[.bool (ak k),.slice mi (ag k) l5]) (i:=0) (by omega) p8.o)⟩
open Go.Lib (hid)
theorem wX (v1 v2:Value)(a b q r:Nat)(hq:a / b=q)(hr:a%b=r)(hb:b≠0)(hl:ah a≤50000)(w:World)(h1:RN w v1 a)(h2:RN w v2 b) :
 Calls Tryz.prog 89 #[v1,v2] w fun e w'=>∃ p c p' c',e=.returned (.tuple #[.slice p (ah q) c,.slice p' (ah r) c'])∧RN w' (.slice p (ah q) c) q∧RN w' (.slice p' (ah r) c') r∧Below w.heap.size w w':=by
 subst hq hr;exact z4W v1 v2 a b hb hl w h1 h2
theorem zu {w:World}{p:Option Addr}{n c g:Nat}(h:RN w (.slice p n c) g)(hg:(ae g).length=1):∃ b o,p=some ⟨b,o,none⟩∧n=1∧w.cell? ⟨b,o,none⟩=some (.int .u32 (g:Int)):=by
 rcases h with⟨e,h⟩|⟨b,o,c',e,h2,h3,h4,h5⟩
 · rw[h]at hg;cases hg
 · injection e with e1 e2 e3
   refine⟨b,o,e1,by omega,?_⟩;have h6:=h5 0 (by omega);have hv:=aC g
   have hd:ae g=[(ae g).getD 0 0]:=by
    match hk:ae g,hg with
    | [x],_=>rfl
   rw[hd]at hv;have e0:(ae g).getD 0 0=g:=by simpa [ai] using hv
   rw[e0]at h6;exact h6
theorem xO (z:Int)(d:Nat)(hz:ag z≤50000)(hd:ah d≤50000)(p1:Option Addr)(c1:Nat)(s1:Option Addr)(d1:Nat)(hg:Nat.gcd z.natAbs d=1)(w:World)(r1:RN w (.slice p1 (ag z) c1) z.natAbs)(t1:RN w (.slice s1 (ah d) d1) d) :
 Calls Tryz.prog 71 #[.agg #[.bool (ak z),.slice p1 (ag z) c1],.slice s1 (ah d) d1] w fun e w'=>∃ p c s e1,e=.returned (.agg #[.bool (ak z),.slice p (ag z) c,.slice s (ah d) e1])∧RN w' (.slice p (ag z) c) z.natAbs∧RN w' (.slice s (ah d) e1) d∧Below w.heap.size w w':=by
 have C1:=hid (show ∀ v1 v2 W,RN W v1 z.natAbs→RN W v2 d→Calls Tryz.prog 68 #[v1,v2] W fun e w'=>∃ b o c,e=.returned (.slice (some ⟨b,o,none⟩) 1 c)∧w'.cell? ⟨b,o,none⟩=some (.int .u32 1)∧Below W.heap.size W w' from fun v1 v2 W h1 h2=>by
  refine(nS v1 v2 z.natAbs d 1 hg hz hd W h1 h2).mono ?_;rintro e w' ⟨p,c,rfl,hr,hb⟩;obtain⟨b,o,rfl,_,h⟩:=zu hr q9;rw[q9]
  exact⟨b,o,c,rfl,h,hb⟩)
 clear hg hz hd;have R1:=hid r1;have T1:=hid t1;clear r1 t1;go_enter func71,ntmps71
 go_upto_region 1 with fail
 refine ay w [(#[.bool (ak z),.slice p1 (ag z) c1],55),(#[.bool false,.slice none 0 0,.slice none 0 0],57)] rfl ?_;rintro W0 ⟨k1,k2,hb⟩;have u6:=hid (show Below w.heap.size w W0 from hb);obtain ⟨R1,T1⟩:=aR u6.o R1 T1;obtain ⟨K1,K2⟩:=aF k1 k2;clear k1 k2 hb;have w9:=K1.o.cell (i:=1) rfl;go_wp2_with fail
 with_reducible refine(C1.o _ _ _ R1.o T1.o).mono ?_
 rintro e W1 ⟨b_1,o_1,mf,rfl,wu,hb⟩;clear w9;obtain ⟨K1,K2,R1,T1⟩:=bD hb K1 K2 R1 T1;have wo:=hbt u6 hb;have XC:=hid wu;clear hb wu;have dxc:=XC.o;obtain ⟨rV,w9⟩:=aO K1.o rfl rfl;obtain ⟨kV,gy,fq⟩:=aj K2.o rfl rfl rfl;obtain ⟨bn,bq,bu⟩:=aW K2.o;go_wp2;exact bodyPost_ret (v:=.agg #[.bool (ak z),.slice p1 (ag z) c1,.slice s1 (ah d) d1]) (by simp[results,results71,go_sem,kV,gy,fq]) rfl ⟨_,_,_,_,rfl,(bE [.bool (ak z),.slice p1 (ag z) c1,.slice s1 (ah d) d1] R1.o K2.o (by simp[cu]) (by simp[bG])),(bE [.bool (ak z),.slice p1 (ag z) c1,.slice s1 (ah d) d1] T1.o K2.o (by simp[cu]) (by simp[bG])),(au (l:=[.bool (ak z),.slice p1 (ag z) c1,.slice s1 (ah d) d1]) (i:=0) (by omega) wo.o)⟩
theorem uy (z:Int)(d:Nat)(hz:ag z≤50000)(hd:ah d≤50000)(p1:Option Addr)(c1:Nat)(s1:Option Addr)(d1:Nat)(g a a1 b b1:Nat)(y:Int)(hg:Nat.gcd z.natAbs d=g)(g0:g≠0)(g1:g≠1)(gl:ah g=1)(ha:z.natAbs / g=a)(ha1:z.natAbs%g=a1)(hb:d / g=b)(hb1:d%g=b1)(hy:y=if ak z then -(a:Int) else (a:Int))(w:World)(r1:RN w (.slice p1 (ag z) c1) z.natAbs)(t1:RN w (.slice s1 (ah d) d1) d) :
 Calls Tryz.prog 71 #[.agg #[.bool (ak z),.slice p1 (ag z) c1],.slice s1 (ah d) d1] w fun e w'=>∃ p c s e1,e=.returned (.agg #[.bool (ak y),.slice p (ag y) c,.slice s (ah b) e1])∧RN w' (.slice p (ag y) c) y.natAbs∧RN w' (.slice s (ah b) e1) b∧Below w.heap.size w w':=by
 have C1:=hid (show ∀ v1 v2 W,RN W v1 z.natAbs→RN W v2 d→Calls Tryz.prog 68 #[v1,v2] W fun e w'=>∃ b o c,e=.returned (.slice (some ⟨b,o,none⟩) 1 c)∧w'.cell? ⟨b,o,none⟩=some (.int .u32 (g:Int))∧RN w' (.slice (some ⟨b,o,none⟩) 1 c) g∧Below W.heap.size W w' from fun v1 v2 W h1 h2=>by
  refine(nS v1 v2 z.natAbs d g hg hz hd W h1 h2).mono ?_;rintro e w' ⟨p,c,rfl,hr,hb⟩;obtain⟨b,o,rfl,_,h⟩:=zu hr gl;rw[gl]at hr ⊢
  exact⟨b,o,c,rfl,h,hr,hb⟩)
 have C2:=hid (fun v1 v2 W h1 h2=>wX v1 v2 z.natAbs g a a1 ha ha1 g0 hz W h1 h2);have C3:=hid (fun v1 v2 W h1 h2=>wX v1 v2 d g b b1 hb hb1 g0 hd W h1 h2);have C4:=hid (fun v W h=>nR (ak z) v a y hy (by rw[← ha];exact Nat.le_trans (jl (Nat.div_le_self _ _)) (Nat.le_trans hz (by decide))) W h);have g1':((g:Int)==1)=false:=by rw[beq_eq_false_iff_ne];omega
 have g2':¬ (g:Int)=1:=by omega
 have g3':¬ g=1:=g1;clear gl g1 hg hz hd g0 ha ha1 hb hb1 hy;have R1:=hid r1;have T1:=hid t1;clear r1 t1;go_enter func71,ntmps71
 go_upto_region 1 with fail
 refine ay w [(#[.bool (ak z),.slice p1 (ag z) c1],55),(#[.bool false,.slice none 0 0,.slice none 0 0],57)] rfl ?_;rintro W0 ⟨k1,k2,hb⟩;have u6:=hid (show Below w.heap.size w W0 from hb);obtain ⟨R1,T1⟩:=aR u6.o R1 T1;obtain ⟨K1,K2⟩:=aF k1 k2;clear k1 k2 hb;have w9:=K1.o.cell (i:=1) rfl;go_wp2_with fail
 with_reducible refine(C1.o _ _ _ R1.o T1.o).mono ?_
 rintro e W1 ⟨b_1,o_1,mf,rfl,wu,bv,hb⟩;clear w9;obtain ⟨K1,K2,R1,T1⟩:=bD hb K1 K2 R1 T1;have wo:=hbt u6 hb;have XC:=hid wu;have RG:=hid bv;clear hb wu bv;have dxc:=XC.o;have w9:=K1.o.cell (i:=1) rfl;go_wp2_with fail
 with_reducible refine(C2.o _ _ _ R1.o RG.o).mono ?_
 rintro e W2 ⟨u04,u05,u06,u07,rfl,rM,fw,hb⟩;clear w9;obtain ⟨K1,K2,T1,RG⟩:=bD hb K1 K2 T1 RG;have p8:=hbt wo hb;have RA:=hid rM;have RA1:=hid fw;clear hb rM fw;go_wp2_with fail
 with_reducible refine(C3.o _ _ _ T1.o RG.o).mono ?_
 rintro e W3 ⟨pq,ol,u08,u09,rfl,fQ,ed,hb⟩;obtain ⟨K1,K2,RA⟩:=bA hb K1 K2 RA;have dX:=hbt p8 hb;have RB:=hid fQ;have RB1:=hid ed;clear hb fQ ed;have rV:=K1.o.cell (i:=0) rfl;go_wp2_with fail
 with_reducible refine(C4.o _ _ RA.o).mono ?_
 rintro e W4 ⟨oM,oV,rfl,dx,hb⟩;clear rV;obtain ⟨K2,RB⟩:=aR hb K2 RB;have dY:=hbt dX hb;have RY:=hid dx;clear hb dx;obtain ⟨kV,gy,fq⟩:=aj K2.o rfl rfl rfl;obtain ⟨bn,bq,bu⟩:=aW K2.o;go_wp2;exact bodyPost_ret (v:=.agg #[.bool (ak y),.slice oM (ag y) oV,.slice pq (ah b) ol]) (by simp[results,results71,go_sem,kV,gy,fq]) rfl ⟨_,_,_,_,rfl,(bE [.bool (ak y),.slice oM (ag y) oV,.slice pq (ah b) ol] RY.o K2.o (by simp[cu]) (by simp[bG])),(bE [.bool (ak y),.slice oM (ag y) oV,.slice pq (ah b) ol] RB.o K2.o (by simp[cu]) (by simp[bG])),(au (l:=[.bool (ak y),.slice oM (ag y) oV,.slice pq (ah b) ol]) (i:=0) (by omega) dY.o)⟩
theorem uz (z:Int)(d:Nat)(hz:ag z≤50000)(hd:ah d≤50000)(p1:Option Addr)(c1:Nat)(s1:Option Addr)(d1:Nat)(g a a1 b b1:Nat)(y:Int)(hg:Nat.gcd z.natAbs d=g)(g0:g≠0)(gl:ah g≠1)(ha:z.natAbs / g=a)(ha1:z.natAbs%g=a1)(hb:d / g=b)(hb1:d%g=b1)(hy:y=if ak z then -(a:Int) else (a:Int))(w:World)(r1:RN w (.slice p1 (ag z) c1) z.natAbs)(t1:RN w (.slice s1 (ah d) d1) d) :
 Calls Tryz.prog 71 #[.agg #[.bool (ak z),.slice p1 (ag z) c1],.slice s1 (ah d) d1] w fun e w'=>∃ p c s e1,e=.returned (.agg #[.bool (ak y),.slice p (ag y) c,.slice s (ah b) e1])∧RN w' (.slice p (ag y) c) y.natAbs∧RN w' (.slice s (ah b) e1) b∧Below w.heap.size w w':=by
 have C1:=hid (fun v1 v2 W h1 h2=>nS v1 v2 z.natAbs d g hg hz hd W h1 h2);have C2:=hid (fun v1 v2 W h1 h2=>wX v1 v2 z.natAbs g a a1 ha ha1 g0 hz W h1 h2);have C3:=hid (fun v1 v2 W h1 h2=>wX v1 v2 d g b b1 hb hb1 g0 hd W h1 h2);have C4:=hid (fun v W h=>nR (ak z) v a y hy (by rw[← ha];exact Nat.le_trans (jl (Nat.div_le_self _ _)) (Nat.le_trans hz (by decide))) W h);have g1':((ah g:Int)==1)=false:=by rw[beq_eq_false_iff_ne];omega
 have g2':¬ (ah g:Int)=1:=by omega
 have g3':¬ ah g=1:=gl;clear gl hg hz hd g0 ha ha1 hb hb1 hy;have R1:=hid r1;have T1:=hid t1;clear r1 t1;go_enter func71,ntmps71
 go_upto_region 1 with fail
 refine ay w [(#[.bool (ak z),.slice p1 (ag z) c1],55),(#[.bool false,.slice none 0 0,.slice none 0 0],57)] rfl ?_;rintro W0 ⟨k1,k2,hb⟩;have u6:=hid (show Below w.heap.size w W0 from hb);obtain ⟨R1,T1⟩:=aR u6.o R1 T1;obtain ⟨K1,K2⟩:=aF k1 k2;clear k1 k2 hb;have w9:=K1.o.cell (i:=1) rfl;go_wp2_with fail
 with_reducible refine(C1.o _ _ _ R1.o T1.o).mono ?_
 rintro e W1 ⟨kM,mf,rfl,wu,hb⟩;clear w9;obtain ⟨K1,K2,R1,T1⟩:=bD hb K1 K2 R1 T1;have wo:=hbt u6 hb;have RG:=hid wu;clear hb wu;have w9:=K1.o.cell (i:=1) rfl;go_wp2_with fail
 with_reducible refine(C2.o _ _ _ R1.o RG.o).mono ?_
 rintro e W2 ⟨u04,u05,u06,u07,rfl,rM,fw,hb⟩;clear w9;obtain ⟨K1,K2,T1,RG⟩:=bD hb K1 K2 T1 RG;have p8:=hbt wo hb;have RA:=hid rM;have RA1:=hid fw;clear hb rM fw;go_wp2_with fail
 with_reducible refine(C3.o _ _ _ T1.o RG.o).mono ?_
 rintro e W3 ⟨pq,ol,u08,u09,rfl,fQ,ed,hb⟩;obtain ⟨K1,K2,RA⟩:=bA hb K1 K2 RA;have dX:=hbt p8 hb;have RB:=hid fQ;have RB1:=hid ed;clear hb fQ ed;have rV:=K1.o.cell (i:=0) rfl;go_wp2_with fail
 with_reducible refine(C4.o _ _ RA.o).mono ?_
 rintro e W4 ⟨oM,oV,rfl,dx,hb⟩;clear rV;obtain ⟨K2,RB⟩:=aR hb K2 RB;have dY:=hbt dX hb;have RY:=hid dx;clear hb dx;obtain ⟨kV,gy,fq⟩:=aj K2.o rfl rfl rfl;obtain ⟨bn,bq,bu⟩:=aW K2.o;go_wp2;exact bodyPost_ret (v:=.agg #[.bool (ak y),.slice oM (ag y) oV,.slice pq (ah b) ol]) (by simp[results,results71,go_sem,kV,gy,fq]) rfl ⟨_,_,_,_,rfl,(bE [.bool (ak y),.slice oM (ag y) oV,.slice pq (ah b) ol] RY.o K2.o (by simp[cu]) (by simp[bG])),(bE [.bool (ak y),.slice oM (ag y) oV,.slice pq (ah b) ol] RB.o K2.o (by simp[cu]) (by simp[bG])),(au (l:=[.bool (ak y),.slice oM (ag y) oV,.slice pq (ah b) ol]) (i:=0) (by omega) dY.o)⟩
end Go.Proofs.YtiiedknabcebdaaGreatDoor
open Go.Lib (hid)
namespace Go.Proofs.YtiiedknabcebdaaGreatDoor
open Go.RowKit Go.Gb
theorem z1k (k n:Int)(dn:Nat)  (w:World)(h1:∀ W,CZ 45 #[.int .i64 k] W n)(h2:∀ W,CN 46 #[.int .u32 1] W dn)  :
 CF 23 #[.int .i64 k] w n dn:=by
 have C1:=hid h1;have C2:=hid h2;clear h1 h2;go_enter func23,ntmps23
 go_upto_region 1 with fail
 refine ay w [(#[.bool false,.slice none 0 0,.slice none 0 0],57)] rfl ?_;rintro W0 ⟨k1,hb⟩;have u6:=hid (show Below w.heap.size w W0 from hb);have K1:=hid k1;clear k1 hb;go_wp2_with fail
 with_reducible refine(C1.o _).mono ?_
 rintro e W1 ⟨kM,mf,rfl,wu,hb⟩;have K1:=hid (K1.o.below hb);have wo:=hbt u6 hb;have RN1:=hid wu;clear hb wu;go_wp2_with fail
 with_reducible refine(C2.o _).mono ?_
 rintro e W2 ⟨mi,l5,rfl,rM,hb⟩;obtain ⟨K1,RN1⟩:=aR hb K1 RN1;have p8:=hbt wo hb;have RD1:=hid rM;clear hb rM;obtain ⟨rV,w9,bM⟩:=aj K1.o rfl rfl rfl;obtain ⟨u00,u01,u0e⟩:=aW K1.o;go_wp2;exact bodyPost_ret (v:=.agg #[.bool (ak n),.slice kM (ag n) mf,.slice mi (ah dn) l5]) (by simp[results,results23,go_sem,rV,w9,bM]) rfl ⟨_,_,_,_,rfl,(bE [.bool (ak n),.slice kM (ag n) mf,.slice mi (ah dn) l5] RN1.o K1.o (by simp[cu]) (by simp[bG])),(bE [.bool (ak n),.slice kM (ag n) mf,.slice mi (ah dn) l5] RD1.o K1.o (by simp[cu]) (by simp[bG])),(au (l:=[.bool (ak n),.slice kM (ag n) mf,.slice mi (ah dn) l5]) (i:=0) (by omega) p8.o)⟩
theorem zA (n s:Int)(en:Nat)(p1:Option Addr)(c1:Nat)(s1:Option Addr)(d1:Nat)(w:World)(h1:∀ p1 c1 W,RN W (.slice p1 (ag n) c1) n.natAbs→CR 67 #[.agg #[.bool (ak n),.slice p1 (ag n) c1]] W (.int .i64 s))(r1:RN w (.slice p1 (ag n) c1) n.natAbs)(t1:RN w (.slice s1 (ah en) d1) en) :
 CR 75 #[.agg #[.bool (ak n),.slice p1 (ag n) c1,.slice s1 (ah en) d1]] w (.int .i64 s):=by
 obtain ⟨C1,R1,T1⟩:=ax h1 r1 t1;clear h1 r1 t1;go_enter func75,ntmps75
 go_upto_region 1 with fail
 refine ay w [(#[.bool (ak n),.slice p1 (ag n) c1,.slice s1 (ah en) d1],57)] rfl ?_;rintro W0 ⟨k1,hb⟩;have u6:=hid (show Below w.heap.size w W0 from hb);have R1:=hid (R1.o.below u6.o);have K1:=hid k1;clear k1 hb;obtain ⟨rV,w9⟩:=aO K1.o rfl rfl;go_wp2_with fail
 with_reducible refine(C1.o _ _ _ R1.o).mono ?_
 rintro e W1 ⟨rfl,hb⟩;clear rV w9;have wo:=hbt u6 hb;clear hb;go_wp2;exact bodyPost_ret (v:=.int .i64 s) (by simp[results,results75,go_sem]) rfl ⟨rfl,wo.o⟩
theorem z1j (n1 n2 z n:Int)(en1 en2 en dn:Nat)(p1:Option Addr)(c1:Nat)(s1:Option Addr)(d1:Nat)(p2:Option Addr)(c2:Nat)(s2:Option Addr)(d2:Nat)(w:World)(h1:∀ p1 c1 p2 c2 W,RN W (.slice p1 (ag n1) c1) n1.natAbs→RN W (.slice p2 (ag n2) c2) n2.natAbs→CZ 74 #[.agg #[.bool (ak n1),.slice p1 (ag n1) c1],.agg #[.bool (ak n2),.slice p2 (ag n2) c2]] W z)(h2:∀ s1 d1 s2 d2 W,RN W (.slice s1 (ah en1) d1) en1→RN W (.slice s2 (ah en2) d2) en2→CN 73 #[.slice s1 (ah en1) d1,.slice s2 (ah en2) d2] W en)(h3:∀ p1 c1 s2 d2 W,RN W (.slice p1 (ag z) c1) z.natAbs→RN W (.slice s2 (ah en) d2) en→CF 71 #[.agg #[.bool (ak z),.slice p1 (ag z) c1],.slice s2 (ah en) d2] W n dn)(r1:RN w (.slice p1 (ag n1) c1) n1.natAbs)(t1:RN w (.slice s1 (ah en1) d1) en1)(r2:RN w (.slice p2 (ag n2) c2) n2.natAbs)(t2:RN w (.slice s2 (ah en2) d2) en2) :
 CF 48 #[.agg #[.bool (ak n1),.slice p1 (ag n1) c1,.slice s1 (ah en1) d1],.agg #[.bool (ak n2),.slice p2 (ag n2) c2,.slice s2 (ah en2) d2]] w n dn:=by
 obtain ⟨C1,C2,C3,R1,T1,R2,T2⟩:=eO h1 h2 h3 r1 t1 r2 t2;clear h1 h2 h3 r1 t1 r2 t2;go_enter func48,ntmps48
 go_upto_region 1 with fail
 refine ay w [(#[.bool (ak n1),.slice p1 (ag n1) c1,.slice s1 (ah en1) d1],57),(#[.bool (ak n2),.slice p2 (ag n2) c2,.slice s2 (ah en2) d2],57),(#[.bool false,.slice none 0 0,.slice none 0 0],57)] rfl ?_;rintro W0 ⟨k1,k2,k3,hb⟩;have u6:=hid (show Below w.heap.size w W0 from hb);obtain ⟨R1,T1,R2,T2⟩:=bD u6.o R1 T1 R2 T2;obtain ⟨K1,K2,K3⟩:=ax k1 k2 k3;clear k1 k2 k3 hb;go_wp2_with fail
 refine aB (fun a0 a' V=>∃ l6 lg lv ky ww wy wz sw,a'=⟨aZ [(5,.pointer (some ⟨w.heap.size,0,none⟩)),(6,.agg #[.bool (ak n1),.slice p1 (ag n1) c1]),(7,.pointer (some ⟨w.heap.size+1,0,none⟩)),(8,.agg #[.bool (ak n2),.slice p2 (ag n2) c2]),(9,.agg #[.bool (ak z),.slice l6 (ag z) lg]),(10,.pointer (some ⟨w.heap.size,2,none⟩)),(11,.slice s1 (ah en1) d1),(12,.pointer (some ⟨w.heap.size+1,2,none⟩)),(13,.slice s2 (ah en2) d2),(14,.slice lv (ah en) ky),(15,.agg #[.bool (ak n),.slice ww (ag n) wy,.slice wz (ah dn) sw])] a0.tmps,a0.defers⟩∧Below w.heap.size w V∧SBk V (w.heap.size+1+1) #[.bool (ak n),.slice ww (ag n) wy,.slice wz (ah dn) sw] 57∧RN V (.slice ww (ag n) wy) (n).natAbs∧RN V (.slice wz (ah dn) sw) (dn)) ?_ ?_
 · refine aI 11 1 [5,6,7,8,9,10,11,12,13,14,15] [Rel.val (.pointer (some ⟨w.heap.size,0,none⟩)),Rel.val (.agg #[.bool (ak n1),.slice p1 (ag n1) c1]),Rel.val (.pointer (some ⟨w.heap.size+1,0,none⟩)),Rel.val (.agg #[.bool (ak n2),.slice p2 (ag n2) c2]),Rel.int z,Rel.val (.pointer (some ⟨w.heap.size,2,none⟩)),Rel.val (.slice s1 (ah en1) d1),Rel.val (.pointer (some ⟨w.heap.size+1,2,none⟩)),Rel.val (.slice s2 (ah en2) d2),Rel.nat en,⟨fun v W=>∃ p c s d,v=.agg #[.bool (ak n),.slice p (ag n) c,.slice s (ah dn) d]∧RN W (.slice p (ag n) c) (n).natAbs∧RN W (.slice s (ah dn) d) (dn),fun _ _ _ ⟨p,c,s,d,e,h0,h1⟩ hb=>⟨p,c,s,d,e,h0.below hb,h1.below hb⟩⟩] ?_ ?_
   · intro u0a a W i HI hD Hr him
     obtain⟨y2,y3⟩:=HI.o.s2 2 3;obtain ⟨rV,w9⟩:=aO (K1.o.below HI.o.world) rfl rfl;obtain ⟨kV,gy⟩:=aO (K2.o.below HI.o.world) rfl rfl;have bM:=(K1.o.below HI.o.world).cell (i:=2) rfl;have fq:=(K2.o.below HI.o.world).cell (i:=2) rfl;obtain⟨X0,X2,X1,X3,X5,X7⟩:=HI.o.g6 0 5 2 7 1 6 3 8 5 10 7 12;obtain⟨X6,X8⟩:=HI.o.g2 6 11 8 13
     match i,him,Hr with
     | 0,_,Hi|1,_,Hi|2,_,Hi|3,_,Hi =>
       try have x0:=X0.t Hi.o
       try have x2:=X2.t Hi.o
       refine av rfl fun K' hK=>?_;go_simp;exact hK.o _ _ (HI.o.pw Hi.o)
     | 4,_,Hi =>
       have x1:=X1.q Hi.o;have x3:=X3.q Hi.o;refine av rfl fun K' hK=>?_;go_simp;with_reducible refine(C1.o _ _ _ _ _ (R1.o.below HI.o.world) (R2.o.below HI.o.world)).mono ?_
       rintro e W' ⟨l6,lg,rfl,kz,hb⟩;exact hK.o _ _ ⟨HI.o.pc Hi.o hb ⟨l6,lg,rfl,kz⟩,trivial⟩
     | 5,_,Hi|6,_,Hi|7,_,Hi|8,_,Hi =>
       try have x5:=X5.t Hi.o
       try have x7:=X7.t Hi.o
       refine av rfl fun K' hK=>?_;go_simp;exact hK.o _ _ (HI.o.pw Hi.o)
     | 9,_,Hi =>
       have x6:=X6.q Hi.o;have x8:=X8.q Hi.o;refine av rfl fun K' hK=>?_;go_simp;with_reducible refine(C2.o _ _ _ _ _ (T1.o.below HI.o.world) (T2.o.below HI.o.world)).mono ?_
       rintro e W' ⟨lv,ky,rfl,kK,hb⟩;exact hK.o _ _ ⟨HI.o.pc Hi.o hb ⟨lv,ky,rfl,kK⟩,trivial⟩
     | 10,_,Hi =>
       obtain⟨v',x4,l6,lg,e,kz⟩:=HI.o.at (i:=4) Hi.o (by kernel_rfl) (by decide);obtain rfl:=e;have x4:a.tmps[9]? = some (.agg #[.bool (ak z),.slice l6 (ag z) lg]):=x4;have cO:=hid kz;clear kz;obtain⟨v',x9,lv,ky,e,kK⟩:=HI.o.at (i:=9) Hi.o (by kernel_rfl) (by decide);obtain rfl:=e;have x9:a.tmps[14]? = some (.slice lv (ah en) ky):=x9;have bg:=hid kK;clear kK;refine av rfl fun K' hK=>?_;go_simp;with_reducible refine(C3.o _ _ _ _ _ cO.o bg.o).mono ?_
       rintro e W' ⟨ww,wy,wz,sw,rfl,dz,dR,hb⟩;exact hK.o _ _ ⟨HI.o.pc Hi.o hb ⟨ww,wy,wz,sw,rfl,dz,dR⟩,trivial⟩
     | n+11,h,_=>exact absurd h (by omega)
   · intro u0a a W HI hD HA
     obtain⟨v',x4,l6,lg,e,kz⟩:=HI.o.slots 4 (by decide) (HA.o 4 (by decide));obtain rfl:=e;have cO:=hid kz;clear kz;obtain⟨v',x9,lv,ky,e,kK⟩:=HI.o.slots 9 (by decide) (HA.o 9 (by decide));obtain rfl:=e;have bg:=hid kK;clear kK;obtain⟨v',x10,ww,wy,wz,sw,e,dz,dR⟩:=HI.o.slots 10 (by decide) (HA.o 10 (by decide));obtain rfl:=e;have u0b:=hid dz;clear dz;have u0c:=hid dR;clear dR;have x10:a.tmps[15]? = some (.agg #[.bool (ak n),.slice ww (ag n) wy,.slice wz (ah dn) sw]):=x10;have bV:=hid HI.o.world;obtain ⟨HBX,K3⟩:=aF (u6.o.trans (bV.o.mono u6.o.size)) (K3.o.below bV.o);have RZ:=cO;have RE:=bg;have RQ:=u0b;have TQ:=u0c;have y4:=HI.o.rst 4 rfl;obtain ⟨aa,af,aX⟩:=aj K3.o rfl rfl rfl;obtain ⟨u0f,u0g,u0h⟩:=aW K3.o;refine aP (t:=0) ?_;refine av rfl fun K' hK=>?_;go_simp;refine hK.o _ _ ?_;clear hK;refine aT ?_;have s0:∀ {v':Value} {n':Nat},RN W v' n'→RN (storeAll W (w.heap.size+1+1) 0 [.bool (ak n),.slice ww (ag n) wy,.slice wz (ah dn) sw]) v' n':=fun h'=>bE _ h' K3.o (by simp[cu]) (by simp[bG]);exact⟨rfl,l6,lg,lv,ky,ww,wy,wz,sw,(HI.o.finx ⟨HI.o.sx HA.o 0,HI.o.sx HA.o 1,HI.o.sx HA.o 2,HI.o.sx HA.o 3,x4,HI.o.sx HA.o 5,HI.o.sx HA.o 6,HI.o.sx HA.o 7,HI.o.sx HA.o 8,x9,x10,trivial⟩ rfl),(au (l:=[.bool (ak n),.slice ww (ag n) wy,.slice wz (ah dn) sw]) (i:=0) (by omega) HBX.o),(bF (l:=[.bool (ak n),.slice ww (ag n) wy,.slice wz (ah dn) sw]) (i:=0) K3.o),(s0 RQ.o),(s0 TQ.o)⟩
 rintro a' W1 ⟨l6,lg,lv,ky,ww,wy,wz,sw,rfl,z0,z1,z2,z3⟩;obtain ⟨wo,K3,RQ,TQ⟩:=aQ z0 z1 z2 z3;clear z0 z1 z2 z3;simp only[aZ,List.setIfInBounds_toArray,List.set_cons_zero,List.set_cons_succ];go_wp2;obtain ⟨aa,af,aX⟩:=aj K3.o rfl rfl rfl;exact bodyPost_ret (v:=.agg #[.bool (ak n),.slice ww (ag n) wy,.slice wz (ah dn) sw]) (by simp[results,results48,go_sem,aa,af,aX]) rfl ⟨_,_,_,_,rfl,RQ.o,TQ.o,wo.o⟩
