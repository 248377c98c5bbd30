/- texts -/
import Derived.Test.YtcchkjpdchcjpaaGreatDoorMz33q
open Go.Proofs.Tryz
set_option maxRecDepth 100000
set_option maxHeartbeats 20000000
open Go.Lib (hid)
namespace Go.Proofs.YtcchkjpdchcjpaaGreatDoor
open Go.RowKit Go.Gb
theorem xH (v1 v2:Value)(a b q r:Nat)(hq:a / b=q)(hr:a%b=r)(hb:b≠0)(hl:ai a≤50000)(w:World)(h1:RN w v1 a)(h2:RN w v2 b) :
 Calls Tryz.prog 72 #[v1,v2] w fun e w'=>∃ p c p' c',e=.returned (.tuple #[.slice p (ai q) c,.slice p' (ai r) c'])∧RN w' (.slice p (ai q) c) q∧RN w' (.slice p' (ai r) c') r∧Below w.heap.size w w':=by
 subst hq hr;exact z5K v1 v2 a b hb hl w h1 h2
theorem z02 {w:World}{p:Option Addr}{n c g:Nat}(h:RN w (.slice p n c) g)(hg:(aa g).length=1):∃ b o,p=some ⟨b,o,none⟩∧n=1∧w.cell? ⟨b,o,none⟩=some (.int .u32 (g:Int)):=by
 rcases h with⟨e,h⟩|⟨b,o,c',e,h2,h3,h4,h5⟩
 · rw[h]at hg;cases hg
 · injection e with e1 e2 e3
   refine⟨b,o,e1,by omega,?_⟩;have h6:=h5 0 (by omega);have hv:=aB g
   have hd:aa g=[(aa g).getD 0 0]:=by
    match hk:aa g,hg with
    | [x],_=>rfl
   rw[hd]at hv;have e0:(aa g).getD 0 0=g:=by simpa [ah] using hv
   rw[e0]at h6;exact h6
theorem yF (z:Int)(d:Nat)(hz:ag z≤50000)(hd:ai d≤50000)(p1:Option Addr)(c1:Nat)(s1:Option Addr)(d1:Nat)(hg:Nat.gcd z.natAbs d=1)(w:World)(r1:RN w (.slice p1 (ag z) c1) z.natAbs)(t1:RN w (.slice s1 (ai d) d1) d) :
 Calls Tryz.prog 51 #[.agg #[.bool (av z),.slice p1 (ag z) c1],.slice s1 (ai d) d1] w fun e w'=>∃ p c s e1,e=.returned (.agg #[.bool (av z),.slice p (ag z) c,.slice s (ai d) e1])∧RN w' (.slice p (ag z) c) z.natAbs∧RN w' (.slice s (ai d) e1) d∧Below w.heap.size w w':=by
 have C1:=hid (show ∀ v1 v2 W,RN W v1 z.natAbs→RN W v2 d→Calls Tryz.prog 49 #[v1,v2] W fun e w'=>∃ b o c,e=.returned (.slice (some ⟨b,o,none⟩) 1 c)∧w'.cell? ⟨b,o,none⟩=some (.int .u32 1)∧Below W.heap.size W w' from fun v1 v2 W h1 h2=>by
  refine(nY v1 v2 z.natAbs d 1 hg hz hd W h1 h2).mono ?_;rintro e w' ⟨p,c,rfl,hr,hb⟩;obtain⟨b,o,rfl,_,h⟩:=z02 hr mF;rw[mF]
  exact⟨b,o,c,rfl,h,hb⟩)
 clear hg hz hd;have R1:=hid r1;have T1:=hid t1;clear r1 t1;go_enter func51,ntmps51
 go_upto_region 1 with fail
 refine aA w [(#[.bool (av z),.slice p1 (ag z) c1],47),(#[.bool false,.slice none 0 0,.slice none 0 0],49)] rfl ?_;rintro W0 ⟨k1,k2,hb⟩;have u6:=hid (show Below w.heap.size w W0 from hb);obtain ⟨R1,T1⟩:=ax u6.o R1 T1;obtain ⟨K1,K2⟩:=aH k1 k2;clear k1 k2 hb;have w9:=K1.o.cell (i:=1) rfl;go_wp2_with fail
 with_reducible refine(C1.o _ _ _ R1.o T1.o).mono ?_
 rintro e W1 ⟨b_1,o_1,kw,rfl,rM,hb⟩;clear w9;obtain ⟨K1,K2,R1,T1⟩:=bI hb K1 K2 R1 T1;have rV:=hbt u6 hb;have XC:=hid rM;clear hb rM;have dxc:=XC.o;obtain ⟨pq,w9⟩:=au K1.o rfl rfl;obtain ⟨kV,ic,gy⟩:=aK K2.o rfl rfl rfl;obtain ⟨bu,bv,bM⟩:=bJ K2.o;go_wp2;exact bodyPost_ret (v:=.agg #[.bool (av z),.slice p1 (ag z) c1,.slice s1 (ai d) d1]) (by simp[results,results51,go_sem,kV,ic,gy]) rfl ⟨_,_,_,_,rfl,(bD [.bool (av z),.slice p1 (ag z) c1,.slice s1 (ai d) d1] R1.o K2.o (by simp[cB]) (by simp[bH])),(bD [.bool (av z),.slice p1 (ag z) c1,.slice s1 (ai d) d1] T1.o K2.o (by simp[cB]) (by simp[bH])),(aJ (l:=[.bool (av z),.slice p1 (ag z) c1,.slice s1 (ai d) d1]) (i:=0) (by omega) rV.o)⟩
theorem uW (z:Int)(d:Nat)(hz:ag z≤50000)(hd:ai d≤50000)(p1:Option Addr)(c1:Nat)(s1:Option Addr)(d1:Nat)(g a a1 b b1:Nat)(y:Int)(hg:Nat.gcd z.natAbs d=g)(g0:g≠0)(g1:g≠1)(gl:ai g=1)(ha:z.natAbs / g=a)(ha1:z.natAbs%g=a1)(hb:d / g=b)(hb1:d%g=b1)(hy:y=if av z then -(a:Int) else (a:Int))(w:World)(r1:RN w (.slice p1 (ag z) c1) z.natAbs)(t1:RN w (.slice s1 (ai d) d1) d) :
 Calls Tryz.prog 51 #[.agg #[.bool (av z),.slice p1 (ag z) c1],.slice s1 (ai d) d1] w fun e w'=>∃ p c s e1,e=.returned (.agg #[.bool (av y),.slice p (ag y) c,.slice s (ai b) e1])∧RN w' (.slice p (ag y) c) y.natAbs∧RN w' (.slice s (ai b) e1) b∧Below w.heap.size w w':=by
 have C1:=hid (show ∀ v1 v2 W,RN W v1 z.natAbs→RN W v2 d→Calls Tryz.prog 49 #[v1,v2] W fun e w'=>∃ b o c,e=.returned (.slice (some ⟨b,o,none⟩) 1 c)∧w'.cell? ⟨b,o,none⟩=some (.int .u32 (g:Int))∧RN w' (.slice (some ⟨b,o,none⟩) 1 c) g∧Below W.heap.size W w' from fun v1 v2 W h1 h2=>by
  refine(nY v1 v2 z.natAbs d g hg hz hd W h1 h2).mono ?_;rintro e w' ⟨p,c,rfl,hr,hb⟩;obtain⟨b,o,rfl,_,h⟩:=z02 hr gl;rw[gl]at hr ⊢
  exact⟨b,o,c,rfl,h,hr,hb⟩)
 have C2:=hid (fun v1 v2 W h1 h2=>xH v1 v2 z.natAbs g a a1 ha ha1 g0 hz W h1 h2);have C3:=hid (fun v1 v2 W h1 h2=>xH v1 v2 d g b b1 hb hb1 g0 hd W h1 h2);have C4:=hid (fun v W h=>oG (av z) v a y hy (by rw[← ha];exact Nat.le_trans (kH (Nat.div_le_self _ _)) (Nat.le_trans hz (by decide))) W h);have g1':((g:Int)==1)=false:=by rw[beq_eq_false_iff_ne];omega
 have g2':¬ (g:Int)=1:=by omega
 have g3':¬ g=1:=g1;clear gl g1 hg hz hd g0 ha ha1 hb hb1 hy;have R1:=hid r1;have T1:=hid t1;clear r1 t1;go_enter func51,ntmps51
 go_upto_region 1 with fail
 refine aA w [(#[.bool (av z),.slice p1 (ag z) c1],47),(#[.bool false,.slice none 0 0,.slice none 0 0],49)] rfl ?_;rintro W0 ⟨k1,k2,hb⟩;have u6:=hid (show Below w.heap.size w W0 from hb);obtain ⟨R1,T1⟩:=ax u6.o R1 T1;obtain ⟨K1,K2⟩:=aH k1 k2;clear k1 k2 hb;have w9:=K1.o.cell (i:=1) rfl;go_wp2_with fail
 with_reducible refine(C1.o _ _ _ R1.o T1.o).mono ?_
 rintro e W1 ⟨b_1,o_1,kw,rfl,rM,bV,hb⟩;clear w9;obtain ⟨K1,K2,R1,T1⟩:=bI hb K1 K2 R1 T1;have rV:=hbt u6 hb;have XC:=hid rM;have RG:=hid bV;clear hb rM bV;have dxc:=XC.o;have w9:=K1.o.cell (i:=1) rfl;go_wp2_with fail
 with_reducible refine(C2.o _ _ _ R1.o RG.o).mono ?_
 rintro e W2 ⟨u06,u07,u08,u09,rfl,mf,fq,hb⟩;clear w9;obtain ⟨K1,K2,T1,RG⟩:=bI hb K1 K2 T1 RG;have fQ:=hbt rV hb;have RA:=hid mf;have RA1:=hid fq;clear hb mf fq;go_wp2_with fail
 with_reducible refine(C3.o _ _ _ T1.o RG.o).mono ?_
 rintro e W3 ⟨ol,oM,u0a,u0b,rfl,ed,ek,hb⟩;obtain ⟨K1,K2,RA⟩:=aI hb K1 K2 RA;have cO:=hbt fQ hb;have RB:=hid ed;have RB1:=hid ek;clear hb ed ek;have pq:=K1.o.cell (i:=0) rfl;go_wp2_with fail
 with_reducible refine(C4.o _ _ RA.o).mono ?_
 rintro e W4 ⟨oV,nk,rfl,eH,hb⟩;clear pq;obtain ⟨K2,RB⟩:=ax hb K2 RB;have bg:=hbt cO hb;have RY:=hid eH;clear hb eH;obtain ⟨kV,ic,gy⟩:=aK K2.o rfl rfl rfl;obtain ⟨bu,bv,bM⟩:=bJ K2.o;go_wp2;exact bodyPost_ret (v:=.agg #[.bool (av y),.slice oV (ag y) nk,.slice ol (ai b) oM]) (by simp[results,results51,go_sem,kV,ic,gy]) rfl ⟨_,_,_,_,rfl,(bD [.bool (av y),.slice oV (ag y) nk,.slice ol (ai b) oM] RY.o K2.o (by simp[cB]) (by simp[bH])),(bD [.bool (av y),.slice oV (ag y) nk,.slice ol (ai b) oM] RB.o K2.o (by simp[cB]) (by simp[bH])),(aJ (l:=[.bool (av y),.slice oV (ag y) nk,.slice ol (ai b) oM]) (i:=0) (by omega) bg.o)⟩
theorem uX (z:Int)(d:Nat)(hz:ag z≤50000)(hd:ai d≤50000)(p1:Option Addr)(c1:Nat)(s1:Option Addr)(d1:Nat)(g a a1 b b1:Nat)(y:Int)(hg:Nat.gcd z.natAbs d=g)(g0:g≠0)(gl:ai g≠1)(ha:z.natAbs / g=a)(ha1:z.natAbs%g=a1)(hb:d / g=b)(hb1:d%g=b1)(hy:y=if av z then -(a:Int) else (a:Int))(w:World)(r1:RN w (.slice p1 (ag z) c1) z.natAbs)(t1:RN w (.slice s1 (ai d) d1) d) :
 Calls Tryz.prog 51 #[.agg #[.bool (av z),.slice p1 (ag z) c1],.slice s1 (ai d) d1] w fun e w'=>∃ p c s e1,e=.returned (.agg #[.bool (av y),.slice p (ag y) c,.slice s (ai b) e1])∧RN w' (.slice p (ag y) c) y.natAbs∧RN w' (.slice s (ai b) e1) b∧Below w.heap.size w w':=by
 have C1:=hid (fun v1 v2 W h1 h2=>nY v1 v2 z.natAbs d g hg hz hd W h1 h2);have C2:=hid (fun v1 v2 W h1 h2=>xH v1 v2 z.natAbs g a a1 ha ha1 g0 hz W h1 h2);have C3:=hid (fun v1 v2 W h1 h2=>xH v1 v2 d g b b1 hb hb1 g0 hd W h1 h2);have C4:=hid (fun v W h=>oG (av z) v a y hy (by rw[← ha];exact Nat.le_trans (kH (Nat.div_le_self _ _)) (Nat.le_trans hz (by decide))) W h);have g1':((ai g:Int)==1)=false:=by rw[beq_eq_false_iff_ne];omega
 have g2':¬ (ai g:Int)=1:=by omega
 have g3':¬ ai g=1:=gl;clear gl hg hz hd g0 ha ha1 hb hb1 hy;have R1:=hid r1;have T1:=hid t1;clear r1 t1;go_enter func51,ntmps51
 go_upto_region 1 with fail
 refine aA w [(#[.bool (av z),.slice p1 (ag z) c1],47),(#[.bool false,.slice none 0 0,.slice none 0 0],49)] rfl ?_;rintro W0 ⟨k1,k2,hb⟩;have u6:=hid (show Below w.heap.size w W0 from hb);obtain ⟨R1,T1⟩:=ax u6.o R1 T1;obtain ⟨K1,K2⟩:=aH k1 k2;clear k1 k2 hb;have w9:=K1.o.cell (i:=1) rfl;go_wp2_with fail
 with_reducible refine(C1.o _ _ _ R1.o T1.o).mono ?_
 rintro e W1 ⟨eX,kw,rfl,rM,hb⟩;clear w9;obtain ⟨K1,K2,R1,T1⟩:=bI hb K1 K2 R1 T1;have rV:=hbt u6 hb;have RG:=hid rM;clear hb rM;have w9:=K1.o.cell (i:=1) rfl;go_wp2_with fail
 with_reducible refine(C2.o _ _ _ R1.o RG.o).mono ?_
 rintro e W2 ⟨u06,u07,u08,u09,rfl,mf,fq,hb⟩;clear w9;obtain ⟨K1,K2,T1,RG⟩:=bI hb K1 K2 T1 RG;have fQ:=hbt rV hb;have RA:=hid mf;have RA1:=hid fq;clear hb mf fq;go_wp2_with fail
 with_reducible refine(C3.o _ _ _ T1.o RG.o).mono ?_
 rintro e W3 ⟨ol,oM,u0a,u0b,rfl,ed,ek,hb⟩;obtain ⟨K1,K2,RA⟩:=aI hb K1 K2 RA;have cO:=hbt fQ hb;have RB:=hid ed;have RB1:=hid ek;clear hb ed ek;have pq:=K1.o.cell (i:=0) rfl;go_wp2_with fail
 with_reducible refine(C4.o _ _ RA.o).mono ?_
 rintro e W4 ⟨oV,nk,rfl,eH,hb⟩;clear pq;obtain ⟨K2,RB⟩:=ax hb K2 RB;have bg:=hbt cO hb;have RY:=hid eH;clear hb eH;obtain ⟨kV,ic,gy⟩:=aK K2.o rfl rfl rfl;obtain ⟨bu,bv,bM⟩:=bJ K2.o;go_wp2;exact bodyPost_ret (v:=.agg #[.bool (av y),.slice oV (ag y) nk,.slice ol (ai b) oM]) (by simp[results,results51,go_sem,kV,ic,gy]) rfl ⟨_,_,_,_,rfl,(bD [.bool (av y),.slice oV (ag y) nk,.slice ol (ai b) oM] RY.o K2.o (by simp[cB]) (by simp[bH])),(bD [.bool (av y),.slice oV (ag y) nk,.slice ol (ai b) oM] RB.o K2.o (by simp[cB]) (by simp[bH])),(aJ (l:=[.bool (av y),.slice oV (ag y) nk,.slice ol (ai b) oM]) (i:=0) (by omega) bg.o)⟩
structure QS where
 b:Bool
 a:Option Addr
 n:Nat
 c:Nat
 e:Option Addr
 m:Nat
 d:Nat
def FQ (W:World) (q:QS) (x:Rat):Prop:=q.b=av x.num∧q.n=ag x.num∧q.m=ai x.den∧RN W (.slice q.a q.n q.c) x.num.natAbs∧RN W (.slice q.e q.m q.d) x.den
theorem FQ.below {W W':World}{q:QS}{x:Rat}(h:FQ W q x)(hb:Below W.heap.size W W'):FQ W' q x:=⟨h.1,h.2.1,h.2.2.1,h.2.2.2.1.below hb,h.2.2.2.2.below hb⟩
theorem dP {q:QS}{x:Rat}{g:Nat}{T:TypeId}(l:List Value)(i:Nat){w:World}{cs:Array Value}(h:FQ w q x)(hg:SBk w g cs T)(hn:cB cs=true)(hl:l.all bH=true):FQ (storeAll w g i l) q x:=⟨h.1,h.2.1,h.2.2.1,mr l i h.2.2.2.1 hg hn hl,mr l i h.2.2.2.2 hg hn hl⟩
abbrev QS.v (q:QS):Value:=.agg #[.bool q.b,.slice q.a q.n q.c,.slice q.e q.m q.d]
abbrev RQ (W:World) (x:Rat):Ending→World→Prop:=fun e w'=>∃ q:QS,e=.returned (.agg #[.bool q.b,.slice q.a q.n q.c,.slice q.e q.m q.d])∧FQ w' q x∧Below W.heap.size W w'
abbrev RQb (W:World) (x:Rat) (b:Bool):Ending→World→Prop:=fun e w'=>∃ q:QS,e=.returned (.tuple #[.agg #[.bool q.b,.slice q.a q.n q.c,.slice q.e q.m q.d],.bool b])∧FQ w' q x∧Below W.heap.size W w'
abbrev RQQi (W:World) (xa xb:Rat) (er:Int):Ending→World→Prop:=fun e w'=>∃ qa qb:QS,e=.returned (.tuple #[.agg #[.bool qa.b,.slice qa.a qa.n qa.c,.slice qa.e qa.m qa.d],.agg #[.bool qb.b,.slice qb.a qb.n qb.c,.slice qb.e qb.m qb.d],.int .i64 er])∧FQ w' qa xa∧FQ w' qb xb∧Below W.heap.size W w'
abbrev RP (W:World) (v:Value):Ending→World→Prop:=fun e w'=>e=.returned v∧Below W.heap.size W w'
abbrev KQ2 (f:Nat) (x0 x1:Rat) (z:Rat):Prop:=∀ (q0 q1:QS) (W:World),FQ W q0 x0→FQ W q1 x1→Calls Tryz.prog f #[.agg #[.bool q0.b,.slice q0.a q0.n q0.c,.slice q0.e q0.m q0.d],.agg #[.bool q1.b,.slice q1.a q1.n q1.c,.slice q1.e q1.m q1.d]] W (RQ W z)
abbrev KP1 (f:Nat) (x0:Rat) (v:Value):Prop:=∀ (q0:QS) (W:World),FQ W q0 x0→Calls Tryz.prog f #[.agg #[.bool q0.b,.slice q0.a q0.n q0.c,.slice q0.e q0.m q0.d]] W (RP W v)
abbrev KP2 (f:Nat) (x0 x1:Rat) (v:Value):Prop:=∀ (q0 q1:QS) (W:World),FQ W q0 x0→FQ W q1 x1→Calls Tryz.prog f #[.agg #[.bool q0.b,.slice q0.a q0.n q0.c,.slice q0.e q0.m q0.d],.agg #[.bool q1.b,.slice q1.a q1.n q1.c,.slice q1.e q1.m q1.d]] W (RP W v)
abbrev KS (f:Nat) (v0:Value) (z:Rat):Prop:=∀ (W:World),Calls Tryz.prog f #[v0] W (RQ W z)
abbrev KSb (f:Nat) (v0:Value) (z:Rat) (b:Bool):Prop:=∀ (W:World),Calls Tryz.prog f #[v0] W (RQb W z b)
abbrev KBo (f:Nat) (v0 v1:Value) (x y:Rat) (er:Int):Prop:=∀ W:World,Calls Tryz.prog f #[v0,v1] W (RQQi W x y er)
def Rel.q (x:Rat):Rel:=⟨fun v W=>∃ q:QS,v=q.v∧FQ W q x,fun _ _ _ ⟨q,e,h⟩ hb=>⟨q,e,h.below hb⟩⟩
section
variable {ops:Array Oper} {m:Nat} {sl:Nat→Nat} {L:List Rel} {a0:Act} {P:World→Prop} {fo:Array Bool} {a:Act} {w:World}
theorem qAt (h:RInv ops m sl (RelR L) a0 P fo a w)(i d:Nat){j:Nat}{x:Rat}(hj:j∈Region.ready .any ops fo)(hw:Region.waitsFor .any ops j i=true)(hm:i<m:=by decide)(hd:sl i=d:=by rfl)(hR:L.getD i (Rel.val undef)=Rel.q x:=by rfl):∃ q:QS,a.tmps[d]? = some q.v∧Hid (FQ w q x):=by
 obtain⟨v,hv,hr⟩:=h.at hj hw hm;unfold RelR at hr
 rw[hR]at hr;obtain⟨q,rfl,hq⟩:=hr;exact⟨q,hd▸hv,Lib.hid hq⟩
theorem qEnd (h:RInv ops m sl (RelR L) a0 P fo a w)(u0c:∀ j,j<m→fo.getD j false=true)(i d:Nat){x:Rat}(hm:i<m:=by decide)(hd:sl i=d:=by rfl)(hR:L.getD i (Rel.val undef)=Rel.q x:=by rfl):∃ q:QS,a.tmps[d]? = some q.v∧Hid (FQ w q x):=by
 obtain⟨v,hv,hr⟩:=h.slots i hm (u0c i hm);unfold RelR at hr
 rw[hR]at hr;obtain⟨q,rfl,hq⟩:=hr;exact⟨q,hd▸hv,Lib.hid hq⟩
end
theorem cells3 {w:World}{g:Nat}{T:TypeId}{x0 x1 x2:Value}(h:SBk w g #[x0,x1,x2] T):w.cell? ⟨g,0,none⟩=some x0∧w.cell? ⟨g,1,none⟩=some x1∧w.cell? ⟨g,2,none⟩=some x2:=⟨h.cell (i:=0) rfl,h.cell (i:=1) rfl,h.cell (i:=2) rfl⟩
theorem frz3 {w:World}{g:Nat}{T:TypeId}{x0 x1 x2:Value}(h:SBk w g #[x0,x1,x2] T):w.frozen? ⟨g,0,none⟩=false∧w.frozen? ⟨g,1,none⟩=false∧w.frozen? ⟨g,2,none⟩=false:=⟨h.frozen (i:=0),h.frozen (i:=1),h.frozen (i:=2)⟩
instance {W W':World}{q:QS}{x:Rat}:Gr (FQ W q x) W W' (FQ W' q x):=⟨fun h k=>k.below h⟩
end Go.Proofs.YtcchkjpdchcjpaaGreatDoor
open Go.Lib (hid)
namespace Go.Proofs.YtcchkjpdchcjpaaGreatDoor
open Go.RowKit Go.Gb
theorem wV (k n:Int)(dn:Nat)  (w:World)(h1:∀ W,CZ 54 #[.int .i64 k] W n)(h2:∀ W,CN 46 #[.int .u32 1] W dn)  :
 CF 23 #[.int .i64 k] w n dn:=by
 have C1:=hid h1;have C2:=hid h2;clear h1 h2;go_enter func23,ntmps23
 go_upto_region 1 with fail
 refine aA w [(#[.bool false,.slice none 0 0,.slice none 0 0],49)] rfl ?_;rintro W0 ⟨k1,hb⟩;have u6:=hid (show Below w.heap.size w W0 from hb);have K1:=hid k1;clear k1 hb;go_wp2_with fail
 with_reducible refine(C1.o _).mono ?_
 rintro e W1 ⟨eX,kw,rfl,rM,hb⟩;have K1:=hid (K1.o.below hb);have rV:=hbt u6 hb;have RN1:=hid rM;clear hb rM;go_wp2_with fail
 with_reducible refine(C2.o _).mono ?_
 rintro e W2 ⟨dx,dz,rfl,mf,hb⟩;obtain ⟨K1,RN1⟩:=ax hb K1 RN1;have fQ:=hbt rV hb;have RD1:=hid mf;clear hb mf;obtain ⟨pq,w9,af⟩:=aK K1.o rfl rfl rfl;obtain ⟨u0g,u0h,u0i⟩:=bJ K1.o;go_wp2;exact bodyPost_ret (v:=.agg #[.bool (av n),.slice eX (ag n) kw,.slice dx (ai dn) dz]) (by simp[results,results23,go_sem,pq,w9,af]) rfl ⟨_,_,_,_,rfl,(bD [.bool (av n),.slice eX (ag n) kw,.slice dx (ai dn) dz] RN1.o K1.o (by simp[cB]) (by simp[bH])),(bD [.bool (av n),.slice eX (ag n) kw,.slice dx (ai dn) dz] RD1.o K1.o (by simp[cB]) (by simp[bH])),(aJ (l:=[.bool (av n),.slice eX (ag n) kw,.slice dx (ai dn) dz]) (i:=0) (by omega) fQ.o)⟩
theorem z06 (n s:Int)(en:Nat)(p1:Option Addr)(c1:Nat)(s1:Option Addr)(d1:Nat)(w:World)(h1:∀ p1 c1 W,RN W (.slice p1 (ag n) c1) n.natAbs→CR 48 #[.agg #[.bool (av n),.slice p1 (ag n) c1]] W (.int .i64 s))(r1:RN w (.slice p1 (ag n) c1) n.natAbs)(t1:RN w (.slice s1 (ai en) d1) en) :
 CR 19 #[.agg #[.bool (av n),.slice p1 (ag n) c1,.slice s1 (ai en) d1]] w (.int .i64 s):=by
 obtain ⟨C1,R1,T1⟩:=ae h1 r1 t1;clear h1 r1 t1;go_enter func19,ntmps19
 go_upto_region 1 with fail
 refine aA w [(#[.bool (av n),.slice p1 (ag n) c1,.slice s1 (ai en) d1],49)] rfl ?_;rintro W0 ⟨k1,hb⟩;have u6:=hid (show Below w.heap.size w W0 from hb);have R1:=hid (R1.o.below u6.o);have K1:=hid k1;clear k1 hb;obtain ⟨pq,w9⟩:=au K1.o rfl rfl;go_wp2_with fail
 with_reducible refine(C1.o _ _ _ R1.o).mono ?_
 rintro e W1 ⟨rfl,hb⟩;clear pq w9;have rV:=hbt u6 hb;clear hb;go_wp2;exact bodyPost_ret (v:=.int .i64 s) (by simp[results,results19,go_sem]) rfl ⟨rfl,rV.o⟩
theorem z1G (n1 n2 z n:Int)(en1 en2 en dn:Nat)(p1:Option Addr)(c1:Nat)(s1:Option Addr)(d1:Nat)(p2:Option Addr)(c2:Nat)(s2:Option Addr)(d2:Nat)(w:World)(h1:∀ p1 c1 p2 c2 W,RN W (.slice p1 (ag n1) c1) n1.natAbs→RN W (.slice p2 (ag n2) c2) n2.natAbs→CZ 52 #[.agg #[.bool (av n1),.slice p1 (ag n1) c1],.agg #[.bool (av n2),.slice p2 (ag n2) c2]] W z)(h2:∀ s1 d1 s2 d2 W,RN W (.slice s1 (ai en1) d1) en1→RN W (.slice s2 (ai en2) d2) en2→CN 53 #[.slice s1 (ai en1) d1,.slice s2 (ai en2) d2] W en)(h3:∀ p1 c1 s2 d2 W,RN W (.slice p1 (ag z) c1) z.natAbs→RN W (.slice s2 (ai en) d2) en→CF 51 #[.agg #[.bool (av z),.slice p1 (ag z) c1],.slice s2 (ai en) d2] W n dn)(r1:RN w (.slice p1 (ag n1) c1) n1.natAbs)(t1:RN w (.slice s1 (ai en1) d1) en1)(r2:RN w (.slice p2 (ag n2) c2) n2.natAbs)(t2:RN w (.slice s2 (ai en2) d2) en2) :
 CF 22 #[.agg #[.bool (av n1),.slice p1 (ag n1) c1,.slice s1 (ai en1) d1],.agg #[.bool (av n2),.slice p2 (ag n2) c2,.slice s2 (ai en2) d2]] w n dn:=by
 obtain ⟨C1,C2,C3,R1,T1,R2,T2⟩:=fK h1 h2 h3 r1 t1 r2 t2;clear h1 h2 h3 r1 t1 r2 t2;go_enter func22,ntmps22
 go_upto_region 1 with fail
 refine aA w [(#[.bool (av n1),.slice p1 (ag n1) c1,.slice s1 (ai en1) d1],49),(#[.bool (av n2),.slice p2 (ag n2) c2,.slice s2 (ai en2) d2],49),(#[.bool false,.slice none 0 0,.slice none 0 0],49)] rfl ?_;rintro W0 ⟨k1,k2,k3,hb⟩;have u6:=hid (show Below w.heap.size w W0 from hb);obtain ⟨R1,T1,R2,T2⟩:=bI u6.o R1 T1 R2 T2;obtain ⟨K1,K2,K3⟩:=ae k1 k2 k3;clear k1 k2 k3 hb;go_wp2_with fail
 refine az (fun a0 a' V=>∃ mi l5 lg lv wo wu ww sw,a'=⟨putL [(5,.pointer (some ⟨w.heap.size,0,none⟩)),(6,.agg #[.bool (av n1),.slice p1 (ag n1) c1]),(7,.pointer (some ⟨w.heap.size+1,0,none⟩)),(8,.agg #[.bool (av n2),.slice p2 (ag n2) c2]),(9,.agg #[.bool (av z),.slice mi (ag z) l5]),(10,.pointer (some ⟨w.heap.size,2,none⟩)),(11,.slice s1 (ai en1) d1),(12,.pointer (some ⟨w.heap.size+1,2,none⟩)),(13,.slice s2 (ai en2) d2),(14,.slice lg (ai en) lv),(15,.agg #[.bool (av n),.slice wo (ag n) wu,.slice ww (ai dn) sw])] a0.tmps,a0.defers⟩∧Below w.heap.size w V∧SBk V (w.heap.size+1+1) #[.bool (av n),.slice wo (ag n) wu,.slice ww (ai dn) sw] 49∧RN V (.slice wo (ag n) wu) (n).natAbs∧RN V (.slice ww (ai dn) sw) (dn)) ?_ ?_
 · refine df 11 1 [5,6,7,8,9,10,11,12,13,14,15] [Rel.val (.pointer (some ⟨w.heap.size,0,none⟩)),Rel.val (.agg #[.bool (av n1),.slice p1 (ag n1) c1]),Rel.val (.pointer (some ⟨w.heap.size+1,0,none⟩)),Rel.val (.agg #[.bool (av n2),.slice p2 (ag n2) c2]),Rel.int z,Rel.val (.pointer (some ⟨w.heap.size,2,none⟩)),Rel.val (.slice s1 (ai en1) d1),Rel.val (.pointer (some ⟨w.heap.size+1,2,none⟩)),Rel.val (.slice s2 (ai en2) d2),Rel.nat en,⟨fun v W=>∃ p c s d,v=.agg #[.bool (av n),.slice p (ag n) c,.slice s (ai dn) d]∧RN W (.slice p (ag n) c) (n).natAbs∧RN W (.slice s (ai dn) d) (dn),fun _ _ _ ⟨p,c,s,d,e,h0,h1⟩ hb=>⟨p,c,s,d,e,h0.below hb,h1.below hb⟩⟩] ?_ ?_
   · intro fo a W i HI hD Hr him
     obtain⟨y2,y3⟩:=HI.o.s2 2 3;obtain ⟨pq,w9⟩:=au (K1.o.below HI.o.world) rfl rfl;obtain ⟨kV,ic⟩:=au (K2.o.below HI.o.world) rfl rfl;have af:=(K1.o.below HI.o.world).cell (i:=2) rfl;have gy:=(K2.o.below HI.o.world).cell (i:=2) rfl;obtain⟨X0,X2,X1,X3,X5,X7⟩:=HI.o.g6 0 5 2 7 1 6 3 8 5 10 7 12;obtain⟨X6,X8⟩:=HI.o.g2 6 11 8 13
     match i,him,Hr with
     | 0,_,Hi|1,_,Hi|2,_,Hi|3,_,Hi =>
       try have x0:=X0.t Hi.o
       try have x2:=X2.t Hi.o
       refine aj rfl fun K' hK=>?_;go_simp;exact hK.o _ _ (HI.o.pw Hi.o)
     | 4,_,Hi =>
       have x1:=X1.q Hi.o;have x3:=X3.q Hi.o;refine aj rfl fun K' hK=>?_;go_simp;with_reducible refine(C1.o _ _ _ _ _ (R1.o.below HI.o.world) (R2.o.below HI.o.world)).mono ?_
       rintro e W' ⟨mi,l5,rfl,kz,hb⟩;exact hK.o _ _ ⟨HI.o.pc Hi.o hb ⟨mi,l5,rfl,kz⟩,trivial⟩
     | 5,_,Hi|6,_,Hi|7,_,Hi|8,_,Hi =>
       try have x5:=X5.t Hi.o
       try have x7:=X7.t Hi.o
       refine aj rfl fun K' hK=>?_;go_simp;exact hK.o _ _ (HI.o.pw Hi.o)
     | 9,_,Hi =>
       have x6:=X6.q Hi.o;have x8:=X8.q Hi.o;refine aj rfl fun K' hK=>?_;go_simp;with_reducible refine(C2.o _ _ _ _ _ (T1.o.below HI.o.world) (T2.o.below HI.o.world)).mono ?_
       rintro e W' ⟨lg,lv,rfl,kM,hb⟩;exact hK.o _ _ ⟨HI.o.pc Hi.o hb ⟨lg,lv,rfl,kM⟩,trivial⟩
     | 10,_,Hi =>
       obtain⟨v',x4,mi,l5,e,kz⟩:=HI.o.at (i:=4) Hi.o (by kernel_rfl) (by decide);obtain rfl:=e;have x4:a.tmps[9]? = some (.agg #[.bool (av z),.slice mi (ag z) l5]):=x4;have bn:=hid kz;clear kz;obtain⟨v',x9,lg,lv,e,kM⟩:=HI.o.at (i:=9) Hi.o (by kernel_rfl) (by decide);obtain rfl:=e;have x9:a.tmps[14]? = some (.slice lg (ai en) lv):=x9;have bq:=hid kM;clear kM;refine aj rfl fun K' hK=>?_;go_simp;with_reducible refine(C3.o _ _ _ _ _ bn.o bq.o).mono ?_
       rintro e W' ⟨wo,wu,ww,sw,rfl,dX,dY,hb⟩;exact hK.o _ _ ⟨HI.o.pc Hi.o hb ⟨wo,wu,ww,sw,rfl,dX,dY⟩,trivial⟩
     | n+11,h,_=>exact absurd h (by omega)
   · intro fo a W HI hD HA
     obtain⟨v',x4,mi,l5,e,kz⟩:=HI.o.slots 4 (by decide) (HA.o 4 (by decide));obtain rfl:=e;have bn:=hid kz;clear kz;obtain⟨v',x9,lg,lv,e,kM⟩:=HI.o.slots 9 (by decide) (HA.o 9 (by decide));obtain rfl:=e;have bq:=hid kM;clear kM;obtain⟨v',x10,wo,wu,ww,sw,e,dX,dY⟩:=HI.o.slots 10 (by decide) (HA.o 10 (by decide));obtain rfl:=e;have u0d:=hid dX;clear dX;have u0e:=hid dY;clear dY;have x10:a.tmps[15]? = some (.agg #[.bool (av n),.slice wo (ag n) wu,.slice ww (ai dn) sw]):=x10;have HBW:=hid HI.o.world;obtain ⟨HBX,K3⟩:=aH (u6.o.trans (HBW.o.mono u6.o.size)) (K3.o.below HBW.o);have RZ:=bn;have RE:=bq;have RQ:=u0d;have TQ:=u0e;have y4:=HI.o.rst 4 rfl;obtain ⟨u01,u02,u03⟩:=aK K3.o rfl rfl rfl;obtain ⟨u0j,u0k,u0l⟩:=bJ K3.o;refine bG (t:=0) ?_;refine aj rfl fun K' hK=>?_;go_simp;refine hK.o _ _ ?_;clear hK;refine aT ?_;have s0:∀ {v':Value} {n':Nat},RN W v' n'→RN (storeAll W (w.heap.size+1+1) 0 [.bool (av n),.slice wo (ag n) wu,.slice ww (ai dn) sw]) v' n':=fun h'=>bD _ h' K3.o (by simp[cB]) (by simp[bH]);exact⟨rfl,mi,l5,lg,lv,wo,wu,ww,sw,(HI.o.finx ⟨HI.o.sx HA.o 0,HI.o.sx HA.o 1,HI.o.sx HA.o 2,HI.o.sx HA.o 3,x4,HI.o.sx HA.o 5,HI.o.sx HA.o 6,HI.o.sx HA.o 7,HI.o.sx HA.o 8,x9,x10,trivial⟩ rfl),(aJ (l:=[.bool (av n),.slice wo (ag n) wu,.slice ww (ai dn) sw]) (i:=0) (by omega) HBX.o),(fw (l:=[.bool (av n),.slice wo (ag n) wu,.slice ww (ai dn) sw]) (i:=0) K3.o),(s0 RQ.o),(s0 TQ.o)⟩
 rintro a' W1 ⟨mi,l5,lg,lv,wo,wu,ww,sw,rfl,z0,z1,z2,z3⟩;obtain ⟨rV,K3,RQ,TQ⟩:=aY z0 z1 z2 z3;clear z0 z1 z2 z3;simp only[putL,List.setIfInBounds_toArray,List.set_cons_zero,List.set_cons_succ];go_wp2;obtain ⟨u01,u02,u03⟩:=aK K3.o rfl rfl rfl;exact bodyPost_ret (v:=.agg #[.bool (av n),.slice wo (ag n) wu,.slice ww (ai dn) sw]) (by simp[results,results22,go_sem,u01,u02,u03]) rfl ⟨_,_,_,_,rfl,RQ.o,TQ.o,rV.o⟩
