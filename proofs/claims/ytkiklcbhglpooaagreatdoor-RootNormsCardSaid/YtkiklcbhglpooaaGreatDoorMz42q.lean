/- texts -/
import Derived.Test.YtkiklcbhglpooaaGreatDoorMz39q
import Derived.Test.YtkiklcbhglpooaaGreatDoorMz40q
import Derived.Test.YtkiklcbhglpooaaGreatDoorSl
set_option maxRecDepth 100000
set_option maxHeartbeats 20000000
open Go.Lib (hid)
namespace Go.Proofs.YtkiklcbhglpooaaGreatDoor
open Go.RowKit Go.Gb
theorem yA (r:Nat)(k:Int)(on:Nat)(p1:Option Addr)(c1:Nat)(w:World)(h1:∀ (p:Option Addr) (c:Nat) (W:World),RN W (.slice p (ah r) c) r→CZ 78 #[.bool false,.slice p (ah r) c] W k)(h2:∀ W:World,CN 67 #[.int .u32 1] W on)(r1:RN w (.slice p1 (ah r) c1) r) :
 CF 84 #[.slice p1 (ah r) c1] w k on:=by
 obtain ⟨C1,C2,R1⟩:=av h1 h2 r1;clear h1 h2 r1;go_enter Tryz.func84,Tryz.ntmps84
 go_upto_region 1 with fail
 refine aG w [(#[.bool false,.slice none 0 0,.slice none 0 0],50)] rfl ?_;rintro W0 ⟨k1,hb⟩;have ww:=hid (show Below w.heap.size w W0 from hb);have R1:=hid (R1.o.below ww.o);have K1:=hid k1;clear k1 hb;go_wp2_with fail
 with_reducible refine(C1.o _ _ _ R1.o).mono ?_
 rintro e W1 ⟨pq,pu,rfl,lv,hb⟩;have K1:=hid (K1.o.below hb);have r9:=hbt ww hb;have RK:=hid lv;clear hb lv;go_wp2_with fail
 with_reducible refine(C2.o _).mono ?_
 rintro e W2 ⟨ol,oM,rfl,kz,hb⟩;obtain ⟨K1,RK⟩:=aM hb K1 RK;have p9:=hbt r9 hb;have RO:=hid kz;clear hb kz;obtain ⟨rM,rV,p8⟩:=aU K1.o rfl rfl rfl;obtain ⟨ed,ek,eH⟩:=bZ K1.o;go_wp2;exact bodyPost_ret (v:=.agg #[.bool (ai k),.slice pq (ae k) pu,.slice ol (ah on) oM]) (by simp[results,Tryz.results84,go_sem,rM,rV,p8]) rfl ⟨_,_,_,_,rfl,(aS [.bool (ai k),.slice pq (ae k) pu,.slice ol (ah on) oM] RK.o K1.o (by simp[bL]) (by simp[bi])),(aS [.bool (ai k),.slice pq (ae k) pu,.slice ol (ah on) oM] RO.o K1.o (by simp[bL]) (by simp[bi])),(az (l:=[.bool (ai k),.slice pq (ae k) pu,.slice ol (ah on) oM]) (i:=0) (by omega) p9.o)⟩
open Go.Lib (hid)
theorem z2u (n1 n2 m n:Int)(en1 en2 f dn:Nat)(p1:Option Addr)(c1:Nat)(s1:Option Addr)(d1:Nat)(p2:Option Addr)(c2:Nat)(s2:Option Addr)(d2:Nat)(w:World)(h1:∀ p1 c1 s1 d1 W,RN W (.slice p1 (ae n2) c1) n2.natAbs→RN W (.slice s1 (ah en2) d1) en2→CF 132 #[.agg #[.bool (ai n2),.slice p1 (ae n2) c1,.slice s1 (ah en2) d1]] W m f)(h2:∀ p1 c1 s1 d1 p2 c2 s2 d2 W,RN W (.slice p1 (ae n1) c1) n1.natAbs→RN W (.slice s1 (ah en1) d1) en1→RN W (.slice p2 (ae m) c2) m.natAbs→RN W (.slice s2 (ah f) d2) f→CF 30 #[.agg #[.bool (ai n1),.slice p1 (ae n1) c1,.slice s1 (ah en1) d1],.agg #[.bool (ai m),.slice p2 (ae m) c2,.slice s2 (ah f) d2]] W n dn)(r1:RN w (.slice p1 (ae n1) c1) n1.natAbs)(t1:RN w (.slice s1 (ah en1) d1) en1)(r2:RN w (.slice p2 (ae n2) c2) n2.natAbs)(t2:RN w (.slice s2 (ah en2) d2) en2) :
 CF 83 #[.agg #[.bool (ai n1),.slice p1 (ae n1) c1,.slice s1 (ah en1) d1],.agg #[.bool (ai n2),.slice p2 (ae n2) c2,.slice s2 (ah en2) d2]] w n dn:=by
 obtain ⟨C1,C2,R1,T1,R2,T2⟩:=dw h1 h2 r1 t1 r2 t2;clear h1 h2 r1 t1 r2 t2;go_enter Tryz.func83,Tryz.ntmps83
 go_upto_region 1 with fail
 refine aG w [(#[.bool (ai n1),.slice p1 (ae n1) c1,.slice s1 (ah en1) d1],50),(#[.bool (ai n2),.slice p2 (ae n2) c2,.slice s2 (ah en2) d2],50),(#[.bool false,.slice none 0 0,.slice none 0 0],50)] rfl ?_;rintro W0 ⟨k1,k2,k3,hb⟩;have ww:=hid (show Below w.heap.size w W0 from hb);obtain ⟨R1,T1,R2,T2⟩:=bD ww.o R1 T1 R2 T2;obtain ⟨K1,K2,K3⟩:=av k1 k2 k3;clear k1 k2 k3 hb;go_wp2_with fail
 refine aK (fun a0 a' V=>∃ si sj su sw u6 w9 wo wu,a'=⟨putL [(5,.agg #[.bool (ai n1),.slice p1 (ae n1) c1,.slice s1 (ah en1) d1]),(6,.agg #[.bool (ai n2),.slice p2 (ae n2) c2,.slice s2 (ah en2) d2]),(7,.agg #[.bool (ai m),.slice si (ae m) sj,.slice su (ah f) sw]),(8,.agg #[.bool (ai n),.slice u6 (ae n) w9,.slice wo (ah dn) wu])] a0.tmps,a0.defers⟩∧Below w.heap.size w V∧SBk V (w.heap.size+1+1) #[.bool (ai n),.slice u6 (ae n) w9,.slice wo (ah dn) wu] 50∧RN V (.slice u6 (ae n) w9) (n).natAbs∧RN V (.slice wo (ah dn) wu) (dn)) ?_ ?_
 · refine aY 4 1 [5,6,7,8] [Rel.val (.agg #[.bool (ai n1),.slice p1 (ae n1) c1,.slice s1 (ah en1) d1]),Rel.val (.agg #[.bool (ai n2),.slice p2 (ae n2) c2,.slice s2 (ah en2) d2]),⟨fun v W=>∃ p c s d,v=.agg #[.bool (ai m),.slice p (ae m) c,.slice s (ah f) d]∧RN W (.slice p (ae m) c) (m).natAbs∧RN W (.slice s (ah f) d) (f),fun _ _ _ ⟨p,c,s,d,e,h0,h1⟩ hb=>⟨p,c,s,d,e,h0.below hb,h1.below hb⟩⟩,⟨fun v W=>∃ p c s d,v=.agg #[.bool (ai n),.slice p (ae n) c,.slice s (ah dn) d]∧RN W (.slice p (ae n) c) (n).natAbs∧RN W (.slice s (ah dn) d) (dn),fun _ _ _ ⟨p,c,s,d,e,h0,h1⟩ hb=>⟨p,c,s,d,e,h0.below hb,h1.below hb⟩⟩] ?_ ?_
   · intro gF a W i HI hD Hr him
     obtain⟨y2,y3⟩:=HI.o.s2 2 3;obtain ⟨rM,rV,p8⟩:=aU (K1.o.below HI.o.world) rfl rfl rfl;obtain ⟨eX,d9,dx⟩:=aU (K2.o.below HI.o.world) rfl rfl rfl;obtain⟨X1,X0⟩:=HI.o.g2 1 6 0 5
     match i,him,Hr with
     | 0,_,Hi|1,_,Hi =>
       refine aF rfl fun K' hK=>?_;go_simp;exact hK.o _ _ (HI.o.pw Hi.o)
     | 2,_,Hi =>
       have x1:=X1.q Hi.o;refine aF rfl fun K' hK=>?_;go_simp;with_reducible refine(C1.o _ _ _ _ _ (R2.o.below HI.o.world) (T2.o.below HI.o.world)).mono ?_
       rintro e W' ⟨si,sj,su,sw,rfl,rq,ru,hb⟩;exact hK.o _ _ ⟨HI.o.pc Hi.o hb ⟨si,sj,su,sw,rfl,rq,ru⟩,trivial⟩
     | 3,_,Hi =>
       have x0:=X0.q Hi.o;obtain⟨v',x2,si,sj,su,sw,e,rq,ru⟩:=HI.o.at (i:=2) Hi.o (by kernel_rfl) (by decide);obtain rfl:=e;have x2:a.tmps[7]? = some (.agg #[.bool (ai m),.slice si (ae m) sj,.slice su (ah f) sw]):=x2;have mi:=hid rq;clear rq;have lg:=hid ru;clear ru;refine aF rfl fun K' hK=>?_;go_simp;with_reducible refine(C2.o _ _ _ _ _ _ _ _ _ (R1.o.below HI.o.world) (T1.o.below HI.o.world) mi.o lg.o).mono ?_
       rintro e W' ⟨u6,w9,wo,wu,rfl,oV,mf,hb⟩;exact hK.o _ _ ⟨HI.o.pc Hi.o hb ⟨u6,w9,wo,wu,rfl,oV,mf⟩,trivial⟩
     | n+4,h,_=>exact absurd h (by omega)
   · intro gF a W HI hD HA
     obtain⟨v',x2,si,sj,su,sw,e,rq,ru⟩:=HI.o.slots 2 (by decide) (HA.o 2 (by decide));obtain rfl:=e;have mi:=hid rq;clear rq;have lg:=hid ru;clear ru;obtain⟨v',x3,u6,w9,wo,wu,e,oV,mf⟩:=HI.o.slots 3 (by decide) (HA.o 3 (by decide));obtain rfl:=e;have fo:=hid oV;clear oV;have fq:=hid mf;clear mf;have x3:a.tmps[8]? = some (.agg #[.bool (ai n),.slice u6 (ae n) w9,.slice wo (ah dn) wu]):=x3;have kM:=hid HI.o.world;obtain ⟨fQ,K3⟩:=aC (ww.o.trans (kM.o.mono ww.o.size)) (K3.o.below kM.o);have RM:=mi;have TM:=lg;have RQ:=fo;have TQ:=fq;have y4:=HI.o.rst 4 rfl;obtain ⟨kS,kV,gy⟩:=aU K3.o rfl rfl rfl;obtain ⟨dz,dP,dX⟩:=bZ K3.o;refine bJ (t:=0) ?_;refine aF rfl fun K' hK=>?_;go_simp;refine hK.o _ _ ?_;clear hK;refine bF ?_;have s0:∀ {v':Value} {n':Nat},RN W v' n'→RN (storeAll W (w.heap.size+1+1) 0 [.bool (ai n),.slice u6 (ae n) w9,.slice wo (ah dn) wu]) v' n':=fun h'=>aS _ h' K3.o (by simp[bL]) (by simp[bi]);exact⟨rfl,si,sj,su,sw,u6,w9,wo,wu,(HI.o.finx ⟨HI.o.sx HA.o 0,HI.o.sx HA.o 1,x2,x3,trivial⟩ rfl),(az (l:=[.bool (ai n),.slice u6 (ae n) w9,.slice wo (ah dn) wu]) (i:=0) (by omega) fQ.o),(cK (l:=[.bool (ai n),.slice u6 (ae n) w9,.slice wo (ah dn) wu]) (i:=0) K3.o),(s0 RQ.o),(s0 TQ.o)⟩
 rintro a' W1 ⟨si,sj,su,sw,u6,w9,wo,wu,rfl,z0,z1,z2,z3⟩;obtain ⟨r9,K3,RQ,TQ⟩:=aP z0 z1 z2 z3;clear z0 z1 z2 z3;simp only[putL,List.setIfInBounds_toArray,List.set_cons_zero,List.set_cons_succ];go_wp2;obtain ⟨kS,kV,gy⟩:=aU K3.o rfl rfl rfl;exact bodyPost_ret (v:=.agg #[.bool (ai n),.slice u6 (ae n) w9,.slice wo (ah dn) wu]) (by simp[results,Tryz.results83,go_sem,kS,kV,gy]) rfl ⟨_,_,_,_,rfl,RQ.o,TQ.o,r9.o⟩
end Go.Proofs.YtkiklcbhglpooaaGreatDoor
open Go.Lib (hid)
namespace Go.Proofs.YtkiklcbhglpooaaGreatDoor
open Go.RowKit Go.Gb
theorem z4t (n:Int)(en:Nat)(sn:ByteArray)(p1:Option Addr)(c1:Nat)(s1:Option Addr)(d1:Nat)(w:World)(h1:∀ p1 c1 W,RN W (.slice p1 (ae n) c1) n.natAbs→CR 129 #[.agg #[.bool (ai n),.slice p1 (ae n) c1]] W (.string sn))(h2:∀ s1 d1 W,RN W (.slice s1 (ah en) d1) en→CR 130 #[.slice s1 (ah en) d1] W (.string ⟨#[49]⟩))(r1:RN w (.slice p1 (ae n) c1) n.natAbs)(t1:RN w (.slice s1 (ah en) d1) en) :
 CR 81 #[.agg #[.bool (ai n),.slice p1 (ae n) c1,.slice s1 (ah en) d1]] w (.string sn):=by
 obtain ⟨C1,C2,R1,T1⟩:=aP h1 h2 r1 t1;clear h1 h2 r1 t1;go_enter Tryz.func81,Tryz.ntmps81
 go_upto_region 1 with fail
 refine aG w [(#[.bool (ai n),.slice p1 (ae n) c1,.slice s1 (ah en) d1],50)] rfl ?_;rintro W0 ⟨k1,hb⟩;have ww:=hid (show Below w.heap.size w W0 from hb);obtain ⟨R1,T1⟩:=aM ww.o R1 T1;have K1:=Lib.hid k1;clear k1 hb;obtain ⟨rM,rV⟩:=ay K1.o rfl rfl;go_wp2_with fail
 with_reducible refine(C1.o _ _ _ R1.o).mono ?_
 rintro e W1 ⟨rfl,hb⟩;clear rM rV;obtain ⟨K1,T1⟩:=aM hb K1 T1;have r9:=hbt ww hb;clear hb;have p8:=K1.o.cell (i:=2) rfl;go_wp2_with fail
 with_reducible refine(C2.o _ _ _ T1.o).mono ?_
 rintro e W2 ⟨rfl,hb⟩;clear p8;have p9:=hbt r9 hb;clear hb;go_wp2;exact bodyPost_ret (v:=.string sn) (by simp[results,Tryz.results81,go_sem]) rfl ⟨rfl,p9.o⟩
theorem z2q (n:Int)(en:Nat)(sn sd res:ByteArray)(hsd:(sd.toList==[49])=false)(hr:sn++(⟨#[47]⟩++sd)=res)(hl1:sn.size≤10000)(hl2:sd.size≤10000)(p1:Option Addr)(c1:Nat)(s1:Option Addr)(d1:Nat)(w:World)(h1:∀ p1 c1 W,RN W (.slice p1 (ae n) c1) n.natAbs→CR 129 #[.agg #[.bool (ai n),.slice p1 (ae n) c1]] W (.string sn))(h2:∀ s1 d1 W,RN W (.slice s1 (ah en) d1) en→CR 130 #[.slice s1 (ah en) d1] W (.string sd))(r1:RN w (.slice p1 (ae n) c1) n.natAbs)(t1:RN w (.slice s1 (ah en) d1) en) :
 CR 81 #[.agg #[.bool (ai n),.slice p1 (ae n) c1,.slice s1 (ah en) d1]] w (.string res):=by
 obtain ⟨C1,C2,R1,T1,HR,HL1,HL2⟩:=fJ h1 h2 r1 t1 hr hl1 hl2;have k0:¬ sd.toList=[49]:=by simpa using hsd
 clear hr hl1 hl2 h1 h2 r1 t1;go_enter Tryz.func81,Tryz.ntmps81
 go_upto_region 1 with fail
 refine aG w [(#[.bool (ai n),.slice p1 (ae n) c1,.slice s1 (ah en) d1],50)] rfl ?_;rintro W0 ⟨k1,hb⟩;have ww:=hid (show Below w.heap.size w W0 from hb);obtain ⟨R1,T1⟩:=aM ww.o R1 T1;have K1:=Lib.hid k1;clear k1 hb;obtain ⟨rM,rV⟩:=ay K1.o rfl rfl;go_wp2_with fail
 with_reducible refine(C1.o _ _ _ R1.o).mono ?_
 rintro e W1 ⟨rfl,hb⟩;clear rM rV;obtain ⟨K1,T1⟩:=aM hb K1 T1;have r9:=hbt ww hb;clear hb;have p8:=K1.o.cell (i:=2) rfl;go_wp2_with fail
 with_reducible refine(C2.o _ _ _ T1.o).mono ?_
 rintro e W2 ⟨rfl,hb⟩;clear p8;have p9:=hbt r9 hb;clear hb;have ha1:=run_string_add_sum (P:=Tryz.prog) W2 ⟨#[47]⟩ sd (by have:=HL2.o;have e:(⟨#[47]⟩:ByteArray).size=1:=rfl;omega);have ha2:=run_string_add_sum (P:=Tryz.prog) W2 sn (⟨#[47]⟩++sd) (by have:=HL1.o;have:=HL2.o;have e:(⟨#[47]⟩:ByteArray).size=1:=rfl;rw[ByteArray.size_append];omega);rw[HR.o]at ha2;go_wp2;exact bodyPost_ret (v:=.string res) (by simp[results,Tryz.results81,go_sem]) rfl ⟨rfl,p9.o⟩
def LQ (q:Rat):Prop:=ae q.num≤10000∧ah q.den≤10000
theorem z5R (z:Int)(g:Nat)(hg:g∣z.natAbs):z / (g:Int)=if ai z then -((z.natAbs / g:Nat):Int) else ((z.natAbs / g:Nat):Int):=by
 have hd:(g:Int)∣(z.natAbs:Int):=Int.natCast_dvd_natCast.2 hg;unfold ai
 by_cases h:z<0
 · rw[decide_eq_true h,if_pos rfl]
   have e:z = -(z.natAbs:Int):=by omega
   conv=>lhs;rw[e]
   rw[Int.neg_ediv_of_dvd hd,Int.natCast_ediv]
 · rw[decide_eq_false h,if_neg (by simp),Int.natCast_ediv]
   congr 1
   omega
theorem z1N (z:Int)(n:Nat):z*(n:Int)=if ai z then -((z.natAbs*n:Nat):Int) else ((z.natAbs*n:Nat):Int):=by
 rw[Int.natCast_mul];unfold ai
 by_cases h:z<0
 · rw[decide_eq_true h,if_pos rfl,← Int.neg_mul];congr 1;omega
 · rw[decide_eq_false h,if_neg (by simp)];congr 1;omega
theorem z3u (x y:Rat)(h:x.den=y.den):x+y=mkRat (x.num+y.num) x.den:=by
 rw[jM,← h,← Int.add_mul,Rat.mkRat_mul_right x.den_nz]
theorem kK (a b:Int):ae (a*b)≤ae a+ae b:=by
 unfold ae ah;rw[Int.natAbs_mul];exact fA _ _
theorem jR (a b:Nat):ah (a*b)≤ah a+ah b:=fA a b
theorem wT {a b:Int}{K:Nat}(ha:ae a≤K)(hb:ae b≤K):ae (a+b)≤K+1 :=
 Nat.le_trans (fH (Int.natAbs_add_le a b)) (fB (a:=a.natAbs) (b:=b.natAbs) ha hb)
theorem qF (n:Nat):ae (n:Int)=ah n:=by unfold ae;rw[Int.natAbs_natCast]
theorem qR (z:Int)(dn:Nat)(q:Rat)(hq:mkRat z dn=q)(hd:dn≠0)(hz:ae z≤50000)(hl:ah dn≤50000)(p1:Option Addr)(c1:Nat)(s2:Option Addr)(d2:Nat)(W:World)(r1:RN W (.slice p1 (ae z) c1) z.natAbs)(t2:RN W (.slice s2 (ah dn) d2) dn) :
 Calls Tryz.prog 76 #[.agg #[.bool (ai z),.slice p1 (ae z) c1],.slice s2 (ah dn) d2] W fun e w'=>∃ p c s d,e=.returned (.agg #[.bool (ai q.num),.slice p (ae q.num) c,.slice s (ah q.den) d])∧RN w' (.slice p (ae q.num) c) q.num.natAbs∧RN w' (.slice s (ah q.den) d) q.den∧Below W.heap.size W w':=by
 obtain⟨hn,he⟩:=jS z dn hd;rw[hq]at hn he;obtain⟨g,hg⟩:∃ g,g=Nat.gcd z.natAbs dn:=⟨_,rfl⟩;rw[← hg]at hn he;by_cases g1:g=1
 · rw[g1]at hn he
   have e1:q.num=z:=by rw[hn];simp
   have e2:q.den=dn:=by rw[he];simp
   rw[e1,e2];exact yZ z dn hz hl p1 c1 s2 d2 (by rw[← hg,g1]) W r1 t2
 · have g0:g≠0:=by rw[hg];exact Nat.ne_of_gt (Nat.gcd_pos_of_pos_right _ (by omega))
   have hy:=z5R z g (by rw[hg];exact Nat.gcd_dvd_left _ _);rw[hn,he];by_cases gl:ah g=1
   · exact vJ z dn hz hl p1 c1 s2 d2 g _ _ _ _ _ hg.symm g0 g1 gl rfl rfl rfl rfl hy W r1 t2
   · exact vK z dn hz hl p1 c1 s2 d2 g _ _ _ _ _ hg.symm g0 gl rfl rfl rfl rfl hy W r1 t2
theorem z4m (k:Int)(q:Rat)(n:Nat)(hk:(n:Int)=k)(h1:n≤2000000000)(hn:q.num=k)(he:q.den=1)  (W:World)  :
 Calls Tryz.prog 27 #[.int .i64 k] W fun e w'=>∃ p c s d,e=.returned (.agg #[.bool (ai q.num),.slice p (ae q.num) c,.slice s (ah q.den) d])∧RN w' (.slice p (ae q.num) c) q.num.natAbs∧RN w' (.slice s (ah q.den) d) q.den∧Below W.heap.size W w':=by
 refine z2t k q.num q.den W (fun W=>?_) (fun W=>?_)
 · rw[hn];exact z3Q k n hk (by omega) (by omega) W
 · rw[he];exact kJ 1 1 rfl (by decide) W
theorem z5X (x q:Rat)(hq:x⁻¹=q)(h0:x≠0)(hx:LQ x)(p1:Option Addr)(c1:Nat)(s1:Option Addr)(d1:Nat)(W:World)(r1:RN W (.slice p1 (ae x.num) c1) x.num.natAbs)(t1:RN W (.slice s1 (ah x.den) d1) x.den) :
 Calls Tryz.prog 132 #[.agg #[.bool (ai x.num),.slice p1 (ae x.num) c1,.slice s1 (ah x.den) d1]] W fun e w'=>∃ p c s d,e=.returned (.agg #[.bool (ai q.num),.slice p (ae q.num) c,.slice s (ah q.den) d])∧RN w' (.slice p (ae q.num) c) q.num.natAbs∧RN w' (.slice s (ah q.den) d) q.den∧Below W.heap.size W w':=by
 have hm:q.num=(if ai x.num then -(x.den:Int) else (x.den:Int))∧q.den=x.num.natAbs:=by
  rw[← hq];have hn0:x.num≠0:=fun e=>h0 (Rat.num_eq_zero.1 e);unfold ai
  rcases Int.lt_trichotomy x.num 0 with h|h|h
  · obtain⟨e1,e2⟩:=l8 h
    rw[decide_eq_true h,if_pos rfl];exact⟨e1,by omega⟩
  · exact absurd h hn0
  · obtain⟨e1,e2⟩:=inv_pos h
    rw[decide_eq_false (by omega),if_neg (by simp)];exact⟨e1,by omega⟩
 obtain⟨e1,e2⟩:=hm;rw[e2];exact z2s x.num q.num x.den p1 c1 s1 d1 W (fun s d W h=>ja (ai x.num) _ x.den q.num e1 (Nat.le_trans hx.2 (by decide)) W h) r1 t1
theorem z3R (x:Rat)(s:Int)(hs:x.num.sign=s)(p1:Option Addr)(c1:Nat)(s1:Option Addr)(d1:Nat)(W:World)(r1:RN W (.slice p1 (ae x.num) c1) x.num.natAbs)(t1:RN W (.slice s1 (ah x.den) d1) x.den) :
 CR 134 #[.agg #[.bool (ai x.num),.slice p1 (ae x.num) c1,.slice s1 (ah x.den) d1]] W (.int .i64 s):=by
 exact z0q x.num s x.den p1 c1 s1 d1 W (fun p c W h=>vv x.num s hs p c W h) r1 t1
theorem z0d (x y q:Rat)(hq:x*y=q)(hx:LQ x)(hy:LQ y)(p1:Option Addr)(c1:Nat)(s1:Option Addr)(d1:Nat)(p2:Option Addr)(c2:Nat)(s2:Option Addr)(d2:Nat)(W:World)(r1:RN W (.slice p1 (ae x.num) c1) x.num.natAbs)(t1:RN W (.slice s1 (ah x.den) d1) x.den)(r2:RN W (.slice p2 (ae y.num) c2) y.num.natAbs)(t2:RN W (.slice s2 (ah y.den) d2) y.den) :
 Calls Tryz.prog 30 #[.agg #[.bool (ai x.num),.slice p1 (ae x.num) c1,.slice s1 (ah x.den) d1],.agg #[.bool (ai y.num),.slice p2 (ae y.num) c2,.slice s2 (ah y.den) d2]] W fun e w'=>∃ p c s d,e=.returned (.agg #[.bool (ai q.num),.slice p (ae q.num) c,.slice s (ah q.den) d])∧RN w' (.slice p (ae q.num) c) q.num.natAbs∧RN w' (.slice s (ah q.den) d) q.den∧Below W.heap.size W w':=by
 obtain⟨a1,a2⟩:=hx;obtain⟨b1,b2⟩:=hy;have l1:=kK x.num y.num;have l2:=jR x.den y.den
 exact z2r x.num y.num (x.num*y.num) q.num x.den y.den (x.den*y.den) q.den p1 c1 s1 d1 p2 c2 s2 d2 W (fun p1 c1 p2 c2 W h1 h2=>z5j _ _ _ rfl (by omega) (by omega) p1 c1 p2 c2 W h1 h2)
  (fun s1 d1 s2 d2 W h1 h2=>og _ _ _ _ (by omega) (by omega) W h1 h2)
  (fun p1 c1 s2 d2 W h1 h2=>qR _ _ q (by rw[← hq,jD]) (Nat.mul_ne_zero x.den_nz y.den_nz) (by omega) (by omega) p1 c1 s2 d2 W h1 h2) r1 t1 r2 t2
theorem z5k (x y q:Rat)(hq:x+y=q)(hx:LQ x)(hy:LQ y)(p1:Option Addr)(c1:Nat)(s1:Option Addr)(d1:Nat)(p2:Option Addr)(c2:Nat)(s2:Option Addr)(d2:Nat)(W:World)(r1:RN W (.slice p1 (ae x.num) c1) x.num.natAbs)(t1:RN W (.slice s1 (ah x.den) d1) x.den)(r2:RN W (.slice p2 (ae y.num) c2) y.num.natAbs)(t2:RN W (.slice s2 (ah y.den) d2) y.den) :
 Calls Tryz.prog 29 #[.agg #[.bool (ai x.num),.slice p1 (ae x.num) c1,.slice s1 (ah x.den) d1],.agg #[.bool (ai y.num),.slice p2 (ae y.num) c2,.slice s2 (ah y.den) d2]] W fun e w'=>∃ p c s d,e=.returned (.agg #[.bool (ai q.num),.slice p (ae q.num) c,.slice s (ah q.den) d])∧RN w' (.slice p (ae q.num) c) q.num.natAbs∧RN w' (.slice s (ah q.den) d) q.den∧Below W.heap.size W w':=by
 obtain⟨a1,a2⟩:=hx;obtain⟨b1,b2⟩:=hy;by_cases he:x.den=y.den
 · have l1:=wT a1 b1
   exact z0s x.num y.num (x.num+y.num) q.num x.den y.den q.den p1 c1 s1 d1 p2 c2 s2 d2 W (fun s1 d1 s2 d2 W h1 h2=>by
        have h:=cCmp _ _ x.den y.den (by omega) W h1 h2
        rwa [show cmpN x.den y.den=0 by rw[he];unfold cmpN;simp]at h)
    (fun p1 c1 p2 c2 W h1 h2=>z5l _ _ _ rfl (by omega) (by omega) p1 c1 p2 c2 W h1 h2)
    (fun p1 c1 s2 d2 W h1 h2=>qR _ _ q (by rw[← hq,z3u x y he]) x.den_nz (by omega) (by omega) p1 c1 s2 d2 W h1 h2) r1 t1 r2 t2
 · have l1:=kK x.num (y.den:Int)
   have l2:=kK y.num (x.den:Int);have l3:=jR x.den y.den;have l4:=jR x.num.natAbs y.den;have l5:=jR y.num.natAbs x.den;rw[qF]at l1 l2;have l6:=wT (a:=x.num*(y.den:Int)) (b:=y.num*(x.den:Int)) (K:=20000) (by omega) (by omega);have z1:ae x.num=ah x.num.natAbs:=rfl;have z2:ae y.num=ah y.num.natAbs:=rfl
   exact yH x.num y.num (x.num*(y.den:Int)) (y.num*(x.den:Int)) (x.num*(y.den:Int)+y.num*(x.den:Int)) q.num (cmpN x.den y.den) x.den y.den (x.den*y.den) q.den (x.num.natAbs*y.den) (y.num.natAbs*x.den) (fun e=>he (by unfold cmpN at e;split at e<;>first|(split at e<;>first|omega|simp at e)|simp at e))
    p1 c1 s1 d1 p2 c2 s2 d2 W (fun s1 d1 s2 d2 W h1 h2=>cCmp _ _ x.den y.den (by omega) W h1 h2)
    (fun p1 c1 s2 d2 W h1 h2=>og _ _ _ _ (by omega) (by omega) W h1 h2) (fun s2 d2 W h=>ja _ _ _ _ (z1N x.num y.den) (by omega) W h)
    (fun p1 c1 s2 d2 W h1 h2=>og _ _ _ _ (by omega) (by omega) W h1 h2) (fun s2 d2 W h=>ja _ _ _ _ (z1N y.num x.den) (by omega) W h)
    (fun p1 c1 p2 c2 W h1 h2=>z5l _ _ _ rfl (by omega) (by omega) p1 c1 p2 c2 W h1 h2)
    (fun s1 d1 s2 d2 W h1 h2=>og _ _ _ _ (by omega) (by omega) W h1 h2)
    (fun p1 c1 s2 d2 W h1 h2=>qR _ _ q (by rw[← hq,jM]) (Nat.mul_ne_zero x.den_nz y.den_nz) (by omega) (by omega) p1 c1 s2 d2 W h1 h2) r1 t1 r2 t2
theorem z5Y (x y q:Rat)(hq:x / y=q)(h0:y≠0)(hx:LQ x)(hy:LQ y)(p1:Option Addr)(c1:Nat)(s1:Option Addr)(d1:Nat)(p2:Option Addr)(c2:Nat)(s2:Option Addr)(d2:Nat)(W:World)(r1:RN W (.slice p1 (ae x.num) c1) x.num.natAbs)(t1:RN W (.slice s1 (ah x.den) d1) x.den)(r2:RN W (.slice p2 (ae y.num) c2) y.num.natAbs)(t2:RN W (.slice s2 (ah y.den) d2) y.den) :
 Calls Tryz.prog 83 #[.agg #[.bool (ai x.num),.slice p1 (ae x.num) c1,.slice s1 (ah x.den) d1],.agg #[.bool (ai y.num),.slice p2 (ae y.num) c2,.slice s2 (ah y.den) d2]] W fun e w'=>∃ p c s d,e=.returned (.agg #[.bool (ai q.num),.slice p (ae q.num) c,.slice s (ah q.den) d])∧RN w' (.slice p (ae q.num) c) q.num.natAbs∧RN w' (.slice s (ah q.den) d) q.den∧Below W.heap.size W w':=by
 have hny:LQ y⁻¹:=by
  have hn0:y.num≠0:=fun e=>h0 (Rat.num_eq_zero.1 e);rcases Int.lt_trichotomy y.num 0 with h|h|h
  · obtain⟨e1,e2⟩:=l8 h
    exact⟨by unfold ae;rw[e1,Int.natAbs_neg,Int.natAbs_natCast];exact hy.2,by rw[show y⁻¹.den=y.num.natAbs by omega];exact hy.1⟩
  · exact absurd h hn0
  · obtain⟨e1,e2⟩:=inv_pos h
    exact⟨by unfold ae;rw[e1,Int.natAbs_natCast];exact hy.2,by rw[show y⁻¹.den=y.num.natAbs by omega];exact hy.1⟩
 exact z2u x.num y.num y⁻¹.num q.num x.den y.den y⁻¹.den q.den p1 c1 s1 d1 p2 c2 s2 d2 W (fun p1 c1 s1 d1 W h1 h2=>z5X y _ rfl h0 hy p1 c1 s1 d1 W h1 h2)
  (fun p1 c1 s1 d1 p2 c2 s2 d2 W h1 h2 h3 h4=>z0d x y⁻¹ q (by rw[← hq,Rat.div_def]) hx hny p1 c1 s1 d1 p2 c2 s2 d2 W h1 h2 h3 h4) r1 t1 r2 t2
theorem z1w (x y:Rat):(x.num.sign<y.num.sign→cmpQ x y = -1)∧(y.num.sign<x.num.sign→cmpQ x y=1):=by
 have hx:=x.den_pos;have hy:=y.den_pos;rw[j5 x y _ _ rfl rfl];have key:∀ (a:Int) (n:Nat),0<n→(a*(n:Int)).sign=a.sign:=fun a n hn=>by rw[Int.sign_mul,Int.sign_natCast_of_ne_zero (by omega),Int.mul_one]
 have k1:=key x.num y.den hy;have k2:=key y.num x.den hx;generalize x.num*(y.den:Int)=a at *;generalize y.num*(x.den:Int)=b at *;rw[← k1,← k2];have ha:=Int.sign_trichotomy a
 have lt:a.sign<b.sign→a<b:=by
  intro h
  rcases Int.lt_trichotomy a 0 with h1|h1|h1<;>rcases Int.lt_trichotomy b 0 with h2|h2|h2 <;>
   first|omega|(rw[Int.sign_eq_neg_one_of_neg h1,Int.sign_eq_neg_one_of_neg h2]at h;omega)|(rw[Int.sign_eq_one_of_pos h1,Int.sign_eq_one_of_pos h2]at h;omega)|(rw[Int.sign_eq_one_of_pos h1,Int.sign_eq_neg_one_of_neg h2]at h;omega)|(subst h1;rw[Int.sign_zero,Int.sign_eq_neg_one_of_neg h2]at h;omega)|(subst h2;rw[Int.sign_zero,Int.sign_eq_one_of_pos h1]at h;omega)|(subst h1;subst h2;omega)
 have gt:b.sign<a.sign→b<a:=by
  intro h
  rcases Int.lt_trichotomy a 0 with h1|h1|h1<;>rcases Int.lt_trichotomy b 0 with h2|h2|h2 <;>
   first|omega|(rw[Int.sign_eq_neg_one_of_neg h1,Int.sign_eq_neg_one_of_neg h2]at h;omega)|(rw[Int.sign_eq_one_of_pos h1,Int.sign_eq_one_of_pos h2]at h;omega)|(rw[Int.sign_eq_neg_one_of_neg h1,Int.sign_eq_one_of_pos h2]at h;omega)|(subst h1;rw[Int.sign_zero,Int.sign_eq_one_of_pos h2]at h;omega)|(subst h2;rw[Int.sign_zero,Int.sign_eq_neg_one_of_neg h1]at h;omega)|(subst h1;subst h2;omega)
 constructor
 · intro h;rw[if_pos (lt h)]
 · intro h
   have:=gt h;rw[if_neg (by omega),if_pos this]
theorem z5Z (x y:Rat)(k:Int)(hk:cmpQ x y=k)(hx:LQ x)(hy:LQ y)(p1:Option Addr)(c1:Nat)(s1:Option Addr)(d1:Nat)(p2:Option Addr)(c2:Nat)(s2:Option Addr)(d2:Nat)(W:World)(r1:RN W (.slice p1 (ae x.num) c1) x.num.natAbs)(t1:RN W (.slice s1 (ah x.den) d1) x.den)(r2:RN W (.slice p2 (ae y.num) c2) y.num.natAbs)(t2:RN W (.slice s2 (ah y.den) d2) y.den) :
 CR 87 #[.agg #[.bool (ai x.num),.slice p1 (ae x.num) c1,.slice s1 (ah x.den) d1],.agg #[.bool (ai y.num),.slice p2 (ae y.num) c2,.slice s2 (ah y.den) d2]] W (.int .i64 k):=by
 obtain⟨a1,a2⟩:=hx;obtain⟨b1,b2⟩:=hy;have hS1:=fun p1 c1 s1 d1 W h1 h2=>z3R x _ rfl p1 c1 s1 d1 W h1 h2;have hS2:=fun p1 c1 s1 d1 W h1 h2=>z3R y _ rfl p1 c1 s1 d1 W h1 h2;obtain⟨hlt,hgt⟩:=z1w x y;rcases Int.lt_trichotomy x.num.sign y.num.sign with h|h|h
 · rw[← hk,hlt h]
   exact z4u x.num y.num _ _ x.den y.den h p1 c1 s1 d1 p2 c2 s2 d2 W hS1 hS2 r1 t1 r2 t2
 · rw[← h]at hS2
   have l1:=kK x.num (y.den:Int);have l2:=kK y.num (x.den:Int);rw[qF]at l1 l2;have l4:=jR x.num.natAbs y.den;have l5:=jR y.num.natAbs x.den;have z1:ae x.num=ah x.num.natAbs:=rfl;have z2:ae y.num=ah y.num.natAbs:=rfl
   refine z0r x.num y.num _ (x.num*(y.den:Int)) (y.num*(x.den:Int)) k x.den y.den (x.num.natAbs*y.den) (y.num.natAbs*x.den) p1 c1 s1 d1 p2 c2 s2 d2 W hS1 hS2
    (fun p1 c1 s2 d2 W h1 h2=>og _ _ _ _ (by omega) (by omega) W h1 h2) (fun s2 d2 W h=>ja _ _ _ _ (z1N x.num y.den) (by omega) W h)
    (fun p1 c1 s2 d2 W h1 h2=>og _ _ _ _ (by omega) (by omega) W h1 h2) (fun s2 d2 W h=>ja _ _ _ _ (z1N y.num x.den) (by omega) W h) (fun p1 c1 p2 c2 W h1 h2=>?_) r1 t1 r2 t2
   have hc:=zCmp _ _ (x.num*(y.den:Int)) (y.num*(x.den:Int)) (show ae _≤50000 by omega) (show ae _≤50000 by omega) W (Rz.mk h1) (Rz.mk h2);rw[show cmpZ (x.num*(y.den:Int)) (y.num*(x.den:Int))=k by rw[← hk,j5 x y _ _ rfl rfl];rfl]at hc;exact hc
 · rw[← hk,hgt h]
   exact z4v x.num y.num _ _ x.den y.den h p1 c1 s1 d1 p2 c2 s2 d2 W hS1 hS2 r1 t1 r2 t2
theorem sQTo (q:Rat)(s:ByteArray)(hs:Sq q=s)(hq:SmQ 9000 q)(p1:Option Addr)(c1:Nat)(s1:Option Addr)(d1:Nat)(W:World)(r1:RN W (.slice p1 (ae q.num) c1) q.num.natAbs)(t1:RN W (.slice s1 (ah q.den) d1) q.den) :
 CR 81 #[.agg #[.bool (ai q.num),.slice p1 (ae q.num) c1,.slice s1 (ah q.den) d1]] W (.string s):=by
 have l1:ae q.num≤9000:=fT hq.1 (by decide);have l2:ah q.den≤9000:=fT hq.2 (by decide);have z1:(Sn q.num.natAbs).size≤9000:=fP hq.1 (by decide);have z2:(Sn q.den).size≤9000:=fP hq.2 (by decide);have z3:(Sz q.num).size≤9001:=ky hq.1 (by decide);have h1:=fun p c W h=>sTo q.num _ rfl (Nat.le_trans l1 (by decide)) (by omega) p c W h;have h2:=fun(s:Option Addr) (d:Nat) W h=>z1E (.slice s (ah q.den) d) q.den (Nat.le_trans l2 (by decide)) W h;subst hs;by_cases hd:q.den=1
 · unfold Sq
   rw[if_pos hd]
   exact z4t q.num q.den (Sz q.num) p1 c1 s1 d1 W h1 (fun s d W h=>by
    have:=h2 s d W h
    rwa [hd,show Sn 1=⟨#[49]⟩by decide +kernel,← hd]at this) r1 t1
 · unfold Sq
   rw[if_neg hd];refine z2q q.num q.den (Sz q.num) (Sn q.den) _ ?_ ?_ (by omega) (by omega) p1 c1 s1 d1 W h1 h2 r1 t1
   · rw[beq_eq_false_iff_ne]
     intro e;apply hd
     have e2:Sn q.den=Sn 1:=by
       apply ByteArray.ext;apply Array.ext'
       rw[toList_data]at e;rw[e];decide +kernel
     exact z3K e2
   · apply ByteArray.ext;apply Array.ext'
     simp[Sn]
