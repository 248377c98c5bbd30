/- texts -/
import Derived.Test.YteihfbkaieemdaaGreatDoorSi
import Derived.Test.YteihfbkaieemdaaGreatDoorMz30q
import Derived.Test.YteihfbkaieemdaaGreatDoorSl
set_option maxRecDepth 100000
set_option maxHeartbeats 20000000
open Go.Lib (hid)
namespace Go.Proofs.YteihfbkaieemdaaGreatDoor
open Go.RowKit Go.Gb
theorem z1v (n1 n2 m n:Int)(en1 en2 f dn:Nat)(p1:Option Addr)(c1:Nat)(s1:Option Addr)(d1:Nat)(p2:Option Addr)(c2:Nat)(s2:Option Addr)(d2:Nat)(w:World)(h1:∀ p1 c1 s1 d1 W,RN W (.slice p1 (ae n2) c1) n2.natAbs→RN W (.slice s1 (ag en2) d1) en2→CF 83 #[.agg #[.bool (ai n2),.slice p1 (ae n2) c1,.slice s1 (ag en2) d1]] W m f)(h2:∀ p1 c1 s1 d1 p2 c2 s2 d2 W,RN W (.slice p1 (ae n1) c1) n1.natAbs→RN W (.slice s1 (ag en1) d1) en1→RN W (.slice p2 (ae m) c2) m.natAbs→RN W (.slice s2 (ag f) d2) f→CF 66 #[.agg #[.bool (ai n1),.slice p1 (ae n1) c1,.slice s1 (ag en1) d1],.agg #[.bool (ai m),.slice p2 (ae m) c2,.slice s2 (ag f) d2]] W n dn)(r1:RN w (.slice p1 (ae n1) c1) n1.natAbs)(t1:RN w (.slice s1 (ag en1) d1) en1)(r2:RN w (.slice p2 (ae n2) c2) n2.natAbs)(t2:RN w (.slice s2 (ag en2) d2) en2) :
 CF 67 #[.agg #[.bool (ai n1),.slice p1 (ae n1) c1,.slice s1 (ag en1) d1],.agg #[.bool (ai n2),.slice p2 (ae n2) c2,.slice s2 (ag en2) d2]] w n dn:=by
 obtain ⟨C1,C2,R1,T1,R2,T2⟩:=cB h1 h2 r1 t1 r2 t2;clear h1 h2 r1 t1 r2 t2;go_enter Tryz.func67,Tryz.ntmps67
 go_upto_region 1 with fail
 refine ay w [(#[.bool (ai n1),.slice p1 (ae n1) c1,.slice s1 (ag en1) d1],54),(#[.bool (ai n2),.slice p2 (ae n2) c2,.slice s2 (ag en2) d2],54),(#[.bool false,.slice none 0 0,.slice none 0 0],54)] rfl ?_;rintro W0 ⟨k1,k2,k3,hb⟩;have wu:=hid (show Below w.heap.size w W0 from hb);obtain ⟨R1,T1,R2,T2⟩:=bF wu.o R1 T1 R2 T2;obtain ⟨K1,K2,K3⟩:=ak k1 k2 k3;clear k1 k2 k3 hb;go_wp2_with fail
 refine aJ (fun a0 a' V=>∃ ww sw r9 rM u6 w9 wm wo,a'=⟨putL [(5,.agg #[.bool (ai n1),.slice p1 (ae n1) c1,.slice s1 (ag en1) d1]),(6,.agg #[.bool (ai n2),.slice p2 (ae n2) c2,.slice s2 (ag en2) d2]),(7,.agg #[.bool (ai m),.slice ww (ae m) sw,.slice r9 (ag f) rM]),(8,.agg #[.bool (ai n),.slice u6 (ae n) w9,.slice wm (ag dn) wo])] a0.tmps,a0.defers⟩∧Below w.heap.size w V∧SBk V (w.heap.size+1+1) #[.bool (ai n),.slice u6 (ae n) w9,.slice wm (ag dn) wo] 54∧RN V (.slice u6 (ae n) w9) (n).natAbs∧RN V (.slice wm (ag dn) wo) (dn)) ?_ ?_
 · refine aW 4 1 [5,6,7,8] [Rel.val (.agg #[.bool (ai n1),.slice p1 (ae n1) c1,.slice s1 (ag en1) d1]),Rel.val (.agg #[.bool (ai n2),.slice p2 (ae n2) c2,.slice s2 (ag en2) d2]),⟨fun v W=>∃ p c s d,v=.agg #[.bool (ai m),.slice p (ae m) c,.slice s (ag f) d]∧RN W (.slice p (ae m) c) (m).natAbs∧RN W (.slice s (ag f) d) (f),fun _ _ _ ⟨p,c,s,d,e,h0,h1⟩ hb=>⟨p,c,s,d,e,h0.below hb,h1.below hb⟩⟩,⟨fun v W=>∃ p c s d,v=.agg #[.bool (ai n),.slice p (ae n) c,.slice s (ag dn) d]∧RN W (.slice p (ae n) c) (n).natAbs∧RN W (.slice s (ag dn) d) (dn),fun _ _ _ ⟨p,c,s,d,e,h0,h1⟩ hb=>⟨p,c,s,d,e,h0.below hb,h1.below hb⟩⟩] ?_ ?_
   · intro gF a W i HI hD Hr him
     obtain⟨y2,y3⟩:=HI.o.s2 2 3;obtain ⟨ol,oM,oV⟩:=aO (K1.o.below HI.o.world) rfl rfl rfl;obtain ⟨dx,dz,dX⟩:=aO (K2.o.below HI.o.world) rfl rfl rfl;obtain⟨X1,X0⟩:=HI.o.g2 1 6 0 5
     match i,him,Hr with
     | 0,_,Hi|1,_,Hi =>
       refine aK rfl fun K' hK=>?_;go_simp;exact hK.o _ _ (HI.o.pw Hi.o)
     | 2,_,Hi =>
       have x1:=X1.q Hi.o;refine aK rfl fun K' hK=>?_;go_simp;with_reducible refine(C1.o _ _ _ _ _ (R2.o.below HI.o.world) (T2.o.below HI.o.world)).mono ?_
       rintro e W' ⟨ww,sw,r9,rM,rfl,rV,p8,hb⟩;exact hK.o _ _ ⟨HI.o.pc Hi.o hb ⟨ww,sw,r9,rM,rfl,rV,p8⟩,trivial⟩
     | 3,_,Hi =>
       have x0:=X0.q Hi.o;obtain⟨v',x2,ww,sw,r9,rM,e,rV,p8⟩:=HI.o.at (i:=2) Hi.o (by kernel_rfl) (by decide);obtain rfl:=e;have x2:a.tmps[7]? = some (.agg #[.bool (ai m),.slice ww (ae m) sw,.slice r9 (ag f) rM]):=x2;have mi:=hid rV;clear rV;have lg:=hid p8;clear p8;refine aK rfl fun K' hK=>?_;go_simp;with_reducible refine(C2.o _ _ _ _ _ _ _ _ _ (R1.o.below HI.o.world) (T1.o.below HI.o.world) mi.o lg.o).mono ?_
       rintro e W' ⟨u6,w9,wm,wo,rfl,ma,mf,hb⟩;exact hK.o _ _ ⟨HI.o.pc Hi.o hb ⟨u6,w9,wm,wo,rfl,ma,mf⟩,trivial⟩
     | n+4,h,_=>exact absurd h (by omega)
   · intro gF a W HI hD HA
     obtain⟨v',x2,ww,sw,r9,rM,e,rV,p8⟩:=HI.o.slots 2 (by decide) (HA.o 2 (by decide));obtain rfl:=e;have mi:=hid rV;clear rV;have lg:=hid p8;clear p8;obtain⟨v',x3,u6,w9,wm,wo,e,ma,mf⟩:=HI.o.slots 3 (by decide) (HA.o 3 (by decide));obtain rfl:=e;have fq:=hid ma;clear ma;have fQ:=hid mf;clear mf;have x3:a.tmps[8]? = some (.agg #[.bool (ai n),.slice u6 (ae n) w9,.slice wm (ag dn) wo]):=x3;have kz:=hid HI.o.world;obtain ⟨ed,K3⟩:=aD (wu.o.trans (kz.o.mono wu.o.size)) (K3.o.below kz.o);have RM:=mi;have TM:=lg;have RQ:=fq;have TQ:=fQ;have y4:=HI.o.rst 4 rfl;obtain ⟨kM,kV,gy⟩:=aO K3.o rfl rfl rfl;obtain ⟨dY,cO,bg⟩:=bZ K3.o;refine aZ (t:=0) ?_;refine aK rfl fun K' hK=>?_;go_simp;refine hK.o _ _ ?_;clear hK;refine bH ?_;have s0:∀ {v':Value} {n':Nat},RN W v' n'→RN (storeAll W (w.heap.size+1+1) 0 [.bool (ai n),.slice u6 (ae n) w9,.slice wm (ag dn) wo]) v' n':=fun h'=>bC _ h' K3.o (by simp[bQ]) (by simp[bi]);exact⟨rfl,ww,sw,r9,rM,u6,w9,wm,wo,(HI.o.finx ⟨HI.o.sx HA.o 0,HI.o.sx HA.o 1,x2,x3,trivial⟩ rfl),(ax (l:=[.bool (ai n),.slice u6 (ae n) w9,.slice wm (ag dn) wo]) (i:=0) (by omega) ed.o),(dm (l:=[.bool (ai n),.slice u6 (ae n) w9,.slice wm (ag dn) wo]) (i:=0) K3.o),(s0 RQ.o),(s0 TQ.o)⟩
 rintro a' W1 ⟨ww,sw,r9,rM,u6,w9,wm,wo,rfl,z0,z1,z2,z3⟩;obtain ⟨pq,K3,RQ,TQ⟩:=aH z0 z1 z2 z3;clear z0 z1 z2 z3;simp only[putL,List.setIfInBounds_toArray,List.set_cons_zero,List.set_cons_succ];go_wp2;obtain ⟨kM,kV,gy⟩:=aO K3.o rfl rfl rfl;exact bodyPost_ret (v:=.agg #[.bool (ai n),.slice u6 (ae n) w9,.slice wm (ag dn) wo]) (by simp[results,Tryz.results67,go_sem,kM,kV,gy]) rfl ⟨_,_,_,_,rfl,RQ.o,TQ.o,pq.o⟩
open Go.Lib (hid)
theorem z3y (n:Int)(en:Nat)(sn:ByteArray)(p1:Option Addr)(c1:Nat)(s1:Option Addr)(d1:Nat)(w:World)(h1:∀ p1 c1 W,RN W (.slice p1 (ae n) c1) n.natAbs→CR 99 #[.agg #[.bool (ai n),.slice p1 (ae n) c1]] W (.string sn))(h2:∀ s1 d1 W,RN W (.slice s1 (ag en) d1) en→CR 100 #[.slice s1 (ag en) d1] W (.string ⟨#[49]⟩))(r1:RN w (.slice p1 (ae n) c1) n.natAbs)(t1:RN w (.slice s1 (ag en) d1) en) :
 CR 65 #[.agg #[.bool (ai n),.slice p1 (ae n) c1,.slice s1 (ag en) d1]] w (.string sn):=by
 obtain ⟨C1,C2,R1,T1⟩:=aH h1 h2 r1 t1;clear h1 h2 r1 t1;go_enter Tryz.func65,Tryz.ntmps65
 go_upto_region 1 with fail
 refine ay w [(#[.bool (ai n),.slice p1 (ae n) c1,.slice s1 (ag en) d1],54)] rfl ?_;rintro W0 ⟨k1,hb⟩;have wu:=hid (show Below w.heap.size w W0 from hb);obtain ⟨R1,T1⟩:=aU wu.o R1 T1;have K1:=Lib.hid k1;clear k1 hb;obtain ⟨ol,oM⟩:=av K1.o rfl rfl;go_wp2_with fail
 with_reducible refine(C1.o _ _ _ R1.o).mono ?_
 rintro e W1 ⟨rfl,hb⟩;clear ol oM;obtain ⟨K1,T1⟩:=aU hb K1 T1;have pq:=hbt wu hb;clear hb;have oV:=K1.o.cell (i:=2) rfl;go_wp2_with fail
 with_reducible refine(C2.o _ _ _ T1.o).mono ?_
 rintro e W2 ⟨rfl,hb⟩;clear oV;have lv:=hbt pq hb;clear hb;go_wp2;exact bodyPost_ret (v:=.string sn) (by simp[results,Tryz.results65,go_sem]) rfl ⟨rfl,lv.o⟩
theorem z1u (n:Int)(en:Nat)(sn sd res:ByteArray)(hsd:(sd.toList==[49])=false)(hr:sn++(⟨#[47]⟩++sd)=res)(hl1:sn.size≤10000)(hl2:sd.size≤10000)(p1:Option Addr)(c1:Nat)(s1:Option Addr)(d1:Nat)(w:World)(h1:∀ p1 c1 W,RN W (.slice p1 (ae n) c1) n.natAbs→CR 99 #[.agg #[.bool (ai n),.slice p1 (ae n) c1]] W (.string sn))(h2:∀ s1 d1 W,RN W (.slice s1 (ag en) d1) en→CR 100 #[.slice s1 (ag en) d1] W (.string sd))(r1:RN w (.slice p1 (ae n) c1) n.natAbs)(t1:RN w (.slice s1 (ag en) d1) en) :
 CR 65 #[.agg #[.bool (ai n),.slice p1 (ae n) c1,.slice s1 (ag en) d1]] w (.string res):=by
 obtain ⟨C1,C2,R1,T1,HR,HL1,HL2⟩:=dB h1 h2 r1 t1 hr hl1 hl2;have k0:¬ sd.toList=[49]:=by simpa using hsd
 clear hr hl1 hl2 h1 h2 r1 t1;go_enter Tryz.func65,Tryz.ntmps65
 go_upto_region 1 with fail
 refine ay w [(#[.bool (ai n),.slice p1 (ae n) c1,.slice s1 (ag en) d1],54)] rfl ?_;rintro W0 ⟨k1,hb⟩;have wu:=hid (show Below w.heap.size w W0 from hb);obtain ⟨R1,T1⟩:=aU wu.o R1 T1;have K1:=Lib.hid k1;clear k1 hb;obtain ⟨ol,oM⟩:=av K1.o rfl rfl;go_wp2_with fail
 with_reducible refine(C1.o _ _ _ R1.o).mono ?_
 rintro e W1 ⟨rfl,hb⟩;clear ol oM;obtain ⟨K1,T1⟩:=aU hb K1 T1;have pq:=hbt wu hb;clear hb;have oV:=K1.o.cell (i:=2) rfl;go_wp2_with fail
 with_reducible refine(C2.o _ _ _ T1.o).mono ?_
 rintro e W2 ⟨rfl,hb⟩;clear oV;have lv:=hbt pq hb;clear hb;have ha1:=run_string_add_sum (P:=Tryz.prog) W2 ⟨#[47]⟩ sd (by have:=HL2.o;have e:(⟨#[47]⟩:ByteArray).size=1:=rfl;omega);have ha2:=run_string_add_sum (P:=Tryz.prog) W2 sn (⟨#[47]⟩++sd) (by have:=HL1.o;have:=HL2.o;have e:(⟨#[47]⟩:ByteArray).size=1:=rfl;rw[ByteArray.size_append];omega);rw[HR.o]at ha2;go_wp2;exact bodyPost_ret (v:=.string res) (by simp[results,Tryz.results65,go_sem]) rfl ⟨rfl,lv.o⟩
def LQ (q:Rat):Prop:=ae q.num≤10000∧ag q.den≤10000
theorem z_abs (z:Int):z=if ai z then -(z.natAbs:Int) else (z.natAbs:Int):=by
 unfold ai
 by_cases h:z<0
 · rw[decide_eq_true h,if_pos rfl];omega
 · rw[decide_eq_false h,if_neg (by simp)];omega
theorem z5b (z:Int)(g:Nat)(hg:g∣z.natAbs):z / (g:Int)=if ai z then -((z.natAbs / g:Nat):Int) else ((z.natAbs / g:Nat):Int):=by
 have hd:(g:Int)∣(z.natAbs:Int):=Int.natCast_dvd_natCast.2 hg;unfold ai
 by_cases h:z<0
 · rw[decide_eq_true h,if_pos rfl]
   have e:z = -(z.natAbs:Int):=by omega
   conv=>lhs;rw[e]
   rw[Int.neg_ediv_of_dvd hd,Int.natCast_ediv]
 · rw[decide_eq_false h,if_neg (by simp),Int.natCast_ediv]
   congr 1
   omega
theorem z0Z (z:Int)(n:Nat):z*(n:Int)=if ai z then -((z.natAbs*n:Nat):Int) else ((z.natAbs*n:Nat):Int):=by
 rw[Int.natCast_mul];unfold ai
 by_cases h:z<0
 · rw[decide_eq_true h,if_pos rfl,← Int.neg_mul];congr 1;omega
 · rw[decide_eq_false h,if_neg (by simp)];congr 1;omega
theorem z2y (x y:Rat)(h:x.den=y.den):x+y=mkRat (x.num+y.num) x.den:=by
 rw[jN,← h,← Int.add_mul,Rat.mkRat_mul_right x.den_nz]
theorem kF (a b:Int):ae (a*b)≤ae a+ae b:=by
 unfold ae ag;rw[Int.natAbs_mul];exact iE _ _
theorem jQ (a b:Nat):ag (a*b)≤ag a+ag b:=iE a b
theorem wh {a b:Int}{K:Nat}(ha:ae a≤K)(hb:ae b≤K):ae (a+b)≤K+1 :=
 Nat.le_trans (jA (Int.natAbs_add_le a b)) (iF (a:=a.natAbs) (b:=b.natAbs) ha hb)
theorem vZ (n:Nat):ae (n:Int)=ag n:=by unfold ae;rw[Int.natAbs_natCast]
theorem uI (z:Int)(dn:Nat)(q:Rat)(hq:mkRat z dn=q)(hd:dn≠0)(hz:ae z≤50000)(hl:ag dn≤50000)(p1:Option Addr)(c1:Nat)(s2:Option Addr)(d2:Nat)(W:World)(r1:RN W (.slice p1 (ae z) c1) z.natAbs)(t2:RN W (.slice s2 (ag dn) d2) dn) :
 Calls Tryz.prog 72 #[.agg #[.bool (ai z),.slice p1 (ae z) c1],.slice s2 (ag dn) d2] W fun e w'=>∃ p c s d,e=.returned (.agg #[.bool (ai q.num),.slice p (ae q.num) c,.slice s (ag q.den) d])∧RN w' (.slice p (ae q.num) c) q.num.natAbs∧RN w' (.slice s (ag q.den) d) q.den∧Below W.heap.size W w':=by
 obtain⟨hn,he⟩:=jR z dn hd;rw[hq]at hn he;obtain⟨g,hg⟩:∃ g,g=Nat.gcd z.natAbs dn:=⟨_,rfl⟩;rw[← hg]at hn he;by_cases g1:g=1
 · rw[g1]at hn he
   have e1:q.num=z:=by rw[hn];simp
   have e2:q.den=dn:=by rw[he];simp
   rw[e1,e2];exact yf z dn hz hl p1 c1 s2 d2 (by rw[← hg,g1]) W r1 t2
 · have g0:g≠0:=by rw[hg];exact Nat.ne_of_gt (Nat.gcd_pos_of_pos_right _ (by omega))
   have hy:=z5b z g (by rw[hg];exact Nat.gcd_dvd_left _ _);rw[hn,he];by_cases gl:ag g=1
   · exact uN z dn hz hl p1 c1 s2 d2 g _ _ _ _ _ hg.symm g0 g1 gl rfl rfl rfl rfl hy W r1 t2
   · exact uO z dn hz hl p1 c1 s2 d2 g _ _ _ _ _ hg.symm g0 gl rfl rfl rfl rfl hy W r1 t2
theorem z4B (k:Int)(q:Rat)(n:Nat)(hk:(n:Int)=k)(h1:n≤2000000000)(hn:q.num=k)(he:q.den=1)  (W:World)  :
 Calls Tryz.prog 50 #[.int .i64 k] W fun e w'=>∃ p c s d,e=.returned (.agg #[.bool (ai q.num),.slice p (ae q.num) c,.slice s (ag q.den) d])∧RN w' (.slice p (ae q.num) c) q.num.natAbs∧RN w' (.slice s (ag q.den) d) q.den∧Below W.heap.size W w':=by
 refine z1z k q.num q.den W (fun W=>?_) (fun W=>?_)
 · rw[hn];exact z4A k n hk (by omega) (by omega) W
 · rw[he];exact rz 1 1 rfl (by decide) W
theorem z5h (x q:Rat)(hq : -x=q)(hx:LQ x)(p1:Option Addr)(c1:Nat)(s1:Option Addr)(d1:Nat)(W:World)(r1:RN W (.slice p1 (ae x.num) c1) x.num.natAbs)(t1:RN W (.slice s1 (ag x.den) d1) x.den) :
 Calls Tryz.prog 83 #[.agg #[.bool (ai x.num),.slice p1 (ae x.num) c1,.slice s1 (ag x.den) d1]] W fun e w'=>∃ p c s d,e=.returned (.agg #[.bool (ai q.num),.slice p (ae q.num) c,.slice s (ag q.den) d])∧RN w' (.slice p (ae q.num) c) q.num.natAbs∧RN w' (.slice s (ag q.den) d) q.den∧Below W.heap.size W w':=by
 subst hq;exact z1w x.num (-x).num x.den p1 c1 s1 d1 W (fun p c W h=>zH x.num _ rfl (Nat.le_trans hx.1 (by decide)) p c W h) r1 t1
theorem z5j (x q:Rat)(hq:x⁻¹=q)(h0:x≠0)(hx:LQ x)(p1:Option Addr)(c1:Nat)(s1:Option Addr)(d1:Nat)(W:World)(r1:RN W (.slice p1 (ae x.num) c1) x.num.natAbs)(t1:RN W (.slice s1 (ag x.den) d1) x.den) :
 Calls Tryz.prog 70 #[.agg #[.bool (ai x.num),.slice p1 (ae x.num) c1,.slice s1 (ag x.den) d1]] W fun e w'=>∃ p c s d,e=.returned (.agg #[.bool (ai q.num),.slice p (ae q.num) c,.slice s (ag q.den) d])∧RN w' (.slice p (ae q.num) c) q.num.natAbs∧RN w' (.slice s (ag q.den) d) q.den∧Below W.heap.size W w':=by
 have hm:q.num=(if ai x.num then -(x.den:Int) else (x.den:Int))∧q.den=x.num.natAbs:=by
  rw[← hq];have hn0:x.num≠0:=fun e=>h0 (Rat.num_eq_zero.1 e);unfold ai
  rcases Int.lt_trichotomy x.num 0 with h|h|h
  · obtain⟨e1,e2⟩:=mU h
    rw[decide_eq_true h,if_pos rfl];exact⟨e1,by omega⟩
  · exact absurd h hn0
  · obtain⟨e1,e2⟩:=qN h
    rw[decide_eq_false (by omega),if_neg (by simp)];exact⟨e1,by omega⟩
 obtain⟨e1,e2⟩:=hm;rw[e2];exact z1y x.num q.num x.den p1 c1 s1 d1 W (fun s d W h=>mM (ai x.num) _ x.den q.num e1 (Nat.le_trans hx.2 (by decide)) W h) r1 t1
theorem zG (x:Rat)(s:Int)(hs:x.num.sign=s)(p1:Option Addr)(c1:Nat)(s1:Option Addr)(d1:Nat)(W:World)(r1:RN W (.slice p1 (ae x.num) c1) x.num.natAbs)(t1:RN W (.slice s1 (ag x.den) d1) x.den) :
 CR 69 #[.agg #[.bool (ai x.num),.slice p1 (ae x.num) c1,.slice s1 (ag x.den) d1]] W (.int .i64 s):=by
 exact zQ x.num s x.den p1 c1 s1 d1 W (fun p c W h=>uH x.num s hs p c W h) r1 t1
theorem z5i (x y q:Rat)(hq:x*y=q)(hx:LQ x)(hy:LQ y)(p1:Option Addr)(c1:Nat)(s1:Option Addr)(d1:Nat)(p2:Option Addr)(c2:Nat)(s2:Option Addr)(d2:Nat)(W:World)(r1:RN W (.slice p1 (ae x.num) c1) x.num.natAbs)(t1:RN W (.slice s1 (ag x.den) d1) x.den)(r2:RN W (.slice p2 (ae y.num) c2) y.num.natAbs)(t2:RN W (.slice s2 (ag y.den) d2) y.den) :
 Calls Tryz.prog 49 #[.agg #[.bool (ai x.num),.slice p1 (ae x.num) c1,.slice s1 (ag x.den) d1],.agg #[.bool (ai y.num),.slice p2 (ae y.num) c2,.slice s2 (ag y.den) d2]] W fun e w'=>∃ p c s d,e=.returned (.agg #[.bool (ai q.num),.slice p (ae q.num) c,.slice s (ag q.den) d])∧RN w' (.slice p (ae q.num) c) q.num.natAbs∧RN w' (.slice s (ag q.den) d) q.den∧Below W.heap.size W w':=by
 obtain⟨a1,a2⟩:=hx;obtain⟨b1,b2⟩:=hy;have l1:=kF x.num y.num;have l2:=jQ x.den y.den
 exact z1x x.num y.num (x.num*y.num) q.num x.den y.den (x.den*y.den) q.den p1 c1 s1 d1 p2 c2 s2 d2 W (fun p1 c1 p2 c2 W h1 h2=>z4z _ _ _ rfl (by omega) (by omega) p1 c1 p2 c2 W h1 h2)
  (fun s1 d1 s2 d2 W h1 h2=>o6 _ _ _ _ (by omega) (by omega) W h1 h2)
  (fun p1 c1 s2 d2 W h1 h2=>uI _ _ q (by rw[← hq,jC]) (Nat.mul_ne_zero x.den_nz y.den_nz) (by omega) (by omega) p1 c1 s2 d2 W h1 h2) r1 t1 r2 t2
theorem z4C (x y q:Rat)(hq:x+y=q)(hx:LQ x)(hy:LQ y)(p1:Option Addr)(c1:Nat)(s1:Option Addr)(d1:Nat)(p2:Option Addr)(c2:Nat)(s2:Option Addr)(d2:Nat)(W:World)(r1:RN W (.slice p1 (ae x.num) c1) x.num.natAbs)(t1:RN W (.slice s1 (ag x.den) d1) x.den)(r2:RN W (.slice p2 (ae y.num) c2) y.num.natAbs)(t2:RN W (.slice s2 (ag y.den) d2) y.den) :
 Calls Tryz.prog 66 #[.agg #[.bool (ai x.num),.slice p1 (ae x.num) c1,.slice s1 (ag x.den) d1],.agg #[.bool (ai y.num),.slice p2 (ae y.num) c2,.slice s2 (ag y.den) d2]] W fun e w'=>∃ p c s d,e=.returned (.agg #[.bool (ai q.num),.slice p (ae q.num) c,.slice s (ag q.den) d])∧RN w' (.slice p (ae q.num) c) q.num.natAbs∧RN w' (.slice s (ag q.den) d) q.den∧Below W.heap.size W w':=by
 obtain⟨a1,a2⟩:=hx;obtain⟨b1,b2⟩:=hy;by_cases he:x.den=y.den
 · have l1:=wh a1 b1
   exact zS x.num y.num (x.num+y.num) q.num x.den y.den q.den p1 c1 s1 d1 p2 c2 s2 d2 W (fun s1 d1 s2 d2 W h1 h2=>by
        have h:=cCmp _ _ x.den y.den (by omega) W h1 h2
        rwa [show cmpN x.den y.den=0 by rw[he];unfold cmpN;simp]at h)
    (fun p1 c1 p2 c2 W h1 h2=>z4D _ _ _ rfl (by omega) (by omega) p1 c1 p2 c2 W h1 h2)
    (fun p1 c1 s2 d2 W h1 h2=>uI _ _ q (by rw[← hq,z2y x y he]) x.den_nz (by omega) (by omega) p1 c1 s2 d2 W h1 h2) r1 t1 r2 t2
 · have l1:=kF x.num (y.den:Int)
   have l2:=kF y.num (x.den:Int);have l3:=jQ x.den y.den;have l4:=jQ x.num.natAbs y.den;have l5:=jQ y.num.natAbs x.den;rw[vZ]at l1 l2;have l6:=wh (a:=x.num*(y.den:Int)) (b:=y.num*(x.den:Int)) (K:=20000) (by omega) (by omega);have z1:ae x.num=ag x.num.natAbs:=rfl;have z2:ae y.num=ag y.num.natAbs:=rfl
   exact xW x.num y.num (x.num*(y.den:Int)) (y.num*(x.den:Int)) (x.num*(y.den:Int)+y.num*(x.den:Int)) q.num (cmpN x.den y.den) x.den y.den (x.den*y.den) q.den (x.num.natAbs*y.den) (y.num.natAbs*x.den) (fun e=>he (by unfold cmpN at e;split at e<;>first|(split at e<;>first|omega|simp at e)|simp at e))
    p1 c1 s1 d1 p2 c2 s2 d2 W (fun s1 d1 s2 d2 W h1 h2=>cCmp _ _ x.den y.den (by omega) W h1 h2)
    (fun p1 c1 s2 d2 W h1 h2=>o6 _ _ _ _ (by omega) (by omega) W h1 h2) (fun s2 d2 W h=>mM _ _ _ _ (z0Z x.num y.den) (by omega) W h)
    (fun p1 c1 s2 d2 W h1 h2=>o6 _ _ _ _ (by omega) (by omega) W h1 h2) (fun s2 d2 W h=>mM _ _ _ _ (z0Z y.num x.den) (by omega) W h)
    (fun p1 c1 p2 c2 W h1 h2=>z4D _ _ _ rfl (by omega) (by omega) p1 c1 p2 c2 W h1 h2)
    (fun s1 d1 s2 d2 W h1 h2=>o6 _ _ _ _ (by omega) (by omega) W h1 h2)
    (fun p1 c1 s2 d2 W h1 h2=>uI _ _ q (by rw[← hq,jN]) (Nat.mul_ne_zero x.den_nz y.den_nz) (by omega) (by omega) p1 c1 s2 d2 W h1 h2) r1 t1 r2 t2
theorem z5g (x y q:Rat)(hq:x-y=q)(hx:LQ x)(hy:LQ y)(p1:Option Addr)(c1:Nat)(s1:Option Addr)(d1:Nat)(p2:Option Addr)(c2:Nat)(s2:Option Addr)(d2:Nat)(W:World)(r1:RN W (.slice p1 (ae x.num) c1) x.num.natAbs)(t1:RN W (.slice s1 (ag x.den) d1) x.den)(r2:RN W (.slice p2 (ae y.num) c2) y.num.natAbs)(t2:RN W (.slice s2 (ag y.den) d2) y.den) :
 Calls Tryz.prog 67 #[.agg #[.bool (ai x.num),.slice p1 (ae x.num) c1,.slice s1 (ag x.den) d1],.agg #[.bool (ai y.num),.slice p2 (ae y.num) c2,.slice s2 (ag y.den) d2]] W fun e w'=>∃ p c s d,e=.returned (.agg #[.bool (ai q.num),.slice p (ae q.num) c,.slice s (ag q.den) d])∧RN w' (.slice p (ae q.num) c) q.num.natAbs∧RN w' (.slice s (ag q.den) d) q.den∧Below W.heap.size W w':=by
 have hny:LQ (-y):=⟨by have:=hy.1;unfold ae at *;rwa [show(-y).num = -y.num from rfl,Int.natAbs_neg],hy.2⟩
 exact z1v x.num y.num (-y).num q.num x.den y.den (-y).den q.den p1 c1 s1 d1 p2 c2 s2 d2 W (fun p1 c1 s1 d1 W h1 h2=>z5h y _ rfl hy p1 c1 s1 d1 W h1 h2)
  (fun p1 c1 s1 d1 p2 c2 s2 d2 W h1 h2 h3 h4=>z4C x (-y) q (by rw[← hq,Rat.sub_eq_add_neg]) hx hny p1 c1 s1 d1 p2 c2 s2 d2 W h1 h2 h3 h4) r1 t1 r2 t2
theorem tY (x y:Rat):(x.num.sign<y.num.sign→cmpQ x y = -1)∧(y.num.sign<x.num.sign→cmpQ x y=1):=by
 have hx:=x.den_pos;have hy:=y.den_pos;rw[iX x y _ _ rfl rfl];have key:∀ (a:Int) (n:Nat),0<n→(a*(n:Int)).sign=a.sign:=fun a n hn=>by rw[Int.sign_mul,Int.sign_natCast_of_ne_zero (by omega),Int.mul_one]
 have k1:=key x.num y.den hy;have k2:=key y.num x.den hx;generalize x.num*(y.den:Int)=a at *;generalize y.num*(x.den:Int)=b at *;rw[← k1,← k2];have ha:=Int.sign_trichotomy a
 have lt:a.sign<b.sign→a<b:=by
  intro h
  rcases Int.lt_trichotomy a 0 with h1|h1|h1<;>rcases Int.lt_trichotomy b 0 with h2|h2|h2 <;>
   first|omega|(rw[Int.sign_eq_neg_one_of_neg h1,Int.sign_eq_neg_one_of_neg h2]at h;omega)|(rw[Int.sign_eq_one_of_pos h1,Int.sign_eq_one_of_pos h2]at h;omega)|(rw[Int.sign_eq_one_of_pos h1,Int.sign_eq_neg_one_of_neg h2]at h;omega)|(subst h1;rw[Int.sign_zero,Int.sign_eq_neg_one_of_neg h2]at h;omega)|(subst h2;rw[Int.sign_zero,Int.sign_eq_one_of_pos h1]at h;omega)|(subst h1;subst h2;omega)
 have gt:b.sign<a.sign→b<a:=by
  intro h
  rcases Int.lt_trichotomy a 0 with h1|h1|h1<;>rcases Int.lt_trichotomy b 0 with h2|h2|h2 <;>
   first|omega|(rw[Int.sign_eq_neg_one_of_neg h1,Int.sign_eq_neg_one_of_neg h2]at h;omega)|(rw[Int.sign_eq_one_of_pos h1,Int.sign_eq_one_of_pos h2]at h;omega)|(rw[Int.sign_eq_neg_one_of_neg h1,Int.sign_eq_one_of_pos h2]at h;omega)|(subst h1;rw[Int.sign_zero,Int.sign_eq_one_of_pos h2]at h;omega)|(subst h2;rw[Int.sign_zero,Int.sign_eq_neg_one_of_neg h1]at h;omega)|(subst h1;subst h2;omega)
 constructor
 · intro h;rw[if_pos (lt h)]
 · intro h
   have:=gt h;rw[if_neg (by omega),if_pos this]
theorem z3v (x y:Rat)(k:Int)(hk:cmpQ x y=k)(hx:LQ x)(hy:LQ y)(p1:Option Addr)(c1:Nat)(s1:Option Addr)(d1:Nat)(p2:Option Addr)(c2:Nat)(s2:Option Addr)(d2:Nat)(W:World)(r1:RN W (.slice p1 (ae x.num) c1) x.num.natAbs)(t1:RN W (.slice s1 (ag x.den) d1) x.den)(r2:RN W (.slice p2 (ae y.num) c2) y.num.natAbs)(t2:RN W (.slice s2 (ag y.den) d2) y.den) :
 CR 54 #[.agg #[.bool (ai x.num),.slice p1 (ae x.num) c1,.slice s1 (ag x.den) d1],.agg #[.bool (ai y.num),.slice p2 (ae y.num) c2,.slice s2 (ag y.den) d2]] W (.int .i64 k):=by
 obtain⟨a1,a2⟩:=hx;obtain⟨b1,b2⟩:=hy;have hS1:=fun p1 c1 s1 d1 W h1 h2=>zG x _ rfl p1 c1 s1 d1 W h1 h2;have hS2:=fun p1 c1 s1 d1 W h1 h2=>zG y _ rfl p1 c1 s1 d1 W h1 h2;obtain⟨hlt,hgt⟩:=tY x y;rcases Int.lt_trichotomy x.num.sign y.num.sign with h|h|h
 · rw[← hk,hlt h]
   exact z3z x.num y.num _ _ x.den y.den h p1 c1 s1 d1 p2 c2 s2 d2 W hS1 hS2 r1 t1 r2 t2
 · rw[← h]at hS2
   have l1:=kF x.num (y.den:Int);have l2:=kF y.num (x.den:Int);rw[vZ]at l1 l2;have l4:=jQ x.num.natAbs y.den;have l5:=jQ y.num.natAbs x.den;have z1:ae x.num=ag x.num.natAbs:=rfl;have z2:ae y.num=ag y.num.natAbs:=rfl
   refine zR x.num y.num _ (x.num*(y.den:Int)) (y.num*(x.den:Int)) k x.den y.den (x.num.natAbs*y.den) (y.num.natAbs*x.den) p1 c1 s1 d1 p2 c2 s2 d2 W hS1 hS2
    (fun p1 c1 s2 d2 W h1 h2=>o6 _ _ _ _ (by omega) (by omega) W h1 h2) (fun s2 d2 W h=>mM _ _ _ _ (z0Z x.num y.den) (by omega) W h)
    (fun p1 c1 s2 d2 W h1 h2=>o6 _ _ _ _ (by omega) (by omega) W h1 h2) (fun s2 d2 W h=>mM _ _ _ _ (z0Z y.num x.den) (by omega) W h) (fun p1 c1 p2 c2 W h1 h2=>?_) r1 t1 r2 t2
   have hc:=zCmp _ _ (x.num*(y.den:Int)) (y.num*(x.den:Int)) (show ae _≤50000 by omega) (show ae _≤50000 by omega) W (Rz.mk h1) (Rz.mk h2);rw[show cmpZ (x.num*(y.den:Int)) (y.num*(x.den:Int))=k by rw[← hk,iX x y _ _ rfl rfl];rfl]at hc;exact hc
 · rw[← hk,hgt h]
   exact z3A x.num y.num _ _ x.den y.den h p1 c1 s1 d1 p2 c2 s2 d2 W hS1 hS2 r1 t1 r2 t2
theorem sQTo (q:Rat)(s:ByteArray)(hs:Sq q=s)(hq:SmQ 9000 q)(p1:Option Addr)(c1:Nat)(s1:Option Addr)(d1:Nat)(W:World)(r1:RN W (.slice p1 (ae q.num) c1) q.num.natAbs)(t1:RN W (.slice s1 (ag q.den) d1) q.den) :
 CR 65 #[.agg #[.bool (ai q.num),.slice p1 (ae q.num) c1,.slice s1 (ag q.den) d1]] W (.string s):=by
 have l1:ae q.num≤9000:=gT hq.1 (by decide);have l2:ag q.den≤9000:=gT hq.2 (by decide);have z1:(Sn q.num.natAbs).size≤9000:=iH hq.1 (by decide);have z2:(Sn q.den).size≤9000:=iH hq.2 (by decide);have z3:(Sz q.num).size≤9001:=ku hq.1 (by decide);have h1:=fun p c W h=>sTo q.num _ rfl (Nat.le_trans l1 (by decide)) (by omega) p c W h;have h2:=fun(s:Option Addr) (d:Nat) W h=>z0P (.slice s (ag q.den) d) q.den (Nat.le_trans l2 (by decide)) W h;subst hs;by_cases hd:q.den=1
 · unfold Sq
   rw[if_pos hd]
   exact z3y q.num q.den (Sz q.num) p1 c1 s1 d1 W h1 (fun s d W h=>by
    have:=h2 s d W h
    rwa [hd,show Sn 1=⟨#[49]⟩by decide +kernel,← hd]at this) r1 t1
 · unfold Sq
   rw[if_neg hd];refine z1u q.num q.den (Sz q.num) (Sn q.den) _ ?_ ?_ (by omega) (by omega) p1 c1 s1 d1 W h1 h2 r1 t1
   · rw[beq_eq_false_iff_ne]
     intro e;apply hd
     have e2:Sn q.den=Sn 1:=by
       apply ByteArray.ext;apply Array.ext'
       rw[toList_data]at e;rw[e];decide +kernel
     exact z2O e2
   · apply ByteArray.ext;apply Array.ext'
     simp[Sn]
