/- texts -/
import Derived.Test.YtiiedknabcebdaaGreatDoorMz38q
import Derived.Test.YtiiedknabcebdaaGreatDoorSl
set_option maxRecDepth 100000
set_option maxHeartbeats 20000000
open Go.Lib (hid)
namespace Go.Proofs.YtiiedknabcebdaaGreatDoor
open Go.RowKit Go.Gb
set_option linter.unusedSimpArgs false
theorem sM (x y z:ByteArray)(xa xb xc:Rat)(b1 b2 b3:Bool)  (w:World)  (h1:KSb 44 (.string x) xa b1)(h2:KSb 44 (.string y) xb b2)(h3:KSb 44 (.string z) xc b3)  :
 Calls Tryz.prog 22 #[.agg #[.string x,.string y,.string z]] w (RVb w xa xb xc (b1&&b2&&b3)):=by
 cases b1<;>cases b2<;>(
  obtain ⟨C1,C2,C3⟩:=ax h1 h2 h3;clear h1 h2 h3;go_enter Tryz.func22,Tryz.ntmps22
  go_upto_region 1 with fail
  refine ay w [(#[.string x,.string y,.string z],25),(#[.bool false,.slice none 0 0,.slice none 0 0,.bool false,.slice none 0 0,.slice none 0 0,.bool false,.slice none 0 0,.slice none 0 0],59)] rfl ?_;rintro W0 ⟨k1,k2,hb⟩;have rM:=hid (show Below w.heap.size w W0 from hb);have K1:=hid k1;have K2:=hid k2;clear k1 k2 hb;have lg:=K1.o.cell (i:=0) rfl;go_wp2_with fail
  with_reducible refine(C1.o _).mono ?_
  rintro e W1 ⟨wy,rfl,lv,hb⟩;clear lg;obtain ⟨K1,K2⟩:=aR hb K1 K2;have rV:=hbt rM hb;have RA:=hid lv;clear hb lv;go_upto_region 2 with fail
  refine ay W1 [(wy.l.toArray,57)] rfl ?_;have L1:=K1.o.lt;have L2:=K2.o.lt;have L3:=rV.o.size;rintro W2 ⟨k3,hb⟩;have hb:Below W1.heap.size W1 W2:=hb;obtain ⟨K1,K2,RA⟩:=bA hb K1 K2 RA;have bg:=hbt rV hb;have K3:=hid k3;clear k3 hb;have ky:=K1.o.cell (i:=1) rfl;go_wp2_with fail
  with_reducible refine(C2.o _).mono ?_
  rintro e W3 ⟨wz,rfl,kz,hb⟩;clear ky;obtain ⟨K1,K2,K3,RA⟩:=bD hb K1 K2 K3 RA;have kK:=hbt bg hb;have RB:=hid kz;clear hb kz;go_upto_region 3 with fail
  refine ay W3 [(wz.l.toArray,57)] rfl ?_;have L4:=K1.o.lt;have L5:=K2.o.lt;have L6:=K3.o.lt;have L7:=kK.o.size;rintro W4 ⟨k4,hb⟩;have hb:Below W3.heap.size W3 W4:=hb;obtain ⟨K1,K2,K3,RA,RB⟩:=cK hb K1 K2 K3 RA RB;have bn:=hbt kK hb;have K4:=hid k4;clear k4 hb;have kM:=K1.o.cell (i:=2) rfl;go_wp2_with fail
  with_reducible refine(C3.o _).mono ?_
  rintro e W5 ⟨sw,rfl,kV,hb⟩;clear kM;obtain ⟨K1,K2,K3,K4,RA,RB⟩:=ek hb K1 K2 K3 K4 RA RB;have gy:=hbt bn hb;have RC:=hid kV;clear hb kV;go_upto_region 4 with fail
  refine ay W5 [(sw.l.toArray,57)] rfl ?_;have L8:=K1.o.lt;have L9:=K2.o.lt;have L10:=K3.o.lt;have L11:=K4.o.lt;have L12:=gy.o.size;rintro W6 ⟨k5,hb⟩;have hb:Below W5.heap.size W5 W6:=hb;obtain ⟨K2,K3,K4,RA,RB,RC⟩:=ek hb K2 K3 K4 RA RB RC;have bq:=hbt gy hb;have K5:=hid k5;clear k5 hb;obtain ⟨p8,pq,ol⟩:=aj K3.o rfl rfl rfl;obtain ⟨u01,u02,u03⟩:=aj K4.o rfl rfl rfl;obtain ⟨u04,u05,u06⟩:=aj K5.o rfl rfl rfl;obtain ⟨fq,fw,fQ,ed,dx,dz,dR,dX,dY⟩:=qM K2.o rfl rfl rfl rfl rfl rfl rfl rfl rfl;obtain ⟨u07,u08,u09,u0a,u0b,u0c,u0d,u0e,u0f⟩:=z04 K2.o;go_wp2
  exact bodyPost_ret (v:=.tuple #[(Qvv wy wz sw),.bool _]) (by simp[Lvv,QS.l,Qvv,QS.v,results,Tryz.results22,go_sem,fq,fw,fQ,ed,dx,dz,dR,dX,dY]) rfl ⟨_,_,_,rfl,(dB (Lvv wy wz sw) 0 RA.o K2.o (by simp[cu,Lvv,QS.l]) (by simp[bG,Lvv,QS.l])),(dB (Lvv wy wz sw) 0 RB.o K2.o (by simp[cu,Lvv,QS.l]) (by simp[bG,Lvv,QS.l])),(dB (Lvv wy wz sw) 0 RC.o K2.o (by simp[cu,Lvv,QS.l]) (by simp[bG,Lvv,QS.l])),(au (l:=(Lvv wy wz sw)) (i:=0) (by omega) bq.o)⟩)
theorem yf (xa xb xc ya yb yc za zb zc zs zd:Rat)(q1a q1b q1c:QS)(q2a q2b q2c:QS)(w:World)  (h1:KQ2 48 xa ya za)(h2:KQ2 48 xb yb zb)(h3:KQ2 48 xc yc zc)(h4:KQ2 47 zb zc zs)(h5:KQ2 47 za zs zd)(r1a:FQ w q1a xa)(r1b:FQ w q1b xb)(r1c:FQ w q1c xc)(r2a:FQ w q2a ya)(r2b:FQ w q2b yb)(r2c:FQ w q2c yc) :
 Calls Tryz.prog 24 #[(Qvv q1a q1b q1c),(Qvv q2a q2b q2c)] w (RQ w zd):=by
 dsimp only[Qvv];obtain ⟨C1,C2,C3,C4,C5,R1a,R1b,R1c,R2a⟩:=bW h1 h2 h3 h4 h5 r1a r1b r1c r2a;have R2b:=hid r2b;have R2c:=hid r2c;clear h1 h2 h3 h4 h5 r1a r1b r1c r2a r2b r2c;go_enter Tryz.func24,Tryz.ntmps24
 go_upto_region 1 with fail
 refine ay w [((Lvv q1a q1b q1c).toArray,59),((Lvv q2a q2b q2c).toArray,59),(#[.bool false,.slice none 0 0,.slice none 0 0],57)] rfl ?_;rintro W0 ⟨k1,k2,k3,hb⟩;have rM:=hid (show Below w.heap.size w W0 from hb);obtain ⟨R1a,R1b,R1c,R2a,R2b,R2c⟩:=ek rM.o R1a R1b R1c R2a R2b R2c;obtain ⟨K1,K2,K3⟩:=ax k1 k2 k3;clear k1 k2 k3 hb;go_wp2_with fail
 refine aB (fun a0 a' V=>∃ (w9:QS) (wo:QS) (wu:QS) (ww:QS) (u6:QS),a'=⟨aZ [(5,.pointer (some ⟨w.heap.size,0,none⟩)),(6,q1a.v),(7,.pointer (some ⟨w.heap.size+1,0,none⟩)),(8,q2a.v),(9,w9.v),(10,.pointer (some ⟨w.heap.size,3,none⟩)),(11,q1b.v),(12,.pointer (some ⟨w.heap.size+1,3,none⟩)),(13,q2b.v),(14,wo.v),(15,.pointer (some ⟨w.heap.size,6,none⟩)),(16,q1c.v),(17,.pointer (some ⟨w.heap.size+1,6,none⟩)),(18,q2c.v),(19,wu.v),(20,ww.v),(21,u6.v)] a0.tmps,a0.defers⟩∧Below w.heap.size w V∧SBk V (w.heap.size+1+1) u6.l.toArray 57∧FQ V u6 zd) ?_ ?_
 · refine aI 17 1 [5,6,7,8,9,10,11,12,13,14,15,16,17,18,19,20,21] [Rel.val (.pointer (some ⟨w.heap.size,0,none⟩)),Rel.val (q1a.v),Rel.val (.pointer (some ⟨w.heap.size+1,0,none⟩)),Rel.val (q2a.v),Rel.q za,Rel.val (.pointer (some ⟨w.heap.size,3,none⟩)),Rel.val (q1b.v),Rel.val (.pointer (some ⟨w.heap.size+1,3,none⟩)),Rel.val (q2b.v),Rel.q zb,Rel.val (.pointer (some ⟨w.heap.size,6,none⟩)),Rel.val (q1c.v),Rel.val (.pointer (some ⟨w.heap.size+1,6,none⟩)),Rel.val (q2c.v),Rel.q zc,Rel.q zs,Rel.q zd] ?_ ?_
   · intro bu a W i HI hD Hr him
     obtain⟨y2,y3⟩:=HI.o.s2 2 3;obtain⟨lg,ky,kM,u0g,u0h,u0i,u0j,u0k,u0l⟩:=z2K (K1.o.below HI.o.world);obtain⟨fq,fw,fQ,ed,dx,dz,dR,dX,dY⟩:=z2K (K2.o.below HI.o.world);obtain⟨X0,X2,X1,X3,X5,X7⟩:=HI.o.g6 0 5 2 7 1 6 3 8 5 10 7 12;obtain⟨X6,X8,X10,X12,X11,X13⟩:=HI.o.g6 6 11 8 13 10 15 12 17 11 16 13 18
     match i,him,Hr with
     | 0,_,Hi|1,_,Hi|2,_,Hi|3,_,Hi|5,_,Hi|6,_,Hi|7,_,Hi|8,_,Hi|10,_,Hi|11,_,Hi|12,_,Hi|13,_,Hi =>
       try have x0:=X0.t Hi.o
       try have x2:=X2.t Hi.o
       try have x5:=X5.t Hi.o
       try have x7:=X7.t Hi.o
       try have x10:=X10.t Hi.o
       try have x12:=X12.t Hi.o
       refine av rfl fun K' hK=>?_;go_simp;exact hK.o _ _ (HI.o.pw Hi.o)
     | 4,_,Hi =>
       have x1:=X1.q Hi.o;have x3:=X3.q Hi.o;refine av rfl fun K' hK=>?_;go_simp;with_reducible refine(C1.o _ _ _ (R1a.o.below HI.o.world) (R2a.o.below HI.o.world)).mono ?_
       rintro e W' ⟨w9,rfl,bv,hb⟩;exact hK.o _ _ ⟨HI.o.pc Hi.o hb ⟨w9,rfl,bv⟩,trivial⟩
     | 9,_,Hi =>
       have x6:=X6.q Hi.o;have x8:=X8.q Hi.o;refine av rfl fun K' hK=>?_;go_simp;with_reducible refine(C2.o _ _ _ (R1b.o.below HI.o.world) (R2b.o.below HI.o.world)).mono ?_
       rintro e W' ⟨wo,rfl,bM,hb⟩;exact hK.o _ _ ⟨HI.o.pc Hi.o hb ⟨wo,rfl,bM⟩,trivial⟩
     | 14,_,Hi =>
       have x11:=X11.q Hi.o;have x13:=X13.q Hi.o;refine av rfl fun K' hK=>?_;go_simp;with_reducible refine(C3.o _ _ _ (R1c.o.below HI.o.world) (R2c.o.below HI.o.world)).mono ?_
       rintro e W' ⟨wu,rfl,bV,hb⟩;exact hK.o _ _ ⟨HI.o.pc Hi.o hb ⟨wu,rfl,bV⟩,trivial⟩
     | 15,_,Hi =>
       obtain⟨wo,x9,oM⟩:=qAt HI.o 9 14 Hi.o (by kernel_rfl);obtain⟨wu,x14,oV⟩:=qAt HI.o 14 19 Hi.o (by kernel_rfl);refine av rfl fun K' hK=>?_;go_simp;with_reducible refine(C4.o _ _ _ oM.o oV.o).mono ?_
       rintro e W' ⟨ww,rfl,aa,hb⟩;exact hK.o _ _ ⟨HI.o.pc Hi.o hb ⟨ww,rfl,aa⟩,trivial⟩
     | 16,_,Hi =>
       obtain⟨w9,x4,mf⟩:=qAt HI.o 4 9 Hi.o (by kernel_rfl);obtain⟨ww,x15,mi⟩:=qAt HI.o 15 20 Hi.o (by kernel_rfl);refine av rfl fun K' hK=>?_;go_simp;with_reducible refine(C5.o _ _ _ mf.o mi.o).mono ?_
       rintro e W' ⟨u6,rfl,af,hb⟩;exact hK.o _ _ ⟨HI.o.pc Hi.o hb ⟨u6,rfl,af⟩,trivial⟩
     | n+17,h,_=>exact absurd h (by omega)
   · intro bu a W HI hD HA
     obtain⟨w9,x4,mf⟩:=qEnd HI.o HA.o 4 9;obtain⟨wo,x9,oM⟩:=qEnd HI.o HA.o 9 14;obtain⟨wu,x14,oV⟩:=qEnd HI.o HA.o 14 19;obtain⟨ww,x15,mi⟩:=qEnd HI.o HA.o 15 20;obtain⟨u6,x16,aX⟩:=qEnd HI.o HA.o 16 21;have cO:=hid HI.o.world;obtain ⟨HBX,K3⟩:=aF (rM.o.trans (cO.o.mono rM.o.size)) (K3.o.below cO.o);have RA:=mf;have RB:=oM;have RC:=oV;have RS:=mi;have RD:=aX;obtain⟨p8,pq,ol⟩:=cells3 K3.o;obtain⟨u0m,u0n,u0o⟩:=frz3 K3.o;have y4:=HI.o.rst 4 rfl;dsimp only[QS.v]at x16;refine aP (t:=0) ?_;refine av rfl fun K' hK=>?_;go_simp;refine hK.o _ _ ?_;clear hK;refine aT ?_;rw[← fD];have s0:∀ {q':QS} {x':Rat},FQ W q' x'→FQ (storeAll W (w.heap.size+1+1) 0 u6.l) q' x':=fun h'=>dB _ 0 h' K3.o (by simp[cu,Lvv,QS.l]) (by simp[bG,Lvv,QS.l]);exact⟨rfl,w9,wo,wu,ww,u6,(HI.o.finx ⟨HI.o.sx HA.o 0,HI.o.sx HA.o 1,HI.o.sx HA.o 2,HI.o.sx HA.o 3,x4,HI.o.sx HA.o 5,HI.o.sx HA.o 6,HI.o.sx HA.o 7,HI.o.sx HA.o 8,x9,HI.o.sx HA.o 10,HI.o.sx HA.o 11,HI.o.sx HA.o 12,HI.o.sx HA.o 13,x14,x15,x16,trivial⟩ rfl),(au (l:=u6.l) (i:=0) (by omega) HBX.o),(bX K3.o),(s0 RD.o)⟩
 rintro a' W1 ⟨w9,wo,wu,ww,u6,rfl,z0,z1,z2⟩;obtain ⟨rV,K3,RD⟩:=ax z0 z1 z2;clear z0 z1 z2;simp only[aZ,List.setIfInBounds_toArray,List.set_cons_zero,List.set_cons_succ];go_wp2;obtain ⟨p8,pq,ol⟩:=aj K3.o rfl rfl rfl;exact bodyPost_ret (v:=u6.v) (by simp[Lvv,QS.l,Qvv,QS.v,results,Tryz.results24,go_sem,p8,pq,ol]) rfl ⟨_,rfl,RD.o,rV.o⟩
def LQ (q:Rat):Prop:=ag q.num≤10000∧ah q.den≤10000
theorem z_abs (z:Int):z=if ak z then -(z.natAbs:Int) else (z.natAbs:Int):=by
 unfold ak
 by_cases h:z<0
 · rw[decide_eq_true h,if_pos rfl];omega
 · rw[decide_eq_false h,if_neg (by simp)];omega
theorem z4u (z:Int)(g:Nat)(hg:g∣z.natAbs):z / (g:Int)=if ak z then -((z.natAbs / g:Nat):Int) else ((z.natAbs / g:Nat):Int):=by
 have hd:(g:Int)∣(z.natAbs:Int):=Int.natCast_dvd_natCast.2 hg;unfold ak
 by_cases h:z<0
 · rw[decide_eq_true h,if_pos rfl]
   have e:z = -(z.natAbs:Int):=by omega
   conv=>lhs;rw[e]
   rw[Int.neg_ediv_of_dvd hd,Int.natCast_ediv]
 · rw[decide_eq_false h,if_neg (by simp),Int.natCast_ediv]
   congr 1
   omega
theorem z0F (z:Int)(n:Nat):z*(n:Int)=if ak z then -((z.natAbs*n:Nat):Int) else ((z.natAbs*n:Nat):Int):=by
 rw[Int.natCast_mul];unfold ak
 by_cases h:z<0
 · rw[decide_eq_true h,if_pos rfl,← Int.neg_mul];congr 1;omega
 · rw[decide_eq_false h,if_neg (by simp)];congr 1;omega
theorem z2f (x y:Rat)(h:x.den=y.den):x+y=mkRat (x.num+y.num) x.den:=by
 rw[jC,← h,← Int.add_mul,Rat.mkRat_mul_right x.den_nz]
theorem jY (a b:Int):ag (a*b)≤ag a+ag b:=by
 unfold ag ah;rw[Int.natAbs_mul];exact iy _ _
theorem jF (a b:Nat):ah (a*b)≤ah a+ah b:=iy a b
theorem vI {a b:Int}{K:Nat}(ha:ag a≤K)(hb:ag b≤K):ag (a+b)≤K+1 :=
 Nat.le_trans (jl (Int.natAbs_add_le a b)) (iA (a:=a.natAbs) (b:=b.natAbs) ha hb)
theorem vH (n:Nat):ag (n:Int)=ah n:=by unfold ag;rw[Int.natAbs_natCast]
theorem um (z:Int)(dn:Nat)(q:Rat)(hq:mkRat z dn=q)(hd:dn≠0)(hz:ag z≤50000)(hl:ah dn≤50000)(p1:Option Addr)(c1:Nat)(s2:Option Addr)(d2:Nat)(W:World)(r1:RN W (.slice p1 (ag z) c1) z.natAbs)(t2:RN W (.slice s2 (ah dn) d2) dn) :
 Calls Tryz.prog 71 #[.agg #[.bool (ak z),.slice p1 (ag z) c1],.slice s2 (ah dn) d2] W fun e w'=>∃ p c s d,e=.returned (.agg #[.bool (ak q.num),.slice p (ag q.num) c,.slice s (ah q.den) d])∧RN w' (.slice p (ag q.num) c) q.num.natAbs∧RN w' (.slice s (ah q.den) d) q.den∧Below W.heap.size W w':=by
 obtain⟨hn,he⟩:=mE z dn hd;rw[hq]at hn he;obtain⟨g,hg⟩:∃ g,g=Nat.gcd z.natAbs dn:=⟨_,rfl⟩;rw[← hg]at hn he;by_cases g1:g=1
 · rw[g1]at hn he
   have e1:q.num=z:=by rw[hn];simp
   have e2:q.den=dn:=by rw[he];simp
   rw[e1,e2];exact xO z dn hz hl p1 c1 s2 d2 (by rw[← hg,g1]) W r1 t2
 · have g0:g≠0:=by rw[hg];exact Nat.ne_of_gt (Nat.gcd_pos_of_pos_right _ (by omega))
   have hy:=z4u z g (by rw[hg];exact Nat.gcd_dvd_left _ _);rw[hn,he];by_cases gl:ah g=1
   · exact uy z dn hz hl p1 c1 s2 d2 g _ _ _ _ _ hg.symm g0 g1 gl rfl rfl rfl rfl hy W r1 t2
   · exact uz z dn hz hl p1 c1 s2 d2 g _ _ _ _ _ hg.symm g0 gl rfl rfl rfl rfl hy W r1 t2
theorem z3R (k:Int)(q:Rat)(n:Nat)(hk:(n:Int)=k)(h1:n≤1000000)(hn:q.num=k)(he:q.den=1)  (W:World)  :
 Calls Tryz.prog 23 #[.int .i64 k] W fun e w'=>∃ p c s d,e=.returned (.agg #[.bool (ak q.num),.slice p (ag q.num) c,.slice s (ah q.den) d])∧RN w' (.slice p (ag q.num) c) q.num.natAbs∧RN w' (.slice s (ah q.den) d) q.den∧Below W.heap.size W w':=by
 refine z1k k q.num q.den W (fun W=>?_) (fun W=>?_)
 · rw[hn];exact z3Q k n hk (by omega) (by omega) W
 · rw[he];exact qN 1 1 rfl (by decide) W
theorem z2A (x:Rat)(s:Int)(hs:x.num.sign=s)(p1:Option Addr)(c1:Nat)(s1:Option Addr)(d1:Nat)(W:World)(r1:RN W (.slice p1 (ag x.num) c1) x.num.natAbs)(t1:RN W (.slice s1 (ah x.den) d1) x.den) :
 CR 75 #[.agg #[.bool (ak x.num),.slice p1 (ag x.num) c1,.slice s1 (ah x.den) d1]] W (.int .i64 s):=by
 exact zA x.num s x.den p1 c1 s1 d1 W (fun p c W h=>ul x.num s hs p c W h) r1 t1
theorem z4B (x y q:Rat)(hq:x*y=q)(hx:LQ x)(hy:LQ y)(p1:Option Addr)(c1:Nat)(s1:Option Addr)(d1:Nat)(p2:Option Addr)(c2:Nat)(s2:Option Addr)(d2:Nat)(W:World)(r1:RN W (.slice p1 (ag x.num) c1) x.num.natAbs)(t1:RN W (.slice s1 (ah x.den) d1) x.den)(r2:RN W (.slice p2 (ag y.num) c2) y.num.natAbs)(t2:RN W (.slice s2 (ah y.den) d2) y.den) :
 Calls Tryz.prog 48 #[.agg #[.bool (ak x.num),.slice p1 (ag x.num) c1,.slice s1 (ah x.den) d1],.agg #[.bool (ak y.num),.slice p2 (ag y.num) c2,.slice s2 (ah y.den) d2]] W fun e w'=>∃ p c s d,e=.returned (.agg #[.bool (ak q.num),.slice p (ag q.num) c,.slice s (ah q.den) d])∧RN w' (.slice p (ag q.num) c) q.num.natAbs∧RN w' (.slice s (ah q.den) d) q.den∧Below W.heap.size W w':=by
 obtain⟨a1,a2⟩:=hx;obtain⟨b1,b2⟩:=hy;have l1:=jY x.num y.num;have l2:=jF x.den y.den
 exact z1j x.num y.num (x.num*y.num) q.num x.den y.den (x.den*y.den) q.den p1 c1 s1 d1 p2 c2 s2 d2 W (fun p1 c1 p2 c2 W h1 h2=>z3P _ _ _ rfl (by omega) (by omega) p1 c1 p2 c2 W h1 h2)
  (fun s1 d1 s2 d2 W h1 h2=>nQ _ _ _ _ (by omega) (by omega) W h1 h2)
  (fun p1 c1 s2 d2 W h1 h2=>um _ _ q (by rw[← hq,jo]) (Nat.mul_ne_zero x.den_nz y.den_nz) (by omega) (by omega) p1 c1 s2 d2 W h1 h2) r1 t1 r2 t2
theorem z4C (x y q:Rat)(hq:x+y=q)(hx:LQ x)(hy:LQ y)(p1:Option Addr)(c1:Nat)(s1:Option Addr)(d1:Nat)(p2:Option Addr)(c2:Nat)(s2:Option Addr)(d2:Nat)(W:World)(r1:RN W (.slice p1 (ag x.num) c1) x.num.natAbs)(t1:RN W (.slice s1 (ah x.den) d1) x.den)(r2:RN W (.slice p2 (ag y.num) c2) y.num.natAbs)(t2:RN W (.slice s2 (ah y.den) d2) y.den) :
 Calls Tryz.prog 47 #[.agg #[.bool (ak x.num),.slice p1 (ag x.num) c1,.slice s1 (ah x.den) d1],.agg #[.bool (ak y.num),.slice p2 (ag y.num) c2,.slice s2 (ah y.den) d2]] W fun e w'=>∃ p c s d,e=.returned (.agg #[.bool (ak q.num),.slice p (ag q.num) c,.slice s (ah q.den) d])∧RN w' (.slice p (ag q.num) c) q.num.natAbs∧RN w' (.slice s (ah q.den) d) q.den∧Below W.heap.size W w':=by
 obtain⟨a1,a2⟩:=hx;obtain⟨b1,b2⟩:=hy;by_cases he:x.den=y.den
 · have l1:=vI a1 b1
   exact zC x.num y.num (x.num+y.num) q.num x.den y.den q.den p1 c1 s1 d1 p2 c2 s2 d2 W (fun s1 d1 s2 d2 W h1 h2=>by
        have h:=cCmp _ _ x.den y.den (by omega) W h1 h2
        rwa [show cmpN x.den y.den=0 by rw[he];unfold cmpN;simp]at h)
    (fun p1 c1 p2 c2 W h1 h2=>z3T _ _ _ rfl (by omega) (by omega) p1 c1 p2 c2 W h1 h2)
    (fun p1 c1 s2 d2 W h1 h2=>um _ _ q (by rw[← hq,z2f x y he]) x.den_nz (by omega) (by omega) p1 c1 s2 d2 W h1 h2) r1 t1 r2 t2
 · have l1:=jY x.num (y.den:Int)
   have l2:=jY y.num (x.den:Int);have l3:=jF x.den y.den;have l4:=jF x.num.natAbs y.den;have l5:=jF y.num.natAbs x.den;rw[vH]at l1 l2;have l6:=vI (a:=x.num*(y.den:Int)) (b:=y.num*(x.den:Int)) (K:=20000) (by omega) (by omega);have z1:ag x.num=ah x.num.natAbs:=rfl;have z2:ag y.num=ah y.num.natAbs:=rfl
   exact xK x.num y.num (x.num*(y.den:Int)) (y.num*(x.den:Int)) (x.num*(y.den:Int)+y.num*(x.den:Int)) q.num (cmpN x.den y.den) x.den y.den (x.den*y.den) q.den (x.num.natAbs*y.den) (y.num.natAbs*x.den) (fun e=>he (by unfold cmpN at e;split at e<;>first|(split at e<;>first|omega|simp at e)|simp at e))
    p1 c1 s1 d1 p2 c2 s2 d2 W (fun s1 d1 s2 d2 W h1 h2=>cCmp _ _ x.den y.den (by omega) W h1 h2)
    (fun p1 c1 s2 d2 W h1 h2=>nQ _ _ _ _ (by omega) (by omega) W h1 h2) (fun s2 d2 W h=>nR _ _ _ _ (z0F x.num y.den) (by omega) W h)
    (fun p1 c1 s2 d2 W h1 h2=>nQ _ _ _ _ (by omega) (by omega) W h1 h2) (fun s2 d2 W h=>nR _ _ _ _ (z0F y.num x.den) (by omega) W h)
    (fun p1 c1 p2 c2 W h1 h2=>z3T _ _ _ rfl (by omega) (by omega) p1 c1 p2 c2 W h1 h2)
    (fun s1 d1 s2 d2 W h1 h2=>nQ _ _ _ _ (by omega) (by omega) W h1 h2)
    (fun p1 c1 s2 d2 W h1 h2=>um _ _ q (by rw[← hq,jC]) (Nat.mul_ne_zero x.den_nz y.den_nz) (by omega) (by omega) p1 c1 s2 d2 W h1 h2) r1 t1 r2 t2
theorem z0m (x y:Rat):(x.num.sign<y.num.sign→cmpQ x y = -1)∧(y.num.sign<x.num.sign→cmpQ x y=1):=by
 have hx:=x.den_pos;have hy:=y.den_pos;rw[iT x y _ _ rfl rfl];have key:∀ (a:Int) (n:Nat),0<n→(a*(n:Int)).sign=a.sign:=fun a n hn=>by rw[Int.sign_mul,Int.sign_natCast_of_ne_zero (by omega),Int.mul_one]
 have k1:=key x.num y.den hy;have k2:=key y.num x.den hx;generalize x.num*(y.den:Int)=a at *;generalize y.num*(x.den:Int)=b at *;rw[← k1,← k2];have ha:=Int.sign_trichotomy a
 have lt:a.sign<b.sign→a<b:=by
  intro h
  rcases Int.lt_trichotomy a 0 with h1|h1|h1<;>rcases Int.lt_trichotomy b 0 with h2|h2|h2 <;>
   first|omega|(rw[Int.sign_eq_neg_one_of_neg h1,Int.sign_eq_neg_one_of_neg h2]at h;omega)|(rw[Int.sign_eq_one_of_pos h1,Int.sign_eq_one_of_pos h2]at h;omega)|(rw[Int.sign_eq_one_of_pos h1,Int.sign_eq_neg_one_of_neg h2]at h;omega)|(subst h1;rw[Int.sign_zero,Int.sign_eq_neg_one_of_neg h2]at h;omega)|(subst h2;rw[Int.sign_zero,Int.sign_eq_one_of_pos h1]at h;omega)|(subst h1;subst h2;omega)
 have gt:b.sign<a.sign→b<a:=by
  intro h
  rcases Int.lt_trichotomy a 0 with h1|h1|h1<;>rcases Int.lt_trichotomy b 0 with h2|h2|h2 <;>
   first|omega|(rw[Int.sign_eq_neg_one_of_neg h1,Int.sign_eq_neg_one_of_neg h2]at h;omega)|(rw[Int.sign_eq_one_of_pos h1,Int.sign_eq_one_of_pos h2]at h;omega)|(rw[Int.sign_eq_neg_one_of_neg h1,Int.sign_eq_one_of_pos h2]at h;omega)|(subst h1;rw[Int.sign_zero,Int.sign_eq_one_of_pos h2]at h;omega)|(subst h2;rw[Int.sign_zero,Int.sign_eq_neg_one_of_neg h1]at h;omega)|(subst h1;subst h2;omega)
 constructor
 · intro h;rw[if_pos (lt h)]
 · intro h
   have:=gt h;rw[if_neg (by omega),if_pos this]
theorem z3S (x y:Rat)(k:Int)(hk:cmpQ x y=k)(hx:LQ x)(hy:LQ y)(p1:Option Addr)(c1:Nat)(s1:Option Addr)(d1:Nat)(p2:Option Addr)(c2:Nat)(s2:Option Addr)(d2:Nat)(W:World)(r1:RN W (.slice p1 (ag x.num) c1) x.num.natAbs)(t1:RN W (.slice s1 (ah x.den) d1) x.den)(r2:RN W (.slice p2 (ag y.num) c2) y.num.natAbs)(t2:RN W (.slice s2 (ah y.den) d2) y.den) :
 CR 49 #[.agg #[.bool (ak x.num),.slice p1 (ag x.num) c1,.slice s1 (ah x.den) d1],.agg #[.bool (ak y.num),.slice p2 (ag y.num) c2,.slice s2 (ah y.den) d2]] W (.int .i64 k):=by
 obtain⟨a1,a2⟩:=hx;obtain⟨b1,b2⟩:=hy;have hS1:=fun p1 c1 s1 d1 W h1 h2=>z2A x _ rfl p1 c1 s1 d1 W h1 h2;have hS2:=fun p1 c1 s1 d1 W h1 h2=>z2A y _ rfl p1 c1 s1 d1 W h1 h2;obtain⟨hlt,hgt⟩:=z0m x y;rcases Int.lt_trichotomy x.num.sign y.num.sign with h|h|h
 · rw[← hk,hlt h]
   exact z3a x.num y.num _ _ x.den y.den h p1 c1 s1 d1 p2 c2 s2 d2 W hS1 hS2 r1 t1 r2 t2
 · rw[← h]at hS2
   have l1:=jY x.num (y.den:Int);have l2:=jY y.num (x.den:Int);rw[vH]at l1 l2;have l4:=jF x.num.natAbs y.den;have l5:=jF y.num.natAbs x.den;have z1:ag x.num=ah x.num.natAbs:=rfl;have z2:ag y.num=ah y.num.natAbs:=rfl
   refine zB x.num y.num _ (x.num*(y.den:Int)) (y.num*(x.den:Int)) k x.den y.den (x.num.natAbs*y.den) (y.num.natAbs*x.den) p1 c1 s1 d1 p2 c2 s2 d2 W hS1 hS2
    (fun p1 c1 s2 d2 W h1 h2=>nQ _ _ _ _ (by omega) (by omega) W h1 h2) (fun s2 d2 W h=>nR _ _ _ _ (z0F x.num y.den) (by omega) W h)
    (fun p1 c1 s2 d2 W h1 h2=>nQ _ _ _ _ (by omega) (by omega) W h1 h2) (fun s2 d2 W h=>nR _ _ _ _ (z0F y.num x.den) (by omega) W h) (fun p1 c1 p2 c2 W h1 h2=>?_) r1 t1 r2 t2
   have hc:=zCmp _ _ (x.num*(y.den:Int)) (y.num*(x.den:Int)) (show ag _≤50000 by omega) (show ag _≤50000 by omega) W (Rz.mk h1) (Rz.mk h2);rw[show cmpZ (x.num*(y.den:Int)) (y.num*(x.den:Int))=k by rw[← hk,iT x y _ _ rfl rfl];rfl]at hc;exact hc
 · rw[← hk,hgt h]
   exact z3b x.num y.num _ _ x.den y.den h p1 c1 s1 d1 p2 c2 s2 d2 W hS1 hS2 r1 t1 r2 t2
theorem sQTo (q:Rat)(s:ByteArray)(hs:Sq q=s)(hq:SmQ 9000 q)(p1:Option Addr)(c1:Nat)(s1:Option Addr)(d1:Nat)(W:World)(r1:RN W (.slice p1 (ag q.num) c1) q.num.natAbs)(t1:RN W (.slice s1 (ah q.den) d1) q.den) :
 CR 27 #[.agg #[.bool (ak q.num),.slice p1 (ag q.num) c1,.slice s1 (ah q.den) d1]] W (.string s):=by
 have l1:ag q.num≤9000:=gL hq.1 (by decide);have l2:ah q.den≤9000:=gL hq.2 (by decide);have z1:(Sn q.num.natAbs).size≤9000:=iC hq.1 (by decide);have z2:(Sn q.den).size≤9000:=iC hq.2 (by decide);have z3:(Sz q.num).size≤9001:=jR hq.1 (by decide);have h1:=fun p c W h=>sTo q.num _ rfl (Nat.le_trans l1 (by decide)) (by omega) p c W h;have h2:=fun(s:Option Addr) (d:Nat) W h=>z0v (.slice s (ah q.den) d) q.den (Nat.le_trans l2 (by decide)) W h;subst hs;by_cases hd:q.den=1
 · unfold Sq
   rw[if_pos hd]
   exact z2Y q.num q.den (Sz q.num) p1 c1 s1 d1 W h1 (fun s d W h=>by
    have:=h2 s d W h
    rwa [hd,show Sn 1=⟨#[49]⟩by decide +kernel,← hd]at this) r1 t1
 · unfold Sq
   rw[if_neg hd];refine z1i q.num q.den (Sz q.num) (Sn q.den) _ ?_ ?_ (by omega) (by omega) p1 c1 s1 d1 W h1 h2 r1 t1
   · rw[beq_eq_false_iff_ne]
     intro e;apply hd
     have e2:Sn q.den=Sn 1:=by
       apply ByteArray.ext;apply Array.ext'
       rw[toList_data]at e;rw[e];decide +kernel
     exact z2x e2
   · apply ByteArray.ext;apply Array.ext'
     simp[Sn]
