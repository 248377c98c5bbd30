/- texts -/
import Derived.Test.YtkiklcbhglpooaaGreatDoorMz44q
set_option maxRecDepth 100000
set_option maxHeartbeats 20000000
open Go.Lib (hid)
namespace Go.Proofs.YtkiklcbhglpooaaGreatDoor
open Go.RowKit Go.Gb
theorem a13:SmQ 2 (1/3:Rat):=⟨by unfold Sm;decide +kernel,by unfold Sm;decide +kernel⟩
theorem a90:SmQ 3 (90:Rat):=⟨by unfold Sm;decide +kernel,by unfold Sm;decide +kernel⟩
theorem an90:SmQ 3 (-90:Rat):=⟨by unfold Sm;decide +kernel,by unfold Sm;decide +kernel⟩
theorem a355:SmQ 4 (355/113:Rat):=⟨by unfold Sm;decide +kernel,by unfold Sm;decide +kernel⟩
theorem t13:Sq (1/3:Rat)=⟨#[49,47,51]⟩:=by decide +kernel
theorem t34:Sq (3/4:Rat)=⟨#[51,47,52]⟩:=by decide +kernel
theorem t35:Sq (3/5:Rat)=⟨#[51,47,53]⟩:=by decide +kernel
theorem t45:Sq (4/5:Rat)=⟨#[52,47,53]⟩:=by decide +kernel
theorem t90:Sq (90:Rat)=⟨#[57,48]⟩:=by decide +kernel
theorem tn90:Sq (-90:Rat)=⟨#[45,57,48]⟩:=by decide +kernel
theorem t355:Sq (355/113:Rat)=⟨#[51,53,53,47,49,49,51]⟩:=by decide +kernel
theorem z6S:Sq (11/24:Rat)=⟨#[49,49,47,50,52]⟩:=by decide +kernel
theorem z6A (w:World)(hla:La w):CV w 34 #[.string ⟨#[49,47,50]⟩] (.tuple #[.string ⟨#[51,47,53]⟩,.int .i64 0]):=by
 have h:=z6G s12 (by decide) (by decide +kernel) w hla;rwa [show cosQ (1 / 2)=3 / 5 from by decide +kernel,t12,t35]at h
theorem z6z (w:World)(hla:La w):CV w 35 #[.string ⟨#[49,47,50]⟩] (.tuple #[.string ⟨#[52,47,53]⟩,.int .i64 0]):=by
 have h:=z6E s12 (by decide) (by decide +kernel) w hla;rwa [show sinQ (1 / 2)=4 / 5 from by decide +kernel,t12,t45]at h
theorem z5v (w:World)(hla:La w):CV w 36 #[.string ⟨#[49,47,50]⟩,.string ⟨#[49,47,50]⟩] (.tuple #[.string ⟨#[]⟩,.int .i64 15]):=by
 have h:=z05 s12 s12 (by decide) (by decide +kernel) (by decide +kernel) (by decide +kernel) w hla;rwa [t12]at h
theorem z5u (w:World)(hla:La w):CV w 36 #[.string ⟨#[49,47,51]⟩,.string ⟨#[49,47,51]⟩] (.tuple #[.string ⟨#[51,47,52]⟩,.int .i64 0]):=by
 have h:=z6D a13 a13 (by decide) (by decide +kernel) (by decide +kernel) (by decide +kernel) (by decide +kernel) w hla;rwa [show sumQ (1 / 3) (1 / 3)=3 / 4 from by decide +kernel,t13,t34]at h
theorem z5A (w:World)(hla:La w):CV w 13 #[.string ⟨#[49,47,50]⟩,.int .i64 1] (.tuple #[.agg #[.string ⟨#[49,49,47,50,52]⟩,.string ⟨#[49,47,50]⟩],.int .i64 0]):=by
 have hr:SmQ 2 ((1-(1:Rat) / 2) / (1+1 / 2)):=by
  rw[show(1-(1:Rat) / 2) / (1+1 / 2)=1 / 3 from by decide +kernel];exact a13
 have h:=z6H (n:=1) (by decide) s12 (by decide +kernel) (by decide +kernel) hr (by decide) (by decide) w hla;have hc:=lC (n:=1) (by decide) (by decide) w hla;rw[show atI 1 (1 / 2)=(11 / 24,1 / 2) from by decide +kernel,t12]at h;have h2:=uV _ _ _ _ _ _ w (jk 1 w (by decide) (by decide)) hc h (t12▸iA (by decide +kernel) (s12.fit (by decide)) w hla);have h3:=iZ _ _ _ _ _ w h2;rwa [z6S]at h3
theorem z5d:0<(piI 3).1:=by decide +kernel
theorem z4u {x:Rat}{k l:Nat}(hx:SmQ k x)(hr:SmQ l ((1-x) / (1+x)))(hk:k≤2)(hl:l≤2):SmQ 496 (atI 3 x).1∧SmQ 496 (atI 3 x).2:=by
 have a:=kg (n:=3) (hx.mono hk) (by decide);have b:=kg (n:=3) (hr.mono hl) (by decide);have hp:=tu (n:=3) (by decide);have c:=dJ s14 hp.1 hp.2;unfold atI
 split
 · exact⟨a.1.mono (by decide),a.2.mono (by decide)⟩
 · exact⟨(c.1.sub b.2).mono (by decide),(c.2.sub b.1).mono (by decide)⟩
theorem deg3 {x:Rat}{k l:Nat}(hx:SmQ k x)(hr:SmQ l ((1-x) / (1+x)))(hk:k≤2)(hl:l≤2)(h1 : -1 / 2≤x)(h2:x≤1)(w:World)(hla:La w) :
 CV w 49 #[.agg #[.int .i64 3,.string (Sq (piI 3).1),.string (Sq (piI 3).2)],.string (Sq x)] (.agg #[.string (Sq (degI 3 x).1),.string (Sq (degI 3 x).2)]):=by
 have hs:=z4u hx hr hk hl;exact z6F (n:=3) (by decide) (z6H (n:=3) (by decide) (hx.mono hk) h1 h2 (hr.mono hl) (by decide) (by decide) w hla) hs.1 hs.2 (by decide) z5d hla
theorem rH {x:Rat}{k l:Nat}(hx:SmQ k x)(hr:SmQ l ((1-x) / (1+x)))(hk:k≤2)(hl:l≤2):aP (degI 3 x).1∧aP (degI 3 x).2:=by
 have hs:=z4u hx hr hk hl;have hp:=tu (n:=3) (by decide);have n1:(piI 3).1≠0:=by decide +kernel
 have n2:(piI 3).2≠0:=by decide +kernel
 have m:=dJ s360 hs.1 hs.2;have q:=tC (m.1.div hp.1 n1) (m.1.div hp.2 n2) (m.2.div hp.1 n1) (m.2.div hp.2 n2);exact⟨q.1.fit (by decide),q.2.fit (by decide)⟩
theorem z5q (n:Nat)(x:Rat):(degI n x).1≤(degI n x).2:=iU _ 3
theorem r1:SmQ 1 ((1-(1:Rat)) / (1+1)):=by
 rw[show(1-(1:Rat)) / (1+1)=0 from by decide +kernel];exact su0
theorem r0:SmQ 1 ((1-(0:Rat)) / (1+0)):=by
 rw[show(1-(0:Rat)) / (1+0)=1 from by decide +kernel];exact su1
theorem r12:SmQ 2 ((1-(1:Rat) / 2) / (1+1 / 2)):=by
 rw[show(1-(1:Rat) / 2) / (1+1 / 2)=1 / 3 from by decide +kernel];exact a13
theorem z5z (w:World)(hla:La w):CV w 15 #[.string ⟨#[49]⟩,.int .i64 3] (.tuple #[.agg #[.string (Sq (degI 3 1).1),.string (Sq (degI 3 1).2)],.int .i64 0]):=by
 have h:=deg3 su1 r1 (by decide) (by decide) (by decide +kernel) (by decide +kernel) w hla;have hc:=lC (n:=3) (by decide) (by decide) w hla;rw[uq1]at h;exact iY _ _ _ _ _ w (uR _ _ _ _ _ _ w (jk 3 w (by decide) (by decide)) hc h (uq1▸iA (by decide +kernel) (su1.fit (by decide)) w hla))
theorem z7o (w:World)(hla:La w):CV w 11 #[.int .i64 3] (.tuple #[.agg #[.string (Sq (piI 3).1),.string (Sq (piI 3).2)],.int .i64 0]) :=
 z2c _ _ _ w (jk 3 w (by decide) (by decide)) (lC (n:=3) (by decide) (by decide) w hla)
theorem z5y (w:World)(hla:La w):CV w 37 #[.string ⟨#[57,48]⟩,.int .i64 3,.int .i64 2] (.tuple #[.agg #[.string ⟨#[49,47,50]⟩,.string ⟨#[49]⟩],.int .i64 0]):=by
 have z1:=jh (x := -1) (y:=1) (z:=0) (by decide +kernel) (sun.fit (by decide)) (su1.fit (by decide)) w hla;have z2:=gF (x:=0) (y:=1 / 2) (z:=0) (by decide +kernel) (su0.fit (by decide)) (s12.fit (by decide)) w hla;have d1:=deg3 su0 r0 (by decide) (by decide) (by decide +kernel) (by decide +kernel) w hla;have f1:=rH su0 r0 (by decide) (by decide);have o1:=ji (x:=(degI 3 0).2) (y:=90) rfl f1.2 (a90.fit (by decide)) w hla;have z3:=jh (x:=0) (y:=1) (z:=1) (by decide +kernel) (su0.fit (by decide)) (su1.fit (by decide)) w hla;have z4:=gF (x:=1) (y:=1 / 2) (z:=1 / 2) (by decide +kernel) (su1.fit (by decide)) (s12.fit (by decide)) w hla;have d2:=deg3 s12 r12 (by decide) (by decide) (by decide +kernel) (by decide +kernel) w hla;have f2:=rH s12 r12 (by decide) (by decide);have o2:=ji (x:=(degI 3 (1 / 2)).2) (y:=90) rfl f2.2 (a90.fit (by decide)) w hla;rw[uqn,uq1]at z1;rw[t12]at z2;rw[uq1]at z3;rw[uq1,t12]at z4;rw[t90]at o1 o2;rw[t12]at d2;have h:=z04 _ _ _ _ _ _ _ _ _ _ _ _ _ _ w z1 z2 d1 o1 z3 z4 d2 o2 (by decide +kernel) (by decide +kernel);have hv:=avcv (a90.fit (by decide)) w hla;have hh:CV w 38 #[.agg #[.string (Sq (-90:Rat)),.string (Sq (90:Rat))],.string (Sq (90:Rat))] (.bool true):=fun W hW=>xHas (-90) 90 90 true (by decide +kernel) (by decide +kernel) (an90.fit (by decide)) (a90.fit (by decide)) (a90.fit (by decide)) W (hla.on hW);rw[t90]at hv;rw[tn90,t90]at hh;exact z2e _ _ _ _ _ _ _ w hv hh (jk 3 w (by decide) (by decide)) (lC (n:=3) (by decide) (by decide) w hla) h (by decide) (by decide)
theorem z5x (w:World)(hla:La w):CV w 38 #[.agg #[.string (Sq (degI 3 1).1),.string (Sq (degI 3 1).2)],.string ⟨#[57,48]⟩] (.bool true):=by
 have f:=rH su1 r1 (by decide) (by decide);have h:CV w 38 #[.agg #[.string (Sq (degI 3 1).1),.string (Sq (degI 3 1).2)],.string (Sq (90:Rat))] (.bool true):=fun W hW=>xHas _ _ 90 true (by decide +kernel) (z5q _ _) f.1 f.2 (a90.fit (by decide)) W (hla.on hW);rwa [t90]at h
theorem z5w (w:World)(hla:La w):CV w 38 #[.agg #[.string (Sq (piI 3).1),.string (Sq (piI 3).2)],.string ⟨#[51,53,53,47,49,49,51]⟩] (.bool true):=by
 have f:=tu (n:=3) (by decide);have h:CV w 38 #[.agg #[.string (Sq (piI 3).1),.string (Sq (piI 3).2)],.string (Sq (355 / 113:Rat))] (.bool true):=fun W hW=>xHas _ _ (355 / 113) true (by decide +kernel) (nM _) (f.1.fit (by decide)) (f.2.fit (by decide)) (a355.fit (by decide)) W (hla.on hW);rwa [t355]at h
theorem z1X (w:World)(hla:La w):CV w 39 #[.agg #[.string ⟨#[49,47,50]⟩,.string ⟨#[49]⟩]] (.bool true):=by
 have h:CV w 39 #[.agg #[.string (Sq (1 / 2:Rat)),.string (Sq (1:Rat))]] (.bool true):=fun W hW=>zk (1 / 2) 1 (by decide +kernel) (s12.fit (by decide)) (su1.fit (by decide)) W (hla.on hW);rwa [t12,uq1]at h
theorem z1W (w:World)(hla:La w):CV w 40 #[.string ⟨#[45,49]⟩] (.bool true):=by
 have h:=iB (t := -1) (r:=true) (by decide +kernel) (sun.fit (by decide)) w hla;rwa [uqn]at h
theorem z1V (w:World)(hla:La w):CV w 40 #[.string ⟨#[50]⟩] (.bool false):=by
 have h:=iB (t:=2) (r:=false) (by decide +kernel) (su2.fit (by decide)) w hla;rwa [uq2]at h
theorem fJ  (w₀:World)  (hla:La w₀) :
 CV w₀ 10 #[] (.bool true):=by
 intro w hw;have HT:=hid (hla.on hw);clear hla hw;go_enter Tryz.func10,Tryz.ntmps10
 have u6:=hid (Below.refl w.heap.size w);go_wp2_with fail
 with_reducible refine((z6A _ (HT.o.on u6.o)).at).mono ?_
 rintro e W1 ⟨rfl,hb⟩;have w9:=hbt u6 hb;clear hb;go_wp2_with fail
 with_reducible refine((z6z _ (HT.o.on w9.o)).at).mono ?_
 rintro e W2 ⟨rfl,hb⟩;have wm:=hbt w9 hb;clear hb;go_wp2_with fail
 with_reducible refine((z5v _ (HT.o.on wm.o)).at).mono ?_
 rintro e W3 ⟨rfl,hb⟩;have wo:=hbt wm hb;clear hb;go_wp2_with fail
 with_reducible refine((z5u _ (HT.o.on wo.o)).at).mono ?_
 rintro e W4 ⟨rfl,hb⟩;have wu:=hbt wo hb;clear hb;go_wp2_with fail
 with_reducible refine((z5A _ (HT.o.on wu.o)).at).mono ?_
 rintro e W5 ⟨rfl,hb⟩;have ww:=hbt wu hb;clear hb;go_upto_region 6 with fail
 refine ak W5 [(#[.string ⟨#[49,49,47,50,52]⟩,.string ⟨#[49,47,50]⟩],27)] rfl ?_;have L1:=ww.o.size;rintro W6 ⟨k1,hb⟩;have hb:Below W5.heap.size W5 W6:=hb;have si:=hbt ww hb;have K1:=hid k1;clear k1 hb;go_wp2_with fail
 with_reducible refine((z5z _ (HT.o.on si.o)).at).mono ?_
 rintro e W7 ⟨rfl,hb⟩;have K1:=hid (K1.o.below hb);have sj:=hbt si hb;clear hb;go_upto_region 7 with fail
 refine ak W7 [(#[.string (Sq (degI 3 1).1),.string (Sq (degI 3 1).2)],27)] rfl ?_;have L2:=K1.o.lt;have L3:=sj.o.size;rintro W8 ⟨k2,hb⟩;have hb:Below W7.heap.size W7 W8:=hb;have K1:=hid (K1.o.below hb);have sw:=hbt sj hb;have K2:=hid k2;clear k2 hb;go_wp2_with fail
 with_reducible refine((z7o _ (HT.o.on sw.o)).at).mono ?_
 rintro e W9 ⟨rfl,hb⟩;obtain ⟨K1,K2⟩:=aO hb K1 K2;have rM:=hbt sw hb;clear hb;go_upto_region 8 with fail
 refine ak W9 [(#[.string (Sq (piI 3).1),.string (Sq (piI 3).2)],27)] rfl ?_;have L4:=K1.o.lt;have L5:=K2.o.lt;have L6:=rM.o.size;rintro W10 ⟨k3,hb⟩;have hb:Below W9.heap.size W9 W10:=hb;obtain ⟨K1,K2⟩:=aO hb K1 K2;have rV:=hbt rM hb;have K3:=hid k3;clear k3 hb;go_wp2_with fail
 with_reducible refine((z5y _ (HT.o.on rV.o)).at).mono ?_
 rintro e W11 ⟨rfl,hb⟩;obtain ⟨K1,K2,K3⟩:=bA hb K1 K2 K3;have p8:=hbt rV hb;clear hb;go_upto_region 9 with fail
 refine ak W11 [(#[.string ⟨#[49,47,50]⟩,.string ⟨#[49]⟩],27)] rfl ?_;have L7:=K1.o.lt;have L8:=K2.o.lt;have L9:=K3.o.lt;have L10:=p8.o.size;rintro W12 ⟨k4,hb⟩;have hb:Below W11.heap.size W11 W12:=hb;obtain ⟨K1,K2,K3⟩:=bA hb K1 K2 K3;have pq:=hbt p8 hb;have K4:=hid k4;clear k4 hb;obtain ⟨ma,mf⟩:=ay K1.o rfl rfl;obtain ⟨mi,l5⟩:=ay K2.o rfl rfl;go_wp2_with fail
 with_reducible refine((z5x _ (HT.o.on pq.o)).at).mono ?_
 rintro e W13 ⟨rfl,hb⟩;clear ma mf mi l5;obtain ⟨K3,K4⟩:=aO hb K3 K4;have pu:=hbt pq hb;clear hb;obtain ⟨l6,lg⟩:=ay K3.o rfl rfl;go_wp2_with fail
 with_reducible refine((z5w _ (HT.o.on pu.o)).at).mono ?_
 rintro e W14 ⟨rfl,hb⟩;clear l6 lg;have K4:=hid (K4.o.below hb);have ol:=hbt pu hb;clear hb;obtain ⟨lv,kz⟩:=ay K4.o rfl rfl;go_wp2_with fail
 with_reducible refine((z1X _ (HT.o.on ol.o)).at).mono ?_
 rintro e W15 ⟨rfl,hb⟩;clear lv kz;have oM:=hbt ol hb;clear hb;go_wp2_with fail
 with_reducible refine((z1W _ (HT.o.on oM.o)).at).mono ?_
 rintro e W16 ⟨rfl,hb⟩;have oV:=hbt oM hb;clear hb;go_wp2_with fail
 with_reducible refine((z1V _ (HT.o.on oV.o)).at).mono ?_
 rintro e W17 ⟨rfl,hb⟩;have kM:=hbt oV hb;clear hb;go_wp2;exact bodyPost_ret (v:=.bool true) (by simp[results,Tryz.results10,go_sem]) rfl ⟨rfl,kM.o⟩
theorem kv {c a b:Rat}(hc:0<c)(h:c*a≤c*b):a≤b:=by
 rcases Rat.le_total (a:=a) (b:=b) with h1|h1
 · exact h1
 · have:=Rat.mul_nonneg (show 0≤c by grind) (show 0≤a-b by grind)
   have e:c*(a-b)=0:=by grind
   rcases Rat.mul_eq_zero.1 e with h|h<;>grind
def negI (p:Rat × Rat):Rat × Rat:=(-p.2,-p.1)
def atJ (n:Nat) (x:Rat):Rat × Rat:=if x < -1 / 2 then negI (atI n (-x)) else atI n x
def degJ (n:Nat) (x:Rat):Rat × Rat:=divI (mulI 360 (atJ n x)) (piI n)
def nL (x:Rat):Rat:=(1-x) / (1+x)
theorem vU {x:Rat}(h1:1 / 2<x)(h2:x≤1):0≤nL x∧nL x≤1 / 3:=by
 have hp:0<1+x:=by grind
 have a:0≤nL x:=vK (by grind) hp;have e:nL x*(1+x)=1-x:=Rat.div_mul_cancel (by grind);refine⟨a,?_⟩;refine kv hp ?_;grind
theorem wW {n:Nat}{x:Rat}(h:x≤1 / 2):atI n x=serI x n:=by
 unfold atI
 rw[if_pos h]
theorem rZ {n:Nat}{x:Rat}(h:¬ x≤1 / 2):atI n x=subI (mulI (1 / 4) (piI n)) (serI (nL x) n):=by
 unfold atI
 rw[if_neg h];rfl
theorem z5f {p:Rat × Rat}(h:p.1≤p.2):(negI p).1≤(negI p).2:=by
 unfold negI
 grind
theorem z6B (n:Nat)(x:Rat):(atJ n x).1≤(atJ n x).2:=by
 unfold atJ
 split
 · exact z5f (qo _ _)
 · exact qo _ _
theorem z15:∀ n:Nat,1≤n→n≤6→0<(piI n).1:=by
 intro n h1 h6;obtain rfl|rfl|rfl|rfl|rfl|rfl:n=1∨n=2∨n=3∨n=4∨n=5∨n=6:=by omega
 all_goals decide +kernel
theorem ru (x:Rat):x*((x.den:Nat):Rat)=((x.num:Int):Rat):=by
 have h:=Rat.num_divInt_den x;rw[Rat.divInt_eq_div,Rat.intCast_natCast]at h;have hd:((x.den:Nat):Rat)≠0:=fun h=>x.den_nz (Rat.natCast_eq_zero_iff.1 h);have e:((x.num:Int):Rat) / ((x.den:Nat):Rat)*((x.den:Nat):Rat)=((x.num:Int):Rat):=Rat.div_mul_cancel hd;rwa [h]at e
def denU (b:Nat):Nat→Nat
 | 0=>1
 | n+1=>denU b n*(b*b*(2*n+1))
theorem yT {b:Nat}(hb:b≠0):∀ n,denU b n≠0
 | 0=>Nat.one_ne_zero
 | n+1=>Nat.mul_ne_zero (yT hb n) (Nat.mul_ne_zero (Nat.mul_ne_zero hb hb) (by omega))
theorem z1J {a:Int}{b:Nat}{x:Rat}(hx:x*((b:Nat):Rat)=((a:Int):Rat)):∀ n,(∃ z:Int,serU x n*((denU b n:Nat):Rat)=((z:Int):Rat))∧(∃ z:Int,powU x n*(((denU b n:Nat):Rat)*((b:Nat):Rat))=((z:Int):Rat))
 | 0=>⟨⟨0,by show(0:Rat)*_=_;grind⟩,⟨a,by show x*(((1:Nat):Rat)*_)=_;rw[← hx];show x*(1*_)=_;grind⟩⟩
 | n+1=>by
   obtain⟨⟨zs,hs⟩,⟨zp,hp⟩⟩:=z1J hx n;have ho:=uf n
   have ed:((denU b (n+1):Nat):Rat)=((denU b n:Nat):Rat)*(((b:Nat):Rat)*((b:Nat):Rat)*((2*n+1:Nat):Rat)):=by
    show((denU b n*(b*b*(2*n+1)):Nat):Rat)=_
    rw[Rat.natCast_mul,Rat.natCast_mul,Rat.natCast_mul]
   refine⟨⟨zs*((b:Int)*(b:Int)*((2*n+1:Nat):Int))+zp*(b:Int),?_⟩,⟨zp*(-(a*a)*((2*n+1:Nat):Int)),?_⟩⟩
   · have e:serU x (n+1)=serU x n+powU x n / ((2*n+1:Nat):Rat):=rfl
     rw[e,ed,Rat.intCast_add,Rat.intCast_mul,Rat.intCast_mul,Rat.intCast_mul,Rat.intCast_mul,← hs,← hp];simp only[Rat.intCast_natCast];generalize ((denU b n:Nat):Rat)=D at *;generalize ((b:Nat):Rat)=B at *;generalize ((2*n+1:Nat):Rat)=m at *;grind
   · have e:powU x (n+1)=powU x n*(0-x*x):=rfl
     rw[e,ed,Rat.intCast_mul,Rat.intCast_mul,Rat.intCast_neg,Rat.intCast_mul,← hp,← hx];simp only[Rat.intCast_natCast];generalize ((denU b n:Nat):Rat)=D at *;generalize ((b:Nat):Rat)=B at *;generalize ((2*n+1:Nat):Rat)=m at *;grind
theorem z4U {x:Rat}(h1 : -1≤x)(h2:x≤1):0≤x*x∧x*x≤1:=by
 constructor
 · rcases Rat.le_total (a:=0) (b:=x) with h|h
   · exact Rat.mul_nonneg h h
   · have:=Rat.mul_nonneg (show 0 ≤ -x by grind) (show 0 ≤ -x by grind)
     grind
 · have:=Rat.mul_nonneg (show 0≤1-x by grind) (show 0≤1+x by grind)
   grind
theorem yD {x:Rat}(h1 : -1≤x)(h2:x≤1):∀ i,-1≤powU x i∧powU x i≤1
 | 0=>⟨h1,h2⟩
 | i+1=>by
   have h:=yD h1 h2 i;have s:=z4U h1 h2;have e:powU x (i+1)=powU x i*(0-x*x):=rfl;rw[e];generalize powU x i=p at *;generalize x*x=y at *;have a:=Rat.mul_nonneg (show 0≤1-p by grind) s.1;have b:=Rat.mul_nonneg (show 0≤1+p by grind) s.1;constructor<;>grind
theorem z0r {x:Rat}(h1 : -1≤x)(h2:x≤1)(i:Nat) : -1≤iK x i∧iK x i≤1:=by
 have h:=yD h1 h2 i
 have hd:(1:Rat)≤((2*i+1:Nat):Rat):=by
  have:((1:Nat):Rat)≤((2*i+1:Nat):Rat):=Rat.natCast_le_natCast.2 (by omega);exact this
 have e:iK x i*((2*i+1:Nat):Rat)=powU x i:=Rat.div_mul_cancel (uf i);generalize ((2*i+1:Nat):Rat)=d at *;generalize iK x i=t at *;generalize powU x i=p at *;have hp:0<d:=by grind
 refine⟨kv hp ?_,kv hp ?_⟩<;>grind
theorem yc {x:Rat}(h1 : -1≤x)(h2:x≤1):∀ n:Nat,-((n:Nat):Rat)≤serU x n∧serU x n≤((n:Nat):Rat)
 | 0=>(show -((0:Nat):Rat)≤0∧(0:Rat)≤((0:Nat):Rat) by decide +kernel)
 | n+1=>by
   have h:=yc h1 h2 n;have t:=z0r h1 h2 n;have e:serU x (n+1)=serU x n+iK x n:=rfl;have c:((n+1:Nat):Rat)=((n:Nat):Rat)+1:=by rw[Rat.natCast_add];rfl
   rw[e,c];constructor<;>grind
theorem z6w {b k:Nat}(hb:Sm k b):∀ n,n≤7→denU b n<10^(k*(2*n))*10^6:=by
 have hL:∀ n,denU b n=b^(2*n)*denU 1 n:=by
  intro n
  induction n with
  | zero=>rfl
  | succ n ih =>
    show denU b n*(b*b*(2*n+1))=b^(2*(n+1))*(denU 1 n*(1*1*(2*n+1)))
    rw[ih,show 2*(n+1)=2*n+1+1 by omega,Nat.pow_succ,Nat.pow_succ];grind
 intro n hn
 have h1:denU 1 n<10^6:=by
  obtain rfl|rfl|rfl|rfl|rfl|rfl|rfl|rfl:n=0∨n=1∨n=2∨n=3∨n=4∨n=5∨n=6∨n=7:=by omega
  all_goals decide
 have h2:b^(2*n)≤10^(k*(2*n)):=by
  have h:=Nat.pow_le_pow_left (Nat.le_of_lt hb) (2*n);rwa [← Nat.pow_mul]at h
 rw[hL];exact Nat.mul_lt_mul_of_le_of_lt h2 h1 (Nat.pow_pos (by decide))
theorem vP {x:Rat}{k n:Nat}(hx:SmQ k x)(h1 : -1≤x)(h2:x≤1)(hn:n≤7):SmQ (k*(2*n)+7) (serU x n):=by
 have hx0:x*((x.den:Nat):Rat)=((x.num:Int):Rat):=ru x;obtain⟨⟨z,hz⟩,_⟩:=z1J hx0 n;have hd:=yT x.den_nz n;have hD:=z6w hx.2 n hn;have hu:=yc h1 h2 n;have h7:((n:Nat):Rat)≤((7:Nat):Rat):=Rat.natCast_le_natCast.2 hn;have hc:(0:Rat)≤((denU x.den n:Nat):Rat):=Rat.natCast_nonneg
 have hzb:z.natAbs≤7*denU x.den n:=by
  have a:=Rat.mul_nonneg (show 0≤((7:Nat):Rat)-serU x n by grind) hc;have b:=Rat.mul_nonneg (show 0≤((7:Nat):Rat)+serU x n by grind) hc;have e7:(((7*denU x.den n:Nat):Int):Rat)=((7:Nat):Rat)*((denU x.den n:Nat):Rat):=by rw[Rat.intCast_natCast,Rat.natCast_mul]
  have c1:((z:Int):Rat)≤(((7*denU x.den n:Nat):Int):Rat):=by rw[e7];grind
  have c2:((-z:Int):Rat)≤(((7*denU x.den n:Nat):Int):Rat):=by rw[e7,Rat.intCast_neg];grind
  have d1:=Rat.intCast_le_intCast.1 c1;have d2:=Rat.intCast_le_intCast.1 c2;omega
 have e:serU x n=Rat.divInt z (denU x.den n:Int):=by
  rw[Rat.divInt_eq_div,← hz,Rat.intCast_natCast];have:((denU x.den n:Nat):Rat)≠0:=fun h=>hd (Rat.natCast_eq_zero_iff.1 h);grind
 rw[e]
 have hS:Sm (k*(2*n)+7) (7*denU x.den n):=by
  unfold Sm
  rw[Nat.pow_add];omega
 exact pO (by omega) (hS.le hzb) (hS.le (by simp;omega))
theorem iF {x:Rat}{k n:Nat}(hx:SmQ k x)(h1 : -1≤x)(h2:x≤1)(hn:n≤6):SmQ (k*14+7) (serI x n).1∧SmQ (k*14+7) (serI x n).2:=by
 have a:=(vP hx h1 h2 (n:=n) (by omega)).mono (show k*(2*n)+7≤k*14+7 from Nat.add_le_add_right (Nat.mul_le_mul_left _ (by omega)) _);have b:=(vP hx h1 h2 (n:=n+1) (by omega)).mono (show k*(2*(n+1))+7≤k*14+7 from Nat.add_le_add_right (Nat.mul_le_mul_left _ (by omega)) _);exact tC a a b b
theorem nJ {n:Nat}(hn:n≤6):SmQ 75 (piI n).1∧SmQ 75 (piI n).2:=by
 have a:=iF s5 (by decide +kernel) (by decide +kernel) hn;have b:=iF s239 (by decide +kernel) (by decide +kernel) hn;have c:=dJ s16 a.1 a.2;have d:=dJ s4 b.1 b.2;exact⟨(c.1.sub d.2).mono (by decide),(c.2.sub d.1).mono (by decide)⟩
theorem vO {x:Rat}{k:Nat}(hx:SmQ k x)(h1:1 / 2<x)(h2:x≤1):SmQ (k+1) (nL x):=by
 have hx0:x*((x.den:Nat):Rat)=((x.num:Int):Rat):=ru x
 have hd:(0:Rat)<((x.den:Nat):Rat):=by
  have:x.den≠0:=x.den_nz;obtain⟨m,hm⟩:∃ m,x.den=m+1:=⟨x.den-1,by omega⟩;rw[hm];exact(Rat.natCast_lt_natCast.2 (by omega):((0:Nat):Rat)<((m+1:Nat):Rat))
 have e:nL x=Rat.divInt ((x.den:Int)-x.num) ((x.den:Int)+x.num):=by
  rw[Rat.divInt_eq_div,Rat.intCast_sub,Rat.intCast_add,Rat.intCast_natCast,← hx0];unfold nL
  generalize ((x.den:Nat):Rat)=d at *;have hp:1+x≠0:=by grind
  have hq:d+x*d≠0:=by
   intro h;have:(1+x)*d=0:=by grind
   rcases Rat.mul_eq_zero.1 this with h|h<;>grind
  grind
 have hn0:0≤x.num:=Rat.num_nonneg.2 (by grind)
 have hn1:x.num≤(x.den:Int):=by
  have a:=Rat.mul_nonneg (show 0≤1-x by grind) (show 0≤((x.den:Nat):Rat) by grind);refine Rat.intCast_le_intCast.1 ?_;rw[Rat.intCast_natCast];grind
 have hk:=hx.2;have hdn:x.den≠0:=x.den_nz;rw[e];unfold Sm at hk
 refine pO (by omega) ?_ ?_
 · unfold Sm
   rw[Nat.pow_succ];omega
 · unfold Sm
   rw[Nat.pow_succ];omega
theorem xZ {x:Rat}{n:Nat}(hx:SmQ 7 x)(h1 : -1≤x)(h2:x≤1)(hn:n≤6):SmQ 200 (atI n x).1∧SmQ 200 (atI n x).2:=by
 by_cases h:x≤1 / 2
 · rw[wW h]
   have a:=iF hx h1 h2 hn;exact⟨a.1.mono (by decide),a.2.mono (by decide)⟩
 · rw[rZ h]
   have r:=vU (x:=x) (by grind) h2;have a:=iF (vO hx (by grind) h2) (by grind) (by grind) hn;have p:=nJ hn;have c:=dJ s14 p.1 p.2;exact⟨(c.1.sub a.2).mono (by decide),(c.2.sub a.1).mono (by decide)⟩
theorem xY {x:Rat}{n:Nat}(hx:SmQ 7 x)(h1 : -1≤x)(h2:x≤1)(hn:n≤6):SmQ 200 (atJ n x).1∧SmQ 200 (atJ n x).2:=by
 unfold atJ
 split
 · have a:=xZ hx.neg (by grind) (by grind) hn
   exact⟨a.2.neg,a.1.neg⟩
 · exact xZ hx h1 h2 hn
theorem z4W {x:Rat}{n:Nat}(hx:SmQ 7 x)(h1 : -1≤x)(h2:x≤1)(hn1:1≤n)(hn:n≤6):SmQ 278 (degJ n x).1∧SmQ 278 (degJ n x).2:=by
 have a:=xY hx h1 h2 hn;have p:=nJ hn;have m:=dJ s360 a.1 a.2;have hp:=z15 n hn1 hn;have hl:=nM n;have n1:(piI n).1≠0:=by grind
 have n2:(piI n).2≠0:=by grind
 exact tC (m.1.div p.1 n1) (m.1.div p.2 n2) (m.2.div p.1 n1) (m.2.div p.2 n2)
theorem mr {n:Nat}(hn1:1≤n)(hn:n≤6)(w:World)(hla:La w):CV w 42 #[.int .i64 (n:Int)] (.agg #[.int .i64 (n:Int),.string (Sq (piI n).1),.string (Sq (piI n).2)]):=by
 have _:=hn1;have a:=iF s5 (by decide +kernel) (by decide +kernel) hn;have b:=iF s239 (by decide +kernel) (by decide +kernel) hn
 have h1:(n+1)*(1+(1+1)*(n+1)+4+1)+1≤900:=by
  obtain rfl|rfl|rfl|rfl|rfl|rfl|rfl:n=0∨n=1∨n=2∨n=3∨n=4∨n=5∨n=6:=by omega
  all_goals decide
 have h3:(n+1)*(3+(3+3)*(n+1)+4+1)+1≤900:=by
  obtain rfl|rfl|rfl|rfl|rfl|rfl|rfl:n=0∨n=1∨n=2∨n=3∨n=4∨n=5∨n=6:=by omega
  all_goals decide
 have e1:=fZ (n:=n) s5 (by omega) h1 w hla;have e2:=fZ (n:=n) s239 (by omega) h3 w hla;have c:=dJ s16 a.1 a.2;have d:=dJ s4 b.1 b.2;have e3:=gG s16 a.1 a.2 (jy _ _) (by decide) w hla;have e4:=gG s4 b.1 b.2 (jy _ _) (by decide) w hla;have e5:=zh (c.1.fit (by decide)) (c.2.fit (by decide)) (d.1.fit (by decide)) (d.2.fit (by decide)) (gT 16 (serI (1 / 5) n)) (gT 4 (serI (1 / 239) n)) w hla;rw[t5]at e1;rw[t239]at e2;rw[t16]at e3;rw[t4]at e4;exact oD _ _ _ _ _ _ _ _ _ _ _ w e1 e2 e3 e4 e5
theorem z4L {n:Nat}{x:Rat}(hn:n≤6)(hx:SmQ 7 x)(h1 : -1 / 2≤x)(h2:x≤1)(w:World)(hla:La w) :
 CV w 46 #[.agg #[.int .i64 (n:Int),.string (Sq (piI n).1),.string (Sq (piI n).2)],.string (Sq x)] (.agg #[.string (Sq (atI n x).1),.string (Sq (atI n x).2)]):=by
 have hx9:aP x:=hx.fit (by decide);have sn12:SmQ 2 (-(1:Rat) / 2):=⟨by unfold Sm;decide +kernel,by unfold Sm;decide +kernel⟩;have o1:=ji (x:=x) (y := -(1:Rat) / 2) rfl hx9 (sn12.fit (by decide)) w hla;have o2:=ji (x:=x) (y:=(1:Rat) / 2) rfl hx9 (s12.fit (by decide)) w hla;rw[tn12]at o1;rw[t12]at o2
 have hk:(n+1)*(7+(7+7)*(n+1)+4+1)+1≤900:=by
  obtain rfl|rfl|rfl|rfl|rfl|rfl|rfl:n=0∨n=1∨n=2∨n=3∨n=4∨n=5∨n=6:=by omega
  all_goals decide
 have hl:(n+1)*(8+(8+8)*(n+1)+4+1)+1≤900:=by
  obtain rfl|rfl|rfl|rfl|rfl|rfl|rfl:n=0∨n=1∨n=2∨n=3∨n=4∨n=5∨n=6:=by omega
  all_goals decide
 have f1:decide (cmpQ x (-(1:Rat) / 2)<0)=false:=by
  rcases dA x (-(1:Rat) / 2) with⟨h,e⟩|⟨h,e⟩|⟨h,e⟩
  · grind
  · rw[e];rfl
  · rw[e];rfl
 by_cases hm:x≤1 / 2
 · have f2:decide (cmpQ x ((1:Rat) / 2)≤0)=true:=by
    rcases dA x ((1:Rat) / 2) with⟨h,e⟩|⟨h,e⟩|⟨h,e⟩
    · rw[e];rfl
    · rw[e];rfl
    · grind
   rw[wW hm];exact uY _ _ _ _ _ _ _ _ w o1 o2 (fZ hx (by omega) hk w hla) f1 f2
 · rw[rZ hm]
   have hgt:(1:Rat) / 2<x:=by grind
   rw[mh hgt]at o2;have hr:=vO hx hgt h2;have hri:=vU hgt h2;have e3:=jl (x:=1) (y:=x) rfl (su1.fit (by decide)) hx9 w hla;have e4:=jh (x:=1) (y:=x) rfl (su1.fit (by decide)) hx9 w hla;have hne:1+x≠0:=by grind
   have e5:=oz (x:=1-x) (y:=1+x) rfl ((su1.sub hx).fit (by decide)) ((su1.add hx).fit (by decide)) hne w hla;have hp:=nJ hn;have e6:=gG s14 hp.1 hp.2 (nM n) (by decide) w hla;have hq:=dJ s14 hp.1 hp.2;have hs:=iF (n:=n) hr (by grind) (by grind) hn;have e7:=fZ (n:=n) hr (by omega) hl w hla;have e8:=zh (hq.1.fit (by decide)) (hq.2.fit (by decide)) (hs.1.fit (by decide)) (hs.2.fit (by decide)) (gT (1 / 4) (piI n)) (jy (nL x) n) w hla;rw[uq1]at e3 e4;rw[t14]at e6;exact qx _ _ _ _ _ _ _ _ _ _ _ _ _ _ w o1 o2 e3 e4 e5 e6 e7 e8 f1
theorem yH {p:Rat × Rat}(h:p.1≤p.2):mulI (-1) p=negI p:=by
 have o:=yj (-1*p.1) (-1*p.2) (-1*p.1) (-1*p.2);have i:=z4X (-1*p.1) (-1*p.2) (-1*p.1) (-1*p.2)
 have e1:(mulI (-1) p).1 = -p.2:=by
  unfold mulI
  grind
 have e2:(mulI (-1) p).2 = -p.1:=by
  unfold mulI
  grind
 unfold negI
 exact Prod.ext e1 e2
theorem z4K {n:Nat}{x:Rat}(hn:n≤6)(hx:SmQ 7 x)(h1 : -1≤x)(h2:x≤1)(w:World)(hla:La w) :
 CV w 46 #[.agg #[.int .i64 (n:Int),.string (Sq (piI n).1),.string (Sq (piI n).2)],.string (Sq x)] (.agg #[.string (Sq (atJ n x).1),.string (Sq (atJ n x).2)]):=by
 unfold atJ
 by_cases h:x < -1 / 2
 · rw[if_pos h]
   have hx9:aP x:=hx.fit (by decide);have sn12:SmQ 2 (-(1:Rat) / 2):=⟨by unfold Sm;decide +kernel,by unfold Sm;decide +kernel⟩;have o1:=ji (x:=x) (y := -(1:Rat) / 2) (oo h) hx9 (sn12.fit (by decide)) w hla;have e2:=jl (x:=0) (y:=x) (z := -x) (by grind) (su0.fit (by decide)) hx9 w hla;have e3:=z4L hn hx.neg (by grind) (by grind) w hla;have s:=xZ hx.neg (by grind) (by grind) hn;have e4:=gG sun s.1 s.2 (qo n (-x)) (by decide) w hla;rw[yH (qo n (-x)),uqn]at e4;rw[tn12]at o1;rw[uq0]at e2;exact z2g _ _ _ _ _ _ _ _ _ w o1 e2 e3 e4
 · rw[if_neg h]
   exact z4L hn hx (by grind) h2 w hla
theorem z5H {n:Nat}{x:Rat}(hn1:1≤n)(hn:n≤6)(hx:SmQ 7 x)(h1 : -1≤x)(h2:x≤1)(w:World)(hla:La w) :
 CV w 49 #[.agg #[.int .i64 (n:Int),.string (Sq (piI n).1),.string (Sq (piI n).2)],.string (Sq x)] (.agg #[.string (Sq (degJ n x).1),.string (Sq (degJ n x).2)]):=by
 have a:=xY hx h1 h2 hn;have hp:=nJ hn;have hle:=nM n;have hpos:=z15 n hn1 hn;have hs:=dJ s360 a.1 a.2;have e2:=gG s360 a.1 a.2 (z6B n x) (by decide) w hla;rw[t360]at e2;have n1:(piI n).1≠0:=by grind
 have n2:(piI n).2≠0:=by grind
 have d1:=(hs.1.div hp.1 n1).fit (by decide);have d2:=(hs.1.div hp.2 n2).fit (by decide);have d3:=(hs.2.div hp.1 n1).fit (by decide);have d4:=(hs.2.div hp.2 n2).fit (by decide);exact zf _ _ _ _ _ _ _ _ _ _ 0 w (z4K hn hx h1 h2 w hla) e2 (fun W hW=>xDiv _ _ _ _ _ _ _ _ rfl rfl rfl rfl (gT 360 (atJ n x)) hle (decide_eq_false (by grind)) (hs.1.fit (by decide)) (hs.2.fit (by decide)) (hp.1.fit (by decide)) (hp.2.fit (by decide)) d1 d2 d3 d4 W (hla.on hW))
theorem z7p {n:Nat}(hn1:1≤n)(hn:n≤6)(w:World)(hla:La w):CV w 11 #[.int .i64 (n:Int)] (.tuple #[.agg #[.string (Sq (piI n).1),.string (Sq (piI n).2)],.int .i64 0]) :=
 z2c _ _ _ w (jk (n:Int) w (by omega) (by omega)) (mr hn1 hn w hla)
theorem z5I {n:Nat}{x:Rat}(hn1:1≤n)(hn:n≤6)(hx:SmQ 7 x)(h1 : -1≤x)(h2:x≤1)(w:World)(hla:La w):CV w 13 #[.string (Sq x),.int .i64 (n:Int)] (.tuple #[.agg #[.string (Sq (atJ n x).1),.string (Sq (atJ n x).2)],.int .i64 0]) :=
 iZ _ _ _ _ _ w (uV _ _ _ _ _ _ w (jk (n:Int) w (by omega) (by omega)) (mr hn1 hn w hla) (z4K hn hx h1 h2 w hla) (iA ⟨h1,h2⟩ (hx.fit (by decide)) w hla))
theorem z5G {n:Nat}{x:Rat}(hn1:1≤n)(hn:n≤6)(hx:SmQ 7 x)(h1 : -1≤x)(h2:x≤1)(w:World)(hla:La w):CV w 15 #[.string (Sq x),.int .i64 (n:Int)] (.tuple #[.agg #[.string (Sq (degJ n x).1),.string (Sq (degJ n x).2)],.int .i64 0]) :=
 iY _ _ _ _ _ w (uR _ _ _ _ _ _ w (jk (n:Int) w (by omega) (by omega)) (mr hn1 hn w hla) (z5H hn1 hn hx h1 h2 w hla) (iA ⟨h1,h2⟩ (hx.fit (by decide)) w hla))
theorem z0E {q:Rat}(h:(Sq q).size≤9)(h1 : -1≤q)(h2:q≤1):SmQ 7 q:=by
 by_cases hd:q.den=1
 · have e:=ru q
   rw[hd]at e;have e1:q=((q.num:Int):Rat):=by rw[← e];show q=q*1;grind
   have a:((q.num:Int):Rat)≤((1:Int):Rat):=by rw[← e1];exact h2
   have b:((-1:Int):Rat)≤((q.num:Int):Rat):=by rw[← e1];exact h1
   have a:=Rat.intCast_le_intCast.1 a;have b:=Rat.intCast_le_intCast.1 b;refine⟨?_,?_⟩
   · unfold Sm;omega
   · rw[hd];unfold Sm;decide
 · have hs:(Sq q).size=(Sz q.num).size+1+(Sn q.den).size:=by
    rw[← aG,fP hd,← aG,← aG,cz];simp;omega
   have n1:1≤(Sz q.num).size:=by
    rcases Nat.eq_zero_or_pos (Sz q.num).size with h0|h0
    · have:=iE (z:=q.num) (k:=0) (by omega)
      unfold Sm at this
      have hz:q.num=0:=by omega
      have:q=0:=Rat.num_eq_zero.1 hz;rw[this]at hd;exact absurd rfl hd
    · exact h0
   have n2:1≤(Sn q.den).size:=by
    rcases Nat.eq_zero_or_pos (Sn q.den).size with h0|h0
    · have h3:=Sm.of (a:=Sn q.den) (k:=0) (eu _) (by omega)
      rw[bY]at h3;unfold Sm at h3
      have:=q.den_nz;omega
    · exact h0
   refine⟨iE (by omega),?_⟩;have h3:=Sm.of (a:=Sn q.den) (k:=7) (eu _) (by omega);rwa [bY]at h3
