/- texts -/
import Derived.Test.YtoaeaiiabelhkaaGreatDoorMz42q
import Derived.Test.YtoaeaiiabelhkaaGreatDoorYfb
open Go.Proofs.Tryz
namespace Go.Proofs.YtoaeaiiabelhkaaGreatDoor
open Go.RowKit Go.Gb
theorem kv {c a b:Rat}(hc:0<c)(h:c*a≤c*b):a≤b:=by
 rcases Rat.le_total (a:=a) (b:=b) with h1|h1
 · exact h1
 · have:=Rat.mul_nonneg (show 0≤c by grind) (show 0≤a-b by grind)
   have e:c*(a-b)=0:=by grind
   rcases Rat.mul_eq_zero.1 e with h|h<;>grind
def negI (p:Rat × Rat):Rat × Rat:=(-p.2,-p.1)
def atJ (n:Nat) (x:Rat):Rat × Rat:=if x < -1 / 2 then negI (atI n (-x)) else atI n x
def degJ (n:Nat) (x:Rat):Rat × Rat:=divI (mulI 360 (atJ n x)) (piI n)
def nL (x:Rat):Rat:=(1-x) / (1+x)
theorem vJ {x:Rat}(h1:1 / 2<x)(h2:x≤1):0≤nL x∧nL x≤1 / 3:=by
 have hp:0<1+x:=by grind
 have a:0≤nL x:=vz (by grind) hp;have e:nL x*(1+x)=1-x:=Rat.div_mul_cancel (by grind);refine⟨a,?_⟩;refine kv hp ?_;grind
theorem wO {n:Nat}{x:Rat}(h:x≤1 / 2):atI n x=serI x n:=by
 unfold atI
 rw[if_pos h]
theorem sG {n:Nat}{x:Rat}(h:¬ x≤1 / 2):atI n x=subI (mulI (1 / 4) (piI n)) (serI (nL x) n):=by
 unfold atI
 rw[if_neg h];rfl
theorem z5g {p:Rat × Rat}(h:p.1≤p.2):(negI p).1≤(negI p).2:=by
 unfold negI
 grind
theorem z6E (n:Nat)(x:Rat):(atJ n x).1≤(atJ n x).2:=by
 unfold atJ
 split
 · exact z5g (qo _ _)
 · exact qo _ _
theorem z14:∀ n:Nat,1≤n→n≤6→0<(piI n).1:=by
 intro n h1 h6;obtain rfl|rfl|rfl|rfl|rfl|rfl:n=1∨n=2∨n=3∨n=4∨n=5∨n=6:=by omega
 all_goals decide +kernel
theorem yh (x:Rat):x*((x.den:Nat):Rat)=((x.num:Int):Rat):=by
 have h:=Rat.num_divInt_den x;rw[Rat.divInt_eq_div,Rat.intCast_natCast]at h;have hd:((x.den:Nat):Rat)≠0:=fun h=>x.den_nz (Rat.natCast_eq_zero_iff.1 h);have e:((x.num:Int):Rat) / ((x.den:Nat):Rat)*((x.den:Nat):Rat)=((x.num:Int):Rat):=Rat.div_mul_cancel hd;rwa [h]at e
def denU (b:Nat):Nat→Nat
 | 0=>1
 | n+1=>denU b n*(b*b*(2*n+1))
theorem yE {b:Nat}(hb:b≠0):∀ n,denU b n≠0
 | 0=>Nat.one_ne_zero
 | n+1=>Nat.mul_ne_zero (yE hb n) (Nat.mul_ne_zero (Nat.mul_ne_zero hb hb) (by omega))
theorem z1I {a:Int}{b:Nat}{x:Rat}(hx:x*((b:Nat):Rat)=((a:Int):Rat)):∀ n,(∃ z:Int,serU x n*((denU b n:Nat):Rat)=((z:Int):Rat))∧(∃ z:Int,powU x n*(((denU b n:Nat):Rat)*((b:Nat):Rat))=((z:Int):Rat))
 | 0=>⟨⟨0,by show(0:Rat)*_=_;grind⟩,⟨a,by show x*(((1:Nat):Rat)*_)=_;rw[← hx];show x*(1*_)=_;grind⟩⟩
 | n+1=>by
   obtain⟨⟨zs,hs⟩,⟨zp,hp⟩⟩:=z1I hx n;have ho:=uh n
   have ed:((denU b (n+1):Nat):Rat)=((denU b n:Nat):Rat)*(((b:Nat):Rat)*((b:Nat):Rat)*((2*n+1:Nat):Rat)):=by
    show((denU b n*(b*b*(2*n+1)):Nat):Rat)=_
    rw[Rat.natCast_mul,Rat.natCast_mul,Rat.natCast_mul]
   refine⟨⟨zs*((b:Int)*(b:Int)*((2*n+1:Nat):Int))+zp*(b:Int),?_⟩,⟨zp*(-(a*a)*((2*n+1:Nat):Int)),?_⟩⟩
   · have e:serU x (n+1)=serU x n+powU x n / ((2*n+1:Nat):Rat):=rfl
     rw[e,ed,Rat.intCast_add,Rat.intCast_mul,Rat.intCast_mul,Rat.intCast_mul,Rat.intCast_mul,← hs,← hp];simp only[Rat.intCast_natCast];generalize ((denU b n:Nat):Rat)=D at *;generalize ((b:Nat):Rat)=B at *;generalize ((2*n+1:Nat):Rat)=m at *;grind
   · have e:powU x (n+1)=powU x n*(0-x*x):=rfl
     rw[e,ed,Rat.intCast_mul,Rat.intCast_mul,Rat.intCast_neg,Rat.intCast_mul,← hp,← hx];simp only[Rat.intCast_natCast];generalize ((denU b n:Nat):Rat)=D at *;generalize ((b:Nat):Rat)=B at *;generalize ((2*n+1:Nat):Rat)=m at *;grind
theorem z4W {x:Rat}(h1 : -1≤x)(h2:x≤1):0≤x*x∧x*x≤1:=by
 constructor
 · rcases Rat.le_total (a:=0) (b:=x) with h|h
   · exact Rat.mul_nonneg h h
   · have:=Rat.mul_nonneg (show 0 ≤ -x by grind) (show 0 ≤ -x by grind)
     grind
 · have:=Rat.mul_nonneg (show 0≤1-x by grind) (show 0≤1+x by grind)
   grind
theorem yg {x:Rat}(h1 : -1≤x)(h2:x≤1):∀ i,-1≤powU x i∧powU x i≤1
 | 0=>⟨h1,h2⟩
 | i+1=>by
   have h:=yg h1 h2 i;have s:=z4W h1 h2;have e:powU x (i+1)=powU x i*(0-x*x):=rfl;rw[e];generalize powU x i=p at *;generalize x*x=y at *;have a:=Rat.mul_nonneg (show 0≤1-p by grind) s.1;have b:=Rat.mul_nonneg (show 0≤1+p by grind) s.1;constructor<;>grind
theorem z0p {x:Rat}(h1 : -1≤x)(h2:x≤1)(i:Nat) : -1≤iK x i∧iK x i≤1:=by
 have h:=yg h1 h2 i
 have hd:(1:Rat)≤((2*i+1:Nat):Rat):=by
  have:((1:Nat):Rat)≤((2*i+1:Nat):Rat):=Rat.natCast_le_natCast.2 (by omega);exact this
 have e:iK x i*((2*i+1:Nat):Rat)=powU x i:=Rat.div_mul_cancel (uh i);generalize ((2*i+1:Nat):Rat)=d at *;generalize iK x i=t at *;generalize powU x i=p at *;have hp:0<d:=by grind
 refine⟨kv hp ?_,kv hp ?_⟩<;>grind
theorem xN {x:Rat}(h1 : -1≤x)(h2:x≤1):∀ n:Nat,-((n:Nat):Rat)≤serU x n∧serU x n≤((n:Nat):Rat)
 | 0=>(show -((0:Nat):Rat)≤0∧(0:Rat)≤((0:Nat):Rat) by decide +kernel)
 | n+1=>by
   have h:=xN h1 h2 n;have t:=z0p h1 h2 n;have e:serU x (n+1)=serU x n+iK x n:=rfl;have c:((n+1:Nat):Rat)=((n:Nat):Rat)+1:=by rw[Rat.natCast_add];rfl
   rw[e,c];constructor<;>grind
theorem z6z {b k:Nat}(hb:Sm k b):∀ n,n≤7→denU b n<10^(k*(2*n))*10^6:=by
 have hL:∀ n,denU b n=b^(2*n)*denU 1 n:=by
  intro n
  induction n with
  | zero=>rfl
  | succ n ih =>
    show denU b n*(b*b*(2*n+1))=b^(2*(n+1))*(denU 1 n*(1*1*(2*n+1)))
    rw[ih,show 2*(n+1)=2*n+1+1 by omega,Nat.pow_succ,Nat.pow_succ];grind
 intro n hn
 have h1:denU 1 n<10^6:=by
  obtain rfl|rfl|rfl|rfl|rfl|rfl|rfl|rfl:n=0∨n=1∨n=2∨n=3∨n=4∨n=5∨n=6∨n=7:=by omega
  all_goals decide
 have h2:b^(2*n)≤10^(k*(2*n)):=by
  have h:=Nat.pow_le_pow_left (Nat.le_of_lt hb) (2*n);rwa [← Nat.pow_mul]at h
 rw[hL];exact Nat.mul_lt_mul_of_le_of_lt h2 h1 (Nat.pow_pos (by decide))
theorem vE {x:Rat}{k n:Nat}(hx:SmQ k x)(h1 : -1≤x)(h2:x≤1)(hn:n≤7):SmQ (k*(2*n)+7) (serU x n):=by
 have hx0:x*((x.den:Nat):Rat)=((x.num:Int):Rat):=yh x;obtain⟨⟨z,hz⟩,_⟩:=z1I hx0 n;have hd:=yE x.den_nz n;have hD:=z6z hx.2 n hn;have hu:=xN h1 h2 n;have h7:((n:Nat):Rat)≤((7:Nat):Rat):=Rat.natCast_le_natCast.2 hn;have hc:(0:Rat)≤((denU x.den n:Nat):Rat):=Rat.natCast_nonneg
 have hzb:z.natAbs≤7*denU x.den n:=by
  have a:=Rat.mul_nonneg (show 0≤((7:Nat):Rat)-serU x n by grind) hc;have b:=Rat.mul_nonneg (show 0≤((7:Nat):Rat)+serU x n by grind) hc;have e7:(((7*denU x.den n:Nat):Int):Rat)=((7:Nat):Rat)*((denU x.den n:Nat):Rat):=by rw[Rat.intCast_natCast,Rat.natCast_mul]
  have c1:((z:Int):Rat)≤(((7*denU x.den n:Nat):Int):Rat):=by rw[e7];grind
  have c2:((-z:Int):Rat)≤(((7*denU x.den n:Nat):Int):Rat):=by rw[e7,Rat.intCast_neg];grind
  have d1:=Rat.intCast_le_intCast.1 c1;have d2:=Rat.intCast_le_intCast.1 c2;omega
 have e:serU x n=Rat.divInt z (denU x.den n:Int):=by
  rw[Rat.divInt_eq_div,← hz,Rat.intCast_natCast];have:((denU x.den n:Nat):Rat)≠0:=fun h=>hd (Rat.natCast_eq_zero_iff.1 h);grind
 rw[e]
 have hS:Sm (k*(2*n)+7) (7*denU x.den n):=by
  unfold Sm
  rw[Nat.pow_add];omega
 exact lH (by omega) (hS.le hzb) (hS.le (by simp;omega))
theorem iE {x:Rat}{k n:Nat}(hx:SmQ k x)(h1 : -1≤x)(h2:x≤1)(hn:n≤6):SmQ (k*14+7) (serI x n).1∧SmQ (k*14+7) (serI x n).2:=by
 have a:=(vE hx h1 h2 (n:=n) (by omega)).mono (show k*(2*n)+7≤k*14+7 from Nat.add_le_add_right (Nat.mul_le_mul_left _ (by omega)) _);have b:=(vE hx h1 h2 (n:=n+1) (by omega)).mono (show k*(2*(n+1))+7≤k*14+7 from Nat.add_le_add_right (Nat.mul_le_mul_left _ (by omega)) _);exact tH a a b b
theorem pM {n:Nat}(hn:n≤6):SmQ 75 (piI n).1∧SmQ 75 (piI n).2:=by
 have a:=iE s5 (by decide +kernel) (by decide +kernel) hn;have b:=iE s239 (by decide +kernel) (by decide +kernel) hn;have c:=dJ s16 a.1 a.2;have d:=dJ s4 b.1 b.2;exact⟨(c.1.sub d.2).mono (by decide),(c.2.sub d.1).mono (by decide)⟩
theorem vD {x:Rat}{k:Nat}(hx:SmQ k x)(h1:1 / 2<x)(h2:x≤1):SmQ (k+1) (nL x):=by
 have hx0:x*((x.den:Nat):Rat)=((x.num:Int):Rat):=yh x
 have hd:(0:Rat)<((x.den:Nat):Rat):=by
  have:x.den≠0:=x.den_nz;obtain⟨m,hm⟩:∃ m,x.den=m+1:=⟨x.den-1,by omega⟩;rw[hm];exact(Rat.natCast_lt_natCast.2 (by omega):((0:Nat):Rat)<((m+1:Nat):Rat))
 have e:nL x=Rat.divInt ((x.den:Int)-x.num) ((x.den:Int)+x.num):=by
  rw[Rat.divInt_eq_div,Rat.intCast_sub,Rat.intCast_add,Rat.intCast_natCast,← hx0];unfold nL
  generalize ((x.den:Nat):Rat)=d at *;have hp:1+x≠0:=by grind
  have hq:d+x*d≠0:=by
   intro h;have:(1+x)*d=0:=by grind
   rcases Rat.mul_eq_zero.1 this with h|h<;>grind
  grind
 have hn0:0≤x.num:=Rat.num_nonneg.2 (by grind)
 have hn1:x.num≤(x.den:Int):=by
  have a:=Rat.mul_nonneg (show 0≤1-x by grind) (show 0≤((x.den:Nat):Rat) by grind);refine Rat.intCast_le_intCast.1 ?_;rw[Rat.intCast_natCast];grind
 have hk:=hx.2;have hdn:x.den≠0:=x.den_nz;rw[e];unfold Sm at hk
 refine lH (by omega) ?_ ?_
 · unfold Sm
   rw[Nat.pow_succ];omega
 · unfold Sm
   rw[Nat.pow_succ];omega
theorem xM {x:Rat}{n:Nat}(hx:SmQ 7 x)(h1 : -1≤x)(h2:x≤1)(hn:n≤6):SmQ 200 (atI n x).1∧SmQ 200 (atI n x).2:=by
 by_cases h:x≤1 / 2
 · rw[wO h]
   have a:=iE hx h1 h2 hn;exact⟨a.1.mono (by decide),a.2.mono (by decide)⟩
 · rw[sG h]
   have r:=vJ (x:=x) (by grind) h2;have a:=iE (vD hx (by grind) h2) (by grind) (by grind) hn;have p:=pM hn;have c:=dJ s14 p.1 p.2;exact⟨(c.1.sub a.2).mono (by decide),(c.2.sub a.1).mono (by decide)⟩
theorem z0E {x:Rat}{n:Nat}(hx:SmQ 7 x)(h1 : -1≤x)(h2:x≤1)(hn:n≤6):SmQ 200 (atJ n x).1∧SmQ 200 (atJ n x).2:=by
 unfold atJ
 split
 · have a:=xM hx.neg (by grind) (by grind) hn
   exact⟨a.2.neg,a.1.neg⟩
 · exact xM hx h1 h2 hn
theorem z0D {x:Rat}{n:Nat}(hx:SmQ 7 x)(h1 : -1≤x)(h2:x≤1)(hn1:1≤n)(hn:n≤6):SmQ 278 (degJ n x).1∧SmQ 278 (degJ n x).2:=by
 have a:=z0E hx h1 h2 hn;have p:=pM hn;have m:=dJ s360 a.1 a.2;have hp:=z14 n hn1 hn;have hl:=nM n;have n1:(piI n).1≠0:=by grind
 have n2:(piI n).2≠0:=by grind
 exact tH (m.1.div p.1 n1) (m.1.div p.2 n2) (m.2.div p.1 n1) (m.2.div p.2 n2)
theorem z00 {n:Nat}(hn1:1≤n)(hn:n≤6)(w:World)(hla:La w):CV w 19 #[.int .i64 (n:Int)] (.agg #[.int .i64 (n:Int),.string (Sq (piI n).1),.string (Sq (piI n).2)]):=by
 have _:=hn1;have a:=iE s5 (by decide +kernel) (by decide +kernel) hn;have b:=iE s239 (by decide +kernel) (by decide +kernel) hn
 have h1:(n+1)*(1+(1+1)*(n+1)+4+1)+1≤900:=by
  obtain rfl|rfl|rfl|rfl|rfl|rfl|rfl:n=0∨n=1∨n=2∨n=3∨n=4∨n=5∨n=6:=by omega
  all_goals decide
 have h3:(n+1)*(3+(3+3)*(n+1)+4+1)+1≤900:=by
  obtain rfl|rfl|rfl|rfl|rfl|rfl|rfl:n=0∨n=1∨n=2∨n=3∨n=4∨n=5∨n=6:=by omega
  all_goals decide
 have e1:=fP (n:=n) s5 (by omega) h1 w hla;have e2:=fP (n:=n) s239 (by omega) h3 w hla;have c:=dJ s16 a.1 a.2;have d:=dJ s4 b.1 b.2;have e3:=gB s16 a.1 a.2 (jw _ _) (by decide) w hla;have e4:=gB s4 b.1 b.2 (jw _ _) (by decide) w hla;have e5:=yP (c.1.fit (by decide)) (c.2.fit (by decide)) (d.1.fit (by decide)) (d.2.fit (by decide)) (gP 16 (serI (1 / 5) n)) (gP 4 (serI (1 / 239) n)) w hla;rw[t5]at e1;rw[t239]at e2;rw[t16]at e3;rw[t4]at e4;exact oG _ _ _ _ _ _ _ _ _ _ _ w e1 e2 e3 e4 e5
theorem z4H {n:Nat}{x:Rat}(hn:n≤6)(hx:SmQ 7 x)(h1 : -1 / 2≤x)(h2:x≤1)(w:World)(hla:La w) :
 CV w 36 #[.agg #[.int .i64 (n:Int),.string (Sq (piI n).1),.string (Sq (piI n).2)],.string (Sq x)] (.agg #[.string (Sq (atI n x).1),.string (Sq (atI n x).2)]):=by
 have hx9:aO x:=hx.fit (by decide);have sn12:SmQ 2 (-(1:Rat) / 2):=⟨by unfold Sm;decide +kernel,by unfold Sm;decide +kernel⟩;have o1:=gz (x:=x) (y := -(1:Rat) / 2) rfl hx9 (sn12.fit (by decide)) w hla;have o2:=gz (x:=x) (y:=(1:Rat) / 2) rfl hx9 (s12.fit (by decide)) w hla;rw[tn12]at o1;rw[t12]at o2
 have hk:(n+1)*(7+(7+7)*(n+1)+4+1)+1≤900:=by
  obtain rfl|rfl|rfl|rfl|rfl|rfl|rfl:n=0∨n=1∨n=2∨n=3∨n=4∨n=5∨n=6:=by omega
  all_goals decide
 have hl:(n+1)*(8+(8+8)*(n+1)+4+1)+1≤900:=by
  obtain rfl|rfl|rfl|rfl|rfl|rfl|rfl:n=0∨n=1∨n=2∨n=3∨n=4∨n=5∨n=6:=by omega
  all_goals decide
 have f1:decide (cmpQ x (-(1:Rat) / 2)<0)=false:=by
  rcases cz x (-(1:Rat) / 2) with⟨h,e⟩|⟨h,e⟩|⟨h,e⟩
  · grind
  · rw[e];rfl
  · rw[e];rfl
 by_cases hm:x≤1 / 2
 · have f2:decide (cmpQ x ((1:Rat) / 2)≤0)=true:=by
    rcases cz x ((1:Rat) / 2) with⟨h,e⟩|⟨h,e⟩|⟨h,e⟩
    · rw[e];rfl
    · rw[e];rfl
    · grind
   rw[wO hm];exact uT _ _ _ _ _ _ _ _ w o1 o2 (fP hx (by omega) hk w hla) f1 f2
 · rw[sG hm]
   have hgt:(1:Rat) / 2<x:=by grind
   rw[mh hgt]at o2;have hr:=vD hx hgt h2;have hri:=vJ hgt h2;have e3:=jg (x:=1) (y:=x) rfl (su1.fit (by decide)) hx9 w hla;have e4:=iH (x:=1) (y:=x) rfl (su1.fit (by decide)) hx9 w hla;have hne:1+x≠0:=by grind
   have e5:=oz (x:=1-x) (y:=1+x) rfl ((su1.sub hx).fit (by decide)) ((su1.add hx).fit (by decide)) hne w hla;have hp:=pM hn;have e6:=gB s14 hp.1 hp.2 (nM n) (by decide) w hla;have hq:=dJ s14 hp.1 hp.2;have hs:=iE (n:=n) hr (by grind) (by grind) hn;have e7:=fP (n:=n) hr (by omega) hl w hla;have e8:=yP (hq.1.fit (by decide)) (hq.2.fit (by decide)) (hs.1.fit (by decide)) (hs.2.fit (by decide)) (gP (1 / 4) (piI n)) (jw (nL x) n) w hla;rw[uq1]at e3 e4;rw[t14]at e6;exact qx _ _ _ _ _ _ _ _ _ _ _ _ _ _ w o1 o2 e3 e4 e5 e6 e7 e8 f1
theorem yo {p:Rat × Rat}(h:p.1≤p.2):mulI (-1) p=negI p:=by
 have o:=xR (-1*p.1) (-1*p.2) (-1*p.1) (-1*p.2);have i:=z4Y (-1*p.1) (-1*p.2) (-1*p.1) (-1*p.2)
 have e1:(mulI (-1) p).1 = -p.2:=by
  unfold mulI
  grind
 have e2:(mulI (-1) p).2 = -p.1:=by
  unfold mulI
  grind
 unfold negI
 exact Prod.ext e1 e2
theorem z6K {n:Nat}{x:Rat}(hn:n≤6)(hx:SmQ 7 x)(h1 : -1≤x)(h2:x≤1)(w:World)(hla:La w) :
 CV w 36 #[.agg #[.int .i64 (n:Int),.string (Sq (piI n).1),.string (Sq (piI n).2)],.string (Sq x)] (.agg #[.string (Sq (atJ n x).1),.string (Sq (atJ n x).2)]):=by
 unfold atJ
 by_cases h:x < -1 / 2
 · rw[if_pos h]
   have hx9:aO x:=hx.fit (by decide);have sn12:SmQ 2 (-(1:Rat) / 2):=⟨by unfold Sm;decide +kernel,by unfold Sm;decide +kernel⟩;have o1:=gz (x:=x) (y := -(1:Rat) / 2) (oo h) hx9 (sn12.fit (by decide)) w hla;have e2:=jg (x:=0) (y:=x) (z := -x) (by grind) (su0.fit (by decide)) hx9 w hla;have e3:=z4H hn hx.neg (by grind) (by grind) w hla;have s:=xM hx.neg (by grind) (by grind) hn;have e4:=gB sun s.1 s.2 (qo n (-x)) (by decide) w hla;rw[yo (qo n (-x)),uqn]at e4;rw[tn12]at o1;rw[uq0]at e2;exact z2e _ _ _ _ _ _ _ _ _ w o1 e2 e3 e4
 · rw[if_neg h]
   exact z4H hn hx (by grind) h2 w hla
theorem z5M {n:Nat}{x:Rat}(hn1:1≤n)(hn:n≤6)(hx:SmQ 7 x)(h1 : -1≤x)(h2:x≤1)(w:World)(hla:La w) :
 CV w 20 #[.agg #[.int .i64 (n:Int),.string (Sq (piI n).1),.string (Sq (piI n).2)],.string (Sq x)] (.agg #[.string (Sq (degJ n x).1),.string (Sq (degJ n x).2)]):=by
 have a:=z0E hx h1 h2 hn;have hp:=pM hn;have hle:=nM n;have hpos:=z14 n hn1 hn;have hs:=dJ s360 a.1 a.2;have e2:=gB s360 a.1 a.2 (z6E n x) (by decide) w hla;rw[t360]at e2;have n1:(piI n).1≠0:=by grind
 have n2:(piI n).2≠0:=by grind
 have d1:=(hs.1.div hp.1 n1).fit (by decide);have d2:=(hs.1.div hp.2 n2).fit (by decide);have d3:=(hs.2.div hp.1 n1).fit (by decide);have d4:=(hs.2.div hp.2 n2).fit (by decide);exact yN _ _ _ _ _ _ _ _ _ _ 0 w (z6K hn hx h1 h2 w hla) e2 (fun W hW=>xDiv _ _ _ _ _ _ _ _ rfl rfl rfl rfl (gP 360 (atJ n x)) hle (decide_eq_false (by grind)) (hs.1.fit (by decide)) (hs.2.fit (by decide)) (hp.1.fit (by decide)) (hp.2.fit (by decide)) d1 d2 d3 d4 W (hla.on hW))
def lstQ (x y:Rat):Rat:=if cmpQ x y≤0 then x else y
def mstQ (x y:Rat):Rat:=if 0≤cmpQ x y then x else y
theorem nS (x y:Rat):lstQ x y≤x∧lstQ x y≤y:=by
 unfold lstQ
 rcases cz x y with⟨h,e⟩|⟨h,e⟩|⟨h,e⟩<;>rw[e]<;>simp<;>grind
theorem nR (x y:Rat):x≤mstQ x y∧y≤mstQ x y:=by
 unfold mstQ
 rcases cz x y with⟨h,e⟩|⟨h,e⟩|⟨h,e⟩<;>rw[e]<;>simp<;>grind
theorem ja (x y:Rat):lstQ x y=x∨lstQ x y=y:=by
 unfold lstQ
 split
 · exact Or.inl rfl
 · exact Or.inr rfl
theorem j5 (x y:Rat):mstQ x y=x∨mstQ x y=y:=by
 unfold mstQ
 split
 · exact Or.inl rfl
 · exact Or.inr rfl
theorem z4p {k:Nat}{x y:Rat}(hx:SmQ k x)(hy:SmQ k y):SmQ k (lstQ x y):=by rcases ja x y with e|e<;>rw[e]<;>assumption
theorem z4o {k:Nat}{x y:Rat}(hx:SmQ k x)(hy:SmQ k y):SmQ k (mstQ x y):=by rcases j5 x y with e|e<;>rw[e]<;>assumption
theorem z3u (q:Nat→Rat)(n:Nat){m:Rat}(h1:∀ i,i≤n→m≤q i)(h2:∃ i,i≤n∧m=q i):(exOf q n).1=m:=by
 obtain⟨i,hi,e⟩:=h2;obtain⟨j,hj,f⟩:=(mY q n).1;have a:=(rP q n i hi).1;have b:=h1 j hj;grind
theorem z5r (q:Nat→Rat)(n:Nat){m:Rat}(h1:∀ i,i≤n→q i≤m)(h2:∃ i,i≤n∧m=q i):(exOf q n).2=m:=by
 obtain⟨i,hi,e⟩:=h2;obtain⟨j,hj,f⟩:=(mY q n).2;have a:=(rP q n i hi).2;have b:=h1 j hj;grind
theorem z4y {p0 p1 p2 p3:Rat}{P:Rat→Prop}(h0:P p0)(h1:P p1)(h2:P p2)(h3:P p3)(i:Nat):P (row4 p0 p1 p2 p3 i):=by
 match i with
 | 0=>exact h0
 | 1=>exact h1
 | 2=>exact h2
 | _+3=>exact h3
theorem z4x {p0 p1 p2 p3 m:Rat}(h:m=p0∨m=p1∨m=p2∨m=p3):∃ i,i≤3∧m=row4 p0 p1 p2 p3 i:=by
 rcases h with h|h|h|h
 · exact⟨0,by decide,h⟩
 · exact⟨1,by decide,h⟩
 · exact⟨2,by decide,h⟩
 · exact⟨3,by decide,h⟩
theorem wh {p0 p1 p2 p3:Rat}:(exOf (row4 p0 p1 p2 p3) 3).1=lstQ (lstQ p0 p2) (lstQ p1 p3):=by
 have a:=nS (lstQ p0 p2) (lstQ p1 p3);have b:=nS p0 p2;have c:=nS p1 p3;refine z3u _ _ (fun i _=>z4y (P:=fun x=>lstQ (lstQ p0 p2) (lstQ p1 p3)≤x) ?_ ?_ ?_ ?_ i) (z4x ?_)
 · grind
 · grind
 · grind
 · grind
 · rcases ja (lstQ p0 p2) (lstQ p1 p3) with e|e<;>rw[e]
   · rcases ja p0 p2 with f|f<;>simp[f]
   · rcases ja p1 p3 with f|f<;>simp[f]
theorem wy {p0 p1 p2 p3:Rat}:(exOf (row4 p0 p1 p2 p3) 3).2=mstQ (mstQ p0 p2) (mstQ p1 p3):=by
 have a:=nR (mstQ p0 p2) (mstQ p1 p3);have b:=nR p0 p2;have c:=nR p1 p3;refine z5r _ _ (fun i _=>z4y (P:=fun x=>x≤mstQ (mstQ p0 p2) (mstQ p1 p3)) ?_ ?_ ?_ ?_ i) (z4x ?_)
 · grind
 · grind
 · grind
 · grind
 · rcases j5 (mstQ p0 p2) (mstQ p1 p3) with e|e<;>rw[e]
   · rcases j5 p0 p2 with f|f<;>simp[f]
   · rcases j5 p1 p3 with f|f<;>simp[f]
theorem z1h (x y:Rat):lstQ x y=lstQ y x:=by
 have a:=nS x y;have b:=nS y x;rcases ja x y with e|e<;>rcases ja y x with f|f<;>grind
theorem z1c (x y:Rat):mstQ x y=mstQ y x:=by
 have a:=nR x y;have b:=nR y x;rcases j5 x y with e|e<;>rcases j5 y x with f|f<;>grind
end Go.Proofs.YtoaeaiiabelhkaaGreatDoor
set_option maxRecDepth 100000
set_option maxHeartbeats 20000000
open Go.Lib (hid)
namespace Go.Proofs.YtoaeaiiabelhkaaGreatDoor
open Go.RowKit Go.Gb
set_option linter.unusedSimpArgs false
theorem z3i (xa ya:Rat)(k:Int)(q1:QS)(q2:QS)(w:World)(hk:decide (k≤0)=true)(h1:KP2 27 xa ya (.int .i64 k))(r1:FQ w q1 xa)(r2:FQ w q2 ya) :
 Calls Tryz.prog 135 #[(QS.v q1),(QS.v q2)] w (RQ w xa):=by
 dsimp only[QS.v];obtain ⟨C1,R1,R2⟩:=ak h1 r1 r2;have hkk:=hk;clear hk h1 r1 r2;go_enter func135,ntmps135
 go_upto_region 1 with fail
 refine av w [(q1.l.toArray,49),(q2.l.toArray,49),(#[.bool false,.slice none 0 0,.slice none 0 0],49)] rfl ?_;rintro W0 ⟨k1,k2,k3,hb⟩;have u6:=hid (show Below w.heap.size w W0 from hb);obtain ⟨R1,R2⟩:=aK u6.o R1 R2;obtain ⟨K1,K2,K3⟩:=ak k1 k2 k3;clear k1 k2 k3 hb;obtain ⟨uu,w9,wm⟩:=aA K1.o rfl rfl rfl;obtain ⟨wo,wu,ww⟩:=aA K2.o rfl rfl rfl;go_wp2_with fail
 with_reducible refine(C1.o _ _ _ R1.o R2.o).mono ?_
 rintro e W1 ⟨rfl,hb⟩;clear uu w9 wm wo wu ww;obtain ⟨K1,K3,R1⟩:=bA hb K1 K3 R1;have si:=hbt u6 hb;clear hb;obtain ⟨uu,w9,wm⟩:=aA K1.o rfl rfl rfl;obtain ⟨sj,su,sw⟩:=aA K3.o rfl rfl rfl;obtain ⟨rM,rV,p8⟩:=bC K3.o;go_wp2;exact bodyPost_ret (v:=q1.v) (by simp[Lvv,QS.l,Qvv,QS.v,results,results135,go_sem,sj,su,sw]) rfl ⟨_,rfl,(bO q1.l 0 R1.o K3.o (by simp[bJ,Lvv,QS.l]) (by simp[aU,Lvv,QS.l])),(aj (l:=q1.l) (i:=0) (by omega) si.o)⟩
theorem z3j (xa ya:Rat)(k:Int)(q1:QS)(q2:QS)(w:World)(hk:decide (k≤0)=false)(h1:KP2 27 xa ya (.int .i64 k))(r1:FQ w q1 xa)(r2:FQ w q2 ya) :
 Calls Tryz.prog 135 #[(QS.v q1),(QS.v q2)] w (RQ w ya):=by
 dsimp only[QS.v];obtain ⟨C1,R1,R2⟩:=ak h1 r1 r2;have hkk:=hk;clear hk h1 r1 r2;go_enter func135,ntmps135
 go_upto_region 1 with fail
 refine av w [(q1.l.toArray,49),(q2.l.toArray,49),(#[.bool false,.slice none 0 0,.slice none 0 0],49)] rfl ?_;rintro W0 ⟨k1,k2,k3,hb⟩;have u6:=hid (show Below w.heap.size w W0 from hb);obtain ⟨R1,R2⟩:=aK u6.o R1 R2;obtain ⟨K1,K2,K3⟩:=ak k1 k2 k3;clear k1 k2 k3 hb;obtain ⟨uu,w9,wm⟩:=aA K1.o rfl rfl rfl;obtain ⟨wo,wu,ww⟩:=aA K2.o rfl rfl rfl;go_wp2_with fail
 with_reducible refine(C1.o _ _ _ R1.o R2.o).mono ?_
 rintro e W1 ⟨rfl,hb⟩;clear uu w9 wm wo wu ww;obtain ⟨K2,K3,R2⟩:=bA hb K2 K3 R2;have si:=hbt u6 hb;clear hb;obtain ⟨wo,wu,ww⟩:=aA K2.o rfl rfl rfl;obtain ⟨sj,su,sw⟩:=aA K3.o rfl rfl rfl;obtain ⟨rM,rV,p8⟩:=bC K3.o;go_wp2;exact bodyPost_ret (v:=q2.v) (by simp[Lvv,QS.l,Qvv,QS.v,results,results135,go_sem,sj,su,sw]) rfl ⟨_,rfl,(bO q2.l 0 R2.o K3.o (by simp[bJ,Lvv,QS.l]) (by simp[aU,Lvv,QS.l])),(aj (l:=q2.l) (i:=0) (by omega) si.o)⟩
theorem z6s {x y:Rat}(hx:SmQ 900 x)(hy:SmQ 900 y):KQ2 135 x y (lstQ x y):=by
 intro q0 q1 W r0 r1;have C:=kp2 (zl x y _ rfl (tu hx (by decide) (by decide)) (tu hy (by decide) (by decide)));unfold lstQ
 by_cases hc:cmpQ x y≤0
 · rw[if_pos hc]
   exact z3i x y _ q0 q1 W (decide_eq_true hc) C r0 r1
 · rw[if_neg hc]
   exact z3j x y _ q0 q1 W (decide_eq_false hc) C r0 r1
theorem z5l (xa ya:Rat)(k:Int)(q1:QS)(q2:QS)(w:World)(hk:decide (0≤k)=true)(h1:KP2 27 xa ya (.int .i64 k))(r1:FQ w q1 xa)(r2:FQ w q2 ya) :
 Calls Tryz.prog 136 #[(QS.v q1),(QS.v q2)] w (RQ w xa):=by
 dsimp only[QS.v];obtain ⟨C1,R1,R2⟩:=ak h1 r1 r2;have hkk:=hk;clear hk h1 r1 r2;go_enter func136,ntmps136
 go_upto_region 1 with fail
 refine av w [(q1.l.toArray,49),(q2.l.toArray,49),(#[.bool false,.slice none 0 0,.slice none 0 0],49)] rfl ?_;rintro W0 ⟨k1,k2,k3,hb⟩;have u6:=hid (show Below w.heap.size w W0 from hb);obtain ⟨R1,R2⟩:=aK u6.o R1 R2;obtain ⟨K1,K2,K3⟩:=ak k1 k2 k3;clear k1 k2 k3 hb;obtain ⟨uu,w9,wm⟩:=aA K1.o rfl rfl rfl;obtain ⟨wo,wu,ww⟩:=aA K2.o rfl rfl rfl;go_wp2_with fail
 with_reducible refine(C1.o _ _ _ R1.o R2.o).mono ?_
 rintro e W1 ⟨rfl,hb⟩;clear uu w9 wm wo wu ww;obtain ⟨K1,K3,R1⟩:=bA hb K1 K3 R1;have si:=hbt u6 hb;clear hb;obtain ⟨uu,w9,wm⟩:=aA K1.o rfl rfl rfl;obtain ⟨sj,su,sw⟩:=aA K3.o rfl rfl rfl;obtain ⟨rM,rV,p8⟩:=bC K3.o;go_wp2;exact bodyPost_ret (v:=q1.v) (by simp[Lvv,QS.l,Qvv,QS.v,results,results136,go_sem,sj,su,sw]) rfl ⟨_,rfl,(bO q1.l 0 R1.o K3.o (by simp[bJ,Lvv,QS.l]) (by simp[aU,Lvv,QS.l])),(aj (l:=q1.l) (i:=0) (by omega) si.o)⟩
theorem z5m (xa ya:Rat)(k:Int)(q1:QS)(q2:QS)(w:World)(hk:decide (0≤k)=false)(h1:KP2 27 xa ya (.int .i64 k))(r1:FQ w q1 xa)(r2:FQ w q2 ya) :
 Calls Tryz.prog 136 #[(QS.v q1),(QS.v q2)] w (RQ w ya):=by
 dsimp only[QS.v];obtain ⟨C1,R1,R2⟩:=ak h1 r1 r2;have hkk:=hk;clear hk h1 r1 r2;go_enter func136,ntmps136
 go_upto_region 1 with fail
 refine av w [(q1.l.toArray,49),(q2.l.toArray,49),(#[.bool false,.slice none 0 0,.slice none 0 0],49)] rfl ?_;rintro W0 ⟨k1,k2,k3,hb⟩;have u6:=hid (show Below w.heap.size w W0 from hb);obtain ⟨R1,R2⟩:=aK u6.o R1 R2;obtain ⟨K1,K2,K3⟩:=ak k1 k2 k3;clear k1 k2 k3 hb;obtain ⟨uu,w9,wm⟩:=aA K1.o rfl rfl rfl;obtain ⟨wo,wu,ww⟩:=aA K2.o rfl rfl rfl;go_wp2_with fail
 with_reducible refine(C1.o _ _ _ R1.o R2.o).mono ?_
 rintro e W1 ⟨rfl,hb⟩;clear uu w9 wm wo wu ww;obtain ⟨K2,K3,R2⟩:=bA hb K2 K3 R2;have si:=hbt u6 hb;clear hb;obtain ⟨wo,wu,ww⟩:=aA K2.o rfl rfl rfl;obtain ⟨sj,su,sw⟩:=aA K3.o rfl rfl rfl;obtain ⟨rM,rV,p8⟩:=bC K3.o;go_wp2;exact bodyPost_ret (v:=q2.v) (by simp[Lvv,QS.l,Qvv,QS.v,results,results136,go_sem,sj,su,sw]) rfl ⟨_,rfl,(bO q2.l 0 R2.o K3.o (by simp[bJ,Lvv,QS.l]) (by simp[aU,Lvv,QS.l])),(aj (l:=q2.l) (i:=0) (by omega) si.o)⟩
theorem z7l {x y:Rat}(hx:SmQ 900 x)(hy:SmQ 900 y):KQ2 136 x y (mstQ x y):=by
 intro q0 q1 W r0 r1;have C:=kp2 (zl x y _ rfl (tu hx (by decide) (by decide)) (tu hy (by decide) (by decide)));unfold mstQ
 by_cases hc:0≤cmpQ x y
 · rw[if_pos hc]
   exact z5l x y _ q0 q1 W (decide_eq_true hc) C r0 r1
 · rw[if_neg hc]
   exact z5m x y _ q0 q1 W (decide_eq_false hc) C r0 r1
theorem hTo {x:Rat}(hx:SmQ 900 x):KP1 67 x (.string (Sq x)):=kp1 (sQTo x _ rfl (hx.mono (by decide)))
theorem hMul {x y:Rat}(hx:SmQ 900 x)(hy:SmQ 900 y):KQ2 56 x y (x*y):=kq2 (z6j x y _ rfl (ylq hx (by decide)) (ylq hy (by decide)))
theorem hAdd {x y:Rat}(hx:SmQ 900 x)(hy:SmQ 900 y):KQ2 57 x y (x+y):=kq2 (z6l x y _ rfl (ylq hx (by decide)) (ylq hy (by decide)))
theorem hSub {x y:Rat}(hx:SmQ 900 x)(hy:SmQ 900 y):KQ2 101 x y (x-y):=kq2 (z6Z x y _ rfl (ylq hx (by decide)) (ylq hy (by decide)))
theorem hDiv {x y:Rat}(h0:y≠0)(hx:SmQ 900 x)(hy:SmQ 900 y):KQ2 100 x y (x / y):=kq2 (z7a x y _ rfl h0 (ylq hx (by decide)) (ylq hy (by decide)))
theorem hInv {x:Rat}(h0:x≠0)(hx:SmQ 900 x):KQ1 95 x x⁻¹:=kq1 (z6k x _ rfl h0 (ylq hx (by decide)))
theorem hNeg {x:Rat}(hx:SmQ 900 x):KQ1 98 x (-x):=kq1 (z6i x _ rfl (ylq hx (by decide)))
theorem hCmp {x y:Rat}(hx:SmQ 900 x)(hy:SmQ 900 y):KP2 27 x y (.int .i64 (cmpQ x y)):=kp2 (zl x y _ rfl (ylq hx (by decide)) (ylq hy (by decide)))
theorem hInt (k:Int)(n:Nat)(q:Rat)(hk:(n:Int)=k)(h2:n≤2000000000)(hn:q.num=k)(hd:q.den=1):KS 24 (.int .i64 k) q:=ks (fun W=>z2H k q n hk h2 hn hd W)
theorem z6t (a l:Int)(n:Nat)(q:Rat)(hS:∀ W,CZ 55 #[.int .i64 a] W a)(ha:aa a≤50000)(hl:(n:Int)=l)(h1:1≤n)(h2:n≤1000000)(hq:mkRat a n=q):KS2 58 (.int .i64 a) (.int .i64 l) q:=fun W=>by
 subst hl;refine(z3o a (n:Int) a q.num n q.den (by simp[IntKind.wrap,IntKind.bits,IntKind.signed];omega) W hS (fun W=>jf (n:Int) n rfl (by omega) W) (fun p1 c1 s2 d2 W a b=>?_)).mono ?_
 · exact qO _ n q hq (by omega) ha (Nat.le_trans (gN (show n≤1000000 by omega)) (by decide +kernel)) p1 c1 s2 d2 W a b
 · rintro e w' ⟨p,c,s,d,he,r1,r2,hb⟩
   exact⟨⟨_,p,_,c,s,_,d⟩,he,⟨rfl,rfl,rfl,r1,r2⟩,hb⟩
theorem ut (l:Int)(n:Nat)(q:Rat)(hl:(n:Int)=l)(h1:1≤n)(h2:n≤1000000)(hq:mkRat 1 n=q):KS2 58 (.int .i64 1) (.int .i64 l) q :=
 z6t 1 l n q (fun W=>z4s 1 1 rfl (by decide) (by decide) W) (by show ag 1≤50000;rw[jM];decide) hl h1 h2 hq
theorem z5n (x:Rat):KI1 97 x x x:=fun q W r=>z7n x q W r
theorem z5o {a b c d:Rat}(ha:SmQ 900 a)(hb:SmQ 900 b)(hc:SmQ 900 c)(hd:SmQ 900 d):KII 96 a b c d (lstQ a c) (mstQ b d):=fun p q r s W h1 h2 h3 h4=>z7o a b c d _ _ p q r s W (z6s ha hc) (z7l hb hd) h1 h2 h3 h4
theorem z1p {a b k:Rat}(ha:SmQ 400 a)(hb:SmQ 400 b)(hk:SmQ 400 k):KIQ 60 a b k (lstQ (a*k) (b*k)) (mstQ (a*k) (b*k)):=fun p q r W h1 h2 h3 =>
 z6w a b k _ _ _ _ p q r W (hMul (ha.mono (by decide)) (hk.mono (by decide))) (z5n _) (hMul (hb.mono (by decide)) (hk.mono (by decide))) (z5n _) (z5o ((ha.mul hk).mono (by decide)) ((ha.mul hk).mono (by decide)) ((hb.mul hk).mono (by decide)) ((hb.mul hk).mono (by decide))) h1 h2 h3
theorem m8 {x y:Rat}(hx:SmQ 400 x)(hy:SmQ 400 y):SmQ 900 (x*y):=(hx.mul hy).mono (by decide)
theorem z6r {a b c d:Rat}(ha:SmQ 400 a)(hb:SmQ 400 b)(hc:SmQ 400 c)(hd:SmQ 400 d):KII 94 a b c d (lstQ (lstQ (a*c) (b*c)) (lstQ (a*d) (b*d))) (mstQ (mstQ (a*c) (b*c)) (mstQ (a*d) (b*d))):=fun p q r s W h1 h2 h3 h4 =>
 z6v a b c d _ _ _ _ _ _ p q r s W (z1p ha hb hc) (z1p ha hb hd) (z5o (z4p (m8 ha hc) (m8 hb hc)) (z4o (m8 ha hc) (m8 hb hc)) (z4p (m8 ha hd) (m8 hb hd)) (z4o (m8 ha hd) (m8 hb hd))) h1 h2 h3 h4
theorem z7k {p q:Rat × Rat}(ha:SmQ 400 p.1)(hb:SmQ 400 p.2)(hc:SmQ 400 q.1)(hd:SmQ 400 q.2)(c0:q.1≠0)(d0:q.2≠0):KII 59 p.1 p.2 q.1 q.2 (divI p q).1 (divI p q).2:=fun x y r s W h1 h2 h3 h4=>by
 have h:=z7m p.1 p.2 q.1 q.2 _ _ _ _ x y r s W (hInv d0 (hd.mono (by decide))) (hInv c0 (hc.mono (by decide))) (z6r ha hb (hd.inv d0) (hc.inv c0)) h1 h2 h3 h4;rw[← Rat.div_def,← Rat.div_def,← Rat.div_def,← Rat.div_def,z1h (lstQ (p.1 / q.2) (p.2 / q.2)),z1c (mstQ (p.1 / q.2) (p.2 / q.2))]at h;unfold divI
 rw[wh,wy];exact h
theorem rC (a:Rat):lstQ a a=a:=by rcases ja a a with e|e<;>exact e
theorem rA (a:Rat):mstQ a a=a:=by rcases j5 a a with e|e<;>exact e
theorem nX {x:Rat}{p:Rat × Rat}(h1:SmQ 400 p.1)(h2:SmQ 400 p.2)(hx:SmQ 400 x):KIQ 60 p.1 p.2 x (mulI x p).1 (mulI x p).2:=by
 have h:=z1p h1 h2 hx;unfold mulI
 rw[wh,wy,rC,rC,rA,rA,Rat.mul_comm x p.1,Rat.mul_comm x p.2];exact h
theorem z1q {p q:Rat × Rat}(h1:SmQ 900 p.1)(h2:SmQ 900 p.2)(h3:SmQ 900 q.1)(h4:SmQ 900 q.2):KII 102 p.1 p.2 q.1 q.2 (subI p q).1 (subI p q).2:=fun x y r s W k1 k2 k3 k4 =>
 z6x p.1 p.2 q.1 q.2 _ _ x y r s W (hSub h1 h4) (hSub h2 h3) k1 k2 k3 k4
theorem hIo {p:Rat × Rat}(ha:SmQ 900 p.1)(hb:SmQ 900 p.2):KI2 28 p.1 p.2 (.agg #[.string (Sq p.1),.string (Sq p.2)]):=fun x y W h1 h2=>gTo p.1 p.2 _ _ x y W (hTo ha) (hTo hb) h1 h2
theorem yI0:KS 24 (.int .i64 0) 0:=ks (fun W=>z2H 0 0 0 rfl (by decide) rfl rfl W)
theorem ySer {x:Rat}{k n:Nat}(hx:SmQ k x)(hk:k≤10)(hn:n≤6)(h1 : -1≤x)(h2:x≤1):KEn 99 x (.int .i64 (n:Int)) (serI x n).1 (serI x n).2:=by
 have hp:∀ i,i≤n→SmQ 150 (powU x i):=fun i hi=>(xL hx i).mono (by
  have:=Nat.mul_le_mul (show k+k≤20 by omega) (show i≤6 by omega)
  omega)
 have hs:∀ i,i≤n+1→SmQ 200 (serU x i):=fun i hi=>(vE hx h1 h2 (n:=i) (by omega)).mono (by
  have:=Nat.mul_le_mul hk (show 2*i≤14 by omega)
  omega)
 have hd:∀ i,i≤n→SmQ 5 (1 / ((2*i+1:Nat):Rat)):=fun i hi=>(su1.div (vw (k:=4) (by unfold Sm;omega) (by decide)) (uh i)).mono (by decide)
 have et:∀ i,powU x i*(1 / ((2*i+1:Nat):Rat))=iK x i:=fun i=>by
  unfold iK
  rw[Rat.div_def,Rat.div_def,Rat.one_mul]
 have hx9:SmQ 900 x:=hx.mono (by omega);have hxx:SmQ 900 (x*x):=(hx.mul hx).mono (by omega);have sx:SmQ 900 (-(x*x)):=(hx.mul hx).neg.mono (by omega);intro q0 W r0;have e1:(serI x n).1=lstQ (serU x n) (serU x (n+1)):=by unfold serI;rw[wh,rC]
 have e2:(serI x n).2=mstQ (serU x n) (serU x (n+1)):=by unfold serI;rw[wy,rA]
 rw[e1,e2];refine vo x (x*x) (-(x*x)) _ _ (powU x) (fun i=>1 / ((2*i+1:Nat):Rat)) (iK x) (serU x) n (by omega) q0 W rfl rfl (hMul hx9 hx9) (hNeg hxx) yI0 (fun i hi=>?_) (fun i hi=>?_) (fun i hi=>?_) (fun i hi=>?_) z5n ?_ r0
 · refine ut _ (2*i+1) _ (by omega) (by omega) (by omega) ?_
   rw[Rat.mkRat_eq_div];rfl
 · rw[← et]
   exact hMul ((hp i hi).mono (by decide)) ((hd i hi).mono (by decide))
 · refine hAdd ((hs i (by omega)).mono (by decide)) ?_
   rw[← et];exact((hp i hi).mul (hd i hi)).mono (by decide)
 · have e:powU x (i+1)=powU x i * -(x*x):=by
    show powU x i*(0-x*x)=_
    rw[show(0:Rat)-x*x = -(x*x) by grind]
   rw[e];exact hMul ((hp i hi).mono (by decide)) sx
 · exact z5o ((hs n (by omega)).mono (by decide)) ((hs n (by omega)).mono (by decide)) ((hs (n+1) (by omega)).mono (by decide)) ((hs (n+1) (by omega)).mono (by decide))
theorem yPiI {n:Nat}(hn:n≤6):KNI 62 (.int .i64 (n:Int)) (piI n).1 (piI n).2:=fun W=>by
 have a:=iE s5 (by decide +kernel) (by decide +kernel) hn;have b:=iE s239 (by decide +kernel) (by decide +kernel) hn;have c:=dJ s16 a.1 a.2;have d:=dJ s4 b.1 b.2
 exact z6T (n:Int) (1 / 5) _ _ 16 _ _ (1 / 239) _ _ 4 _ _ _ _ W (ut 5 5 _ rfl (by decide) (by decide) (by decide +kernel)) (ySer s5 (by decide) hn (by decide +kernel) (by decide +kernel)) (hInt 16 16 16 rfl (by decide) rfl rfl) (nX (a.1.mono (by decide)) (a.2.mono (by decide)) (s16.mono (by decide)))
  (ut 239 239 _ rfl (by decide) (by decide) (by decide +kernel)) (ySer s239 (by decide) hn (by decide +kernel) (by decide +kernel)) (hInt 4 4 4 rfl (by decide) rfl rfl) (nX (b.1.mono (by decide)) (b.2.mono (by decide)) (s4.mono (by decide)))
  (z1q (p:=mulI 16 (serI (1 / 5) n)) (q:=mulI 4 (serI (1 / 239) n)) (c.1.mono (by decide)) (c.2.mono (by decide)) (d.1.mono (by decide)) (d.2.mono (by decide)))
theorem z4M:KS2 58 (.int .i64 1) (.int .i64 2) (1 / 2):=ut 2 2 _ rfl (by decide) (by decide) (by decide +kernel)
theorem z0e:KS2 58 (.int .i64 (-1)) (.int .i64 2) (-1 / 2):=z6t (-1) 2 2 _ pQ (by show ag 1≤50000;rw[jM];decide) rfl (by decide) (by decide) (by decide +kernel)
theorem sn12:SmQ 2 (-(1:Rat) / 2):=⟨by unfold Sm;decide +kernel,by unfold Sm;decide +kernel⟩
theorem z4F {x:Rat}(h : -1 / 2≤x):decide (cmpQ x (-1 / 2)<0)=false:=by
 rcases cz x (-1 / 2) with⟨h2,e⟩|⟨h2,e⟩|⟨h2,e⟩
 · grind
 · rw[e];rfl
 · rw[e];rfl
theorem z5Z {x:Rat}{n:Nat}(hx:SmQ 7 x)(hn:n≤6)(h1 : -1 / 2≤x)(h2:x≤1):KEn 61 x (.int .i64 (n:Int)) (atI n x).1 (atI n x).2:=by
 have x9:SmQ 900 x:=hx.mono (by decide);intro q0 W r0;by_cases hm:x≤1 / 2
 · rw[wO hm]
   exact z2s x _ _ _ _ (n:Int) _ _ q0 W (z4F h1) (by rw[pY];exact decide_eq_true hm) z0e (hCmp x9 (sn12.mono (by decide))) z4M (hCmp x9 (s12.mono (by decide))) (ySer hx (by decide) hn (by grind) h2) r0
 · have hgt:(1:Rat) / 2<x:=by grind
   have hr:=vD hx hgt h2;have hri:=vJ hgt h2;have hne:1+x≠0:=by grind
   have hp:=pM hn;have hq:=dJ s14 hp.1 hp.2;have hs:=iE (n:=n) hr (by grind) (by grind) hn;rw[sG hm]
   exact z0i x _ _ 1 (1-x) (1+x) (nL x) _ _ (1 / 4) _ _ _ _ _ _ (n:Int) _ _ q0 W (z4F h1) (by rw[pY];exact decide_eq_false hm) z0e (hCmp x9 (sn12.mono (by decide))) z4M (hCmp x9 (s12.mono (by decide))) yI1 (hSub (su1.mono (by decide)) x9) (hAdd (su1.mono (by decide)) x9) (hDiv hne ((su1.sub hx).mono (by decide)) ((su1.add hx).mono (by decide)))
    (yPiI hn) (ut 4 4 _ rfl (by decide) (by decide) (by decide +kernel)) (nX (hp.1.mono (by decide)) (hp.2.mono (by decide)) (s14.mono (by decide))) (ySer hr (by decide) hn (by grind) (by grind)) (z1q (p:=mulI (1 / 4) (piI n)) (q:=serI (nL x) n) (hq.1.mono (by decide)) (hq.2.mono (by decide)) (hs.1.mono (by decide)) (hs.2.mono (by decide))) r0
theorem z6W {x:Rat}{n:Nat}(hx:SmQ 7 x)(hn:n≤6)(h1 : -1≤x)(h2:x≤1):KEn 61 x (.int .i64 (n:Int)) (atJ n x).1 (atJ n x).2:=by
 by_cases h:x < -1 / 2
 · have s:=xM hx.neg (by grind) (by grind) hn
   have x9:SmQ 900 x:=hx.mono (by decide);unfold atJ
   rw[if_pos h,← yo (qo n (-x))];intro q0 W r0;exact z2t x _ (-x) _ _ (-1) _ _ (n:Int) _ q0 W (by rw[oo h];rfl) z0e (hCmp x9 (sn12.mono (by decide))) (hNeg x9) (z5Z hx.neg hn (by grind) (by grind)) yIn (nX (s.1.mono (by decide)) (s.2.mono (by decide)) (sun.mono (by decide))) r0
 · unfold atJ
   rw[if_neg h];exact z5Z hx hn (by grind) h2
theorem z6V {x:Rat}{n:Nat}(hx:SmQ 7 x)(hn1:1≤n)(hn:n≤6)(h1 : -1≤x)(h2:x≤1):KEn 26 x (.int .i64 (n:Int)) (degJ n x).1 (degJ n x).2:=by
 have a:=z0E hx h1 h2 hn;have hp:=pM hn;have hle:=nM n;have hpos:=z14 n hn1 hn;have hs:=dJ s360 a.1 a.2;intro q0 W r0;exact yInW x _ _ 360 _ _ _ _ _ _ (n:Int) q0 W (z6W hx hn h1 h2) (hInt 360 360 360 rfl (by decide) rfl rfl) (nX (a.1.mono (by decide)) (a.2.mono (by decide)) (s360.mono (by decide))) (yPiI hn) (z7k (p:=mulI 360 (atJ n x)) (q:=piI n) (hs.1.mono (by decide)) (hs.2.mono (by decide)) (hp.1.mono (by decide)) (hp.2.mono (by decide)) (by grind) (by grind)) r0
theorem z4e (n:Int):KPs 22 (.int .i64 n) (.bool (decide (1≤n∧n≤24))):=fun W=>by
 by_cases h1:n<1
 · rw[decide_eq_false (fun h=>by omega)]
   have e1:decide (1≤n)=false:=decide_eq_false (by omega);have e2:¬ 1≤n:=by omega
   clear h1;go_enter func22,ntmps22
   go_wp2;go_ret
   exact⟨rfl,Below.refl _ _⟩
 · by_cases h2:24<n
   · rw[decide_eq_false (fun h=>by omega)]
     have e1:decide (1≤n)=true:=decide_eq_true (by omega);have e2:1≤n:=by omega
     have e3:decide (n≤24)=false:=decide_eq_false (by omega);have e4:¬ n≤24:=by omega
     clear h1 h2;go_enter func22,ntmps22
     go_wp2;go_ret
     exact⟨rfl,Below.refl _ _⟩
   · rw[decide_eq_true (⟨by omega,by omega⟩:1≤n∧n≤24)]
     have e1:decide (1≤n)=true:=decide_eq_true (by omega);have e2:1≤n:=by omega
     have e3:decide (n≤24)=true:=decide_eq_true (by omega);have e4:n≤24:=by omega
     clear h1 h2;go_enter func22,ntmps22
     go_wp2;go_ret
     exact⟨rfl,Below.refl _ _⟩
