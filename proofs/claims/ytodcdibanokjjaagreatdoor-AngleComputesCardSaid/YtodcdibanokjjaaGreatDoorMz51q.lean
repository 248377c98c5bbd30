/- texts -/
import Derived.Test.YtodcdibanokjjaaGreatDoorMz48q
import Derived.Test.YtodcdibanokjjaaGreatDoorYb
open Go.Proofs.Tryz
namespace Go.Proofs.YtodcdibanokjjaaGreatDoor
open Go.RowKit Go.Gb
def mulI (x:Rat) (p:Rat × Rat):Rat × Rat:=exOf (row4 (x*p.1) (x*p.2) (x*p.1) (x*p.2)) 3
def subI (p q:Rat × Rat):Rat × Rat:=(p.1-q.2,p.2-q.1)
def piI (n:Nat):Rat × Rat:=subI (mulI 16 (serI (1 / 5) n)) (mulI 4 (serI (1 / 239) n))
def atI (n:Nat) (x:Rat):Rat × Rat:=if x≤1 / 2 then serI x n else subI (mulI (1 / 4) (piI n)) (serI ((1-x) / (1+x)) n)
def divI (p q:Rat × Rat):Rat × Rat:=exOf (row4 (p.1 / q.1) (p.1 / q.2) (p.2 / q.1) (p.2 / q.2)) 3
def degI (n:Nat) (x:Rat):Rat × Rat:=divI (mulI 360 (atI n x)) (piI n)
theorem mK (x:Rat)(n:Nat):(serI x n).1≤(serI x n).2:=jh _ 3
theorem jB (x:Rat)(p:Rat × Rat):(mulI x p).1≤(mulI x p).2:=jh _ 3
theorem yL {p q:Rat × Rat}(hp:p.1≤p.2)(hq:q.1≤q.2):(subI p q).1≤(subI p q).2:=by
 unfold subI
 grind
theorem zG (n:Nat):(piI n).1≤(piI n).2:=yL (jB _ _) (jB _ _)
theorem z4Q (n:Nat)(x:Rat):(atI n x).1≤(atI n x).2:=by
 unfold atI
 split
 · exact mK _ _
 · exact yL (jB _ _) (mK _ _)
theorem yX {k:Nat}{a b c d:Rat}(ha:SmQ k a)(hb:SmQ k b)(hc:SmQ k c)(hd:SmQ k d):SmQ k (exOf (row4 a b c d) 3).1∧SmQ k (exOf (row4 a b c d) 3).2:=by
 have h:=z1s a b c d;constructor
 · rcases h.1 with e|e|e|e<;>rw[e]<;>assumption
 · rcases h.2 with e|e|e|e<;>rw[e]<;>assumption
theorem jw {x:Rat}{k n:Nat}(hx:SmQ k x)(hn:n≤24):SmQ ((n+1)*(k+(k+k)*(n+1)+4+1)+1) (serI x n).1∧SmQ ((n+1)*(k+(k+k)*(n+1)+4+1)+1) (serI x n).2:=by
 have hK:∀ i,i<n+1→SmQ (k+(k+k)*(n+1)+4) (lK x i):=fun i hi=>yT hx hi (by omega);have h1:=(uZ n (fun i hi=>hK i (by omega))).mono (show n*(k+(k+k)*(n+1)+4+1)+1≤(n+1)*(k+(k+k)*(n+1)+4+1)+1 from Nat.add_le_add_right (Nat.mul_le_mul_right _ (by omega)) _);have h2:=uZ (n+1) hK;exact yX h1 h1 h2 h2
theorem iM {x:Rat}{p:Rat × Rat}{k l:Nat}(hx:SmQ k x)(h1:SmQ l p.1)(h2:SmQ l p.2):SmQ (k+l) (mulI x p).1∧SmQ (k+l) (mulI x p).2:=yX (hx.mul h1) (hx.mul h2) (hx.mul h1) (hx.mul h2)
theorem s5:SmQ 1 ((1:Rat) / 5):=⟨by unfold Sm;decide +kernel,by unfold Sm;decide +kernel⟩
theorem s239:SmQ 3 ((1:Rat) / 239):=⟨by unfold Sm;decide +kernel,by unfold Sm;decide +kernel⟩
theorem s16:SmQ 2 (16:Rat):=⟨by unfold Sm;decide,by unfold Sm;decide⟩
theorem s4:SmQ 2 (4:Rat):=⟨by unfold Sm;decide,by unfold Sm;decide⟩
theorem s14:SmQ 2 ((1:Rat) / 4):=⟨by unfold Sm;decide +kernel,by unfold Sm;decide +kernel⟩
theorem s12:SmQ 2 ((1:Rat) / 2):=⟨by unfold Sm;decide +kernel,by unfold Sm;decide +kernel⟩
theorem s360:SmQ 3 (360:Rat):=⟨by unfold Sm;decide,by unfold Sm;decide⟩
theorem t5:Sq ((1:Rat) / 5)=⟨#[49,47,53]⟩:=by decide +kernel
theorem t239:Sq ((1:Rat) / 239)=⟨#[49,47,50,51,57]⟩:=by decide +kernel
theorem t16:Sq (16:Rat)=⟨#[49,54]⟩:=by decide +kernel
theorem t4:Sq (4:Rat)=⟨#[52]⟩:=by decide +kernel
theorem t14:Sq ((1:Rat) / 4)=⟨#[49,47,52]⟩:=by decide +kernel
theorem t12:Sq ((1:Rat) / 2)=⟨#[49,47,50]⟩:=by decide +kernel
theorem tn12:Sq (-(1:Rat) / 2)=⟨#[45,49,47,50]⟩:=by decide +kernel
theorem t360:Sq (360:Rat)=⟨#[51,54,48]⟩:=by decide +kernel
theorem qL {n:Nat}(hn:n≤5):SmQ 400 (piI n).1∧SmQ 400 (piI n).2:=by
 have a:=jw (n:=n) s5 (by omega);have b:=jw (n:=n) s239 (by omega)
 have h1:(n+1)*(1+(1+1)*(n+1)+4+1)+1≤109:=by
  have:n+1≤6:=by omega
  have h2:1+(1+1)*(n+1)+4+1≤18:=by omega
  have:=Nat.mul_le_mul this h2;omega
 have h3:(n+1)*(3+(3+3)*(n+1)+4+1)+1≤265:=by
  have:n+1≤6:=by omega
  have h2:3+(3+3)*(n+1)+4+1≤44:=by omega
  have:=Nat.mul_le_mul this h2;omega
 have c:=iM s16 (a.1.mono h1) (a.2.mono h1);have d:=iM s4 (b.1.mono h3) (b.2.mono h3);exact⟨(c.1.sub d.2).mono (by decide),(c.2.sub d.1).mono (by decide)⟩
theorem mg {x:Rat}{p:Rat × Rat}{k l:Nat}(hx:SmQ k x)(h1:SmQ l p.1)(h2:SmQ l p.2)(hp:p.1≤p.2)(hk:k+l≤900)(w:World)(hla:La w) :
 CV w 71 #[.string (Sq x),.agg #[.string (Sq p.1),.string (Sq p.2)]] (.agg #[.string (Sq (mulI x p).1),.string (Sq (mulI x p).2)]) :=
 xM _ _ _ _ _ _ _ 0 w (lq (hx.fit (by omega)) w hla) (fun W hW=>xMul x x p.1 p.2 _ _ _ _ rfl rfl rfl rfl Rat.le_refl hp (hx.fit (by omega)) (hx.fit (by omega)) (h1.fit (by omega)) (h2.fit (by omega)) ((hx.mul h1).fit hk) ((hx.mul h2).fit hk) ((hx.mul h1).fit hk) ((hx.mul h2).fit hk) W (hla.on hW))
theorem z3k {p q:Rat × Rat}(h1:aJ p.1)(h2:aJ p.2)(h3:aJ q.1)(h4:aJ q.2)(hp:p.1≤p.2)(hq:q.1≤q.2)(w:World)(hla:La w) :
 CV w 73 #[.agg #[.string (Sq p.1),.string (Sq p.2)],.agg #[.string (Sq q.1),.string (Sq q.2)]] (.agg #[.string (Sq (subI p q).1),.string (Sq (subI p q).2)]) :=
 z2s _ _ _ _ _ _ 0 w (fun W hW=>xSub _ _ _ _ _ _ rfl rfl hp hq h1 h2 h3 h4 W (hla.on hW))
theorem kH {n:Nat}(hn1:1≤n)(hn:n≤5)(w:World)(hla:La w):CV w 44 #[.int .i64 (n:Int)] (.agg #[.int .i64 (n:Int),.string (Sq (piI n).1),.string (Sq (piI n).2)]):=by
 have _:=hn1;have a:=jw (n:=n) s5 (by omega);have b:=jw (n:=n) s239 (by omega)
 have h1:(n+1)*(1+(1+1)*(n+1)+4+1)+1≤109:=by
  have h3:n+1≤6:=by omega
  have h2:1+(1+1)*(n+1)+4+1≤18:=by omega
  have:=Nat.mul_le_mul h3 h2;omega
 have h3:(n+1)*(3+(3+3)*(n+1)+4+1)+1≤265:=by
  have h4:n+1≤6:=by omega
  have h2:3+(3+3)*(n+1)+4+1≤44:=by omega
  have:=Nat.mul_le_mul h4 h2;omega
 have e1:=kG (n:=n) s5 (by omega) (by omega) w hla;have e2:=kG (n:=n) s239 (by omega) (by omega) w hla;have c:=iM s16 (a.1.mono h1) (a.2.mono h1);have d:=iM s4 (b.1.mono h3) (b.2.mono h3);have e3:=mg s16 (a.1.mono h1) (a.2.mono h1) (mK _ _) (by decide) w hla;have e4:=mg s4 (b.1.mono h3) (b.2.mono h3) (mK _ _) (by decide) w hla;have e5:=z3k (c.1.fit (by decide)) (c.2.fit (by decide)) (d.1.fit (by decide)) (d.2.fit (by decide)) (jB 16 (serI (1 / 5) n)) (jB 4 (serI (1 / 239) n)) w hla;rw[t5]at e1;rw[t239]at e2;rw[t16]at e3;rw[t4]at e4;exact uz _ _ _ _ _ _ _ _ _ _ _ w e1 e2 e3 e4 e5
theorem z4T {n:Nat}{x:Rat}{k l:Nat}(hn:n≤5)(hx:SmQ k x)(h1 : -1 / 2≤x)(h2:x≤1)(hr:SmQ l ((1-x) / (1+x)))(hk:(n+1)*(k+(k+k)*(n+1)+4+1)+1≤900)(hl:(n+1)*(l+(l+l)*(n+1)+4+1)+1≤490)(w:World)(hla:La w) :
 CV w 41 #[.agg #[.int .i64 (n:Int),.string (Sq (piI n).1),.string (Sq (piI n).2)],.string (Sq x)] (.agg #[.string (Sq (atI n x).1),.string (Sq (atI n x).2)]):=by
 have _:=h2
 have hkk:k≤300:=by
  have:k+(k+k)*(n+1)+4+1≤(n+1)*(k+(k+k)*(n+1)+4+1):=Nat.le_mul_of_pos_left _ (by omega);have:(k+k)*1≤(k+k)*(n+1):=Nat.mul_le_mul_left _ (by omega);omega
 have hll:l≤300:=by
  have:l+(l+l)*(n+1)+4+1≤(n+1)*(l+(l+l)*(n+1)+4+1):=Nat.le_mul_of_pos_left _ (by omega);have:(l+l)*1≤(l+l)*(n+1):=Nat.mul_le_mul_left _ (by omega);omega
 have hx9:aJ x:=hx.fit (by omega);have sn12:SmQ 2 (-(1:Rat) / 2):=⟨by unfold Sm;decide +kernel,by unfold Sm;decide +kernel⟩;have o1:=lY (x:=x) (y := -(1:Rat) / 2) rfl hx9 (sn12.fit (by decide)) w hla;have o2:=lY (x:=x) (y:=(1:Rat) / 2) rfl hx9 (s12.fit (by decide)) w hla;rw[tn12]at o1;rw[t12]at o2
 have f1:decide (cmpQ x (-(1:Rat) / 2)<0)=false:=by
  rcases eF x (-(1:Rat) / 2) with⟨h,e⟩|⟨h,e⟩|⟨h,e⟩
  · grind
  · rw[e];rfl
  · rw[e];rfl
 by_cases hm:x≤1 / 2
 · have f2:decide (cmpQ x ((1:Rat) / 2)≤0)=true:=by
    rcases eF x ((1:Rat) / 2) with⟨h,e⟩|⟨h,e⟩|⟨h,e⟩
    · rw[e];rfl
    · rw[e];rfl
    · grind
   have e:atI n x=serI x n:=by unfold atI;rw[if_pos hm]
   rw[e];exact z0B _ _ _ _ _ _ _ _ w o1 o2 (kG hx (by omega) hk w hla) f1 f2
 · have e:atI n x=subI (mulI (1 / 4) (piI n)) (serI ((1-x) / (1+x)) n):=by unfold atI;rw[if_neg hm]
   rw[e];have hgt:(1:Rat) / 2<x:=by grind
   rw[nD hgt]at o2;have e3:=kD (x:=1) (y:=x) rfl (su1.fit (by decide)) hx9 w hla;have e4:=iY (x:=1) (y:=x) rfl (su1.fit (by decide)) hx9 w hla;have hne:1+x≠0:=by grind
   have e5:=ql (x:=1-x) (y:=1+x) rfl ((su1.sub hx).fit (by omega)) ((su1.add hx).fit (by omega)) hne w hla;have hp:=qL hn;have e6:=mg s14 hp.1 hp.2 (zG n) (by decide) w hla;have hq:=iM s14 hp.1 hp.2;have hs:=jw (n:=n) hr (by omega);have e7:=kG (n:=n) hr (by omega) (by omega) w hla;have e8:=z3k (hq.1.fit (by decide)) (hq.2.fit (by decide)) (hs.1.fit (by omega)) (hs.2.fit (by omega)) (jB (1 / 4) (piI n)) (mK ((1-x) / (1+x)) n) w hla;rw[uq1]at e3 e4;rw[t14]at e6;exact xS _ _ _ _ _ _ _ _ _ _ _ _ _ _ w o1 o2 e3 e4 e5 e6 e7 e8 f1
theorem z4S {w₀:World}{n:Nat}{x:Rat}{m:Nat}(hn:n≤5)(hat:CV w₀ 41 #[.agg #[.int .i64 (n:Int),.string (Sq (piI n).1),.string (Sq (piI n).2)],.string (Sq x)] (.agg #[.string (Sq (atI n x).1),.string (Sq (atI n x).2)]))(h1:SmQ m (atI n x).1)(h2:SmQ m (atI n x).2)(hm:m≤497)(hpos:0<(piI n).1)(hla:La w₀) :
 CV w₀ 42 #[.agg #[.int .i64 (n:Int),.string (Sq (piI n).1),.string (Sq (piI n).2)],.string (Sq x)] (.agg #[.string (Sq (degI n x).1),.string (Sq (degI n x).2)]):=by
 have hp:=qL hn;have hle:=zG n;have hs:=iM s360 h1 h2;have e2:=mg s360 h1 h2 (z4Q n x) (by omega) w₀ hla;rw[t360]at e2;have n1:(piI n).1≠0:=by grind
 have n2:(piI n).2≠0:=by grind
 have d1:=(hs.1.div hp.1 n1).fit (by omega);have d2:=(hs.1.div hp.2 n2).fit (by omega);have d3:=(hs.2.div hp.1 n1).fit (by omega);have d4:=(hs.2.div hp.2 n2).fit (by omega);exact z2v _ _ _ _ _ _ _ _ _ _ 0 w₀ hat e2 (fun W hW=>xDiv _ _ _ _ _ _ _ _ rfl rfl rfl rfl (jB 360 (atI n x)) hle (decide_eq_false (by grind)) (hs.1.fit (by omega)) (hs.2.fit (by omega)) (hp.1.fit (by decide)) (hp.2.fit (by decide)) d1 d2 d3 d4 W (hla.on hW))
set_option maxRecDepth 100000
set_option maxHeartbeats 20000000
open Go.Lib (hid)
theorem a13:SmQ 2 (1/3:Rat):=⟨by unfold Sm;decide +kernel,by unfold Sm;decide +kernel⟩
theorem a90:SmQ 3 (90:Rat):=⟨by unfold Sm;decide +kernel,by unfold Sm;decide +kernel⟩
theorem an90:SmQ 3 (-90:Rat):=⟨by unfold Sm;decide +kernel,by unfold Sm;decide +kernel⟩
theorem a355:SmQ 4 (355/113:Rat):=⟨by unfold Sm;decide +kernel,by unfold Sm;decide +kernel⟩
theorem t13:Sq (1/3:Rat)=⟨#[49,47,51]⟩:=by decide +kernel
theorem t34:Sq (3/4:Rat)=⟨#[51,47,52]⟩:=by decide +kernel
theorem t35:Sq (3/5:Rat)=⟨#[51,47,53]⟩:=by decide +kernel
theorem t45:Sq (4/5:Rat)=⟨#[52,47,53]⟩:=by decide +kernel
theorem t90:Sq (90:Rat)=⟨#[57,48]⟩:=by decide +kernel
theorem tn90:Sq (-90:Rat)=⟨#[45,57,48]⟩:=by decide +kernel
theorem t355:Sq (355/113:Rat)=⟨#[51,53,53,47,49,49,51]⟩:=by decide +kernel
theorem z5e:Sq (11/24:Rat)=⟨#[49,49,47,50,52]⟩:=by decide +kernel
theorem z4P (w:World)(hla:La w):CV w 6 #[.string ⟨#[49,47,50]⟩] (.tuple #[.string ⟨#[51,47,53]⟩,.int .i64 0]):=by
 have h:=z3m s12 (by decide) (by decide +kernel) w hla;rwa [show cosQ (1 / 2)=3 / 5 from by decide +kernel,t12,t35]at h
theorem z4O (w:World)(hla:La w):CV w 8 #[.string ⟨#[49,47,50]⟩] (.tuple #[.string ⟨#[52,47,53]⟩,.int .i64 0]):=by
 have h:=z3l s12 (by decide) (by decide +kernel) w hla;rwa [show sinQ (1 / 2)=4 / 5 from by decide +kernel,t12,t45]at h
theorem z3U (w:World)(hla:La w):CV w 10 #[.string ⟨#[49,47,50]⟩,.string ⟨#[49,47,50]⟩] (.tuple #[.string ⟨#[]⟩,.int .i64 15]):=by
 have h:=lm s12 s12 (by decide) (by decide +kernel) (by decide +kernel) (by decide +kernel) w hla;rwa [t12]at h
theorem z3T (w:World)(hla:La w):CV w 10 #[.string ⟨#[49,47,51]⟩,.string ⟨#[49,47,51]⟩] (.tuple #[.string ⟨#[51,47,52]⟩,.int .i64 0]):=by
 have h:=z3j a13 a13 (by decide) (by decide +kernel) (by decide +kernel) (by decide +kernel) (by decide +kernel) w hla;rwa [show sumQ (1 / 3) (1 / 3)=3 / 4 from by decide +kernel,t13,t34]at h
theorem z3Z (w:World)(hla:La w):CV w 14 #[.string ⟨#[49,47,50]⟩,.int .i64 1] (.tuple #[.agg #[.string ⟨#[49,49,47,50,52]⟩,.string ⟨#[49,47,50]⟩],.int .i64 0]):=by
 have hr:SmQ 2 ((1-(1:Rat) / 2) / (1+1 / 2)):=by
  rw[show(1-(1:Rat) / 2) / (1+1 / 2)=1 / 3 from by decide +kernel];exact a13
 have h:=z4T (n:=1) (by decide) s12 (by decide +kernel) (by decide +kernel) hr (by decide) (by decide) w hla;have hc:=kH (n:=1) (by decide) (by decide) w hla;rw[show atI 1 (1 / 2)=(11 / 24,1 / 2) from by decide +kernel,t12]at h;have h2:=z0z _ _ _ _ _ _ w (lZ 1 w (by decide) (by decide)) hc h (t12▸lX (by decide +kernel) (s12.fit (by decide)) w hla);have h3:=xQ _ _ _ _ _ w h2;rwa [z5e]at h3
theorem z3E:0<(piI 3).1:=by decide +kernel
theorem z2V {x:Rat}{k l:Nat}(hx:SmQ k x)(hr:SmQ l ((1-x) / (1+x)))(hk:k≤2)(hl:l≤2):SmQ 496 (atI 3 x).1∧SmQ 496 (atI 3 x).2:=by
 have a:=jw (n:=3) (hx.mono hk) (by decide);have b:=jw (n:=3) (hr.mono hl) (by decide);have hp:=qL (n:=3) (by decide);have c:=iM s14 hp.1 hp.2;unfold atI
 split
 · exact⟨a.1.mono (by decide),a.2.mono (by decide)⟩
 · exact⟨(c.1.sub b.2).mono (by decide),(c.2.sub b.1).mono (by decide)⟩
theorem deg3 {x:Rat}{k l:Nat}(hx:SmQ k x)(hr:SmQ l ((1-x) / (1+x)))(hk:k≤2)(hl:l≤2)(h1 : -1 / 2≤x)(h2:x≤1)(w:World)(hla:La w) :
 CV w 42 #[.agg #[.int .i64 3,.string (Sq (piI 3).1),.string (Sq (piI 3).2)],.string (Sq x)] (.agg #[.string (Sq (degI 3 x).1),.string (Sq (degI 3 x).2)]):=by
 have hs:=z2V hx hr hk hl;exact z4S (n:=3) (by decide) (z4T (n:=3) (by decide) (hx.mono hk) h1 h2 (hr.mono hl) (by decide) (by decide) w hla) hs.1 hs.2 (by decide) z3E hla
theorem q8 {x:Rat}{k l:Nat}(hx:SmQ k x)(hr:SmQ l ((1-x) / (1+x)))(hk:k≤2)(hl:l≤2):aJ (degI 3 x).1∧aJ (degI 3 x).2:=by
 have hs:=z2V hx hr hk hl;have hp:=qL (n:=3) (by decide);have n1:(piI 3).1≠0:=by decide +kernel
 have n2:(piI 3).2≠0:=by decide +kernel
 have m:=iM s360 hs.1 hs.2;have q:=yX (m.1.div hp.1 n1) (m.1.div hp.2 n2) (m.2.div hp.1 n1) (m.2.div hp.2 n2);exact⟨q.1.fit (by decide),q.2.fit (by decide)⟩
theorem z3L (n:Nat)(x:Rat):(degI n x).1≤(degI n x).2:=jh _ 3
theorem r1:SmQ 1 ((1-(1:Rat)) / (1+1)):=by
 rw[show(1-(1:Rat)) / (1+1)=0 from by decide +kernel];exact su0
theorem r0:SmQ 1 ((1-(0:Rat)) / (1+0)):=by
 rw[show(1-(0:Rat)) / (1+0)=1 from by decide +kernel];exact su1
theorem r12:SmQ 2 ((1-(1:Rat) / 2) / (1+1 / 2)):=by
 rw[show(1-(1:Rat) / 2) / (1+1 / 2)=1 / 3 from by decide +kernel];exact a13
theorem z3Y (w:World)(hla:La w):CV w 15 #[.string ⟨#[49]⟩,.int .i64 3] (.tuple #[.agg #[.string (Sq (degI 3 1).1),.string (Sq (degI 3 1).2)],.int .i64 0]):=by
 have h:=deg3 su1 r1 (by decide) (by decide) (by decide +kernel) (by decide +kernel) w hla;have hc:=kH (n:=3) (by decide) (by decide) w hla;rw[uq1]at h;exact xP _ _ _ _ _ w (z0y _ _ _ _ _ _ w (lZ 3 w (by decide) (by decide)) hc h (uq1▸lX (by decide +kernel) (su1.fit (by decide)) w hla))
theorem z5x (w:World)(hla:La w):CV w 16 #[.int .i64 3] (.tuple #[.agg #[.string (Sq (piI 3).1),.string (Sq (piI 3).2)],.int .i64 0]) :=
 z4c _ _ _ w (lZ 3 w (by decide) (by decide)) (kH (n:=3) (by decide) (by decide) w hla)
theorem z3X (w:World)(hla:La w):CV w 17 #[.string ⟨#[57,48]⟩,.int .i64 3,.int .i64 2] (.tuple #[.agg #[.string ⟨#[49,47,50]⟩,.string ⟨#[49]⟩],.int .i64 0]):=by
 have z1:=iY (x := -1) (y:=1) (z:=0) (by decide +kernel) (sun.fit (by decide)) (su1.fit (by decide)) w hla;have z2:=fA (x:=0) (y:=1 / 2) (z:=0) (by decide +kernel) (su0.fit (by decide)) (s12.fit (by decide)) w hla;have d1:=deg3 su0 r0 (by decide) (by decide) (by decide +kernel) (by decide +kernel) w hla;have f1:=q8 su0 r0 (by decide) (by decide);have o1:=lY (x:=(degI 3 0).2) (y:=90) rfl f1.2 (a90.fit (by decide)) w hla;have z3:=iY (x:=0) (y:=1) (z:=1) (by decide +kernel) (su0.fit (by decide)) (su1.fit (by decide)) w hla;have z4:=fA (x:=1) (y:=1 / 2) (z:=1 / 2) (by decide +kernel) (su1.fit (by decide)) (s12.fit (by decide)) w hla;have d2:=deg3 s12 r12 (by decide) (by decide) (by decide +kernel) (by decide +kernel) w hla;have f2:=q8 s12 r12 (by decide) (by decide);have o2:=lY (x:=(degI 3 (1 / 2)).2) (y:=90) rfl f2.2 (a90.fit (by decide)) w hla;rw[uqn,uq1]at z1;rw[t12]at z2;rw[uq1]at z3;rw[uq1,t12]at z4;rw[t90]at o1 o2;rw[t12]at d2;have h:=xR _ _ _ _ _ _ _ _ _ _ _ _ _ _ w z1 z2 d1 o1 z3 z4 d2 o2 (by decide +kernel) (by decide +kernel);have hv:=avcv (a90.fit (by decide)) w hla;have hh:CV w 18 #[.agg #[.string (Sq (-90:Rat)),.string (Sq (90:Rat))],.string (Sq (90:Rat))] (.bool true):=fun W hW=>xHas (-90) 90 90 true (by decide +kernel) (by decide +kernel) (an90.fit (by decide)) (a90.fit (by decide)) (a90.fit (by decide)) W (hla.on hW);rw[t90]at hv;rw[tn90,t90]at hh;exact z0x _ _ _ _ _ _ _ w hv hh (lZ 3 w (by decide) (by decide)) (kH (n:=3) (by decide) (by decide) w hla) h (by decide) (by decide)
theorem z3W (w:World)(hla:La w):CV w 18 #[.agg #[.string (Sq (degI 3 1).1),.string (Sq (degI 3 1).2)],.string ⟨#[57,48]⟩] (.bool true):=by
 have f:=q8 su1 r1 (by decide) (by decide);have h:CV w 18 #[.agg #[.string (Sq (degI 3 1).1),.string (Sq (degI 3 1).2)],.string (Sq (90:Rat))] (.bool true):=fun W hW=>xHas _ _ 90 true (by decide +kernel) (z3L _ _) f.1 f.2 (a90.fit (by decide)) W (hla.on hW);rwa [t90]at h
theorem z3V (w:World)(hla:La w):CV w 18 #[.agg #[.string (Sq (piI 3).1),.string (Sq (piI 3).2)],.string ⟨#[51,53,53,47,49,49,51]⟩] (.bool true):=by
 have f:=qL (n:=3) (by decide);have h:CV w 18 #[.agg #[.string (Sq (piI 3).1),.string (Sq (piI 3).2)],.string (Sq (355 / 113:Rat))] (.bool true):=fun W hW=>xHas _ _ (355 / 113) true (by decide +kernel) (zG _) (f.1.fit (by decide)) (f.2.fit (by decide)) (a355.fit (by decide)) W (hla.on hW);rwa [t355]at h
theorem z0q (w:World)(hla:La w):CV w 19 #[.agg #[.string ⟨#[49,47,50]⟩,.string ⟨#[49]⟩]] (.bool true):=by
 have h:CV w 19 #[.agg #[.string (Sq (1 / 2:Rat)),.string (Sq (1:Rat))]] (.bool true):=fun W hW=>o6 (1 / 2) 1 (by decide +kernel) (s12.fit (by decide)) (su1.fit (by decide)) W (hla.on hW);rwa [t12,uq1]at h
theorem z0p (w:World)(hla:La w):CV w 12 #[.string ⟨#[45,49]⟩] (.bool true):=by
 have h:=dI (t := -1) (r:=true) (by decide +kernel) (sun.fit (by decide)) w hla;rwa [uqn]at h
theorem z0o (w:World)(hla:La w):CV w 12 #[.string ⟨#[50]⟩] (.bool false):=by
 have h:=dI (t:=2) (r:=false) (by decide +kernel) (su2.fit (by decide)) w hla;rwa [uq2]at h
theorem jF  (w₀:World)  (hla:La w₀) :
 CV w₀ 4 #[] (.bool true):=by
 intro w hw;have HT:=hid (hla.on hw);clear hla hw;go_enter func4,ntmps4
 have HB0:=hid (Below.refl w.heap.size w);go_wp2_with fail
 with_reducible refine((z4P _ (HT.out.on HB0.out)).at).mono ?_
 rintro e W1 ⟨rfl,hb⟩;have HB1:=hbt HB0 hb;clear hb;go_wp2_with fail
 with_reducible refine((z4O _ (HT.out.on HB1.out)).at).mono ?_
 rintro e W2 ⟨rfl,hb⟩;have HB2:=hbt HB1 hb;clear hb;go_wp2_with fail
 with_reducible refine((z3U _ (HT.out.on HB2.out)).at).mono ?_
 rintro e W3 ⟨rfl,hb⟩;have HB3:=hbt HB2 hb;clear hb;go_wp2_with fail
 with_reducible refine((z3T _ (HT.out.on HB3.out)).at).mono ?_
 rintro e W4 ⟨rfl,hb⟩;have HB4:=hbt HB3 hb;clear hb;go_wp2_with fail
 with_reducible refine((z3Z _ (HT.out.on HB4.out)).at).mono ?_
 rintro e W5 ⟨rfl,hb⟩;have HB5:=hbt HB4 hb;clear hb;go_upto_region 6 with fail
 refine ax W5 [(#[.string ⟨#[49,49,47,50,52]⟩,.string ⟨#[49,47,50]⟩],32)] rfl ?_;have L1:=HB5.out.size;rintro W6 ⟨k1,hb⟩;have hb:Below W5.heap.size W5 W6:=hb;have HB6:=hbt HB5 hb;have K1:=hid k1;clear k1 hb;go_wp2_with fail
 with_reducible refine((z3Y _ (HT.out.on HB6.out)).at).mono ?_
 rintro e W7 ⟨rfl,hb⟩;have K1:=hid (K1.out.below hb);have HB7:=hbt HB6 hb;clear hb;go_upto_region 7 with fail
 refine ax W7 [(#[.string (Sq (degI 3 1).1),.string (Sq (degI 3 1).2)],32)] rfl ?_;have L2:=K1.out.lt;have L3:=HB7.out.size;rintro W8 ⟨k2,hb⟩;have hb:Below W7.heap.size W7 W8:=hb;have K1:=hid (K1.out.below hb);have HB8:=hbt HB7 hb;have K2:=hid k2;clear k2 hb;go_wp2_with fail
 with_reducible refine((z5x _ (HT.out.on HB8.out)).at).mono ?_
 rintro e W9 ⟨rfl,hb⟩;obtain ⟨K1,K2⟩:=hz2 (K1.out.below hb) (K2.out.below hb);have HB9:=hbt HB8 hb;clear hb;go_upto_region 8 with fail
 refine ax W9 [(#[.string (Sq (piI 3).1),.string (Sq (piI 3).2)],32)] rfl ?_;have L4:=K1.out.lt;have L5:=K2.out.lt;have L6:=HB9.out.size;rintro W10 ⟨k3,hb⟩;have hb:Below W9.heap.size W9 W10:=hb;obtain ⟨K1,K2⟩:=hz2 (K1.out.below hb) (K2.out.below hb);have HB10:=hbt HB9 hb;have K3:=hid k3;clear k3 hb;go_wp2_with fail
 with_reducible refine((z3X _ (HT.out.on HB10.out)).at).mono ?_
 rintro e W11 ⟨rfl,hb⟩;obtain ⟨K1,K2,K3⟩:=hz3 (K1.out.below hb) (K2.out.below hb) (K3.out.below hb);have HB11:=hbt HB10 hb;clear hb;go_upto_region 9 with fail
 refine ax W11 [(#[.string ⟨#[49,47,50]⟩,.string ⟨#[49]⟩],32)] rfl ?_;have L7:=K1.out.lt;have L8:=K2.out.lt;have L9:=K3.out.lt;have L10:=HB11.out.size;rintro W12 ⟨k4,hb⟩;have hb:Below W11.heap.size W11 W12:=hb;obtain ⟨K1,K2,K3⟩:=hz3 (K1.out.below hb) (K2.out.below hb) (K3.out.below hb);have HB12:=hbt HB11 hb;have K4:=hid k4;clear k4 hb;obtain ⟨dK10,dK11⟩:=cz2 K1.out rfl rfl;obtain ⟨dK20,dK21⟩:=cz2 K2.out rfl rfl;go_wp2_with fail
 with_reducible refine((z3W _ (HT.out.on HB12.out)).at).mono ?_
 rintro e W13 ⟨rfl,hb⟩;clear dK10 dK11 dK20 dK21;obtain ⟨K3,K4⟩:=hz2 (K3.out.below hb) (K4.out.below hb);have HB13:=hbt HB12 hb;clear hb;obtain ⟨dK30,dK31⟩:=cz2 K3.out rfl rfl;go_wp2_with fail
 with_reducible refine((z3V _ (HT.out.on HB13.out)).at).mono ?_
 rintro e W14 ⟨rfl,hb⟩;clear dK30 dK31;have K4:=hid (K4.out.below hb);have HB14:=hbt HB13 hb;clear hb;obtain ⟨dK40,dK41⟩:=cz2 K4.out rfl rfl;go_wp2_with fail
 with_reducible refine((z0q _ (HT.out.on HB14.out)).at).mono ?_
 rintro e W15 ⟨rfl,hb⟩;clear dK40 dK41;have HB15:=hbt HB14 hb;clear hb;go_wp2_with fail
 with_reducible refine((z0p _ (HT.out.on HB15.out)).at).mono ?_
 rintro e W16 ⟨rfl,hb⟩;have HB16:=hbt HB15 hb;clear hb;go_wp2_with fail
 with_reducible refine((z0o _ (HT.out.on HB16.out)).at).mono ?_
 rintro e W17 ⟨rfl,hb⟩;have HB17:=hbt HB16 hb;clear hb;go_wp2;exact bodyPost_ret (v:=.bool true) (by simp[results,results4,go_sem]) rfl ⟨rfl,HB17.out⟩
theorem z4I (g:Nat)(a:ByteArray)(w:World)(hab:20<a.size)(hc:w.cell? ⟨g,0,none⟩=some (.string a)) :
 Calls Tryz.prog 5 #[.slice (some ⟨g,0,none⟩) 1 1] w fun e w'=>e=.returned (.bool true)∧w=w':=by
 have c0:=hc;clear hc;have ka:(20:Int)<(a.size:Int):=by omega
 clear hab;go_enter func5,ntmps5
 go_wp2;refine wp_loop_rounds 2 ?_;rw[rounds_succ];go_wp2;go_ret
 exact⟨rfl,rfl⟩
theorem z1J (g:Nat)(a b:ByteArray)(w:World)(ha:a.size≤20)(hb:b.size≤20)(hc:w.cell? ⟨g,0,none⟩=some (.string a)∧w.cell? ⟨g,1,none⟩=some (.string b)) :
 Calls Tryz.prog 5 #[.slice (some ⟨g,0,none⟩) 2 2] w fun e w'=>e=.returned (.bool false)∧w=w':=by
 obtain⟨c0,c1⟩:=hc;have ka:¬ (20:Int)<(a.size:Int):=by omega
 have kb:¬ (20:Int)<(b.size:Int):=by omega
 go_enter func5,ntmps5
 go_wp2;refine wp_loop_rounds 3 ?_;rw[rounds_succ];go_wp2;rw[rounds_succ];go_wp2;rw[rounds_succ];go_wp2;go_ret
 exact⟨rfl,rfl⟩
theorem zR (g:Nat)(a b:ByteArray)(w:World)(hab:20<a.size∨20<b.size)(hc:w.cell? ⟨g,0,none⟩=some (.string a)∧w.cell? ⟨g,1,none⟩=some (.string b)) :
 Calls Tryz.prog 5 #[.slice (some ⟨g,0,none⟩) 2 2] w fun e w'=>e=.returned (.bool true)∧w=w':=by
 obtain⟨c0,c1⟩:=hc;by_cases ha:20<a.size
 · have ka:(20:Int)<(a.size:Int):=by omega
   clear hab;go_enter func5,ntmps5
   go_wp2;refine wp_loop_rounds 3 ?_;rw[rounds_succ];go_wp2;go_ret
   exact⟨rfl,rfl⟩
 · have ka:¬ (20:Int)<(a.size:Int):=by omega
   have kb:(20:Int)<(b.size:Int):=by omega
   clear hab;go_enter func5,ntmps5
   go_wp2;refine wp_loop_rounds 3 ?_;rw[rounds_succ];go_wp2;rw[rounds_succ];go_wp2;go_ret
   exact⟨rfl,rfl⟩
theorem lgx2 (g:Nat)(a b:ByteArray)(bb:Bool)(w:World)(hb:decide (20<a.size∨20<b.size)=bb)(k:SBk w g #[.string a,.string b] 22) :
 CR 5 #[.slice (some ⟨g,0,none⟩) 2 2] w (.bool bb):=by
 have hc:=(show w.cell? ⟨g,0,none⟩=some (.string a)∧w.cell? ⟨g,1,none⟩=some (.string b) from⟨k.cell (i:=0) rfl,k.cell (i:=1) rfl⟩)
 cases bb with
 | false =>
   have h:=of_decide_eq_false hb;exact(z1J g a b w (by omega) (by omega) hc).mono (by rintro e w' ⟨rfl,rfl⟩;exact⟨rfl,Below.refl _ _⟩)
 | true=>exact(zR g a b w (of_decide_eq_true hb) hc).mono (by rintro e w' ⟨rfl,rfl⟩;exact⟨rfl,Below.refl _ _⟩)
theorem z03 (x:ByteArray)(h:x.size≤20):vldQ x.data.toList=false∨∃ q,x=Sq q∧SmQ 20 q:=by
 cases hv:vldQ x.data.toList with
 | false=>exact Or.inl rfl
 | true =>
   have hq:=z4v hv;refine Or.inr ⟨_,hq,z2T ?_ (by decide)⟩;rwa [← hq]
end Go.Proofs.YtodcdibanokjjaaGreatDoor
set_option maxRecDepth 100000
set_option maxHeartbeats 20000000
open Go.Lib (hid)
namespace Go.Proofs.YtodcdibanokjjaaGreatDoor
open Go.RowKit Go.Gb
theorem wG (s t:ByteArray)(w₀:World)  (hla:La w₀)(fl:decide (20<s.size∨20<t.size)=true) :
 CV w₀ 3 #[.string s,.string t] (.bool true):=by
 intro w hw;obtain ⟨HT,FL⟩:=hz2 (hla.on hw) fl;clear hla fl hw;go_enter func3,ntmps3
 have HB0:=hid (Below.refl w.heap.size w);go_wp2_with fail
 with_reducible refine((jF _ (HT.out.on HB0.out)).at).mono ?_
 rintro e W1 ⟨rfl,hb⟩;have HB1:=hbt HB0 hb;clear hb;go_wp2_with fail
 have hb:=bU W1 (.cells #[.string s,.string t] 22);have k1:=SBk.new W1 #[.string s,.string t] 22;generalize W1.alloc (.cells #[.string s,.string t] 22)=W2 at *;have HB2:=hbt HB1 hb;have K1:=hid k1;clear k1 hb;with_reducible refine((lgx2 _ s t true _ FL.out K1.out)).mono ?_
 rintro e W3 ⟨rfl,hb⟩;have HB3:=hbt HB2 hb;clear hb;go_wp2_with fail
 with_reducible refine((jF _ (HT.out.on HB3.out)).at).mono ?_
 rintro e W4 ⟨rfl,hb⟩;have HB4:=hbt HB3 hb;clear hb;go_wp2;exact bodyPost_ret (v:=.bool true) (by simp[results,results3,go_sem]) rfl ⟨rfl,HB4.out⟩
theorem yo (s t a c x:ByteArray)(ea ec ex:Int)(bv:Bool)(w₀:World)(h1:CV w₀ 6 #[.string s] (.tuple #[.string a,.int .i64 ea]))(h2:CV w₀ 7 #[.string s] (.tuple #[.string a,.int .i64 ea]))(h3:CV w₀ 8 #[.string s] (.tuple #[.string c,.int .i64 ec]))(h4:CV w₀ 9 #[.string s] (.tuple #[.string c,.int .i64 ec]))(h5:CV w₀ 10 #[.string s,.string t] (.tuple #[.string x,.int .i64 ex]))(h6:CV w₀ 11 #[.string s,.string t] (.tuple #[.string x,.int .i64 ex]))(h7:CV w₀ 12 #[.string s] (.bool bv))(h8:CV w₀ 13 #[.string s] (.bool bv))(hla:La w₀)(fl:decide (20<s.size∨20<t.size)=false) :
 CV w₀ 3 #[.string s,.string t] (.bool true):=by
 intro w hw;obtain ⟨C1,C2,C3,C4,C5,C6,C7,C8,HT,FL⟩:=hz10 (h1.mono hw) (h2.mono hw) (h3.mono hw) (h4.mono hw) (h5.mono hw) (h6.mono hw) (h7.mono hw) (h8.mono hw) (hla.on hw) fl;clear hla fl h1 h2 h3 h4 h5 h6 h7 h8 hw;go_enter func3,ntmps3
 have HB0:=hid (Below.refl w.heap.size w);go_wp2_with fail
 with_reducible refine((jF _ (HT.out.on HB0.out)).at).mono ?_
 rintro e W1 ⟨rfl,hb⟩;have HB1:=hbt HB0 hb;clear hb;go_wp2_with fail
 have hb:=bU W1 (.cells #[.string s,.string t] 22);have k1:=SBk.new W1 #[.string s,.string t] 22;generalize W1.alloc (.cells #[.string s,.string t] 22)=W2 at *;have HB2:=hbt HB1 hb;have K1:=hid k1;clear k1 hb;with_reducible refine((lgx2 _ s t false _ FL.out K1.out)).mono ?_
 rintro e W3 ⟨rfl,hb⟩;have HB3:=hbt HB2 hb;clear hb;go_wp2_with fail
 with_reducible refine(C1.out _ HB3.out).mono ?_
 rintro e W4 ⟨rfl,hb⟩;have HB4:=hbt HB3 hb;clear hb;go_wp2_with fail
 with_reducible refine(C2.out _ HB4.out).mono ?_
 rintro e W5 ⟨rfl,hb⟩;have HB5:=hbt HB4 hb;clear hb;go_wp2_with fail
 with_reducible refine(C3.out _ HB5.out).mono ?_
 rintro e W6 ⟨rfl,hb⟩;have HB6:=hbt HB5 hb;clear hb;go_wp2_with fail
 with_reducible refine(C4.out _ HB6.out).mono ?_
 rintro e W7 ⟨rfl,hb⟩;have HB7:=hbt HB6 hb;clear hb;go_wp2_with fail
 with_reducible refine(C5.out _ HB7.out).mono ?_
 rintro e W8 ⟨rfl,hb⟩;have HB8:=hbt HB7 hb;clear hb;go_wp2_with fail
 with_reducible refine(C6.out _ HB8.out).mono ?_
 rintro e W9 ⟨rfl,hb⟩;have HB9:=hbt HB8 hb;clear hb;go_wp2_with fail
 with_reducible refine(C7.out _ HB9.out).mono ?_
 rintro e W10 ⟨rfl,hb⟩;have HB10:=hbt HB9 hb;clear hb;go_wp2_with fail
 with_reducible refine(C8.out _ HB10.out).mono ?_
 rintro e W11 ⟨rfl,hb⟩;have HB11:=hbt HB10 hb;clear hb;go_wp2;exact bodyPost_ret (v:=.bool true) (by simp[results,results3,go_sem]) rfl ⟨rfl,HB11.out⟩
theorem kq2 {f:Nat}{x y z:Rat}(h:∀ p1 c1 s1 d1 p2 c2 s2 d2 W,RN W (.slice p1 (aa x.num) c1) x.num.natAbs→RN W (.slice s1 (ag x.den) d1) x.den→RN W (.slice p2 (aa y.num) c2) y.num.natAbs→RN W (.slice s2 (ag y.den) d2) y.den→Calls Tryz.prog f #[.agg #[.bool (ah x.num),.slice p1 (aa x.num) c1,.slice s1 (ag x.den) d1],.agg #[.bool (ah y.num),.slice p2 (aa y.num) c2,.slice s2 (ag y.den) d2]] W fun e w'=>∃ p c s d,e=.returned (.agg #[.bool (ah z.num),.slice p (aa z.num) c,.slice s (ag z.den) d])∧RN w' (.slice p (aa z.num) c) z.num.natAbs∧RN w' (.slice s (ag z.den) d) z.den∧Below W.heap.size W w'):KQ2 f x y z:=by
 rintro⟨b,a,n,c,e,m,d⟩ ⟨b',a',n',c',e',m',d'⟩ W ⟨h1,h2,h3,h4,h5⟩ ⟨k1,k2,k3,k4,k5⟩
 dsimp only at *;subst h1 h2 h3 k1 k2 k3;exact(h _ _ _ _ _ _ _ _ W h4 h5 k4 k5).mono fun _ _ ⟨p,c,s,d,he,hr,ht,hb⟩=>⟨⟨_,p,_,c,s,_,d⟩,he,⟨rfl,rfl,rfl,hr,ht⟩,hb⟩
theorem kp2 {f:Nat}{x y:Rat}{v:Value}(h:∀ p1 c1 s1 d1 p2 c2 s2 d2 W,RN W (.slice p1 (aa x.num) c1) x.num.natAbs→RN W (.slice s1 (ag x.den) d1) x.den→RN W (.slice p2 (aa y.num) c2) y.num.natAbs→RN W (.slice s2 (ag y.den) d2) y.den→Calls Tryz.prog f #[.agg #[.bool (ah x.num),.slice p1 (aa x.num) c1,.slice s1 (ag x.den) d1],.agg #[.bool (ah y.num),.slice p2 (aa y.num) c2,.slice s2 (ag y.den) d2]] W fun e w'=>e=.returned v∧Below W.heap.size W w'):KP2 f x y v:=by
 rintro⟨b,a,n,c,e,m,d⟩ ⟨b',a',n',c',e',m',d'⟩ W ⟨h1,h2,h3,h4,h5⟩ ⟨k1,k2,k3,k4,k5⟩
 dsimp only at *;subst h1 h2 h3 k1 k2 k3;exact h _ _ _ _ _ _ _ _ W h4 h5 k4 k5
theorem kp1 {f:Nat}{x:Rat}{v:Value}(h:∀ p1 c1 s1 d1 W,RN W (.slice p1 (aa x.num) c1) x.num.natAbs→RN W (.slice s1 (ag x.den) d1) x.den→Calls Tryz.prog f #[.agg #[.bool (ah x.num),.slice p1 (aa x.num) c1,.slice s1 (ag x.den) d1]] W fun e w'=>e=.returned v∧Below W.heap.size W w'):KP1 f x v:=by
 rintro⟨b,a,n,c,e,m,d⟩ W ⟨h1,h2,h3,h4,h5⟩
 dsimp only at *;subst h1 h2 h3;exact h _ _ _ _ W h4 h5
theorem ks {f:Nat}{v:Value}{z:Rat}(h:∀ W,Calls Tryz.prog f #[v] W fun e w'=>∃ p c s d,e=.returned (.agg #[.bool (ah z.num),.slice p (aa z.num) c,.slice s (ag z.den) d])∧RN w' (.slice p (aa z.num) c) z.num.natAbs∧RN w' (.slice s (ag z.den) d) z.den∧Below W.heap.size W w'):KS f v z:=fun W=>(h W).mono fun _ _ ⟨p,c,s,d,he,hr,ht,hb⟩=>⟨⟨_,p,_,c,s,_,d⟩,he,⟨rfl,rfl,rfl,hr,ht⟩,hb⟩
theorem ksb {f:Nat}{v:Value}{z:Rat}{b:Bool}(h:∀ W,Calls Tryz.prog f #[v] W fun e w'=>∃ p c s d,e=.returned (.tuple #[.agg #[.bool (ah z.num),.slice p (aa z.num) c,.slice s (ag z.den) d],.bool b])∧RN w' (.slice p (aa z.num) c) z.num.natAbs∧RN w' (.slice s (ag z.den) d) z.den∧Below W.heap.size W w'):KSb f v z b:=fun W=>(h W).mono fun _ _ ⟨p,c,s,d,he,hr,ht,hb⟩=>⟨⟨_,p,_,c,s,_,d⟩,he,⟨rfl,rfl,rfl,hr,ht⟩,hb⟩
theorem ylq {q:Rat}{k:Nat}(h:SmQ k q)(hk:k+1≤10000):LQ q:=z4x (h.mono (Nat.le_succ k)) (Nat.succ_pos k) hk
theorem ys1:SmQ 1 (1:Rat):=⟨by unfold Sm;decide,by unfold Sm;decide⟩
theorem ys2:SmQ 1 (2:Rat):=⟨by unfold Sm;decide,by unfold Sm;decide⟩
theorem ysn:SmQ 1 (-1:Rat):=⟨by unfold Sm;decide,by unfold Sm;decide⟩
theorem yI1:KS 35 (.int .i64 1) 1:=ks (fun W=>z3w 1 1 1 rfl (by decide) rfl rfl W)
theorem yI2:KS 35 (.int .i64 2) 2:=ks (fun W=>z3w 2 2 2 rfl (by decide) rfl rfl W)
theorem yIn:KS 35 (.int .i64 (-1)) (-1):=by
 have g:∀ q:Rat,q.num = -1→q.den=1→KS 35 (.int .i64 (-1)) q:=fun q hn he=>ks (fun W=>by
  refine vH (-1) q.num q.den W (fun W=>?_) (fun W=>?_)
  · rw[hn];exact wV W
  · rw[he];exact lh 1 1 rfl (by decide) W)
 exact g (-1) rfl rfl
theorem z13 {x:Rat}{k:Nat}(hx:SmQ k x)(hk:k≤900):KSb 54 (.string (Sq x)) x true:=ksb (fun W=>z2X x (hx.mono hk) (by have:=yM (hx.mono hk) (by decide);omega) W)
theorem mD (a:ByteArray)(ha:a.size≤900):∃ x,KSb 54 (.string a) x (vldQ a.data.toList):=by
 obtain⟨x,hx⟩:=zk a ha;exact⟨x,ksb hx⟩
theorem yTo {x:Rat}{k:Nat}(hx:SmQ k x)(hk:k≤9000):KP1 28 x (.string (Sq x)):=kp1 (sQTo x _ rfl (hx.mono hk))
theorem z4L {x y:Rat}(h:y≤x):decide (0≤cmpQ x y)=true:=by
 rcases eF x y with⟨h2,e⟩|⟨h2,e⟩|⟨h2,e⟩
 · grind
 · rw[e];rfl
 · rw[e];rfl
theorem z4J (x y:Rat):decide (cmpQ x y≤0)=decide (x≤y):=by
 rcases eF x y with⟨h2,e⟩|⟨h2,e⟩|⟨h2,e⟩<;>rw[e]
 · exact(decide_eq_true (by grind)).symm
 · exact(decide_eq_true (by grind)).symm
 · exact(decide_eq_false (by grind)).symm
theorem gp {x:Rat}{k:Nat}{b:Bool}(hb:decide (-1≤x∧x≤1)=b)(hx:SmQ k x)(hk:k+1≤10000):KBe 33 x b:=by
 intro q W h;have lx:=ylq hx hk;have ln:=ylq ysn (by decide);have l1:=ylq ys1 (by decide);by_cases h1 : -1≤x
 · refine sP x (-1) 1 (cmpQ x (-1)) (cmpQ x 1) b q W (z4L h1) ?_ yIn (kp2 (z3y x (-1) _ rfl lx ln)) yI1 (kp2 (z3y x 1 _ rfl lx l1)) h
   rw[z4J,← hb];exact decide_eq_decide.2 ⟨fun h2=>⟨h1,h2⟩,fun h2=>h2.2⟩
 · obtain rfl:b=false:=by rw[← hb];exact decide_eq_false (fun h2=>h1 h2.1)
   exact sQ x (-1) q W yIn (kp2 (z3y x (-1) _ (ut (by grind)) lx ln)) h
theorem yA {a:ByteArray}(hv:vldQ a.data.toList=false)(ha:a.size≤900):∃ x,KSi 27 (.string a) x 1:=by
 obtain⟨x,hx⟩:=mD a ha;rw[hv]at hx;exact⟨x,fun W=>z0Y a x W hx⟩
theorem yx {x:Rat}{k:Nat}(h:¬ (-1≤x∧x≤1))(hx:SmQ k x)(hk:k≤900):KSi 27 (.string (Sq x)) x 2:=fun W=>yw _ x W (z13 hx hk) (gp (decide_eq_false h) hx (by omega))
theorem z0Z {x:Rat}{k:Nat}(h : -1≤x∧x≤1)(hx:SmQ k x)(hk:k≤900):KSi 27 (.string (Sq x)) x 0:=fun W=>z0X _ x W (z13 hx hk) (gp (decide_eq_true h) hx (by omega))
theorem yCos {x:Rat}{k:Nat}(hx:SmQ k x)(hk:k≤900):KQ1 29 x (cosQ x):=by
 intro q W h;have s:=hx.mul hx;have m:=ys1.sub s;have p:=ys1.add s;exact z14 x (x*x) 1 (1-x*x) (1+x*x) (cosQ x) q W (kq2 (zh x x _ rfl (ylq hx (by omega)) (ylq hx (by omega)))) yI1 (kq2 (z4D 1 (x*x) _ rfl (ylq ys1 (by decide)) (ylq s (by omega)))) (kq2 (z1o 1 (x*x) _ rfl (ylq ys1 (by decide)) (ylq s (by omega)))) (kq2 (z3x _ _ _ rfl (o8 x) (ylq m (by omega)) (ylq p (by omega)))) h
theorem ySin {x:Rat}{k:Nat}(hx:SmQ k x)(hk:k≤900):KQ1 30 x (sinQ x):=by
 intro q W h;have s:=hx.mul hx;have m:=ys2.mul hx;have p:=ys1.add s;exact z0W x (x*x) 1 2 (2*x) (1+x*x) (sinQ x) q W yI2 (kq2 (zh 2 x _ rfl (ylq ys2 (by decide)) (ylq hx (by omega)))) yI1 (kq2 (zh x x _ rfl (ylq hx (by omega)) (ylq hx (by omega)))) (kq2 (z1o 1 (x*x) _ rfl (ylq ys1 (by decide)) (ylq s (by omega)))) (kq2 (z3x _ _ _ rfl (o8 x) (ylq m (by omega)) (ylq p (by omega)))) h
theorem z5d {x y:Rat}{k:Nat}(hx:SmQ k x)(hy:SmQ k y)(hk:k≤900):KBo 32 (.string (Sq x)) (.string (Sq y)) x y 0:=fun W=>z15 _ _ x y W (z13 hx hk) (z13 hy hk)
theorem qD {a b:ByteArray}(h:(vldQ a.data.toList&&vldQ b.data.toList)=false)(ha:a.size≤900)(hb:b.size≤900):∃ x y,KBo 32 (.string a) (.string b) x y 1:=by
 obtain⟨x,h1⟩:=mD a ha;obtain⟨y,h2⟩:=mD b hb;refine⟨x,y,fun W=>?_⟩
 cases va:vldQ a.data.toList with
 | false =>
   rw[va]at h1;exact z18 a b x y _ W h1 h2
 | true =>
   rw[va,Bool.true_and]at h;rw[va]at h1;rw[h]at h2;exact z16 a b x y W h1 h2
theorem yt (s:ByteArray)(hs:s.size≤20)(w:World)(hl:La w):∃ a ea c ec bv,CV w 6 #[.string s] (.tuple #[.string a,.int .i64 ea])∧CV w 7 #[.string s] (.tuple #[.string a,.int .i64 ea])∧CV w 8 #[.string s] (.tuple #[.string c,.int .i64 ec])∧CV w 9 #[.string s] (.tuple #[.string c,.int .i64 ec])∧CV w 12 #[.string s] (.bool bv)∧CV w 13 #[.string s] (.bool bv):=by
 rcases z03 s hs with hv|⟨q,rfl,hq⟩
 · have k:=z3P hv (by omega) w hl
   obtain⟨x,hr⟩:=yA hv (by omega);exact⟨_,_,_,_,_,z4f s w k,fun W _=>wK s x W hr,z4b s w k,fun W _=>z0V s x W hr,z0C hv (by omega) w hl,fun W _=>z0R s x W hr⟩
 · by_cases hr : -1≤q∧q≤1
   · have r:=z0Z hr hq (by decide)
     have sc:=z4z hq;have ss:=z4y hq;exact⟨_,_,_,_,_,z3m hq (by decide) hr w hl,fun W _=>wI _ _ q (cosQ q) W r (yCos hq (by decide)) (yTo sc (by decide)),z3l hq (by decide) hr w hl,fun W _=>z0T _ _ q (sinQ q) W r (ySin hq (by decide)) (yTo ss (by decide)),dI (decide_eq_true hr) (hq.fit (by decide)) w hl,fun W _=>z0S _ q W r⟩
   · have k:=z3O hr (hq.fit (by decide)) w hl
     have r:=yx hr hq (by decide);exact⟨_,_,_,_,_,z4e _ w k,fun W _=>wJ _ q W r,z4a _ w k,fun W _=>z0U _ q W r,dI (decide_eq_false hr) (hq.fit (by decide)) w hl,fun W _=>z0Q _ q W r⟩
theorem yn (s t:ByteArray)(hs:s.size≤20)(ht:t.size≤20)(w:World)(hl:La w):∃ x ex,CV w 10 #[.string s,.string t] (.tuple #[.string x,.int .i64 ex])∧CV w 11 #[.string s,.string t] (.tuple #[.string x,.int .i64 ex]):=by
 rcases z03 s hs with hv|⟨p,rfl,hp⟩
 · obtain⟨x,y,hb⟩:=qD (a:=s) (b:=t) (by rw[hv];rfl) (by omega) (by omega)
   exact⟨_,_,z0t _ _ w (z2p hv (by omega) w hl),fun W _=>z2N s t x y W hb⟩
 · have fp:=hp.fit (by decide)
   rcases z03 t ht with hu|⟨q,rfl,hq⟩
   · obtain⟨x,y,hb⟩:=qD (a:=Sq p) (b:=t) (by rw[hu,Bool.and_false]) (by omega) (by omega)
     exact⟨_,_,z0t _ _ w (z2o fp hu (by omega) w hl),fun W _=>z2N _ t x y W hb⟩
   · have fq:=hq.fit (by decide)
     have B:=z5d hp hq (by decide);by_cases h1 : -1≤p∧p≤1
     · have b1:=gp (decide_eq_true h1) hp (by decide)
       by_cases h2 : -1≤q∧q≤1
       · have b2:=gp (decide_eq_true h2) hq (by decide)
         have pm:=hp.mul hq;have pd:=ys1.sub pm;have pa:=hp.add hq;have M:=kq2 (zh p q _ rfl (ylq hp (by decide)) (ylq hq (by decide)));have D:=kq2 (z4D 1 (p*q) _ rfl (ylq ys1 (by decide)) (ylq pm (by decide)));have SG:=kp1 (zg (1-p*q) _ rfl);by_cases h0:1-p*q=0
         · rw[show((1-p*q).num.sign)=0 by rw[h0];rfl]at SG
           exact⟨_,_,lm hp hq (by decide) h1 h2 (fun h=>h.1 h0) w hl,fun W _=>yu _ _ p q 1 (p*q) (1-p*q) W B b1 b2 yI1 M D SG⟩
         · have hk:(((1-p*q).num.sign)==0)=false:=beq_eq_false_iff_ne.2 (fun h=>h0 (Rat.num_eq_zero.1 (Int.sign_eq_zero_iff_zero.1 h)))
           have A:=kq2 (z1o p q _ rfl (ylq hp (by decide)) (ylq hq (by decide)));have Q:=kq2 (z3x (p+q) (1-p*q) (sumQ p q) rfl h0 (ylq pa (by decide)) (ylq pd (by decide)));have su:=yU hp hq h0;by_cases h3 : -1≤sumQ p q∧sumQ p q≤1
           · exact⟨_,_,z3j hp hq (by decide) h1 h2 h0 h3 w hl,fun W _=>z3p _ _ p q 1 (p*q) (1-p*q) (p+q) (sumQ p q) _ _ W hk B b1 b2 yI1 M D SG A Q (gp (decide_eq_true h3) su (by decide)) (yTo su (by decide))⟩
           · exact⟨_,_,lm hp hq (by decide) h1 h2 (fun h=>h3 h.2) w hl,fun W _=>wH _ _ p q 1 (p*q) (1-p*q) (p+q) (sumQ p q) _ W hk B b1 b2 yI1 M D SG A Q (gp (decide_eq_false h3) su (by decide))⟩
       · exact⟨_,_,z0s _ _ w (z2l h1 h2 fp fq w hl),fun W _=>z3q _ _ p q W B b1 (gp (decide_eq_false h2) hq (by decide))⟩
     · exact⟨_,_,z0s _ _ w (z2m h1 fp fq w hl),fun W _=>z3r _ _ p q W B (gp (decide_eq_false h1) hp (by decide))⟩
theorem qw (s t:ByteArray)(w:World)(hl:La w) :
 CR 3 #[.string s,.string t] w (.bool true):=by
 by_cases h20:20<s.size∨20<t.size
 · exact(wG s t w hl (decide_eq_true h20)).at
 · have hf:decide (20<s.size∨20<t.size)=false:=decide_eq_false h20
   obtain⟨a,ea,c,ec,bv,k1,k2,k3,k4,k7,k8⟩:=yt s (by omega) w hl;obtain⟨x,ex,k5,k6⟩:=yn s t (by omega) (by omega) w hl;exact(yo s t a c x ea ec ex bv w k1 k2 k3 k4 k5 k6 k7 k8 hl hf).at
end Go.Proofs.YtodcdibanokjjaaGreatDoor
