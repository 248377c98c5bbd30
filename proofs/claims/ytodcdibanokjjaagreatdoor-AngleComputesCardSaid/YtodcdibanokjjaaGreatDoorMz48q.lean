/- texts -/
import Derived.Test.YtodcdibanokjjaaGreatDoorMz47q
namespace Go.Proofs.YtodcdibanokjjaaGreatDoor
open Go.RowKit Go.Gb
def mulI (x:Rat) (p:Rat × Rat):Rat × Rat:=exOf (row4 (x*p.1) (x*p.2) (x*p.1) (x*p.2)) 3
def subI (p q:Rat × Rat):Rat × Rat:=(p.1-q.2,p.2-q.1)
def piI (n:Nat):Rat × Rat:=subI (mulI 16 (serI (1 / 5) n)) (mulI 4 (serI (1 / 239) n))
def atI (n:Nat) (x:Rat):Rat × Rat:=if x≤1 / 2 then serI x n else subI (mulI (1 / 4) (piI n)) (serI ((1-x) / (1+x)) n)
def divI (p q:Rat × Rat):Rat × Rat:=exOf (row4 (p.1 / q.1) (p.1 / q.2) (p.2 / q.1) (p.2 / q.2)) 3
def degI (n:Nat) (x:Rat):Rat × Rat:=divI (mulI 360 (atI n x)) (piI n)
theorem nk (x:Rat)(n:Nat):(serI x n).1≤(serI x n).2:=jD _ 3
theorem jP (x:Rat)(p:Rat × Rat):(mulI x p).1≤(mulI x p).2:=jD _ 3
theorem zf {p q:Rat × Rat}(hp:p.1≤p.2)(hq:q.1≤q.2):(subI p q).1≤(subI p q).2:=by
 unfold subI
 grind
theorem zV (n:Nat):(piI n).1≤(piI n).2:=zf (jP _ _) (jP _ _)
theorem z5f (n:Nat)(x:Rat):(atI n x).1≤(atI n x).2:=by
 unfold atI
 split
 · exact nk _ _
 · exact zf (jP _ _) (nk _ _)
theorem zu {k:Nat}{a b c d:Rat}(ha:SmQ k a)(hb:SmQ k b)(hc:SmQ k c)(hd:SmQ k d):SmQ k (exOf (row4 a b c d) 3).1∧SmQ k (exOf (row4 a b c d) 3).2:=by
 have h:=z1H a b c d;constructor
 · rcases h.1 with e|e|e|e<;>rw[e]<;>assumption
 · rcases h.2 with e|e|e|e<;>rw[e]<;>assumption
theorem jM {x:Rat}{k n:Nat}(hx:SmQ k x)(hn:n≤24):SmQ ((n+1)*(k+(k+k)*(n+1)+4+1)+1) (serI x n).1∧SmQ ((n+1)*(k+(k+k)*(n+1)+4+1)+1) (serI x n).2:=by
 have hK:∀ i,i<n+1→SmQ (k+(k+k)*(n+1)+4) (mg x i):=fun i hi=>zo hx hi (by omega);have h1:=(vI n (fun i hi=>hK i (by omega))).mono (show n*(k+(k+k)*(n+1)+4+1)+1≤(n+1)*(k+(k+k)*(n+1)+4+1)+1 from Nat.add_le_add_right (Nat.mul_le_mul_right _ (by omega)) _);have h2:=vI (n+1) hK;exact zu h1 h1 h2 h2
theorem j5 {x:Rat}{p:Rat × Rat}{k l:Nat}(hx:SmQ k x)(h1:SmQ l p.1)(h2:SmQ l p.2):SmQ (k+l) (mulI x p).1∧SmQ (k+l) (mulI x p).2:=zu (hx.mul h1) (hx.mul h2) (hx.mul h1) (hx.mul h2)
theorem s5:SmQ 1 ((1:Rat) / 5):=⟨by unfold Sm;decide +kernel,by unfold Sm;decide +kernel⟩
theorem s239:SmQ 3 ((1:Rat) / 239):=⟨by unfold Sm;decide +kernel,by unfold Sm;decide +kernel⟩
theorem s16:SmQ 2 (16:Rat):=⟨by unfold Sm;decide,by unfold Sm;decide⟩
theorem s4:SmQ 2 (4:Rat):=⟨by unfold Sm;decide,by unfold Sm;decide⟩
theorem s14:SmQ 2 ((1:Rat) / 4):=⟨by unfold Sm;decide +kernel,by unfold Sm;decide +kernel⟩
theorem s12:SmQ 2 ((1:Rat) / 2):=⟨by unfold Sm;decide +kernel,by unfold Sm;decide +kernel⟩
theorem s360:SmQ 3 (360:Rat):=⟨by unfold Sm;decide,by unfold Sm;decide⟩
theorem t5:Sq ((1:Rat) / 5)=⟨#[49,47,53]⟩:=by decide +kernel
theorem t239:Sq ((1:Rat) / 239)=⟨#[49,47,50,51,57]⟩:=by decide +kernel
theorem t16:Sq (16:Rat)=⟨#[49,54]⟩:=by decide +kernel
theorem t4:Sq (4:Rat)=⟨#[52]⟩:=by decide +kernel
theorem t14:Sq ((1:Rat) / 4)=⟨#[49,47,52]⟩:=by decide +kernel
theorem t12:Sq ((1:Rat) / 2)=⟨#[49,47,50]⟩:=by decide +kernel
theorem tn12:Sq (-(1:Rat) / 2)=⟨#[45,49,47,50]⟩:=by decide +kernel
theorem t360:Sq (360:Rat)=⟨#[51,54,48]⟩:=by decide +kernel
theorem rf {n:Nat}(hn:n≤5):SmQ 400 (piI n).1∧SmQ 400 (piI n).2:=by
 have a:=jM (n:=n) s5 (by omega);have b:=jM (n:=n) s239 (by omega)
 have h1:(n+1)*(1+(1+1)*(n+1)+4+1)+1≤109:=by
  have:n+1≤6:=by omega
  have h2:1+(1+1)*(n+1)+4+1≤18:=by omega
  have:=Nat.mul_le_mul this h2;omega
 have h3:(n+1)*(3+(3+3)*(n+1)+4+1)+1≤265:=by
  have:n+1≤6:=by omega
  have h2:3+(3+3)*(n+1)+4+1≤44:=by omega
  have:=Nat.mul_le_mul this h2;omega
 have c:=j5 s16 (a.1.mono h1) (a.2.mono h1);have d:=j5 s4 (b.1.mono h3) (b.2.mono h3);exact⟨(c.1.sub d.2).mono (by decide),(c.2.sub d.1).mono (by decide)⟩
theorem mO {x:Rat}{p:Rat × Rat}{k l:Nat}(hx:SmQ k x)(h1:SmQ l p.1)(h2:SmQ l p.2)(hp:p.1≤p.2)(hk:k+l≤900)(w:World)(hla:La w) :
 CV w 71 #[.string (Sq x),.agg #[.string (Sq p.1),.string (Sq p.2)]] (.agg #[.string (Sq (mulI x p).1),.string (Sq (mulI x p).2)]) :=
 yg _ _ _ _ _ _ _ 0 w (lQ (hx.fit (by omega)) w hla) (fun W hW=>xMul x x p.1 p.2 _ _ _ _ rfl rfl rfl rfl Rat.le_refl hp (hx.fit (by omega)) (hx.fit (by omega)) (h1.fit (by omega)) (h2.fit (by omega)) ((hx.mul h1).fit hk) ((hx.mul h2).fit hk) ((hx.mul h1).fit hk) ((hx.mul h2).fit hk) W (hla.on hW))
theorem z3z {p q:Rat × Rat}(h1:aO p.1)(h2:aO p.2)(h3:aO q.1)(h4:aO q.2)(hp:p.1≤p.2)(hq:q.1≤q.2)(w:World)(hla:La w) :
 CV w 73 #[.agg #[.string (Sq p.1),.string (Sq p.2)],.agg #[.string (Sq q.1),.string (Sq q.2)]] (.agg #[.string (Sq (subI p q).1),.string (Sq (subI p q).2)]) :=
 z2H _ _ _ _ _ _ 0 w (fun W hW=>xSub _ _ _ _ _ _ rfl rfl hp hq h1 h2 h3 h4 W (hla.on hW))
theorem kY {n:Nat}(hn1:1≤n)(hn:n≤5)(w:World)(hla:La w):CV w 44 #[.int .i64 (n:Int)] (.agg #[.int .i64 (n:Int),.string (Sq (piI n).1),.string (Sq (piI n).2)]):=by
 have _:=hn1;have a:=jM (n:=n) s5 (by omega);have b:=jM (n:=n) s239 (by omega)
 have h1:(n+1)*(1+(1+1)*(n+1)+4+1)+1≤109:=by
  have h3:n+1≤6:=by omega
  have h2:1+(1+1)*(n+1)+4+1≤18:=by omega
  have:=Nat.mul_le_mul h3 h2;omega
 have h3:(n+1)*(3+(3+3)*(n+1)+4+1)+1≤265:=by
  have h4:n+1≤6:=by omega
  have h2:3+(3+3)*(n+1)+4+1≤44:=by omega
  have:=Nat.mul_le_mul h4 h2;omega
 have e1:=kX (n:=n) s5 (by omega) (by omega) w hla;have e2:=kX (n:=n) s239 (by omega) (by omega) w hla;have c:=j5 s16 (a.1.mono h1) (a.2.mono h1);have d:=j5 s4 (b.1.mono h3) (b.2.mono h3);have e3:=mO s16 (a.1.mono h1) (a.2.mono h1) (nk _ _) (by decide) w hla;have e4:=mO s4 (b.1.mono h3) (b.2.mono h3) (nk _ _) (by decide) w hla;have e5:=z3z (c.1.fit (by decide)) (c.2.fit (by decide)) (d.1.fit (by decide)) (d.2.fit (by decide)) (jP 16 (serI (1 / 5) n)) (jP 4 (serI (1 / 239) n)) w hla;rw[t5]at e1;rw[t239]at e2;rw[t16]at e3;rw[t4]at e4;exact uO _ _ _ _ _ _ _ _ _ _ _ w e1 e2 e3 e4 e5
theorem z5i {n:Nat}{x:Rat}{k l:Nat}(hn:n≤5)(hx:SmQ k x)(h1 : -1 / 2≤x)(h2:x≤1)(hr:SmQ l ((1-x) / (1+x)))(hk:(n+1)*(k+(k+k)*(n+1)+4+1)+1≤900)(hl:(n+1)*(l+(l+l)*(n+1)+4+1)+1≤490)(w:World)(hla:La w) :
 CV w 41 #[.agg #[.int .i64 (n:Int),.string (Sq (piI n).1),.string (Sq (piI n).2)],.string (Sq x)] (.agg #[.string (Sq (atI n x).1),.string (Sq (atI n x).2)]):=by
 have _:=h2
 have hkk:k≤300:=by
  have:k+(k+k)*(n+1)+4+1≤(n+1)*(k+(k+k)*(n+1)+4+1):=Nat.le_mul_of_pos_left _ (by omega);have:(k+k)*1≤(k+k)*(n+1):=Nat.mul_le_mul_left _ (by omega);omega
 have hll:l≤300:=by
  have:l+(l+l)*(n+1)+4+1≤(n+1)*(l+(l+l)*(n+1)+4+1):=Nat.le_mul_of_pos_left _ (by omega);have:(l+l)*1≤(l+l)*(n+1):=Nat.mul_le_mul_left _ (by omega);omega
 have hx9:aO x:=hx.fit (by omega);have sn12:SmQ 2 (-(1:Rat) / 2):=⟨by unfold Sm;decide +kernel,by unfold Sm;decide +kernel⟩;have o1:=mJ (x:=x) (y := -(1:Rat) / 2) rfl hx9 (sn12.fit (by decide)) w hla;have o2:=mJ (x:=x) (y:=(1:Rat) / 2) rfl hx9 (s12.fit (by decide)) w hla;rw[tn12]at o1;rw[t12]at o2
 have f1:decide (cmpQ x (-(1:Rat) / 2)<0)=false:=by
  rcases eZ x (-(1:Rat) / 2) with⟨h,e⟩|⟨h,e⟩|⟨h,e⟩
  · grind
  · rw[e];rfl
  · rw[e];rfl
 by_cases hm:x≤1 / 2
 · have f2:decide (cmpQ x ((1:Rat) / 2)≤0)=true:=by
    rcases eZ x ((1:Rat) / 2) with⟨h,e⟩|⟨h,e⟩|⟨h,e⟩
    · rw[e];rfl
    · rw[e];rfl
    · grind
   have e:atI n x=serI x n:=by unfold atI;rw[if_pos hm]
   rw[e];exact z0Q _ _ _ _ _ _ _ _ w o1 o2 (kX hx (by omega) hk w hla) f1 f2
 · have e:atI n x=subI (mulI (1 / 4) (piI n)) (serI ((1-x) / (1+x)) n):=by unfold atI;rw[if_neg hm]
   rw[e];have hgt:(1:Rat) / 2<x:=by grind
   rw[nS hgt]at o2;have e3:=kT (x:=1) (y:=x) rfl (su1.fit (by decide)) hx9 w hla;have e4:=jk (x:=1) (y:=x) rfl (su1.fit (by decide)) hx9 w hla;have hne:1+x≠0:=by grind
   have e5:=qH (x:=1-x) (y:=1+x) rfl ((su1.sub hx).fit (by omega)) ((su1.add hx).fit (by omega)) hne w hla;have hp:=rf hn;have e6:=mO s14 hp.1 hp.2 (zV n) (by decide) w hla;have hq:=j5 s14 hp.1 hp.2;have hs:=jM (n:=n) hr (by omega);have e7:=kX (n:=n) hr (by omega) (by omega) w hla;have e8:=z3z (hq.1.fit (by decide)) (hq.2.fit (by decide)) (hs.1.fit (by omega)) (hs.2.fit (by omega)) (jP (1 / 4) (piI n)) (nk ((1-x) / (1+x)) n) w hla;rw[uq1]at e3 e4;rw[t14]at e6;exact yt _ _ _ _ _ _ _ _ _ _ _ _ _ _ w o1 o2 e3 e4 e5 e6 e7 e8 f1
theorem z5h {w₀:World}{n:Nat}{x:Rat}{m:Nat}(hn:n≤5)(hat:CV w₀ 41 #[.agg #[.int .i64 (n:Int),.string (Sq (piI n).1),.string (Sq (piI n).2)],.string (Sq x)] (.agg #[.string (Sq (atI n x).1),.string (Sq (atI n x).2)]))(h1:SmQ m (atI n x).1)(h2:SmQ m (atI n x).2)(hm:m≤497)(hpos:0<(piI n).1)(hla:La w₀) :
 CV w₀ 42 #[.agg #[.int .i64 (n:Int),.string (Sq (piI n).1),.string (Sq (piI n).2)],.string (Sq x)] (.agg #[.string (Sq (degI n x).1),.string (Sq (degI n x).2)]):=by
 have hp:=rf hn;have hle:=zV n;have hs:=j5 s360 h1 h2;have e2:=mO s360 h1 h2 (z5f n x) (by omega) w₀ hla;rw[t360]at e2;have n1:(piI n).1≠0:=by grind
 have n2:(piI n).2≠0:=by grind
 have d1:=(hs.1.div hp.1 n1).fit (by omega);have d2:=(hs.1.div hp.2 n2).fit (by omega);have d3:=(hs.2.div hp.1 n1).fit (by omega);have d4:=(hs.2.div hp.2 n2).fit (by omega);exact z2K _ _ _ _ _ _ _ _ _ _ 0 w₀ hat e2 (fun W hW=>xDiv _ _ _ _ _ _ _ _ rfl rfl rfl rfl (jP 360 (atI n x)) hle (decide_eq_false (by grind)) (hs.1.fit (by omega)) (hs.2.fit (by omega)) (hp.1.fit (by decide)) (hp.2.fit (by decide)) d1 d2 d3 d4 W (hla.on hW))
set_option maxRecDepth 100000
set_option maxHeartbeats 20000000
open Go.Lib (hid)
theorem a13:SmQ 2 (1/3:Rat):=⟨by unfold Sm;decide +kernel,by unfold Sm;decide +kernel⟩
theorem a90:SmQ 3 (90:Rat):=⟨by unfold Sm;decide +kernel,by unfold Sm;decide +kernel⟩
theorem an90:SmQ 3 (-90:Rat):=⟨by unfold Sm;decide +kernel,by unfold Sm;decide +kernel⟩
theorem a355:SmQ 4 (355/113:Rat):=⟨by unfold Sm;decide +kernel,by unfold Sm;decide +kernel⟩
theorem t13:Sq (1/3:Rat)=⟨#[49,47,51]⟩:=by decide +kernel
theorem t34:Sq (3/4:Rat)=⟨#[51,47,52]⟩:=by decide +kernel
theorem t35:Sq (3/5:Rat)=⟨#[51,47,53]⟩:=by decide +kernel
theorem t45:Sq (4/5:Rat)=⟨#[52,47,53]⟩:=by decide +kernel
theorem t90:Sq (90:Rat)=⟨#[57,48]⟩:=by decide +kernel
theorem tn90:Sq (-90:Rat)=⟨#[45,57,48]⟩:=by decide +kernel
theorem t355:Sq (355/113:Rat)=⟨#[51,53,53,47,49,49,51]⟩:=by decide +kernel
theorem z5t:Sq (11/24:Rat)=⟨#[49,49,47,50,52]⟩:=by decide +kernel
theorem z5e (w:World)(hla:La w):CV w 6 #[.string ⟨#[49,47,50]⟩] (.tuple #[.string ⟨#[51,47,53]⟩,.int .i64 0]):=by
 have h:=z3B s12 (by decide) (by decide +kernel) w hla;rwa [show cosQ (1 / 2)=3 / 5 from by decide +kernel,t12,t35]at h
theorem z5d (w:World)(hla:La w):CV w 8 #[.string ⟨#[49,47,50]⟩] (.tuple #[.string ⟨#[52,47,53]⟩,.int .i64 0]):=by
 have h:=z3A s12 (by decide) (by decide +kernel) w hla;rwa [show sinQ (1 / 2)=4 / 5 from by decide +kernel,t12,t45]at h
theorem z4j (w:World)(hla:La w):CV w 10 #[.string ⟨#[49,47,50]⟩,.string ⟨#[49,47,50]⟩] (.tuple #[.string ⟨#[]⟩,.int .i64 15]):=by
 have h:=lN s12 s12 (by decide) (by decide +kernel) (by decide +kernel) (by decide +kernel) w hla;rwa [t12]at h
theorem z4i (w:World)(hla:La w):CV w 10 #[.string ⟨#[49,47,51]⟩,.string ⟨#[49,47,51]⟩] (.tuple #[.string ⟨#[51,47,52]⟩,.int .i64 0]):=by
 have h:=z3y a13 a13 (by decide) (by decide +kernel) (by decide +kernel) (by decide +kernel) (by decide +kernel) w hla;rwa [show sumQ (1 / 3) (1 / 3)=3 / 4 from by decide +kernel,t13,t34]at h
theorem z4o (w:World)(hla:La w):CV w 14 #[.string ⟨#[49,47,50]⟩,.int .i64 1] (.tuple #[.agg #[.string ⟨#[49,49,47,50,52]⟩,.string ⟨#[49,47,50]⟩],.int .i64 0]):=by
 have hr:SmQ 2 ((1-(1:Rat) / 2) / (1+1 / 2)):=by
  rw[show(1-(1:Rat) / 2) / (1+1 / 2)=1 / 3 from by decide +kernel];exact a13
 have h:=z5i (n:=1) (by decide) s12 (by decide +kernel) (by decide +kernel) hr (by decide) (by decide) w hla;have hc:=kY (n:=1) (by decide) (by decide) w hla;rw[show atI 1 (1 / 2)=(11 / 24,1 / 2) from by decide +kernel,t12]at h;have h2:=z0O _ _ _ _ _ _ w (mK 1 w (by decide) (by decide)) hc h (t12▸mI (by decide +kernel) (s12.fit (by decide)) w hla);have h3:=yn _ _ _ _ _ w h2;rwa [z5t]at h3
theorem z3T:0<(piI 3).1:=by decide +kernel
theorem z3k {x:Rat}{k l:Nat}(hx:SmQ k x)(hr:SmQ l ((1-x) / (1+x)))(hk:k≤2)(hl:l≤2):SmQ 496 (atI 3 x).1∧SmQ 496 (atI 3 x).2:=by
 have a:=jM (n:=3) (hx.mono hk) (by decide);have b:=jM (n:=3) (hr.mono hl) (by decide);have hp:=rf (n:=3) (by decide);have c:=j5 s14 hp.1 hp.2;unfold atI
 split
 · exact⟨a.1.mono (by decide),a.2.mono (by decide)⟩
 · exact⟨(c.1.sub b.2).mono (by decide),(c.2.sub b.1).mono (by decide)⟩
theorem deg3 {x:Rat}{k l:Nat}(hx:SmQ k x)(hr:SmQ l ((1-x) / (1+x)))(hk:k≤2)(hl:l≤2)(h1 : -1 / 2≤x)(h2:x≤1)(w:World)(hla:La w) :
 CV w 42 #[.agg #[.int .i64 3,.string (Sq (piI 3).1),.string (Sq (piI 3).2)],.string (Sq x)] (.agg #[.string (Sq (degI 3 x).1),.string (Sq (degI 3 x).2)]):=by
 have hs:=z3k hx hr hk hl;exact z5h (n:=3) (by decide) (z5i (n:=3) (by decide) (hx.mono hk) h1 h2 (hr.mono hl) (by decide) (by decide) w hla) hs.1 hs.2 (by decide) z3T hla
theorem qx {x:Rat}{k l:Nat}(hx:SmQ k x)(hr:SmQ l ((1-x) / (1+x)))(hk:k≤2)(hl:l≤2):aO (degI 3 x).1∧aO (degI 3 x).2:=by
 have hs:=z3k hx hr hk hl;have hp:=rf (n:=3) (by decide);have n1:(piI 3).1≠0:=by decide +kernel
 have n2:(piI 3).2≠0:=by decide +kernel
 have m:=j5 s360 hs.1 hs.2;have q:=zu (m.1.div hp.1 n1) (m.1.div hp.2 n2) (m.2.div hp.1 n1) (m.2.div hp.2 n2);exact⟨q.1.fit (by decide),q.2.fit (by decide)⟩
theorem z4a (n:Nat)(x:Rat):(degI n x).1≤(degI n x).2:=jD _ 3
theorem r1:SmQ 1 ((1-(1:Rat)) / (1+1)):=by
 rw[show(1-(1:Rat)) / (1+1)=0 from by decide +kernel];exact su0
theorem r0:SmQ 1 ((1-(0:Rat)) / (1+0)):=by
 rw[show(1-(0:Rat)) / (1+0)=1 from by decide +kernel];exact su1
theorem r12:SmQ 2 ((1-(1:Rat) / 2) / (1+1 / 2)):=by
 rw[show(1-(1:Rat) / 2) / (1+1 / 2)=1 / 3 from by decide +kernel];exact a13
theorem z4n (w:World)(hla:La w):CV w 15 #[.string ⟨#[49]⟩,.int .i64 3] (.tuple #[.agg #[.string (Sq (degI 3 1).1),.string (Sq (degI 3 1).2)],.int .i64 0]):=by
 have h:=deg3 su1 r1 (by decide) (by decide) (by decide +kernel) (by decide +kernel) w hla;have hc:=kY (n:=3) (by decide) (by decide) w hla;rw[uq1]at h;exact ym _ _ _ _ _ w (z0N _ _ _ _ _ _ w (mK 3 w (by decide) (by decide)) hc h (uq1▸mI (by decide +kernel) (su1.fit (by decide)) w hla))
theorem z5M (w:World)(hla:La w):CV w 16 #[.int .i64 3] (.tuple #[.agg #[.string (Sq (piI 3).1),.string (Sq (piI 3).2)],.int .i64 0]) :=
 z4r _ _ _ w (mK 3 w (by decide) (by decide)) (kY (n:=3) (by decide) (by decide) w hla)
theorem z4m (w:World)(hla:La w):CV w 17 #[.string ⟨#[57,48]⟩,.int .i64 3,.int .i64 2] (.tuple #[.agg #[.string ⟨#[49,47,50]⟩,.string ⟨#[49]⟩],.int .i64 0]):=by
 have z1:=jk (x := -1) (y:=1) (z:=0) (by decide +kernel) (sun.fit (by decide)) (su1.fit (by decide)) w hla;have z2:=fM (x:=0) (y:=1 / 2) (z:=0) (by decide +kernel) (su0.fit (by decide)) (s12.fit (by decide)) w hla;have d1:=deg3 su0 r0 (by decide) (by decide) (by decide +kernel) (by decide +kernel) w hla;have f1:=qx su0 r0 (by decide) (by decide);have o1:=mJ (x:=(degI 3 0).2) (y:=90) rfl f1.2 (a90.fit (by decide)) w hla;have z3:=jk (x:=0) (y:=1) (z:=1) (by decide +kernel) (su0.fit (by decide)) (su1.fit (by decide)) w hla;have z4:=fM (x:=1) (y:=1 / 2) (z:=1 / 2) (by decide +kernel) (su1.fit (by decide)) (s12.fit (by decide)) w hla;have d2:=deg3 s12 r12 (by decide) (by decide) (by decide +kernel) (by decide +kernel) w hla;have f2:=qx s12 r12 (by decide) (by decide);have o2:=mJ (x:=(degI 3 (1 / 2)).2) (y:=90) rfl f2.2 (a90.fit (by decide)) w hla;rw[uqn,uq1]at z1;rw[t12]at z2;rw[uq1]at z3;rw[uq1,t12]at z4;rw[t90]at o1 o2;rw[t12]at d2;have h:=yo _ _ _ _ _ _ _ _ _ _ _ _ _ _ w z1 z2 d1 o1 z3 z4 d2 o2 (by decide +kernel) (by decide +kernel);have hv:=avcv (a90.fit (by decide)) w hla;have hh:CV w 18 #[.agg #[.string (Sq (-90:Rat)),.string (Sq (90:Rat))],.string (Sq (90:Rat))] (.bool true):=fun W hW=>xHas (-90) 90 90 true (by decide +kernel) (by decide +kernel) (an90.fit (by decide)) (a90.fit (by decide)) (a90.fit (by decide)) W (hla.on hW);rw[t90]at hv;rw[tn90,t90]at hh;exact z0M _ _ _ _ _ _ _ w hv hh (mK 3 w (by decide) (by decide)) (kY (n:=3) (by decide) (by decide) w hla) h (by decide) (by decide)
theorem z4l (w:World)(hla:La w):CV w 18 #[.agg #[.string (Sq (degI 3 1).1),.string (Sq (degI 3 1).2)],.string ⟨#[57,48]⟩] (.bool true):=by
 have f:=qx su1 r1 (by decide) (by decide);have h:CV w 18 #[.agg #[.string (Sq (degI 3 1).1),.string (Sq (degI 3 1).2)],.string (Sq (90:Rat))] (.bool true):=fun W hW=>xHas _ _ 90 true (by decide +kernel) (z4a _ _) f.1 f.2 (a90.fit (by decide)) W (hla.on hW);rwa [t90]at h
theorem z4k (w:World)(hla:La w):CV w 18 #[.agg #[.string (Sq (piI 3).1),.string (Sq (piI 3).2)],.string ⟨#[51,53,53,47,49,49,51]⟩] (.bool true):=by
 have f:=rf (n:=3) (by decide);have h:CV w 18 #[.agg #[.string (Sq (piI 3).1),.string (Sq (piI 3).2)],.string (Sq (355 / 113:Rat))] (.bool true):=fun W hW=>xHas _ _ (355 / 113) true (by decide +kernel) (zV _) (f.1.fit (by decide)) (f.2.fit (by decide)) (a355.fit (by decide)) W (hla.on hW);rwa [t355]at h
theorem z0F (w:World)(hla:La w):CV w 19 #[.agg #[.string ⟨#[49,47,50]⟩,.string ⟨#[49]⟩]] (.bool true):=by
 have h:CV w 19 #[.agg #[.string (Sq (1 / 2:Rat)),.string (Sq (1:Rat))]] (.bool true):=fun W hW=>oF (1 / 2) 1 (by decide +kernel) (s12.fit (by decide)) (su1.fit (by decide)) W (hla.on hW);rwa [t12,uq1]at h
theorem z0E (w:World)(hla:La w):CV w 12 #[.string ⟨#[45,49]⟩] (.bool true):=by
 have h:=dS (t := -1) (r:=true) (by decide +kernel) (sun.fit (by decide)) w hla;rwa [uqn]at h
theorem z0D (w:World)(hla:La w):CV w 12 #[.string ⟨#[50]⟩] (.bool false):=by
 have h:=dS (t:=2) (r:=false) (by decide +kernel) (su2.fit (by decide)) w hla;rwa [uq2]at h
theorem jT  (w₀:World)  (hla:La w₀) :
 CV w₀ 4 #[] (.bool true):=by
 intro w hw;have HT:=hid (hla.on hw);clear hla hw;go_enter Tryz.func4,Tryz.ntmps4
 have HB0:=hid (Below.refl w.heap.size w);go_wp2_with fail
 with_reducible refine((z5e _ (HT.out.on HB0.out)).at).mono ?_
 rintro e W1 ⟨rfl,hb⟩;have HB1:=hbt HB0 hb;clear hb;go_wp2_with fail
 with_reducible refine((z5d _ (HT.out.on HB1.out)).at).mono ?_
 rintro e W2 ⟨rfl,hb⟩;have HB2:=hbt HB1 hb;clear hb;go_wp2_with fail
 with_reducible refine((z4j _ (HT.out.on HB2.out)).at).mono ?_
 rintro e W3 ⟨rfl,hb⟩;have HB3:=hbt HB2 hb;clear hb;go_wp2_with fail
 with_reducible refine((z4i _ (HT.out.on HB3.out)).at).mono ?_
 rintro e W4 ⟨rfl,hb⟩;have HB4:=hbt HB3 hb;clear hb;go_wp2_with fail
 with_reducible refine((z4o _ (HT.out.on HB4.out)).at).mono ?_
 rintro e W5 ⟨rfl,hb⟩;have HB5:=hbt HB4 hb;clear hb;go_upto_region 6 with fail
 refine ay W5 [(#[.string ⟨#[49,49,47,50,52]⟩,.string ⟨#[49,47,50]⟩],32)] rfl ?_;have L1:=HB5.out.size;rintro W6 ⟨k1,hb⟩;have hb:Below W5.heap.size W5 W6:=hb;have HB6:=hbt HB5 hb;have K1:=hid k1;clear k1 hb;go_wp2_with fail
 with_reducible refine((z4n _ (HT.out.on HB6.out)).at).mono ?_
 rintro e W7 ⟨rfl,hb⟩;have K1:=hid (K1.out.below hb);have HB7:=hbt HB6 hb;clear hb;go_upto_region 7 with fail
 refine ay W7 [(#[.string (Sq (degI 3 1).1),.string (Sq (degI 3 1).2)],32)] rfl ?_;have L2:=K1.out.lt;have L3:=HB7.out.size;rintro W8 ⟨k2,hb⟩;have hb:Below W7.heap.size W7 W8:=hb;have K1:=hid (K1.out.below hb);have HB8:=hbt HB7 hb;have K2:=hid k2;clear k2 hb;go_wp2_with fail
 with_reducible refine((z5M _ (HT.out.on HB8.out)).at).mono ?_
 rintro e W9 ⟨rfl,hb⟩;have K1:=hid (K1.out.below hb);have K2:=hid (K2.out.below hb);have HB9:=hbt HB8 hb;clear hb;go_upto_region 8 with fail
 refine ay W9 [(#[.string (Sq (piI 3).1),.string (Sq (piI 3).2)],32)] rfl ?_;have L4:=K1.out.lt;have L5:=K2.out.lt;have L6:=HB9.out.size;rintro W10 ⟨k3,hb⟩;have hb:Below W9.heap.size W9 W10:=hb;have K1:=hid (K1.out.below hb);have K2:=hid (K2.out.below hb);have HB10:=hbt HB9 hb;have K3:=hid k3;clear k3 hb;go_wp2_with fail
 with_reducible refine((z4m _ (HT.out.on HB10.out)).at).mono ?_
 rintro e W11 ⟨rfl,hb⟩;obtain ⟨K1,K2,K3⟩:=ai (K1.out.below hb) (K2.out.below hb) (K3.out.below hb);have HB11:=hbt HB10 hb;clear hb;go_upto_region 9 with fail
 refine ay W11 [(#[.string ⟨#[49,47,50]⟩,.string ⟨#[49]⟩],32)] rfl ?_;have L7:=K1.out.lt;have L8:=K2.out.lt;have L9:=K3.out.lt;have L10:=HB11.out.size;rintro W12 ⟨k4,hb⟩;have hb:Below W11.heap.size W11 W12:=hb;obtain ⟨K1,K2,K3⟩:=ai (K1.out.below hb) (K2.out.below hb) (K3.out.below hb);have HB12:=hbt HB11 hb;have K4:=hid k4;clear k4 hb;obtain ⟨dK10,dK11⟩:=aI K1.out rfl rfl;obtain ⟨dK20,dK21⟩:=aI K2.out rfl rfl;go_wp2_with fail
 with_reducible refine((z4l _ (HT.out.on HB12.out)).at).mono ?_
 rintro e W13 ⟨rfl,hb⟩;clear dK10 dK11 dK20 dK21;have K3:=hid (K3.out.below hb);have K4:=hid (K4.out.below hb);have HB13:=hbt HB12 hb;clear hb;obtain ⟨dK30,dK31⟩:=aI K3.out rfl rfl;go_wp2_with fail
 with_reducible refine((z4k _ (HT.out.on HB13.out)).at).mono ?_
 rintro e W14 ⟨rfl,hb⟩;clear dK30 dK31;have K4:=hid (K4.out.below hb);have HB14:=hbt HB13 hb;clear hb;obtain ⟨dK40,dK41⟩:=aI K4.out rfl rfl;go_wp2_with fail
 with_reducible refine((z0F _ (HT.out.on HB14.out)).at).mono ?_
 rintro e W15 ⟨rfl,hb⟩;clear dK40 dK41;have HB15:=hbt HB14 hb;clear hb;go_wp2_with fail
 with_reducible refine((z0E _ (HT.out.on HB15.out)).at).mono ?_
 rintro e W16 ⟨rfl,hb⟩;have HB16:=hbt HB15 hb;clear hb;go_wp2_with fail
 with_reducible refine((z0D _ (HT.out.on HB16.out)).at).mono ?_
 rintro e W17 ⟨rfl,hb⟩;have HB17:=hbt HB16 hb;clear hb;go_wp2;exact bodyPost_ret (v:=.bool true) (by simp[results,Tryz.results4,go_sem]) rfl ⟨rfl,HB17.out⟩
end Go.Proofs.YtodcdibanokjjaaGreatDoor
