/- Texts of this proof, one behind the other. -/
import Derived.Test.YtcihodmmaclihaaGreatDoorMz44q
namespace Go.Proofs.YtcihodmmaclihaaGreatDoor
open Go.RowKit Go.Gb
theorem own_quot (x:Rat):x*((x.den:Nat):Rat)=((x.num:Int):Rat):=by
 have h:=Rat.num_divInt_den x
 rw[Rat.divInt_eq_div,Rat.intCast_natCast]at h
 have hd:((x.den:Nat):Rat)≠0:=fun h=>x.den_nz (Rat.natCast_eq_zero_iff.1 h)
 have e:((x.num:Int):Rat) / ((x.den:Nat):Rat)*((x.den:Nat):Rat)=((x.num:Int):Rat):=Rat.div_mul_cancel hd
 rwa [h]at e
def denU (b:Nat):Nat→Nat
 | 0=>1
 | n+1=>denU b n*(b*b*(2*n+1))
theorem denU_pos {b:Nat}(hb:b≠0):∀ n,denU b n≠0
 | 0=>Nat.one_ne_zero
 | n+1=>Nat.mul_ne_zero (denU_pos hb n) (Nat.mul_ne_zero (Nat.mul_ne_zero hb hb) (by omega))
theorem den_ser {a:Int}{b:Nat}{x:Rat}(hx:x*((b:Nat):Rat)=((a:Int):Rat)):∀ n,(∃ z:Int,serU x n*((denU b n:Nat):Rat)=((z:Int):Rat))∧(∃ z:Int,powU x n*(((denU b n:Nat):Rat)*((b:Nat):Rat))=((z:Int):Rat))
 | 0=>⟨⟨0,by show(0:Rat)*_=_;grind⟩,⟨a,by show x*(((1:Nat):Rat)*_)=_;rw[← hx];show x*(1*_)=_;grind⟩⟩
 | n+1=>by
   obtain⟨⟨zs,hs⟩,⟨zp,hp⟩⟩:=den_ser hx n
   have ho:=odd_ne n
   have ed:((denU b (n+1):Nat):Rat)=((denU b n:Nat):Rat)*(((b:Nat):Rat)*((b:Nat):Rat)*((2*n+1:Nat):Rat)):=by
    show((denU b n*(b*b*(2*n+1)):Nat):Rat)=_
    rw[Rat.natCast_mul,Rat.natCast_mul,Rat.natCast_mul]
   refine⟨⟨zs*((b:Int)*(b:Int)*((2*n+1:Nat):Int))+zp*(b:Int),?_⟩,⟨zp*(-(a*a)*((2*n+1:Nat):Int)),?_⟩⟩
   · have e:serU x (n+1)=serU x n+powU x n / ((2*n+1:Nat):Rat):=rfl
     rw[e,ed,Rat.intCast_add,Rat.intCast_mul,Rat.intCast_mul,Rat.intCast_mul,Rat.intCast_mul,← hs,← hp]
     simp only[Rat.intCast_natCast]
     generalize ((denU b n:Nat):Rat)=D at *
     generalize ((b:Nat):Rat)=B at *
     generalize ((2*n+1:Nat):Rat)=m at *
     grind
   · have e:powU x (n+1)=powU x n*(0-x*x):=rfl
     rw[e,ed,Rat.intCast_mul,Rat.intCast_mul,Rat.intCast_neg,Rat.intCast_mul,← hp,← hx]
     simp only[Rat.intCast_natCast]
     generalize ((denU b n:Nat):Rat)=D at *
     generalize ((b:Nat):Rat)=B at *
     generalize ((2*n+1:Nat):Rat)=m at *
     grind
theorem ser_one:∀ n,(0≤serU 1 n∧serU 1 n≤1)∧(0≤serU 1 (n+1)∧serU 1 (n+1)≤1)
 | 0=>by decide +kernel
 | n+1=>by
   have h:=ser_one n
   exact⟨h.2,ser_between (by decide +kernel) (by decide +kernel) n h.1.1 h.2.1 h.1.2 h.2.2⟩
theorem ser_unit {x:Rat}(h1 : -1≤x)(h2:x≤1)(n:Nat) : -1≤serU x n∧serU x n≤1:=by
 have a:=serU_mono h1 h2 (by decide +kernel:(1:Rat)≤1) n
 have b:=serU_mono (s := -1) (t:=x) (by decide +kernel) h1 h2 n
 rw[serU_neg]at b
 have c:=(ser_one n).1
 constructor<;>grind
theorem den_sm {b k:Nat}(hb:Sm k b):∀ n,n≤6→denU b n<10^(k*(2*n))*10^5:=by
 have hL:∀ n,denU b n=b^(2*n)*denU 1 n:=by
  intro n
  induction n with
  | zero=>rfl
  | succ n ih =>
    show denU b n*(b*b*(2*n+1))=b^(2*(n+1))*(denU 1 n*(1*1*(2*n+1)))
    rw[ih,show 2*(n+1)=2*n+1+1 by omega,Nat.pow_succ,Nat.pow_succ]
    grind
 intro n hn
 have h1:denU 1 n<10^5:=by
  obtain rfl|rfl|rfl|rfl|rfl|rfl|rfl:n=0∨n=1∨n=2∨n=3∨n=4∨n=5∨n=6:=by omega
  all_goals decide
 have h2:b^(2*n)≤10^(k*(2*n)):=by
  have h:=Nat.pow_le_pow_left (Nat.le_of_lt hb) (2*n)
  rwa [← Nat.pow_mul]at h
 rw[hL]
 exact Nat.mul_lt_mul_of_le_of_lt h2 h1 (Nat.pow_pos (by decide))
theorem sm_fine {x:Rat}{k n:Nat}(hx:SmQ k x)(h1 : -1≤x)(h2:x≤1)(hn:n≤6):SmQ (k*(2*n)+5) (serU x n):=by
 have hx0:x*((x.den:Nat):Rat)=((x.num:Int):Rat):=own_quot x
 obtain⟨⟨z,hz⟩,_⟩:=den_ser hx0 n
 have hd:=denU_pos x.den_nz n
 have hD:=den_sm hx.2 n hn
 have hu:=ser_unit h1 h2 n
 have hc:(0:Rat)≤((denU x.den n:Nat):Rat):=Rat.natCast_nonneg
 have hzb:z.natAbs≤denU x.den n:=by
  have a:=Rat.mul_nonneg (show 0≤1-serU x n by grind) hc
  have b:=Rat.mul_nonneg (show 0≤1+serU x n by grind) hc
  have c1:((z:Int):Rat)≤(((denU x.den n:Nat):Int):Rat):=by rw[Rat.intCast_natCast];grind
  have c2:((-z:Int):Rat)≤(((denU x.den n:Nat):Int):Rat):=by rw[Rat.intCast_natCast,Rat.intCast_neg];grind
  have d1:=Rat.intCast_le_intCast.1 c1
  have d2:=Rat.intCast_le_intCast.1 c2
  omega
 have e:serU x n=Rat.divInt z (denU x.den n:Int):=by
  rw[Rat.divInt_eq_div,← hz,Rat.intCast_natCast]
  have:((denU x.den n:Nat):Rat)≠0:=fun h=>hd (Rat.natCast_eq_zero_iff.1 h)
  grind
 rw[e]
 have hS:Sm (k*(2*n)+5) (denU x.den n):=by
  unfold Sm
  rw[Nat.pow_add]
  exact hD
 exact smq_divInt (by omega) (hS.le hzb) (by simpa using hS)
theorem sm_serF {x:Rat}{k n:Nat}(hx:SmQ k x)(h1 : -1≤x)(h2:x≤1)(hn:n≤5):SmQ (k*12+5) (serI x n).1∧SmQ (k*12+5) (serI x n).2:=by
 have a:=(sm_fine hx h1 h2 (n:=n) (by omega)).mono (show k*(2*n)+5≤k*12+5 from Nat.add_le_add_right (Nat.mul_le_mul_left _ (by omega)) _)
 have b:=(sm_fine hx h1 h2 (n:=n+1) (by omega)).mono (show k*(2*(n+1))+5≤k*12+5 from Nat.add_le_add_right (Nat.mul_le_mul_left _ (by omega)) _)
 exact sm_ex4 a a b b
theorem sm_piF {n:Nat}(hn:n≤5):SmQ 63 (piI n).1∧SmQ 63 (piI n).2:=by
 have a:=sm_serF s5 (by decide +kernel) (by decide +kernel) hn
 have b:=sm_serF s239 (by decide +kernel) (by decide +kernel) hn
 have c:=sm_mulI s16 a.1 a.2
 have d:=sm_mulI s4 b.1 b.2
 exact⟨(c.1.sub d.2).mono (by decide),(c.2.sub d.1).mono (by decide)⟩
theorem sm_rest {x:Rat}{k:Nat}(hx:SmQ k x)(h1:1 / 2<x)(h2:x≤1):SmQ (k+1) (restU x):=by
 have hx0:x*((x.den:Nat):Rat)=((x.num:Int):Rat):=own_quot x
 have hd:(0:Rat)<((x.den:Nat):Rat):=by
  have:x.den≠0:=x.den_nz
  obtain⟨m,hm⟩:∃ m,x.den=m+1:=⟨x.den-1,by omega⟩
  rw[hm]
  exact nat_pos' m
 have e:restU x=Rat.divInt ((x.den:Int)-x.num) ((x.den:Int)+x.num):=by
  rw[Rat.divInt_eq_div,Rat.intCast_sub,Rat.intCast_add,Rat.intCast_natCast,← hx0]
  unfold restU
  generalize ((x.den:Nat):Rat)=d at *
  have hp:1+x≠0:=by grind
  have hq:d+x*d≠0:=by
   intro h
   have:(1+x)*d=0:=by grind
   rcases Rat.mul_eq_zero.1 this with h|h<;>grind
  grind
 have hn0:0≤x.num:=Rat.num_nonneg.2 (by grind)
 have hn1:x.num≤(x.den:Int):=by
  have a:=Rat.mul_nonneg (show 0≤1-x by grind) (show 0≤((x.den:Nat):Rat) by grind)
  refine Rat.intCast_le_intCast.1 ?_
  rw[Rat.intCast_natCast]
  grind
 have hk:=hx.2
 have hdn:x.den≠0:=x.den_nz
 rw[e]
 unfold Sm at hk
 refine smq_divInt (by omega) ?_ ?_
 · unfold Sm
   rw[Nat.pow_succ]
   omega
 · unfold Sm
   rw[Nat.pow_succ]
   omega
theorem sm_atF {x:Rat}{n:Nat}(hx:SmQ 9 x)(h1 : -1≤x)(h2:x≤1)(hn:n≤5):SmQ 200 (atI n x).1∧SmQ 200 (atI n x).2:=by
 by_cases h:x≤1 / 2
 · rw[atI_mid h]
   have a:=sm_serF hx h1 h2 hn
   exact⟨a.1.mono (by decide),a.2.mono (by decide)⟩
 · rw[atI_high h]
   have r:=rest_in (x:=x) (by grind) h2
   have a:=sm_serF (sm_rest hx (by grind) h2) (by grind) (by grind) hn
   have p:=sm_piF hn
   have c:=sm_mulI s14 p.1 p.2
   exact⟨(c.1.sub a.2).mono (by decide),(c.2.sub a.1).mono (by decide)⟩
theorem sm_atJ {x:Rat}{n:Nat}(hx:SmQ 9 x)(h1 : -1≤x)(h2:x≤1)(hn:n≤5):SmQ 200 (atJ n x).1∧SmQ 200 (atJ n x).2:=by
 unfold atJ
 split
 · have a:=sm_atF hx.neg (by grind) (by grind) hn
   exact⟨a.2.neg,a.1.neg⟩
 · exact sm_atF hx h1 h2 hn
theorem sm_degJ {x:Rat}{n:Nat}(hx:SmQ 9 x)(h1 : -1≤x)(h2:x≤1)(hn1:1≤n)(hn:n≤5):SmQ 266 (degJ n x).1∧SmQ 266 (degJ n x).2:=by
 have a:=sm_atJ hx h1 h2 hn
 have p:=sm_piF hn
 have m:=sm_mulI s360 a.1 a.2
 have hp:=pi_pos n hn1 hn
 have hl:=piI_le n
 have n1:(piI n).1≠0:=by grind
 have n2:(piI n).2≠0:=by grind
 exact sm_ex4 (m.1.div p.1 n1) (m.1.div p.2 n2) (m.2.div p.1 n1) (m.2.div p.2 n2)
theorem aAtF_n {n:Nat}{x:Rat}(hn:n≤5)(hx:SmQ 9 x)(h1 : -1 / 2≤x)(h2:x≤1)(w:World)(hla:La w) :
 CV w 24 #[.agg #[.int .i64 (n:Int),.string (Sq (piI n).1),.string (Sq (piI n).2)],.string (Sq x)] (.agg #[.string (Sq (atI n x).1),.string (Sq (atI n x).2)]):=by
 have hx9:FitQ x:=hx.fit (by decide)
 have sn12:SmQ 2 (-(1:Rat) / 2):=⟨by unfold Sm;decide +kernel,by unfold Sm;decide +kernel⟩
 have o1:=aorder_n (x:=x) (y := -(1:Rat) / 2) rfl hx9 (sn12.fit (by decide)) w hla
 have o2:=aorder_n (x:=x) (y:=(1:Rat) / 2) rfl hx9 (s12.fit (by decide)) w hla
 rw[tn12]at o1
 rw[t12]at o2
 have hk:(n+1)*(9+(9+9)*(n+1)+4+1)+1≤900:=by
  obtain rfl|rfl|rfl|rfl|rfl|rfl:n=0∨n=1∨n=2∨n=3∨n=4∨n=5:=by omega
  all_goals decide
 have hl:(n+1)*(10+(10+10)*(n+1)+4+1)+1≤900:=by
  obtain rfl|rfl|rfl|rfl|rfl|rfl:n=0∨n=1∨n=2∨n=3∨n=4∨n=5:=by omega
  all_goals decide
 have f1:decide (cmpQ x (-(1:Rat) / 2)<0)=false:=by
  rcases cmpQ_cases x (-(1:Rat) / 2) with⟨h,e⟩|⟨h,e⟩|⟨h,e⟩
  · grind
  · rw[e];rfl
  · rw[e];rfl
 by_cases hm:x≤1 / 2
 · have f2:decide (cmpQ x ((1:Rat) / 2)≤0)=true:=by
    rcases cmpQ_cases x ((1:Rat) / 2) with⟨h,e⟩|⟨h,e⟩|⟨h,e⟩
    · rw[e];rfl
    · rw[e];rfl
    · grind
   rw[atI_mid hm]
   exact aatan_mid _ _ _ _ _ _ _ _ w o1 o2 (aSeries_n hx (by omega) hk w hla) f1 f2
 · rw[atI_high hm]
   have hgt:(1:Rat) / 2<x:=by grind
   rw[cmpQ_gt hgt]at o2
   have hr:=sm_rest hx hgt h2
   have hri:=rest_in hgt h2
   have e3:=aminus_n (x:=1) (y:=x) rfl (su1.fit (by decide)) hx9 w hla
   have e4:=aplus_n (x:=1) (y:=x) rfl (su1.fit (by decide)) hx9 w hla
   have hne:1+x≠0:=by grind
   have e5:=aover_n (x:=1-x) (y:=1+x) rfl ((su1.sub hx).fit (by decide)) ((su1.add hx).fit (by decide)) hne w hla
   have hp:=sm_piF hn
   have e6:=aScale_n s14 hp.1 hp.2 (piI_le n) (by decide) w hla
   have hq:=sm_mulI s14 hp.1 hp.2
   have hs:=sm_serF (n:=n) hr (by grind) (by grind) hn
   have e7:=aSeries_n (n:=n) hr (by omega) hl w hla
   have e8:=aSub_n (hq.1.fit (by decide)) (hq.2.fit (by decide)) (hs.1.fit (by decide)) (hs.2.fit (by decide)) (mulI_le (1 / 4) (piI n)) (serI_le (restU x) n) w hla
   rw[uq1]at e3 e4
   rw[t14]at e6
   exact aatan_high _ _ _ _ _ _ _ _ _ _ _ _ _ _ w o1 o2 e3 e4 e5 e6 e7 e8 f1
theorem mulI_neg {p:Rat × Rat}(h:p.1≤p.2):mulI (-1) p=negI p:=by
 have o:=row4_one (-1*p.1) (-1*p.2) (-1*p.1) (-1*p.2)
 have i:=row4_in (-1*p.1) (-1*p.2) (-1*p.1) (-1*p.2)
 have e1:(mulI (-1) p).1 = -p.2:=by
  unfold mulI
  grind
 have e2:(mulI (-1) p).2 = -p.1:=by
  unfold mulI
  grind
 unfold negI
 exact Prod.ext e1 e2
theorem aAtJ_n {n:Nat}{x:Rat}(hn:n≤5)(hx:SmQ 9 x)(h1 : -1≤x)(h2:x≤1)(w:World)(hla:La w) :
 CV w 24 #[.agg #[.int .i64 (n:Int),.string (Sq (piI n).1),.string (Sq (piI n).2)],.string (Sq x)] (.agg #[.string (Sq (atJ n x).1),.string (Sq (atJ n x).2)]):=by
 unfold atJ
 by_cases h:x < -1 / 2
 · rw[if_pos h]
   have hx9:FitQ x:=hx.fit (by decide)
   have sn12:SmQ 2 (-(1:Rat) / 2):=⟨by unfold Sm;decide +kernel,by unfold Sm;decide +kernel⟩
   have o1:=aorder_n (x:=x) (y := -(1:Rat) / 2) (cmpQ_lt h) hx9 (sn12.fit (by decide)) w hla
   have e2:=aminus_n (x:=0) (y:=x) (z := -x) (by grind) (su0.fit (by decide)) hx9 w hla
   have e3:=aAtF_n hn hx.neg (by grind) (by grind) w hla
   have s:=sm_atF hx.neg (by grind) (by grind) hn
   have e4:=aScale_n sun s.1 s.2 (atI_le n (-x)) (by decide) w hla
   rw[mulI_neg (atI_le n (-x)),uqn]at e4
   rw[tn12]at o1
   rw[uq0]at e2
   exact aatan_low _ _ _ _ _ _ _ _ _ w o1 e2 e3 e4
 · rw[if_neg h]
   exact aAtF_n hn hx (by grind) h2 w hla
theorem aDegJ_n {n:Nat}{x:Rat}(hn1:1≤n)(hn:n≤5)(hx:SmQ 9 x)(h1 : -1≤x)(h2:x≤1)(w:World)(hla:La w) :
 CV w 27 #[.agg #[.int .i64 (n:Int),.string (Sq (piI n).1),.string (Sq (piI n).2)],.string (Sq x)] (.agg #[.string (Sq (degJ n x).1),.string (Sq (degJ n x).2)]):=by
 have a:=sm_atJ hx h1 h2 hn
 have hp:=sm_piF hn
 have hle:=piI_le n
 have hpos:=pi_pos n hn1 hn
 have hs:=sm_mulI s360 a.1 a.2
 have e2:=aScale_n s360 a.1 a.2 (atJ_le n x) (by decide) w hla
 rw[t360]at e2
 have n1:(piI n).1≠0:=by grind
 have n2:(piI n).2≠0:=by grind
 have d1:=(hs.1.div hp.1 n1).fit (by decide)
 have d2:=(hs.1.div hp.2 n2).fit (by decide)
 have d3:=(hs.2.div hp.1 n1).fit (by decide)
 have d4:=(hs.2.div hp.2 n2).fit (by decide)
 exact adeg_raw _ _ _ _ _ _ _ _ _ _ 0 w (aAtJ_n hn hx h1 h2 w hla) e2 (fun W hW=>xDiv _ _ _ _ _ _ _ _ rfl rfl rfl rfl (mulI_le 360 (atJ n x)) hle (decide_eq_false (by grind)) (hs.1.fit (by decide)) (hs.2.fit (by decide)) (hp.1.fit (by decide)) (hp.2.fit (by decide)) d1 d2 d3 d4 W (hla.on hW))
theorem aPi_n {n:Nat}(hn1:1≤n)(hn:n≤5)(w:World)(hla:La w):CV w 8 #[.int .i64 (n:Int)] (.tuple #[.agg #[.string (Sq (piI n).1),.string (Sq (piI n).2)],.int .i64 0]) :=
 api_raw _ _ _ w (anum_yes (n:Int) w (by omega) (by omega)) (aCircle_n hn1 hn w hla)
theorem aArct_n {n:Nat}{x:Rat}(hn1:1≤n)(hn:n≤5)(hx:SmQ 9 x)(h1 : -1≤x)(h2:x≤1)(w:World)(hla:La w):CV w 9 #[.string (Sq x),.int .i64 (n:Int)] (.tuple #[.agg #[.string (Sq (atJ n x).1),.string (Sq (atJ n x).2)],.int .i64 0]) :=
 ameas_arct _ _ _ _ _ w (aenc_arct _ _ _ _ _ _ w (anum_yes (n:Int) w (by omega) (by omega)) (aCircle_n hn1 hn w hla) (aAtJ_n hn hx h1 h2 w hla) (ck1_fine ⟨h1,h2⟩ (hx.fit (by decide)) w hla))
theorem aDegr_n {n:Nat}{x:Rat}(hn1:1≤n)(hn:n≤5)(hx:SmQ 9 x)(h1 : -1≤x)(h2:x≤1)(w:World)(hla:La w):CV w 11 #[.string (Sq x),.int .i64 (n:Int)] (.tuple #[.agg #[.string (Sq (degJ n x).1),.string (Sq (degJ n x).2)],.int .i64 0]) :=
 ameas_degr _ _ _ _ _ w (aenc_degr _ _ _ _ _ _ w (anum_yes (n:Int) w (by omega) (by omega)) (aCircle_n hn1 hn w hla) (aDegJ_n hn1 hn hx h1 h2 w hla) (ck1_fine ⟨h1,h2⟩ (hx.fit (by decide)) w hla))
end Go.Proofs.YtcihodmmaclihaaGreatDoor
set_option maxRecDepth 100000
set_option maxHeartbeats 20000000
open Go.Lib (hid)
namespace Go.Proofs.YtcihodmmaclihaaGreatDoor
open Go.RowKit Go.Gb
theorem hcase {L U M:Nat→ByteArray}{c e:Nat→Int}(i R K:Nat)(hiR:i≤R)(hlt:i<K)
 (hst:i<R→(decide (c i≤0)=true∧L (i+1)=M i∧U (i+1)=U i)∨(decide (c i≤0)=false∧decide (0<e i)=true∧L (i+1)=L i∧U (i+1)=M i))
 (hR:R=K∨(R<K∧decide (c R≤0)=false∧decide (0<e R)=false)) :
 (decide (c i≤0)=true∧i<R∧L (i+1)=M i∧U (i+1)=U i)∨(decide (c i≤0)=false∧decide (0<e i)=true∧i<R∧L (i+1)=L i∧U (i+1)=M i)∨(decide (c i≤0)=false∧decide (0<e i)=false∧i=R):=by
 rcases Nat.lt_or_ge i R with h|h
 · rcases hst h with⟨a,b,d⟩|⟨a,b,d,g⟩
   · exact Or.inl ⟨a,h,b,d⟩
   · exact Or.inr (Or.inl ⟨a,b,h,d,g⟩)
 · obtain rfl:i=R:=by omega
   rcases hR with h|h
   · omega
   · exact Or.inr (Or.inr ⟨h.2.1,h.2.2,rfl⟩)
theorem ahalve_raw (d pl pu:ByteArray)(n:Int)(K R:Nat)(S L U M X Y:Nat→ByteArray)(c e:Nat→Int)(w₀:World)
 (h1:∀ i,i<K→i≤R→CV w₀ 38 #[.string (L i),.string (U i)] (.string (S i)))
 (h2:∀ i,i<K→i≤R→CV w₀ 35 #[.string (S i),.string ⟨#[49,47,50]⟩] (.string (M i)))
 (h3:∀ i,i<K→i≤R→CV w₀ 27 #[.agg #[.int .i64 n,.string pl,.string pu],.string (M i)] (.agg #[.string (X i),.string (Y i)]))
 (h4:∀ i,i<K→i≤R→CV w₀ 43 #[.string (Y i),.string d] (.int .i64 (c i)))
 (h5:∀ i,i<K→i≤R→CV w₀ 43 #[.string (X i),.string d] (.int .i64 (e i)))
 (hst:∀ i,i<R→(decide (c i≤0)=true∧L (i+1)=M i∧U (i+1)=U i)∨(decide (c i≤0)=false∧decide (0<e i)=true∧L (i+1)=L i∧U (i+1)=M i))
 (hR:R=K∨(R<K∧decide (c R≤0)=false∧decide (0<e R)=false)) (hK:R≤K∧K≤24)
 (h0:L 0=⟨#[45,49]⟩) (h0':U 0=⟨#[49]⟩) :
 CV w₀ 33 #[.string d,.int .i64 (K:Int),.func (.func 27) #[.agg #[.int .i64 n,.string pl,.string pu]] #[]] (.agg #[.string (L R),.string (U R)]):=by
 intro w hw
 have C1:=hid (fun i a b=>(h1 i a b).mono hw)
 have C2:=hid (fun i a b=>(h2 i a b).mono hw)
 have C3:=hid (fun i a b=>(h3 i a b).mono hw)
 have C4:=hid (fun i a b=>(h4 i a b).mono hw)
 have C5:=hid (fun i a b=>(h5 i a b).mono hw)
 have ST:=hid hst
 have RR:=hid hR
 have KK:=hid hK
 have Z0:=hid h0
 have Z1:=hid h0'
 clear h1 h2 h3 h4 h5 hw hst hR hK h0 h0'
 go_enter Tryz.func33,Tryz.ntmps33
 go_upto_region 1 with fail
 refine wp_boxes w [(#[.string ⟨#[]⟩,.string ⟨#[]⟩],26)] rfl ?_
 rintro W0 ⟨k1,hb⟩
 have HB0:=hid (show Below w.heap.size w W0 from hb)
 have K1:=hid k1
 clear k1 hb
 go_upto_region 2 with fail
 refine wp_boxes W0 [(#[.string ⟨#[45,49]⟩,.string ⟨#[49]⟩],26)] rfl ?_
 have L1:=K1.out.lt
 have L2:=HB0.out.size
 rintro W1 ⟨k2,hb⟩
 have hb:Below W0.heap.size W0 W1:=hb
 have K1:=hid (K1.out.below hb)
 have HB1:=hbt HB0 hb
 have K2:=hid (show SBk W1 W0.heap.size #[.string (L 0),.string (U 0)] 26 from by rw[Z0.out,Z1.out];exact k2)
 have B01:=hid hb.size
 clear k2 hb
 go_wp2
 go_loopg [12] K (fun k s12 wr=>∃ i:Nat,i+k=K∧i≤R∧s12=.int .i64 (i:Int)∧Hid (Below w.heap.size w wr)∧Hid (SBk wr w.heap.size #[.string ⟨#[]⟩,.string ⟨#[]⟩] 26)∧Hid (SBk wr W0.heap.size #[.string (L i),.string (U i)] 26))
 case atStart=>exact⟨0,by omega,by omega,rfl,HB1,K1,K2⟩
 case round =>
  clear HB1 K1 K2
  obtain⟨i,hik,hiR,rfl,HB2,K1,K2⟩:=hrel
  have LK:=KK.out
  by_cases hlt:i<K
  · have e0:(i:Int)<(K:Int):=by omega
    have e1:IntKind.i64.wrap ((i:Int)+1)=((i+1:Nat):Int):=by simp[IntKind.wrap,IntKind.bits,IntKind.signed];omega
    have D1:=hid (C1.out i hlt hiR)
    have D2:=hid (C2.out i hlt hiR)
    have D3:=hid (C3.out i hlt hiR)
    have D4:=hid (C4.out i hlt hiR)
    have D5:=hid (C5.out i hlt hiR)
    have dK20:=K2.out.cell (i:=0) rfl
    have dK21:=K2.out.cell (i:=1) rfl
    go_wp2_with fail
    with_reducible refine(D1.out _ HB2.out).mono ?_
    rintro e W2 ⟨rfl,hb⟩
    clear dK20 dK21
    have K1:=hid (K1.out.below hb)
    have K2:=hid (K2.out.below hb)
    have HB3:=hbt HB2 hb
    clear hb
    go_wp2_with fail
    with_reducible refine(D2.out _ HB3.out).mono ?_
    rintro e W3 ⟨rfl,hb⟩
    have K1:=hid (K1.out.below hb)
    have K2:=hid (K2.out.below hb)
    have HB4:=hbt HB3 hb
    clear hb
    go_wp2_with fail
    with_reducible refine(D3.out _ HB4.out).mono ?_
    rintro e W4 ⟨rfl,hb⟩
    have K1:=hid (K1.out.below hb)
    have K2:=hid (K2.out.below hb)
    have HB5:=hbt HB4 hb
    clear hb
    go_upto_region 7 with fail
    refine wp_boxes W4 [(#[.string (X i),.string (Y i)],26)] rfl ?_
    have L3:=K1.out.lt
    have L4:=K2.out.lt
    have L5:=HB5.out.size
    rintro W5 ⟨k3,hb⟩
    have hb:Below W4.heap.size W4 W5:=hb
    have K1:=hid (K1.out.below hb)
    have K2:=hid (K2.out.below hb)
    have HB6:=hbt HB5 hb
    have K3:=hid k3
    clear k3 hb
    have dK31:=K3.out.cell (i:=1) rfl
    go_wp2_with fail
    with_reducible refine(D4.out _ HB6.out).mono ?_
    rintro e W6 ⟨rfl,hb⟩
    clear dK31
    have K1:=hid (K1.out.below hb)
    have K2:=hid (K2.out.below hb)
    have K3:=hid (K3.out.below hb)
    have HB7:=hbt HB6 hb
    clear hb
    rcases hcase i R K hiR hlt (fun a=>ST.out i a) RR.out with⟨f1,hr,x1,x2⟩|⟨f1,f2,hr,x1,x2⟩|⟨f1,f2,hr⟩
    · have hRi:=hid hr
      have ea:=hid x1
      have eb:=hid x2
      clear hr x1 x2
      generalize M i=mm at *
      generalize U i=uu at *
      generalize L i=ll at *
      have dK20:=K2.out.cell (i:=0) rfl
      have fK20:=K2.out.frozen (i:=0)
      go_upto_region 11 with fail
      clear dK20 fK20
      refine wp_world (fun V=>Below w.heap.size w V∧SBk V (w.heap.size) #[.string ⟨#[]⟩,.string ⟨#[]⟩] 26∧SBk V (W0.heap.size) #[.string mm,.string uu] 26) (by
       have o0:∀ {g':Nat} {cs':Array Value} {T':TypeId},g'≠W0.heap.size→SBk W6 g' cs' T'→SBk (storeAll W6 (W0.heap.size) 0 [.string mm]) g' cs' T':=fun hg' h'=>store_off hg' _ 0 h'
       exact⟨(store_below (l:=[.string mm]) (i:=0) (by omega) HB7.out),(o0 (by omega) K1.out),(store_blk (l:=[.string mm]) (i:=0) K2.out)⟩) ?_
      rintro W7 ⟨hb,z0,z1⟩
      have HB8:=hid hb
      have K1:=hid z0
      have K2:=hid z1
      clear hb z0 z1
      go_wp2
      go_roundg (gk-1)
      case measure=>omega
      case rel=>exact⟨i+1,by omega,by have:=hRi.out;omega,(by first|rfl|simp),HB8,K1,(by rw[ea.out,eb.out];exact K2)⟩
    · have hRi:=hid hr
      have ea:=hid x1
      have eb:=hid x2
      clear hr x1 x2
      generalize M i=mm at *
      generalize U i=uu at *
      generalize L i=ll at *
      have dK30:=K3.out.cell (i:=0) rfl
      go_wp2_with fail
      with_reducible refine(D5.out _ HB7.out).mono ?_
      rintro e W7 ⟨rfl,hb⟩
      clear dK30
      have K1:=hid (K1.out.below hb)
      have K2:=hid (K2.out.below hb)
      have K3:=hid (K3.out.below hb)
      have HB8:=hbt HB7 hb
      clear hb
      have dK21:=K2.out.cell (i:=1) rfl
      have fK21:=K2.out.frozen (i:=1)
      go_upto_region 11 with fail
      clear dK21 fK21
      refine wp_world (fun V=>Below w.heap.size w V∧SBk V (w.heap.size) #[.string ⟨#[]⟩,.string ⟨#[]⟩] 26∧SBk V (W0.heap.size) #[.string ll,.string mm] 26) (by
       have o0:∀ {g':Nat} {cs':Array Value} {T':TypeId},g'≠W0.heap.size→SBk W7 g' cs' T'→SBk (storeAll W7 (W0.heap.size) 1 [.string mm]) g' cs' T':=fun hg' h'=>store_off hg' _ 1 h'
       exact⟨(store_below (l:=[.string mm]) (i:=1) (by omega) HB8.out),(o0 (by omega) K1.out),(store_blk (l:=[.string mm]) (i:=1) K2.out)⟩) ?_
      rintro W8 ⟨hb,z0,z1⟩
      have HB9:=hid hb
      have K1:=hid z0
      have K2:=hid z1
      clear hb z0 z1
      go_wp2
      go_roundg (gk-1)
      case measure=>omega
      case rel=>exact⟨i+1,by omega,by have:=hRi.out;omega,(by first|rfl|simp),HB9,K1,(by rw[ea.out,eb.out];exact K2)⟩
    · have hiE:=hid hr
      clear hr
      have dK30:=K3.out.cell (i:=0) rfl
      go_wp2_with fail
      with_reducible refine(D5.out _ HB7.out).mono ?_
      rintro e W7 ⟨rfl,hb⟩
      clear dK30
      have K1:=hid (K1.out.below hb)
      have K2:=hid (K2.out.below hb)
      have K3:=hid (K3.out.below hb)
      have HB8:=hbt HB7 hb
      clear hb
      have dK20:=K2.out.cell (i:=0) rfl
      have dK21:=K2.out.cell (i:=1) rfl
      have dK10:=K1.out.cell (i:=0) rfl
      have dK11:=K1.out.cell (i:=1) rfl
      have fK10:=K1.out.frozen (i:=0)
      have fK11:=K1.out.frozen (i:=1)
      go_wp2
      exact bodyPost_ret (v:=.agg #[.string (L i),.string (U i)]) (by simp[results,Tryz.results33,go_sem,dK10,dK11]) rfl ⟨by rw[hiE.out],(store_below (l:=[.string (L i),.string (U i)]) (i:=0) (by omega) HB8.out)⟩
  · have e0:¬ (i:Int)<(K:Int):=by omega
    have hiE:=hid (show i=R by rcases RR.out with h|h<;>omega)
    have L4:=K2.out.lt
    have L3:=K1.out.lt
    have L5:=HB2.out.size
    have dK20:=K2.out.cell (i:=0) rfl
    have dK21:=K2.out.cell (i:=1) rfl
    have dK10:=K1.out.cell (i:=0) rfl
    have dK11:=K1.out.cell (i:=1) rfl
    have fK10:=K1.out.frozen (i:=0)
    have fK11:=K1.out.frozen (i:=1)
    go_wp2
    exact bodyPost_ret (v:=.agg #[.string (L i),.string (U i)]) (by simp[results,Tryz.results33,go_sem,dK10,dK11]) rfl ⟨by rw[hiE.out],(store_below (l:=[.string (L i),.string (U i)]) (i:=0) (by omega) HB2.out)⟩
end Go.Proofs.YtcihodmmaclihaaGreatDoor
