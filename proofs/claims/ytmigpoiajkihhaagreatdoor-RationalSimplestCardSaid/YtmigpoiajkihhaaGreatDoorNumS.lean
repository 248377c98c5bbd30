/- Plain facts about the simplest number between two positive ones, as a continued fraction. No program is mentioned. -/
import Derived.Test.YtmigpoiajkihhaaGreatDoorMz11q
namespace Go.Gb
def dI (n1 d1 n2 d2:Nat):Nat × Nat :=
 if h:d1=0∨d2=0∨n1%d1=0∨n1 / d1≠n2 / d2 then (if n1%d1=0 then (n1 / d1,1) else (n1 / d1+1,1))
 else (n1 / d1*(dI d2 (n2%d2) d1 (n1%d1)).1+(dI d2 (n2%d2) d1 (n1%d1)).2,(dI d2 (n2%d2) d1 (n1%d1)).1)
termination_by d1+d2
decreasing_by
 all_goals
  have h1:=Nat.mod_lt n1 (show 0<d1 by omega)
  have h2:=Nat.mod_lt n2 (show 0<d2 by omega)
  omega
theorem kT {n1 d1 n2 d2:Nat}(h:n1%d1=0):dI n1 d1 n2 d2=(n1 / d1,1):=by
 rw[dI,dif_pos (Or.inr (Or.inr (Or.inl h))),if_pos h]
theorem kS {n1 d1 n2 d2:Nat}(h:n1%d1≠0)(h2:n1 / d1≠n2 / d2):dI n1 d1 n2 d2=(n1 / d1+1,1):=by
 rw[dI,dif_pos (Or.inr (Or.inr (Or.inr h2))),if_neg h]
theorem jT {n1 d1 n2 d2:Nat}(p1:0<d1)(p2:0<d2)(h:n1%d1≠0)(h2:n1 / d1=n2 / d2) :
 dI n1 d1 n2 d2=(n1 / d1*(dI d2 (n2%d2) d1 (n1%d1)).1+(dI d2 (n2%d2) d1 (n1%d1)).2,(dI d2 (n2%d2) d1 (n1%d1)).1):=by
 rw[dI,dif_neg (by omega)]
theorem mG {n1 d1 n2 d2:Nat}(p2:0<d2)(hle:n1*d2≤n2*d1)(h:n1%d1≠0)(h2:n1 / d1=n2 / d2):0<n2%d2∧d2*(n1%d1)≤d1*(n2%d2):=by
 have e1:=Nat.div_add_mod n1 d1
 have e2:=Nat.div_add_mod n2 d2
 rw[← h2]at e2
 generalize n1 / d1=q at *
 generalize n1%d1=r1 at *
 generalize n2%d2=r2 at *
 subst e1 e2
 have k:r1*d2≤r2*d1:=by
  have e3:(d1*q+r1)*d2=d1*q*d2+r1*d2:=Nat.add_mul _ _ _
  have e4:(d2*q+r2)*d1=d1*q*d2+r2*d1:=by rw[Nat.add_mul];congr 1;ac_rfl
  omega
 have k2:0<r1*d2:=Nat.mul_pos (by omega) p2
 refine⟨?_,by rw[Nat.mul_comm d2,Nat.mul_comm d1];exact k⟩
 apply Nat.pos_of_ne_zero
 intro e
 rw[e,Nat.zero_mul]at k
 omega
theorem iE (k:Nat):∀ n1 d1 n2 d2:Nat,d1+d2≤k→0<n1→0<d1→0<n2→0<d2→n1*d2≤n2*d1 →
 0<(dI n1 d1 n2 d2).1∧0<(dI n1 d1 n2 d2).2∧Nat.gcd (dI n1 d1 n2 d2).1 (dI n1 d1 n2 d2).2=1∧(dI n1 d1 n2 d2).1≤n1∧(dI n1 d1 n2 d2).1≤n2∧(dI n1 d1 n2 d2).2≤d1∧(dI n1 d1 n2 d2).2≤d2:=by
 induction k with
 | zero=>intro n1 d1 n2 d2 hk _ h1;omega
 | succ k ih =>
   intro n1 d1 n2 d2 hk q1 p1 q2 p2 hle
   have e1:=Nat.div_add_mod n1 d1
   have e2:=Nat.div_add_mod n2 d2
   have l1:=Nat.mod_lt n1 p1
   have l2:=Nat.mod_lt n2 p2
   have hfl:n1 / d1≤n2 / d2:=by
    rw[Nat.le_div_iff_mul_le p2]
    apply Nat.le_of_mul_le_mul_right _ p1
    refine Nat.le_trans ?_ hle
    rw[Nat.mul_right_comm]
    exact Nat.mul_le_mul_right _ (Nat.div_mul_le_self _ _)
   have hq2:n2 / d2≤n2:=Nat.div_le_self _ _
   by_cases h0:n1%d1=0
   · rw[kT h0]
     refine⟨?_,by simp,by simp,Nat.div_le_self _ _,by simp only;omega,p1,p2⟩
     apply Nat.pos_of_ne_zero
     intro e
     have e:n1 / d1=0:=e
     rw[e]at e1
     omega
   · by_cases h2:n1 / d1=n2 / d2
     · rw[jT p1 p2 h0 h2]
       obtain⟨r2p,hn⟩:=mG p2 hle h0 h2
       obtain⟨a1,a2,a3,a4,a5,a6,a7⟩:=ih d2 (n2%d2) d1 (n1%d1) (by omega) p2 r2p p1 (by omega) hn
       generalize dI d2 (n2%d2) d1 (n1%d1)=s at *
       obtain⟨u,v⟩:=s
       simp only at *
       refine⟨by omega,a1,?_,?_,?_,a5,a4⟩
       · rw[Nat.add_comm,Nat.gcd_comm,Nat.gcd_add_mul_right_right];exact a3
       · have:=Nat.mul_le_mul_left (n1 / d1) a5
         have e3:d1*(n1 / d1)=n1 / d1*d1:=Nat.mul_comm _ _
         omega
       · rw[h2]
         have:=Nat.mul_le_mul_left (n2 / d2) a4
         have e3:d2*(n2 / d2)=n2 / d2*d2:=Nat.mul_comm _ _
         omega
     · rw[kS h0 h2]
       refine⟨by simp,by simp,by simp,?_,by simp only;omega,p1,p2⟩
       have:n1 / d1≤d1*(n1 / d1):=Nat.le_mul_of_pos_left _ p1
       simp only
       omega
def bJ (a b:Rat):Rat:=mkRat ((dI a.num.natAbs a.den b.num.natAbs b.den).1:Int) (dI a.num.natAbs a.den b.num.natAbs b.den).2
theorem z2o (z:Int)(n:Nat)(hn:n≠0)(hg:Nat.gcd z.natAbs n=1):(mkRat z n).num=z∧(mkRat z n).den=n:=by
 obtain⟨h1,h2⟩:=iI z n hn
 rw[hg]at h1 h2
 exact⟨by rw[h1];simp,by rw[h2,Nat.div_one]⟩
theorem lU {a b:Rat}(ha:0<a.num)(hb:0<b.num)(h:a≤b):a.num.natAbs*b.den≤b.num.natAbs*a.den:=by
 rw[Rat.le_iff]at h
 have e1:(a.num.natAbs:Int)=a.num:=by omega
 have e2:(b.num.natAbs:Int)=b.num:=by omega
 have:((a.num.natAbs*b.den:Nat):Int)≤((b.num.natAbs*a.den:Nat):Int):=by
  rw[Int.natCast_mul,Int.natCast_mul,e1,e2];exact h
 exact Int.ofNat_le.1 this
theorem gu {a b:Rat}(ha:0<a.num)(hb:0<b.num)(h:a≤b) :
 (bJ a b).num=((dI a.num.natAbs a.den b.num.natAbs b.den).1:Int)∧(bJ a b).den=(dI a.num.natAbs a.den b.num.natAbs b.den).2∧0<(bJ a b).num∧(bJ a b).num.natAbs≤a.num.natAbs∧(bJ a b).num.natAbs≤b.num.natAbs∧(bJ a b).den≤a.den∧(bJ a b).den≤b.den:=by
 obtain⟨a1,a2,a3,a4,a5,a6,a7⟩:=iE _ a.num.natAbs a.den b.num.natAbs b.den (Nat.le_refl _) (by omega) a.den_pos (by omega) b.den_pos (lU ha hb h)
 obtain⟨e1,e2⟩:=z2o ((dI a.num.natAbs a.den b.num.natAbs b.den).1:Int) (dI a.num.natAbs a.den b.num.natAbs b.den).2 (by omega) (by rw[Int.natAbs_natCast];exact a3)
 refine⟨e1,e2,?_⟩
 unfold bJ
 rw[e1,e2]
 refine⟨by omega,by omega,by omega,a6,a7⟩
def flR (a:Rat):Rat:=((a.num / (a.den:Int):Int):Rat)
theorem nk (a:Rat):(flR a).num=a.num / (a.den:Int)∧(flR a).den=1:=⟨rfl,rfl⟩
theorem j6 {a:Rat}(ha:0<a.num):∃ n:Nat,a.num=(n:Int)∧a.num.natAbs=n∧0<n:=⟨a.num.natAbs,by omega,rfl,by omega⟩
theorem yJ {b:Rat}(hb:0<b.num):(b-flR b).num=((b.num.natAbs%b.den:Nat):Int)∧(b-flR b).den=b.den:=by
 obtain⟨n,e1,e2,hn⟩:=j6 hb
 have hr:=b.reduced
 unfold Nat.Coprime at hr
 rw[e2]at hr ⊢
 rw[rA]
 obtain⟨f1,f2⟩:=nk b
 rw[f1,f2,e1,Nat.mul_one]
 have hm:=Nat.div_add_mod n b.den
 have e3:(n:Int)*((1:Nat):Int)-(n:Int) / (b.den:Int)*(b.den:Int)=((n%b.den:Nat):Int):=by
  rw[← Int.natCast_ediv,Int.natCast_emod,Int.emod_def,← Int.natCast_ediv,Int.mul_comm (b.den:Int)]
  simp
 rw[e3]
 exact z2o _ _ b.den_nz (by
  rw[Int.natAbs_natCast,← Nat.gcd_rec,Nat.gcd_comm];exact hr)
theorem z2V {a:Rat}(ha:0<a.num):flR a=a↔a.num.natAbs%a.den=0:=by
 obtain⟨h1,h2⟩:=yJ ha
 constructor
 · intro h
   rw[h,Rat.sub_self]at h1
   have:((0:Rat).num)=0:=rfl
   omega
 · intro h
   rw[h]at h1
   have h3:a-flR a=0:=Rat.num_eq_zero.1 h1
   grind
theorem zZ {a b:Rat}(ha:0<a.num)(hb:0<b.num)(h:a≤b):flR a+1≤b↔a.num.natAbs / a.den≠b.num.natAbs / b.den:=by
 have hc:=lU ha hb h
 obtain⟨n,e1,e2,hn⟩:=j6 ha
 obtain⟨m,f1,f2,hm⟩:=j6 hb
 rw[e2,f2]at hc ⊢
 have p1:=a.den_pos
 have p2:=b.den_pos
 have hfl:n / a.den≤m / b.den:=by
  rw[Nat.le_div_iff_mul_le p2]
  apply Nat.le_of_mul_le_mul_right _ p1
  refine Nat.le_trans ?_ hc
  rw[Nat.mul_right_comm]
  exact Nat.mul_le_mul_right _ (Nat.div_mul_le_self _ _)
 have e3:flR a+1=(((n / a.den+1:Nat):Int):Rat):=by
  unfold flR
  rw[e1,← Int.natCast_ediv]
  apply z2h<;>simp
 rw[e3,Rat.le_iff]
 show((n / a.den+1:Nat):Int)*(b.den:Int)≤b.num*((1:Nat):Int)↔_
 rw[f1,← Int.natCast_mul,← Int.natCast_mul,Int.ofNat_le,Nat.mul_one,← Nat.le_div_iff_mul_le p2]
 omega
theorem xy {a b:Rat}(ha:0<a.num)(h:flR a=a):bJ a b=flR a:=by
 have h0:=(z2V ha).1 h
 unfold bJ
 rw[kT h0]
 unfold flR
 obtain⟨n,e1,e2,hn⟩:=j6 ha
 rw[e1,Int.natAbs_natCast,Int.natCast_ediv]
 exact Rat.mkRat_one _
theorem xw {a b:Rat}(ha:0<a.num)(hb:0<b.num)(hab:a≤b)(h:flR a≠a)(h2:flR a+1≤b):bJ a b=flR a+1:=by
 have h0:a.num.natAbs%a.den≠0:=fun e=>h ((z2V ha).2 e)
 have h3:=(zZ ha hb hab).1 h2
 unfold bJ
 rw[kS h0 h3]
 unfold flR
 obtain⟨n,e1,e2,hn⟩:=j6 ha
 rw[e1,Int.natAbs_natCast,← Int.natCast_ediv]
 apply z2h<;>simp[Rat.mkRat_one]
theorem rT {a b:Rat}(ha:0<a.num)(hb:0<b.num)(hab:a≤b)(h:flR a≠a)(h2:¬ flR a+1≤b) :
 a.num.natAbs / a.den=b.num.natAbs / b.den∧flR b=flR a∧0<a.num.natAbs%a.den∧0<b.num.natAbs%b.den∧(b-flR a)⁻¹.num=(b.den:Int)∧(b-flR a)⁻¹.den=b.num.natAbs%b.den∧(a-flR a)⁻¹.num=(a.den:Int)∧(a-flR a)⁻¹.den=a.num.natAbs%a.den∧(b-flR a)⁻¹≤(a-flR a)⁻¹∧(b-flR a).num≠0∧(a-flR a).num≠0:=by
 have h0:a.num.natAbs%a.den≠0:=fun e=>h ((z2V ha).2 e)
 have h3:a.num.natAbs / a.den=b.num.natAbs / b.den:=Classical.byContradiction fun e=>h2 ((zZ ha hb hab).2 e)
 obtain⟨r2,hn⟩:=mG b.den_pos (lU ha hb hab) h0 h3
 have hf:flR b=flR a:=by
  unfold flR
  obtain⟨n,e1,e2,_⟩:=j6 ha
  obtain⟨m,f1,f2,_⟩:=j6 hb
  rw[e2,f2]at h3
  rw[e1,f1,← Int.natCast_ediv,← Int.natCast_ediv,h3]
 obtain⟨s1,s2⟩:=yJ ha
 obtain⟨t1,t2⟩:=yJ hb
 rw[hf]at t1 t2
 obtain⟨u1,u2⟩:=kZ (X:=a-flR a) (by rw[s1];omega)
 obtain⟨v1,v2⟩:=kZ (X:=b-flR a) (by rw[t1];omega)
 rw[s1]at u2
 rw[t1]at v2
 rw[s2]at u1
 rw[t2]at v1
 have u2':=Int.ofNat_inj.1 u2
 have v2':=Int.ofNat_inj.1 v2
 refine⟨h3,hf,by omega,r2,v1,v2',u1,u2',?_,by rw[t1];omega,by rw[s1];omega⟩
 rw[Rat.le_iff,v1,u1,v2',u2',← Int.natCast_mul,← Int.natCast_mul,Int.ofNat_le]
 exact hn
theorem yQ {a b:Rat}(ha:0<a.num)(hb:0<b.num)(hab:a≤b)(h:flR a≠a)(h2:¬ flR a+1≤b) :
 bJ a b=flR a+(bJ (b-flR a)⁻¹ (a-flR a)⁻¹)⁻¹:=by
 obtain⟨h3,hf,p1,p2,v1,v2,u1,u2,hle,_,_⟩:=rT ha hb hab h h2
 have hp:=a.den_pos
 have hq:=b.den_pos
 obtain⟨f1,f2,f3,_⟩:=gu (a:=(b-flR a)⁻¹) (b:=(a-flR a)⁻¹) (by rw[v1];omega) (by rw[u1];omega) hle
 obtain⟨g1,g2,_⟩:=gu ha hb hab
 obtain⟨w1,w2⟩:=kZ f3
 rw[v1,v2,u1,u2,Int.natAbs_natCast,Int.natAbs_natCast]at f1 f2
 rw[jT hp hq (by omega) h3]at g1 g2
 have hA:(bJ (b-flR a)⁻¹ (a-flR a)⁻¹)⁻¹.den=(dI b.den (b.num.natAbs%b.den) a.den (a.num.natAbs%a.den)).1:=by
  rw[f1]at w2;exact Int.ofNat_inj.1 w2
 have hB:(bJ (b-flR a)⁻¹ (a-flR a)⁻¹)⁻¹.num=((dI b.den (b.num.natAbs%b.den) a.den (a.num.natAbs%a.den)).2:Int):=by rw[w1,f2]
 have hcop:=(bJ (b-flR a)⁻¹ (a-flR a)⁻¹)⁻¹.reduced
 unfold Nat.Coprime at hcop
 rw[hA,hB,Int.natAbs_natCast]at hcop
 have hd1:(bJ (b-flR a)⁻¹ (a-flR a)⁻¹)⁻¹.den≠0:=Rat.den_nz _
 rw[hA]at hd1
 have key:flR a+(bJ (b-flR a)⁻¹ (a-flR a)⁻¹)⁻¹=mkRat ((a.num.natAbs / a.den*(dI b.den (b.num.natAbs%b.den) a.den (a.num.natAbs%a.den)).1+(dI b.den (b.num.natAbs%b.den) a.den (a.num.natAbs%a.den)).2:Nat):Int) (dI b.den (b.num.natAbs%b.den) a.den (a.num.natAbs%a.den)).1:=by
  rw[iC,hA,hB,(nk a).1,(nk a).2,Nat.one_mul]
  congr 1
  obtain⟨n,e1,e2,hn⟩:=j6 ha
  rw[e1,Int.natAbs_natCast,← Int.natCast_ediv,Int.natCast_add,Int.natCast_mul]
  simp
 rw[key]
 unfold bJ
 rw[jT hp hq (by omega) h3]
def nM (l1 l2 b1 b2 s1 s2 P D:Nat):Prop:=l1*s1+b1*s2=P∧l2*s1+b2*s2=D
theorem rH {l1 l2 b1 b2 q u v P D:Nat}(h:nM l1 l2 b1 b2 (q*u+v) u P D):nM (q*l1+b1) (q*l2+b2) l1 l2 u v P D:=by
 obtain⟨h1,h2⟩:=h
 constructor
 · rw[← h1,Nat.add_mul,Nat.mul_add,← Nat.mul_assoc,Nat.mul_comm l1 q];omega
 · rw[← h2,Nat.add_mul,Nat.mul_add,← Nat.mul_assoc,Nat.mul_comm l2 q];omega
theorem mH {l1 l2 b1 b2 q P D:Nat}(h:nM l1 l2 b1 b2 q 1 P D):q*l1+b1=P∧q*l2+b2=D:=by
 obtain⟨h1,h2⟩:=h
 exact⟨by rw[← h1,Nat.mul_comm];omega,by rw[← h2,Nat.mul_comm];omega⟩
theorem xz {l1 l2 b1 b2 s1 s2 P D:Nat}(h:nM l1 l2 b1 b2 s1 s2 P D)(p1:0<s1)(p2:0<s2):l1≤P∧b1≤P∧l2≤D∧b2≤D:=by
 obtain⟨h1,h2⟩:=h
 have a1:=Nat.le_mul_of_pos_right l1 p1
 have a2:=Nat.le_mul_of_pos_right b1 p2
 have a3:=Nat.le_mul_of_pos_right l2 p1
 have a4:=Nat.le_mul_of_pos_right b2 p2
 omega
structure SimInv (M P D n1 d1 n2 d2 b1 b2 l1 l2:Nat):Prop where
 p1:0<n1
 p2:0<d1
 p3:0<n2
 p4:0<d2
 le:n1*d2≤n2*d1
 m1:n1≤M
 m2:d1≤M
 m3:n2≤M
 m4:d2≤M
 keep:nM l1 l2 b1 b2 (dI n1 d1 n2 d2).1 (dI n1 d1 n2 d2).2 P D
 mP:P≤M
 mD:D≤M
section
variable {M P D n1 d1 n2 d2 b1 b2 l1 l2:Nat}
theorem SimInv.start (p1:0<n1)(p2:0<d1)(p3:0<n2)(p4:0<d2)(le:n1*d2≤n2*d1)(m1:n1≤M)(m2:d1≤M)(m3:n2≤M)(m4:d2≤M) :
 SimInv M (dI n1 d1 n2 d2).1 (dI n1 d1 n2 d2).2 n1 d1 n2 d2 0 1 1 0:=by
 obtain⟨_,_,_,a4,_,a6,_⟩:=iE _ n1 d1 n2 d2 (Nat.le_refl _) p1 p2 p3 p4 le
 exact⟨p1,p2,p3,p4,le,m1,m2,m3,m4,⟨by simp,by simp⟩,by omega,by omega⟩
theorem SimInv.bounds (h:SimInv M P D n1 d1 n2 d2 b1 b2 l1 l2):l1≤M∧b1≤M∧l2≤M∧b2≤M∧n1 / d1≤M∧n1%d1≤M∧n2 / d2≤M∧n2%d2≤M:=by
 obtain⟨a1,a2,_,a4,_,a6,_⟩:=iE _ n1 d1 n2 d2 (Nat.le_refl _) h.p1 h.p2 h.p3 h.p4 h.le
 have hk:=xz h.keep a1 a2
 have:=h.mP
 have:=h.mD
 have:=h.m1
 have:=h.m3
 have:=Nat.div_le_self n1 d1
 have:=Nat.div_le_self n2 d2
 have:=Nat.mod_le n1 d1
 have:=Nat.mod_le n2 d2
 omega
theorem SimInv.endA (h:SimInv M P D n1 d1 n2 d2 b1 b2 l1 l2)(h0:n1%d1=0):n1 / d1*l1+b1=P∧n1 / d1*l2+b2=D:=by
 have hk:=h.keep
 rw[kT h0]at hk
 exact mH hk
theorem SimInv.endB (h:SimInv M P D n1 d1 n2 d2 b1 b2 l1 l2)(h0:n1%d1≠0)(h2:n1 / d1≠n2 / d2):(n1 / d1+1)*l1+b1=P∧(n1 / d1+1)*l2+b2=D∧n1 / d1+1≤M:=by
 have hk:=h.keep
 obtain⟨_,_,_,a4,_⟩:=iE _ n1 d1 n2 d2 (Nat.le_refl _) h.p1 h.p2 h.p3 h.p4 h.le
 rw[kS h0 h2]at hk a4
 obtain⟨e1,e2⟩:=mH hk
 exact⟨e1,e2,Nat.le_trans a4 h.m1⟩
theorem SimInv.next (h:SimInv M P D n1 d1 n2 d2 b1 b2 l1 l2)(h0:n1%d1≠0)(h2:n1 / d1=n2 / d2) :
 SimInv M P D d2 (n2%d2) d1 (n1%d1) l1 l2 (n1 / d1*l1+b1) (n1 / d1*l2+b2)∧n2%d2+n1%d1<d1+d2:=by
 have hk:=h.keep
 obtain⟨r2,hn⟩:=mG h.p4 h.le h0 h2
 rw[jT h.p2 h.p4 h0 h2]at hk
 have q1:=Nat.mod_lt n1 h.p2
 have q2:=Nat.mod_lt n2 h.p4
 have:=h.m2
 have:=h.m4
 exact⟨⟨h.p4,r2,h.p2,by omega,hn,h.m4,by omega,h.m2,by omega,rH hk,h.mP,h.mD⟩,by omega⟩
end
end Go.Gb
