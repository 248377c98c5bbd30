/- Texts of this proof, one behind the other. -/
import Derived.Test.YtcihodmmaclihaaGreatDoorMz45q
import Derived.Test.YtcihodmmaclihaaGreatDoorBw
namespace Go.Proofs.YtcihodmmaclihaaGreatDoor
open Go.RowKit Go.Gb
def midU (p:Rat × Rat):Rat:=(p.1+p.2)*(1 / 2)
def stepH (n:Nat) (d:Rat) (p:Rat × Rat):Rat × Rat:=if (degJ n (midU p)).2≤d then (midU p,p.2) else if d<(degJ n (midU p)).1 then (p.1,midU p) else p
def hv (n:Nat) (d:Rat):Nat→Rat × Rat
 | 0=>(-1,1)
 | k+1=>stepH n d (hv n d k)
structure BrI (n:Nat) (d:Rat) (k:Nat) (p:Rat × Rat):Prop where
 lo : -1≤p.1
 hi:p.2≤1
 le:p.1≤p.2
 dl:∃ z:Int,p.1*((2^k:Nat):Rat)=((z:Int):Rat)
 dh:∃ z:Int,p.2*((2^k:Nat):Rat)=((z:Int):Rat)
 sl:p.1 = -1∨(degJ n p.1).2≤d
 sh:p.2=1∨d<(degJ n p.2).1
theorem two_pow (k:Nat):((2^(k+1):Nat):Rat)=2*((2^k:Nat):Rat):=by
 rw[Nat.pow_succ,Rat.natCast_mul]
 show _*(2:Rat)=_
 grind
theorem dy_more {x:Rat}{k:Nat}(h:∃ z:Int,x*((2^k:Nat):Rat)=((z:Int):Rat)):∃ z:Int,x*((2^(k+1):Nat):Rat)=((z:Int):Rat):=by
 obtain⟨z,hz⟩:=h
 refine⟨2*z,?_⟩
 rw[two_pow,Rat.intCast_mul,← hz]
 show _=(2:Rat)*_
 grind
theorem dy_mid {p:Rat × Rat}{k:Nat}(h1:∃ z:Int,p.1*((2^k:Nat):Rat)=((z:Int):Rat))(h2:∃ z:Int,p.2*((2^k:Nat):Rat)=((z:Int):Rat)):∃ z:Int,midU p*((2^(k+1):Nat):Rat)=((z:Int):Rat):=by
 obtain⟨y,hy⟩:=h1
 obtain⟨z,hz⟩:=h2
 refine⟨y+z,?_⟩
 rw[two_pow,Rat.intCast_add,← hy,← hz]
 unfold midU
 grind
theorem BrI.step {n:Nat}{d:Rat}{k:Nat}{p:Rat × Rat}(h:BrI n d k p):BrI n d (k+1) (stepH n d p):=by
 have h1:=h.lo
 have h2:=h.hi
 have h3:=h.le
 have m1:p.1≤midU p:=by unfold midU;grind
 have m2:midU p≤p.2:=by unfold midU;grind
 have e:=dy_mid h.dl h.dh
 unfold stepH
 by_cases a:(degJ n (midU p)).2≤d
 · rw[if_pos a]
   exact⟨Rat.le_trans h1 m1,h2,m2,e,dy_more h.dh,Or.inr a,h.sh⟩
 · rw[if_neg a]
   by_cases b:d<(degJ n (midU p)).1
   · rw[if_pos b]
     exact⟨h1,Rat.le_trans m2 h2,m1,dy_more h.dl,e,h.sl,Or.inr b⟩
   · rw[if_neg b]
     exact⟨h1,h2,h3,dy_more h.dl,dy_more h.dh,h.sl,h.sh⟩
theorem hv_inv (n:Nat)(d:Rat):∀ k,BrI n d k (hv n d k)
 | 0=>⟨by show(-1:Rat) ≤ -1;exact Rat.le_refl,by show(1:Rat)≤1;exact Rat.le_refl,by show(-1:Rat)≤1;decide +kernel,⟨-1,by show(-1:Rat)*_=_;decide +kernel⟩,⟨1,by show(1:Rat)*_=_;decide +kernel⟩,Or.inl rfl,Or.inl rfl⟩
 | k+1=>(hv_inv n d k).step
theorem step_in (n:Nat)(d:Rat){p:Rat × Rat}(h:p.1≤p.2):p.1≤(stepH n d p).1∧(stepH n d p).2≤p.2:=by
 have m1:p.1≤midU p:=by unfold midU;grind
 have m2:midU p≤p.2:=by unfold midU;grind
 unfold stepH
 split
 · exact⟨m1,Rat.le_refl⟩
 · split
   · exact⟨Rat.le_refl,m2⟩
   · exact⟨Rat.le_refl,Rat.le_refl⟩
theorem sm_dy {x:Rat}{k:Nat}(hk:k≤9)(h1 : -1≤x)(h2:x≤1)(h:∃ z:Int,x*((2^k:Nat):Rat)=((z:Int):Rat)):SmQ 3 x:=by
 obtain⟨z,hz⟩:=h
 have hp:2^k≤512:=Nat.pow_le_pow_right (by decide) hk
 have h0:2^k≠0:=by have:=Nat.pow_pos (n:=k) (show 0<2 by decide);omega
 have hc:(0:Rat)≤((2^k:Nat):Rat):=Rat.natCast_nonneg
 have hzb:z.natAbs≤2^k:=by
  have a:=Rat.mul_nonneg (show 0≤1-x by grind) hc
  have b:=Rat.mul_nonneg (show 0≤1+x by grind) hc
  have c1:((z:Int):Rat)≤(((2^k:Nat):Int):Rat):=by rw[Rat.intCast_natCast];grind
  have c2:((-z:Int):Rat)≤(((2^k:Nat):Int):Rat):=by rw[Rat.intCast_natCast,Rat.intCast_neg];grind
  have d1:=Rat.intCast_le_intCast.1 c1
  have d2:=Rat.intCast_le_intCast.1 c2
  omega
 have e:x=Rat.divInt z ((2^k:Nat):Int):=by
  rw[Rat.divInt_eq_div,← hz,Rat.intCast_natCast]
  have:((2^k:Nat):Rat)≠0:=fun h=>h0 (Rat.natCast_eq_zero_iff.1 h)
  grind
 rw[e]
 refine smq_divInt (by omega) ?_ ?_
 · unfold Sm
   omega
 · unfold Sm
   rw[Int.natAbs_natCast]
   omega
theorem mid_in {n:Nat}{d:Rat}{k:Nat}{p:Rat × Rat}(h:BrI n d k p) : -1≤midU p∧midU p≤1:=by
 have h1:=h.lo
 have h2:=h.hi
 have h3:=h.le
 unfold midU
 constructor<;>grind
def Stall (n:Nat) (d:Rat) (p:Rat × Rat):Prop:=¬ (degJ n (midU p)).2≤d∧¬ d<(degJ n (midU p)).1
theorem stall_step {n:Nat}{d:Rat}{p:Rat × Rat}(h:Stall n d p):stepH n d p=p:=by
 unfold stepH
 rw[if_neg h.1,if_neg h.2]
theorem hv_stall {n:Nat}{d:Rat}{R:Nat}(h:Stall n d (hv n d R)):∀ j,hv n d (R+j)=hv n d R
 | 0=>rfl
 | j+1=>by
   show stepH n d (hv n d (R+j))=_
   rw[hv_stall h j]
   exact stall_step h
theorem rounds_of (n:Nat)(d:Rat):∀ K:Nat,∃ R,R≤K∧(∀ i,i<R→¬ Stall n d (hv n d i))∧(R=K∨(R<K∧Stall n d (hv n d R)))
 | 0=>⟨0,Nat.le_refl _,fun i hi=>by omega,Or.inl rfl⟩
 | K+1=>by
   obtain⟨R,h1,h2,h3⟩:=rounds_of n d K
   rcases h3 with h3|h3
   · by_cases hs:Stall n d (hv n d R)
     · exact⟨R,by omega,h2,Or.inr ⟨by omega,hs⟩⟩
     · refine⟨R+1,by omega,fun i hi=>?_,Or.inl (by omega)⟩
       rcases Nat.lt_or_ge i R with h|h
       · exact h2 i h
       · obtain rfl:i=R:=by omega
         exact hs
   · exact⟨R,by omega,h2,Or.inr ⟨by omega,h3.2⟩⟩
theorem hv_last {n:Nat}{d:Rat}{R K:Nat}(h:R≤K)(hR:R=K∨(R<K∧Stall n d (hv n d R))):hv n d R=hv n d K:=by
 rcases hR with rfl|⟨_,hs⟩
 · rfl
 · obtain⟨j,rfl⟩:∃ j,K=R+j:=⟨K-R,by omega⟩
   exact(hv_stall hs j).symm
theorem dcmp_le {x y:Rat}(h:x≤y):decide (cmpQ x y≤0)=true:=by
 rcases cmpQ_cases x y with⟨a,e⟩|⟨a,e⟩|⟨a,e⟩
 · rw[e];rfl
 · rw[e];rfl
 · grind
theorem dcmp_nle {x y:Rat}(h:¬ x≤y):decide (cmpQ x y≤0)=false:=by
 rcases cmpQ_cases x y with⟨a,e⟩|⟨a,e⟩|⟨a,e⟩
 · grind
 · grind
 · rw[e];rfl
theorem dcmp_gt {x y:Rat}(h:y<x):decide (0<cmpQ x y)=true:=by
 rcases cmpQ_cases x y with⟨a,e⟩|⟨a,e⟩|⟨a,e⟩
 · grind
 · grind
 · rw[e];rfl
theorem dcmp_ngt {x y:Rat}(h:¬ y<x):decide (0<cmpQ x y)=false:=by
 rcases cmpQ_cases x y with⟨a,e⟩|⟨a,e⟩|⟨a,e⟩
 · rw[e];rfl
 · rw[e];rfl
 · grind
theorem aHalve_n {n K:Nat}{d:Rat}(hn1:1≤n)(hn:n≤5)(hK:K≤8)(hd:FitQ d)(w:World)(hla:La w) :
 CV w 33 #[.string (Sq d),.int .i64 (K:Int),.func (.func 27) #[.agg #[.int .i64 (n:Int),.string (Sq (piI n).1),.string (Sq (piI n).2)]] #[]] (.agg #[.string (Sq (hv n d K).1),.string (Sq (hv n d K).2)]):=by
 obtain⟨R,hRK,hns,hR⟩:=rounds_of n d K
 have hlast:=hv_last hRK hR
 rw[← hlast]
 have hI:∀ i,BrI n d i (hv n d i):=hv_inv n d
 have sl:∀ i,i≤9→SmQ 3 (hv n d i).1:=fun i hi=>sm_dy hi (hI i).lo (Rat.le_trans (hI i).le (hI i).hi) (hI i).dl
 have su:∀ i,i≤9→SmQ 3 (hv n d i).2:=fun i hi=>sm_dy hi (Rat.le_trans (hI i).lo (hI i).le) (hI i).hi (hI i).dh
 have smi:∀ i,i≤8→SmQ 3 (midU (hv n d i)):=fun i hi=>sm_dy (k:=i+1) (by omega) (mid_in (hI i)).1 (mid_in (hI i)).2 (dy_mid (hI i).dl (hI i).dh)
 have sdg:∀ i,i≤8→FitQ (degJ n (midU (hv n d i))).1∧FitQ (degJ n (midU (hv n d i))).2:=fun i hi=>by
  have h:=sm_degJ ((smi i hi).mono (by decide)) (mid_in (hI i)).1 (mid_in (hI i)).2 hn1 hn
  exact⟨h.1.fit (by decide),h.2.fit (by decide)⟩
 refine ahalve_raw (Sq d) _ _ (n:Int) K R (fun i=>Sq ((hv n d i).1+(hv n d i).2)) (fun i=>Sq (hv n d i).1) (fun i=>Sq (hv n d i).2) (fun i=>Sq (midU (hv n d i))) (fun i=>Sq (degJ n (midU (hv n d i))).1) (fun i=>Sq (degJ n (midU (hv n d i))).2) (fun i=>cmpQ (degJ n (midU (hv n d i))).2 d) (fun i=>cmpQ (degJ n (midU (hv n d i))).1 d) w ?_ ?_ ?_ ?_ ?_ ?_ ?_ ⟨hRK,by omega⟩ uqn uq1
 · intro i hi _
   exact aplus_n rfl ((sl i (by omega)).fit (by decide)) ((su i (by omega)).fit (by decide)) w hla
 · intro i hi _
   have h:=atimes_n (x:=(hv n d i).1+(hv n d i).2) (y:=1 / 2) (z:=midU (hv n d i)) rfl (((sl i (by omega)).add (su i (by omega))).fit (by decide)) (s12.fit (by decide)) w hla
   rwa [t12]at h
 · intro i hi _
   exact aDegJ_n hn1 hn ((smi i (by omega)).mono (by decide)) (mid_in (hI i)).1 (mid_in (hI i)).2 w hla
 · intro i hi _
   exact aorder_n rfl (sdg i (by omega)).2 hd w hla
 · intro i hi _
   exact aorder_n rfl (sdg i (by omega)).1 hd w hla
 · intro i hi
   have hs:=hns i hi
   by_cases a:(degJ n (midU (hv n d i))).2≤d
   · left
     have e:hv n d (i+1)=(midU (hv n d i),(hv n d i).2):=by
        show stepH n d (hv n d i)=_
        unfold stepH
        rw[if_pos a]
     exact⟨dcmp_le a,by rw[e],by rw[e]⟩
   · right
     have b:d<(degJ n (midU (hv n d i))).1:=Classical.byContradiction fun b=>hs ⟨a,b⟩
     have e:hv n d (i+1)=((hv n d i).1,midU (hv n d i)):=by
        show stepH n d (hv n d i)=_
        unfold stepH
        rw[if_neg a,if_pos b]
     exact⟨dcmp_nle a,dcmp_gt b,by rw[e],by rw[e]⟩
 · rcases hR with h|⟨h,hs⟩
   · exact Or.inl h
   · exact Or.inr ⟨h,dcmp_nle hs.1,dcmp_ngt hs.2⟩
theorem aFind_n {n K:Nat}{d:Rat}(hn1:1≤n)(hn:n≤5)(hK:K≤8)(hd:FitQ d)(h1 : -90≤d)(h2:d≤90)(w:World)(hla:La w) :
 CV w 16 #[.string (Sq d),.int .i64 (n:Int),.int .i64 (K:Int)] (.tuple #[.agg #[.string (Sq (hv n d K).1),.string (Sq (hv n d K).2)],.int .i64 0]):=by
 have b90:SmQ 3 (90:Rat):=⟨by unfold Sm;decide,by unfold Sm;decide⟩
 have n90:SmQ 3 (-90:Rat):=⟨by unfold Sm;decide,by unfold Sm;decide⟩
 have hh:CV w 15 #[.agg #[.string (Sq (-90:Rat)),.string (Sq (90:Rat))],.string (Sq d)] (.bool true):=fun W hW=>xHas (-90) 90 d true (decide_eq_true ⟨h1,h2⟩) (by decide +kernel) (n90.fit (by decide)) (b90.fit (by decide)) hd W (hla.on hW)
 rw[show Sq (-90:Rat)=⟨#[45,57,48]⟩from by decide +kernel,show Sq (90:Rat)=⟨#[57,48]⟩from by decide +kernel]at hh
 exact afind_raw _ _ _ _ _ _ _ w (avcv hd w hla) hh (anum_yes (n:Int) w (by omega) (by omega)) (aCircle_n hn1 hn w hla) (aHalve_n hn1 hn hK hd w hla) (by omega) (by omega)
theorem uMeetC {p q:Rat × Rat}(h:Wit p q)(hp:p.1≤p.2)(hq:q.1≤q.2)(f1:FitQ p.1)(f2:FitQ p.2)(f3:FitQ q.1)(f4:FitQ q.2)(w:World)(hla:La w) :
 CV w 10 #[.agg #[.string (Sq p.1),.string (Sq p.2)],.agg #[.string (Sq q.1),.string (Sq q.2)]] (.tuple #[.agg #[.string (Sq q.1),.string (Sq q.2)],.bool true]) :=
 fun W hW=>xMeet p.1 p.2 q.1 q.2 q.1 q.2 (max_r h.1) (min_r h.2) hp hq hq f1 f2 f3 f4 W (hla.on hW)
theorem uSubI {p q:Rat × Rat}(hp:p.1≤p.2)(hq:q.1≤q.2)(f1:FitQ p.1)(f2:FitQ p.2)(f3:FitQ q.1)(f4:FitQ q.2)(w:World)(hla:La w) :
 CV w 13 #[.agg #[.string (Sq p.1),.string (Sq p.2)],.agg #[.string (Sq q.1),.string (Sq q.2)]] (.tuple #[.agg #[.string (Sq (subI p q).1),.string (Sq (subI p q).2)],.int .i64 0]) :=
 fun W hW=>xSub _ _ _ _ _ _ rfl rfl hp hq f1 f2 f3 f4 W (hla.on hW)
theorem uSign_sure {x y:Rat}{c:Int}(h:x≤y)(h1:cmpQ x 0=c)(h2:cmpQ y 0=c)(hx:FitQ x)(hy:FitQ y)(w:World)(hla:La w):CV w 14 #[.agg #[.string (Sq x),.string (Sq y)]] (.tuple #[.int .i64 c,.bool true,.int .i64 0]):=fun W hW=>by
 have k1:=fun W hW=>iValid_yes x y h hx hy W hW
 have k2:=fun W hW=>iOrder x 0 c h1 hx (su0.fit (by decide)) W hW
 have k3:=fun W hW=>iOrder y 0 c h2 hy (su0.fit (by decide)) W hW
 rw[uq0]at k2 k3
 exact isign_sure_raw _ _ _ W (hla.on hW) k1 k2 k3
theorem uSign_not {x y:Rat}(h:x≤y)(hne:cmpQ x 0≠cmpQ y 0)(hx:FitQ x)(hy:FitQ y)(w:World)(hla:La w):CV w 14 #[.agg #[.string (Sq x),.string (Sq y)]] (.tuple #[.int .i64 0,.bool false,.int .i64 0]):=fun W hW=>by
 have k1:=fun W hW=>iValid_yes x y h hx hy W hW
 have k2:=fun W hW=>iOrder x 0 _ rfl hx (su0.fit (by decide)) W hW
 have k3:=fun W hW=>iOrder y 0 _ rfl hy (su0.fit (by decide)) W hW
 rw[uq0]at k2 k3
 exact isign_not_raw _ _ _ _ hne W (hla.on hW) k1 k2 k3
theorem uCmpC {x y:Rat}{c:Int}(h:cmpQ x y=c)(hx:FitQ x)(hy:FitQ y)(w:World)(hla:La w):CV w 12 #[.string (Sq x),.string (Sq y)] (.tuple #[.int .i64 c,.int .i64 0]):=fun W hW=>qCompare x y c h hx hy W (hla.on hW)
theorem uHas {x y z:Rat}(h1:x≤z)(h2:z≤y)(hx:FitQ x)(hy:FitQ y)(hz:FitQ z)(w:World)(hla:La w):CV w 15 #[.agg #[.string (Sq x),.string (Sq y)],.string (Sq z)] (.bool true) :=
 fun W hW=>xHas x y z true (decide_eq_true ⟨h1,h2⟩) (Rat.le_trans h1 h2) hx hy hz W (hla.on hW)
theorem uIvalid {x y:Rat}(h:x≤y)(hx:FitQ x)(hy:FitQ y)(w:World)(hla:La w):CV w 17 #[.agg #[.string (Sq x),.string (Sq y)]] (.bool true):=fun W hW=>xValid_yes x y h hx hy W (hla.on hW)
theorem form9 (x:ByteArray)(h:x.size≤9):vldQ x.data.toList=false∨∃ q,x=Sq q∧SmQ 9 q:=by
 cases hv:vldQ x.data.toList with
 | false=>exact Or.inl rfl
 | true =>
   have hq:=sq_of hv
   refine Or.inr ⟨_,hq,smq_of ?_ (by decide)⟩
   rwa [← hq]
theorem sign_cases (x y:Rat)(_:x≤y):(cmpQ x 0≠cmpQ y 0)∨(∃ c,cmpQ x 0=c∧cmpQ y 0=c∧((c = -1∧y<0)∨(c=0∧x=0)∨(c=1∧0<x))):=by
 by_cases hne:cmpQ x 0=cmpQ y 0
 · refine Or.inr ⟨_,rfl,hne.symm,?_⟩
   rcases cmpQ_cases x 0 with⟨a,e⟩|⟨a,e⟩|⟨a,e⟩
   · rcases cmpQ_cases y 0 with⟨b,f⟩|⟨b,f⟩|⟨b,f⟩
     · exact Or.inl ⟨e,b⟩
     · rw[e,f]at hne
       exact absurd hne (by decide)
     · rw[e,f]at hne
       exact absurd hne (by decide)
   · exact Or.inr (Or.inl ⟨e,a⟩)
   · exact Or.inr (Or.inr ⟨e,a⟩)
 · exact Or.inl hne
theorem ufacts {n:Int}(M:Nat)(hM:1≤M)(hM2:M≤100)(n0:0≤n)(n1:n≤255):∃ k m:Nat,1≤k∧k≤M∧k=m+1∧IntKind.i64.wrap n=n∧n.tmod (M:Int)=(m:Int)∧IntKind.i64.wrap (m:Int)=(m:Int)∧(1:Int)+(m:Int)=(k:Int)∧IntKind.i64.wrap (k:Int)=(k:Int)∧(k:Int)+1=((k+1:Nat):Int)∧IntKind.i64.wrap ((k+1:Nat):Int)=((k+1:Nat):Int)∧(m:Int)+1=(k:Int):=by
 obtain⟨a,rfl⟩:∃ a:Nat,n=(a:Int):=⟨n.toNat,by omega⟩
 have hlt:=Nat.mod_lt a hM
 refine⟨a%M+1,a%M,by omega,by omega,rfl,?_,?_,?_,by omega,?_,by omega,?_,by omega⟩
 · simp[IntKind.wrap,IntKind.bits,IntKind.signed];omega
 · rw[Int.tmod_eq_emod_of_nonneg (by omega)];exact(Int.natCast_emod a M).symm
 · simp[IntKind.wrap,IntKind.bits,IntKind.signed];omega
 · simp[IntKind.wrap,IntKind.bits,IntKind.signed];omega
 · simp[IntKind.wrap,IntKind.bits,IntKind.signed];omega
theorem fit_pi {n:Nat}(hn:n≤5):FitQ (piI n).1∧FitQ (piI n).2:=⟨(sm_piF hn).1.fit (by decide),(sm_piF hn).2.fit (by decide)⟩
theorem fit_at {x:Rat}{n:Nat}(hx:SmQ 9 x)(h1 : -1≤x)(h2:x≤1)(hn:n≤5):FitQ (atJ n x).1∧FitQ (atJ n x).2:=⟨(sm_atJ hx h1 h2 hn).1.fit (by decide),(sm_atJ hx h1 h2 hn).2.fit (by decide)⟩
theorem fit_deg {x:Rat}{n:Nat}(hx:SmQ 9 x)(h1 : -1≤x)(h2:x≤1)(hn1:1≤n)(hn:n≤5):FitQ (degJ n x).1∧FitQ (degJ n x).2:=⟨(sm_degJ hx h1 h2 hn1 hn).1.fit (by decide),(sm_degJ hx h1 h2 hn1 hn).2.fit (by decide)⟩
theorem degJ_le (n:Nat)(x:Rat):(degJ n x).1≤(degJ n x).2:=exOf_order _ 3
theorem atight_any (x:ByteArray)(n:Int)(n0:0≤n)(n1:n≤255)(w:World)(hl:La w) :
 CR 3 #[.string x,.int .u8 n] w (.bool true):=by
 have A0:=angle_awake w hl
 by_cases h9:9<x.size
 · exact(ati_long x n w A0 (by omega)).at
 · have hf:¬ (9:Int)<(x.size:Int):=by omega
   rcases form9 x (by omega) with hv|⟨q,rfl,hq⟩
   · exact(ati_bad x n w A0 (aValid_no hv (by omega) w hl) hf).at
   · by_cases hr : -1≤q∧q≤1
     · obtain⟨k,m,k1,k4,_,e1,e2,_,e4,e5,e6,e7,_⟩:=ufacts (n:=n) 4 (by decide) (by decide) n0 n1
       have p1:=fit_pi (n:=k) (by omega)
       have p2:=fit_pi (n:=k+1) (by omega)
       have a1:=fit_at hq hr.1 hr.2 (n:=k) (by omega)
       have a2:=fit_at hq hr.1 hr.2 (n:=k+1) (by omega)
       exact(ati_yes _ _ _ _ _ _ _ _ _ n k m (k+1) w A0 (aValid_n (decide_eq_true hr) (hq.fit (by decide)) w hl) (aPi_n k1 (by omega) w hl) (aPi_n (n:=k+1) (by omega) (by omega) w hl) (aArct_n k1 (by omega) hq hr.1 hr.2 w hl) (aArct_n (n:=k+1) (by omega) (by omega) hq hr.1 hr.2 w hl)
        (uMeetC (piI_tight k) (piI_le _) (piI_le _) p1.1 p1.2 p2.1 p2.2 w hl) (uMeetC (atJ_tight hr.1 hr.2 k) (atJ_le _ _) (atJ_le _ _) a1.1 a1.2 a2.1 a2.2 w hl) hf e1 e2 e4 e5 e6 e7).at
     · exact(ati_bad _ n w A0 (aValid_n (decide_eq_false hr) (hq.fit (by decide)) w hl) hf).at
end Go.Proofs.YtcihodmmaclihaaGreatDoor
