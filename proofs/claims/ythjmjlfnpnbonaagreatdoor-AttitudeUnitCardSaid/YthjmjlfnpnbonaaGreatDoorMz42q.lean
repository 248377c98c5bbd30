/- Texts of this proof, one behind the other. -/
import Derived.Test.YthjmjlfnpnbonaaGreatDoorHd
import Derived.Test.YthjmjlfnpnbonaaGreatDoorQj
namespace Go.Gb
def cosQ (t:Rat):Rat:=(1-t*t) / (1+t*t)
def sinQ (t:Rat):Rat:=2*t / (1+t*t)
theorem usq_pos (t:Rat):0<1+t*t:=by
 have:0≤t*t:=by
  rcases Rat.le_total (a:=0) (b:=t) with h|h
  · exact Rat.mul_nonneg h h
  · have:=Rat.mul_nonneg (show 0 ≤ -t by grind) (show 0 ≤ -t by grind)
    grind
 grind
theorem usq_ne (t:Rat):1+t*t≠0:=by have:=usq_pos t;grind
theorem cs_one (t:Rat):cosQ t*cosQ t+sinQ t*sinQ t=1:=by
 have h:=usq_ne t
 unfold cosQ sinQ
 grind
end Go.Gb
namespace Go.Gb
def dotR (a1 a2 a3 b1 b2 b3:Rat):Rat:=a1*b1+a2*b2+a3*b3
section
variable {c s d t:Rat} (h:c*c+s*s=1) (k:d*d+t*t=1)
include h k
theorem fr_unit:dotR d (0-s*t) (c*t) d (0-s*t) (c*t)=1∧dotR 0 c s 0 c s=1∧dotR (0-t) (0-s*d) (c*d) (0-t) (0-s*d) (c*d)=1∧dotR d (0-s*t) (c*t) 0 c s=0∧dotR 0 c s (0-t) (0-s*d) (c*d)=0∧dotR (0-t) (0-s*d) (c*d) d (0-s*t) (c*t)=0:=by
 unfold dotR
 refine⟨?_,?_,?_,?_,?_,?_⟩<;>grind
theorem fr_back (x y z:Rat):dotR d 0 (0-t) (dotR d (0-s*t) (c*t) x y z) (dotR 0 c s x y z) (dotR (0-t) (0-s*d) (c*d) x y z)=x ∧
 dotR (0-s*t) c (0-s*d) (dotR d (0-s*t) (c*t) x y z) (dotR 0 c s x y z) (dotR (0-t) (0-s*d) (c*d) x y z)=y ∧
 dotR (c*t) s (c*d) (dotR d (0-s*t) (c*t) x y z) (dotR 0 c s x y z) (dotR (0-t) (0-s*d) (c*d) x y z)=z:=by
 unfold dotR
 refine⟨?_,?_,?_⟩<;>grind
theorem fr_turn (x y z:Rat):dotR d (0-s*t) (c*t) (dotR d 0 (0-t) x y z) (dotR (0-s*t) c (0-s*d) x y z) (dotR (c*t) s (c*d) x y z)=x ∧
 dotR 0 c s (dotR d 0 (0-t) x y z) (dotR (0-s*t) c (0-s*d) x y z) (dotR (c*t) s (c*d) x y z)=y ∧
 dotR (0-t) (0-s*d) (c*d) (dotR d 0 (0-t) x y z) (dotR (0-s*t) c (0-s*d) x y z) (dotR (c*t) s (c*d) x y z)=z:=by
 unfold dotR
 refine⟨?_,?_,?_⟩<;>grind
theorem fr_length (x y z:Rat):dotR (dotR d (0-s*t) (c*t) x y z) (dotR 0 c s x y z) (dotR (0-t) (0-s*d) (c*d) x y z) (dotR d (0-s*t) (c*t) x y z) (dotR 0 c s x y z) (dotR (0-t) (0-s*d) (c*d) x y z)=dotR x y z x y z:=by
 have hb:=fr_back h k x y z
 generalize hX:dotR d (0-s*t) (c*t) x y z=X at *
 generalize hY:dotR 0 c s x y z=Y at *
 generalize hZ:dotR (0-t) (0-s*d) (c*d) x y z=Z at *
 unfold dotR at *
 grind
end
theorem fr_mirror (c s d t x y z:Rat):dotR d (0-(0-s)*t) (c*t) x (0-y) z=dotR d (0-s*t) (c*t) x y z∧dotR 0 c (0-s) x (0-y) z=0-dotR 0 c s x y z∧dotR (0-t) (0-(0-s)*d) (c*d) x (0-y) z=dotR (0-t) (0-s*d) (c*d) x y z:=by
 unfold dotR
 refine⟨?_,?_,?_⟩<;>grind
theorem cos_opp (t:Rat):cosQ (0-t)=cosQ t:=by
 unfold cosQ
 rw[show(0-t)*(0-t)=t*t by grind]
theorem sin_opp (t:Rat):sinQ (0-t)=0-sinQ t:=by
 unfold sinQ
 rw[show(0-t)*(0-t)=t*t by grind,show 2*(0-t) = -(2*t) by grind]
 grind
end Go.Gb
namespace Go.Proofs.YthjmjlfnpnbonaaGreatDoor
open Go.RowKit Go.Gb
theorem hplus_n {x y z:Rat}(h:x+y=z)(hx:FitQ x)(hy:FitQ y)(w:World)(hla:La w):CV w 64 #[.string (Sq x),.string (Sq y)] (.string (Sq z)) :=
 hplus_raw _ _ _ 0 w (fun W hW=>qAdd x y z h hx hy W (hla.on hW))
theorem hminus_n {x y z:Rat}(h:x-y=z)(hx:FitQ x)(hy:FitQ y)(w:World)(hla:La w):CV w 62 #[.string (Sq x),.string (Sq y)] (.string (Sq z)) :=
 hminus_raw _ _ _ 0 w (fun W hW=>qSub x y z h hx hy W (hla.on hW))
theorem htimes_n {x y z:Rat}(h:x*y=z)(hx:FitQ x)(hy:FitQ y)(w:World)(hla:La w):CV w 58 #[.string (Sq x),.string (Sq y)] (.string (Sq z)) :=
 htimes_raw _ _ _ 0 w (fun W hW=>qMul x y z h hx hy W (hla.on hW))
theorem hover_n {x y z:Rat}(h:x / y=z)(hx:FitQ x)(hy:FitQ y)(h0:y≠0)(w:World)(hla:La w):CV w 76 #[.string (Sq x),.string (Sq y)] (.string (Sq z)) :=
 hover_raw _ _ _ 0 w (fun W hW=>qDiv x y z h hx hy h0 W (hla.on hW))
theorem horder_n {x y:Rat}{c:Int}(h:cmpQ x y=c)(hx:FitQ x)(hy:FitQ y)(w:World)(hla:La w):CV w 75 #[.string (Sq x),.string (Sq y)] (.int .i64 c) :=
 horder_raw _ _ _ 0 w (fun W hW=>qCompare x y c h hx hy W (hla.on hW))
theorem hs1:SmQ 1 (1:Rat):=⟨by unfold Sm;decide,by unfold Sm;decide⟩
theorem hs0:SmQ 1 (0:Rat):=⟨by unfold Sm;decide,by unfold Sm;decide⟩
theorem hs2:SmQ 1 (2:Rat):=⟨by unfold Sm;decide,by unfold Sm;decide⟩
theorem hsn:SmQ 1 (-1:Rat):=⟨by unfold Sm;decide,by unfold Sm;decide⟩
theorem hsh:SmQ 1 ((1:Rat) / 2):=⟨by unfold Sm;decide +kernel,by unfold Sm;decide +kernel⟩
theorem hsnh:SmQ 1 (-(1:Rat) / 2):=⟨by unfold Sm;decide +kernel,by unfold Sm;decide +kernel⟩
theorem hq1:Sq (1:Rat)=⟨#[49]⟩:=by decide +kernel
theorem hq0:Sq (0:Rat)=⟨#[48]⟩:=by decide +kernel
theorem hq2:Sq (2:Rat)=⟨#[50]⟩:=by decide +kernel
theorem hqn:Sq (-1:Rat)=⟨#[45,49]⟩:=by decide +kernel
theorem hqh:Sq ((1:Rat) / 2)=⟨#[49,47,50]⟩:=by decide +kernel
theorem hqnh:Sq (-(1:Rat) / 2)=⟨#[45,49,47,50]⟩:=by decide +kernel
theorem hv_any {a:ByteArray}(ha:a.size≤900)(w:World)(hla:La w):CV w 74 #[.string a] (.bool (vldQ a.data.toList)):=by
 cases h:vldQ a.data.toList with
 | false=>exact fun W hW=>qvalid_no a h ha W (hla.on hW)
 | true =>
   have e:=sq_of h
   obtain⟨q,hq⟩:∃ q,q=qval a.data.toList:=⟨_,rfl⟩
   rw[← hq]at e
   subst e
   exact fun W hW=>qvalid_yes q (smq_of ha (by decide)) W (hla.on hW)
theorem hopp_n {x:Rat}(hx:FitQ x)(w:World)(hla:La w):CV w 34 #[.string (Sq x)] (.string (Sq (0-x))):=by
 have k:=hminus_n (x:=0) (y:=x) rfl (hs0.fit (by decide)) hx w hla
 rw[hq0]at k
 exact hopp_raw _ _ w k
theorem hform {k:Nat}(hk:0<k)(x:ByteArray)(h:x.size≤k):vldQ x.data.toList=false∨∃ q,x=Sq q∧SmQ k q:=by
 cases hv:vldQ x.data.toList with
 | false=>exact Or.inl rfl
 | true =>
   have hq:=sq_of hv
   refine Or.inr ⟨_,hq,smq_of ?_ hk⟩
   rwa [← hq]
theorem hquot (x:Rat):x*((x.den:Nat):Rat)=((x.num:Int):Rat):=by
 have h:=Rat.num_divInt_den x
 rw[Rat.divInt_eq_div,Rat.intCast_natCast]at h
 have hd:((x.den:Nat):Rat)≠0:=fun h=>x.den_nz (Rat.natCast_eq_zero_iff.1 h)
 have e:((x.num:Int):Rat) / ((x.den:Nat):Rat)*((x.den:Nat):Rat)=((x.num:Int):Rat):=Rat.div_mul_cancel hd
 rwa [h]at e
theorem cs_mk (t:Rat):cosQ t=mkRat (((t.den*t.den:Nat):Int)-((t.num.natAbs*t.num.natAbs:Nat):Int)) (t.den*t.den+t.num.natAbs*t.num.natAbs)∧sinQ t=mkRat (2*(t.num*(t.den:Int))) (t.den*t.den+t.num.natAbs*t.num.natAbs):=by
 have hx:=hquot t
 have hd:((t.den:Nat):Rat)≠0:=fun h=>t.den_nz (Rat.natCast_eq_zero_iff.1 h)
 have hn:((t.num.natAbs*t.num.natAbs:Nat):Int)=t.num*t.num:=Int.natAbs_mul_self
 have hp:=usq_ne t
 have hD:((t.den*t.den+t.num.natAbs*t.num.natAbs:Nat):Rat)=((t.den:Nat):Rat)*((t.den:Nat):Rat)+((t.num:Int):Rat)*((t.num:Int):Rat):=by
  rw[← Rat.intCast_natCast,Int.natCast_add,hn,Int.natCast_mul,Rat.intCast_add,Rat.intCast_mul,Rat.intCast_mul,Rat.intCast_natCast]
 constructor
 · rw[Rat.mkRat_eq_div,hD,hn,Int.natCast_mul,Rat.intCast_sub,Rat.intCast_mul,Rat.intCast_mul,Rat.intCast_natCast,← hx]
   unfold cosQ
   generalize ((t.den:Nat):Rat)=d at *
   have h2:d*d+t*d*(t*d)≠0:=by
    rw[show d*d+t*d*(t*d)=d*(d*(1+t*t)) by grind]
    intro h
    rcases Rat.mul_eq_zero.1 h with h|h
    · exact hd h
    · rcases Rat.mul_eq_zero.1 h with h|h
      · exact hd h
      · exact hp h
   grind
 · rw[Rat.mkRat_eq_div,hD,Rat.intCast_mul,Rat.intCast_mul,Rat.intCast_natCast,← hx]
   unfold sinQ
   rw[show((2:Int):Rat)=2 from rfl]
   generalize ((t.den:Nat):Rat)=d at *
   have h2:d*d+t*d*(t*d)≠0:=by
    rw[show d*d+t*d*(t*d)=d*(d*(1+t*t)) by grind]
    intro h
    rcases Rat.mul_eq_zero.1 h with h|h
    · exact hd h
    · rcases Rat.mul_eq_zero.1 h with h|h
      · exact hd h
      · exact hp h
   grind
theorem sm_cs {t:Rat}{k:Nat}(ht:SmQ k t):SmQ (k+k+1) (cosQ t)∧SmQ (k+k+1) (sinQ t):=by
 obtain⟨e1,e2⟩:=cs_mk t
 have a:=ht.2.mul ht.2
 have b:=ht.1.mul ht.1
 have c:=Sm.add a b
 have d:=Sm.add (ht.1.mul ht.2) (ht.1.mul ht.2)
 have h0:t.den*t.den+t.num.natAbs*t.num.natAbs≠0:=by
  have:=Nat.mul_ne_zero t.den_nz t.den_nz
  omega
 rw[e1,e2]
 refine⟨smq_mk h0 (Sm.le c ?_) c,smq_mk h0 (Sm.le d ?_) c⟩
 · generalize t.den*t.den=x
   generalize t.num.natAbs*t.num.natAbs=y
   omega
 · rw[Int.natAbs_mul,Int.natAbs_mul,Int.natAbs_natCast]
   generalize t.num.natAbs*t.den=x
   show 2*x≤x+x
   omega
theorem hcircle_n {t:Rat}{k:Nat}(ht:SmQ k t)(hk:k≤200)(w:World)(hla:La w):CV w 57 #[.string (Sq t)] (.tuple #[.string (Sq (cosQ t)),.string (Sq (sinQ t))]):=by
 have q:=ht.mul ht
 have a:=hs1.sub q
 have b:=hs1.add q
 have d:=hs2.mul ht
 have h2:=hplus_n (x:=1) (y:=t*t) rfl (hs1.fit (by decide)) (q.fit (by omega)) w hla
 have h3:=hminus_n (x:=1) (y:=t*t) rfl (hs1.fit (by decide)) (q.fit (by omega)) w hla
 have h5:=htimes_n (x:=2) (y:=t) rfl (hs2.fit (by decide)) (ht.fit (by omega)) w hla
 rw[hq1]at h2 h3
 rw[hq2]at h5
 exact hcircle_raw _ _ _ _ _ _ _ w (htimes_n rfl (ht.fit (by omega)) (ht.fit (by omega)) w hla) h2 h3 (hover_n rfl (a.fit (by omega)) (b.fit (by omega)) (usq_ne t) w hla) h5 (hover_n rfl (d.fit (by omega)) (b.fit (by omega)) (usq_ne t) w hla)
theorem hframe_n {p q:Rat}(hp:SmQ 40 p)(hq:SmQ 40 q)(w:World)(hla:La w):CV w 30 #[.agg #[.string (Sq (p)),.string (Sq (q))]] (.agg #[.string (Sq (cosQ q)),.string (Sq (0-sinQ p*sinQ q)),.string (Sq (cosQ p*sinQ q)),.string (Sq (0:Rat)),.string (Sq (cosQ p)),.string (Sq (sinQ p)),.string (Sq (0-sinQ q)),.string (Sq (0-sinQ p*cosQ q)),.string (Sq (cosQ p*cosQ q))]):=by
 have a:=sm_cs hp
 have b:=sm_cs hq
 have k:=hframe_raw _ _ _ _ _ _ _ _ _ _ _ _ _ w (hcircle_n hp (by decide) w hla) (hcircle_n hq (by decide) w hla) (htimes_n rfl (a.2.fit (by decide)) (b.2.fit (by decide)) w hla) (hopp_n ((a.2.mul b.2).fit (by decide)) w hla) (htimes_n rfl (a.1.fit (by decide)) (b.2.fit (by decide)) w hla) (hopp_n (b.2.fit (by decide)) w hla) (htimes_n rfl (a.2.fit (by decide)) (b.1.fit (by decide)) w hla) (hopp_n ((a.2.mul b.1).fit (by decide)) w hla) (htimes_n rfl (a.1.fit (by decide)) (b.1.fit (by decide)) w hla)
 rw[← hq0]at k
 exact k
theorem sm_zero_sub {k:Nat}{x:Rat}(h:SmQ k x):SmQ k (0-x):=by
 rw[show 0-x = -x by grind]
 exact h.neg
theorem sm_rows {p q:Rat}(hp:SmQ 40 p)(hq:SmQ 40 q):SmQ 162 (cosQ q)∧SmQ 162 (0-sinQ p*sinQ q)∧SmQ 162 (cosQ p*sinQ q)∧SmQ 162 (0:Rat)∧SmQ 162 (cosQ p)∧SmQ 162 (sinQ p)∧SmQ 162 (0-sinQ q)∧SmQ 162 (0-sinQ p*cosQ q)∧SmQ 162 (cosQ p*cosQ q):=by
 obtain⟨a,b⟩:=sm_cs hp
 obtain⟨c,d⟩:=sm_cs hq
 exact⟨c.mono (by decide),sm_zero_sub (b.mul d),a.mul d,hs0.mono (by decide),a.mono (by decide),b.mono (by decide),(sm_zero_sub d).mono (by decide),sm_zero_sub (b.mul c),a.mul c⟩
theorem hdot_n {a1 a2 a3 x y z:Rat}{k l:Nat}(pa:SmQ k a1)(pb:SmQ k a2)(pc:SmQ k a3)(px:SmQ l x)(py:SmQ l y)(pz:SmQ l z)(hkl:k+l≤900)(hf:FitQ (a1*x+a2*y))(w:World)(hla:La w)(g:Nat)(W:World)(hW:Below w.heap.size w W)(hk:SBk W g #[.string (Sq x),.string (Sq y),.string (Sq z)] 65) :
 CV W 63 #[.agg #[.string (Sq (a1)),.string (Sq (a2)),.string (Sq (a3))],.pointer (some ⟨g,0,none⟩)] (.string (Sq (dotR a1 a2 a3 x y z))) :=
 have hL:=hla.on hW
 hprod1_raw g _ _ _ _ _ _ _ _ _ _ _ W (htimes_n rfl (pa.fit (by omega)) (px.fit (by omega)) W hL) (htimes_n rfl (pb.fit (by omega)) (py.fit (by omega)) W hL) (hplus_n rfl ((pa.mul px).fit hkl) ((pb.mul py).fit hkl) W hL) (htimes_n rfl (pc.fit (by omega)) (pz.fit (by omega)) W hL) (hplus_n rfl hf ((pc.mul pz).fit hkl) W hL) hk
theorem cmp_le (x y:Rat):cmpQ x y≤0↔x≤y:=by
 rcases cmpQ_cases x y with⟨h,e⟩|⟨h,e⟩|⟨h,e⟩<;>rw[e]<;>constructor<;>intro h2<;>first|omega|grind
theorem hfrom_n {l x u:Rat}{b:Bool}(hb:decide (l≤x∧x≤u)=b)(hl:FitQ l)(hx:FitQ x)(hu:FitQ u)(w:World)(hla:La w):CV w 56 #[.string (Sq l),.string (Sq x),.string (Sq u)] (.bool b):=by
 by_cases h:l≤x
 · refine hfrom_yes _ _ _ _ _ b w (horder_n rfl hl hx w hla) (horder_n rfl hx hu w hla) (decide_eq_true ((cmp_le _ _).2 h)) ?_
   rw[← hb]
   exact decide_eq_decide.2 ⟨fun h2=>⟨h,(cmp_le _ _).1 h2⟩,fun h2=>(cmp_le _ _).2 h2.2⟩
 · obtain rfl:b=false:=by rw[← hb];exact decide_eq_false (fun h2=>h h2.1)
   exact hfrom_no _ _ _ w (horder_n (cmpQ_gt (by grind)) hl hx w hla)
def InA (p q:Rat):Prop:=(-1≤p∧p≤1)∧(-(1:Rat) / 2≤q∧q≤1 / 2)
instance (p q:Rat):Decidable (InA p q):=inferInstanceAs (Decidable (_∧_))
theorem hfh {p:Rat}{b:Bool}(hb:decide (-1≤p∧p≤1)=b)(hp:FitQ p)(w:World)(hla:La w):CV w 56 #[.string ⟨#[45,49]⟩,.string (Sq p),.string ⟨#[49]⟩] (.bool b):=by
 have k:=hfrom_n hb (hsn.fit (by decide)) hp (hs1.fit (by decide)) w hla
 rwa [hqn,hq1]at k
theorem hft {p:Rat}{b:Bool}(hb:decide (-(1:Rat) / 2≤p∧p≤1 / 2)=b)(hp:FitQ p)(w:World)(hla:La w):CV w 56 #[.string ⟨#[45,49,47,50]⟩,.string (Sq p),.string ⟨#[49,47,50]⟩] (.bool b):=by
 have k:=hfrom_n hb (hsnh.fit (by decide)) hp (hsh.fit (by decide)) w hla
 rwa [hqnh,hqh]at k
theorem ck0_any (p q:ByteArray)(hp:p.size≤40)(hq:q.size≤40)(w:World)(hla:La w):(∃ er:Int,(er=1∨er=2)∧CV w 29 #[.agg #[.string (p),.string (q)],.slice none 0 0] (.int .i64 er))∨(∃ mp mq:Rat,(p=Sq mp∧SmQ 40 mp∧q=Sq mq∧SmQ 40 mq)∧InA mp mq∧CV w 29 #[.agg #[.string (p),.string (q)],.slice none 0 0] (.int .i64 0)):=by
 have n2:=an2_any (hv_any (a:=p) (by omega) w hla) (hv_any (a:=q) (by omega) w hla)
 cases e2:vldQ p.data.toList&&vldQ q.data.toList with
 | false =>
   rw[e2]at n2
   refine Or.inl ⟨1,Or.inl rfl,?_⟩
   exact(hck0_a1 _ _ w n2)
 | true =>
   rw[e2]at n2
   simp only[Bool.and_eq_true]at e2
   obtain⟨mp,rfl,sp⟩:=(hform (k:=40) (by decide) p hp).resolve_left (by rw[e2.1];decide)
   obtain⟨mq,rfl,sq⟩:=(hform (k:=40) (by decide) q hq).resolve_left (by rw[e2.2];decide)
   by_cases r1 : -1≤mp∧mp≤1
   · have f1:=hfh (decide_eq_true r1) (sp.fit (by decide)) w hla
     by_cases r2 : -(1:Rat) / 2≤mq∧mq≤1 / 2
     · have f2:=hft (decide_eq_true r2) (sq.fit (by decide)) w hla
       refine Or.inr ⟨mp,mq,⟨rfl,sp,rfl,sq⟩,⟨r1,r2⟩,?_⟩
       exact(hck0_ok _ _ w f1 f2 n2)
     · have f2:=hft (decide_eq_false r2) (sq.fit (by decide)) w hla
       refine Or.inl ⟨2,Or.inr rfl,?_⟩
       exact(hck0_r2 _ _ w f1 f2 n2)
   · have f1:=hfh (decide_eq_false r1) (sp.fit (by decide)) w hla
     refine Or.inl ⟨2,Or.inr rfl,?_⟩
     exact(hck0_r1 _ _ w f1 n2)
theorem ck3_any (p q x y z:ByteArray)(hp:p.size≤40)(hq:q.size≤40)(hx:x.size≤40)(hy:y.size≤40)(hz:z.size≤40)(w:World)(hla:La w):(∃ er:Int,(er=1∨er=2)∧Ch3 w (p) (q) (x) (y) (z) er)∨(∃ mp mq mx my mz:Rat,(p=Sq mp∧SmQ 40 mp∧q=Sq mq∧SmQ 40 mq∧x=Sq mx∧SmQ 40 mx∧y=Sq my∧SmQ 40 my∧z=Sq mz∧SmQ 40 mz)∧InA mp mq∧Ch3 w (p) (q) (x) (y) (z) 0):=by
 have n2:=an2_any (hv_any (a:=p) (by omega) w hla) (hv_any (a:=q) (by omega) w hla)
 have n5:=an3_any (hv_any (a:=x) (by omega) w hla) (hv_any (a:=y) (by omega) w hla) (hv_any (a:=z) (by omega) w hla)
 cases e2:vldQ p.data.toList&&vldQ q.data.toList with
 | false =>
   rw[e2]at n2
   refine Or.inl ⟨1,Or.inl rfl,?_⟩
   exact fun g W hW k=>(hck3_a1 g _ _ _ _ _ W (an2_mono n2 hW) k).at
 | true =>
   rw[e2]at n2
   cases e3:vldQ x.data.toList&&vldQ y.data.toList&&vldQ z.data.toList with
   | false =>
     rw[e3]at n5
     refine Or.inl ⟨1,Or.inl rfl,?_⟩
     exact fun g W hW k=>(hck3_a2 g _ _ _ _ _ W (an2_mono n2 hW) (an3_mono n5 hW) k).at
   | true =>
     rw[e3]at n5
     simp only[Bool.and_eq_true]at e2 e3
     obtain⟨mp,rfl,sp⟩:=(hform (k:=40) (by decide) p hp).resolve_left (by rw[e2.1];decide)
     obtain⟨mq,rfl,sq⟩:=(hform (k:=40) (by decide) q hq).resolve_left (by rw[e2.2];decide)
     obtain⟨mx,rfl,sx⟩:=(hform (k:=40) (by decide) x hx).resolve_left (by rw[e3.1.1];decide)
     obtain⟨my,rfl,sy⟩:=(hform (k:=40) (by decide) y hy).resolve_left (by rw[e3.1.2];decide)
     obtain⟨mz,rfl,sz⟩:=(hform (k:=40) (by decide) z hz).resolve_left (by rw[e3.2];decide)
     by_cases r1 : -1≤mp∧mp≤1
     · have f1:=hfh (decide_eq_true r1) (sp.fit (by decide)) w hla
       by_cases r2 : -(1:Rat) / 2≤mq∧mq≤1 / 2
       · have f2:=hft (decide_eq_true r2) (sq.fit (by decide)) w hla
         refine Or.inr ⟨mp,mq,mx,my,mz,⟨rfl,sp,rfl,sq,rfl,sx,rfl,sy,rfl,sz⟩,⟨r1,r2⟩,?_⟩
         exact fun g W hW k=>(hck3_ok g _ _ _ _ _ W (f1.mono hW) (f2.mono hW) (an2_mono n2 hW) (an3_mono n5 hW) k).at
       · have f2:=hft (decide_eq_false r2) (sq.fit (by decide)) w hla
         refine Or.inl ⟨2,Or.inr rfl,?_⟩
         exact fun g W hW k=>(hck3_r2 g _ _ _ _ _ W (f1.mono hW) (f2.mono hW) (an2_mono n2 hW) (an3_mono n5 hW) k).at
     · have f1:=hfh (decide_eq_false r1) (sp.fit (by decide)) w hla
       refine Or.inl ⟨2,Or.inr rfl,?_⟩
       exact fun g W hW k=>(hck3_r1 g _ _ _ _ _ W (f1.mono hW) (an2_mono n2 hW) (an3_mono n5 hW) k).at
theorem hprod_n {a1 a2 a3 b1 b2 b3 c1 c2 c3 x y z:Rat}{k l:Nat}(pa1:SmQ k a1)(pa2:SmQ k a2)(pa3:SmQ k a3)(pb1:SmQ k b1)(pb2:SmQ k b2)(pb3:SmQ k b3)(pc1:SmQ k c1)(pc2:SmQ k c2)(pc3:SmQ k c3)(px:SmQ l x)(py:SmQ l y)(pz:SmQ l z)(hkl:k+l≤900)(f0:FitQ (a1*x+a2*y))(f1:FitQ (b1*x+b2*y))(f2:FitQ (c1*x+c2*y))(w:World)(hla:La w) :
 CV w 36 #[.agg #[.string (Sq (a1)),.string (Sq (a2)),.string (Sq (a3)),.string (Sq (b1)),.string (Sq (b2)),.string (Sq (b3)),.string (Sq (c1)),.string (Sq (c2)),.string (Sq (c3))],.agg #[.string (Sq (x)),.string (Sq (y)),.string (Sq (z))]] (.agg #[.string (Sq (dotR a1 a2 a3 x y z)),.string (Sq (dotR b1 b2 b3 x y z)),.string (Sq (dotR c1 c2 c3 x y z))]) :=
 hprod_raw _ _ _ _ _ _ _ _ _ _ _ _ _ _ _ w (hdot_n pa1 pa2 pa3 px py pz hkl f0 w hla) (hdot_n pb1 pb2 pb3 px py pz hkl f1 w hla) (hdot_n pc1 pc2 pc3 px py pz hkl f2 w hla)
theorem hOf_n {p q:Rat}(hp:SmQ 40 p)(hq:SmQ 40 q)(w:World)(hla:La w)(hc:CV w 29 #[.agg #[.string (Sq (p)),.string (Sq (q))],.slice none 0 0] (.int .i64 0)):CV w 11 #[.agg #[.string (Sq (p)),.string (Sq (q))]] (.tuple #[.agg #[.string (Sq (cosQ q)),.string (Sq (0-sinQ p*sinQ q)),.string (Sq (cosQ p*sinQ q)),.string (Sq (0:Rat)),.string (Sq (cosQ p)),.string (Sq (sinQ p)),.string (Sq (0-sinQ q)),.string (Sq (0-sinQ p*cosQ q)),.string (Sq (cosQ p*cosQ q))],.int .i64 0]) :=
 hOf_raw _ _ _ _ _ _ _ _ _ _ _ w hc (hframe_n hp hq w hla)
theorem hMirror_n {p q:Rat}(hp:SmQ 40 p)(w:World)(hla:La w)(hc:CV w 29 #[.agg #[.string (Sq (p)),.string (Sq (q))],.slice none 0 0] (.int .i64 0)):CV w 15 #[.agg #[.string (Sq (p)),.string (Sq (q))]] (.tuple #[.agg #[.string (Sq (0-p)),.string (Sq (q))],.int .i64 0]) :=
 hMirror_raw _ _ _ w hc (hopp_n (hp.fit (by decide)) w hla)
theorem hTurn_n {p q x y z:Rat}(hp:SmQ 40 p)(hq:SmQ 40 q){l:Nat}(px:SmQ l x)(py:SmQ l y)(pz:SmQ l z)(hl:l≤700)(f0:FitQ ((cosQ q)*x+(0-sinQ p*sinQ q)*y))(f1:FitQ ((0:Rat)*x+(cosQ p)*y))(f2:FitQ ((0-sinQ q)*x+(0-sinQ p*cosQ q)*y))(w:World)(hla:La w)(hc:Ch3 w (Sq p) (Sq q) (Sq x) (Sq y) (Sq z) 0):CV w 20 #[.agg #[.string (Sq (p)),.string (Sq (q))],.agg #[.string (Sq (x)),.string (Sq (y)),.string (Sq (z))]] (.tuple #[.agg #[.string (Sq (dotR (cosQ q) (0-sinQ p*sinQ q) (cosQ p*sinQ q) x y z)),.string (Sq (dotR 0 (cosQ p) (sinQ p) x y z)),.string (Sq (dotR (0-sinQ q) (0-sinQ p*cosQ q) (cosQ p*cosQ q) x y z))],.int .i64 0]):=by
 obtain⟨s1,s2,s3,s4,s5,s6,s7,s8,s9⟩:=sm_rows hp hq
 exact hTurn_raw _ _ _ _ _ _ _ _ _ _ _ _ _ _ _ _ _ w (hframe_n hp hq w hla) (hprod_n s1 s2 s3 s4 s5 s6 s7 s8 s9 px py pz (by omega) f0 f1 f2 w hla) hc
theorem hBack_n {p q x y z:Rat}(hp:SmQ 40 p)(hq:SmQ 40 q){l:Nat}(px:SmQ l x)(py:SmQ l y)(pz:SmQ l z)(hl:l≤700)(f0:FitQ ((cosQ q)*x+(0)*y))(f1:FitQ ((0-sinQ p*sinQ q)*x+(cosQ p)*y))(f2:FitQ ((cosQ p*sinQ q)*x+(sinQ p)*y))(w:World)(hla:La w)(hc:Ch3 w (Sq p) (Sq q) (Sq x) (Sq y) (Sq z) 0):CV w 22 #[.agg #[.string (Sq (p)),.string (Sq (q))],.agg #[.string (Sq (x)),.string (Sq (y)),.string (Sq (z))]] (.tuple #[.agg #[.string (Sq (dotR (cosQ q) 0 (0-sinQ q) x y z)),.string (Sq (dotR (0-sinQ p*sinQ q) (cosQ p) (0-sinQ p*cosQ q) x y z)),.string (Sq (dotR (cosQ p*sinQ q) (sinQ p) (cosQ p*cosQ q) x y z))],.int .i64 0]):=by
 obtain⟨s1,s2,s3,s4,s5,s6,s7,s8,s9⟩:=sm_rows hp hq
 exact hBack_raw _ _ _ _ _ _ _ _ _ _ _ _ _ _ _ _ _ w (hframe_n hp hq w hla) (hprod_n s1 s4 s7 s2 s5 s8 s3 s6 s9 px py pz (by omega) f0 f1 f2 w hla) hc
theorem ch3_fine {p q x y z:Rat}(hp:SmQ 40 p)(hq:SmQ 40 q)(hx:FitQ x)(hy:FitQ y)(hz:FitQ z)(hr:InA p q)(w:World)(hla:La w):Ch3 w (Sq p) (Sq q) (Sq x) (Sq y) (Sq z) 0:=by
 have hv:∀ {x:Rat},FitQ x→CV w 74 #[.string (Sq x)] (.bool true):=fun hx W hW=>qvalid_yes _ hx W (hla.on hW)
 have n2:=an2_any (hv (hp.fit (by decide))) (hv (hq.fit (by decide)))
 have n3:=an3_any (hv hx) (hv hy) (hv hz)
 have f1:=hfh (decide_eq_true hr.1) (hp.fit (by decide)) w hla
 have f2:=hft (decide_eq_true hr.2) (hq.fit (by decide)) w hla
 exact fun g W hW k=>(hck3_ok g _ _ _ _ _ W (f1.mono hW) (f2.mono hW) (an2_mono n2 hW) (an3_mono n3 hW) k).at
theorem c0_fine {p q:Rat}(hp:SmQ 40 p)(hq:SmQ 40 q)(hr:InA p q)(w:World)(hla:La w):CV w 29 #[.agg #[.string (Sq (p)),.string (Sq (q))],.slice none 0 0] (.int .i64 0):=by
 have hv:∀ {x:Rat},FitQ x→CV w 74 #[.string (Sq x)] (.bool true):=fun hx W hW=>qvalid_yes _ hx W (hla.on hW)
 exact hck0_ok _ _ w (hfh (decide_eq_true hr.1) (hp.fit (by decide)) w hla) (hft (decide_eq_true hr.2) (hq.fit (by decide)) w hla) (an2_any (hv (hp.fit (by decide))) (hv (hq.fit (by decide))))
end Go.Proofs.YthjmjlfnpnbonaaGreatDoor
set_option maxRecDepth 100000
set_option maxHeartbeats 20000000
open Go.Lib (hid)
namespace Go.Proofs.YthjmjlfnpnbonaaGreatDoor
open Go.RowKit Go.Gb
theorem from_int (a0 x0 y0:ByteArray)(z:Int)(n:Nat)  (w:World)(h1:CQ 42 #[.string a0] (.tuple #[.string x0,.string y0,.bool false]))(h2:CQ 43 #[.string x0] (.bool true))(h3:CQ 44 #[.string y0] (.bool true))(h4:∀ W,CZ 46 #[.string x0] W z)(h5:∀ W,CN 47 #[.string y0] W n)  :
 Calls Tryz.prog 26 #[.string a0] w fun e w'=>∃ p c s d,e=.returned (.tuple #[.agg #[.bool (zneg z),.slice p (zlen z) c,.slice s (nlen n) d],.bool true])∧RN w' (.slice p (zlen z) c) z.natAbs∧RN w' (.slice s (nlen n) d) n∧Below w.heap.size w w':=by
 have C1:=hid h1
 have C2:=hid h2
 have C3:=hid h3
 have C4:=hid h4
 have C5:=hid h5
 clear h1 h2 h3 h4 h5
 go_enter Tryz.func26,Tryz.ntmps26
 go_upto_region 1 with fail
 refine wp_boxes w [(#[.bool false,.slice none 0 0,.slice none 0 0],53)] rfl ?_
 rintro W0 ⟨k1,hb⟩
 have HB0:=hid (show Below w.heap.size w W0 from hb)
 have K1:=hid k1
 clear k1 hb
 go_wp2_with fail
 with_reducible refine(C1.out _).mono ?_
 rintro e W1 ⟨rfl,hb⟩
 have K1:=hid (K1.out.below hb)
 have HB1:=hbt HB0 hb
 clear hb
 go_wp2_with fail
 with_reducible refine(C2.out _).mono ?_
 rintro e W2 ⟨rfl,hb⟩
 have K1:=hid (K1.out.below hb)
 have HB2:=hbt HB1 hb
 clear hb
 go_wp2_with fail
 with_reducible refine(C3.out _).mono ?_
 rintro e W3 ⟨rfl,hb⟩
 have K1:=hid (K1.out.below hb)
 have HB3:=hbt HB2 hb
 clear hb
 go_wp2_with fail
 with_reducible refine(C4.out _).mono ?_
 rintro e W4 ⟨p_4,c_4,rfl,r4_0,hb⟩
 have K1:=hid (K1.out.below hb)
 have HB4:=hbt HB3 hb
 have RZ:=hid r4_0
 clear hb r4_0
 go_wp2_with fail
 with_reducible refine(C5.out _).mono ?_
 rintro e W5 ⟨p_5,c_5,rfl,r5_0,hb⟩
 have K1:=hid (K1.out.below hb)
 have RZ:=hid (RZ.out.below hb)
 have HB5:=hbt HB4 hb
 have RM:=hid r5_0
 clear hb r5_0
 go_upto_region 5 with fail
 refine wp_boxes W5 [(#[.bool (zneg z),.slice p_4 (zlen z) c_4,.slice p_5 (nlen n) c_5],53)] rfl ?_
 have L1:=K1.out.lt
 have L2:=HB5.out.size
 rintro W6 ⟨k2,hb⟩
 have hb:Below W5.heap.size W5 W6:=hb
 have K1:=hid (K1.out.below hb)
 have RZ:=hid (RZ.out.below hb)
 have RM:=hid (RM.out.below hb)
 have HB6:=hbt HB5 hb
 have K2:=hid k2
 clear k2 hb
 have dK20:=K2.out.cell (i:=0) rfl
 have dK21:=K2.out.cell (i:=1) rfl
 have dK22:=K2.out.cell (i:=2) rfl
 have dK10:=K1.out.cell (i:=0) rfl
 have dK11:=K1.out.cell (i:=1) rfl
 have dK12:=K1.out.cell (i:=2) rfl
 have fK10:=K1.out.frozen (i:=0)
 have fK11:=K1.out.frozen (i:=1)
 have fK12:=K1.out.frozen (i:=2)
 go_wp2
 exact bodyPost_ret (v:=.tuple #[.agg #[.bool (zneg z),.slice p_4 (zlen z) c_4,.slice p_5 (nlen n) c_5],.bool true]) (by simp[results,Tryz.results26,go_sem,dK10,dK11,dK12]) rfl ⟨_,_,_,_,rfl,(store_rn [.bool (zneg z),.slice p_4 (zlen z) c_4,.slice p_5 (nlen n) c_5] RZ.out K1.out (by simp[noInt]) (by simp[plainV])),(store_rn [.bool (zneg z),.slice p_4 (zlen z) c_4,.slice p_5 (nlen n) c_5] RM.out K1.out (by simp[noInt]) (by simp[plainV])),(store_below (l:=[.bool (zneg z),.slice p_4 (zlen z) c_4,.slice p_5 (nlen n) c_5]) (i:=0) (by omega) HB6.out)⟩
theorem from_frac (a0 x0 y0:ByteArray)(z k sg:Int)(n one g:Nat)(hk:0<k)(hsg:sg≠0)  (w:World)(h1:CQ 42 #[.string a0] (.tuple #[.string x0,.string y0,.bool true]))(h2:CQ 43 #[.string x0] (.bool true))(h3:CQ 44 #[.string y0] (.bool true))(h4:∀ W,CZ 46 #[.string x0] W z)(h5:∀ W,CN 47 #[.string y0] W n)(h6:∀ W,CN 48 #[.int .u32 1] W one)(h7:∀ s1 d1 s2 d2 W,RN W (.slice s1 (nlen n) d1) n→RN W (.slice s2 (nlen one) d2) one→CR 49 #[.slice s1 (nlen n) d1,.slice s2 (nlen one) d2] W (.int .i64 k))(h8:∀ p1 c1 W,RN W (.slice p1 (zlen z) c1) z.natAbs→CR 50 #[.agg #[.bool (zneg z),.slice p1 (zlen z) c1]] W (.int .i64 sg))(h9:∀ p1 c1 s2 d2 W,RN W (.slice p1 (zlen z) c1) z.natAbs→RN W (.slice s2 (nlen n) d2) n→CN 51 #[.slice p1 (zlen z) c1,.slice s2 (nlen n) d2] W g)(h10:∀ s1 d1 s2 d2 W,RN W (.slice s1 (nlen g) d1) g→RN W (.slice s2 (nlen one) d2) one→CR 49 #[.slice s1 (nlen g) d1,.slice s2 (nlen one) d2] W (.int .i64 0))  :
 Calls Tryz.prog 26 #[.string a0] w fun e w'=>∃ p c s d,e=.returned (.tuple #[.agg #[.bool (zneg z),.slice p (zlen z) c,.slice s (nlen n) d],.bool true])∧RN w' (.slice p (zlen z) c) z.natAbs∧RN w' (.slice s (nlen n) d) n∧Below w.heap.size w w':=by
 have C1:=hid h1
 have C2:=hid h2
 have C3:=hid h3
 have C4:=hid h4
 have C5:=hid h5
 have C6:=hid h6
 have C7:=hid h7
 have C8:=hid h8
 have C9:=hid h9
 have C10:=hid h10
 have k0:decide (0<k)=true:=decide_eq_true hk
 have k1:0<k:=hk
 clear hk
 have s0:(sg==0)=false:=by rw[beq_eq_false_iff_ne];exact hsg
 have s1:¬ sg=0:=hsg
 have s2:(sg != 0)=true:=by unfold bne;rw[s0];rfl
 have s3:decide (sg=0)=false:=decide_eq_false hsg
 clear hsg h1 h2 h3 h4 h5 h6 h7 h8 h9 h10
 go_enter Tryz.func26,Tryz.ntmps26
 go_upto_region 1 with fail
 refine wp_boxes w [(#[.bool false,.slice none 0 0,.slice none 0 0],53)] rfl ?_
 rintro W0 ⟨k1,hb⟩
 have HB0:=hid (show Below w.heap.size w W0 from hb)
 have K1:=hid k1
 clear k1 hb
 go_wp2_with fail
 with_reducible refine(C1.out _).mono ?_
 rintro e W1 ⟨rfl,hb⟩
 have K1:=hid (K1.out.below hb)
 have HB1:=hbt HB0 hb
 clear hb
 go_wp2_with fail
 with_reducible refine(C2.out _).mono ?_
 rintro e W2 ⟨rfl,hb⟩
 have K1:=hid (K1.out.below hb)
 have HB2:=hbt HB1 hb
 clear hb
 go_wp2_with fail
 with_reducible refine(C3.out _).mono ?_
 rintro e W3 ⟨rfl,hb⟩
 have K1:=hid (K1.out.below hb)
 have HB3:=hbt HB2 hb
 clear hb
 go_wp2_with fail
 with_reducible refine(C4.out _).mono ?_
 rintro e W4 ⟨p_4,c_4,rfl,r4_0,hb⟩
 have K1:=hid (K1.out.below hb)
 have HB4:=hbt HB3 hb
 have RZ:=hid r4_0
 clear hb r4_0
 go_wp2_with fail
 with_reducible refine(C5.out _).mono ?_
 rintro e W5 ⟨p_5,c_5,rfl,r5_0,hb⟩
 have K1:=hid (K1.out.below hb)
 have RZ:=hid (RZ.out.below hb)
 have HB5:=hbt HB4 hb
 have RM:=hid r5_0
 clear hb r5_0
 go_upto_region 5 with fail
 refine wp_boxes W5 [(#[.bool (zneg z),.slice p_4 (zlen z) c_4,.slice p_5 (nlen n) c_5],53)] rfl ?_
 have L1:=K1.out.lt
 have L2:=HB5.out.size
 rintro W6 ⟨k2,hb⟩
 have hb:Below W5.heap.size W5 W6:=hb
 have K1:=hid (K1.out.below hb)
 have RZ:=hid (RZ.out.below hb)
 have RM:=hid (RM.out.below hb)
 have HB6:=hbt HB5 hb
 have K2:=hid k2
 clear k2 hb
 go_wp2_with fail
 with_reducible refine(C6.out _).mono ?_
 rintro e W7 ⟨p_6,c_6,rfl,r6_0,hb⟩
 have K1:=hid (K1.out.below hb)
 have K2:=hid (K2.out.below hb)
 have RZ:=hid (RZ.out.below hb)
 have RM:=hid (RM.out.below hb)
 have HB7:=hbt HB6 hb
 have RO:=hid r6_0
 clear hb r6_0
 have dK22:=K2.out.cell (i:=2) rfl
 go_wp2_with fail
 with_reducible refine(C7.out _ _ _ _ _ RM.out RO.out).mono ?_
 rintro e W8 ⟨rfl,hb⟩
 clear dK22
 have K1:=hid (K1.out.below hb)
 have K2:=hid (K2.out.below hb)
 have RZ:=hid (RZ.out.below hb)
 have RM:=hid (RM.out.below hb)
 have RO:=hid (RO.out.below hb)
 have HB8:=hbt HB7 hb
 clear hb
 have dK20:=K2.out.cell (i:=0) rfl
 have dK21:=K2.out.cell (i:=1) rfl
 go_wp2_with fail
 with_reducible refine(C8.out _ _ _ RZ.out).mono ?_
 rintro e W9 ⟨rfl,hb⟩
 clear dK20 dK21
 have K1:=hid (K1.out.below hb)
 have K2:=hid (K2.out.below hb)
 have RZ:=hid (RZ.out.below hb)
 have RM:=hid (RM.out.below hb)
 have RO:=hid (RO.out.below hb)
 have HB9:=hbt HB8 hb
 clear hb
 have dK21:=K2.out.cell (i:=1) rfl
 have dK22:=K2.out.cell (i:=2) rfl
 go_wp2_with fail
 with_reducible refine(C9.out _ _ _ _ _ RZ.out RM.out).mono ?_
 rintro e W10 ⟨p_9,c_9,rfl,r9_0,hb⟩
 clear dK21 dK22
 have K1:=hid (K1.out.below hb)
 have K2:=hid (K2.out.below hb)
 have RZ:=hid (RZ.out.below hb)
 have RM:=hid (RM.out.below hb)
 have RO:=hid (RO.out.below hb)
 have HB10:=hbt HB9 hb
 have RG:=hid r9_0
 clear hb r9_0
 go_wp2_with fail
 with_reducible refine(C10.out _ _ _ _ _ RG.out RO.out).mono ?_
 rintro e W11 ⟨rfl,hb⟩
 have K1:=hid (K1.out.below hb)
 have K2:=hid (K2.out.below hb)
 have RZ:=hid (RZ.out.below hb)
 have RM:=hid (RM.out.below hb)
 have HB11:=hbt HB10 hb
 clear hb
 have dK20:=K2.out.cell (i:=0) rfl
 have dK21:=K2.out.cell (i:=1) rfl
 have dK22:=K2.out.cell (i:=2) rfl
 have dK10:=K1.out.cell (i:=0) rfl
 have dK11:=K1.out.cell (i:=1) rfl
 have dK12:=K1.out.cell (i:=2) rfl
 have fK10:=K1.out.frozen (i:=0)
 have fK11:=K1.out.frozen (i:=1)
 have fK12:=K1.out.frozen (i:=2)
 go_wp2
 exact bodyPost_ret (v:=.tuple #[.agg #[.bool (zneg z),.slice p_4 (zlen z) c_4,.slice p_5 (nlen n) c_5],.bool true]) (by simp[results,Tryz.results26,go_sem,dK10,dK11,dK12]) rfl ⟨_,_,_,_,rfl,(store_rn [.bool (zneg z),.slice p_4 (zlen z) c_4,.slice p_5 (nlen n) c_5] RZ.out K1.out (by simp[noInt]) (by simp[plainV])),(store_rn [.bool (zneg z),.slice p_4 (zlen z) c_4,.slice p_5 (nlen n) c_5] RM.out K1.out (by simp[noInt]) (by simp[plainV])),(store_below (l:=[.bool (zneg z),.slice p_4 (zlen z) c_4,.slice p_5 (nlen n) c_5]) (i:=0) (by omega) HB11.out)⟩
end Go.Proofs.YthjmjlfnpnbonaaGreatDoor
set_option maxRecDepth 100000
set_option maxHeartbeats 20000000
namespace Go.Proofs.YthjmjlfnpnbonaaGreatDoor
open Go.RowKit Go.Gb
theorem below_drewN (w:World)(n:Nat):Below w.heap.size w (w.drewN n):=⟨rfl,rfl,rfl,Nat.le_refl _,fun _ _=>rfl⟩
theorem not47 {s:ByteArray}{k:Nat}(h:k<s.size)(hn:s[k]≠47):((s[k].toNat:Int)==47)=false:=by
 rw[beq_eq_false_iff_ne]
 intro e
 apply hn
 apply UInt8.toNat_inj.1
 have:s[k].toNat=47:=by omega
 rw[this];rfl
theorem split_no (s:ByteArray)(hn:∀ k (h:k<s.size),s[k]≠47)(hs:s.size≤maxLen)(w:World) :
 Calls Tryz.prog 42 #[.string s] w fun e w'=>e=.returned (.tuple #[.string s,.string ⟨#[49]⟩,.bool false])∧w=w':=by
 unfold maxLen at hs
 have HN:=Lib.hid hn
 clear hn
 go_enter Tryz.func42,Tryz.ntmps42
 go_wp2
 go_loop [5] (fun i=>∃ k:Nat,k≤s.size∧i=.int .i64 k) (fun i=>s.size-(intOf i).toNat)
 case atStart=>exact⟨0,Nat.zero_le _,rfl⟩
 case round =>
  obtain⟨k,hk,rfl⟩:=hrel
  by_cases hlt:k<s.size
  · have e1:=not47 hlt (HN.out k hlt)
    go_wp2
    go_round
    case rel=>exact⟨k+1,by omega,by go_num⟩
    case measure=>simp[intOf];omega
  · go_wp2
    go_ret3
    exact⟨rfl,rfl⟩
theorem split_yes (s a b:ByteArray)(hsz:a.size<s.size)(hn:∀ k (_:k<a.size) (h2:k<s.size),s[k]≠47)(h47:s[a.size]=47)(ha:s.extract 0 a.size=a)(hb:s.extract (a.size+1) s.size=b)(hs:s.size≤maxLen)(w:World) :
 CR 42 #[.string s] w (.tuple #[.string a,.string b,.bool true]):=by
 unfold maxLen at hs
 have HN:=Lib.hid hn
 obtain⟨n,hna⟩:∃ n,n=a.size:=⟨_,rfl⟩
 have h47':∃ h:n<s.size,s[n]=47:=⟨by omega,by subst hna;exact h47⟩
 rw[← hna]at ha hb hsz
 have HA:=Lib.hid ha
 have HB:=Lib.hid hb
 have HNA:=Lib.hid hna
 clear hn ha hb h47 hna
 go_enter Tryz.func42,Tryz.ntmps42
 go_wp2
 go_loop [5] (fun i=>∃ k:Nat,k≤n∧i=.int .i64 k) (fun i=>n-(intOf i).toNat)
 case atStart=>exact⟨0,Nat.zero_le _,rfl⟩
 case round =>
  obtain⟨k,hk,rfl⟩:=hrel
  have hks:k<s.size:=by omega
  by_cases hlt:k<n
  · have e1:=not47 hks (HN.out k (by have:=HNA.out;omega) hks)
    clear h47'
    go_wp2
    go_round
    case rel=>exact⟨k+1,by omega,by go_num⟩
    case measure=>simp[intOf];omega
  · obtain rfl:n=k:=by omega
    obtain⟨h,h47'⟩:=h47'
    have e1:((s[n].toNat:Int)==47)=true:=by rw[h47'];rfl
    clear h47' hk hlt
    have i1:IntKind.i64.wrap ((n:Int)+1)=(n:Int)+1:=IntWalk.i64_in _ (by omega)
    have i2:(0:Int)≤(n:Int)+1:=by omega
    have i3:(n:Int)+1≤(s.size:Int):=by omega
    have i4:((n:Int)+1).toNat=n+1:=by omega
    have i5:(n:Int)≤(s.size:Int):=by omega
    go_wp2_with fail
    go_quiet (fail)
    go_wp2
    go_ret3
    exact⟨by rw[HA.out,HB.out];rfl,below_drewN _ _⟩
end Go.Proofs.YthjmjlfnpnbonaaGreatDoor
