/- garboardlaw06.AngleOrder returns true. -/
import Derived.Test.YtcihodmmaclihaaGreatDoorMz46q
import Derived.Test.YtcihodmmaclihaaGreatDoorBx
namespace Go.Proofs.YtcihodmmaclihaaGreatDoor
open Go.RowKit Go.Gb
theorem aorder_any (s t:ByteArray)(n:Int)(n0:0≤n)(n1:n≤255)(w:World)(hl:La w) :
 CR 4 #[.string s,.string t,.int .u8 n] w (.bool true):=by
 have A0:=angle_awake w hl
 by_cases h9:9<s.size
 · exact(aor_long1 s t n w A0 (by omega)).at
 · have hs:¬ (9:Int)<(s.size:Int):=by omega
   by_cases h10:9<t.size
   · exact(aor_long2 s t n w A0 hs (by omega)).at
   · have ht:¬ (9:Int)<(t.size:Int):=by omega
     rcases form9 s (by omega) with hv|⟨p,rfl,hp⟩
     · exact(aor_bad1 s t n w A0 (aValid_no hv (by omega) w hl) hs ht).at
     · by_cases hr : -1≤p∧p≤1
       · have v1:=aValid_n (decide_eq_true hr) (hp.fit (by decide)) w hl
         rcases form9 t (by omega) with hu|⟨q,rfl,hq⟩
         · exact(aor_bad2 _ t n w A0 v1 (aValid_no hu (by omega) w hl) hs ht).at
         · by_cases hr2 : -1≤q∧q≤1
           · have v2:=aValid_n (decide_eq_true hr2) (hq.fit (by decide)) w hl
             obtain⟨k,m,k1,k4,_,e1,e2,_,e4,e5,_,_,_⟩:=ufacts (n:=n) 4 (by decide) (by decide) n0 n1
             have hpi:=pi_pos k k1 (by omega)
             have fa:=fit_deg hp hr.1 hr.2 k1 (by omega)
             have fb:=fit_deg hq hr2.1 hr2.2 k1 (by omega)
             have m0:SmQ 9 (0:Rat):=su0.mono (by decide)
             have m1:SmQ 9 (1:Rat):=su1.mono (by decide)
             have m2:SmQ 9 (-1:Rat):=sun.mono (by decide)
             have f0:=fit_deg m0 (by decide +kernel) (by decide +kernel) k1 (by omega)
             have f1:=fit_deg m1 (by decide +kernel) (by decide +kernel) k1 (by omega)
             have f2:=fit_deg m2 (by decide +kernel) (by decide +kernel) k1 (by omega)
             have kn:=deg_known k k1 k4
             have b90:SmQ 3 (90:Rat):=⟨by unfold Sm;decide,by unfold Sm;decide⟩
             have n90:SmQ 3 (-90:Rat):=⟨by unfold Sm;decide,by unfold Sm;decide⟩
             have d0:=aDegr_n k1 (by omega) m0 (by decide +kernel) (by decide +kernel) w hl
             have d1:=aDegr_n k1 (by omega) m1 (by decide +kernel) (by decide +kernel) w hl
             have d2:=aDegr_n k1 (by omega) m2 (by decide +kernel) (by decide +kernel) w hl
             have i0:=uHas kn.1.1 kn.1.2 f0.1 f0.2 (su0.fit (by decide)) w hl
             have i1:=uHas kn.2.1.1 kn.2.1.2 f1.1 f1.2 (b90.fit (by decide)) w hl
             have i2:=uHas kn.2.2.1 kn.2.2.2 f2.1 f2.2 (n90.fit (by decide)) w hl
             rw[uq0]at d0 i0
             rw[uq1]at d1
             rw[uqn]at d2
             rw[t90]at i1
             rw[tn90]at i2
             have la:=degJ_le k p
             have lb:=degJ_le k q
             have ss:=subI_le la lb
             have sa:=sm_degJ hp hr.1 hr.2 k1 (show k≤5 by omega)
             have sb:=sm_degJ hq hr2.1 hr2.2 k1 (show k≤5 by omega)
             have x1:FitQ (subI (degJ k p) (degJ k q)).1:=(sa.1.sub sb.2).fit (by decide)
             have x2:FitQ (subI (degJ k p) (degJ k q)).2:=(sa.2.sub sb.1).fit (by decide)
             have c6:=uSubI la lb fa.1 fa.2 fb.1 fb.2 w hl
             have g1:=aDegr_n k1 (show k≤5 by omega) hp hr.1 hr.2 w hl
             have g2:=aDegr_n k1 (show k≤5 by omega) hq hr2.1 hr2.2 w hl
             have cm:=uCmpC (x:=p) (y:=q) rfl (hp.fit (by decide)) (hq.fit (by decide)) w hl
             rcases sign_cases _ _ ss with hne|⟨c,h1,h2,hc⟩
             · exact(aor_no _ _ _ _ _ _ _ _ _ _ _ _ _ _ n _ k m w A0 v1 v2 g1 g2 cm c6 (uSign_not ss hne x1 x2 w hl) d0 d1 d2 i0 i1 i2 hs ht e1 e2 e4 e5).at
             · have sg:=uSign_sure ss h1 h2 x1 x2 w hl
               rcases hc with⟨rfl,hy⟩|⟨rfl,_⟩|⟨rfl,hx⟩
               · have hlt:p<q:=by
                   by_cases h:p<q
                   · exact h
                   · have o:=deg_order k1 k4 hpi hr2.1 (show q≤p by grind) hr.2
                     have hy':(degJ k p).2-(degJ k q).1<0:=hy
                     grind
                 rw[cmpQ_lt hlt]at cm
                 exact(aor_less _ _ _ _ _ _ _ _ _ _ _ _ _ _ n k m w A0 v1 v2 g1 g2 cm c6 sg d0 d1 d2 i0 i1 i2 hs ht e1 e2 e4 e5).at
               · exact(aor_zero _ _ _ _ _ _ _ _ _ _ _ _ _ _ n _ k m w A0 v1 v2 g1 g2 cm c6 sg d0 d1 d2 i0 i1 i2 hs ht e1 e2 e4 e5).at
               · have hgt:q<p:=by
                   by_cases h:q<p
                   · exact h
                   · have o:=deg_order k1 k4 hpi hr.1 (show p≤q by grind) hr2.2
                     have hx':0<(degJ k p).1-(degJ k q).2:=hx
                     grind
                 rw[cmpQ_gt hgt]at cm
                 exact(aor_more _ _ _ _ _ _ _ _ _ _ _ _ _ _ n k m w A0 v1 v2 g1 g2 cm c6 sg d0 d1 d2 i0 i1 i2 hs ht e1 e2 e4 e5).at
           · exact(aor_bad2 _ _ n w A0 v1 (aValid_n (decide_eq_false hr2) (hq.fit (by decide)) w hl) hs ht).at
       · exact(aor_bad1 _ t n w A0 (aValid_n (decide_eq_false hr) (hp.fit (by decide)) w hl) hs ht).at
end Go.Proofs.YtcihodmmaclihaaGreatDoor
