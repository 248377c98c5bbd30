/- garboardlaw06.AngleBrackets returns true. -/
import Derived.Test.YtcihodmmaclihaaGreatDoorMz46q
import Derived.Test.YtcihodmmaclihaaGreatDoorMz49q
import Derived.Test.YtcihodmmaclihaaGreatDoorBy
namespace Go.Proofs.YtcihodmmaclihaaGreatDoor
open Go.RowKit Go.Gb
theorem abrackets_any (d:ByteArray)(n l:Int)(n0:0≤n)(n1:n≤255)(l0:0≤l)(l1:l≤255)(w:World)(hl:La w) :
 CR 5 #[.string d,.int .u8 n,.int .u8 l] w (.bool true):=by
 have A0:=angle_awake w hl
 by_cases h9:9<d.size
 · exact(abr_long d n l w A0 (by omega)).at
 · have hf:¬ (9:Int)<(d.size:Int):=by omega
   obtain⟨k,m,k1,k3,_,e1,e2,_,e4,e5,_,_,_⟩:=ufacts (n:=n) 3 (by decide) (by decide) n0 n1
   obtain⟨j,h,j1,j5,jh,i1,i2,_,_,i5,_,_,i4⟩:=ufacts (n:=l) 5 (by decide) (by decide) l0 l1
   rcases form9 d (by omega) with hv|⟨q,rfl,hq⟩
   · exact(abr_e1 d n l k m h j w A0 (aFind_no _ _ hv (by omega) w hl) (aFind_no _ _ hv (by omega) w hl) hf e1 e2 e4 e5 i1 i2 i4 i5).at
   · have fq:FitQ q:=hq.fit (by decide)
     by_cases hr : -90≤q∧q≤90
     · have B:=hv_inv k q h
       have B2:=hv_inv k q j
       have F1:=aFind_n (n:=k) (K:=h) k1 (by omega) (by omega) fq hr.1 hr.2 w hl
       have F2:=aFind_n (n:=k) (K:=j) k1 (by omega) (by omega) fq hr.1 hr.2 w hl
       have sl:=sm_dy (x:=(hv k q h).1) (k:=h) (by omega) B.lo (Rat.le_trans B.le B.hi) B.dl
       have su:=sm_dy (x:=(hv k q h).2) (k:=h) (by omega) (Rat.le_trans B.lo B.le) B.hi B.dh
       have sl2:=sm_dy (x:=(hv k q j).1) (k:=j) (by omega) B2.lo (Rat.le_trans B2.le B2.hi) B2.dl
       have su2:=sm_dy (x:=(hv k q j).2) (k:=j) (by omega) (Rat.le_trans B2.lo B2.le) B2.hi B2.dh
       have wi:Wit (hv k q h) (hv k q j):=by
        rw[jh]
        exact step_in k q B.le
       have c3:=uMeetC wi B.le B2.le (sl.fit (by decide)) (su.fit (by decide)) (sl2.fit (by decide)) (su2.fit (by decide)) w hl
       have c4:=aDegr_n (n:=k) k1 (by omega) (sl.mono (show 3≤9 by decide)) B.lo (Rat.le_trans B.le B.hi) w hl
       have c5:=aDegr_n (n:=k) k1 (by omega) (su.mono (show 3≤9 by decide)) (Rat.le_trans B.lo B.le) B.hi w hl
       have fl:=fit_deg (n:=k) (sl.mono (show 3≤9 by decide)) B.lo (Rat.le_trans B.le B.hi) k1 (by omega)
       have fu:=fit_deg (n:=k) (su.mono (show 3≤9 by decide)) (Rat.le_trans B.lo B.le) B.hi k1 (by omega)
       have c6:=uIvalid B.le (sl.fit (by decide)) (su.fit (by decide)) w hl
       have c7:=uCmpC (x:=(degJ k (hv k q h).1).2) (y:=q) rfl fl.2 fq w hl
       have c8:=uCmpC (x:=(degJ k (hv k q h).2).1) (y:=q) rfl fu.1 fq w hl
       have HSL:=B.sl
       have HSH:=B.sh
       generalize hP:hv k q h=P at *
       obtain⟨x,y⟩:=P
       by_cases hx:x = -1
       · subst hx
         by_cases hy:y=1
         · subst hy
           rw[show Sq (-1:Rat)=⟨#[45,49]⟩from uqn,show Sq (1:Rat)=⟨#[49]⟩from uq1]at *
           exact(abr_bb _ _ _ _ _ _ _ n l _ _ k m h j w A0 F1 F2 c3 c4 c5 c6 c7 c8 hf e1 e2 e4 e5 i1 i2 i4 i5).at
         · have hb:q<(degJ k y).1:=HSH.resolve_left hy
           rw[show Sq (-1:Rat)=⟨#[45,49]⟩from uqn]at *
           exact(abr_bs _ _ _ _ _ _ _ _ n l _ _ k m h j w A0 F1 F2 c3 c4 c5 c6 c7 c8 hf e1 e2 e4 e5 i1 i2 i4 i5 (dcmp_gt hb)).at
       · have ha:(degJ k x).2≤q:=HSL.resolve_left hx
         by_cases hy:y=1
         · subst hy
           rw[show Sq (1:Rat)=⟨#[49]⟩from uq1]at *
           exact(abr_sb _ _ _ _ _ _ _ _ n l _ _ k m h j w A0 F1 F2 c3 c4 c5 c6 c7 c8 hf e1 e2 e4 e5 i1 i2 i4 i5 (dcmp_le ha)).at
         · have hb:q<(degJ k y).1:=HSH.resolve_left hy
           exact(abr_ss _ _ _ _ _ _ _ _ _ n l _ _ k m h j w A0 F1 F2 c3 c4 c5 c6 c7 c8 hf e1 e2 e4 e5 i1 i2 i4 i5 (dcmp_le ha) (dcmp_gt hb)).at
     · exact(abr_e2 _ n l k m h j w A0 (aFind_out _ _ hr fq w hl) (aFind_out _ _ hr fq w hl) hf e1 e2 e4 e5 i1 i2 i4 i5).at
end Go.Proofs.YtcihodmmaclihaaGreatDoor
