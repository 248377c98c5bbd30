/- garboardlaw16.AttitudeMirrors returns true. -/
import Derived.Test.YthjmjlfnpnbonaaGreatDoorMz45q
import Derived.Test.YthjmjlfnpnbonaaGreatDoorHk
namespace Go.Proofs.YthjmjlfnpnbonaaGreatDoor
open Go.RowKit Go.Gb
theorem amirrors_any (p q x y z:ByteArray)(w:World)(hl:La w) :
 CR 7 #[.agg #[.string p,.string q],.agg #[.string x,.string y,.string z]] w (.bool true):=by
 cases fa:decide (p.size≤40∧q.size≤40) with
 | false=>exact(hmi_long1 p q x y z w hl fa).at
 | true =>
   cases fv:decide (x.size≤40∧y.size≤40∧z.size≤40) with
   | false=>exact(hmi_long2 p q x y z w hl fa fv).at
   | true =>
   obtain⟨hp,hq⟩:=of_decide_eq_true fa
   obtain⟨hx,hy,hz⟩:=of_decide_eq_true fv
   have hm:∃ na nb er,CV w 15 #[.agg #[.string p,.string q]] (.tuple #[.agg #[.string na,.string nb],.int .i64 er]):=by
    rcases ck0_any p q hp hq w hl with⟨er,rfl|rfl,hc⟩|⟨mp,mq,⟨rfl,sp,rfl,sq⟩,hr,hc⟩
    · exact⟨_,_,_,hMirror_e1 _ _ w hc⟩
    · exact⟨_,_,_,hMirror_e2 _ _ w hc⟩
    · exact⟨_,_,_,hMirror_n sp w hl hc⟩
   obtain⟨na,nb,er2,hm⟩:=hm
   rcases ck3_any p q x y z hp hq hx hy hz w hl with⟨er,rfl|rfl,hc⟩|⟨mp,mq,mx,my,mz,⟨rfl,sp,rfl,sq,rfl,sx,rfl,sy,rfl,sz⟩,hr,hc⟩
   · exact(hmi_e1 p q x y z na nb er2 w (hTurn_e1 _ _ _ _ _ w hc) hm hl fa fv).at
   · exact(hmi_e2 p q x y z na nb er2 w (hTurn_e2 _ _ _ _ _ w hc) hm hl fa fv).at
   · clear hm
     obtain⟨s1,s2,s3,s4,s5,s6,s7,s8,s9⟩:=sm_rows sp sq
     have h1:=hTurn_n sp sq sx sy sz (by decide) (((s1.mul sx).add (s2.mul sy)).fit (by decide)) (((s4.mul sx).add (s5.mul sy)).fit (by decide)) (((s7.mul sx).add (s8.mul sy)).fit (by decide)) w hl hc
     have h2:=hMirror_n sp w hl (c0_fine sp sq hr w hl)
     have sn:=sm_zero_sub sp
     have sy2:=sm_zero_sub sy
     have hr2:InA (0-mp) mq:=⟨by have:=hr.1;constructor<;>grind,hr.2⟩
     obtain⟨k1,k2,k3,k4,k5,k6,k7,k8,k9⟩:=sm_rows sn sq
     have h3:=hTurn_n sn sq sx sy2 sz (by decide) (((k1.mul sx).add (k2.mul sy2)).fit (by decide)) (((k4.mul sx).add (k5.mul sy2)).fit (by decide)) (((k7.mul sx).add (k8.mul sy2)).fit (by decide)) w hl (ch3_fine sn sq (sx.fit (by decide)) (sy2.fit (by decide)) (sz.fit (by decide)) hr2 w hl)
     obtain⟨m1,m2,m3⟩:=fr_mirror (cosQ mp) (sinQ mp) (cosQ mq) (sinQ mq) mx my mz
     rw[cos_opp,sin_opp,m1,m2,m3]at h3
     have sv2:=SmQ.mono (l:=608) (((s4.mul sx).add (s5.mul sy)).add (s6.mul sz)) (by decide)
     change SmQ 608 (dotR 0 (cosQ mp) (sinQ mp) mx my mz) at sv2
     exact(hmi_yes _ _ _ _ _ _ _ _ _ _ _ my (0-my) _ _ w h1 h2 h3 hl fa fv (tFrom_n sy (by decide)) (tNeg_n (hlq sy (by decide))) (sQTo _ _ rfl (sy2.mono (by decide))) (tFrom_n sv2 (by decide)) (tNeg_n (hlq sv2 (by decide))) (sQTo _ _ rfl ((sm_zero_sub sv2).mono (by decide)))).at
end Go.Proofs.YthjmjlfnpnbonaaGreatDoor
