/- garboardlaw16.AttitudeUnit returns true. -/
import Derived.Test.YthjmjlfnpnbonaaGreatDoorMz45q
import Derived.Test.YthjmjlfnpnbonaaGreatDoorHi
namespace Go.Proofs.YthjmjlfnpnbonaaGreatDoor
open Go.RowKit Go.Gb
theorem aunit_any (p q:ByteArray)(w:World)(hl:La w) :
 CR 5 #[.agg #[.string p,.string q]] w (.bool true):=by
 cases fa:decide (p.size≤40∧q.size≤40) with
 | false=>exact(hun_long p q w hl fa).at
 | true =>
   obtain⟨hp,hq⟩:=of_decide_eq_true fa
   rcases ck0_any p q hp hq w hl with⟨er,rfl|rfl,hc⟩|⟨mp,mq,⟨rfl,sp,rfl,sq⟩,hr,hc⟩
   · exact(hun_e1 p q w (hOf_e1 _ _ w hc) hl fa).at
   · exact(hun_e2 p q w (hOf_e2 _ _ w hc) hl fa).at
   · obtain⟨s1,s2,s3,s4,s5,s6,s7,s8,s9⟩:=sm_rows sp sq
     obtain⟨u1,u2,u3,u4,u5,u6⟩:=fr_unit (cs_one mp) (cs_one mq)
     have d1:=ldot_n s1 s2 s3 s1 s2 s3 (by decide) w
     have d2:=ldot_n s4 s5 s6 s4 s5 s6 (by decide) w
     have d3:=ldot_n s7 s8 s9 s7 s8 s9 (by decide) w
     have d4:=ldot_n s1 s2 s3 s4 s5 s6 (by decide) w
     have d5:=ldot_n s4 s5 s6 s7 s8 s9 (by decide) w
     have d6:=ldot_n s7 s8 s9 s1 s2 s3 (by decide) w
     rw[u1,hq1]at d1
     rw[u2,hq1,hq0]at d2
     rw[u3,hq1]at d3
     rw[u4,show Sq (0:Rat)=⟨#[48]⟩from hq0]at d4
     rw[u5]at d5
     rw[u6]at d6
     have e:=hOf_n sp sq w hl hc
     have v0:=tVec_n s1 s2 s3 (by decide)
     have v1:=tVec_n s4 s5 s6 (by decide)
     have v2:=tVec_n s7 s8 s9 (by decide)
     rw[hq0]at d5 d6 e v1
     exact(hun_yes _ _ _ _ _ _ _ _ _ _ _ _ _ _ _ _ _ _ _ _ w e d1 d2 d3 d4 d5 d6 hl fa v0 v1 v2).at
end Go.Proofs.YthjmjlfnpnbonaaGreatDoor
