/- garboardlaw16.AttitudeReturns returns true. -/
import Derived.Test.YthjmjlfnpnbonaaGreatDoorMz45q
import Derived.Test.YthjmjlfnpnbonaaGreatDoorHj
namespace Go.Proofs.YthjmjlfnpnbonaaGreatDoor
open Go.RowKit Go.Gb
theorem areturns_any (p q x y z:ByteArray)(w:World)(hl:La w) :
 CR 6 #[.agg #[.string p,.string q],.agg #[.string x,.string y,.string z]] w (.bool true):=by
 cases fa:decide (p.size≤40∧q.size≤40) with
 | false=>exact(hre_long1 p q x y z w hl fa).at
 | true =>
   cases fv:decide (x.size≤40∧y.size≤40∧z.size≤40) with
   | false=>exact(hre_long2 p q x y z w hl fa fv).at
   | true =>
   obtain⟨hp,hq⟩:=of_decide_eq_true fa
   obtain⟨hx,hy,hz⟩:=of_decide_eq_true fv
   rcases ck3_any p q x y z hp hq hx hy hz w hl with⟨er,rfl|rfl,hc⟩|⟨mp,mq,mx,my,mz,⟨rfl,sp,rfl,sq,rfl,sx,rfl,sy,rfl,sz⟩,hr,hc⟩
   · exact(hre_e1 p q x y z w (hTurn_e1 _ _ _ _ _ w hc) (hBack_e1 _ _ _ _ _ w hc) hl fa fv).at
   · exact(hre_e2 p q x y z w (hTurn_e2 _ _ _ _ _ w hc) (hBack_e2 _ _ _ _ _ w hc) hl fa fv).at
   · obtain⟨s1,s2,s3,s4,s5,s6,s7,s8,s9⟩:=sm_rows sp sq
     have h1:=hTurn_n sp sq sx sy sz (by decide) (((s1.mul sx).add (s2.mul sy)).fit (by decide)) (((s4.mul sx).add (s5.mul sy)).fit (by decide)) (((s7.mul sx).add (s8.mul sy)).fit (by decide)) w hl hc
     have h2:=hBack_n sp sq sx sy sz (by decide) (((s1.mul sx).add (s4.mul sy)).fit (by decide)) (((s2.mul sx).add (s5.mul sy)).fit (by decide)) (((s3.mul sx).add (s6.mul sy)).fit (by decide)) w hl hc
     obtain⟨b1,b2,b3⟩:=fr_back (cs_one mp) (cs_one mq) mx my mz
     obtain⟨t1,t2,t3⟩:=fr_turn (cs_one mp) (cs_one mq) mx my mz
     have ln:=fr_length (cs_one mp) (cs_one mq) mx my mz
     have sv1:=SmQ.mono (l:=608) (((s1.mul sx).add (s2.mul sy)).add (s3.mul sz)) (by decide)
     have sv2:=SmQ.mono (l:=608) (((s4.mul sx).add (s5.mul sy)).add (s6.mul sz)) (by decide)
     have sv3:=SmQ.mono (l:=608) (((s7.mul sx).add (s8.mul sy)).add (s9.mul sz)) (by decide)
     have sw1:=SmQ.mono (l:=608) (((s1.mul sx).add (s4.mul sy)).add (s7.mul sz)) (by decide)
     have sw2:=SmQ.mono (l:=608) (((s2.mul sx).add (s5.mul sy)).add (s8.mul sz)) (by decide)
     have sw3:=SmQ.mono (l:=608) (((s3.mul sx).add (s6.mul sy)).add (s9.mul sz)) (by decide)
     change SmQ 608 (dotR (cosQ mq) (0-sinQ mp*sinQ mq) (cosQ mp*sinQ mq) mx my mz) at sv1
     change SmQ 608 (dotR 0 (cosQ mp) (sinQ mp) mx my mz) at sv2
     change SmQ 608 (dotR (0-sinQ mq) (0-sinQ mp*cosQ mq) (cosQ mp*cosQ mq) mx my mz) at sv3
     change SmQ 608 (dotR (cosQ mq) 0 (0-sinQ mq) mx my mz) at sw1
     change SmQ 608 (dotR (0-sinQ mp*sinQ mq) (cosQ mp) (0-sinQ mp*cosQ mq) mx my mz) at sw2
     change SmQ 608 (dotR (cosQ mp*sinQ mq) (sinQ mp) (cosQ mp*cosQ mq) mx my mz) at sw3
     generalize hV1:dotR (cosQ mq) (0-sinQ mp*sinQ mq) (cosQ mp*sinQ mq) mx my mz=V1 at *
     generalize hV2:dotR 0 (cosQ mp) (sinQ mp) mx my mz=V2 at *
     generalize hV3:dotR (0-sinQ mq) (0-sinQ mp*cosQ mq) (cosQ mp*cosQ mq) mx my mz=V3 at *
     generalize hW1:dotR (cosQ mq) 0 (0-sinQ mq) mx my mz=W1 at *
     generalize hW2:dotR (0-sinQ mp*sinQ mq) (cosQ mp) (0-sinQ mp*cosQ mq) mx my mz=W2 at *
     generalize hW3:dotR (cosQ mp*sinQ mq) (sinQ mp) (cosQ mp*cosQ mq) mx my mz=W3 at *
     have f0:FitQ ((cosQ mq)*V1+(0:Rat)*V2):=by
        rw[show(cosQ mq)*V1+(0:Rat)*V2=mx-(0-sinQ mq)*V3 from by have:=b1;unfold dotR at this;grind]
        exact(sx.sub (s7.mul sv3)).fit (by decide)
     have f1:FitQ ((0-sinQ mp*sinQ mq)*V1+(cosQ mp)*V2):=by
        rw[show(0-sinQ mp*sinQ mq)*V1+(cosQ mp)*V2=my-(0-sinQ mp*cosQ mq)*V3 from by have:=b2;unfold dotR at this;grind]
        exact(sy.sub (s8.mul sv3)).fit (by decide)
     have f2:FitQ ((cosQ mp*sinQ mq)*V1+(sinQ mp)*V2):=by
        rw[show(cosQ mp*sinQ mq)*V1+(sinQ mp)*V2=mz-(cosQ mp*cosQ mq)*V3 from by have:=b3;unfold dotR at this;grind]
        exact(sz.sub (s9.mul sv3)).fit (by decide)
     have g0:FitQ ((cosQ mq)*W1+(0-sinQ mp*sinQ mq)*W2):=by
        rw[show(cosQ mq)*W1+(0-sinQ mp*sinQ mq)*W2=mx-(cosQ mp*sinQ mq)*W3 from by have:=t1;unfold dotR at this;grind]
        exact(sx.sub (s3.mul sw3)).fit (by decide)
     have g1:FitQ ((0:Rat)*W1+(cosQ mp)*W2):=by
        rw[show(0:Rat)*W1+(cosQ mp)*W2=my-(sinQ mp)*W3 from by have:=t2;unfold dotR at this;grind]
        exact(sy.sub (s6.mul sw3)).fit (by decide)
     have g2:FitQ ((0-sinQ mq)*W1+(0-sinQ mp*cosQ mq)*W2):=by
        rw[show(0-sinQ mq)*W1+(0-sinQ mp*cosQ mq)*W2=mz-(cosQ mp*cosQ mq)*W3 from by have:=t3;unfold dotR at this;grind]
        exact(sz.sub (s9.mul sw3)).fit (by decide)
     have h3:=hBack_n sp sq sv1 sv2 sv3 (by decide) f0 f1 f2 w hl (ch3_fine sp sq (sv1.fit (by decide)) (sv2.fit (by decide)) (sv3.fit (by decide)) hr w hl)
     have h4:=hTurn_n sp sq sw1 sw2 sw3 (by decide) g0 g1 g2 w hl (ch3_fine sp sq (sw1.fit (by decide)) (sw2.fit (by decide)) (sw3.fit (by decide)) hr w hl)
     rw[b1,b2,b3]at h3
     rw[t1,t2,t3]at h4
     have h5:=ldot_n sv1 sv2 sv3 sv1 sv2 sv3 (by decide) w
     have h6:=ldot_n sx sy sz sx sy sz (by decide) w
     rw[ln]at h5
     exact(hre_yes _ _ _ _ _ _ _ _ _ _ _ _ _ _ _ w h1 h2 h3 h4 h5 h6 hl fa fv (tVec_n sv1 sv2 sv3 (by decide))).at
end Go.Proofs.YthjmjlfnpnbonaaGreatDoor
