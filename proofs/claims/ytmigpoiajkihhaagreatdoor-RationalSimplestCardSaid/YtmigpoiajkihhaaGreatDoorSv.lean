/- garboardref03: simplest, Simplest: walks over the contracts of what they call. -/
import Derived.Test.YtmigpoiajkihhaaGreatDoorMz41q
set_option maxRecDepth 100000
set_option maxHeartbeats 20000000
open Go.Lib (hid)
namespace Go.Proofs.YtmigpoiajkihhaaGreatDoor
open Go.RowKit Go.Gb
theorem z7b (n1 n2 f:Int)(en1 en2 on:Nat)(p1:Option Addr)(c1:Nat)(s1:Option Addr)(d1:Nat)(p2:Option Addr)(c2:Nat)(s2:Option Addr)(d2:Nat)(w:World)(h1:∀ p1 c1 s1 d1 W,RN W (.slice p1 (zlen n1) c1) n1.natAbs→RN W (.slice s1 (nlen en1) d1) en1→CZ 57 #[.agg #[.bool (zneg n1),.slice p1 (zlen n1) c1,.slice s1 (nlen en1) d1]] W f)(h2:∀ W,CN 63 #[.int .u32 1] W on)(h3:∀ p1 c1 s1 d1 p2 c2 s2 d2 W,RN W (.slice p1 (zlen f) c1) f.natAbs→RN W (.slice s1 (nlen on) d1) on→RN W (.slice p2 (zlen n1) c2) n1.natAbs→RN W (.slice s2 (nlen en1) d2) en1→CR 48 #[.agg #[.bool (zneg f),.slice p1 (zlen f) c1,.slice s1 (nlen on) d1],.agg #[.bool (zneg n1),.slice p2 (zlen n1) c2,.slice s2 (nlen en1) d2]] W (.int .i64 0))(r1:RN w (.slice p1 (zlen n1) c1) n1.natAbs)(t1:RN w (.slice s1 (nlen en1) d1) en1)(r2:RN w (.slice p2 (zlen n2) c2) n2.natAbs)(t2:RN w (.slice s2 (nlen en2) d2) en2) :
 CF 74 #[.agg #[.bool (zneg n1),.slice p1 (zlen n1) c1,.slice s1 (nlen en1) d1],.agg #[.bool (zneg n2),.slice p2 (zlen n2) c2,.slice s2 (nlen en2) d2]] w f on:=by
 have C1:=hid h1
 have C2:=hid h2
 have C3:=hid h3
 have R1:=hid r1
 have T1:=hid t1
 have R2:=hid r2
 have T2:=hid t2
 clear h1 h2 h3 r1 t1 r2 t2
 go_enter Tryz.func74,Tryz.ntmps74
 go_upto_region 1 with fail
 refine z0f w [(#[.bool (zneg n1),.slice p1 (zlen n1) c1,.slice s1 (nlen en1) d1],55),(#[.bool (zneg n2),.slice p2 (zlen n2) c2,.slice s2 (nlen en2) d2],55),(#[.bool false,.slice none 0 0,.slice none 0 0],55)] rfl ?_
 rintro W0 ⟨k1,k2,k3,hb⟩
 have HB0:=hid (show Below w.heap.size w W0 from hb)
 have R1:=hid (R1.out.below HB0.out)
 have T1:=hid (T1.out.below HB0.out)
 have K1:=hid k1
 have K2:=hid k2
 have K3:=hid k3
 clear k1 k2 k3 hb
 have dK10:=K1.out.cell (i:=0) rfl
 have dK11:=K1.out.cell (i:=1) rfl
 have dK12:=K1.out.cell (i:=2) rfl
 go_wp2_with fail
 with_reducible refine(C1.out _ _ _ _ _ R1.out T1.out).mono ?_
 rintro e W1 ⟨p_1,c_1,rfl,r1_0,hb⟩
 clear dK10 dK11 dK12
 have K1:=hid (K1.out.below hb)
 have K2:=hid (K2.out.below hb)
 have K3:=hid (K3.out.below hb)
 have R1:=hid (R1.out.below hb)
 have T1:=hid (T1.out.below hb)
 have HB1:=hbt HB0 hb
 have RF:=hid r1_0
 clear hb r1_0
 go_wp2_with fail
 with_reducible refine(C2.out _).mono ?_
 rintro e W2 ⟨p_2,c_2,rfl,r2_0,hb⟩
 have K1:=hid (K1.out.below hb)
 have K2:=hid (K2.out.below hb)
 have K3:=hid (K3.out.below hb)
 have R1:=hid (R1.out.below hb)
 have T1:=hid (T1.out.below hb)
 have RF:=hid (RF.out.below hb)
 have HB2:=hbt HB1 hb
 have RO:=hid r2_0
 clear hb r2_0
 go_upto_region 2 with fail
 refine z0f W2 [(#[.bool (zneg f),.slice p_1 (zlen f) c_1,.slice p_2 (nlen on) c_2],55)] rfl ?_
 have L1:=K1.out.lt
 have L2:=K2.out.lt
 have L3:=K3.out.lt
 have L4:=HB2.out.size
 rintro W3 ⟨k4,hb⟩
 have hb:Below W2.heap.size W2 W3:=hb
 have K1:=hid (K1.out.below hb)
 have K3:=hid (K3.out.below hb)
 have R1:=hid (R1.out.below hb)
 have T1:=hid (T1.out.below hb)
 have RF:=hid (RF.out.below hb)
 have RO:=hid (RO.out.below hb)
 have HB3:=hbt HB2 hb
 have K4:=hid k4
 clear k4 hb
 have dK40:=K4.out.cell (i:=0) rfl
 have dK41:=K4.out.cell (i:=1) rfl
 have dK42:=K4.out.cell (i:=2) rfl
 have dK10:=K1.out.cell (i:=0) rfl
 have dK11:=K1.out.cell (i:=1) rfl
 have dK12:=K1.out.cell (i:=2) rfl
 go_wp2_with fail
 with_reducible refine(C3.out _ _ _ _ _ _ _ _ _ RF.out RO.out R1.out T1.out).mono ?_
 rintro e W4 ⟨rfl,hb⟩
 clear dK40 dK41 dK42 dK10 dK11 dK12
 have K3:=hid (K3.out.below hb)
 have K4:=hid (K4.out.below hb)
 have RF:=hid (RF.out.below hb)
 have RO:=hid (RO.out.below hb)
 have HB4:=hbt HB3 hb
 clear hb
 have dK40:=K4.out.cell (i:=0) rfl
 have dK41:=K4.out.cell (i:=1) rfl
 have dK42:=K4.out.cell (i:=2) rfl
 have dK30:=K3.out.cell (i:=0) rfl
 have dK31:=K3.out.cell (i:=1) rfl
 have dK32:=K3.out.cell (i:=2) rfl
 have fK30:=K3.out.frozen (i:=0)
 have fK31:=K3.out.frozen (i:=1)
 have fK32:=K3.out.frozen (i:=2)
 go_wp2
 exact bodyPost_ret (v:=.agg #[.bool (zneg f),.slice p_1 (zlen f) c_1,.slice p_2 (nlen on) c_2]) (by simp[results,Tryz.results74,go_sem,dK30,dK31,dK32]) rfl ⟨_,_,_,_,rfl,(z0b [.bool (zneg f),.slice p_1 (zlen f) c_1,.slice p_2 (nlen on) c_2] RF.out K3.out (by simp[z0D]) (by simp[z0q])),(z0b [.bool (zneg f),.slice p_1 (zlen f) c_1,.slice p_2 (nlen on) c_2] RO.out K3.out (by simp[z0D]) (by simp[z0q])),(z06 (l:=[.bool (zneg f),.slice p_1 (zlen f) c_1,.slice p_2 (nlen on) c_2]) (i:=0) (by omega) HB4.out)⟩
theorem z7a (n1 n2 f k k2 i1 g:Int)(en1 en2 on di dg:Nat)(hk:k≠0)(hk2:k2≤0)(p1:Option Addr)(c1:Nat)(s1:Option Addr)(d1:Nat)(p2:Option Addr)(c2:Nat)(s2:Option Addr)(d2:Nat)(w:World)(h1:∀ p1 c1 s1 d1 W,RN W (.slice p1 (zlen n1) c1) n1.natAbs→RN W (.slice s1 (nlen en1) d1) en1→CZ 57 #[.agg #[.bool (zneg n1),.slice p1 (zlen n1) c1,.slice s1 (nlen en1) d1]] W f)(h2:∀ W,CN 63 #[.int .u32 1] W on)(h3:∀ p1 c1 s1 d1 p2 c2 s2 d2 W,RN W (.slice p1 (zlen f) c1) f.natAbs→RN W (.slice s1 (nlen on) d1) on→RN W (.slice p2 (zlen n1) c2) n1.natAbs→RN W (.slice s2 (nlen en1) d2) en1→CR 48 #[.agg #[.bool (zneg f),.slice p1 (zlen f) c1,.slice s1 (nlen on) d1],.agg #[.bool (zneg n1),.slice p2 (zlen n1) c2,.slice s2 (nlen en1) d2]] W (.int .i64 k))(h4:∀ W,CF 84 #[.int .i64 1] W i1 di)(h5:∀ p1 c1 s1 d1 p2 c2 s2 d2 W,RN W (.slice p1 (zlen f) c1) f.natAbs→RN W (.slice s1 (nlen on) d1) on→RN W (.slice p2 (zlen i1) c2) i1.natAbs→RN W (.slice s2 (nlen di) d2) di→CF 50 #[.agg #[.bool (zneg f),.slice p1 (zlen f) c1,.slice s1 (nlen on) d1],.agg #[.bool (zneg i1),.slice p2 (zlen i1) c2,.slice s2 (nlen di) d2]] W g dg)(h6:∀ p1 c1 s1 d1 p2 c2 s2 d2 W,RN W (.slice p1 (zlen g) c1) g.natAbs→RN W (.slice s1 (nlen dg) d1) dg→RN W (.slice p2 (zlen n2) c2) n2.natAbs→RN W (.slice s2 (nlen en2) d2) en2→CR 48 #[.agg #[.bool (zneg g),.slice p1 (zlen g) c1,.slice s1 (nlen dg) d1],.agg #[.bool (zneg n2),.slice p2 (zlen n2) c2,.slice s2 (nlen en2) d2]] W (.int .i64 k2))(r1:RN w (.slice p1 (zlen n1) c1) n1.natAbs)(t1:RN w (.slice s1 (nlen en1) d1) en1)(r2:RN w (.slice p2 (zlen n2) c2) n2.natAbs)(t2:RN w (.slice s2 (nlen en2) d2) en2) :
 CF 74 #[.agg #[.bool (zneg n1),.slice p1 (zlen n1) c1,.slice s1 (nlen en1) d1],.agg #[.bool (zneg n2),.slice p2 (zlen n2) c2,.slice s2 (nlen en2) d2]] w g dg:=by
 have C1:=hid h1
 have C2:=hid h2
 have C3:=hid h3
 have C4:=hid h4
 have C5:=hid h5
 have C6:=hid h6
 have R1:=hid r1
 have T1:=hid t1
 have R2:=hid r2
 have T2:=hid t2
 have ka0:(k==0)=false:=by rw[beq_eq_false_iff_ne];exact hk
 have ka1:¬ k=0:=hk
 clear hk
 have q0:decide (k2≤0)=true:=decide_eq_true hk2
 have q1:k2≤0:=hk2
 clear hk2 h1 h2 h3 h4 h5 h6 r1 t1 r2 t2
 go_enter Tryz.func74,Tryz.ntmps74
 go_upto_region 1 with fail
 refine z0f w [(#[.bool (zneg n1),.slice p1 (zlen n1) c1,.slice s1 (nlen en1) d1],55),(#[.bool (zneg n2),.slice p2 (zlen n2) c2,.slice s2 (nlen en2) d2],55),(#[.bool false,.slice none 0 0,.slice none 0 0],55)] rfl ?_
 rintro W0 ⟨k1,k2,k3,hb⟩
 have HB0:=hid (show Below w.heap.size w W0 from hb)
 have R1:=hid (R1.out.below HB0.out)
 have T1:=hid (T1.out.below HB0.out)
 have R2:=hid (R2.out.below HB0.out)
 have T2:=hid (T2.out.below HB0.out)
 have K1:=hid k1
 have K2:=hid k2
 have K3:=hid k3
 clear k1 k2 k3 hb
 have dK10:=K1.out.cell (i:=0) rfl
 have dK11:=K1.out.cell (i:=1) rfl
 have dK12:=K1.out.cell (i:=2) rfl
 go_wp2_with fail
 with_reducible refine(C1.out _ _ _ _ _ R1.out T1.out).mono ?_
 rintro e W1 ⟨p_1,c_1,rfl,r1_0,hb⟩
 clear dK10 dK11 dK12
 have K1:=hid (K1.out.below hb)
 have K2:=hid (K2.out.below hb)
 have K3:=hid (K3.out.below hb)
 have R1:=hid (R1.out.below hb)
 have T1:=hid (T1.out.below hb)
 have R2:=hid (R2.out.below hb)
 have T2:=hid (T2.out.below hb)
 have HB1:=hbt HB0 hb
 have RF:=hid r1_0
 clear hb r1_0
 go_wp2_with fail
 with_reducible refine(C2.out _).mono ?_
 rintro e W2 ⟨p_2,c_2,rfl,r2_0,hb⟩
 have K1:=hid (K1.out.below hb)
 have K2:=hid (K2.out.below hb)
 have K3:=hid (K3.out.below hb)
 have R1:=hid (R1.out.below hb)
 have T1:=hid (T1.out.below hb)
 have R2:=hid (R2.out.below hb)
 have T2:=hid (T2.out.below hb)
 have RF:=hid (RF.out.below hb)
 have HB2:=hbt HB1 hb
 have RO:=hid r2_0
 clear hb r2_0
 go_upto_region 2 with fail
 refine z0f W2 [(#[.bool (zneg f),.slice p_1 (zlen f) c_1,.slice p_2 (nlen on) c_2],55)] rfl ?_
 have L1:=K1.out.lt
 have L2:=K2.out.lt
 have L3:=K3.out.lt
 have L4:=HB2.out.size
 rintro W3 ⟨k4,hb⟩
 have hb:Below W2.heap.size W2 W3:=hb
 have K1:=hid (K1.out.below hb)
 have K2:=hid (K2.out.below hb)
 have K3:=hid (K3.out.below hb)
 have R1:=hid (R1.out.below hb)
 have T1:=hid (T1.out.below hb)
 have R2:=hid (R2.out.below hb)
 have T2:=hid (T2.out.below hb)
 have RF:=hid (RF.out.below hb)
 have RO:=hid (RO.out.below hb)
 have HB3:=hbt HB2 hb
 have K4:=hid k4
 clear k4 hb
 have dK40:=K4.out.cell (i:=0) rfl
 have dK41:=K4.out.cell (i:=1) rfl
 have dK42:=K4.out.cell (i:=2) rfl
 have dK10:=K1.out.cell (i:=0) rfl
 have dK11:=K1.out.cell (i:=1) rfl
 have dK12:=K1.out.cell (i:=2) rfl
 go_wp2_with fail
 with_reducible refine(C3.out _ _ _ _ _ _ _ _ _ RF.out RO.out R1.out T1.out).mono ?_
 rintro e W4 ⟨rfl,hb⟩
 clear dK40 dK41 dK42 dK10 dK11 dK12
 have K1:=hid (K1.out.below hb)
 have K2:=hid (K2.out.below hb)
 have K3:=hid (K3.out.below hb)
 have K4:=hid (K4.out.below hb)
 have R2:=hid (R2.out.below hb)
 have T2:=hid (T2.out.below hb)
 have RF:=hid (RF.out.below hb)
 have RO:=hid (RO.out.below hb)
 have HB4:=hbt HB3 hb
 clear hb
 go_wp2_with fail
 have L5:=K1.out.lt
 have L6:=K2.out.lt
 have L7:=K3.out.lt
 have L8:=K4.out.lt
 have L9:=HB4.out.size
 refine z0d (fun a0 a' V=>∃ pw1_1 cw1_1 sw1_1 dw1_1 pw1_2 cw1_2 sw1_2 dw1_2 gw1_3,a'=⟨putL [(16,.agg #[.bool (zneg f),.slice p_1 (zlen f) c_1,.slice p_2 (nlen on) c_2]),(17,.agg #[.bool (zneg (i1)),.slice pw1_1 (zlen (i1)) cw1_1,.slice sw1_1 (nlen (di)) dw1_1]),(18,.agg #[.bool (zneg (g)),.slice pw1_2 (zlen (g)) cw1_2,.slice sw1_2 (nlen (dg)) dw1_2]),(6,.pointer (some ⟨gw1_3,0,none⟩))] a0.tmps,a0.defers⟩∧Below w.heap.size w V∧SBk V (w.heap.size+1) #[.bool (zneg n2),.slice p2 (zlen n2) c2,.slice s2 (nlen en2) d2] 55∧SBk V (w.heap.size+1+1) #[.bool false,.slice none 0 0,.slice none 0 0] 55∧SBk V (gw1_3) #[.bool (zneg (g)),.slice pw1_2 (zlen (g)) cw1_2,.slice sw1_2 (nlen (dg)) dw1_2] 55∧RN V (.slice p2 (zlen n2) c2) n2.natAbs∧RN V (.slice s2 (nlen en2) d2) en2∧RN V (.slice pw1_2 (zlen (g)) cw1_2) (g).natAbs∧RN V (.slice sw1_2 (nlen (dg)) dw1_2) (dg)∧W4.heap.size≤gw1_3) ?_ ?_
 · refine z0a (by kernel_rfl) 4 1 (fun i=>[16,17,18,6].getD i 0) (RelR [Rel.val (.agg #[.bool (zneg f),.slice p_1 (zlen f) c_1,.slice p_2 (nlen on) c_2]),⟨fun v W=>∃ p c s d,v=.agg #[.bool (zneg (i1)),.slice p (zlen (i1)) c,.slice s (nlen (di)) d]∧RN W (.slice p (zlen (i1)) c) (i1).natAbs∧RN W (.slice s (nlen (di)) d) (di),fun _ _ _ ⟨p,c,s,d,e,h0,h1⟩ hb=>⟨p,c,s,d,e,h0.below hb,h1.below hb⟩⟩,⟨fun v W=>∃ p c s d,v=.agg #[.bool (zneg (g)),.slice p (zlen (g)) c,.slice s (nlen (dg)) d]∧RN W (.slice p (zlen (g)) c) (g).natAbs∧RN W (.slice s (nlen (dg)) d) (dg),fun _ _ _ ⟨p,c,s,d,e,h0,h1⟩ hb=>⟨p,c,s,d,e,h0.below hb,h1.below hb⟩⟩,Rel.ptr W4.heap.size (.cells #[.bool false,.slice none 0 0,.slice none 0 0] 55)]) (fun W=>Below W4.heap.size W4 W) (fun _ _=>True) (by kernel_rfl) (by kernel_rfl) (by kernel_rfl) trivial (Below.refl _ _).drew ?_ ?_
   · intro listed a W i hI hD hrd him
     have HI:=hid hI
     have HD:=hid hD
     have Hr:=hid hrd
     clear hI hrd hD
     have y5:a.tmps[5]? = some (.pointer (some ⟨W2.heap.size,0,none⟩)):=HI.out.rest 5 (by decide)
     have dK40:=(K4.out.below HI.out.world).cell (i:=0) rfl
     have dK41:=(K4.out.below HI.out.world).cell (i:=1) rfl
     have dK42:=(K4.out.below HI.out.world).cell (i:=2) rfl
     have X0:RV _ listed a 0 16 (.agg #[.bool (zneg f),.slice p_1 (zlen f) c_1,.slice p_2 (nlen on) c_2]):=HI.out.rh
     match i,him,Hr with
     | 0,_,Hi =>
       refine z02 rfl fun K' hK=>?_
       go_simp
       exact hK.out _ _ ⟨HI.out.pv Hi.out rfl,trivial⟩
     | 1,_,Hi =>
       refine z02 rfl fun K' hK=>?_
       go_simp
       with_reducible refine(C4.out _).mono ?_
       rintro e W' ⟨pw1_1,cw1_1,sw1_1,dw1_1,rfl,rrw1_1,rrw1_1_1,hb⟩
       exact hK.out _ _ ⟨HI.out.pc Hi.out hb ⟨pw1_1,cw1_1,sw1_1,dw1_1,rfl,rrw1_1,rrw1_1_1⟩,trivial⟩
     | 2,_,Hi =>
       have x0:=X0.g Hi.out (by kernel_rfl)
       obtain⟨v',x1,pw1_1,cw1_1,sw1_1,dw1_1,e,rrw1_1,rrw1_1_1⟩:=HI.out.at (i:=1) Hi.out (by kernel_rfl) (by decide)
       obtain rfl:=e
       have x1:a.tmps[17]? = some (.agg #[.bool (zneg (i1)),.slice pw1_1 (zlen (i1)) cw1_1,.slice sw1_1 (nlen (di)) dw1_1]):=x1
       have RRW1_1:=hid rrw1_1
       clear rrw1_1
       have RRW1_1_1:=hid rrw1_1_1
       clear rrw1_1_1
       refine z02 rfl fun K' hK=>?_
       go_simp
       with_reducible refine(C5.out _ _ _ _ _ _ _ _ _ (RF.out.below HI.out.world) (RO.out.below HI.out.world) RRW1_1.out RRW1_1_1.out).mono ?_
       rintro e W' ⟨pw1_2,cw1_2,sw1_2,dw1_2,rfl,rrw1_2,rrw1_2_1,hb⟩
       exact hK.out _ _ ⟨HI.out.pc Hi.out hb ⟨pw1_2,cw1_2,sw1_2,dw1_2,rfl,rrw1_2,rrw1_2_1⟩,trivial⟩
     | 3,_,Hi =>
       refine z02 rfl fun K' hK=>?_
       go_simp
       exact hK.out _ _ ⟨HI.out.pc Hi.out ((Below.refl W.heap.size W).alloc (Nat.le_refl _) (.cells #[.bool false,.slice none 0 0,.slice none 0 0] 55)) ⟨W.heap.size,rfl,HI.out.world.size,SBk.new _ _ _⟩,trivial⟩
     | n+4,h,_=>exact absurd h (by omega)
   · intro listed a W hI hD hall
     obtain⟨v',x1,pw1_1,cw1_1,sw1_1,dw1_1,e,rrw1_1,rrw1_1_1⟩:=hI.slots 1 (by decide) (hall 1 (by decide))
     obtain rfl:=e
     have RRW1_1:=hid rrw1_1
     clear rrw1_1
     have RRW1_1_1:=hid rrw1_1_1
     clear rrw1_1_1
     obtain⟨v',x2,pw1_2,cw1_2,sw1_2,dw1_2,e,rrw1_2,rrw1_2_1⟩:=hI.slots 2 (by decide) (hall 2 (by decide))
     obtain rfl:=e
     have RRW1_2:=hid rrw1_2
     clear rrw1_2
     have RRW1_2_1:=hid rrw1_2_1
     clear rrw1_2_1
     have x2:a.tmps[18]? = some (.agg #[.bool (zneg (g)),.slice pw1_2 (zlen (g)) cw1_2,.slice sw1_2 (nlen (dg)) dw1_2]):=x2
     obtain⟨v',x3,gw1_3,e,rrw1_3,rrw1_3_1⟩:=hI.slots 3 (by decide) (hall 3 (by decide))
     obtain rfl:=e
     have RRW1_3:=hid rrw1_3
     clear rrw1_3
     have RRW1_3_1:=hid rrw1_3_1
     clear rrw1_3_1
     have x3:a.tmps[6]? = some (.pointer (some ⟨gw1_3,0,none⟩)):=x3
     have HBW:=hid hI.world
     have HI:=hid hI
     have HA:=hid hall
     clear hI hall
     have K2:=hid (K2.out.below HBW.out)
     have K3:=hid (K3.out.below HBW.out)
     have R2:=hid (R2.out.below HBW.out)
     have T2:=hid (T2.out.below HBW.out)
     have HBX:=hid (HB4.out.trans (HBW.out.mono HB4.out.size))
     have RI:=RRW1_1
     have TI:=RRW1_1_1
     have RG:=RRW1_2
     have TG:=RRW1_2_1
     have K5:Hid (SBk W gw1_3 #[.bool false,.slice none 0 0,.slice none 0 0] 55):=RRW1_3_1
     have dK50:=K5.out.cell (i:=0) rfl
     have fK50:=K5.out.frozen (i:=0)
     have dK51:=K5.out.cell (i:=1) rfl
     have fK51:=K5.out.frozen (i:=1)
     have dK52:=K5.out.cell (i:=2) rfl
     have fK52:=K5.out.frozen (i:=2)
     refine z0n (t:=0) ?_
     refine z02 rfl fun K' hK=>?_
     go_simp
     refine hK.out _ _ ?_
     clear hK
     refine z0A ?_
     have s0:∀ {v':Value} {n':Nat},RN W v' n'→RN (storeAll W (gw1_3) 0 [.bool (zneg (g)),.slice pw1_2 (zlen (g)) cw1_2,.slice sw1_2 (nlen (dg)) dw1_2]) v' n':=fun h'=>z0b _ h' K5.out (by simp[z0D]) (by simp[z0q])
     have o0:∀ {g':Nat} {cs':Array Value} {T':TypeId},g'≠gw1_3→SBk W g' cs' T'→SBk (storeAll W (gw1_3) 0 [.bool (zneg (g)),.slice pw1_2 (zlen (g)) cw1_2,.slice sw1_2 (nlen (dg)) dw1_2]) g' cs' T':=fun hg' h'=>z0c hg' _ 0 h'
     exact⟨rfl,pw1_1,cw1_1,sw1_1,dw1_1,pw1_2,cw1_2,sw1_2,dw1_2,gw1_3,(HI.out.finx ⟨HI.out.sx HA.out 0,x1,x2,x3,trivial⟩ rfl),(z06 (l:=[.bool (zneg (g)),.slice pw1_2 (zlen (g)) cw1_2,.slice sw1_2 (nlen (dg)) dw1_2]) (i:=0) (by have:=RRW1_3.out;omega) HBX.out),(o0 (by have:=RRW1_3.out;omega) K2.out),(o0 (by have:=RRW1_3.out;omega) K3.out),(z0s (l:=[.bool (zneg (g)),.slice pw1_2 (zlen (g)) cw1_2,.slice sw1_2 (nlen (dg)) dw1_2]) (i:=0) K5.out),(s0 R2.out),(s0 T2.out),(s0 RG.out),(s0 TG.out),RRW1_3.out⟩
 rintro a' W5 ⟨pw1_1,cw1_1,sw1_1,dw1_1,pw1_2,cw1_2,sw1_2,dw1_2,gw1_3,rfl,z0,z1,z2,z3,z4,z5,z6,z7,z8⟩
 have HB5:=hid z0
 have K2:=hid z1
 have K3:=hid z2
 have K5:=hid z3
 have R2:=hid z4
 have T2:=hid z5
 have RG:=hid z6
 have TG:=hid z7
 have R3xW5:=z8
 clear z0 z1 z2 z3 z4 z5 z6 z7 z8
 simp only[putL,List.setIfInBounds_toArray,List.set_cons_zero,List.set_cons_succ]
 have dK50:=K5.out.cell (i:=0) rfl
 have dK51:=K5.out.cell (i:=1) rfl
 have dK52:=K5.out.cell (i:=2) rfl
 have dK20:=K2.out.cell (i:=0) rfl
 have dK21:=K2.out.cell (i:=1) rfl
 have dK22:=K2.out.cell (i:=2) rfl
 go_wp2_with fail
 with_reducible refine(C6.out _ _ _ _ _ _ _ _ _ RG.out TG.out R2.out T2.out).mono ?_
 rintro e W6 ⟨rfl,hb⟩
 clear dK50 dK51 dK52 dK20 dK21 dK22
 have K3:=hid (K3.out.below hb)
 have K5:=hid (K5.out.below hb)
 have RG:=hid (RG.out.below hb)
 have TG:=hid (TG.out.below hb)
 have HB6:=hbt HB5 hb
 clear hb
 have dK50:=K5.out.cell (i:=0) rfl
 have dK51:=K5.out.cell (i:=1) rfl
 have dK52:=K5.out.cell (i:=2) rfl
 have dK30:=K3.out.cell (i:=0) rfl
 have dK31:=K3.out.cell (i:=1) rfl
 have dK32:=K3.out.cell (i:=2) rfl
 have fK30:=K3.out.frozen (i:=0)
 have fK31:=K3.out.frozen (i:=1)
 have fK32:=K3.out.frozen (i:=2)
 go_wp2
 exact bodyPost_ret (v:=.agg #[.bool (zneg (g)),.slice pw1_2 (zlen (g)) cw1_2,.slice sw1_2 (nlen (dg)) dw1_2]) (by simp[results,Tryz.results74,go_sem,dK30,dK31,dK32]) rfl ⟨_,_,_,_,rfl,(z0b [.bool (zneg (g)),.slice pw1_2 (zlen (g)) cw1_2,.slice sw1_2 (nlen (dg)) dw1_2] RG.out K3.out (by simp[z0D]) (by simp[z0q])),(z0b [.bool (zneg (g)),.slice pw1_2 (zlen (g)) cw1_2,.slice sw1_2 (nlen (dg)) dw1_2] TG.out K3.out (by simp[z0D]) (by simp[z0q])),(z06 (l:=[.bool (zneg (g)),.slice pw1_2 (zlen (g)) cw1_2,.slice sw1_2 (nlen (dg)) dw1_2]) (i:=0) (by omega) HB6.out)⟩
theorem z8b (n1 n2 f k k2 i1 g ja u1 jb u2 vv xx r:Int)(en1 en2 on di dg ds1 du1 ds2 du2 dv dx dr:Nat)(hk:k≠0)(hk2:0<k2)(p1:Option Addr)(c1:Nat)(s1:Option Addr)(d1:Nat)(p2:Option Addr)(c2:Nat)(s2:Option Addr)(d2:Nat)(w:World)(h1:∀ p1 c1 s1 d1 W,RN W (.slice p1 (zlen n1) c1) n1.natAbs→RN W (.slice s1 (nlen en1) d1) en1→CZ 57 #[.agg #[.bool (zneg n1),.slice p1 (zlen n1) c1,.slice s1 (nlen en1) d1]] W f)(h2:∀ W,CN 63 #[.int .u32 1] W on)(h3:∀ p1 c1 s1 d1 p2 c2 s2 d2 W,RN W (.slice p1 (zlen f) c1) f.natAbs→RN W (.slice s1 (nlen on) d1) on→RN W (.slice p2 (zlen n1) c2) n1.natAbs→RN W (.slice s2 (nlen en1) d2) en1→CR 48 #[.agg #[.bool (zneg f),.slice p1 (zlen f) c1,.slice s1 (nlen on) d1],.agg #[.bool (zneg n1),.slice p2 (zlen n1) c2,.slice s2 (nlen en1) d2]] W (.int .i64 k))(h4:∀ W,CF 84 #[.int .i64 1] W i1 di)(h5:∀ p1 c1 s1 d1 p2 c2 s2 d2 W,RN W (.slice p1 (zlen f) c1) f.natAbs→RN W (.slice s1 (nlen on) d1) on→RN W (.slice p2 (zlen i1) c2) i1.natAbs→RN W (.slice s2 (nlen di) d2) di→CF 50 #[.agg #[.bool (zneg f),.slice p1 (zlen f) c1,.slice s1 (nlen on) d1],.agg #[.bool (zneg i1),.slice p2 (zlen i1) c2,.slice s2 (nlen di) d2]] W g dg)(h6:∀ p1 c1 s1 d1 p2 c2 s2 d2 W,RN W (.slice p1 (zlen g) c1) g.natAbs→RN W (.slice s1 (nlen dg) d1) dg→RN W (.slice p2 (zlen n2) c2) n2.natAbs→RN W (.slice s2 (nlen en2) d2) en2→CR 48 #[.agg #[.bool (zneg g),.slice p1 (zlen g) c1,.slice s1 (nlen dg) d1],.agg #[.bool (zneg n2),.slice p2 (zlen n2) c2,.slice s2 (nlen en2) d2]] W (.int .i64 k2))(h7:∀ p1 c1 s1 d1 p2 c2 s2 d2 W,RN W (.slice p1 (zlen n2) c1) n2.natAbs→RN W (.slice s1 (nlen en2) d1) en2→RN W (.slice p2 (zlen f) c2) f.natAbs→RN W (.slice s2 (nlen on) d2) on→CF 51 #[.agg #[.bool (zneg n2),.slice p1 (zlen n2) c1,.slice s1 (nlen en2) d1],.agg #[.bool (zneg f),.slice p2 (zlen f) c2,.slice s2 (nlen on) d2]] W ja ds1)(h8:∀ p1 c1 s1 d1 W,RN W (.slice p1 (zlen ja) c1) ja.natAbs→RN W (.slice s1 (nlen ds1) d1) ds1→CF 102 #[.agg #[.bool (zneg ja),.slice p1 (zlen ja) c1,.slice s1 (nlen ds1) d1]] W u1 du1)(h9:∀ p1 c1 s1 d1 p2 c2 s2 d2 W,RN W (.slice p1 (zlen n1) c1) n1.natAbs→RN W (.slice s1 (nlen en1) d1) en1→RN W (.slice p2 (zlen f) c2) f.natAbs→RN W (.slice s2 (nlen on) d2) on→CF 51 #[.agg #[.bool (zneg n1),.slice p1 (zlen n1) c1,.slice s1 (nlen en1) d1],.agg #[.bool (zneg f),.slice p2 (zlen f) c2,.slice s2 (nlen on) d2]] W jb ds2)(h10:∀ p1 c1 s1 d1 W,RN W (.slice p1 (zlen jb) c1) jb.natAbs→RN W (.slice s1 (nlen ds2) d1) ds2→CF 102 #[.agg #[.bool (zneg jb),.slice p1 (zlen jb) c1,.slice s1 (nlen ds2) d1]] W u2 du2)(h11:∀ p1 c1 s1 d1 p2 c2 s2 d2 W,RN W (.slice p1 (zlen u1) c1) u1.natAbs→RN W (.slice s1 (nlen du1) d1) du1→RN W (.slice p2 (zlen u2) c2) u2.natAbs→RN W (.slice s2 (nlen du2) d2) du2→CF 74 #[.agg #[.bool (zneg u1),.slice p1 (zlen u1) c1,.slice s1 (nlen du1) d1],.agg #[.bool (zneg u2),.slice p2 (zlen u2) c2,.slice s2 (nlen du2) d2]] W vv dv)(h12:∀ p1 c1 s1 d1 W,RN W (.slice p1 (zlen vv) c1) vv.natAbs→RN W (.slice s1 (nlen dv) d1) dv→CF 102 #[.agg #[.bool (zneg vv),.slice p1 (zlen vv) c1,.slice s1 (nlen dv) d1]] W xx dx)(h13:∀ p1 c1 s1 d1 p2 c2 s2 d2 W,RN W (.slice p1 (zlen f) c1) f.natAbs→RN W (.slice s1 (nlen on) d1) on→RN W (.slice p2 (zlen xx) c2) xx.natAbs→RN W (.slice s2 (nlen dx) d2) dx→CF 50 #[.agg #[.bool (zneg f),.slice p1 (zlen f) c1,.slice s1 (nlen on) d1],.agg #[.bool (zneg xx),.slice p2 (zlen xx) c2,.slice s2 (nlen dx) d2]] W r dr)(r1:RN w (.slice p1 (zlen n1) c1) n1.natAbs)(t1:RN w (.slice s1 (nlen en1) d1) en1)(r2:RN w (.slice p2 (zlen n2) c2) n2.natAbs)(t2:RN w (.slice s2 (nlen en2) d2) en2) :
 CF 74 #[.agg #[.bool (zneg n1),.slice p1 (zlen n1) c1,.slice s1 (nlen en1) d1],.agg #[.bool (zneg n2),.slice p2 (zlen n2) c2,.slice s2 (nlen en2) d2]] w r dr:=by
 have C1:=hid h1
 have C2:=hid h2
 have C3:=hid h3
 have C4:=hid h4
 have C5:=hid h5
 have C6:=hid h6
 have C7:=hid h7
 have C8:=hid h8
 have C9:=hid h9
 have C10:=hid h10
 have C11:=hid h11
 have C12:=hid h12
 have C13:=hid h13
 have R1:=hid r1
 have T1:=hid t1
 have R2:=hid r2
 have T2:=hid t2
 have ka0:(k==0)=false:=by rw[beq_eq_false_iff_ne];exact hk
 have ka1:¬ k=0:=hk
 clear hk
 have q0:decide (k2≤0)=false:=decide_eq_false (by omega)
 have q1:¬ k2≤0:=by omega
 clear hk2 h1 h2 h3 h4 h5 h6 h7 h8 h9 h10 h11 h12 h13 r1 t1 r2 t2
 go_enter Tryz.func74,Tryz.ntmps74
 go_upto_region 1 with fail
 refine z0f w [(#[.bool (zneg n1),.slice p1 (zlen n1) c1,.slice s1 (nlen en1) d1],55),(#[.bool (zneg n2),.slice p2 (zlen n2) c2,.slice s2 (nlen en2) d2],55),(#[.bool false,.slice none 0 0,.slice none 0 0],55)] rfl ?_
 rintro W0 ⟨k1,k2,k3,hb⟩
 have HB0:=hid (show Below w.heap.size w W0 from hb)
 have R1:=hid (R1.out.below HB0.out)
 have T1:=hid (T1.out.below HB0.out)
 have R2:=hid (R2.out.below HB0.out)
 have T2:=hid (T2.out.below HB0.out)
 have K1:=hid k1
 have K2:=hid k2
 have K3:=hid k3
 clear k1 k2 k3 hb
 have dK10:=K1.out.cell (i:=0) rfl
 have dK11:=K1.out.cell (i:=1) rfl
 have dK12:=K1.out.cell (i:=2) rfl
 go_wp2_with fail
 with_reducible refine(C1.out _ _ _ _ _ R1.out T1.out).mono ?_
 rintro e W1 ⟨p_1,c_1,rfl,r1_0,hb⟩
 clear dK10 dK11 dK12
 have K1:=hid (K1.out.below hb)
 have K2:=hid (K2.out.below hb)
 have K3:=hid (K3.out.below hb)
 have R1:=hid (R1.out.below hb)
 have T1:=hid (T1.out.below hb)
 have R2:=hid (R2.out.below hb)
 have T2:=hid (T2.out.below hb)
 have HB1:=hbt HB0 hb
 have RF:=hid r1_0
 clear hb r1_0
 go_wp2_with fail
 with_reducible refine(C2.out _).mono ?_
 rintro e W2 ⟨p_2,c_2,rfl,r2_0,hb⟩
 have K1:=hid (K1.out.below hb)
 have K2:=hid (K2.out.below hb)
 have K3:=hid (K3.out.below hb)
 have R1:=hid (R1.out.below hb)
 have T1:=hid (T1.out.below hb)
 have R2:=hid (R2.out.below hb)
 have T2:=hid (T2.out.below hb)
 have RF:=hid (RF.out.below hb)
 have HB2:=hbt HB1 hb
 have RO:=hid r2_0
 clear hb r2_0
 go_upto_region 2 with fail
 refine z0f W2 [(#[.bool (zneg f),.slice p_1 (zlen f) c_1,.slice p_2 (nlen on) c_2],55)] rfl ?_
 have L1:=K1.out.lt
 have L2:=K2.out.lt
 have L3:=K3.out.lt
 have L4:=HB2.out.size
 rintro W3 ⟨k4,hb⟩
 have hb:Below W2.heap.size W2 W3:=hb
 have K1:=hid (K1.out.below hb)
 have K2:=hid (K2.out.below hb)
 have K3:=hid (K3.out.below hb)
 have R1:=hid (R1.out.below hb)
 have T1:=hid (T1.out.below hb)
 have R2:=hid (R2.out.below hb)
 have T2:=hid (T2.out.below hb)
 have RF:=hid (RF.out.below hb)
 have RO:=hid (RO.out.below hb)
 have HB3:=hbt HB2 hb
 have K4:=hid k4
 clear k4 hb
 have dK40:=K4.out.cell (i:=0) rfl
 have dK41:=K4.out.cell (i:=1) rfl
 have dK42:=K4.out.cell (i:=2) rfl
 have dK10:=K1.out.cell (i:=0) rfl
 have dK11:=K1.out.cell (i:=1) rfl
 have dK12:=K1.out.cell (i:=2) rfl
 go_wp2_with fail
 with_reducible refine(C3.out _ _ _ _ _ _ _ _ _ RF.out RO.out R1.out T1.out).mono ?_
 rintro e W4 ⟨rfl,hb⟩
 clear dK40 dK41 dK42 dK10 dK11 dK12
 have K1:=hid (K1.out.below hb)
 have K2:=hid (K2.out.below hb)
 have K3:=hid (K3.out.below hb)
 have K4:=hid (K4.out.below hb)
 have R1:=hid (R1.out.below hb)
 have T1:=hid (T1.out.below hb)
 have R2:=hid (R2.out.below hb)
 have T2:=hid (T2.out.below hb)
 have RF:=hid (RF.out.below hb)
 have RO:=hid (RO.out.below hb)
 have HB4:=hbt HB3 hb
 clear hb
 go_wp2_with fail
 have L5:=K1.out.lt
 have L6:=K2.out.lt
 have L7:=K3.out.lt
 have L8:=K4.out.lt
 have L9:=HB4.out.size
 refine z0d (fun a0 a' V=>∃ pw1_1 cw1_1 sw1_1 dw1_1 pw1_2 cw1_2 sw1_2 dw1_2 gw1_3,a'=⟨putL [(16,.agg #[.bool (zneg f),.slice p_1 (zlen f) c_1,.slice p_2 (nlen on) c_2]),(17,.agg #[.bool (zneg (i1)),.slice pw1_1 (zlen (i1)) cw1_1,.slice sw1_1 (nlen (di)) dw1_1]),(18,.agg #[.bool (zneg (g)),.slice pw1_2 (zlen (g)) cw1_2,.slice sw1_2 (nlen (dg)) dw1_2]),(6,.pointer (some ⟨gw1_3,0,none⟩))] a0.tmps,a0.defers⟩∧Below w.heap.size w V∧SBk V (w.heap.size) #[.bool (zneg n1),.slice p1 (zlen n1) c1,.slice s1 (nlen en1) d1] 55∧SBk V (w.heap.size+1) #[.bool (zneg n2),.slice p2 (zlen n2) c2,.slice s2 (nlen en2) d2] 55∧SBk V (w.heap.size+1+1) #[.bool false,.slice none 0 0,.slice none 0 0] 55∧SBk V (W2.heap.size) #[.bool (zneg f),.slice p_1 (zlen f) c_1,.slice p_2 (nlen on) c_2] 55∧SBk V (gw1_3) #[.bool (zneg (g)),.slice pw1_2 (zlen (g)) cw1_2,.slice sw1_2 (nlen (dg)) dw1_2] 55∧RN V (.slice p1 (zlen n1) c1) n1.natAbs∧RN V (.slice s1 (nlen en1) d1) en1∧RN V (.slice p2 (zlen n2) c2) n2.natAbs∧RN V (.slice s2 (nlen en2) d2) en2∧RN V (.slice p_1 (zlen f) c_1) f.natAbs∧RN V (.slice p_2 (nlen on) c_2) on∧RN V (.slice pw1_2 (zlen (g)) cw1_2) (g).natAbs∧RN V (.slice sw1_2 (nlen (dg)) dw1_2) (dg)∧W4.heap.size≤gw1_3) ?_ ?_
 · refine z0a (by kernel_rfl) 4 1 (fun i=>[16,17,18,6].getD i 0) (RelR [Rel.val (.agg #[.bool (zneg f),.slice p_1 (zlen f) c_1,.slice p_2 (nlen on) c_2]),⟨fun v W=>∃ p c s d,v=.agg #[.bool (zneg (i1)),.slice p (zlen (i1)) c,.slice s (nlen (di)) d]∧RN W (.slice p (zlen (i1)) c) (i1).natAbs∧RN W (.slice s (nlen (di)) d) (di),fun _ _ _ ⟨p,c,s,d,e,h0,h1⟩ hb=>⟨p,c,s,d,e,h0.below hb,h1.below hb⟩⟩,⟨fun v W=>∃ p c s d,v=.agg #[.bool (zneg (g)),.slice p (zlen (g)) c,.slice s (nlen (dg)) d]∧RN W (.slice p (zlen (g)) c) (g).natAbs∧RN W (.slice s (nlen (dg)) d) (dg),fun _ _ _ ⟨p,c,s,d,e,h0,h1⟩ hb=>⟨p,c,s,d,e,h0.below hb,h1.below hb⟩⟩,Rel.ptr W4.heap.size (.cells #[.bool false,.slice none 0 0,.slice none 0 0] 55)]) (fun W=>Below W4.heap.size W4 W) (fun _ _=>True) (by kernel_rfl) (by kernel_rfl) (by kernel_rfl) trivial (Below.refl _ _).drew ?_ ?_
   · intro listed a W i hI hD hrd him
     have HI:=hid hI
     have HD:=hid hD
     have Hr:=hid hrd
     clear hI hrd hD
     have y5:a.tmps[5]? = some (.pointer (some ⟨W2.heap.size,0,none⟩)):=HI.out.rest 5 (by decide)
     have dK40:=(K4.out.below HI.out.world).cell (i:=0) rfl
     have dK41:=(K4.out.below HI.out.world).cell (i:=1) rfl
     have dK42:=(K4.out.below HI.out.world).cell (i:=2) rfl
     have X0:RV _ listed a 0 16 (.agg #[.bool (zneg f),.slice p_1 (zlen f) c_1,.slice p_2 (nlen on) c_2]):=HI.out.rh
     match i,him,Hr with
     | 0,_,Hi =>
       refine z02 rfl fun K' hK=>?_
       go_simp
       exact hK.out _ _ ⟨HI.out.pv Hi.out rfl,trivial⟩
     | 1,_,Hi =>
       refine z02 rfl fun K' hK=>?_
       go_simp
       with_reducible refine(C4.out _).mono ?_
       rintro e W' ⟨pw1_1,cw1_1,sw1_1,dw1_1,rfl,rrw1_1,rrw1_1_1,hb⟩
       exact hK.out _ _ ⟨HI.out.pc Hi.out hb ⟨pw1_1,cw1_1,sw1_1,dw1_1,rfl,rrw1_1,rrw1_1_1⟩,trivial⟩
     | 2,_,Hi =>
       have x0:=X0.g Hi.out (by kernel_rfl)
       obtain⟨v',x1,pw1_1,cw1_1,sw1_1,dw1_1,e,rrw1_1,rrw1_1_1⟩:=HI.out.at (i:=1) Hi.out (by kernel_rfl) (by decide)
       obtain rfl:=e
       have x1:a.tmps[17]? = some (.agg #[.bool (zneg (i1)),.slice pw1_1 (zlen (i1)) cw1_1,.slice sw1_1 (nlen (di)) dw1_1]):=x1
       have RRW1_1:=hid rrw1_1
       clear rrw1_1
       have RRW1_1_1:=hid rrw1_1_1
       clear rrw1_1_1
       refine z02 rfl fun K' hK=>?_
       go_simp
       with_reducible refine(C5.out _ _ _ _ _ _ _ _ _ (RF.out.below HI.out.world) (RO.out.below HI.out.world) RRW1_1.out RRW1_1_1.out).mono ?_
       rintro e W' ⟨pw1_2,cw1_2,sw1_2,dw1_2,rfl,rrw1_2,rrw1_2_1,hb⟩
       exact hK.out _ _ ⟨HI.out.pc Hi.out hb ⟨pw1_2,cw1_2,sw1_2,dw1_2,rfl,rrw1_2,rrw1_2_1⟩,trivial⟩
     | 3,_,Hi =>
       refine z02 rfl fun K' hK=>?_
       go_simp
       exact hK.out _ _ ⟨HI.out.pc Hi.out ((Below.refl W.heap.size W).alloc (Nat.le_refl _) (.cells #[.bool false,.slice none 0 0,.slice none 0 0] 55)) ⟨W.heap.size,rfl,HI.out.world.size,SBk.new _ _ _⟩,trivial⟩
     | n+4,h,_=>exact absurd h (by omega)
   · intro listed a W hI hD hall
     obtain⟨v',x1,pw1_1,cw1_1,sw1_1,dw1_1,e,rrw1_1,rrw1_1_1⟩:=hI.slots 1 (by decide) (hall 1 (by decide))
     obtain rfl:=e
     have RRW1_1:=hid rrw1_1
     clear rrw1_1
     have RRW1_1_1:=hid rrw1_1_1
     clear rrw1_1_1
     obtain⟨v',x2,pw1_2,cw1_2,sw1_2,dw1_2,e,rrw1_2,rrw1_2_1⟩:=hI.slots 2 (by decide) (hall 2 (by decide))
     obtain rfl:=e
     have RRW1_2:=hid rrw1_2
     clear rrw1_2
     have RRW1_2_1:=hid rrw1_2_1
     clear rrw1_2_1
     have x2:a.tmps[18]? = some (.agg #[.bool (zneg (g)),.slice pw1_2 (zlen (g)) cw1_2,.slice sw1_2 (nlen (dg)) dw1_2]):=x2
     obtain⟨v',x3,gw1_3,e,rrw1_3,rrw1_3_1⟩:=hI.slots 3 (by decide) (hall 3 (by decide))
     obtain rfl:=e
     have RRW1_3:=hid rrw1_3
     clear rrw1_3
     have RRW1_3_1:=hid rrw1_3_1
     clear rrw1_3_1
     have x3:a.tmps[6]? = some (.pointer (some ⟨gw1_3,0,none⟩)):=x3
     have HBW:=hid hI.world
     have HI:=hid hI
     have HA:=hid hall
     clear hI hall
     have K1:=hid (K1.out.below HBW.out)
     have K2:=hid (K2.out.below HBW.out)
     have K3:=hid (K3.out.below HBW.out)
     have K4:=hid (K4.out.below HBW.out)
     have R1:=hid (R1.out.below HBW.out)
     have T1:=hid (T1.out.below HBW.out)
     have R2:=hid (R2.out.below HBW.out)
     have T2:=hid (T2.out.below HBW.out)
     have RF:=hid (RF.out.below HBW.out)
     have RO:=hid (RO.out.below HBW.out)
     have HBX:=hid (HB4.out.trans (HBW.out.mono HB4.out.size))
     have RI:=RRW1_1
     have TI:=RRW1_1_1
     have RG:=RRW1_2
     have TG:=RRW1_2_1
     have K5:Hid (SBk W gw1_3 #[.bool false,.slice none 0 0,.slice none 0 0] 55):=RRW1_3_1
     have dK50:=K5.out.cell (i:=0) rfl
     have fK50:=K5.out.frozen (i:=0)
     have dK51:=K5.out.cell (i:=1) rfl
     have fK51:=K5.out.frozen (i:=1)
     have dK52:=K5.out.cell (i:=2) rfl
     have fK52:=K5.out.frozen (i:=2)
     refine z0n (t:=0) ?_
     refine z02 rfl fun K' hK=>?_
     go_simp
     refine hK.out _ _ ?_
     clear hK
     refine z0A ?_
     have s0:∀ {v':Value} {n':Nat},RN W v' n'→RN (storeAll W (gw1_3) 0 [.bool (zneg (g)),.slice pw1_2 (zlen (g)) cw1_2,.slice sw1_2 (nlen (dg)) dw1_2]) v' n':=fun h'=>z0b _ h' K5.out (by simp[z0D]) (by simp[z0q])
     have o0:∀ {g':Nat} {cs':Array Value} {T':TypeId},g'≠gw1_3→SBk W g' cs' T'→SBk (storeAll W (gw1_3) 0 [.bool (zneg (g)),.slice pw1_2 (zlen (g)) cw1_2,.slice sw1_2 (nlen (dg)) dw1_2]) g' cs' T':=fun hg' h'=>z0c hg' _ 0 h'
     exact⟨rfl,pw1_1,cw1_1,sw1_1,dw1_1,pw1_2,cw1_2,sw1_2,dw1_2,gw1_3,(HI.out.finx ⟨HI.out.sx HA.out 0,x1,x2,x3,trivial⟩ rfl),(z06 (l:=[.bool (zneg (g)),.slice pw1_2 (zlen (g)) cw1_2,.slice sw1_2 (nlen (dg)) dw1_2]) (i:=0) (by have:=RRW1_3.out;omega) HBX.out),(o0 (by have:=RRW1_3.out;omega) K1.out),(o0 (by have:=RRW1_3.out;omega) K2.out),(o0 (by have:=RRW1_3.out;omega) K3.out),(o0 (by have:=RRW1_3.out;omega) K4.out),(z0s (l:=[.bool (zneg (g)),.slice pw1_2 (zlen (g)) cw1_2,.slice sw1_2 (nlen (dg)) dw1_2]) (i:=0) K5.out),(s0 R1.out),(s0 T1.out),(s0 R2.out),(s0 T2.out),(s0 RF.out),(s0 RO.out),(s0 RG.out),(s0 TG.out),RRW1_3.out⟩
 rintro a' W5 ⟨pw1_1,cw1_1,sw1_1,dw1_1,pw1_2,cw1_2,sw1_2,dw1_2,gw1_3,rfl,z0,z1,z2,z3,z4,z5,z6,z7,z8,z9,z10,z11,z12,z13,z14⟩
 have HB5:=hid z0
 have K1:=hid z1
 have K2:=hid z2
 have K3:=hid z3
 have K4:=hid z4
 have K5:=hid z5
 have R1:=hid z6
 have T1:=hid z7
 have R2:=hid z8
 have T2:=hid z9
 have RF:=hid z10
 have RO:=hid z11
 have RG:=hid z12
 have TG:=hid z13
 have R3xW5:=z14
 clear z0 z1 z2 z3 z4 z5 z6 z7 z8 z9 z10 z11 z12 z13 z14
 simp only[putL,List.setIfInBounds_toArray,List.set_cons_zero,List.set_cons_succ]
 have dK50:=K5.out.cell (i:=0) rfl
 have dK51:=K5.out.cell (i:=1) rfl
 have dK52:=K5.out.cell (i:=2) rfl
 have dK20:=K2.out.cell (i:=0) rfl
 have dK21:=K2.out.cell (i:=1) rfl
 have dK22:=K2.out.cell (i:=2) rfl
 go_wp2_with fail
 with_reducible refine(C6.out _ _ _ _ _ _ _ _ _ RG.out TG.out R2.out T2.out).mono ?_
 rintro e W6 ⟨rfl,hb⟩
 clear dK50 dK51 dK52 dK20 dK21 dK22
 have K1:=hid (K1.out.below hb)
 have K2:=hid (K2.out.below hb)
 have K3:=hid (K3.out.below hb)
 have K4:=hid (K4.out.below hb)
 have R1:=hid (R1.out.below hb)
 have T1:=hid (T1.out.below hb)
 have R2:=hid (R2.out.below hb)
 have T2:=hid (T2.out.below hb)
 have RF:=hid (RF.out.below hb)
 have RO:=hid (RO.out.below hb)
 have HB6:=hbt HB5 hb
 clear hb
 go_wp2_with fail
 refine z0d (fun a0 a' V=>∃ pw2_3 cw2_3 sw2_3 dw2_3 pw2_4 cw2_4 sw2_4 dw2_4 pw2_7 cw2_7 sw2_7 dw2_7 pw2_8 cw2_8 sw2_8 dw2_8 pw2_9 cw2_9 sw2_9 dw2_9 pw2_10 cw2_10 sw2_10 dw2_10 pw2_11 cw2_11 sw2_11 dw2_11,a'=⟨putL [(24,.agg #[.bool (zneg f),.slice p_1 (zlen f) c_1,.slice p_2 (nlen on) c_2]),(25,.agg #[.bool (zneg n2),.slice p2 (zlen n2) c2,.slice s2 (nlen en2) d2]),(26,.agg #[.bool (zneg f),.slice p_1 (zlen f) c_1,.slice p_2 (nlen on) c_2]),(27,.agg #[.bool (zneg (ja)),.slice pw2_3 (zlen (ja)) cw2_3,.slice sw2_3 (nlen (ds1)) dw2_3]),(28,.agg #[.bool (zneg (u1)),.slice pw2_4 (zlen (u1)) cw2_4,.slice sw2_4 (nlen (du1)) dw2_4]),(29,.agg #[.bool (zneg n1),.slice p1 (zlen n1) c1,.slice s1 (nlen en1) d1]),(30,.agg #[.bool (zneg f),.slice p_1 (zlen f) c_1,.slice p_2 (nlen on) c_2]),(31,.agg #[.bool (zneg (jb)),.slice pw2_7 (zlen (jb)) cw2_7,.slice sw2_7 (nlen (ds2)) dw2_7]),(32,.agg #[.bool (zneg (u2)),.slice pw2_8 (zlen (u2)) cw2_8,.slice sw2_8 (nlen (du2)) dw2_8]),(33,.agg #[.bool (zneg (vv)),.slice pw2_9 (zlen (vv)) cw2_9,.slice sw2_9 (nlen (dv)) dw2_9]),(34,.agg #[.bool (zneg (xx)),.slice pw2_10 (zlen (xx)) cw2_10,.slice sw2_10 (nlen (dx)) dw2_10]),(35,.agg #[.bool (zneg (r)),.slice pw2_11 (zlen (r)) cw2_11,.slice sw2_11 (nlen (dr)) dw2_11])] a0.tmps,a0.defers⟩∧Below w.heap.size w V∧SBk V (w.heap.size+1+1) #[.bool (zneg (r)),.slice pw2_11 (zlen (r)) cw2_11,.slice sw2_11 (nlen (dr)) dw2_11] 55∧RN V (.slice pw2_11 (zlen (r)) cw2_11) (r).natAbs∧RN V (.slice sw2_11 (nlen (dr)) dw2_11) (dr)) ?_ ?_
 · refine z0a (by kernel_rfl) 12 1 (fun i=>[24,25,26,27,28,29,30,31,32,33,34,35].getD i 0) (RelR [Rel.val (.agg #[.bool (zneg f),.slice p_1 (zlen f) c_1,.slice p_2 (nlen on) c_2]),Rel.val (.agg #[.bool (zneg n2),.slice p2 (zlen n2) c2,.slice s2 (nlen en2) d2]),Rel.val (.agg #[.bool (zneg f),.slice p_1 (zlen f) c_1,.slice p_2 (nlen on) c_2]),⟨fun v W=>∃ p c s d,v=.agg #[.bool (zneg (ja)),.slice p (zlen (ja)) c,.slice s (nlen (ds1)) d]∧RN W (.slice p (zlen (ja)) c) (ja).natAbs∧RN W (.slice s (nlen (ds1)) d) (ds1),fun _ _ _ ⟨p,c,s,d,e,h0,h1⟩ hb=>⟨p,c,s,d,e,h0.below hb,h1.below hb⟩⟩,⟨fun v W=>∃ p c s d,v=.agg #[.bool (zneg (u1)),.slice p (zlen (u1)) c,.slice s (nlen (du1)) d]∧RN W (.slice p (zlen (u1)) c) (u1).natAbs∧RN W (.slice s (nlen (du1)) d) (du1),fun _ _ _ ⟨p,c,s,d,e,h0,h1⟩ hb=>⟨p,c,s,d,e,h0.below hb,h1.below hb⟩⟩,Rel.val (.agg #[.bool (zneg n1),.slice p1 (zlen n1) c1,.slice s1 (nlen en1) d1]),Rel.val (.agg #[.bool (zneg f),.slice p_1 (zlen f) c_1,.slice p_2 (nlen on) c_2]),⟨fun v W=>∃ p c s d,v=.agg #[.bool (zneg (jb)),.slice p (zlen (jb)) c,.slice s (nlen (ds2)) d]∧RN W (.slice p (zlen (jb)) c) (jb).natAbs∧RN W (.slice s (nlen (ds2)) d) (ds2),fun _ _ _ ⟨p,c,s,d,e,h0,h1⟩ hb=>⟨p,c,s,d,e,h0.below hb,h1.below hb⟩⟩,⟨fun v W=>∃ p c s d,v=.agg #[.bool (zneg (u2)),.slice p (zlen (u2)) c,.slice s (nlen (du2)) d]∧RN W (.slice p (zlen (u2)) c) (u2).natAbs∧RN W (.slice s (nlen (du2)) d) (du2),fun _ _ _ ⟨p,c,s,d,e,h0,h1⟩ hb=>⟨p,c,s,d,e,h0.below hb,h1.below hb⟩⟩,⟨fun v W=>∃ p c s d,v=.agg #[.bool (zneg (vv)),.slice p (zlen (vv)) c,.slice s (nlen (dv)) d]∧RN W (.slice p (zlen (vv)) c) (vv).natAbs∧RN W (.slice s (nlen (dv)) d) (dv),fun _ _ _ ⟨p,c,s,d,e,h0,h1⟩ hb=>⟨p,c,s,d,e,h0.below hb,h1.below hb⟩⟩,⟨fun v W=>∃ p c s d,v=.agg #[.bool (zneg (xx)),.slice p (zlen (xx)) c,.slice s (nlen (dx)) d]∧RN W (.slice p (zlen (xx)) c) (xx).natAbs∧RN W (.slice s (nlen (dx)) d) (dx),fun _ _ _ ⟨p,c,s,d,e,h0,h1⟩ hb=>⟨p,c,s,d,e,h0.below hb,h1.below hb⟩⟩,⟨fun v W=>∃ p c s d,v=.agg #[.bool (zneg (r)),.slice p (zlen (r)) c,.slice s (nlen (dr)) d]∧RN W (.slice p (zlen (r)) c) (r).natAbs∧RN W (.slice s (nlen (dr)) d) (dr),fun _ _ _ ⟨p,c,s,d,e,h0,h1⟩ hb=>⟨p,c,s,d,e,h0.below hb,h1.below hb⟩⟩]) (fun W=>Below W6.heap.size W6 W) (fun _ _=>True) (by kernel_rfl) (by kernel_rfl) (by kernel_rfl) trivial (Below.refl _ _).drew ?_ ?_
   · intro listed a W i hI hD hrd him
     have HI:=hid hI
     have HD:=hid hD
     have Hr:=hid hrd
     clear hI hrd hD
     have y5:a.tmps[5]? = some (.pointer (some ⟨W2.heap.size,0,none⟩)):=HI.out.rest 5 (by decide)
     have y3:a.tmps[3]? = some (.pointer (some ⟨w.heap.size+1,0,none⟩)):=HI.out.rest 3 (by decide)
     have y2:a.tmps[2]? = some (.pointer (some ⟨w.heap.size,0,none⟩)):=HI.out.rest 2 (by decide)
     have dK40:=(K4.out.below HI.out.world).cell (i:=0) rfl
     have dK41:=(K4.out.below HI.out.world).cell (i:=1) rfl
     have dK42:=(K4.out.below HI.out.world).cell (i:=2) rfl
     have dK20:=(K2.out.below HI.out.world).cell (i:=0) rfl
     have dK21:=(K2.out.below HI.out.world).cell (i:=1) rfl
     have dK22:=(K2.out.below HI.out.world).cell (i:=2) rfl
     have dK10:=(K1.out.below HI.out.world).cell (i:=0) rfl
     have dK11:=(K1.out.below HI.out.world).cell (i:=1) rfl
     have dK12:=(K1.out.below HI.out.world).cell (i:=2) rfl
     have X1:RV _ listed a 1 25 (.agg #[.bool (zneg n2),.slice p2 (zlen n2) c2,.slice s2 (nlen en2) d2]):=HI.out.rh
     have X2:RV _ listed a 2 26 (.agg #[.bool (zneg f),.slice p_1 (zlen f) c_1,.slice p_2 (nlen on) c_2]):=HI.out.rh
     have X5:RV _ listed a 5 29 (.agg #[.bool (zneg n1),.slice p1 (zlen n1) c1,.slice s1 (nlen en1) d1]):=HI.out.rh
     have X6:RV _ listed a 6 30 (.agg #[.bool (zneg f),.slice p_1 (zlen f) c_1,.slice p_2 (nlen on) c_2]):=HI.out.rh
     have X0:RV _ listed a 0 24 (.agg #[.bool (zneg f),.slice p_1 (zlen f) c_1,.slice p_2 (nlen on) c_2]):=HI.out.rh
     match i,him,Hr with
     | 0,_,Hi =>
       refine z02 rfl fun K' hK=>?_
       go_simp
       exact hK.out _ _ ⟨HI.out.pv Hi.out rfl,trivial⟩
     | 1,_,Hi =>
       refine z02 rfl fun K' hK=>?_
       go_simp
       exact hK.out _ _ ⟨HI.out.pv Hi.out rfl,trivial⟩
     | 2,_,Hi =>
       refine z02 rfl fun K' hK=>?_
       go_simp
       exact hK.out _ _ ⟨HI.out.pv Hi.out rfl,trivial⟩
     | 3,_,Hi =>
       have x1:=X1.g Hi.out (by kernel_rfl)
       have x2:=X2.g Hi.out (by kernel_rfl)
       refine z02 rfl fun K' hK=>?_
       go_simp
       with_reducible refine(C7.out _ _ _ _ _ _ _ _ _ (R2.out.below HI.out.world) (T2.out.below HI.out.world) (RF.out.below HI.out.world) (RO.out.below HI.out.world)).mono ?_
       rintro e W' ⟨pw2_3,cw2_3,sw2_3,dw2_3,rfl,rrw2_3,rrw2_3_1,hb⟩
       exact hK.out _ _ ⟨HI.out.pc Hi.out hb ⟨pw2_3,cw2_3,sw2_3,dw2_3,rfl,rrw2_3,rrw2_3_1⟩,trivial⟩
     | 4,_,Hi =>
       obtain⟨v',x3,pw2_3,cw2_3,sw2_3,dw2_3,e,rrw2_3,rrw2_3_1⟩:=HI.out.at (i:=3) Hi.out (by kernel_rfl) (by decide)
       obtain rfl:=e
       have x3:a.tmps[27]? = some (.agg #[.bool (zneg (ja)),.slice pw2_3 (zlen (ja)) cw2_3,.slice sw2_3 (nlen (ds1)) dw2_3]):=x3
       have RRW2_3:=hid rrw2_3
       clear rrw2_3
       have RRW2_3_1:=hid rrw2_3_1
       clear rrw2_3_1
       refine z02 rfl fun K' hK=>?_
       go_simp
       with_reducible refine(C8.out _ _ _ _ _ RRW2_3.out RRW2_3_1.out).mono ?_
       rintro e W' ⟨pw2_4,cw2_4,sw2_4,dw2_4,rfl,rrw2_4,rrw2_4_1,hb⟩
       exact hK.out _ _ ⟨HI.out.pc Hi.out hb ⟨pw2_4,cw2_4,sw2_4,dw2_4,rfl,rrw2_4,rrw2_4_1⟩,trivial⟩
     | 5,_,Hi =>
       refine z02 rfl fun K' hK=>?_
       go_simp
       exact hK.out _ _ ⟨HI.out.pv Hi.out rfl,trivial⟩
     | 6,_,Hi =>
       refine z02 rfl fun K' hK=>?_
       go_simp
       exact hK.out _ _ ⟨HI.out.pv Hi.out rfl,trivial⟩
     | 7,_,Hi =>
       have x5:=X5.g Hi.out (by kernel_rfl)
       have x6:=X6.g Hi.out (by kernel_rfl)
       refine z02 rfl fun K' hK=>?_
       go_simp
       with_reducible refine(C9.out _ _ _ _ _ _ _ _ _ (R1.out.below HI.out.world) (T1.out.below HI.out.world) (RF.out.below HI.out.world) (RO.out.below HI.out.world)).mono ?_
       rintro e W' ⟨pw2_7,cw2_7,sw2_7,dw2_7,rfl,rrw2_7,rrw2_7_1,hb⟩
       exact hK.out _ _ ⟨HI.out.pc Hi.out hb ⟨pw2_7,cw2_7,sw2_7,dw2_7,rfl,rrw2_7,rrw2_7_1⟩,trivial⟩
     | 8,_,Hi =>
       obtain⟨v',x7,pw2_7,cw2_7,sw2_7,dw2_7,e,rrw2_7,rrw2_7_1⟩:=HI.out.at (i:=7) Hi.out (by kernel_rfl) (by decide)
       obtain rfl:=e
       have x7:a.tmps[31]? = some (.agg #[.bool (zneg (jb)),.slice pw2_7 (zlen (jb)) cw2_7,.slice sw2_7 (nlen (ds2)) dw2_7]):=x7
       have RRW2_7:=hid rrw2_7
       clear rrw2_7
       have RRW2_7_1:=hid rrw2_7_1
       clear rrw2_7_1
       refine z02 rfl fun K' hK=>?_
       go_simp
       with_reducible refine(C10.out _ _ _ _ _ RRW2_7.out RRW2_7_1.out).mono ?_
       rintro e W' ⟨pw2_8,cw2_8,sw2_8,dw2_8,rfl,rrw2_8,rrw2_8_1,hb⟩
       exact hK.out _ _ ⟨HI.out.pc Hi.out hb ⟨pw2_8,cw2_8,sw2_8,dw2_8,rfl,rrw2_8,rrw2_8_1⟩,trivial⟩
     | 9,_,Hi =>
       obtain⟨v',x4,pw2_4,cw2_4,sw2_4,dw2_4,e,rrw2_4,rrw2_4_1⟩:=HI.out.at (i:=4) Hi.out (by kernel_rfl) (by decide)
       obtain rfl:=e
       have x4:a.tmps[28]? = some (.agg #[.bool (zneg (u1)),.slice pw2_4 (zlen (u1)) cw2_4,.slice sw2_4 (nlen (du1)) dw2_4]):=x4
       have RRW2_4:=hid rrw2_4
       clear rrw2_4
       have RRW2_4_1:=hid rrw2_4_1
       clear rrw2_4_1
       obtain⟨v',x8,pw2_8,cw2_8,sw2_8,dw2_8,e,rrw2_8,rrw2_8_1⟩:=HI.out.at (i:=8) Hi.out (by kernel_rfl) (by decide)
       obtain rfl:=e
       have x8:a.tmps[32]? = some (.agg #[.bool (zneg (u2)),.slice pw2_8 (zlen (u2)) cw2_8,.slice sw2_8 (nlen (du2)) dw2_8]):=x8
       have RRW2_8:=hid rrw2_8
       clear rrw2_8
       have RRW2_8_1:=hid rrw2_8_1
       clear rrw2_8_1
       refine z02 rfl fun K' hK=>?_
       go_simp
       with_reducible refine(C11.out _ _ _ _ _ _ _ _ _ RRW2_4.out RRW2_4_1.out RRW2_8.out RRW2_8_1.out).mono ?_
       rintro e W' ⟨pw2_9,cw2_9,sw2_9,dw2_9,rfl,rrw2_9,rrw2_9_1,hb⟩
       exact hK.out _ _ ⟨HI.out.pc Hi.out hb ⟨pw2_9,cw2_9,sw2_9,dw2_9,rfl,rrw2_9,rrw2_9_1⟩,trivial⟩
     | 10,_,Hi =>
       obtain⟨v',x9,pw2_9,cw2_9,sw2_9,dw2_9,e,rrw2_9,rrw2_9_1⟩:=HI.out.at (i:=9) Hi.out (by kernel_rfl) (by decide)
       obtain rfl:=e
       have x9:a.tmps[33]? = some (.agg #[.bool (zneg (vv)),.slice pw2_9 (zlen (vv)) cw2_9,.slice sw2_9 (nlen (dv)) dw2_9]):=x9
       have RRW2_9:=hid rrw2_9
       clear rrw2_9
       have RRW2_9_1:=hid rrw2_9_1
       clear rrw2_9_1
       refine z02 rfl fun K' hK=>?_
       go_simp
       with_reducible refine(C12.out _ _ _ _ _ RRW2_9.out RRW2_9_1.out).mono ?_
       rintro e W' ⟨pw2_10,cw2_10,sw2_10,dw2_10,rfl,rrw2_10,rrw2_10_1,hb⟩
       exact hK.out _ _ ⟨HI.out.pc Hi.out hb ⟨pw2_10,cw2_10,sw2_10,dw2_10,rfl,rrw2_10,rrw2_10_1⟩,trivial⟩
     | 11,_,Hi =>
       have x0:=X0.g Hi.out (by kernel_rfl)
       obtain⟨v',x10,pw2_10,cw2_10,sw2_10,dw2_10,e,rrw2_10,rrw2_10_1⟩:=HI.out.at (i:=10) Hi.out (by kernel_rfl) (by decide)
       obtain rfl:=e
       have x10:a.tmps[34]? = some (.agg #[.bool (zneg (xx)),.slice pw2_10 (zlen (xx)) cw2_10,.slice sw2_10 (nlen (dx)) dw2_10]):=x10
       have RRW2_10:=hid rrw2_10
       clear rrw2_10
       have RRW2_10_1:=hid rrw2_10_1
       clear rrw2_10_1
       refine z02 rfl fun K' hK=>?_
       go_simp
       with_reducible refine(C13.out _ _ _ _ _ _ _ _ _ (RF.out.below HI.out.world) (RO.out.below HI.out.world) RRW2_10.out RRW2_10_1.out).mono ?_
       rintro e W' ⟨pw2_11,cw2_11,sw2_11,dw2_11,rfl,rrw2_11,rrw2_11_1,hb⟩
       exact hK.out _ _ ⟨HI.out.pc Hi.out hb ⟨pw2_11,cw2_11,sw2_11,dw2_11,rfl,rrw2_11,rrw2_11_1⟩,trivial⟩
     | n+12,h,_=>exact absurd h (by omega)
   · intro listed a W hI hD hall
     obtain⟨v',x3,pw2_3,cw2_3,sw2_3,dw2_3,e,rrw2_3,rrw2_3_1⟩:=hI.slots 3 (by decide) (hall 3 (by decide))
     obtain rfl:=e
     have RRW2_3:=hid rrw2_3
     clear rrw2_3
     have RRW2_3_1:=hid rrw2_3_1
     clear rrw2_3_1
     obtain⟨v',x4,pw2_4,cw2_4,sw2_4,dw2_4,e,rrw2_4,rrw2_4_1⟩:=hI.slots 4 (by decide) (hall 4 (by decide))
     obtain rfl:=e
     have RRW2_4:=hid rrw2_4
     clear rrw2_4
     have RRW2_4_1:=hid rrw2_4_1
     clear rrw2_4_1
     obtain⟨v',x7,pw2_7,cw2_7,sw2_7,dw2_7,e,rrw2_7,rrw2_7_1⟩:=hI.slots 7 (by decide) (hall 7 (by decide))
     obtain rfl:=e
     have RRW2_7:=hid rrw2_7
     clear rrw2_7
     have RRW2_7_1:=hid rrw2_7_1
     clear rrw2_7_1
     obtain⟨v',x8,pw2_8,cw2_8,sw2_8,dw2_8,e,rrw2_8,rrw2_8_1⟩:=hI.slots 8 (by decide) (hall 8 (by decide))
     obtain rfl:=e
     have RRW2_8:=hid rrw2_8
     clear rrw2_8
     have RRW2_8_1:=hid rrw2_8_1
     clear rrw2_8_1
     obtain⟨v',x9,pw2_9,cw2_9,sw2_9,dw2_9,e,rrw2_9,rrw2_9_1⟩:=hI.slots 9 (by decide) (hall 9 (by decide))
     obtain rfl:=e
     have RRW2_9:=hid rrw2_9
     clear rrw2_9
     have RRW2_9_1:=hid rrw2_9_1
     clear rrw2_9_1
     obtain⟨v',x10,pw2_10,cw2_10,sw2_10,dw2_10,e,rrw2_10,rrw2_10_1⟩:=hI.slots 10 (by decide) (hall 10 (by decide))
     obtain rfl:=e
     have RRW2_10:=hid rrw2_10
     clear rrw2_10
     have RRW2_10_1:=hid rrw2_10_1
     clear rrw2_10_1
     obtain⟨v',x11,pw2_11,cw2_11,sw2_11,dw2_11,e,rrw2_11,rrw2_11_1⟩:=hI.slots 11 (by decide) (hall 11 (by decide))
     obtain rfl:=e
     have RRW2_11:=hid rrw2_11
     clear rrw2_11
     have RRW2_11_1:=hid rrw2_11_1
     clear rrw2_11_1
     have x11:a.tmps[35]? = some (.agg #[.bool (zneg (r)),.slice pw2_11 (zlen (r)) cw2_11,.slice sw2_11 (nlen (dr)) dw2_11]):=x11
     have HBW:=hid hI.world
     have HI:=hid hI
     have HA:=hid hall
     clear hI hall
     have K3:=hid (K3.out.below HBW.out)
     have HBX:=hid (HB6.out.trans (HBW.out.mono HB6.out.size))
     have RS:=RRW2_3
     have TS:=RRW2_3_1
     have RU:=RRW2_4
     have TU:=RRW2_4_1
     have RV:=RRW2_7
     have TV:=RRW2_7_1
     have RW:=RRW2_8
     have TW:=RRW2_8_1
     have RX:=RRW2_9
     have TX:=RRW2_9_1
     have RY:=RRW2_10
     have TY:=RRW2_10_1
     have RZ:=RRW2_11
     have TZ:=RRW2_11_1
     have y4:a.tmps[4]? = some (.pointer (some ⟨w.heap.size+1+1,0,none⟩)):=HI.out.rest 4 (by decide)
     have dK30:=K3.out.cell (i:=0) rfl
     have fK30:=K3.out.frozen (i:=0)
     have dK31:=K3.out.cell (i:=1) rfl
     have fK31:=K3.out.frozen (i:=1)
     have dK32:=K3.out.cell (i:=2) rfl
     have fK32:=K3.out.frozen (i:=2)
     refine z0n (t:=0) ?_
     refine z02 rfl fun K' hK=>?_
     go_simp
     refine hK.out _ _ ?_
     clear hK
     refine z0A ?_
     have s0:∀ {v':Value} {n':Nat},RN W v' n'→RN (storeAll W (w.heap.size+1+1) 0 [.bool (zneg (r)),.slice pw2_11 (zlen (r)) cw2_11,.slice sw2_11 (nlen (dr)) dw2_11]) v' n':=fun h'=>z0b _ h' K3.out (by simp[z0D]) (by simp[z0q])
     exact⟨rfl,pw2_3,cw2_3,sw2_3,dw2_3,pw2_4,cw2_4,sw2_4,dw2_4,pw2_7,cw2_7,sw2_7,dw2_7,pw2_8,cw2_8,sw2_8,dw2_8,pw2_9,cw2_9,sw2_9,dw2_9,pw2_10,cw2_10,sw2_10,dw2_10,pw2_11,cw2_11,sw2_11,dw2_11,(HI.out.finx ⟨HI.out.sx HA.out 0,HI.out.sx HA.out 1,HI.out.sx HA.out 2,x3,x4,HI.out.sx HA.out 5,HI.out.sx HA.out 6,x7,x8,x9,x10,x11,trivial⟩ rfl),(z06 (l:=[.bool (zneg (r)),.slice pw2_11 (zlen (r)) cw2_11,.slice sw2_11 (nlen (dr)) dw2_11]) (i:=0) (by omega) HBX.out),(z0s (l:=[.bool (zneg (r)),.slice pw2_11 (zlen (r)) cw2_11,.slice sw2_11 (nlen (dr)) dw2_11]) (i:=0) K3.out),(s0 RZ.out),(s0 TZ.out)⟩
 rintro a' W7 ⟨pw2_3,cw2_3,sw2_3,dw2_3,pw2_4,cw2_4,sw2_4,dw2_4,pw2_7,cw2_7,sw2_7,dw2_7,pw2_8,cw2_8,sw2_8,dw2_8,pw2_9,cw2_9,sw2_9,dw2_9,pw2_10,cw2_10,sw2_10,dw2_10,pw2_11,cw2_11,sw2_11,dw2_11,rfl,z0,z1,z2,z3⟩
 have HB7:=hid z0
 have K3:=hid z1
 have RZ:=hid z2
 have TZ:=hid z3
 clear z0 z1 z2 z3
 simp only[putL,List.setIfInBounds_toArray,List.set_cons_zero,List.set_cons_succ]
 go_wp2
 have dK30:=K3.out.cell (i:=0) rfl
 have dK31:=K3.out.cell (i:=1) rfl
 have dK32:=K3.out.cell (i:=2) rfl
 exact bodyPost_ret (v:=.agg #[.bool (zneg (r)),.slice pw2_11 (zlen (r)) cw2_11,.slice sw2_11 (nlen (dr)) dw2_11]) (by simp[results,Tryz.results74,go_sem,dK30,dK31,dK32]) rfl ⟨_,_,_,_,rfl,RZ.out,TZ.out,HB7.out⟩
theorem z9N (x1 x2:ByteArray)(n1 n2:Int)(en1 en2:Nat)  (w:World)(h1:∀ W,Calls Tryz.prog 47 #[.string x1,.string x2] W fun e w'=>∃ p c s d p' c' s' d',e=.returned (.tuple #[.agg #[.bool (zneg n1),.slice p (zlen n1) c,.slice s (nlen en1) d],.agg #[.bool (zneg n2),.slice p' (zlen n2) c',.slice s' (nlen en2) d'],.int .i64 1])∧RN w' (.slice p (zlen n1) c) n1.natAbs∧RN w' (.slice s (nlen en1) d) en1∧RN w' (.slice p' (zlen n2) c') n2.natAbs∧RN w' (.slice s' (nlen en2) d') en2∧Below W.heap.size W w')  :
 CR 32 #[.string x1,.string x2] w (.tuple #[.string ⟨#[]⟩,.int .i64 1]):=by
 have C1:=hid h1
 clear h1
 go_enter Tryz.func32,Tryz.ntmps32
 have HB0:=hid (Below.refl w.heap.size w)
 go_wp2_with fail
 with_reducible refine(C1.out _).mono ?_
 rintro e W1 ⟨pa_1,ca_1,sa_1,da_1,pb_1,cb_1,sb_1,db_1,rfl,r1_0,r1_1,r1_2,r1_3,hb⟩
 have HB1:=hbt HB0 hb
 have RA:=hid r1_0
 have TA:=hid r1_1
 have RB:=hid r1_2
 have TB:=hid r1_3
 clear hb r1_0 r1_1 r1_2 r1_3
 go_upto_region 2 with fail
 refine z0f W1 [(#[.bool (zneg (n1)),.slice pa_1 (zlen (n1)) ca_1,.slice sa_1 (nlen (en1)) da_1],55),(#[.bool (zneg (n2)),.slice pb_1 (zlen (n2)) cb_1,.slice sb_1 (nlen (en2)) db_1],55)] rfl ?_
 have L1:=HB1.out.size
 rintro W2 ⟨k1,k2,hb⟩
 have hb:Below W1.heap.size W1 W2:=hb
 have HB2:=hbt HB1 hb
 have K1:=hid k1
 have K2:=hid k2
 clear k1 k2 hb
 go_wp2
 exact bodyPost_ret (v:=.tuple #[.string ⟨#[]⟩,.int .i64 1]) (by simp[results,Tryz.results32,go_sem]) rfl ⟨rfl,HB2.out⟩
theorem z6q (x1 x2:ByteArray)(n1 n2:Int)(en1 en2:Nat)(k:Int)(hk:0<k)  (w:World)(h1:∀ W,Calls Tryz.prog 47 #[.string x1,.string x2] W fun e w'=>∃ p c s d p' c' s' d',e=.returned (.tuple #[.agg #[.bool (zneg n1),.slice p (zlen n1) c,.slice s (nlen en1) d],.agg #[.bool (zneg n2),.slice p' (zlen n2) c',.slice s' (nlen en2) d'],.int .i64 0])∧RN w' (.slice p (zlen n1) c) n1.natAbs∧RN w' (.slice s (nlen en1) d) en1∧RN w' (.slice p' (zlen n2) c') n2.natAbs∧RN w' (.slice s' (nlen en2) d') en2∧Below W.heap.size W w')(h2:∀ p1 c1 s1 d1 p2 c2 s2 d2 W,RN W (.slice p1 (zlen n1) c1) n1.natAbs→RN W (.slice s1 (nlen en1) d1) en1→RN W (.slice p2 (zlen n2) c2) n2.natAbs→RN W (.slice s2 (nlen en2) d2) en2→CR 48 #[.agg #[.bool (zneg n1),.slice p1 (zlen n1) c1,.slice s1 (nlen en1) d1],.agg #[.bool (zneg n2),.slice p2 (zlen n2) c2,.slice s2 (nlen en2) d2]] W (.int .i64 k))  :
 CR 32 #[.string x1,.string x2] w (.tuple #[.string ⟨#[]⟩,.int .i64 5]):=by
 have C1:=hid h1
 have C2:=hid h2
 have ka0:decide (0<k)=true:=decide_eq_true hk
 have ka1:0<k:=hk
 clear hk h1 h2
 go_enter Tryz.func32,Tryz.ntmps32
 have HB0:=hid (Below.refl w.heap.size w)
 go_wp2_with fail
 with_reducible refine(C1.out _).mono ?_
 rintro e W1 ⟨pa_1,ca_1,sa_1,da_1,pb_1,cb_1,sb_1,db_1,rfl,r1_0,r1_1,r1_2,r1_3,hb⟩
 have HB1:=hbt HB0 hb
 have RA:=hid r1_0
 have TA:=hid r1_1
 have RB:=hid r1_2
 have TB:=hid r1_3
 clear hb r1_0 r1_1 r1_2 r1_3
 go_upto_region 2 with fail
 refine z0f W1 [(#[.bool (zneg (n1)),.slice pa_1 (zlen (n1)) ca_1,.slice sa_1 (nlen (en1)) da_1],55),(#[.bool (zneg (n2)),.slice pb_1 (zlen (n2)) cb_1,.slice sb_1 (nlen (en2)) db_1],55)] rfl ?_
 have L1:=HB1.out.size
 rintro W2 ⟨k1,k2,hb⟩
 have hb:Below W1.heap.size W1 W2:=hb
 have RA:=hid (RA.out.below hb)
 have TA:=hid (TA.out.below hb)
 have RB:=hid (RB.out.below hb)
 have TB:=hid (TB.out.below hb)
 have HB2:=hbt HB1 hb
 have K1:=hid k1
 have K2:=hid k2
 clear k1 k2 hb
 have dK10:=K1.out.cell (i:=0) rfl
 have dK11:=K1.out.cell (i:=1) rfl
 have dK12:=K1.out.cell (i:=2) rfl
 have dK20:=K2.out.cell (i:=0) rfl
 have dK21:=K2.out.cell (i:=1) rfl
 have dK22:=K2.out.cell (i:=2) rfl
 go_wp2_with fail
 with_reducible refine(C2.out _ _ _ _ _ _ _ _ _ RA.out TA.out RB.out TB.out).mono ?_
 rintro e W3 ⟨rfl,hb⟩
 clear dK10 dK11 dK12 dK20 dK21 dK22
 have HB3:=hbt HB2 hb
 clear hb
 go_wp2
 exact bodyPost_ret (v:=.tuple #[.string ⟨#[]⟩,.int .i64 5]) (by simp[results,Tryz.results32,go_sem]) rfl ⟨rfl,HB3.out⟩
theorem z7O (x1 x2:ByteArray)(n1 n2:Int)(en1 en2:Nat)(k sx sy:Int)(hk:k≤0)(hsx:sx≤0)(hsy:0≤sy)  (w:World)(h1:∀ W,Calls Tryz.prog 47 #[.string x1,.string x2] W fun e w'=>∃ p c s d p' c' s' d',e=.returned (.tuple #[.agg #[.bool (zneg n1),.slice p (zlen n1) c,.slice s (nlen en1) d],.agg #[.bool (zneg n2),.slice p' (zlen n2) c',.slice s' (nlen en2) d'],.int .i64 0])∧RN w' (.slice p (zlen n1) c) n1.natAbs∧RN w' (.slice s (nlen en1) d) en1∧RN w' (.slice p' (zlen n2) c') n2.natAbs∧RN w' (.slice s' (nlen en2) d') en2∧Below W.heap.size W w')(h2:∀ p1 c1 s1 d1 p2 c2 s2 d2 W,RN W (.slice p1 (zlen n1) c1) n1.natAbs→RN W (.slice s1 (nlen en1) d1) en1→RN W (.slice p2 (zlen n2) c2) n2.natAbs→RN W (.slice s2 (nlen en2) d2) en2→CR 48 #[.agg #[.bool (zneg n1),.slice p1 (zlen n1) c1,.slice s1 (nlen en1) d1],.agg #[.bool (zneg n2),.slice p2 (zlen n2) c2,.slice s2 (nlen en2) d2]] W (.int .i64 k))(h3:∀ p1 c1 s1 d1 W,RN W (.slice p1 (zlen n1) c1) n1.natAbs→RN W (.slice s1 (nlen en1) d1) en1→CR 53 #[.agg #[.bool (zneg n1),.slice p1 (zlen n1) c1,.slice s1 (nlen en1) d1]] W (.int .i64 sx))(h4:∀ p1 c1 s1 d1 W,RN W (.slice p1 (zlen n2) c1) n2.natAbs→RN W (.slice s1 (nlen en2) d1) en2→CR 53 #[.agg #[.bool (zneg n2),.slice p1 (zlen n2) c1,.slice s1 (nlen en2) d1]] W (.int .i64 sy))  :
 CR 32 #[.string x1,.string x2] w (.tuple #[.string ⟨#[48]⟩,.int .i64 0]):=by
 have C1:=hid h1
 have C2:=hid h2
 have C3:=hid h3
 have C4:=hid h4
 have ka0:decide (0<k)=false:=decide_eq_false (by omega)
 have ka1:¬ 0<k:=by omega
 clear hk
 have t0:decide (sx≤0)=true:=decide_eq_true hsx
 have t1:sx≤0:=hsx
 have bsy0:decide (0≤sy)=true:=by first|exact decide_eq_true hsy|exact decide_eq_false (by omega)
 have bsy1:0≤sy:=by omega
 clear hsx hsy h1 h2 h3 h4
 go_enter Tryz.func32,Tryz.ntmps32
 have HB0:=hid (Below.refl w.heap.size w)
 go_wp2_with fail
 with_reducible refine(C1.out _).mono ?_
 rintro e W1 ⟨pa_1,ca_1,sa_1,da_1,pb_1,cb_1,sb_1,db_1,rfl,r1_0,r1_1,r1_2,r1_3,hb⟩
 have HB1:=hbt HB0 hb
 have RA:=hid r1_0
 have TA:=hid r1_1
 have RB:=hid r1_2
 have TB:=hid r1_3
 clear hb r1_0 r1_1 r1_2 r1_3
 go_upto_region 2 with fail
 refine z0f W1 [(#[.bool (zneg (n1)),.slice pa_1 (zlen (n1)) ca_1,.slice sa_1 (nlen (en1)) da_1],55),(#[.bool (zneg (n2)),.slice pb_1 (zlen (n2)) cb_1,.slice sb_1 (nlen (en2)) db_1],55)] rfl ?_
 have L1:=HB1.out.size
 rintro W2 ⟨k1,k2,hb⟩
 have hb:Below W1.heap.size W1 W2:=hb
 have RA:=hid (RA.out.below hb)
 have TA:=hid (TA.out.below hb)
 have RB:=hid (RB.out.below hb)
 have TB:=hid (TB.out.below hb)
 have HB2:=hbt HB1 hb
 have K1:=hid k1
 have K2:=hid k2
 clear k1 k2 hb
 have dK10:=K1.out.cell (i:=0) rfl
 have dK11:=K1.out.cell (i:=1) rfl
 have dK12:=K1.out.cell (i:=2) rfl
 have dK20:=K2.out.cell (i:=0) rfl
 have dK21:=K2.out.cell (i:=1) rfl
 have dK22:=K2.out.cell (i:=2) rfl
 go_wp2_with fail
 with_reducible refine(C2.out _ _ _ _ _ _ _ _ _ RA.out TA.out RB.out TB.out).mono ?_
 rintro e W3 ⟨rfl,hb⟩
 clear dK10 dK11 dK12 dK20 dK21 dK22
 have K1:=hid (K1.out.below hb)
 have K2:=hid (K2.out.below hb)
 have RA:=hid (RA.out.below hb)
 have TA:=hid (TA.out.below hb)
 have RB:=hid (RB.out.below hb)
 have TB:=hid (TB.out.below hb)
 have HB3:=hbt HB2 hb
 clear hb
 have dK10:=K1.out.cell (i:=0) rfl
 have dK11:=K1.out.cell (i:=1) rfl
 have dK12:=K1.out.cell (i:=2) rfl
 go_wp2_with fail
 with_reducible refine(C3.out _ _ _ _ _ RA.out TA.out).mono ?_
 rintro e W4 ⟨rfl,hb⟩
 clear dK10 dK11 dK12
 have K2:=hid (K2.out.below hb)
 have RB:=hid (RB.out.below hb)
 have TB:=hid (TB.out.below hb)
 have HB4:=hbt HB3 hb
 clear hb
 have dK20:=K2.out.cell (i:=0) rfl
 have dK21:=K2.out.cell (i:=1) rfl
 have dK22:=K2.out.cell (i:=2) rfl
 go_wp2_with fail
 with_reducible refine(C4.out _ _ _ _ _ RB.out TB.out).mono ?_
 rintro e W5 ⟨rfl,hb⟩
 clear dK20 dK21 dK22
 have HB5:=hbt HB4 hb
 clear hb
 go_wp2
 exact bodyPost_ret (v:=.tuple #[.string ⟨#[48]⟩,.int .i64 0]) (by simp[results,Tryz.results32,go_sem]) rfl ⟨rfl,HB5.out⟩
theorem z8V (x1 x2:ByteArray)(n1 n2:Int)(en1 en2:Nat)(k sx n:Int)(dn:Nat)(sn:ByteArray)(hk:k≤0)(hsx:0<sx)  (w:World)(h1:∀ W,Calls Tryz.prog 47 #[.string x1,.string x2] W fun e w'=>∃ p c s d p' c' s' d',e=.returned (.tuple #[.agg #[.bool (zneg n1),.slice p (zlen n1) c,.slice s (nlen en1) d],.agg #[.bool (zneg n2),.slice p' (zlen n2) c',.slice s' (nlen en2) d'],.int .i64 0])∧RN w' (.slice p (zlen n1) c) n1.natAbs∧RN w' (.slice s (nlen en1) d) en1∧RN w' (.slice p' (zlen n2) c') n2.natAbs∧RN w' (.slice s' (nlen en2) d') en2∧Below W.heap.size W w')(h2:∀ p1 c1 s1 d1 p2 c2 s2 d2 W,RN W (.slice p1 (zlen n1) c1) n1.natAbs→RN W (.slice s1 (nlen en1) d1) en1→RN W (.slice p2 (zlen n2) c2) n2.natAbs→RN W (.slice s2 (nlen en2) d2) en2→CR 48 #[.agg #[.bool (zneg n1),.slice p1 (zlen n1) c1,.slice s1 (nlen en1) d1],.agg #[.bool (zneg n2),.slice p2 (zlen n2) c2,.slice s2 (nlen en2) d2]] W (.int .i64 k))(h3:∀ p1 c1 s1 d1 W,RN W (.slice p1 (zlen n1) c1) n1.natAbs→RN W (.slice s1 (nlen en1) d1) en1→CR 53 #[.agg #[.bool (zneg n1),.slice p1 (zlen n1) c1,.slice s1 (nlen en1) d1]] W (.int .i64 sx))(h5:∀ p1 c1 s1 d1 p2 c2 s2 d2 W,RN W (.slice p1 (zlen n1) c1) n1.natAbs→RN W (.slice s1 (nlen en1) d1) en1→RN W (.slice p2 (zlen n2) c2) n2.natAbs→RN W (.slice s2 (nlen en2) d2) en2→CF 74 #[.agg #[.bool (zneg n1),.slice p1 (zlen n1) c1,.slice s1 (nlen en1) d1],.agg #[.bool (zneg n2),.slice p2 (zlen n2) c2,.slice s2 (nlen en2) d2]] W n dn)(h6:∀ p1 c1 s1 d1 W,RN W (.slice p1 (zlen n) c1) n.natAbs→RN W (.slice s1 (nlen dn) d1) dn→CR 39 #[.agg #[.bool (zneg n),.slice p1 (zlen n) c1,.slice s1 (nlen dn) d1]] W (.string sn))  :
 CR 32 #[.string x1,.string x2] w (.tuple #[.string sn,.int .i64 0]):=by
 have C1:=hid h1
 have C2:=hid h2
 have C3:=hid h3
 have C5:=hid h5
 have C6:=hid h6
 have ka0:decide (0<k)=false:=decide_eq_false (by omega)
 have ka1:¬ 0<k:=by omega
 clear hk
 have t0:decide (sx≤0)=false:=decide_eq_false (by omega)
 have t1:¬ sx≤0:=by omega
 have t2:decide (0<sx)=true:=decide_eq_true hsx
 have t3:0<sx:=hsx
 clear hsx h1 h2 h3 h5 h6
 go_enter Tryz.func32,Tryz.ntmps32
 have HB0:=hid (Below.refl w.heap.size w)
 go_wp2_with fail
 with_reducible refine(C1.out _).mono ?_
 rintro e W1 ⟨pa_1,ca_1,sa_1,da_1,pb_1,cb_1,sb_1,db_1,rfl,r1_0,r1_1,r1_2,r1_3,hb⟩
 have HB1:=hbt HB0 hb
 have RA:=hid r1_0
 have TA:=hid r1_1
 have RB:=hid r1_2
 have TB:=hid r1_3
 clear hb r1_0 r1_1 r1_2 r1_3
 go_upto_region 2 with fail
 refine z0f W1 [(#[.bool (zneg (n1)),.slice pa_1 (zlen (n1)) ca_1,.slice sa_1 (nlen (en1)) da_1],55),(#[.bool (zneg (n2)),.slice pb_1 (zlen (n2)) cb_1,.slice sb_1 (nlen (en2)) db_1],55)] rfl ?_
 have L1:=HB1.out.size
 rintro W2 ⟨k1,k2,hb⟩
 have hb:Below W1.heap.size W1 W2:=hb
 have RA:=hid (RA.out.below hb)
 have TA:=hid (TA.out.below hb)
 have RB:=hid (RB.out.below hb)
 have TB:=hid (TB.out.below hb)
 have HB2:=hbt HB1 hb
 have K1:=hid k1
 have K2:=hid k2
 clear k1 k2 hb
 have dK10:=K1.out.cell (i:=0) rfl
 have dK11:=K1.out.cell (i:=1) rfl
 have dK12:=K1.out.cell (i:=2) rfl
 have dK20:=K2.out.cell (i:=0) rfl
 have dK21:=K2.out.cell (i:=1) rfl
 have dK22:=K2.out.cell (i:=2) rfl
 go_wp2_with fail
 with_reducible refine(C2.out _ _ _ _ _ _ _ _ _ RA.out TA.out RB.out TB.out).mono ?_
 rintro e W3 ⟨rfl,hb⟩
 clear dK10 dK11 dK12 dK20 dK21 dK22
 have K1:=hid (K1.out.below hb)
 have K2:=hid (K2.out.below hb)
 have RA:=hid (RA.out.below hb)
 have TA:=hid (TA.out.below hb)
 have RB:=hid (RB.out.below hb)
 have TB:=hid (TB.out.below hb)
 have HB3:=hbt HB2 hb
 clear hb
 have dK10:=K1.out.cell (i:=0) rfl
 have dK11:=K1.out.cell (i:=1) rfl
 have dK12:=K1.out.cell (i:=2) rfl
 go_wp2_with fail
 with_reducible refine(C3.out _ _ _ _ _ RA.out TA.out).mono ?_
 rintro e W4 ⟨rfl,hb⟩
 clear dK10 dK11 dK12
 have K1:=hid (K1.out.below hb)
 have K2:=hid (K2.out.below hb)
 have RA:=hid (RA.out.below hb)
 have TA:=hid (TA.out.below hb)
 have RB:=hid (RB.out.below hb)
 have TB:=hid (TB.out.below hb)
 have HB4:=hbt HB3 hb
 clear hb
 have dK20:=K2.out.cell (i:=0) rfl
 have dK21:=K2.out.cell (i:=1) rfl
 have dK22:=K2.out.cell (i:=2) rfl
 have dK10:=K1.out.cell (i:=0) rfl
 have dK11:=K1.out.cell (i:=1) rfl
 have dK12:=K1.out.cell (i:=2) rfl
 go_wp2_with fail
 with_reducible refine(C3.out _ _ _ _ _ RA.out TA.out).mono ?_
 rintro e W5 ⟨rfl,hb⟩
 clear dK20 dK21 dK22 dK10 dK11 dK12
 have K1:=hid (K1.out.below hb)
 have K2:=hid (K2.out.below hb)
 have RA:=hid (RA.out.below hb)
 have TA:=hid (TA.out.below hb)
 have RB:=hid (RB.out.below hb)
 have TB:=hid (TB.out.below hb)
 have HB5:=hbt HB4 hb
 clear hb
 have dK10:=K1.out.cell (i:=0) rfl
 have dK11:=K1.out.cell (i:=1) rfl
 have dK12:=K1.out.cell (i:=2) rfl
 have dK20:=K2.out.cell (i:=0) rfl
 have dK21:=K2.out.cell (i:=1) rfl
 have dK22:=K2.out.cell (i:=2) rfl
 go_wp2_with fail
 with_reducible refine(C5.out _ _ _ _ _ _ _ _ _ RA.out TA.out RB.out TB.out).mono ?_
 rintro e W6 ⟨p_5,c_5,s_5,d_5,rfl,r5_0,r5_1,hb⟩
 clear dK10 dK11 dK12 dK20 dK21 dK22
 have HB6:=hbt HB5 hb
 have RQ:=hid r5_0
 have TQ:=hid r5_1
 clear hb r5_0 r5_1
 go_wp2_with fail
 with_reducible refine(C6.out _ _ _ _ _ RQ.out TQ.out).mono ?_
 rintro e W7 ⟨rfl,hb⟩
 have HB7:=hbt HB6 hb
 clear hb
 go_wp2
 exact bodyPost_ret (v:=.tuple #[.string sn,.int .i64 0]) (by simp[results,Tryz.results32,go_sem]) rfl ⟨rfl,HB7.out⟩
theorem z8W (x1 x2:ByteArray)(n1 n2:Int)(en1 en2:Nat)(k sx sy m1 m2 n r:Int)(dm1 dm2 dn dr:Nat)(sn:ByteArray)(hk:k≤0)(hsx:sx≤0)(hsy:sy<0)  (w:World)(h1:∀ W,Calls Tryz.prog 47 #[.string x1,.string x2] W fun e w'=>∃ p c s d p' c' s' d',e=.returned (.tuple #[.agg #[.bool (zneg n1),.slice p (zlen n1) c,.slice s (nlen en1) d],.agg #[.bool (zneg n2),.slice p' (zlen n2) c',.slice s' (nlen en2) d'],.int .i64 0])∧RN w' (.slice p (zlen n1) c) n1.natAbs∧RN w' (.slice s (nlen en1) d) en1∧RN w' (.slice p' (zlen n2) c') n2.natAbs∧RN w' (.slice s' (nlen en2) d') en2∧Below W.heap.size W w')(h2:∀ p1 c1 s1 d1 p2 c2 s2 d2 W,RN W (.slice p1 (zlen n1) c1) n1.natAbs→RN W (.slice s1 (nlen en1) d1) en1→RN W (.slice p2 (zlen n2) c2) n2.natAbs→RN W (.slice s2 (nlen en2) d2) en2→CR 48 #[.agg #[.bool (zneg n1),.slice p1 (zlen n1) c1,.slice s1 (nlen en1) d1],.agg #[.bool (zneg n2),.slice p2 (zlen n2) c2,.slice s2 (nlen en2) d2]] W (.int .i64 k))(h3:∀ p1 c1 s1 d1 W,RN W (.slice p1 (zlen n1) c1) n1.natAbs→RN W (.slice s1 (nlen en1) d1) en1→CR 53 #[.agg #[.bool (zneg n1),.slice p1 (zlen n1) c1,.slice s1 (nlen en1) d1]] W (.int .i64 sx))(h4:∀ p1 c1 s1 d1 W,RN W (.slice p1 (zlen n2) c1) n2.natAbs→RN W (.slice s1 (nlen en2) d1) en2→CR 53 #[.agg #[.bool (zneg n2),.slice p1 (zlen n2) c1,.slice s1 (nlen en2) d1]] W (.int .i64 sy))(h7:∀ p1 c1 s1 d1 W,RN W (.slice p1 (zlen n2) c1) n2.natAbs→RN W (.slice s1 (nlen en2) d1) en2→CF 75 #[.agg #[.bool (zneg n2),.slice p1 (zlen n2) c1,.slice s1 (nlen en2) d1]] W m2 dm2)(h8:∀ p1 c1 s1 d1 W,RN W (.slice p1 (zlen n1) c1) n1.natAbs→RN W (.slice s1 (nlen en1) d1) en1→CF 75 #[.agg #[.bool (zneg n1),.slice p1 (zlen n1) c1,.slice s1 (nlen en1) d1]] W m1 dm1)(h9:∀ p1 c1 s1 d1 p2 c2 s2 d2 W,RN W (.slice p1 (zlen m2) c1) m2.natAbs→RN W (.slice s1 (nlen dm2) d1) dm2→RN W (.slice p2 (zlen m1) c2) m1.natAbs→RN W (.slice s2 (nlen dm1) d2) dm1→CF 74 #[.agg #[.bool (zneg m2),.slice p1 (zlen m2) c1,.slice s1 (nlen dm2) d1],.agg #[.bool (zneg m1),.slice p2 (zlen m1) c2,.slice s2 (nlen dm1) d2]] W n dn)(h10:∀ p1 c1 s1 d1 W,RN W (.slice p1 (zlen n) c1) n.natAbs→RN W (.slice s1 (nlen dn) d1) dn→CF 75 #[.agg #[.bool (zneg n),.slice p1 (zlen n) c1,.slice s1 (nlen dn) d1]] W r dr)(h11:∀ p1 c1 s1 d1 W,RN W (.slice p1 (zlen r) c1) r.natAbs→RN W (.slice s1 (nlen dr) d1) dr→CR 39 #[.agg #[.bool (zneg r),.slice p1 (zlen r) c1,.slice s1 (nlen dr) d1]] W (.string sn))  :
 CR 32 #[.string x1,.string x2] w (.tuple #[.string sn,.int .i64 0]):=by
 have C1:=hid h1
 have C2:=hid h2
 have C3:=hid h3
 have C4:=hid h4
 have C7:=hid h7
 have C8:=hid h8
 have C9:=hid h9
 have C10:=hid h10
 have C11:=hid h11
 have ka0:decide (0<k)=false:=decide_eq_false (by omega)
 have ka1:¬ 0<k:=by omega
 clear hk
 have t0:decide (sx≤0)=true:=decide_eq_true hsx
 have t1:sx≤0:=hsx
 have t2:decide (0<sx)=false:=decide_eq_false (by omega)
 have t3:¬ 0<sx:=by omega
 have u0:decide (0≤sy)=false:=decide_eq_false (by omega)
 have u1:¬ 0≤sy:=by omega
 clear hsx hsy h1 h2 h3 h4 h7 h8 h9 h10 h11
 go_enter Tryz.func32,Tryz.ntmps32
 have HB0:=hid (Below.refl w.heap.size w)
 go_wp2_with fail
 with_reducible refine(C1.out _).mono ?_
 rintro e W1 ⟨pa_1,ca_1,sa_1,da_1,pb_1,cb_1,sb_1,db_1,rfl,r1_0,r1_1,r1_2,r1_3,hb⟩
 have HB1:=hbt HB0 hb
 have RA:=hid r1_0
 have TA:=hid r1_1
 have RB:=hid r1_2
 have TB:=hid r1_3
 clear hb r1_0 r1_1 r1_2 r1_3
 go_upto_region 2 with fail
 refine z0f W1 [(#[.bool (zneg (n1)),.slice pa_1 (zlen (n1)) ca_1,.slice sa_1 (nlen (en1)) da_1],55),(#[.bool (zneg (n2)),.slice pb_1 (zlen (n2)) cb_1,.slice sb_1 (nlen (en2)) db_1],55)] rfl ?_
 have L1:=HB1.out.size
 rintro W2 ⟨k1,k2,hb⟩
 have hb:Below W1.heap.size W1 W2:=hb
 have RA:=hid (RA.out.below hb)
 have TA:=hid (TA.out.below hb)
 have RB:=hid (RB.out.below hb)
 have TB:=hid (TB.out.below hb)
 have HB2:=hbt HB1 hb
 have K1:=hid k1
 have K2:=hid k2
 clear k1 k2 hb
 have dK10:=K1.out.cell (i:=0) rfl
 have dK11:=K1.out.cell (i:=1) rfl
 have dK12:=K1.out.cell (i:=2) rfl
 have dK20:=K2.out.cell (i:=0) rfl
 have dK21:=K2.out.cell (i:=1) rfl
 have dK22:=K2.out.cell (i:=2) rfl
 go_wp2_with fail
 with_reducible refine(C2.out _ _ _ _ _ _ _ _ _ RA.out TA.out RB.out TB.out).mono ?_
 rintro e W3 ⟨rfl,hb⟩
 clear dK10 dK11 dK12 dK20 dK21 dK22
 have K1:=hid (K1.out.below hb)
 have K2:=hid (K2.out.below hb)
 have RA:=hid (RA.out.below hb)
 have TA:=hid (TA.out.below hb)
 have RB:=hid (RB.out.below hb)
 have TB:=hid (TB.out.below hb)
 have HB3:=hbt HB2 hb
 clear hb
 have dK10:=K1.out.cell (i:=0) rfl
 have dK11:=K1.out.cell (i:=1) rfl
 have dK12:=K1.out.cell (i:=2) rfl
 go_wp2_with fail
 with_reducible refine(C3.out _ _ _ _ _ RA.out TA.out).mono ?_
 rintro e W4 ⟨rfl,hb⟩
 clear dK10 dK11 dK12
 have K1:=hid (K1.out.below hb)
 have K2:=hid (K2.out.below hb)
 have RA:=hid (RA.out.below hb)
 have TA:=hid (TA.out.below hb)
 have RB:=hid (RB.out.below hb)
 have TB:=hid (TB.out.below hb)
 have HB4:=hbt HB3 hb
 clear hb
 have dK20:=K2.out.cell (i:=0) rfl
 have dK21:=K2.out.cell (i:=1) rfl
 have dK22:=K2.out.cell (i:=2) rfl
 go_wp2_with fail
 with_reducible refine(C4.out _ _ _ _ _ RB.out TB.out).mono ?_
 rintro e W5 ⟨rfl,hb⟩
 clear dK20 dK21 dK22
 have K1:=hid (K1.out.below hb)
 have K2:=hid (K2.out.below hb)
 have RA:=hid (RA.out.below hb)
 have TA:=hid (TA.out.below hb)
 have RB:=hid (RB.out.below hb)
 have TB:=hid (TB.out.below hb)
 have HB5:=hbt HB4 hb
 clear hb
 have dK10:=K1.out.cell (i:=0) rfl
 have dK11:=K1.out.cell (i:=1) rfl
 have dK12:=K1.out.cell (i:=2) rfl
 go_wp2_with fail
 with_reducible refine(C3.out _ _ _ _ _ RA.out TA.out).mono ?_
 rintro e W6 ⟨rfl,hb⟩
 clear dK10 dK11 dK12
 have K1:=hid (K1.out.below hb)
 have K2:=hid (K2.out.below hb)
 have RA:=hid (RA.out.below hb)
 have TA:=hid (TA.out.below hb)
 have RB:=hid (RB.out.below hb)
 have TB:=hid (TB.out.below hb)
 have HB6:=hbt HB5 hb
 clear hb
 go_wp2_with fail
 refine z0d (fun a0 a' V=>∃ pw1_1 cw1_1 sw1_1 dw1_1 pw1_3 cw1_3 sw1_3 dw1_3 pw1_4 cw1_4 sw1_4 dw1_4 pw1_5 cw1_5 sw1_5 dw1_5,a'=⟨putL [(41,.agg #[.bool (zneg (n2)),.slice pb_1 (zlen (n2)) cb_1,.slice sb_1 (nlen (en2)) db_1]),(42,.agg #[.bool (zneg (m2)),.slice pw1_1 (zlen (m2)) cw1_1,.slice sw1_1 (nlen (dm2)) dw1_1]),(43,.agg #[.bool (zneg (n1)),.slice pa_1 (zlen (n1)) ca_1,.slice sa_1 (nlen (en1)) da_1]),(44,.agg #[.bool (zneg (m1)),.slice pw1_3 (zlen (m1)) cw1_3,.slice sw1_3 (nlen (dm1)) dw1_3]),(45,.agg #[.bool (zneg (n)),.slice pw1_4 (zlen (n)) cw1_4,.slice sw1_4 (nlen (dn)) dw1_4]),(46,.agg #[.bool (zneg (r)),.slice pw1_5 (zlen (r)) cw1_5,.slice sw1_5 (nlen (dr)) dw1_5]),(47,.string sn),(4,.string sn),(5,.int .i64 0)] a0.tmps,a0.defers⟩∧Below w.heap.size w V) ?_ ?_
 · refine z0a (by kernel_rfl) 9 0 (fun i=>[41,42,43,44,45,46,47,4,5].getD i 0) (RelR [Rel.val (.agg #[.bool (zneg (n2)),.slice pb_1 (zlen (n2)) cb_1,.slice sb_1 (nlen (en2)) db_1]),⟨fun v W=>∃ p c s d,v=.agg #[.bool (zneg (m2)),.slice p (zlen (m2)) c,.slice s (nlen (dm2)) d]∧RN W (.slice p (zlen (m2)) c) (m2).natAbs∧RN W (.slice s (nlen (dm2)) d) (dm2),fun _ _ _ ⟨p,c,s,d,e,h0,h1⟩ hb=>⟨p,c,s,d,e,h0.below hb,h1.below hb⟩⟩,Rel.val (.agg #[.bool (zneg (n1)),.slice pa_1 (zlen (n1)) ca_1,.slice sa_1 (nlen (en1)) da_1]),⟨fun v W=>∃ p c s d,v=.agg #[.bool (zneg (m1)),.slice p (zlen (m1)) c,.slice s (nlen (dm1)) d]∧RN W (.slice p (zlen (m1)) c) (m1).natAbs∧RN W (.slice s (nlen (dm1)) d) (dm1),fun _ _ _ ⟨p,c,s,d,e,h0,h1⟩ hb=>⟨p,c,s,d,e,h0.below hb,h1.below hb⟩⟩,⟨fun v W=>∃ p c s d,v=.agg #[.bool (zneg (n)),.slice p (zlen (n)) c,.slice s (nlen (dn)) d]∧RN W (.slice p (zlen (n)) c) (n).natAbs∧RN W (.slice s (nlen (dn)) d) (dn),fun _ _ _ ⟨p,c,s,d,e,h0,h1⟩ hb=>⟨p,c,s,d,e,h0.below hb,h1.below hb⟩⟩,⟨fun v W=>∃ p c s d,v=.agg #[.bool (zneg (r)),.slice p (zlen (r)) c,.slice s (nlen (dr)) d]∧RN W (.slice p (zlen (r)) c) (r).natAbs∧RN W (.slice s (nlen (dr)) d) (dr),fun _ _ _ ⟨p,c,s,d,e,h0,h1⟩ hb=>⟨p,c,s,d,e,h0.below hb,h1.below hb⟩⟩,Rel.val (.string sn),Rel.val (.string sn),Rel.val (.int .i64 0)]) (fun W=>Below W6.heap.size W6 W) (fun _ _=>True) (by kernel_rfl) (by kernel_rfl) (by kernel_rfl) trivial (Below.refl _ _).drew ?_ ?_
   · intro listed a W i hI hD hrd him
     have HI:=hid hI
     have HD:=hid hD
     have Hr:=hid hrd
     clear hI hrd hD
     have y7:a.tmps[7]? = some (.pointer (some ⟨W1.heap.size+1,0,none⟩)):=HI.out.rest 7 (by decide)
     have y6:a.tmps[6]? = some (.pointer (some ⟨W1.heap.size,0,none⟩)):=HI.out.rest 6 (by decide)
     have dK20:=(K2.out.below HI.out.world).cell (i:=0) rfl
     have dK21:=(K2.out.below HI.out.world).cell (i:=1) rfl
     have dK22:=(K2.out.below HI.out.world).cell (i:=2) rfl
     have dK10:=(K1.out.below HI.out.world).cell (i:=0) rfl
     have dK11:=(K1.out.below HI.out.world).cell (i:=1) rfl
     have dK12:=(K1.out.below HI.out.world).cell (i:=2) rfl
     have X0:RV _ listed a 0 41 (.agg #[.bool (zneg (n2)),.slice pb_1 (zlen (n2)) cb_1,.slice sb_1 (nlen (en2)) db_1]):=HI.out.rh
     have X2:RV _ listed a 2 43 (.agg #[.bool (zneg (n1)),.slice pa_1 (zlen (n1)) ca_1,.slice sa_1 (nlen (en1)) da_1]):=HI.out.rh
     have X6:RV _ listed a 6 47 (.string sn):=HI.out.rh
     match i,him,Hr with
     | 0,_,Hi =>
       refine z02 rfl fun K' hK=>?_
       go_simp
       exact hK.out _ _ ⟨HI.out.pv Hi.out rfl,trivial⟩
     | 1,_,Hi =>
       have x0:=X0.g Hi.out (by kernel_rfl)
       refine z02 rfl fun K' hK=>?_
       go_simp
       with_reducible refine(C7.out _ _ _ _ _ (RB.out.below HI.out.world) (TB.out.below HI.out.world)).mono ?_
       rintro e W' ⟨pw1_1,cw1_1,sw1_1,dw1_1,rfl,rrw1_1,rrw1_1_1,hb⟩
       exact hK.out _ _ ⟨HI.out.pc Hi.out hb ⟨pw1_1,cw1_1,sw1_1,dw1_1,rfl,rrw1_1,rrw1_1_1⟩,trivial⟩
     | 2,_,Hi =>
       refine z02 rfl fun K' hK=>?_
       go_simp
       exact hK.out _ _ ⟨HI.out.pv Hi.out rfl,trivial⟩
     | 3,_,Hi =>
       have x2:=X2.g Hi.out (by kernel_rfl)
       refine z02 rfl fun K' hK=>?_
       go_simp
       with_reducible refine(C8.out _ _ _ _ _ (RA.out.below HI.out.world) (TA.out.below HI.out.world)).mono ?_
       rintro e W' ⟨pw1_3,cw1_3,sw1_3,dw1_3,rfl,rrw1_3,rrw1_3_1,hb⟩
       exact hK.out _ _ ⟨HI.out.pc Hi.out hb ⟨pw1_3,cw1_3,sw1_3,dw1_3,rfl,rrw1_3,rrw1_3_1⟩,trivial⟩
     | 4,_,Hi =>
       obtain⟨v',x1,pw1_1,cw1_1,sw1_1,dw1_1,e,rrw1_1,rrw1_1_1⟩:=HI.out.at (i:=1) Hi.out (by kernel_rfl) (by decide)
       obtain rfl:=e
       have x1:a.tmps[42]? = some (.agg #[.bool (zneg (m2)),.slice pw1_1 (zlen (m2)) cw1_1,.slice sw1_1 (nlen (dm2)) dw1_1]):=x1
       have RRW1_1:=hid rrw1_1
       clear rrw1_1
       have RRW1_1_1:=hid rrw1_1_1
       clear rrw1_1_1
       obtain⟨v',x3,pw1_3,cw1_3,sw1_3,dw1_3,e,rrw1_3,rrw1_3_1⟩:=HI.out.at (i:=3) Hi.out (by kernel_rfl) (by decide)
       obtain rfl:=e
       have x3:a.tmps[44]? = some (.agg #[.bool (zneg (m1)),.slice pw1_3 (zlen (m1)) cw1_3,.slice sw1_3 (nlen (dm1)) dw1_3]):=x3
       have RRW1_3:=hid rrw1_3
       clear rrw1_3
       have RRW1_3_1:=hid rrw1_3_1
       clear rrw1_3_1
       refine z02 rfl fun K' hK=>?_
       go_simp
       with_reducible refine(C9.out _ _ _ _ _ _ _ _ _ RRW1_1.out RRW1_1_1.out RRW1_3.out RRW1_3_1.out).mono ?_
       rintro e W' ⟨pw1_4,cw1_4,sw1_4,dw1_4,rfl,rrw1_4,rrw1_4_1,hb⟩
       exact hK.out _ _ ⟨HI.out.pc Hi.out hb ⟨pw1_4,cw1_4,sw1_4,dw1_4,rfl,rrw1_4,rrw1_4_1⟩,trivial⟩
     | 5,_,Hi =>
       obtain⟨v',x4,pw1_4,cw1_4,sw1_4,dw1_4,e,rrw1_4,rrw1_4_1⟩:=HI.out.at (i:=4) Hi.out (by kernel_rfl) (by decide)
       obtain rfl:=e
       have x4:a.tmps[45]? = some (.agg #[.bool (zneg (n)),.slice pw1_4 (zlen (n)) cw1_4,.slice sw1_4 (nlen (dn)) dw1_4]):=x4
       have RRW1_4:=hid rrw1_4
       clear rrw1_4
       have RRW1_4_1:=hid rrw1_4_1
       clear rrw1_4_1
       refine z02 rfl fun K' hK=>?_
       go_simp
       with_reducible refine(C10.out _ _ _ _ _ RRW1_4.out RRW1_4_1.out).mono ?_
       rintro e W' ⟨pw1_5,cw1_5,sw1_5,dw1_5,rfl,rrw1_5,rrw1_5_1,hb⟩
       exact hK.out _ _ ⟨HI.out.pc Hi.out hb ⟨pw1_5,cw1_5,sw1_5,dw1_5,rfl,rrw1_5,rrw1_5_1⟩,trivial⟩
     | 6,_,Hi =>
       obtain⟨v',x5,pw1_5,cw1_5,sw1_5,dw1_5,e,rrw1_5,rrw1_5_1⟩:=HI.out.at (i:=5) Hi.out (by kernel_rfl) (by decide)
       obtain rfl:=e
       have x5:a.tmps[46]? = some (.agg #[.bool (zneg (r)),.slice pw1_5 (zlen (r)) cw1_5,.slice sw1_5 (nlen (dr)) dw1_5]):=x5
       have RRW1_5:=hid rrw1_5
       clear rrw1_5
       have RRW1_5_1:=hid rrw1_5_1
       clear rrw1_5_1
       refine z02 rfl fun K' hK=>?_
       go_simp
       with_reducible refine(C11.out _ _ _ _ _ RRW1_5.out RRW1_5_1.out).mono ?_
       rintro e W' ⟨rfl,hb⟩
       exact hK.out _ _ ⟨HI.out.pc Hi.out hb rfl,trivial⟩
     | 7,_,Hi =>
       have x6:=X6.g Hi.out (by kernel_rfl)
       refine z02 rfl fun K' hK=>?_
       go_simp
       exact hK.out _ _ ⟨HI.out.pv Hi.out rfl,trivial⟩
     | 8,_,Hi =>
       refine z02 rfl fun K' hK=>?_
       go_simp
       exact hK.out _ _ ⟨HI.out.pv Hi.out rfl,trivial⟩
     | n+9,h,_=>exact absurd h (by omega)
   · intro listed a W hI hD hall
     obtain⟨v',x1,pw1_1,cw1_1,sw1_1,dw1_1,e,rrw1_1,rrw1_1_1⟩:=hI.slots 1 (by decide) (hall 1 (by decide))
     obtain rfl:=e
     have RRW1_1:=hid rrw1_1
     clear rrw1_1
     have RRW1_1_1:=hid rrw1_1_1
     clear rrw1_1_1
     obtain⟨v',x3,pw1_3,cw1_3,sw1_3,dw1_3,e,rrw1_3,rrw1_3_1⟩:=hI.slots 3 (by decide) (hall 3 (by decide))
     obtain rfl:=e
     have RRW1_3:=hid rrw1_3
     clear rrw1_3
     have RRW1_3_1:=hid rrw1_3_1
     clear rrw1_3_1
     obtain⟨v',x4,pw1_4,cw1_4,sw1_4,dw1_4,e,rrw1_4,rrw1_4_1⟩:=hI.slots 4 (by decide) (hall 4 (by decide))
     obtain rfl:=e
     have RRW1_4:=hid rrw1_4
     clear rrw1_4
     have RRW1_4_1:=hid rrw1_4_1
     clear rrw1_4_1
     obtain⟨v',x5,pw1_5,cw1_5,sw1_5,dw1_5,e,rrw1_5,rrw1_5_1⟩:=hI.slots 5 (by decide) (hall 5 (by decide))
     obtain rfl:=e
     have RRW1_5:=hid rrw1_5
     clear rrw1_5
     have RRW1_5_1:=hid rrw1_5_1
     clear rrw1_5_1
     have HBW:=hid hI.world
     have HI:=hid hI
     have HA:=hid hall
     clear hI hall
     have HBX:=hid (HB6.out.trans (HBW.out.mono HB6.out.size))
     have RC:=RRW1_1
     have TC:=RRW1_1_1
     have RD:=RRW1_3
     have TD:=RRW1_3_1
     have RQ:=RRW1_4
     have TQ:=RRW1_4_1
     have RE:=RRW1_5
     have TE:=RRW1_5_1
     refine z0A ?_
     exact⟨rfl,pw1_1,cw1_1,sw1_1,dw1_1,pw1_3,cw1_3,sw1_3,dw1_3,pw1_4,cw1_4,sw1_4,dw1_4,pw1_5,cw1_5,sw1_5,dw1_5,(HI.out.finx ⟨HI.out.sx HA.out 0,x1,HI.out.sx HA.out 2,x3,x4,x5,HI.out.sx HA.out 6,HI.out.sx HA.out 7,HI.out.sx HA.out 8,trivial⟩ rfl),HBX.out⟩
 rintro a' W7 ⟨pw1_1,cw1_1,sw1_1,dw1_1,pw1_3,cw1_3,sw1_3,dw1_3,pw1_4,cw1_4,sw1_4,dw1_4,pw1_5,cw1_5,sw1_5,dw1_5,rfl,z0⟩
 have HB7:=hid z0
 clear z0
 simp only[putL,List.setIfInBounds_toArray,List.set_cons_zero,List.set_cons_succ]
 go_wp2
 exact bodyPost_ret (v:=.tuple #[.string sn,.int .i64 0]) (by simp[results,Tryz.results32,go_sem]) rfl ⟨rfl,HB7.out⟩
end Go.Proofs.YtmigpoiajkihhaaGreatDoor
