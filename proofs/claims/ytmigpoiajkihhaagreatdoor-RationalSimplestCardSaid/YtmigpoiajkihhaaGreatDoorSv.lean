/- garboardref03: simplest, Simplest: walks over the contracts of what they call. -/
import Derived.Test.YtmigpoiajkihhaaGreatDoorMz41q
open Go.Proofs.Tryz
set_option maxRecDepth 100000
set_option maxHeartbeats 20000000
open Go.Lib (hid)
namespace Go.Proofs.YtmigpoiajkihhaaGreatDoor
open Go.RowKit Go.Gb
theorem pQ (n1 n2 f:Int)(en1 en2 on:Nat)(p1:Option Addr)(c1:Nat)(s1:Option Addr)(d1:Nat)(p2:Option Addr)(c2:Nat)(s2:Option Addr)(d2:Nat)(w:World)(h1:∀ p1 c1 s1 d1 W,RN W (.slice p1 (aa n1) c1) n1.natAbs→RN W (.slice s1 (ae en1) d1) en1→CZ 57 #[.agg #[.bool (ag n1),.slice p1 (aa n1) c1,.slice s1 (ae en1) d1]] W f)(h2:∀ W,CN 63 #[.int .u32 1] W on)(h3:∀ p1 c1 s1 d1 p2 c2 s2 d2 W,RN W (.slice p1 (aa f) c1) f.natAbs→RN W (.slice s1 (ae on) d1) on→RN W (.slice p2 (aa n1) c2) n1.natAbs→RN W (.slice s2 (ae en1) d2) en1→CR 48 #[.agg #[.bool (ag f),.slice p1 (aa f) c1,.slice s1 (ae on) d1],.agg #[.bool (ag n1),.slice p2 (aa n1) c2,.slice s2 (ae en1) d2]] W (.int .i64 0))(r1:RN w (.slice p1 (aa n1) c1) n1.natAbs)(t1:RN w (.slice s1 (ae en1) d1) en1)(r2:RN w (.slice p2 (aa n2) c2) n2.natAbs)(t2:RN w (.slice s2 (ae en2) d2) en2) :
 CF 74 #[.agg #[.bool (ag n1),.slice p1 (aa n1) c1,.slice s1 (ae en1) d1],.agg #[.bool (ag n2),.slice p2 (aa n2) c2,.slice s2 (ae en2) d2]] w f on:=by
 have C1:=hid h1
 have C2:=hid h2
 have C3:=hid h3
 have R1:=hid r1
 have T1:=hid t1
 have R2:=hid r2
 have T2:=hid t2
 clear h1 h2 h3 r1 t1 r2 t2
 go_enter func74,ntmps74
 go_upto_region 1 with fail
 refine aK w [(#[.bool (ag n1),.slice p1 (aa n1) c1,.slice s1 (ae en1) d1],55),(#[.bool (ag n2),.slice p2 (aa n2) c2,.slice s2 (ae en2) d2],55),(#[.bool false,.slice none 0 0,.slice none 0 0],55)] rfl ?_
 rintro W0 ⟨k1,k2,k3,hb⟩
 have HB0:=hid (show Below w.heap.size w W0 from hb)
 have R1:=hid (R1.out.below HB0.out)
 have T1:=hid (T1.out.below HB0.out)
 have K1:=hid k1
 have K2:=hid k2
 have K3:=hid k3
 clear k1 k2 k3 hb
 have dK10:=K1.out.cell (i:=0) rfl
 have dK11:=K1.out.cell (i:=1) rfl
 have dK12:=K1.out.cell (i:=2) rfl
 go_wp2_with fail
 with_reducible refine(C1.out _ _ _ _ _ R1.out T1.out).mono ?_
 rintro e W1 ⟨p_1,c_1,rfl,u0c,hb⟩
 clear dK10 dK11 dK12
 have K1:=hid (K1.out.below hb)
 have K2:=hid (K2.out.below hb)
 have K3:=hid (K3.out.below hb)
 have R1:=hid (R1.out.below hb)
 have T1:=hid (T1.out.below hb)
 have HB1:=hbt HB0 hb
 have RF:=hid u0c
 clear hb u0c
 go_wp2_with fail
 with_reducible refine(C2.out _).mono ?_
 rintro e W2 ⟨p_2,c_2,rfl,u0C,hb⟩
 have K1:=hid (K1.out.below hb)
 have K2:=hid (K2.out.below hb)
 have K3:=hid (K3.out.below hb)
 have R1:=hid (R1.out.below hb)
 have T1:=hid (T1.out.below hb)
 have RF:=hid (RF.out.below hb)
 have HB2:=hbt HB1 hb
 have RO:=hid u0C
 clear hb u0C
 go_upto_region 2 with fail
 refine aK W2 [(#[.bool (ag f),.slice p_1 (aa f) c_1,.slice p_2 (ae on) c_2],55)] rfl ?_
 have L1:=K1.out.lt
 have L2:=K2.out.lt
 have L3:=K3.out.lt
 have L4:=HB2.out.size
 rintro W3 ⟨k4,hb⟩
 have hb:Below W2.heap.size W2 W3:=hb
 have K1:=hid (K1.out.below hb)
 have K3:=hid (K3.out.below hb)
 have R1:=hid (R1.out.below hb)
 have T1:=hid (T1.out.below hb)
 have RF:=hid (RF.out.below hb)
 have RO:=hid (RO.out.below hb)
 have HB3:=hbt HB2 hb
 have K4:=hid k4
 clear k4 hb
 have dK40:=K4.out.cell (i:=0) rfl
 have dK41:=K4.out.cell (i:=1) rfl
 have dK42:=K4.out.cell (i:=2) rfl
 have dK10:=K1.out.cell (i:=0) rfl
 have dK11:=K1.out.cell (i:=1) rfl
 have dK12:=K1.out.cell (i:=2) rfl
 go_wp2_with fail
 with_reducible refine(C3.out _ _ _ _ _ _ _ _ _ RF.out RO.out R1.out T1.out).mono ?_
 rintro e W4 ⟨rfl,hb⟩
 clear dK40 dK41 dK42 dK10 dK11 dK12
 have K3:=hid (K3.out.below hb)
 have K4:=hid (K4.out.below hb)
 have RF:=hid (RF.out.below hb)
 have RO:=hid (RO.out.below hb)
 have HB4:=hbt HB3 hb
 clear hb
 have dK40:=K4.out.cell (i:=0) rfl
 have dK41:=K4.out.cell (i:=1) rfl
 have dK42:=K4.out.cell (i:=2) rfl
 have dK30:=K3.out.cell (i:=0) rfl
 have dK31:=K3.out.cell (i:=1) rfl
 have dK32:=K3.out.cell (i:=2) rfl
 have fK30:=K3.out.frozen (i:=0)
 have fK31:=K3.out.frozen (i:=1)
 have fK32:=K3.out.frozen (i:=2)
 go_wp2
 exact bodyPost_ret (v:=.agg #[.bool (ag f),.slice p_1 (aa f) c_1,.slice p_2 (ae on) c_2]) (by simp[results,results74,go_sem,dK30,dK31,dK32]) rfl ⟨_,_,_,_,rfl,(aG [.bool (ag f),.slice p_1 (aa f) c_1,.slice p_2 (ae on) c_2] RF.out K3.out (by simp[bG]) (by simp[aV])),(aG [.bool (ag f),.slice p_1 (aa f) c_1,.slice p_2 (ae on) c_2] RO.out K3.out (by simp[bG]) (by simp[aV])),(az (l:=[.bool (ag f),.slice p_1 (aa f) c_1,.slice p_2 (ae on) c_2]) (i:=0) (by omega) HB4.out)⟩
theorem pO (n1 n2 f k k2 i1 g:Int)(en1 en2 on di dg:Nat)(hk:k≠0)(hk2:k2≤0)(p1:Option Addr)(c1:Nat)(s1:Option Addr)(d1:Nat)(p2:Option Addr)(c2:Nat)(s2:Option Addr)(d2:Nat)(w:World)(h1:∀ p1 c1 s1 d1 W,RN W (.slice p1 (aa n1) c1) n1.natAbs→RN W (.slice s1 (ae en1) d1) en1→CZ 57 #[.agg #[.bool (ag n1),.slice p1 (aa n1) c1,.slice s1 (ae en1) d1]] W f)(h2:∀ W,CN 63 #[.int .u32 1] W on)(h3:∀ p1 c1 s1 d1 p2 c2 s2 d2 W,RN W (.slice p1 (aa f) c1) f.natAbs→RN W (.slice s1 (ae on) d1) on→RN W (.slice p2 (aa n1) c2) n1.natAbs→RN W (.slice s2 (ae en1) d2) en1→CR 48 #[.agg #[.bool (ag f),.slice p1 (aa f) c1,.slice s1 (ae on) d1],.agg #[.bool (ag n1),.slice p2 (aa n1) c2,.slice s2 (ae en1) d2]] W (.int .i64 k))(h4:∀ W,CF 84 #[.int .i64 1] W i1 di)(h5:∀ p1 c1 s1 d1 p2 c2 s2 d2 W,RN W (.slice p1 (aa f) c1) f.natAbs→RN W (.slice s1 (ae on) d1) on→RN W (.slice p2 (aa i1) c2) i1.natAbs→RN W (.slice s2 (ae di) d2) di→CF 50 #[.agg #[.bool (ag f),.slice p1 (aa f) c1,.slice s1 (ae on) d1],.agg #[.bool (ag i1),.slice p2 (aa i1) c2,.slice s2 (ae di) d2]] W g dg)(h6:∀ p1 c1 s1 d1 p2 c2 s2 d2 W,RN W (.slice p1 (aa g) c1) g.natAbs→RN W (.slice s1 (ae dg) d1) dg→RN W (.slice p2 (aa n2) c2) n2.natAbs→RN W (.slice s2 (ae en2) d2) en2→CR 48 #[.agg #[.bool (ag g),.slice p1 (aa g) c1,.slice s1 (ae dg) d1],.agg #[.bool (ag n2),.slice p2 (aa n2) c2,.slice s2 (ae en2) d2]] W (.int .i64 k2))(r1:RN w (.slice p1 (aa n1) c1) n1.natAbs)(t1:RN w (.slice s1 (ae en1) d1) en1)(r2:RN w (.slice p2 (aa n2) c2) n2.natAbs)(t2:RN w (.slice s2 (ae en2) d2) en2) :
 CF 74 #[.agg #[.bool (ag n1),.slice p1 (aa n1) c1,.slice s1 (ae en1) d1],.agg #[.bool (ag n2),.slice p2 (aa n2) c2,.slice s2 (ae en2) d2]] w g dg:=by
 have C1:=hid h1
 have C2:=hid h2
 have C3:=hid h3
 have C4:=hid h4
 have C5:=hid h5
 have C6:=hid h6
 have R1:=hid r1
 have T1:=hid t1
 have R2:=hid r2
 have T2:=hid t2
 have ka0:(k==0)=false:=by rw[beq_eq_false_iff_ne];exact hk
 have ka1:¬ k=0:=hk
 clear hk
 have q0:decide (k2≤0)=true:=decide_eq_true hk2
 have q1:k2≤0:=hk2
 clear hk2 h1 h2 h3 h4 h5 h6 r1 t1 r2 t2
 go_enter func74,ntmps74
 go_upto_region 1 with fail
 refine aK w [(#[.bool (ag n1),.slice p1 (aa n1) c1,.slice s1 (ae en1) d1],55),(#[.bool (ag n2),.slice p2 (aa n2) c2,.slice s2 (ae en2) d2],55),(#[.bool false,.slice none 0 0,.slice none 0 0],55)] rfl ?_
 rintro W0 ⟨k1,k2,k3,hb⟩
 have HB0:=hid (show Below w.heap.size w W0 from hb)
 have R1:=hid (R1.out.below HB0.out)
 have T1:=hid (T1.out.below HB0.out)
 have R2:=hid (R2.out.below HB0.out)
 have T2:=hid (T2.out.below HB0.out)
 have K1:=hid k1
 have K2:=hid k2
 have K3:=hid k3
 clear k1 k2 k3 hb
 have dK10:=K1.out.cell (i:=0) rfl
 have dK11:=K1.out.cell (i:=1) rfl
 have dK12:=K1.out.cell (i:=2) rfl
 go_wp2_with fail
 with_reducible refine(C1.out _ _ _ _ _ R1.out T1.out).mono ?_
 rintro e W1 ⟨p_1,c_1,rfl,u0c,hb⟩
 clear dK10 dK11 dK12
 have K1:=hid (K1.out.below hb)
 have K2:=hid (K2.out.below hb)
 have K3:=hid (K3.out.below hb)
 have R1:=hid (R1.out.below hb)
 have T1:=hid (T1.out.below hb)
 have R2:=hid (R2.out.below hb)
 have T2:=hid (T2.out.below hb)
 have HB1:=hbt HB0 hb
 have RF:=hid u0c
 clear hb u0c
 go_wp2_with fail
 with_reducible refine(C2.out _).mono ?_
 rintro e W2 ⟨p_2,c_2,rfl,u0C,hb⟩
 have K1:=hid (K1.out.below hb)
 have K2:=hid (K2.out.below hb)
 have K3:=hid (K3.out.below hb)
 have R1:=hid (R1.out.below hb)
 have T1:=hid (T1.out.below hb)
 have R2:=hid (R2.out.below hb)
 have T2:=hid (T2.out.below hb)
 have RF:=hid (RF.out.below hb)
 have HB2:=hbt HB1 hb
 have RO:=hid u0C
 clear hb u0C
 go_upto_region 2 with fail
 refine aK W2 [(#[.bool (ag f),.slice p_1 (aa f) c_1,.slice p_2 (ae on) c_2],55)] rfl ?_
 have L1:=K1.out.lt
 have L2:=K2.out.lt
 have L3:=K3.out.lt
 have L4:=HB2.out.size
 rintro W3 ⟨k4,hb⟩
 have hb:Below W2.heap.size W2 W3:=hb
 have K1:=hid (K1.out.below hb)
 have K2:=hid (K2.out.below hb)
 have K3:=hid (K3.out.below hb)
 have R1:=hid (R1.out.below hb)
 have T1:=hid (T1.out.below hb)
 have R2:=hid (R2.out.below hb)
 have T2:=hid (T2.out.below hb)
 have RF:=hid (RF.out.below hb)
 have RO:=hid (RO.out.below hb)
 have HB3:=hbt HB2 hb
 have K4:=hid k4
 clear k4 hb
 have dK40:=K4.out.cell (i:=0) rfl
 have dK41:=K4.out.cell (i:=1) rfl
 have dK42:=K4.out.cell (i:=2) rfl
 have dK10:=K1.out.cell (i:=0) rfl
 have dK11:=K1.out.cell (i:=1) rfl
 have dK12:=K1.out.cell (i:=2) rfl
 go_wp2_with fail
 with_reducible refine(C3.out _ _ _ _ _ _ _ _ _ RF.out RO.out R1.out T1.out).mono ?_
 rintro e W4 ⟨rfl,hb⟩
 clear dK40 dK41 dK42 dK10 dK11 dK12
 have K1:=hid (K1.out.below hb)
 have K2:=hid (K2.out.below hb)
 have K3:=hid (K3.out.below hb)
 have K4:=hid (K4.out.below hb)
 have R2:=hid (R2.out.below hb)
 have T2:=hid (T2.out.below hb)
 have RF:=hid (RF.out.below hb)
 have RO:=hid (RO.out.below hb)
 have HB4:=hbt HB3 hb
 clear hb
 go_wp2_with fail
 have L5:=K1.out.lt
 have L6:=K2.out.lt
 have L7:=K3.out.lt
 have L8:=K4.out.lt
 have L9:=HB4.out.size
 refine aI (fun a0 a' V=>∃ u08 u09 u0a u0b u00 u01 u02 u03 u0d,a'=⟨putL [(16,.agg #[.bool (ag f),.slice p_1 (aa f) c_1,.slice p_2 (ae on) c_2]),(17,.agg #[.bool (ag i1),.slice u08 (aa i1) u09,.slice u0a (ae di) u0b]),(18,.agg #[.bool (ag g),.slice u00 (aa g) u01,.slice u02 (ae dg) u03]),(6,.pointer (some ⟨u0d,0,none⟩))] a0.tmps,a0.defers⟩∧Below w.heap.size w V∧SBk V (w.heap.size+1) #[.bool (ag n2),.slice p2 (aa n2) c2,.slice s2 (ae en2) d2] 55∧SBk V (w.heap.size+1+1) #[.bool false,.slice none 0 0,.slice none 0 0] 55∧SBk V (u0d) #[.bool (ag g),.slice u00 (aa g) u01,.slice u02 (ae dg) u03] 55∧RN V (.slice p2 (aa n2) c2) n2.natAbs∧RN V (.slice s2 (ae en2) d2) en2∧RN V (.slice u00 (aa g) u01) (g).natAbs∧RN V (.slice u02 (ae dg) u03) (dg)∧W4.heap.size≤u0d) ?_ ?_
 · refine aF (by kernel_rfl) 4 1 (fun i=>[16,17,18,6].getD i 0) (RelR [Rel.val (.agg #[.bool (ag f),.slice p_1 (aa f) c_1,.slice p_2 (ae on) c_2]),⟨fun v W=>∃ p c s d,v=.agg #[.bool (ag i1),.slice p (aa i1) c,.slice s (ae di) d]∧RN W (.slice p (aa i1) c) (i1).natAbs∧RN W (.slice s (ae di) d) (di),fun _ _ _ ⟨p,c,s,d,e,h0,h1⟩ hb=>⟨p,c,s,d,e,h0.below hb,h1.below hb⟩⟩,⟨fun v W=>∃ p c s d,v=.agg #[.bool (ag g),.slice p (aa g) c,.slice s (ae dg) d]∧RN W (.slice p (aa g) c) (g).natAbs∧RN W (.slice s (ae dg) d) (dg),fun _ _ _ ⟨p,c,s,d,e,h0,h1⟩ hb=>⟨p,c,s,d,e,h0.below hb,h1.below hb⟩⟩,Rel.ptr W4.heap.size (.cells #[.bool false,.slice none 0 0,.slice none 0 0] 55)]) (fun W=>Below W4.heap.size W4 W) (fun _ _=>True) (by kernel_rfl) (by kernel_rfl) (by kernel_rfl) trivial (Below.refl _ _).drew ?_ ?_
   · intro listed a W i hI hD hrd him
     have HI:=hid hI
     have HD:=hid hD
     have Hr:=hid hrd
     clear hI hrd hD
     have y5:a.tmps[5]? = some (.pointer (some ⟨W2.heap.size,0,none⟩)):=HI.out.rest 5 (by decide)
     have dK40:=(K4.out.below HI.out.world).cell (i:=0) rfl
     have dK41:=(K4.out.below HI.out.world).cell (i:=1) rfl
     have dK42:=(K4.out.below HI.out.world).cell (i:=2) rfl
     have X0:RV _ listed a 0 16 (.agg #[.bool (ag f),.slice p_1 (aa f) c_1,.slice p_2 (ae on) c_2]):=HI.out.rh
     match i,him,Hr with
     | 0,_,Hi =>
       refine au rfl fun K' hK=>?_
       go_simp
       exact hK.out _ _ ⟨HI.out.pv Hi.out rfl,trivial⟩
     | 1,_,Hi =>
       refine au rfl fun K' hK=>?_
       go_simp
       with_reducible refine(C4.out _).mono ?_
       rintro e W' ⟨u08,u09,u0a,u0b,rfl,u0e,u0f,hb⟩
       exact hK.out _ _ ⟨HI.out.pc Hi.out hb ⟨u08,u09,u0a,u0b,rfl,u0e,u0f⟩,trivial⟩
     | 2,_,Hi =>
       have x0:=X0.g Hi.out (by kernel_rfl)
       obtain⟨v',x1,u08,u09,u0a,u0b,e,u0e,u0f⟩:=HI.out.at (i:=1) Hi.out (by kernel_rfl) (by decide)
       obtain rfl:=e
       have x1:a.tmps[17]? = some (.agg #[.bool (ag i1),.slice u08 (aa i1) u09,.slice u0a (ae di) u0b]):=x1
       have u0y:=hid u0e
       clear u0e
       have u0z:=hid u0f
       clear u0f
       refine au rfl fun K' hK=>?_
       go_simp
       with_reducible refine(C5.out _ _ _ _ _ _ _ _ _ (RF.out.below HI.out.world) (RO.out.below HI.out.world) u0y.out u0z.out).mono ?_
       rintro e W' ⟨u00,u01,u02,u03,rfl,u0A,u0B,hb⟩
       exact hK.out _ _ ⟨HI.out.pc Hi.out hb ⟨u00,u01,u02,u03,rfl,u0A,u0B⟩,trivial⟩
     | 3,_,Hi =>
       refine au rfl fun K' hK=>?_
       go_simp
       exact hK.out _ _ ⟨HI.out.pc Hi.out ((Below.refl W.heap.size W).alloc (Nat.le_refl _) (.cells #[.bool false,.slice none 0 0,.slice none 0 0] 55)) ⟨W.heap.size,rfl,HI.out.world.size,SBk.new _ _ _⟩,trivial⟩
     | n+4,h,_=>exact absurd h (by omega)
   · intro listed a W hI hD hall
     obtain⟨v',x1,u08,u09,u0a,u0b,e,u0e,u0f⟩:=hI.slots 1 (by decide) (hall 1 (by decide))
     obtain rfl:=e
     have u0y:=hid u0e
     clear u0e
     have u0z:=hid u0f
     clear u0f
     obtain⟨v',x2,u00,u01,u02,u03,e,u0A,u0B⟩:=hI.slots 2 (by decide) (hall 2 (by decide))
     obtain rfl:=e
     have u1x:=hid u0A
     clear u0A
     have u1y:=hid u0B
     clear u0B
     have x2:a.tmps[18]? = some (.agg #[.bool (ag g),.slice u00 (aa g) u01,.slice u02 (ae dg) u03]):=x2
     obtain⟨v',x3,u0d,e,u0k,u0l⟩:=hI.slots 3 (by decide) (hall 3 (by decide))
     obtain rfl:=e
     have u0g:=hid u0k
     clear u0k
     have u1e:=hid u0l
     clear u0l
     have x3:a.tmps[6]? = some (.pointer (some ⟨u0d,0,none⟩)):=x3
     have HBW:=hid hI.world
     have HI:=hid hI
     have HA:=hid hall
     clear hI hall
     have K2:=hid (K2.out.below HBW.out)
     have K3:=hid (K3.out.below HBW.out)
     have R2:=hid (R2.out.below HBW.out)
     have T2:=hid (T2.out.below HBW.out)
     have HBX:=hid (HB4.out.trans (HBW.out.mono HB4.out.size))
     have RI:=u0y
     have TI:=u0z
     have RG:=u1x
     have TG:=u1y
     have K5:Hid (SBk W u0d #[.bool false,.slice none 0 0,.slice none 0 0] 55):=u1e
     have dK50:=K5.out.cell (i:=0) rfl
     have fK50:=K5.out.frozen (i:=0)
     have dK51:=K5.out.cell (i:=1) rfl
     have fK51:=K5.out.frozen (i:=1)
     have dK52:=K5.out.cell (i:=2) rfl
     have fK52:=K5.out.frozen (i:=2)
     refine aS (t:=0) ?_
     refine au rfl fun K' hK=>?_
     go_simp
     refine hK.out _ _ ?_
     clear hK
     refine bD ?_
     have s0:∀ {v':Value} {n':Nat},RN W v' n'→RN (storeAll W (u0d) 0 [.bool (ag g),.slice u00 (aa g) u01,.slice u02 (ae dg) u03]) v' n':=fun h'=>aG _ h' K5.out (by simp[bG]) (by simp[aV])
     have o0:∀ {g':Nat} {cs':Array Value} {T':TypeId},g'≠u0d→SBk W g' cs' T'→SBk (storeAll W (u0d) 0 [.bool (ag g),.slice u00 (aa g) u01,.slice u02 (ae dg) u03]) g' cs' T':=fun hg' h'=>aH hg' _ 0 h'
     exact⟨rfl,u08,u09,u0a,u0b,u00,u01,u02,u03,u0d,(HI.out.finx ⟨HI.out.sx HA.out 0,x1,x2,x3,trivial⟩ rfl),(az (l:=[.bool (ag g),.slice u00 (aa g) u01,.slice u02 (ae dg) u03]) (i:=0) (by have:=u0g.out;omega) HBX.out),(o0 (by have:=u0g.out;omega) K2.out),(o0 (by have:=u0g.out;omega) K3.out),(aX (l:=[.bool (ag g),.slice u00 (aa g) u01,.slice u02 (ae dg) u03]) (i:=0) K5.out),(s0 R2.out),(s0 T2.out),(s0 RG.out),(s0 TG.out),u0g.out⟩
 rintro a' W5 ⟨u08,u09,u0a,u0b,u00,u01,u02,u03,u0d,rfl,z0,z1,z2,z3,z4,z5,z6,z7,z8⟩
 have HB5:=hid z0
 have K2:=hid z1
 have K3:=hid z2
 have K5:=hid z3
 have R2:=hid z4
 have T2:=hid z5
 have RG:=hid z6
 have TG:=hid z7
 have R3xW5:=z8
 clear z0 z1 z2 z3 z4 z5 z6 z7 z8
 simp only[putL,List.setIfInBounds_toArray,List.set_cons_zero,List.set_cons_succ]
 have dK50:=K5.out.cell (i:=0) rfl
 have dK51:=K5.out.cell (i:=1) rfl
 have dK52:=K5.out.cell (i:=2) rfl
 have dK20:=K2.out.cell (i:=0) rfl
 have dK21:=K2.out.cell (i:=1) rfl
 have dK22:=K2.out.cell (i:=2) rfl
 go_wp2_with fail
 with_reducible refine(C6.out _ _ _ _ _ _ _ _ _ RG.out TG.out R2.out T2.out).mono ?_
 rintro e W6 ⟨rfl,hb⟩
 clear dK50 dK51 dK52 dK20 dK21 dK22
 have K3:=hid (K3.out.below hb)
 have K5:=hid (K5.out.below hb)
 have RG:=hid (RG.out.below hb)
 have TG:=hid (TG.out.below hb)
 have HB6:=hbt HB5 hb
 clear hb
 have dK50:=K5.out.cell (i:=0) rfl
 have dK51:=K5.out.cell (i:=1) rfl
 have dK52:=K5.out.cell (i:=2) rfl
 have dK30:=K3.out.cell (i:=0) rfl
 have dK31:=K3.out.cell (i:=1) rfl
 have dK32:=K3.out.cell (i:=2) rfl
 have fK30:=K3.out.frozen (i:=0)
 have fK31:=K3.out.frozen (i:=1)
 have fK32:=K3.out.frozen (i:=2)
 go_wp2
 exact bodyPost_ret (v:=.agg #[.bool (ag g),.slice u00 (aa g) u01,.slice u02 (ae dg) u03]) (by simp[results,results74,go_sem,dK30,dK31,dK32]) rfl ⟨_,_,_,_,rfl,(aG [.bool (ag g),.slice u00 (aa g) u01,.slice u02 (ae dg) u03] RG.out K3.out (by simp[bG]) (by simp[aV])),(aG [.bool (ag g),.slice u00 (aa g) u01,.slice u02 (ae dg) u03] TG.out K3.out (by simp[bG]) (by simp[aV])),(az (l:=[.bool (ag g),.slice u00 (aa g) u01,.slice u02 (ae dg) u03]) (i:=0) (by omega) HB6.out)⟩
theorem rG (n1 n2 f k k2 i1 g ja u1 jb u2 vv xx r:Int)(en1 en2 on di dg ds1 du1 ds2 du2 dv dx dr:Nat)(hk:k≠0)(hk2:0<k2)(p1:Option Addr)(c1:Nat)(s1:Option Addr)(d1:Nat)(p2:Option Addr)(c2:Nat)(s2:Option Addr)(d2:Nat)(w:World)(h1:∀ p1 c1 s1 d1 W,RN W (.slice p1 (aa n1) c1) n1.natAbs→RN W (.slice s1 (ae en1) d1) en1→CZ 57 #[.agg #[.bool (ag n1),.slice p1 (aa n1) c1,.slice s1 (ae en1) d1]] W f)(h2:∀ W,CN 63 #[.int .u32 1] W on)(h3:∀ p1 c1 s1 d1 p2 c2 s2 d2 W,RN W (.slice p1 (aa f) c1) f.natAbs→RN W (.slice s1 (ae on) d1) on→RN W (.slice p2 (aa n1) c2) n1.natAbs→RN W (.slice s2 (ae en1) d2) en1→CR 48 #[.agg #[.bool (ag f),.slice p1 (aa f) c1,.slice s1 (ae on) d1],.agg #[.bool (ag n1),.slice p2 (aa n1) c2,.slice s2 (ae en1) d2]] W (.int .i64 k))(h4:∀ W,CF 84 #[.int .i64 1] W i1 di)(h5:∀ p1 c1 s1 d1 p2 c2 s2 d2 W,RN W (.slice p1 (aa f) c1) f.natAbs→RN W (.slice s1 (ae on) d1) on→RN W (.slice p2 (aa i1) c2) i1.natAbs→RN W (.slice s2 (ae di) d2) di→CF 50 #[.agg #[.bool (ag f),.slice p1 (aa f) c1,.slice s1 (ae on) d1],.agg #[.bool (ag i1),.slice p2 (aa i1) c2,.slice s2 (ae di) d2]] W g dg)(h6:∀ p1 c1 s1 d1 p2 c2 s2 d2 W,RN W (.slice p1 (aa g) c1) g.natAbs→RN W (.slice s1 (ae dg) d1) dg→RN W (.slice p2 (aa n2) c2) n2.natAbs→RN W (.slice s2 (ae en2) d2) en2→CR 48 #[.agg #[.bool (ag g),.slice p1 (aa g) c1,.slice s1 (ae dg) d1],.agg #[.bool (ag n2),.slice p2 (aa n2) c2,.slice s2 (ae en2) d2]] W (.int .i64 k2))(h7:∀ p1 c1 s1 d1 p2 c2 s2 d2 W,RN W (.slice p1 (aa n2) c1) n2.natAbs→RN W (.slice s1 (ae en2) d1) en2→RN W (.slice p2 (aa f) c2) f.natAbs→RN W (.slice s2 (ae on) d2) on→CF 51 #[.agg #[.bool (ag n2),.slice p1 (aa n2) c1,.slice s1 (ae en2) d1],.agg #[.bool (ag f),.slice p2 (aa f) c2,.slice s2 (ae on) d2]] W ja ds1)(h8:∀ p1 c1 s1 d1 W,RN W (.slice p1 (aa ja) c1) ja.natAbs→RN W (.slice s1 (ae ds1) d1) ds1→CF 102 #[.agg #[.bool (ag ja),.slice p1 (aa ja) c1,.slice s1 (ae ds1) d1]] W u1 du1)(h9:∀ p1 c1 s1 d1 p2 c2 s2 d2 W,RN W (.slice p1 (aa n1) c1) n1.natAbs→RN W (.slice s1 (ae en1) d1) en1→RN W (.slice p2 (aa f) c2) f.natAbs→RN W (.slice s2 (ae on) d2) on→CF 51 #[.agg #[.bool (ag n1),.slice p1 (aa n1) c1,.slice s1 (ae en1) d1],.agg #[.bool (ag f),.slice p2 (aa f) c2,.slice s2 (ae on) d2]] W jb ds2)(h10:∀ p1 c1 s1 d1 W,RN W (.slice p1 (aa jb) c1) jb.natAbs→RN W (.slice s1 (ae ds2) d1) ds2→CF 102 #[.agg #[.bool (ag jb),.slice p1 (aa jb) c1,.slice s1 (ae ds2) d1]] W u2 du2)(h11:∀ p1 c1 s1 d1 p2 c2 s2 d2 W,RN W (.slice p1 (aa u1) c1) u1.natAbs→RN W (.slice s1 (ae du1) d1) du1→RN W (.slice p2 (aa u2) c2) u2.natAbs→RN W (.slice s2 (ae du2) d2) du2→CF 74 #[.agg #[.bool (ag u1),.slice p1 (aa u1) c1,.slice s1 (ae du1) d1],.agg #[.bool (ag u2),.slice p2 (aa u2) c2,.slice s2 (ae du2) d2]] W vv dv)(h12:∀ p1 c1 s1 d1 W,RN W (.slice p1 (aa vv) c1) vv.natAbs→RN W (.slice s1 (ae dv) d1) dv→CF 102 #[.agg #[.bool (ag vv),.slice p1 (aa vv) c1,.slice s1 (ae dv) d1]] W xx dx)(h13:∀ p1 c1 s1 d1 p2 c2 s2 d2 W,RN W (.slice p1 (aa f) c1) f.natAbs→RN W (.slice s1 (ae on) d1) on→RN W (.slice p2 (aa xx) c2) xx.natAbs→RN W (.slice s2 (ae dx) d2) dx→CF 50 #[.agg #[.bool (ag f),.slice p1 (aa f) c1,.slice s1 (ae on) d1],.agg #[.bool (ag xx),.slice p2 (aa xx) c2,.slice s2 (ae dx) d2]] W r dr)(r1:RN w (.slice p1 (aa n1) c1) n1.natAbs)(t1:RN w (.slice s1 (ae en1) d1) en1)(r2:RN w (.slice p2 (aa n2) c2) n2.natAbs)(t2:RN w (.slice s2 (ae en2) d2) en2) :
 CF 74 #[.agg #[.bool (ag n1),.slice p1 (aa n1) c1,.slice s1 (ae en1) d1],.agg #[.bool (ag n2),.slice p2 (aa n2) c2,.slice s2 (ae en2) d2]] w r dr:=by
 have C1:=hid h1
 have C2:=hid h2
 have C3:=hid h3
 have C4:=hid h4
 have C5:=hid h5
 have C6:=hid h6
 have C7:=hid h7
 have C8:=hid h8
 have C9:=hid h9
 have C10:=hid h10
 have C11:=hid h11
 have C12:=hid h12
 have C13:=hid h13
 have R1:=hid r1
 have T1:=hid t1
 have R2:=hid r2
 have T2:=hid t2
 have ka0:(k==0)=false:=by rw[beq_eq_false_iff_ne];exact hk
 have ka1:¬ k=0:=hk
 clear hk
 have q0:decide (k2≤0)=false:=decide_eq_false (by omega)
 have q1:¬ k2≤0:=by omega
 clear hk2 h1 h2 h3 h4 h5 h6 h7 h8 h9 h10 h11 h12 h13 r1 t1 r2 t2
 go_enter func74,ntmps74
 go_upto_region 1 with fail
 refine aK w [(#[.bool (ag n1),.slice p1 (aa n1) c1,.slice s1 (ae en1) d1],55),(#[.bool (ag n2),.slice p2 (aa n2) c2,.slice s2 (ae en2) d2],55),(#[.bool false,.slice none 0 0,.slice none 0 0],55)] rfl ?_
 rintro W0 ⟨k1,k2,k3,hb⟩
 have HB0:=hid (show Below w.heap.size w W0 from hb)
 have R1:=hid (R1.out.below HB0.out)
 have T1:=hid (T1.out.below HB0.out)
 have R2:=hid (R2.out.below HB0.out)
 have T2:=hid (T2.out.below HB0.out)
 have K1:=hid k1
 have K2:=hid k2
 have K3:=hid k3
 clear k1 k2 k3 hb
 have dK10:=K1.out.cell (i:=0) rfl
 have dK11:=K1.out.cell (i:=1) rfl
 have dK12:=K1.out.cell (i:=2) rfl
 go_wp2_with fail
 with_reducible refine(C1.out _ _ _ _ _ R1.out T1.out).mono ?_
 rintro e W1 ⟨p_1,c_1,rfl,u0c,hb⟩
 clear dK10 dK11 dK12
 have K1:=hid (K1.out.below hb)
 have K2:=hid (K2.out.below hb)
 have K3:=hid (K3.out.below hb)
 have R1:=hid (R1.out.below hb)
 have T1:=hid (T1.out.below hb)
 have R2:=hid (R2.out.below hb)
 have T2:=hid (T2.out.below hb)
 have HB1:=hbt HB0 hb
 have RF:=hid u0c
 clear hb u0c
 go_wp2_with fail
 with_reducible refine(C2.out _).mono ?_
 rintro e W2 ⟨p_2,c_2,rfl,u0C,hb⟩
 have K1:=hid (K1.out.below hb)
 have K2:=hid (K2.out.below hb)
 have K3:=hid (K3.out.below hb)
 have R1:=hid (R1.out.below hb)
 have T1:=hid (T1.out.below hb)
 have R2:=hid (R2.out.below hb)
 have T2:=hid (T2.out.below hb)
 have RF:=hid (RF.out.below hb)
 have HB2:=hbt HB1 hb
 have RO:=hid u0C
 clear hb u0C
 go_upto_region 2 with fail
 refine aK W2 [(#[.bool (ag f),.slice p_1 (aa f) c_1,.slice p_2 (ae on) c_2],55)] rfl ?_
 have L1:=K1.out.lt
 have L2:=K2.out.lt
 have L3:=K3.out.lt
 have L4:=HB2.out.size
 rintro W3 ⟨k4,hb⟩
 have hb:Below W2.heap.size W2 W3:=hb
 have K1:=hid (K1.out.below hb)
 have K2:=hid (K2.out.below hb)
 have K3:=hid (K3.out.below hb)
 have R1:=hid (R1.out.below hb)
 have T1:=hid (T1.out.below hb)
 have R2:=hid (R2.out.below hb)
 have T2:=hid (T2.out.below hb)
 have RF:=hid (RF.out.below hb)
 have RO:=hid (RO.out.below hb)
 have HB3:=hbt HB2 hb
 have K4:=hid k4
 clear k4 hb
 have dK40:=K4.out.cell (i:=0) rfl
 have dK41:=K4.out.cell (i:=1) rfl
 have dK42:=K4.out.cell (i:=2) rfl
 have dK10:=K1.out.cell (i:=0) rfl
 have dK11:=K1.out.cell (i:=1) rfl
 have dK12:=K1.out.cell (i:=2) rfl
 go_wp2_with fail
 with_reducible refine(C3.out _ _ _ _ _ _ _ _ _ RF.out RO.out R1.out T1.out).mono ?_
 rintro e W4 ⟨rfl,hb⟩
 clear dK40 dK41 dK42 dK10 dK11 dK12
 have K1:=hid (K1.out.below hb)
 have K2:=hid (K2.out.below hb)
 have K3:=hid (K3.out.below hb)
 have K4:=hid (K4.out.below hb)
 have R1:=hid (R1.out.below hb)
 have T1:=hid (T1.out.below hb)
 have R2:=hid (R2.out.below hb)
 have T2:=hid (T2.out.below hb)
 have RF:=hid (RF.out.below hb)
 have RO:=hid (RO.out.below hb)
 have HB4:=hbt HB3 hb
 clear hb
 go_wp2_with fail
 have L5:=K1.out.lt
 have L6:=K2.out.lt
 have L7:=K3.out.lt
 have L8:=K4.out.lt
 have L9:=HB4.out.size
 refine aI (fun a0 a' V=>∃ u08 u09 u0a u0b u00 u01 u02 u03 u0d,a'=⟨putL [(16,.agg #[.bool (ag f),.slice p_1 (aa f) c_1,.slice p_2 (ae on) c_2]),(17,.agg #[.bool (ag i1),.slice u08 (aa i1) u09,.slice u0a (ae di) u0b]),(18,.agg #[.bool (ag g),.slice u00 (aa g) u01,.slice u02 (ae dg) u03]),(6,.pointer (some ⟨u0d,0,none⟩))] a0.tmps,a0.defers⟩∧Below w.heap.size w V∧SBk V (w.heap.size) #[.bool (ag n1),.slice p1 (aa n1) c1,.slice s1 (ae en1) d1] 55∧SBk V (w.heap.size+1) #[.bool (ag n2),.slice p2 (aa n2) c2,.slice s2 (ae en2) d2] 55∧SBk V (w.heap.size+1+1) #[.bool false,.slice none 0 0,.slice none 0 0] 55∧SBk V (W2.heap.size) #[.bool (ag f),.slice p_1 (aa f) c_1,.slice p_2 (ae on) c_2] 55∧SBk V (u0d) #[.bool (ag g),.slice u00 (aa g) u01,.slice u02 (ae dg) u03] 55∧RN V (.slice p1 (aa n1) c1) n1.natAbs∧RN V (.slice s1 (ae en1) d1) en1∧RN V (.slice p2 (aa n2) c2) n2.natAbs∧RN V (.slice s2 (ae en2) d2) en2∧RN V (.slice p_1 (aa f) c_1) f.natAbs∧RN V (.slice p_2 (ae on) c_2) on∧RN V (.slice u00 (aa g) u01) (g).natAbs∧RN V (.slice u02 (ae dg) u03) (dg)∧W4.heap.size≤u0d) ?_ ?_
 · refine aF (by kernel_rfl) 4 1 (fun i=>[16,17,18,6].getD i 0) (RelR [Rel.val (.agg #[.bool (ag f),.slice p_1 (aa f) c_1,.slice p_2 (ae on) c_2]),⟨fun v W=>∃ p c s d,v=.agg #[.bool (ag i1),.slice p (aa i1) c,.slice s (ae di) d]∧RN W (.slice p (aa i1) c) (i1).natAbs∧RN W (.slice s (ae di) d) (di),fun _ _ _ ⟨p,c,s,d,e,h0,h1⟩ hb=>⟨p,c,s,d,e,h0.below hb,h1.below hb⟩⟩,⟨fun v W=>∃ p c s d,v=.agg #[.bool (ag g),.slice p (aa g) c,.slice s (ae dg) d]∧RN W (.slice p (aa g) c) (g).natAbs∧RN W (.slice s (ae dg) d) (dg),fun _ _ _ ⟨p,c,s,d,e,h0,h1⟩ hb=>⟨p,c,s,d,e,h0.below hb,h1.below hb⟩⟩,Rel.ptr W4.heap.size (.cells #[.bool false,.slice none 0 0,.slice none 0 0] 55)]) (fun W=>Below W4.heap.size W4 W) (fun _ _=>True) (by kernel_rfl) (by kernel_rfl) (by kernel_rfl) trivial (Below.refl _ _).drew ?_ ?_
   · intro listed a W i hI hD hrd him
     have HI:=hid hI
     have HD:=hid hD
     have Hr:=hid hrd
     clear hI hrd hD
     have y5:a.tmps[5]? = some (.pointer (some ⟨W2.heap.size,0,none⟩)):=HI.out.rest 5 (by decide)
     have dK40:=(K4.out.below HI.out.world).cell (i:=0) rfl
     have dK41:=(K4.out.below HI.out.world).cell (i:=1) rfl
     have dK42:=(K4.out.below HI.out.world).cell (i:=2) rfl
     have X0:RV _ listed a 0 16 (.agg #[.bool (ag f),.slice p_1 (aa f) c_1,.slice p_2 (ae on) c_2]):=HI.out.rh
     match i,him,Hr with
     | 0,_,Hi =>
       refine au rfl fun K' hK=>?_
       go_simp
       exact hK.out _ _ ⟨HI.out.pv Hi.out rfl,trivial⟩
     | 1,_,Hi =>
       refine au rfl fun K' hK=>?_
       go_simp
       with_reducible refine(C4.out _).mono ?_
       rintro e W' ⟨u08,u09,u0a,u0b,rfl,u0e,u0f,hb⟩
       exact hK.out _ _ ⟨HI.out.pc Hi.out hb ⟨u08,u09,u0a,u0b,rfl,u0e,u0f⟩,trivial⟩
     | 2,_,Hi =>
       have x0:=X0.g Hi.out (by kernel_rfl)
       obtain⟨v',x1,u08,u09,u0a,u0b,e,u0e,u0f⟩:=HI.out.at (i:=1) Hi.out (by kernel_rfl) (by decide)
       obtain rfl:=e
       have x1:a.tmps[17]? = some (.agg #[.bool (ag i1),.slice u08 (aa i1) u09,.slice u0a (ae di) u0b]):=x1
       have u0y:=hid u0e
       clear u0e
       have u0z:=hid u0f
       clear u0f
       refine au rfl fun K' hK=>?_
       go_simp
       with_reducible refine(C5.out _ _ _ _ _ _ _ _ _ (RF.out.below HI.out.world) (RO.out.below HI.out.world) u0y.out u0z.out).mono ?_
       rintro e W' ⟨u00,u01,u02,u03,rfl,u0A,u0B,hb⟩
       exact hK.out _ _ ⟨HI.out.pc Hi.out hb ⟨u00,u01,u02,u03,rfl,u0A,u0B⟩,trivial⟩
     | 3,_,Hi =>
       refine au rfl fun K' hK=>?_
       go_simp
       exact hK.out _ _ ⟨HI.out.pc Hi.out ((Below.refl W.heap.size W).alloc (Nat.le_refl _) (.cells #[.bool false,.slice none 0 0,.slice none 0 0] 55)) ⟨W.heap.size,rfl,HI.out.world.size,SBk.new _ _ _⟩,trivial⟩
     | n+4,h,_=>exact absurd h (by omega)
   · intro listed a W hI hD hall
     obtain⟨v',x1,u08,u09,u0a,u0b,e,u0e,u0f⟩:=hI.slots 1 (by decide) (hall 1 (by decide))
     obtain rfl:=e
     have u0y:=hid u0e
     clear u0e
     have u0z:=hid u0f
     clear u0f
     obtain⟨v',x2,u00,u01,u02,u03,e,u0A,u0B⟩:=hI.slots 2 (by decide) (hall 2 (by decide))
     obtain rfl:=e
     have u1x:=hid u0A
     clear u0A
     have u1y:=hid u0B
     clear u0B
     have x2:a.tmps[18]? = some (.agg #[.bool (ag g),.slice u00 (aa g) u01,.slice u02 (ae dg) u03]):=x2
     obtain⟨v',x3,u0d,e,u0k,u0l⟩:=hI.slots 3 (by decide) (hall 3 (by decide))
     obtain rfl:=e
     have u0g:=hid u0k
     clear u0k
     have u1e:=hid u0l
     clear u0l
     have x3:a.tmps[6]? = some (.pointer (some ⟨u0d,0,none⟩)):=x3
     have HBW:=hid hI.world
     have HI:=hid hI
     have HA:=hid hall
     clear hI hall
     have K1:=hid (K1.out.below HBW.out)
     have K2:=hid (K2.out.below HBW.out)
     have K3:=hid (K3.out.below HBW.out)
     have K4:=hid (K4.out.below HBW.out)
     have R1:=hid (R1.out.below HBW.out)
     have T1:=hid (T1.out.below HBW.out)
     have R2:=hid (R2.out.below HBW.out)
     have T2:=hid (T2.out.below HBW.out)
     have RF:=hid (RF.out.below HBW.out)
     have RO:=hid (RO.out.below HBW.out)
     have HBX:=hid (HB4.out.trans (HBW.out.mono HB4.out.size))
     have RI:=u0y
     have TI:=u0z
     have RG:=u1x
     have TG:=u1y
     have K5:Hid (SBk W u0d #[.bool false,.slice none 0 0,.slice none 0 0] 55):=u1e
     have dK50:=K5.out.cell (i:=0) rfl
     have fK50:=K5.out.frozen (i:=0)
     have dK51:=K5.out.cell (i:=1) rfl
     have fK51:=K5.out.frozen (i:=1)
     have dK52:=K5.out.cell (i:=2) rfl
     have fK52:=K5.out.frozen (i:=2)
     refine aS (t:=0) ?_
     refine au rfl fun K' hK=>?_
     go_simp
     refine hK.out _ _ ?_
     clear hK
     refine bD ?_
     have s0:∀ {v':Value} {n':Nat},RN W v' n'→RN (storeAll W (u0d) 0 [.bool (ag g),.slice u00 (aa g) u01,.slice u02 (ae dg) u03]) v' n':=fun h'=>aG _ h' K5.out (by simp[bG]) (by simp[aV])
     have o0:∀ {g':Nat} {cs':Array Value} {T':TypeId},g'≠u0d→SBk W g' cs' T'→SBk (storeAll W (u0d) 0 [.bool (ag g),.slice u00 (aa g) u01,.slice u02 (ae dg) u03]) g' cs' T':=fun hg' h'=>aH hg' _ 0 h'
     exact⟨rfl,u08,u09,u0a,u0b,u00,u01,u02,u03,u0d,(HI.out.finx ⟨HI.out.sx HA.out 0,x1,x2,x3,trivial⟩ rfl),(az (l:=[.bool (ag g),.slice u00 (aa g) u01,.slice u02 (ae dg) u03]) (i:=0) (by have:=u0g.out;omega) HBX.out),(o0 (by have:=u0g.out;omega) K1.out),(o0 (by have:=u0g.out;omega) K2.out),(o0 (by have:=u0g.out;omega) K3.out),(o0 (by have:=u0g.out;omega) K4.out),(aX (l:=[.bool (ag g),.slice u00 (aa g) u01,.slice u02 (ae dg) u03]) (i:=0) K5.out),(s0 R1.out),(s0 T1.out),(s0 R2.out),(s0 T2.out),(s0 RF.out),(s0 RO.out),(s0 RG.out),(s0 TG.out),u0g.out⟩
 rintro a' W5 ⟨u08,u09,u0a,u0b,u00,u01,u02,u03,u0d,rfl,z0,z1,z2,z3,z4,z5,z6,z7,z8,z9,z10,z11,z12,z13,z14⟩
 have HB5:=hid z0
 have K1:=hid z1
 have K2:=hid z2
 have K3:=hid z3
 have K4:=hid z4
 have K5:=hid z5
 have R1:=hid z6
 have T1:=hid z7
 have R2:=hid z8
 have T2:=hid z9
 have RF:=hid z10
 have RO:=hid z11
 have RG:=hid z12
 have TG:=hid z13
 have R3xW5:=z14
 clear z0 z1 z2 z3 z4 z5 z6 z7 z8 z9 z10 z11 z12 z13 z14
 simp only[putL,List.setIfInBounds_toArray,List.set_cons_zero,List.set_cons_succ]
 have dK50:=K5.out.cell (i:=0) rfl
 have dK51:=K5.out.cell (i:=1) rfl
 have dK52:=K5.out.cell (i:=2) rfl
 have dK20:=K2.out.cell (i:=0) rfl
 have dK21:=K2.out.cell (i:=1) rfl
 have dK22:=K2.out.cell (i:=2) rfl
 go_wp2_with fail
 with_reducible refine(C6.out _ _ _ _ _ _ _ _ _ RG.out TG.out R2.out T2.out).mono ?_
 rintro e W6 ⟨rfl,hb⟩
 clear dK50 dK51 dK52 dK20 dK21 dK22
 have K1:=hid (K1.out.below hb)
 have K2:=hid (K2.out.below hb)
 have K3:=hid (K3.out.below hb)
 have K4:=hid (K4.out.below hb)
 have R1:=hid (R1.out.below hb)
 have T1:=hid (T1.out.below hb)
 have R2:=hid (R2.out.below hb)
 have T2:=hid (T2.out.below hb)
 have RF:=hid (RF.out.below hb)
 have RO:=hid (RO.out.below hb)
 have HB6:=hbt HB5 hb
 clear hb
 go_wp2_with fail
 refine aI (fun a0 a' V=>∃ u0D u0E u0F u0G u0H u0I u0J u0K u0L u0M u0N u0O u0P u0Q u0R u0S u0T u0U u0V u0W u0X u0Y u0Z u10 u0m u0n u0o u0p,a'=⟨putL [(24,.agg #[.bool (ag f),.slice p_1 (aa f) c_1,.slice p_2 (ae on) c_2]),(25,.agg #[.bool (ag n2),.slice p2 (aa n2) c2,.slice s2 (ae en2) d2]),(26,.agg #[.bool (ag f),.slice p_1 (aa f) c_1,.slice p_2 (ae on) c_2]),(27,.agg #[.bool (ag ja),.slice u0D (aa ja) u0E,.slice u0F (ae ds1) u0G]),(28,.agg #[.bool (ag u1),.slice u0H (aa u1) u0I,.slice u0J (ae du1) u0K]),(29,.agg #[.bool (ag n1),.slice p1 (aa n1) c1,.slice s1 (ae en1) d1]),(30,.agg #[.bool (ag f),.slice p_1 (aa f) c_1,.slice p_2 (ae on) c_2]),(31,.agg #[.bool (ag jb),.slice u0L (aa jb) u0M,.slice u0N (ae ds2) u0O]),(32,.agg #[.bool (ag u2),.slice u0P (aa u2) u0Q,.slice u0R (ae du2) u0S]),(33,.agg #[.bool (ag vv),.slice u0T (aa vv) u0U,.slice u0V (ae dv) u0W]),(34,.agg #[.bool (ag xx),.slice u0X (aa xx) u0Y,.slice u0Z (ae dx) u10]),(35,.agg #[.bool (ag r),.slice u0m (aa r) u0n,.slice u0o (ae dr) u0p])] a0.tmps,a0.defers⟩∧Below w.heap.size w V∧SBk V (w.heap.size+1+1) #[.bool (ag r),.slice u0m (aa r) u0n,.slice u0o (ae dr) u0p] 55∧RN V (.slice u0m (aa r) u0n) (r).natAbs∧RN V (.slice u0o (ae dr) u0p) (dr)) ?_ ?_
 · refine aF (by kernel_rfl) 12 1 (fun i=>[24,25,26,27,28,29,30,31,32,33,34,35].getD i 0) (RelR [Rel.val (.agg #[.bool (ag f),.slice p_1 (aa f) c_1,.slice p_2 (ae on) c_2]),Rel.val (.agg #[.bool (ag n2),.slice p2 (aa n2) c2,.slice s2 (ae en2) d2]),Rel.val (.agg #[.bool (ag f),.slice p_1 (aa f) c_1,.slice p_2 (ae on) c_2]),⟨fun v W=>∃ p c s d,v=.agg #[.bool (ag ja),.slice p (aa ja) c,.slice s (ae ds1) d]∧RN W (.slice p (aa ja) c) (ja).natAbs∧RN W (.slice s (ae ds1) d) (ds1),fun _ _ _ ⟨p,c,s,d,e,h0,h1⟩ hb=>⟨p,c,s,d,e,h0.below hb,h1.below hb⟩⟩,⟨fun v W=>∃ p c s d,v=.agg #[.bool (ag u1),.slice p (aa u1) c,.slice s (ae du1) d]∧RN W (.slice p (aa u1) c) (u1).natAbs∧RN W (.slice s (ae du1) d) (du1),fun _ _ _ ⟨p,c,s,d,e,h0,h1⟩ hb=>⟨p,c,s,d,e,h0.below hb,h1.below hb⟩⟩,Rel.val (.agg #[.bool (ag n1),.slice p1 (aa n1) c1,.slice s1 (ae en1) d1]),Rel.val (.agg #[.bool (ag f),.slice p_1 (aa f) c_1,.slice p_2 (ae on) c_2]),⟨fun v W=>∃ p c s d,v=.agg #[.bool (ag jb),.slice p (aa jb) c,.slice s (ae ds2) d]∧RN W (.slice p (aa jb) c) (jb).natAbs∧RN W (.slice s (ae ds2) d) (ds2),fun _ _ _ ⟨p,c,s,d,e,h0,h1⟩ hb=>⟨p,c,s,d,e,h0.below hb,h1.below hb⟩⟩,⟨fun v W=>∃ p c s d,v=.agg #[.bool (ag u2),.slice p (aa u2) c,.slice s (ae du2) d]∧RN W (.slice p (aa u2) c) (u2).natAbs∧RN W (.slice s (ae du2) d) (du2),fun _ _ _ ⟨p,c,s,d,e,h0,h1⟩ hb=>⟨p,c,s,d,e,h0.below hb,h1.below hb⟩⟩,⟨fun v W=>∃ p c s d,v=.agg #[.bool (ag vv),.slice p (aa vv) c,.slice s (ae dv) d]∧RN W (.slice p (aa vv) c) (vv).natAbs∧RN W (.slice s (ae dv) d) (dv),fun _ _ _ ⟨p,c,s,d,e,h0,h1⟩ hb=>⟨p,c,s,d,e,h0.below hb,h1.below hb⟩⟩,⟨fun v W=>∃ p c s d,v=.agg #[.bool (ag xx),.slice p (aa xx) c,.slice s (ae dx) d]∧RN W (.slice p (aa xx) c) (xx).natAbs∧RN W (.slice s (ae dx) d) (dx),fun _ _ _ ⟨p,c,s,d,e,h0,h1⟩ hb=>⟨p,c,s,d,e,h0.below hb,h1.below hb⟩⟩,⟨fun v W=>∃ p c s d,v=.agg #[.bool (ag r),.slice p (aa r) c,.slice s (ae dr) d]∧RN W (.slice p (aa r) c) (r).natAbs∧RN W (.slice s (ae dr) d) (dr),fun _ _ _ ⟨p,c,s,d,e,h0,h1⟩ hb=>⟨p,c,s,d,e,h0.below hb,h1.below hb⟩⟩]) (fun W=>Below W6.heap.size W6 W) (fun _ _=>True) (by kernel_rfl) (by kernel_rfl) (by kernel_rfl) trivial (Below.refl _ _).drew ?_ ?_
   · intro listed a W i hI hD hrd him
     have HI:=hid hI
     have HD:=hid hD
     have Hr:=hid hrd
     clear hI hrd hD
     have y5:a.tmps[5]? = some (.pointer (some ⟨W2.heap.size,0,none⟩)):=HI.out.rest 5 (by decide)
     have y3:a.tmps[3]? = some (.pointer (some ⟨w.heap.size+1,0,none⟩)):=HI.out.rest 3 (by decide)
     have y2:a.tmps[2]? = some (.pointer (some ⟨w.heap.size,0,none⟩)):=HI.out.rest 2 (by decide)
     have dK40:=(K4.out.below HI.out.world).cell (i:=0) rfl
     have dK41:=(K4.out.below HI.out.world).cell (i:=1) rfl
     have dK42:=(K4.out.below HI.out.world).cell (i:=2) rfl
     have dK20:=(K2.out.below HI.out.world).cell (i:=0) rfl
     have dK21:=(K2.out.below HI.out.world).cell (i:=1) rfl
     have dK22:=(K2.out.below HI.out.world).cell (i:=2) rfl
     have dK10:=(K1.out.below HI.out.world).cell (i:=0) rfl
     have dK11:=(K1.out.below HI.out.world).cell (i:=1) rfl
     have dK12:=(K1.out.below HI.out.world).cell (i:=2) rfl
     have X1:RV _ listed a 1 25 (.agg #[.bool (ag n2),.slice p2 (aa n2) c2,.slice s2 (ae en2) d2]):=HI.out.rh
     have X2:RV _ listed a 2 26 (.agg #[.bool (ag f),.slice p_1 (aa f) c_1,.slice p_2 (ae on) c_2]):=HI.out.rh
     have X5:RV _ listed a 5 29 (.agg #[.bool (ag n1),.slice p1 (aa n1) c1,.slice s1 (ae en1) d1]):=HI.out.rh
     have X6:RV _ listed a 6 30 (.agg #[.bool (ag f),.slice p_1 (aa f) c_1,.slice p_2 (ae on) c_2]):=HI.out.rh
     have X0:RV _ listed a 0 24 (.agg #[.bool (ag f),.slice p_1 (aa f) c_1,.slice p_2 (ae on) c_2]):=HI.out.rh
     match i,him,Hr with
     | 0,_,Hi =>
       refine au rfl fun K' hK=>?_
       go_simp
       exact hK.out _ _ ⟨HI.out.pv Hi.out rfl,trivial⟩
     | 1,_,Hi =>
       refine au rfl fun K' hK=>?_
       go_simp
       exact hK.out _ _ ⟨HI.out.pv Hi.out rfl,trivial⟩
     | 2,_,Hi =>
       refine au rfl fun K' hK=>?_
       go_simp
       exact hK.out _ _ ⟨HI.out.pv Hi.out rfl,trivial⟩
     | 3,_,Hi =>
       have x1:=X1.g Hi.out (by kernel_rfl)
       have x2:=X2.g Hi.out (by kernel_rfl)
       refine au rfl fun K' hK=>?_
       go_simp
       with_reducible refine(C7.out _ _ _ _ _ _ _ _ _ (R2.out.below HI.out.world) (T2.out.below HI.out.world) (RF.out.below HI.out.world) (RO.out.below HI.out.world)).mono ?_
       rintro e W' ⟨u0D,u0E,u0F,u0G,rfl,u1f,u1g,hb⟩
       exact hK.out _ _ ⟨HI.out.pc Hi.out hb ⟨u0D,u0E,u0F,u0G,rfl,u1f,u1g⟩,trivial⟩
     | 4,_,Hi =>
       obtain⟨v',x3,u0D,u0E,u0F,u0G,e,u1f,u1g⟩:=HI.out.at (i:=3) Hi.out (by kernel_rfl) (by decide)
       obtain rfl:=e
       have x3:a.tmps[27]? = some (.agg #[.bool (ag ja),.slice u0D (aa ja) u0E,.slice u0F (ae ds1) u0G]):=x3
       have u1z:=hid u1f
       clear u1f
       have u1A:=hid u1g
       clear u1g
       refine au rfl fun K' hK=>?_
       go_simp
       with_reducible refine(C8.out _ _ _ _ _ u1z.out u1A.out).mono ?_
       rintro e W' ⟨u0H,u0I,u0J,u0K,rfl,u1h,u1i,hb⟩
       exact hK.out _ _ ⟨HI.out.pc Hi.out hb ⟨u0H,u0I,u0J,u0K,rfl,u1h,u1i⟩,trivial⟩
     | 5,_,Hi =>
       refine au rfl fun K' hK=>?_
       go_simp
       exact hK.out _ _ ⟨HI.out.pv Hi.out rfl,trivial⟩
     | 6,_,Hi =>
       refine au rfl fun K' hK=>?_
       go_simp
       exact hK.out _ _ ⟨HI.out.pv Hi.out rfl,trivial⟩
     | 7,_,Hi =>
       have x5:=X5.g Hi.out (by kernel_rfl)
       have x6:=X6.g Hi.out (by kernel_rfl)
       refine au rfl fun K' hK=>?_
       go_simp
       with_reducible refine(C9.out _ _ _ _ _ _ _ _ _ (R1.out.below HI.out.world) (T1.out.below HI.out.world) (RF.out.below HI.out.world) (RO.out.below HI.out.world)).mono ?_
       rintro e W' ⟨u0L,u0M,u0N,u0O,rfl,u1j,u1k,hb⟩
       exact hK.out _ _ ⟨HI.out.pc Hi.out hb ⟨u0L,u0M,u0N,u0O,rfl,u1j,u1k⟩,trivial⟩
     | 8,_,Hi =>
       obtain⟨v',x7,u0L,u0M,u0N,u0O,e,u1j,u1k⟩:=HI.out.at (i:=7) Hi.out (by kernel_rfl) (by decide)
       obtain rfl:=e
       have x7:a.tmps[31]? = some (.agg #[.bool (ag jb),.slice u0L (aa jb) u0M,.slice u0N (ae ds2) u0O]):=x7
       have u1B:=hid u1j
       clear u1j
       have u1C:=hid u1k
       clear u1k
       refine au rfl fun K' hK=>?_
       go_simp
       with_reducible refine(C10.out _ _ _ _ _ u1B.out u1C.out).mono ?_
       rintro e W' ⟨u0P,u0Q,u0R,u0S,rfl,u1l,u1m,hb⟩
       exact hK.out _ _ ⟨HI.out.pc Hi.out hb ⟨u0P,u0Q,u0R,u0S,rfl,u1l,u1m⟩,trivial⟩
     | 9,_,Hi =>
       obtain⟨v',x4,u0H,u0I,u0J,u0K,e,u1h,u1i⟩:=HI.out.at (i:=4) Hi.out (by kernel_rfl) (by decide)
       obtain rfl:=e
       have x4:a.tmps[28]? = some (.agg #[.bool (ag u1),.slice u0H (aa u1) u0I,.slice u0J (ae du1) u0K]):=x4
       have u1D:=hid u1h
       clear u1h
       have u1E:=hid u1i
       clear u1i
       obtain⟨v',x8,u0P,u0Q,u0R,u0S,e,u1l,u1m⟩:=HI.out.at (i:=8) Hi.out (by kernel_rfl) (by decide)
       obtain rfl:=e
       have x8:a.tmps[32]? = some (.agg #[.bool (ag u2),.slice u0P (aa u2) u0Q,.slice u0R (ae du2) u0S]):=x8
       have u1F:=hid u1l
       clear u1l
       have u1G:=hid u1m
       clear u1m
       refine au rfl fun K' hK=>?_
       go_simp
       with_reducible refine(C11.out _ _ _ _ _ _ _ _ _ u1D.out u1E.out u1F.out u1G.out).mono ?_
       rintro e W' ⟨u0T,u0U,u0V,u0W,rfl,u1n,u1o,hb⟩
       exact hK.out _ _ ⟨HI.out.pc Hi.out hb ⟨u0T,u0U,u0V,u0W,rfl,u1n,u1o⟩,trivial⟩
     | 10,_,Hi =>
       obtain⟨v',x9,u0T,u0U,u0V,u0W,e,u1n,u1o⟩:=HI.out.at (i:=9) Hi.out (by kernel_rfl) (by decide)
       obtain rfl:=e
       have x9:a.tmps[33]? = some (.agg #[.bool (ag vv),.slice u0T (aa vv) u0U,.slice u0V (ae dv) u0W]):=x9
       have u1H:=hid u1n
       clear u1n
       have u1I:=hid u1o
       clear u1o
       refine au rfl fun K' hK=>?_
       go_simp
       with_reducible refine(C12.out _ _ _ _ _ u1H.out u1I.out).mono ?_
       rintro e W' ⟨u0X,u0Y,u0Z,u10,rfl,u1p,u1q,hb⟩
       exact hK.out _ _ ⟨HI.out.pc Hi.out hb ⟨u0X,u0Y,u0Z,u10,rfl,u1p,u1q⟩,trivial⟩
     | 11,_,Hi =>
       have x0:=X0.g Hi.out (by kernel_rfl)
       obtain⟨v',x10,u0X,u0Y,u0Z,u10,e,u1p,u1q⟩:=HI.out.at (i:=10) Hi.out (by kernel_rfl) (by decide)
       obtain rfl:=e
       have x10:a.tmps[34]? = some (.agg #[.bool (ag xx),.slice u0X (aa xx) u0Y,.slice u0Z (ae dx) u10]):=x10
       have u1J:=hid u1p
       clear u1p
       have u1K:=hid u1q
       clear u1q
       refine au rfl fun K' hK=>?_
       go_simp
       with_reducible refine(C13.out _ _ _ _ _ _ _ _ _ (RF.out.below HI.out.world) (RO.out.below HI.out.world) u1J.out u1K.out).mono ?_
       rintro e W' ⟨u0m,u0n,u0o,u0p,rfl,u1v,u1w,hb⟩
       exact hK.out _ _ ⟨HI.out.pc Hi.out hb ⟨u0m,u0n,u0o,u0p,rfl,u1v,u1w⟩,trivial⟩
     | n+12,h,_=>exact absurd h (by omega)
   · intro listed a W hI hD hall
     obtain⟨v',x3,u0D,u0E,u0F,u0G,e,u1f,u1g⟩:=hI.slots 3 (by decide) (hall 3 (by decide))
     obtain rfl:=e
     have u1z:=hid u1f
     clear u1f
     have u1A:=hid u1g
     clear u1g
     obtain⟨v',x4,u0H,u0I,u0J,u0K,e,u1h,u1i⟩:=hI.slots 4 (by decide) (hall 4 (by decide))
     obtain rfl:=e
     have u1D:=hid u1h
     clear u1h
     have u1E:=hid u1i
     clear u1i
     obtain⟨v',x7,u0L,u0M,u0N,u0O,e,u1j,u1k⟩:=hI.slots 7 (by decide) (hall 7 (by decide))
     obtain rfl:=e
     have u1B:=hid u1j
     clear u1j
     have u1C:=hid u1k
     clear u1k
     obtain⟨v',x8,u0P,u0Q,u0R,u0S,e,u1l,u1m⟩:=hI.slots 8 (by decide) (hall 8 (by decide))
     obtain rfl:=e
     have u1F:=hid u1l
     clear u1l
     have u1G:=hid u1m
     clear u1m
     obtain⟨v',x9,u0T,u0U,u0V,u0W,e,u1n,u1o⟩:=hI.slots 9 (by decide) (hall 9 (by decide))
     obtain rfl:=e
     have u1H:=hid u1n
     clear u1n
     have u1I:=hid u1o
     clear u1o
     obtain⟨v',x10,u0X,u0Y,u0Z,u10,e,u1p,u1q⟩:=hI.slots 10 (by decide) (hall 10 (by decide))
     obtain rfl:=e
     have u1J:=hid u1p
     clear u1p
     have u1K:=hid u1q
     clear u1q
     obtain⟨v',x11,u0m,u0n,u0o,u0p,e,u1v,u1w⟩:=hI.slots 11 (by decide) (hall 11 (by decide))
     obtain rfl:=e
     have u1R:=hid u1v
     clear u1v
     have u1S:=hid u1w
     clear u1w
     have x11:a.tmps[35]? = some (.agg #[.bool (ag r),.slice u0m (aa r) u0n,.slice u0o (ae dr) u0p]):=x11
     have HBW:=hid hI.world
     have HI:=hid hI
     have HA:=hid hall
     clear hI hall
     have K3:=hid (K3.out.below HBW.out)
     have HBX:=hid (HB6.out.trans (HBW.out.mono HB6.out.size))
     have RS:=u1z
     have TS:=u1A
     have RU:=u1D
     have TU:=u1E
     have RV:=u1B
     have TV:=u1C
     have RW:=u1F
     have TW:=u1G
     have RX:=u1H
     have TX:=u1I
     have RY:=u1J
     have TY:=u1K
     have RZ:=u1R
     have TZ:=u1S
     have y4:a.tmps[4]? = some (.pointer (some ⟨w.heap.size+1+1,0,none⟩)):=HI.out.rest 4 (by decide)
     have dK30:=K3.out.cell (i:=0) rfl
     have fK30:=K3.out.frozen (i:=0)
     have dK31:=K3.out.cell (i:=1) rfl
     have fK31:=K3.out.frozen (i:=1)
     have dK32:=K3.out.cell (i:=2) rfl
     have fK32:=K3.out.frozen (i:=2)
     refine aS (t:=0) ?_
     refine au rfl fun K' hK=>?_
     go_simp
     refine hK.out _ _ ?_
     clear hK
     refine bD ?_
     have s0:∀ {v':Value} {n':Nat},RN W v' n'→RN (storeAll W (w.heap.size+1+1) 0 [.bool (ag r),.slice u0m (aa r) u0n,.slice u0o (ae dr) u0p]) v' n':=fun h'=>aG _ h' K3.out (by simp[bG]) (by simp[aV])
     exact⟨rfl,u0D,u0E,u0F,u0G,u0H,u0I,u0J,u0K,u0L,u0M,u0N,u0O,u0P,u0Q,u0R,u0S,u0T,u0U,u0V,u0W,u0X,u0Y,u0Z,u10,u0m,u0n,u0o,u0p,(HI.out.finx ⟨HI.out.sx HA.out 0,HI.out.sx HA.out 1,HI.out.sx HA.out 2,x3,x4,HI.out.sx HA.out 5,HI.out.sx HA.out 6,x7,x8,x9,x10,x11,trivial⟩ rfl),(az (l:=[.bool (ag r),.slice u0m (aa r) u0n,.slice u0o (ae dr) u0p]) (i:=0) (by omega) HBX.out),(aX (l:=[.bool (ag r),.slice u0m (aa r) u0n,.slice u0o (ae dr) u0p]) (i:=0) K3.out),(s0 RZ.out),(s0 TZ.out)⟩
 rintro a' W7 ⟨u0D,u0E,u0F,u0G,u0H,u0I,u0J,u0K,u0L,u0M,u0N,u0O,u0P,u0Q,u0R,u0S,u0T,u0U,u0V,u0W,u0X,u0Y,u0Z,u10,u0m,u0n,u0o,u0p,rfl,z0,z1,z2,z3⟩
 have HB7:=hid z0
 have K3:=hid z1
 have RZ:=hid z2
 have TZ:=hid z3
 clear z0 z1 z2 z3
 simp only[putL,List.setIfInBounds_toArray,List.set_cons_zero,List.set_cons_succ]
 go_wp2
 have dK30:=K3.out.cell (i:=0) rfl
 have dK31:=K3.out.cell (i:=1) rfl
 have dK32:=K3.out.cell (i:=2) rfl
 exact bodyPost_ret (v:=.agg #[.bool (ag r),.slice u0m (aa r) u0n,.slice u0o (ae dr) u0p]) (by simp[results,results74,go_sem,dK30,dK31,dK32]) rfl ⟨_,_,_,_,rfl,RZ.out,TZ.out,HB7.out⟩
theorem vG (x1 x2:ByteArray)(n1 n2:Int)(en1 en2:Nat)  (w:World)(h1:∀ W,Calls Tryz.prog 47 #[.string x1,.string x2] W fun e w'=>∃ p c s d p' c' s' d',e=.returned (.tuple #[.agg #[.bool (ag n1),.slice p (aa n1) c,.slice s (ae en1) d],.agg #[.bool (ag n2),.slice p' (aa n2) c',.slice s' (ae en2) d'],.int .i64 1])∧RN w' (.slice p (aa n1) c) n1.natAbs∧RN w' (.slice s (ae en1) d) en1∧RN w' (.slice p' (aa n2) c') n2.natAbs∧RN w' (.slice s' (ae en2) d') en2∧Below W.heap.size W w')  :
 CR 32 #[.string x1,.string x2] w (.tuple #[.string ⟨#[]⟩,.int .i64 1]):=by
 have C1:=hid h1
 clear h1
 go_enter func32,ntmps32
 have HB0:=hid (Below.refl w.heap.size w)
 go_wp2_with fail
 with_reducible refine(C1.out _).mono ?_
 rintro e W1 ⟨u0q,u0r,u0s,u0t,u0u,u0v,u0w,u0x,rfl,u0c,u0h,u0i,u0j,hb⟩
 have HB1:=hbt HB0 hb
 have RA:=hid u0c
 have TA:=hid u0h
 have RB:=hid u0i
 have TB:=hid u0j
 clear hb u0c u0h u0i u0j
 go_upto_region 2 with fail
 refine aK W1 [(#[.bool (ag n1),.slice u0q (aa n1) u0r,.slice u0s (ae en1) u0t],55),(#[.bool (ag n2),.slice u0u (aa n2) u0v,.slice u0w (ae en2) u0x],55)] rfl ?_
 have L1:=HB1.out.size
 rintro W2 ⟨k1,k2,hb⟩
 have hb:Below W1.heap.size W1 W2:=hb
 have HB2:=hbt HB1 hb
 have K1:=hid k1
 have K2:=hid k2
 clear k1 k2 hb
 go_wp2
 exact bodyPost_ret (v:=.tuple #[.string ⟨#[]⟩,.int .i64 1]) (by simp[results,results32,go_sem]) rfl ⟨rfl,HB2.out⟩
theorem o7 (x1 x2:ByteArray)(n1 n2:Int)(en1 en2:Nat)(k:Int)(hk:0<k)  (w:World)(h1:∀ W,Calls Tryz.prog 47 #[.string x1,.string x2] W fun e w'=>∃ p c s d p' c' s' d',e=.returned (.tuple #[.agg #[.bool (ag n1),.slice p (aa n1) c,.slice s (ae en1) d],.agg #[.bool (ag n2),.slice p' (aa n2) c',.slice s' (ae en2) d'],.int .i64 0])∧RN w' (.slice p (aa n1) c) n1.natAbs∧RN w' (.slice s (ae en1) d) en1∧RN w' (.slice p' (aa n2) c') n2.natAbs∧RN w' (.slice s' (ae en2) d') en2∧Below W.heap.size W w')(h2:∀ p1 c1 s1 d1 p2 c2 s2 d2 W,RN W (.slice p1 (aa n1) c1) n1.natAbs→RN W (.slice s1 (ae en1) d1) en1→RN W (.slice p2 (aa n2) c2) n2.natAbs→RN W (.slice s2 (ae en2) d2) en2→CR 48 #[.agg #[.bool (ag n1),.slice p1 (aa n1) c1,.slice s1 (ae en1) d1],.agg #[.bool (ag n2),.slice p2 (aa n2) c2,.slice s2 (ae en2) d2]] W (.int .i64 k))  :
 CR 32 #[.string x1,.string x2] w (.tuple #[.string ⟨#[]⟩,.int .i64 5]):=by
 have C1:=hid h1
 have C2:=hid h2
 have ka0:decide (0<k)=true:=decide_eq_true hk
 have ka1:0<k:=hk
 clear hk h1 h2
 go_enter func32,ntmps32
 have HB0:=hid (Below.refl w.heap.size w)
 go_wp2_with fail
 with_reducible refine(C1.out _).mono ?_
 rintro e W1 ⟨u0q,u0r,u0s,u0t,u0u,u0v,u0w,u0x,rfl,u0c,u0h,u0i,u0j,hb⟩
 have HB1:=hbt HB0 hb
 have RA:=hid u0c
 have TA:=hid u0h
 have RB:=hid u0i
 have TB:=hid u0j
 clear hb u0c u0h u0i u0j
 go_upto_region 2 with fail
 refine aK W1 [(#[.bool (ag n1),.slice u0q (aa n1) u0r,.slice u0s (ae en1) u0t],55),(#[.bool (ag n2),.slice u0u (aa n2) u0v,.slice u0w (ae en2) u0x],55)] rfl ?_
 have L1:=HB1.out.size
 rintro W2 ⟨k1,k2,hb⟩
 have hb:Below W1.heap.size W1 W2:=hb
 have RA:=hid (RA.out.below hb)
 have TA:=hid (TA.out.below hb)
 have RB:=hid (RB.out.below hb)
 have TB:=hid (TB.out.below hb)
 have HB2:=hbt HB1 hb
 have K1:=hid k1
 have K2:=hid k2
 clear k1 k2 hb
 have dK10:=K1.out.cell (i:=0) rfl
 have dK11:=K1.out.cell (i:=1) rfl
 have dK12:=K1.out.cell (i:=2) rfl
 have dK20:=K2.out.cell (i:=0) rfl
 have dK21:=K2.out.cell (i:=1) rfl
 have dK22:=K2.out.cell (i:=2) rfl
 go_wp2_with fail
 with_reducible refine(C2.out _ _ _ _ _ _ _ _ _ RA.out TA.out RB.out TB.out).mono ?_
 rintro e W3 ⟨rfl,hb⟩
 clear dK10 dK11 dK12 dK20 dK21 dK22
 have HB3:=hbt HB2 hb
 clear hb
 go_wp2
 exact bodyPost_ret (v:=.tuple #[.string ⟨#[]⟩,.int .i64 5]) (by simp[results,results32,go_sem]) rfl ⟨rfl,HB3.out⟩
theorem qR (x1 x2:ByteArray)(n1 n2:Int)(en1 en2:Nat)(k sx sy:Int)(hk:k≤0)(hsx:sx≤0)(hsy:0≤sy)  (w:World)(h1:∀ W,Calls Tryz.prog 47 #[.string x1,.string x2] W fun e w'=>∃ p c s d p' c' s' d',e=.returned (.tuple #[.agg #[.bool (ag n1),.slice p (aa n1) c,.slice s (ae en1) d],.agg #[.bool (ag n2),.slice p' (aa n2) c',.slice s' (ae en2) d'],.int .i64 0])∧RN w' (.slice p (aa n1) c) n1.natAbs∧RN w' (.slice s (ae en1) d) en1∧RN w' (.slice p' (aa n2) c') n2.natAbs∧RN w' (.slice s' (ae en2) d') en2∧Below W.heap.size W w')(h2:∀ p1 c1 s1 d1 p2 c2 s2 d2 W,RN W (.slice p1 (aa n1) c1) n1.natAbs→RN W (.slice s1 (ae en1) d1) en1→RN W (.slice p2 (aa n2) c2) n2.natAbs→RN W (.slice s2 (ae en2) d2) en2→CR 48 #[.agg #[.bool (ag n1),.slice p1 (aa n1) c1,.slice s1 (ae en1) d1],.agg #[.bool (ag n2),.slice p2 (aa n2) c2,.slice s2 (ae en2) d2]] W (.int .i64 k))(h3:∀ p1 c1 s1 d1 W,RN W (.slice p1 (aa n1) c1) n1.natAbs→RN W (.slice s1 (ae en1) d1) en1→CR 53 #[.agg #[.bool (ag n1),.slice p1 (aa n1) c1,.slice s1 (ae en1) d1]] W (.int .i64 sx))(h4:∀ p1 c1 s1 d1 W,RN W (.slice p1 (aa n2) c1) n2.natAbs→RN W (.slice s1 (ae en2) d1) en2→CR 53 #[.agg #[.bool (ag n2),.slice p1 (aa n2) c1,.slice s1 (ae en2) d1]] W (.int .i64 sy))  :
 CR 32 #[.string x1,.string x2] w (.tuple #[.string ⟨#[48]⟩,.int .i64 0]):=by
 have C1:=hid h1
 have C2:=hid h2
 have C3:=hid h3
 have C4:=hid h4
 have ka0:decide (0<k)=false:=decide_eq_false (by omega)
 have ka1:¬ 0<k:=by omega
 clear hk
 have t0:decide (sx≤0)=true:=decide_eq_true hsx
 have t1:sx≤0:=hsx
 have bsy0:decide (0≤sy)=true:=by first|exact decide_eq_true hsy|exact decide_eq_false (by omega)
 have bsy1:0≤sy:=by omega
 clear hsx hsy h1 h2 h3 h4
 go_enter func32,ntmps32
 have HB0:=hid (Below.refl w.heap.size w)
 go_wp2_with fail
 with_reducible refine(C1.out _).mono ?_
 rintro e W1 ⟨u0q,u0r,u0s,u0t,u0u,u0v,u0w,u0x,rfl,u0c,u0h,u0i,u0j,hb⟩
 have HB1:=hbt HB0 hb
 have RA:=hid u0c
 have TA:=hid u0h
 have RB:=hid u0i
 have TB:=hid u0j
 clear hb u0c u0h u0i u0j
 go_upto_region 2 with fail
 refine aK W1 [(#[.bool (ag n1),.slice u0q (aa n1) u0r,.slice u0s (ae en1) u0t],55),(#[.bool (ag n2),.slice u0u (aa n2) u0v,.slice u0w (ae en2) u0x],55)] rfl ?_
 have L1:=HB1.out.size
 rintro W2 ⟨k1,k2,hb⟩
 have hb:Below W1.heap.size W1 W2:=hb
 have RA:=hid (RA.out.below hb)
 have TA:=hid (TA.out.below hb)
 have RB:=hid (RB.out.below hb)
 have TB:=hid (TB.out.below hb)
 have HB2:=hbt HB1 hb
 have K1:=hid k1
 have K2:=hid k2
 clear k1 k2 hb
 have dK10:=K1.out.cell (i:=0) rfl
 have dK11:=K1.out.cell (i:=1) rfl
 have dK12:=K1.out.cell (i:=2) rfl
 have dK20:=K2.out.cell (i:=0) rfl
 have dK21:=K2.out.cell (i:=1) rfl
 have dK22:=K2.out.cell (i:=2) rfl
 go_wp2_with fail
 with_reducible refine(C2.out _ _ _ _ _ _ _ _ _ RA.out TA.out RB.out TB.out).mono ?_
 rintro e W3 ⟨rfl,hb⟩
 clear dK10 dK11 dK12 dK20 dK21 dK22
 have K1:=hid (K1.out.below hb)
 have K2:=hid (K2.out.below hb)
 have RA:=hid (RA.out.below hb)
 have TA:=hid (TA.out.below hb)
 have RB:=hid (RB.out.below hb)
 have TB:=hid (TB.out.below hb)
 have HB3:=hbt HB2 hb
 clear hb
 have dK10:=K1.out.cell (i:=0) rfl
 have dK11:=K1.out.cell (i:=1) rfl
 have dK12:=K1.out.cell (i:=2) rfl
 go_wp2_with fail
 with_reducible refine(C3.out _ _ _ _ _ RA.out TA.out).mono ?_
 rintro e W4 ⟨rfl,hb⟩
 clear dK10 dK11 dK12
 have K2:=hid (K2.out.below hb)
 have RB:=hid (RB.out.below hb)
 have TB:=hid (TB.out.below hb)
 have HB4:=hbt HB3 hb
 clear hb
 have dK20:=K2.out.cell (i:=0) rfl
 have dK21:=K2.out.cell (i:=1) rfl
 have dK22:=K2.out.cell (i:=2) rfl
 go_wp2_with fail
 with_reducible refine(C4.out _ _ _ _ _ RB.out TB.out).mono ?_
 rintro e W5 ⟨rfl,hb⟩
 clear dK20 dK21 dK22
 have HB5:=hbt HB4 hb
 clear hb
 go_wp2
 exact bodyPost_ret (v:=.tuple #[.string ⟨#[48]⟩,.int .i64 0]) (by simp[results,results32,go_sem]) rfl ⟨rfl,HB5.out⟩
theorem uf (x1 x2:ByteArray)(n1 n2:Int)(en1 en2:Nat)(k sx n:Int)(dn:Nat)(sn:ByteArray)(hk:k≤0)(hsx:0<sx)  (w:World)(h1:∀ W,Calls Tryz.prog 47 #[.string x1,.string x2] W fun e w'=>∃ p c s d p' c' s' d',e=.returned (.tuple #[.agg #[.bool (ag n1),.slice p (aa n1) c,.slice s (ae en1) d],.agg #[.bool (ag n2),.slice p' (aa n2) c',.slice s' (ae en2) d'],.int .i64 0])∧RN w' (.slice p (aa n1) c) n1.natAbs∧RN w' (.slice s (ae en1) d) en1∧RN w' (.slice p' (aa n2) c') n2.natAbs∧RN w' (.slice s' (ae en2) d') en2∧Below W.heap.size W w')(h2:∀ p1 c1 s1 d1 p2 c2 s2 d2 W,RN W (.slice p1 (aa n1) c1) n1.natAbs→RN W (.slice s1 (ae en1) d1) en1→RN W (.slice p2 (aa n2) c2) n2.natAbs→RN W (.slice s2 (ae en2) d2) en2→CR 48 #[.agg #[.bool (ag n1),.slice p1 (aa n1) c1,.slice s1 (ae en1) d1],.agg #[.bool (ag n2),.slice p2 (aa n2) c2,.slice s2 (ae en2) d2]] W (.int .i64 k))(h3:∀ p1 c1 s1 d1 W,RN W (.slice p1 (aa n1) c1) n1.natAbs→RN W (.slice s1 (ae en1) d1) en1→CR 53 #[.agg #[.bool (ag n1),.slice p1 (aa n1) c1,.slice s1 (ae en1) d1]] W (.int .i64 sx))(h5:∀ p1 c1 s1 d1 p2 c2 s2 d2 W,RN W (.slice p1 (aa n1) c1) n1.natAbs→RN W (.slice s1 (ae en1) d1) en1→RN W (.slice p2 (aa n2) c2) n2.natAbs→RN W (.slice s2 (ae en2) d2) en2→CF 74 #[.agg #[.bool (ag n1),.slice p1 (aa n1) c1,.slice s1 (ae en1) d1],.agg #[.bool (ag n2),.slice p2 (aa n2) c2,.slice s2 (ae en2) d2]] W n dn)(h6:∀ p1 c1 s1 d1 W,RN W (.slice p1 (aa n) c1) n.natAbs→RN W (.slice s1 (ae dn) d1) dn→CR 39 #[.agg #[.bool (ag n),.slice p1 (aa n) c1,.slice s1 (ae dn) d1]] W (.string sn))  :
 CR 32 #[.string x1,.string x2] w (.tuple #[.string sn,.int .i64 0]):=by
 have C1:=hid h1
 have C2:=hid h2
 have C3:=hid h3
 have C5:=hid h5
 have C6:=hid h6
 have ka0:decide (0<k)=false:=decide_eq_false (by omega)
 have ka1:¬ 0<k:=by omega
 clear hk
 have t0:decide (sx≤0)=false:=decide_eq_false (by omega)
 have t1:¬ sx≤0:=by omega
 have t2:decide (0<sx)=true:=decide_eq_true hsx
 have t3:0<sx:=hsx
 clear hsx h1 h2 h3 h5 h6
 go_enter func32,ntmps32
 have HB0:=hid (Below.refl w.heap.size w)
 go_wp2_with fail
 with_reducible refine(C1.out _).mono ?_
 rintro e W1 ⟨u0q,u0r,u0s,u0t,u0u,u0v,u0w,u0x,rfl,u0c,u0h,u0i,u0j,hb⟩
 have HB1:=hbt HB0 hb
 have RA:=hid u0c
 have TA:=hid u0h
 have RB:=hid u0i
 have TB:=hid u0j
 clear hb u0c u0h u0i u0j
 go_upto_region 2 with fail
 refine aK W1 [(#[.bool (ag n1),.slice u0q (aa n1) u0r,.slice u0s (ae en1) u0t],55),(#[.bool (ag n2),.slice u0u (aa n2) u0v,.slice u0w (ae en2) u0x],55)] rfl ?_
 have L1:=HB1.out.size
 rintro W2 ⟨k1,k2,hb⟩
 have hb:Below W1.heap.size W1 W2:=hb
 have RA:=hid (RA.out.below hb)
 have TA:=hid (TA.out.below hb)
 have RB:=hid (RB.out.below hb)
 have TB:=hid (TB.out.below hb)
 have HB2:=hbt HB1 hb
 have K1:=hid k1
 have K2:=hid k2
 clear k1 k2 hb
 have dK10:=K1.out.cell (i:=0) rfl
 have dK11:=K1.out.cell (i:=1) rfl
 have dK12:=K1.out.cell (i:=2) rfl
 have dK20:=K2.out.cell (i:=0) rfl
 have dK21:=K2.out.cell (i:=1) rfl
 have dK22:=K2.out.cell (i:=2) rfl
 go_wp2_with fail
 with_reducible refine(C2.out _ _ _ _ _ _ _ _ _ RA.out TA.out RB.out TB.out).mono ?_
 rintro e W3 ⟨rfl,hb⟩
 clear dK10 dK11 dK12 dK20 dK21 dK22
 have K1:=hid (K1.out.below hb)
 have K2:=hid (K2.out.below hb)
 have RA:=hid (RA.out.below hb)
 have TA:=hid (TA.out.below hb)
 have RB:=hid (RB.out.below hb)
 have TB:=hid (TB.out.below hb)
 have HB3:=hbt HB2 hb
 clear hb
 have dK10:=K1.out.cell (i:=0) rfl
 have dK11:=K1.out.cell (i:=1) rfl
 have dK12:=K1.out.cell (i:=2) rfl
 go_wp2_with fail
 with_reducible refine(C3.out _ _ _ _ _ RA.out TA.out).mono ?_
 rintro e W4 ⟨rfl,hb⟩
 clear dK10 dK11 dK12
 have K1:=hid (K1.out.below hb)
 have K2:=hid (K2.out.below hb)
 have RA:=hid (RA.out.below hb)
 have TA:=hid (TA.out.below hb)
 have RB:=hid (RB.out.below hb)
 have TB:=hid (TB.out.below hb)
 have HB4:=hbt HB3 hb
 clear hb
 have dK20:=K2.out.cell (i:=0) rfl
 have dK21:=K2.out.cell (i:=1) rfl
 have dK22:=K2.out.cell (i:=2) rfl
 have dK10:=K1.out.cell (i:=0) rfl
 have dK11:=K1.out.cell (i:=1) rfl
 have dK12:=K1.out.cell (i:=2) rfl
 go_wp2_with fail
 with_reducible refine(C3.out _ _ _ _ _ RA.out TA.out).mono ?_
 rintro e W5 ⟨rfl,hb⟩
 clear dK20 dK21 dK22 dK10 dK11 dK12
 have K1:=hid (K1.out.below hb)
 have K2:=hid (K2.out.below hb)
 have RA:=hid (RA.out.below hb)
 have TA:=hid (TA.out.below hb)
 have RB:=hid (RB.out.below hb)
 have TB:=hid (TB.out.below hb)
 have HB5:=hbt HB4 hb
 clear hb
 have dK10:=K1.out.cell (i:=0) rfl
 have dK11:=K1.out.cell (i:=1) rfl
 have dK12:=K1.out.cell (i:=2) rfl
 have dK20:=K2.out.cell (i:=0) rfl
 have dK21:=K2.out.cell (i:=1) rfl
 have dK22:=K2.out.cell (i:=2) rfl
 go_wp2_with fail
 with_reducible refine(C5.out _ _ _ _ _ _ _ _ _ RA.out TA.out RB.out TB.out).mono ?_
 rintro e W6 ⟨p_5,c_5,s_5,d_5,rfl,u1P,u1Q,hb⟩
 clear dK10 dK11 dK12 dK20 dK21 dK22
 have HB6:=hbt HB5 hb
 have RQ:=hid u1P
 have TQ:=hid u1Q
 clear hb u1P u1Q
 go_wp2_with fail
 with_reducible refine(C6.out _ _ _ _ _ RQ.out TQ.out).mono ?_
 rintro e W7 ⟨rfl,hb⟩
 have HB7:=hbt HB6 hb
 clear hb
 go_wp2
 exact bodyPost_ret (v:=.tuple #[.string sn,.int .i64 0]) (by simp[results,results32,go_sem]) rfl ⟨rfl,HB7.out⟩
theorem ug (x1 x2:ByteArray)(n1 n2:Int)(en1 en2:Nat)(k sx sy m1 m2 n r:Int)(dm1 dm2 dn dr:Nat)(sn:ByteArray)(hk:k≤0)(hsx:sx≤0)(hsy:sy<0)  (w:World)(h1:∀ W,Calls Tryz.prog 47 #[.string x1,.string x2] W fun e w'=>∃ p c s d p' c' s' d',e=.returned (.tuple #[.agg #[.bool (ag n1),.slice p (aa n1) c,.slice s (ae en1) d],.agg #[.bool (ag n2),.slice p' (aa n2) c',.slice s' (ae en2) d'],.int .i64 0])∧RN w' (.slice p (aa n1) c) n1.natAbs∧RN w' (.slice s (ae en1) d) en1∧RN w' (.slice p' (aa n2) c') n2.natAbs∧RN w' (.slice s' (ae en2) d') en2∧Below W.heap.size W w')(h2:∀ p1 c1 s1 d1 p2 c2 s2 d2 W,RN W (.slice p1 (aa n1) c1) n1.natAbs→RN W (.slice s1 (ae en1) d1) en1→RN W (.slice p2 (aa n2) c2) n2.natAbs→RN W (.slice s2 (ae en2) d2) en2→CR 48 #[.agg #[.bool (ag n1),.slice p1 (aa n1) c1,.slice s1 (ae en1) d1],.agg #[.bool (ag n2),.slice p2 (aa n2) c2,.slice s2 (ae en2) d2]] W (.int .i64 k))(h3:∀ p1 c1 s1 d1 W,RN W (.slice p1 (aa n1) c1) n1.natAbs→RN W (.slice s1 (ae en1) d1) en1→CR 53 #[.agg #[.bool (ag n1),.slice p1 (aa n1) c1,.slice s1 (ae en1) d1]] W (.int .i64 sx))(h4:∀ p1 c1 s1 d1 W,RN W (.slice p1 (aa n2) c1) n2.natAbs→RN W (.slice s1 (ae en2) d1) en2→CR 53 #[.agg #[.bool (ag n2),.slice p1 (aa n2) c1,.slice s1 (ae en2) d1]] W (.int .i64 sy))(h7:∀ p1 c1 s1 d1 W,RN W (.slice p1 (aa n2) c1) n2.natAbs→RN W (.slice s1 (ae en2) d1) en2→CF 75 #[.agg #[.bool (ag n2),.slice p1 (aa n2) c1,.slice s1 (ae en2) d1]] W m2 dm2)(h8:∀ p1 c1 s1 d1 W,RN W (.slice p1 (aa n1) c1) n1.natAbs→RN W (.slice s1 (ae en1) d1) en1→CF 75 #[.agg #[.bool (ag n1),.slice p1 (aa n1) c1,.slice s1 (ae en1) d1]] W m1 dm1)(h9:∀ p1 c1 s1 d1 p2 c2 s2 d2 W,RN W (.slice p1 (aa m2) c1) m2.natAbs→RN W (.slice s1 (ae dm2) d1) dm2→RN W (.slice p2 (aa m1) c2) m1.natAbs→RN W (.slice s2 (ae dm1) d2) dm1→CF 74 #[.agg #[.bool (ag m2),.slice p1 (aa m2) c1,.slice s1 (ae dm2) d1],.agg #[.bool (ag m1),.slice p2 (aa m1) c2,.slice s2 (ae dm1) d2]] W n dn)(h10:∀ p1 c1 s1 d1 W,RN W (.slice p1 (aa n) c1) n.natAbs→RN W (.slice s1 (ae dn) d1) dn→CF 75 #[.agg #[.bool (ag n),.slice p1 (aa n) c1,.slice s1 (ae dn) d1]] W r dr)(h11:∀ p1 c1 s1 d1 W,RN W (.slice p1 (aa r) c1) r.natAbs→RN W (.slice s1 (ae dr) d1) dr→CR 39 #[.agg #[.bool (ag r),.slice p1 (aa r) c1,.slice s1 (ae dr) d1]] W (.string sn))  :
 CR 32 #[.string x1,.string x2] w (.tuple #[.string sn,.int .i64 0]):=by
 have C1:=hid h1
 have C2:=hid h2
 have C3:=hid h3
 have C4:=hid h4
 have C7:=hid h7
 have C8:=hid h8
 have C9:=hid h9
 have C10:=hid h10
 have C11:=hid h11
 have ka0:decide (0<k)=false:=decide_eq_false (by omega)
 have ka1:¬ 0<k:=by omega
 clear hk
 have t0:decide (sx≤0)=true:=decide_eq_true hsx
 have t1:sx≤0:=hsx
 have t2:decide (0<sx)=false:=decide_eq_false (by omega)
 have t3:¬ 0<sx:=by omega
 have u0:decide (0≤sy)=false:=decide_eq_false (by omega)
 have u1:¬ 0≤sy:=by omega
 clear hsx hsy h1 h2 h3 h4 h7 h8 h9 h10 h11
 go_enter func32,ntmps32
 have HB0:=hid (Below.refl w.heap.size w)
 go_wp2_with fail
 with_reducible refine(C1.out _).mono ?_
 rintro e W1 ⟨u0q,u0r,u0s,u0t,u0u,u0v,u0w,u0x,rfl,u0c,u0h,u0i,u0j,hb⟩
 have HB1:=hbt HB0 hb
 have RA:=hid u0c
 have TA:=hid u0h
 have RB:=hid u0i
 have TB:=hid u0j
 clear hb u0c u0h u0i u0j
 go_upto_region 2 with fail
 refine aK W1 [(#[.bool (ag n1),.slice u0q (aa n1) u0r,.slice u0s (ae en1) u0t],55),(#[.bool (ag n2),.slice u0u (aa n2) u0v,.slice u0w (ae en2) u0x],55)] rfl ?_
 have L1:=HB1.out.size
 rintro W2 ⟨k1,k2,hb⟩
 have hb:Below W1.heap.size W1 W2:=hb
 have RA:=hid (RA.out.below hb)
 have TA:=hid (TA.out.below hb)
 have RB:=hid (RB.out.below hb)
 have TB:=hid (TB.out.below hb)
 have HB2:=hbt HB1 hb
 have K1:=hid k1
 have K2:=hid k2
 clear k1 k2 hb
 have dK10:=K1.out.cell (i:=0) rfl
 have dK11:=K1.out.cell (i:=1) rfl
 have dK12:=K1.out.cell (i:=2) rfl
 have dK20:=K2.out.cell (i:=0) rfl
 have dK21:=K2.out.cell (i:=1) rfl
 have dK22:=K2.out.cell (i:=2) rfl
 go_wp2_with fail
 with_reducible refine(C2.out _ _ _ _ _ _ _ _ _ RA.out TA.out RB.out TB.out).mono ?_
 rintro e W3 ⟨rfl,hb⟩
 clear dK10 dK11 dK12 dK20 dK21 dK22
 have K1:=hid (K1.out.below hb)
 have K2:=hid (K2.out.below hb)
 have RA:=hid (RA.out.below hb)
 have TA:=hid (TA.out.below hb)
 have RB:=hid (RB.out.below hb)
 have TB:=hid (TB.out.below hb)
 have HB3:=hbt HB2 hb
 clear hb
 have dK10:=K1.out.cell (i:=0) rfl
 have dK11:=K1.out.cell (i:=1) rfl
 have dK12:=K1.out.cell (i:=2) rfl
 go_wp2_with fail
 with_reducible refine(C3.out _ _ _ _ _ RA.out TA.out).mono ?_
 rintro e W4 ⟨rfl,hb⟩
 clear dK10 dK11 dK12
 have K1:=hid (K1.out.below hb)
 have K2:=hid (K2.out.below hb)
 have RA:=hid (RA.out.below hb)
 have TA:=hid (TA.out.below hb)
 have RB:=hid (RB.out.below hb)
 have TB:=hid (TB.out.below hb)
 have HB4:=hbt HB3 hb
 clear hb
 have dK20:=K2.out.cell (i:=0) rfl
 have dK21:=K2.out.cell (i:=1) rfl
 have dK22:=K2.out.cell (i:=2) rfl
 go_wp2_with fail
 with_reducible refine(C4.out _ _ _ _ _ RB.out TB.out).mono ?_
 rintro e W5 ⟨rfl,hb⟩
 clear dK20 dK21 dK22
 have K1:=hid (K1.out.below hb)
 have K2:=hid (K2.out.below hb)
 have RA:=hid (RA.out.below hb)
 have TA:=hid (TA.out.below hb)
 have RB:=hid (RB.out.below hb)
 have TB:=hid (TB.out.below hb)
 have HB5:=hbt HB4 hb
 clear hb
 have dK10:=K1.out.cell (i:=0) rfl
 have dK11:=K1.out.cell (i:=1) rfl
 have dK12:=K1.out.cell (i:=2) rfl
 go_wp2_with fail
 with_reducible refine(C3.out _ _ _ _ _ RA.out TA.out).mono ?_
 rintro e W6 ⟨rfl,hb⟩
 clear dK10 dK11 dK12
 have K1:=hid (K1.out.below hb)
 have K2:=hid (K2.out.below hb)
 have RA:=hid (RA.out.below hb)
 have TA:=hid (TA.out.below hb)
 have RB:=hid (RB.out.below hb)
 have TB:=hid (TB.out.below hb)
 have HB6:=hbt HB5 hb
 clear hb
 go_wp2_with fail
 refine aI (fun a0 a' V=>∃ u08 u09 u0a u0b u11 u12 u13 u14 u15 u17 u18 u19 u1a u1b u1c u1d,a'=⟨putL [(41,.agg #[.bool (ag n2),.slice u0u (aa n2) u0v,.slice u0w (ae en2) u0x]),(42,.agg #[.bool (ag m2),.slice u08 (aa m2) u09,.slice u0a (ae dm2) u0b]),(43,.agg #[.bool (ag n1),.slice u0q (aa n1) u0r,.slice u0s (ae en1) u0t]),(44,.agg #[.bool (ag m1),.slice u11 (aa m1) u12,.slice u13 (ae dm1) u14]),(45,.agg #[.bool (ag n),.slice u15 (aa n) u17,.slice u18 (ae dn) u19]),(46,.agg #[.bool (ag r),.slice u1a (aa r) u1b,.slice u1c (ae dr) u1d]),(47,.string sn),(4,.string sn),(5,.int .i64 0)] a0.tmps,a0.defers⟩∧Below w.heap.size w V) ?_ ?_
 · refine aF (by kernel_rfl) 9 0 (fun i=>[41,42,43,44,45,46,47,4,5].getD i 0) (RelR [Rel.val (.agg #[.bool (ag n2),.slice u0u (aa n2) u0v,.slice u0w (ae en2) u0x]),⟨fun v W=>∃ p c s d,v=.agg #[.bool (ag m2),.slice p (aa m2) c,.slice s (ae dm2) d]∧RN W (.slice p (aa m2) c) (m2).natAbs∧RN W (.slice s (ae dm2) d) (dm2),fun _ _ _ ⟨p,c,s,d,e,h0,h1⟩ hb=>⟨p,c,s,d,e,h0.below hb,h1.below hb⟩⟩,Rel.val (.agg #[.bool (ag n1),.slice u0q (aa n1) u0r,.slice u0s (ae en1) u0t]),⟨fun v W=>∃ p c s d,v=.agg #[.bool (ag m1),.slice p (aa m1) c,.slice s (ae dm1) d]∧RN W (.slice p (aa m1) c) (m1).natAbs∧RN W (.slice s (ae dm1) d) (dm1),fun _ _ _ ⟨p,c,s,d,e,h0,h1⟩ hb=>⟨p,c,s,d,e,h0.below hb,h1.below hb⟩⟩,⟨fun v W=>∃ p c s d,v=.agg #[.bool (ag n),.slice p (aa n) c,.slice s (ae dn) d]∧RN W (.slice p (aa n) c) (n).natAbs∧RN W (.slice s (ae dn) d) (dn),fun _ _ _ ⟨p,c,s,d,e,h0,h1⟩ hb=>⟨p,c,s,d,e,h0.below hb,h1.below hb⟩⟩,⟨fun v W=>∃ p c s d,v=.agg #[.bool (ag r),.slice p (aa r) c,.slice s (ae dr) d]∧RN W (.slice p (aa r) c) (r).natAbs∧RN W (.slice s (ae dr) d) (dr),fun _ _ _ ⟨p,c,s,d,e,h0,h1⟩ hb=>⟨p,c,s,d,e,h0.below hb,h1.below hb⟩⟩,Rel.val (.string sn),Rel.val (.string sn),Rel.val (.int .i64 0)]) (fun W=>Below W6.heap.size W6 W) (fun _ _=>True) (by kernel_rfl) (by kernel_rfl) (by kernel_rfl) trivial (Below.refl _ _).drew ?_ ?_
   · intro listed a W i hI hD hrd him
     have HI:=hid hI
     have HD:=hid hD
     have Hr:=hid hrd
     clear hI hrd hD
     have y7:a.tmps[7]? = some (.pointer (some ⟨W1.heap.size+1,0,none⟩)):=HI.out.rest 7 (by decide)
     have y6:a.tmps[6]? = some (.pointer (some ⟨W1.heap.size,0,none⟩)):=HI.out.rest 6 (by decide)
     have dK20:=(K2.out.below HI.out.world).cell (i:=0) rfl
     have dK21:=(K2.out.below HI.out.world).cell (i:=1) rfl
     have dK22:=(K2.out.below HI.out.world).cell (i:=2) rfl
     have dK10:=(K1.out.below HI.out.world).cell (i:=0) rfl
     have dK11:=(K1.out.below HI.out.world).cell (i:=1) rfl
     have dK12:=(K1.out.below HI.out.world).cell (i:=2) rfl
     have X0:RV _ listed a 0 41 (.agg #[.bool (ag n2),.slice u0u (aa n2) u0v,.slice u0w (ae en2) u0x]):=HI.out.rh
     have X2:RV _ listed a 2 43 (.agg #[.bool (ag n1),.slice u0q (aa n1) u0r,.slice u0s (ae en1) u0t]):=HI.out.rh
     have X6:RV _ listed a 6 47 (.string sn):=HI.out.rh
     match i,him,Hr with
     | 0,_,Hi =>
       refine au rfl fun K' hK=>?_
       go_simp
       exact hK.out _ _ ⟨HI.out.pv Hi.out rfl,trivial⟩
     | 1,_,Hi =>
       have x0:=X0.g Hi.out (by kernel_rfl)
       refine au rfl fun K' hK=>?_
       go_simp
       with_reducible refine(C7.out _ _ _ _ _ (RB.out.below HI.out.world) (TB.out.below HI.out.world)).mono ?_
       rintro e W' ⟨u08,u09,u0a,u0b,rfl,u0e,u0f,hb⟩
       exact hK.out _ _ ⟨HI.out.pc Hi.out hb ⟨u08,u09,u0a,u0b,rfl,u0e,u0f⟩,trivial⟩
     | 2,_,Hi =>
       refine au rfl fun K' hK=>?_
       go_simp
       exact hK.out _ _ ⟨HI.out.pv Hi.out rfl,trivial⟩
     | 3,_,Hi =>
       have x2:=X2.g Hi.out (by kernel_rfl)
       refine au rfl fun K' hK=>?_
       go_simp
       with_reducible refine(C8.out _ _ _ _ _ (RA.out.below HI.out.world) (TA.out.below HI.out.world)).mono ?_
       rintro e W' ⟨u11,u12,u13,u14,rfl,u0k,u0l,hb⟩
       exact hK.out _ _ ⟨HI.out.pc Hi.out hb ⟨u11,u12,u13,u14,rfl,u0k,u0l⟩,trivial⟩
     | 4,_,Hi =>
       obtain⟨v',x1,u08,u09,u0a,u0b,e,u0e,u0f⟩:=HI.out.at (i:=1) Hi.out (by kernel_rfl) (by decide)
       obtain rfl:=e
       have x1:a.tmps[42]? = some (.agg #[.bool (ag m2),.slice u08 (aa m2) u09,.slice u0a (ae dm2) u0b]):=x1
       have u0y:=hid u0e
       clear u0e
       have u0z:=hid u0f
       clear u0f
       obtain⟨v',x3,u11,u12,u13,u14,e,u0k,u0l⟩:=HI.out.at (i:=3) Hi.out (by kernel_rfl) (by decide)
       obtain rfl:=e
       have x3:a.tmps[44]? = some (.agg #[.bool (ag m1),.slice u11 (aa m1) u12,.slice u13 (ae dm1) u14]):=x3
       have u0g:=hid u0k
       clear u0k
       have u1e:=hid u0l
       clear u0l
       refine au rfl fun K' hK=>?_
       go_simp
       with_reducible refine(C9.out _ _ _ _ _ _ _ _ _ u0y.out u0z.out u0g.out u1e.out).mono ?_
       rintro e W' ⟨u15,u17,u18,u19,rfl,u1r,u1s,hb⟩
       exact hK.out _ _ ⟨HI.out.pc Hi.out hb ⟨u15,u17,u18,u19,rfl,u1r,u1s⟩,trivial⟩
     | 5,_,Hi =>
       obtain⟨v',x4,u15,u17,u18,u19,e,u1r,u1s⟩:=HI.out.at (i:=4) Hi.out (by kernel_rfl) (by decide)
       obtain rfl:=e
       have x4:a.tmps[45]? = some (.agg #[.bool (ag n),.slice u15 (aa n) u17,.slice u18 (ae dn) u19]):=x4
       have u1L:=hid u1r
       clear u1r
       have u1M:=hid u1s
       clear u1s
       refine au rfl fun K' hK=>?_
       go_simp
       with_reducible refine(C10.out _ _ _ _ _ u1L.out u1M.out).mono ?_
       rintro e W' ⟨u1a,u1b,u1c,u1d,rfl,u1t,u1u,hb⟩
       exact hK.out _ _ ⟨HI.out.pc Hi.out hb ⟨u1a,u1b,u1c,u1d,rfl,u1t,u1u⟩,trivial⟩
     | 6,_,Hi =>
       obtain⟨v',x5,u1a,u1b,u1c,u1d,e,u1t,u1u⟩:=HI.out.at (i:=5) Hi.out (by kernel_rfl) (by decide)
       obtain rfl:=e
       have x5:a.tmps[46]? = some (.agg #[.bool (ag r),.slice u1a (aa r) u1b,.slice u1c (ae dr) u1d]):=x5
       have u1N:=hid u1t
       clear u1t
       have u1O:=hid u1u
       clear u1u
       refine au rfl fun K' hK=>?_
       go_simp
       with_reducible refine(C11.out _ _ _ _ _ u1N.out u1O.out).mono ?_
       rintro e W' ⟨rfl,hb⟩
       exact hK.out _ _ ⟨HI.out.pc Hi.out hb rfl,trivial⟩
     | 7,_,Hi =>
       have x6:=X6.g Hi.out (by kernel_rfl)
       refine au rfl fun K' hK=>?_
       go_simp
       exact hK.out _ _ ⟨HI.out.pv Hi.out rfl,trivial⟩
     | 8,_,Hi =>
       refine au rfl fun K' hK=>?_
       go_simp
       exact hK.out _ _ ⟨HI.out.pv Hi.out rfl,trivial⟩
     | n+9,h,_=>exact absurd h (by omega)
   · intro listed a W hI hD hall
     obtain⟨v',x1,u08,u09,u0a,u0b,e,u0e,u0f⟩:=hI.slots 1 (by decide) (hall 1 (by decide))
     obtain rfl:=e
     have u0y:=hid u0e
     clear u0e
     have u0z:=hid u0f
     clear u0f
     obtain⟨v',x3,u11,u12,u13,u14,e,u0k,u0l⟩:=hI.slots 3 (by decide) (hall 3 (by decide))
     obtain rfl:=e
     have u0g:=hid u0k
     clear u0k
     have u1e:=hid u0l
     clear u0l
     obtain⟨v',x4,u15,u17,u18,u19,e,u1r,u1s⟩:=hI.slots 4 (by decide) (hall 4 (by decide))
     obtain rfl:=e
     have u1L:=hid u1r
     clear u1r
     have u1M:=hid u1s
     clear u1s
     obtain⟨v',x5,u1a,u1b,u1c,u1d,e,u1t,u1u⟩:=hI.slots 5 (by decide) (hall 5 (by decide))
     obtain rfl:=e
     have u1N:=hid u1t
     clear u1t
     have u1O:=hid u1u
     clear u1u
     have HBW:=hid hI.world
     have HI:=hid hI
     have HA:=hid hall
     clear hI hall
     have HBX:=hid (HB6.out.trans (HBW.out.mono HB6.out.size))
     have RC:=u0y
     have TC:=u0z
     have RD:=u0g
     have TD:=u1e
     have RQ:=u1L
     have TQ:=u1M
     have RE:=u1N
     have TE:=u1O
     refine bD ?_
     exact⟨rfl,u08,u09,u0a,u0b,u11,u12,u13,u14,u15,u17,u18,u19,u1a,u1b,u1c,u1d,(HI.out.finx ⟨HI.out.sx HA.out 0,x1,HI.out.sx HA.out 2,x3,x4,x5,HI.out.sx HA.out 6,HI.out.sx HA.out 7,HI.out.sx HA.out 8,trivial⟩ rfl),HBX.out⟩
 rintro a' W7 ⟨u08,u09,u0a,u0b,u11,u12,u13,u14,u15,u17,u18,u19,u1a,u1b,u1c,u1d,rfl,z0⟩
 have HB7:=hid z0
 clear z0
 simp only[putL,List.setIfInBounds_toArray,List.set_cons_zero,List.set_cons_succ]
 go_wp2
 exact bodyPost_ret (v:=.tuple #[.string sn,.int .i64 0]) (by simp[results,results32,go_sem]) rfl ⟨rfl,HB7.out⟩
end Go.Proofs.YtmigpoiajkihhaaGreatDoor
