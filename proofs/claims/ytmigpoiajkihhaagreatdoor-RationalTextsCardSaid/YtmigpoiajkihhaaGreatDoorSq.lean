/- garboardref03.From: walks over the contracts of what it calls. -/
import Derived.Test.YtmigpoiajkihhaaGreatDoorMz39q
import Derived.Test.YtmigpoiajkihhaaGreatDoorMz1q
import Derived.Test.YtmigpoiajkihhaaGreatDoorMz42q
set_option maxRecDepth 100000
set_option maxHeartbeats 20000000
open Go.Lib (hid)
namespace Go.Proofs.YtmigpoiajkihhaaGreatDoor
open Go.RowKit Go.Gb
theorem from_int (a0 x0 y0:ByteArray)(z:Int)(n:Nat)  (w:World)(h1:CQ 43 #[.string a0] (.tuple #[.string x0,.string y0,.bool false]))(h2:CQ 36 #[.string x0] (.bool true))(h3:CQ 80 #[.string y0] (.bool true))(h4:∀ W,CZ 37 #[.string x0] W z)(h5:∀ W,CN 70 #[.string y0] W n)  :
 Calls Tryz.prog 44 #[.string a0] w fun e w'=>∃ p c s d,e=.returned (.tuple #[.agg #[.bool (zneg z),.slice p (zlen z) c,.slice s (nlen n) d],.bool true])∧RN w' (.slice p (zlen z) c) z.natAbs∧RN w' (.slice s (nlen n) d) n∧Below w.heap.size w w':=by
 have C1:=hid h1
 have C2:=hid h2
 have C3:=hid h3
 have C4:=hid h4
 have C5:=hid h5
 clear h1 h2 h3 h4 h5
 go_enter Tryz.func44,Tryz.ntmps44
 go_upto_region 1 with fail
 refine wp_boxes w [(#[.bool false,.slice none 0 0,.slice none 0 0],55)] rfl ?_
 rintro W0 ⟨k1,hb⟩
 have HB0:=hid (show Below w.heap.size w W0 from hb)
 have K1:=hid k1
 clear k1 hb
 go_wp2_with fail
 with_reducible refine(C1.out _).mono ?_
 rintro e W1 ⟨rfl,hb⟩
 have K1:=hid (K1.out.below hb)
 have HB1:=hid (HB0.out.trans (hb.mono HB0.out.size))
 clear hb
 go_wp2_with fail
 with_reducible refine(C2.out _).mono ?_
 rintro e W2 ⟨rfl,hb⟩
 have K1:=hid (K1.out.below hb)
 have HB2:=hid (HB1.out.trans (hb.mono HB1.out.size))
 clear hb
 go_wp2_with fail
 with_reducible refine(C3.out _).mono ?_
 rintro e W3 ⟨rfl,hb⟩
 have K1:=hid (K1.out.below hb)
 have HB3:=hid (HB2.out.trans (hb.mono HB2.out.size))
 clear hb
 go_wp2_with fail
 with_reducible refine(C4.out _).mono ?_
 rintro e W4 ⟨p_4,c_4,rfl,r4_0,hb⟩
 have K1:=hid (K1.out.below hb)
 have HB4:=hid (HB3.out.trans (hb.mono HB3.out.size))
 have RZ:=hid r4_0
 clear hb r4_0
 go_wp2_with fail
 with_reducible refine(C5.out _).mono ?_
 rintro e W5 ⟨p_5,c_5,rfl,r5_0,hb⟩
 have K1:=hid (K1.out.below hb)
 have RZ:=hid (RZ.out.below hb)
 have HB5:=hid (HB4.out.trans (hb.mono HB4.out.size))
 have RM:=hid r5_0
 clear hb r5_0
 go_upto_region 5 with fail
 refine wp_boxes W5 [(#[.bool (zneg z),.slice p_4 (zlen z) c_4,.slice p_5 (nlen n) c_5],55)] rfl ?_
 have L1:=K1.out.lt
 have L2:=HB5.out.size
 rintro W6 ⟨k2,hb⟩
 have hb:Below W5.heap.size W5 W6:=hb
 have K1:=hid (K1.out.below hb)
 have RZ:=hid (RZ.out.below hb)
 have RM:=hid (RM.out.below hb)
 have HB6:=hid (HB5.out.trans (hb.mono HB5.out.size))
 have K2:=hid k2
 clear k2 hb
 have dK20:=K2.out.cell (i:=0) rfl
 have dK21:=K2.out.cell (i:=1) rfl
 have dK22:=K2.out.cell (i:=2) rfl
 have dK10:=K1.out.cell (i:=0) rfl
 have dK11:=K1.out.cell (i:=1) rfl
 have dK12:=K1.out.cell (i:=2) rfl
 have fK10:=K1.out.frozen (i:=0)
 have fK11:=K1.out.frozen (i:=1)
 have fK12:=K1.out.frozen (i:=2)
 go_wp2
 exact bodyPost_ret (v:=.tuple #[.agg #[.bool (zneg z),.slice p_4 (zlen z) c_4,.slice p_5 (nlen n) c_5],.bool true]) (by simp[results,Tryz.results44,go_sem,dK10,dK11,dK12]) rfl ⟨_,_,_,_,rfl,(store_rn [.bool (zneg z),.slice p_4 (zlen z) c_4,.slice p_5 (nlen n) c_5] RZ.out K1.out (by simp[noInt]) (by simp[plainV])),(store_rn [.bool (zneg z),.slice p_4 (zlen z) c_4,.slice p_5 (nlen n) c_5] RM.out K1.out (by simp[noInt]) (by simp[plainV])),(store_below (l:=[.bool (zneg z),.slice p_4 (zlen z) c_4,.slice p_5 (nlen n) c_5]) (i:=0) (by omega) HB6.out)⟩
theorem from_badP (a0 x0 y0:ByteArray)(zz:Int)(dz:Nat)(sl:Bool)  (w:World)(h1:CQ 43 #[.string a0] (.tuple #[.string x0,.string y0,.bool sl]))(h2:CQ 36 #[.string x0] (.bool false))(h11:∀ W,CF 84 #[.int .i64 0] W zz dz)  :
 Calls Tryz.prog 44 #[.string a0] w fun e w'=>∃ p c s d,e=.returned (.tuple #[.agg #[.bool (zneg zz),.slice p (zlen zz) c,.slice s (nlen dz) d],.bool false])∧RN w' (.slice p (zlen zz) c) zz.natAbs∧RN w' (.slice s (nlen dz) d) dz∧Below w.heap.size w w':=by
 have C1:=hid h1
 have C2:=hid h2
 have C11:=hid h11
 clear h1 h2 h11
 go_enter Tryz.func44,Tryz.ntmps44
 go_upto_region 1 with fail
 refine wp_boxes w [(#[.bool false,.slice none 0 0,.slice none 0 0],55)] rfl ?_
 rintro W0 ⟨k1,hb⟩
 have HB0:=hid (show Below w.heap.size w W0 from hb)
 have K1:=hid k1
 clear k1 hb
 go_wp2_with fail
 with_reducible refine(C1.out _).mono ?_
 rintro e W1 ⟨rfl,hb⟩
 have K1:=hid (K1.out.below hb)
 have HB1:=hid (HB0.out.trans (hb.mono HB0.out.size))
 clear hb
 go_wp2_with fail
 with_reducible refine(C2.out _).mono ?_
 rintro e W2 ⟨rfl,hb⟩
 have K1:=hid (K1.out.below hb)
 have HB2:=hid (HB1.out.trans (hb.mono HB1.out.size))
 clear hb
 go_wp2_with fail
 with_reducible refine(C11.out _).mono ?_
 rintro e W3 ⟨p_3,c_3,s_3,d_3,rfl,r3_0,r3_1,hb⟩
 have K1:=hid (K1.out.below hb)
 have HB3:=hid (HB2.out.trans (hb.mono HB2.out.size))
 have RQ:=hid r3_0
 have TQ:=hid r3_1
 clear hb r3_0 r3_1
 have dK10:=K1.out.cell (i:=0) rfl
 have dK11:=K1.out.cell (i:=1) rfl
 have dK12:=K1.out.cell (i:=2) rfl
 have fK10:=K1.out.frozen (i:=0)
 have fK11:=K1.out.frozen (i:=1)
 have fK12:=K1.out.frozen (i:=2)
 go_wp2
 exact bodyPost_ret (v:=.tuple #[.agg #[.bool (zneg (zz)),.slice p_3 (zlen (zz)) c_3,.slice s_3 (nlen (dz)) d_3],.bool false]) (by simp[results,Tryz.results44,go_sem,dK10,dK11,dK12]) rfl ⟨_,_,_,_,rfl,(store_rn [.bool (zneg (zz)),.slice p_3 (zlen (zz)) c_3,.slice s_3 (nlen (dz)) d_3] RQ.out K1.out (by simp[noInt]) (by simp[plainV])),(store_rn [.bool (zneg (zz)),.slice p_3 (zlen (zz)) c_3,.slice s_3 (nlen (dz)) d_3] TQ.out K1.out (by simp[noInt]) (by simp[plainV])),(store_below (l:=[.bool (zneg (zz)),.slice p_3 (zlen (zz)) c_3,.slice s_3 (nlen (dz)) d_3]) (i:=0) (by omega) HB3.out)⟩
theorem from_badD (a0 x0 y0:ByteArray)(zz:Int)(dz:Nat)(sl:Bool)  (w:World)(h1:CQ 43 #[.string a0] (.tuple #[.string x0,.string y0,.bool sl]))(h2:CQ 36 #[.string x0] (.bool true))(h3:CQ 80 #[.string y0] (.bool false))(h11:∀ W,CF 84 #[.int .i64 0] W zz dz)  :
 Calls Tryz.prog 44 #[.string a0] w fun e w'=>∃ p c s d,e=.returned (.tuple #[.agg #[.bool (zneg zz),.slice p (zlen zz) c,.slice s (nlen dz) d],.bool false])∧RN w' (.slice p (zlen zz) c) zz.natAbs∧RN w' (.slice s (nlen dz) d) dz∧Below w.heap.size w w':=by
 have C1:=hid h1
 have C2:=hid h2
 have C3:=hid h3
 have C11:=hid h11
 clear h1 h2 h3 h11
 go_enter Tryz.func44,Tryz.ntmps44
 go_upto_region 1 with fail
 refine wp_boxes w [(#[.bool false,.slice none 0 0,.slice none 0 0],55)] rfl ?_
 rintro W0 ⟨k1,hb⟩
 have HB0:=hid (show Below w.heap.size w W0 from hb)
 have K1:=hid k1
 clear k1 hb
 go_wp2_with fail
 with_reducible refine(C1.out _).mono ?_
 rintro e W1 ⟨rfl,hb⟩
 have K1:=hid (K1.out.below hb)
 have HB1:=hid (HB0.out.trans (hb.mono HB0.out.size))
 clear hb
 go_wp2_with fail
 with_reducible refine(C2.out _).mono ?_
 rintro e W2 ⟨rfl,hb⟩
 have K1:=hid (K1.out.below hb)
 have HB2:=hid (HB1.out.trans (hb.mono HB1.out.size))
 clear hb
 go_wp2_with fail
 with_reducible refine(C3.out _).mono ?_
 rintro e W3 ⟨rfl,hb⟩
 have K1:=hid (K1.out.below hb)
 have HB3:=hid (HB2.out.trans (hb.mono HB2.out.size))
 clear hb
 go_wp2_with fail
 with_reducible refine(C11.out _).mono ?_
 rintro e W4 ⟨p_4,c_4,s_4,d_4,rfl,r4_0,r4_1,hb⟩
 have K1:=hid (K1.out.below hb)
 have HB4:=hid (HB3.out.trans (hb.mono HB3.out.size))
 have RQ:=hid r4_0
 have TQ:=hid r4_1
 clear hb r4_0 r4_1
 have dK10:=K1.out.cell (i:=0) rfl
 have dK11:=K1.out.cell (i:=1) rfl
 have dK12:=K1.out.cell (i:=2) rfl
 have fK10:=K1.out.frozen (i:=0)
 have fK11:=K1.out.frozen (i:=1)
 have fK12:=K1.out.frozen (i:=2)
 go_wp2
 exact bodyPost_ret (v:=.tuple #[.agg #[.bool (zneg (zz)),.slice p_4 (zlen (zz)) c_4,.slice s_4 (nlen (dz)) d_4],.bool false]) (by simp[results,Tryz.results44,go_sem,dK10,dK11,dK12]) rfl ⟨_,_,_,_,rfl,(store_rn [.bool (zneg (zz)),.slice p_4 (zlen (zz)) c_4,.slice s_4 (nlen (dz)) d_4] RQ.out K1.out (by simp[noInt]) (by simp[plainV])),(store_rn [.bool (zneg (zz)),.slice p_4 (zlen (zz)) c_4,.slice s_4 (nlen (dz)) d_4] TQ.out K1.out (by simp[noInt]) (by simp[plainV])),(store_below (l:=[.bool (zneg (zz)),.slice p_4 (zlen (zz)) c_4,.slice s_4 (nlen (dz)) d_4]) (i:=0) (by omega) HB4.out)⟩
theorem from_frac (a0 x0 y0:ByteArray)(z k sg:Int)(n one g:Nat)(hk:0<k)(hsg:sg≠0)  (w:World)(h1:CQ 43 #[.string a0] (.tuple #[.string x0,.string y0,.bool true]))(h2:CQ 36 #[.string x0] (.bool true))(h3:CQ 80 #[.string y0] (.bool true))(h4:∀ W,CZ 37 #[.string x0] W z)(h5:∀ W,CN 70 #[.string y0] W n)(h6:∀ W,CN 63 #[.int .u32 1] W one)(h7:∀ s1 d1 s2 d2 W,RN W (.slice s1 (nlen n) d1) n→RN W (.slice s2 (nlen one) d2) one→CR 85 #[.slice s1 (nlen n) d1,.slice s2 (nlen one) d2] W (.int .i64 k))(h8:∀ p1 c1 W,RN W (.slice p1 (zlen z) c1) z.natAbs→CR 38 #[.agg #[.bool (zneg z),.slice p1 (zlen z) c1]] W (.int .i64 sg))(h9:∀ p1 c1 s2 d2 W,RN W (.slice p1 (zlen z) c1) z.natAbs→RN W (.slice s2 (nlen n) d2) n→CN 81 #[.slice p1 (zlen z) c1,.slice s2 (nlen n) d2] W g)(h10:∀ s1 d1 s2 d2 W,RN W (.slice s1 (nlen g) d1) g→RN W (.slice s2 (nlen one) d2) one→CR 85 #[.slice s1 (nlen g) d1,.slice s2 (nlen one) d2] W (.int .i64 0))  :
 Calls Tryz.prog 44 #[.string a0] w fun e w'=>∃ p c s d,e=.returned (.tuple #[.agg #[.bool (zneg z),.slice p (zlen z) c,.slice s (nlen n) d],.bool true])∧RN w' (.slice p (zlen z) c) z.natAbs∧RN w' (.slice s (nlen n) d) n∧Below w.heap.size w w':=by
 have C1:=hid h1
 have C2:=hid h2
 have C3:=hid h3
 have C4:=hid h4
 have C5:=hid h5
 have C6:=hid h6
 have C7:=hid h7
 have C8:=hid h8
 have C9:=hid h9
 have C10:=hid h10
 have k0:decide (0<k)=true:=decide_eq_true hk
 have k1:0<k:=hk
 clear hk
 have s0:(sg==0)=false:=by rw[beq_eq_false_iff_ne];exact hsg
 have s1:¬ sg=0:=hsg
 have s2:(sg !=0)=true:=by unfold bne;rw[s0];rfl
 have s3:decide (sg=0)=false:=decide_eq_false hsg
 clear hsg h1 h2 h3 h4 h5 h6 h7 h8 h9 h10
 go_enter Tryz.func44,Tryz.ntmps44
 go_upto_region 1 with fail
 refine wp_boxes w [(#[.bool false,.slice none 0 0,.slice none 0 0],55)] rfl ?_
 rintro W0 ⟨k1,hb⟩
 have HB0:=hid (show Below w.heap.size w W0 from hb)
 have K1:=hid k1
 clear k1 hb
 go_wp2_with fail
 with_reducible refine(C1.out _).mono ?_
 rintro e W1 ⟨rfl,hb⟩
 have K1:=hid (K1.out.below hb)
 have HB1:=hid (HB0.out.trans (hb.mono HB0.out.size))
 clear hb
 go_wp2_with fail
 with_reducible refine(C2.out _).mono ?_
 rintro e W2 ⟨rfl,hb⟩
 have K1:=hid (K1.out.below hb)
 have HB2:=hid (HB1.out.trans (hb.mono HB1.out.size))
 clear hb
 go_wp2_with fail
 with_reducible refine(C3.out _).mono ?_
 rintro e W3 ⟨rfl,hb⟩
 have K1:=hid (K1.out.below hb)
 have HB3:=hid (HB2.out.trans (hb.mono HB2.out.size))
 clear hb
 go_wp2_with fail
 with_reducible refine(C4.out _).mono ?_
 rintro e W4 ⟨p_4,c_4,rfl,r4_0,hb⟩
 have K1:=hid (K1.out.below hb)
 have HB4:=hid (HB3.out.trans (hb.mono HB3.out.size))
 have RZ:=hid r4_0
 clear hb r4_0
 go_wp2_with fail
 with_reducible refine(C5.out _).mono ?_
 rintro e W5 ⟨p_5,c_5,rfl,r5_0,hb⟩
 have K1:=hid (K1.out.below hb)
 have RZ:=hid (RZ.out.below hb)
 have HB5:=hid (HB4.out.trans (hb.mono HB4.out.size))
 have RM:=hid r5_0
 clear hb r5_0
 go_upto_region 5 with fail
 refine wp_boxes W5 [(#[.bool (zneg z),.slice p_4 (zlen z) c_4,.slice p_5 (nlen n) c_5],55)] rfl ?_
 have L1:=K1.out.lt
 have L2:=HB5.out.size
 rintro W6 ⟨k2,hb⟩
 have hb:Below W5.heap.size W5 W6:=hb
 have K1:=hid (K1.out.below hb)
 have RZ:=hid (RZ.out.below hb)
 have RM:=hid (RM.out.below hb)
 have HB6:=hid (HB5.out.trans (hb.mono HB5.out.size))
 have K2:=hid k2
 clear k2 hb
 go_wp2_with fail
 with_reducible refine(C6.out _).mono ?_
 rintro e W7 ⟨p_6,c_6,rfl,r6_0,hb⟩
 have K1:=hid (K1.out.below hb)
 have K2:=hid (K2.out.below hb)
 have RZ:=hid (RZ.out.below hb)
 have RM:=hid (RM.out.below hb)
 have HB7:=hid (HB6.out.trans (hb.mono HB6.out.size))
 have RO:=hid r6_0
 clear hb r6_0
 have dK22:=K2.out.cell (i:=2) rfl
 go_wp2_with fail
 with_reducible refine(C7.out _ _ _ _ _ RM.out RO.out).mono ?_
 rintro e W8 ⟨rfl,hb⟩
 clear dK22
 have K1:=hid (K1.out.below hb)
 have K2:=hid (K2.out.below hb)
 have RZ:=hid (RZ.out.below hb)
 have RM:=hid (RM.out.below hb)
 have RO:=hid (RO.out.below hb)
 have HB8:=hid (HB7.out.trans (hb.mono HB7.out.size))
 clear hb
 have dK20:=K2.out.cell (i:=0) rfl
 have dK21:=K2.out.cell (i:=1) rfl
 go_wp2_with fail
 with_reducible refine(C8.out _ _ _ RZ.out).mono ?_
 rintro e W9 ⟨rfl,hb⟩
 clear dK20 dK21
 have K1:=hid (K1.out.below hb)
 have K2:=hid (K2.out.below hb)
 have RZ:=hid (RZ.out.below hb)
 have RM:=hid (RM.out.below hb)
 have RO:=hid (RO.out.below hb)
 have HB9:=hid (HB8.out.trans (hb.mono HB8.out.size))
 clear hb
 have dK21:=K2.out.cell (i:=1) rfl
 have dK22:=K2.out.cell (i:=2) rfl
 go_wp2_with fail
 with_reducible refine(C9.out _ _ _ _ _ RZ.out RM.out).mono ?_
 rintro e W10 ⟨p_9,c_9,rfl,r9_0,hb⟩
 clear dK21 dK22
 have K1:=hid (K1.out.below hb)
 have K2:=hid (K2.out.below hb)
 have RZ:=hid (RZ.out.below hb)
 have RM:=hid (RM.out.below hb)
 have RO:=hid (RO.out.below hb)
 have HB10:=hid (HB9.out.trans (hb.mono HB9.out.size))
 have RG:=hid r9_0
 clear hb r9_0
 go_wp2_with fail
 with_reducible refine(C10.out _ _ _ _ _ RG.out RO.out).mono ?_
 rintro e W11 ⟨rfl,hb⟩
 have K1:=hid (K1.out.below hb)
 have K2:=hid (K2.out.below hb)
 have RZ:=hid (RZ.out.below hb)
 have RM:=hid (RM.out.below hb)
 have HB11:=hid (HB10.out.trans (hb.mono HB10.out.size))
 clear hb
 have dK20:=K2.out.cell (i:=0) rfl
 have dK21:=K2.out.cell (i:=1) rfl
 have dK22:=K2.out.cell (i:=2) rfl
 have dK10:=K1.out.cell (i:=0) rfl
 have dK11:=K1.out.cell (i:=1) rfl
 have dK12:=K1.out.cell (i:=2) rfl
 have fK10:=K1.out.frozen (i:=0)
 have fK11:=K1.out.frozen (i:=1)
 have fK12:=K1.out.frozen (i:=2)
 go_wp2
 exact bodyPost_ret (v:=.tuple #[.agg #[.bool (zneg z),.slice p_4 (zlen z) c_4,.slice p_5 (nlen n) c_5],.bool true]) (by simp[results,Tryz.results44,go_sem,dK10,dK11,dK12]) rfl ⟨_,_,_,_,rfl,(store_rn [.bool (zneg z),.slice p_4 (zlen z) c_4,.slice p_5 (nlen n) c_5] RZ.out K1.out (by simp[noInt]) (by simp[plainV])),(store_rn [.bool (zneg z),.slice p_4 (zlen z) c_4,.slice p_5 (nlen n) c_5] RM.out K1.out (by simp[noInt]) (by simp[plainV])),(store_below (l:=[.bool (zneg z),.slice p_4 (zlen z) c_4,.slice p_5 (nlen n) c_5]) (i:=0) (by omega) HB11.out)⟩
theorem from_small (a0 x0 y0:ByteArray)(z k zz:Int)(n one dz:Nat)(hk:k≤0)  (w:World)(h1:CQ 43 #[.string a0] (.tuple #[.string x0,.string y0,.bool true]))(h2:CQ 36 #[.string x0] (.bool true))(h3:CQ 80 #[.string y0] (.bool true))(h4:∀ W,CZ 37 #[.string x0] W z)(h5:∀ W,CN 70 #[.string y0] W n)(h6:∀ W,CN 63 #[.int .u32 1] W one)(h7:∀ s1 d1 s2 d2 W,RN W (.slice s1 (nlen n) d1) n→RN W (.slice s2 (nlen one) d2) one→CR 85 #[.slice s1 (nlen n) d1,.slice s2 (nlen one) d2] W (.int .i64 k))(h11:∀ W,CF 84 #[.int .i64 0] W zz dz)  :
 Calls Tryz.prog 44 #[.string a0] w fun e w'=>∃ p c s d,e=.returned (.tuple #[.agg #[.bool (zneg zz),.slice p (zlen zz) c,.slice s (nlen dz) d],.bool false])∧RN w' (.slice p (zlen zz) c) zz.natAbs∧RN w' (.slice s (nlen dz) d) dz∧Below w.heap.size w w':=by
 have C1:=hid h1
 have C2:=hid h2
 have C3:=hid h3
 have C4:=hid h4
 have C5:=hid h5
 have C6:=hid h6
 have C7:=hid h7
 have C11:=hid h11
 have k0:decide (0<k)=false:=decide_eq_false (by omega)
 have k1:k≤0:=hk
 clear hk h1 h2 h3 h4 h5 h6 h7 h11
 go_enter Tryz.func44,Tryz.ntmps44
 go_upto_region 1 with fail
 refine wp_boxes w [(#[.bool false,.slice none 0 0,.slice none 0 0],55)] rfl ?_
 rintro W0 ⟨k1,hb⟩
 have HB0:=hid (show Below w.heap.size w W0 from hb)
 have K1:=hid k1
 clear k1 hb
 go_wp2_with fail
 with_reducible refine(C1.out _).mono ?_
 rintro e W1 ⟨rfl,hb⟩
 have K1:=hid (K1.out.below hb)
 have HB1:=hid (HB0.out.trans (hb.mono HB0.out.size))
 clear hb
 go_wp2_with fail
 with_reducible refine(C2.out _).mono ?_
 rintro e W2 ⟨rfl,hb⟩
 have K1:=hid (K1.out.below hb)
 have HB2:=hid (HB1.out.trans (hb.mono HB1.out.size))
 clear hb
 go_wp2_with fail
 with_reducible refine(C3.out _).mono ?_
 rintro e W3 ⟨rfl,hb⟩
 have K1:=hid (K1.out.below hb)
 have HB3:=hid (HB2.out.trans (hb.mono HB2.out.size))
 clear hb
 go_wp2_with fail
 with_reducible refine(C4.out _).mono ?_
 rintro e W4 ⟨p_4,c_4,rfl,r4_0,hb⟩
 have K1:=hid (K1.out.below hb)
 have HB4:=hid (HB3.out.trans (hb.mono HB3.out.size))
 have RZ:=hid r4_0
 clear hb r4_0
 go_wp2_with fail
 with_reducible refine(C5.out _).mono ?_
 rintro e W5 ⟨p_5,c_5,rfl,r5_0,hb⟩
 have K1:=hid (K1.out.below hb)
 have HB5:=hid (HB4.out.trans (hb.mono HB4.out.size))
 have RM:=hid r5_0
 clear hb r5_0
 go_upto_region 5 with fail
 refine wp_boxes W5 [(#[.bool (zneg z),.slice p_4 (zlen z) c_4,.slice p_5 (nlen n) c_5],55)] rfl ?_
 have L1:=K1.out.lt
 have L2:=HB5.out.size
 rintro W6 ⟨k2,hb⟩
 have hb:Below W5.heap.size W5 W6:=hb
 have K1:=hid (K1.out.below hb)
 have RM:=hid (RM.out.below hb)
 have HB6:=hid (HB5.out.trans (hb.mono HB5.out.size))
 have K2:=hid k2
 clear k2 hb
 go_wp2_with fail
 with_reducible refine(C6.out _).mono ?_
 rintro e W7 ⟨p_6,c_6,rfl,r6_0,hb⟩
 have K1:=hid (K1.out.below hb)
 have K2:=hid (K2.out.below hb)
 have RM:=hid (RM.out.below hb)
 have HB7:=hid (HB6.out.trans (hb.mono HB6.out.size))
 have RO:=hid r6_0
 clear hb r6_0
 have dK22:=K2.out.cell (i:=2) rfl
 go_wp2_with fail
 with_reducible refine(C7.out _ _ _ _ _ RM.out RO.out).mono ?_
 rintro e W8 ⟨rfl,hb⟩
 clear dK22
 have K1:=hid (K1.out.below hb)
 have K2:=hid (K2.out.below hb)
 have HB8:=hid (HB7.out.trans (hb.mono HB7.out.size))
 clear hb
 have dK20:=K2.out.cell (i:=0) rfl
 have dK21:=K2.out.cell (i:=1) rfl
 have dK22:=K2.out.cell (i:=2) rfl
 go_wp2_with fail
 with_reducible refine(C11.out _).mono ?_
 rintro e W9 ⟨p_8,c_8,s_8,d_8,rfl,r8_0,r8_1,hb⟩
 clear dK20 dK21 dK22
 have K1:=hid (K1.out.below hb)
 have HB9:=hid (HB8.out.trans (hb.mono HB8.out.size))
 have RQ:=hid r8_0
 have TQ:=hid r8_1
 clear hb r8_0 r8_1
 have dK10:=K1.out.cell (i:=0) rfl
 have dK11:=K1.out.cell (i:=1) rfl
 have dK12:=K1.out.cell (i:=2) rfl
 have fK10:=K1.out.frozen (i:=0)
 have fK11:=K1.out.frozen (i:=1)
 have fK12:=K1.out.frozen (i:=2)
 go_wp2
 exact bodyPost_ret (v:=.tuple #[.agg #[.bool (zneg (zz)),.slice p_8 (zlen (zz)) c_8,.slice s_8 (nlen (dz)) d_8],.bool false]) (by simp[results,Tryz.results44,go_sem,dK10,dK11,dK12]) rfl ⟨_,_,_,_,rfl,(store_rn [.bool (zneg (zz)),.slice p_8 (zlen (zz)) c_8,.slice s_8 (nlen (dz)) d_8] RQ.out K1.out (by simp[noInt]) (by simp[plainV])),(store_rn [.bool (zneg (zz)),.slice p_8 (zlen (zz)) c_8,.slice s_8 (nlen (dz)) d_8] TQ.out K1.out (by simp[noInt]) (by simp[plainV])),(store_below (l:=[.bool (zneg (zz)),.slice p_8 (zlen (zz)) c_8,.slice s_8 (nlen (dz)) d_8]) (i:=0) (by omega) HB9.out)⟩
theorem from_zero (a0 x0 y0:ByteArray)(z k zz:Int)(n one dz:Nat)(hk:0<k)  (w:World)(h1:CQ 43 #[.string a0] (.tuple #[.string x0,.string y0,.bool true]))(h2:CQ 36 #[.string x0] (.bool true))(h3:CQ 80 #[.string y0] (.bool true))(h4:∀ W,CZ 37 #[.string x0] W z)(h5:∀ W,CN 70 #[.string y0] W n)(h6:∀ W,CN 63 #[.int .u32 1] W one)(h7:∀ s1 d1 s2 d2 W,RN W (.slice s1 (nlen n) d1) n→RN W (.slice s2 (nlen one) d2) one→CR 85 #[.slice s1 (nlen n) d1,.slice s2 (nlen one) d2] W (.int .i64 k))(h8:∀ p1 c1 W,RN W (.slice p1 (zlen z) c1) z.natAbs→CR 38 #[.agg #[.bool (zneg z),.slice p1 (zlen z) c1]] W (.int .i64 0))(h11:∀ W,CF 84 #[.int .i64 0] W zz dz)  :
 Calls Tryz.prog 44 #[.string a0] w fun e w'=>∃ p c s d,e=.returned (.tuple #[.agg #[.bool (zneg zz),.slice p (zlen zz) c,.slice s (nlen dz) d],.bool false])∧RN w' (.slice p (zlen zz) c) zz.natAbs∧RN w' (.slice s (nlen dz) d) dz∧Below w.heap.size w w':=by
 have C1:=hid h1
 have C2:=hid h2
 have C3:=hid h3
 have C4:=hid h4
 have C5:=hid h5
 have C6:=hid h6
 have C7:=hid h7
 have C8:=hid h8
 have C11:=hid h11
 have k0:decide (0<k)=true:=decide_eq_true hk
 have k1:0<k:=hk
 clear hk h1 h2 h3 h4 h5 h6 h7 h8 h11
 go_enter Tryz.func44,Tryz.ntmps44
 go_upto_region 1 with fail
 refine wp_boxes w [(#[.bool false,.slice none 0 0,.slice none 0 0],55)] rfl ?_
 rintro W0 ⟨k1,hb⟩
 have HB0:=hid (show Below w.heap.size w W0 from hb)
 have K1:=hid k1
 clear k1 hb
 go_wp2_with fail
 with_reducible refine(C1.out _).mono ?_
 rintro e W1 ⟨rfl,hb⟩
 have K1:=hid (K1.out.below hb)
 have HB1:=hid (HB0.out.trans (hb.mono HB0.out.size))
 clear hb
 go_wp2_with fail
 with_reducible refine(C2.out _).mono ?_
 rintro e W2 ⟨rfl,hb⟩
 have K1:=hid (K1.out.below hb)
 have HB2:=hid (HB1.out.trans (hb.mono HB1.out.size))
 clear hb
 go_wp2_with fail
 with_reducible refine(C3.out _).mono ?_
 rintro e W3 ⟨rfl,hb⟩
 have K1:=hid (K1.out.below hb)
 have HB3:=hid (HB2.out.trans (hb.mono HB2.out.size))
 clear hb
 go_wp2_with fail
 with_reducible refine(C4.out _).mono ?_
 rintro e W4 ⟨p_4,c_4,rfl,r4_0,hb⟩
 have K1:=hid (K1.out.below hb)
 have HB4:=hid (HB3.out.trans (hb.mono HB3.out.size))
 have RZ:=hid r4_0
 clear hb r4_0
 go_wp2_with fail
 with_reducible refine(C5.out _).mono ?_
 rintro e W5 ⟨p_5,c_5,rfl,r5_0,hb⟩
 have K1:=hid (K1.out.below hb)
 have RZ:=hid (RZ.out.below hb)
 have HB5:=hid (HB4.out.trans (hb.mono HB4.out.size))
 have RM:=hid r5_0
 clear hb r5_0
 go_upto_region 5 with fail
 refine wp_boxes W5 [(#[.bool (zneg z),.slice p_4 (zlen z) c_4,.slice p_5 (nlen n) c_5],55)] rfl ?_
 have L1:=K1.out.lt
 have L2:=HB5.out.size
 rintro W6 ⟨k2,hb⟩
 have hb:Below W5.heap.size W5 W6:=hb
 have K1:=hid (K1.out.below hb)
 have RZ:=hid (RZ.out.below hb)
 have RM:=hid (RM.out.below hb)
 have HB6:=hid (HB5.out.trans (hb.mono HB5.out.size))
 have K2:=hid k2
 clear k2 hb
 go_wp2_with fail
 with_reducible refine(C6.out _).mono ?_
 rintro e W7 ⟨p_6,c_6,rfl,r6_0,hb⟩
 have K1:=hid (K1.out.below hb)
 have K2:=hid (K2.out.below hb)
 have RZ:=hid (RZ.out.below hb)
 have RM:=hid (RM.out.below hb)
 have HB7:=hid (HB6.out.trans (hb.mono HB6.out.size))
 have RO:=hid r6_0
 clear hb r6_0
 have dK22:=K2.out.cell (i:=2) rfl
 go_wp2_with fail
 with_reducible refine(C7.out _ _ _ _ _ RM.out RO.out).mono ?_
 rintro e W8 ⟨rfl,hb⟩
 clear dK22
 have K1:=hid (K1.out.below hb)
 have K2:=hid (K2.out.below hb)
 have RZ:=hid (RZ.out.below hb)
 have HB8:=hid (HB7.out.trans (hb.mono HB7.out.size))
 clear hb
 have dK20:=K2.out.cell (i:=0) rfl
 have dK21:=K2.out.cell (i:=1) rfl
 go_wp2_with fail
 with_reducible refine(C8.out _ _ _ RZ.out).mono ?_
 rintro e W9 ⟨rfl,hb⟩
 clear dK20 dK21
 have K1:=hid (K1.out.below hb)
 have K2:=hid (K2.out.below hb)
 have HB9:=hid (HB8.out.trans (hb.mono HB8.out.size))
 clear hb
 have dK21:=K2.out.cell (i:=1) rfl
 have dK22:=K2.out.cell (i:=2) rfl
 go_wp2_with fail
 with_reducible refine(C11.out _).mono ?_
 rintro e W10 ⟨p_9,c_9,s_9,d_9,rfl,r9_0,r9_1,hb⟩
 clear dK21 dK22
 have K1:=hid (K1.out.below hb)
 have HB10:=hid (HB9.out.trans (hb.mono HB9.out.size))
 have RQ:=hid r9_0
 have TQ:=hid r9_1
 clear hb r9_0 r9_1
 have dK10:=K1.out.cell (i:=0) rfl
 have dK11:=K1.out.cell (i:=1) rfl
 have dK12:=K1.out.cell (i:=2) rfl
 have fK10:=K1.out.frozen (i:=0)
 have fK11:=K1.out.frozen (i:=1)
 have fK12:=K1.out.frozen (i:=2)
 go_wp2
 exact bodyPost_ret (v:=.tuple #[.agg #[.bool (zneg (zz)),.slice p_9 (zlen (zz)) c_9,.slice s_9 (nlen (dz)) d_9],.bool false]) (by simp[results,Tryz.results44,go_sem,dK10,dK11,dK12]) rfl ⟨_,_,_,_,rfl,(store_rn [.bool (zneg (zz)),.slice p_9 (zlen (zz)) c_9,.slice s_9 (nlen (dz)) d_9] RQ.out K1.out (by simp[noInt]) (by simp[plainV])),(store_rn [.bool (zneg (zz)),.slice p_9 (zlen (zz)) c_9,.slice s_9 (nlen (dz)) d_9] TQ.out K1.out (by simp[noInt]) (by simp[plainV])),(store_below (l:=[.bool (zneg (zz)),.slice p_9 (zlen (zz)) c_9,.slice s_9 (nlen (dz)) d_9]) (i:=0) (by omega) HB10.out)⟩
theorem from_shared (a0 x0 y0:ByteArray)(z k k2 sg zz:Int)(n one g dz:Nat)(hk:0<k)(hsg:sg≠0)(hk2:k2≠0)  (w:World)(h1:CQ 43 #[.string a0] (.tuple #[.string x0,.string y0,.bool true]))(h2:CQ 36 #[.string x0] (.bool true))(h3:CQ 80 #[.string y0] (.bool true))(h4:∀ W,CZ 37 #[.string x0] W z)(h5:∀ W,CN 70 #[.string y0] W n)(h6:∀ W,CN 63 #[.int .u32 1] W one)(h7:∀ s1 d1 s2 d2 W,RN W (.slice s1 (nlen n) d1) n→RN W (.slice s2 (nlen one) d2) one→CR 85 #[.slice s1 (nlen n) d1,.slice s2 (nlen one) d2] W (.int .i64 k))(h8:∀ p1 c1 W,RN W (.slice p1 (zlen z) c1) z.natAbs→CR 38 #[.agg #[.bool (zneg z),.slice p1 (zlen z) c1]] W (.int .i64 sg))(h9:∀ p1 c1 s2 d2 W,RN W (.slice p1 (zlen z) c1) z.natAbs→RN W (.slice s2 (nlen n) d2) n→CN 81 #[.slice p1 (zlen z) c1,.slice s2 (nlen n) d2] W g)(h10:∀ s1 d1 s2 d2 W,RN W (.slice s1 (nlen g) d1) g→RN W (.slice s2 (nlen one) d2) one→CR 85 #[.slice s1 (nlen g) d1,.slice s2 (nlen one) d2] W (.int .i64 k2))(h11:∀ W,CF 84 #[.int .i64 0] W zz dz)  :
 Calls Tryz.prog 44 #[.string a0] w fun e w'=>∃ p c s d,e=.returned (.tuple #[.agg #[.bool (zneg zz),.slice p (zlen zz) c,.slice s (nlen dz) d],.bool false])∧RN w' (.slice p (zlen zz) c) zz.natAbs∧RN w' (.slice s (nlen dz) d) dz∧Below w.heap.size w w':=by
 have C1:=hid h1
 have C2:=hid h2
 have C3:=hid h3
 have C4:=hid h4
 have C5:=hid h5
 have C6:=hid h6
 have C7:=hid h7
 have C8:=hid h8
 have C9:=hid h9
 have C10:=hid h10
 have C11:=hid h11
 have k0:decide (0<k)=true:=decide_eq_true hk
 have k1:0<k:=hk
 clear hk
 have s0:(sg==0)=false:=by rw[beq_eq_false_iff_ne];exact hsg
 have s1:¬ sg=0:=hsg
 have s2:(sg !=0)=true:=by unfold bne;rw[s0];rfl
 have s3:decide (sg=0)=false:=decide_eq_false hsg
 clear hsg
 have q0:(k2==0)=false:=by rw[beq_eq_false_iff_ne];exact hk2
 have q1:¬ k2=0:=hk2
 clear hk2 h1 h2 h3 h4 h5 h6 h7 h8 h9 h10 h11
 go_enter Tryz.func44,Tryz.ntmps44
 go_upto_region 1 with fail
 refine wp_boxes w [(#[.bool false,.slice none 0 0,.slice none 0 0],55)] rfl ?_
 rintro W0 ⟨k1,hb⟩
 have HB0:=hid (show Below w.heap.size w W0 from hb)
 have K1:=hid k1
 clear k1 hb
 go_wp2_with fail
 with_reducible refine(C1.out _).mono ?_
 rintro e W1 ⟨rfl,hb⟩
 have K1:=hid (K1.out.below hb)
 have HB1:=hid (HB0.out.trans (hb.mono HB0.out.size))
 clear hb
 go_wp2_with fail
 with_reducible refine(C2.out _).mono ?_
 rintro e W2 ⟨rfl,hb⟩
 have K1:=hid (K1.out.below hb)
 have HB2:=hid (HB1.out.trans (hb.mono HB1.out.size))
 clear hb
 go_wp2_with fail
 with_reducible refine(C3.out _).mono ?_
 rintro e W3 ⟨rfl,hb⟩
 have K1:=hid (K1.out.below hb)
 have HB3:=hid (HB2.out.trans (hb.mono HB2.out.size))
 clear hb
 go_wp2_with fail
 with_reducible refine(C4.out _).mono ?_
 rintro e W4 ⟨p_4,c_4,rfl,r4_0,hb⟩
 have K1:=hid (K1.out.below hb)
 have HB4:=hid (HB3.out.trans (hb.mono HB3.out.size))
 have RZ:=hid r4_0
 clear hb r4_0
 go_wp2_with fail
 with_reducible refine(C5.out _).mono ?_
 rintro e W5 ⟨p_5,c_5,rfl,r5_0,hb⟩
 have K1:=hid (K1.out.below hb)
 have RZ:=hid (RZ.out.below hb)
 have HB5:=hid (HB4.out.trans (hb.mono HB4.out.size))
 have RM:=hid r5_0
 clear hb r5_0
 go_upto_region 5 with fail
 refine wp_boxes W5 [(#[.bool (zneg z),.slice p_4 (zlen z) c_4,.slice p_5 (nlen n) c_5],55)] rfl ?_
 have L1:=K1.out.lt
 have L2:=HB5.out.size
 rintro W6 ⟨k2,hb⟩
 have hb:Below W5.heap.size W5 W6:=hb
 have K1:=hid (K1.out.below hb)
 have RZ:=hid (RZ.out.below hb)
 have RM:=hid (RM.out.below hb)
 have HB6:=hid (HB5.out.trans (hb.mono HB5.out.size))
 have K2:=hid k2
 clear k2 hb
 go_wp2_with fail
 with_reducible refine(C6.out _).mono ?_
 rintro e W7 ⟨p_6,c_6,rfl,r6_0,hb⟩
 have K1:=hid (K1.out.below hb)
 have K2:=hid (K2.out.below hb)
 have RZ:=hid (RZ.out.below hb)
 have RM:=hid (RM.out.below hb)
 have HB7:=hid (HB6.out.trans (hb.mono HB6.out.size))
 have RO:=hid r6_0
 clear hb r6_0
 have dK22:=K2.out.cell (i:=2) rfl
 go_wp2_with fail
 with_reducible refine(C7.out _ _ _ _ _ RM.out RO.out).mono ?_
 rintro e W8 ⟨rfl,hb⟩
 clear dK22
 have K1:=hid (K1.out.below hb)
 have K2:=hid (K2.out.below hb)
 have RZ:=hid (RZ.out.below hb)
 have RM:=hid (RM.out.below hb)
 have RO:=hid (RO.out.below hb)
 have HB8:=hid (HB7.out.trans (hb.mono HB7.out.size))
 clear hb
 have dK20:=K2.out.cell (i:=0) rfl
 have dK21:=K2.out.cell (i:=1) rfl
 go_wp2_with fail
 with_reducible refine(C8.out _ _ _ RZ.out).mono ?_
 rintro e W9 ⟨rfl,hb⟩
 clear dK20 dK21
 have K1:=hid (K1.out.below hb)
 have K2:=hid (K2.out.below hb)
 have RZ:=hid (RZ.out.below hb)
 have RM:=hid (RM.out.below hb)
 have RO:=hid (RO.out.below hb)
 have HB9:=hid (HB8.out.trans (hb.mono HB8.out.size))
 clear hb
 have dK21:=K2.out.cell (i:=1) rfl
 have dK22:=K2.out.cell (i:=2) rfl
 go_wp2_with fail
 with_reducible refine(C9.out _ _ _ _ _ RZ.out RM.out).mono ?_
 rintro e W10 ⟨p_9,c_9,rfl,r9_0,hb⟩
 clear dK21 dK22
 have K1:=hid (K1.out.below hb)
 have RO:=hid (RO.out.below hb)
 have HB10:=hid (HB9.out.trans (hb.mono HB9.out.size))
 have RG:=hid r9_0
 clear hb r9_0
 go_wp2_with fail
 with_reducible refine(C10.out _ _ _ _ _ RG.out RO.out).mono ?_
 rintro e W11 ⟨rfl,hb⟩
 have K1:=hid (K1.out.below hb)
 have HB11:=hid (HB10.out.trans (hb.mono HB10.out.size))
 clear hb
 go_wp2_with fail
 with_reducible refine(C11.out _).mono ?_
 rintro e W12 ⟨p_11,c_11,s_11,d_11,rfl,r11_0,r11_1,hb⟩
 have K1:=hid (K1.out.below hb)
 have HB12:=hid (HB11.out.trans (hb.mono HB11.out.size))
 have RQ:=hid r11_0
 have TQ:=hid r11_1
 clear hb r11_0 r11_1
 have dK10:=K1.out.cell (i:=0) rfl
 have dK11:=K1.out.cell (i:=1) rfl
 have dK12:=K1.out.cell (i:=2) rfl
 have fK10:=K1.out.frozen (i:=0)
 have fK11:=K1.out.frozen (i:=1)
 have fK12:=K1.out.frozen (i:=2)
 go_wp2
 exact bodyPost_ret (v:=.tuple #[.agg #[.bool (zneg (zz)),.slice p_11 (zlen (zz)) c_11,.slice s_11 (nlen (dz)) d_11],.bool false]) (by simp[results,Tryz.results44,go_sem,dK10,dK11,dK12]) rfl ⟨_,_,_,_,rfl,(store_rn [.bool (zneg (zz)),.slice p_11 (zlen (zz)) c_11,.slice s_11 (nlen (dz)) d_11] RQ.out K1.out (by simp[noInt]) (by simp[plainV])),(store_rn [.bool (zneg (zz)),.slice p_11 (zlen (zz)) c_11,.slice s_11 (nlen (dz)) d_11] TQ.out K1.out (by simp[noInt]) (by simp[plainV])),(store_below (l:=[.bool (zneg (zz)),.slice p_11 (zlen (zz)) c_11,.slice s_11 (nlen (dz)) d_11]) (i:=0) (by omega) HB12.out)⟩
end Go.Proofs.YtmigpoiajkihhaaGreatDoor
