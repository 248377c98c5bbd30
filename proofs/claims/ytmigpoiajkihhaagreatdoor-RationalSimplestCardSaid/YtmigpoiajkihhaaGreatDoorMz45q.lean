/- Texts of this proof, one behind the other. -/
import Derived.Test.YtmigpoiajkihhaaGreatDoorMz41q
open Go.Proofs.Tryz
set_option maxRecDepth 100000
set_option maxHeartbeats 20000000
open Go.Lib (hid)
namespace Go.Proofs.YtmigpoiajkihhaaGreatDoor
open Go.RowKit Go.Gb
theorem z1s (a0 x0 y0:ByteArray)(z:Int)(n:Nat)  (w:World)(h1:CQ 43 #[.string a0] (.tuple #[.string x0,.string y0,.bool false]))(h2:CQ 36 #[.string x0] (.bool true))(h3:CQ 80 #[.string y0] (.bool true))(h4:∀ W,CZ 37 #[.string x0] W z)(h5:∀ W,CN 70 #[.string y0] W n)  :
 Calls Tryz.prog 44 #[.string a0] w fun e w'=>∃ p c s d,e=.returned (.tuple #[.agg #[.bool (ag z),.slice p (aa z) c,.slice s (ae n) d],.bool true])∧RN w' (.slice p (aa z) c) z.natAbs∧RN w' (.slice s (ae n) d) n∧Below w.heap.size w w':=by
 have C1:=hid h1
 have C2:=hid h2
 have C3:=hid h3
 have C4:=hid h4
 have C5:=hid h5
 clear h1 h2 h3 h4 h5
 go_enter func44,ntmps44
 go_upto_region 1 with fail
 refine aK w [(#[.bool false,.slice none 0 0,.slice none 0 0],55)] rfl ?_
 rintro W0 ⟨k1,hb⟩
 have HB0:=hid (show Below w.heap.size w W0 from hb)
 have K1:=hid k1
 clear k1 hb
 go_wp2_with fail
 with_reducible refine(C1.out _).mono ?_
 rintro e W1 ⟨rfl,hb⟩
 have K1:=hid (K1.out.below hb)
 have HB1:=hbt HB0 hb
 clear hb
 go_wp2_with fail
 with_reducible refine(C2.out _).mono ?_
 rintro e W2 ⟨rfl,hb⟩
 have K1:=hid (K1.out.below hb)
 have HB2:=hbt HB1 hb
 clear hb
 go_wp2_with fail
 with_reducible refine(C3.out _).mono ?_
 rintro e W3 ⟨rfl,hb⟩
 have K1:=hid (K1.out.below hb)
 have HB3:=hbt HB2 hb
 clear hb
 go_wp2_with fail
 with_reducible refine(C4.out _).mono ?_
 rintro e W4 ⟨p_4,c_4,rfl,u02,hb⟩
 have K1:=hid (K1.out.below hb)
 have HB4:=hbt HB3 hb
 have RZ:=hid u02
 clear hb u02
 go_wp2_with fail
 with_reducible refine(C5.out _).mono ?_
 rintro e W5 ⟨p_5,c_5,rfl,u05,hb⟩
 have K1:=hid (K1.out.below hb)
 have RZ:=hid (RZ.out.below hb)
 have HB5:=hbt HB4 hb
 have RM:=hid u05
 clear hb u05
 go_upto_region 5 with fail
 refine aK W5 [(#[.bool (ag z),.slice p_4 (aa z) c_4,.slice p_5 (ae n) c_5],55)] rfl ?_
 have L1:=K1.out.lt
 have L2:=HB5.out.size
 rintro W6 ⟨k2,hb⟩
 have hb:Below W5.heap.size W5 W6:=hb
 have K1:=hid (K1.out.below hb)
 have RZ:=hid (RZ.out.below hb)
 have RM:=hid (RM.out.below hb)
 have HB6:=hbt HB5 hb
 have K2:=hid k2
 clear k2 hb
 have dK20:=K2.out.cell (i:=0) rfl
 have dK21:=K2.out.cell (i:=1) rfl
 have dK22:=K2.out.cell (i:=2) rfl
 have dK10:=K1.out.cell (i:=0) rfl
 have dK11:=K1.out.cell (i:=1) rfl
 have dK12:=K1.out.cell (i:=2) rfl
 have fK10:=K1.out.frozen (i:=0)
 have fK11:=K1.out.frozen (i:=1)
 have fK12:=K1.out.frozen (i:=2)
 go_wp2
 exact bodyPost_ret (v:=.tuple #[.agg #[.bool (ag z),.slice p_4 (aa z) c_4,.slice p_5 (ae n) c_5],.bool true]) (by simp[results,results44,go_sem,dK10,dK11,dK12]) rfl ⟨_,_,_,_,rfl,(aG [.bool (ag z),.slice p_4 (aa z) c_4,.slice p_5 (ae n) c_5] RZ.out K1.out (by simp[bG]) (by simp[aV])),(aG [.bool (ag z),.slice p_4 (aa z) c_4,.slice p_5 (ae n) c_5] RM.out K1.out (by simp[bG]) (by simp[aV])),(az (l:=[.bool (ag z),.slice p_4 (aa z) c_4,.slice p_5 (ae n) c_5]) (i:=0) (by omega) HB6.out)⟩
theorem sS (a0 x0 y0:ByteArray)(zz:Int)(dz:Nat)(sl:Bool)  (w:World)(h1:CQ 43 #[.string a0] (.tuple #[.string x0,.string y0,.bool sl]))(h2:CQ 36 #[.string x0] (.bool false))(h11:∀ W,CF 84 #[.int .i64 0] W zz dz)  :
 Calls Tryz.prog 44 #[.string a0] w fun e w'=>∃ p c s d,e=.returned (.tuple #[.agg #[.bool (ag zz),.slice p (aa zz) c,.slice s (ae dz) d],.bool false])∧RN w' (.slice p (aa zz) c) zz.natAbs∧RN w' (.slice s (ae dz) d) dz∧Below w.heap.size w w':=by
 have C1:=hid h1
 have C2:=hid h2
 have C11:=hid h11
 clear h1 h2 h11
 go_enter func44,ntmps44
 go_upto_region 1 with fail
 refine aK w [(#[.bool false,.slice none 0 0,.slice none 0 0],55)] rfl ?_
 rintro W0 ⟨k1,hb⟩
 have HB0:=hid (show Below w.heap.size w W0 from hb)
 have K1:=hid k1
 clear k1 hb
 go_wp2_with fail
 with_reducible refine(C1.out _).mono ?_
 rintro e W1 ⟨rfl,hb⟩
 have K1:=hid (K1.out.below hb)
 have HB1:=hbt HB0 hb
 clear hb
 go_wp2_with fail
 with_reducible refine(C2.out _).mono ?_
 rintro e W2 ⟨rfl,hb⟩
 have K1:=hid (K1.out.below hb)
 have HB2:=hbt HB1 hb
 clear hb
 go_wp2_with fail
 with_reducible refine(C11.out _).mono ?_
 rintro e W3 ⟨p_3,c_3,s_3,d_3,rfl,u0s,u0t,hb⟩
 have K1:=hid (K1.out.below hb)
 have HB3:=hbt HB2 hb
 have RQ:=hid u0s
 have TQ:=hid u0t
 clear hb u0s u0t
 have dK10:=K1.out.cell (i:=0) rfl
 have dK11:=K1.out.cell (i:=1) rfl
 have dK12:=K1.out.cell (i:=2) rfl
 have fK10:=K1.out.frozen (i:=0)
 have fK11:=K1.out.frozen (i:=1)
 have fK12:=K1.out.frozen (i:=2)
 go_wp2
 exact bodyPost_ret (v:=.tuple #[.agg #[.bool (ag zz),.slice p_3 (aa zz) c_3,.slice s_3 (ae dz) d_3],.bool false]) (by simp[results,results44,go_sem,dK10,dK11,dK12]) rfl ⟨_,_,_,_,rfl,(aG [.bool (ag zz),.slice p_3 (aa zz) c_3,.slice s_3 (ae dz) d_3] RQ.out K1.out (by simp[bG]) (by simp[aV])),(aG [.bool (ag zz),.slice p_3 (aa zz) c_3,.slice s_3 (ae dz) d_3] TQ.out K1.out (by simp[bG]) (by simp[aV])),(az (l:=[.bool (ag zz),.slice p_3 (aa zz) c_3,.slice s_3 (ae dz) d_3]) (i:=0) (by omega) HB3.out)⟩
theorem zV (a0 x0 y0:ByteArray)(zz:Int)(dz:Nat)(sl:Bool)  (w:World)(h1:CQ 43 #[.string a0] (.tuple #[.string x0,.string y0,.bool sl]))(h2:CQ 36 #[.string x0] (.bool true))(h3:CQ 80 #[.string y0] (.bool false))(h11:∀ W,CF 84 #[.int .i64 0] W zz dz)  :
 Calls Tryz.prog 44 #[.string a0] w fun e w'=>∃ p c s d,e=.returned (.tuple #[.agg #[.bool (ag zz),.slice p (aa zz) c,.slice s (ae dz) d],.bool false])∧RN w' (.slice p (aa zz) c) zz.natAbs∧RN w' (.slice s (ae dz) d) dz∧Below w.heap.size w w':=by
 have C1:=hid h1
 have C2:=hid h2
 have C3:=hid h3
 have C11:=hid h11
 clear h1 h2 h3 h11
 go_enter func44,ntmps44
 go_upto_region 1 with fail
 refine aK w [(#[.bool false,.slice none 0 0,.slice none 0 0],55)] rfl ?_
 rintro W0 ⟨k1,hb⟩
 have HB0:=hid (show Below w.heap.size w W0 from hb)
 have K1:=hid k1
 clear k1 hb
 go_wp2_with fail
 with_reducible refine(C1.out _).mono ?_
 rintro e W1 ⟨rfl,hb⟩
 have K1:=hid (K1.out.below hb)
 have HB1:=hbt HB0 hb
 clear hb
 go_wp2_with fail
 with_reducible refine(C2.out _).mono ?_
 rintro e W2 ⟨rfl,hb⟩
 have K1:=hid (K1.out.below hb)
 have HB2:=hbt HB1 hb
 clear hb
 go_wp2_with fail
 with_reducible refine(C3.out _).mono ?_
 rintro e W3 ⟨rfl,hb⟩
 have K1:=hid (K1.out.below hb)
 have HB3:=hbt HB2 hb
 clear hb
 go_wp2_with fail
 with_reducible refine(C11.out _).mono ?_
 rintro e W4 ⟨p_4,c_4,s_4,d_4,rfl,u02,u0u,hb⟩
 have K1:=hid (K1.out.below hb)
 have HB4:=hbt HB3 hb
 have RQ:=hid u02
 have TQ:=hid u0u
 clear hb u02 u0u
 have dK10:=K1.out.cell (i:=0) rfl
 have dK11:=K1.out.cell (i:=1) rfl
 have dK12:=K1.out.cell (i:=2) rfl
 have fK10:=K1.out.frozen (i:=0)
 have fK11:=K1.out.frozen (i:=1)
 have fK12:=K1.out.frozen (i:=2)
 go_wp2
 exact bodyPost_ret (v:=.tuple #[.agg #[.bool (ag zz),.slice p_4 (aa zz) c_4,.slice s_4 (ae dz) d_4],.bool false]) (by simp[results,results44,go_sem,dK10,dK11,dK12]) rfl ⟨_,_,_,_,rfl,(aG [.bool (ag zz),.slice p_4 (aa zz) c_4,.slice s_4 (ae dz) d_4] RQ.out K1.out (by simp[bG]) (by simp[aV])),(aG [.bool (ag zz),.slice p_4 (aa zz) c_4,.slice s_4 (ae dz) d_4] TQ.out K1.out (by simp[bG]) (by simp[aV])),(az (l:=[.bool (ag zz),.slice p_4 (aa zz) c_4,.slice s_4 (ae dz) d_4]) (i:=0) (by omega) HB4.out)⟩
theorem zU (a0 x0 y0:ByteArray)(z k sg:Int)(n one g:Nat)(hk:0<k)(hsg:sg≠0)  (w:World)(h1:CQ 43 #[.string a0] (.tuple #[.string x0,.string y0,.bool true]))(h2:CQ 36 #[.string x0] (.bool true))(h3:CQ 80 #[.string y0] (.bool true))(h4:∀ W,CZ 37 #[.string x0] W z)(h5:∀ W,CN 70 #[.string y0] W n)(h6:∀ W,CN 63 #[.int .u32 1] W one)(h7:∀ s1 d1 s2 d2 W,RN W (.slice s1 (ae n) d1) n→RN W (.slice s2 (ae one) d2) one→CR 85 #[.slice s1 (ae n) d1,.slice s2 (ae one) d2] W (.int .i64 k))(h8:∀ p1 c1 W,RN W (.slice p1 (aa z) c1) z.natAbs→CR 38 #[.agg #[.bool (ag z),.slice p1 (aa z) c1]] W (.int .i64 sg))(h9:∀ p1 c1 s2 d2 W,RN W (.slice p1 (aa z) c1) z.natAbs→RN W (.slice s2 (ae n) d2) n→CN 81 #[.slice p1 (aa z) c1,.slice s2 (ae n) d2] W g)(h10:∀ s1 d1 s2 d2 W,RN W (.slice s1 (ae g) d1) g→RN W (.slice s2 (ae one) d2) one→CR 85 #[.slice s1 (ae g) d1,.slice s2 (ae one) d2] W (.int .i64 0))  :
 Calls Tryz.prog 44 #[.string a0] w fun e w'=>∃ p c s d,e=.returned (.tuple #[.agg #[.bool (ag z),.slice p (aa z) c,.slice s (ae n) d],.bool true])∧RN w' (.slice p (aa z) c) z.natAbs∧RN w' (.slice s (ae n) d) n∧Below w.heap.size w w':=by
 have C1:=hid h1
 have C2:=hid h2
 have C3:=hid h3
 have C4:=hid h4
 have C5:=hid h5
 have C6:=hid h6
 have C7:=hid h7
 have C8:=hid h8
 have C9:=hid h9
 have C10:=hid h10
 have k0:decide (0<k)=true:=decide_eq_true hk
 have k1:0<k:=hk
 clear hk
 have s0:(sg==0)=false:=by rw[beq_eq_false_iff_ne];exact hsg
 have s1:¬ sg=0:=hsg
 have s2:(sg != 0)=true:=by unfold bne;rw[s0];rfl
 have s3:decide (sg=0)=false:=decide_eq_false hsg
 clear hsg h1 h2 h3 h4 h5 h6 h7 h8 h9 h10
 go_enter func44,ntmps44
 go_upto_region 1 with fail
 refine aK w [(#[.bool false,.slice none 0 0,.slice none 0 0],55)] rfl ?_
 rintro W0 ⟨k1,hb⟩
 have HB0:=hid (show Below w.heap.size w W0 from hb)
 have K1:=hid k1
 clear k1 hb
 go_wp2_with fail
 with_reducible refine(C1.out _).mono ?_
 rintro e W1 ⟨rfl,hb⟩
 have K1:=hid (K1.out.below hb)
 have HB1:=hbt HB0 hb
 clear hb
 go_wp2_with fail
 with_reducible refine(C2.out _).mono ?_
 rintro e W2 ⟨rfl,hb⟩
 have K1:=hid (K1.out.below hb)
 have HB2:=hbt HB1 hb
 clear hb
 go_wp2_with fail
 with_reducible refine(C3.out _).mono ?_
 rintro e W3 ⟨rfl,hb⟩
 have K1:=hid (K1.out.below hb)
 have HB3:=hbt HB2 hb
 clear hb
 go_wp2_with fail
 with_reducible refine(C4.out _).mono ?_
 rintro e W4 ⟨p_4,c_4,rfl,u02,hb⟩
 have K1:=hid (K1.out.below hb)
 have HB4:=hbt HB3 hb
 have RZ:=hid u02
 clear hb u02
 go_wp2_with fail
 with_reducible refine(C5.out _).mono ?_
 rintro e W5 ⟨p_5,c_5,rfl,u05,hb⟩
 have K1:=hid (K1.out.below hb)
 have RZ:=hid (RZ.out.below hb)
 have HB5:=hbt HB4 hb
 have RM:=hid u05
 clear hb u05
 go_upto_region 5 with fail
 refine aK W5 [(#[.bool (ag z),.slice p_4 (aa z) c_4,.slice p_5 (ae n) c_5],55)] rfl ?_
 have L1:=K1.out.lt
 have L2:=HB5.out.size
 rintro W6 ⟨k2,hb⟩
 have hb:Below W5.heap.size W5 W6:=hb
 have K1:=hid (K1.out.below hb)
 have RZ:=hid (RZ.out.below hb)
 have RM:=hid (RM.out.below hb)
 have HB6:=hbt HB5 hb
 have K2:=hid k2
 clear k2 hb
 go_wp2_with fail
 with_reducible refine(C6.out _).mono ?_
 rintro e W7 ⟨p_6,c_6,rfl,u06,hb⟩
 have K1:=hid (K1.out.below hb)
 have K2:=hid (K2.out.below hb)
 have RZ:=hid (RZ.out.below hb)
 have RM:=hid (RM.out.below hb)
 have HB7:=hbt HB6 hb
 have RO:=hid u06
 clear hb u06
 have dK22:=K2.out.cell (i:=2) rfl
 go_wp2_with fail
 with_reducible refine(C7.out _ _ _ _ _ RM.out RO.out).mono ?_
 rintro e W8 ⟨rfl,hb⟩
 clear dK22
 have K1:=hid (K1.out.below hb)
 have K2:=hid (K2.out.below hb)
 have RZ:=hid (RZ.out.below hb)
 have RM:=hid (RM.out.below hb)
 have RO:=hid (RO.out.below hb)
 have HB8:=hbt HB7 hb
 clear hb
 have dK20:=K2.out.cell (i:=0) rfl
 have dK21:=K2.out.cell (i:=1) rfl
 go_wp2_with fail
 with_reducible refine(C8.out _ _ _ RZ.out).mono ?_
 rintro e W9 ⟨rfl,hb⟩
 clear dK20 dK21
 have K1:=hid (K1.out.below hb)
 have K2:=hid (K2.out.below hb)
 have RZ:=hid (RZ.out.below hb)
 have RM:=hid (RM.out.below hb)
 have RO:=hid (RO.out.below hb)
 have HB9:=hbt HB8 hb
 clear hb
 have dK21:=K2.out.cell (i:=1) rfl
 have dK22:=K2.out.cell (i:=2) rfl
 go_wp2_with fail
 with_reducible refine(C9.out _ _ _ _ _ RZ.out RM.out).mono ?_
 rintro e W10 ⟨p_9,c_9,rfl,u07,hb⟩
 clear dK21 dK22
 have K1:=hid (K1.out.below hb)
 have K2:=hid (K2.out.below hb)
 have RZ:=hid (RZ.out.below hb)
 have RM:=hid (RM.out.below hb)
 have RO:=hid (RO.out.below hb)
 have HB10:=hbt HB9 hb
 have RG:=hid u07
 clear hb u07
 go_wp2_with fail
 with_reducible refine(C10.out _ _ _ _ _ RG.out RO.out).mono ?_
 rintro e W11 ⟨rfl,hb⟩
 have K1:=hid (K1.out.below hb)
 have K2:=hid (K2.out.below hb)
 have RZ:=hid (RZ.out.below hb)
 have RM:=hid (RM.out.below hb)
 have HB11:=hbt HB10 hb
 clear hb
 have dK20:=K2.out.cell (i:=0) rfl
 have dK21:=K2.out.cell (i:=1) rfl
 have dK22:=K2.out.cell (i:=2) rfl
 have dK10:=K1.out.cell (i:=0) rfl
 have dK11:=K1.out.cell (i:=1) rfl
 have dK12:=K1.out.cell (i:=2) rfl
 have fK10:=K1.out.frozen (i:=0)
 have fK11:=K1.out.frozen (i:=1)
 have fK12:=K1.out.frozen (i:=2)
 go_wp2
 exact bodyPost_ret (v:=.tuple #[.agg #[.bool (ag z),.slice p_4 (aa z) c_4,.slice p_5 (ae n) c_5],.bool true]) (by simp[results,results44,go_sem,dK10,dK11,dK12]) rfl ⟨_,_,_,_,rfl,(aG [.bool (ag z),.slice p_4 (aa z) c_4,.slice p_5 (ae n) c_5] RZ.out K1.out (by simp[bG]) (by simp[aV])),(aG [.bool (ag z),.slice p_4 (aa z) c_4,.slice p_5 (ae n) c_5] RM.out K1.out (by simp[bG]) (by simp[aV])),(az (l:=[.bool (ag z),.slice p_4 (aa z) c_4,.slice p_5 (ae n) c_5]) (i:=0) (by omega) HB11.out)⟩
theorem xU (a0 x0 y0:ByteArray)(z k zz:Int)(n one dz:Nat)(hk:k≤0)  (w:World)(h1:CQ 43 #[.string a0] (.tuple #[.string x0,.string y0,.bool true]))(h2:CQ 36 #[.string x0] (.bool true))(h3:CQ 80 #[.string y0] (.bool true))(h4:∀ W,CZ 37 #[.string x0] W z)(h5:∀ W,CN 70 #[.string y0] W n)(h6:∀ W,CN 63 #[.int .u32 1] W one)(h7:∀ s1 d1 s2 d2 W,RN W (.slice s1 (ae n) d1) n→RN W (.slice s2 (ae one) d2) one→CR 85 #[.slice s1 (ae n) d1,.slice s2 (ae one) d2] W (.int .i64 k))(h11:∀ W,CF 84 #[.int .i64 0] W zz dz)  :
 Calls Tryz.prog 44 #[.string a0] w fun e w'=>∃ p c s d,e=.returned (.tuple #[.agg #[.bool (ag zz),.slice p (aa zz) c,.slice s (ae dz) d],.bool false])∧RN w' (.slice p (aa zz) c) zz.natAbs∧RN w' (.slice s (ae dz) d) dz∧Below w.heap.size w w':=by
 have C1:=hid h1
 have C2:=hid h2
 have C3:=hid h3
 have C4:=hid h4
 have C5:=hid h5
 have C6:=hid h6
 have C7:=hid h7
 have C11:=hid h11
 have k0:decide (0<k)=false:=decide_eq_false (by omega)
 have k1:k≤0:=hk
 clear hk h1 h2 h3 h4 h5 h6 h7 h11
 go_enter func44,ntmps44
 go_upto_region 1 with fail
 refine aK w [(#[.bool false,.slice none 0 0,.slice none 0 0],55)] rfl ?_
 rintro W0 ⟨k1,hb⟩
 have HB0:=hid (show Below w.heap.size w W0 from hb)
 have K1:=hid k1
 clear k1 hb
 go_wp2_with fail
 with_reducible refine(C1.out _).mono ?_
 rintro e W1 ⟨rfl,hb⟩
 have K1:=hid (K1.out.below hb)
 have HB1:=hbt HB0 hb
 clear hb
 go_wp2_with fail
 with_reducible refine(C2.out _).mono ?_
 rintro e W2 ⟨rfl,hb⟩
 have K1:=hid (K1.out.below hb)
 have HB2:=hbt HB1 hb
 clear hb
 go_wp2_with fail
 with_reducible refine(C3.out _).mono ?_
 rintro e W3 ⟨rfl,hb⟩
 have K1:=hid (K1.out.below hb)
 have HB3:=hbt HB2 hb
 clear hb
 go_wp2_with fail
 with_reducible refine(C4.out _).mono ?_
 rintro e W4 ⟨p_4,c_4,rfl,u02,hb⟩
 have K1:=hid (K1.out.below hb)
 have HB4:=hbt HB3 hb
 have RZ:=hid u02
 clear hb u02
 go_wp2_with fail
 with_reducible refine(C5.out _).mono ?_
 rintro e W5 ⟨p_5,c_5,rfl,u05,hb⟩
 have K1:=hid (K1.out.below hb)
 have HB5:=hbt HB4 hb
 have RM:=hid u05
 clear hb u05
 go_upto_region 5 with fail
 refine aK W5 [(#[.bool (ag z),.slice p_4 (aa z) c_4,.slice p_5 (ae n) c_5],55)] rfl ?_
 have L1:=K1.out.lt
 have L2:=HB5.out.size
 rintro W6 ⟨k2,hb⟩
 have hb:Below W5.heap.size W5 W6:=hb
 have K1:=hid (K1.out.below hb)
 have RM:=hid (RM.out.below hb)
 have HB6:=hbt HB5 hb
 have K2:=hid k2
 clear k2 hb
 go_wp2_with fail
 with_reducible refine(C6.out _).mono ?_
 rintro e W7 ⟨p_6,c_6,rfl,u06,hb⟩
 have K1:=hid (K1.out.below hb)
 have K2:=hid (K2.out.below hb)
 have RM:=hid (RM.out.below hb)
 have HB7:=hbt HB6 hb
 have RO:=hid u06
 clear hb u06
 have dK22:=K2.out.cell (i:=2) rfl
 go_wp2_with fail
 with_reducible refine(C7.out _ _ _ _ _ RM.out RO.out).mono ?_
 rintro e W8 ⟨rfl,hb⟩
 clear dK22
 have K1:=hid (K1.out.below hb)
 have K2:=hid (K2.out.below hb)
 have HB8:=hbt HB7 hb
 clear hb
 have dK20:=K2.out.cell (i:=0) rfl
 have dK21:=K2.out.cell (i:=1) rfl
 have dK22:=K2.out.cell (i:=2) rfl
 go_wp2_with fail
 with_reducible refine(C11.out _).mono ?_
 rintro e W9 ⟨p_8,c_8,s_8,d_8,rfl,u0v,u0w,hb⟩
 clear dK20 dK21 dK22
 have K1:=hid (K1.out.below hb)
 have HB9:=hbt HB8 hb
 have RQ:=hid u0v
 have TQ:=hid u0w
 clear hb u0v u0w
 have dK10:=K1.out.cell (i:=0) rfl
 have dK11:=K1.out.cell (i:=1) rfl
 have dK12:=K1.out.cell (i:=2) rfl
 have fK10:=K1.out.frozen (i:=0)
 have fK11:=K1.out.frozen (i:=1)
 have fK12:=K1.out.frozen (i:=2)
 go_wp2
 exact bodyPost_ret (v:=.tuple #[.agg #[.bool (ag zz),.slice p_8 (aa zz) c_8,.slice s_8 (ae dz) d_8],.bool false]) (by simp[results,results44,go_sem,dK10,dK11,dK12]) rfl ⟨_,_,_,_,rfl,(aG [.bool (ag zz),.slice p_8 (aa zz) c_8,.slice s_8 (ae dz) d_8] RQ.out K1.out (by simp[bG]) (by simp[aV])),(aG [.bool (ag zz),.slice p_8 (aa zz) c_8,.slice s_8 (ae dz) d_8] TQ.out K1.out (by simp[bG]) (by simp[aV])),(az (l:=[.bool (ag zz),.slice p_8 (aa zz) c_8,.slice s_8 (ae dz) d_8]) (i:=0) (by omega) HB9.out)⟩
theorem zT (a0 x0 y0:ByteArray)(z k zz:Int)(n one dz:Nat)(hk:0<k)  (w:World)(h1:CQ 43 #[.string a0] (.tuple #[.string x0,.string y0,.bool true]))(h2:CQ 36 #[.string x0] (.bool true))(h3:CQ 80 #[.string y0] (.bool true))(h4:∀ W,CZ 37 #[.string x0] W z)(h5:∀ W,CN 70 #[.string y0] W n)(h6:∀ W,CN 63 #[.int .u32 1] W one)(h7:∀ s1 d1 s2 d2 W,RN W (.slice s1 (ae n) d1) n→RN W (.slice s2 (ae one) d2) one→CR 85 #[.slice s1 (ae n) d1,.slice s2 (ae one) d2] W (.int .i64 k))(h8:∀ p1 c1 W,RN W (.slice p1 (aa z) c1) z.natAbs→CR 38 #[.agg #[.bool (ag z),.slice p1 (aa z) c1]] W (.int .i64 0))(h11:∀ W,CF 84 #[.int .i64 0] W zz dz)  :
 Calls Tryz.prog 44 #[.string a0] w fun e w'=>∃ p c s d,e=.returned (.tuple #[.agg #[.bool (ag zz),.slice p (aa zz) c,.slice s (ae dz) d],.bool false])∧RN w' (.slice p (aa zz) c) zz.natAbs∧RN w' (.slice s (ae dz) d) dz∧Below w.heap.size w w':=by
 have C1:=hid h1
 have C2:=hid h2
 have C3:=hid h3
 have C4:=hid h4
 have C5:=hid h5
 have C6:=hid h6
 have C7:=hid h7
 have C8:=hid h8
 have C11:=hid h11
 have k0:decide (0<k)=true:=decide_eq_true hk
 have k1:0<k:=hk
 clear hk h1 h2 h3 h4 h5 h6 h7 h8 h11
 go_enter func44,ntmps44
 go_upto_region 1 with fail
 refine aK w [(#[.bool false,.slice none 0 0,.slice none 0 0],55)] rfl ?_
 rintro W0 ⟨k1,hb⟩
 have HB0:=hid (show Below w.heap.size w W0 from hb)
 have K1:=hid k1
 clear k1 hb
 go_wp2_with fail
 with_reducible refine(C1.out _).mono ?_
 rintro e W1 ⟨rfl,hb⟩
 have K1:=hid (K1.out.below hb)
 have HB1:=hbt HB0 hb
 clear hb
 go_wp2_with fail
 with_reducible refine(C2.out _).mono ?_
 rintro e W2 ⟨rfl,hb⟩
 have K1:=hid (K1.out.below hb)
 have HB2:=hbt HB1 hb
 clear hb
 go_wp2_with fail
 with_reducible refine(C3.out _).mono ?_
 rintro e W3 ⟨rfl,hb⟩
 have K1:=hid (K1.out.below hb)
 have HB3:=hbt HB2 hb
 clear hb
 go_wp2_with fail
 with_reducible refine(C4.out _).mono ?_
 rintro e W4 ⟨p_4,c_4,rfl,u02,hb⟩
 have K1:=hid (K1.out.below hb)
 have HB4:=hbt HB3 hb
 have RZ:=hid u02
 clear hb u02
 go_wp2_with fail
 with_reducible refine(C5.out _).mono ?_
 rintro e W5 ⟨p_5,c_5,rfl,u05,hb⟩
 have K1:=hid (K1.out.below hb)
 have RZ:=hid (RZ.out.below hb)
 have HB5:=hbt HB4 hb
 have RM:=hid u05
 clear hb u05
 go_upto_region 5 with fail
 refine aK W5 [(#[.bool (ag z),.slice p_4 (aa z) c_4,.slice p_5 (ae n) c_5],55)] rfl ?_
 have L1:=K1.out.lt
 have L2:=HB5.out.size
 rintro W6 ⟨k2,hb⟩
 have hb:Below W5.heap.size W5 W6:=hb
 have K1:=hid (K1.out.below hb)
 have RZ:=hid (RZ.out.below hb)
 have RM:=hid (RM.out.below hb)
 have HB6:=hbt HB5 hb
 have K2:=hid k2
 clear k2 hb
 go_wp2_with fail
 with_reducible refine(C6.out _).mono ?_
 rintro e W7 ⟨p_6,c_6,rfl,u06,hb⟩
 have K1:=hid (K1.out.below hb)
 have K2:=hid (K2.out.below hb)
 have RZ:=hid (RZ.out.below hb)
 have RM:=hid (RM.out.below hb)
 have HB7:=hbt HB6 hb
 have RO:=hid u06
 clear hb u06
 have dK22:=K2.out.cell (i:=2) rfl
 go_wp2_with fail
 with_reducible refine(C7.out _ _ _ _ _ RM.out RO.out).mono ?_
 rintro e W8 ⟨rfl,hb⟩
 clear dK22
 have K1:=hid (K1.out.below hb)
 have K2:=hid (K2.out.below hb)
 have RZ:=hid (RZ.out.below hb)
 have HB8:=hbt HB7 hb
 clear hb
 have dK20:=K2.out.cell (i:=0) rfl
 have dK21:=K2.out.cell (i:=1) rfl
 go_wp2_with fail
 with_reducible refine(C8.out _ _ _ RZ.out).mono ?_
 rintro e W9 ⟨rfl,hb⟩
 clear dK20 dK21
 have K1:=hid (K1.out.below hb)
 have K2:=hid (K2.out.below hb)
 have HB9:=hbt HB8 hb
 clear hb
 have dK21:=K2.out.cell (i:=1) rfl
 have dK22:=K2.out.cell (i:=2) rfl
 go_wp2_with fail
 with_reducible refine(C11.out _).mono ?_
 rintro e W10 ⟨p_9,c_9,s_9,d_9,rfl,u07,u0x,hb⟩
 clear dK21 dK22
 have K1:=hid (K1.out.below hb)
 have HB10:=hbt HB9 hb
 have RQ:=hid u07
 have TQ:=hid u0x
 clear hb u07 u0x
 have dK10:=K1.out.cell (i:=0) rfl
 have dK11:=K1.out.cell (i:=1) rfl
 have dK12:=K1.out.cell (i:=2) rfl
 have fK10:=K1.out.frozen (i:=0)
 have fK11:=K1.out.frozen (i:=1)
 have fK12:=K1.out.frozen (i:=2)
 go_wp2
 exact bodyPost_ret (v:=.tuple #[.agg #[.bool (ag zz),.slice p_9 (aa zz) c_9,.slice s_9 (ae dz) d_9],.bool false]) (by simp[results,results44,go_sem,dK10,dK11,dK12]) rfl ⟨_,_,_,_,rfl,(aG [.bool (ag zz),.slice p_9 (aa zz) c_9,.slice s_9 (ae dz) d_9] RQ.out K1.out (by simp[bG]) (by simp[aV])),(aG [.bool (ag zz),.slice p_9 (aa zz) c_9,.slice s_9 (ae dz) d_9] TQ.out K1.out (by simp[bG]) (by simp[aV])),(az (l:=[.bool (ag zz),.slice p_9 (aa zz) c_9,.slice s_9 (ae dz) d_9]) (i:=0) (by omega) HB10.out)⟩
theorem uQ (a0 x0 y0:ByteArray)(z k k2 sg zz:Int)(n one g dz:Nat)(hk:0<k)(hsg:sg≠0)(hk2:k2≠0)  (w:World)(h1:CQ 43 #[.string a0] (.tuple #[.string x0,.string y0,.bool true]))(h2:CQ 36 #[.string x0] (.bool true))(h3:CQ 80 #[.string y0] (.bool true))(h4:∀ W,CZ 37 #[.string x0] W z)(h5:∀ W,CN 70 #[.string y0] W n)(h6:∀ W,CN 63 #[.int .u32 1] W one)(h7:∀ s1 d1 s2 d2 W,RN W (.slice s1 (ae n) d1) n→RN W (.slice s2 (ae one) d2) one→CR 85 #[.slice s1 (ae n) d1,.slice s2 (ae one) d2] W (.int .i64 k))(h8:∀ p1 c1 W,RN W (.slice p1 (aa z) c1) z.natAbs→CR 38 #[.agg #[.bool (ag z),.slice p1 (aa z) c1]] W (.int .i64 sg))(h9:∀ p1 c1 s2 d2 W,RN W (.slice p1 (aa z) c1) z.natAbs→RN W (.slice s2 (ae n) d2) n→CN 81 #[.slice p1 (aa z) c1,.slice s2 (ae n) d2] W g)(h10:∀ s1 d1 s2 d2 W,RN W (.slice s1 (ae g) d1) g→RN W (.slice s2 (ae one) d2) one→CR 85 #[.slice s1 (ae g) d1,.slice s2 (ae one) d2] W (.int .i64 k2))(h11:∀ W,CF 84 #[.int .i64 0] W zz dz)  :
 Calls Tryz.prog 44 #[.string a0] w fun e w'=>∃ p c s d,e=.returned (.tuple #[.agg #[.bool (ag zz),.slice p (aa zz) c,.slice s (ae dz) d],.bool false])∧RN w' (.slice p (aa zz) c) zz.natAbs∧RN w' (.slice s (ae dz) d) dz∧Below w.heap.size w w':=by
 have C1:=hid h1
 have C2:=hid h2
 have C3:=hid h3
 have C4:=hid h4
 have C5:=hid h5
 have C6:=hid h6
 have C7:=hid h7
 have C8:=hid h8
 have C9:=hid h9
 have C10:=hid h10
 have C11:=hid h11
 have k0:decide (0<k)=true:=decide_eq_true hk
 have k1:0<k:=hk
 clear hk
 have s0:(sg==0)=false:=by rw[beq_eq_false_iff_ne];exact hsg
 have s1:¬ sg=0:=hsg
 have s2:(sg != 0)=true:=by unfold bne;rw[s0];rfl
 have s3:decide (sg=0)=false:=decide_eq_false hsg
 clear hsg
 have q0:(k2==0)=false:=by rw[beq_eq_false_iff_ne];exact hk2
 have q1:¬ k2=0:=hk2
 clear hk2 h1 h2 h3 h4 h5 h6 h7 h8 h9 h10 h11
 go_enter func44,ntmps44
 go_upto_region 1 with fail
 refine aK w [(#[.bool false,.slice none 0 0,.slice none 0 0],55)] rfl ?_
 rintro W0 ⟨k1,hb⟩
 have HB0:=hid (show Below w.heap.size w W0 from hb)
 have K1:=hid k1
 clear k1 hb
 go_wp2_with fail
 with_reducible refine(C1.out _).mono ?_
 rintro e W1 ⟨rfl,hb⟩
 have K1:=hid (K1.out.below hb)
 have HB1:=hbt HB0 hb
 clear hb
 go_wp2_with fail
 with_reducible refine(C2.out _).mono ?_
 rintro e W2 ⟨rfl,hb⟩
 have K1:=hid (K1.out.below hb)
 have HB2:=hbt HB1 hb
 clear hb
 go_wp2_with fail
 with_reducible refine(C3.out _).mono ?_
 rintro e W3 ⟨rfl,hb⟩
 have K1:=hid (K1.out.below hb)
 have HB3:=hbt HB2 hb
 clear hb
 go_wp2_with fail
 with_reducible refine(C4.out _).mono ?_
 rintro e W4 ⟨p_4,c_4,rfl,u02,hb⟩
 have K1:=hid (K1.out.below hb)
 have HB4:=hbt HB3 hb
 have RZ:=hid u02
 clear hb u02
 go_wp2_with fail
 with_reducible refine(C5.out _).mono ?_
 rintro e W5 ⟨p_5,c_5,rfl,u05,hb⟩
 have K1:=hid (K1.out.below hb)
 have RZ:=hid (RZ.out.below hb)
 have HB5:=hbt HB4 hb
 have RM:=hid u05
 clear hb u05
 go_upto_region 5 with fail
 refine aK W5 [(#[.bool (ag z),.slice p_4 (aa z) c_4,.slice p_5 (ae n) c_5],55)] rfl ?_
 have L1:=K1.out.lt
 have L2:=HB5.out.size
 rintro W6 ⟨k2,hb⟩
 have hb:Below W5.heap.size W5 W6:=hb
 have K1:=hid (K1.out.below hb)
 have RZ:=hid (RZ.out.below hb)
 have RM:=hid (RM.out.below hb)
 have HB6:=hbt HB5 hb
 have K2:=hid k2
 clear k2 hb
 go_wp2_with fail
 with_reducible refine(C6.out _).mono ?_
 rintro e W7 ⟨p_6,c_6,rfl,u06,hb⟩
 have K1:=hid (K1.out.below hb)
 have K2:=hid (K2.out.below hb)
 have RZ:=hid (RZ.out.below hb)
 have RM:=hid (RM.out.below hb)
 have HB7:=hbt HB6 hb
 have RO:=hid u06
 clear hb u06
 have dK22:=K2.out.cell (i:=2) rfl
 go_wp2_with fail
 with_reducible refine(C7.out _ _ _ _ _ RM.out RO.out).mono ?_
 rintro e W8 ⟨rfl,hb⟩
 clear dK22
 have K1:=hid (K1.out.below hb)
 have K2:=hid (K2.out.below hb)
 have RZ:=hid (RZ.out.below hb)
 have RM:=hid (RM.out.below hb)
 have RO:=hid (RO.out.below hb)
 have HB8:=hbt HB7 hb
 clear hb
 have dK20:=K2.out.cell (i:=0) rfl
 have dK21:=K2.out.cell (i:=1) rfl
 go_wp2_with fail
 with_reducible refine(C8.out _ _ _ RZ.out).mono ?_
 rintro e W9 ⟨rfl,hb⟩
 clear dK20 dK21
 have K1:=hid (K1.out.below hb)
 have K2:=hid (K2.out.below hb)
 have RZ:=hid (RZ.out.below hb)
 have RM:=hid (RM.out.below hb)
 have RO:=hid (RO.out.below hb)
 have HB9:=hbt HB8 hb
 clear hb
 have dK21:=K2.out.cell (i:=1) rfl
 have dK22:=K2.out.cell (i:=2) rfl
 go_wp2_with fail
 with_reducible refine(C9.out _ _ _ _ _ RZ.out RM.out).mono ?_
 rintro e W10 ⟨p_9,c_9,rfl,u07,hb⟩
 clear dK21 dK22
 have K1:=hid (K1.out.below hb)
 have RO:=hid (RO.out.below hb)
 have HB10:=hbt HB9 hb
 have RG:=hid u07
 clear hb u07
 go_wp2_with fail
 with_reducible refine(C10.out _ _ _ _ _ RG.out RO.out).mono ?_
 rintro e W11 ⟨rfl,hb⟩
 have K1:=hid (K1.out.below hb)
 have HB11:=hbt HB10 hb
 clear hb
 go_wp2_with fail
 with_reducible refine(C11.out _).mono ?_
 rintro e W12 ⟨u0m,u0n,u0o,u0p,rfl,u0y,u0z,hb⟩
 have K1:=hid (K1.out.below hb)
 have HB12:=hbt HB11 hb
 have RQ:=hid u0y
 have TQ:=hid u0z
 clear hb u0y u0z
 have dK10:=K1.out.cell (i:=0) rfl
 have dK11:=K1.out.cell (i:=1) rfl
 have dK12:=K1.out.cell (i:=2) rfl
 have fK10:=K1.out.frozen (i:=0)
 have fK11:=K1.out.frozen (i:=1)
 have fK12:=K1.out.frozen (i:=2)
 go_wp2
 exact bodyPost_ret (v:=.tuple #[.agg #[.bool (ag zz),.slice u0m (aa zz) u0n,.slice u0o (ae dz) u0p],.bool false]) (by simp[results,results44,go_sem,dK10,dK11,dK12]) rfl ⟨_,_,_,_,rfl,(aG [.bool (ag zz),.slice u0m (aa zz) u0n,.slice u0o (ae dz) u0p] RQ.out K1.out (by simp[bG]) (by simp[aV])),(aG [.bool (ag zz),.slice u0m (aa zz) u0n,.slice u0o (ae dz) u0p] TQ.out K1.out (by simp[bG]) (by simp[aV])),(az (l:=[.bool (ag zz),.slice u0m (aa zz) u0n,.slice u0o (ae dz) u0p]) (i:=0) (by omega) HB12.out)⟩
end Go.Proofs.YtmigpoiajkihhaaGreatDoor
set_option maxRecDepth 100000
set_option maxHeartbeats 20000000
namespace Go.Proofs.YtmigpoiajkihhaaGreatDoor
open Go.RowKit Go.Gb
theorem below_drewN (w:World)(n:Nat):Below w.heap.size w (w.drewN n):=⟨rfl,rfl,rfl,Nat.le_refl _,fun _ _=>rfl⟩
theorem not47 {s:ByteArray}{k:Nat}(h:k<s.size)(hn:s[k]≠47):((s[k].toNat:Int)==47)=false:=by
 rw[beq_eq_false_iff_ne]
 intro e
 apply hn
 apply UInt8.toNat_inj.1
 have:s[k].toNat=47:=by omega
 rw[this];rfl
theorem z0J (s:ByteArray)(hn:∀ k (h:k<s.size),s[k]≠47)(hs:s.size≤maxLen)(w:World) :
 Calls Tryz.prog 43 #[.string s] w fun e w'=>e=.returned (.tuple #[.string s,.string ⟨#[49]⟩,.bool false])∧w=w':=by
 unfold maxLen at hs
 have HN:=Lib.hid hn
 clear hn
 go_enter func43,ntmps43
 go_wp2
 go_loop [5] (fun i=>∃ k:Nat,k≤s.size∧i=.int .i64 k) (fun i=>s.size-(intOf i).toNat)
 case atStart=>exact⟨0,Nat.zero_le _,rfl⟩
 case round =>
  obtain⟨k,hk,rfl⟩:=hrel
  by_cases hlt:k<s.size
  · have e1:=not47 hlt (HN.out k hlt)
    go_wp2
    go_round
    case rel=>exact⟨k+1,by omega,by go_num⟩
    case measure=>simp[intOf];omega
  · go_wp2
    go_ret3
    exact⟨rfl,rfl⟩
theorem yL (s a b:ByteArray)(hsz:a.size<s.size)(hn:∀ k (_:k<a.size) (h2:k<s.size),s[k]≠47)(h47:s[a.size]=47)(ha:s.extract 0 a.size=a)(hb:s.extract (a.size+1) s.size=b)(hs:s.size≤maxLen)(w:World) :
 CR 43 #[.string s] w (.tuple #[.string a,.string b,.bool true]):=by
 unfold maxLen at hs
 have HN:=Lib.hid hn
 obtain⟨n,hna⟩:∃ n,n=a.size:=⟨_,rfl⟩
 have h47':∃ h:n<s.size,s[n]=47:=⟨by omega,by subst hna;exact h47⟩
 rw[← hna]at ha hb hsz
 have HA:=Lib.hid ha
 have HB:=Lib.hid hb
 have HNA:=Lib.hid hna
 clear hn ha hb h47 hna
 go_enter func43,ntmps43
 go_wp2
 go_loop [5] (fun i=>∃ k:Nat,k≤n∧i=.int .i64 k) (fun i=>n-(intOf i).toNat)
 case atStart=>exact⟨0,Nat.zero_le _,rfl⟩
 case round =>
  obtain⟨k,hk,rfl⟩:=hrel
  have hks:k<s.size:=by omega
  by_cases hlt:k<n
  · have e1:=not47 hks (HN.out k (by have:=HNA.out;omega) hks)
    clear h47'
    go_wp2
    go_round
    case rel=>exact⟨k+1,by omega,by go_num⟩
    case measure=>simp[intOf];omega
  · obtain rfl:n=k:=by omega
    obtain⟨h,h47'⟩:=h47'
    have e1:((s[n].toNat:Int)==47)=true:=by rw[h47'];rfl
    clear h47' hk hlt
    have i1:IntKind.i64.wrap ((n:Int)+1)=(n:Int)+1:=IntWalk.i64_in _ (by omega)
    have i2:(0:Int)≤(n:Int)+1:=by omega
    have i3:(n:Int)+1≤(s.size:Int):=by omega
    have i4:((n:Int)+1).toNat=n+1:=by omega
    have i5:(n:Int)≤(s.size:Int):=by omega
    go_wp2_with fail
    go_quiet (fail)
    go_wp2
    go_ret3
    exact⟨by rw[HA.out,HB.out];rfl,below_drewN _ _⟩
end Go.Proofs.YtmigpoiajkihhaaGreatDoor
