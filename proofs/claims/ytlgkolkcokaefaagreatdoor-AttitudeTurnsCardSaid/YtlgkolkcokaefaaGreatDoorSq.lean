/- texts -/
import Derived.Test.YtlgkolkcokaefaaGreatDoorMz28q
open Go.Proofs.Tryz
set_option maxRecDepth 100000
set_option maxHeartbeats 20000000
open Go.Lib (hid)
namespace Go.Proofs.YtlgkolkcokaefaaGreatDoor
open Go.RowKit Go.Gb
theorem z2e (a0 x0 y0:ByteArray)(z:Int)(n:Nat)  (w:World)(h1:CQ 42 #[.string a0] (.tuple #[.string x0,.string y0,.bool false]))(h2:CQ 43 #[.string x0] (.bool true))(h3:CQ 44 #[.string y0] (.bool true))(h4:∀ W,CZ 46 #[.string x0] W z)(h5:∀ W,CN 47 #[.string y0] W n)  :
 Calls Tryz.prog 26 #[.string a0] w fun e w'=>∃ p c s d,e=.returned (.tuple #[.agg #[.bool (ai z),.slice p (aa z) c,.slice s (ag n) d],.bool true])∧RN w' (.slice p (aa z) c) z.natAbs∧RN w' (.slice s (ag n) d) n∧Below w.heap.size w w':=by
 obtain ⟨C1,C2,C3,C4,C5⟩:=aO h1 h2 h3 h4 h5;clear h1 h2 h3 h4 h5;go_enter func26,ntmps26
 go_upto_region 1 with fail
 refine au w [(#[.bool false,.slice none 0 0,.slice none 0 0],53)] rfl ?_;rintro W0 ⟨k1,hb⟩;have HB0:=hid (show Below w.heap.size w W0 from hb);have K1:=hid k1;clear k1 hb;go_wp2_with fail
 with_reducible refine(C1.out _).mono ?_
 rintro e W1 ⟨rfl,hb⟩;have K1:=hid (K1.out.below hb);have HB1:=hbt HB0 hb;clear hb;go_wp2_with fail
 with_reducible refine(C2.out _).mono ?_
 rintro e W2 ⟨rfl,hb⟩;have K1:=hid (K1.out.below hb);have HB2:=hbt HB1 hb;clear hb;go_wp2_with fail
 with_reducible refine(C3.out _).mono ?_
 rintro e W3 ⟨rfl,hb⟩;have K1:=hid (K1.out.below hb);have HB3:=hbt HB2 hb;clear hb;go_wp2_with fail
 with_reducible refine(C4.out _).mono ?_
 rintro e W4 ⟨p_4,c_4,rfl,u02,hb⟩;have K1:=hid (K1.out.below hb);have HB4:=hbt HB3 hb;have RZ:=hid u02;clear hb u02;go_wp2_with fail
 with_reducible refine(C5.out _).mono ?_
 rintro e W5 ⟨p_5,c_5,rfl,u05,hb⟩;have K1:=hid (K1.out.below hb);have RZ:=hid (RZ.out.below hb);have HB5:=hbt HB4 hb;have RM:=hid u05;clear hb u05;go_upto_region 5 with fail
 refine au W5 [(#[.bool (ai z),.slice p_4 (aa z) c_4,.slice p_5 (ag n) c_5],53)] rfl ?_;have L1:=K1.out.lt;have L2:=HB5.out.size;rintro W6 ⟨k2,hb⟩;have hb:Below W5.heap.size W5 W6:=hb;obtain ⟨K1,RZ,RM⟩:=ah (K1.out.below hb) (RZ.out.below hb) (RM.out.below hb);have HB6:=hbt HB5 hb;have K2:=hid k2;clear k2 hb;obtain ⟨dK20,dK21,dK22⟩:=ax K2.out rfl rfl rfl;obtain ⟨dK10,dK11,dK12⟩:=ax K1.out rfl rfl rfl;obtain ⟨fK10,fK11,fK12⟩:=aT K1.out;go_wp2;exact bodyPost_ret (v:=.tuple #[.agg #[.bool (ai z),.slice p_4 (aa z) c_4,.slice p_5 (ag n) c_5],.bool true]) (by simp[results,results26,go_sem,dK10,dK11,dK12]) rfl ⟨_,_,_,_,rfl,(aZ [.bool (ai z),.slice p_4 (aa z) c_4,.slice p_5 (ag n) c_5] RZ.out K1.out (by simp[bS]) (by simp[bA])),(aZ [.bool (ai z),.slice p_4 (aa z) c_4,.slice p_5 (ag n) c_5] RM.out K1.out (by simp[bS]) (by simp[bA])),(av (l:=[.bool (ai z),.slice p_4 (aa z) c_4,.slice p_5 (ag n) c_5]) (i:=0) (by omega) HB6.out)⟩
theorem sI (a0 x0 y0:ByteArray)(zz:Int)(dz:Nat)(sl:Bool)  (w:World)(h1:CQ 42 #[.string a0] (.tuple #[.string x0,.string y0,.bool sl]))(h2:CQ 43 #[.string x0] (.bool false))(h11:∀ W,CF 45 #[.int .i64 0] W zz dz)  :
 Calls Tryz.prog 26 #[.string a0] w fun e w'=>∃ p c s d,e=.returned (.tuple #[.agg #[.bool (ai zz),.slice p (aa zz) c,.slice s (ag dz) d],.bool false])∧RN w' (.slice p (aa zz) c) zz.natAbs∧RN w' (.slice s (ag dz) d) dz∧Below w.heap.size w w':=by
 obtain ⟨C1,C2,C11⟩:=ah h1 h2 h11;clear h1 h2 h11;go_enter func26,ntmps26
 go_upto_region 1 with fail
 refine au w [(#[.bool false,.slice none 0 0,.slice none 0 0],53)] rfl ?_;rintro W0 ⟨k1,hb⟩;have HB0:=hid (show Below w.heap.size w W0 from hb);have K1:=hid k1;clear k1 hb;go_wp2_with fail
 with_reducible refine(C1.out _).mono ?_
 rintro e W1 ⟨rfl,hb⟩;have K1:=hid (K1.out.below hb);have HB1:=hbt HB0 hb;clear hb;go_wp2_with fail
 with_reducible refine(C2.out _).mono ?_
 rintro e W2 ⟨rfl,hb⟩;have K1:=hid (K1.out.below hb);have HB2:=hbt HB1 hb;clear hb;go_wp2_with fail
 with_reducible refine(C11.out _).mono ?_
 rintro e W3 ⟨p_3,c_3,s_3,d_3,rfl,u0s,u0t,hb⟩;have K1:=hid (K1.out.below hb);have HB3:=hbt HB2 hb;have RQ:=hid u0s;have TQ:=hid u0t;clear hb u0s u0t;obtain ⟨dK10,dK11,dK12⟩:=ax K1.out rfl rfl rfl;obtain ⟨fK10,fK11,fK12⟩:=aT K1.out;go_wp2;exact bodyPost_ret (v:=.tuple #[.agg #[.bool (ai zz),.slice p_3 (aa zz) c_3,.slice s_3 (ag dz) d_3],.bool false]) (by simp[results,results26,go_sem,dK10,dK11,dK12]) rfl ⟨_,_,_,_,rfl,(aZ [.bool (ai zz),.slice p_3 (aa zz) c_3,.slice s_3 (ag dz) d_3] RQ.out K1.out (by simp[bS]) (by simp[bA])),(aZ [.bool (ai zz),.slice p_3 (aa zz) c_3,.slice s_3 (ag dz) d_3] TQ.out K1.out (by simp[bS]) (by simp[bA])),(av (l:=[.bool (ai zz),.slice p_3 (aa zz) c_3,.slice s_3 (ag dz) d_3]) (i:=0) (by omega) HB3.out)⟩
theorem z0p (a0 x0 y0:ByteArray)(zz:Int)(dz:Nat)(sl:Bool)  (w:World)(h1:CQ 42 #[.string a0] (.tuple #[.string x0,.string y0,.bool sl]))(h2:CQ 43 #[.string x0] (.bool true))(h3:CQ 44 #[.string y0] (.bool false))(h11:∀ W,CF 45 #[.int .i64 0] W zz dz)  :
 Calls Tryz.prog 26 #[.string a0] w fun e w'=>∃ p c s d,e=.returned (.tuple #[.agg #[.bool (ai zz),.slice p (aa zz) c,.slice s (ag dz) d],.bool false])∧RN w' (.slice p (aa zz) c) zz.natAbs∧RN w' (.slice s (ag dz) d) dz∧Below w.heap.size w w':=by
 obtain ⟨C1,C2,C3,C11⟩:=aH h1 h2 h3 h11;clear h1 h2 h3 h11;go_enter func26,ntmps26
 go_upto_region 1 with fail
 refine au w [(#[.bool false,.slice none 0 0,.slice none 0 0],53)] rfl ?_;rintro W0 ⟨k1,hb⟩;have HB0:=hid (show Below w.heap.size w W0 from hb);have K1:=hid k1;clear k1 hb;go_wp2_with fail
 with_reducible refine(C1.out _).mono ?_
 rintro e W1 ⟨rfl,hb⟩;have K1:=hid (K1.out.below hb);have HB1:=hbt HB0 hb;clear hb;go_wp2_with fail
 with_reducible refine(C2.out _).mono ?_
 rintro e W2 ⟨rfl,hb⟩;have K1:=hid (K1.out.below hb);have HB2:=hbt HB1 hb;clear hb;go_wp2_with fail
 with_reducible refine(C3.out _).mono ?_
 rintro e W3 ⟨rfl,hb⟩;have K1:=hid (K1.out.below hb);have HB3:=hbt HB2 hb;clear hb;go_wp2_with fail
 with_reducible refine(C11.out _).mono ?_
 rintro e W4 ⟨p_4,c_4,s_4,d_4,rfl,u02,u0u,hb⟩;have K1:=hid (K1.out.below hb);have HB4:=hbt HB3 hb;have RQ:=hid u02;have TQ:=hid u0u;clear hb u02 u0u;obtain ⟨dK10,dK11,dK12⟩:=ax K1.out rfl rfl rfl;obtain ⟨fK10,fK11,fK12⟩:=aT K1.out;go_wp2;exact bodyPost_ret (v:=.tuple #[.agg #[.bool (ai zz),.slice p_4 (aa zz) c_4,.slice s_4 (ag dz) d_4],.bool false]) (by simp[results,results26,go_sem,dK10,dK11,dK12]) rfl ⟨_,_,_,_,rfl,(aZ [.bool (ai zz),.slice p_4 (aa zz) c_4,.slice s_4 (ag dz) d_4] RQ.out K1.out (by simp[bS]) (by simp[bA])),(aZ [.bool (ai zz),.slice p_4 (aa zz) c_4,.slice s_4 (ag dz) d_4] TQ.out K1.out (by simp[bS]) (by simp[bA])),(av (l:=[.bool (ai zz),.slice p_4 (aa zz) c_4,.slice s_4 (ag dz) d_4]) (i:=0) (by omega) HB4.out)⟩
theorem z0o (a0 x0 y0:ByteArray)(z k sg:Int)(n one g:Nat)(hk:0<k)(hsg:sg≠0)  (w:World)(h1:CQ 42 #[.string a0] (.tuple #[.string x0,.string y0,.bool true]))(h2:CQ 43 #[.string x0] (.bool true))(h3:CQ 44 #[.string y0] (.bool true))(h4:∀ W,CZ 46 #[.string x0] W z)(h5:∀ W,CN 47 #[.string y0] W n)(h6:∀ W,CN 48 #[.int .u32 1] W one)(h7:∀ s1 d1 s2 d2 W,RN W (.slice s1 (ag n) d1) n→RN W (.slice s2 (ag one) d2) one→CR 49 #[.slice s1 (ag n) d1,.slice s2 (ag one) d2] W (.int .i64 k))(h8:∀ p1 c1 W,RN W (.slice p1 (aa z) c1) z.natAbs→CR 50 #[.agg #[.bool (ai z),.slice p1 (aa z) c1]] W (.int .i64 sg))(h9:∀ p1 c1 s2 d2 W,RN W (.slice p1 (aa z) c1) z.natAbs→RN W (.slice s2 (ag n) d2) n→CN 51 #[.slice p1 (aa z) c1,.slice s2 (ag n) d2] W g)(h10:∀ s1 d1 s2 d2 W,RN W (.slice s1 (ag g) d1) g→RN W (.slice s2 (ag one) d2) one→CR 49 #[.slice s1 (ag g) d1,.slice s2 (ag one) d2] W (.int .i64 0))  :
 Calls Tryz.prog 26 #[.string a0] w fun e w'=>∃ p c s d,e=.returned (.tuple #[.agg #[.bool (ai z),.slice p (aa z) c,.slice s (ag n) d],.bool true])∧RN w' (.slice p (aa z) c) z.natAbs∧RN w' (.slice s (ag n) d) n∧Below w.heap.size w w':=by
 obtain ⟨C1,C2,C3,C4,C5,C6,C7,C8,C9,C10⟩:=jk h1 h2 h3 h4 h5 h6 h7 h8 h9 h10;have k0:decide (0<k)=true:=decide_eq_true hk;have k1:0<k:=hk;clear hk;have s0:(sg==0)=false:=by rw[beq_eq_false_iff_ne];exact hsg
 have s1:¬ sg=0:=hsg;have s2:(sg != 0)=true:=by unfold bne;rw[s0];rfl
 have s3:decide (sg=0)=false:=decide_eq_false hsg;clear hsg h1 h2 h3 h4 h5 h6 h7 h8 h9 h10;go_enter func26,ntmps26
 go_upto_region 1 with fail
 refine au w [(#[.bool false,.slice none 0 0,.slice none 0 0],53)] rfl ?_;rintro W0 ⟨k1,hb⟩;have HB0:=hid (show Below w.heap.size w W0 from hb);have K1:=hid k1;clear k1 hb;go_wp2_with fail
 with_reducible refine(C1.out _).mono ?_
 rintro e W1 ⟨rfl,hb⟩;have K1:=hid (K1.out.below hb);have HB1:=hbt HB0 hb;clear hb;go_wp2_with fail
 with_reducible refine(C2.out _).mono ?_
 rintro e W2 ⟨rfl,hb⟩;have K1:=hid (K1.out.below hb);have HB2:=hbt HB1 hb;clear hb;go_wp2_with fail
 with_reducible refine(C3.out _).mono ?_
 rintro e W3 ⟨rfl,hb⟩;have K1:=hid (K1.out.below hb);have HB3:=hbt HB2 hb;clear hb;go_wp2_with fail
 with_reducible refine(C4.out _).mono ?_
 rintro e W4 ⟨p_4,c_4,rfl,u02,hb⟩;have K1:=hid (K1.out.below hb);have HB4:=hbt HB3 hb;have RZ:=hid u02;clear hb u02;go_wp2_with fail
 with_reducible refine(C5.out _).mono ?_
 rintro e W5 ⟨p_5,c_5,rfl,u05,hb⟩;have K1:=hid (K1.out.below hb);have RZ:=hid (RZ.out.below hb);have HB5:=hbt HB4 hb;have RM:=hid u05;clear hb u05;go_upto_region 5 with fail
 refine au W5 [(#[.bool (ai z),.slice p_4 (aa z) c_4,.slice p_5 (ag n) c_5],53)] rfl ?_;have L1:=K1.out.lt;have L2:=HB5.out.size;rintro W6 ⟨k2,hb⟩;have hb:Below W5.heap.size W5 W6:=hb;obtain ⟨K1,RZ,RM⟩:=ah (K1.out.below hb) (RZ.out.below hb) (RM.out.below hb);have HB6:=hbt HB5 hb;have K2:=hid k2;clear k2 hb;go_wp2_with fail
 with_reducible refine(C6.out _).mono ?_
 rintro e W7 ⟨p_6,c_6,rfl,u06,hb⟩;obtain ⟨K1,K2,RZ,RM⟩:=aH (K1.out.below hb) (K2.out.below hb) (RZ.out.below hb) (RM.out.below hb);have HB7:=hbt HB6 hb;have RO:=hid u06;clear hb u06;have dK22:=K2.out.cell (i:=2) rfl;go_wp2_with fail
 with_reducible refine(C7.out _ _ _ _ _ RM.out RO.out).mono ?_
 rintro e W8 ⟨rfl,hb⟩;clear dK22;obtain ⟨K1,K2,RZ,RM,RO⟩:=aO (K1.out.below hb) (K2.out.below hb) (RZ.out.below hb) (RM.out.below hb) (RO.out.below hb);have HB8:=hbt HB7 hb;clear hb;obtain ⟨dK20,dK21⟩:=aI K2.out rfl rfl;go_wp2_with fail
 with_reducible refine(C8.out _ _ _ RZ.out).mono ?_
 rintro e W9 ⟨rfl,hb⟩;clear dK20 dK21;obtain ⟨K1,K2,RZ,RM,RO⟩:=aO (K1.out.below hb) (K2.out.below hb) (RZ.out.below hb) (RM.out.below hb) (RO.out.below hb);have HB9:=hbt HB8 hb;clear hb;have dK21:=K2.out.cell (i:=1) rfl;have dK22:=K2.out.cell (i:=2) rfl;go_wp2_with fail
 with_reducible refine(C9.out _ _ _ _ _ RZ.out RM.out).mono ?_
 rintro e W10 ⟨p_9,c_9,rfl,u07,hb⟩;clear dK21 dK22;obtain ⟨K1,K2,RZ,RM,RO⟩:=aO (K1.out.below hb) (K2.out.below hb) (RZ.out.below hb) (RM.out.below hb) (RO.out.below hb);have HB10:=hbt HB9 hb;have RG:=hid u07;clear hb u07;go_wp2_with fail
 with_reducible refine(C10.out _ _ _ _ _ RG.out RO.out).mono ?_
 rintro e W11 ⟨rfl,hb⟩;obtain ⟨K1,K2,RZ,RM⟩:=aH (K1.out.below hb) (K2.out.below hb) (RZ.out.below hb) (RM.out.below hb);have HB11:=hbt HB10 hb;clear hb;obtain ⟨dK20,dK21,dK22⟩:=ax K2.out rfl rfl rfl;obtain ⟨dK10,dK11,dK12⟩:=ax K1.out rfl rfl rfl;obtain ⟨fK10,fK11,fK12⟩:=aT K1.out;go_wp2;exact bodyPost_ret (v:=.tuple #[.agg #[.bool (ai z),.slice p_4 (aa z) c_4,.slice p_5 (ag n) c_5],.bool true]) (by simp[results,results26,go_sem,dK10,dK11,dK12]) rfl ⟨_,_,_,_,rfl,(aZ [.bool (ai z),.slice p_4 (aa z) c_4,.slice p_5 (ag n) c_5] RZ.out K1.out (by simp[bS]) (by simp[bA])),(aZ [.bool (ai z),.slice p_4 (aa z) c_4,.slice p_5 (ag n) c_5] RM.out K1.out (by simp[bS]) (by simp[bA])),(av (l:=[.bool (ai z),.slice p_4 (aa z) c_4,.slice p_5 (ag n) c_5]) (i:=0) (by omega) HB11.out)⟩
theorem xV (a0 x0 y0:ByteArray)(z k zz:Int)(n one dz:Nat)(hk:k≤0)  (w:World)(h1:CQ 42 #[.string a0] (.tuple #[.string x0,.string y0,.bool true]))(h2:CQ 43 #[.string x0] (.bool true))(h3:CQ 44 #[.string y0] (.bool true))(h4:∀ W,CZ 46 #[.string x0] W z)(h5:∀ W,CN 47 #[.string y0] W n)(h6:∀ W,CN 48 #[.int .u32 1] W one)(h7:∀ s1 d1 s2 d2 W,RN W (.slice s1 (ag n) d1) n→RN W (.slice s2 (ag one) d2) one→CR 49 #[.slice s1 (ag n) d1,.slice s2 (ag one) d2] W (.int .i64 k))(h11:∀ W,CF 45 #[.int .i64 0] W zz dz)  :
 Calls Tryz.prog 26 #[.string a0] w fun e w'=>∃ p c s d,e=.returned (.tuple #[.agg #[.bool (ai zz),.slice p (aa zz) c,.slice s (ag dz) d],.bool false])∧RN w' (.slice p (aa zz) c) zz.natAbs∧RN w' (.slice s (ag dz) d) dz∧Below w.heap.size w w':=by
 obtain ⟨C1,C2,C3,C4,C5,C6,C7,C11⟩:=gV h1 h2 h3 h4 h5 h6 h7 h11;have k0:decide (0<k)=false:=decide_eq_false (by omega);have k1:k≤0:=hk;clear hk h1 h2 h3 h4 h5 h6 h7 h11;go_enter func26,ntmps26
 go_upto_region 1 with fail
 refine au w [(#[.bool false,.slice none 0 0,.slice none 0 0],53)] rfl ?_;rintro W0 ⟨k1,hb⟩;have HB0:=hid (show Below w.heap.size w W0 from hb);have K1:=hid k1;clear k1 hb;go_wp2_with fail
 with_reducible refine(C1.out _).mono ?_
 rintro e W1 ⟨rfl,hb⟩;have K1:=hid (K1.out.below hb);have HB1:=hbt HB0 hb;clear hb;go_wp2_with fail
 with_reducible refine(C2.out _).mono ?_
 rintro e W2 ⟨rfl,hb⟩;have K1:=hid (K1.out.below hb);have HB2:=hbt HB1 hb;clear hb;go_wp2_with fail
 with_reducible refine(C3.out _).mono ?_
 rintro e W3 ⟨rfl,hb⟩;have K1:=hid (K1.out.below hb);have HB3:=hbt HB2 hb;clear hb;go_wp2_with fail
 with_reducible refine(C4.out _).mono ?_
 rintro e W4 ⟨p_4,c_4,rfl,u02,hb⟩;have K1:=hid (K1.out.below hb);have HB4:=hbt HB3 hb;have RZ:=hid u02;clear hb u02;go_wp2_with fail
 with_reducible refine(C5.out _).mono ?_
 rintro e W5 ⟨p_5,c_5,rfl,u05,hb⟩;have K1:=hid (K1.out.below hb);have HB5:=hbt HB4 hb;have RM:=hid u05;clear hb u05;go_upto_region 5 with fail
 refine au W5 [(#[.bool (ai z),.slice p_4 (aa z) c_4,.slice p_5 (ag n) c_5],53)] rfl ?_;have L1:=K1.out.lt;have L2:=HB5.out.size;rintro W6 ⟨k2,hb⟩;have hb:Below W5.heap.size W5 W6:=hb;have K1:=hid (K1.out.below hb);have RM:=hid (RM.out.below hb);have HB6:=hbt HB5 hb;have K2:=hid k2;clear k2 hb;go_wp2_with fail
 with_reducible refine(C6.out _).mono ?_
 rintro e W7 ⟨p_6,c_6,rfl,u06,hb⟩;obtain ⟨K1,K2,RM⟩:=ah (K1.out.below hb) (K2.out.below hb) (RM.out.below hb);have HB7:=hbt HB6 hb;have RO:=hid u06;clear hb u06;have dK22:=K2.out.cell (i:=2) rfl;go_wp2_with fail
 with_reducible refine(C7.out _ _ _ _ _ RM.out RO.out).mono ?_
 rintro e W8 ⟨rfl,hb⟩;clear dK22;have K1:=hid (K1.out.below hb);have K2:=hid (K2.out.below hb);have HB8:=hbt HB7 hb;clear hb;obtain ⟨dK20,dK21,dK22⟩:=ax K2.out rfl rfl rfl;go_wp2_with fail
 with_reducible refine(C11.out _).mono ?_
 rintro e W9 ⟨p_8,c_8,s_8,d_8,rfl,u0v,u0w,hb⟩;clear dK20 dK21 dK22;have K1:=hid (K1.out.below hb);have HB9:=hbt HB8 hb;have RQ:=hid u0v;have TQ:=hid u0w;clear hb u0v u0w;obtain ⟨dK10,dK11,dK12⟩:=ax K1.out rfl rfl rfl;obtain ⟨fK10,fK11,fK12⟩:=aT K1.out;go_wp2;exact bodyPost_ret (v:=.tuple #[.agg #[.bool (ai zz),.slice p_8 (aa zz) c_8,.slice s_8 (ag dz) d_8],.bool false]) (by simp[results,results26,go_sem,dK10,dK11,dK12]) rfl ⟨_,_,_,_,rfl,(aZ [.bool (ai zz),.slice p_8 (aa zz) c_8,.slice s_8 (ag dz) d_8] RQ.out K1.out (by simp[bS]) (by simp[bA])),(aZ [.bool (ai zz),.slice p_8 (aa zz) c_8,.slice s_8 (ag dz) d_8] TQ.out K1.out (by simp[bS]) (by simp[bA])),(av (l:=[.bool (ai zz),.slice p_8 (aa zz) c_8,.slice s_8 (ag dz) d_8]) (i:=0) (by omega) HB9.out)⟩
theorem z0n (a0 x0 y0:ByteArray)(z k zz:Int)(n one dz:Nat)(hk:0<k)  (w:World)(h1:CQ 42 #[.string a0] (.tuple #[.string x0,.string y0,.bool true]))(h2:CQ 43 #[.string x0] (.bool true))(h3:CQ 44 #[.string y0] (.bool true))(h4:∀ W,CZ 46 #[.string x0] W z)(h5:∀ W,CN 47 #[.string y0] W n)(h6:∀ W,CN 48 #[.int .u32 1] W one)(h7:∀ s1 d1 s2 d2 W,RN W (.slice s1 (ag n) d1) n→RN W (.slice s2 (ag one) d2) one→CR 49 #[.slice s1 (ag n) d1,.slice s2 (ag one) d2] W (.int .i64 k))(h8:∀ p1 c1 W,RN W (.slice p1 (aa z) c1) z.natAbs→CR 50 #[.agg #[.bool (ai z),.slice p1 (aa z) c1]] W (.int .i64 0))(h11:∀ W,CF 45 #[.int .i64 0] W zz dz)  :
 Calls Tryz.prog 26 #[.string a0] w fun e w'=>∃ p c s d,e=.returned (.tuple #[.agg #[.bool (ai zz),.slice p (aa zz) c,.slice s (ag dz) d],.bool false])∧RN w' (.slice p (aa zz) c) zz.natAbs∧RN w' (.slice s (ag dz) d) dz∧Below w.heap.size w w':=by
 obtain ⟨C1,C2,C3,C4,C5,C6,C7,C8,C11⟩:=dL h1 h2 h3 h4 h5 h6 h7 h8 h11;have k0:decide (0<k)=true:=decide_eq_true hk;have k1:0<k:=hk;clear hk h1 h2 h3 h4 h5 h6 h7 h8 h11;go_enter func26,ntmps26
 go_upto_region 1 with fail
 refine au w [(#[.bool false,.slice none 0 0,.slice none 0 0],53)] rfl ?_;rintro W0 ⟨k1,hb⟩;have HB0:=hid (show Below w.heap.size w W0 from hb);have K1:=hid k1;clear k1 hb;go_wp2_with fail
 with_reducible refine(C1.out _).mono ?_
 rintro e W1 ⟨rfl,hb⟩;have K1:=hid (K1.out.below hb);have HB1:=hbt HB0 hb;clear hb;go_wp2_with fail
 with_reducible refine(C2.out _).mono ?_
 rintro e W2 ⟨rfl,hb⟩;have K1:=hid (K1.out.below hb);have HB2:=hbt HB1 hb;clear hb;go_wp2_with fail
 with_reducible refine(C3.out _).mono ?_
 rintro e W3 ⟨rfl,hb⟩;have K1:=hid (K1.out.below hb);have HB3:=hbt HB2 hb;clear hb;go_wp2_with fail
 with_reducible refine(C4.out _).mono ?_
 rintro e W4 ⟨p_4,c_4,rfl,u02,hb⟩;have K1:=hid (K1.out.below hb);have HB4:=hbt HB3 hb;have RZ:=hid u02;clear hb u02;go_wp2_with fail
 with_reducible refine(C5.out _).mono ?_
 rintro e W5 ⟨p_5,c_5,rfl,u05,hb⟩;have K1:=hid (K1.out.below hb);have RZ:=hid (RZ.out.below hb);have HB5:=hbt HB4 hb;have RM:=hid u05;clear hb u05;go_upto_region 5 with fail
 refine au W5 [(#[.bool (ai z),.slice p_4 (aa z) c_4,.slice p_5 (ag n) c_5],53)] rfl ?_;have L1:=K1.out.lt;have L2:=HB5.out.size;rintro W6 ⟨k2,hb⟩;have hb:Below W5.heap.size W5 W6:=hb;obtain ⟨K1,RZ,RM⟩:=ah (K1.out.below hb) (RZ.out.below hb) (RM.out.below hb);have HB6:=hbt HB5 hb;have K2:=hid k2;clear k2 hb;go_wp2_with fail
 with_reducible refine(C6.out _).mono ?_
 rintro e W7 ⟨p_6,c_6,rfl,u06,hb⟩;obtain ⟨K1,K2,RZ,RM⟩:=aH (K1.out.below hb) (K2.out.below hb) (RZ.out.below hb) (RM.out.below hb);have HB7:=hbt HB6 hb;have RO:=hid u06;clear hb u06;have dK22:=K2.out.cell (i:=2) rfl;go_wp2_with fail
 with_reducible refine(C7.out _ _ _ _ _ RM.out RO.out).mono ?_
 rintro e W8 ⟨rfl,hb⟩;clear dK22;obtain ⟨K1,K2,RZ⟩:=ah (K1.out.below hb) (K2.out.below hb) (RZ.out.below hb);have HB8:=hbt HB7 hb;clear hb;obtain ⟨dK20,dK21⟩:=aI K2.out rfl rfl;go_wp2_with fail
 with_reducible refine(C8.out _ _ _ RZ.out).mono ?_
 rintro e W9 ⟨rfl,hb⟩;clear dK20 dK21;have K1:=hid (K1.out.below hb);have K2:=hid (K2.out.below hb);have HB9:=hbt HB8 hb;clear hb;have dK21:=K2.out.cell (i:=1) rfl;have dK22:=K2.out.cell (i:=2) rfl;go_wp2_with fail
 with_reducible refine(C11.out _).mono ?_
 rintro e W10 ⟨p_9,c_9,s_9,d_9,rfl,u07,u0x,hb⟩;clear dK21 dK22;have K1:=hid (K1.out.below hb);have HB10:=hbt HB9 hb;have RQ:=hid u07;have TQ:=hid u0x;clear hb u07 u0x;obtain ⟨dK10,dK11,dK12⟩:=ax K1.out rfl rfl rfl;obtain ⟨fK10,fK11,fK12⟩:=aT K1.out;go_wp2;exact bodyPost_ret (v:=.tuple #[.agg #[.bool (ai zz),.slice p_9 (aa zz) c_9,.slice s_9 (ag dz) d_9],.bool false]) (by simp[results,results26,go_sem,dK10,dK11,dK12]) rfl ⟨_,_,_,_,rfl,(aZ [.bool (ai zz),.slice p_9 (aa zz) c_9,.slice s_9 (ag dz) d_9] RQ.out K1.out (by simp[bS]) (by simp[bA])),(aZ [.bool (ai zz),.slice p_9 (aa zz) c_9,.slice s_9 (ag dz) d_9] TQ.out K1.out (by simp[bS]) (by simp[bA])),(av (l:=[.bool (ai zz),.slice p_9 (aa zz) c_9,.slice s_9 (ag dz) d_9]) (i:=0) (by omega) HB10.out)⟩
theorem uA (a0 x0 y0:ByteArray)(z k k2 sg zz:Int)(n one g dz:Nat)(hk:0<k)(hsg:sg≠0)(hk2:k2≠0)  (w:World)(h1:CQ 42 #[.string a0] (.tuple #[.string x0,.string y0,.bool true]))(h2:CQ 43 #[.string x0] (.bool true))(h3:CQ 44 #[.string y0] (.bool true))(h4:∀ W,CZ 46 #[.string x0] W z)(h5:∀ W,CN 47 #[.string y0] W n)(h6:∀ W,CN 48 #[.int .u32 1] W one)(h7:∀ s1 d1 s2 d2 W,RN W (.slice s1 (ag n) d1) n→RN W (.slice s2 (ag one) d2) one→CR 49 #[.slice s1 (ag n) d1,.slice s2 (ag one) d2] W (.int .i64 k))(h8:∀ p1 c1 W,RN W (.slice p1 (aa z) c1) z.natAbs→CR 50 #[.agg #[.bool (ai z),.slice p1 (aa z) c1]] W (.int .i64 sg))(h9:∀ p1 c1 s2 d2 W,RN W (.slice p1 (aa z) c1) z.natAbs→RN W (.slice s2 (ag n) d2) n→CN 51 #[.slice p1 (aa z) c1,.slice s2 (ag n) d2] W g)(h10:∀ s1 d1 s2 d2 W,RN W (.slice s1 (ag g) d1) g→RN W (.slice s2 (ag one) d2) one→CR 49 #[.slice s1 (ag g) d1,.slice s2 (ag one) d2] W (.int .i64 k2))(h11:∀ W,CF 45 #[.int .i64 0] W zz dz)  :
 Calls Tryz.prog 26 #[.string a0] w fun e w'=>∃ p c s d,e=.returned (.tuple #[.agg #[.bool (ai zz),.slice p (aa zz) c,.slice s (ag dz) d],.bool false])∧RN w' (.slice p (aa zz) c) zz.natAbs∧RN w' (.slice s (ag dz) d) dz∧Below w.heap.size w w':=by
 obtain ⟨C1,C2,C3,C4,C5,C6,C7,C8,C9,C10,C11⟩:=gH h1 h2 h3 h4 h5 h6 h7 h8 h9 h10 h11;have k0:decide (0<k)=true:=decide_eq_true hk;have k1:0<k:=hk;clear hk;have s0:(sg==0)=false:=by rw[beq_eq_false_iff_ne];exact hsg
 have s1:¬ sg=0:=hsg;have s2:(sg != 0)=true:=by unfold bne;rw[s0];rfl
 have s3:decide (sg=0)=false:=decide_eq_false hsg;clear hsg;have q0:(k2==0)=false:=by rw[beq_eq_false_iff_ne];exact hk2
 have q1:¬ k2=0:=hk2;clear hk2 h1 h2 h3 h4 h5 h6 h7 h8 h9 h10 h11;go_enter func26,ntmps26
 go_upto_region 1 with fail
 refine au w [(#[.bool false,.slice none 0 0,.slice none 0 0],53)] rfl ?_;rintro W0 ⟨k1,hb⟩;have HB0:=hid (show Below w.heap.size w W0 from hb);have K1:=hid k1;clear k1 hb;go_wp2_with fail
 with_reducible refine(C1.out _).mono ?_
 rintro e W1 ⟨rfl,hb⟩;have K1:=hid (K1.out.below hb);have HB1:=hbt HB0 hb;clear hb;go_wp2_with fail
 with_reducible refine(C2.out _).mono ?_
 rintro e W2 ⟨rfl,hb⟩;have K1:=hid (K1.out.below hb);have HB2:=hbt HB1 hb;clear hb;go_wp2_with fail
 with_reducible refine(C3.out _).mono ?_
 rintro e W3 ⟨rfl,hb⟩;have K1:=hid (K1.out.below hb);have HB3:=hbt HB2 hb;clear hb;go_wp2_with fail
 with_reducible refine(C4.out _).mono ?_
 rintro e W4 ⟨p_4,c_4,rfl,u02,hb⟩;have K1:=hid (K1.out.below hb);have HB4:=hbt HB3 hb;have RZ:=hid u02;clear hb u02;go_wp2_with fail
 with_reducible refine(C5.out _).mono ?_
 rintro e W5 ⟨p_5,c_5,rfl,u05,hb⟩;have K1:=hid (K1.out.below hb);have RZ:=hid (RZ.out.below hb);have HB5:=hbt HB4 hb;have RM:=hid u05;clear hb u05;go_upto_region 5 with fail
 refine au W5 [(#[.bool (ai z),.slice p_4 (aa z) c_4,.slice p_5 (ag n) c_5],53)] rfl ?_;have L1:=K1.out.lt;have L2:=HB5.out.size;rintro W6 ⟨k2,hb⟩;have hb:Below W5.heap.size W5 W6:=hb;obtain ⟨K1,RZ,RM⟩:=ah (K1.out.below hb) (RZ.out.below hb) (RM.out.below hb);have HB6:=hbt HB5 hb;have K2:=hid k2;clear k2 hb;go_wp2_with fail
 with_reducible refine(C6.out _).mono ?_
 rintro e W7 ⟨p_6,c_6,rfl,u06,hb⟩;obtain ⟨K1,K2,RZ,RM⟩:=aH (K1.out.below hb) (K2.out.below hb) (RZ.out.below hb) (RM.out.below hb);have HB7:=hbt HB6 hb;have RO:=hid u06;clear hb u06;have dK22:=K2.out.cell (i:=2) rfl;go_wp2_with fail
 with_reducible refine(C7.out _ _ _ _ _ RM.out RO.out).mono ?_
 rintro e W8 ⟨rfl,hb⟩;clear dK22;obtain ⟨K1,K2,RZ,RM,RO⟩:=aO (K1.out.below hb) (K2.out.below hb) (RZ.out.below hb) (RM.out.below hb) (RO.out.below hb);have HB8:=hbt HB7 hb;clear hb;obtain ⟨dK20,dK21⟩:=aI K2.out rfl rfl;go_wp2_with fail
 with_reducible refine(C8.out _ _ _ RZ.out).mono ?_
 rintro e W9 ⟨rfl,hb⟩;clear dK20 dK21;obtain ⟨K1,K2,RZ,RM,RO⟩:=aO (K1.out.below hb) (K2.out.below hb) (RZ.out.below hb) (RM.out.below hb) (RO.out.below hb);have HB9:=hbt HB8 hb;clear hb;have dK21:=K2.out.cell (i:=1) rfl;have dK22:=K2.out.cell (i:=2) rfl;go_wp2_with fail
 with_reducible refine(C9.out _ _ _ _ _ RZ.out RM.out).mono ?_
 rintro e W10 ⟨p_9,c_9,rfl,u07,hb⟩;clear dK21 dK22;have K1:=hid (K1.out.below hb);have RO:=hid (RO.out.below hb);have HB10:=hbt HB9 hb;have RG:=hid u07;clear hb u07;go_wp2_with fail
 with_reducible refine(C10.out _ _ _ _ _ RG.out RO.out).mono ?_
 rintro e W11 ⟨rfl,hb⟩;have K1:=hid (K1.out.below hb);have HB11:=hbt HB10 hb;clear hb;go_wp2_with fail
 with_reducible refine(C11.out _).mono ?_
 rintro e W12 ⟨u0m,u0n,u0o,u0p,rfl,u0y,u0z,hb⟩;have K1:=hid (K1.out.below hb);have HB12:=hbt HB11 hb;have RQ:=hid u0y;have TQ:=hid u0z;clear hb u0y u0z;obtain ⟨dK10,dK11,dK12⟩:=ax K1.out rfl rfl rfl;obtain ⟨fK10,fK11,fK12⟩:=aT K1.out;go_wp2;exact bodyPost_ret (v:=.tuple #[.agg #[.bool (ai zz),.slice u0m (aa zz) u0n,.slice u0o (ag dz) u0p],.bool false]) (by simp[results,results26,go_sem,dK10,dK11,dK12]) rfl ⟨_,_,_,_,rfl,(aZ [.bool (ai zz),.slice u0m (aa zz) u0n,.slice u0o (ag dz) u0p] RQ.out K1.out (by simp[bS]) (by simp[bA])),(aZ [.bool (ai zz),.slice u0m (aa zz) u0n,.slice u0o (ag dz) u0p] TQ.out K1.out (by simp[bS]) (by simp[bA])),(av (l:=[.bool (ai zz),.slice u0m (aa zz) u0n,.slice u0o (ag dz) u0p]) (i:=0) (by omega) HB12.out)⟩
