/- texts -/
import Derived.Test.YtlgkolkcokaefaaGreatDoorMz30q
open Go.Proofs.Tryz
set_option maxRecDepth 100000
set_option maxHeartbeats 20000000
open Go.Lib (hid)
namespace Go.Proofs.YtlgkolkcokaefaaGreatDoor
open Go.RowKit Go.Gb
theorem z2a (a0 x0 y0:ByteArray)(z:Int)(n:Nat)  (w:World)(h1:CQ 42 #[.string a0] (.tuple #[.string x0,.string y0,.bool false]))(h2:CQ 43 #[.string x0] (.bool true))(h3:CQ 44 #[.string y0] (.bool true))(h4:∀ W,CZ 46 #[.string x0] W z)(h5:∀ W,CN 47 #[.string y0] W n)  :
 Calls Tryz.prog 26 #[.string a0] w fun e w'=>∃ p c s d,e=.returned (.tuple #[.agg #[.bool (ah z),.slice p (aa z) c,.slice s (ag n) d],.bool true])∧RN w' (.slice p (aa z) c) z.natAbs∧RN w' (.slice s (ag n) d) n∧Below w.heap.size w w':=by
 obtain ⟨C1,C2,C3,C4,C5⟩:=aT h1 h2 h3 h4 h5;clear h1 h2 h3 h4 h5;go_enter func26,ntmps26
 go_upto_region 1 with fail
 refine au w [(#[.bool false,.slice none 0 0,.slice none 0 0],53)] rfl ?_;rintro W0 ⟨k1,hb⟩;have HB0:=hid (show Below w.heap.size w W0 from hb);have K1:=hid k1;clear k1 hb;go_wp2_with fail
 with_reducible refine(C1.out _).mono ?_
 rintro e W1 ⟨rfl,hb⟩;have K1:=hid (K1.out.below hb);have HB1:=hbt HB0 hb;clear hb;go_wp2_with fail
 with_reducible refine(C2.out _).mono ?_
 rintro e W2 ⟨rfl,hb⟩;have K1:=hid (K1.out.below hb);have HB2:=hbt HB1 hb;clear hb;go_wp2_with fail
 with_reducible refine(C3.out _).mono ?_
 rintro e W3 ⟨rfl,hb⟩;have K1:=hid (K1.out.below hb);have HB3:=hbt HB2 hb;clear hb;go_wp2_with fail
 with_reducible refine(C4.out _).mono ?_
 rintro e W4 ⟨p_4,c_4,rfl,u06,hb⟩;have K1:=hid (K1.out.below hb);have HB4:=hbt HB3 hb;have RZ:=hid u06;clear hb u06;go_wp2_with fail
 with_reducible refine(C5.out _).mono ?_
 rintro e W5 ⟨p_5,c_5,rfl,u0f,hb⟩;have K1:=hid (K1.out.below hb);have RZ:=hid (RZ.out.below hb);have HB5:=hbt HB4 hb;have RM:=hid u0f;clear hb u0f;go_upto_region 5 with fail
 refine au W5 [(#[.bool (ah z),.slice p_4 (aa z) c_4,.slice p_5 (ag n) c_5],53)] rfl ?_;have L1:=K1.out.lt;have L2:=HB5.out.size;rintro W6 ⟨k2,hb⟩;have hb:Below W5.heap.size W5 W6:=hb;obtain ⟨K1,RZ,RM⟩:=ai (K1.out.below hb) (RZ.out.below hb) (RM.out.below hb);have HB6:=hbt HB5 hb;have K2:=hid k2;clear k2 hb;obtain ⟨dK20,dK21,dK22⟩:=aJ K2.out rfl rfl rfl;obtain ⟨dK10,dK11,dK12⟩:=aJ K1.out rfl rfl rfl;obtain ⟨fK10,fK11,fK12⟩:=bz K1.out;go_wp2;exact bodyPost_ret (v:=.tuple #[.agg #[.bool (ah z),.slice p_4 (aa z) c_4,.slice p_5 (ag n) c_5],.bool true]) (by simp[results,results26,go_sem,dK10,dK11,dK12]) rfl ⟨_,_,_,_,rfl,(aX [.bool (ah z),.slice p_4 (aa z) c_4,.slice p_5 (ag n) c_5] RZ.out K1.out (by simp[bW]) (by simp[bE])),(aX [.bool (ah z),.slice p_4 (aa z) c_4,.slice p_5 (ag n) c_5] RM.out K1.out (by simp[bW]) (by simp[bE])),(ax (l:=[.bool (ah z),.slice p_4 (aa z) c_4,.slice p_5 (ag n) c_5]) (i:=0) (by omega) HB6.out)⟩
theorem sN (a0 x0 y0:ByteArray)(zz:Int)(dz:Nat)(sl:Bool)  (w:World)(h1:CQ 42 #[.string a0] (.tuple #[.string x0,.string y0,.bool sl]))(h2:CQ 43 #[.string x0] (.bool false))(h11:∀ W,CF 45 #[.int .i64 0] W zz dz)  :
 Calls Tryz.prog 26 #[.string a0] w fun e w'=>∃ p c s d,e=.returned (.tuple #[.agg #[.bool (ah zz),.slice p (aa zz) c,.slice s (ag dz) d],.bool false])∧RN w' (.slice p (aa zz) c) zz.natAbs∧RN w' (.slice s (ag dz) d) dz∧Below w.heap.size w w':=by
 obtain ⟨C1,C2,C11⟩:=ai h1 h2 h11;clear h1 h2 h11;go_enter func26,ntmps26
 go_upto_region 1 with fail
 refine au w [(#[.bool false,.slice none 0 0,.slice none 0 0],53)] rfl ?_;rintro W0 ⟨k1,hb⟩;have HB0:=hid (show Below w.heap.size w W0 from hb);have K1:=hid k1;clear k1 hb;go_wp2_with fail
 with_reducible refine(C1.out _).mono ?_
 rintro e W1 ⟨rfl,hb⟩;have K1:=hid (K1.out.below hb);have HB1:=hbt HB0 hb;clear hb;go_wp2_with fail
 with_reducible refine(C2.out _).mono ?_
 rintro e W2 ⟨rfl,hb⟩;have K1:=hid (K1.out.below hb);have HB2:=hbt HB1 hb;clear hb;go_wp2_with fail
 with_reducible refine(C11.out _).mono ?_
 rintro e W3 ⟨p_3,c_3,s_3,d_3,rfl,u0I,u0J,hb⟩;have K1:=hid (K1.out.below hb);have HB3:=hbt HB2 hb;have RQ:=hid u0I;have TQ:=hid u0J;clear hb u0I u0J;obtain ⟨dK10,dK11,dK12⟩:=aJ K1.out rfl rfl rfl;obtain ⟨fK10,fK11,fK12⟩:=bz K1.out;go_wp2;exact bodyPost_ret (v:=.tuple #[.agg #[.bool (ah zz),.slice p_3 (aa zz) c_3,.slice s_3 (ag dz) d_3],.bool false]) (by simp[results,results26,go_sem,dK10,dK11,dK12]) rfl ⟨_,_,_,_,rfl,(aX [.bool (ah zz),.slice p_3 (aa zz) c_3,.slice s_3 (ag dz) d_3] RQ.out K1.out (by simp[bW]) (by simp[bE])),(aX [.bool (ah zz),.slice p_3 (aa zz) c_3,.slice s_3 (ag dz) d_3] TQ.out K1.out (by simp[bW]) (by simp[bE])),(ax (l:=[.bool (ah zz),.slice p_3 (aa zz) c_3,.slice s_3 (ag dz) d_3]) (i:=0) (by omega) HB3.out)⟩
theorem z0y (a0 x0 y0:ByteArray)(zz:Int)(dz:Nat)(sl:Bool)  (w:World)(h1:CQ 42 #[.string a0] (.tuple #[.string x0,.string y0,.bool sl]))(h2:CQ 43 #[.string x0] (.bool true))(h3:CQ 44 #[.string y0] (.bool false))(h11:∀ W,CF 45 #[.int .i64 0] W zz dz)  :
 Calls Tryz.prog 26 #[.string a0] w fun e w'=>∃ p c s d,e=.returned (.tuple #[.agg #[.bool (ah zz),.slice p (aa zz) c,.slice s (ag dz) d],.bool false])∧RN w' (.slice p (aa zz) c) zz.natAbs∧RN w' (.slice s (ag dz) d) dz∧Below w.heap.size w w':=by
 obtain ⟨C1,C2,C3,C11⟩:=aH h1 h2 h3 h11;clear h1 h2 h3 h11;go_enter func26,ntmps26
 go_upto_region 1 with fail
 refine au w [(#[.bool false,.slice none 0 0,.slice none 0 0],53)] rfl ?_;rintro W0 ⟨k1,hb⟩;have HB0:=hid (show Below w.heap.size w W0 from hb);have K1:=hid k1;clear k1 hb;go_wp2_with fail
 with_reducible refine(C1.out _).mono ?_
 rintro e W1 ⟨rfl,hb⟩;have K1:=hid (K1.out.below hb);have HB1:=hbt HB0 hb;clear hb;go_wp2_with fail
 with_reducible refine(C2.out _).mono ?_
 rintro e W2 ⟨rfl,hb⟩;have K1:=hid (K1.out.below hb);have HB2:=hbt HB1 hb;clear hb;go_wp2_with fail
 with_reducible refine(C3.out _).mono ?_
 rintro e W3 ⟨rfl,hb⟩;have K1:=hid (K1.out.below hb);have HB3:=hbt HB2 hb;clear hb;go_wp2_with fail
 with_reducible refine(C11.out _).mono ?_
 rintro e W4 ⟨p_4,c_4,s_4,d_4,rfl,u06,u0K,hb⟩;have K1:=hid (K1.out.below hb);have HB4:=hbt HB3 hb;have RQ:=hid u06;have TQ:=hid u0K;clear hb u06 u0K;obtain ⟨dK10,dK11,dK12⟩:=aJ K1.out rfl rfl rfl;obtain ⟨fK10,fK11,fK12⟩:=bz K1.out;go_wp2;exact bodyPost_ret (v:=.tuple #[.agg #[.bool (ah zz),.slice p_4 (aa zz) c_4,.slice s_4 (ag dz) d_4],.bool false]) (by simp[results,results26,go_sem,dK10,dK11,dK12]) rfl ⟨_,_,_,_,rfl,(aX [.bool (ah zz),.slice p_4 (aa zz) c_4,.slice s_4 (ag dz) d_4] RQ.out K1.out (by simp[bW]) (by simp[bE])),(aX [.bool (ah zz),.slice p_4 (aa zz) c_4,.slice s_4 (ag dz) d_4] TQ.out K1.out (by simp[bW]) (by simp[bE])),(ax (l:=[.bool (ah zz),.slice p_4 (aa zz) c_4,.slice s_4 (ag dz) d_4]) (i:=0) (by omega) HB4.out)⟩
theorem z0x (a0 x0 y0:ByteArray)(z k sg:Int)(n one g:Nat)(hk:0<k)(hsg:sg≠0)  (w:World)(h1:CQ 42 #[.string a0] (.tuple #[.string x0,.string y0,.bool true]))(h2:CQ 43 #[.string x0] (.bool true))(h3:CQ 44 #[.string y0] (.bool true))(h4:∀ W,CZ 46 #[.string x0] W z)(h5:∀ W,CN 47 #[.string y0] W n)(h6:∀ W,CN 48 #[.int .u32 1] W one)(h7:∀ s1 d1 s2 d2 W,RN W (.slice s1 (ag n) d1) n→RN W (.slice s2 (ag one) d2) one→CR 49 #[.slice s1 (ag n) d1,.slice s2 (ag one) d2] W (.int .i64 k))(h8:∀ p1 c1 W,RN W (.slice p1 (aa z) c1) z.natAbs→CR 50 #[.agg #[.bool (ah z),.slice p1 (aa z) c1]] W (.int .i64 sg))(h9:∀ p1 c1 s2 d2 W,RN W (.slice p1 (aa z) c1) z.natAbs→RN W (.slice s2 (ag n) d2) n→CN 51 #[.slice p1 (aa z) c1,.slice s2 (ag n) d2] W g)(h10:∀ s1 d1 s2 d2 W,RN W (.slice s1 (ag g) d1) g→RN W (.slice s2 (ag one) d2) one→CR 49 #[.slice s1 (ag g) d1,.slice s2 (ag one) d2] W (.int .i64 0))  :
 Calls Tryz.prog 26 #[.string a0] w fun e w'=>∃ p c s d,e=.returned (.tuple #[.agg #[.bool (ah z),.slice p (aa z) c,.slice s (ag n) d],.bool true])∧RN w' (.slice p (aa z) c) z.natAbs∧RN w' (.slice s (ag n) d) n∧Below w.heap.size w w':=by
 obtain ⟨C1,C2,C3,C4,C5,C6,C7,C8,C9,C10⟩:=iB h1 h2 h3 h4 h5 h6 h7 h8 h9 h10;have k0:decide (0<k)=true:=decide_eq_true hk;have k1:0<k:=hk;clear hk;have s0:(sg==0)=false:=by rw[beq_eq_false_iff_ne];exact hsg
 have s1:¬ sg=0:=hsg;have s2:(sg != 0)=true:=by unfold bne;rw[s0];rfl
 have s3:decide (sg=0)=false:=decide_eq_false hsg;clear hsg h1 h2 h3 h4 h5 h6 h7 h8 h9 h10;go_enter func26,ntmps26
 go_upto_region 1 with fail
 refine au w [(#[.bool false,.slice none 0 0,.slice none 0 0],53)] rfl ?_;rintro W0 ⟨k1,hb⟩;have HB0:=hid (show Below w.heap.size w W0 from hb);have K1:=hid k1;clear k1 hb;go_wp2_with fail
 with_reducible refine(C1.out _).mono ?_
 rintro e W1 ⟨rfl,hb⟩;have K1:=hid (K1.out.below hb);have HB1:=hbt HB0 hb;clear hb;go_wp2_with fail
 with_reducible refine(C2.out _).mono ?_
 rintro e W2 ⟨rfl,hb⟩;have K1:=hid (K1.out.below hb);have HB2:=hbt HB1 hb;clear hb;go_wp2_with fail
 with_reducible refine(C3.out _).mono ?_
 rintro e W3 ⟨rfl,hb⟩;have K1:=hid (K1.out.below hb);have HB3:=hbt HB2 hb;clear hb;go_wp2_with fail
 with_reducible refine(C4.out _).mono ?_
 rintro e W4 ⟨p_4,c_4,rfl,u06,hb⟩;have K1:=hid (K1.out.below hb);have HB4:=hbt HB3 hb;have RZ:=hid u06;clear hb u06;go_wp2_with fail
 with_reducible refine(C5.out _).mono ?_
 rintro e W5 ⟨p_5,c_5,rfl,u0f,hb⟩;have K1:=hid (K1.out.below hb);have RZ:=hid (RZ.out.below hb);have HB5:=hbt HB4 hb;have RM:=hid u0f;clear hb u0f;go_upto_region 5 with fail
 refine au W5 [(#[.bool (ah z),.slice p_4 (aa z) c_4,.slice p_5 (ag n) c_5],53)] rfl ?_;have L1:=K1.out.lt;have L2:=HB5.out.size;rintro W6 ⟨k2,hb⟩;have hb:Below W5.heap.size W5 W6:=hb;obtain ⟨K1,RZ,RM⟩:=ai (K1.out.below hb) (RZ.out.below hb) (RM.out.below hb);have HB6:=hbt HB5 hb;have K2:=hid k2;clear k2 hb;go_wp2_with fail
 with_reducible refine(C6.out _).mono ?_
 rintro e W7 ⟨p_6,c_6,rfl,u0g,hb⟩;obtain ⟨K1,K2,RZ,RM⟩:=aH (K1.out.below hb) (K2.out.below hb) (RZ.out.below hb) (RM.out.below hb);have HB7:=hbt HB6 hb;have RO:=hid u0g;clear hb u0g;have dK22:=K2.out.cell (i:=2) rfl;go_wp2_with fail
 with_reducible refine(C7.out _ _ _ _ _ RM.out RO.out).mono ?_
 rintro e W8 ⟨rfl,hb⟩;clear dK22;obtain ⟨K1,K2,RZ,RM,RO⟩:=aT (K1.out.below hb) (K2.out.below hb) (RZ.out.below hb) (RM.out.below hb) (RO.out.below hb);have HB8:=hbt HB7 hb;clear hb;obtain ⟨dK20,dK21⟩:=aB K2.out rfl rfl;go_wp2_with fail
 with_reducible refine(C8.out _ _ _ RZ.out).mono ?_
 rintro e W9 ⟨rfl,hb⟩;clear dK20 dK21;obtain ⟨K1,K2,RZ,RM,RO⟩:=aT (K1.out.below hb) (K2.out.below hb) (RZ.out.below hb) (RM.out.below hb) (RO.out.below hb);have HB9:=hbt HB8 hb;clear hb;have dK21:=K2.out.cell (i:=1) rfl;have dK22:=K2.out.cell (i:=2) rfl;go_wp2_with fail
 with_reducible refine(C9.out _ _ _ _ _ RZ.out RM.out).mono ?_
 rintro e W10 ⟨p_9,c_9,rfl,u0j,hb⟩;clear dK21 dK22;obtain ⟨K1,K2,RZ,RM,RO⟩:=aT (K1.out.below hb) (K2.out.below hb) (RZ.out.below hb) (RM.out.below hb) (RO.out.below hb);have HB10:=hbt HB9 hb;have RG:=hid u0j;clear hb u0j;go_wp2_with fail
 with_reducible refine(C10.out _ _ _ _ _ RG.out RO.out).mono ?_
 rintro e W11 ⟨rfl,hb⟩;obtain ⟨K1,K2,RZ,RM⟩:=aH (K1.out.below hb) (K2.out.below hb) (RZ.out.below hb) (RM.out.below hb);have HB11:=hbt HB10 hb;clear hb;obtain ⟨dK20,dK21,dK22⟩:=aJ K2.out rfl rfl rfl;obtain ⟨dK10,dK11,dK12⟩:=aJ K1.out rfl rfl rfl;obtain ⟨fK10,fK11,fK12⟩:=bz K1.out;go_wp2;exact bodyPost_ret (v:=.tuple #[.agg #[.bool (ah z),.slice p_4 (aa z) c_4,.slice p_5 (ag n) c_5],.bool true]) (by simp[results,results26,go_sem,dK10,dK11,dK12]) rfl ⟨_,_,_,_,rfl,(aX [.bool (ah z),.slice p_4 (aa z) c_4,.slice p_5 (ag n) c_5] RZ.out K1.out (by simp[bW]) (by simp[bE])),(aX [.bool (ah z),.slice p_4 (aa z) c_4,.slice p_5 (ag n) c_5] RM.out K1.out (by simp[bW]) (by simp[bE])),(ax (l:=[.bool (ah z),.slice p_4 (aa z) c_4,.slice p_5 (ag n) c_5]) (i:=0) (by omega) HB11.out)⟩
theorem yu (a0 x0 y0:ByteArray)(z k zz:Int)(n one dz:Nat)(hk:k≤0)  (w:World)(h1:CQ 42 #[.string a0] (.tuple #[.string x0,.string y0,.bool true]))(h2:CQ 43 #[.string x0] (.bool true))(h3:CQ 44 #[.string y0] (.bool true))(h4:∀ W,CZ 46 #[.string x0] W z)(h5:∀ W,CN 47 #[.string y0] W n)(h6:∀ W,CN 48 #[.int .u32 1] W one)(h7:∀ s1 d1 s2 d2 W,RN W (.slice s1 (ag n) d1) n→RN W (.slice s2 (ag one) d2) one→CR 49 #[.slice s1 (ag n) d1,.slice s2 (ag one) d2] W (.int .i64 k))(h11:∀ W,CF 45 #[.int .i64 0] W zz dz)  :
 Calls Tryz.prog 26 #[.string a0] w fun e w'=>∃ p c s d,e=.returned (.tuple #[.agg #[.bool (ah zz),.slice p (aa zz) c,.slice s (ag dz) d],.bool false])∧RN w' (.slice p (aa zz) c) zz.natAbs∧RN w' (.slice s (ag dz) d) dz∧Below w.heap.size w w':=by
 obtain ⟨C1,C2,C3,C4,C5,C6,C7,C11⟩:=gQ h1 h2 h3 h4 h5 h6 h7 h11;have k0:decide (0<k)=false:=decide_eq_false (by omega);have k1:k≤0:=hk;clear hk h1 h2 h3 h4 h5 h6 h7 h11;go_enter func26,ntmps26
 go_upto_region 1 with fail
 refine au w [(#[.bool false,.slice none 0 0,.slice none 0 0],53)] rfl ?_;rintro W0 ⟨k1,hb⟩;have HB0:=hid (show Below w.heap.size w W0 from hb);have K1:=hid k1;clear k1 hb;go_wp2_with fail
 with_reducible refine(C1.out _).mono ?_
 rintro e W1 ⟨rfl,hb⟩;have K1:=hid (K1.out.below hb);have HB1:=hbt HB0 hb;clear hb;go_wp2_with fail
 with_reducible refine(C2.out _).mono ?_
 rintro e W2 ⟨rfl,hb⟩;have K1:=hid (K1.out.below hb);have HB2:=hbt HB1 hb;clear hb;go_wp2_with fail
 with_reducible refine(C3.out _).mono ?_
 rintro e W3 ⟨rfl,hb⟩;have K1:=hid (K1.out.below hb);have HB3:=hbt HB2 hb;clear hb;go_wp2_with fail
 with_reducible refine(C4.out _).mono ?_
 rintro e W4 ⟨p_4,c_4,rfl,u06,hb⟩;have K1:=hid (K1.out.below hb);have HB4:=hbt HB3 hb;have RZ:=hid u06;clear hb u06;go_wp2_with fail
 with_reducible refine(C5.out _).mono ?_
 rintro e W5 ⟨p_5,c_5,rfl,u0f,hb⟩;have K1:=hid (K1.out.below hb);have HB5:=hbt HB4 hb;have RM:=hid u0f;clear hb u0f;go_upto_region 5 with fail
 refine au W5 [(#[.bool (ah z),.slice p_4 (aa z) c_4,.slice p_5 (ag n) c_5],53)] rfl ?_;have L1:=K1.out.lt;have L2:=HB5.out.size;rintro W6 ⟨k2,hb⟩;have hb:Below W5.heap.size W5 W6:=hb;have K1:=hid (K1.out.below hb);have RM:=hid (RM.out.below hb);have HB6:=hbt HB5 hb;have K2:=hid k2;clear k2 hb;go_wp2_with fail
 with_reducible refine(C6.out _).mono ?_
 rintro e W7 ⟨p_6,c_6,rfl,u0g,hb⟩;obtain ⟨K1,K2,RM⟩:=ai (K1.out.below hb) (K2.out.below hb) (RM.out.below hb);have HB7:=hbt HB6 hb;have RO:=hid u0g;clear hb u0g;have dK22:=K2.out.cell (i:=2) rfl;go_wp2_with fail
 with_reducible refine(C7.out _ _ _ _ _ RM.out RO.out).mono ?_
 rintro e W8 ⟨rfl,hb⟩;clear dK22;have K1:=hid (K1.out.below hb);have K2:=hid (K2.out.below hb);have HB8:=hbt HB7 hb;clear hb;obtain ⟨dK20,dK21,dK22⟩:=aJ K2.out rfl rfl rfl;go_wp2_with fail
 with_reducible refine(C11.out _).mono ?_
 rintro e W9 ⟨p_8,c_8,s_8,d_8,rfl,u0L,u0M,hb⟩;clear dK20 dK21 dK22;have K1:=hid (K1.out.below hb);have HB9:=hbt HB8 hb;have RQ:=hid u0L;have TQ:=hid u0M;clear hb u0L u0M;obtain ⟨dK10,dK11,dK12⟩:=aJ K1.out rfl rfl rfl;obtain ⟨fK10,fK11,fK12⟩:=bz K1.out;go_wp2;exact bodyPost_ret (v:=.tuple #[.agg #[.bool (ah zz),.slice p_8 (aa zz) c_8,.slice s_8 (ag dz) d_8],.bool false]) (by simp[results,results26,go_sem,dK10,dK11,dK12]) rfl ⟨_,_,_,_,rfl,(aX [.bool (ah zz),.slice p_8 (aa zz) c_8,.slice s_8 (ag dz) d_8] RQ.out K1.out (by simp[bW]) (by simp[bE])),(aX [.bool (ah zz),.slice p_8 (aa zz) c_8,.slice s_8 (ag dz) d_8] TQ.out K1.out (by simp[bW]) (by simp[bE])),(ax (l:=[.bool (ah zz),.slice p_8 (aa zz) c_8,.slice s_8 (ag dz) d_8]) (i:=0) (by omega) HB9.out)⟩
theorem z0w (a0 x0 y0:ByteArray)(z k zz:Int)(n one dz:Nat)(hk:0<k)  (w:World)(h1:CQ 42 #[.string a0] (.tuple #[.string x0,.string y0,.bool true]))(h2:CQ 43 #[.string x0] (.bool true))(h3:CQ 44 #[.string y0] (.bool true))(h4:∀ W,CZ 46 #[.string x0] W z)(h5:∀ W,CN 47 #[.string y0] W n)(h6:∀ W,CN 48 #[.int .u32 1] W one)(h7:∀ s1 d1 s2 d2 W,RN W (.slice s1 (ag n) d1) n→RN W (.slice s2 (ag one) d2) one→CR 49 #[.slice s1 (ag n) d1,.slice s2 (ag one) d2] W (.int .i64 k))(h8:∀ p1 c1 W,RN W (.slice p1 (aa z) c1) z.natAbs→CR 50 #[.agg #[.bool (ah z),.slice p1 (aa z) c1]] W (.int .i64 0))(h11:∀ W,CF 45 #[.int .i64 0] W zz dz)  :
 Calls Tryz.prog 26 #[.string a0] w fun e w'=>∃ p c s d,e=.returned (.tuple #[.agg #[.bool (ah zz),.slice p (aa zz) c,.slice s (ag dz) d],.bool false])∧RN w' (.slice p (aa zz) c) zz.natAbs∧RN w' (.slice s (ag dz) d) dz∧Below w.heap.size w w':=by
 obtain ⟨C1,C2,C3,C4,C5,C6,C7,C8,C11⟩:=dZ h1 h2 h3 h4 h5 h6 h7 h8 h11;have k0:decide (0<k)=true:=decide_eq_true hk;have k1:0<k:=hk;clear hk h1 h2 h3 h4 h5 h6 h7 h8 h11;go_enter func26,ntmps26
 go_upto_region 1 with fail
 refine au w [(#[.bool false,.slice none 0 0,.slice none 0 0],53)] rfl ?_;rintro W0 ⟨k1,hb⟩;have HB0:=hid (show Below w.heap.size w W0 from hb);have K1:=hid k1;clear k1 hb;go_wp2_with fail
 with_reducible refine(C1.out _).mono ?_
 rintro e W1 ⟨rfl,hb⟩;have K1:=hid (K1.out.below hb);have HB1:=hbt HB0 hb;clear hb;go_wp2_with fail
 with_reducible refine(C2.out _).mono ?_
 rintro e W2 ⟨rfl,hb⟩;have K1:=hid (K1.out.below hb);have HB2:=hbt HB1 hb;clear hb;go_wp2_with fail
 with_reducible refine(C3.out _).mono ?_
 rintro e W3 ⟨rfl,hb⟩;have K1:=hid (K1.out.below hb);have HB3:=hbt HB2 hb;clear hb;go_wp2_with fail
 with_reducible refine(C4.out _).mono ?_
 rintro e W4 ⟨p_4,c_4,rfl,u06,hb⟩;have K1:=hid (K1.out.below hb);have HB4:=hbt HB3 hb;have RZ:=hid u06;clear hb u06;go_wp2_with fail
 with_reducible refine(C5.out _).mono ?_
 rintro e W5 ⟨p_5,c_5,rfl,u0f,hb⟩;have K1:=hid (K1.out.below hb);have RZ:=hid (RZ.out.below hb);have HB5:=hbt HB4 hb;have RM:=hid u0f;clear hb u0f;go_upto_region 5 with fail
 refine au W5 [(#[.bool (ah z),.slice p_4 (aa z) c_4,.slice p_5 (ag n) c_5],53)] rfl ?_;have L1:=K1.out.lt;have L2:=HB5.out.size;rintro W6 ⟨k2,hb⟩;have hb:Below W5.heap.size W5 W6:=hb;obtain ⟨K1,RZ,RM⟩:=ai (K1.out.below hb) (RZ.out.below hb) (RM.out.below hb);have HB6:=hbt HB5 hb;have K2:=hid k2;clear k2 hb;go_wp2_with fail
 with_reducible refine(C6.out _).mono ?_
 rintro e W7 ⟨p_6,c_6,rfl,u0g,hb⟩;obtain ⟨K1,K2,RZ,RM⟩:=aH (K1.out.below hb) (K2.out.below hb) (RZ.out.below hb) (RM.out.below hb);have HB7:=hbt HB6 hb;have RO:=hid u0g;clear hb u0g;have dK22:=K2.out.cell (i:=2) rfl;go_wp2_with fail
 with_reducible refine(C7.out _ _ _ _ _ RM.out RO.out).mono ?_
 rintro e W8 ⟨rfl,hb⟩;clear dK22;obtain ⟨K1,K2,RZ⟩:=ai (K1.out.below hb) (K2.out.below hb) (RZ.out.below hb);have HB8:=hbt HB7 hb;clear hb;obtain ⟨dK20,dK21⟩:=aB K2.out rfl rfl;go_wp2_with fail
 with_reducible refine(C8.out _ _ _ RZ.out).mono ?_
 rintro e W9 ⟨rfl,hb⟩;clear dK20 dK21;have K1:=hid (K1.out.below hb);have K2:=hid (K2.out.below hb);have HB9:=hbt HB8 hb;clear hb;have dK21:=K2.out.cell (i:=1) rfl;have dK22:=K2.out.cell (i:=2) rfl;go_wp2_with fail
 with_reducible refine(C11.out _).mono ?_
 rintro e W10 ⟨p_9,c_9,s_9,d_9,rfl,u0j,u0N,hb⟩;clear dK21 dK22;have K1:=hid (K1.out.below hb);have HB10:=hbt HB9 hb;have RQ:=hid u0j;have TQ:=hid u0N;clear hb u0j u0N;obtain ⟨dK10,dK11,dK12⟩:=aJ K1.out rfl rfl rfl;obtain ⟨fK10,fK11,fK12⟩:=bz K1.out;go_wp2;exact bodyPost_ret (v:=.tuple #[.agg #[.bool (ah zz),.slice p_9 (aa zz) c_9,.slice s_9 (ag dz) d_9],.bool false]) (by simp[results,results26,go_sem,dK10,dK11,dK12]) rfl ⟨_,_,_,_,rfl,(aX [.bool (ah zz),.slice p_9 (aa zz) c_9,.slice s_9 (ag dz) d_9] RQ.out K1.out (by simp[bW]) (by simp[bE])),(aX [.bool (ah zz),.slice p_9 (aa zz) c_9,.slice s_9 (ag dz) d_9] TQ.out K1.out (by simp[bW]) (by simp[bE])),(ax (l:=[.bool (ah zz),.slice p_9 (aa zz) c_9,.slice s_9 (ag dz) d_9]) (i:=0) (by omega) HB10.out)⟩
theorem uE (a0 x0 y0:ByteArray)(z k k2 sg zz:Int)(n one g dz:Nat)(hk:0<k)(hsg:sg≠0)(hk2:k2≠0)  (w:World)(h1:CQ 42 #[.string a0] (.tuple #[.string x0,.string y0,.bool true]))(h2:CQ 43 #[.string x0] (.bool true))(h3:CQ 44 #[.string y0] (.bool true))(h4:∀ W,CZ 46 #[.string x0] W z)(h5:∀ W,CN 47 #[.string y0] W n)(h6:∀ W,CN 48 #[.int .u32 1] W one)(h7:∀ s1 d1 s2 d2 W,RN W (.slice s1 (ag n) d1) n→RN W (.slice s2 (ag one) d2) one→CR 49 #[.slice s1 (ag n) d1,.slice s2 (ag one) d2] W (.int .i64 k))(h8:∀ p1 c1 W,RN W (.slice p1 (aa z) c1) z.natAbs→CR 50 #[.agg #[.bool (ah z),.slice p1 (aa z) c1]] W (.int .i64 sg))(h9:∀ p1 c1 s2 d2 W,RN W (.slice p1 (aa z) c1) z.natAbs→RN W (.slice s2 (ag n) d2) n→CN 51 #[.slice p1 (aa z) c1,.slice s2 (ag n) d2] W g)(h10:∀ s1 d1 s2 d2 W,RN W (.slice s1 (ag g) d1) g→RN W (.slice s2 (ag one) d2) one→CR 49 #[.slice s1 (ag g) d1,.slice s2 (ag one) d2] W (.int .i64 k2))(h11:∀ W,CF 45 #[.int .i64 0] W zz dz)  :
 Calls Tryz.prog 26 #[.string a0] w fun e w'=>∃ p c s d,e=.returned (.tuple #[.agg #[.bool (ah zz),.slice p (aa zz) c,.slice s (ag dz) d],.bool false])∧RN w' (.slice p (aa zz) c) zz.natAbs∧RN w' (.slice s (ag dz) d) dz∧Below w.heap.size w w':=by
 obtain ⟨C1,C2,C3,C4,C5,C6,C7,C8,C9,C10,C11⟩:=gz h1 h2 h3 h4 h5 h6 h7 h8 h9 h10 h11;have k0:decide (0<k)=true:=decide_eq_true hk;have k1:0<k:=hk;clear hk;have s0:(sg==0)=false:=by rw[beq_eq_false_iff_ne];exact hsg
 have s1:¬ sg=0:=hsg;have s2:(sg != 0)=true:=by unfold bne;rw[s0];rfl
 have s3:decide (sg=0)=false:=decide_eq_false hsg;clear hsg;have q0:(k2==0)=false:=by rw[beq_eq_false_iff_ne];exact hk2
 have q1:¬ k2=0:=hk2;clear hk2 h1 h2 h3 h4 h5 h6 h7 h8 h9 h10 h11;go_enter func26,ntmps26
 go_upto_region 1 with fail
 refine au w [(#[.bool false,.slice none 0 0,.slice none 0 0],53)] rfl ?_;rintro W0 ⟨k1,hb⟩;have HB0:=hid (show Below w.heap.size w W0 from hb);have K1:=hid k1;clear k1 hb;go_wp2_with fail
 with_reducible refine(C1.out _).mono ?_
 rintro e W1 ⟨rfl,hb⟩;have K1:=hid (K1.out.below hb);have HB1:=hbt HB0 hb;clear hb;go_wp2_with fail
 with_reducible refine(C2.out _).mono ?_
 rintro e W2 ⟨rfl,hb⟩;have K1:=hid (K1.out.below hb);have HB2:=hbt HB1 hb;clear hb;go_wp2_with fail
 with_reducible refine(C3.out _).mono ?_
 rintro e W3 ⟨rfl,hb⟩;have K1:=hid (K1.out.below hb);have HB3:=hbt HB2 hb;clear hb;go_wp2_with fail
 with_reducible refine(C4.out _).mono ?_
 rintro e W4 ⟨p_4,c_4,rfl,u06,hb⟩;have K1:=hid (K1.out.below hb);have HB4:=hbt HB3 hb;have RZ:=hid u06;clear hb u06;go_wp2_with fail
 with_reducible refine(C5.out _).mono ?_
 rintro e W5 ⟨p_5,c_5,rfl,u0f,hb⟩;have K1:=hid (K1.out.below hb);have RZ:=hid (RZ.out.below hb);have HB5:=hbt HB4 hb;have RM:=hid u0f;clear hb u0f;go_upto_region 5 with fail
 refine au W5 [(#[.bool (ah z),.slice p_4 (aa z) c_4,.slice p_5 (ag n) c_5],53)] rfl ?_;have L1:=K1.out.lt;have L2:=HB5.out.size;rintro W6 ⟨k2,hb⟩;have hb:Below W5.heap.size W5 W6:=hb;obtain ⟨K1,RZ,RM⟩:=ai (K1.out.below hb) (RZ.out.below hb) (RM.out.below hb);have HB6:=hbt HB5 hb;have K2:=hid k2;clear k2 hb;go_wp2_with fail
 with_reducible refine(C6.out _).mono ?_
 rintro e W7 ⟨p_6,c_6,rfl,u0g,hb⟩;obtain ⟨K1,K2,RZ,RM⟩:=aH (K1.out.below hb) (K2.out.below hb) (RZ.out.below hb) (RM.out.below hb);have HB7:=hbt HB6 hb;have RO:=hid u0g;clear hb u0g;have dK22:=K2.out.cell (i:=2) rfl;go_wp2_with fail
 with_reducible refine(C7.out _ _ _ _ _ RM.out RO.out).mono ?_
 rintro e W8 ⟨rfl,hb⟩;clear dK22;obtain ⟨K1,K2,RZ,RM,RO⟩:=aT (K1.out.below hb) (K2.out.below hb) (RZ.out.below hb) (RM.out.below hb) (RO.out.below hb);have HB8:=hbt HB7 hb;clear hb;obtain ⟨dK20,dK21⟩:=aB K2.out rfl rfl;go_wp2_with fail
 with_reducible refine(C8.out _ _ _ RZ.out).mono ?_
 rintro e W9 ⟨rfl,hb⟩;clear dK20 dK21;obtain ⟨K1,K2,RZ,RM,RO⟩:=aT (K1.out.below hb) (K2.out.below hb) (RZ.out.below hb) (RM.out.below hb) (RO.out.below hb);have HB9:=hbt HB8 hb;clear hb;have dK21:=K2.out.cell (i:=1) rfl;have dK22:=K2.out.cell (i:=2) rfl;go_wp2_with fail
 with_reducible refine(C9.out _ _ _ _ _ RZ.out RM.out).mono ?_
 rintro e W10 ⟨p_9,c_9,rfl,u0j,hb⟩;clear dK21 dK22;have K1:=hid (K1.out.below hb);have RO:=hid (RO.out.below hb);have HB10:=hbt HB9 hb;have RG:=hid u0j;clear hb u0j;go_wp2_with fail
 with_reducible refine(C10.out _ _ _ _ _ RG.out RO.out).mono ?_
 rintro e W11 ⟨rfl,hb⟩;have K1:=hid (K1.out.below hb);have HB11:=hbt HB10 hb;clear hb;go_wp2_with fail
 with_reducible refine(C11.out _).mono ?_
 rintro e W12 ⟨u0A,u0B,u0C,u0D,rfl,u0O,u0P,hb⟩;have K1:=hid (K1.out.below hb);have HB12:=hbt HB11 hb;have RQ:=hid u0O;have TQ:=hid u0P;clear hb u0O u0P;obtain ⟨dK10,dK11,dK12⟩:=aJ K1.out rfl rfl rfl;obtain ⟨fK10,fK11,fK12⟩:=bz K1.out;go_wp2;exact bodyPost_ret (v:=.tuple #[.agg #[.bool (ah zz),.slice u0A (aa zz) u0B,.slice u0C (ag dz) u0D],.bool false]) (by simp[results,results26,go_sem,dK10,dK11,dK12]) rfl ⟨_,_,_,_,rfl,(aX [.bool (ah zz),.slice u0A (aa zz) u0B,.slice u0C (ag dz) u0D] RQ.out K1.out (by simp[bW]) (by simp[bE])),(aX [.bool (ah zz),.slice u0A (aa zz) u0B,.slice u0C (ag dz) u0D] TQ.out K1.out (by simp[bW]) (by simp[bE])),(ax (l:=[.bool (ah zz),.slice u0A (aa zz) u0B,.slice u0C (ag dz) u0D]) (i:=0) (by omega) HB12.out)⟩
open Go.Lib (hid)
theorem z1D (n1 n2 m n:Int)(en1 en2 f dn:Nat)(p1:Option Addr)(c1:Nat)(s1:Option Addr)(d1:Nat)(p2:Option Addr)(c2:Nat)(s2:Option Addr)(d2:Nat)(w:World)(h1:∀ p1 c1 s1 d1 W,RN W (.slice p1 (aa n2) c1) n2.natAbs→RN W (.slice s1 (ag en2) d1) en2→CF 73 #[.agg #[.bool (ah n2),.slice p1 (aa n2) c1,.slice s1 (ag en2) d1]] W m f)(h2:∀ p1 c1 s1 d1 p2 c2 s2 d2 W,RN W (.slice p1 (aa n1) c1) n1.natAbs→RN W (.slice s1 (ag en1) d1) en1→RN W (.slice p2 (aa m) c2) m.natAbs→RN W (.slice s2 (ag f) d2) f→CF 67 #[.agg #[.bool (ah n1),.slice p1 (aa n1) c1,.slice s1 (ag en1) d1],.agg #[.bool (ah m),.slice p2 (aa m) c2,.slice s2 (ag f) d2]] W n dn)(r1:RN w (.slice p1 (aa n1) c1) n1.natAbs)(t1:RN w (.slice s1 (ag en1) d1) en1)(r2:RN w (.slice p2 (aa n2) c2) n2.natAbs)(t2:RN w (.slice s2 (ag en2) d2) en2) :
 CF 54 #[.agg #[.bool (ah n1),.slice p1 (aa n1) c1,.slice s1 (ag en1) d1],.agg #[.bool (ah n2),.slice p2 (aa n2) c2,.slice s2 (ag en2) d2]] w n dn:=by
 obtain ⟨C1,C2,R1,T1,R2,T2⟩:=bT h1 h2 r1 t1 r2 t2;clear h1 h2 r1 t1 r2 t2;go_enter func54,ntmps54
 go_upto_region 1 with fail
 refine au w [(#[.bool (ah n1),.slice p1 (aa n1) c1,.slice s1 (ag en1) d1],53),(#[.bool (ah n2),.slice p2 (aa n2) c2,.slice s2 (ag en2) d2],53),(#[.bool false,.slice none 0 0,.slice none 0 0],53)] rfl ?_;rintro W0 ⟨k1,k2,k3,hb⟩;have HB0:=hid (show Below w.heap.size w W0 from hb);obtain ⟨R1,T1,R2,T2,K1,K2,K3⟩:=bP (R1.out.below HB0.out) (T1.out.below HB0.out) (R2.out.below HB0.out) (T2.out.below HB0.out) k1 k2 k3;clear k1 k2 k3 hb;go_wp2_with fail
 refine aC (fun a0 a' V=>∃ u09 u0a u0b u0c u00 u01 u02 u03,a'=⟨putL [(5,.agg #[.bool (ah n1),.slice p1 (aa n1) c1,.slice s1 (ag en1) d1]),(6,.agg #[.bool (ah n2),.slice p2 (aa n2) c2,.slice s2 (ag en2) d2]),(7,.agg #[.bool (ah m),.slice u09 (aa m) u0a,.slice u0b (ag f) u0c]),(8,.agg #[.bool (ah n),.slice u00 (aa n) u01,.slice u02 (ag dn) u03])] a0.tmps,a0.defers⟩∧Below w.heap.size w V∧SBk V (w.heap.size+1+1) #[.bool (ah n),.slice u00 (aa n) u01,.slice u02 (ag dn) u03] 53∧RN V (.slice u00 (aa n) u01) (n).natAbs∧RN V (.slice u02 (ag dn) u03) (dn)) ?_ ?_
 · refine az (by kernel_rfl) 4 1 (fun i=>[5,6,7,8].getD i 0) (RelR [Rel.val (.agg #[.bool (ah n1),.slice p1 (aa n1) c1,.slice s1 (ag en1) d1]),Rel.val (.agg #[.bool (ah n2),.slice p2 (aa n2) c2,.slice s2 (ag en2) d2]),⟨fun v W=>∃ p c s d,v=.agg #[.bool (ah m),.slice p (aa m) c,.slice s (ag f) d]∧RN W (.slice p (aa m) c) (m).natAbs∧RN W (.slice s (ag f) d) (f),fun _ _ _ ⟨p,c,s,d,e,h0,h1⟩ hb=>⟨p,c,s,d,e,h0.below hb,h1.below hb⟩⟩,⟨fun v W=>∃ p c s d,v=.agg #[.bool (ah n),.slice p (aa n) c,.slice s (ag dn) d]∧RN W (.slice p (aa n) c) (n).natAbs∧RN W (.slice s (ag dn) d) (dn),fun _ _ _ ⟨p,c,s,d,e,h0,h1⟩ hb=>⟨p,c,s,d,e,h0.below hb,h1.below hb⟩⟩]) (fun W=>Below W0.heap.size W0 W) (fun _ _=>True) (by kernel_rfl) (by kernel_rfl) (by kernel_rfl) trivial (Below.refl _ _).drew ?_ ?_
   · intro listed a W i hI hD hrd him
     obtain ⟨HI,HD,Hr⟩:=ai hI hD hrd;clear hI hrd hD;have y2:a.tmps[2]? = some (.pointer (some ⟨w.heap.size,0,none⟩)):=HI.out.rest 2 (by decide);have y3:a.tmps[3]? = some (.pointer (some ⟨w.heap.size+1,0,none⟩)):=HI.out.rest 3 (by decide);obtain ⟨dK10,dK11,dK12⟩:=aJ (K1.out.below HI.out.world) rfl rfl rfl;obtain ⟨dK20,dK21,dK22⟩:=aJ (K2.out.below HI.out.world) rfl rfl rfl;have X1:RV _ listed a 1 6 (.agg #[.bool (ah n2),.slice p2 (aa n2) c2,.slice s2 (ag en2) d2]):=HI.out.rh;have X0:RV _ listed a 0 5 (.agg #[.bool (ah n1),.slice p1 (aa n1) c1,.slice s1 (ag en1) d1]):=HI.out.rh
     match i,him,Hr with
     | 0,_,Hi =>
       refine ak rfl fun K' hK=>?_;go_simp;exact hK.out _ _ ⟨HI.out.pv Hi.out rfl,trivial⟩
     | 1,_,Hi =>
       refine ak rfl fun K' hK=>?_;go_simp;exact hK.out _ _ ⟨HI.out.pv Hi.out rfl,trivial⟩
     | 2,_,Hi =>
       have x1:=X1.g Hi.out (by kernel_rfl);refine ak rfl fun K' hK=>?_;go_simp;with_reducible refine(C1.out _ _ _ _ _ (R2.out.below HI.out.world) (T2.out.below HI.out.world)).mono ?_
       rintro e W' ⟨u09,u0a,u0b,u0c,rfl,u0d,u0e,hb⟩;exact hK.out _ _ ⟨HI.out.pc Hi.out hb ⟨u09,u0a,u0b,u0c,rfl,u0d,u0e⟩,trivial⟩
     | 3,_,Hi =>
       have x0:=X0.g Hi.out (by kernel_rfl);obtain⟨v',x2,u09,u0a,u0b,u0c,e,u0d,u0e⟩:=HI.out.at (i:=2) Hi.out (by kernel_rfl) (by decide);obtain rfl:=e;have x2:a.tmps[7]? = some (.agg #[.bool (ah m),.slice u09 (aa m) u0a,.slice u0b (ag f) u0c]):=x2;have u0k:=hid u0d;clear u0d;have u0l:=hid u0e;clear u0e;refine ak rfl fun K' hK=>?_;go_simp;with_reducible refine(C2.out _ _ _ _ _ _ _ _ _ (R1.out.below HI.out.world) (T1.out.below HI.out.world) u0k.out u0l.out).mono ?_
       rintro e W' ⟨u00,u01,u02,u03,rfl,u0h,u0i,hb⟩;exact hK.out _ _ ⟨HI.out.pc Hi.out hb ⟨u00,u01,u02,u03,rfl,u0h,u0i⟩,trivial⟩
     | n+4,h,_=>exact absurd h (by omega)
   · intro listed a W hI hD hall
     obtain⟨v',x2,u09,u0a,u0b,u0c,e,u0d,u0e⟩:=hI.slots 2 (by decide) (hall 2 (by decide));obtain rfl:=e;have u0k:=hid u0d;clear u0d;have u0l:=hid u0e;clear u0e;obtain⟨v',x3,u00,u01,u02,u03,e,u0h,u0i⟩:=hI.slots 3 (by decide) (hall 3 (by decide));obtain rfl:=e;have u0G:=hid u0h;clear u0h;have u0H:=hid u0i;clear u0i;have x3:a.tmps[8]? = some (.agg #[.bool (ah n),.slice u00 (aa n) u01,.slice u02 (ag dn) u03]):=x3;obtain ⟨HBW,HI,HA⟩:=ai hI.world hI hall;clear hI hall;obtain ⟨K3,HBX⟩:=aF (K3.out.below HBW.out) (HB0.out.trans (HBW.out.mono HB0.out.size));have RM:=u0k;have TM:=u0l;have RQ:=u0G;have TQ:=u0H;have y4:a.tmps[4]? = some (.pointer (some ⟨w.heap.size+1+1,0,none⟩)):=HI.out.rest 4 (by decide);obtain ⟨dK30,dK31,dK32⟩:=aJ K3.out rfl rfl rfl;obtain ⟨fK30,fK31,fK32⟩:=bz K3.out;refine aS (t:=0) ?_;refine ak rfl fun K' hK=>?_;go_simp;refine hK.out _ _ ?_;clear hK;refine aY ?_;have s0:∀ {v':Value} {n':Nat},RN W v' n'→RN (storeAll W (w.heap.size+1+1) 0 [.bool (ah n),.slice u00 (aa n) u01,.slice u02 (ag dn) u03]) v' n':=fun h'=>aX _ h' K3.out (by simp[bW]) (by simp[bE]);exact⟨rfl,u09,u0a,u0b,u0c,u00,u01,u02,u03,(HI.out.finx ⟨HI.out.sx HA.out 0,HI.out.sx HA.out 1,x2,x3,trivial⟩ rfl),(ax (l:=[.bool (ah n),.slice u00 (aa n) u01,.slice u02 (ag dn) u03]) (i:=0) (by omega) HBX.out),(bL (l:=[.bool (ah n),.slice u00 (aa n) u01,.slice u02 (ag dn) u03]) (i:=0) K3.out),(s0 RQ.out),(s0 TQ.out)⟩
 rintro a' W1 ⟨u09,u0a,u0b,u0c,u00,u01,u02,u03,rfl,z0,z1,z2,z3⟩;obtain ⟨HB1,K3,RQ,TQ⟩:=aH z0 z1 z2 z3;clear z0 z1 z2 z3;simp only[putL,List.setIfInBounds_toArray,List.set_cons_zero,List.set_cons_succ];go_wp2;obtain ⟨dK30,dK31,dK32⟩:=aJ K3.out rfl rfl rfl;exact bodyPost_ret (v:=.agg #[.bool (ah n),.slice u00 (aa n) u01,.slice u02 (ag dn) u03]) (by simp[results,results54,go_sem,dK30,dK31,dK32]) rfl ⟨_,_,_,_,rfl,RQ.out,TQ.out,HB1.out⟩
theorem z1J (n1 n2 m n:Int)(en1 en2 f dn:Nat)(p1:Option Addr)(c1:Nat)(s1:Option Addr)(d1:Nat)(p2:Option Addr)(c2:Nat)(s2:Option Addr)(d2:Nat)(w:World)(h1:∀ p1 c1 s1 d1 W,RN W (.slice p1 (aa n2) c1) n2.natAbs→RN W (.slice s1 (ag en2) d1) en2→CF 97 #[.agg #[.bool (ah n2),.slice p1 (aa n2) c1,.slice s1 (ag en2) d1]] W m f)(h2:∀ p1 c1 s1 d1 p2 c2 s2 d2 W,RN W (.slice p1 (aa n1) c1) n1.natAbs→RN W (.slice s1 (ag en1) d1) en1→RN W (.slice p2 (aa m) c2) m.natAbs→RN W (.slice s2 (ag f) d2) f→CF 61 #[.agg #[.bool (ah n1),.slice p1 (aa n1) c1,.slice s1 (ag en1) d1],.agg #[.bool (ah m),.slice p2 (aa m) c2,.slice s2 (ag f) d2]] W n dn)(r1:RN w (.slice p1 (aa n1) c1) n1.natAbs)(t1:RN w (.slice s1 (ag en1) d1) en1)(r2:RN w (.slice p2 (aa n2) c2) n2.natAbs)(t2:RN w (.slice s2 (ag en2) d2) en2) :
 CF 80 #[.agg #[.bool (ah n1),.slice p1 (aa n1) c1,.slice s1 (ag en1) d1],.agg #[.bool (ah n2),.slice p2 (aa n2) c2,.slice s2 (ag en2) d2]] w n dn:=by
 obtain ⟨C1,C2,R1,T1,R2,T2⟩:=bT h1 h2 r1 t1 r2 t2;clear h1 h2 r1 t1 r2 t2;go_enter func80,ntmps80
 go_upto_region 1 with fail
 refine au w [(#[.bool (ah n1),.slice p1 (aa n1) c1,.slice s1 (ag en1) d1],53),(#[.bool (ah n2),.slice p2 (aa n2) c2,.slice s2 (ag en2) d2],53),(#[.bool false,.slice none 0 0,.slice none 0 0],53)] rfl ?_;rintro W0 ⟨k1,k2,k3,hb⟩;have HB0:=hid (show Below w.heap.size w W0 from hb);obtain ⟨R1,T1,R2,T2,K1,K2,K3⟩:=bP (R1.out.below HB0.out) (T1.out.below HB0.out) (R2.out.below HB0.out) (T2.out.below HB0.out) k1 k2 k3;clear k1 k2 k3 hb;go_wp2_with fail
 refine aC (fun a0 a' V=>∃ u09 u0a u0b u0c u00 u01 u02 u03,a'=⟨putL [(5,.agg #[.bool (ah n1),.slice p1 (aa n1) c1,.slice s1 (ag en1) d1]),(6,.agg #[.bool (ah n2),.slice p2 (aa n2) c2,.slice s2 (ag en2) d2]),(7,.agg #[.bool (ah m),.slice u09 (aa m) u0a,.slice u0b (ag f) u0c]),(8,.agg #[.bool (ah n),.slice u00 (aa n) u01,.slice u02 (ag dn) u03])] a0.tmps,a0.defers⟩∧Below w.heap.size w V∧SBk V (w.heap.size+1+1) #[.bool (ah n),.slice u00 (aa n) u01,.slice u02 (ag dn) u03] 53∧RN V (.slice u00 (aa n) u01) (n).natAbs∧RN V (.slice u02 (ag dn) u03) (dn)) ?_ ?_
 · refine az (by kernel_rfl) 4 1 (fun i=>[5,6,7,8].getD i 0) (RelR [Rel.val (.agg #[.bool (ah n1),.slice p1 (aa n1) c1,.slice s1 (ag en1) d1]),Rel.val (.agg #[.bool (ah n2),.slice p2 (aa n2) c2,.slice s2 (ag en2) d2]),⟨fun v W=>∃ p c s d,v=.agg #[.bool (ah m),.slice p (aa m) c,.slice s (ag f) d]∧RN W (.slice p (aa m) c) (m).natAbs∧RN W (.slice s (ag f) d) (f),fun _ _ _ ⟨p,c,s,d,e,h0,h1⟩ hb=>⟨p,c,s,d,e,h0.below hb,h1.below hb⟩⟩,⟨fun v W=>∃ p c s d,v=.agg #[.bool (ah n),.slice p (aa n) c,.slice s (ag dn) d]∧RN W (.slice p (aa n) c) (n).natAbs∧RN W (.slice s (ag dn) d) (dn),fun _ _ _ ⟨p,c,s,d,e,h0,h1⟩ hb=>⟨p,c,s,d,e,h0.below hb,h1.below hb⟩⟩]) (fun W=>Below W0.heap.size W0 W) (fun _ _=>True) (by kernel_rfl) (by kernel_rfl) (by kernel_rfl) trivial (Below.refl _ _).drew ?_ ?_
   · intro listed a W i hI hD hrd him
     obtain ⟨HI,HD,Hr⟩:=ai hI hD hrd;clear hI hrd hD;have y2:a.tmps[2]? = some (.pointer (some ⟨w.heap.size,0,none⟩)):=HI.out.rest 2 (by decide);have y3:a.tmps[3]? = some (.pointer (some ⟨w.heap.size+1,0,none⟩)):=HI.out.rest 3 (by decide);obtain ⟨dK10,dK11,dK12⟩:=aJ (K1.out.below HI.out.world) rfl rfl rfl;obtain ⟨dK20,dK21,dK22⟩:=aJ (K2.out.below HI.out.world) rfl rfl rfl;have X1:RV _ listed a 1 6 (.agg #[.bool (ah n2),.slice p2 (aa n2) c2,.slice s2 (ag en2) d2]):=HI.out.rh;have X0:RV _ listed a 0 5 (.agg #[.bool (ah n1),.slice p1 (aa n1) c1,.slice s1 (ag en1) d1]):=HI.out.rh
     match i,him,Hr with
     | 0,_,Hi =>
       refine ak rfl fun K' hK=>?_;go_simp;exact hK.out _ _ ⟨HI.out.pv Hi.out rfl,trivial⟩
     | 1,_,Hi =>
       refine ak rfl fun K' hK=>?_;go_simp;exact hK.out _ _ ⟨HI.out.pv Hi.out rfl,trivial⟩
     | 2,_,Hi =>
       have x1:=X1.g Hi.out (by kernel_rfl);refine ak rfl fun K' hK=>?_;go_simp;with_reducible refine(C1.out _ _ _ _ _ (R2.out.below HI.out.world) (T2.out.below HI.out.world)).mono ?_
       rintro e W' ⟨u09,u0a,u0b,u0c,rfl,u0d,u0e,hb⟩;exact hK.out _ _ ⟨HI.out.pc Hi.out hb ⟨u09,u0a,u0b,u0c,rfl,u0d,u0e⟩,trivial⟩
     | 3,_,Hi =>
       have x0:=X0.g Hi.out (by kernel_rfl);obtain⟨v',x2,u09,u0a,u0b,u0c,e,u0d,u0e⟩:=HI.out.at (i:=2) Hi.out (by kernel_rfl) (by decide);obtain rfl:=e;have x2:a.tmps[7]? = some (.agg #[.bool (ah m),.slice u09 (aa m) u0a,.slice u0b (ag f) u0c]):=x2;have u0k:=hid u0d;clear u0d;have u0l:=hid u0e;clear u0e;refine ak rfl fun K' hK=>?_;go_simp;with_reducible refine(C2.out _ _ _ _ _ _ _ _ _ (R1.out.below HI.out.world) (T1.out.below HI.out.world) u0k.out u0l.out).mono ?_
       rintro e W' ⟨u00,u01,u02,u03,rfl,u0h,u0i,hb⟩;exact hK.out _ _ ⟨HI.out.pc Hi.out hb ⟨u00,u01,u02,u03,rfl,u0h,u0i⟩,trivial⟩
     | n+4,h,_=>exact absurd h (by omega)
   · intro listed a W hI hD hall
     obtain⟨v',x2,u09,u0a,u0b,u0c,e,u0d,u0e⟩:=hI.slots 2 (by decide) (hall 2 (by decide));obtain rfl:=e;have u0k:=hid u0d;clear u0d;have u0l:=hid u0e;clear u0e;obtain⟨v',x3,u00,u01,u02,u03,e,u0h,u0i⟩:=hI.slots 3 (by decide) (hall 3 (by decide));obtain rfl:=e;have u0G:=hid u0h;clear u0h;have u0H:=hid u0i;clear u0i;have x3:a.tmps[8]? = some (.agg #[.bool (ah n),.slice u00 (aa n) u01,.slice u02 (ag dn) u03]):=x3;obtain ⟨HBW,HI,HA⟩:=ai hI.world hI hall;clear hI hall;obtain ⟨K3,HBX⟩:=aF (K3.out.below HBW.out) (HB0.out.trans (HBW.out.mono HB0.out.size));have RM:=u0k;have TM:=u0l;have RQ:=u0G;have TQ:=u0H;have y4:a.tmps[4]? = some (.pointer (some ⟨w.heap.size+1+1,0,none⟩)):=HI.out.rest 4 (by decide);obtain ⟨dK30,dK31,dK32⟩:=aJ K3.out rfl rfl rfl;obtain ⟨fK30,fK31,fK32⟩:=bz K3.out;refine aS (t:=0) ?_;refine ak rfl fun K' hK=>?_;go_simp;refine hK.out _ _ ?_;clear hK;refine aY ?_;have s0:∀ {v':Value} {n':Nat},RN W v' n'→RN (storeAll W (w.heap.size+1+1) 0 [.bool (ah n),.slice u00 (aa n) u01,.slice u02 (ag dn) u03]) v' n':=fun h'=>aX _ h' K3.out (by simp[bW]) (by simp[bE]);exact⟨rfl,u09,u0a,u0b,u0c,u00,u01,u02,u03,(HI.out.finx ⟨HI.out.sx HA.out 0,HI.out.sx HA.out 1,x2,x3,trivial⟩ rfl),(ax (l:=[.bool (ah n),.slice u00 (aa n) u01,.slice u02 (ag dn) u03]) (i:=0) (by omega) HBX.out),(bL (l:=[.bool (ah n),.slice u00 (aa n) u01,.slice u02 (ag dn) u03]) (i:=0) K3.out),(s0 RQ.out),(s0 TQ.out)⟩
 rintro a' W1 ⟨u09,u0a,u0b,u0c,u00,u01,u02,u03,rfl,z0,z1,z2,z3⟩;obtain ⟨HB1,K3,RQ,TQ⟩:=aH z0 z1 z2 z3;clear z0 z1 z2 z3;simp only[putL,List.setIfInBounds_toArray,List.set_cons_zero,List.set_cons_succ];go_wp2;obtain ⟨dK30,dK31,dK32⟩:=aJ K3.out rfl rfl rfl;exact bodyPost_ret (v:=.agg #[.bool (ah n),.slice u00 (aa n) u01,.slice u02 (ag dn) u03]) (by simp[results,results80,go_sem,dK30,dK31,dK32]) rfl ⟨_,_,_,_,rfl,RQ.out,TQ.out,HB1.out⟩
end Go.Proofs.YtlgkolkcokaefaaGreatDoor
