/- texts -/
import Derived.Test.YtodcdibanokjjaaGreatDoorMz39q
open Go.Proofs.Tryz
set_option maxRecDepth 100000
set_option maxHeartbeats 20000000
open Go.Lib (hid)
namespace Go.Proofs.YtodcdibanokjjaaGreatDoor
open Go.RowKit Go.Gb
theorem z2i (a0 x0 y0:ByteArray)(z:Int)(n:Nat)  (w:World)(h1:CQ 80 #[.string a0] (.tuple #[.string x0,.string y0,.bool false]))(h2:CQ 81 #[.string x0] (.bool true))(h3:CQ 82 #[.string y0] (.bool true))(h4:∀ W,CZ 83 #[.string x0] W z)(h5:∀ W,CN 84 #[.string y0] W n)  :
 Calls Tryz.prog 54 #[.string a0] w fun e w'=>∃ p c s d,e=.returned (.tuple #[.agg #[.bool (ah z),.slice p (aa z) c,.slice s (ag n) d],.bool true])∧RN w' (.slice p (aa z) c) z.natAbs∧RN w' (.slice s (ag n) d) n∧Below w.heap.size w w':=by
 obtain ⟨C1,C2,C3,C4,C5⟩:=aQ h1 h2 h3 h4 h5;clear h1 h2 h3 h4 h5;go_enter func54,ntmps54
 go_upto_region 1 with fail
 refine ay w [(#[.bool false,.slice none 0 0,.slice none 0 0],48)] rfl ?_;rintro W0 ⟨k1,hb⟩;have HB0:=hid (show Below w.heap.size w W0 from hb);have K1:=hid k1;clear k1 hb;go_wp2_with fail
 with_reducible refine(C1.out _).mono ?_
 rintro e W1 ⟨rfl,hb⟩;have K1:=hid (K1.out.below hb);have HB1:=hbt HB0 hb;clear hb;go_wp2_with fail
 with_reducible refine(C2.out _).mono ?_
 rintro e W2 ⟨rfl,hb⟩;have K1:=hid (K1.out.below hb);have HB2:=hbt HB1 hb;clear hb;go_wp2_with fail
 with_reducible refine(C3.out _).mono ?_
 rintro e W3 ⟨rfl,hb⟩;have K1:=hid (K1.out.below hb);have HB3:=hbt HB2 hb;clear hb;go_wp2_with fail
 with_reducible refine(C4.out _).mono ?_
 rintro e W4 ⟨p_4,c_4,rfl,u02,hb⟩;have K1:=hid (K1.out.below hb);have HB4:=hbt HB3 hb;have RZ:=hid u02;clear hb u02;go_wp2_with fail
 with_reducible refine(C5.out _).mono ?_
 rintro e W5 ⟨p_5,c_5,rfl,u05,hb⟩;have K1:=hid (K1.out.below hb);have RZ:=hid (RZ.out.below hb);have HB5:=hbt HB4 hb;have RM:=hid u05;clear hb u05;go_upto_region 5 with fail
 refine ay W5 [(#[.bool (ah z),.slice p_4 (aa z) c_4,.slice p_5 (ag n) c_5],48)] rfl ?_;have L1:=K1.out.lt;have L2:=HB5.out.size;rintro W6 ⟨k2,hb⟩;have hb:Below W5.heap.size W5 W6:=hb;obtain ⟨K1,RZ,RM⟩:=ai (K1.out.below hb) (RZ.out.below hb) (RM.out.below hb);have HB6:=hbt HB5 hb;have K2:=hid k2;clear k2 hb;obtain ⟨dK20,dK21,dK22⟩:=aA K2.out rfl rfl rfl;obtain ⟨dK10,dK11,dK12⟩:=aA K1.out rfl rfl rfl;obtain ⟨fK10,fK11,fK12⟩:=aZ K1.out;go_wp2;exact bodyPost_ret (v:=.tuple #[.agg #[.bool (ah z),.slice p_4 (aa z) c_4,.slice p_5 (ag n) c_5],.bool true]) (by simp[results,results54,go_sem,dK10,dK11,dK12]) rfl ⟨_,_,_,_,rfl,(bz [.bool (ah z),.slice p_4 (aa z) c_4,.slice p_5 (ag n) c_5] RZ.out K1.out (by simp[bO]) (by simp[bA])),(bz [.bool (ah z),.slice p_4 (aa z) c_4,.slice p_5 (ag n) c_5] RM.out K1.out (by simp[bO]) (by simp[bA])),(av (l:=[.bool (ah z),.slice p_4 (aa z) c_4,.slice p_5 (ag n) c_5]) (i:=0) (by omega) HB6.out)⟩
theorem si (a0 x0 y0:ByteArray)(zz:Int)(dz:Nat)(sl:Bool)  (w:World)(h1:CQ 80 #[.string a0] (.tuple #[.string x0,.string y0,.bool sl]))(h2:CQ 81 #[.string x0] (.bool false))(h11:∀ W,CF 35 #[.int .i64 0] W zz dz)  :
 Calls Tryz.prog 54 #[.string a0] w fun e w'=>∃ p c s d,e=.returned (.tuple #[.agg #[.bool (ah zz),.slice p (aa zz) c,.slice s (ag dz) d],.bool false])∧RN w' (.slice p (aa zz) c) zz.natAbs∧RN w' (.slice s (ag dz) d) dz∧Below w.heap.size w w':=by
 obtain ⟨C1,C2,C11⟩:=ai h1 h2 h11;clear h1 h2 h11;go_enter func54,ntmps54
 go_upto_region 1 with fail
 refine ay w [(#[.bool false,.slice none 0 0,.slice none 0 0],48)] rfl ?_;rintro W0 ⟨k1,hb⟩;have HB0:=hid (show Below w.heap.size w W0 from hb);have K1:=hid k1;clear k1 hb;go_wp2_with fail
 with_reducible refine(C1.out _).mono ?_
 rintro e W1 ⟨rfl,hb⟩;have K1:=hid (K1.out.below hb);have HB1:=hbt HB0 hb;clear hb;go_wp2_with fail
 with_reducible refine(C2.out _).mono ?_
 rintro e W2 ⟨rfl,hb⟩;have K1:=hid (K1.out.below hb);have HB2:=hbt HB1 hb;clear hb;go_wp2_with fail
 with_reducible refine(C11.out _).mono ?_
 rintro e W3 ⟨p_3,c_3,s_3,d_3,rfl,u0W,u0X,hb⟩;have K1:=hid (K1.out.below hb);have HB3:=hbt HB2 hb;have RQ:=hid u0W;have TQ:=hid u0X;clear hb u0W u0X;obtain ⟨dK10,dK11,dK12⟩:=aA K1.out rfl rfl rfl;obtain ⟨fK10,fK11,fK12⟩:=aZ K1.out;go_wp2;exact bodyPost_ret (v:=.tuple #[.agg #[.bool (ah zz),.slice p_3 (aa zz) c_3,.slice s_3 (ag dz) d_3],.bool false]) (by simp[results,results54,go_sem,dK10,dK11,dK12]) rfl ⟨_,_,_,_,rfl,(bz [.bool (ah zz),.slice p_3 (aa zz) c_3,.slice s_3 (ag dz) d_3] RQ.out K1.out (by simp[bO]) (by simp[bA])),(bz [.bool (ah zz),.slice p_3 (aa zz) c_3,.slice s_3 (ag dz) d_3] TQ.out K1.out (by simp[bO]) (by simp[bA])),(av (l:=[.bool (ah zz),.slice p_3 (aa zz) c_3,.slice s_3 (ag dz) d_3]) (i:=0) (by omega) HB3.out)⟩
theorem z0h (a0 x0 y0:ByteArray)(zz:Int)(dz:Nat)(sl:Bool)  (w:World)(h1:CQ 80 #[.string a0] (.tuple #[.string x0,.string y0,.bool sl]))(h2:CQ 81 #[.string x0] (.bool true))(h3:CQ 82 #[.string y0] (.bool false))(h11:∀ W,CF 35 #[.int .i64 0] W zz dz)  :
 Calls Tryz.prog 54 #[.string a0] w fun e w'=>∃ p c s d,e=.returned (.tuple #[.agg #[.bool (ah zz),.slice p (aa zz) c,.slice s (ag dz) d],.bool false])∧RN w' (.slice p (aa zz) c) zz.natAbs∧RN w' (.slice s (ag dz) d) dz∧Below w.heap.size w w':=by
 obtain ⟨C1,C2,C3,C11⟩:=aG h1 h2 h3 h11;clear h1 h2 h3 h11;go_enter func54,ntmps54
 go_upto_region 1 with fail
 refine ay w [(#[.bool false,.slice none 0 0,.slice none 0 0],48)] rfl ?_;rintro W0 ⟨k1,hb⟩;have HB0:=hid (show Below w.heap.size w W0 from hb);have K1:=hid k1;clear k1 hb;go_wp2_with fail
 with_reducible refine(C1.out _).mono ?_
 rintro e W1 ⟨rfl,hb⟩;have K1:=hid (K1.out.below hb);have HB1:=hbt HB0 hb;clear hb;go_wp2_with fail
 with_reducible refine(C2.out _).mono ?_
 rintro e W2 ⟨rfl,hb⟩;have K1:=hid (K1.out.below hb);have HB2:=hbt HB1 hb;clear hb;go_wp2_with fail
 with_reducible refine(C3.out _).mono ?_
 rintro e W3 ⟨rfl,hb⟩;have K1:=hid (K1.out.below hb);have HB3:=hbt HB2 hb;clear hb;go_wp2_with fail
 with_reducible refine(C11.out _).mono ?_
 rintro e W4 ⟨p_4,c_4,s_4,d_4,rfl,u02,u0Y,hb⟩;have K1:=hid (K1.out.below hb);have HB4:=hbt HB3 hb;have RQ:=hid u02;have TQ:=hid u0Y;clear hb u02 u0Y;obtain ⟨dK10,dK11,dK12⟩:=aA K1.out rfl rfl rfl;obtain ⟨fK10,fK11,fK12⟩:=aZ K1.out;go_wp2;exact bodyPost_ret (v:=.tuple #[.agg #[.bool (ah zz),.slice p_4 (aa zz) c_4,.slice s_4 (ag dz) d_4],.bool false]) (by simp[results,results54,go_sem,dK10,dK11,dK12]) rfl ⟨_,_,_,_,rfl,(bz [.bool (ah zz),.slice p_4 (aa zz) c_4,.slice s_4 (ag dz) d_4] RQ.out K1.out (by simp[bO]) (by simp[bA])),(bz [.bool (ah zz),.slice p_4 (aa zz) c_4,.slice s_4 (ag dz) d_4] TQ.out K1.out (by simp[bO]) (by simp[bA])),(av (l:=[.bool (ah zz),.slice p_4 (aa zz) c_4,.slice s_4 (ag dz) d_4]) (i:=0) (by omega) HB4.out)⟩
theorem z0g (a0 x0 y0:ByteArray)(z k sg:Int)(n one g:Nat)(hk:0<k)(hsg:sg≠0)  (w:World)(h1:CQ 80 #[.string a0] (.tuple #[.string x0,.string y0,.bool true]))(h2:CQ 81 #[.string x0] (.bool true))(h3:CQ 82 #[.string y0] (.bool true))(h4:∀ W,CZ 83 #[.string x0] W z)(h5:∀ W,CN 84 #[.string y0] W n)(h6:∀ W,CN 61 #[.int .u32 1] W one)(h7:∀ s1 d1 s2 d2 W,RN W (.slice s1 (ag n) d1) n→RN W (.slice s2 (ag one) d2) one→CR 67 #[.slice s1 (ag n) d1,.slice s2 (ag one) d2] W (.int .i64 k))(h8:∀ p1 c1 W,RN W (.slice p1 (aa z) c1) z.natAbs→CR 65 #[.agg #[.bool (ah z),.slice p1 (aa z) c1]] W (.int .i64 sg))(h9:∀ p1 c1 s2 d2 W,RN W (.slice p1 (aa z) c1) z.natAbs→RN W (.slice s2 (ag n) d2) n→CN 85 #[.slice p1 (aa z) c1,.slice s2 (ag n) d2] W g)(h10:∀ s1 d1 s2 d2 W,RN W (.slice s1 (ag g) d1) g→RN W (.slice s2 (ag one) d2) one→CR 67 #[.slice s1 (ag g) d1,.slice s2 (ag one) d2] W (.int .i64 0))  :
 Calls Tryz.prog 54 #[.string a0] w fun e w'=>∃ p c s d,e=.returned (.tuple #[.agg #[.bool (ah z),.slice p (aa z) c,.slice s (ag n) d],.bool true])∧RN w' (.slice p (aa z) c) z.natAbs∧RN w' (.slice s (ag n) d) n∧Below w.heap.size w w':=by
 obtain ⟨C1,C2,C3,C4,C5,C6,C7,C8,C9,C10⟩:=gD h1 h2 h3 h4 h5 h6 h7 h8 h9 h10;have k0:decide (0<k)=true:=decide_eq_true hk;have k1:0<k:=hk;clear hk;have s0:(sg==0)=false:=by rw[beq_eq_false_iff_ne];exact hsg
 have s1:¬ sg=0:=hsg;have s2:(sg != 0)=true:=by unfold bne;rw[s0];rfl
 have s3:decide (sg=0)=false:=decide_eq_false hsg;clear hsg h1 h2 h3 h4 h5 h6 h7 h8 h9 h10;go_enter func54,ntmps54
 go_upto_region 1 with fail
 refine ay w [(#[.bool false,.slice none 0 0,.slice none 0 0],48)] rfl ?_;rintro W0 ⟨k1,hb⟩;have HB0:=hid (show Below w.heap.size w W0 from hb);have K1:=hid k1;clear k1 hb;go_wp2_with fail
 with_reducible refine(C1.out _).mono ?_
 rintro e W1 ⟨rfl,hb⟩;have K1:=hid (K1.out.below hb);have HB1:=hbt HB0 hb;clear hb;go_wp2_with fail
 with_reducible refine(C2.out _).mono ?_
 rintro e W2 ⟨rfl,hb⟩;have K1:=hid (K1.out.below hb);have HB2:=hbt HB1 hb;clear hb;go_wp2_with fail
 with_reducible refine(C3.out _).mono ?_
 rintro e W3 ⟨rfl,hb⟩;have K1:=hid (K1.out.below hb);have HB3:=hbt HB2 hb;clear hb;go_wp2_with fail
 with_reducible refine(C4.out _).mono ?_
 rintro e W4 ⟨p_4,c_4,rfl,u02,hb⟩;have K1:=hid (K1.out.below hb);have HB4:=hbt HB3 hb;have RZ:=hid u02;clear hb u02;go_wp2_with fail
 with_reducible refine(C5.out _).mono ?_
 rintro e W5 ⟨p_5,c_5,rfl,u05,hb⟩;have K1:=hid (K1.out.below hb);have RZ:=hid (RZ.out.below hb);have HB5:=hbt HB4 hb;have RM:=hid u05;clear hb u05;go_upto_region 5 with fail
 refine ay W5 [(#[.bool (ah z),.slice p_4 (aa z) c_4,.slice p_5 (ag n) c_5],48)] rfl ?_;have L1:=K1.out.lt;have L2:=HB5.out.size;rintro W6 ⟨k2,hb⟩;have hb:Below W5.heap.size W5 W6:=hb;obtain ⟨K1,RZ,RM⟩:=ai (K1.out.below hb) (RZ.out.below hb) (RM.out.below hb);have HB6:=hbt HB5 hb;have K2:=hid k2;clear k2 hb;go_wp2_with fail
 with_reducible refine(C6.out _).mono ?_
 rintro e W7 ⟨p_6,c_6,rfl,u0a,hb⟩;obtain ⟨K1,K2,RZ,RM⟩:=aG (K1.out.below hb) (K2.out.below hb) (RZ.out.below hb) (RM.out.below hb);have HB7:=hbt HB6 hb;have RO:=hid u0a;clear hb u0a;have dK22:=K2.out.cell (i:=2) rfl;go_wp2_with fail
 with_reducible refine(C7.out _ _ _ _ _ RM.out RO.out).mono ?_
 rintro e W8 ⟨rfl,hb⟩;clear dK22;obtain ⟨K1,K2,RZ,RM,RO⟩:=aQ (K1.out.below hb) (K2.out.below hb) (RZ.out.below hb) (RM.out.below hb) (RO.out.below hb);have HB8:=hbt HB7 hb;clear hb;obtain ⟨dK20,dK21⟩:=aI K2.out rfl rfl;go_wp2_with fail
 with_reducible refine(C8.out _ _ _ RZ.out).mono ?_
 rintro e W9 ⟨rfl,hb⟩;clear dK20 dK21;obtain ⟨K1,K2,RZ,RM,RO⟩:=aQ (K1.out.below hb) (K2.out.below hb) (RZ.out.below hb) (RM.out.below hb) (RO.out.below hb);have HB9:=hbt HB8 hb;clear hb;have dK21:=K2.out.cell (i:=1) rfl;have dK22:=K2.out.cell (i:=2) rfl;go_wp2_with fail
 with_reducible refine(C9.out _ _ _ _ _ RZ.out RM.out).mono ?_
 rintro e W10 ⟨p_9,c_9,rfl,u0l,hb⟩;clear dK21 dK22;obtain ⟨K1,K2,RZ,RM,RO⟩:=aQ (K1.out.below hb) (K2.out.below hb) (RZ.out.below hb) (RM.out.below hb) (RO.out.below hb);have HB10:=hbt HB9 hb;have RG:=hid u0l;clear hb u0l;go_wp2_with fail
 with_reducible refine(C10.out _ _ _ _ _ RG.out RO.out).mono ?_
 rintro e W11 ⟨rfl,hb⟩;obtain ⟨K1,K2,RZ,RM⟩:=aG (K1.out.below hb) (K2.out.below hb) (RZ.out.below hb) (RM.out.below hb);have HB11:=hbt HB10 hb;clear hb;obtain ⟨dK20,dK21,dK22⟩:=aA K2.out rfl rfl rfl;obtain ⟨dK10,dK11,dK12⟩:=aA K1.out rfl rfl rfl;obtain ⟨fK10,fK11,fK12⟩:=aZ K1.out;go_wp2;exact bodyPost_ret (v:=.tuple #[.agg #[.bool (ah z),.slice p_4 (aa z) c_4,.slice p_5 (ag n) c_5],.bool true]) (by simp[results,results54,go_sem,dK10,dK11,dK12]) rfl ⟨_,_,_,_,rfl,(bz [.bool (ah z),.slice p_4 (aa z) c_4,.slice p_5 (ag n) c_5] RZ.out K1.out (by simp[bO]) (by simp[bA])),(bz [.bool (ah z),.slice p_4 (aa z) c_4,.slice p_5 (ag n) c_5] RM.out K1.out (by simp[bO]) (by simp[bA])),(av (l:=[.bool (ah z),.slice p_4 (aa z) c_4,.slice p_5 (ag n) c_5]) (i:=0) (by omega) HB11.out)⟩
theorem xU (a0 x0 y0:ByteArray)(z k zz:Int)(n one dz:Nat)(hk:k≤0)  (w:World)(h1:CQ 80 #[.string a0] (.tuple #[.string x0,.string y0,.bool true]))(h2:CQ 81 #[.string x0] (.bool true))(h3:CQ 82 #[.string y0] (.bool true))(h4:∀ W,CZ 83 #[.string x0] W z)(h5:∀ W,CN 84 #[.string y0] W n)(h6:∀ W,CN 61 #[.int .u32 1] W one)(h7:∀ s1 d1 s2 d2 W,RN W (.slice s1 (ag n) d1) n→RN W (.slice s2 (ag one) d2) one→CR 67 #[.slice s1 (ag n) d1,.slice s2 (ag one) d2] W (.int .i64 k))(h11:∀ W,CF 35 #[.int .i64 0] W zz dz)  :
 Calls Tryz.prog 54 #[.string a0] w fun e w'=>∃ p c s d,e=.returned (.tuple #[.agg #[.bool (ah zz),.slice p (aa zz) c,.slice s (ag dz) d],.bool false])∧RN w' (.slice p (aa zz) c) zz.natAbs∧RN w' (.slice s (ag dz) d) dz∧Below w.heap.size w w':=by
 obtain ⟨C1,C2,C3,C4,C5,C6,C7,C11⟩:=fH h1 h2 h3 h4 h5 h6 h7 h11;have k0:decide (0<k)=false:=decide_eq_false (by omega);have k1:k≤0:=hk;clear hk h1 h2 h3 h4 h5 h6 h7 h11;go_enter func54,ntmps54
 go_upto_region 1 with fail
 refine ay w [(#[.bool false,.slice none 0 0,.slice none 0 0],48)] rfl ?_;rintro W0 ⟨k1,hb⟩;have HB0:=hid (show Below w.heap.size w W0 from hb);have K1:=hid k1;clear k1 hb;go_wp2_with fail
 with_reducible refine(C1.out _).mono ?_
 rintro e W1 ⟨rfl,hb⟩;have K1:=hid (K1.out.below hb);have HB1:=hbt HB0 hb;clear hb;go_wp2_with fail
 with_reducible refine(C2.out _).mono ?_
 rintro e W2 ⟨rfl,hb⟩;have K1:=hid (K1.out.below hb);have HB2:=hbt HB1 hb;clear hb;go_wp2_with fail
 with_reducible refine(C3.out _).mono ?_
 rintro e W3 ⟨rfl,hb⟩;have K1:=hid (K1.out.below hb);have HB3:=hbt HB2 hb;clear hb;go_wp2_with fail
 with_reducible refine(C4.out _).mono ?_
 rintro e W4 ⟨p_4,c_4,rfl,u02,hb⟩;have K1:=hid (K1.out.below hb);have HB4:=hbt HB3 hb;have RZ:=hid u02;clear hb u02;go_wp2_with fail
 with_reducible refine(C5.out _).mono ?_
 rintro e W5 ⟨p_5,c_5,rfl,u05,hb⟩;have K1:=hid (K1.out.below hb);have HB5:=hbt HB4 hb;have RM:=hid u05;clear hb u05;go_upto_region 5 with fail
 refine ay W5 [(#[.bool (ah z),.slice p_4 (aa z) c_4,.slice p_5 (ag n) c_5],48)] rfl ?_;have L1:=K1.out.lt;have L2:=HB5.out.size;rintro W6 ⟨k2,hb⟩;have hb:Below W5.heap.size W5 W6:=hb;have K1:=hid (K1.out.below hb);have RM:=hid (RM.out.below hb);have HB6:=hbt HB5 hb;have K2:=hid k2;clear k2 hb;go_wp2_with fail
 with_reducible refine(C6.out _).mono ?_
 rintro e W7 ⟨p_6,c_6,rfl,u0a,hb⟩;obtain ⟨K1,K2,RM⟩:=ai (K1.out.below hb) (K2.out.below hb) (RM.out.below hb);have HB7:=hbt HB6 hb;have RO:=hid u0a;clear hb u0a;have dK22:=K2.out.cell (i:=2) rfl;go_wp2_with fail
 with_reducible refine(C7.out _ _ _ _ _ RM.out RO.out).mono ?_
 rintro e W8 ⟨rfl,hb⟩;clear dK22;have K1:=hid (K1.out.below hb);have K2:=hid (K2.out.below hb);have HB8:=hbt HB7 hb;clear hb;obtain ⟨dK20,dK21,dK22⟩:=aA K2.out rfl rfl rfl;go_wp2_with fail
 with_reducible refine(C11.out _).mono ?_
 rintro e W9 ⟨p_8,c_8,s_8,d_8,rfl,u0Z,u10,hb⟩;clear dK20 dK21 dK22;have K1:=hid (K1.out.below hb);have HB9:=hbt HB8 hb;have RQ:=hid u0Z;have TQ:=hid u10;clear hb u0Z u10;obtain ⟨dK10,dK11,dK12⟩:=aA K1.out rfl rfl rfl;obtain ⟨fK10,fK11,fK12⟩:=aZ K1.out;go_wp2;exact bodyPost_ret (v:=.tuple #[.agg #[.bool (ah zz),.slice p_8 (aa zz) c_8,.slice s_8 (ag dz) d_8],.bool false]) (by simp[results,results54,go_sem,dK10,dK11,dK12]) rfl ⟨_,_,_,_,rfl,(bz [.bool (ah zz),.slice p_8 (aa zz) c_8,.slice s_8 (ag dz) d_8] RQ.out K1.out (by simp[bO]) (by simp[bA])),(bz [.bool (ah zz),.slice p_8 (aa zz) c_8,.slice s_8 (ag dz) d_8] TQ.out K1.out (by simp[bO]) (by simp[bA])),(av (l:=[.bool (ah zz),.slice p_8 (aa zz) c_8,.slice s_8 (ag dz) d_8]) (i:=0) (by omega) HB9.out)⟩
theorem z0f (a0 x0 y0:ByteArray)(z k zz:Int)(n one dz:Nat)(hk:0<k)  (w:World)(h1:CQ 80 #[.string a0] (.tuple #[.string x0,.string y0,.bool true]))(h2:CQ 81 #[.string x0] (.bool true))(h3:CQ 82 #[.string y0] (.bool true))(h4:∀ W,CZ 83 #[.string x0] W z)(h5:∀ W,CN 84 #[.string y0] W n)(h6:∀ W,CN 61 #[.int .u32 1] W one)(h7:∀ s1 d1 s2 d2 W,RN W (.slice s1 (ag n) d1) n→RN W (.slice s2 (ag one) d2) one→CR 67 #[.slice s1 (ag n) d1,.slice s2 (ag one) d2] W (.int .i64 k))(h8:∀ p1 c1 W,RN W (.slice p1 (aa z) c1) z.natAbs→CR 65 #[.agg #[.bool (ah z),.slice p1 (aa z) c1]] W (.int .i64 0))(h11:∀ W,CF 35 #[.int .i64 0] W zz dz)  :
 Calls Tryz.prog 54 #[.string a0] w fun e w'=>∃ p c s d,e=.returned (.tuple #[.agg #[.bool (ah zz),.slice p (aa zz) c,.slice s (ag dz) d],.bool false])∧RN w' (.slice p (aa zz) c) zz.natAbs∧RN w' (.slice s (ag dz) d) dz∧Below w.heap.size w w':=by
 obtain ⟨C1,C2,C3,C4,C5,C6,C7,C8,C11⟩:=jA h1 h2 h3 h4 h5 h6 h7 h8 h11;have k0:decide (0<k)=true:=decide_eq_true hk;have k1:0<k:=hk;clear hk h1 h2 h3 h4 h5 h6 h7 h8 h11;go_enter func54,ntmps54
 go_upto_region 1 with fail
 refine ay w [(#[.bool false,.slice none 0 0,.slice none 0 0],48)] rfl ?_;rintro W0 ⟨k1,hb⟩;have HB0:=hid (show Below w.heap.size w W0 from hb);have K1:=hid k1;clear k1 hb;go_wp2_with fail
 with_reducible refine(C1.out _).mono ?_
 rintro e W1 ⟨rfl,hb⟩;have K1:=hid (K1.out.below hb);have HB1:=hbt HB0 hb;clear hb;go_wp2_with fail
 with_reducible refine(C2.out _).mono ?_
 rintro e W2 ⟨rfl,hb⟩;have K1:=hid (K1.out.below hb);have HB2:=hbt HB1 hb;clear hb;go_wp2_with fail
 with_reducible refine(C3.out _).mono ?_
 rintro e W3 ⟨rfl,hb⟩;have K1:=hid (K1.out.below hb);have HB3:=hbt HB2 hb;clear hb;go_wp2_with fail
 with_reducible refine(C4.out _).mono ?_
 rintro e W4 ⟨p_4,c_4,rfl,u02,hb⟩;have K1:=hid (K1.out.below hb);have HB4:=hbt HB3 hb;have RZ:=hid u02;clear hb u02;go_wp2_with fail
 with_reducible refine(C5.out _).mono ?_
 rintro e W5 ⟨p_5,c_5,rfl,u05,hb⟩;have K1:=hid (K1.out.below hb);have RZ:=hid (RZ.out.below hb);have HB5:=hbt HB4 hb;have RM:=hid u05;clear hb u05;go_upto_region 5 with fail
 refine ay W5 [(#[.bool (ah z),.slice p_4 (aa z) c_4,.slice p_5 (ag n) c_5],48)] rfl ?_;have L1:=K1.out.lt;have L2:=HB5.out.size;rintro W6 ⟨k2,hb⟩;have hb:Below W5.heap.size W5 W6:=hb;obtain ⟨K1,RZ,RM⟩:=ai (K1.out.below hb) (RZ.out.below hb) (RM.out.below hb);have HB6:=hbt HB5 hb;have K2:=hid k2;clear k2 hb;go_wp2_with fail
 with_reducible refine(C6.out _).mono ?_
 rintro e W7 ⟨p_6,c_6,rfl,u0a,hb⟩;obtain ⟨K1,K2,RZ,RM⟩:=aG (K1.out.below hb) (K2.out.below hb) (RZ.out.below hb) (RM.out.below hb);have HB7:=hbt HB6 hb;have RO:=hid u0a;clear hb u0a;have dK22:=K2.out.cell (i:=2) rfl;go_wp2_with fail
 with_reducible refine(C7.out _ _ _ _ _ RM.out RO.out).mono ?_
 rintro e W8 ⟨rfl,hb⟩;clear dK22;obtain ⟨K1,K2,RZ⟩:=ai (K1.out.below hb) (K2.out.below hb) (RZ.out.below hb);have HB8:=hbt HB7 hb;clear hb;obtain ⟨dK20,dK21⟩:=aI K2.out rfl rfl;go_wp2_with fail
 with_reducible refine(C8.out _ _ _ RZ.out).mono ?_
 rintro e W9 ⟨rfl,hb⟩;clear dK20 dK21;have K1:=hid (K1.out.below hb);have K2:=hid (K2.out.below hb);have HB9:=hbt HB8 hb;clear hb;have dK21:=K2.out.cell (i:=1) rfl;have dK22:=K2.out.cell (i:=2) rfl;go_wp2_with fail
 with_reducible refine(C11.out _).mono ?_
 rintro e W10 ⟨p_9,c_9,s_9,d_9,rfl,u0l,u11,hb⟩;clear dK21 dK22;have K1:=hid (K1.out.below hb);have HB10:=hbt HB9 hb;have RQ:=hid u0l;have TQ:=hid u11;clear hb u0l u11;obtain ⟨dK10,dK11,dK12⟩:=aA K1.out rfl rfl rfl;obtain ⟨fK10,fK11,fK12⟩:=aZ K1.out;go_wp2;exact bodyPost_ret (v:=.tuple #[.agg #[.bool (ah zz),.slice p_9 (aa zz) c_9,.slice s_9 (ag dz) d_9],.bool false]) (by simp[results,results54,go_sem,dK10,dK11,dK12]) rfl ⟨_,_,_,_,rfl,(bz [.bool (ah zz),.slice p_9 (aa zz) c_9,.slice s_9 (ag dz) d_9] RQ.out K1.out (by simp[bO]) (by simp[bA])),(bz [.bool (ah zz),.slice p_9 (aa zz) c_9,.slice s_9 (ag dz) d_9] TQ.out K1.out (by simp[bO]) (by simp[bA])),(av (l:=[.bool (ah zz),.slice p_9 (aa zz) c_9,.slice s_9 (ag dz) d_9]) (i:=0) (by omega) HB10.out)⟩
theorem uw (a0 x0 y0:ByteArray)(z k k2 sg zz:Int)(n one g dz:Nat)(hk:0<k)(hsg:sg≠0)(hk2:k2≠0)  (w:World)(h1:CQ 80 #[.string a0] (.tuple #[.string x0,.string y0,.bool true]))(h2:CQ 81 #[.string x0] (.bool true))(h3:CQ 82 #[.string y0] (.bool true))(h4:∀ W,CZ 83 #[.string x0] W z)(h5:∀ W,CN 84 #[.string y0] W n)(h6:∀ W,CN 61 #[.int .u32 1] W one)(h7:∀ s1 d1 s2 d2 W,RN W (.slice s1 (ag n) d1) n→RN W (.slice s2 (ag one) d2) one→CR 67 #[.slice s1 (ag n) d1,.slice s2 (ag one) d2] W (.int .i64 k))(h8:∀ p1 c1 W,RN W (.slice p1 (aa z) c1) z.natAbs→CR 65 #[.agg #[.bool (ah z),.slice p1 (aa z) c1]] W (.int .i64 sg))(h9:∀ p1 c1 s2 d2 W,RN W (.slice p1 (aa z) c1) z.natAbs→RN W (.slice s2 (ag n) d2) n→CN 85 #[.slice p1 (aa z) c1,.slice s2 (ag n) d2] W g)(h10:∀ s1 d1 s2 d2 W,RN W (.slice s1 (ag g) d1) g→RN W (.slice s2 (ag one) d2) one→CR 67 #[.slice s1 (ag g) d1,.slice s2 (ag one) d2] W (.int .i64 k2))(h11:∀ W,CF 35 #[.int .i64 0] W zz dz)  :
 Calls Tryz.prog 54 #[.string a0] w fun e w'=>∃ p c s d,e=.returned (.tuple #[.agg #[.bool (ah zz),.slice p (aa zz) c,.slice s (ag dz) d],.bool false])∧RN w' (.slice p (aa zz) c) zz.natAbs∧RN w' (.slice s (ag dz) d) dz∧Below w.heap.size w w':=by
 obtain ⟨C1,C2,C3,C4,C5,C6,C7,C8,C9,C10,C11⟩:=iC h1 h2 h3 h4 h5 h6 h7 h8 h9 h10 h11;have k0:decide (0<k)=true:=decide_eq_true hk;have k1:0<k:=hk;clear hk;have s0:(sg==0)=false:=by rw[beq_eq_false_iff_ne];exact hsg
 have s1:¬ sg=0:=hsg;have s2:(sg != 0)=true:=by unfold bne;rw[s0];rfl
 have s3:decide (sg=0)=false:=decide_eq_false hsg;clear hsg;have q0:(k2==0)=false:=by rw[beq_eq_false_iff_ne];exact hk2
 have q1:¬ k2=0:=hk2;clear hk2 h1 h2 h3 h4 h5 h6 h7 h8 h9 h10 h11;go_enter func54,ntmps54
 go_upto_region 1 with fail
 refine ay w [(#[.bool false,.slice none 0 0,.slice none 0 0],48)] rfl ?_;rintro W0 ⟨k1,hb⟩;have HB0:=hid (show Below w.heap.size w W0 from hb);have K1:=hid k1;clear k1 hb;go_wp2_with fail
 with_reducible refine(C1.out _).mono ?_
 rintro e W1 ⟨rfl,hb⟩;have K1:=hid (K1.out.below hb);have HB1:=hbt HB0 hb;clear hb;go_wp2_with fail
 with_reducible refine(C2.out _).mono ?_
 rintro e W2 ⟨rfl,hb⟩;have K1:=hid (K1.out.below hb);have HB2:=hbt HB1 hb;clear hb;go_wp2_with fail
 with_reducible refine(C3.out _).mono ?_
 rintro e W3 ⟨rfl,hb⟩;have K1:=hid (K1.out.below hb);have HB3:=hbt HB2 hb;clear hb;go_wp2_with fail
 with_reducible refine(C4.out _).mono ?_
 rintro e W4 ⟨p_4,c_4,rfl,u02,hb⟩;have K1:=hid (K1.out.below hb);have HB4:=hbt HB3 hb;have RZ:=hid u02;clear hb u02;go_wp2_with fail
 with_reducible refine(C5.out _).mono ?_
 rintro e W5 ⟨p_5,c_5,rfl,u05,hb⟩;have K1:=hid (K1.out.below hb);have RZ:=hid (RZ.out.below hb);have HB5:=hbt HB4 hb;have RM:=hid u05;clear hb u05;go_upto_region 5 with fail
 refine ay W5 [(#[.bool (ah z),.slice p_4 (aa z) c_4,.slice p_5 (ag n) c_5],48)] rfl ?_;have L1:=K1.out.lt;have L2:=HB5.out.size;rintro W6 ⟨k2,hb⟩;have hb:Below W5.heap.size W5 W6:=hb;obtain ⟨K1,RZ,RM⟩:=ai (K1.out.below hb) (RZ.out.below hb) (RM.out.below hb);have HB6:=hbt HB5 hb;have K2:=hid k2;clear k2 hb;go_wp2_with fail
 with_reducible refine(C6.out _).mono ?_
 rintro e W7 ⟨p_6,c_6,rfl,u0a,hb⟩;obtain ⟨K1,K2,RZ,RM⟩:=aG (K1.out.below hb) (K2.out.below hb) (RZ.out.below hb) (RM.out.below hb);have HB7:=hbt HB6 hb;have RO:=hid u0a;clear hb u0a;have dK22:=K2.out.cell (i:=2) rfl;go_wp2_with fail
 with_reducible refine(C7.out _ _ _ _ _ RM.out RO.out).mono ?_
 rintro e W8 ⟨rfl,hb⟩;clear dK22;obtain ⟨K1,K2,RZ,RM,RO⟩:=aQ (K1.out.below hb) (K2.out.below hb) (RZ.out.below hb) (RM.out.below hb) (RO.out.below hb);have HB8:=hbt HB7 hb;clear hb;obtain ⟨dK20,dK21⟩:=aI K2.out rfl rfl;go_wp2_with fail
 with_reducible refine(C8.out _ _ _ RZ.out).mono ?_
 rintro e W9 ⟨rfl,hb⟩;clear dK20 dK21;obtain ⟨K1,K2,RZ,RM,RO⟩:=aQ (K1.out.below hb) (K2.out.below hb) (RZ.out.below hb) (RM.out.below hb) (RO.out.below hb);have HB9:=hbt HB8 hb;clear hb;have dK21:=K2.out.cell (i:=1) rfl;have dK22:=K2.out.cell (i:=2) rfl;go_wp2_with fail
 with_reducible refine(C9.out _ _ _ _ _ RZ.out RM.out).mono ?_
 rintro e W10 ⟨p_9,c_9,rfl,u0l,hb⟩;clear dK21 dK22;have K1:=hid (K1.out.below hb);have RO:=hid (RO.out.below hb);have HB10:=hbt HB9 hb;have RG:=hid u0l;clear hb u0l;go_wp2_with fail
 with_reducible refine(C10.out _ _ _ _ _ RG.out RO.out).mono ?_
 rintro e W11 ⟨rfl,hb⟩;have K1:=hid (K1.out.below hb);have HB11:=hbt HB10 hb;clear hb;go_wp2_with fail
 with_reducible refine(C11.out _).mono ?_
 rintro e W12 ⟨u0I,u0J,u0K,u0L,rfl,u12,u13,hb⟩;have K1:=hid (K1.out.below hb);have HB12:=hbt HB11 hb;have RQ:=hid u12;have TQ:=hid u13;clear hb u12 u13;obtain ⟨dK10,dK11,dK12⟩:=aA K1.out rfl rfl rfl;obtain ⟨fK10,fK11,fK12⟩:=aZ K1.out;go_wp2;exact bodyPost_ret (v:=.tuple #[.agg #[.bool (ah zz),.slice u0I (aa zz) u0J,.slice u0K (ag dz) u0L],.bool false]) (by simp[results,results54,go_sem,dK10,dK11,dK12]) rfl ⟨_,_,_,_,rfl,(bz [.bool (ah zz),.slice u0I (aa zz) u0J,.slice u0K (ag dz) u0L] RQ.out K1.out (by simp[bO]) (by simp[bA])),(bz [.bool (ah zz),.slice u0I (aa zz) u0J,.slice u0K (ag dz) u0L] TQ.out K1.out (by simp[bO]) (by simp[bA])),(av (l:=[.bool (ah zz),.slice u0I (aa zz) u0J,.slice u0K (ag dz) u0L]) (i:=0) (by omega) HB12.out)⟩
open Go.Lib (hid)
theorem vY (k n:Int)(dn:Nat)  (w:World)(h1:∀ W,CZ 60 #[.int .i64 k] W n)(h2:∀ W,CN 61 #[.int .u32 1] W dn)  :
 CF 35 #[.int .i64 k] w n dn:=by
 have C1:=hid h1;have C2:=hid h2;clear h1 h2;go_enter func35,ntmps35
 go_upto_region 1 with fail
 refine ay w [(#[.bool false,.slice none 0 0,.slice none 0 0],48)] rfl ?_;rintro W0 ⟨k1,hb⟩;have HB0:=hid (show Below w.heap.size w W0 from hb);have K1:=hid k1;clear k1 hb;go_wp2_with fail
 with_reducible refine(C1.out _).mono ?_
 rintro e W1 ⟨p_1,c_1,rfl,u14,hb⟩;have K1:=hid (K1.out.below hb);have HB1:=hbt HB0 hb;have RN1:=hid u14;clear hb u14;go_wp2_with fail
 with_reducible refine(C2.out _).mono ?_
 rintro e W2 ⟨p_2,c_2,rfl,u15,hb⟩;have K1:=hid (K1.out.below hb);have RN1:=hid (RN1.out.below hb);have HB2:=hbt HB1 hb;have RD1:=hid u15;clear hb u15;obtain ⟨dK10,dK11,dK12⟩:=aA K1.out rfl rfl rfl;obtain ⟨fK10,fK11,fK12⟩:=aZ K1.out;go_wp2;exact bodyPost_ret (v:=.agg #[.bool (ah n),.slice p_1 (aa n) c_1,.slice p_2 (ag dn) c_2]) (by simp[results,results35,go_sem,dK10,dK11,dK12]) rfl ⟨_,_,_,_,rfl,(bz [.bool (ah n),.slice p_1 (aa n) c_1,.slice p_2 (ag dn) c_2] RN1.out K1.out (by simp[bO]) (by simp[bA])),(bz [.bool (ah n),.slice p_1 (aa n) c_1,.slice p_2 (ag dn) c_2] RD1.out K1.out (by simp[bO]) (by simp[bA])),(av (l:=[.bool (ah n),.slice p_1 (aa n) c_1,.slice p_2 (ag dn) c_2]) (i:=0) (by omega) HB2.out)⟩
theorem z1N (n m:Int)(en:Nat)(p1:Option Addr)(c1:Nat)(s1:Option Addr)(d1:Nat)(w:World)(h1:∀ p1 c1 W,RN W (.slice p1 (aa n) c1) n.natAbs→CZ 98 #[.agg #[.bool (ah n),.slice p1 (aa n) c1]] W m)(r1:RN w (.slice p1 (aa n) c1) n.natAbs)(t1:RN w (.slice s1 (ag en) d1) en) :
 CF 59 #[.agg #[.bool (ah n),.slice p1 (aa n) c1,.slice s1 (ag en) d1]] w m en:=by
 obtain ⟨C1,R1,T1⟩:=ai h1 r1 t1;clear h1 r1 t1;go_enter func59,ntmps59
 go_upto_region 1 with fail
 refine ay w [(#[.bool (ah n),.slice p1 (aa n) c1,.slice s1 (ag en) d1],48),(#[.bool false,.slice none 0 0,.slice none 0 0],48)] rfl ?_;rintro W0 ⟨k1,k2,hb⟩;have HB0:=hid (show Below w.heap.size w W0 from hb);obtain ⟨R1,T1,K1,K2⟩:=aG (R1.out.below HB0.out) (T1.out.below HB0.out) k1 k2;clear k1 k2 hb;go_wp2_with fail
 refine aC (fun a0 a' V=>∃ u0h u0i u0b u0c,a'=⟨putL [(3,.pointer (some ⟨w.heap.size,0,none⟩)),(4,.agg #[.bool (ah n),.slice p1 (aa n) c1]),(5,.agg #[.bool (ah m),.slice u0h (aa m) u0i]),(6,.pointer (some ⟨w.heap.size,2,none⟩)),(7,.slice s1 (ag en) d1),(8,.agg #[.bool (ah m),.slice u0b (aa m) u0c,.slice s1 (ag en) d1])] a0.tmps,a0.defers⟩∧Below w.heap.size w V∧SBk V (w.heap.size+1) #[.bool (ah m),.slice u0b (aa m) u0c,.slice s1 (ag en) d1] 48∧RN V (.slice s1 (ag en) d1) en∧RN V (.slice u0b (aa m) u0c) m.natAbs) ?_ ?_
 · refine aB (by kernel_rfl) 6 1 (fun i=>[3,4,5,6,7,8].getD i 0) (RelR [Rel.val (.pointer (some ⟨w.heap.size,0,none⟩)),Rel.val (.agg #[.bool (ah n),.slice p1 (aa n) c1]),Rel.int m,Rel.val (.pointer (some ⟨w.heap.size,2,none⟩)),Rel.val (.slice s1 (ag en) d1),⟨fun v W=>∃ pa ca,v=.agg #[.bool (ah m),.slice pa (aa m) ca,.slice s1 (ag en) d1]∧RN W (.slice pa (aa m) ca) m.natAbs,fun _ _ _ ⟨pa,ca,e,h0⟩ hb=>⟨pa,ca,e,h0.below hb⟩⟩]) (fun W=>Below W0.heap.size W0 W) (fun _ _=>True) (by kernel_rfl) (by kernel_rfl) (by kernel_rfl) trivial (Below.refl _ _).drew ?_ ?_
   · intro listed a W i hI hD hrd him
     obtain ⟨HI,HD,Hr⟩:=ai hI hD hrd;clear hI hrd hD;have y1:a.tmps[1]? = some (.pointer (some ⟨w.heap.size,0,none⟩)):=HI.out.rest 1 (by decide);obtain ⟨dK10,dK11,dK12⟩:=aA (K1.out.below HI.out.world) rfl rfl rfl;have X0:RV _ listed a 0 3 (.pointer (some ⟨w.heap.size,0,none⟩)):=HI.out.rh;have X1:RV _ listed a 1 4 (.agg #[.bool (ah n),.slice p1 (aa n) c1]):=HI.out.rh;have X3:RV _ listed a 3 6 (.pointer (some ⟨w.heap.size,2,none⟩)):=HI.out.rh;have X4:RV _ listed a 4 7 (.slice s1 (ag en) d1):=HI.out.rh
     match i,him,Hr with
     | 0,_,Hi =>
       refine au rfl fun K' hK=>?_;go_simp;exact hK.out _ _ ⟨HI.out.pv Hi.out rfl,trivial⟩
     | 1,_,Hi =>
       have x0:=X0.g Hi.out (by kernel_rfl);refine au rfl fun K' hK=>?_;go_simp;exact hK.out _ _ ⟨HI.out.pv Hi.out rfl,trivial⟩
     | 2,_,Hi =>
       have x1:=X1.g Hi.out (by kernel_rfl);refine au rfl fun K' hK=>?_;go_simp;with_reducible refine(C1.out _ _ _ (R1.out.below HI.out.world)).mono ?_
       rintro e W' ⟨u0h,u0i,rfl,u0q,hb⟩;exact hK.out _ _ ⟨HI.out.pc Hi.out hb ⟨u0h,u0i,rfl,u0q⟩,trivial⟩
     | 3,_,Hi =>
       refine au rfl fun K' hK=>?_;go_simp;exact hK.out _ _ ⟨HI.out.pv Hi.out rfl,trivial⟩
     | 4,_,Hi =>
       have x3:=X3.g Hi.out (by kernel_rfl);refine au rfl fun K' hK=>?_;go_simp;exact hK.out _ _ ⟨HI.out.pv Hi.out rfl,trivial⟩
     | 5,_,Hi =>
       obtain⟨v',x2,u0h,u0i,e,u0q⟩:=HI.out.at (i:=2) Hi.out (by kernel_rfl) (by decide);obtain rfl:=e;have x2:a.tmps[5]? = some (.agg #[.bool (ah m),.slice u0h (aa m) u0i]):=x2;have u0U:=hid u0q;clear u0q;have x4:=X4.g Hi.out (by kernel_rfl);refine au rfl fun K' hK=>?_;go_simp;exact hK.out _ _ ⟨HI.out.pv Hi.out ⟨u0h,u0i,rfl,u0U.out⟩,trivial⟩
     | n+6,h,_=>exact absurd h (by omega)
   · intro listed a W hI hD hall
     obtain⟨v',x2,u0h,u0i,e,u0q⟩:=hI.slots 2 (by decide) (hall 2 (by decide));obtain rfl:=e;have u0U:=hid u0q;clear u0q;obtain⟨v',x5,u0b,u0c,e,u0f⟩:=hI.slots 5 (by decide) (hall 5 (by decide));obtain rfl:=e;have u0u:=hid u0f;clear u0f;have x5:a.tmps[8]? = some (.agg #[.bool (ah m),.slice u0b (aa m) u0c,.slice s1 (ag en) d1]):=x5;obtain ⟨HBW,HI,HA⟩:=ai hI.world hI hall;clear hI hall;obtain ⟨K2,T1,HBX⟩:=ai (K2.out.below HBW.out) (T1.out.below HBW.out) (HB0.out.trans (HBW.out.mono HB0.out.size));have RM:=u0U;have RMb:=u0u;have y2:a.tmps[2]? = some (.pointer (some ⟨w.heap.size+1,0,none⟩)):=HI.out.rest 2 (by decide);obtain ⟨dK20,dK21,dK22⟩:=aA K2.out rfl rfl rfl;obtain ⟨fK20,fK21,fK22⟩:=aZ K2.out;refine aR (t:=0) ?_;refine au rfl fun K' hK=>?_;go_simp;refine hK.out _ _ ?_;clear hK;refine bf ?_;have s0:∀ {v':Value} {n':Nat},RN W v' n'→RN (storeAll W (w.heap.size+1) 0 [.bool (ah m),.slice u0b (aa m) u0c,.slice s1 (ag en) d1]) v' n':=fun h'=>bz _ h' K2.out (by simp[bO]) (by simp[bA]);exact⟨rfl,u0h,u0i,u0b,u0c,(HI.out.finx ⟨HI.out.sx HA.out 0,HI.out.sx HA.out 1,x2,HI.out.sx HA.out 3,HI.out.sx HA.out 4,x5,trivial⟩ rfl),(av (l:=[.bool (ah m),.slice u0b (aa m) u0c,.slice s1 (ag en) d1]) (i:=0) (by omega) HBX.out),(bS (l:=[.bool (ah m),.slice u0b (aa m) u0c,.slice s1 (ag en) d1]) (i:=0) K2.out),(s0 T1.out),(s0 RMb.out)⟩
 rintro a' W1 ⟨u0h,u0i,u0b,u0c,rfl,z0,z1,z2,z3⟩;obtain ⟨HB1,K2,T1,RMb⟩:=aG z0 z1 z2 z3;clear z0 z1 z2 z3;simp only[putL,List.setIfInBounds_toArray,List.set_cons_zero,List.set_cons_succ];go_wp2;obtain ⟨dK20,dK21,dK22⟩:=aA K2.out rfl rfl rfl;exact bodyPost_ret (v:=.agg #[.bool (ah m),.slice u0b (aa m) u0c,.slice s1 (ag en) d1]) (by simp[results,results59,go_sem,dK20,dK21,dK22]) rfl ⟨_,_,_,_,rfl,RMb.out,T1.out,HB1.out⟩
theorem z1P (n m:Int)(en:Nat)(p1:Option Addr)(c1:Nat)(s1:Option Addr)(d1:Nat)(w:World)(h1:∀ s2 d2 W,RN W (.slice s2 (ag en) d2) en→CZ 69 #[.bool (ah n),.slice s2 (ag en) d2] W m)(r1:RN w (.slice p1 (aa n) c1) n.natAbs)(t1:RN w (.slice s1 (ag en) d1) en) :
 Calls Tryz.prog 66 #[.agg #[.bool (ah n),.slice p1 (aa n) c1,.slice s1 (ag en) d1]] w fun e w'=>∃ p c s d,e=.returned (.agg #[.bool (ah m),.slice p (aa m) c,.slice s (ag n.natAbs) d])∧RN w' (.slice p (aa m) c) m.natAbs∧RN w' (.slice s (ag n.natAbs) d) n.natAbs∧Below w.heap.size w w':=by
 obtain ⟨C1,R1,T1⟩:=ai h1 r1 t1;clear h1 r1 t1;go_enter func66,ntmps66
 go_upto_region 1 with fail
 refine ay w [(#[.bool (ah n),.slice p1 (aa n) c1,.slice s1 (ag en) d1],48),(#[.bool false,.slice none 0 0,.slice none 0 0],48)] rfl ?_;rintro W0 ⟨k1,k2,hb⟩;have HB0:=hid (show Below w.heap.size w W0 from hb);obtain ⟨R1,T1,K1,K2⟩:=aG (R1.out.below HB0.out) (T1.out.below HB0.out) k1 k2;clear k1 k2 hb;go_wp2_with fail
 refine aC (fun a0 a' V=>∃ u0j u0k u0d u0e,a'=⟨putL [(3,.pointer (some ⟨w.heap.size,0,none⟩)),(4,.pointer (some ⟨w.heap.size,0,none⟩)),(5,.bool (ah n)),(6,.pointer (some ⟨w.heap.size,2,none⟩)),(7,.slice s1 (ag en) d1),(8,.agg #[.bool (ah m),.slice u0j (aa m) u0k]),(9,.pointer (some ⟨w.heap.size,0,none⟩)),(10,.pointer (some ⟨w.heap.size,1,none⟩)),(11,.slice p1 (aa n) c1),(12,.agg #[.bool (ah m),.slice u0d (aa m) u0e,.slice p1 (aa n) c1])] a0.tmps,a0.defers⟩∧Below w.heap.size w V∧SBk V (w.heap.size+1) #[.bool (ah m),.slice u0d (aa m) u0e,.slice p1 (aa n) c1] 48∧RN V (.slice p1 (aa n) c1) n.natAbs∧RN V (.slice u0d (aa m) u0e) m.natAbs) ?_ ?_
 · refine aB (by kernel_rfl) 10 1 (fun i=>[3,4,5,6,7,8,9,10,11,12].getD i 0) (RelR [Rel.val (.pointer (some ⟨w.heap.size,0,none⟩)),Rel.val (.pointer (some ⟨w.heap.size,0,none⟩)),Rel.val (.bool (ah n)),Rel.val (.pointer (some ⟨w.heap.size,2,none⟩)),Rel.val (.slice s1 (ag en) d1),Rel.int m,Rel.val (.pointer (some ⟨w.heap.size,0,none⟩)),Rel.val (.pointer (some ⟨w.heap.size,1,none⟩)),Rel.val (.slice p1 (aa n) c1),⟨fun v W=>∃ pa ca,v=.agg #[.bool (ah m),.slice pa (aa m) ca,.slice p1 (aa n) c1]∧RN W (.slice pa (aa m) ca) m.natAbs,fun _ _ _ ⟨pa,ca,e,h0⟩ hb=>⟨pa,ca,e,h0.below hb⟩⟩]) (fun W=>Below W0.heap.size W0 W) (fun _ _=>True) (by kernel_rfl) (by kernel_rfl) (by kernel_rfl) trivial (Below.refl _ _).drew ?_ ?_
   · intro listed a W i hI hD hrd him
     obtain ⟨HI,HD,Hr⟩:=ai hI hD hrd;clear hI hrd hD;have y1:a.tmps[1]? = some (.pointer (some ⟨w.heap.size,0,none⟩)):=HI.out.rest 1 (by decide);have dK10:=(K1.out.below HI.out.world).cell (i:=0) rfl;have dK12:=(K1.out.below HI.out.world).cell (i:=2) rfl;have dK11:=(K1.out.below HI.out.world).cell (i:=1) rfl;have X0:RV _ listed a 0 3 (.pointer (some ⟨w.heap.size,0,none⟩)):=HI.out.rh;have X1:RV _ listed a 1 4 (.pointer (some ⟨w.heap.size,0,none⟩)):=HI.out.rh;have X3:RV _ listed a 3 6 (.pointer (some ⟨w.heap.size,2,none⟩)):=HI.out.rh;have X2:RV _ listed a 2 5 (.bool (ah n)):=HI.out.rh;have X4:RV _ listed a 4 7 (.slice s1 (ag en) d1):=HI.out.rh;have X6:RV _ listed a 6 9 (.pointer (some ⟨w.heap.size,0,none⟩)):=HI.out.rh;have X7:RV _ listed a 7 10 (.pointer (some ⟨w.heap.size,1,none⟩)):=HI.out.rh;have X8:RV _ listed a 8 11 (.slice p1 (aa n) c1):=HI.out.rh
     match i,him,Hr with
     | 0,_,Hi =>
       refine au rfl fun K' hK=>?_;go_simp;exact hK.out _ _ ⟨HI.out.pv Hi.out rfl,trivial⟩
     | 1,_,Hi =>
       have x0:=X0.g Hi.out (by kernel_rfl);refine au rfl fun K' hK=>?_;go_simp;exact hK.out _ _ ⟨HI.out.pv Hi.out rfl,trivial⟩
     | 2,_,Hi =>
       have x1:=X1.g Hi.out (by kernel_rfl);refine au rfl fun K' hK=>?_;go_simp;exact hK.out _ _ ⟨HI.out.pv Hi.out rfl,trivial⟩
     | 3,_,Hi =>
       refine au rfl fun K' hK=>?_;go_simp;exact hK.out _ _ ⟨HI.out.pv Hi.out rfl,trivial⟩
     | 4,_,Hi =>
       have x3:=X3.g Hi.out (by kernel_rfl);refine au rfl fun K' hK=>?_;go_simp;exact hK.out _ _ ⟨HI.out.pv Hi.out rfl,trivial⟩
     | 5,_,Hi =>
       have x2:=X2.g Hi.out (by kernel_rfl);have x4:=X4.g Hi.out (by kernel_rfl);refine au rfl fun K' hK=>?_;go_simp;with_reducible refine(C1.out _ _ _ (T1.out.below HI.out.world)).mono ?_
       rintro e W' ⟨u0j,u0k,rfl,u0f,hb⟩;exact hK.out _ _ ⟨HI.out.pc Hi.out hb ⟨u0j,u0k,rfl,u0f⟩,trivial⟩
     | 6,_,Hi =>
       refine au rfl fun K' hK=>?_;go_simp;exact hK.out _ _ ⟨HI.out.pv Hi.out rfl,trivial⟩
     | 7,_,Hi =>
       have x6:=X6.g Hi.out (by kernel_rfl);refine au rfl fun K' hK=>?_;go_simp;exact hK.out _ _ ⟨HI.out.pv Hi.out rfl,trivial⟩
     | 8,_,Hi =>
       have x7:=X7.g Hi.out (by kernel_rfl);refine au rfl fun K' hK=>?_;go_simp;exact hK.out _ _ ⟨HI.out.pv Hi.out rfl,trivial⟩
     | 9,_,Hi =>
       obtain⟨v',x5,u0j,u0k,e,u0f⟩:=HI.out.at (i:=5) Hi.out (by kernel_rfl) (by decide);obtain rfl:=e;have x5:a.tmps[8]? = some (.agg #[.bool (ah m),.slice u0j (aa m) u0k]):=x5;have u0u:=hid u0f;clear u0f;have x8:=X8.g Hi.out (by kernel_rfl);refine au rfl fun K' hK=>?_;go_simp;exact hK.out _ _ ⟨HI.out.pv Hi.out ⟨u0j,u0k,rfl,u0u.out⟩,trivial⟩
     | n+10,h,_=>exact absurd h (by omega)
   · intro listed a W hI hD hall
     obtain⟨v',x5,u0j,u0k,e,u0f⟩:=hI.slots 5 (by decide) (hall 5 (by decide));obtain rfl:=e;have u0u:=hid u0f;clear u0f;obtain⟨v',x9,u0d,u0e,e,u0g⟩:=hI.slots 9 (by decide) (hall 9 (by decide));obtain rfl:=e;have u0v:=hid u0g;clear u0g;have x9:a.tmps[12]? = some (.agg #[.bool (ah m),.slice u0d (aa m) u0e,.slice p1 (aa n) c1]):=x9;obtain ⟨HBW,HI,HA⟩:=ai hI.world hI hall;clear hI hall;obtain ⟨K2,R1,HBX⟩:=ai (K2.out.below HBW.out) (R1.out.below HBW.out) (HB0.out.trans (HBW.out.mono HB0.out.size));have RM:=u0u;have RMb:=u0v;have y2:a.tmps[2]? = some (.pointer (some ⟨w.heap.size+1,0,none⟩)):=HI.out.rest 2 (by decide);obtain ⟨dK20,dK21,dK22⟩:=aA K2.out rfl rfl rfl;obtain ⟨fK20,fK21,fK22⟩:=aZ K2.out;refine aR (t:=0) ?_;refine au rfl fun K' hK=>?_;go_simp;refine hK.out _ _ ?_;clear hK;refine bf ?_;have s0:∀ {v':Value} {n':Nat},RN W v' n'→RN (storeAll W (w.heap.size+1) 0 [.bool (ah m),.slice u0d (aa m) u0e,.slice p1 (aa n) c1]) v' n':=fun h'=>bz _ h' K2.out (by simp[bO]) (by simp[bA]);exact⟨rfl,u0j,u0k,u0d,u0e,(HI.out.finx ⟨HI.out.sx HA.out 0,HI.out.sx HA.out 1,HI.out.sx HA.out 2,HI.out.sx HA.out 3,HI.out.sx HA.out 4,x5,HI.out.sx HA.out 6,HI.out.sx HA.out 7,HI.out.sx HA.out 8,x9,trivial⟩ rfl),(av (l:=[.bool (ah m),.slice u0d (aa m) u0e,.slice p1 (aa n) c1]) (i:=0) (by omega) HBX.out),(bS (l:=[.bool (ah m),.slice u0d (aa m) u0e,.slice p1 (aa n) c1]) (i:=0) K2.out),(s0 R1.out),(s0 RMb.out)⟩
 rintro a' W1 ⟨u0j,u0k,u0d,u0e,rfl,z0,z1,z2,z3⟩;obtain ⟨HB1,K2,R1,RMb⟩:=aG z0 z1 z2 z3;clear z0 z1 z2 z3;simp only[putL,List.setIfInBounds_toArray,List.set_cons_zero,List.set_cons_succ];go_wp2;obtain ⟨dK20,dK21,dK22⟩:=aA K2.out rfl rfl rfl;exact bodyPost_ret (v:=.agg #[.bool (ah m),.slice u0d (aa m) u0e,.slice p1 (aa n) c1]) (by simp[results,results66,go_sem,dK20,dK21,dK22]) rfl ⟨_,_,_,_,rfl,RMb.out,R1.out,HB1.out⟩
theorem zP (n s:Int)(en:Nat)(p1:Option Addr)(c1:Nat)(s1:Option Addr)(d1:Nat)(w:World)(h1:∀ p1 c1 W,RN W (.slice p1 (aa n) c1) n.natAbs→CR 65 #[.agg #[.bool (ah n),.slice p1 (aa n) c1]] W (.int .i64 s))(r1:RN w (.slice p1 (aa n) c1) n.natAbs)(t1:RN w (.slice s1 (ag en) d1) en) :
 CR 37 #[.agg #[.bool (ah n),.slice p1 (aa n) c1,.slice s1 (ag en) d1]] w (.int .i64 s):=by
 obtain ⟨C1,R1,T1⟩:=ai h1 r1 t1;clear h1 r1 t1;go_enter func37,ntmps37
 go_upto_region 1 with fail
 refine ay w [(#[.bool (ah n),.slice p1 (aa n) c1,.slice s1 (ag en) d1],48)] rfl ?_;rintro W0 ⟨k1,hb⟩;have HB0:=hid (show Below w.heap.size w W0 from hb);have R1:=hid (R1.out.below HB0.out);have K1:=hid k1;clear k1 hb;obtain ⟨dK10,dK11⟩:=aI K1.out rfl rfl;go_wp2_with fail
 with_reducible refine(C1.out _ _ _ R1.out).mono ?_
 rintro e W1 ⟨rfl,hb⟩;clear dK10 dK11;have HB1:=hbt HB0 hb;clear hb;go_wp2;exact bodyPost_ret (v:=.int .i64 s) (by simp[results,results37,go_sem]) rfl ⟨rfl,HB1.out⟩
theorem z1O (n1 n2 z n:Int)(en1 en2 en dn:Nat)(p1:Option Addr)(c1:Nat)(s1:Option Addr)(d1:Nat)(p2:Option Addr)(c2:Nat)(s2:Option Addr)(d2:Nat)(w:World)(h1:∀ p1 c1 p2 c2 W,RN W (.slice p1 (aa n1) c1) n1.natAbs→RN W (.slice p2 (aa n2) c2) n2.natAbs→CZ 63 #[.agg #[.bool (ah n1),.slice p1 (aa n1) c1],.agg #[.bool (ah n2),.slice p2 (aa n2) c2]] W z)(h2:∀ s1 d1 s2 d2 W,RN W (.slice s1 (ag en1) d1) en1→RN W (.slice s2 (ag en2) d2) en2→CN 64 #[.slice s1 (ag en1) d1,.slice s2 (ag en2) d2] W en)(h3:∀ p1 c1 s2 d2 W,RN W (.slice p1 (aa z) c1) z.natAbs→RN W (.slice s2 (ag en) d2) en→CF 62 #[.agg #[.bool (ah z),.slice p1 (aa z) c1],.slice s2 (ag en) d2] W n dn)(r1:RN w (.slice p1 (aa n1) c1) n1.natAbs)(t1:RN w (.slice s1 (ag en1) d1) en1)(r2:RN w (.slice p2 (aa n2) c2) n2.natAbs)(t2:RN w (.slice s2 (ag en2) d2) en2) :
 CF 36 #[.agg #[.bool (ah n1),.slice p1 (aa n1) c1,.slice s1 (ag en1) d1],.agg #[.bool (ah n2),.slice p2 (aa n2) c2,.slice s2 (ag en2) d2]] w n dn:=by
 obtain ⟨C1,C2,C3,R1,T1,R2,T2⟩:=cB h1 h2 h3 r1 t1 r2 t2;clear h1 h2 h3 r1 t1 r2 t2;go_enter func36,ntmps36
 go_upto_region 1 with fail
 refine ay w [(#[.bool (ah n1),.slice p1 (aa n1) c1,.slice s1 (ag en1) d1],48),(#[.bool (ah n2),.slice p2 (aa n2) c2,.slice s2 (ag en2) d2],48),(#[.bool false,.slice none 0 0,.slice none 0 0],48)] rfl ?_;rintro W0 ⟨k1,k2,k3,hb⟩;have HB0:=hid (show Below w.heap.size w W0 from hb);obtain ⟨R1,T1,R2,T2,K1,K2,K3⟩:=cB (R1.out.below HB0.out) (T1.out.below HB0.out) (R2.out.below HB0.out) (T2.out.below HB0.out) k1 k2 k3;clear k1 k2 k3 hb;go_wp2_with fail
 refine aC (fun a0 a' V=>∃ u0m u0n u0o u0p u06 u07 u08 u09,a'=⟨putL [(5,.pointer (some ⟨w.heap.size,0,none⟩)),(6,.agg #[.bool (ah n1),.slice p1 (aa n1) c1]),(7,.pointer (some ⟨w.heap.size+1,0,none⟩)),(8,.agg #[.bool (ah n2),.slice p2 (aa n2) c2]),(9,.agg #[.bool (ah z),.slice u0m (aa z) u0n]),(10,.pointer (some ⟨w.heap.size,2,none⟩)),(11,.slice s1 (ag en1) d1),(12,.pointer (some ⟨w.heap.size+1,2,none⟩)),(13,.slice s2 (ag en2) d2),(14,.slice u0o (ag en) u0p),(15,.agg #[.bool (ah n),.slice u06 (aa n) u07,.slice u08 (ag dn) u09])] a0.tmps,a0.defers⟩∧Below w.heap.size w V∧SBk V (w.heap.size+1+1) #[.bool (ah n),.slice u06 (aa n) u07,.slice u08 (ag dn) u09] 48∧RN V (.slice u06 (aa n) u07) (n).natAbs∧RN V (.slice u08 (ag dn) u09) (dn)) ?_ ?_
 · refine aB (by kernel_rfl) 11 1 (fun i=>[5,6,7,8,9,10,11,12,13,14,15].getD i 0) (RelR [Rel.val (.pointer (some ⟨w.heap.size,0,none⟩)),Rel.val (.agg #[.bool (ah n1),.slice p1 (aa n1) c1]),Rel.val (.pointer (some ⟨w.heap.size+1,0,none⟩)),Rel.val (.agg #[.bool (ah n2),.slice p2 (aa n2) c2]),Rel.int z,Rel.val (.pointer (some ⟨w.heap.size,2,none⟩)),Rel.val (.slice s1 (ag en1) d1),Rel.val (.pointer (some ⟨w.heap.size+1,2,none⟩)),Rel.val (.slice s2 (ag en2) d2),Rel.nat en,⟨fun v W=>∃ p c s d,v=.agg #[.bool (ah n),.slice p (aa n) c,.slice s (ag dn) d]∧RN W (.slice p (aa n) c) (n).natAbs∧RN W (.slice s (ag dn) d) (dn),fun _ _ _ ⟨p,c,s,d,e,h0,h1⟩ hb=>⟨p,c,s,d,e,h0.below hb,h1.below hb⟩⟩]) (fun W=>Below W0.heap.size W0 W) (fun _ _=>True) (by kernel_rfl) (by kernel_rfl) (by kernel_rfl) trivial (Below.refl _ _).drew ?_ ?_
   · intro listed a W i hI hD hrd him
     obtain ⟨HI,HD,Hr⟩:=ai hI hD hrd;clear hI hrd hD;have y2:a.tmps[2]? = some (.pointer (some ⟨w.heap.size,0,none⟩)):=HI.out.rest 2 (by decide);have y3:a.tmps[3]? = some (.pointer (some ⟨w.heap.size+1,0,none⟩)):=HI.out.rest 3 (by decide);obtain ⟨dK10,dK11⟩:=aI (K1.out.below HI.out.world) rfl rfl;obtain ⟨dK20,dK21⟩:=aI (K2.out.below HI.out.world) rfl rfl;have dK12:=(K1.out.below HI.out.world).cell (i:=2) rfl;have dK22:=(K2.out.below HI.out.world).cell (i:=2) rfl;have X0:RV _ listed a 0 5 (.pointer (some ⟨w.heap.size,0,none⟩)):=HI.out.rh;have X2:RV _ listed a 2 7 (.pointer (some ⟨w.heap.size+1,0,none⟩)):=HI.out.rh;have X1:RV _ listed a 1 6 (.agg #[.bool (ah n1),.slice p1 (aa n1) c1]):=HI.out.rh;have X3:RV _ listed a 3 8 (.agg #[.bool (ah n2),.slice p2 (aa n2) c2]):=HI.out.rh;have X5:RV _ listed a 5 10 (.pointer (some ⟨w.heap.size,2,none⟩)):=HI.out.rh;have X7:RV _ listed a 7 12 (.pointer (some ⟨w.heap.size+1,2,none⟩)):=HI.out.rh;have X6:RV _ listed a 6 11 (.slice s1 (ag en1) d1):=HI.out.rh;have X8:RV _ listed a 8 13 (.slice s2 (ag en2) d2):=HI.out.rh
     match i,him,Hr with
     | 0,_,Hi =>
       refine au rfl fun K' hK=>?_;go_simp;exact hK.out _ _ ⟨HI.out.pv Hi.out rfl,trivial⟩
     | 1,_,Hi =>
       have x0:=X0.g Hi.out (by kernel_rfl);refine au rfl fun K' hK=>?_;go_simp;exact hK.out _ _ ⟨HI.out.pv Hi.out rfl,trivial⟩
     | 2,_,Hi =>
       refine au rfl fun K' hK=>?_;go_simp;exact hK.out _ _ ⟨HI.out.pv Hi.out rfl,trivial⟩
     | 3,_,Hi =>
       have x2:=X2.g Hi.out (by kernel_rfl);refine au rfl fun K' hK=>?_;go_simp;exact hK.out _ _ ⟨HI.out.pv Hi.out rfl,trivial⟩
     | 4,_,Hi =>
       have x1:=X1.g Hi.out (by kernel_rfl);have x3:=X3.g Hi.out (by kernel_rfl);refine au rfl fun K' hK=>?_;go_simp;with_reducible refine(C1.out _ _ _ _ _ (R1.out.below HI.out.world) (R2.out.below HI.out.world)).mono ?_
       rintro e W' ⟨u0m,u0n,rfl,u0r,hb⟩;exact hK.out _ _ ⟨HI.out.pc Hi.out hb ⟨u0m,u0n,rfl,u0r⟩,trivial⟩
     | 5,_,Hi =>
       refine au rfl fun K' hK=>?_;go_simp;exact hK.out _ _ ⟨HI.out.pv Hi.out rfl,trivial⟩
     | 6,_,Hi =>
       have x5:=X5.g Hi.out (by kernel_rfl);refine au rfl fun K' hK=>?_;go_simp;exact hK.out _ _ ⟨HI.out.pv Hi.out rfl,trivial⟩
     | 7,_,Hi =>
       refine au rfl fun K' hK=>?_;go_simp;exact hK.out _ _ ⟨HI.out.pv Hi.out rfl,trivial⟩
     | 8,_,Hi =>
       have x7:=X7.g Hi.out (by kernel_rfl);refine au rfl fun K' hK=>?_;go_simp;exact hK.out _ _ ⟨HI.out.pv Hi.out rfl,trivial⟩
     | 9,_,Hi =>
       have x6:=X6.g Hi.out (by kernel_rfl);have x8:=X8.g Hi.out (by kernel_rfl);refine au rfl fun K' hK=>?_;go_simp;with_reducible refine(C2.out _ _ _ _ _ (T1.out.below HI.out.world) (T2.out.below HI.out.world)).mono ?_
       rintro e W' ⟨u0o,u0p,rfl,u0g,hb⟩;exact hK.out _ _ ⟨HI.out.pc Hi.out hb ⟨u0o,u0p,rfl,u0g⟩,trivial⟩
     | 10,_,Hi =>
       obtain⟨v',x4,u0m,u0n,e,u0r⟩:=HI.out.at (i:=4) Hi.out (by kernel_rfl) (by decide);obtain rfl:=e;have x4:a.tmps[9]? = some (.agg #[.bool (ah z),.slice u0m (aa z) u0n]):=x4;have u0V:=hid u0r;clear u0r;obtain⟨v',x9,u0o,u0p,e,u0g⟩:=HI.out.at (i:=9) Hi.out (by kernel_rfl) (by decide);obtain rfl:=e;have x9:a.tmps[14]? = some (.slice u0o (ag en) u0p):=x9;have u0v:=hid u0g;clear u0g;refine au rfl fun K' hK=>?_;go_simp;with_reducible refine(C3.out _ _ _ _ _ u0V.out u0v.out).mono ?_
       rintro e W' ⟨u06,u07,u08,u09,rfl,u0Q,u0R,hb⟩;exact hK.out _ _ ⟨HI.out.pc Hi.out hb ⟨u06,u07,u08,u09,rfl,u0Q,u0R⟩,trivial⟩
     | n+11,h,_=>exact absurd h (by omega)
   · intro listed a W hI hD hall
     obtain⟨v',x4,u0m,u0n,e,u0r⟩:=hI.slots 4 (by decide) (hall 4 (by decide));obtain rfl:=e;have u0V:=hid u0r;clear u0r;obtain⟨v',x9,u0o,u0p,e,u0g⟩:=hI.slots 9 (by decide) (hall 9 (by decide));obtain rfl:=e;have u0v:=hid u0g;clear u0g;obtain⟨v',x10,u06,u07,u08,u09,e,u0Q,u0R⟩:=hI.slots 10 (by decide) (hall 10 (by decide));obtain rfl:=e;have u17:=hid u0Q;clear u0Q;have u18:=hid u0R;clear u0R;have x10:a.tmps[15]? = some (.agg #[.bool (ah n),.slice u06 (aa n) u07,.slice u08 (ag dn) u09]):=x10;obtain ⟨HBW,HI,HA⟩:=ai hI.world hI hall;clear hI hall;obtain ⟨K3,HBX⟩:=aF (K3.out.below HBW.out) (HB0.out.trans (HBW.out.mono HB0.out.size));have RZ:=u0V;have RE:=u0v;have RQ:=u17;have TQ:=u18;have y4:a.tmps[4]? = some (.pointer (some ⟨w.heap.size+1+1,0,none⟩)):=HI.out.rest 4 (by decide);obtain ⟨dK30,dK31,dK32⟩:=aA K3.out rfl rfl rfl;obtain ⟨fK30,fK31,fK32⟩:=aZ K3.out;refine aR (t:=0) ?_;refine au rfl fun K' hK=>?_;go_simp;refine hK.out _ _ ?_;clear hK;refine bf ?_;have s0:∀ {v':Value} {n':Nat},RN W v' n'→RN (storeAll W (w.heap.size+1+1) 0 [.bool (ah n),.slice u06 (aa n) u07,.slice u08 (ag dn) u09]) v' n':=fun h'=>bz _ h' K3.out (by simp[bO]) (by simp[bA]);exact⟨rfl,u0m,u0n,u0o,u0p,u06,u07,u08,u09,(HI.out.finx ⟨HI.out.sx HA.out 0,HI.out.sx HA.out 1,HI.out.sx HA.out 2,HI.out.sx HA.out 3,x4,HI.out.sx HA.out 5,HI.out.sx HA.out 6,HI.out.sx HA.out 7,HI.out.sx HA.out 8,x9,x10,trivial⟩ rfl),(av (l:=[.bool (ah n),.slice u06 (aa n) u07,.slice u08 (ag dn) u09]) (i:=0) (by omega) HBX.out),(bS (l:=[.bool (ah n),.slice u06 (aa n) u07,.slice u08 (ag dn) u09]) (i:=0) K3.out),(s0 RQ.out),(s0 TQ.out)⟩
 rintro a' W1 ⟨u0m,u0n,u0o,u0p,u06,u07,u08,u09,rfl,z0,z1,z2,z3⟩;obtain ⟨HB1,K3,RQ,TQ⟩:=aG z0 z1 z2 z3;clear z0 z1 z2 z3;simp only[putL,List.setIfInBounds_toArray,List.set_cons_zero,List.set_cons_succ];go_wp2;obtain ⟨dK30,dK31,dK32⟩:=aA K3.out rfl rfl rfl;exact bodyPost_ret (v:=.agg #[.bool (ah n),.slice u06 (aa n) u07,.slice u08 (ag dn) u09]) (by simp[results,results36,go_sem,dK30,dK31,dK32]) rfl ⟨_,_,_,_,rfl,RQ.out,TQ.out,HB1.out⟩
end Go.Proofs.YtodcdibanokjjaaGreatDoor
