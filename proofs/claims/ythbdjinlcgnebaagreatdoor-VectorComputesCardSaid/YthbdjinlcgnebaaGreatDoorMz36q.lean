/- texts -/
import Derived.Test.YthbdjinlcgnebaaGreatDoorMz34q
open Go.Proofs.Tryz
set_option maxRecDepth 100000
set_option maxHeartbeats 20000000
open Go.Lib (hid)
namespace Go.Proofs.YthbdjinlcgnebaaGreatDoor
open Go.RowKit Go.Gb
theorem z1G (a0 x0 y0:ByteArray)(z:Int)(n:Nat)  (w:World)(h1:CQ 59 #[.string a0] (.tuple #[.string x0,.string y0,.bool false]))(h2:CQ 60 #[.string x0] (.bool true))(h3:CQ 61 #[.string y0] (.bool true))(h4:∀ W,CZ 63 #[.string x0] W z)(h5:∀ W,CN 64 #[.string y0] W n)  :
 Calls Tryz.prog 37 #[.string a0] w fun e w'=>∃ p c s d,e=.returned (.tuple #[.agg #[.bool (au z),.slice p (ah z) c,.slice s (ai n) d],.bool true])∧RN w' (.slice p (ah z) c) z.natAbs∧RN w' (.slice s (ai n) d) n∧Below w.heap.size w w':=by
 obtain ⟨C1,C2,C3,C4,C5⟩:=bI h1 h2 h3 h4 h5;clear h1 h2 h3 h4 h5;go_enter func37,ntmps37
 go_upto_region 1 with fail
 refine ak w [(#[.bool false,.slice none 0 0,.slice none 0 0],61)] rfl ?_;rintro W0 ⟨k1,hb⟩;have ol:=hid (show Below w.heap.size w W0 from hb);have K1:=hid k1;clear k1 hb;go_wp2_with fail
 with_reducible refine(C1.out _).mono ?_
 rintro e W1 ⟨rfl,hb⟩;have K1:=hid (K1.out.below hb);have wz:=hbt ol hb;clear hb;go_wp2_with fail
 with_reducible refine(C2.out _).mono ?_
 rintro e W2 ⟨rfl,hb⟩;have K1:=hid (K1.out.below hb);have sw:=hbt wz hb;clear hb;go_wp2_with fail
 with_reducible refine(C3.out _).mono ?_
 rintro e W3 ⟨rfl,hb⟩;have K1:=hid (K1.out.below hb);have oM:=hbt sw hb;clear hb;go_wp2_with fail
 with_reducible refine(C4.out _).mono ?_
 rintro e W4 ⟨w9,wo,rfl,rf,hb⟩;have K1:=hid (K1.out.below hb);have lv:=hbt oM hb;have RZ:=hid rf;clear hb rf;go_wp2_with fail
 with_reducible refine(C5.out _).mono ?_
 rintro e W5 ⟨rM,rV,rfl,mi,hb⟩;obtain ⟨K1,RZ⟩:=aO hb K1 RZ;have l5:=hbt lv hb;have RM:=hid mi;clear hb mi;go_upto_region 5 with fail
 refine ak W5 [(#[.bool (au z),.slice w9 (ah z) wo,.slice rM (ai n) rV],61)] rfl ?_;have L1:=K1.out.lt;have L2:=l5.out.size;rintro W6 ⟨k2,hb⟩;have hb:Below W5.heap.size W5 W6:=hb;obtain ⟨K1,RZ,RM⟩:=aZ hb K1 RZ RM;have gy:=hbt l5 hb;have K2:=hid k2;clear k2 hb;obtain ⟨kV,oV,wu⟩:=ag K2.out rfl rfl rfl;obtain ⟨l6,lg,p8⟩:=ag K1.out rfl rfl rfl;obtain ⟨u01,u02,u03⟩:=aN K1.out;go_wp2;exact bodyPost_ret (v:=.tuple #[.agg #[.bool (au z),.slice w9 (ah z) wo,.slice rM (ai n) rV],.bool true]) (by simp[results,results37,go_sem,l6,lg,p8]) rfl ⟨_,_,_,_,rfl,(bB [.bool (au z),.slice w9 (ah z) wo,.slice rM (ai n) rV] RZ.out K1.out (by simp[bZ]) (by simp[bD])),(bB [.bool (au z),.slice w9 (ah z) wo,.slice rM (ai n) rV] RM.out K1.out (by simp[bZ]) (by simp[bD])),(av (l:=[.bool (au z),.slice w9 (ah z) wo,.slice rM (ai n) rV]) (i:=0) (by omega) gy.out)⟩
theorem sK (a0 x0 y0:ByteArray)(zz:Int)(dz:Nat)(sl:Bool)  (w:World)(h1:CQ 59 #[.string a0] (.tuple #[.string x0,.string y0,.bool sl]))(h2:CQ 60 #[.string x0] (.bool false))(h11:∀ W,CF 62 #[.int .i64 0] W zz dz)  :
 Calls Tryz.prog 37 #[.string a0] w fun e w'=>∃ p c s d,e=.returned (.tuple #[.agg #[.bool (au zz),.slice p (ah zz) c,.slice s (ai dz) d],.bool false])∧RN w' (.slice p (ah zz) c) zz.natAbs∧RN w' (.slice s (ai dz) d) dz∧Below w.heap.size w w':=by
 obtain ⟨C1,C2,C11⟩:=ae h1 h2 h11;clear h1 h2 h11;go_enter func37,ntmps37
 go_upto_region 1 with fail
 refine ak w [(#[.bool false,.slice none 0 0,.slice none 0 0],61)] rfl ?_;rintro W0 ⟨k1,hb⟩;have ol:=hid (show Below w.heap.size w W0 from hb);have K1:=hid k1;clear k1 hb;go_wp2_with fail
 with_reducible refine(C1.out _).mono ?_
 rintro e W1 ⟨rfl,hb⟩;have K1:=hid (K1.out.below hb);have wz:=hbt ol hb;clear hb;go_wp2_with fail
 with_reducible refine(C2.out _).mono ?_
 rintro e W2 ⟨rfl,hb⟩;have K1:=hid (K1.out.below hb);have sw:=hbt wz hb;clear hb;go_wp2_with fail
 with_reducible refine(C11.out _).mono ?_
 rintro e W3 ⟨p_3,c_3,s_3,d_3,rfl,u0B,u0C,hb⟩;have K1:=hid (K1.out.below hb);have oM:=hbt sw hb;have RQ:=hid u0B;have TQ:=hid u0C;clear hb u0B u0C;obtain ⟨l6,lg,p8⟩:=ag K1.out rfl rfl rfl;obtain ⟨u01,u02,u03⟩:=aN K1.out;go_wp2;exact bodyPost_ret (v:=.tuple #[.agg #[.bool (au zz),.slice p_3 (ah zz) c_3,.slice s_3 (ai dz) d_3],.bool false]) (by simp[results,results37,go_sem,l6,lg,p8]) rfl ⟨_,_,_,_,rfl,(bB [.bool (au zz),.slice p_3 (ah zz) c_3,.slice s_3 (ai dz) d_3] RQ.out K1.out (by simp[bZ]) (by simp[bD])),(bB [.bool (au zz),.slice p_3 (ah zz) c_3,.slice s_3 (ai dz) d_3] TQ.out K1.out (by simp[bZ]) (by simp[bD])),(av (l:=[.bool (au zz),.slice p_3 (ah zz) c_3,.slice s_3 (ai dz) d_3]) (i:=0) (by omega) oM.out)⟩
theorem z0h (a0 x0 y0:ByteArray)(zz:Int)(dz:Nat)(sl:Bool)  (w:World)(h1:CQ 59 #[.string a0] (.tuple #[.string x0,.string y0,.bool sl]))(h2:CQ 60 #[.string x0] (.bool true))(h3:CQ 61 #[.string y0] (.bool false))(h11:∀ W,CF 62 #[.int .i64 0] W zz dz)  :
 Calls Tryz.prog 37 #[.string a0] w fun e w'=>∃ p c s d,e=.returned (.tuple #[.agg #[.bool (au zz),.slice p (ah zz) c,.slice s (ai dz) d],.bool false])∧RN w' (.slice p (ah zz) c) zz.natAbs∧RN w' (.slice s (ai dz) d) dz∧Below w.heap.size w w':=by
 obtain ⟨C1,C2,C3,C11⟩:=aP h1 h2 h3 h11;clear h1 h2 h3 h11;go_enter func37,ntmps37
 go_upto_region 1 with fail
 refine ak w [(#[.bool false,.slice none 0 0,.slice none 0 0],61)] rfl ?_;rintro W0 ⟨k1,hb⟩;have ol:=hid (show Below w.heap.size w W0 from hb);have K1:=hid k1;clear k1 hb;go_wp2_with fail
 with_reducible refine(C1.out _).mono ?_
 rintro e W1 ⟨rfl,hb⟩;have K1:=hid (K1.out.below hb);have wz:=hbt ol hb;clear hb;go_wp2_with fail
 with_reducible refine(C2.out _).mono ?_
 rintro e W2 ⟨rfl,hb⟩;have K1:=hid (K1.out.below hb);have sw:=hbt wz hb;clear hb;go_wp2_with fail
 with_reducible refine(C3.out _).mono ?_
 rintro e W3 ⟨rfl,hb⟩;have K1:=hid (K1.out.below hb);have oM:=hbt sw hb;clear hb;go_wp2_with fail
 with_reducible refine(C11.out _).mono ?_
 rintro e W4 ⟨w9,wo,s_4,d_4,rfl,rf,u0D,hb⟩;have K1:=hid (K1.out.below hb);have lv:=hbt oM hb;have RQ:=hid rf;have TQ:=hid u0D;clear hb rf u0D;obtain ⟨l6,lg,p8⟩:=ag K1.out rfl rfl rfl;obtain ⟨u01,u02,u03⟩:=aN K1.out;go_wp2;exact bodyPost_ret (v:=.tuple #[.agg #[.bool (au zz),.slice w9 (ah zz) wo,.slice s_4 (ai dz) d_4],.bool false]) (by simp[results,results37,go_sem,l6,lg,p8]) rfl ⟨_,_,_,_,rfl,(bB [.bool (au zz),.slice w9 (ah zz) wo,.slice s_4 (ai dz) d_4] RQ.out K1.out (by simp[bZ]) (by simp[bD])),(bB [.bool (au zz),.slice w9 (ah zz) wo,.slice s_4 (ai dz) d_4] TQ.out K1.out (by simp[bZ]) (by simp[bD])),(av (l:=[.bool (au zz),.slice w9 (ah zz) wo,.slice s_4 (ai dz) d_4]) (i:=0) (by omega) lv.out)⟩
theorem z0g (a0 x0 y0:ByteArray)(z k sg:Int)(n one g:Nat)(hk:0<k)(hsg:sg≠0)  (w:World)(h1:CQ 59 #[.string a0] (.tuple #[.string x0,.string y0,.bool true]))(h2:CQ 60 #[.string x0] (.bool true))(h3:CQ 61 #[.string y0] (.bool true))(h4:∀ W,CZ 63 #[.string x0] W z)(h5:∀ W,CN 64 #[.string y0] W n)(h6:∀ W,CN 65 #[.int .u32 1] W one)(h7:∀ s1 d1 s2 d2 W,RN W (.slice s1 (ai n) d1) n→RN W (.slice s2 (ai one) d2) one→CR 66 #[.slice s1 (ai n) d1,.slice s2 (ai one) d2] W (.int .i64 k))(h8:∀ p1 c1 W,RN W (.slice p1 (ah z) c1) z.natAbs→CR 67 #[.agg #[.bool (au z),.slice p1 (ah z) c1]] W (.int .i64 sg))(h9:∀ p1 c1 s2 d2 W,RN W (.slice p1 (ah z) c1) z.natAbs→RN W (.slice s2 (ai n) d2) n→CN 68 #[.slice p1 (ah z) c1,.slice s2 (ai n) d2] W g)(h10:∀ s1 d1 s2 d2 W,RN W (.slice s1 (ai g) d1) g→RN W (.slice s2 (ai one) d2) one→CR 66 #[.slice s1 (ai g) d1,.slice s2 (ai one) d2] W (.int .i64 0))  :
 Calls Tryz.prog 37 #[.string a0] w fun e w'=>∃ p c s d,e=.returned (.tuple #[.agg #[.bool (au z),.slice p (ah z) c,.slice s (ai n) d],.bool true])∧RN w' (.slice p (ah z) c) z.natAbs∧RN w' (.slice s (ai n) d) n∧Below w.heap.size w w':=by
 obtain ⟨C1,C2,C3,C4,C5,C6,C7,C8,C9⟩:=bR h1 h2 h3 h4 h5 h6 h7 h8 h9;have C10:=hid h10;have k0:decide (0<k)=true:=decide_eq_true hk;have k1:0<k:=hk;clear hk;have s0:(sg==0)=false:=by rw[beq_eq_false_iff_ne];exact hsg
 have s1:¬ sg=0:=hsg;have s2:(sg != 0)=true:=by unfold bne;rw[s0];rfl
 have s3:decide (sg=0)=false:=decide_eq_false hsg;clear hsg h1 h2 h3 h4 h5 h6 h7 h8 h9 h10;go_enter func37,ntmps37
 go_upto_region 1 with fail
 refine ak w [(#[.bool false,.slice none 0 0,.slice none 0 0],61)] rfl ?_;rintro W0 ⟨k1,hb⟩;have ol:=hid (show Below w.heap.size w W0 from hb);have K1:=hid k1;clear k1 hb;go_wp2_with fail
 with_reducible refine(C1.out _).mono ?_
 rintro e W1 ⟨rfl,hb⟩;have K1:=hid (K1.out.below hb);have wz:=hbt ol hb;clear hb;go_wp2_with fail
 with_reducible refine(C2.out _).mono ?_
 rintro e W2 ⟨rfl,hb⟩;have K1:=hid (K1.out.below hb);have sw:=hbt wz hb;clear hb;go_wp2_with fail
 with_reducible refine(C3.out _).mono ?_
 rintro e W3 ⟨rfl,hb⟩;have K1:=hid (K1.out.below hb);have oM:=hbt sw hb;clear hb;go_wp2_with fail
 with_reducible refine(C4.out _).mono ?_
 rintro e W4 ⟨w9,wo,rfl,rf,hb⟩;have K1:=hid (K1.out.below hb);have lv:=hbt oM hb;have RZ:=hid rf;clear hb rf;go_wp2_with fail
 with_reducible refine(C5.out _).mono ?_
 rintro e W5 ⟨rM,rV,rfl,mi,hb⟩;obtain ⟨K1,RZ⟩:=aO hb K1 RZ;have l5:=hbt lv hb;have RM:=hid mi;clear hb mi;go_upto_region 5 with fail
 refine ak W5 [(#[.bool (au z),.slice w9 (ah z) wo,.slice rM (ai n) rV],61)] rfl ?_;have L1:=K1.out.lt;have L2:=l5.out.size;rintro W6 ⟨k2,hb⟩;have hb:Below W5.heap.size W5 W6:=hb;obtain ⟨K1,RZ,RM⟩:=aZ hb K1 RZ RM;have gy:=hbt l5 hb;have K2:=hid k2;clear k2 hb;go_wp2_with fail
 with_reducible refine(C6.out _).mono ?_
 rintro e W7 ⟨p_6,c_6,rfl,kM,hb⟩;obtain ⟨K1,K2,RZ,RM⟩:=bi hb K1 K2 RZ RM;have bq:=hbt gy hb;have RO:=hid kM;clear hb kM;have wu:=K2.out.cell (i:=2) rfl;go_wp2_with fail
 with_reducible refine(C7.out _ _ _ _ _ RM.out RO.out).mono ?_
 rintro e W8 ⟨rfl,hb⟩;clear wu;obtain ⟨K1,K2,RZ,RM,RO⟩:=bS hb K1 K2 RZ RM RO;have bu:=hbt bq hb;clear hb;obtain ⟨kV,oV⟩:=bH K2.out rfl rfl;go_wp2_with fail
 with_reducible refine(C8.out _ _ _ RZ.out).mono ?_
 rintro e W9 ⟨rfl,hb⟩;clear kV oV;obtain ⟨K1,K2,RZ,RM,RO⟩:=bS hb K1 K2 RZ RM RO;have bv:=hbt bu hb;clear hb;have oV:=K2.out.cell (i:=1) rfl;have wu:=K2.out.cell (i:=2) rfl;go_wp2_with fail
 with_reducible refine(C9.out _ _ _ _ _ RZ.out RM.out).mono ?_
 rintro e W10 ⟨p_9,c_9,rfl,fQ,hb⟩;clear oV wu;obtain ⟨K1,K2,RZ,RM,RO⟩:=bS hb K1 K2 RZ RM RO;have u07:=hbt bv hb;have RG:=hid fQ;clear hb fQ;go_wp2_with fail
 with_reducible refine(C10.out _ _ _ _ _ RG.out RO.out).mono ?_
 rintro e W11 ⟨rfl,hb⟩;obtain ⟨K1,K2,RZ,RM⟩:=bi hb K1 K2 RZ RM;have u0w:=hbt u07 hb;clear hb;obtain ⟨kV,oV,wu⟩:=ag K2.out rfl rfl rfl;obtain ⟨l6,lg,p8⟩:=ag K1.out rfl rfl rfl;obtain ⟨u01,u02,u03⟩:=aN K1.out;go_wp2;exact bodyPost_ret (v:=.tuple #[.agg #[.bool (au z),.slice w9 (ah z) wo,.slice rM (ai n) rV],.bool true]) (by simp[results,results37,go_sem,l6,lg,p8]) rfl ⟨_,_,_,_,rfl,(bB [.bool (au z),.slice w9 (ah z) wo,.slice rM (ai n) rV] RZ.out K1.out (by simp[bZ]) (by simp[bD])),(bB [.bool (au z),.slice w9 (ah z) wo,.slice rM (ai n) rV] RM.out K1.out (by simp[bZ]) (by simp[bD])),(av (l:=[.bool (au z),.slice w9 (ah z) wo,.slice rM (ai n) rV]) (i:=0) (by omega) u0w.out)⟩
theorem yh (a0 x0 y0:ByteArray)(z k zz:Int)(n one dz:Nat)(hk:k≤0)  (w:World)(h1:CQ 59 #[.string a0] (.tuple #[.string x0,.string y0,.bool true]))(h2:CQ 60 #[.string x0] (.bool true))(h3:CQ 61 #[.string y0] (.bool true))(h4:∀ W,CZ 63 #[.string x0] W z)(h5:∀ W,CN 64 #[.string y0] W n)(h6:∀ W,CN 65 #[.int .u32 1] W one)(h7:∀ s1 d1 s2 d2 W,RN W (.slice s1 (ai n) d1) n→RN W (.slice s2 (ai one) d2) one→CR 66 #[.slice s1 (ai n) d1,.slice s2 (ai one) d2] W (.int .i64 k))(h11:∀ W,CF 62 #[.int .i64 0] W zz dz)  :
 Calls Tryz.prog 37 #[.string a0] w fun e w'=>∃ p c s d,e=.returned (.tuple #[.agg #[.bool (au zz),.slice p (ah zz) c,.slice s (ai dz) d],.bool false])∧RN w' (.slice p (ah zz) c) zz.natAbs∧RN w' (.slice s (ai dz) d) dz∧Below w.heap.size w w':=by
 obtain ⟨C1,C2,C3,C4,C5,C6,C7,C11⟩:=mJ h1 h2 h3 h4 h5 h6 h7 h11;have k0:decide (0<k)=false:=decide_eq_false (by omega);have k1:k≤0:=hk;clear hk h1 h2 h3 h4 h5 h6 h7 h11;go_enter func37,ntmps37
 go_upto_region 1 with fail
 refine ak w [(#[.bool false,.slice none 0 0,.slice none 0 0],61)] rfl ?_;rintro W0 ⟨k1,hb⟩;have ol:=hid (show Below w.heap.size w W0 from hb);have K1:=hid k1;clear k1 hb;go_wp2_with fail
 with_reducible refine(C1.out _).mono ?_
 rintro e W1 ⟨rfl,hb⟩;have K1:=hid (K1.out.below hb);have wz:=hbt ol hb;clear hb;go_wp2_with fail
 with_reducible refine(C2.out _).mono ?_
 rintro e W2 ⟨rfl,hb⟩;have K1:=hid (K1.out.below hb);have sw:=hbt wz hb;clear hb;go_wp2_with fail
 with_reducible refine(C3.out _).mono ?_
 rintro e W3 ⟨rfl,hb⟩;have K1:=hid (K1.out.below hb);have oM:=hbt sw hb;clear hb;go_wp2_with fail
 with_reducible refine(C4.out _).mono ?_
 rintro e W4 ⟨w9,wo,rfl,rf,hb⟩;have K1:=hid (K1.out.below hb);have lv:=hbt oM hb;have RZ:=hid rf;clear hb rf;go_wp2_with fail
 with_reducible refine(C5.out _).mono ?_
 rintro e W5 ⟨rM,rV,rfl,mi,hb⟩;have K1:=hid (K1.out.below hb);have l5:=hbt lv hb;have RM:=hid mi;clear hb mi;go_upto_region 5 with fail
 refine ak W5 [(#[.bool (au z),.slice w9 (ah z) wo,.slice rM (ai n) rV],61)] rfl ?_;have L1:=K1.out.lt;have L2:=l5.out.size;rintro W6 ⟨k2,hb⟩;have hb:Below W5.heap.size W5 W6:=hb;obtain ⟨K1,RM⟩:=aO hb K1 RM;have gy:=hbt l5 hb;have K2:=hid k2;clear k2 hb;go_wp2_with fail
 with_reducible refine(C6.out _).mono ?_
 rintro e W7 ⟨p_6,c_6,rfl,kM,hb⟩;obtain ⟨K1,K2,RM⟩:=aZ hb K1 K2 RM;have bq:=hbt gy hb;have RO:=hid kM;clear hb kM;have wu:=K2.out.cell (i:=2) rfl;go_wp2_with fail
 with_reducible refine(C7.out _ _ _ _ _ RM.out RO.out).mono ?_
 rintro e W8 ⟨rfl,hb⟩;clear wu;obtain ⟨K1,K2⟩:=aO hb K1 K2;have bu:=hbt bq hb;clear hb;obtain ⟨kV,oV,wu⟩:=ag K2.out rfl rfl rfl;go_wp2_with fail
 with_reducible refine(C11.out _).mono ?_
 rintro e W9 ⟨p_8,c_8,s_8,d_8,rfl,u0E,u0F,hb⟩;clear kV oV wu;have K1:=hid (K1.out.below hb);have bv:=hbt bu hb;have RQ:=hid u0E;have TQ:=hid u0F;clear hb u0E u0F;obtain ⟨l6,lg,p8⟩:=ag K1.out rfl rfl rfl;obtain ⟨u01,u02,u03⟩:=aN K1.out;go_wp2;exact bodyPost_ret (v:=.tuple #[.agg #[.bool (au zz),.slice p_8 (ah zz) c_8,.slice s_8 (ai dz) d_8],.bool false]) (by simp[results,results37,go_sem,l6,lg,p8]) rfl ⟨_,_,_,_,rfl,(bB [.bool (au zz),.slice p_8 (ah zz) c_8,.slice s_8 (ai dz) d_8] RQ.out K1.out (by simp[bZ]) (by simp[bD])),(bB [.bool (au zz),.slice p_8 (ah zz) c_8,.slice s_8 (ai dz) d_8] TQ.out K1.out (by simp[bZ]) (by simp[bD])),(av (l:=[.bool (au zz),.slice p_8 (ah zz) c_8,.slice s_8 (ai dz) d_8]) (i:=0) (by omega) bv.out)⟩
theorem z0f (a0 x0 y0:ByteArray)(z k zz:Int)(n one dz:Nat)(hk:0<k)  (w:World)(h1:CQ 59 #[.string a0] (.tuple #[.string x0,.string y0,.bool true]))(h2:CQ 60 #[.string x0] (.bool true))(h3:CQ 61 #[.string y0] (.bool true))(h4:∀ W,CZ 63 #[.string x0] W z)(h5:∀ W,CN 64 #[.string y0] W n)(h6:∀ W,CN 65 #[.int .u32 1] W one)(h7:∀ s1 d1 s2 d2 W,RN W (.slice s1 (ai n) d1) n→RN W (.slice s2 (ai one) d2) one→CR 66 #[.slice s1 (ai n) d1,.slice s2 (ai one) d2] W (.int .i64 k))(h8:∀ p1 c1 W,RN W (.slice p1 (ah z) c1) z.natAbs→CR 67 #[.agg #[.bool (au z),.slice p1 (ah z) c1]] W (.int .i64 0))(h11:∀ W,CF 62 #[.int .i64 0] W zz dz)  :
 Calls Tryz.prog 37 #[.string a0] w fun e w'=>∃ p c s d,e=.returned (.tuple #[.agg #[.bool (au zz),.slice p (ah zz) c,.slice s (ai dz) d],.bool false])∧RN w' (.slice p (ah zz) c) zz.natAbs∧RN w' (.slice s (ai dz) d) dz∧Below w.heap.size w w':=by
 obtain ⟨C1,C2,C3,C4,C5,C6,C7,C8,C11⟩:=bR h1 h2 h3 h4 h5 h6 h7 h8 h11;have k0:decide (0<k)=true:=decide_eq_true hk;have k1:0<k:=hk;clear hk h1 h2 h3 h4 h5 h6 h7 h8 h11;go_enter func37,ntmps37
 go_upto_region 1 with fail
 refine ak w [(#[.bool false,.slice none 0 0,.slice none 0 0],61)] rfl ?_;rintro W0 ⟨k1,hb⟩;have ol:=hid (show Below w.heap.size w W0 from hb);have K1:=hid k1;clear k1 hb;go_wp2_with fail
 with_reducible refine(C1.out _).mono ?_
 rintro e W1 ⟨rfl,hb⟩;have K1:=hid (K1.out.below hb);have wz:=hbt ol hb;clear hb;go_wp2_with fail
 with_reducible refine(C2.out _).mono ?_
 rintro e W2 ⟨rfl,hb⟩;have K1:=hid (K1.out.below hb);have sw:=hbt wz hb;clear hb;go_wp2_with fail
 with_reducible refine(C3.out _).mono ?_
 rintro e W3 ⟨rfl,hb⟩;have K1:=hid (K1.out.below hb);have oM:=hbt sw hb;clear hb;go_wp2_with fail
 with_reducible refine(C4.out _).mono ?_
 rintro e W4 ⟨w9,wo,rfl,rf,hb⟩;have K1:=hid (K1.out.below hb);have lv:=hbt oM hb;have RZ:=hid rf;clear hb rf;go_wp2_with fail
 with_reducible refine(C5.out _).mono ?_
 rintro e W5 ⟨rM,rV,rfl,mi,hb⟩;obtain ⟨K1,RZ⟩:=aO hb K1 RZ;have l5:=hbt lv hb;have RM:=hid mi;clear hb mi;go_upto_region 5 with fail
 refine ak W5 [(#[.bool (au z),.slice w9 (ah z) wo,.slice rM (ai n) rV],61)] rfl ?_;have L1:=K1.out.lt;have L2:=l5.out.size;rintro W6 ⟨k2,hb⟩;have hb:Below W5.heap.size W5 W6:=hb;obtain ⟨K1,RZ,RM⟩:=aZ hb K1 RZ RM;have gy:=hbt l5 hb;have K2:=hid k2;clear k2 hb;go_wp2_with fail
 with_reducible refine(C6.out _).mono ?_
 rintro e W7 ⟨p_6,c_6,rfl,kM,hb⟩;obtain ⟨K1,K2,RZ,RM⟩:=bi hb K1 K2 RZ RM;have bq:=hbt gy hb;have RO:=hid kM;clear hb kM;have wu:=K2.out.cell (i:=2) rfl;go_wp2_with fail
 with_reducible refine(C7.out _ _ _ _ _ RM.out RO.out).mono ?_
 rintro e W8 ⟨rfl,hb⟩;clear wu;obtain ⟨K1,K2,RZ⟩:=aZ hb K1 K2 RZ;have bu:=hbt bq hb;clear hb;obtain ⟨kV,oV⟩:=bH K2.out rfl rfl;go_wp2_with fail
 with_reducible refine(C8.out _ _ _ RZ.out).mono ?_
 rintro e W9 ⟨rfl,hb⟩;clear kV oV;obtain ⟨K1,K2⟩:=aO hb K1 K2;have bv:=hbt bu hb;clear hb;have oV:=K2.out.cell (i:=1) rfl;have wu:=K2.out.cell (i:=2) rfl;go_wp2_with fail
 with_reducible refine(C11.out _).mono ?_
 rintro e W10 ⟨p_9,c_9,s_9,d_9,rfl,fQ,u0G,hb⟩;clear oV wu;have K1:=hid (K1.out.below hb);have u07:=hbt bv hb;have RQ:=hid fQ;have TQ:=hid u0G;clear hb fQ u0G;obtain ⟨l6,lg,p8⟩:=ag K1.out rfl rfl rfl;obtain ⟨u01,u02,u03⟩:=aN K1.out;go_wp2;exact bodyPost_ret (v:=.tuple #[.agg #[.bool (au zz),.slice p_9 (ah zz) c_9,.slice s_9 (ai dz) d_9],.bool false]) (by simp[results,results37,go_sem,l6,lg,p8]) rfl ⟨_,_,_,_,rfl,(bB [.bool (au zz),.slice p_9 (ah zz) c_9,.slice s_9 (ai dz) d_9] RQ.out K1.out (by simp[bZ]) (by simp[bD])),(bB [.bool (au zz),.slice p_9 (ah zz) c_9,.slice s_9 (ai dz) d_9] TQ.out K1.out (by simp[bZ]) (by simp[bD])),(av (l:=[.bool (au zz),.slice p_9 (ah zz) c_9,.slice s_9 (ai dz) d_9]) (i:=0) (by omega) u07.out)⟩
theorem uK (a0 x0 y0:ByteArray)(z k k2 sg zz:Int)(n one g dz:Nat)(hk:0<k)(hsg:sg≠0)(hk2:k2≠0)  (w:World)(h1:CQ 59 #[.string a0] (.tuple #[.string x0,.string y0,.bool true]))(h2:CQ 60 #[.string x0] (.bool true))(h3:CQ 61 #[.string y0] (.bool true))(h4:∀ W,CZ 63 #[.string x0] W z)(h5:∀ W,CN 64 #[.string y0] W n)(h6:∀ W,CN 65 #[.int .u32 1] W one)(h7:∀ s1 d1 s2 d2 W,RN W (.slice s1 (ai n) d1) n→RN W (.slice s2 (ai one) d2) one→CR 66 #[.slice s1 (ai n) d1,.slice s2 (ai one) d2] W (.int .i64 k))(h8:∀ p1 c1 W,RN W (.slice p1 (ah z) c1) z.natAbs→CR 67 #[.agg #[.bool (au z),.slice p1 (ah z) c1]] W (.int .i64 sg))(h9:∀ p1 c1 s2 d2 W,RN W (.slice p1 (ah z) c1) z.natAbs→RN W (.slice s2 (ai n) d2) n→CN 68 #[.slice p1 (ah z) c1,.slice s2 (ai n) d2] W g)(h10:∀ s1 d1 s2 d2 W,RN W (.slice s1 (ai g) d1) g→RN W (.slice s2 (ai one) d2) one→CR 66 #[.slice s1 (ai g) d1,.slice s2 (ai one) d2] W (.int .i64 k2))(h11:∀ W,CF 62 #[.int .i64 0] W zz dz)  :
 Calls Tryz.prog 37 #[.string a0] w fun e w'=>∃ p c s d,e=.returned (.tuple #[.agg #[.bool (au zz),.slice p (ah zz) c,.slice s (ai dz) d],.bool false])∧RN w' (.slice p (ah zz) c) zz.natAbs∧RN w' (.slice s (ai dz) d) dz∧Below w.heap.size w w':=by
 obtain ⟨C1,C2,C3,C4,C5,C6,C7,C8,C9⟩:=bR h1 h2 h3 h4 h5 h6 h7 h8 h9;have C10:=hid h10;have C11:=hid h11;have k0:decide (0<k)=true:=decide_eq_true hk;have k1:0<k:=hk;clear hk;have s0:(sg==0)=false:=by rw[beq_eq_false_iff_ne];exact hsg
 have s1:¬ sg=0:=hsg;have s2:(sg != 0)=true:=by unfold bne;rw[s0];rfl
 have s3:decide (sg=0)=false:=decide_eq_false hsg;clear hsg;have q0:(k2==0)=false:=by rw[beq_eq_false_iff_ne];exact hk2
 have q1:¬ k2=0:=hk2;clear hk2 h1 h2 h3 h4 h5 h6 h7 h8 h9 h10 h11;go_enter func37,ntmps37
 go_upto_region 1 with fail
 refine ak w [(#[.bool false,.slice none 0 0,.slice none 0 0],61)] rfl ?_;rintro W0 ⟨k1,hb⟩;have ol:=hid (show Below w.heap.size w W0 from hb);have K1:=hid k1;clear k1 hb;go_wp2_with fail
 with_reducible refine(C1.out _).mono ?_
 rintro e W1 ⟨rfl,hb⟩;have K1:=hid (K1.out.below hb);have wz:=hbt ol hb;clear hb;go_wp2_with fail
 with_reducible refine(C2.out _).mono ?_
 rintro e W2 ⟨rfl,hb⟩;have K1:=hid (K1.out.below hb);have sw:=hbt wz hb;clear hb;go_wp2_with fail
 with_reducible refine(C3.out _).mono ?_
 rintro e W3 ⟨rfl,hb⟩;have K1:=hid (K1.out.below hb);have oM:=hbt sw hb;clear hb;go_wp2_with fail
 with_reducible refine(C4.out _).mono ?_
 rintro e W4 ⟨w9,wo,rfl,rf,hb⟩;have K1:=hid (K1.out.below hb);have lv:=hbt oM hb;have RZ:=hid rf;clear hb rf;go_wp2_with fail
 with_reducible refine(C5.out _).mono ?_
 rintro e W5 ⟨rM,rV,rfl,mi,hb⟩;obtain ⟨K1,RZ⟩:=aO hb K1 RZ;have l5:=hbt lv hb;have RM:=hid mi;clear hb mi;go_upto_region 5 with fail
 refine ak W5 [(#[.bool (au z),.slice w9 (ah z) wo,.slice rM (ai n) rV],61)] rfl ?_;have L1:=K1.out.lt;have L2:=l5.out.size;rintro W6 ⟨k2,hb⟩;have hb:Below W5.heap.size W5 W6:=hb;obtain ⟨K1,RZ,RM⟩:=aZ hb K1 RZ RM;have gy:=hbt l5 hb;have K2:=hid k2;clear k2 hb;go_wp2_with fail
 with_reducible refine(C6.out _).mono ?_
 rintro e W7 ⟨p_6,c_6,rfl,kM,hb⟩;obtain ⟨K1,K2,RZ,RM⟩:=bi hb K1 K2 RZ RM;have bq:=hbt gy hb;have RO:=hid kM;clear hb kM;have wu:=K2.out.cell (i:=2) rfl;go_wp2_with fail
 with_reducible refine(C7.out _ _ _ _ _ RM.out RO.out).mono ?_
 rintro e W8 ⟨rfl,hb⟩;clear wu;obtain ⟨K1,K2,RZ,RM,RO⟩:=bS hb K1 K2 RZ RM RO;have bu:=hbt bq hb;clear hb;obtain ⟨kV,oV⟩:=bH K2.out rfl rfl;go_wp2_with fail
 with_reducible refine(C8.out _ _ _ RZ.out).mono ?_
 rintro e W9 ⟨rfl,hb⟩;clear kV oV;obtain ⟨K1,K2,RZ,RM,RO⟩:=bS hb K1 K2 RZ RM RO;have bv:=hbt bu hb;clear hb;have oV:=K2.out.cell (i:=1) rfl;have wu:=K2.out.cell (i:=2) rfl;go_wp2_with fail
 with_reducible refine(C9.out _ _ _ _ _ RZ.out RM.out).mono ?_
 rintro e W10 ⟨p_9,c_9,rfl,fQ,hb⟩;clear oV wu;obtain ⟨K1,RO⟩:=aO hb K1 RO;have u07:=hbt bv hb;have RG:=hid fQ;clear hb fQ;go_wp2_with fail
 with_reducible refine(C10.out _ _ _ _ _ RG.out RO.out).mono ?_
 rintro e W11 ⟨rfl,hb⟩;have K1:=hid (K1.out.below hb);have u0w:=hbt u07 hb;clear hb;go_wp2_with fail
 with_reducible refine(C11.out _).mono ?_
 rintro e W12 ⟨u0m,u0n,u0o,u0p,rfl,u0H,u0I,hb⟩;have K1:=hid (K1.out.below hb);have u0Q:=hbt u0w hb;have RQ:=hid u0H;have TQ:=hid u0I;clear hb u0H u0I;obtain ⟨l6,lg,p8⟩:=ag K1.out rfl rfl rfl;obtain ⟨u01,u02,u03⟩:=aN K1.out;go_wp2;exact bodyPost_ret (v:=.tuple #[.agg #[.bool (au zz),.slice u0m (ah zz) u0n,.slice u0o (ai dz) u0p],.bool false]) (by simp[results,results37,go_sem,l6,lg,p8]) rfl ⟨_,_,_,_,rfl,(bB [.bool (au zz),.slice u0m (ah zz) u0n,.slice u0o (ai dz) u0p] RQ.out K1.out (by simp[bZ]) (by simp[bD])),(bB [.bool (au zz),.slice u0m (ah zz) u0n,.slice u0o (ai dz) u0p] TQ.out K1.out (by simp[bZ]) (by simp[bD])),(av (l:=[.bool (au zz),.slice u0m (ah zz) u0n,.slice u0o (ai dz) u0p]) (i:=0) (by omega) u0Q.out)⟩
open Go.Lib (hid)
theorem xR (n1 n2 x y z n k:Int)(en1 en2 en dn ua ub:Nat)(hk:k≠0)(p1:Option Addr)(c1:Nat)(s1:Option Addr)(d1:Nat)(p2:Option Addr)(c2:Nat)(s2:Option Addr)(d2:Nat)(w:World)(h0:∀ s1 d1 s2 d2 W,RN W (.slice s1 (ai en1) d1) en1→RN W (.slice s2 (ai en2) d2) en2→CR 66 #[.slice s1 (ai en1) d1,.slice s2 (ai en2) d2] W (.int .i64 k))(h1:∀ p1 c1 s2 d2 W,RN W (.slice p1 (ah n1) c1) n1.natAbs→RN W (.slice s2 (ai en2) d2) en2→CN 80 #[.slice p1 (ah n1) c1,.slice s2 (ai en2) d2] W ua)(h2:∀ s2 d2 W,RN W (.slice s2 (ai ua) d2) ua→CZ 79 #[.bool (au n1),.slice s2 (ai ua) d2] W x)(h3:∀ p1 c1 s2 d2 W,RN W (.slice p1 (ah n2) c1) n2.natAbs→RN W (.slice s2 (ai en1) d2) en1→CN 80 #[.slice p1 (ah n2) c1,.slice s2 (ai en1) d2] W ub)(h4:∀ s2 d2 W,RN W (.slice s2 (ai ub) d2) ub→CZ 79 #[.bool (au n2),.slice s2 (ai ub) d2] W y)(h5:∀ p1 c1 p2 c2 W,RN W (.slice p1 (ah x) c1) x.natAbs→RN W (.slice p2 (ah y) c2) y.natAbs→CZ 78 #[.agg #[.bool (au x),.slice p1 (ah x) c1],.agg #[.bool (au y),.slice p2 (ah y) c2]] W z)(h6:∀ s1 d1 s2 d2 W,RN W (.slice s1 (ai en1) d1) en1→RN W (.slice s2 (ai en2) d2) en2→CN 80 #[.slice s1 (ai en1) d1,.slice s2 (ai en2) d2] W en)(h7:∀ p1 c1 s2 d2 W,RN W (.slice p1 (ah z) c1) z.natAbs→RN W (.slice s2 (ai en) d2) en→CF 77 #[.agg #[.bool (au z),.slice p1 (ah z) c1],.slice s2 (ai en) d2] W n dn)(r1:RN w (.slice p1 (ah n1) c1) n1.natAbs)(t1:RN w (.slice s1 (ai en1) d1) en1)(r2:RN w (.slice p2 (ah n2) c2) n2.natAbs)(t2:RN w (.slice s2 (ai en2) d2) en2) :
 CF 55 #[.agg #[.bool (au n1),.slice p1 (ah n1) c1,.slice s1 (ai en1) d1],.agg #[.bool (au n2),.slice p2 (ah n2) c2,.slice s2 (ai en2) d2]] w n dn:=by
 obtain ⟨C0,C1,C2,C3,C4,C5,C6,C7,R1⟩:=bR h0 h1 h2 h3 h4 h5 h6 h7 r1;obtain ⟨T1,R2,T2⟩:=ae t1 r2 t2;have k0:(k==0)=false:=by rw[beq_eq_false_iff_ne];exact hk
 have k1:¬ k=0:=hk;clear hk h0 h1 h2 h3 h4 h5 h6 h7 r1 t1 r2 t2;go_enter func55,ntmps55
 go_upto_region 1 with fail
 refine ak w [(#[.bool (au n1),.slice p1 (ah n1) c1,.slice s1 (ai en1) d1],61),(#[.bool (au n2),.slice p2 (ah n2) c2,.slice s2 (ai en2) d2],61),(#[.bool false,.slice none 0 0,.slice none 0 0],61)] rfl ?_;rintro W0 ⟨k1,k2,k3,hb⟩;have ol:=hid (show Below w.heap.size w W0 from hb);obtain ⟨R1,T1,R2,T2⟩:=bi ol.out R1 T1 R2 T2;obtain ⟨K1,K2,K3⟩:=ae k1 k2 k3;clear k1 k2 k3 hb;have p8:=K1.out.cell (i:=2) rfl;have wu:=K2.out.cell (i:=2) rfl;go_wp2_with fail
 with_reducible refine(C0.out _ _ _ _ _ T1.out T2.out).mono ?_
 rintro e W1 ⟨rfl,hb⟩;clear p8 wu;obtain ⟨K1,K2,K3,R1,T1,R2,T2⟩:=eO hb K1 K2 K3 R1 T1 R2 T2;have wz:=hbt ol hb;clear hb;go_wp2_with fail
 have L1:=K1.out.lt;have L2:=K2.out.lt;have L3:=K3.out.lt;have L4:=wz.out.size;refine aB (fun a0 a' V=>∃ fq fw ww wy ky,a'=⟨aV [(21,.pointer (some ⟨w.heap.size,0,none⟩)),(22,.pointer (some ⟨w.heap.size,0,none⟩)),(23,.bool (au n1)),(24,.pointer (some ⟨w.heap.size,0,none⟩)),(25,.pointer (some ⟨w.heap.size,1,none⟩)),(26,.slice p1 (ah n1) c1),(27,.pointer (some ⟨w.heap.size+1,2,none⟩)),(28,.slice s2 (ai en2) d2),(29,.slice fq (ai ua) fw),(30,.agg #[.bool (au x),.slice ww (ah x) wy]),(5,.pointer (some ⟨ky,0,none⟩))] a0.tmps,a0.defers⟩∧Below w.heap.size w V∧SBk V (w.heap.size) #[.bool (au n1),.slice p1 (ah n1) c1,.slice s1 (ai en1) d1] 61∧SBk V (w.heap.size+1) #[.bool (au n2),.slice p2 (ah n2) c2,.slice s2 (ai en2) d2] 61∧SBk V (w.heap.size+1+1) #[.bool false,.slice none 0 0,.slice none 0 0] 61∧SBk V (ky) #[.bool (au x),.slice ww (ah x) wy] 59∧RN V (.slice p1 (ah n1) c1) n1.natAbs∧RN V (.slice s1 (ai en1) d1) en1∧RN V (.slice p2 (ah n2) c2) n2.natAbs∧RN V (.slice s2 (ai en2) d2) en2∧RN V (.slice fq (ai ua) fw) ua∧RN V (.slice ww (ah x) wy) x.natAbs∧W1.heap.size≤ky) ?_ ?_
 · refine ay (by kernel_rfl) 11 1 (fun i=>[21,22,23,24,25,26,27,28,29,30,5].getD i 0) (RelR [Rel.val (.pointer (some ⟨w.heap.size,0,none⟩)),Rel.val (.pointer (some ⟨w.heap.size,0,none⟩)),Rel.val (.bool (au n1)),Rel.val (.pointer (some ⟨w.heap.size,0,none⟩)),Rel.val (.pointer (some ⟨w.heap.size,1,none⟩)),Rel.val (.slice p1 (ah n1) c1),Rel.val (.pointer (some ⟨w.heap.size+1,2,none⟩)),Rel.val (.slice s2 (ai en2) d2),Rel.nat ua,Rel.int x,Rel.ptr W1.heap.size (.cells #[.bool false,.slice none 0 0] 59)]) (fun W=>Below W1.heap.size W1 W) (fun _ _=>True) (by kernel_rfl) (by kernel_rfl) (by kernel_rfl) trivial (Below.refl _ _).drew ?_ ?_
   · intro u6 a W i hI hD hrd him
     obtain ⟨HI,HD,Hr⟩:=ae hI hD hrd;clear hI hrd hD;have y2:a.tmps[2]? = some (.pointer (some ⟨w.heap.size,0,none⟩)):=HI.out.rest 2 (by decide);have y3:a.tmps[3]? = some (.pointer (some ⟨w.heap.size+1,0,none⟩)):=HI.out.rest 3 (by decide);obtain ⟨l6,lg⟩:=bH (K1.out.below HI.out.world) rfl rfl;have wu:=(K2.out.below HI.out.world).cell (i:=2) rfl;have X0:RV _ u6 a 0 21 (.pointer (some ⟨w.heap.size,0,none⟩)):=HI.out.rh;have X1:RV _ u6 a 1 22 (.pointer (some ⟨w.heap.size,0,none⟩)):=HI.out.rh;have X3:RV _ u6 a 3 24 (.pointer (some ⟨w.heap.size,0,none⟩)):=HI.out.rh;have X4:RV _ u6 a 4 25 (.pointer (some ⟨w.heap.size,1,none⟩)):=HI.out.rh;have X6:RV _ u6 a 6 27 (.pointer (some ⟨w.heap.size+1,2,none⟩)):=HI.out.rh;have X5:RV _ u6 a 5 26 (.slice p1 (ah n1) c1):=HI.out.rh;have X7:RV _ u6 a 7 28 (.slice s2 (ai en2) d2):=HI.out.rh;have X2:RV _ u6 a 2 23 (.bool (au n1)):=HI.out.rh
     match i,him,Hr with
     | 0,_,Hi|1,_,Hi|2,_,Hi|3,_,Hi|4,_,Hi|5,_,Hi|6,_,Hi|7,_,Hi =>
       try have x0:=X0.g Hi.out (by decide +kernel)
       try have x1:=X1.g Hi.out (by decide +kernel)
       try have x3:=X3.g Hi.out (by decide +kernel)
       try have x4:=X4.g Hi.out (by decide +kernel)
       try have x6:=X6.g Hi.out (by decide +kernel)
       refine ax rfl fun K' hK=>?_;go_simp;exact hK.out _ _ ⟨HI.out.pv Hi.out rfl,trivial⟩
     | 8,_,Hi =>
       have x5:=X5.g Hi.out (by kernel_rfl);have x7:=X7.g Hi.out (by kernel_rfl);refine ax rfl fun K' hK=>?_;go_simp;with_reducible refine(C1.out _ _ _ _ _ (R1.out.below HI.out.world) (T2.out.below HI.out.world)).mono ?_
       rintro e W' ⟨fq,fw,rfl,bM,hb⟩;exact hK.out _ _ ⟨HI.out.pc Hi.out hb ⟨fq,fw,rfl,bM⟩,trivial⟩
     | 9,_,Hi =>
       have x2:=X2.g Hi.out (by kernel_rfl);obtain⟨v',x8,fq,fw,e,bM⟩:=HI.out.at (i:=8) Hi.out (by kernel_rfl) (by decide);obtain rfl:=e;have x8:a.tmps[29]? = some (.slice fq (ai ua) fw):=x8;have u0x:=hid bM;clear bM;refine ax rfl fun K' hK=>?_;go_simp;with_reducible refine(C2.out _ _ _ u0x.out).mono ?_
       rintro e W' ⟨ww,wy,rfl,u0q,hb⟩;exact hK.out _ _ ⟨HI.out.pc Hi.out hb ⟨ww,wy,rfl,u0q⟩,trivial⟩
     | 10,_,Hi =>
       refine ax rfl fun K' hK=>?_;go_simp;exact hK.out _ _ ⟨HI.out.pc Hi.out ((Below.refl W.heap.size W).alloc (Nat.le_refl _) (.cells #[.bool false,.slice none 0 0] 59)) ⟨W.heap.size,rfl,HI.out.world.size,SBk.new _ _ _⟩,trivial⟩
     | n+11,h,_=>exact absurd h (by omega)
   · intro u6 a W hI hD pq
     obtain⟨v',x8,fq,fw,e,bM⟩:=hI.slots 8 (by decide) (pq 8 (by decide));obtain rfl:=e;have u0x:=hid bM;clear bM;obtain⟨v',x9,ww,wy,e,u0q⟩:=hI.slots 9 (by decide) (pq 9 (by decide));obtain rfl:=e;have u0R:=hid u0q;clear u0q;have x9:a.tmps[30]? = some (.agg #[.bool (au x),.slice ww (ah x) wy]):=x9;obtain⟨v',x10,ky,e,u0J,u0K⟩:=hI.slots 10 (by decide) (pq 10 (by decide));obtain rfl:=e;have u08:=hid u0J;clear u0J;have u0S:=hid u0K;clear u0K;have x10:a.tmps[5]? = some (.pointer (some ⟨ky,0,none⟩)):=x10;obtain ⟨ed,HI,HA⟩:=ae hI.world hI pq;clear hI pq;obtain ⟨K1,K2,K3,R1,T1,R2,T2⟩:=eO ed.out K1 K2 K3 R1 T1 R2 T2;have HBX:=Lib.hid (wz.out.trans (ed.out.mono wz.out.size));have RA:=u0x;have RX:=u0R;have K4:Hid (SBk W ky #[.bool false,.slice none 0 0] 59):=u0S;obtain ⟨u0T,u0U⟩:=bH K4.out rfl rfl;obtain ⟨u11,u12⟩:=fP K4.out;refine aL (t:=0) ?_;refine ax rfl fun K' hK=>?_;go_simp;refine hK.out _ _ ?_;clear hK;refine aR ?_;have s0:∀ {v':Value} {n':Nat},RN W v' n'→RN (storeAll W (ky) 0 [.bool (au x),.slice ww (ah x) wy]) v' n':=fun h'=>bB _ h' K4.out (by simp[bZ]) (by simp[bD]);have o0:∀ {g':Nat} {cs':Array Value} {T':TypeId},g'≠ky→SBk W g' cs' T'→SBk (storeAll W (ky) 0 [.bool (au x),.slice ww (ah x) wy]) g' cs' T':=fun hg' h'=>bf hg' _ 0 h';exact⟨rfl,fq,fw,ww,wy,ky,(HI.out.finx ⟨HI.out.sx HA.out 0,HI.out.sx HA.out 1,HI.out.sx HA.out 2,HI.out.sx HA.out 3,HI.out.sx HA.out 4,HI.out.sx HA.out 5,HI.out.sx HA.out 6,HI.out.sx HA.out 7,x8,x9,x10,trivial⟩ rfl),(av (l:=[.bool (au x),.slice ww (ah x) wy]) (i:=0) (by have:=u08.out;omega) HBX.out),(o0 (by have:=u08.out;omega) K1.out),(o0 (by have:=u08.out;omega) K2.out),(o0 (by have:=u08.out;omega) K3.out),(bO (l:=[.bool (au x),.slice ww (ah x) wy]) (i:=0) K4.out),(s0 R1.out),(s0 T1.out),(s0 R2.out),(s0 T2.out),(s0 RA.out),(s0 RX.out),u08.out⟩
 rintro a' W2 ⟨fq,fw,ww,wy,ky,rfl,z0,z1,z2,z3,z4,z5,z6,z7,z8,z9,z10,z11⟩;obtain ⟨sw,K1,K2,K3,K4,R1,T1,R2,T2⟩:=bR z0 z1 z2 z3 z4 z5 z6 z7 z8;have RA:=hid z9;have RX:=hid z10;have R10xW2:=z11;clear z0 z1 z2 z3 z4 z5 z6 z7 z8 z9 z10 z11;simp only[aV,List.setIfInBounds_toArray,List.set_cons_zero,List.set_cons_succ];go_wp2_with fail
 have L6:=K1.out.lt;have L7:=K2.out.lt;have L8:=K3.out.lt;have L9:=K4.out.lt;have L10:=sw.out.size;refine aB (fun a0 a' V=>∃ dx dX ma mf kK,a'=⟨aV [(31,.pointer (some ⟨w.heap.size+1,0,none⟩)),(32,.pointer (some ⟨w.heap.size+1,0,none⟩)),(33,.bool (au n2)),(34,.pointer (some ⟨w.heap.size+1,0,none⟩)),(35,.pointer (some ⟨w.heap.size+1,1,none⟩)),(36,.slice p2 (ah n2) c2),(37,.pointer (some ⟨w.heap.size,2,none⟩)),(38,.slice s1 (ai en1) d1),(39,.slice dx (ai ub) dX),(40,.agg #[.bool (au y),.slice ma (ah y) mf]),(6,.pointer (some ⟨kK,0,none⟩))] a0.tmps,a0.defers⟩∧Below w.heap.size w V∧SBk V (w.heap.size) #[.bool (au n1),.slice p1 (ah n1) c1,.slice s1 (ai en1) d1] 61∧SBk V (w.heap.size+1) #[.bool (au n2),.slice p2 (ah n2) c2,.slice s2 (ai en2) d2] 61∧SBk V (w.heap.size+1+1) #[.bool false,.slice none 0 0,.slice none 0 0] 61∧SBk V (ky) #[.bool (au x),.slice ww (ah x) wy] 59∧SBk V (kK) #[.bool (au y),.slice ma (ah y) mf] 59∧RN V (.slice s1 (ai en1) d1) en1∧RN V (.slice s2 (ai en2) d2) en2∧RN V (.slice ww (ah x) wy) x.natAbs∧RN V (.slice ma (ah y) mf) y.natAbs∧W2.heap.size≤kK) ?_ ?_
 · refine ay (by kernel_rfl) 11 1 (fun i=>[31,32,33,34,35,36,37,38,39,40,6].getD i 0) (RelR [Rel.val (.pointer (some ⟨w.heap.size+1,0,none⟩)),Rel.val (.pointer (some ⟨w.heap.size+1,0,none⟩)),Rel.val (.bool (au n2)),Rel.val (.pointer (some ⟨w.heap.size+1,0,none⟩)),Rel.val (.pointer (some ⟨w.heap.size+1,1,none⟩)),Rel.val (.slice p2 (ah n2) c2),Rel.val (.pointer (some ⟨w.heap.size,2,none⟩)),Rel.val (.slice s1 (ai en1) d1),Rel.nat ub,Rel.int y,Rel.ptr W2.heap.size (.cells #[.bool false,.slice none 0 0] 59)]) (fun W=>Below W2.heap.size W2 W) (fun _ _=>True) (by kernel_rfl) (by kernel_rfl) (by kernel_rfl) trivial (Below.refl _ _).drew ?_ ?_
   · intro u6 a W i hI hD hrd him
     obtain ⟨HI,HD,Hr⟩:=ae hI hD hrd;clear hI hrd hD;have y3:a.tmps[3]? = some (.pointer (some ⟨w.heap.size+1,0,none⟩)):=HI.out.rest 3 (by decide);have y2:a.tmps[2]? = some (.pointer (some ⟨w.heap.size,0,none⟩)):=HI.out.rest 2 (by decide);obtain ⟨kV,oV⟩:=bH (K2.out.below HI.out.world) rfl rfl;have p8:=(K1.out.below HI.out.world).cell (i:=2) rfl;have X0:RV _ u6 a 0 31 (.pointer (some ⟨w.heap.size+1,0,none⟩)):=HI.out.rh;have X1:RV _ u6 a 1 32 (.pointer (some ⟨w.heap.size+1,0,none⟩)):=HI.out.rh;have X3:RV _ u6 a 3 34 (.pointer (some ⟨w.heap.size+1,0,none⟩)):=HI.out.rh;have X4:RV _ u6 a 4 35 (.pointer (some ⟨w.heap.size+1,1,none⟩)):=HI.out.rh;have X6:RV _ u6 a 6 37 (.pointer (some ⟨w.heap.size,2,none⟩)):=HI.out.rh;have X5:RV _ u6 a 5 36 (.slice p2 (ah n2) c2):=HI.out.rh;have X7:RV _ u6 a 7 38 (.slice s1 (ai en1) d1):=HI.out.rh;have X2:RV _ u6 a 2 33 (.bool (au n2)):=HI.out.rh
     match i,him,Hr with
     | 0,_,Hi|1,_,Hi|2,_,Hi|3,_,Hi|4,_,Hi|5,_,Hi|6,_,Hi|7,_,Hi =>
       try have x0:=X0.g Hi.out (by decide +kernel)
       try have x1:=X1.g Hi.out (by decide +kernel)
       try have x3:=X3.g Hi.out (by decide +kernel)
       try have x4:=X4.g Hi.out (by decide +kernel)
       try have x6:=X6.g Hi.out (by decide +kernel)
       refine ax rfl fun K' hK=>?_;go_simp;exact hK.out _ _ ⟨HI.out.pv Hi.out rfl,trivial⟩
     | 8,_,Hi =>
       have x5:=X5.g Hi.out (by kernel_rfl);have x7:=X7.g Hi.out (by kernel_rfl);refine ax rfl fun K' hK=>?_;go_simp;with_reducible refine(C3.out _ _ _ _ _ (R2.out.below HI.out.world) (T1.out.below HI.out.world)).mono ?_
       rintro e W' ⟨dx,dX,rfl,bV,hb⟩;exact hK.out _ _ ⟨HI.out.pc Hi.out hb ⟨dx,dX,rfl,bV⟩,trivial⟩
     | 9,_,Hi =>
       have x2:=X2.g Hi.out (by kernel_rfl);obtain⟨v',x8,dx,dX,e,bV⟩:=HI.out.at (i:=8) Hi.out (by kernel_rfl) (by decide);obtain rfl:=e;have x8:a.tmps[39]? = some (.slice dx (ai ub) dX):=x8;have u0y:=hid bV;clear bV;refine ax rfl fun K' hK=>?_;go_simp;with_reducible refine(C4.out _ _ _ u0y.out).mono ?_
       rintro e W' ⟨ma,mf,rfl,u0r,hb⟩;exact hK.out _ _ ⟨HI.out.pc Hi.out hb ⟨ma,mf,rfl,u0r⟩,trivial⟩
     | 10,_,Hi =>
       refine ax rfl fun K' hK=>?_;go_simp;exact hK.out _ _ ⟨HI.out.pc Hi.out ((Below.refl W.heap.size W).alloc (Nat.le_refl _) (.cells #[.bool false,.slice none 0 0] 59)) ⟨W.heap.size,rfl,HI.out.world.size,SBk.new _ _ _⟩,trivial⟩
     | n+11,h,_=>exact absurd h (by omega)
   · intro u6 a W hI hD pq
     obtain⟨v',x8,dx,dX,e,bV⟩:=hI.slots 8 (by decide) (pq 8 (by decide));obtain rfl:=e;have u0y:=hid bV;clear bV;obtain⟨v',x9,ma,mf,e,u0r⟩:=hI.slots 9 (by decide) (pq 9 (by decide));obtain rfl:=e;have u0V:=hid u0r;clear u0r;have x9:a.tmps[40]? = some (.agg #[.bool (au y),.slice ma (ah y) mf]):=x9;obtain⟨v',x10,kK,e,u0L,u0M⟩:=hI.slots 10 (by decide) (pq 10 (by decide));obtain rfl:=e;have u06:=hid u0L;clear u0L;have u0W:=hid u0M;clear u0M;have x10:a.tmps[6]? = some (.pointer (some ⟨kK,0,none⟩)):=x10;obtain ⟨ed,HI,HA⟩:=ae hI.world hI pq;clear hI pq;obtain ⟨K1,K2,K3,K4,T1,T2,RX⟩:=eO ed.out K1 K2 K3 K4 T1 T2 RX;have HBX:=Lib.hid (sw.out.trans (ed.out.mono sw.out.size));have RB:=u0y;have RY:=u0V;have K5:Hid (SBk W kK #[.bool false,.slice none 0 0] 59):=u0W;obtain ⟨u0X,u0Y⟩:=bH K5.out rfl rfl;obtain ⟨u13,u14⟩:=fP K5.out;refine aL (t:=0) ?_;refine ax rfl fun K' hK=>?_;go_simp;refine hK.out _ _ ?_;clear hK;refine aR ?_;have s0:∀ {v':Value} {n':Nat},RN W v' n'→RN (storeAll W (kK) 0 [.bool (au y),.slice ma (ah y) mf]) v' n':=fun h'=>bB _ h' K5.out (by simp[bZ]) (by simp[bD]);have o0:∀ {g':Nat} {cs':Array Value} {T':TypeId},g'≠kK→SBk W g' cs' T'→SBk (storeAll W (kK) 0 [.bool (au y),.slice ma (ah y) mf]) g' cs' T':=fun hg' h'=>bf hg' _ 0 h';exact⟨rfl,dx,dX,ma,mf,kK,(HI.out.finx ⟨HI.out.sx HA.out 0,HI.out.sx HA.out 1,HI.out.sx HA.out 2,HI.out.sx HA.out 3,HI.out.sx HA.out 4,HI.out.sx HA.out 5,HI.out.sx HA.out 6,HI.out.sx HA.out 7,x8,x9,x10,trivial⟩ rfl),(av (l:=[.bool (au y),.slice ma (ah y) mf]) (i:=0) (by have:=u06.out;omega) HBX.out),(o0 (by have:=u06.out;omega) K1.out),(o0 (by have:=u06.out;omega) K2.out),(o0 (by have:=u06.out;omega) K3.out),(o0 (by have:=u06.out;omega) K4.out),(bO (l:=[.bool (au y),.slice ma (ah y) mf]) (i:=0) K5.out),(s0 T1.out),(s0 T2.out),(s0 RX.out),(s0 RY.out),u06.out⟩
 rintro a' W3 ⟨dx,dX,ma,mf,kK,rfl,z0,z1,z2,z3,z4,z5,z6,z7,z8,z9,z10⟩;obtain ⟨oM,K1,K2,K3,K4,K5,T1,T2,RX⟩:=bR z0 z1 z2 z3 z4 z5 z6 z7 z8;have RY:=hid z9;have R10xW3:=z10;clear z0 z1 z2 z3 z4 z5 z6 z7 z8 z9 z10;simp only[aV,List.setIfInBounds_toArray,List.set_cons_zero,List.set_cons_succ];go_wp2_with fail
 refine aB (fun a0 a' V=>∃ dY cO bg bn kz kC kD kE,a'=⟨aV [(41,.agg #[.bool (au x),.slice ww (ah x) wy]),(42,.agg #[.bool (au y),.slice ma (ah y) mf]),(43,.agg #[.bool (au z),.slice dY (ah z) cO]),(44,.pointer (some ⟨w.heap.size,2,none⟩)),(45,.slice s1 (ai en1) d1),(46,.pointer (some ⟨w.heap.size+1,2,none⟩)),(47,.slice s2 (ai en2) d2),(48,.slice bg (ai en) bn),(49,.agg #[.bool (au n),.slice kz (ah n) kC,.slice kD (ai dn) kE])] a0.tmps,a0.defers⟩∧Below w.heap.size w V∧SBk V (w.heap.size+1+1) #[.bool (au n),.slice kz (ah n) kC,.slice kD (ai dn) kE] 61∧RN V (.slice kz (ah n) kC) (n).natAbs∧RN V (.slice kD (ai dn) kE) (dn)) ?_ ?_
 · refine ay (by kernel_rfl) 9 1 (fun i=>[41,42,43,44,45,46,47,48,49].getD i 0) (RelR [Rel.val (.agg #[.bool (au x),.slice ww (ah x) wy]),Rel.val (.agg #[.bool (au y),.slice ma (ah y) mf]),Rel.int z,Rel.val (.pointer (some ⟨w.heap.size,2,none⟩)),Rel.val (.slice s1 (ai en1) d1),Rel.val (.pointer (some ⟨w.heap.size+1,2,none⟩)),Rel.val (.slice s2 (ai en2) d2),Rel.nat en,⟨fun v W=>∃ p c s d,v=.agg #[.bool (au n),.slice p (ah n) c,.slice s (ai dn) d]∧RN W (.slice p (ah n) c) (n).natAbs∧RN W (.slice s (ai dn) d) (dn),fun _ _ _ ⟨p,c,s,d,e,h0,h1⟩ hb=>⟨p,c,s,d,e,h0.below hb,h1.below hb⟩⟩]) (fun W=>Below W3.heap.size W3 W) (fun _ _=>True) (by kernel_rfl) (by kernel_rfl) (by kernel_rfl) trivial (Below.refl _ _).drew ?_ ?_
   · intro u6 a W i hI hD hrd him
     obtain ⟨HI,HD,Hr⟩:=ae hI hD hrd;clear hI hrd hD;have y5:a.tmps[5]? = some (.pointer (some ⟨ky,0,none⟩)):=HI.out.rest 5 (by decide);have y6:a.tmps[6]? = some (.pointer (some ⟨kK,0,none⟩)):=HI.out.rest 6 (by decide);have y2:a.tmps[2]? = some (.pointer (some ⟨w.heap.size,0,none⟩)):=HI.out.rest 2 (by decide);have y3:a.tmps[3]? = some (.pointer (some ⟨w.heap.size+1,0,none⟩)):=HI.out.rest 3 (by decide);obtain ⟨u0T,u0U⟩:=bH (K4.out.below HI.out.world) rfl rfl;obtain ⟨u0X,u0Y⟩:=bH (K5.out.below HI.out.world) rfl rfl;have p8:=(K1.out.below HI.out.world).cell (i:=2) rfl;have wu:=(K2.out.below HI.out.world).cell (i:=2) rfl;have X0:RV _ u6 a 0 41 (.agg #[.bool (au x),.slice ww (ah x) wy]):=HI.out.rh;have X1:RV _ u6 a 1 42 (.agg #[.bool (au y),.slice ma (ah y) mf]):=HI.out.rh;have X3:RV _ u6 a 3 44 (.pointer (some ⟨w.heap.size,2,none⟩)):=HI.out.rh;have X5:RV _ u6 a 5 46 (.pointer (some ⟨w.heap.size+1,2,none⟩)):=HI.out.rh;have X4:RV _ u6 a 4 45 (.slice s1 (ai en1) d1):=HI.out.rh;have X6:RV _ u6 a 6 47 (.slice s2 (ai en2) d2):=HI.out.rh
     match i,him,Hr with
     | 0,_,Hi|1,_,Hi =>
       refine ax rfl fun K' hK=>?_;go_simp;exact hK.out _ _ ⟨HI.out.pv Hi.out rfl,trivial⟩
     | 2,_,Hi =>
       have x0:=X0.g Hi.out (by kernel_rfl);have x1:=X1.g Hi.out (by kernel_rfl);refine ax rfl fun K' hK=>?_;go_simp;with_reducible refine(C5.out _ _ _ _ _ (RX.out.below HI.out.world) (RY.out.below HI.out.world)).mono ?_
       rintro e W' ⟨dY,cO,rfl,af,hb⟩;exact hK.out _ _ ⟨HI.out.pc Hi.out hb ⟨dY,cO,rfl,af⟩,trivial⟩
     | 3,_,Hi|4,_,Hi|5,_,Hi|6,_,Hi =>
       try have x3:=X3.g Hi.out (by decide +kernel)
       try have x5:=X5.g Hi.out (by decide +kernel)
       refine ax rfl fun K' hK=>?_;go_simp;exact hK.out _ _ ⟨HI.out.pv Hi.out rfl,trivial⟩
     | 7,_,Hi =>
       have x4:=X4.g Hi.out (by kernel_rfl);have x6:=X6.g Hi.out (by kernel_rfl);refine ax rfl fun K' hK=>?_;go_simp;with_reducible refine(C6.out _ _ _ _ _ (T1.out.below HI.out.world) (T2.out.below HI.out.world)).mono ?_
       rintro e W' ⟨bg,bn,rfl,u00,hb⟩;exact hK.out _ _ ⟨HI.out.pc Hi.out hb ⟨bg,bn,rfl,u00⟩,trivial⟩
     | 8,_,Hi =>
       obtain⟨v',x2,dY,cO,e,af⟩:=HI.out.at (i:=2) Hi.out (by kernel_rfl) (by decide);obtain rfl:=e;have x2:a.tmps[43]? = some (.agg #[.bool (au z),.slice dY (ah z) cO]):=x2;have u0z:=hid af;clear af;obtain⟨v',x7,bg,bn,e,u00⟩:=HI.out.at (i:=7) Hi.out (by kernel_rfl) (by decide);obtain rfl:=e;have x7:a.tmps[48]? = some (.slice bg (ai en) bn):=x7;have u0A:=hid u00;clear u00;refine ax rfl fun K' hK=>?_;go_simp;with_reducible refine(C7.out _ _ _ _ _ u0z.out u0A.out).mono ?_
       rintro e W' ⟨kz,kC,kD,kE,rfl,u0s,u0t,hb⟩;exact hK.out _ _ ⟨HI.out.pc Hi.out hb ⟨kz,kC,kD,kE,rfl,u0s,u0t⟩,trivial⟩
     | n+9,h,_=>exact absurd h (by omega)
   · intro u6 a W hI hD pq
     obtain⟨v',x2,dY,cO,e,af⟩:=hI.slots 2 (by decide) (pq 2 (by decide));obtain rfl:=e;have u0z:=hid af;clear af;obtain⟨v',x7,bg,bn,e,u00⟩:=hI.slots 7 (by decide) (pq 7 (by decide));obtain rfl:=e;have u0A:=hid u00;clear u00;obtain⟨v',x8,kz,kC,kD,kE,e,u0s,u0t⟩:=hI.slots 8 (by decide) (pq 8 (by decide));obtain rfl:=e;have u0Z:=hid u0s;clear u0s;have u10:=hid u0t;clear u0t;have x8:a.tmps[49]? = some (.agg #[.bool (au n),.slice kz (ah n) kC,.slice kD (ai dn) kE]):=x8;obtain ⟨ed,HI,HA⟩:=ae hI.world hI pq;clear hI pq;obtain ⟨HBX,K3⟩:=aD (oM.out.trans (ed.out.mono oM.out.size)) (K3.out.below ed.out);have RZ:=u0z;have RE:=u0A;have RQ:=u0Z;have TQ:=u10;have y4:a.tmps[4]? = some (.pointer (some ⟨w.heap.size+1+1,0,none⟩)):=HI.out.rest 4 (by decide);obtain ⟨u0N,u0O,u0P⟩:=ag K3.out rfl rfl rfl;obtain ⟨u15,u17,u18⟩:=aN K3.out;refine aL (t:=0) ?_;refine ax rfl fun K' hK=>?_;go_simp;refine hK.out _ _ ?_;clear hK;refine aR ?_;have s0:∀ {v':Value} {n':Nat},RN W v' n'→RN (storeAll W (w.heap.size+1+1) 0 [.bool (au n),.slice kz (ah n) kC,.slice kD (ai dn) kE]) v' n':=fun h'=>bB _ h' K3.out (by simp[bZ]) (by simp[bD]);exact⟨rfl,dY,cO,bg,bn,kz,kC,kD,kE,(HI.out.finx ⟨HI.out.sx HA.out 0,HI.out.sx HA.out 1,x2,HI.out.sx HA.out 3,HI.out.sx HA.out 4,HI.out.sx HA.out 5,HI.out.sx HA.out 6,x7,x8,trivial⟩ rfl),(av (l:=[.bool (au n),.slice kz (ah n) kC,.slice kD (ai dn) kE]) (i:=0) (by omega) HBX.out),(bO (l:=[.bool (au n),.slice kz (ah n) kC,.slice kD (ai dn) kE]) (i:=0) K3.out),(s0 RQ.out),(s0 TQ.out)⟩
 rintro a' W4 ⟨dY,cO,bg,bn,kz,kC,kD,kE,rfl,z0,z1,z2,z3⟩;obtain ⟨lv,K3,RQ,TQ⟩:=aP z0 z1 z2 z3;clear z0 z1 z2 z3;simp only[aV,List.setIfInBounds_toArray,List.set_cons_zero,List.set_cons_succ];go_wp2;obtain ⟨u0N,u0O,u0P⟩:=ag K3.out rfl rfl rfl;exact bodyPost_ret (v:=.agg #[.bool (au n),.slice kz (ah n) kC,.slice kD (ai dn) kE]) (by simp[results,results55,go_sem,u0N,u0O,u0P]) rfl ⟨_,_,_,_,rfl,RQ.out,TQ.out,lv.out⟩
