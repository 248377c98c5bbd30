/- texts -/
import Derived.Test.YtoaeaiiabelhkaaGreatDoorMz34q
open Go.Proofs.Tryz
set_option maxRecDepth 100000
set_option maxHeartbeats 20000000
open Go.Lib (hid)
namespace Go.Proofs.YtoaeaiiabelhkaaGreatDoor
open Go.RowKit Go.Gb
theorem z3m (a0 x0 y0:ByteArray)(z:Int)(n:Nat)  (w:World)(h1:CQ 46 #[.string a0] (.tuple #[.string x0,.string y0,.bool false]))(h2:CQ 47 #[.string x0] (.bool true))(h3:CQ 48 #[.string y0] (.bool true))(h4:∀ W,CZ 49 #[.string x0] W z)(h5:∀ W,CN 50 #[.string y0] W n)  :
 Calls Tryz.prog 21 #[.string a0] w fun e w'=>∃ p c s d,e=.returned (.tuple #[.agg #[.bool (ah z),.slice p (aa z) c,.slice s (ag n) d],.bool true])∧RN w' (.slice p (aa z) c) z.natAbs∧RN w' (.slice s (ag n) d) n∧Below w.heap.size w w':=by
 obtain ⟨C1,C2,C3,C4,C5⟩:=bz h1 h2 h3 h4 h5;clear h1 h2 h3 h4 h5;go_enter func21,ntmps21
 go_upto_region 1 with fail
 refine av w [(#[.bool false,.slice none 0 0,.slice none 0 0],49)] rfl ?_;rintro W0 ⟨k1,hb⟩;have u6:=hid (show Below w.heap.size w W0 from hb);have K1:=hid k1;clear k1 hb;go_wp2_with fail
 with_reducible refine(C1.o _).mono ?_
 rintro e W1 ⟨rfl,hb⟩;have K1:=hid (K1.o.below hb);have w9:=hbt u6 hb;clear hb;go_wp2_with fail
 with_reducible refine(C2.o _).mono ?_
 rintro e W2 ⟨rfl,hb⟩;have K1:=hid (K1.o.below hb);have p8:=hbt w9 hb;clear hb;go_wp2_with fail
 with_reducible refine(C3.o _).mono ?_
 rintro e W3 ⟨rfl,hb⟩;have K1:=hid (K1.o.below hb);have ol:=hbt p8 hb;clear hb;go_wp2_with fail
 with_reducible refine(C4.o _).mono ?_
 rintro e W4 ⟨wm,wo,rfl,su,hb⟩;have K1:=hid (K1.o.below hb);have mf:=hbt ol hb;have RZ:=hid su;clear hb su;go_wp2_with fail
 with_reducible refine(C5.o _).mono ?_
 rintro e W5 ⟨sw,rM,rfl,pq,hb⟩;obtain ⟨K1,RZ⟩:=aK hb K1 RZ;have pu:=hbt mf hb;have RM:=hid pq;clear hb pq;go_upto_region 5 with fail
 refine av W5 [(#[.bool (ah z),.slice wm (aa z) wo,.slice sw (ag n) rM],49)] rfl ?_;have L1:=K1.o.lt;have L2:=pu.o.size;rintro W6 ⟨k2,hb⟩;have hb:Below W5.heap.size W5 W6:=hb;obtain ⟨K1,RZ,RM⟩:=bA hb K1 RZ RM;have kM:=hbt pu hb;have K2:=hid k2;clear k2 hb;obtain ⟨rV,wu,uu⟩:=aA K2.o rfl rfl rfl;obtain ⟨ww,si,sj⟩:=aA K1.o rfl rfl rfl;obtain ⟨cO,bg,bn⟩:=bC K1.o;go_wp2;exact bodyPost_ret (v:=.tuple #[.agg #[.bool (ah z),.slice wm (aa z) wo,.slice sw (ag n) rM],.bool true]) (by simp[results,results21,go_sem,ww,si,sj]) rfl ⟨_,_,_,_,rfl,(aX [.bool (ah z),.slice wm (aa z) wo,.slice sw (ag n) rM] RZ.o K1.o (by simp[bJ]) (by simp[aU])),(aX [.bool (ah z),.slice wm (aa z) wo,.slice sw (ag n) rM] RM.o K1.o (by simp[bJ]) (by simp[aU])),(aj (l:=[.bool (ah z),.slice wm (aa z) wo,.slice sw (ag n) rM]) (i:=0) (by omega) kM.o)⟩
theorem uy (a0 x0 y0:ByteArray)(zz:Int)(dz:Nat)(sl:Bool)  (w:World)(h1:CQ 46 #[.string a0] (.tuple #[.string x0,.string y0,.bool sl]))(h2:CQ 47 #[.string x0] (.bool false))(h11:∀ W,CF 24 #[.int .i64 0] W zz dz)  :
 Calls Tryz.prog 21 #[.string a0] w fun e w'=>∃ p c s d,e=.returned (.tuple #[.agg #[.bool (ah zz),.slice p (aa zz) c,.slice s (ag dz) d],.bool false])∧RN w' (.slice p (aa zz) c) zz.natAbs∧RN w' (.slice s (ag dz) d) dz∧Below w.heap.size w w':=by
 obtain ⟨C1,C2,C11⟩:=ak h1 h2 h11;clear h1 h2 h11;go_enter func21,ntmps21
 go_upto_region 1 with fail
 refine av w [(#[.bool false,.slice none 0 0,.slice none 0 0],49)] rfl ?_;rintro W0 ⟨k1,hb⟩;have u6:=hid (show Below w.heap.size w W0 from hb);have K1:=hid k1;clear k1 hb;go_wp2_with fail
 with_reducible refine(C1.o _).mono ?_
 rintro e W1 ⟨rfl,hb⟩;have K1:=hid (K1.o.below hb);have w9:=hbt u6 hb;clear hb;go_wp2_with fail
 with_reducible refine(C2.o _).mono ?_
 rintro e W2 ⟨rfl,hb⟩;have K1:=hid (K1.o.below hb);have p8:=hbt w9 hb;clear hb;go_wp2_with fail
 with_reducible refine(C11.o _).mono ?_
 rintro e W3 ⟨p_3,c_3,s_3,d_3,rfl,u0x,u0y,hb⟩;have K1:=hid (K1.o.below hb);have ol:=hbt p8 hb;have RQ:=hid u0x;have TQ:=hid u0y;clear hb u0x u0y;obtain ⟨ww,si,sj⟩:=aA K1.o rfl rfl rfl;obtain ⟨cO,bg,bn⟩:=bC K1.o;go_wp2;exact bodyPost_ret (v:=.tuple #[.agg #[.bool (ah zz),.slice p_3 (aa zz) c_3,.slice s_3 (ag dz) d_3],.bool false]) (by simp[results,results21,go_sem,ww,si,sj]) rfl ⟨_,_,_,_,rfl,(aX [.bool (ah zz),.slice p_3 (aa zz) c_3,.slice s_3 (ag dz) d_3] RQ.o K1.o (by simp[bJ]) (by simp[aU])),(aX [.bool (ah zz),.slice p_3 (aa zz) c_3,.slice s_3 (ag dz) d_3] TQ.o K1.o (by simp[bJ]) (by simp[aU])),(aj (l:=[.bool (ah zz),.slice p_3 (aa zz) c_3,.slice s_3 (ag dz) d_3]) (i:=0) (by omega) ol.o)⟩
theorem z1v (a0 x0 y0:ByteArray)(zz:Int)(dz:Nat)(sl:Bool)  (w:World)(h1:CQ 46 #[.string a0] (.tuple #[.string x0,.string y0,.bool sl]))(h2:CQ 47 #[.string x0] (.bool true))(h3:CQ 48 #[.string y0] (.bool false))(h11:∀ W,CF 24 #[.int .i64 0] W zz dz)  :
 Calls Tryz.prog 21 #[.string a0] w fun e w'=>∃ p c s d,e=.returned (.tuple #[.agg #[.bool (ah zz),.slice p (aa zz) c,.slice s (ag dz) d],.bool false])∧RN w' (.slice p (aa zz) c) zz.natAbs∧RN w' (.slice s (ag dz) d) dz∧Below w.heap.size w w':=by
 obtain ⟨C1,C2,C3,C11⟩:=aN h1 h2 h3 h11;clear h1 h2 h3 h11;go_enter func21,ntmps21
 go_upto_region 1 with fail
 refine av w [(#[.bool false,.slice none 0 0,.slice none 0 0],49)] rfl ?_;rintro W0 ⟨k1,hb⟩;have u6:=hid (show Below w.heap.size w W0 from hb);have K1:=hid k1;clear k1 hb;go_wp2_with fail
 with_reducible refine(C1.o _).mono ?_
 rintro e W1 ⟨rfl,hb⟩;have K1:=hid (K1.o.below hb);have w9:=hbt u6 hb;clear hb;go_wp2_with fail
 with_reducible refine(C2.o _).mono ?_
 rintro e W2 ⟨rfl,hb⟩;have K1:=hid (K1.o.below hb);have p8:=hbt w9 hb;clear hb;go_wp2_with fail
 with_reducible refine(C3.o _).mono ?_
 rintro e W3 ⟨rfl,hb⟩;have K1:=hid (K1.o.below hb);have ol:=hbt p8 hb;clear hb;go_wp2_with fail
 with_reducible refine(C11.o _).mono ?_
 rintro e W4 ⟨wm,wo,s_4,d_4,rfl,su,u0z,hb⟩;have K1:=hid (K1.o.below hb);have mf:=hbt ol hb;have RQ:=hid su;have TQ:=hid u0z;clear hb su u0z;obtain ⟨ww,si,sj⟩:=aA K1.o rfl rfl rfl;obtain ⟨cO,bg,bn⟩:=bC K1.o;go_wp2;exact bodyPost_ret (v:=.tuple #[.agg #[.bool (ah zz),.slice wm (aa zz) wo,.slice s_4 (ag dz) d_4],.bool false]) (by simp[results,results21,go_sem,ww,si,sj]) rfl ⟨_,_,_,_,rfl,(aX [.bool (ah zz),.slice wm (aa zz) wo,.slice s_4 (ag dz) d_4] RQ.o K1.o (by simp[bJ]) (by simp[aU])),(aX [.bool (ah zz),.slice wm (aa zz) wo,.slice s_4 (ag dz) d_4] TQ.o K1.o (by simp[bJ]) (by simp[aU])),(aj (l:=[.bool (ah zz),.slice wm (aa zz) wo,.slice s_4 (ag dz) d_4]) (i:=0) (by omega) mf.o)⟩
theorem z1u (a0 x0 y0:ByteArray)(z k sg:Int)(n one g:Nat)(hk:0<k)(hsg:sg≠0)  (w:World)(h1:CQ 46 #[.string a0] (.tuple #[.string x0,.string y0,.bool true]))(h2:CQ 47 #[.string x0] (.bool true))(h3:CQ 48 #[.string y0] (.bool true))(h4:∀ W,CZ 49 #[.string x0] W z)(h5:∀ W,CN 50 #[.string y0] W n)(h6:∀ W,CN 51 #[.int .u32 1] W one)(h7:∀ s1 d1 s2 d2 W,RN W (.slice s1 (ag n) d1) n→RN W (.slice s2 (ag one) d2) one→CR 52 #[.slice s1 (ag n) d1,.slice s2 (ag one) d2] W (.int .i64 k))(h8:∀ p1 c1 W,RN W (.slice p1 (aa z) c1) z.natAbs→CR 53 #[.agg #[.bool (ah z),.slice p1 (aa z) c1]] W (.int .i64 sg))(h9:∀ p1 c1 s2 d2 W,RN W (.slice p1 (aa z) c1) z.natAbs→RN W (.slice s2 (ag n) d2) n→CN 54 #[.slice p1 (aa z) c1,.slice s2 (ag n) d2] W g)(h10:∀ s1 d1 s2 d2 W,RN W (.slice s1 (ag g) d1) g→RN W (.slice s2 (ag one) d2) one→CR 52 #[.slice s1 (ag g) d1,.slice s2 (ag one) d2] W (.int .i64 0))  :
 Calls Tryz.prog 21 #[.string a0] w fun e w'=>∃ p c s d,e=.returned (.tuple #[.agg #[.bool (ah z),.slice p (aa z) c,.slice s (ag n) d],.bool true])∧RN w' (.slice p (aa z) c) z.natAbs∧RN w' (.slice s (ag n) d) n∧Below w.heap.size w w':=by
 obtain ⟨C1,C2,C3,C4,C5,C6,C7,C8,C9⟩:=bQ h1 h2 h3 h4 h5 h6 h7 h8 h9;have C10:=hid h10;have k0:decide (0<k)=true:=decide_eq_true hk;have k1:0<k:=hk;clear hk;have s0:(sg==0)=false:=by rw[beq_eq_false_iff_ne];exact hsg
 have s1:¬ sg=0:=hsg;have s2:(sg != 0)=true:=by unfold bne;rw[s0];rfl
 have s3:decide (sg=0)=false:=decide_eq_false hsg;clear hsg h1 h2 h3 h4 h5 h6 h7 h8 h9 h10;go_enter func21,ntmps21
 go_upto_region 1 with fail
 refine av w [(#[.bool false,.slice none 0 0,.slice none 0 0],49)] rfl ?_;rintro W0 ⟨k1,hb⟩;have u6:=hid (show Below w.heap.size w W0 from hb);have K1:=hid k1;clear k1 hb;go_wp2_with fail
 with_reducible refine(C1.o _).mono ?_
 rintro e W1 ⟨rfl,hb⟩;have K1:=hid (K1.o.below hb);have w9:=hbt u6 hb;clear hb;go_wp2_with fail
 with_reducible refine(C2.o _).mono ?_
 rintro e W2 ⟨rfl,hb⟩;have K1:=hid (K1.o.below hb);have p8:=hbt w9 hb;clear hb;go_wp2_with fail
 with_reducible refine(C3.o _).mono ?_
 rintro e W3 ⟨rfl,hb⟩;have K1:=hid (K1.o.below hb);have ol:=hbt p8 hb;clear hb;go_wp2_with fail
 with_reducible refine(C4.o _).mono ?_
 rintro e W4 ⟨wm,wo,rfl,su,hb⟩;have K1:=hid (K1.o.below hb);have mf:=hbt ol hb;have RZ:=hid su;clear hb su;go_wp2_with fail
 with_reducible refine(C5.o _).mono ?_
 rintro e W5 ⟨sw,rM,rfl,pq,hb⟩;obtain ⟨K1,RZ⟩:=aK hb K1 RZ;have pu:=hbt mf hb;have RM:=hid pq;clear hb pq;go_upto_region 5 with fail
 refine av W5 [(#[.bool (ah z),.slice wm (aa z) wo,.slice sw (ag n) rM],49)] rfl ?_;have L1:=K1.o.lt;have L2:=pu.o.size;rintro W6 ⟨k2,hb⟩;have hb:Below W5.heap.size W5 W6:=hb;obtain ⟨K1,RZ,RM⟩:=bA hb K1 RZ RM;have kM:=hbt pu hb;have K2:=hid k2;clear k2 hb;go_wp2_with fail
 with_reducible refine(C6.o _).mono ?_
 rintro e W7 ⟨p_6,c_6,rfl,mi,hb⟩;obtain ⟨K1,K2,RZ,RM⟩:=bY hb K1 K2 RZ RM;have bq:=hbt kM hb;have RO:=hid mi;clear hb mi;have uu:=K2.o.cell (i:=2) rfl;go_wp2_with fail
 with_reducible refine(C7.o _ _ _ _ _ RM.o RO.o).mono ?_
 rintro e W8 ⟨rfl,hb⟩;clear uu;obtain ⟨K1,K2,RZ,RM,RO⟩:=gm hb K1 K2 RZ RM RO;have bu:=hbt bq hb;clear hb;obtain ⟨rV,wu⟩:=aC K2.o rfl rfl;go_wp2_with fail
 with_reducible refine(C8.o _ _ _ RZ.o).mono ?_
 rintro e W9 ⟨rfl,hb⟩;clear rV wu;obtain ⟨K1,K2,RZ,RM,RO⟩:=gm hb K1 K2 RZ RM RO;have bv:=hbt bu hb;clear hb;have wu:=K2.o.cell (i:=1) rfl;have uu:=K2.o.cell (i:=2) rfl;go_wp2_with fail
 with_reducible refine(C9.o _ _ _ _ _ RZ.o RM.o).mono ?_
 rintro e W10 ⟨af,c_9,rfl,ed,hb⟩;clear wu uu;obtain ⟨K1,K2,RZ,RM,RO⟩:=gm hb K1 K2 RZ RM RO;have u01:=hbt bv hb;have RG:=hid ed;clear hb ed;go_wp2_with fail
 with_reducible refine(C10.o _ _ _ _ _ RG.o RO.o).mono ?_
 rintro e W11 ⟨rfl,hb⟩;obtain ⟨K1,K2,RZ,RM⟩:=bY hb K1 K2 RZ RM;have u0u:=hbt u01 hb;clear hb;obtain ⟨rV,wu,uu⟩:=aA K2.o rfl rfl rfl;obtain ⟨ww,si,sj⟩:=aA K1.o rfl rfl rfl;obtain ⟨cO,bg,bn⟩:=bC K1.o;go_wp2;exact bodyPost_ret (v:=.tuple #[.agg #[.bool (ah z),.slice wm (aa z) wo,.slice sw (ag n) rM],.bool true]) (by simp[results,results21,go_sem,ww,si,sj]) rfl ⟨_,_,_,_,rfl,(aX [.bool (ah z),.slice wm (aa z) wo,.slice sw (ag n) rM] RZ.o K1.o (by simp[bJ]) (by simp[aU])),(aX [.bool (ah z),.slice wm (aa z) wo,.slice sw (ag n) rM] RM.o K1.o (by simp[bJ]) (by simp[aU])),(aj (l:=[.bool (ah z),.slice wm (aa z) wo,.slice sw (ag n) rM]) (i:=0) (by omega) u0u.o)⟩
theorem zI (a0 x0 y0:ByteArray)(z k zz:Int)(n one dz:Nat)(hk:k≤0)  (w:World)(h1:CQ 46 #[.string a0] (.tuple #[.string x0,.string y0,.bool true]))(h2:CQ 47 #[.string x0] (.bool true))(h3:CQ 48 #[.string y0] (.bool true))(h4:∀ W,CZ 49 #[.string x0] W z)(h5:∀ W,CN 50 #[.string y0] W n)(h6:∀ W,CN 51 #[.int .u32 1] W one)(h7:∀ s1 d1 s2 d2 W,RN W (.slice s1 (ag n) d1) n→RN W (.slice s2 (ag one) d2) one→CR 52 #[.slice s1 (ag n) d1,.slice s2 (ag one) d2] W (.int .i64 k))(h11:∀ W,CF 24 #[.int .i64 0] W zz dz)  :
 Calls Tryz.prog 21 #[.string a0] w fun e w'=>∃ p c s d,e=.returned (.tuple #[.agg #[.bool (ah zz),.slice p (aa zz) c,.slice s (ag dz) d],.bool false])∧RN w' (.slice p (aa zz) c) zz.natAbs∧RN w' (.slice s (ag dz) d) dz∧Below w.heap.size w w':=by
 obtain ⟨C1,C2,C3,C4,C5,C6,C7,C11⟩:=jc h1 h2 h3 h4 h5 h6 h7 h11;have k0:decide (0<k)=false:=decide_eq_false (by omega);have k1:k≤0:=hk;clear hk h1 h2 h3 h4 h5 h6 h7 h11;go_enter func21,ntmps21
 go_upto_region 1 with fail
 refine av w [(#[.bool false,.slice none 0 0,.slice none 0 0],49)] rfl ?_;rintro W0 ⟨k1,hb⟩;have u6:=hid (show Below w.heap.size w W0 from hb);have K1:=hid k1;clear k1 hb;go_wp2_with fail
 with_reducible refine(C1.o _).mono ?_
 rintro e W1 ⟨rfl,hb⟩;have K1:=hid (K1.o.below hb);have w9:=hbt u6 hb;clear hb;go_wp2_with fail
 with_reducible refine(C2.o _).mono ?_
 rintro e W2 ⟨rfl,hb⟩;have K1:=hid (K1.o.below hb);have p8:=hbt w9 hb;clear hb;go_wp2_with fail
 with_reducible refine(C3.o _).mono ?_
 rintro e W3 ⟨rfl,hb⟩;have K1:=hid (K1.o.below hb);have ol:=hbt p8 hb;clear hb;go_wp2_with fail
 with_reducible refine(C4.o _).mono ?_
 rintro e W4 ⟨wm,wo,rfl,su,hb⟩;have K1:=hid (K1.o.below hb);have mf:=hbt ol hb;have RZ:=hid su;clear hb su;go_wp2_with fail
 with_reducible refine(C5.o _).mono ?_
 rintro e W5 ⟨sw,rM,rfl,pq,hb⟩;have K1:=hid (K1.o.below hb);have pu:=hbt mf hb;have RM:=hid pq;clear hb pq;go_upto_region 5 with fail
 refine av W5 [(#[.bool (ah z),.slice wm (aa z) wo,.slice sw (ag n) rM],49)] rfl ?_;have L1:=K1.o.lt;have L2:=pu.o.size;rintro W6 ⟨k2,hb⟩;have hb:Below W5.heap.size W5 W6:=hb;obtain ⟨K1,RM⟩:=aK hb K1 RM;have kM:=hbt pu hb;have K2:=hid k2;clear k2 hb;go_wp2_with fail
 with_reducible refine(C6.o _).mono ?_
 rintro e W7 ⟨p_6,c_6,rfl,mi,hb⟩;obtain ⟨K1,K2,RM⟩:=bA hb K1 K2 RM;have bq:=hbt kM hb;have RO:=hid mi;clear hb mi;have uu:=K2.o.cell (i:=2) rfl;go_wp2_with fail
 with_reducible refine(C7.o _ _ _ _ _ RM.o RO.o).mono ?_
 rintro e W8 ⟨rfl,hb⟩;clear uu;obtain ⟨K1,K2⟩:=aK hb K1 K2;have bu:=hbt bq hb;clear hb;obtain ⟨rV,wu,uu⟩:=aA K2.o rfl rfl rfl;go_wp2_with fail
 with_reducible refine(C11.o _).mono ?_
 rintro e W9 ⟨p_8,c_8,s_8,d_8,rfl,u0A,u0B,hb⟩;clear rV wu uu;have K1:=hid (K1.o.below hb);have bv:=hbt bu hb;have RQ:=hid u0A;have TQ:=hid u0B;clear hb u0A u0B;obtain ⟨ww,si,sj⟩:=aA K1.o rfl rfl rfl;obtain ⟨cO,bg,bn⟩:=bC K1.o;go_wp2;exact bodyPost_ret (v:=.tuple #[.agg #[.bool (ah zz),.slice p_8 (aa zz) c_8,.slice s_8 (ag dz) d_8],.bool false]) (by simp[results,results21,go_sem,ww,si,sj]) rfl ⟨_,_,_,_,rfl,(aX [.bool (ah zz),.slice p_8 (aa zz) c_8,.slice s_8 (ag dz) d_8] RQ.o K1.o (by simp[bJ]) (by simp[aU])),(aX [.bool (ah zz),.slice p_8 (aa zz) c_8,.slice s_8 (ag dz) d_8] TQ.o K1.o (by simp[bJ]) (by simp[aU])),(aj (l:=[.bool (ah zz),.slice p_8 (aa zz) c_8,.slice s_8 (ag dz) d_8]) (i:=0) (by omega) bv.o)⟩
theorem z1t (a0 x0 y0:ByteArray)(z k zz:Int)(n one dz:Nat)(hk:0<k)  (w:World)(h1:CQ 46 #[.string a0] (.tuple #[.string x0,.string y0,.bool true]))(h2:CQ 47 #[.string x0] (.bool true))(h3:CQ 48 #[.string y0] (.bool true))(h4:∀ W,CZ 49 #[.string x0] W z)(h5:∀ W,CN 50 #[.string y0] W n)(h6:∀ W,CN 51 #[.int .u32 1] W one)(h7:∀ s1 d1 s2 d2 W,RN W (.slice s1 (ag n) d1) n→RN W (.slice s2 (ag one) d2) one→CR 52 #[.slice s1 (ag n) d1,.slice s2 (ag one) d2] W (.int .i64 k))(h8:∀ p1 c1 W,RN W (.slice p1 (aa z) c1) z.natAbs→CR 53 #[.agg #[.bool (ah z),.slice p1 (aa z) c1]] W (.int .i64 0))(h11:∀ W,CF 24 #[.int .i64 0] W zz dz)  :
 Calls Tryz.prog 21 #[.string a0] w fun e w'=>∃ p c s d,e=.returned (.tuple #[.agg #[.bool (ah zz),.slice p (aa zz) c,.slice s (ag dz) d],.bool false])∧RN w' (.slice p (aa zz) c) zz.natAbs∧RN w' (.slice s (ag dz) d) dz∧Below w.heap.size w w':=by
 obtain ⟨C1,C2,C3,C4,C5,C6,C7,C8,C11⟩:=bQ h1 h2 h3 h4 h5 h6 h7 h8 h11;have k0:decide (0<k)=true:=decide_eq_true hk;have k1:0<k:=hk;clear hk h1 h2 h3 h4 h5 h6 h7 h8 h11;go_enter func21,ntmps21
 go_upto_region 1 with fail
 refine av w [(#[.bool false,.slice none 0 0,.slice none 0 0],49)] rfl ?_;rintro W0 ⟨k1,hb⟩;have u6:=hid (show Below w.heap.size w W0 from hb);have K1:=hid k1;clear k1 hb;go_wp2_with fail
 with_reducible refine(C1.o _).mono ?_
 rintro e W1 ⟨rfl,hb⟩;have K1:=hid (K1.o.below hb);have w9:=hbt u6 hb;clear hb;go_wp2_with fail
 with_reducible refine(C2.o _).mono ?_
 rintro e W2 ⟨rfl,hb⟩;have K1:=hid (K1.o.below hb);have p8:=hbt w9 hb;clear hb;go_wp2_with fail
 with_reducible refine(C3.o _).mono ?_
 rintro e W3 ⟨rfl,hb⟩;have K1:=hid (K1.o.below hb);have ol:=hbt p8 hb;clear hb;go_wp2_with fail
 with_reducible refine(C4.o _).mono ?_
 rintro e W4 ⟨wm,wo,rfl,su,hb⟩;have K1:=hid (K1.o.below hb);have mf:=hbt ol hb;have RZ:=hid su;clear hb su;go_wp2_with fail
 with_reducible refine(C5.o _).mono ?_
 rintro e W5 ⟨sw,rM,rfl,pq,hb⟩;obtain ⟨K1,RZ⟩:=aK hb K1 RZ;have pu:=hbt mf hb;have RM:=hid pq;clear hb pq;go_upto_region 5 with fail
 refine av W5 [(#[.bool (ah z),.slice wm (aa z) wo,.slice sw (ag n) rM],49)] rfl ?_;have L1:=K1.o.lt;have L2:=pu.o.size;rintro W6 ⟨k2,hb⟩;have hb:Below W5.heap.size W5 W6:=hb;obtain ⟨K1,RZ,RM⟩:=bA hb K1 RZ RM;have kM:=hbt pu hb;have K2:=hid k2;clear k2 hb;go_wp2_with fail
 with_reducible refine(C6.o _).mono ?_
 rintro e W7 ⟨p_6,c_6,rfl,mi,hb⟩;obtain ⟨K1,K2,RZ,RM⟩:=bY hb K1 K2 RZ RM;have bq:=hbt kM hb;have RO:=hid mi;clear hb mi;have uu:=K2.o.cell (i:=2) rfl;go_wp2_with fail
 with_reducible refine(C7.o _ _ _ _ _ RM.o RO.o).mono ?_
 rintro e W8 ⟨rfl,hb⟩;clear uu;obtain ⟨K1,K2,RZ⟩:=bA hb K1 K2 RZ;have bu:=hbt bq hb;clear hb;obtain ⟨rV,wu⟩:=aC K2.o rfl rfl;go_wp2_with fail
 with_reducible refine(C8.o _ _ _ RZ.o).mono ?_
 rintro e W9 ⟨rfl,hb⟩;clear rV wu;obtain ⟨K1,K2⟩:=aK hb K1 K2;have bv:=hbt bu hb;clear hb;have wu:=K2.o.cell (i:=1) rfl;have uu:=K2.o.cell (i:=2) rfl;go_wp2_with fail
 with_reducible refine(C11.o _).mono ?_
 rintro e W10 ⟨af,c_9,s_9,d_9,rfl,ed,u0C,hb⟩;clear wu uu;have K1:=hid (K1.o.below hb);have u01:=hbt bv hb;have RQ:=hid ed;have TQ:=hid u0C;clear hb ed u0C;obtain ⟨ww,si,sj⟩:=aA K1.o rfl rfl rfl;obtain ⟨cO,bg,bn⟩:=bC K1.o;go_wp2;exact bodyPost_ret (v:=.tuple #[.agg #[.bool (ah zz),.slice af (aa zz) c_9,.slice s_9 (ag dz) d_9],.bool false]) (by simp[results,results21,go_sem,ww,si,sj]) rfl ⟨_,_,_,_,rfl,(aX [.bool (ah zz),.slice af (aa zz) c_9,.slice s_9 (ag dz) d_9] RQ.o K1.o (by simp[bJ]) (by simp[aU])),(aX [.bool (ah zz),.slice af (aa zz) c_9,.slice s_9 (ag dz) d_9] TQ.o K1.o (by simp[bJ]) (by simp[aU])),(aj (l:=[.bool (ah zz),.slice af (aa zz) c_9,.slice s_9 (ag dz) d_9]) (i:=0) (by omega) u01.o)⟩
theorem vY (a0 x0 y0:ByteArray)(z k k2 sg zz:Int)(n one g dz:Nat)(hk:0<k)(hsg:sg≠0)(hk2:k2≠0)  (w:World)(h1:CQ 46 #[.string a0] (.tuple #[.string x0,.string y0,.bool true]))(h2:CQ 47 #[.string x0] (.bool true))(h3:CQ 48 #[.string y0] (.bool true))(h4:∀ W,CZ 49 #[.string x0] W z)(h5:∀ W,CN 50 #[.string y0] W n)(h6:∀ W,CN 51 #[.int .u32 1] W one)(h7:∀ s1 d1 s2 d2 W,RN W (.slice s1 (ag n) d1) n→RN W (.slice s2 (ag one) d2) one→CR 52 #[.slice s1 (ag n) d1,.slice s2 (ag one) d2] W (.int .i64 k))(h8:∀ p1 c1 W,RN W (.slice p1 (aa z) c1) z.natAbs→CR 53 #[.agg #[.bool (ah z),.slice p1 (aa z) c1]] W (.int .i64 sg))(h9:∀ p1 c1 s2 d2 W,RN W (.slice p1 (aa z) c1) z.natAbs→RN W (.slice s2 (ag n) d2) n→CN 54 #[.slice p1 (aa z) c1,.slice s2 (ag n) d2] W g)(h10:∀ s1 d1 s2 d2 W,RN W (.slice s1 (ag g) d1) g→RN W (.slice s2 (ag one) d2) one→CR 52 #[.slice s1 (ag g) d1,.slice s2 (ag one) d2] W (.int .i64 k2))(h11:∀ W,CF 24 #[.int .i64 0] W zz dz)  :
 Calls Tryz.prog 21 #[.string a0] w fun e w'=>∃ p c s d,e=.returned (.tuple #[.agg #[.bool (ah zz),.slice p (aa zz) c,.slice s (ag dz) d],.bool false])∧RN w' (.slice p (aa zz) c) zz.natAbs∧RN w' (.slice s (ag dz) d) dz∧Below w.heap.size w w':=by
 obtain ⟨C1,C2,C3,C4,C5,C6,C7,C8,C9⟩:=bQ h1 h2 h3 h4 h5 h6 h7 h8 h9;have C10:=hid h10;have C11:=hid h11;have k0:decide (0<k)=true:=decide_eq_true hk;have k1:0<k:=hk;clear hk;have s0:(sg==0)=false:=by rw[beq_eq_false_iff_ne];exact hsg
 have s1:¬ sg=0:=hsg;have s2:(sg != 0)=true:=by unfold bne;rw[s0];rfl
 have s3:decide (sg=0)=false:=decide_eq_false hsg;clear hsg;have q0:(k2==0)=false:=by rw[beq_eq_false_iff_ne];exact hk2
 have q1:¬ k2=0:=hk2;clear hk2 h1 h2 h3 h4 h5 h6 h7 h8 h9 h10 h11;go_enter func21,ntmps21
 go_upto_region 1 with fail
 refine av w [(#[.bool false,.slice none 0 0,.slice none 0 0],49)] rfl ?_;rintro W0 ⟨k1,hb⟩;have u6:=hid (show Below w.heap.size w W0 from hb);have K1:=hid k1;clear k1 hb;go_wp2_with fail
 with_reducible refine(C1.o _).mono ?_
 rintro e W1 ⟨rfl,hb⟩;have K1:=hid (K1.o.below hb);have w9:=hbt u6 hb;clear hb;go_wp2_with fail
 with_reducible refine(C2.o _).mono ?_
 rintro e W2 ⟨rfl,hb⟩;have K1:=hid (K1.o.below hb);have p8:=hbt w9 hb;clear hb;go_wp2_with fail
 with_reducible refine(C3.o _).mono ?_
 rintro e W3 ⟨rfl,hb⟩;have K1:=hid (K1.o.below hb);have ol:=hbt p8 hb;clear hb;go_wp2_with fail
 with_reducible refine(C4.o _).mono ?_
 rintro e W4 ⟨wm,wo,rfl,su,hb⟩;have K1:=hid (K1.o.below hb);have mf:=hbt ol hb;have RZ:=hid su;clear hb su;go_wp2_with fail
 with_reducible refine(C5.o _).mono ?_
 rintro e W5 ⟨sw,rM,rfl,pq,hb⟩;obtain ⟨K1,RZ⟩:=aK hb K1 RZ;have pu:=hbt mf hb;have RM:=hid pq;clear hb pq;go_upto_region 5 with fail
 refine av W5 [(#[.bool (ah z),.slice wm (aa z) wo,.slice sw (ag n) rM],49)] rfl ?_;have L1:=K1.o.lt;have L2:=pu.o.size;rintro W6 ⟨k2,hb⟩;have hb:Below W5.heap.size W5 W6:=hb;obtain ⟨K1,RZ,RM⟩:=bA hb K1 RZ RM;have kM:=hbt pu hb;have K2:=hid k2;clear k2 hb;go_wp2_with fail
 with_reducible refine(C6.o _).mono ?_
 rintro e W7 ⟨p_6,c_6,rfl,mi,hb⟩;obtain ⟨K1,K2,RZ,RM⟩:=bY hb K1 K2 RZ RM;have bq:=hbt kM hb;have RO:=hid mi;clear hb mi;have uu:=K2.o.cell (i:=2) rfl;go_wp2_with fail
 with_reducible refine(C7.o _ _ _ _ _ RM.o RO.o).mono ?_
 rintro e W8 ⟨rfl,hb⟩;clear uu;obtain ⟨K1,K2,RZ,RM,RO⟩:=gm hb K1 K2 RZ RM RO;have bu:=hbt bq hb;clear hb;obtain ⟨rV,wu⟩:=aC K2.o rfl rfl;go_wp2_with fail
 with_reducible refine(C8.o _ _ _ RZ.o).mono ?_
 rintro e W9 ⟨rfl,hb⟩;clear rV wu;obtain ⟨K1,K2,RZ,RM,RO⟩:=gm hb K1 K2 RZ RM RO;have bv:=hbt bu hb;clear hb;have wu:=K2.o.cell (i:=1) rfl;have uu:=K2.o.cell (i:=2) rfl;go_wp2_with fail
 with_reducible refine(C9.o _ _ _ _ _ RZ.o RM.o).mono ?_
 rintro e W10 ⟨af,c_9,rfl,ed,hb⟩;clear wu uu;obtain ⟨K1,RO⟩:=aK hb K1 RO;have u01:=hbt bv hb;have RG:=hid ed;clear hb ed;go_wp2_with fail
 with_reducible refine(C10.o _ _ _ _ _ RG.o RO.o).mono ?_
 rintro e W11 ⟨rfl,hb⟩;have K1:=hid (K1.o.below hb);have u0u:=hbt u01 hb;clear hb;go_wp2_with fail
 with_reducible refine(C11.o _).mono ?_
 rintro e W12 ⟨u0i,u0j,u0k,u0l,rfl,u0D,u0E,hb⟩;have K1:=hid (K1.o.below hb);have u0K:=hbt u0u hb;have RQ:=hid u0D;have TQ:=hid u0E;clear hb u0D u0E;obtain ⟨ww,si,sj⟩:=aA K1.o rfl rfl rfl;obtain ⟨cO,bg,bn⟩:=bC K1.o;go_wp2;exact bodyPost_ret (v:=.tuple #[.agg #[.bool (ah zz),.slice u0i (aa zz) u0j,.slice u0k (ag dz) u0l],.bool false]) (by simp[results,results21,go_sem,ww,si,sj]) rfl ⟨_,_,_,_,rfl,(aX [.bool (ah zz),.slice u0i (aa zz) u0j,.slice u0k (ag dz) u0l] RQ.o K1.o (by simp[bJ]) (by simp[aU])),(aX [.bool (ah zz),.slice u0i (aa zz) u0j,.slice u0k (ag dz) u0l] TQ.o K1.o (by simp[bJ]) (by simp[aU])),(aj (l:=[.bool (ah zz),.slice u0i (aa zz) u0j,.slice u0k (ag dz) u0l]) (i:=0) (by omega) u0K.o)⟩
open Go.Lib (hid)
theorem rq (k n:Int)(dn:Nat)  (w:World)(h1:∀ W,CZ 55 #[.int .i64 k] W n)(h2:∀ W,CN 51 #[.int .u32 1] W dn)  :
 CF 24 #[.int .i64 k] w n dn:=by
 have C1:=hid h1;have C2:=hid h2;clear h1 h2;go_enter func24,ntmps24
 go_upto_region 1 with fail
 refine av w [(#[.bool false,.slice none 0 0,.slice none 0 0],49)] rfl ?_;rintro W0 ⟨k1,hb⟩;have u6:=hid (show Below w.heap.size w W0 from hb);have K1:=hid k1;clear k1 hb;go_wp2_with fail
 with_reducible refine(C1.o _).mono ?_
 rintro e W1 ⟨p_1,c_1,rfl,u0F,hb⟩;have K1:=hid (K1.o.below hb);have w9:=hbt u6 hb;have RN1:=hid u0F;clear hb u0F;go_wp2_with fail
 with_reducible refine(C2.o _).mono ?_
 rintro e W2 ⟨p_2,c_2,rfl,u0G,hb⟩;obtain ⟨K1,RN1⟩:=aK hb K1 RN1;have p8:=hbt w9 hb;have RD1:=hid u0G;clear hb u0G;obtain ⟨ww,si,sj⟩:=aA K1.o rfl rfl rfl;obtain ⟨cO,bg,bn⟩:=bC K1.o;go_wp2;exact bodyPost_ret (v:=.agg #[.bool (ah n),.slice p_1 (aa n) c_1,.slice p_2 (ag dn) c_2]) (by simp[results,results24,go_sem,ww,si,sj]) rfl ⟨_,_,_,_,rfl,(aX [.bool (ah n),.slice p_1 (aa n) c_1,.slice p_2 (ag dn) c_2] RN1.o K1.o (by simp[bJ]) (by simp[aU])),(aX [.bool (ah n),.slice p_1 (aa n) c_1,.slice p_2 (ag dn) c_2] RD1.o K1.o (by simp[bJ]) (by simp[aU])),(aj (l:=[.bool (ah n),.slice p_1 (aa n) c_1,.slice p_2 (ag dn) c_2]) (i:=0) (by omega) p8.o)⟩
theorem z2Q (n m:Int)(en:Nat)(p1:Option Addr)(c1:Nat)(s1:Option Addr)(d1:Nat)(w:World)(h1:∀ p1 c1 W,RN W (.slice p1 (aa n) c1) n.natAbs→CZ 137 #[.agg #[.bool (ah n),.slice p1 (aa n) c1]] W m)(r1:RN w (.slice p1 (aa n) c1) n.natAbs)(t1:RN w (.slice s1 (ag en) d1) en) :
 CF 98 #[.agg #[.bool (ah n),.slice p1 (aa n) c1,.slice s1 (ag en) d1]] w m en:=by
 obtain ⟨C1,R1,T1⟩:=ak h1 r1 t1;clear h1 r1 t1;go_enter func98,ntmps98
 go_upto_region 1 with fail
 refine av w [(#[.bool (ah n),.slice p1 (aa n) c1,.slice s1 (ag en) d1],49),(#[.bool false,.slice none 0 0,.slice none 0 0],49)] rfl ?_;rintro W0 ⟨k1,k2,hb⟩;have u6:=hid (show Below w.heap.size w W0 from hb);obtain ⟨R1,T1⟩:=aK u6.o R1 T1;obtain ⟨K1,K2⟩:=aB k1 k2;clear k1 k2 hb;go_wp2_with fail
 refine ay (fun a0 a' V=>∃ kV gy l5 l6,a'=⟨putL [(3,.pointer (some ⟨w.heap.size,0,none⟩)),(4,.agg #[.bool (ah n),.slice p1 (aa n) c1]),(5,.agg #[.bool (ah m),.slice kV (aa m) gy]),(6,.pointer (some ⟨w.heap.size,2,none⟩)),(7,.slice s1 (ag en) d1),(8,.agg #[.bool (ah m),.slice l5 (aa m) l6,.slice s1 (ag en) d1])] a0.tmps,a0.defers⟩∧Below w.heap.size w V∧SBk V (w.heap.size+1) #[.bool (ah m),.slice l5 (aa m) l6,.slice s1 (ag en) d1] 49∧RN V (.slice s1 (ag en) d1) en∧RN V (.slice l5 (aa m) l6) m.natAbs) ?_ ?_
 · refine aH 6 1 [3,4,5,6,7,8] [Rel.val (.pointer (some ⟨w.heap.size,0,none⟩)),Rel.val (.agg #[.bool (ah n),.slice p1 (aa n) c1]),Rel.int m,Rel.val (.pointer (some ⟨w.heap.size,2,none⟩)),Rel.val (.slice s1 (ag en) d1),⟨fun v W=>∃ pa ca,v=.agg #[.bool (ah m),.slice pa (aa m) ca,.slice s1 (ag en) d1]∧RN W (.slice pa (aa m) ca) m.natAbs,fun _ _ _ ⟨pa,ca,e,h0⟩ hb=>⟨pa,ca,e,h0.below hb⟩⟩] ?_ ?_
   · intro u02 a W i HI hD Hr him
     have y1:=HI.o.rst 1 rfl;obtain ⟨ww,si,sj⟩:=aA (K1.o.below HI.o.world) rfl rfl rfl;obtain⟨X0,X1,X3⟩:=HI.o.g3 0 3 1 4 3 6;have X4:=HI.o.rg 4 7 rfl
     match i,him,Hr with
     | 0,_,Hi|1,_,Hi =>
       try have x0:=X0.t Hi.o
       refine stepH rfl fun K' hK=>?_;go_simp;exact hK.o _ _ (HI.o.pw Hi.o)
     | 2,_,Hi =>
       have x1:=X1.q Hi.o;refine stepH rfl fun K' hK=>?_;go_simp;with_reducible refine(C1.o _ _ _ (R1.o.below HI.o.world)).mono ?_
       rintro e W' ⟨kV,gy,rfl,bM,hb⟩;exact hK.o _ _ ⟨HI.o.pc Hi.o hb ⟨kV,gy,rfl,bM⟩,trivial⟩
     | 3,_,Hi|4,_,Hi =>
       try have x3:=X3.t Hi.o
       refine stepH rfl fun K' hK=>?_;go_simp;exact hK.o _ _ (HI.o.pw Hi.o)
     | 5,_,Hi =>
       obtain⟨v',x2,kV,gy,e,bM⟩:=HI.o.at (i:=2) Hi.o (by kernel_rfl) (by decide);obtain rfl:=e;have x2:a.tmps[5]? = some (.agg #[.bool (ah m),.slice kV (aa m) gy]):=x2;have u0v:=hid bM;clear bM;have x4:=X4.q Hi.o;refine stepH rfl fun K' hK=>?_;go_simp;exact hK.o _ _ ⟨HI.o.pv Hi.o ⟨kV,gy,rfl,u0v.o⟩,trivial⟩
     | n+6,h,_=>exact absurd h (by omega)
   · intro u02 a W HI hD HA
     obtain⟨v',x2,kV,gy,e,bM⟩:=HI.o.slots 2 (by decide) (HA.o 2 (by decide));obtain rfl:=e;have u0v:=hid bM;clear bM;obtain⟨v',x5,l5,l6,e,lv⟩:=HI.o.slots 5 (by decide) (HA.o 5 (by decide));obtain rfl:=e;have u03:=hid lv;clear lv;have x5:a.tmps[8]? = some (.agg #[.bool (ah m),.slice l5 (aa m) l6,.slice s1 (ag en) d1]):=x5;have d9:=hid HI.o.world;obtain ⟨K2,T1⟩:=aK d9.o K2 T1;have HBX:=Lib.hid (u6.o.trans (d9.o.mono u6.o.size));have RM:=u0v;have RMb:=u03;have y2:=HI.o.rst 2 rfl;obtain ⟨rV,wu,uu⟩:=aA K2.o rfl rfl rfl;obtain ⟨u0L,u0M,u0N⟩:=bC K2.o;refine aZ (t:=0) ?_;refine stepH rfl fun K' hK=>?_;go_simp;refine hK.o _ _ ?_;clear hK;refine aV ?_;have s0:∀ {v':Value} {n':Nat},RN W v' n'→RN (storeAll W (w.heap.size+1) 0 [.bool (ah m),.slice l5 (aa m) l6,.slice s1 (ag en) d1]) v' n':=fun h'=>aX _ h' K2.o (by simp[bJ]) (by simp[aU]);exact⟨rfl,kV,gy,l5,l6,(HI.o.finx ⟨HI.o.sx HA.o 0,HI.o.sx HA.o 1,x2,HI.o.sx HA.o 3,HI.o.sx HA.o 4,x5,trivial⟩ rfl),(aj (l:=[.bool (ah m),.slice l5 (aa m) l6,.slice s1 (ag en) d1]) (i:=0) (by omega) HBX.o),(bK (l:=[.bool (ah m),.slice l5 (aa m) l6,.slice s1 (ag en) d1]) (i:=0) K2.o),(s0 T1.o),(s0 RMb.o)⟩
 rintro a' W1 ⟨kV,gy,l5,l6,rfl,z0,z1,z2,z3⟩;obtain ⟨w9,K2,T1,RMb⟩:=aN z0 z1 z2 z3;clear z0 z1 z2 z3;simp only[putL,List.setIfInBounds_toArray,List.set_cons_zero,List.set_cons_succ];go_wp2;obtain ⟨rV,wu,uu⟩:=aA K2.o rfl rfl rfl;exact bodyPost_ret (v:=.agg #[.bool (ah m),.slice l5 (aa m) l6,.slice s1 (ag en) d1]) (by simp[results,results98,go_sem,rV,wu,uu]) rfl ⟨_,_,_,_,rfl,RMb.o,T1.o,w9.o⟩
theorem z2S (n m:Int)(en:Nat)(p1:Option Addr)(c1:Nat)(s1:Option Addr)(d1:Nat)(w:World)(h1:∀ s2 d2 W,RN W (.slice s2 (ag en) d2) en→CZ 64 #[.bool (ah n),.slice s2 (ag en) d2] W m)(r1:RN w (.slice p1 (aa n) c1) n.natAbs)(t1:RN w (.slice s1 (ag en) d1) en) :
 Calls Tryz.prog 95 #[.agg #[.bool (ah n),.slice p1 (aa n) c1,.slice s1 (ag en) d1]] w fun e w'=>∃ p c s d,e=.returned (.agg #[.bool (ah m),.slice p (aa m) c,.slice s (ag n.natAbs) d])∧RN w' (.slice p (aa m) c) m.natAbs∧RN w' (.slice s (ag n.natAbs) d) n.natAbs∧Below w.heap.size w w':=by
 obtain ⟨C1,R1,T1⟩:=ak h1 r1 t1;clear h1 r1 t1;go_enter func95,ntmps95
 go_upto_region 1 with fail
 refine av w [(#[.bool (ah n),.slice p1 (aa n) c1,.slice s1 (ag en) d1],49),(#[.bool false,.slice none 0 0,.slice none 0 0],49)] rfl ?_;rintro W0 ⟨k1,k2,hb⟩;have u6:=hid (show Below w.heap.size w W0 from hb);obtain ⟨R1,T1⟩:=aK u6.o R1 T1;obtain ⟨K1,K2⟩:=aB k1 k2;clear k1 k2 hb;go_wp2_with fail
 refine ay (fun a0 a' V=>∃ fq fQ lg ll,a'=⟨putL [(3,.pointer (some ⟨w.heap.size,0,none⟩)),(4,.pointer (some ⟨w.heap.size,0,none⟩)),(5,.bool (ah n)),(6,.pointer (some ⟨w.heap.size,2,none⟩)),(7,.slice s1 (ag en) d1),(8,.agg #[.bool (ah m),.slice fq (aa m) fQ]),(9,.pointer (some ⟨w.heap.size,0,none⟩)),(10,.pointer (some ⟨w.heap.size,1,none⟩)),(11,.slice p1 (aa n) c1),(12,.agg #[.bool (ah m),.slice lg (aa m) ll,.slice p1 (aa n) c1])] a0.tmps,a0.defers⟩∧Below w.heap.size w V∧SBk V (w.heap.size+1) #[.bool (ah m),.slice lg (aa m) ll,.slice p1 (aa n) c1] 49∧RN V (.slice p1 (aa n) c1) n.natAbs∧RN V (.slice lg (aa m) ll) m.natAbs) ?_ ?_
 · refine aH 10 1 [3,4,5,6,7,8,9,10,11,12] [Rel.val (.pointer (some ⟨w.heap.size,0,none⟩)),Rel.val (.pointer (some ⟨w.heap.size,0,none⟩)),Rel.val (.bool (ah n)),Rel.val (.pointer (some ⟨w.heap.size,2,none⟩)),Rel.val (.slice s1 (ag en) d1),Rel.int m,Rel.val (.pointer (some ⟨w.heap.size,0,none⟩)),Rel.val (.pointer (some ⟨w.heap.size,1,none⟩)),Rel.val (.slice p1 (aa n) c1),⟨fun v W=>∃ pa ca,v=.agg #[.bool (ah m),.slice pa (aa m) ca,.slice p1 (aa n) c1]∧RN W (.slice pa (aa m) ca) m.natAbs,fun _ _ _ ⟨pa,ca,e,h0⟩ hb=>⟨pa,ca,e,h0.below hb⟩⟩] ?_ ?_
   · intro u02 a W i HI hD Hr him
     have y1:=HI.o.rst 1 rfl;have ww:=(K1.o.below HI.o.world).cell (i:=0) rfl;have sj:=(K1.o.below HI.o.world).cell (i:=2) rfl;have si:=(K1.o.below HI.o.world).cell (i:=1) rfl;obtain⟨X0,X1,X3,X2,X4,X6⟩:=HI.o.g6 0 3 1 4 3 6 2 5 4 7 6 9;obtain⟨X7,X8⟩:=HI.o.g2 7 10 8 11
     match i,him,Hr with
     | 0,_,Hi|1,_,Hi|2,_,Hi|3,_,Hi|4,_,Hi =>
       try have x0:=X0.t Hi.o
       try have x1:=X1.t Hi.o
       try have x3:=X3.t Hi.o
       refine stepH rfl fun K' hK=>?_;go_simp;exact hK.o _ _ (HI.o.pw Hi.o)
     | 5,_,Hi =>
       have x2:=X2.q Hi.o;have x4:=X4.q Hi.o;refine stepH rfl fun K' hK=>?_;go_simp;with_reducible refine(C1.o _ _ _ (T1.o.below HI.o.world)).mono ?_
       rintro e W' ⟨fq,fQ,rfl,lv,hb⟩;exact hK.o _ _ ⟨HI.o.pc Hi.o hb ⟨fq,fQ,rfl,lv⟩,trivial⟩
     | 6,_,Hi|7,_,Hi|8,_,Hi =>
       try have x6:=X6.t Hi.o
       try have x7:=X7.t Hi.o
       refine stepH rfl fun K' hK=>?_;go_simp;exact hK.o _ _ (HI.o.pw Hi.o)
     | 9,_,Hi =>
       obtain⟨v',x5,fq,fQ,e,lv⟩:=HI.o.at (i:=5) Hi.o (by kernel_rfl) (by decide);obtain rfl:=e;have x5:a.tmps[8]? = some (.agg #[.bool (ah m),.slice fq (aa m) fQ]):=x5;have u03:=hid lv;clear lv;have x8:=X8.q Hi.o;refine stepH rfl fun K' hK=>?_;go_simp;exact hK.o _ _ ⟨HI.o.pv Hi.o ⟨fq,fQ,rfl,u03.o⟩,trivial⟩
     | n+10,h,_=>exact absurd h (by omega)
   · intro u02 a W HI hD HA
     obtain⟨v',x5,fq,fQ,e,lv⟩:=HI.o.slots 5 (by decide) (HA.o 5 (by decide));obtain rfl:=e;have u03:=hid lv;clear lv;obtain⟨v',x9,lg,ll,e,kz⟩:=HI.o.slots 9 (by decide) (HA.o 9 (by decide));obtain rfl:=e;have u05:=hid kz;clear kz;have x9:a.tmps[12]? = some (.agg #[.bool (ah m),.slice lg (aa m) ll,.slice p1 (aa n) c1]):=x9;have d9:=hid HI.o.world;obtain ⟨K2,R1⟩:=aK d9.o K2 R1;have HBX:=Lib.hid (u6.o.trans (d9.o.mono u6.o.size));have RM:=u03;have RMb:=u05;have y2:=HI.o.rst 2 rfl;obtain ⟨rV,wu,uu⟩:=aA K2.o rfl rfl rfl;obtain ⟨u0L,u0M,u0N⟩:=bC K2.o;refine aZ (t:=0) ?_;refine stepH rfl fun K' hK=>?_;go_simp;refine hK.o _ _ ?_;clear hK;refine aV ?_;have s0:∀ {v':Value} {n':Nat},RN W v' n'→RN (storeAll W (w.heap.size+1) 0 [.bool (ah m),.slice lg (aa m) ll,.slice p1 (aa n) c1]) v' n':=fun h'=>aX _ h' K2.o (by simp[bJ]) (by simp[aU]);exact⟨rfl,fq,fQ,lg,ll,(HI.o.finx ⟨HI.o.sx HA.o 0,HI.o.sx HA.o 1,HI.o.sx HA.o 2,HI.o.sx HA.o 3,HI.o.sx HA.o 4,x5,HI.o.sx HA.o 6,HI.o.sx HA.o 7,HI.o.sx HA.o 8,x9,trivial⟩ rfl),(aj (l:=[.bool (ah m),.slice lg (aa m) ll,.slice p1 (aa n) c1]) (i:=0) (by omega) HBX.o),(bK (l:=[.bool (ah m),.slice lg (aa m) ll,.slice p1 (aa n) c1]) (i:=0) K2.o),(s0 R1.o),(s0 RMb.o)⟩
 rintro a' W1 ⟨fq,fQ,lg,ll,rfl,z0,z1,z2,z3⟩;obtain ⟨w9,K2,R1,RMb⟩:=aN z0 z1 z2 z3;clear z0 z1 z2 z3;simp only[putL,List.setIfInBounds_toArray,List.set_cons_zero,List.set_cons_succ];go_wp2;obtain ⟨rV,wu,uu⟩:=aA K2.o rfl rfl rfl;exact bodyPost_ret (v:=.agg #[.bool (ah m),.slice lg (aa m) ll,.slice p1 (aa n) c1]) (by simp[results,results95,go_sem,rV,wu,uu]) rfl ⟨_,_,_,_,rfl,RMb.o,R1.o,w9.o⟩
theorem z0U (n s:Int)(en:Nat)(p1:Option Addr)(c1:Nat)(s1:Option Addr)(d1:Nat)(w:World)(h1:∀ p1 c1 W,RN W (.slice p1 (aa n) c1) n.natAbs→CR 53 #[.agg #[.bool (ah n),.slice p1 (aa n) c1]] W (.int .i64 s))(r1:RN w (.slice p1 (aa n) c1) n.natAbs)(t1:RN w (.slice s1 (ag en) d1) en) :
 CR 63 #[.agg #[.bool (ah n),.slice p1 (aa n) c1,.slice s1 (ag en) d1]] w (.int .i64 s):=by
 obtain ⟨C1,R1,T1⟩:=ak h1 r1 t1;clear h1 r1 t1;go_enter func63,ntmps63
 go_upto_region 1 with fail
 refine av w [(#[.bool (ah n),.slice p1 (aa n) c1,.slice s1 (ag en) d1],49)] rfl ?_;rintro W0 ⟨k1,hb⟩;have u6:=hid (show Below w.heap.size w W0 from hb);have R1:=hid (R1.o.below u6.o);have K1:=hid k1;clear k1 hb;obtain ⟨ww,si⟩:=aC K1.o rfl rfl;go_wp2_with fail
 with_reducible refine(C1.o _ _ _ R1.o).mono ?_
 rintro e W1 ⟨rfl,hb⟩;clear ww si;have w9:=hbt u6 hb;clear hb;go_wp2;exact bodyPost_ret (v:=.int .i64 s) (by simp[results,results63,go_sem]) rfl ⟨rfl,w9.o⟩
theorem z2R (n1 n2 z n:Int)(en1 en2 en dn:Nat)(p1:Option Addr)(c1:Nat)(s1:Option Addr)(d1:Nat)(p2:Option Addr)(c2:Nat)(s2:Option Addr)(d2:Nat)(w:World)(h1:∀ p1 c1 p2 c2 W,RN W (.slice p1 (aa n1) c1) n1.natAbs→RN W (.slice p2 (aa n2) c2) n2.natAbs→CZ 92 #[.agg #[.bool (ah n1),.slice p1 (aa n1) c1],.agg #[.bool (ah n2),.slice p2 (aa n2) c2]] W z)(h2:∀ s1 d1 s2 d2 W,RN W (.slice s1 (ag en1) d1) en1→RN W (.slice s2 (ag en2) d2) en2→CN 65 #[.slice s1 (ag en1) d1,.slice s2 (ag en2) d2] W en)(h3:∀ p1 c1 s2 d2 W,RN W (.slice p1 (aa z) c1) z.natAbs→RN W (.slice s2 (ag en) d2) en→CF 91 #[.agg #[.bool (ah z),.slice p1 (aa z) c1],.slice s2 (ag en) d2] W n dn)(r1:RN w (.slice p1 (aa n1) c1) n1.natAbs)(t1:RN w (.slice s1 (ag en1) d1) en1)(r2:RN w (.slice p2 (aa n2) c2) n2.natAbs)(t2:RN w (.slice s2 (ag en2) d2) en2) :
 CF 56 #[.agg #[.bool (ah n1),.slice p1 (aa n1) c1,.slice s1 (ag en1) d1],.agg #[.bool (ah n2),.slice p2 (aa n2) c2,.slice s2 (ag en2) d2]] w n dn:=by
 obtain ⟨C1,C2,C3,R1,T1,R2,T2⟩:=eB h1 h2 h3 r1 t1 r2 t2;clear h1 h2 h3 r1 t1 r2 t2;go_enter func56,ntmps56
 go_upto_region 1 with fail
 refine av w [(#[.bool (ah n1),.slice p1 (aa n1) c1,.slice s1 (ag en1) d1],49),(#[.bool (ah n2),.slice p2 (aa n2) c2,.slice s2 (ag en2) d2],49),(#[.bool false,.slice none 0 0,.slice none 0 0],49)] rfl ?_;rintro W0 ⟨k1,k2,k3,hb⟩;have u6:=hid (show Below w.heap.size w W0 from hb);obtain ⟨R1,T1,R2,T2⟩:=bY u6.o R1 T1 R2 T2;obtain ⟨K1,K2,K3⟩:=ak k1 k2 k3;clear k1 k2 k3 hb;go_wp2_with fail
 refine ay (fun a0 a' V=>∃ dh dx dX dY oM oV ny ma,a'=⟨putL [(5,.pointer (some ⟨w.heap.size,0,none⟩)),(6,.agg #[.bool (ah n1),.slice p1 (aa n1) c1]),(7,.pointer (some ⟨w.heap.size+1,0,none⟩)),(8,.agg #[.bool (ah n2),.slice p2 (aa n2) c2]),(9,.agg #[.bool (ah z),.slice dh (aa z) dx]),(10,.pointer (some ⟨w.heap.size,2,none⟩)),(11,.slice s1 (ag en1) d1),(12,.pointer (some ⟨w.heap.size+1,2,none⟩)),(13,.slice s2 (ag en2) d2),(14,.slice dX (ag en) dY),(15,.agg #[.bool (ah n),.slice oM (aa n) oV,.slice ny (ag dn) ma])] a0.tmps,a0.defers⟩∧Below w.heap.size w V∧SBk V (w.heap.size+1+1) #[.bool (ah n),.slice oM (aa n) oV,.slice ny (ag dn) ma] 49∧RN V (.slice oM (aa n) oV) (n).natAbs∧RN V (.slice ny (ag dn) ma) (dn)) ?_ ?_
 · refine aH 11 1 [5,6,7,8,9,10,11,12,13,14,15] [Rel.val (.pointer (some ⟨w.heap.size,0,none⟩)),Rel.val (.agg #[.bool (ah n1),.slice p1 (aa n1) c1]),Rel.val (.pointer (some ⟨w.heap.size+1,0,none⟩)),Rel.val (.agg #[.bool (ah n2),.slice p2 (aa n2) c2]),Rel.int z,Rel.val (.pointer (some ⟨w.heap.size,2,none⟩)),Rel.val (.slice s1 (ag en1) d1),Rel.val (.pointer (some ⟨w.heap.size+1,2,none⟩)),Rel.val (.slice s2 (ag en2) d2),Rel.nat en,⟨fun v W=>∃ p c s d,v=.agg #[.bool (ah n),.slice p (aa n) c,.slice s (ag dn) d]∧RN W (.slice p (aa n) c) (n).natAbs∧RN W (.slice s (ag dn) d) (dn),fun _ _ _ ⟨p,c,s,d,e,h0,h1⟩ hb=>⟨p,c,s,d,e,h0.below hb,h1.below hb⟩⟩] ?_ ?_
   · intro u02 a W i HI hD Hr him
     obtain⟨y2,y3⟩:=HI.o.s2 2 3;obtain ⟨ww,si⟩:=aC (K1.o.below HI.o.world) rfl rfl;obtain ⟨rV,wu⟩:=aC (K2.o.below HI.o.world) rfl rfl;have sj:=(K1.o.below HI.o.world).cell (i:=2) rfl;have uu:=(K2.o.below HI.o.world).cell (i:=2) rfl;obtain⟨X0,X2,X1,X3,X5,X7⟩:=HI.o.g6 0 5 2 7 1 6 3 8 5 10 7 12;obtain⟨X6,X8⟩:=HI.o.g2 6 11 8 13
     match i,him,Hr with
     | 0,_,Hi|1,_,Hi|2,_,Hi|3,_,Hi =>
       try have x0:=X0.t Hi.o
       try have x2:=X2.t Hi.o
       refine stepH rfl fun K' hK=>?_;go_simp;exact hK.o _ _ (HI.o.pw Hi.o)
     | 4,_,Hi =>
       have x1:=X1.q Hi.o;have x3:=X3.q Hi.o;refine stepH rfl fun K' hK=>?_;go_simp;with_reducible refine(C1.o _ _ _ _ _ (R1.o.below HI.o.world) (R2.o.below HI.o.world)).mono ?_
       rintro e W' ⟨dh,dx,rfl,bV,hb⟩;exact hK.o _ _ ⟨HI.o.pc Hi.o hb ⟨dh,dx,rfl,bV⟩,trivial⟩
     | 5,_,Hi|6,_,Hi|7,_,Hi|8,_,Hi =>
       try have x5:=X5.t Hi.o
       try have x7:=X7.t Hi.o
       refine stepH rfl fun K' hK=>?_;go_simp;exact hK.o _ _ (HI.o.pw Hi.o)
     | 9,_,Hi =>
       have x6:=X6.q Hi.o;have x8:=X8.q Hi.o;refine stepH rfl fun K' hK=>?_;go_simp;with_reducible refine(C2.o _ _ _ _ _ (T1.o.below HI.o.world) (T2.o.below HI.o.world)).mono ?_
       rintro e W' ⟨dX,dY,rfl,kz,hb⟩;exact hK.o _ _ ⟨HI.o.pc Hi.o hb ⟨dX,dY,rfl,kz⟩,trivial⟩
     | 10,_,Hi =>
       obtain⟨v',x4,dh,dx,e,bV⟩:=HI.o.at (i:=4) Hi.o (by kernel_rfl) (by decide);obtain rfl:=e;have x4:a.tmps[9]? = some (.agg #[.bool (ah z),.slice dh (aa z) dx]):=x4;have u0w:=hid bV;clear bV;obtain⟨v',x9,dX,dY,e,kz⟩:=HI.o.at (i:=9) Hi.o (by kernel_rfl) (by decide);obtain rfl:=e;have x9:a.tmps[14]? = some (.slice dX (ag en) dY):=x9;have u05:=hid kz;clear kz;refine stepH rfl fun K' hK=>?_;go_simp;with_reducible refine(C3.o _ _ _ _ _ u0w.o u05.o).mono ?_
       rintro e W' ⟨oM,oV,ny,ma,rfl,u0q,u0r,hb⟩;exact hK.o _ _ ⟨HI.o.pc Hi.o hb ⟨oM,oV,ny,ma,rfl,u0q,u0r⟩,trivial⟩
     | n+11,h,_=>exact absurd h (by omega)
   · intro u02 a W HI hD HA
     obtain⟨v',x4,dh,dx,e,bV⟩:=HI.o.slots 4 (by decide) (HA.o 4 (by decide));obtain rfl:=e;have u0w:=hid bV;clear bV;obtain⟨v',x9,dX,dY,e,kz⟩:=HI.o.slots 9 (by decide) (HA.o 9 (by decide));obtain rfl:=e;have u05:=hid kz;clear kz;obtain⟨v',x10,oM,oV,ny,ma,e,u0q,u0r⟩:=HI.o.slots 10 (by decide) (HA.o 10 (by decide));obtain rfl:=e;have u0O:=hid u0q;clear u0q;have u0P:=hid u0r;clear u0r;have x10:a.tmps[15]? = some (.agg #[.bool (ah n),.slice oM (aa n) oV,.slice ny (ag dn) ma]):=x10;have d9:=hid HI.o.world;obtain ⟨HBX,K3⟩:=aB (u6.o.trans (d9.o.mono u6.o.size)) (K3.o.below d9.o);have RZ:=u0w;have RE:=u05;have RQ:=u0O;have TQ:=u0P;have y4:=HI.o.rst 4 rfl;obtain ⟨u0H,u0I,u0J⟩:=aA K3.o rfl rfl rfl;obtain ⟨u0Q,u0R,u0S⟩:=bC K3.o;refine aZ (t:=0) ?_;refine stepH rfl fun K' hK=>?_;go_simp;refine hK.o _ _ ?_;clear hK;refine aV ?_;have s0:∀ {v':Value} {n':Nat},RN W v' n'→RN (storeAll W (w.heap.size+1+1) 0 [.bool (ah n),.slice oM (aa n) oV,.slice ny (ag dn) ma]) v' n':=fun h'=>aX _ h' K3.o (by simp[bJ]) (by simp[aU]);exact⟨rfl,dh,dx,dX,dY,oM,oV,ny,ma,(HI.o.finx ⟨HI.o.sx HA.o 0,HI.o.sx HA.o 1,HI.o.sx HA.o 2,HI.o.sx HA.o 3,x4,HI.o.sx HA.o 5,HI.o.sx HA.o 6,HI.o.sx HA.o 7,HI.o.sx HA.o 8,x9,x10,trivial⟩ rfl),(aj (l:=[.bool (ah n),.slice oM (aa n) oV,.slice ny (ag dn) ma]) (i:=0) (by omega) HBX.o),(bK (l:=[.bool (ah n),.slice oM (aa n) oV,.slice ny (ag dn) ma]) (i:=0) K3.o),(s0 RQ.o),(s0 TQ.o)⟩
 rintro a' W1 ⟨dh,dx,dX,dY,oM,oV,ny,ma,rfl,z0,z1,z2,z3⟩;obtain ⟨w9,K3,RQ,TQ⟩:=aN z0 z1 z2 z3;clear z0 z1 z2 z3;simp only[putL,List.setIfInBounds_toArray,List.set_cons_zero,List.set_cons_succ];go_wp2;obtain ⟨u0H,u0I,u0J⟩:=aA K3.o rfl rfl rfl;exact bodyPost_ret (v:=.agg #[.bool (ah n),.slice oM (aa n) oV,.slice ny (ag dn) ma]) (by simp[results,results56,go_sem,u0H,u0I,u0J]) rfl ⟨_,_,_,_,rfl,RQ.o,TQ.o,w9.o⟩
