/- texts -/
import Derived.Test.YtnpkghpfmieboaaGreatDoorMz32q
open Go.Proofs.Tryz
set_option maxRecDepth 100000
set_option maxHeartbeats 20000000
open Go.Lib (hid)
namespace Go.Proofs.YtnpkghpfmieboaaGreatDoor
open Go.RowKit Go.Gb
theorem z2u (a0 x0 y0:ByteArray)(z:Int)(n:Nat)  (w:World)(h1:CQ 70 #[.string a0] (.tuple #[.string x0,.string y0,.bool false]))(h2:CQ 71 #[.string x0] (.bool true))(h3:CQ 72 #[.string y0] (.bool true))(h4:∀ W,CZ 74 #[.string x0] W z)(h5:∀ W,CN 75 #[.string y0] W n)  :
 Calls Tryz.prog 51 #[.string a0] w fun e w'=>∃ p c s d,e=.returned (.tuple #[.agg #[.bool (ai z),.slice p (ae z) c,.slice s (ag n) d],.bool true])∧RN w' (.slice p (ae z) c) z.natAbs∧RN w' (.slice s (ag n) d) n∧Below w.heap.size w w':=by
 obtain ⟨C1,C2,C3,C4,C5⟩:=bA h1 h2 h3 h4 h5;clear h1 h2 h3 h4 h5;go_enter func51,ntmps51
 go_upto_region 1 with fail
 refine ak w [(#[.bool false,.slice none 0 0,.slice none 0 0],57)] rfl ?_;rintro W0 ⟨k1,hb⟩;have u6:=hid (show Below w.heap.size w W0 from hb);have K1:=hid k1;clear k1 hb;go_wp2_with fail
 with_reducible refine(C1.o _).mono ?_
 rintro e W1 ⟨rfl,hb⟩;have K1:=hid (K1.o.below hb);have wo:=hbt u6 hb;clear hb;go_wp2_with fail
 with_reducible refine(C2.o _).mono ?_
 rintro e W2 ⟨rfl,hb⟩;have K1:=hid (K1.o.below hb);have rV:=hbt wo hb;clear hb;go_wp2_with fail
 with_reducible refine(C3.o _).mono ?_
 rintro e W3 ⟨rfl,hb⟩;have K1:=hid (K1.o.below hb);have ol:=hbt rV hb;clear hb;go_wp2_with fail
 with_reducible refine(C4.o _).mono ?_
 rintro e W4 ⟨wu,ww,rfl,sw,hb⟩;have K1:=hid (K1.o.below hb);have mi:=hbt ol hb;have RZ:=hid sw;clear hb sw;go_wp2_with fail
 with_reducible refine(C5.o _).mono ?_
 rintro e W5 ⟨r9,rf,rfl,p8,hb⟩;obtain ⟨K1,RZ⟩:=aQ hb K1 RZ;have pq:=hbt mi hb;have RM:=hid p8;clear hb p8;go_upto_region 5 with fail
 refine ak W5 [(#[.bool (ai z),.slice wu (ae z) ww,.slice r9 (ag n) rf],57)] rfl ?_;have L1:=K1.o.lt;have L2:=pq.o.size;rintro W6 ⟨k2,hb⟩;have hb:Below W5.heap.size W5 W6:=hb;obtain ⟨K1,RZ,RM⟩:=bL hb K1 RZ RM;have kz:=hbt pq hb;have K2:=hid k2;clear k2 hb;obtain ⟨rM,wy,w9⟩:=ah K2.o rfl rfl rfl;obtain ⟨wz,si,sj⟩:=ah K1.o rfl rfl rfl;obtain ⟨dX,dY,cO⟩:=aP K1.o;go_wp2;exact bodyPost_ret (v:=.tuple #[.agg #[.bool (ai z),.slice wu (ae z) ww,.slice r9 (ag n) rf],.bool true]) (by simp[results,results51,go_sem,wz,si,sj]) rfl ⟨_,_,_,_,rfl,(bC [.bool (ai z),.slice wu (ae z) ww,.slice r9 (ag n) rf] RZ.o K1.o (by simp[bS]) (by simp[bi])),(bC [.bool (ai z),.slice wu (ae z) ww,.slice r9 (ag n) rf] RM.o K1.o (by simp[bS]) (by simp[bi])),(au (l:=[.bool (ai z),.slice wu (ae z) ww,.slice r9 (ag n) rf]) (i:=0) (by omega) kz.o)⟩
theorem uz (a0 x0 y0:ByteArray)(zz:Int)(dz:Nat)(sl:Bool)  (w:World)(h1:CQ 70 #[.string a0] (.tuple #[.string x0,.string y0,.bool sl]))(h2:CQ 71 #[.string x0] (.bool false))(h11:∀ W,CF 73 #[.int .i64 0] W zz dz)  :
 Calls Tryz.prog 51 #[.string a0] w fun e w'=>∃ p c s d,e=.returned (.tuple #[.agg #[.bool (ai zz),.slice p (ae zz) c,.slice s (ag dz) d],.bool false])∧RN w' (.slice p (ae zz) c) zz.natAbs∧RN w' (.slice s (ag dz) d) dz∧Below w.heap.size w w':=by
 obtain ⟨C1,C2,C11⟩:=ax h1 h2 h11;clear h1 h2 h11;go_enter func51,ntmps51
 go_upto_region 1 with fail
 refine ak w [(#[.bool false,.slice none 0 0,.slice none 0 0],57)] rfl ?_;rintro W0 ⟨k1,hb⟩;have u6:=hid (show Below w.heap.size w W0 from hb);have K1:=hid k1;clear k1 hb;go_wp2_with fail
 with_reducible refine(C1.o _).mono ?_
 rintro e W1 ⟨rfl,hb⟩;have K1:=hid (K1.o.below hb);have wo:=hbt u6 hb;clear hb;go_wp2_with fail
 with_reducible refine(C2.o _).mono ?_
 rintro e W2 ⟨rfl,hb⟩;have K1:=hid (K1.o.below hb);have rV:=hbt wo hb;clear hb;go_wp2_with fail
 with_reducible refine(C11.o _).mono ?_
 rintro e W3 ⟨p_3,c_3,s_3,d_3,rfl,u0u,u0v,hb⟩;have K1:=hid (K1.o.below hb);have ol:=hbt rV hb;have RQ:=hid u0u;have TQ:=hid u0v;clear hb u0u u0v;obtain ⟨wz,si,sj⟩:=ah K1.o rfl rfl rfl;obtain ⟨dX,dY,cO⟩:=aP K1.o;go_wp2;exact bodyPost_ret (v:=.tuple #[.agg #[.bool (ai zz),.slice p_3 (ae zz) c_3,.slice s_3 (ag dz) d_3],.bool false]) (by simp[results,results51,go_sem,wz,si,sj]) rfl ⟨_,_,_,_,rfl,(bC [.bool (ai zz),.slice p_3 (ae zz) c_3,.slice s_3 (ag dz) d_3] RQ.o K1.o (by simp[bS]) (by simp[bi])),(bC [.bool (ai zz),.slice p_3 (ae zz) c_3,.slice s_3 (ag dz) d_3] TQ.o K1.o (by simp[bS]) (by simp[bi])),(au (l:=[.bool (ai zz),.slice p_3 (ae zz) c_3,.slice s_3 (ag dz) d_3]) (i:=0) (by omega) ol.o)⟩
theorem z0L (a0 x0 y0:ByteArray)(zz:Int)(dz:Nat)(sl:Bool)  (w:World)(h1:CQ 70 #[.string a0] (.tuple #[.string x0,.string y0,.bool sl]))(h2:CQ 71 #[.string x0] (.bool true))(h3:CQ 72 #[.string y0] (.bool false))(h11:∀ W,CF 73 #[.int .i64 0] W zz dz)  :
 Calls Tryz.prog 51 #[.string a0] w fun e w'=>∃ p c s d,e=.returned (.tuple #[.agg #[.bool (ai zz),.slice p (ae zz) c,.slice s (ag dz) d],.bool false])∧RN w' (.slice p (ae zz) c) zz.natAbs∧RN w' (.slice s (ag dz) d) dz∧Below w.heap.size w w':=by
 obtain ⟨C1,C2,C3,C11⟩:=aL h1 h2 h3 h11;clear h1 h2 h3 h11;go_enter func51,ntmps51
 go_upto_region 1 with fail
 refine ak w [(#[.bool false,.slice none 0 0,.slice none 0 0],57)] rfl ?_;rintro W0 ⟨k1,hb⟩;have u6:=hid (show Below w.heap.size w W0 from hb);have K1:=hid k1;clear k1 hb;go_wp2_with fail
 with_reducible refine(C1.o _).mono ?_
 rintro e W1 ⟨rfl,hb⟩;have K1:=hid (K1.o.below hb);have wo:=hbt u6 hb;clear hb;go_wp2_with fail
 with_reducible refine(C2.o _).mono ?_
 rintro e W2 ⟨rfl,hb⟩;have K1:=hid (K1.o.below hb);have rV:=hbt wo hb;clear hb;go_wp2_with fail
 with_reducible refine(C3.o _).mono ?_
 rintro e W3 ⟨rfl,hb⟩;have K1:=hid (K1.o.below hb);have ol:=hbt rV hb;clear hb;go_wp2_with fail
 with_reducible refine(C11.o _).mono ?_
 rintro e W4 ⟨wu,ww,s_4,d_4,rfl,sw,u0w,hb⟩;have K1:=hid (K1.o.below hb);have mi:=hbt ol hb;have RQ:=hid sw;have TQ:=hid u0w;clear hb sw u0w;obtain ⟨wz,si,sj⟩:=ah K1.o rfl rfl rfl;obtain ⟨dX,dY,cO⟩:=aP K1.o;go_wp2;exact bodyPost_ret (v:=.tuple #[.agg #[.bool (ai zz),.slice wu (ae zz) ww,.slice s_4 (ag dz) d_4],.bool false]) (by simp[results,results51,go_sem,wz,si,sj]) rfl ⟨_,_,_,_,rfl,(bC [.bool (ai zz),.slice wu (ae zz) ww,.slice s_4 (ag dz) d_4] RQ.o K1.o (by simp[bS]) (by simp[bi])),(bC [.bool (ai zz),.slice wu (ae zz) ww,.slice s_4 (ag dz) d_4] TQ.o K1.o (by simp[bS]) (by simp[bi])),(au (l:=[.bool (ai zz),.slice wu (ae zz) ww,.slice s_4 (ag dz) d_4]) (i:=0) (by omega) mi.o)⟩
theorem z0K (a0 x0 y0:ByteArray)(z k sg:Int)(n one g:Nat)(hk:0<k)(hsg:sg≠0)  (w:World)(h1:CQ 70 #[.string a0] (.tuple #[.string x0,.string y0,.bool true]))(h2:CQ 71 #[.string x0] (.bool true))(h3:CQ 72 #[.string y0] (.bool true))(h4:∀ W,CZ 74 #[.string x0] W z)(h5:∀ W,CN 75 #[.string y0] W n)(h6:∀ W,CN 76 #[.int .u32 1] W one)(h7:∀ s1 d1 s2 d2 W,RN W (.slice s1 (ag n) d1) n→RN W (.slice s2 (ag one) d2) one→CR 77 #[.slice s1 (ag n) d1,.slice s2 (ag one) d2] W (.int .i64 k))(h8:∀ p1 c1 W,RN W (.slice p1 (ae z) c1) z.natAbs→CR 52 #[.agg #[.bool (ai z),.slice p1 (ae z) c1]] W (.int .i64 sg))(h9:∀ p1 c1 s2 d2 W,RN W (.slice p1 (ae z) c1) z.natAbs→RN W (.slice s2 (ag n) d2) n→CN 78 #[.slice p1 (ae z) c1,.slice s2 (ag n) d2] W g)(h10:∀ s1 d1 s2 d2 W,RN W (.slice s1 (ag g) d1) g→RN W (.slice s2 (ag one) d2) one→CR 77 #[.slice s1 (ag g) d1,.slice s2 (ag one) d2] W (.int .i64 0))  :
 Calls Tryz.prog 51 #[.string a0] w fun e w'=>∃ p c s d,e=.returned (.tuple #[.agg #[.bool (ai z),.slice p (ae z) c,.slice s (ag n) d],.bool true])∧RN w' (.slice p (ae z) c) z.natAbs∧RN w' (.slice s (ag n) d) n∧Below w.heap.size w w':=by
 obtain ⟨C1,C2,C3,C4,C5,C6,C7,C8,C9⟩:=bK h1 h2 h3 h4 h5 h6 h7 h8 h9;have C10:=hid h10;have k0:decide (0<k)=true:=decide_eq_true hk;have k1:0<k:=hk;clear hk;have s0:(sg==0)=false:=by rw[beq_eq_false_iff_ne];exact hsg
 have s1:¬ sg=0:=hsg;have s2:(sg != 0)=true:=by unfold bne;rw[s0];rfl
 have s3:decide (sg=0)=false:=decide_eq_false hsg;clear hsg h1 h2 h3 h4 h5 h6 h7 h8 h9 h10;go_enter func51,ntmps51
 go_upto_region 1 with fail
 refine ak w [(#[.bool false,.slice none 0 0,.slice none 0 0],57)] rfl ?_;rintro W0 ⟨k1,hb⟩;have u6:=hid (show Below w.heap.size w W0 from hb);have K1:=hid k1;clear k1 hb;go_wp2_with fail
 with_reducible refine(C1.o _).mono ?_
 rintro e W1 ⟨rfl,hb⟩;have K1:=hid (K1.o.below hb);have wo:=hbt u6 hb;clear hb;go_wp2_with fail
 with_reducible refine(C2.o _).mono ?_
 rintro e W2 ⟨rfl,hb⟩;have K1:=hid (K1.o.below hb);have rV:=hbt wo hb;clear hb;go_wp2_with fail
 with_reducible refine(C3.o _).mono ?_
 rintro e W3 ⟨rfl,hb⟩;have K1:=hid (K1.o.below hb);have ol:=hbt rV hb;clear hb;go_wp2_with fail
 with_reducible refine(C4.o _).mono ?_
 rintro e W4 ⟨wu,ww,rfl,sw,hb⟩;have K1:=hid (K1.o.below hb);have mi:=hbt ol hb;have RZ:=hid sw;clear hb sw;go_wp2_with fail
 with_reducible refine(C5.o _).mono ?_
 rintro e W5 ⟨r9,rf,rfl,p8,hb⟩;obtain ⟨K1,RZ⟩:=aQ hb K1 RZ;have pq:=hbt mi hb;have RM:=hid p8;clear hb p8;go_upto_region 5 with fail
 refine ak W5 [(#[.bool (ai z),.slice wu (ae z) ww,.slice r9 (ag n) rf],57)] rfl ?_;have L1:=K1.o.lt;have L2:=pq.o.size;rintro W6 ⟨k2,hb⟩;have hb:Below W5.heap.size W5 W6:=hb;obtain ⟨K1,RZ,RM⟩:=bL hb K1 RZ RM;have kz:=hbt pq hb;have K2:=hid k2;clear k2 hb;go_wp2_with fail
 with_reducible refine(C6.o _).mono ?_
 rintro e W7 ⟨p_6,c_6,rfl,l5,hb⟩;obtain ⟨K1,K2,RZ,RM⟩:=aW hb K1 K2 RZ RM;have bg:=hbt kz hb;have RO:=hid l5;clear hb l5;have w9:=K2.o.cell (i:=2) rfl;go_wp2_with fail
 with_reducible refine(C7.o _ _ _ _ _ RM.o RO.o).mono ?_
 rintro e W8 ⟨rfl,hb⟩;clear w9;obtain ⟨K1,K2,RZ,RM,RO⟩:=bG hb K1 K2 RZ RM RO;have bn:=hbt bg hb;clear hb;obtain ⟨rM,wy⟩:=bH K2.o rfl rfl;go_wp2_with fail
 with_reducible refine(C8.o _ _ _ RZ.o).mono ?_
 rintro e W9 ⟨rfl,hb⟩;clear rM wy;obtain ⟨K1,K2,RZ,RM,RO⟩:=bG hb K1 K2 RZ RM RO;have bq:=hbt bn hb;clear hb;have wy:=K2.o.cell (i:=1) rfl;have w9:=K2.o.cell (i:=2) rfl;go_wp2_with fail
 with_reducible refine(C9.o _ _ _ _ _ RZ.o RM.o).mono ?_
 rintro e W10 ⟨bz,bM,rfl,fq,hb⟩;clear wy w9;obtain ⟨K1,K2,RZ,RM,RO⟩:=bG hb K1 K2 RZ RM RO;have bV:=hbt bq hb;have RG:=hid fq;clear hb fq;go_wp2_with fail
 with_reducible refine(C10.o _ _ _ _ _ RG.o RO.o).mono ?_
 rintro e W11 ⟨rfl,hb⟩;obtain ⟨K1,K2,RZ,RM⟩:=aW hb K1 K2 RZ RM;have u0r:=hbt bV hb;clear hb;obtain ⟨rM,wy,w9⟩:=ah K2.o rfl rfl rfl;obtain ⟨wz,si,sj⟩:=ah K1.o rfl rfl rfl;obtain ⟨dX,dY,cO⟩:=aP K1.o;go_wp2;exact bodyPost_ret (v:=.tuple #[.agg #[.bool (ai z),.slice wu (ae z) ww,.slice r9 (ag n) rf],.bool true]) (by simp[results,results51,go_sem,wz,si,sj]) rfl ⟨_,_,_,_,rfl,(bC [.bool (ai z),.slice wu (ae z) ww,.slice r9 (ag n) rf] RZ.o K1.o (by simp[bS]) (by simp[bi])),(bC [.bool (ai z),.slice wu (ae z) ww,.slice r9 (ag n) rf] RM.o K1.o (by simp[bS]) (by simp[bi])),(au (l:=[.bool (ai z),.slice wu (ae z) ww,.slice r9 (ag n) rf]) (i:=0) (by omega) u0r.o)⟩
theorem zl (a0 x0 y0:ByteArray)(z k zz:Int)(n one dz:Nat)(hk:k≤0)  (w:World)(h1:CQ 70 #[.string a0] (.tuple #[.string x0,.string y0,.bool true]))(h2:CQ 71 #[.string x0] (.bool true))(h3:CQ 72 #[.string y0] (.bool true))(h4:∀ W,CZ 74 #[.string x0] W z)(h5:∀ W,CN 75 #[.string y0] W n)(h6:∀ W,CN 76 #[.int .u32 1] W one)(h7:∀ s1 d1 s2 d2 W,RN W (.slice s1 (ag n) d1) n→RN W (.slice s2 (ag one) d2) one→CR 77 #[.slice s1 (ag n) d1,.slice s2 (ag one) d2] W (.int .i64 k))(h11:∀ W,CF 73 #[.int .i64 0] W zz dz)  :
 Calls Tryz.prog 51 #[.string a0] w fun e w'=>∃ p c s d,e=.returned (.tuple #[.agg #[.bool (ai zz),.slice p (ae zz) c,.slice s (ag dz) d],.bool false])∧RN w' (.slice p (ae zz) c) zz.natAbs∧RN w' (.slice s (ag dz) d) dz∧Below w.heap.size w w':=by
 obtain ⟨C1,C2,C3,C4,C5,C6,C7,C11⟩:=iA h1 h2 h3 h4 h5 h6 h7 h11;have k0:decide (0<k)=false:=decide_eq_false (by omega);have k1:k≤0:=hk;clear hk h1 h2 h3 h4 h5 h6 h7 h11;go_enter func51,ntmps51
 go_upto_region 1 with fail
 refine ak w [(#[.bool false,.slice none 0 0,.slice none 0 0],57)] rfl ?_;rintro W0 ⟨k1,hb⟩;have u6:=hid (show Below w.heap.size w W0 from hb);have K1:=hid k1;clear k1 hb;go_wp2_with fail
 with_reducible refine(C1.o _).mono ?_
 rintro e W1 ⟨rfl,hb⟩;have K1:=hid (K1.o.below hb);have wo:=hbt u6 hb;clear hb;go_wp2_with fail
 with_reducible refine(C2.o _).mono ?_
 rintro e W2 ⟨rfl,hb⟩;have K1:=hid (K1.o.below hb);have rV:=hbt wo hb;clear hb;go_wp2_with fail
 with_reducible refine(C3.o _).mono ?_
 rintro e W3 ⟨rfl,hb⟩;have K1:=hid (K1.o.below hb);have ol:=hbt rV hb;clear hb;go_wp2_with fail
 with_reducible refine(C4.o _).mono ?_
 rintro e W4 ⟨wu,ww,rfl,sw,hb⟩;have K1:=hid (K1.o.below hb);have mi:=hbt ol hb;have RZ:=hid sw;clear hb sw;go_wp2_with fail
 with_reducible refine(C5.o _).mono ?_
 rintro e W5 ⟨r9,rf,rfl,p8,hb⟩;have K1:=hid (K1.o.below hb);have pq:=hbt mi hb;have RM:=hid p8;clear hb p8;go_upto_region 5 with fail
 refine ak W5 [(#[.bool (ai z),.slice wu (ae z) ww,.slice r9 (ag n) rf],57)] rfl ?_;have L1:=K1.o.lt;have L2:=pq.o.size;rintro W6 ⟨k2,hb⟩;have hb:Below W5.heap.size W5 W6:=hb;obtain ⟨K1,RM⟩:=aQ hb K1 RM;have kz:=hbt pq hb;have K2:=hid k2;clear k2 hb;go_wp2_with fail
 with_reducible refine(C6.o _).mono ?_
 rintro e W7 ⟨p_6,c_6,rfl,l5,hb⟩;obtain ⟨K1,K2,RM⟩:=bL hb K1 K2 RM;have bg:=hbt kz hb;have RO:=hid l5;clear hb l5;have w9:=K2.o.cell (i:=2) rfl;go_wp2_with fail
 with_reducible refine(C7.o _ _ _ _ _ RM.o RO.o).mono ?_
 rintro e W8 ⟨rfl,hb⟩;clear w9;obtain ⟨K1,K2⟩:=aQ hb K1 K2;have bn:=hbt bg hb;clear hb;obtain ⟨rM,wy,w9⟩:=ah K2.o rfl rfl rfl;go_wp2_with fail
 with_reducible refine(C11.o _).mono ?_
 rintro e W9 ⟨p_8,c_8,s_8,d_8,rfl,u0x,u0y,hb⟩;clear rM wy w9;have K1:=hid (K1.o.below hb);have bq:=hbt bn hb;have RQ:=hid u0x;have TQ:=hid u0y;clear hb u0x u0y;obtain ⟨wz,si,sj⟩:=ah K1.o rfl rfl rfl;obtain ⟨dX,dY,cO⟩:=aP K1.o;go_wp2;exact bodyPost_ret (v:=.tuple #[.agg #[.bool (ai zz),.slice p_8 (ae zz) c_8,.slice s_8 (ag dz) d_8],.bool false]) (by simp[results,results51,go_sem,wz,si,sj]) rfl ⟨_,_,_,_,rfl,(bC [.bool (ai zz),.slice p_8 (ae zz) c_8,.slice s_8 (ag dz) d_8] RQ.o K1.o (by simp[bS]) (by simp[bi])),(bC [.bool (ai zz),.slice p_8 (ae zz) c_8,.slice s_8 (ag dz) d_8] TQ.o K1.o (by simp[bS]) (by simp[bi])),(au (l:=[.bool (ai zz),.slice p_8 (ae zz) c_8,.slice s_8 (ag dz) d_8]) (i:=0) (by omega) bq.o)⟩
theorem z0J (a0 x0 y0:ByteArray)(z k zz:Int)(n one dz:Nat)(hk:0<k)  (w:World)(h1:CQ 70 #[.string a0] (.tuple #[.string x0,.string y0,.bool true]))(h2:CQ 71 #[.string x0] (.bool true))(h3:CQ 72 #[.string y0] (.bool true))(h4:∀ W,CZ 74 #[.string x0] W z)(h5:∀ W,CN 75 #[.string y0] W n)(h6:∀ W,CN 76 #[.int .u32 1] W one)(h7:∀ s1 d1 s2 d2 W,RN W (.slice s1 (ag n) d1) n→RN W (.slice s2 (ag one) d2) one→CR 77 #[.slice s1 (ag n) d1,.slice s2 (ag one) d2] W (.int .i64 k))(h8:∀ p1 c1 W,RN W (.slice p1 (ae z) c1) z.natAbs→CR 52 #[.agg #[.bool (ai z),.slice p1 (ae z) c1]] W (.int .i64 0))(h11:∀ W,CF 73 #[.int .i64 0] W zz dz)  :
 Calls Tryz.prog 51 #[.string a0] w fun e w'=>∃ p c s d,e=.returned (.tuple #[.agg #[.bool (ai zz),.slice p (ae zz) c,.slice s (ag dz) d],.bool false])∧RN w' (.slice p (ae zz) c) zz.natAbs∧RN w' (.slice s (ag dz) d) dz∧Below w.heap.size w w':=by
 obtain ⟨C1,C2,C3,C4,C5,C6,C7,C8,C11⟩:=bK h1 h2 h3 h4 h5 h6 h7 h8 h11;have k0:decide (0<k)=true:=decide_eq_true hk;have k1:0<k:=hk;clear hk h1 h2 h3 h4 h5 h6 h7 h8 h11;go_enter func51,ntmps51
 go_upto_region 1 with fail
 refine ak w [(#[.bool false,.slice none 0 0,.slice none 0 0],57)] rfl ?_;rintro W0 ⟨k1,hb⟩;have u6:=hid (show Below w.heap.size w W0 from hb);have K1:=hid k1;clear k1 hb;go_wp2_with fail
 with_reducible refine(C1.o _).mono ?_
 rintro e W1 ⟨rfl,hb⟩;have K1:=hid (K1.o.below hb);have wo:=hbt u6 hb;clear hb;go_wp2_with fail
 with_reducible refine(C2.o _).mono ?_
 rintro e W2 ⟨rfl,hb⟩;have K1:=hid (K1.o.below hb);have rV:=hbt wo hb;clear hb;go_wp2_with fail
 with_reducible refine(C3.o _).mono ?_
 rintro e W3 ⟨rfl,hb⟩;have K1:=hid (K1.o.below hb);have ol:=hbt rV hb;clear hb;go_wp2_with fail
 with_reducible refine(C4.o _).mono ?_
 rintro e W4 ⟨wu,ww,rfl,sw,hb⟩;have K1:=hid (K1.o.below hb);have mi:=hbt ol hb;have RZ:=hid sw;clear hb sw;go_wp2_with fail
 with_reducible refine(C5.o _).mono ?_
 rintro e W5 ⟨r9,rf,rfl,p8,hb⟩;obtain ⟨K1,RZ⟩:=aQ hb K1 RZ;have pq:=hbt mi hb;have RM:=hid p8;clear hb p8;go_upto_region 5 with fail
 refine ak W5 [(#[.bool (ai z),.slice wu (ae z) ww,.slice r9 (ag n) rf],57)] rfl ?_;have L1:=K1.o.lt;have L2:=pq.o.size;rintro W6 ⟨k2,hb⟩;have hb:Below W5.heap.size W5 W6:=hb;obtain ⟨K1,RZ,RM⟩:=bL hb K1 RZ RM;have kz:=hbt pq hb;have K2:=hid k2;clear k2 hb;go_wp2_with fail
 with_reducible refine(C6.o _).mono ?_
 rintro e W7 ⟨p_6,c_6,rfl,l5,hb⟩;obtain ⟨K1,K2,RZ,RM⟩:=aW hb K1 K2 RZ RM;have bg:=hbt kz hb;have RO:=hid l5;clear hb l5;have w9:=K2.o.cell (i:=2) rfl;go_wp2_with fail
 with_reducible refine(C7.o _ _ _ _ _ RM.o RO.o).mono ?_
 rintro e W8 ⟨rfl,hb⟩;clear w9;obtain ⟨K1,K2,RZ⟩:=bL hb K1 K2 RZ;have bn:=hbt bg hb;clear hb;obtain ⟨rM,wy⟩:=bH K2.o rfl rfl;go_wp2_with fail
 with_reducible refine(C8.o _ _ _ RZ.o).mono ?_
 rintro e W9 ⟨rfl,hb⟩;clear rM wy;obtain ⟨K1,K2⟩:=aQ hb K1 K2;have bq:=hbt bn hb;clear hb;have wy:=K2.o.cell (i:=1) rfl;have w9:=K2.o.cell (i:=2) rfl;go_wp2_with fail
 with_reducible refine(C11.o _).mono ?_
 rintro e W10 ⟨bz,bM,s_9,d_9,rfl,fq,u0z,hb⟩;clear wy w9;have K1:=hid (K1.o.below hb);have bV:=hbt bq hb;have RQ:=hid fq;have TQ:=hid u0z;clear hb fq u0z;obtain ⟨wz,si,sj⟩:=ah K1.o rfl rfl rfl;obtain ⟨dX,dY,cO⟩:=aP K1.o;go_wp2;exact bodyPost_ret (v:=.tuple #[.agg #[.bool (ai zz),.slice bz (ae zz) bM,.slice s_9 (ag dz) d_9],.bool false]) (by simp[results,results51,go_sem,wz,si,sj]) rfl ⟨_,_,_,_,rfl,(bC [.bool (ai zz),.slice bz (ae zz) bM,.slice s_9 (ag dz) d_9] RQ.o K1.o (by simp[bS]) (by simp[bi])),(bC [.bool (ai zz),.slice bz (ae zz) bM,.slice s_9 (ag dz) d_9] TQ.o K1.o (by simp[bS]) (by simp[bi])),(au (l:=[.bool (ai zz),.slice bz (ae zz) bM,.slice s_9 (ag dz) d_9]) (i:=0) (by omega) bV.o)⟩
theorem vY (a0 x0 y0:ByteArray)(z k k2 sg zz:Int)(n one g dz:Nat)(hk:0<k)(hsg:sg≠0)(hk2:k2≠0)  (w:World)(h1:CQ 70 #[.string a0] (.tuple #[.string x0,.string y0,.bool true]))(h2:CQ 71 #[.string x0] (.bool true))(h3:CQ 72 #[.string y0] (.bool true))(h4:∀ W,CZ 74 #[.string x0] W z)(h5:∀ W,CN 75 #[.string y0] W n)(h6:∀ W,CN 76 #[.int .u32 1] W one)(h7:∀ s1 d1 s2 d2 W,RN W (.slice s1 (ag n) d1) n→RN W (.slice s2 (ag one) d2) one→CR 77 #[.slice s1 (ag n) d1,.slice s2 (ag one) d2] W (.int .i64 k))(h8:∀ p1 c1 W,RN W (.slice p1 (ae z) c1) z.natAbs→CR 52 #[.agg #[.bool (ai z),.slice p1 (ae z) c1]] W (.int .i64 sg))(h9:∀ p1 c1 s2 d2 W,RN W (.slice p1 (ae z) c1) z.natAbs→RN W (.slice s2 (ag n) d2) n→CN 78 #[.slice p1 (ae z) c1,.slice s2 (ag n) d2] W g)(h10:∀ s1 d1 s2 d2 W,RN W (.slice s1 (ag g) d1) g→RN W (.slice s2 (ag one) d2) one→CR 77 #[.slice s1 (ag g) d1,.slice s2 (ag one) d2] W (.int .i64 k2))(h11:∀ W,CF 73 #[.int .i64 0] W zz dz)  :
 Calls Tryz.prog 51 #[.string a0] w fun e w'=>∃ p c s d,e=.returned (.tuple #[.agg #[.bool (ai zz),.slice p (ae zz) c,.slice s (ag dz) d],.bool false])∧RN w' (.slice p (ae zz) c) zz.natAbs∧RN w' (.slice s (ag dz) d) dz∧Below w.heap.size w w':=by
 obtain ⟨C1,C2,C3,C4,C5,C6,C7,C8,C9⟩:=bK h1 h2 h3 h4 h5 h6 h7 h8 h9;have C10:=hid h10;have C11:=hid h11;have k0:decide (0<k)=true:=decide_eq_true hk;have k1:0<k:=hk;clear hk;have s0:(sg==0)=false:=by rw[beq_eq_false_iff_ne];exact hsg
 have s1:¬ sg=0:=hsg;have s2:(sg != 0)=true:=by unfold bne;rw[s0];rfl
 have s3:decide (sg=0)=false:=decide_eq_false hsg;clear hsg;have q0:(k2==0)=false:=by rw[beq_eq_false_iff_ne];exact hk2
 have q1:¬ k2=0:=hk2;clear hk2 h1 h2 h3 h4 h5 h6 h7 h8 h9 h10 h11;go_enter func51,ntmps51
 go_upto_region 1 with fail
 refine ak w [(#[.bool false,.slice none 0 0,.slice none 0 0],57)] rfl ?_;rintro W0 ⟨k1,hb⟩;have u6:=hid (show Below w.heap.size w W0 from hb);have K1:=hid k1;clear k1 hb;go_wp2_with fail
 with_reducible refine(C1.o _).mono ?_
 rintro e W1 ⟨rfl,hb⟩;have K1:=hid (K1.o.below hb);have wo:=hbt u6 hb;clear hb;go_wp2_with fail
 with_reducible refine(C2.o _).mono ?_
 rintro e W2 ⟨rfl,hb⟩;have K1:=hid (K1.o.below hb);have rV:=hbt wo hb;clear hb;go_wp2_with fail
 with_reducible refine(C3.o _).mono ?_
 rintro e W3 ⟨rfl,hb⟩;have K1:=hid (K1.o.below hb);have ol:=hbt rV hb;clear hb;go_wp2_with fail
 with_reducible refine(C4.o _).mono ?_
 rintro e W4 ⟨wu,ww,rfl,sw,hb⟩;have K1:=hid (K1.o.below hb);have mi:=hbt ol hb;have RZ:=hid sw;clear hb sw;go_wp2_with fail
 with_reducible refine(C5.o _).mono ?_
 rintro e W5 ⟨r9,rf,rfl,p8,hb⟩;obtain ⟨K1,RZ⟩:=aQ hb K1 RZ;have pq:=hbt mi hb;have RM:=hid p8;clear hb p8;go_upto_region 5 with fail
 refine ak W5 [(#[.bool (ai z),.slice wu (ae z) ww,.slice r9 (ag n) rf],57)] rfl ?_;have L1:=K1.o.lt;have L2:=pq.o.size;rintro W6 ⟨k2,hb⟩;have hb:Below W5.heap.size W5 W6:=hb;obtain ⟨K1,RZ,RM⟩:=bL hb K1 RZ RM;have kz:=hbt pq hb;have K2:=hid k2;clear k2 hb;go_wp2_with fail
 with_reducible refine(C6.o _).mono ?_
 rintro e W7 ⟨p_6,c_6,rfl,l5,hb⟩;obtain ⟨K1,K2,RZ,RM⟩:=aW hb K1 K2 RZ RM;have bg:=hbt kz hb;have RO:=hid l5;clear hb l5;have w9:=K2.o.cell (i:=2) rfl;go_wp2_with fail
 with_reducible refine(C7.o _ _ _ _ _ RM.o RO.o).mono ?_
 rintro e W8 ⟨rfl,hb⟩;clear w9;obtain ⟨K1,K2,RZ,RM,RO⟩:=bG hb K1 K2 RZ RM RO;have bn:=hbt bg hb;clear hb;obtain ⟨rM,wy⟩:=bH K2.o rfl rfl;go_wp2_with fail
 with_reducible refine(C8.o _ _ _ RZ.o).mono ?_
 rintro e W9 ⟨rfl,hb⟩;clear rM wy;obtain ⟨K1,K2,RZ,RM,RO⟩:=bG hb K1 K2 RZ RM RO;have bq:=hbt bn hb;clear hb;have wy:=K2.o.cell (i:=1) rfl;have w9:=K2.o.cell (i:=2) rfl;go_wp2_with fail
 with_reducible refine(C9.o _ _ _ _ _ RZ.o RM.o).mono ?_
 rintro e W10 ⟨bz,bM,rfl,fq,hb⟩;clear wy w9;obtain ⟨K1,RO⟩:=aQ hb K1 RO;have bV:=hbt bq hb;have RG:=hid fq;clear hb fq;go_wp2_with fail
 with_reducible refine(C10.o _ _ _ _ _ RG.o RO.o).mono ?_
 rintro e W11 ⟨rfl,hb⟩;have K1:=hid (K1.o.below hb);have u0r:=hbt bV hb;clear hb;go_wp2_with fail
 with_reducible refine(C11.o _).mono ?_
 rintro e W12 ⟨u0f,u0g,u0h,u0i,rfl,u0A,u0B,hb⟩;have K1:=hid (K1.o.below hb);have u0H:=hbt u0r hb;have RQ:=hid u0A;have TQ:=hid u0B;clear hb u0A u0B;obtain ⟨wz,si,sj⟩:=ah K1.o rfl rfl rfl;obtain ⟨dX,dY,cO⟩:=aP K1.o;go_wp2;exact bodyPost_ret (v:=.tuple #[.agg #[.bool (ai zz),.slice u0f (ae zz) u0g,.slice u0h (ag dz) u0i],.bool false]) (by simp[results,results51,go_sem,wz,si,sj]) rfl ⟨_,_,_,_,rfl,(bC [.bool (ai zz),.slice u0f (ae zz) u0g,.slice u0h (ag dz) u0i] RQ.o K1.o (by simp[bS]) (by simp[bi])),(bC [.bool (ai zz),.slice u0f (ae zz) u0g,.slice u0h (ag dz) u0i] TQ.o K1.o (by simp[bS]) (by simp[bi])),(au (l:=[.bool (ai zz),.slice u0f (ae zz) u0g,.slice u0h (ag dz) u0i]) (i:=0) (by omega) u0H.o)⟩
open Go.Lib (hid)
theorem z2h (k n:Int)(dn:Nat)  (w:World)(h1:∀ W,CZ 96 #[.int .i64 k] W n)(h2:∀ W,CN 76 #[.int .u32 1] W dn)  :
 CF 73 #[.int .i64 k] w n dn:=by
 have C1:=hid h1;have C2:=hid h2;clear h1 h2;go_enter func73,ntmps73
 go_upto_region 1 with fail
 refine ak w [(#[.bool false,.slice none 0 0,.slice none 0 0],57)] rfl ?_;rintro W0 ⟨k1,hb⟩;have u6:=hid (show Below w.heap.size w W0 from hb);have K1:=hid k1;clear k1 hb;go_wp2_with fail
 with_reducible refine(C1.o _).mono ?_
 rintro e W1 ⟨p_1,c_1,rfl,u0C,hb⟩;have K1:=hid (K1.o.below hb);have wo:=hbt u6 hb;have RN1:=hid u0C;clear hb u0C;go_wp2_with fail
 with_reducible refine(C2.o _).mono ?_
 rintro e W2 ⟨p_2,c_2,rfl,u0D,hb⟩;obtain ⟨K1,RN1⟩:=aQ hb K1 RN1;have rV:=hbt wo hb;have RD1:=hid u0D;clear hb u0D;obtain ⟨wz,si,sj⟩:=ah K1.o rfl rfl rfl;obtain ⟨dX,dY,cO⟩:=aP K1.o;go_wp2;exact bodyPost_ret (v:=.agg #[.bool (ai n),.slice p_1 (ae n) c_1,.slice p_2 (ag dn) c_2]) (by simp[results,results73,go_sem,wz,si,sj]) rfl ⟨_,_,_,_,rfl,(bC [.bool (ai n),.slice p_1 (ae n) c_1,.slice p_2 (ag dn) c_2] RN1.o K1.o (by simp[bS]) (by simp[bi])),(bC [.bool (ai n),.slice p_1 (ae n) c_1,.slice p_2 (ag dn) c_2] RD1.o K1.o (by simp[bS]) (by simp[bi])),(au (l:=[.bool (ai n),.slice p_1 (ae n) c_1,.slice p_2 (ag dn) c_2]) (i:=0) (by omega) rV.o)⟩
theorem z2e (n m:Int)(en:Nat)(p1:Option Addr)(c1:Nat)(s1:Option Addr)(d1:Nat)(w:World)(h1:∀ p1 c1 W,RN W (.slice p1 (ae n) c1) n.natAbs→CZ 101 #[.agg #[.bool (ai n),.slice p1 (ae n) c1]] W m)(r1:RN w (.slice p1 (ae n) c1) n.natAbs)(t1:RN w (.slice s1 (ag en) d1) en) :
 CF 79 #[.agg #[.bool (ai n),.slice p1 (ae n) c1,.slice s1 (ag en) d1]] w m en:=by
 obtain ⟨C1,R1,T1⟩:=ax h1 r1 t1;clear h1 r1 t1;go_enter func79,ntmps79
 go_upto_region 1 with fail
 refine ak w [(#[.bool (ai n),.slice p1 (ae n) c1,.slice s1 (ag en) d1],57),(#[.bool false,.slice none 0 0,.slice none 0 0],57)] rfl ?_;rintro W0 ⟨k1,k2,hb⟩;have u6:=hid (show Below w.heap.size w W0 from hb);obtain ⟨R1,T1⟩:=aQ u6.o R1 T1;obtain ⟨K1,K2⟩:=aD k1 k2;clear k1 k2 hb;go_wp2_with fail
 refine ay (fun a0 a' V=>∃ kK kM l6 lc,a'=⟨aR [(3,.pointer (some ⟨w.heap.size,0,none⟩)),(4,.agg #[.bool (ai n),.slice p1 (ae n) c1]),(5,.agg #[.bool (ai m),.slice kK (ae m) kM]),(6,.pointer (some ⟨w.heap.size,2,none⟩)),(7,.slice s1 (ag en) d1),(8,.agg #[.bool (ai m),.slice l6 (ae m) lc,.slice s1 (ag en) d1])] a0.tmps,a0.defers⟩∧Below w.heap.size w V∧SBk V (w.heap.size+1) #[.bool (ai m),.slice l6 (ae m) lc,.slice s1 (ag en) d1] 57∧RN V (.slice s1 (ag en) d1) en∧RN V (.slice l6 (ae m) lc) m.natAbs) ?_ ?_
 · refine aC 6 1 [3,4,5,6,7,8] [Rel.val (.pointer (some ⟨w.heap.size,0,none⟩)),Rel.val (.agg #[.bool (ai n),.slice p1 (ae n) c1]),Rel.int m,Rel.val (.pointer (some ⟨w.heap.size,2,none⟩)),Rel.val (.slice s1 (ag en) d1),⟨fun v W=>∃ pa ca,v=.agg #[.bool (ai m),.slice pa (ae m) ca,.slice s1 (ag en) d1]∧RN W (.slice pa (ae m) ca) m.natAbs,fun _ _ _ ⟨pa,ca,e,h0⟩ hb=>⟨pa,ca,e,h0.below hb⟩⟩] ?_ ?_
   · intro af a W i HI hD Hr him
     have y1:=HI.o.rst 1 rfl;obtain ⟨wz,si,sj⟩:=ah (K1.o.below HI.o.world) rfl rfl rfl;obtain⟨X0,X1,X3⟩:=HI.o.g3 0 3 1 4 3 6;have X4:=HI.o.rg 4 7 rfl
     match i,him,Hr with
     | 0,_,Hi|1,_,Hi =>
       try have x0:=X0.t Hi.o
       refine av rfl fun K' hK=>?_;go_simp;exact hK.o _ _ (HI.o.pw Hi.o)
     | 2,_,Hi =>
       have x1:=X1.q Hi.o;refine av rfl fun K' hK=>?_;go_simp;with_reducible refine(C1.o _ _ _ (R1.o.below HI.o.world)).mono ?_
       rintro e W' ⟨kK,kM,rfl,bu,hb⟩;exact hK.o _ _ ⟨HI.o.pc Hi.o hb ⟨kK,kM,rfl,bu⟩,trivial⟩
     | 3,_,Hi|4,_,Hi =>
       try have x3:=X3.t Hi.o
       refine av rfl fun K' hK=>?_;go_simp;exact hK.o _ _ (HI.o.pw Hi.o)
     | 5,_,Hi =>
       obtain⟨v',x2,kK,kM,e,bu⟩:=HI.o.at (i:=2) Hi.o (by kernel_rfl) (by decide);obtain rfl:=e;have x2:a.tmps[5]? = some (.agg #[.bool (ai m),.slice kK (ae m) kM]):=x2;have u0s:=hid bu;clear bu;have x4:=X4.q Hi.o;refine av rfl fun K' hK=>?_;go_simp;exact hK.o _ _ ⟨HI.o.pv Hi.o ⟨kK,kM,rfl,u0s.o⟩,trivial⟩
     | n+6,h,_=>exact absurd h (by omega)
   · intro af a W HI hD HA
     obtain⟨v',x2,kK,kM,e,bu⟩:=HI.o.slots 2 (by decide) (HA.o 2 (by decide));obtain rfl:=e;have u0s:=hid bu;clear bu;obtain⟨v',x5,l6,lc,e,kr⟩:=HI.o.slots 5 (by decide) (HA.o 5 (by decide));obtain rfl:=e;have u00:=hid kr;clear kr;have x5:a.tmps[8]? = some (.agg #[.bool (ai m),.slice l6 (ae m) lc,.slice s1 (ag en) d1]):=x5;have fw:=hid HI.o.world;obtain ⟨K2,T1⟩:=aQ fw.o K2 T1;have HBX:=Lib.hid (u6.o.trans (fw.o.mono u6.o.size));have RM:=u0s;have RMb:=u00;have y2:=HI.o.rst 2 rfl;obtain ⟨rM,wy,w9⟩:=ah K2.o rfl rfl rfl;obtain ⟨u0I,u0J,u0K⟩:=aP K2.o;refine aH (t:=0) ?_;refine av rfl fun K' hK=>?_;go_simp;refine hK.o _ _ ?_;clear hK;refine aO ?_;have s0:∀ {v':Value} {n':Nat},RN W v' n'→RN (storeAll W (w.heap.size+1) 0 [.bool (ai m),.slice l6 (ae m) lc,.slice s1 (ag en) d1]) v' n':=fun h'=>bC _ h' K2.o (by simp[bS]) (by simp[bi]);exact⟨rfl,kK,kM,l6,lc,(HI.o.finx ⟨HI.o.sx HA.o 0,HI.o.sx HA.o 1,x2,HI.o.sx HA.o 3,HI.o.sx HA.o 4,x5,trivial⟩ rfl),(au (l:=[.bool (ai m),.slice l6 (ae m) lc,.slice s1 (ag en) d1]) (i:=0) (by omega) HBX.o),(bO (l:=[.bool (ai m),.slice l6 (ae m) lc,.slice s1 (ag en) d1]) (i:=0) K2.o),(s0 T1.o),(s0 RMb.o)⟩
 rintro a' W1 ⟨kK,kM,l6,lc,rfl,z0,z1,z2,z3⟩;obtain ⟨wo,K2,T1,RMb⟩:=aL z0 z1 z2 z3;clear z0 z1 z2 z3;simp only[aR,List.setIfInBounds_toArray,List.set_cons_zero,List.set_cons_succ];go_wp2;obtain ⟨rM,wy,w9⟩:=ah K2.o rfl rfl rfl;exact bodyPost_ret (v:=.agg #[.bool (ai m),.slice l6 (ae m) lc,.slice s1 (ag en) d1]) (by simp[results,results79,go_sem,rM,wy,w9]) rfl ⟨_,_,_,_,rfl,RMb.o,T1.o,wo.o⟩
theorem z2g (n m:Int)(en:Nat)(p1:Option Addr)(c1:Nat)(s1:Option Addr)(d1:Nat)(w:World)(h1:∀ s2 d2 W,RN W (.slice s2 (ag en) d2) en→CZ 86 #[.bool (ai n),.slice s2 (ag en) d2] W m)(r1:RN w (.slice p1 (ae n) c1) n.natAbs)(t1:RN w (.slice s1 (ag en) d1) en) :
 Calls Tryz.prog 87 #[.agg #[.bool (ai n),.slice p1 (ae n) c1,.slice s1 (ag en) d1]] w fun e w'=>∃ p c s d,e=.returned (.agg #[.bool (ai m),.slice p (ae m) c,.slice s (ag n.natAbs) d])∧RN w' (.slice p (ae m) c) m.natAbs∧RN w' (.slice s (ag n.natAbs) d) n.natAbs∧Below w.heap.size w w':=by
 obtain ⟨C1,R1,T1⟩:=ax h1 r1 t1;clear h1 r1 t1;go_enter func87,ntmps87
 go_upto_region 1 with fail
 refine ak w [(#[.bool (ai n),.slice p1 (ae n) c1,.slice s1 (ag en) d1],57),(#[.bool false,.slice none 0 0,.slice none 0 0],57)] rfl ?_;rintro W0 ⟨k1,k2,hb⟩;have u6:=hid (show Below w.heap.size w W0 from hb);obtain ⟨R1,T1⟩:=aQ u6.o R1 T1;obtain ⟨K1,K2⟩:=aD k1 k2;clear k1 k2 hb;go_wp2_with fail
 refine ay (fun a0 a' V=>∃ kV gy lg lv,a'=⟨aR [(3,.pointer (some ⟨w.heap.size,0,none⟩)),(4,.pointer (some ⟨w.heap.size,0,none⟩)),(5,.bool (ai n)),(6,.pointer (some ⟨w.heap.size,2,none⟩)),(7,.slice s1 (ag en) d1),(8,.agg #[.bool (ai m),.slice kV (ae m) gy]),(9,.pointer (some ⟨w.heap.size,0,none⟩)),(10,.pointer (some ⟨w.heap.size,1,none⟩)),(11,.slice p1 (ae n) c1),(12,.agg #[.bool (ai m),.slice lg (ae m) lv,.slice p1 (ae n) c1])] a0.tmps,a0.defers⟩∧Below w.heap.size w V∧SBk V (w.heap.size+1) #[.bool (ai m),.slice lg (ae m) lv,.slice p1 (ae n) c1] 57∧RN V (.slice p1 (ae n) c1) n.natAbs∧RN V (.slice lg (ae m) lv) m.natAbs) ?_ ?_
 · refine aC 10 1 [3,4,5,6,7,8,9,10,11,12] [Rel.val (.pointer (some ⟨w.heap.size,0,none⟩)),Rel.val (.pointer (some ⟨w.heap.size,0,none⟩)),Rel.val (.bool (ai n)),Rel.val (.pointer (some ⟨w.heap.size,2,none⟩)),Rel.val (.slice s1 (ag en) d1),Rel.int m,Rel.val (.pointer (some ⟨w.heap.size,0,none⟩)),Rel.val (.pointer (some ⟨w.heap.size,1,none⟩)),Rel.val (.slice p1 (ae n) c1),⟨fun v W=>∃ pa ca,v=.agg #[.bool (ai m),.slice pa (ae m) ca,.slice p1 (ae n) c1]∧RN W (.slice pa (ae m) ca) m.natAbs,fun _ _ _ ⟨pa,ca,e,h0⟩ hb=>⟨pa,ca,e,h0.below hb⟩⟩] ?_ ?_
   · intro af a W i HI hD Hr him
     have y1:=HI.o.rst 1 rfl;have wz:=(K1.o.below HI.o.world).cell (i:=0) rfl;have sj:=(K1.o.below HI.o.world).cell (i:=2) rfl;have si:=(K1.o.below HI.o.world).cell (i:=1) rfl;obtain⟨X0,X1,X3,X2,X4,X6⟩:=HI.o.g6 0 3 1 4 3 6 2 5 4 7 6 9;obtain⟨X7,X8⟩:=HI.o.g2 7 10 8 11
     match i,him,Hr with
     | 0,_,Hi|1,_,Hi|2,_,Hi|3,_,Hi|4,_,Hi =>
       try have x0:=X0.t Hi.o
       try have x1:=X1.t Hi.o
       try have x3:=X3.t Hi.o
       refine av rfl fun K' hK=>?_;go_simp;exact hK.o _ _ (HI.o.pw Hi.o)
     | 5,_,Hi =>
       have x2:=X2.q Hi.o;have x4:=X4.q Hi.o;refine av rfl fun K' hK=>?_;go_simp;with_reducible refine(C1.o _ _ _ (T1.o.below HI.o.world)).mono ?_
       rintro e W' ⟨kV,gy,rfl,kr,hb⟩;exact hK.o _ _ ⟨HI.o.pc Hi.o hb ⟨kV,gy,rfl,kr⟩,trivial⟩
     | 6,_,Hi|7,_,Hi|8,_,Hi =>
       try have x6:=X6.t Hi.o
       try have x7:=X7.t Hi.o
       refine av rfl fun K' hK=>?_;go_simp;exact hK.o _ _ (HI.o.pw Hi.o)
     | 9,_,Hi =>
       obtain⟨v',x5,kV,gy,e,kr⟩:=HI.o.at (i:=5) Hi.o (by kernel_rfl) (by decide);obtain rfl:=e;have x5:a.tmps[8]? = some (.agg #[.bool (ai m),.slice kV (ae m) gy]):=x5;have u00:=hid kr;clear kr;have x8:=X8.q Hi.o;refine av rfl fun K' hK=>?_;go_simp;exact hK.o _ _ ⟨HI.o.pv Hi.o ⟨kV,gy,rfl,u00.o⟩,trivial⟩
     | n+10,h,_=>exact absurd h (by omega)
   · intro af a W HI hD HA
     obtain⟨v',x5,kV,gy,e,kr⟩:=HI.o.slots 5 (by decide) (HA.o 5 (by decide));obtain rfl:=e;have u00:=hid kr;clear kr;obtain⟨v',x9,lg,lv,e,ky⟩:=HI.o.slots 9 (by decide) (HA.o 9 (by decide));obtain rfl:=e;have u02:=hid ky;clear ky;have x9:a.tmps[12]? = some (.agg #[.bool (ai m),.slice lg (ae m) lv,.slice p1 (ae n) c1]):=x9;have fw:=hid HI.o.world;obtain ⟨K2,R1⟩:=aQ fw.o K2 R1;have HBX:=Lib.hid (u6.o.trans (fw.o.mono u6.o.size));have RM:=u00;have RMb:=u02;have y2:=HI.o.rst 2 rfl;obtain ⟨rM,wy,w9⟩:=ah K2.o rfl rfl rfl;obtain ⟨u0I,u0J,u0K⟩:=aP K2.o;refine aH (t:=0) ?_;refine av rfl fun K' hK=>?_;go_simp;refine hK.o _ _ ?_;clear hK;refine aO ?_;have s0:∀ {v':Value} {n':Nat},RN W v' n'→RN (storeAll W (w.heap.size+1) 0 [.bool (ai m),.slice lg (ae m) lv,.slice p1 (ae n) c1]) v' n':=fun h'=>bC _ h' K2.o (by simp[bS]) (by simp[bi]);exact⟨rfl,kV,gy,lg,lv,(HI.o.finx ⟨HI.o.sx HA.o 0,HI.o.sx HA.o 1,HI.o.sx HA.o 2,HI.o.sx HA.o 3,HI.o.sx HA.o 4,x5,HI.o.sx HA.o 6,HI.o.sx HA.o 7,HI.o.sx HA.o 8,x9,trivial⟩ rfl),(au (l:=[.bool (ai m),.slice lg (ae m) lv,.slice p1 (ae n) c1]) (i:=0) (by omega) HBX.o),(bO (l:=[.bool (ai m),.slice lg (ae m) lv,.slice p1 (ae n) c1]) (i:=0) K2.o),(s0 R1.o),(s0 RMb.o)⟩
 rintro a' W1 ⟨kV,gy,lg,lv,rfl,z0,z1,z2,z3⟩;obtain ⟨wo,K2,R1,RMb⟩:=aL z0 z1 z2 z3;clear z0 z1 z2 z3;simp only[aR,List.setIfInBounds_toArray,List.set_cons_zero,List.set_cons_succ];go_wp2;obtain ⟨rM,wy,w9⟩:=ah K2.o rfl rfl rfl;exact bodyPost_ret (v:=.agg #[.bool (ai m),.slice lg (ae m) lv,.slice p1 (ae n) c1]) (by simp[results,results87,go_sem,rM,wy,w9]) rfl ⟨_,_,_,_,rfl,RMb.o,R1.o,wo.o⟩
theorem z0m (n s:Int)(en:Nat)(p1:Option Addr)(c1:Nat)(s1:Option Addr)(d1:Nat)(w:World)(h1:∀ p1 c1 W,RN W (.slice p1 (ae n) c1) n.natAbs→CR 52 #[.agg #[.bool (ai n),.slice p1 (ae n) c1]] W (.int .i64 s))(r1:RN w (.slice p1 (ae n) c1) n.natAbs)(t1:RN w (.slice s1 (ag en) d1) en) :
 CR 26 #[.agg #[.bool (ai n),.slice p1 (ae n) c1,.slice s1 (ag en) d1]] w (.int .i64 s):=by
 obtain ⟨C1,R1,T1⟩:=ax h1 r1 t1;clear h1 r1 t1;go_enter func26,ntmps26
 go_upto_region 1 with fail
 refine ak w [(#[.bool (ai n),.slice p1 (ae n) c1,.slice s1 (ag en) d1],57)] rfl ?_;rintro W0 ⟨k1,hb⟩;have u6:=hid (show Below w.heap.size w W0 from hb);have R1:=hid (R1.o.below u6.o);have K1:=hid k1;clear k1 hb;obtain ⟨wz,si⟩:=bH K1.o rfl rfl;go_wp2_with fail
 with_reducible refine(C1.o _ _ _ R1.o).mono ?_
 rintro e W1 ⟨rfl,hb⟩;clear wz si;have wo:=hbt u6 hb;clear hb;go_wp2;exact bodyPost_ret (v:=.int .i64 s) (by simp[results,results26,go_sem]) rfl ⟨rfl,wo.o⟩
theorem z2f (n1 n2 z n:Int)(en1 en2 en dn:Nat)(p1:Option Addr)(c1:Nat)(s1:Option Addr)(d1:Nat)(p2:Option Addr)(c2:Nat)(s2:Option Addr)(d2:Nat)(w:World)(h1:∀ p1 c1 p2 c2 W,RN W (.slice p1 (ae n1) c1) n1.natAbs→RN W (.slice p2 (ae n2) c2) n2.natAbs→CZ 83 #[.agg #[.bool (ai n1),.slice p1 (ae n1) c1],.agg #[.bool (ai n2),.slice p2 (ae n2) c2]] W z)(h2:∀ s1 d1 s2 d2 W,RN W (.slice s1 (ag en1) d1) en1→RN W (.slice s2 (ag en2) d2) en2→CN 84 #[.slice s1 (ag en1) d1,.slice s2 (ag en2) d2] W en)(h3:∀ p1 c1 s2 d2 W,RN W (.slice p1 (ae z) c1) z.natAbs→RN W (.slice s2 (ag en) d2) en→CF 82 #[.agg #[.bool (ai z),.slice p1 (ae z) c1],.slice s2 (ag en) d2] W n dn)(r1:RN w (.slice p1 (ae n1) c1) n1.natAbs)(t1:RN w (.slice s1 (ag en1) d1) en1)(r2:RN w (.slice p2 (ae n2) c2) n2.natAbs)(t2:RN w (.slice s2 (ag en2) d2) en2) :
 CF 58 #[.agg #[.bool (ai n1),.slice p1 (ae n1) c1,.slice s1 (ag en1) d1],.agg #[.bool (ai n2),.slice p2 (ae n2) c2,.slice s2 (ag en2) d2]] w n dn:=by
 obtain ⟨C1,C2,C3,R1,T1,R2,T2⟩:=fF h1 h2 h3 r1 t1 r2 t2;clear h1 h2 h3 r1 t1 r2 t2;go_enter func58,ntmps58
 go_upto_region 1 with fail
 refine ak w [(#[.bool (ai n1),.slice p1 (ae n1) c1,.slice s1 (ag en1) d1],57),(#[.bool (ai n2),.slice p2 (ae n2) c2,.slice s2 (ag en2) d2],57),(#[.bool false,.slice none 0 0,.slice none 0 0],57)] rfl ?_;rintro W0 ⟨k1,k2,k3,hb⟩;have u6:=hid (show Below w.heap.size w W0 from hb);obtain ⟨R1,T1,R2,T2⟩:=aW u6.o R1 T1 R2 T2;obtain ⟨K1,K2,K3⟩:=ax k1 k2 k3;clear k1 k2 k3 hb;go_wp2_with fail
 refine ay (fun a0 a' V=>∃ fQ ed d9 dx oM oV ma mf,a'=⟨aR [(5,.pointer (some ⟨w.heap.size,0,none⟩)),(6,.agg #[.bool (ai n1),.slice p1 (ae n1) c1]),(7,.pointer (some ⟨w.heap.size+1,0,none⟩)),(8,.agg #[.bool (ai n2),.slice p2 (ae n2) c2]),(9,.agg #[.bool (ai z),.slice fQ (ae z) ed]),(10,.pointer (some ⟨w.heap.size,2,none⟩)),(11,.slice s1 (ag en1) d1),(12,.pointer (some ⟨w.heap.size+1,2,none⟩)),(13,.slice s2 (ag en2) d2),(14,.slice d9 (ag en) dx),(15,.agg #[.bool (ai n),.slice oM (ae n) oV,.slice ma (ag dn) mf])] a0.tmps,a0.defers⟩∧Below w.heap.size w V∧SBk V (w.heap.size+1+1) #[.bool (ai n),.slice oM (ae n) oV,.slice ma (ag dn) mf] 57∧RN V (.slice oM (ae n) oV) (n).natAbs∧RN V (.slice ma (ag dn) mf) (dn)) ?_ ?_
 · refine aC 11 1 [5,6,7,8,9,10,11,12,13,14,15] [Rel.val (.pointer (some ⟨w.heap.size,0,none⟩)),Rel.val (.agg #[.bool (ai n1),.slice p1 (ae n1) c1]),Rel.val (.pointer (some ⟨w.heap.size+1,0,none⟩)),Rel.val (.agg #[.bool (ai n2),.slice p2 (ae n2) c2]),Rel.int z,Rel.val (.pointer (some ⟨w.heap.size,2,none⟩)),Rel.val (.slice s1 (ag en1) d1),Rel.val (.pointer (some ⟨w.heap.size+1,2,none⟩)),Rel.val (.slice s2 (ag en2) d2),Rel.nat en,⟨fun v W=>∃ p c s d,v=.agg #[.bool (ai n),.slice p (ae n) c,.slice s (ag dn) d]∧RN W (.slice p (ae n) c) (n).natAbs∧RN W (.slice s (ag dn) d) (dn),fun _ _ _ ⟨p,c,s,d,e,h0,h1⟩ hb=>⟨p,c,s,d,e,h0.below hb,h1.below hb⟩⟩] ?_ ?_
   · intro af a W i HI hD Hr him
     obtain⟨y2,y3⟩:=HI.o.s2 2 3;obtain ⟨wz,si⟩:=bH (K1.o.below HI.o.world) rfl rfl;obtain ⟨rM,wy⟩:=bH (K2.o.below HI.o.world) rfl rfl;have sj:=(K1.o.below HI.o.world).cell (i:=2) rfl;have w9:=(K2.o.below HI.o.world).cell (i:=2) rfl;obtain⟨X0,X2,X1,X3,X5,X7⟩:=HI.o.g6 0 5 2 7 1 6 3 8 5 10 7 12;obtain⟨X6,X8⟩:=HI.o.g2 6 11 8 13
     match i,him,Hr with
     | 0,_,Hi|1,_,Hi|2,_,Hi|3,_,Hi =>
       try have x0:=X0.t Hi.o
       try have x2:=X2.t Hi.o
       refine av rfl fun K' hK=>?_;go_simp;exact hK.o _ _ (HI.o.pw Hi.o)
     | 4,_,Hi =>
       have x1:=X1.q Hi.o;have x3:=X3.q Hi.o;refine av rfl fun K' hK=>?_;go_simp;with_reducible refine(C1.o _ _ _ _ _ (R1.o.below HI.o.world) (R2.o.below HI.o.world)).mono ?_
       rintro e W' ⟨fQ,ed,rfl,bv,hb⟩;exact hK.o _ _ ⟨HI.o.pc Hi.o hb ⟨fQ,ed,rfl,bv⟩,trivial⟩
     | 5,_,Hi|6,_,Hi|7,_,Hi|8,_,Hi =>
       try have x5:=X5.t Hi.o
       try have x7:=X7.t Hi.o
       refine av rfl fun K' hK=>?_;go_simp;exact hK.o _ _ (HI.o.pw Hi.o)
     | 9,_,Hi =>
       have x6:=X6.q Hi.o;have x8:=X8.q Hi.o;refine av rfl fun K' hK=>?_;go_simp;with_reducible refine(C2.o _ _ _ _ _ (T1.o.below HI.o.world) (T2.o.below HI.o.world)).mono ?_
       rintro e W' ⟨d9,dx,rfl,ky,hb⟩;exact hK.o _ _ ⟨HI.o.pc Hi.o hb ⟨d9,dx,rfl,ky⟩,trivial⟩
     | 10,_,Hi =>
       obtain⟨v',x4,fQ,ed,e,bv⟩:=HI.o.at (i:=4) Hi.o (by kernel_rfl) (by decide);obtain rfl:=e;have x4:a.tmps[9]? = some (.agg #[.bool (ai z),.slice fQ (ae z) ed]):=x4;have u0t:=hid bv;clear bv;obtain⟨v',x9,d9,dx,e,ky⟩:=HI.o.at (i:=9) Hi.o (by kernel_rfl) (by decide);obtain rfl:=e;have x9:a.tmps[14]? = some (.slice d9 (ag en) dx):=x9;have u02:=hid ky;clear ky;refine av rfl fun K' hK=>?_;go_simp;with_reducible refine(C3.o _ _ _ _ _ u0t.o u02.o).mono ?_
       rintro e W' ⟨oM,oV,ma,mf,rfl,u0n,u0o,hb⟩;exact hK.o _ _ ⟨HI.o.pc Hi.o hb ⟨oM,oV,ma,mf,rfl,u0n,u0o⟩,trivial⟩
     | n+11,h,_=>exact absurd h (by omega)
   · intro af a W HI hD HA
     obtain⟨v',x4,fQ,ed,e,bv⟩:=HI.o.slots 4 (by decide) (HA.o 4 (by decide));obtain rfl:=e;have u0t:=hid bv;clear bv;obtain⟨v',x9,d9,dx,e,ky⟩:=HI.o.slots 9 (by decide) (HA.o 9 (by decide));obtain rfl:=e;have u02:=hid ky;clear ky;obtain⟨v',x10,oM,oV,ma,mf,e,u0n,u0o⟩:=HI.o.slots 10 (by decide) (HA.o 10 (by decide));obtain rfl:=e;have u0L:=hid u0n;clear u0n;have u0M:=hid u0o;clear u0o;have x10:a.tmps[15]? = some (.agg #[.bool (ai n),.slice oM (ae n) oV,.slice ma (ag dn) mf]):=x10;have fw:=hid HI.o.world;obtain ⟨HBX,K3⟩:=aD (u6.o.trans (fw.o.mono u6.o.size)) (K3.o.below fw.o);have RZ:=u0t;have RE:=u02;have RQ:=u0L;have TQ:=u0M;have y4:=HI.o.rst 4 rfl;obtain ⟨u0E,u0F,u0G⟩:=ah K3.o rfl rfl rfl;obtain ⟨u0N,u0O,u0P⟩:=aP K3.o;refine aH (t:=0) ?_;refine av rfl fun K' hK=>?_;go_simp;refine hK.o _ _ ?_;clear hK;refine aO ?_;have s0:∀ {v':Value} {n':Nat},RN W v' n'→RN (storeAll W (w.heap.size+1+1) 0 [.bool (ai n),.slice oM (ae n) oV,.slice ma (ag dn) mf]) v' n':=fun h'=>bC _ h' K3.o (by simp[bS]) (by simp[bi]);exact⟨rfl,fQ,ed,d9,dx,oM,oV,ma,mf,(HI.o.finx ⟨HI.o.sx HA.o 0,HI.o.sx HA.o 1,HI.o.sx HA.o 2,HI.o.sx HA.o 3,x4,HI.o.sx HA.o 5,HI.o.sx HA.o 6,HI.o.sx HA.o 7,HI.o.sx HA.o 8,x9,x10,trivial⟩ rfl),(au (l:=[.bool (ai n),.slice oM (ae n) oV,.slice ma (ag dn) mf]) (i:=0) (by omega) HBX.o),(bO (l:=[.bool (ai n),.slice oM (ae n) oV,.slice ma (ag dn) mf]) (i:=0) K3.o),(s0 RQ.o),(s0 TQ.o)⟩
 rintro a' W1 ⟨fQ,ed,d9,dx,oM,oV,ma,mf,rfl,z0,z1,z2,z3⟩;obtain ⟨wo,K3,RQ,TQ⟩:=aL z0 z1 z2 z3;clear z0 z1 z2 z3;simp only[aR,List.setIfInBounds_toArray,List.set_cons_zero,List.set_cons_succ];go_wp2;obtain ⟨u0E,u0F,u0G⟩:=ah K3.o rfl rfl rfl;exact bodyPost_ret (v:=.agg #[.bool (ai n),.slice oM (ae n) oV,.slice ma (ag dn) mf]) (by simp[results,results58,go_sem,u0E,u0F,u0G]) rfl ⟨_,_,_,_,rfl,RQ.o,TQ.o,wo.o⟩
