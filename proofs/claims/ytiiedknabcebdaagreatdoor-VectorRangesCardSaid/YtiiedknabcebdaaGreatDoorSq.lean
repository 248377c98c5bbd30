/- texts -/
import Derived.Test.YtiiedknabcebdaaGreatDoorMz37q
open Go.Proofs.Tryz
set_option maxRecDepth 100000
set_option maxHeartbeats 20000000
open Go.Lib (hid)
namespace Go.Proofs.YtiiedknabcebdaaGreatDoor
open Go.RowKit Go.Gb
theorem z1A (a0 x0 y0:ByteArray)(z:Int)(n:Nat)  (w:World)(h1:CQ 61 #[.string a0] (.tuple #[.string x0,.string y0,.bool false]))(h2:CQ 62 #[.string x0] (.bool true))(h3:CQ 63 #[.string y0] (.bool true))(h4:∀ W,CZ 64 #[.string x0] W z)(h5:∀ W,CN 65 #[.string y0] W n)  :
 Calls Tryz.prog 44 #[.string a0] w fun e w'=>∃ p c s d,e=.returned (.tuple #[.agg #[.bool (ak z),.slice p (ag z) c,.slice s (ah n) d],.bool true])∧RN w' (.slice p (ag z) c) z.natAbs∧RN w' (.slice s (ah n) d) n∧Below w.heap.size w w':=by
 obtain ⟨C1,C2,C3,C4,C5⟩:=bQ h1 h2 h3 h4 h5;clear h1 h2 h3 h4 h5;go_enter func44,ntmps44
 go_upto_region 1 with fail
 refine ay w [(#[.bool false,.slice none 0 0,.slice none 0 0],57)] rfl ?_;rintro W0 ⟨k1,hb⟩;have rV:=hid (show Below w.heap.size w W0 from hb);have K1:=hid k1;clear k1 hb;go_wp2_with fail
 with_reducible refine(C1.o _).mono ?_
 rintro e W1 ⟨rfl,hb⟩;have K1:=hid (K1.o.below hb);have p8:=hbt rV hb;clear hb;go_wp2_with fail
 with_reducible refine(C2.o _).mono ?_
 rintro e W2 ⟨rfl,hb⟩;have K1:=hid (K1.o.below hb);have pq:=hbt p8 hb;clear hb;go_wp2_with fail
 with_reducible refine(C3.o _).mono ?_
 rintro e W3 ⟨rfl,hb⟩;have K1:=hid (K1.o.below hb);have ol:=hbt pq hb;clear hb;go_wp2_with fail
 with_reducible refine(C4.o _).mono ?_
 rintro e W4 ⟨u6,w9,rfl,wo,hb⟩;have K1:=hid (K1.o.below hb);have mi:=hbt ol hb;have RZ:=hid wo;clear hb wo;go_wp2_with fail
 with_reducible refine(C5.o _).mono ?_
 rintro e W5 ⟨wu,ww,rfl,sw,hb⟩;obtain ⟨K1,RZ⟩:=aR hb K1 RZ;have rM:=hbt mi hb;have RM:=hid sw;clear hb sw;go_upto_region 5 with fail
 refine ay W5 [(#[.bool (ak z),.slice u6 (ag z) w9,.slice wu (ah n) ww],57)] rfl ?_;have L1:=K1.o.lt;have L2:=rM.o.size;rintro W6 ⟨k2,hb⟩;have hb:Below W5.heap.size W5 W6:=hb;obtain ⟨K1,RZ,RM⟩:=bA hb K1 RZ RM;have l6:=hbt rM hb;have K2:=hid k2;clear k2 hb;obtain ⟨lg,wz,wy⟩:=aj K2.o rfl rfl rfl;obtain ⟨oM,oV,mf⟩:=aj K1.o rfl rfl rfl;obtain ⟨kM,kV,gy⟩:=aW K1.o;go_wp2;exact bodyPost_ret (v:=.tuple #[.agg #[.bool (ak z),.slice u6 (ag z) w9,.slice wu (ah n) ww],.bool true]) (by simp[results,results44,go_sem,oM,oV,mf]) rfl ⟨_,_,_,_,rfl,(bE [.bool (ak z),.slice u6 (ag z) w9,.slice wu (ah n) ww] RZ.o K1.o (by simp[cu]) (by simp[bG])),(bE [.bool (ak z),.slice u6 (ag z) w9,.slice wu (ah n) ww] RM.o K1.o (by simp[cu]) (by simp[bG])),(au (l:=[.bool (ak z),.slice u6 (ag z) w9,.slice wu (ah n) ww]) (i:=0) (by omega) l6.o)⟩
theorem sD (a0 x0 y0:ByteArray)(zz:Int)(dz:Nat)(sl:Bool)  (w:World)(h1:CQ 61 #[.string a0] (.tuple #[.string x0,.string y0,.bool sl]))(h2:CQ 62 #[.string x0] (.bool false))(h11:∀ W,CF 23 #[.int .i64 0] W zz dz)  :
 Calls Tryz.prog 44 #[.string a0] w fun e w'=>∃ p c s d,e=.returned (.tuple #[.agg #[.bool (ak zz),.slice p (ag zz) c,.slice s (ah dz) d],.bool false])∧RN w' (.slice p (ag zz) c) zz.natAbs∧RN w' (.slice s (ah dz) d) dz∧Below w.heap.size w w':=by
 obtain ⟨C1,C2,C11⟩:=ax h1 h2 h11;clear h1 h2 h11;go_enter func44,ntmps44
 go_upto_region 1 with fail
 refine ay w [(#[.bool false,.slice none 0 0,.slice none 0 0],57)] rfl ?_;rintro W0 ⟨k1,hb⟩;have rV:=hid (show Below w.heap.size w W0 from hb);have K1:=hid k1;clear k1 hb;go_wp2_with fail
 with_reducible refine(C1.o _).mono ?_
 rintro e W1 ⟨rfl,hb⟩;have K1:=hid (K1.o.below hb);have p8:=hbt rV hb;clear hb;go_wp2_with fail
 with_reducible refine(C2.o _).mono ?_
 rintro e W2 ⟨rfl,hb⟩;have K1:=hid (K1.o.below hb);have pq:=hbt p8 hb;clear hb;go_wp2_with fail
 with_reducible refine(C11.o _).mono ?_
 rintro e W3 ⟨ed,dn,dx,dR,rfl,u02,u03,hb⟩;have K1:=hid (K1.o.below hb);have ol:=hbt pq hb;have RQ:=hid u02;have TQ:=hid u03;clear hb u02 u03;obtain ⟨oM,oV,mf⟩:=aj K1.o rfl rfl rfl;obtain ⟨kM,kV,gy⟩:=aW K1.o;go_wp2;exact bodyPost_ret (v:=.tuple #[.agg #[.bool (ak zz),.slice ed (ag zz) dn,.slice dx (ah dz) dR],.bool false]) (by simp[results,results44,go_sem,oM,oV,mf]) rfl ⟨_,_,_,_,rfl,(bE [.bool (ak zz),.slice ed (ag zz) dn,.slice dx (ah dz) dR] RQ.o K1.o (by simp[cu]) (by simp[bG])),(bE [.bool (ak zz),.slice ed (ag zz) dn,.slice dx (ah dz) dR] TQ.o K1.o (by simp[cu]) (by simp[bG])),(au (l:=[.bool (ak zz),.slice ed (ag zz) dn,.slice dx (ah dz) dR]) (i:=0) (by omega) ol.o)⟩
theorem z07 (a0 x0 y0:ByteArray)(zz:Int)(dz:Nat)(sl:Bool)  (w:World)(h1:CQ 61 #[.string a0] (.tuple #[.string x0,.string y0,.bool sl]))(h2:CQ 62 #[.string x0] (.bool true))(h3:CQ 63 #[.string y0] (.bool false))(h11:∀ W,CF 23 #[.int .i64 0] W zz dz)  :
 Calls Tryz.prog 44 #[.string a0] w fun e w'=>∃ p c s d,e=.returned (.tuple #[.agg #[.bool (ak zz),.slice p (ag zz) c,.slice s (ah dz) d],.bool false])∧RN w' (.slice p (ag zz) c) zz.natAbs∧RN w' (.slice s (ah dz) d) dz∧Below w.heap.size w w':=by
 obtain ⟨C1,C2,C3,C11⟩:=aQ h1 h2 h3 h11;clear h1 h2 h3 h11;go_enter func44,ntmps44
 go_upto_region 1 with fail
 refine ay w [(#[.bool false,.slice none 0 0,.slice none 0 0],57)] rfl ?_;rintro W0 ⟨k1,hb⟩;have rV:=hid (show Below w.heap.size w W0 from hb);have K1:=hid k1;clear k1 hb;go_wp2_with fail
 with_reducible refine(C1.o _).mono ?_
 rintro e W1 ⟨rfl,hb⟩;have K1:=hid (K1.o.below hb);have p8:=hbt rV hb;clear hb;go_wp2_with fail
 with_reducible refine(C2.o _).mono ?_
 rintro e W2 ⟨rfl,hb⟩;have K1:=hid (K1.o.below hb);have pq:=hbt p8 hb;clear hb;go_wp2_with fail
 with_reducible refine(C3.o _).mono ?_
 rintro e W3 ⟨rfl,hb⟩;have K1:=hid (K1.o.below hb);have ol:=hbt pq hb;clear hb;go_wp2_with fail
 with_reducible refine(C11.o _).mono ?_
 rintro e W4 ⟨u6,w9,dX,dY,rfl,wo,u04,hb⟩;have K1:=hid (K1.o.below hb);have mi:=hbt ol hb;have RQ:=hid wo;have TQ:=hid u04;clear hb wo u04;obtain ⟨oM,oV,mf⟩:=aj K1.o rfl rfl rfl;obtain ⟨kM,kV,gy⟩:=aW K1.o;go_wp2;exact bodyPost_ret (v:=.tuple #[.agg #[.bool (ak zz),.slice u6 (ag zz) w9,.slice dX (ah dz) dY],.bool false]) (by simp[results,results44,go_sem,oM,oV,mf]) rfl ⟨_,_,_,_,rfl,(bE [.bool (ak zz),.slice u6 (ag zz) w9,.slice dX (ah dz) dY] RQ.o K1.o (by simp[cu]) (by simp[bG])),(bE [.bool (ak zz),.slice u6 (ag zz) w9,.slice dX (ah dz) dY] TQ.o K1.o (by simp[cu]) (by simp[bG])),(au (l:=[.bool (ak zz),.slice u6 (ag zz) w9,.slice dX (ah dz) dY]) (i:=0) (by omega) mi.o)⟩
theorem z06 (a0 x0 y0:ByteArray)(z k sg:Int)(n one g:Nat)(hk:0<k)(hsg:sg≠0)  (w:World)(h1:CQ 61 #[.string a0] (.tuple #[.string x0,.string y0,.bool true]))(h2:CQ 62 #[.string x0] (.bool true))(h3:CQ 63 #[.string y0] (.bool true))(h4:∀ W,CZ 64 #[.string x0] W z)(h5:∀ W,CN 65 #[.string y0] W n)(h6:∀ W,CN 46 #[.int .u32 1] W one)(h7:∀ s1 d1 s2 d2 W,RN W (.slice s1 (ah n) d1) n→RN W (.slice s2 (ah one) d2) one→CR 66 #[.slice s1 (ah n) d1,.slice s2 (ah one) d2] W (.int .i64 k))(h8:∀ p1 c1 W,RN W (.slice p1 (ag z) c1) z.natAbs→CR 67 #[.agg #[.bool (ak z),.slice p1 (ag z) c1]] W (.int .i64 sg))(h9:∀ p1 c1 s2 d2 W,RN W (.slice p1 (ag z) c1) z.natAbs→RN W (.slice s2 (ah n) d2) n→CN 68 #[.slice p1 (ag z) c1,.slice s2 (ah n) d2] W g)(h10:∀ s1 d1 s2 d2 W,RN W (.slice s1 (ah g) d1) g→RN W (.slice s2 (ah one) d2) one→CR 66 #[.slice s1 (ah g) d1,.slice s2 (ah one) d2] W (.int .i64 0))  :
 Calls Tryz.prog 44 #[.string a0] w fun e w'=>∃ p c s d,e=.returned (.tuple #[.agg #[.bool (ak z),.slice p (ag z) c,.slice s (ah n) d],.bool true])∧RN w' (.slice p (ag z) c) z.natAbs∧RN w' (.slice s (ah n) d) n∧Below w.heap.size w w':=by
 obtain ⟨C1,C2,C3,C4,C5,C6,C7,C8,C9⟩:=bW h1 h2 h3 h4 h5 h6 h7 h8 h9;have C10:=hid h10;have k0:decide (0<k)=true:=decide_eq_true hk;have k1:0<k:=hk;clear hk;have s0:(sg==0)=false:=by rw[beq_eq_false_iff_ne];exact hsg
 have s1:¬ sg=0:=hsg;have s2:(sg != 0)=true:=by unfold bne;rw[s0];rfl
 have s3:decide (sg=0)=false:=decide_eq_false hsg;clear hsg h1 h2 h3 h4 h5 h6 h7 h8 h9 h10;go_enter func44,ntmps44
 go_upto_region 1 with fail
 refine ay w [(#[.bool false,.slice none 0 0,.slice none 0 0],57)] rfl ?_;rintro W0 ⟨k1,hb⟩;have rV:=hid (show Below w.heap.size w W0 from hb);have K1:=hid k1;clear k1 hb;go_wp2_with fail
 with_reducible refine(C1.o _).mono ?_
 rintro e W1 ⟨rfl,hb⟩;have K1:=hid (K1.o.below hb);have p8:=hbt rV hb;clear hb;go_wp2_with fail
 with_reducible refine(C2.o _).mono ?_
 rintro e W2 ⟨rfl,hb⟩;have K1:=hid (K1.o.below hb);have pq:=hbt p8 hb;clear hb;go_wp2_with fail
 with_reducible refine(C3.o _).mono ?_
 rintro e W3 ⟨rfl,hb⟩;have K1:=hid (K1.o.below hb);have ol:=hbt pq hb;clear hb;go_wp2_with fail
 with_reducible refine(C4.o _).mono ?_
 rintro e W4 ⟨u6,w9,rfl,wo,hb⟩;have K1:=hid (K1.o.below hb);have mi:=hbt ol hb;have RZ:=hid wo;clear hb wo;go_wp2_with fail
 with_reducible refine(C5.o _).mono ?_
 rintro e W5 ⟨wu,ww,rfl,sw,hb⟩;obtain ⟨K1,RZ⟩:=aR hb K1 RZ;have rM:=hbt mi hb;have RM:=hid sw;clear hb sw;go_upto_region 5 with fail
 refine ay W5 [(#[.bool (ak z),.slice u6 (ag z) w9,.slice wu (ah n) ww],57)] rfl ?_;have L1:=K1.o.lt;have L2:=rM.o.size;rintro W6 ⟨k2,hb⟩;have hb:Below W5.heap.size W5 W6:=hb;obtain ⟨K1,RZ,RM⟩:=bA hb K1 RZ RM;have l6:=hbt rM hb;have K2:=hid k2;clear k2 hb;go_wp2_with fail
 with_reducible refine(C6.o _).mono ?_
 rintro e W7 ⟨aX,c_6,rfl,l5,hb⟩;obtain ⟨K1,K2,RZ,RM⟩:=bD hb K1 K2 RZ RM;have ky:=hbt l6 hb;have RO:=hid l5;clear hb l5;have wy:=K2.o.cell (i:=2) rfl;go_wp2_with fail
 with_reducible refine(C7.o _ _ _ _ _ RM.o RO.o).mono ?_
 rintro e W8 ⟨rfl,hb⟩;clear wy;obtain ⟨K1,K2,RZ,RM,RO⟩:=cK hb K1 K2 RZ RM RO;have kz:=hbt ky hb;clear hb;obtain ⟨lg,wz⟩:=aO K2.o rfl rfl;go_wp2_with fail
 with_reducible refine(C8.o _ _ _ RZ.o).mono ?_
 rintro e W9 ⟨rfl,hb⟩;clear lg wz;obtain ⟨K1,K2,RZ,RM,RO⟩:=cK hb K1 K2 RZ RM RO;have kK:=hbt kz hb;clear hb;have wz:=K2.o.cell (i:=1) rfl;have wy:=K2.o.cell (i:=2) rfl;go_wp2_with fail
 with_reducible refine(C9.o _ _ _ _ _ RZ.o RM.o).mono ?_
 rintro e W10 ⟨fq,fw,rfl,lv,hb⟩;clear wz wy;obtain ⟨K1,K2,RZ,RM,RO⟩:=cK hb K1 K2 RZ RM RO;have fQ:=hbt kK hb;have RG:=hid lv;clear hb lv;go_wp2_with fail
 with_reducible refine(C10.o _ _ _ _ _ RG.o RO.o).mono ?_
 rintro e W11 ⟨rfl,hb⟩;obtain ⟨K1,K2,RZ,RM⟩:=bD hb K1 K2 RZ RM;have u01:=hbt fQ hb;clear hb;obtain ⟨lg,wz,wy⟩:=aj K2.o rfl rfl rfl;obtain ⟨oM,oV,mf⟩:=aj K1.o rfl rfl rfl;obtain ⟨kM,kV,gy⟩:=aW K1.o;go_wp2;exact bodyPost_ret (v:=.tuple #[.agg #[.bool (ak z),.slice u6 (ag z) w9,.slice wu (ah n) ww],.bool true]) (by simp[results,results44,go_sem,oM,oV,mf]) rfl ⟨_,_,_,_,rfl,(bE [.bool (ak z),.slice u6 (ag z) w9,.slice wu (ah n) ww] RZ.o K1.o (by simp[cu]) (by simp[bG])),(bE [.bool (ak z),.slice u6 (ag z) w9,.slice wu (ah n) ww] RM.o K1.o (by simp[cu]) (by simp[bG])),(au (l:=[.bool (ak z),.slice u6 (ag z) w9,.slice wu (ah n) ww]) (i:=0) (by omega) u01.o)⟩
theorem xR (a0 x0 y0:ByteArray)(z k zz:Int)(n one dz:Nat)(hk:k≤0)  (w:World)(h1:CQ 61 #[.string a0] (.tuple #[.string x0,.string y0,.bool true]))(h2:CQ 62 #[.string x0] (.bool true))(h3:CQ 63 #[.string y0] (.bool true))(h4:∀ W,CZ 64 #[.string x0] W z)(h5:∀ W,CN 65 #[.string y0] W n)(h6:∀ W,CN 46 #[.int .u32 1] W one)(h7:∀ s1 d1 s2 d2 W,RN W (.slice s1 (ah n) d1) n→RN W (.slice s2 (ah one) d2) one→CR 66 #[.slice s1 (ah n) d1,.slice s2 (ah one) d2] W (.int .i64 k))(h11:∀ W,CF 23 #[.int .i64 0] W zz dz)  :
 Calls Tryz.prog 44 #[.string a0] w fun e w'=>∃ p c s d,e=.returned (.tuple #[.agg #[.bool (ak zz),.slice p (ag zz) c,.slice s (ah dz) d],.bool false])∧RN w' (.slice p (ag zz) c) zz.natAbs∧RN w' (.slice s (ah dz) d) dz∧Below w.heap.size w w':=by
 obtain ⟨C1,C2,C3,C4,C5,C6,C7,C11⟩:=qx h1 h2 h3 h4 h5 h6 h7 h11;have k0:decide (0<k)=false:=decide_eq_false (by omega);have k1:k≤0:=hk;clear hk h1 h2 h3 h4 h5 h6 h7 h11;go_enter func44,ntmps44
 go_upto_region 1 with fail
 refine ay w [(#[.bool false,.slice none 0 0,.slice none 0 0],57)] rfl ?_;rintro W0 ⟨k1,hb⟩;have rV:=hid (show Below w.heap.size w W0 from hb);have K1:=hid k1;clear k1 hb;go_wp2_with fail
 with_reducible refine(C1.o _).mono ?_
 rintro e W1 ⟨rfl,hb⟩;have K1:=hid (K1.o.below hb);have p8:=hbt rV hb;clear hb;go_wp2_with fail
 with_reducible refine(C2.o _).mono ?_
 rintro e W2 ⟨rfl,hb⟩;have K1:=hid (K1.o.below hb);have pq:=hbt p8 hb;clear hb;go_wp2_with fail
 with_reducible refine(C3.o _).mono ?_
 rintro e W3 ⟨rfl,hb⟩;have K1:=hid (K1.o.below hb);have ol:=hbt pq hb;clear hb;go_wp2_with fail
 with_reducible refine(C4.o _).mono ?_
 rintro e W4 ⟨u6,w9,rfl,wo,hb⟩;have K1:=hid (K1.o.below hb);have mi:=hbt ol hb;have RZ:=hid wo;clear hb wo;go_wp2_with fail
 with_reducible refine(C5.o _).mono ?_
 rintro e W5 ⟨wu,ww,rfl,sw,hb⟩;have K1:=hid (K1.o.below hb);have rM:=hbt mi hb;have RM:=hid sw;clear hb sw;go_upto_region 5 with fail
 refine ay W5 [(#[.bool (ak z),.slice u6 (ag z) w9,.slice wu (ah n) ww],57)] rfl ?_;have L1:=K1.o.lt;have L2:=rM.o.size;rintro W6 ⟨k2,hb⟩;have hb:Below W5.heap.size W5 W6:=hb;obtain ⟨K1,RM⟩:=aR hb K1 RM;have l6:=hbt rM hb;have K2:=hid k2;clear k2 hb;go_wp2_with fail
 with_reducible refine(C6.o _).mono ?_
 rintro e W7 ⟨aX,c_6,rfl,l5,hb⟩;obtain ⟨K1,K2,RM⟩:=bA hb K1 K2 RM;have ky:=hbt l6 hb;have RO:=hid l5;clear hb l5;have wy:=K2.o.cell (i:=2) rfl;go_wp2_with fail
 with_reducible refine(C7.o _ _ _ _ _ RM.o RO.o).mono ?_
 rintro e W8 ⟨rfl,hb⟩;clear wy;obtain ⟨K1,K2⟩:=aR hb K1 K2;have kz:=hbt ky hb;clear hb;obtain ⟨lg,wz,wy⟩:=aj K2.o rfl rfl rfl;go_wp2_with fail
 with_reducible refine(C11.o _).mono ?_
 rintro e W9 ⟨cO,bg,bn,bq,rfl,u05,u06,hb⟩;clear lg wz wy;have K1:=hid (K1.o.below hb);have kK:=hbt kz hb;have RQ:=hid u05;have TQ:=hid u06;clear hb u05 u06;obtain ⟨oM,oV,mf⟩:=aj K1.o rfl rfl rfl;obtain ⟨kM,kV,gy⟩:=aW K1.o;go_wp2;exact bodyPost_ret (v:=.tuple #[.agg #[.bool (ak zz),.slice cO (ag zz) bg,.slice bn (ah dz) bq],.bool false]) (by simp[results,results44,go_sem,oM,oV,mf]) rfl ⟨_,_,_,_,rfl,(bE [.bool (ak zz),.slice cO (ag zz) bg,.slice bn (ah dz) bq] RQ.o K1.o (by simp[cu]) (by simp[bG])),(bE [.bool (ak zz),.slice cO (ag zz) bg,.slice bn (ah dz) bq] TQ.o K1.o (by simp[cu]) (by simp[bG])),(au (l:=[.bool (ak zz),.slice cO (ag zz) bg,.slice bn (ah dz) bq]) (i:=0) (by omega) kK.o)⟩
theorem z05 (a0 x0 y0:ByteArray)(z k zz:Int)(n one dz:Nat)(hk:0<k)  (w:World)(h1:CQ 61 #[.string a0] (.tuple #[.string x0,.string y0,.bool true]))(h2:CQ 62 #[.string x0] (.bool true))(h3:CQ 63 #[.string y0] (.bool true))(h4:∀ W,CZ 64 #[.string x0] W z)(h5:∀ W,CN 65 #[.string y0] W n)(h6:∀ W,CN 46 #[.int .u32 1] W one)(h7:∀ s1 d1 s2 d2 W,RN W (.slice s1 (ah n) d1) n→RN W (.slice s2 (ah one) d2) one→CR 66 #[.slice s1 (ah n) d1,.slice s2 (ah one) d2] W (.int .i64 k))(h8:∀ p1 c1 W,RN W (.slice p1 (ag z) c1) z.natAbs→CR 67 #[.agg #[.bool (ak z),.slice p1 (ag z) c1]] W (.int .i64 0))(h11:∀ W,CF 23 #[.int .i64 0] W zz dz)  :
 Calls Tryz.prog 44 #[.string a0] w fun e w'=>∃ p c s d,e=.returned (.tuple #[.agg #[.bool (ak zz),.slice p (ag zz) c,.slice s (ah dz) d],.bool false])∧RN w' (.slice p (ag zz) c) zz.natAbs∧RN w' (.slice s (ah dz) d) dz∧Below w.heap.size w w':=by
 obtain ⟨C1,C2,C3,C4,C5,C6,C7,C8,C11⟩:=bW h1 h2 h3 h4 h5 h6 h7 h8 h11;have k0:decide (0<k)=true:=decide_eq_true hk;have k1:0<k:=hk;clear hk h1 h2 h3 h4 h5 h6 h7 h8 h11;go_enter func44,ntmps44
 go_upto_region 1 with fail
 refine ay w [(#[.bool false,.slice none 0 0,.slice none 0 0],57)] rfl ?_;rintro W0 ⟨k1,hb⟩;have rV:=hid (show Below w.heap.size w W0 from hb);have K1:=hid k1;clear k1 hb;go_wp2_with fail
 with_reducible refine(C1.o _).mono ?_
 rintro e W1 ⟨rfl,hb⟩;have K1:=hid (K1.o.below hb);have p8:=hbt rV hb;clear hb;go_wp2_with fail
 with_reducible refine(C2.o _).mono ?_
 rintro e W2 ⟨rfl,hb⟩;have K1:=hid (K1.o.below hb);have pq:=hbt p8 hb;clear hb;go_wp2_with fail
 with_reducible refine(C3.o _).mono ?_
 rintro e W3 ⟨rfl,hb⟩;have K1:=hid (K1.o.below hb);have ol:=hbt pq hb;clear hb;go_wp2_with fail
 with_reducible refine(C4.o _).mono ?_
 rintro e W4 ⟨u6,w9,rfl,wo,hb⟩;have K1:=hid (K1.o.below hb);have mi:=hbt ol hb;have RZ:=hid wo;clear hb wo;go_wp2_with fail
 with_reducible refine(C5.o _).mono ?_
 rintro e W5 ⟨wu,ww,rfl,sw,hb⟩;obtain ⟨K1,RZ⟩:=aR hb K1 RZ;have rM:=hbt mi hb;have RM:=hid sw;clear hb sw;go_upto_region 5 with fail
 refine ay W5 [(#[.bool (ak z),.slice u6 (ag z) w9,.slice wu (ah n) ww],57)] rfl ?_;have L1:=K1.o.lt;have L2:=rM.o.size;rintro W6 ⟨k2,hb⟩;have hb:Below W5.heap.size W5 W6:=hb;obtain ⟨K1,RZ,RM⟩:=bA hb K1 RZ RM;have l6:=hbt rM hb;have K2:=hid k2;clear k2 hb;go_wp2_with fail
 with_reducible refine(C6.o _).mono ?_
 rintro e W7 ⟨aX,c_6,rfl,l5,hb⟩;obtain ⟨K1,K2,RZ,RM⟩:=bD hb K1 K2 RZ RM;have ky:=hbt l6 hb;have RO:=hid l5;clear hb l5;have wy:=K2.o.cell (i:=2) rfl;go_wp2_with fail
 with_reducible refine(C7.o _ _ _ _ _ RM.o RO.o).mono ?_
 rintro e W8 ⟨rfl,hb⟩;clear wy;obtain ⟨K1,K2,RZ⟩:=bA hb K1 K2 RZ;have kz:=hbt ky hb;clear hb;obtain ⟨lg,wz⟩:=aO K2.o rfl rfl;go_wp2_with fail
 with_reducible refine(C8.o _ _ _ RZ.o).mono ?_
 rintro e W9 ⟨rfl,hb⟩;clear lg wz;obtain ⟨K1,K2⟩:=aR hb K1 K2;have kK:=hbt kz hb;clear hb;have wz:=K2.o.cell (i:=1) rfl;have wy:=K2.o.cell (i:=2) rfl;go_wp2_with fail
 with_reducible refine(C11.o _).mono ?_
 rintro e W10 ⟨fq,fw,bu,bv,rfl,lv,u07,hb⟩;clear wz wy;have K1:=hid (K1.o.below hb);have fQ:=hbt kK hb;have RQ:=hid lv;have TQ:=hid u07;clear hb lv u07;obtain ⟨oM,oV,mf⟩:=aj K1.o rfl rfl rfl;obtain ⟨kM,kV,gy⟩:=aW K1.o;go_wp2;exact bodyPost_ret (v:=.tuple #[.agg #[.bool (ak zz),.slice fq (ag zz) fw,.slice bu (ah dz) bv],.bool false]) (by simp[results,results44,go_sem,oM,oV,mf]) rfl ⟨_,_,_,_,rfl,(bE [.bool (ak zz),.slice fq (ag zz) fw,.slice bu (ah dz) bv] RQ.o K1.o (by simp[cu]) (by simp[bG])),(bE [.bool (ak zz),.slice fq (ag zz) fw,.slice bu (ah dz) bv] TQ.o K1.o (by simp[cu]) (by simp[bG])),(au (l:=[.bool (ak zz),.slice fq (ag zz) fw,.slice bu (ah dz) bv]) (i:=0) (by omega) fQ.o)⟩
theorem uF (a0 x0 y0:ByteArray)(z k k2 sg zz:Int)(n one g dz:Nat)(hk:0<k)(hsg:sg≠0)(hk2:k2≠0)  (w:World)(h1:CQ 61 #[.string a0] (.tuple #[.string x0,.string y0,.bool true]))(h2:CQ 62 #[.string x0] (.bool true))(h3:CQ 63 #[.string y0] (.bool true))(h4:∀ W,CZ 64 #[.string x0] W z)(h5:∀ W,CN 65 #[.string y0] W n)(h6:∀ W,CN 46 #[.int .u32 1] W one)(h7:∀ s1 d1 s2 d2 W,RN W (.slice s1 (ah n) d1) n→RN W (.slice s2 (ah one) d2) one→CR 66 #[.slice s1 (ah n) d1,.slice s2 (ah one) d2] W (.int .i64 k))(h8:∀ p1 c1 W,RN W (.slice p1 (ag z) c1) z.natAbs→CR 67 #[.agg #[.bool (ak z),.slice p1 (ag z) c1]] W (.int .i64 sg))(h9:∀ p1 c1 s2 d2 W,RN W (.slice p1 (ag z) c1) z.natAbs→RN W (.slice s2 (ah n) d2) n→CN 68 #[.slice p1 (ag z) c1,.slice s2 (ah n) d2] W g)(h10:∀ s1 d1 s2 d2 W,RN W (.slice s1 (ah g) d1) g→RN W (.slice s2 (ah one) d2) one→CR 66 #[.slice s1 (ah g) d1,.slice s2 (ah one) d2] W (.int .i64 k2))(h11:∀ W,CF 23 #[.int .i64 0] W zz dz)  :
 Calls Tryz.prog 44 #[.string a0] w fun e w'=>∃ p c s d,e=.returned (.tuple #[.agg #[.bool (ak zz),.slice p (ag zz) c,.slice s (ah dz) d],.bool false])∧RN w' (.slice p (ag zz) c) zz.natAbs∧RN w' (.slice s (ah dz) d) dz∧Below w.heap.size w w':=by
 obtain ⟨C1,C2,C3,C4,C5,C6,C7,C8,C9⟩:=bW h1 h2 h3 h4 h5 h6 h7 h8 h9;have C10:=hid h10;have C11:=hid h11;have k0:decide (0<k)=true:=decide_eq_true hk;have k1:0<k:=hk;clear hk;have s0:(sg==0)=false:=by rw[beq_eq_false_iff_ne];exact hsg
 have s1:¬ sg=0:=hsg;have s2:(sg != 0)=true:=by unfold bne;rw[s0];rfl
 have s3:decide (sg=0)=false:=decide_eq_false hsg;clear hsg;have q0:(k2==0)=false:=by rw[beq_eq_false_iff_ne];exact hk2
 have q1:¬ k2=0:=hk2;clear hk2 h1 h2 h3 h4 h5 h6 h7 h8 h9 h10 h11;go_enter func44,ntmps44
 go_upto_region 1 with fail
 refine ay w [(#[.bool false,.slice none 0 0,.slice none 0 0],57)] rfl ?_;rintro W0 ⟨k1,hb⟩;have rV:=hid (show Below w.heap.size w W0 from hb);have K1:=hid k1;clear k1 hb;go_wp2_with fail
 with_reducible refine(C1.o _).mono ?_
 rintro e W1 ⟨rfl,hb⟩;have K1:=hid (K1.o.below hb);have p8:=hbt rV hb;clear hb;go_wp2_with fail
 with_reducible refine(C2.o _).mono ?_
 rintro e W2 ⟨rfl,hb⟩;have K1:=hid (K1.o.below hb);have pq:=hbt p8 hb;clear hb;go_wp2_with fail
 with_reducible refine(C3.o _).mono ?_
 rintro e W3 ⟨rfl,hb⟩;have K1:=hid (K1.o.below hb);have ol:=hbt pq hb;clear hb;go_wp2_with fail
 with_reducible refine(C4.o _).mono ?_
 rintro e W4 ⟨u6,w9,rfl,wo,hb⟩;have K1:=hid (K1.o.below hb);have mi:=hbt ol hb;have RZ:=hid wo;clear hb wo;go_wp2_with fail
 with_reducible refine(C5.o _).mono ?_
 rintro e W5 ⟨wu,ww,rfl,sw,hb⟩;obtain ⟨K1,RZ⟩:=aR hb K1 RZ;have rM:=hbt mi hb;have RM:=hid sw;clear hb sw;go_upto_region 5 with fail
 refine ay W5 [(#[.bool (ak z),.slice u6 (ag z) w9,.slice wu (ah n) ww],57)] rfl ?_;have L1:=K1.o.lt;have L2:=rM.o.size;rintro W6 ⟨k2,hb⟩;have hb:Below W5.heap.size W5 W6:=hb;obtain ⟨K1,RZ,RM⟩:=bA hb K1 RZ RM;have l6:=hbt rM hb;have K2:=hid k2;clear k2 hb;go_wp2_with fail
 with_reducible refine(C6.o _).mono ?_
 rintro e W7 ⟨aX,c_6,rfl,l5,hb⟩;obtain ⟨K1,K2,RZ,RM⟩:=bD hb K1 K2 RZ RM;have ky:=hbt l6 hb;have RO:=hid l5;clear hb l5;have wy:=K2.o.cell (i:=2) rfl;go_wp2_with fail
 with_reducible refine(C7.o _ _ _ _ _ RM.o RO.o).mono ?_
 rintro e W8 ⟨rfl,hb⟩;clear wy;obtain ⟨K1,K2,RZ,RM,RO⟩:=cK hb K1 K2 RZ RM RO;have kz:=hbt ky hb;clear hb;obtain ⟨lg,wz⟩:=aO K2.o rfl rfl;go_wp2_with fail
 with_reducible refine(C8.o _ _ _ RZ.o).mono ?_
 rintro e W9 ⟨rfl,hb⟩;clear lg wz;obtain ⟨K1,K2,RZ,RM,RO⟩:=cK hb K1 K2 RZ RM RO;have kK:=hbt kz hb;clear hb;have wz:=K2.o.cell (i:=1) rfl;have wy:=K2.o.cell (i:=2) rfl;go_wp2_with fail
 with_reducible refine(C9.o _ _ _ _ _ RZ.o RM.o).mono ?_
 rintro e W10 ⟨fq,fw,rfl,lv,hb⟩;clear wz wy;obtain ⟨K1,RO⟩:=aR hb K1 RO;have fQ:=hbt kK hb;have RG:=hid lv;clear hb lv;go_wp2_with fail
 with_reducible refine(C10.o _ _ _ _ _ RG.o RO.o).mono ?_
 rintro e W11 ⟨rfl,hb⟩;have K1:=hid (K1.o.below hb);have u01:=hbt fQ hb;clear hb;go_wp2_with fail
 with_reducible refine(C11.o _).mono ?_
 rintro e W12 ⟨bM,bV,aa,af,rfl,u08,u09,hb⟩;have K1:=hid (K1.o.below hb);have u0a:=hbt u01 hb;have RQ:=hid u08;have TQ:=hid u09;clear hb u08 u09;obtain ⟨oM,oV,mf⟩:=aj K1.o rfl rfl rfl;obtain ⟨kM,kV,gy⟩:=aW K1.o;go_wp2;exact bodyPost_ret (v:=.tuple #[.agg #[.bool (ak zz),.slice bM (ag zz) bV,.slice aa (ah dz) af],.bool false]) (by simp[results,results44,go_sem,oM,oV,mf]) rfl ⟨_,_,_,_,rfl,(bE [.bool (ak zz),.slice bM (ag zz) bV,.slice aa (ah dz) af] RQ.o K1.o (by simp[cu]) (by simp[bG])),(bE [.bool (ak zz),.slice bM (ag zz) bV,.slice aa (ah dz) af] TQ.o K1.o (by simp[cu]) (by simp[bG])),(au (l:=[.bool (ak zz),.slice bM (ag zz) bV,.slice aa (ah dz) af]) (i:=0) (by omega) u0a.o)⟩
