/- texts -/
import Derived.Test.YtkiklcbhglpooaaGreatDoorMz38q
open Go.Proofs.Tryz
set_option maxRecDepth 100000
set_option maxHeartbeats 20000000
open Go.Lib (hid)
namespace Go.Proofs.YtkiklcbhglpooaaGreatDoor
open Go.RowKit Go.Gb
theorem z2X (a0 x0 y0:ByteArray)(z:Int)(n:Nat)  (w:World)(h1:CQ 68 #[.string a0] (.tuple #[.string x0,.string y0,.bool false]))(h2:CQ 69 #[.string x0] (.bool true))(h3:CQ 70 #[.string y0] (.bool true))(h4:∀ W,CZ 71 #[.string x0] W z)(h5:∀ W,CN 72 #[.string y0] W n)  :
 Calls Tryz.prog 28 #[.string a0] w fun e w'=>∃ p c s d,e=.returned (.tuple #[.agg #[.bool (ai z),.slice p (ae z) c,.slice s (ah n) d],.bool true])∧RN w' (.slice p (ae z) c) z.natAbs∧RN w' (.slice s (ah n) d) n∧Below w.heap.size w w':=by
 obtain ⟨C1,C2,C3,C4,C5⟩:=cB h1 h2 h3 h4 h5;clear h1 h2 h3 h4 h5;go_enter func28,ntmps28
 go_upto_region 1 with fail
 refine aG w [(#[.bool false,.slice none 0 0,.slice none 0 0],50)] rfl ?_;rintro W0 ⟨k1,hb⟩;have r9:=hid (show Below w.heap.size w W0 from hb);have K1:=hid k1;clear k1 hb;go_wp2_with fail
 with_reducible refine(C1.o _).mono ?_
 rintro e W1 ⟨rfl,hb⟩;have K1:=hid (K1.o.below hb);have rq:=hbt r9 hb;clear hb;go_wp2_with fail
 with_reducible refine(C2.o _).mono ?_
 rintro e W2 ⟨rfl,hb⟩;have K1:=hid (K1.o.below hb);have ru:=hbt rq hb;clear hb;go_wp2_with fail
 with_reducible refine(C3.o _).mono ?_
 rintro e W3 ⟨rfl,hb⟩;have K1:=hid (K1.o.below hb);have rM:=hbt ru hb;clear hb;go_wp2_with fail
 with_reducible refine(C4.o _).mono ?_
 rintro e W4 ⟨u6,w9,rfl,wo,hb⟩;have K1:=hid (K1.o.below hb);have pq:=hbt rM hb;have RZ:=hid wo;clear hb wo;go_wp2_with fail
 with_reducible refine(C5.o _).mono ?_
 rintro e W5 ⟨wu,ww,rfl,su,hb⟩;obtain ⟨K1,RZ⟩:=aM hb K1 RZ;have sw:=hbt pq hb;have RM:=hid su;clear hb su;go_upto_region 5 with fail
 refine aG W5 [(#[.bool (ai z),.slice u6 (ae z) w9,.slice wu (ah n) ww],50)] rfl ?_;have L1:=K1.o.lt;have L2:=sw.o.size;rintro W6 ⟨k2,hb⟩;have hb:Below W5.heap.size W5 W6:=hb;obtain ⟨K1,RZ,RM⟩:=bX hb K1 RZ RM;have ol:=hbt sw hb;have K2:=hid k2;clear k2 hb;obtain ⟨oM,sj,si⟩:=aU K2.o rfl rfl rfl;obtain ⟨rV,p8,p9⟩:=aU K1.o rfl rfl rfl;obtain ⟨l6,lg,lv⟩:=bZ K1.o;go_wp2;exact bodyPost_ret (v:=.tuple #[.agg #[.bool (ai z),.slice u6 (ae z) w9,.slice wu (ah n) ww],.bool true]) (by simp[results,results28,go_sem,rV,p8,p9]) rfl ⟨_,_,_,_,rfl,(aS [.bool (ai z),.slice u6 (ae z) w9,.slice wu (ah n) ww] RZ.o K1.o (by simp[bL]) (by simp[bi])),(aS [.bool (ai z),.slice u6 (ae z) w9,.slice wu (ah n) ww] RM.o K1.o (by simp[bL]) (by simp[bi])),(az (l:=[.bool (ai z),.slice u6 (ae z) w9,.slice wu (ah n) ww]) (i:=0) (by omega) ol.o)⟩
theorem uy (a0 x0 y0:ByteArray)(zz:Int)(dz:Nat)(sl:Bool)  (w:World)(h1:CQ 68 #[.string a0] (.tuple #[.string x0,.string y0,.bool sl]))(h2:CQ 69 #[.string x0] (.bool false))(h11:∀ W,CF 27 #[.int .i64 0] W zz dz)  :
 Calls Tryz.prog 28 #[.string a0] w fun e w'=>∃ p c s d,e=.returned (.tuple #[.agg #[.bool (ai zz),.slice p (ae zz) c,.slice s (ah dz) d],.bool false])∧RN w' (.slice p (ae zz) c) zz.natAbs∧RN w' (.slice s (ah dz) d) dz∧Below w.heap.size w w':=by
 obtain ⟨C1,C2,C11⟩:=av h1 h2 h11;clear h1 h2 h11;go_enter func28,ntmps28
 go_upto_region 1 with fail
 refine aG w [(#[.bool false,.slice none 0 0,.slice none 0 0],50)] rfl ?_;rintro W0 ⟨k1,hb⟩;have r9:=hid (show Below w.heap.size w W0 from hb);have K1:=hid k1;clear k1 hb;go_wp2_with fail
 with_reducible refine(C1.o _).mono ?_
 rintro e W1 ⟨rfl,hb⟩;have K1:=hid (K1.o.below hb);have rq:=hbt r9 hb;clear hb;go_wp2_with fail
 with_reducible refine(C2.o _).mono ?_
 rintro e W2 ⟨rfl,hb⟩;have K1:=hid (K1.o.below hb);have ru:=hbt rq hb;clear hb;go_wp2_with fail
 with_reducible refine(C11.o _).mono ?_
 rintro e W3 ⟨kV,gy,gF,fo,rfl,bn,bq,hb⟩;have K1:=hid (K1.o.below hb);have rM:=hbt ru hb;have RQ:=hid bn;have TQ:=hid bq;clear hb bn bq;obtain ⟨rV,p8,p9⟩:=aU K1.o rfl rfl rfl;obtain ⟨l6,lg,lv⟩:=bZ K1.o;go_wp2;exact bodyPost_ret (v:=.tuple #[.agg #[.bool (ai zz),.slice kV (ae zz) gy,.slice gF (ah dz) fo],.bool false]) (by simp[results,results28,go_sem,rV,p8,p9]) rfl ⟨_,_,_,_,rfl,(aS [.bool (ai zz),.slice kV (ae zz) gy,.slice gF (ah dz) fo] RQ.o K1.o (by simp[bL]) (by simp[bi])),(aS [.bool (ai zz),.slice kV (ae zz) gy,.slice gF (ah dz) fo] TQ.o K1.o (by simp[bL]) (by simp[bi])),(az (l:=[.bool (ai zz),.slice kV (ae zz) gy,.slice gF (ah dz) fo]) (i:=0) (by omega) rM.o)⟩
theorem z1c (a0 x0 y0:ByteArray)(zz:Int)(dz:Nat)(sl:Bool)  (w:World)(h1:CQ 68 #[.string a0] (.tuple #[.string x0,.string y0,.bool sl]))(h2:CQ 69 #[.string x0] (.bool true))(h3:CQ 70 #[.string y0] (.bool false))(h11:∀ W,CF 27 #[.int .i64 0] W zz dz)  :
 Calls Tryz.prog 28 #[.string a0] w fun e w'=>∃ p c s d,e=.returned (.tuple #[.agg #[.bool (ai zz),.slice p (ae zz) c,.slice s (ah dz) d],.bool false])∧RN w' (.slice p (ae zz) c) zz.natAbs∧RN w' (.slice s (ah dz) d) dz∧Below w.heap.size w w':=by
 obtain ⟨C1,C2,C3,C11⟩:=aP h1 h2 h3 h11;clear h1 h2 h3 h11;go_enter func28,ntmps28
 go_upto_region 1 with fail
 refine aG w [(#[.bool false,.slice none 0 0,.slice none 0 0],50)] rfl ?_;rintro W0 ⟨k1,hb⟩;have r9:=hid (show Below w.heap.size w W0 from hb);have K1:=hid k1;clear k1 hb;go_wp2_with fail
 with_reducible refine(C1.o _).mono ?_
 rintro e W1 ⟨rfl,hb⟩;have K1:=hid (K1.o.below hb);have rq:=hbt r9 hb;clear hb;go_wp2_with fail
 with_reducible refine(C2.o _).mono ?_
 rintro e W2 ⟨rfl,hb⟩;have K1:=hid (K1.o.below hb);have ru:=hbt rq hb;clear hb;go_wp2_with fail
 with_reducible refine(C3.o _).mono ?_
 rintro e W3 ⟨rfl,hb⟩;have K1:=hid (K1.o.below hb);have rM:=hbt ru hb;clear hb;go_wp2_with fail
 with_reducible refine(C11.o _).mono ?_
 rintro e W4 ⟨u6,w9,fq,fQ,rfl,wo,bu,hb⟩;have K1:=hid (K1.o.below hb);have pq:=hbt rM hb;have RQ:=hid wo;have TQ:=hid bu;clear hb wo bu;obtain ⟨rV,p8,p9⟩:=aU K1.o rfl rfl rfl;obtain ⟨l6,lg,lv⟩:=bZ K1.o;go_wp2;exact bodyPost_ret (v:=.tuple #[.agg #[.bool (ai zz),.slice u6 (ae zz) w9,.slice fq (ah dz) fQ],.bool false]) (by simp[results,results28,go_sem,rV,p8,p9]) rfl ⟨_,_,_,_,rfl,(aS [.bool (ai zz),.slice u6 (ae zz) w9,.slice fq (ah dz) fQ] RQ.o K1.o (by simp[bL]) (by simp[bi])),(aS [.bool (ai zz),.slice u6 (ae zz) w9,.slice fq (ah dz) fQ] TQ.o K1.o (by simp[bL]) (by simp[bi])),(az (l:=[.bool (ai zz),.slice u6 (ae zz) w9,.slice fq (ah dz) fQ]) (i:=0) (by omega) pq.o)⟩
theorem z1b (a0 x0 y0:ByteArray)(z k sg:Int)(n one g:Nat)(hk:0<k)(hsg:sg≠0)  (w:World)(h1:CQ 68 #[.string a0] (.tuple #[.string x0,.string y0,.bool true]))(h2:CQ 69 #[.string x0] (.bool true))(h3:CQ 70 #[.string y0] (.bool true))(h4:∀ W,CZ 71 #[.string x0] W z)(h5:∀ W,CN 72 #[.string y0] W n)(h6:∀ W,CN 67 #[.int .u32 1] W one)(h7:∀ s1 d1 s2 d2 W,RN W (.slice s1 (ah n) d1) n→RN W (.slice s2 (ah one) d2) one→CR 73 #[.slice s1 (ah n) d1,.slice s2 (ah one) d2] W (.int .i64 k))(h8:∀ p1 c1 W,RN W (.slice p1 (ae z) c1) z.natAbs→CR 74 #[.agg #[.bool (ai z),.slice p1 (ae z) c1]] W (.int .i64 sg))(h9:∀ p1 c1 s2 d2 W,RN W (.slice p1 (ae z) c1) z.natAbs→RN W (.slice s2 (ah n) d2) n→CN 75 #[.slice p1 (ae z) c1,.slice s2 (ah n) d2] W g)(h10:∀ s1 d1 s2 d2 W,RN W (.slice s1 (ah g) d1) g→RN W (.slice s2 (ah one) d2) one→CR 73 #[.slice s1 (ah g) d1,.slice s2 (ah one) d2] W (.int .i64 0))  :
 Calls Tryz.prog 28 #[.string a0] w fun e w'=>∃ p c s d,e=.returned (.tuple #[.agg #[.bool (ai z),.slice p (ae z) c,.slice s (ah n) d],.bool true])∧RN w' (.slice p (ae z) c) z.natAbs∧RN w' (.slice s (ah n) d) n∧Below w.heap.size w w':=by
 obtain ⟨C1,C2,C3,C4,C5,C6,C7,C8,C9⟩:=bW h1 h2 h3 h4 h5 h6 h7 h8 h9;have C10:=hid h10;have k0:decide (0<k)=true:=decide_eq_true hk;have k1:0<k:=hk;clear hk;have s0:(sg==0)=false:=by rw[beq_eq_false_iff_ne];exact hsg
 have s1:¬ sg=0:=hsg;have s2:(sg != 0)=true:=by unfold bne;rw[s0];rfl
 have s3:decide (sg=0)=false:=decide_eq_false hsg;clear hsg h1 h2 h3 h4 h5 h6 h7 h8 h9 h10;go_enter func28,ntmps28
 go_upto_region 1 with fail
 refine aG w [(#[.bool false,.slice none 0 0,.slice none 0 0],50)] rfl ?_;rintro W0 ⟨k1,hb⟩;have r9:=hid (show Below w.heap.size w W0 from hb);have K1:=hid k1;clear k1 hb;go_wp2_with fail
 with_reducible refine(C1.o _).mono ?_
 rintro e W1 ⟨rfl,hb⟩;have K1:=hid (K1.o.below hb);have rq:=hbt r9 hb;clear hb;go_wp2_with fail
 with_reducible refine(C2.o _).mono ?_
 rintro e W2 ⟨rfl,hb⟩;have K1:=hid (K1.o.below hb);have ru:=hbt rq hb;clear hb;go_wp2_with fail
 with_reducible refine(C3.o _).mono ?_
 rintro e W3 ⟨rfl,hb⟩;have K1:=hid (K1.o.below hb);have rM:=hbt ru hb;clear hb;go_wp2_with fail
 with_reducible refine(C4.o _).mono ?_
 rintro e W4 ⟨u6,w9,rfl,wo,hb⟩;have K1:=hid (K1.o.below hb);have pq:=hbt rM hb;have RZ:=hid wo;clear hb wo;go_wp2_with fail
 with_reducible refine(C5.o _).mono ?_
 rintro e W5 ⟨wu,ww,rfl,su,hb⟩;obtain ⟨K1,RZ⟩:=aM hb K1 RZ;have sw:=hbt pq hb;have RM:=hid su;clear hb su;go_upto_region 5 with fail
 refine aG W5 [(#[.bool (ai z),.slice u6 (ae z) w9,.slice wu (ah n) ww],50)] rfl ?_;have L1:=K1.o.lt;have L2:=sw.o.size;rintro W6 ⟨k2,hb⟩;have hb:Below W5.heap.size W5 W6:=hb;obtain ⟨K1,RZ,RM⟩:=bX hb K1 RZ RM;have ol:=hbt sw hb;have K2:=hid k2;clear k2 hb;go_wp2_with fail
 with_reducible refine(C6.o _).mono ?_
 rintro e W7 ⟨cu,cO,rfl,pu,hb⟩;obtain ⟨K1,K2,RZ,RM⟩:=bD hb K1 K2 RZ RM;have mf:=hbt ol hb;have RO:=hid pu;clear hb pu;have si:=K2.o.cell (i:=2) rfl;go_wp2_with fail
 with_reducible refine(C7.o _ _ _ _ _ RM.o RO.o).mono ?_
 rintro e W8 ⟨rfl,hb⟩;clear si;obtain ⟨K1,K2,RZ,RM,RO⟩:=gm hb K1 K2 RZ RM RO;have mi:=hbt mf hb;clear hb;obtain ⟨oM,sj⟩:=ay K2.o rfl rfl;go_wp2_with fail
 with_reducible refine(C8.o _ _ _ RZ.o).mono ?_
 rintro e W9 ⟨rfl,hb⟩;clear oM sj;obtain ⟨K1,K2,RZ,RM,RO⟩:=gm hb K1 K2 RZ RM RO;have l5:=hbt mi hb;clear hb;have sj:=K2.o.cell (i:=1) rfl;have si:=K2.o.cell (i:=2) rfl;go_wp2_with fail
 with_reducible refine(C9.o _ _ _ _ _ RZ.o RM.o).mono ?_
 rintro e W10 ⟨kz,kM,rfl,oV,hb⟩;clear sj si;obtain ⟨K1,K2,RZ,RM,RO⟩:=gm hb K1 K2 RZ RM RO;have kS:=hbt l5 hb;have RG:=hid oV;clear hb oV;go_wp2_with fail
 with_reducible refine(C10.o _ _ _ _ _ RG.o RO.o).mono ?_
 rintro e W11 ⟨rfl,hb⟩;obtain ⟨K1,K2,RZ,RM⟩:=bD hb K1 K2 RZ RM;have bg:=hbt kS hb;clear hb;obtain ⟨oM,sj,si⟩:=aU K2.o rfl rfl rfl;obtain ⟨rV,p8,p9⟩:=aU K1.o rfl rfl rfl;obtain ⟨l6,lg,lv⟩:=bZ K1.o;go_wp2;exact bodyPost_ret (v:=.tuple #[.agg #[.bool (ai z),.slice u6 (ae z) w9,.slice wu (ah n) ww],.bool true]) (by simp[results,results28,go_sem,rV,p8,p9]) rfl ⟨_,_,_,_,rfl,(aS [.bool (ai z),.slice u6 (ae z) w9,.slice wu (ah n) ww] RZ.o K1.o (by simp[bL]) (by simp[bi])),(aS [.bool (ai z),.slice u6 (ae z) w9,.slice wu (ah n) ww] RM.o K1.o (by simp[bL]) (by simp[bi])),(az (l:=[.bool (ai z),.slice u6 (ae z) w9,.slice wu (ah n) ww]) (i:=0) (by omega) bg.o)⟩
theorem zh (a0 x0 y0:ByteArray)(z k zz:Int)(n one dz:Nat)(hk:k≤0)  (w:World)(h1:CQ 68 #[.string a0] (.tuple #[.string x0,.string y0,.bool true]))(h2:CQ 69 #[.string x0] (.bool true))(h3:CQ 70 #[.string y0] (.bool true))(h4:∀ W,CZ 71 #[.string x0] W z)(h5:∀ W,CN 72 #[.string y0] W n)(h6:∀ W,CN 67 #[.int .u32 1] W one)(h7:∀ s1 d1 s2 d2 W,RN W (.slice s1 (ah n) d1) n→RN W (.slice s2 (ah one) d2) one→CR 73 #[.slice s1 (ah n) d1,.slice s2 (ah one) d2] W (.int .i64 k))(h11:∀ W,CF 27 #[.int .i64 0] W zz dz)  :
 Calls Tryz.prog 28 #[.string a0] w fun e w'=>∃ p c s d,e=.returned (.tuple #[.agg #[.bool (ai zz),.slice p (ae zz) c,.slice s (ah dz) d],.bool false])∧RN w' (.slice p (ae zz) c) zz.natAbs∧RN w' (.slice s (ah dz) d) dz∧Below w.heap.size w w':=by
 obtain ⟨C1,C2,C3,C4,C5,C6,C7,C11⟩:=jU h1 h2 h3 h4 h5 h6 h7 h11;have k0:decide (0<k)=false:=decide_eq_false (by omega);have k1:k≤0:=hk;clear hk h1 h2 h3 h4 h5 h6 h7 h11;go_enter func28,ntmps28
 go_upto_region 1 with fail
 refine aG w [(#[.bool false,.slice none 0 0,.slice none 0 0],50)] rfl ?_;rintro W0 ⟨k1,hb⟩;have r9:=hid (show Below w.heap.size w W0 from hb);have K1:=hid k1;clear k1 hb;go_wp2_with fail
 with_reducible refine(C1.o _).mono ?_
 rintro e W1 ⟨rfl,hb⟩;have K1:=hid (K1.o.below hb);have rq:=hbt r9 hb;clear hb;go_wp2_with fail
 with_reducible refine(C2.o _).mono ?_
 rintro e W2 ⟨rfl,hb⟩;have K1:=hid (K1.o.below hb);have ru:=hbt rq hb;clear hb;go_wp2_with fail
 with_reducible refine(C3.o _).mono ?_
 rintro e W3 ⟨rfl,hb⟩;have K1:=hid (K1.o.below hb);have rM:=hbt ru hb;clear hb;go_wp2_with fail
 with_reducible refine(C4.o _).mono ?_
 rintro e W4 ⟨u6,w9,rfl,wo,hb⟩;have K1:=hid (K1.o.below hb);have pq:=hbt rM hb;have RZ:=hid wo;clear hb wo;go_wp2_with fail
 with_reducible refine(C5.o _).mono ?_
 rintro e W5 ⟨wu,ww,rfl,su,hb⟩;have K1:=hid (K1.o.below hb);have sw:=hbt pq hb;have RM:=hid su;clear hb su;go_upto_region 5 with fail
 refine aG W5 [(#[.bool (ai z),.slice u6 (ae z) w9,.slice wu (ah n) ww],50)] rfl ?_;have L1:=K1.o.lt;have L2:=sw.o.size;rintro W6 ⟨k2,hb⟩;have hb:Below W5.heap.size W5 W6:=hb;obtain ⟨K1,RM⟩:=aM hb K1 RM;have ol:=hbt sw hb;have K2:=hid k2;clear k2 hb;go_wp2_with fail
 with_reducible refine(C6.o _).mono ?_
 rintro e W7 ⟨cu,cO,rfl,pu,hb⟩;obtain ⟨K1,K2,RM⟩:=bX hb K1 K2 RM;have mf:=hbt ol hb;have RO:=hid pu;clear hb pu;have si:=K2.o.cell (i:=2) rfl;go_wp2_with fail
 with_reducible refine(C7.o _ _ _ _ _ RM.o RO.o).mono ?_
 rintro e W8 ⟨rfl,hb⟩;clear si;obtain ⟨K1,K2⟩:=aM hb K1 K2;have mi:=hbt mf hb;clear hb;obtain ⟨oM,sj,si⟩:=aU K2.o rfl rfl rfl;go_wp2_with fail
 with_reducible refine(C11.o _).mono ?_
 rintro e W9 ⟨ed,ek,eH,eX,rfl,bv,bM,hb⟩;clear oM sj si;have K1:=hid (K1.o.below hb);have l5:=hbt mi hb;have RQ:=hid bv;have TQ:=hid bM;clear hb bv bM;obtain ⟨rV,p8,p9⟩:=aU K1.o rfl rfl rfl;obtain ⟨l6,lg,lv⟩:=bZ K1.o;go_wp2;exact bodyPost_ret (v:=.tuple #[.agg #[.bool (ai zz),.slice ed (ae zz) ek,.slice eH (ah dz) eX],.bool false]) (by simp[results,results28,go_sem,rV,p8,p9]) rfl ⟨_,_,_,_,rfl,(aS [.bool (ai zz),.slice ed (ae zz) ek,.slice eH (ah dz) eX] RQ.o K1.o (by simp[bL]) (by simp[bi])),(aS [.bool (ai zz),.slice ed (ae zz) ek,.slice eH (ah dz) eX] TQ.o K1.o (by simp[bL]) (by simp[bi])),(az (l:=[.bool (ai zz),.slice ed (ae zz) ek,.slice eH (ah dz) eX]) (i:=0) (by omega) l5.o)⟩
theorem z1a (a0 x0 y0:ByteArray)(z k zz:Int)(n one dz:Nat)(hk:0<k)  (w:World)(h1:CQ 68 #[.string a0] (.tuple #[.string x0,.string y0,.bool true]))(h2:CQ 69 #[.string x0] (.bool true))(h3:CQ 70 #[.string y0] (.bool true))(h4:∀ W,CZ 71 #[.string x0] W z)(h5:∀ W,CN 72 #[.string y0] W n)(h6:∀ W,CN 67 #[.int .u32 1] W one)(h7:∀ s1 d1 s2 d2 W,RN W (.slice s1 (ah n) d1) n→RN W (.slice s2 (ah one) d2) one→CR 73 #[.slice s1 (ah n) d1,.slice s2 (ah one) d2] W (.int .i64 k))(h8:∀ p1 c1 W,RN W (.slice p1 (ae z) c1) z.natAbs→CR 74 #[.agg #[.bool (ai z),.slice p1 (ae z) c1]] W (.int .i64 0))(h11:∀ W,CF 27 #[.int .i64 0] W zz dz)  :
 Calls Tryz.prog 28 #[.string a0] w fun e w'=>∃ p c s d,e=.returned (.tuple #[.agg #[.bool (ai zz),.slice p (ae zz) c,.slice s (ah dz) d],.bool false])∧RN w' (.slice p (ae zz) c) zz.natAbs∧RN w' (.slice s (ah dz) d) dz∧Below w.heap.size w w':=by
 obtain ⟨C1,C2,C3,C4,C5,C6,C7,C8,C11⟩:=bW h1 h2 h3 h4 h5 h6 h7 h8 h11;have k0:decide (0<k)=true:=decide_eq_true hk;have k1:0<k:=hk;clear hk h1 h2 h3 h4 h5 h6 h7 h8 h11;go_enter func28,ntmps28
 go_upto_region 1 with fail
 refine aG w [(#[.bool false,.slice none 0 0,.slice none 0 0],50)] rfl ?_;rintro W0 ⟨k1,hb⟩;have r9:=hid (show Below w.heap.size w W0 from hb);have K1:=hid k1;clear k1 hb;go_wp2_with fail
 with_reducible refine(C1.o _).mono ?_
 rintro e W1 ⟨rfl,hb⟩;have K1:=hid (K1.o.below hb);have rq:=hbt r9 hb;clear hb;go_wp2_with fail
 with_reducible refine(C2.o _).mono ?_
 rintro e W2 ⟨rfl,hb⟩;have K1:=hid (K1.o.below hb);have ru:=hbt rq hb;clear hb;go_wp2_with fail
 with_reducible refine(C3.o _).mono ?_
 rintro e W3 ⟨rfl,hb⟩;have K1:=hid (K1.o.below hb);have rM:=hbt ru hb;clear hb;go_wp2_with fail
 with_reducible refine(C4.o _).mono ?_
 rintro e W4 ⟨u6,w9,rfl,wo,hb⟩;have K1:=hid (K1.o.below hb);have pq:=hbt rM hb;have RZ:=hid wo;clear hb wo;go_wp2_with fail
 with_reducible refine(C5.o _).mono ?_
 rintro e W5 ⟨wu,ww,rfl,su,hb⟩;obtain ⟨K1,RZ⟩:=aM hb K1 RZ;have sw:=hbt pq hb;have RM:=hid su;clear hb su;go_upto_region 5 with fail
 refine aG W5 [(#[.bool (ai z),.slice u6 (ae z) w9,.slice wu (ah n) ww],50)] rfl ?_;have L1:=K1.o.lt;have L2:=sw.o.size;rintro W6 ⟨k2,hb⟩;have hb:Below W5.heap.size W5 W6:=hb;obtain ⟨K1,RZ,RM⟩:=bX hb K1 RZ RM;have ol:=hbt sw hb;have K2:=hid k2;clear k2 hb;go_wp2_with fail
 with_reducible refine(C6.o _).mono ?_
 rintro e W7 ⟨cu,cO,rfl,pu,hb⟩;obtain ⟨K1,K2,RZ,RM⟩:=bD hb K1 K2 RZ RM;have mf:=hbt ol hb;have RO:=hid pu;clear hb pu;have si:=K2.o.cell (i:=2) rfl;go_wp2_with fail
 with_reducible refine(C7.o _ _ _ _ _ RM.o RO.o).mono ?_
 rintro e W8 ⟨rfl,hb⟩;clear si;obtain ⟨K1,K2,RZ⟩:=bX hb K1 K2 RZ;have mi:=hbt mf hb;clear hb;obtain ⟨oM,sj⟩:=ay K2.o rfl rfl;go_wp2_with fail
 with_reducible refine(C8.o _ _ _ RZ.o).mono ?_
 rintro e W9 ⟨rfl,hb⟩;clear oM sj;obtain ⟨K1,K2⟩:=aM hb K1 K2;have l5:=hbt mi hb;clear hb;have sj:=K2.o.cell (i:=1) rfl;have si:=K2.o.cell (i:=2) rfl;go_wp2_with fail
 with_reducible refine(C11.o _).mono ?_
 rintro e W10 ⟨kz,kM,d9,dn,rfl,oV,bS,hb⟩;clear sj si;have K1:=hid (K1.o.below hb);have kS:=hbt l5 hb;have RQ:=hid oV;have TQ:=hid bS;clear hb oV bS;obtain ⟨rV,p8,p9⟩:=aU K1.o rfl rfl rfl;obtain ⟨l6,lg,lv⟩:=bZ K1.o;go_wp2;exact bodyPost_ret (v:=.tuple #[.agg #[.bool (ai zz),.slice kz (ae zz) kM,.slice d9 (ah dz) dn],.bool false]) (by simp[results,results28,go_sem,rV,p8,p9]) rfl ⟨_,_,_,_,rfl,(aS [.bool (ai zz),.slice kz (ae zz) kM,.slice d9 (ah dz) dn] RQ.o K1.o (by simp[bL]) (by simp[bi])),(aS [.bool (ai zz),.slice kz (ae zz) kM,.slice d9 (ah dz) dn] TQ.o K1.o (by simp[bL]) (by simp[bi])),(az (l:=[.bool (ai zz),.slice kz (ae zz) kM,.slice d9 (ah dz) dn]) (i:=0) (by omega) kS.o)⟩
theorem vS (a0 x0 y0:ByteArray)(z k k2 sg zz:Int)(n one g dz:Nat)(hk:0<k)(hsg:sg≠0)(hk2:k2≠0)  (w:World)(h1:CQ 68 #[.string a0] (.tuple #[.string x0,.string y0,.bool true]))(h2:CQ 69 #[.string x0] (.bool true))(h3:CQ 70 #[.string y0] (.bool true))(h4:∀ W,CZ 71 #[.string x0] W z)(h5:∀ W,CN 72 #[.string y0] W n)(h6:∀ W,CN 67 #[.int .u32 1] W one)(h7:∀ s1 d1 s2 d2 W,RN W (.slice s1 (ah n) d1) n→RN W (.slice s2 (ah one) d2) one→CR 73 #[.slice s1 (ah n) d1,.slice s2 (ah one) d2] W (.int .i64 k))(h8:∀ p1 c1 W,RN W (.slice p1 (ae z) c1) z.natAbs→CR 74 #[.agg #[.bool (ai z),.slice p1 (ae z) c1]] W (.int .i64 sg))(h9:∀ p1 c1 s2 d2 W,RN W (.slice p1 (ae z) c1) z.natAbs→RN W (.slice s2 (ah n) d2) n→CN 75 #[.slice p1 (ae z) c1,.slice s2 (ah n) d2] W g)(h10:∀ s1 d1 s2 d2 W,RN W (.slice s1 (ah g) d1) g→RN W (.slice s2 (ah one) d2) one→CR 73 #[.slice s1 (ah g) d1,.slice s2 (ah one) d2] W (.int .i64 k2))(h11:∀ W,CF 27 #[.int .i64 0] W zz dz)  :
 Calls Tryz.prog 28 #[.string a0] w fun e w'=>∃ p c s d,e=.returned (.tuple #[.agg #[.bool (ai zz),.slice p (ae zz) c,.slice s (ah dz) d],.bool false])∧RN w' (.slice p (ae zz) c) zz.natAbs∧RN w' (.slice s (ah dz) d) dz∧Below w.heap.size w w':=by
 obtain ⟨C1,C2,C3,C4,C5,C6,C7,C8,C9⟩:=bW h1 h2 h3 h4 h5 h6 h7 h8 h9;have C10:=hid h10;have C11:=hid h11;have k0:decide (0<k)=true:=decide_eq_true hk;have k1:0<k:=hk;clear hk;have s0:(sg==0)=false:=by rw[beq_eq_false_iff_ne];exact hsg
 have s1:¬ sg=0:=hsg;have s2:(sg != 0)=true:=by unfold bne;rw[s0];rfl
 have s3:decide (sg=0)=false:=decide_eq_false hsg;clear hsg;have q0:(k2==0)=false:=by rw[beq_eq_false_iff_ne];exact hk2
 have q1:¬ k2=0:=hk2;clear hk2 h1 h2 h3 h4 h5 h6 h7 h8 h9 h10 h11;go_enter func28,ntmps28
 go_upto_region 1 with fail
 refine aG w [(#[.bool false,.slice none 0 0,.slice none 0 0],50)] rfl ?_;rintro W0 ⟨k1,hb⟩;have r9:=hid (show Below w.heap.size w W0 from hb);have K1:=hid k1;clear k1 hb;go_wp2_with fail
 with_reducible refine(C1.o _).mono ?_
 rintro e W1 ⟨rfl,hb⟩;have K1:=hid (K1.o.below hb);have rq:=hbt r9 hb;clear hb;go_wp2_with fail
 with_reducible refine(C2.o _).mono ?_
 rintro e W2 ⟨rfl,hb⟩;have K1:=hid (K1.o.below hb);have ru:=hbt rq hb;clear hb;go_wp2_with fail
 with_reducible refine(C3.o _).mono ?_
 rintro e W3 ⟨rfl,hb⟩;have K1:=hid (K1.o.below hb);have rM:=hbt ru hb;clear hb;go_wp2_with fail
 with_reducible refine(C4.o _).mono ?_
 rintro e W4 ⟨u6,w9,rfl,wo,hb⟩;have K1:=hid (K1.o.below hb);have pq:=hbt rM hb;have RZ:=hid wo;clear hb wo;go_wp2_with fail
 with_reducible refine(C5.o _).mono ?_
 rintro e W5 ⟨wu,ww,rfl,su,hb⟩;obtain ⟨K1,RZ⟩:=aM hb K1 RZ;have sw:=hbt pq hb;have RM:=hid su;clear hb su;go_upto_region 5 with fail
 refine aG W5 [(#[.bool (ai z),.slice u6 (ae z) w9,.slice wu (ah n) ww],50)] rfl ?_;have L1:=K1.o.lt;have L2:=sw.o.size;rintro W6 ⟨k2,hb⟩;have hb:Below W5.heap.size W5 W6:=hb;obtain ⟨K1,RZ,RM⟩:=bX hb K1 RZ RM;have ol:=hbt sw hb;have K2:=hid k2;clear k2 hb;go_wp2_with fail
 with_reducible refine(C6.o _).mono ?_
 rintro e W7 ⟨cu,cO,rfl,pu,hb⟩;obtain ⟨K1,K2,RZ,RM⟩:=bD hb K1 K2 RZ RM;have mf:=hbt ol hb;have RO:=hid pu;clear hb pu;have si:=K2.o.cell (i:=2) rfl;go_wp2_with fail
 with_reducible refine(C7.o _ _ _ _ _ RM.o RO.o).mono ?_
 rintro e W8 ⟨rfl,hb⟩;clear si;obtain ⟨K1,K2,RZ,RM,RO⟩:=gm hb K1 K2 RZ RM RO;have mi:=hbt mf hb;clear hb;obtain ⟨oM,sj⟩:=ay K2.o rfl rfl;go_wp2_with fail
 with_reducible refine(C8.o _ _ _ RZ.o).mono ?_
 rintro e W9 ⟨rfl,hb⟩;clear oM sj;obtain ⟨K1,K2,RZ,RM,RO⟩:=gm hb K1 K2 RZ RM RO;have l5:=hbt mi hb;clear hb;have sj:=K2.o.cell (i:=1) rfl;have si:=K2.o.cell (i:=2) rfl;go_wp2_with fail
 with_reducible refine(C9.o _ _ _ _ _ RZ.o RM.o).mono ?_
 rintro e W10 ⟨kz,kM,rfl,oV,hb⟩;clear sj si;obtain ⟨K1,RO⟩:=aM hb K1 RO;have kS:=hbt l5 hb;have RG:=hid oV;clear hb oV;go_wp2_with fail
 with_reducible refine(C10.o _ _ _ _ _ RG.o RO.o).mono ?_
 rintro e W11 ⟨rfl,hb⟩;have K1:=hid (K1.o.below hb);have bg:=hbt kS hb;clear hb;go_wp2_with fail
 with_reducible refine(C11.o _).mono ?_
 rintro e W12 ⟨dx,dP,dX,dY,rfl,bV,aa,hb⟩;have K1:=hid (K1.o.below hb);have af:=hbt bg hb;have RQ:=hid bV;have TQ:=hid aa;clear hb bV aa;obtain ⟨rV,p8,p9⟩:=aU K1.o rfl rfl rfl;obtain ⟨l6,lg,lv⟩:=bZ K1.o;go_wp2;exact bodyPost_ret (v:=.tuple #[.agg #[.bool (ai zz),.slice dx (ae zz) dP,.slice dX (ah dz) dY],.bool false]) (by simp[results,results28,go_sem,rV,p8,p9]) rfl ⟨_,_,_,_,rfl,(aS [.bool (ai zz),.slice dx (ae zz) dP,.slice dX (ah dz) dY] RQ.o K1.o (by simp[bL]) (by simp[bi])),(aS [.bool (ai zz),.slice dx (ae zz) dP,.slice dX (ah dz) dY] TQ.o K1.o (by simp[bL]) (by simp[bi])),(az (l:=[.bool (ai zz),.slice dx (ae zz) dP,.slice dX (ah dz) dY]) (i:=0) (by omega) af.o)⟩
