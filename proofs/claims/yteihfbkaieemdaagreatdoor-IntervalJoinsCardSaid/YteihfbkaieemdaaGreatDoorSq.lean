/- texts -/
import Derived.Test.YteihfbkaieemdaaGreatDoorMz31q
open Go.Proofs.Tryz
set_option maxRecDepth 100000
set_option maxHeartbeats 20000000
open Go.Lib (hid)
namespace Go.Proofs.YteihfbkaieemdaaGreatDoor
open Go.RowKit Go.Gb
theorem z2z (a0 x0 y0:ByteArray)(z:Int)(n:Nat)  (w:World)(h1:CQ 104 #[.string a0] (.tuple #[.string x0,.string y0,.bool false]))(h2:CQ 105 #[.string x0] (.bool true))(h3:CQ 106 #[.string y0] (.bool true))(h4:∀ W,CZ 107 #[.string x0] W z)(h5:∀ W,CN 108 #[.string y0] W n)  :
 Calls Tryz.prog 71 #[.string a0] w fun e w'=>∃ p c s d,e=.returned (.tuple #[.agg #[.bool (ah z),.slice p (aa z) c,.slice s (ag n) d],.bool true])∧RN w' (.slice p (aa z) c) z.natAbs∧RN w' (.slice s (ag n) d) n∧Below w.heap.size w w':=by
 obtain ⟨C1,C2,C3,C4,C5⟩:=bI h1 h2 h3 h4 h5;clear h1 h2 h3 h4 h5;go_enter func71,ntmps71
 go_upto_region 1 with fail
 refine az w [(#[.bool false,.slice none 0 0,.slice none 0 0],54)] rfl ?_;rintro W0 ⟨k1,hb⟩;have r9:=hid (show Below w.heap.size w W0 from hb);have K1:=hid k1;clear k1 hb;go_wp2_with fail
 with_reducible refine(C1.o _).mono ?_
 rintro e W1 ⟨rfl,hb⟩;have K1:=hid (K1.o.below hb);have rq:=hbt r9 hb;clear hb;go_wp2_with fail
 with_reducible refine(C2.o _).mono ?_
 rintro e W2 ⟨rfl,hb⟩;have K1:=hid (K1.o.below hb);have ru:=hbt rq hb;clear hb;go_wp2_with fail
 with_reducible refine(C3.o _).mono ?_
 rintro e W3 ⟨rfl,hb⟩;have K1:=hid (K1.o.below hb);have rM:=hbt ru hb;clear hb;go_wp2_with fail
 with_reducible refine(C4.o _).mono ?_
 rintro e W4 ⟨u6,w9,rfl,wm,hb⟩;have K1:=hid (K1.o.below hb);have pq:=hbt rM hb;have RZ:=hid wm;clear hb wm;go_wp2_with fail
 with_reducible refine(C5.o _).mono ?_
 rintro e W5 ⟨wo,wu,rfl,sj,hb⟩;obtain ⟨K1,RZ⟩:=aP hb K1 RZ;have sw:=hbt pq hb;have RM:=hid sj;clear hb sj;go_upto_region 5 with fail
 refine az W5 [(#[.bool (ah z),.slice u6 (aa z) w9,.slice wo (ag n) wu],54)] rfl ?_;have L1:=K1.o.lt;have L2:=sw.o.size;rintro W6 ⟨k2,hb⟩;have hb:Below W5.heap.size W5 W6:=hb;obtain ⟨K1,RZ,RM⟩:=bR hb K1 RZ RM;have ol:=hbt sw hb;have K2:=hid k2;clear k2 hb;obtain ⟨oM,si,ww⟩:=aS K2.o rfl rfl rfl;obtain ⟨rV,p8,p9⟩:=aS K1.o rfl rfl rfl;obtain ⟨lg,lm,lv⟩:=cB K1.o;go_wp2;exact bodyPost_ret (v:=.tuple #[.agg #[.bool (ah z),.slice u6 (aa z) w9,.slice wo (ag n) wu],.bool true]) (by simp[results,results71,go_sem,rV,p8,p9]) rfl ⟨_,_,_,_,rfl,(bi [.bool (ah z),.slice u6 (aa z) w9,.slice wo (ag n) wu] RZ.o K1.o (by simp[bL]) (by simp[bA])),(bi [.bool (ah z),.slice u6 (aa z) w9,.slice wo (ag n) wu] RM.o K1.o (by simp[bL]) (by simp[bA])),(ay (l:=[.bool (ah z),.slice u6 (aa z) w9,.slice wo (ag n) wu]) (i:=0) (by omega) ol.o)⟩
theorem u7 (a0 x0 y0:ByteArray)(zz:Int)(dz:Nat)(sl:Bool)  (w:World)(h1:CQ 104 #[.string a0] (.tuple #[.string x0,.string y0,.bool sl]))(h2:CQ 105 #[.string x0] (.bool false))(h11:∀ W,CF 50 #[.int .i64 0] W zz dz)  :
 Calls Tryz.prog 71 #[.string a0] w fun e w'=>∃ p c s d,e=.returned (.tuple #[.agg #[.bool (ah zz),.slice p (aa zz) c,.slice s (ag dz) d],.bool false])∧RN w' (.slice p (aa zz) c) zz.natAbs∧RN w' (.slice s (ag dz) d) dz∧Below w.heap.size w w':=by
 obtain ⟨C1,C2,C11⟩:=ak h1 h2 h11;clear h1 h2 h11;go_enter func71,ntmps71
 go_upto_region 1 with fail
 refine az w [(#[.bool false,.slice none 0 0,.slice none 0 0],54)] rfl ?_;rintro W0 ⟨k1,hb⟩;have r9:=hid (show Below w.heap.size w W0 from hb);have K1:=hid k1;clear k1 hb;go_wp2_with fail
 with_reducible refine(C1.o _).mono ?_
 rintro e W1 ⟨rfl,hb⟩;have K1:=hid (K1.o.below hb);have rq:=hbt r9 hb;clear hb;go_wp2_with fail
 with_reducible refine(C2.o _).mono ?_
 rintro e W2 ⟨rfl,hb⟩;have K1:=hid (K1.o.below hb);have ru:=hbt rq hb;clear hb;go_wp2_with fail
 with_reducible refine(C11.o _).mono ?_
 rintro e W3 ⟨gy,gF,fq,fQ,rfl,bV,af,hb⟩;have K1:=hid (K1.o.below hb);have rM:=hbt ru hb;have RQ:=hid bV;have TQ:=hid af;clear hb bV af;obtain ⟨rV,p8,p9⟩:=aS K1.o rfl rfl rfl;obtain ⟨lg,lm,lv⟩:=cB K1.o;go_wp2;exact bodyPost_ret (v:=.tuple #[.agg #[.bool (ah zz),.slice gy (aa zz) gF,.slice fq (ag dz) fQ],.bool false]) (by simp[results,results71,go_sem,rV,p8,p9]) rfl ⟨_,_,_,_,rfl,(bi [.bool (ah zz),.slice gy (aa zz) gF,.slice fq (ag dz) fQ] RQ.o K1.o (by simp[bL]) (by simp[bA])),(bi [.bool (ah zz),.slice gy (aa zz) gF,.slice fq (ag dz) fQ] TQ.o K1.o (by simp[bL]) (by simp[bA])),(ay (l:=[.bool (ah zz),.slice gy (aa zz) gF,.slice fq (ag dz) fQ]) (i:=0) (by omega) rM.o)⟩
theorem z0C (a0 x0 y0:ByteArray)(zz:Int)(dz:Nat)(sl:Bool)  (w:World)(h1:CQ 104 #[.string a0] (.tuple #[.string x0,.string y0,.bool sl]))(h2:CQ 105 #[.string x0] (.bool true))(h3:CQ 106 #[.string y0] (.bool false))(h11:∀ W,CF 50 #[.int .i64 0] W zz dz)  :
 Calls Tryz.prog 71 #[.string a0] w fun e w'=>∃ p c s d,e=.returned (.tuple #[.agg #[.bool (ah zz),.slice p (aa zz) c,.slice s (ag dz) d],.bool false])∧RN w' (.slice p (aa zz) c) zz.natAbs∧RN w' (.slice s (ag dz) d) dz∧Below w.heap.size w w':=by
 obtain ⟨C1,C2,C3,C11⟩:=aL h1 h2 h3 h11;clear h1 h2 h3 h11;go_enter func71,ntmps71
 go_upto_region 1 with fail
 refine az w [(#[.bool false,.slice none 0 0,.slice none 0 0],54)] rfl ?_;rintro W0 ⟨k1,hb⟩;have r9:=hid (show Below w.heap.size w W0 from hb);have K1:=hid k1;clear k1 hb;go_wp2_with fail
 with_reducible refine(C1.o _).mono ?_
 rintro e W1 ⟨rfl,hb⟩;have K1:=hid (K1.o.below hb);have rq:=hbt r9 hb;clear hb;go_wp2_with fail
 with_reducible refine(C2.o _).mono ?_
 rintro e W2 ⟨rfl,hb⟩;have K1:=hid (K1.o.below hb);have ru:=hbt rq hb;clear hb;go_wp2_with fail
 with_reducible refine(C3.o _).mono ?_
 rintro e W3 ⟨rfl,hb⟩;have K1:=hid (K1.o.below hb);have rM:=hbt ru hb;clear hb;go_wp2_with fail
 with_reducible refine(C11.o _).mono ?_
 rintro e W4 ⟨u6,w9,ed,eX,rfl,wm,au,hb⟩;have K1:=hid (K1.o.below hb);have pq:=hbt rM hb;have RQ:=hid wm;have TQ:=hid au;clear hb wm au;obtain ⟨rV,p8,p9⟩:=aS K1.o rfl rfl rfl;obtain ⟨lg,lm,lv⟩:=cB K1.o;go_wp2;exact bodyPost_ret (v:=.tuple #[.agg #[.bool (ah zz),.slice u6 (aa zz) w9,.slice ed (ag dz) eX],.bool false]) (by simp[results,results71,go_sem,rV,p8,p9]) rfl ⟨_,_,_,_,rfl,(bi [.bool (ah zz),.slice u6 (aa zz) w9,.slice ed (ag dz) eX] RQ.o K1.o (by simp[bL]) (by simp[bA])),(bi [.bool (ah zz),.slice u6 (aa zz) w9,.slice ed (ag dz) eX] TQ.o K1.o (by simp[bL]) (by simp[bA])),(ay (l:=[.bool (ah zz),.slice u6 (aa zz) w9,.slice ed (ag dz) eX]) (i:=0) (by omega) pq.o)⟩
theorem z0B (a0 x0 y0:ByteArray)(z k sg:Int)(n one g:Nat)(hk:0<k)(hsg:sg≠0)  (w:World)(h1:CQ 104 #[.string a0] (.tuple #[.string x0,.string y0,.bool true]))(h2:CQ 105 #[.string x0] (.bool true))(h3:CQ 106 #[.string y0] (.bool true))(h4:∀ W,CZ 107 #[.string x0] W z)(h5:∀ W,CN 108 #[.string y0] W n)(h6:∀ W,CN 76 #[.int .u32 1] W one)(h7:∀ s1 d1 s2 d2 W,RN W (.slice s1 (ag n) d1) n→RN W (.slice s2 (ag one) d2) one→CR 101 #[.slice s1 (ag n) d1,.slice s2 (ag one) d2] W (.int .i64 k))(h8:∀ p1 c1 W,RN W (.slice p1 (aa z) c1) z.natAbs→CR 103 #[.agg #[.bool (ah z),.slice p1 (aa z) c1]] W (.int .i64 sg))(h9:∀ p1 c1 s2 d2 W,RN W (.slice p1 (aa z) c1) z.natAbs→RN W (.slice s2 (ag n) d2) n→CN 109 #[.slice p1 (aa z) c1,.slice s2 (ag n) d2] W g)(h10:∀ s1 d1 s2 d2 W,RN W (.slice s1 (ag g) d1) g→RN W (.slice s2 (ag one) d2) one→CR 101 #[.slice s1 (ag g) d1,.slice s2 (ag one) d2] W (.int .i64 0))  :
 Calls Tryz.prog 71 #[.string a0] w fun e w'=>∃ p c s d,e=.returned (.tuple #[.agg #[.bool (ah z),.slice p (aa z) c,.slice s (ag n) d],.bool true])∧RN w' (.slice p (aa z) c) z.natAbs∧RN w' (.slice s (ag n) d) n∧Below w.heap.size w w':=by
 obtain ⟨C1,C2,C3,C4,C5,C6,C7,C8,C9⟩:=dG h1 h2 h3 h4 h5 h6 h7 h8 h9;have C10:=hid h10;have k0:decide (0<k)=true:=decide_eq_true hk;have k1:0<k:=hk;clear hk;have s0:(sg==0)=false:=by rw[beq_eq_false_iff_ne];exact hsg
 have s1:¬ sg=0:=hsg;have s2:(sg != 0)=true:=by unfold bne;rw[s0];rfl
 have s3:decide (sg=0)=false:=decide_eq_false hsg;clear hsg h1 h2 h3 h4 h5 h6 h7 h8 h9 h10;go_enter func71,ntmps71
 go_upto_region 1 with fail
 refine az w [(#[.bool false,.slice none 0 0,.slice none 0 0],54)] rfl ?_;rintro W0 ⟨k1,hb⟩;have r9:=hid (show Below w.heap.size w W0 from hb);have K1:=hid k1;clear k1 hb;go_wp2_with fail
 with_reducible refine(C1.o _).mono ?_
 rintro e W1 ⟨rfl,hb⟩;have K1:=hid (K1.o.below hb);have rq:=hbt r9 hb;clear hb;go_wp2_with fail
 with_reducible refine(C2.o _).mono ?_
 rintro e W2 ⟨rfl,hb⟩;have K1:=hid (K1.o.below hb);have ru:=hbt rq hb;clear hb;go_wp2_with fail
 with_reducible refine(C3.o _).mono ?_
 rintro e W3 ⟨rfl,hb⟩;have K1:=hid (K1.o.below hb);have rM:=hbt ru hb;clear hb;go_wp2_with fail
 with_reducible refine(C4.o _).mono ?_
 rintro e W4 ⟨u6,w9,rfl,wm,hb⟩;have K1:=hid (K1.o.below hb);have pq:=hbt rM hb;have RZ:=hid wm;clear hb wm;go_wp2_with fail
 with_reducible refine(C5.o _).mono ?_
 rintro e W5 ⟨wo,wu,rfl,sj,hb⟩;obtain ⟨K1,RZ⟩:=aP hb K1 RZ;have sw:=hbt pq hb;have RM:=hid sj;clear hb sj;go_upto_region 5 with fail
 refine az W5 [(#[.bool (ah z),.slice u6 (aa z) w9,.slice wo (ag n) wu],54)] rfl ?_;have L1:=K1.o.lt;have L2:=sw.o.size;rintro W6 ⟨k2,hb⟩;have hb:Below W5.heap.size W5 W6:=hb;obtain ⟨K1,RZ,RM⟩:=bR hb K1 RZ RM;have ol:=hbt sw hb;have K2:=hid k2;clear k2 hb;go_wp2_with fail
 with_reducible refine(C6.o _).mono ?_
 rintro e W7 ⟨bu,bv,rfl,pu,hb⟩;obtain ⟨K1,K2,RZ,RM⟩:=bB hb K1 K2 RZ RM;have mf:=hbt ol hb;have RO:=hid pu;clear hb pu;have ww:=K2.o.cell (i:=2) rfl;go_wp2_with fail
 with_reducible refine(C7.o _ _ _ _ _ RM.o RO.o).mono ?_
 rintro e W8 ⟨rfl,hb⟩;clear ww;obtain ⟨K1,K2,RZ,RM,RO⟩:=dV hb K1 K2 RZ RM RO;have mi:=hbt mf hb;clear hb;obtain ⟨oM,si⟩:=av K2.o rfl rfl;go_wp2_with fail
 with_reducible refine(C8.o _ _ _ RZ.o).mono ?_
 rintro e W9 ⟨rfl,hb⟩;clear oM si;obtain ⟨K1,K2,RZ,RM,RO⟩:=dV hb K1 K2 RZ RM RO;have l5:=hbt mi hb;clear hb;have si:=K2.o.cell (i:=1) rfl;have ww:=K2.o.cell (i:=2) rfl;go_wp2_with fail
 with_reducible refine(C9.o _ _ _ _ _ RZ.o RM.o).mono ?_
 rintro e W10 ⟨kz,kM,rfl,oV,hb⟩;clear si ww;obtain ⟨K1,K2,RZ,RM,RO⟩:=dV hb K1 K2 RZ RM RO;have kV:=hbt l5 hb;have RG:=hid oV;clear hb oV;go_wp2_with fail
 with_reducible refine(C10.o _ _ _ _ _ RG.o RO.o).mono ?_
 rintro e W11 ⟨rfl,hb⟩;obtain ⟨K1,K2,RZ,RM⟩:=bB hb K1 K2 RZ RM;have bM:=hbt kV hb;clear hb;obtain ⟨oM,si,ww⟩:=aS K2.o rfl rfl rfl;obtain ⟨rV,p8,p9⟩:=aS K1.o rfl rfl rfl;obtain ⟨lg,lm,lv⟩:=cB K1.o;go_wp2;exact bodyPost_ret (v:=.tuple #[.agg #[.bool (ah z),.slice u6 (aa z) w9,.slice wo (ag n) wu],.bool true]) (by simp[results,results71,go_sem,rV,p8,p9]) rfl ⟨_,_,_,_,rfl,(bi [.bool (ah z),.slice u6 (aa z) w9,.slice wo (ag n) wu] RZ.o K1.o (by simp[bL]) (by simp[bA])),(bi [.bool (ah z),.slice u6 (aa z) w9,.slice wo (ag n) wu] RM.o K1.o (by simp[bL]) (by simp[bA])),(ay (l:=[.bool (ah z),.slice u6 (aa z) w9,.slice wo (ag n) wu]) (i:=0) (by omega) bM.o)⟩
theorem yH (a0 x0 y0:ByteArray)(z k zz:Int)(n one dz:Nat)(hk:k≤0)  (w:World)(h1:CQ 104 #[.string a0] (.tuple #[.string x0,.string y0,.bool true]))(h2:CQ 105 #[.string x0] (.bool true))(h3:CQ 106 #[.string y0] (.bool true))(h4:∀ W,CZ 107 #[.string x0] W z)(h5:∀ W,CN 108 #[.string y0] W n)(h6:∀ W,CN 76 #[.int .u32 1] W one)(h7:∀ s1 d1 s2 d2 W,RN W (.slice s1 (ag n) d1) n→RN W (.slice s2 (ag one) d2) one→CR 101 #[.slice s1 (ag n) d1,.slice s2 (ag one) d2] W (.int .i64 k))(h11:∀ W,CF 50 #[.int .i64 0] W zz dz)  :
 Calls Tryz.prog 71 #[.string a0] w fun e w'=>∃ p c s d,e=.returned (.tuple #[.agg #[.bool (ah zz),.slice p (aa zz) c,.slice s (ag dz) d],.bool false])∧RN w' (.slice p (aa zz) c) zz.natAbs∧RN w' (.slice s (ag dz) d) dz∧Below w.heap.size w w':=by
 obtain ⟨C1,C2,C3,C4,C5,C6,C7,C11⟩:=fw h1 h2 h3 h4 h5 h6 h7 h11;have k0:decide (0<k)=false:=decide_eq_false (by omega);have k1:k≤0:=hk;clear hk h1 h2 h3 h4 h5 h6 h7 h11;go_enter func71,ntmps71
 go_upto_region 1 with fail
 refine az w [(#[.bool false,.slice none 0 0,.slice none 0 0],54)] rfl ?_;rintro W0 ⟨k1,hb⟩;have r9:=hid (show Below w.heap.size w W0 from hb);have K1:=hid k1;clear k1 hb;go_wp2_with fail
 with_reducible refine(C1.o _).mono ?_
 rintro e W1 ⟨rfl,hb⟩;have K1:=hid (K1.o.below hb);have rq:=hbt r9 hb;clear hb;go_wp2_with fail
 with_reducible refine(C2.o _).mono ?_
 rintro e W2 ⟨rfl,hb⟩;have K1:=hid (K1.o.below hb);have ru:=hbt rq hb;clear hb;go_wp2_with fail
 with_reducible refine(C3.o _).mono ?_
 rintro e W3 ⟨rfl,hb⟩;have K1:=hid (K1.o.below hb);have rM:=hbt ru hb;clear hb;go_wp2_with fail
 with_reducible refine(C4.o _).mono ?_
 rintro e W4 ⟨u6,w9,rfl,wm,hb⟩;have K1:=hid (K1.o.below hb);have pq:=hbt rM hb;have RZ:=hid wm;clear hb wm;go_wp2_with fail
 with_reducible refine(C5.o _).mono ?_
 rintro e W5 ⟨wo,wu,rfl,sj,hb⟩;have K1:=hid (K1.o.below hb);have sw:=hbt pq hb;have RM:=hid sj;clear hb sj;go_upto_region 5 with fail
 refine az W5 [(#[.bool (ah z),.slice u6 (aa z) w9,.slice wo (ag n) wu],54)] rfl ?_;have L1:=K1.o.lt;have L2:=sw.o.size;rintro W6 ⟨k2,hb⟩;have hb:Below W5.heap.size W5 W6:=hb;obtain ⟨K1,RM⟩:=aP hb K1 RM;have ol:=hbt sw hb;have K2:=hid k2;clear k2 hb;go_wp2_with fail
 with_reducible refine(C6.o _).mono ?_
 rintro e W7 ⟨bu,bv,rfl,pu,hb⟩;obtain ⟨K1,K2,RM⟩:=bR hb K1 K2 RM;have mf:=hbt ol hb;have RO:=hid pu;clear hb pu;have ww:=K2.o.cell (i:=2) rfl;go_wp2_with fail
 with_reducible refine(C7.o _ _ _ _ _ RM.o RO.o).mono ?_
 rintro e W8 ⟨rfl,hb⟩;clear ww;obtain ⟨K1,K2⟩:=aP hb K1 K2;have mi:=hbt mf hb;clear hb;obtain ⟨oM,si,ww⟩:=aS K2.o rfl rfl rfl;go_wp2_with fail
 with_reducible refine(C11.o _).mono ?_
 rintro e W9 ⟨d9,dn,dx,dX,rfl,u00,u01,hb⟩;clear oM si ww;have K1:=hid (K1.o.below hb);have l5:=hbt mi hb;have RQ:=hid u00;have TQ:=hid u01;clear hb u00 u01;obtain ⟨rV,p8,p9⟩:=aS K1.o rfl rfl rfl;obtain ⟨lg,lm,lv⟩:=cB K1.o;go_wp2;exact bodyPost_ret (v:=.tuple #[.agg #[.bool (ah zz),.slice d9 (aa zz) dn,.slice dx (ag dz) dX],.bool false]) (by simp[results,results71,go_sem,rV,p8,p9]) rfl ⟨_,_,_,_,rfl,(bi [.bool (ah zz),.slice d9 (aa zz) dn,.slice dx (ag dz) dX] RQ.o K1.o (by simp[bL]) (by simp[bA])),(bi [.bool (ah zz),.slice d9 (aa zz) dn,.slice dx (ag dz) dX] TQ.o K1.o (by simp[bL]) (by simp[bA])),(ay (l:=[.bool (ah zz),.slice d9 (aa zz) dn,.slice dx (ag dz) dX]) (i:=0) (by omega) l5.o)⟩
theorem z0A (a0 x0 y0:ByteArray)(z k zz:Int)(n one dz:Nat)(hk:0<k)  (w:World)(h1:CQ 104 #[.string a0] (.tuple #[.string x0,.string y0,.bool true]))(h2:CQ 105 #[.string x0] (.bool true))(h3:CQ 106 #[.string y0] (.bool true))(h4:∀ W,CZ 107 #[.string x0] W z)(h5:∀ W,CN 108 #[.string y0] W n)(h6:∀ W,CN 76 #[.int .u32 1] W one)(h7:∀ s1 d1 s2 d2 W,RN W (.slice s1 (ag n) d1) n→RN W (.slice s2 (ag one) d2) one→CR 101 #[.slice s1 (ag n) d1,.slice s2 (ag one) d2] W (.int .i64 k))(h8:∀ p1 c1 W,RN W (.slice p1 (aa z) c1) z.natAbs→CR 103 #[.agg #[.bool (ah z),.slice p1 (aa z) c1]] W (.int .i64 0))(h11:∀ W,CF 50 #[.int .i64 0] W zz dz)  :
 Calls Tryz.prog 71 #[.string a0] w fun e w'=>∃ p c s d,e=.returned (.tuple #[.agg #[.bool (ah zz),.slice p (aa zz) c,.slice s (ag dz) d],.bool false])∧RN w' (.slice p (aa zz) c) zz.natAbs∧RN w' (.slice s (ag dz) d) dz∧Below w.heap.size w w':=by
 obtain ⟨C1,C2,C3,C4,C5,C6,C7,C8,C11⟩:=dG h1 h2 h3 h4 h5 h6 h7 h8 h11;have k0:decide (0<k)=true:=decide_eq_true hk;have k1:0<k:=hk;clear hk h1 h2 h3 h4 h5 h6 h7 h8 h11;go_enter func71,ntmps71
 go_upto_region 1 with fail
 refine az w [(#[.bool false,.slice none 0 0,.slice none 0 0],54)] rfl ?_;rintro W0 ⟨k1,hb⟩;have r9:=hid (show Below w.heap.size w W0 from hb);have K1:=hid k1;clear k1 hb;go_wp2_with fail
 with_reducible refine(C1.o _).mono ?_
 rintro e W1 ⟨rfl,hb⟩;have K1:=hid (K1.o.below hb);have rq:=hbt r9 hb;clear hb;go_wp2_with fail
 with_reducible refine(C2.o _).mono ?_
 rintro e W2 ⟨rfl,hb⟩;have K1:=hid (K1.o.below hb);have ru:=hbt rq hb;clear hb;go_wp2_with fail
 with_reducible refine(C3.o _).mono ?_
 rintro e W3 ⟨rfl,hb⟩;have K1:=hid (K1.o.below hb);have rM:=hbt ru hb;clear hb;go_wp2_with fail
 with_reducible refine(C4.o _).mono ?_
 rintro e W4 ⟨u6,w9,rfl,wm,hb⟩;have K1:=hid (K1.o.below hb);have pq:=hbt rM hb;have RZ:=hid wm;clear hb wm;go_wp2_with fail
 with_reducible refine(C5.o _).mono ?_
 rintro e W5 ⟨wo,wu,rfl,sj,hb⟩;obtain ⟨K1,RZ⟩:=aP hb K1 RZ;have sw:=hbt pq hb;have RM:=hid sj;clear hb sj;go_upto_region 5 with fail
 refine az W5 [(#[.bool (ah z),.slice u6 (aa z) w9,.slice wo (ag n) wu],54)] rfl ?_;have L1:=K1.o.lt;have L2:=sw.o.size;rintro W6 ⟨k2,hb⟩;have hb:Below W5.heap.size W5 W6:=hb;obtain ⟨K1,RZ,RM⟩:=bR hb K1 RZ RM;have ol:=hbt sw hb;have K2:=hid k2;clear k2 hb;go_wp2_with fail
 with_reducible refine(C6.o _).mono ?_
 rintro e W7 ⟨bu,bv,rfl,pu,hb⟩;obtain ⟨K1,K2,RZ,RM⟩:=bB hb K1 K2 RZ RM;have mf:=hbt ol hb;have RO:=hid pu;clear hb pu;have ww:=K2.o.cell (i:=2) rfl;go_wp2_with fail
 with_reducible refine(C7.o _ _ _ _ _ RM.o RO.o).mono ?_
 rintro e W8 ⟨rfl,hb⟩;clear ww;obtain ⟨K1,K2,RZ⟩:=bR hb K1 K2 RZ;have mi:=hbt mf hb;clear hb;obtain ⟨oM,si⟩:=av K2.o rfl rfl;go_wp2_with fail
 with_reducible refine(C8.o _ _ _ RZ.o).mono ?_
 rintro e W9 ⟨rfl,hb⟩;clear oM si;obtain ⟨K1,K2⟩:=aP hb K1 K2;have l5:=hbt mi hb;clear hb;have si:=K2.o.cell (i:=1) rfl;have ww:=K2.o.cell (i:=2) rfl;go_wp2_with fail
 with_reducible refine(C11.o _).mono ?_
 rintro e W10 ⟨kz,kM,dY,cu,rfl,oV,u02,hb⟩;clear si ww;have K1:=hid (K1.o.below hb);have kV:=hbt l5 hb;have RQ:=hid oV;have TQ:=hid u02;clear hb oV u02;obtain ⟨rV,p8,p9⟩:=aS K1.o rfl rfl rfl;obtain ⟨lg,lm,lv⟩:=cB K1.o;go_wp2;exact bodyPost_ret (v:=.tuple #[.agg #[.bool (ah zz),.slice kz (aa zz) kM,.slice dY (ag dz) cu],.bool false]) (by simp[results,results71,go_sem,rV,p8,p9]) rfl ⟨_,_,_,_,rfl,(bi [.bool (ah zz),.slice kz (aa zz) kM,.slice dY (ag dz) cu] RQ.o K1.o (by simp[bL]) (by simp[bA])),(bi [.bool (ah zz),.slice kz (aa zz) kM,.slice dY (ag dz) cu] TQ.o K1.o (by simp[bL]) (by simp[bA])),(ay (l:=[.bool (ah zz),.slice kz (aa zz) kM,.slice dY (ag dz) cu]) (i:=0) (by omega) kV.o)⟩
theorem vE (a0 x0 y0:ByteArray)(z k k2 sg zz:Int)(n one g dz:Nat)(hk:0<k)(hsg:sg≠0)(hk2:k2≠0)  (w:World)(h1:CQ 104 #[.string a0] (.tuple #[.string x0,.string y0,.bool true]))(h2:CQ 105 #[.string x0] (.bool true))(h3:CQ 106 #[.string y0] (.bool true))(h4:∀ W,CZ 107 #[.string x0] W z)(h5:∀ W,CN 108 #[.string y0] W n)(h6:∀ W,CN 76 #[.int .u32 1] W one)(h7:∀ s1 d1 s2 d2 W,RN W (.slice s1 (ag n) d1) n→RN W (.slice s2 (ag one) d2) one→CR 101 #[.slice s1 (ag n) d1,.slice s2 (ag one) d2] W (.int .i64 k))(h8:∀ p1 c1 W,RN W (.slice p1 (aa z) c1) z.natAbs→CR 103 #[.agg #[.bool (ah z),.slice p1 (aa z) c1]] W (.int .i64 sg))(h9:∀ p1 c1 s2 d2 W,RN W (.slice p1 (aa z) c1) z.natAbs→RN W (.slice s2 (ag n) d2) n→CN 109 #[.slice p1 (aa z) c1,.slice s2 (ag n) d2] W g)(h10:∀ s1 d1 s2 d2 W,RN W (.slice s1 (ag g) d1) g→RN W (.slice s2 (ag one) d2) one→CR 101 #[.slice s1 (ag g) d1,.slice s2 (ag one) d2] W (.int .i64 k2))(h11:∀ W,CF 50 #[.int .i64 0] W zz dz)  :
 Calls Tryz.prog 71 #[.string a0] w fun e w'=>∃ p c s d,e=.returned (.tuple #[.agg #[.bool (ah zz),.slice p (aa zz) c,.slice s (ag dz) d],.bool false])∧RN w' (.slice p (aa zz) c) zz.natAbs∧RN w' (.slice s (ag dz) d) dz∧Below w.heap.size w w':=by
 obtain ⟨C1,C2,C3,C4,C5,C6,C7,C8,C9⟩:=dG h1 h2 h3 h4 h5 h6 h7 h8 h9;have C10:=hid h10;have C11:=hid h11;have k0:decide (0<k)=true:=decide_eq_true hk;have k1:0<k:=hk;clear hk;have s0:(sg==0)=false:=by rw[beq_eq_false_iff_ne];exact hsg
 have s1:¬ sg=0:=hsg;have s2:(sg != 0)=true:=by unfold bne;rw[s0];rfl
 have s3:decide (sg=0)=false:=decide_eq_false hsg;clear hsg;have q0:(k2==0)=false:=by rw[beq_eq_false_iff_ne];exact hk2
 have q1:¬ k2=0:=hk2;clear hk2 h1 h2 h3 h4 h5 h6 h7 h8 h9 h10 h11;go_enter func71,ntmps71
 go_upto_region 1 with fail
 refine az w [(#[.bool false,.slice none 0 0,.slice none 0 0],54)] rfl ?_;rintro W0 ⟨k1,hb⟩;have r9:=hid (show Below w.heap.size w W0 from hb);have K1:=hid k1;clear k1 hb;go_wp2_with fail
 with_reducible refine(C1.o _).mono ?_
 rintro e W1 ⟨rfl,hb⟩;have K1:=hid (K1.o.below hb);have rq:=hbt r9 hb;clear hb;go_wp2_with fail
 with_reducible refine(C2.o _).mono ?_
 rintro e W2 ⟨rfl,hb⟩;have K1:=hid (K1.o.below hb);have ru:=hbt rq hb;clear hb;go_wp2_with fail
 with_reducible refine(C3.o _).mono ?_
 rintro e W3 ⟨rfl,hb⟩;have K1:=hid (K1.o.below hb);have rM:=hbt ru hb;clear hb;go_wp2_with fail
 with_reducible refine(C4.o _).mono ?_
 rintro e W4 ⟨u6,w9,rfl,wm,hb⟩;have K1:=hid (K1.o.below hb);have pq:=hbt rM hb;have RZ:=hid wm;clear hb wm;go_wp2_with fail
 with_reducible refine(C5.o _).mono ?_
 rintro e W5 ⟨wo,wu,rfl,sj,hb⟩;obtain ⟨K1,RZ⟩:=aP hb K1 RZ;have sw:=hbt pq hb;have RM:=hid sj;clear hb sj;go_upto_region 5 with fail
 refine az W5 [(#[.bool (ah z),.slice u6 (aa z) w9,.slice wo (ag n) wu],54)] rfl ?_;have L1:=K1.o.lt;have L2:=sw.o.size;rintro W6 ⟨k2,hb⟩;have hb:Below W5.heap.size W5 W6:=hb;obtain ⟨K1,RZ,RM⟩:=bR hb K1 RZ RM;have ol:=hbt sw hb;have K2:=hid k2;clear k2 hb;go_wp2_with fail
 with_reducible refine(C6.o _).mono ?_
 rintro e W7 ⟨bu,bv,rfl,pu,hb⟩;obtain ⟨K1,K2,RZ,RM⟩:=bB hb K1 K2 RZ RM;have mf:=hbt ol hb;have RO:=hid pu;clear hb pu;have ww:=K2.o.cell (i:=2) rfl;go_wp2_with fail
 with_reducible refine(C7.o _ _ _ _ _ RM.o RO.o).mono ?_
 rintro e W8 ⟨rfl,hb⟩;clear ww;obtain ⟨K1,K2,RZ,RM,RO⟩:=dV hb K1 K2 RZ RM RO;have mi:=hbt mf hb;clear hb;obtain ⟨oM,si⟩:=av K2.o rfl rfl;go_wp2_with fail
 with_reducible refine(C8.o _ _ _ RZ.o).mono ?_
 rintro e W9 ⟨rfl,hb⟩;clear oM si;obtain ⟨K1,K2,RZ,RM,RO⟩:=dV hb K1 K2 RZ RM RO;have l5:=hbt mi hb;clear hb;have si:=K2.o.cell (i:=1) rfl;have ww:=K2.o.cell (i:=2) rfl;go_wp2_with fail
 with_reducible refine(C9.o _ _ _ _ _ RZ.o RM.o).mono ?_
 rintro e W10 ⟨kz,kM,rfl,oV,hb⟩;clear si ww;obtain ⟨K1,RO⟩:=aP hb K1 RO;have kV:=hbt l5 hb;have RG:=hid oV;clear hb oV;go_wp2_with fail
 with_reducible refine(C10.o _ _ _ _ _ RG.o RO.o).mono ?_
 rintro e W11 ⟨rfl,hb⟩;have K1:=hid (K1.o.below hb);have bM:=hbt kV hb;clear hb;go_wp2_with fail
 with_reducible refine(C11.o _).mono ?_
 rintro e W12 ⟨cO,bg,bn,bq,rfl,u03,u04,hb⟩;have K1:=hid (K1.o.below hb);have u05:=hbt bM hb;have RQ:=hid u03;have TQ:=hid u04;clear hb u03 u04;obtain ⟨rV,p8,p9⟩:=aS K1.o rfl rfl rfl;obtain ⟨lg,lm,lv⟩:=cB K1.o;go_wp2;exact bodyPost_ret (v:=.tuple #[.agg #[.bool (ah zz),.slice cO (aa zz) bg,.slice bn (ag dz) bq],.bool false]) (by simp[results,results71,go_sem,rV,p8,p9]) rfl ⟨_,_,_,_,rfl,(bi [.bool (ah zz),.slice cO (aa zz) bg,.slice bn (ag dz) bq] RQ.o K1.o (by simp[bL]) (by simp[bA])),(bi [.bool (ah zz),.slice cO (aa zz) bg,.slice bn (ag dz) bq] TQ.o K1.o (by simp[bL]) (by simp[bA])),(ay (l:=[.bool (ah zz),.slice cO (aa zz) bg,.slice bn (ag dz) bq]) (i:=0) (by omega) u05.o)⟩
