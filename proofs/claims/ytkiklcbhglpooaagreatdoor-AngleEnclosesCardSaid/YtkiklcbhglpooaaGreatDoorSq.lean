/- texts -/
import Derived.Test.YtkiklcbhglpooaaGreatDoorMz36q
open Go.Proofs.Tryz
set_option maxRecDepth 100000
set_option maxHeartbeats 20000000
open Go.Lib (hid)
namespace Go.Proofs.YtkiklcbhglpooaaGreatDoor
open Go.RowKit Go.Gb
theorem z3s (a0 x0 y0:ByteArray)(z:Int)(n:Nat)  (w:World)(h1:CQ 68 #[.string a0] (.tuple #[.string x0,.string y0,.bool false]))(h2:CQ 69 #[.string x0] (.bool true))(h3:CQ 70 #[.string y0] (.bool true))(h4:∀ W,CZ 71 #[.string x0] W z)(h5:∀ W,CN 72 #[.string y0] W n)  :
 Calls Tryz.prog 28 #[.string a0] w fun e w'=>∃ p c s d,e=.returned (.tuple #[.agg #[.bool (ah z),.slice p (aa z) c,.slice s (ag n) d],.bool true])∧RN w' (.slice p (aa z) c) z.natAbs∧RN w' (.slice s (ag n) d) n∧Below w.heap.size w w':=by
 obtain ⟨C1,C2,C3,C4,C5⟩:=bD h1 h2 h3 h4 h5;clear h1 h2 h3 h4 h5;go_enter func28,ntmps28
 go_upto_region 1 with fail
 refine ak w [(#[.bool false,.slice none 0 0,.slice none 0 0],50)] rfl ?_;rintro W0 ⟨k1,hb⟩;have rM:=hid (show Below w.heap.size w W0 from hb);have K1:=hid k1;clear k1 hb;go_wp2_with fail
 with_reducible refine(C1.o _).mono ?_
 rintro e W1 ⟨rfl,hb⟩;have K1:=hid (K1.o.below hb);have rV:=hbt rM hb;clear hb;go_wp2_with fail
 with_reducible refine(C2.o _).mono ?_
 rintro e W2 ⟨rfl,hb⟩;have K1:=hid (K1.o.below hb);have p8:=hbt rV hb;clear hb;go_wp2_with fail
 with_reducible refine(C3.o _).mono ?_
 rintro e W3 ⟨rfl,hb⟩;have K1:=hid (K1.o.below hb);have pq:=hbt p8 hb;clear hb;go_wp2_with fail
 with_reducible refine(C4.o _).mono ?_
 rintro e W4 ⟨u6,w9,rfl,wm,hb⟩;have K1:=hid (K1.o.below hb);have oV:=hbt pq hb;have RZ:=hid wm;clear hb wm;go_wp2_with fail
 with_reducible refine(C5.o _).mono ?_
 rintro e W5 ⟨wo,wu,rfl,sj,hb⟩;obtain ⟨K1,RZ⟩:=aO hb K1 RZ;have sw:=hbt oV hb;have RM:=hid sj;clear hb sj;go_upto_region 5 with fail
 refine ak W5 [(#[.bool (ah z),.slice u6 (aa z) w9,.slice wo (ag n) wu],50)] rfl ?_;have L1:=K1.o.lt;have L2:=sw.o.size;rintro W6 ⟨k2,hb⟩;have hb:Below W5.heap.size W5 W6:=hb;obtain ⟨K1,RZ,RM⟩:=bA hb K1 RZ RM;have mf:=hbt sw hb;have K2:=hid k2;clear k2 hb;obtain ⟨mi,si,ww⟩:=aC K2.o rfl rfl rfl;obtain ⟨pu,ol,oM⟩:=aC K1.o rfl rfl rfl;obtain ⟨kz,kM,kV⟩:=bB K1.o;go_wp2;exact bodyPost_ret (v:=.tuple #[.agg #[.bool (ah z),.slice u6 (aa z) w9,.slice wo (ag n) wu],.bool true]) (by simp[results,results28,go_sem,pu,ol,oM]) rfl ⟨_,_,_,_,rfl,(bf [.bool (ah z),.slice u6 (aa z) w9,.slice wo (ag n) wu] RZ.o K1.o (by simp[bJ]) (by simp[aW])),(bf [.bool (ah z),.slice u6 (aa z) w9,.slice wo (ag n) wu] RM.o K1.o (by simp[bJ]) (by simp[aW])),(aj (l:=[.bool (ah z),.slice u6 (aa z) w9,.slice wo (ag n) wu]) (i:=0) (by omega) mf.o)⟩
theorem uu (a0 x0 y0:ByteArray)(zz:Int)(dz:Nat)(sl:Bool)  (w:World)(h1:CQ 68 #[.string a0] (.tuple #[.string x0,.string y0,.bool sl]))(h2:CQ 69 #[.string x0] (.bool false))(h11:∀ W,CF 27 #[.int .i64 0] W zz dz)  :
 Calls Tryz.prog 28 #[.string a0] w fun e w'=>∃ p c s d,e=.returned (.tuple #[.agg #[.bool (ah zz),.slice p (aa zz) c,.slice s (ag dz) d],.bool false])∧RN w' (.slice p (aa zz) c) zz.natAbs∧RN w' (.slice s (ag dz) d) dz∧Below w.heap.size w w':=by
 obtain ⟨C1,C2,C11⟩:=au h1 h2 h11;clear h1 h2 h11;go_enter func28,ntmps28
 go_upto_region 1 with fail
 refine ak w [(#[.bool false,.slice none 0 0,.slice none 0 0],50)] rfl ?_;rintro W0 ⟨k1,hb⟩;have rM:=hid (show Below w.heap.size w W0 from hb);have K1:=hid k1;clear k1 hb;go_wp2_with fail
 with_reducible refine(C1.o _).mono ?_
 rintro e W1 ⟨rfl,hb⟩;have K1:=hid (K1.o.below hb);have rV:=hbt rM hb;clear hb;go_wp2_with fail
 with_reducible refine(C2.o _).mono ?_
 rintro e W2 ⟨rfl,hb⟩;have K1:=hid (K1.o.below hb);have p8:=hbt rV hb;clear hb;go_wp2_with fail
 with_reducible refine(C11.o _).mono ?_
 rintro e W3 ⟨ed,d9,dn,dx,rfl,u04,u05,hb⟩;have K1:=hid (K1.o.below hb);have pq:=hbt p8 hb;have RQ:=hid u04;have TQ:=hid u05;clear hb u04 u05;obtain ⟨pu,ol,oM⟩:=aC K1.o rfl rfl rfl;obtain ⟨kz,kM,kV⟩:=bB K1.o;go_wp2;exact bodyPost_ret (v:=.tuple #[.agg #[.bool (ah zz),.slice ed (aa zz) d9,.slice dn (ag dz) dx],.bool false]) (by simp[results,results28,go_sem,pu,ol,oM]) rfl ⟨_,_,_,_,rfl,(bf [.bool (ah zz),.slice ed (aa zz) d9,.slice dn (ag dz) dx] RQ.o K1.o (by simp[bJ]) (by simp[aW])),(bf [.bool (ah zz),.slice ed (aa zz) d9,.slice dn (ag dz) dx] TQ.o K1.o (by simp[bJ]) (by simp[aW])),(aj (l:=[.bool (ah zz),.slice ed (aa zz) d9,.slice dn (ag dz) dx]) (i:=0) (by omega) pq.o)⟩
theorem z1x (a0 x0 y0:ByteArray)(zz:Int)(dz:Nat)(sl:Bool)  (w:World)(h1:CQ 68 #[.string a0] (.tuple #[.string x0,.string y0,.bool sl]))(h2:CQ 69 #[.string x0] (.bool true))(h3:CQ 70 #[.string y0] (.bool false))(h11:∀ W,CF 27 #[.int .i64 0] W zz dz)  :
 Calls Tryz.prog 28 #[.string a0] w fun e w'=>∃ p c s d,e=.returned (.tuple #[.agg #[.bool (ah zz),.slice p (aa zz) c,.slice s (ag dz) d],.bool false])∧RN w' (.slice p (aa zz) c) zz.natAbs∧RN w' (.slice s (ag dz) d) dz∧Below w.heap.size w w':=by
 obtain ⟨C1,C2,C3,C11⟩:=aM h1 h2 h3 h11;clear h1 h2 h3 h11;go_enter func28,ntmps28
 go_upto_region 1 with fail
 refine ak w [(#[.bool false,.slice none 0 0,.slice none 0 0],50)] rfl ?_;rintro W0 ⟨k1,hb⟩;have rM:=hid (show Below w.heap.size w W0 from hb);have K1:=hid k1;clear k1 hb;go_wp2_with fail
 with_reducible refine(C1.o _).mono ?_
 rintro e W1 ⟨rfl,hb⟩;have K1:=hid (K1.o.below hb);have rV:=hbt rM hb;clear hb;go_wp2_with fail
 with_reducible refine(C2.o _).mono ?_
 rintro e W2 ⟨rfl,hb⟩;have K1:=hid (K1.o.below hb);have p8:=hbt rV hb;clear hb;go_wp2_with fail
 with_reducible refine(C3.o _).mono ?_
 rintro e W3 ⟨rfl,hb⟩;have K1:=hid (K1.o.below hb);have pq:=hbt p8 hb;clear hb;go_wp2_with fail
 with_reducible refine(C11.o _).mono ?_
 rintro e W4 ⟨u6,w9,dX,dY,rfl,wm,u06,hb⟩;have K1:=hid (K1.o.below hb);have oV:=hbt pq hb;have RQ:=hid wm;have TQ:=hid u06;clear hb wm u06;obtain ⟨pu,ol,oM⟩:=aC K1.o rfl rfl rfl;obtain ⟨kz,kM,kV⟩:=bB K1.o;go_wp2;exact bodyPost_ret (v:=.tuple #[.agg #[.bool (ah zz),.slice u6 (aa zz) w9,.slice dX (ag dz) dY],.bool false]) (by simp[results,results28,go_sem,pu,ol,oM]) rfl ⟨_,_,_,_,rfl,(bf [.bool (ah zz),.slice u6 (aa zz) w9,.slice dX (ag dz) dY] RQ.o K1.o (by simp[bJ]) (by simp[aW])),(bf [.bool (ah zz),.slice u6 (aa zz) w9,.slice dX (ag dz) dY] TQ.o K1.o (by simp[bJ]) (by simp[aW])),(aj (l:=[.bool (ah zz),.slice u6 (aa zz) w9,.slice dX (ag dz) dY]) (i:=0) (by omega) oV.o)⟩
theorem z1w (a0 x0 y0:ByteArray)(z k sg:Int)(n one g:Nat)(hk:0<k)(hsg:sg≠0)  (w:World)(h1:CQ 68 #[.string a0] (.tuple #[.string x0,.string y0,.bool true]))(h2:CQ 69 #[.string x0] (.bool true))(h3:CQ 70 #[.string y0] (.bool true))(h4:∀ W,CZ 71 #[.string x0] W z)(h5:∀ W,CN 72 #[.string y0] W n)(h6:∀ W,CN 67 #[.int .u32 1] W one)(h7:∀ s1 d1 s2 d2 W,RN W (.slice s1 (ag n) d1) n→RN W (.slice s2 (ag one) d2) one→CR 73 #[.slice s1 (ag n) d1,.slice s2 (ag one) d2] W (.int .i64 k))(h8:∀ p1 c1 W,RN W (.slice p1 (aa z) c1) z.natAbs→CR 74 #[.agg #[.bool (ah z),.slice p1 (aa z) c1]] W (.int .i64 sg))(h9:∀ p1 c1 s2 d2 W,RN W (.slice p1 (aa z) c1) z.natAbs→RN W (.slice s2 (ag n) d2) n→CN 75 #[.slice p1 (aa z) c1,.slice s2 (ag n) d2] W g)(h10:∀ s1 d1 s2 d2 W,RN W (.slice s1 (ag g) d1) g→RN W (.slice s2 (ag one) d2) one→CR 73 #[.slice s1 (ag g) d1,.slice s2 (ag one) d2] W (.int .i64 0))  :
 Calls Tryz.prog 28 #[.string a0] w fun e w'=>∃ p c s d,e=.returned (.tuple #[.agg #[.bool (ah z),.slice p (aa z) c,.slice s (ag n) d],.bool true])∧RN w' (.slice p (aa z) c) z.natAbs∧RN w' (.slice s (ag n) d) n∧Below w.heap.size w w':=by
 obtain ⟨C1,C2,C3,C4,C5,C6,C7,C8,C9⟩:=bZ h1 h2 h3 h4 h5 h6 h7 h8 h9;have C10:=hid h10;have k0:decide (0<k)=true:=decide_eq_true hk;have k1:0<k:=hk;clear hk;have s0:(sg==0)=false:=by rw[beq_eq_false_iff_ne];exact hsg
 have s1:¬ sg=0:=hsg;have s2:(sg != 0)=true:=by unfold bne;rw[s0];rfl
 have s3:decide (sg=0)=false:=decide_eq_false hsg;clear hsg h1 h2 h3 h4 h5 h6 h7 h8 h9 h10;go_enter func28,ntmps28
 go_upto_region 1 with fail
 refine ak w [(#[.bool false,.slice none 0 0,.slice none 0 0],50)] rfl ?_;rintro W0 ⟨k1,hb⟩;have rM:=hid (show Below w.heap.size w W0 from hb);have K1:=hid k1;clear k1 hb;go_wp2_with fail
 with_reducible refine(C1.o _).mono ?_
 rintro e W1 ⟨rfl,hb⟩;have K1:=hid (K1.o.below hb);have rV:=hbt rM hb;clear hb;go_wp2_with fail
 with_reducible refine(C2.o _).mono ?_
 rintro e W2 ⟨rfl,hb⟩;have K1:=hid (K1.o.below hb);have p8:=hbt rV hb;clear hb;go_wp2_with fail
 with_reducible refine(C3.o _).mono ?_
 rintro e W3 ⟨rfl,hb⟩;have K1:=hid (K1.o.below hb);have pq:=hbt p8 hb;clear hb;go_wp2_with fail
 with_reducible refine(C4.o _).mono ?_
 rintro e W4 ⟨u6,w9,rfl,wm,hb⟩;have K1:=hid (K1.o.below hb);have oV:=hbt pq hb;have RZ:=hid wm;clear hb wm;go_wp2_with fail
 with_reducible refine(C5.o _).mono ?_
 rintro e W5 ⟨wo,wu,rfl,sj,hb⟩;obtain ⟨K1,RZ⟩:=aO hb K1 RZ;have sw:=hbt oV hb;have RM:=hid sj;clear hb sj;go_upto_region 5 with fail
 refine ak W5 [(#[.bool (ah z),.slice u6 (aa z) w9,.slice wo (ag n) wu],50)] rfl ?_;have L1:=K1.o.lt;have L2:=sw.o.size;rintro W6 ⟨k2,hb⟩;have hb:Below W5.heap.size W5 W6:=hb;obtain ⟨K1,RZ,RM⟩:=bA hb K1 RZ RM;have mf:=hbt sw hb;have K2:=hid k2;clear k2 hb;go_wp2_with fail
 with_reducible refine(C6.o _).mono ?_
 rintro e W7 ⟨p_6,c_6,rfl,ma,hb⟩;obtain ⟨K1,K2,RZ,RM⟩:=bR hb K1 K2 RZ RM;have l6:=hbt mf hb;have RO:=hid ma;clear hb ma;have ww:=K2.o.cell (i:=2) rfl;go_wp2_with fail
 with_reducible refine(C7.o _ _ _ _ _ RM.o RO.o).mono ?_
 rintro e W8 ⟨rfl,hb⟩;clear ww;obtain ⟨K1,K2,RZ,RM,RO⟩:=eQ hb K1 K2 RZ RM RO;have lg:=hbt l6 hb;clear hb;obtain ⟨mi,si⟩:=ay K2.o rfl rfl;go_wp2_with fail
 with_reducible refine(C8.o _ _ _ RZ.o).mono ?_
 rintro e W9 ⟨rfl,hb⟩;clear mi si;obtain ⟨K1,K2,RZ,RM,RO⟩:=eQ hb K1 K2 RZ RM RO;have lv:=hbt lg hb;clear hb;have si:=K2.o.cell (i:=1) rfl;have ww:=K2.o.cell (i:=2) rfl;go_wp2_with fail
 with_reducible refine(C9.o _ _ _ _ _ RZ.o RM.o).mono ?_
 rintro e W10 ⟨gy,fq,rfl,l5,hb⟩;clear si ww;obtain ⟨K1,K2,RZ,RM,RO⟩:=eQ hb K1 K2 RZ RM RO;have fQ:=hbt lv hb;have RG:=hid l5;clear hb l5;go_wp2_with fail
 with_reducible refine(C10.o _ _ _ _ _ RG.o RO.o).mono ?_
 rintro e W11 ⟨rfl,hb⟩;obtain ⟨K1,K2,RZ,RM⟩:=bR hb K1 K2 RZ RM;have u03:=hbt fQ hb;clear hb;obtain ⟨mi,si,ww⟩:=aC K2.o rfl rfl rfl;obtain ⟨pu,ol,oM⟩:=aC K1.o rfl rfl rfl;obtain ⟨kz,kM,kV⟩:=bB K1.o;go_wp2;exact bodyPost_ret (v:=.tuple #[.agg #[.bool (ah z),.slice u6 (aa z) w9,.slice wo (ag n) wu],.bool true]) (by simp[results,results28,go_sem,pu,ol,oM]) rfl ⟨_,_,_,_,rfl,(bf [.bool (ah z),.slice u6 (aa z) w9,.slice wo (ag n) wu] RZ.o K1.o (by simp[bJ]) (by simp[aW])),(bf [.bool (ah z),.slice u6 (aa z) w9,.slice wo (ag n) wu] RM.o K1.o (by simp[bJ]) (by simp[aW])),(aj (l:=[.bool (ah z),.slice u6 (aa z) w9,.slice wo (ag n) wu]) (i:=0) (by omega) u03.o)⟩
theorem zS (a0 x0 y0:ByteArray)(z k zz:Int)(n one dz:Nat)(hk:k≤0)  (w:World)(h1:CQ 68 #[.string a0] (.tuple #[.string x0,.string y0,.bool true]))(h2:CQ 69 #[.string x0] (.bool true))(h3:CQ 70 #[.string y0] (.bool true))(h4:∀ W,CZ 71 #[.string x0] W z)(h5:∀ W,CN 72 #[.string y0] W n)(h6:∀ W,CN 67 #[.int .u32 1] W one)(h7:∀ s1 d1 s2 d2 W,RN W (.slice s1 (ag n) d1) n→RN W (.slice s2 (ag one) d2) one→CR 73 #[.slice s1 (ag n) d1,.slice s2 (ag one) d2] W (.int .i64 k))(h11:∀ W,CF 27 #[.int .i64 0] W zz dz)  :
 Calls Tryz.prog 28 #[.string a0] w fun e w'=>∃ p c s d,e=.returned (.tuple #[.agg #[.bool (ah zz),.slice p (aa zz) c,.slice s (ag dz) d],.bool false])∧RN w' (.slice p (aa zz) c) zz.natAbs∧RN w' (.slice s (ag dz) d) dz∧Below w.heap.size w w':=by
 obtain ⟨C1,C2,C3,C4,C5,C6,C7,C11⟩:=jf h1 h2 h3 h4 h5 h6 h7 h11;have k0:decide (0<k)=false:=decide_eq_false (by omega);have k1:k≤0:=hk;clear hk h1 h2 h3 h4 h5 h6 h7 h11;go_enter func28,ntmps28
 go_upto_region 1 with fail
 refine ak w [(#[.bool false,.slice none 0 0,.slice none 0 0],50)] rfl ?_;rintro W0 ⟨k1,hb⟩;have rM:=hid (show Below w.heap.size w W0 from hb);have K1:=hid k1;clear k1 hb;go_wp2_with fail
 with_reducible refine(C1.o _).mono ?_
 rintro e W1 ⟨rfl,hb⟩;have K1:=hid (K1.o.below hb);have rV:=hbt rM hb;clear hb;go_wp2_with fail
 with_reducible refine(C2.o _).mono ?_
 rintro e W2 ⟨rfl,hb⟩;have K1:=hid (K1.o.below hb);have p8:=hbt rV hb;clear hb;go_wp2_with fail
 with_reducible refine(C3.o _).mono ?_
 rintro e W3 ⟨rfl,hb⟩;have K1:=hid (K1.o.below hb);have pq:=hbt p8 hb;clear hb;go_wp2_with fail
 with_reducible refine(C4.o _).mono ?_
 rintro e W4 ⟨u6,w9,rfl,wm,hb⟩;have K1:=hid (K1.o.below hb);have oV:=hbt pq hb;have RZ:=hid wm;clear hb wm;go_wp2_with fail
 with_reducible refine(C5.o _).mono ?_
 rintro e W5 ⟨wo,wu,rfl,sj,hb⟩;have K1:=hid (K1.o.below hb);have sw:=hbt oV hb;have RM:=hid sj;clear hb sj;go_upto_region 5 with fail
 refine ak W5 [(#[.bool (ah z),.slice u6 (aa z) w9,.slice wo (ag n) wu],50)] rfl ?_;have L1:=K1.o.lt;have L2:=sw.o.size;rintro W6 ⟨k2,hb⟩;have hb:Below W5.heap.size W5 W6:=hb;obtain ⟨K1,RM⟩:=aO hb K1 RM;have mf:=hbt sw hb;have K2:=hid k2;clear k2 hb;go_wp2_with fail
 with_reducible refine(C6.o _).mono ?_
 rintro e W7 ⟨p_6,c_6,rfl,ma,hb⟩;obtain ⟨K1,K2,RM⟩:=bA hb K1 K2 RM;have l6:=hbt mf hb;have RO:=hid ma;clear hb ma;have ww:=K2.o.cell (i:=2) rfl;go_wp2_with fail
 with_reducible refine(C7.o _ _ _ _ _ RM.o RO.o).mono ?_
 rintro e W8 ⟨rfl,hb⟩;clear ww;obtain ⟨K1,K2⟩:=aO hb K1 K2;have lg:=hbt l6 hb;clear hb;obtain ⟨mi,si,ww⟩:=aC K2.o rfl rfl rfl;go_wp2_with fail
 with_reducible refine(C11.o _).mono ?_
 rintro e W9 ⟨cO,bg,bn,bq,rfl,u07,u08,hb⟩;clear mi si ww;have K1:=hid (K1.o.below hb);have lv:=hbt lg hb;have RQ:=hid u07;have TQ:=hid u08;clear hb u07 u08;obtain ⟨pu,ol,oM⟩:=aC K1.o rfl rfl rfl;obtain ⟨kz,kM,kV⟩:=bB K1.o;go_wp2;exact bodyPost_ret (v:=.tuple #[.agg #[.bool (ah zz),.slice cO (aa zz) bg,.slice bn (ag dz) bq],.bool false]) (by simp[results,results28,go_sem,pu,ol,oM]) rfl ⟨_,_,_,_,rfl,(bf [.bool (ah zz),.slice cO (aa zz) bg,.slice bn (ag dz) bq] RQ.o K1.o (by simp[bJ]) (by simp[aW])),(bf [.bool (ah zz),.slice cO (aa zz) bg,.slice bn (ag dz) bq] TQ.o K1.o (by simp[bJ]) (by simp[aW])),(aj (l:=[.bool (ah zz),.slice cO (aa zz) bg,.slice bn (ag dz) bq]) (i:=0) (by omega) lv.o)⟩
theorem z1v (a0 x0 y0:ByteArray)(z k zz:Int)(n one dz:Nat)(hk:0<k)  (w:World)(h1:CQ 68 #[.string a0] (.tuple #[.string x0,.string y0,.bool true]))(h2:CQ 69 #[.string x0] (.bool true))(h3:CQ 70 #[.string y0] (.bool true))(h4:∀ W,CZ 71 #[.string x0] W z)(h5:∀ W,CN 72 #[.string y0] W n)(h6:∀ W,CN 67 #[.int .u32 1] W one)(h7:∀ s1 d1 s2 d2 W,RN W (.slice s1 (ag n) d1) n→RN W (.slice s2 (ag one) d2) one→CR 73 #[.slice s1 (ag n) d1,.slice s2 (ag one) d2] W (.int .i64 k))(h8:∀ p1 c1 W,RN W (.slice p1 (aa z) c1) z.natAbs→CR 74 #[.agg #[.bool (ah z),.slice p1 (aa z) c1]] W (.int .i64 0))(h11:∀ W,CF 27 #[.int .i64 0] W zz dz)  :
 Calls Tryz.prog 28 #[.string a0] w fun e w'=>∃ p c s d,e=.returned (.tuple #[.agg #[.bool (ah zz),.slice p (aa zz) c,.slice s (ag dz) d],.bool false])∧RN w' (.slice p (aa zz) c) zz.natAbs∧RN w' (.slice s (ag dz) d) dz∧Below w.heap.size w w':=by
 obtain ⟨C1,C2,C3,C4,C5,C6,C7,C8,C11⟩:=bZ h1 h2 h3 h4 h5 h6 h7 h8 h11;have k0:decide (0<k)=true:=decide_eq_true hk;have k1:0<k:=hk;clear hk h1 h2 h3 h4 h5 h6 h7 h8 h11;go_enter func28,ntmps28
 go_upto_region 1 with fail
 refine ak w [(#[.bool false,.slice none 0 0,.slice none 0 0],50)] rfl ?_;rintro W0 ⟨k1,hb⟩;have rM:=hid (show Below w.heap.size w W0 from hb);have K1:=hid k1;clear k1 hb;go_wp2_with fail
 with_reducible refine(C1.o _).mono ?_
 rintro e W1 ⟨rfl,hb⟩;have K1:=hid (K1.o.below hb);have rV:=hbt rM hb;clear hb;go_wp2_with fail
 with_reducible refine(C2.o _).mono ?_
 rintro e W2 ⟨rfl,hb⟩;have K1:=hid (K1.o.below hb);have p8:=hbt rV hb;clear hb;go_wp2_with fail
 with_reducible refine(C3.o _).mono ?_
 rintro e W3 ⟨rfl,hb⟩;have K1:=hid (K1.o.below hb);have pq:=hbt p8 hb;clear hb;go_wp2_with fail
 with_reducible refine(C4.o _).mono ?_
 rintro e W4 ⟨u6,w9,rfl,wm,hb⟩;have K1:=hid (K1.o.below hb);have oV:=hbt pq hb;have RZ:=hid wm;clear hb wm;go_wp2_with fail
 with_reducible refine(C5.o _).mono ?_
 rintro e W5 ⟨wo,wu,rfl,sj,hb⟩;obtain ⟨K1,RZ⟩:=aO hb K1 RZ;have sw:=hbt oV hb;have RM:=hid sj;clear hb sj;go_upto_region 5 with fail
 refine ak W5 [(#[.bool (ah z),.slice u6 (aa z) w9,.slice wo (ag n) wu],50)] rfl ?_;have L1:=K1.o.lt;have L2:=sw.o.size;rintro W6 ⟨k2,hb⟩;have hb:Below W5.heap.size W5 W6:=hb;obtain ⟨K1,RZ,RM⟩:=bA hb K1 RZ RM;have mf:=hbt sw hb;have K2:=hid k2;clear k2 hb;go_wp2_with fail
 with_reducible refine(C6.o _).mono ?_
 rintro e W7 ⟨p_6,c_6,rfl,ma,hb⟩;obtain ⟨K1,K2,RZ,RM⟩:=bR hb K1 K2 RZ RM;have l6:=hbt mf hb;have RO:=hid ma;clear hb ma;have ww:=K2.o.cell (i:=2) rfl;go_wp2_with fail
 with_reducible refine(C7.o _ _ _ _ _ RM.o RO.o).mono ?_
 rintro e W8 ⟨rfl,hb⟩;clear ww;obtain ⟨K1,K2,RZ⟩:=bA hb K1 K2 RZ;have lg:=hbt l6 hb;clear hb;obtain ⟨mi,si⟩:=ay K2.o rfl rfl;go_wp2_with fail
 with_reducible refine(C8.o _ _ _ RZ.o).mono ?_
 rintro e W9 ⟨rfl,hb⟩;clear mi si;obtain ⟨K1,K2⟩:=aO hb K1 K2;have lv:=hbt lg hb;clear hb;have si:=K2.o.cell (i:=1) rfl;have ww:=K2.o.cell (i:=2) rfl;go_wp2_with fail
 with_reducible refine(C11.o _).mono ?_
 rintro e W10 ⟨gy,fq,bu,bv,rfl,l5,u09,hb⟩;clear si ww;have K1:=hid (K1.o.below hb);have fQ:=hbt lv hb;have RQ:=hid l5;have TQ:=hid u09;clear hb l5 u09;obtain ⟨pu,ol,oM⟩:=aC K1.o rfl rfl rfl;obtain ⟨kz,kM,kV⟩:=bB K1.o;go_wp2;exact bodyPost_ret (v:=.tuple #[.agg #[.bool (ah zz),.slice gy (aa zz) fq,.slice bu (ag dz) bv],.bool false]) (by simp[results,results28,go_sem,pu,ol,oM]) rfl ⟨_,_,_,_,rfl,(bf [.bool (ah zz),.slice gy (aa zz) fq,.slice bu (ag dz) bv] RQ.o K1.o (by simp[bJ]) (by simp[aW])),(bf [.bool (ah zz),.slice gy (aa zz) fq,.slice bu (ag dz) bv] TQ.o K1.o (by simp[bJ]) (by simp[aW])),(aj (l:=[.bool (ah zz),.slice gy (aa zz) fq,.slice bu (ag dz) bv]) (i:=0) (by omega) fQ.o)⟩
theorem wE (a0 x0 y0:ByteArray)(z k k2 sg zz:Int)(n one g dz:Nat)(hk:0<k)(hsg:sg≠0)(hk2:k2≠0)  (w:World)(h1:CQ 68 #[.string a0] (.tuple #[.string x0,.string y0,.bool true]))(h2:CQ 69 #[.string x0] (.bool true))(h3:CQ 70 #[.string y0] (.bool true))(h4:∀ W,CZ 71 #[.string x0] W z)(h5:∀ W,CN 72 #[.string y0] W n)(h6:∀ W,CN 67 #[.int .u32 1] W one)(h7:∀ s1 d1 s2 d2 W,RN W (.slice s1 (ag n) d1) n→RN W (.slice s2 (ag one) d2) one→CR 73 #[.slice s1 (ag n) d1,.slice s2 (ag one) d2] W (.int .i64 k))(h8:∀ p1 c1 W,RN W (.slice p1 (aa z) c1) z.natAbs→CR 74 #[.agg #[.bool (ah z),.slice p1 (aa z) c1]] W (.int .i64 sg))(h9:∀ p1 c1 s2 d2 W,RN W (.slice p1 (aa z) c1) z.natAbs→RN W (.slice s2 (ag n) d2) n→CN 75 #[.slice p1 (aa z) c1,.slice s2 (ag n) d2] W g)(h10:∀ s1 d1 s2 d2 W,RN W (.slice s1 (ag g) d1) g→RN W (.slice s2 (ag one) d2) one→CR 73 #[.slice s1 (ag g) d1,.slice s2 (ag one) d2] W (.int .i64 k2))(h11:∀ W,CF 27 #[.int .i64 0] W zz dz)  :
 Calls Tryz.prog 28 #[.string a0] w fun e w'=>∃ p c s d,e=.returned (.tuple #[.agg #[.bool (ah zz),.slice p (aa zz) c,.slice s (ag dz) d],.bool false])∧RN w' (.slice p (aa zz) c) zz.natAbs∧RN w' (.slice s (ag dz) d) dz∧Below w.heap.size w w':=by
 obtain ⟨C1,C2,C3,C4,C5,C6,C7,C8,C9⟩:=bZ h1 h2 h3 h4 h5 h6 h7 h8 h9;have C10:=hid h10;have C11:=hid h11;have k0:decide (0<k)=true:=decide_eq_true hk;have k1:0<k:=hk;clear hk;have s0:(sg==0)=false:=by rw[beq_eq_false_iff_ne];exact hsg
 have s1:¬ sg=0:=hsg;have s2:(sg != 0)=true:=by unfold bne;rw[s0];rfl
 have s3:decide (sg=0)=false:=decide_eq_false hsg;clear hsg;have q0:(k2==0)=false:=by rw[beq_eq_false_iff_ne];exact hk2
 have q1:¬ k2=0:=hk2;clear hk2 h1 h2 h3 h4 h5 h6 h7 h8 h9 h10 h11;go_enter func28,ntmps28
 go_upto_region 1 with fail
 refine ak w [(#[.bool false,.slice none 0 0,.slice none 0 0],50)] rfl ?_;rintro W0 ⟨k1,hb⟩;have rM:=hid (show Below w.heap.size w W0 from hb);have K1:=hid k1;clear k1 hb;go_wp2_with fail
 with_reducible refine(C1.o _).mono ?_
 rintro e W1 ⟨rfl,hb⟩;have K1:=hid (K1.o.below hb);have rV:=hbt rM hb;clear hb;go_wp2_with fail
 with_reducible refine(C2.o _).mono ?_
 rintro e W2 ⟨rfl,hb⟩;have K1:=hid (K1.o.below hb);have p8:=hbt rV hb;clear hb;go_wp2_with fail
 with_reducible refine(C3.o _).mono ?_
 rintro e W3 ⟨rfl,hb⟩;have K1:=hid (K1.o.below hb);have pq:=hbt p8 hb;clear hb;go_wp2_with fail
 with_reducible refine(C4.o _).mono ?_
 rintro e W4 ⟨u6,w9,rfl,wm,hb⟩;have K1:=hid (K1.o.below hb);have oV:=hbt pq hb;have RZ:=hid wm;clear hb wm;go_wp2_with fail
 with_reducible refine(C5.o _).mono ?_
 rintro e W5 ⟨wo,wu,rfl,sj,hb⟩;obtain ⟨K1,RZ⟩:=aO hb K1 RZ;have sw:=hbt oV hb;have RM:=hid sj;clear hb sj;go_upto_region 5 with fail
 refine ak W5 [(#[.bool (ah z),.slice u6 (aa z) w9,.slice wo (ag n) wu],50)] rfl ?_;have L1:=K1.o.lt;have L2:=sw.o.size;rintro W6 ⟨k2,hb⟩;have hb:Below W5.heap.size W5 W6:=hb;obtain ⟨K1,RZ,RM⟩:=bA hb K1 RZ RM;have mf:=hbt sw hb;have K2:=hid k2;clear k2 hb;go_wp2_with fail
 with_reducible refine(C6.o _).mono ?_
 rintro e W7 ⟨p_6,c_6,rfl,ma,hb⟩;obtain ⟨K1,K2,RZ,RM⟩:=bR hb K1 K2 RZ RM;have l6:=hbt mf hb;have RO:=hid ma;clear hb ma;have ww:=K2.o.cell (i:=2) rfl;go_wp2_with fail
 with_reducible refine(C7.o _ _ _ _ _ RM.o RO.o).mono ?_
 rintro e W8 ⟨rfl,hb⟩;clear ww;obtain ⟨K1,K2,RZ,RM,RO⟩:=eQ hb K1 K2 RZ RM RO;have lg:=hbt l6 hb;clear hb;obtain ⟨mi,si⟩:=ay K2.o rfl rfl;go_wp2_with fail
 with_reducible refine(C8.o _ _ _ RZ.o).mono ?_
 rintro e W9 ⟨rfl,hb⟩;clear mi si;obtain ⟨K1,K2,RZ,RM,RO⟩:=eQ hb K1 K2 RZ RM RO;have lv:=hbt lg hb;clear hb;have si:=K2.o.cell (i:=1) rfl;have ww:=K2.o.cell (i:=2) rfl;go_wp2_with fail
 with_reducible refine(C9.o _ _ _ _ _ RZ.o RM.o).mono ?_
 rintro e W10 ⟨gy,fq,rfl,l5,hb⟩;clear si ww;obtain ⟨K1,RO⟩:=aO hb K1 RO;have fQ:=hbt lv hb;have RG:=hid l5;clear hb l5;go_wp2_with fail
 with_reducible refine(C10.o _ _ _ _ _ RG.o RO.o).mono ?_
 rintro e W11 ⟨rfl,hb⟩;have K1:=hid (K1.o.below hb);have u03:=hbt fQ hb;clear hb;go_wp2_with fail
 with_reducible refine(C11.o _).mono ?_
 rintro e W12 ⟨bM,bV,af,u00,rfl,u0a,u0b,hb⟩;have K1:=hid (K1.o.below hb);have u0c:=hbt u03 hb;have RQ:=hid u0a;have TQ:=hid u0b;clear hb u0a u0b;obtain ⟨pu,ol,oM⟩:=aC K1.o rfl rfl rfl;obtain ⟨kz,kM,kV⟩:=bB K1.o;go_wp2;exact bodyPost_ret (v:=.tuple #[.agg #[.bool (ah zz),.slice bM (aa zz) bV,.slice af (ag dz) u00],.bool false]) (by simp[results,results28,go_sem,pu,ol,oM]) rfl ⟨_,_,_,_,rfl,(bf [.bool (ah zz),.slice bM (aa zz) bV,.slice af (ag dz) u00] RQ.o K1.o (by simp[bJ]) (by simp[aW])),(bf [.bool (ah zz),.slice bM (aa zz) bV,.slice af (ag dz) u00] TQ.o K1.o (by simp[bJ]) (by simp[aW])),(aj (l:=[.bool (ah zz),.slice bM (aa zz) bV,.slice af (ag dz) u00]) (i:=0) (by omega) u0c.o)⟩
