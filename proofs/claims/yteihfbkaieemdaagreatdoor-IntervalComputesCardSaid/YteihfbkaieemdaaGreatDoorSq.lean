/- texts -/
import Derived.Test.YteihfbkaieemdaaGreatDoorMz29q
open Go.Proofs.Tryz
set_option maxRecDepth 100000
set_option maxHeartbeats 20000000
open Go.Lib (hid)
namespace Go.Proofs.YteihfbkaieemdaaGreatDoor
open Go.RowKit Go.Gb
theorem z2c (a0 x0 y0:ByteArray)(z:Int)(n:Nat)  (w:World)(h1:CQ 104 #[.string a0] (.tuple #[.string x0,.string y0,.bool false]))(h2:CQ 105 #[.string x0] (.bool true))(h3:CQ 106 #[.string y0] (.bool true))(h4:∀ W,CZ 107 #[.string x0] W z)(h5:∀ W,CN 108 #[.string y0] W n)  :
 Calls Tryz.prog 71 #[.string a0] w fun e w'=>∃ p c s d,e=.returned (.tuple #[.agg #[.bool (ai z),.slice p (ae z) c,.slice s (ag n) d],.bool true])∧RN w' (.slice p (ae z) c) z.natAbs∧RN w' (.slice s (ag n) d) n∧Below w.heap.size w w':=by
 obtain ⟨C1,C2,C3,C4,C5⟩:=bN h1 h2 h3 h4 h5;clear h1 h2 h3 h4 h5;go_enter func71,ntmps71
 go_upto_region 1 with fail
 refine ay w [(#[.bool false,.slice none 0 0,.slice none 0 0],54)] rfl ?_;rintro W0 ⟨k1,hb⟩;have rV:=hid (show Below w.heap.size w W0 from hb);have K1:=hid k1;clear k1 hb;go_wp2_with fail
 with_reducible refine(C1.o _).mono ?_
 rintro e W1 ⟨rfl,hb⟩;have K1:=hid (K1.o.below hb);have p8:=hbt rV hb;clear hb;go_wp2_with fail
 with_reducible refine(C2.o _).mono ?_
 rintro e W2 ⟨rfl,hb⟩;have K1:=hid (K1.o.below hb);have pq:=hbt p8 hb;clear hb;go_wp2_with fail
 with_reducible refine(C3.o _).mono ?_
 rintro e W3 ⟨rfl,hb⟩;have K1:=hid (K1.o.below hb);have ol:=hbt pq hb;clear hb;go_wp2_with fail
 with_reducible refine(C4.o _).mono ?_
 rintro e W4 ⟨u6,w9,rfl,wm,hb⟩;have K1:=hid (K1.o.below hb);have mf:=hbt ol hb;have RZ:=hid wm;clear hb wm;go_wp2_with fail
 with_reducible refine(C5.o _).mono ?_
 rintro e W5 ⟨wo,wu,rfl,r9,hb⟩;obtain ⟨K1,RZ⟩:=aU hb K1 RZ;have rM:=hbt mf hb;have RM:=hid r9;clear hb r9;go_upto_region 5 with fail
 refine ay W5 [(#[.bool (ai z),.slice u6 (ae z) w9,.slice wo (ag n) wu],54)] rfl ?_;have L1:=K1.o.lt;have L2:=rM.o.size;rintro W6 ⟨k2,hb⟩;have hb:Below W5.heap.size W5 W6:=hb;obtain ⟨K1,RZ,RM⟩:=bP hb K1 RZ RM;have l5:=hbt rM hb;have K2:=hid k2;clear k2 hb;obtain ⟨l6,sw,ww⟩:=aO K2.o rfl rfl rfl;obtain ⟨oM,oV,ma⟩:=aO K1.o rfl rfl rfl;obtain ⟨kV,gy,gF⟩:=bZ K1.o;go_wp2;exact bodyPost_ret (v:=.tuple #[.agg #[.bool (ai z),.slice u6 (ae z) w9,.slice wo (ag n) wu],.bool true]) (by simp[results,results71,go_sem,oM,oV,ma]) rfl ⟨_,_,_,_,rfl,(bC [.bool (ai z),.slice u6 (ae z) w9,.slice wo (ag n) wu] RZ.o K1.o (by simp[bQ]) (by simp[bi])),(bC [.bool (ai z),.slice u6 (ae z) w9,.slice wo (ag n) wu] RM.o K1.o (by simp[bQ]) (by simp[bi])),(ax (l:=[.bool (ai z),.slice u6 (ae z) w9,.slice wo (ag n) wu]) (i:=0) (by omega) l5.o)⟩
theorem tC (a0 x0 y0:ByteArray)(zz:Int)(dz:Nat)(sl:Bool)  (w:World)(h1:CQ 104 #[.string a0] (.tuple #[.string x0,.string y0,.bool sl]))(h2:CQ 105 #[.string x0] (.bool false))(h11:∀ W,CF 50 #[.int .i64 0] W zz dz)  :
 Calls Tryz.prog 71 #[.string a0] w fun e w'=>∃ p c s d,e=.returned (.tuple #[.agg #[.bool (ai zz),.slice p (ae zz) c,.slice s (ag dz) d],.bool false])∧RN w' (.slice p (ae zz) c) zz.natAbs∧RN w' (.slice s (ag dz) d) dz∧Below w.heap.size w w':=by
 obtain ⟨C1,C2,C11⟩:=ak h1 h2 h11;clear h1 h2 h11;go_enter func71,ntmps71
 go_upto_region 1 with fail
 refine ay w [(#[.bool false,.slice none 0 0,.slice none 0 0],54)] rfl ?_;rintro W0 ⟨k1,hb⟩;have rV:=hid (show Below w.heap.size w W0 from hb);have K1:=hid k1;clear k1 hb;go_wp2_with fail
 with_reducible refine(C1.o _).mono ?_
 rintro e W1 ⟨rfl,hb⟩;have K1:=hid (K1.o.below hb);have p8:=hbt rV hb;clear hb;go_wp2_with fail
 with_reducible refine(C2.o _).mono ?_
 rintro e W2 ⟨rfl,hb⟩;have K1:=hid (K1.o.below hb);have pq:=hbt p8 hb;clear hb;go_wp2_with fail
 with_reducible refine(C11.o _).mono ?_
 rintro e W3 ⟨dn,dx,dX,dY,rfl,u04,u05,hb⟩;have K1:=hid (K1.o.below hb);have ol:=hbt pq hb;have RQ:=hid u04;have TQ:=hid u05;clear hb u04 u05;obtain ⟨oM,oV,ma⟩:=aO K1.o rfl rfl rfl;obtain ⟨kV,gy,gF⟩:=bZ K1.o;go_wp2;exact bodyPost_ret (v:=.tuple #[.agg #[.bool (ai zz),.slice dn (ae zz) dx,.slice dX (ag dz) dY],.bool false]) (by simp[results,results71,go_sem,oM,oV,ma]) rfl ⟨_,_,_,_,rfl,(bC [.bool (ai zz),.slice dn (ae zz) dx,.slice dX (ag dz) dY] RQ.o K1.o (by simp[bQ]) (by simp[bi])),(bC [.bool (ai zz),.slice dn (ae zz) dx,.slice dX (ag dz) dY] TQ.o K1.o (by simp[bQ]) (by simp[bi])),(ax (l:=[.bool (ai zz),.slice dn (ae zz) dx,.slice dX (ag dz) dY]) (i:=0) (by omega) ol.o)⟩
theorem z0p (a0 x0 y0:ByteArray)(zz:Int)(dz:Nat)(sl:Bool)  (w:World)(h1:CQ 104 #[.string a0] (.tuple #[.string x0,.string y0,.bool sl]))(h2:CQ 105 #[.string x0] (.bool true))(h3:CQ 106 #[.string y0] (.bool false))(h11:∀ W,CF 50 #[.int .i64 0] W zz dz)  :
 Calls Tryz.prog 71 #[.string a0] w fun e w'=>∃ p c s d,e=.returned (.tuple #[.agg #[.bool (ai zz),.slice p (ae zz) c,.slice s (ag dz) d],.bool false])∧RN w' (.slice p (ae zz) c) zz.natAbs∧RN w' (.slice s (ag dz) d) dz∧Below w.heap.size w w':=by
 obtain ⟨C1,C2,C3,C11⟩:=aH h1 h2 h3 h11;clear h1 h2 h3 h11;go_enter func71,ntmps71
 go_upto_region 1 with fail
 refine ay w [(#[.bool false,.slice none 0 0,.slice none 0 0],54)] rfl ?_;rintro W0 ⟨k1,hb⟩;have rV:=hid (show Below w.heap.size w W0 from hb);have K1:=hid k1;clear k1 hb;go_wp2_with fail
 with_reducible refine(C1.o _).mono ?_
 rintro e W1 ⟨rfl,hb⟩;have K1:=hid (K1.o.below hb);have p8:=hbt rV hb;clear hb;go_wp2_with fail
 with_reducible refine(C2.o _).mono ?_
 rintro e W2 ⟨rfl,hb⟩;have K1:=hid (K1.o.below hb);have pq:=hbt p8 hb;clear hb;go_wp2_with fail
 with_reducible refine(C3.o _).mono ?_
 rintro e W3 ⟨rfl,hb⟩;have K1:=hid (K1.o.below hb);have ol:=hbt pq hb;clear hb;go_wp2_with fail
 with_reducible refine(C11.o _).mono ?_
 rintro e W4 ⟨u6,w9,cO,bg,rfl,wm,u06,hb⟩;have K1:=hid (K1.o.below hb);have mf:=hbt ol hb;have RQ:=hid wm;have TQ:=hid u06;clear hb wm u06;obtain ⟨oM,oV,ma⟩:=aO K1.o rfl rfl rfl;obtain ⟨kV,gy,gF⟩:=bZ K1.o;go_wp2;exact bodyPost_ret (v:=.tuple #[.agg #[.bool (ai zz),.slice u6 (ae zz) w9,.slice cO (ag dz) bg],.bool false]) (by simp[results,results71,go_sem,oM,oV,ma]) rfl ⟨_,_,_,_,rfl,(bC [.bool (ai zz),.slice u6 (ae zz) w9,.slice cO (ag dz) bg] RQ.o K1.o (by simp[bQ]) (by simp[bi])),(bC [.bool (ai zz),.slice u6 (ae zz) w9,.slice cO (ag dz) bg] TQ.o K1.o (by simp[bQ]) (by simp[bi])),(ax (l:=[.bool (ai zz),.slice u6 (ae zz) w9,.slice cO (ag dz) bg]) (i:=0) (by omega) mf.o)⟩
theorem z0o (a0 x0 y0:ByteArray)(z k sg:Int)(n one g:Nat)(hk:0<k)(hsg:sg≠0)  (w:World)(h1:CQ 104 #[.string a0] (.tuple #[.string x0,.string y0,.bool true]))(h2:CQ 105 #[.string x0] (.bool true))(h3:CQ 106 #[.string y0] (.bool true))(h4:∀ W,CZ 107 #[.string x0] W z)(h5:∀ W,CN 108 #[.string y0] W n)(h6:∀ W,CN 76 #[.int .u32 1] W one)(h7:∀ s1 d1 s2 d2 W,RN W (.slice s1 (ag n) d1) n→RN W (.slice s2 (ag one) d2) one→CR 101 #[.slice s1 (ag n) d1,.slice s2 (ag one) d2] W (.int .i64 k))(h8:∀ p1 c1 W,RN W (.slice p1 (ae z) c1) z.natAbs→CR 103 #[.agg #[.bool (ai z),.slice p1 (ae z) c1]] W (.int .i64 sg))(h9:∀ p1 c1 s2 d2 W,RN W (.slice p1 (ae z) c1) z.natAbs→RN W (.slice s2 (ag n) d2) n→CN 109 #[.slice p1 (ae z) c1,.slice s2 (ag n) d2] W g)(h10:∀ s1 d1 s2 d2 W,RN W (.slice s1 (ag g) d1) g→RN W (.slice s2 (ag one) d2) one→CR 101 #[.slice s1 (ag g) d1,.slice s2 (ag one) d2] W (.int .i64 0))  :
 Calls Tryz.prog 71 #[.string a0] w fun e w'=>∃ p c s d,e=.returned (.tuple #[.agg #[.bool (ai z),.slice p (ae z) c,.slice s (ag n) d],.bool true])∧RN w' (.slice p (ae z) c) z.natAbs∧RN w' (.slice s (ag n) d) n∧Below w.heap.size w w':=by
 obtain ⟨C1,C2,C3,C4,C5,C6,C7,C8,C9⟩:=d9 h1 h2 h3 h4 h5 h6 h7 h8 h9;have C10:=hid h10;have k0:decide (0<k)=true:=decide_eq_true hk;have k1:0<k:=hk;clear hk;have s0:(sg==0)=false:=by rw[beq_eq_false_iff_ne];exact hsg
 have s1:¬ sg=0:=hsg;have s2:(sg != 0)=true:=by unfold bne;rw[s0];rfl
 have s3:decide (sg=0)=false:=decide_eq_false hsg;clear hsg h1 h2 h3 h4 h5 h6 h7 h8 h9 h10;go_enter func71,ntmps71
 go_upto_region 1 with fail
 refine ay w [(#[.bool false,.slice none 0 0,.slice none 0 0],54)] rfl ?_;rintro W0 ⟨k1,hb⟩;have rV:=hid (show Below w.heap.size w W0 from hb);have K1:=hid k1;clear k1 hb;go_wp2_with fail
 with_reducible refine(C1.o _).mono ?_
 rintro e W1 ⟨rfl,hb⟩;have K1:=hid (K1.o.below hb);have p8:=hbt rV hb;clear hb;go_wp2_with fail
 with_reducible refine(C2.o _).mono ?_
 rintro e W2 ⟨rfl,hb⟩;have K1:=hid (K1.o.below hb);have pq:=hbt p8 hb;clear hb;go_wp2_with fail
 with_reducible refine(C3.o _).mono ?_
 rintro e W3 ⟨rfl,hb⟩;have K1:=hid (K1.o.below hb);have ol:=hbt pq hb;clear hb;go_wp2_with fail
 with_reducible refine(C4.o _).mono ?_
 rintro e W4 ⟨u6,w9,rfl,wm,hb⟩;have K1:=hid (K1.o.below hb);have mf:=hbt ol hb;have RZ:=hid wm;clear hb wm;go_wp2_with fail
 with_reducible refine(C5.o _).mono ?_
 rintro e W5 ⟨wo,wu,rfl,r9,hb⟩;obtain ⟨K1,RZ⟩:=aU hb K1 RZ;have rM:=hbt mf hb;have RM:=hid r9;clear hb r9;go_upto_region 5 with fail
 refine ay W5 [(#[.bool (ai z),.slice u6 (ae z) w9,.slice wo (ag n) wu],54)] rfl ?_;have L1:=K1.o.lt;have L2:=rM.o.size;rintro W6 ⟨k2,hb⟩;have hb:Below W5.heap.size W5 W6:=hb;obtain ⟨K1,RZ,RM⟩:=bP hb K1 RZ RM;have l5:=hbt rM hb;have K2:=hid k2;clear k2 hb;go_wp2_with fail
 with_reducible refine(C6.o _).mono ?_
 rintro e W7 ⟨p_6,c_6,rfl,mi,hb⟩;obtain ⟨K1,K2,RZ,RM⟩:=bF hb K1 K2 RZ RM;have lv:=hbt l5 hb;have RO:=hid mi;clear hb mi;have ww:=K2.o.cell (i:=2) rfl;go_wp2_with fail
 with_reducible refine(C7.o _ _ _ _ _ RM.o RO.o).mono ?_
 rintro e W8 ⟨rfl,hb⟩;clear ww;obtain ⟨K1,K2,RZ,RM,RO⟩:=eH hb K1 K2 RZ RM RO;have kz:=hbt lv hb;clear hb;obtain ⟨l6,sw⟩:=av K2.o rfl rfl;go_wp2_with fail
 with_reducible refine(C8.o _ _ _ RZ.o).mono ?_
 rintro e W9 ⟨rfl,hb⟩;clear l6 sw;obtain ⟨K1,K2,RZ,RM,RO⟩:=eH hb K1 K2 RZ RM RO;have kM:=hbt kz hb;clear hb;have sw:=K2.o.cell (i:=1) rfl;have ww:=K2.o.cell (i:=2) rfl;go_wp2_with fail
 with_reducible refine(C9.o _ _ _ _ _ RZ.o RM.o).mono ?_
 rintro e W10 ⟨fq,fQ,rfl,lg,hb⟩;clear sw ww;obtain ⟨K1,K2,RZ,RM,RO⟩:=eH hb K1 K2 RZ RM RO;have ed:=hbt kM hb;have RG:=hid lg;clear hb lg;go_wp2_with fail
 with_reducible refine(C10.o _ _ _ _ _ RG.o RO.o).mono ?_
 rintro e W11 ⟨rfl,hb⟩;obtain ⟨K1,K2,RZ,RM⟩:=bF hb K1 K2 RZ RM;have u03:=hbt ed hb;clear hb;obtain ⟨l6,sw,ww⟩:=aO K2.o rfl rfl rfl;obtain ⟨oM,oV,ma⟩:=aO K1.o rfl rfl rfl;obtain ⟨kV,gy,gF⟩:=bZ K1.o;go_wp2;exact bodyPost_ret (v:=.tuple #[.agg #[.bool (ai z),.slice u6 (ae z) w9,.slice wo (ag n) wu],.bool true]) (by simp[results,results71,go_sem,oM,oV,ma]) rfl ⟨_,_,_,_,rfl,(bC [.bool (ai z),.slice u6 (ae z) w9,.slice wo (ag n) wu] RZ.o K1.o (by simp[bQ]) (by simp[bi])),(bC [.bool (ai z),.slice u6 (ae z) w9,.slice wo (ag n) wu] RM.o K1.o (by simp[bQ]) (by simp[bi])),(ax (l:=[.bool (ai z),.slice u6 (ae z) w9,.slice wo (ag n) wu]) (i:=0) (by omega) u03.o)⟩
theorem yx (a0 x0 y0:ByteArray)(z k zz:Int)(n one dz:Nat)(hk:k≤0)  (w:World)(h1:CQ 104 #[.string a0] (.tuple #[.string x0,.string y0,.bool true]))(h2:CQ 105 #[.string x0] (.bool true))(h3:CQ 106 #[.string y0] (.bool true))(h4:∀ W,CZ 107 #[.string x0] W z)(h5:∀ W,CN 108 #[.string y0] W n)(h6:∀ W,CN 76 #[.int .u32 1] W one)(h7:∀ s1 d1 s2 d2 W,RN W (.slice s1 (ag n) d1) n→RN W (.slice s2 (ag one) d2) one→CR 101 #[.slice s1 (ag n) d1,.slice s2 (ag one) d2] W (.int .i64 k))(h11:∀ W,CF 50 #[.int .i64 0] W zz dz)  :
 Calls Tryz.prog 71 #[.string a0] w fun e w'=>∃ p c s d,e=.returned (.tuple #[.agg #[.bool (ai zz),.slice p (ae zz) c,.slice s (ag dz) d],.bool false])∧RN w' (.slice p (ae zz) c) zz.natAbs∧RN w' (.slice s (ag dz) d) dz∧Below w.heap.size w w':=by
 obtain ⟨C1,C2,C3,C4,C5,C6,C7,C11⟩:=gB h1 h2 h3 h4 h5 h6 h7 h11;have k0:decide (0<k)=false:=decide_eq_false (by omega);have k1:k≤0:=hk;clear hk h1 h2 h3 h4 h5 h6 h7 h11;go_enter func71,ntmps71
 go_upto_region 1 with fail
 refine ay w [(#[.bool false,.slice none 0 0,.slice none 0 0],54)] rfl ?_;rintro W0 ⟨k1,hb⟩;have rV:=hid (show Below w.heap.size w W0 from hb);have K1:=hid k1;clear k1 hb;go_wp2_with fail
 with_reducible refine(C1.o _).mono ?_
 rintro e W1 ⟨rfl,hb⟩;have K1:=hid (K1.o.below hb);have p8:=hbt rV hb;clear hb;go_wp2_with fail
 with_reducible refine(C2.o _).mono ?_
 rintro e W2 ⟨rfl,hb⟩;have K1:=hid (K1.o.below hb);have pq:=hbt p8 hb;clear hb;go_wp2_with fail
 with_reducible refine(C3.o _).mono ?_
 rintro e W3 ⟨rfl,hb⟩;have K1:=hid (K1.o.below hb);have ol:=hbt pq hb;clear hb;go_wp2_with fail
 with_reducible refine(C4.o _).mono ?_
 rintro e W4 ⟨u6,w9,rfl,wm,hb⟩;have K1:=hid (K1.o.below hb);have mf:=hbt ol hb;have RZ:=hid wm;clear hb wm;go_wp2_with fail
 with_reducible refine(C5.o _).mono ?_
 rintro e W5 ⟨wo,wu,rfl,r9,hb⟩;have K1:=hid (K1.o.below hb);have rM:=hbt mf hb;have RM:=hid r9;clear hb r9;go_upto_region 5 with fail
 refine ay W5 [(#[.bool (ai z),.slice u6 (ae z) w9,.slice wo (ag n) wu],54)] rfl ?_;have L1:=K1.o.lt;have L2:=rM.o.size;rintro W6 ⟨k2,hb⟩;have hb:Below W5.heap.size W5 W6:=hb;obtain ⟨K1,RM⟩:=aU hb K1 RM;have l5:=hbt rM hb;have K2:=hid k2;clear k2 hb;go_wp2_with fail
 with_reducible refine(C6.o _).mono ?_
 rintro e W7 ⟨p_6,c_6,rfl,mi,hb⟩;obtain ⟨K1,K2,RM⟩:=bP hb K1 K2 RM;have lv:=hbt l5 hb;have RO:=hid mi;clear hb mi;have ww:=K2.o.cell (i:=2) rfl;go_wp2_with fail
 with_reducible refine(C7.o _ _ _ _ _ RM.o RO.o).mono ?_
 rintro e W8 ⟨rfl,hb⟩;clear ww;obtain ⟨K1,K2⟩:=aU hb K1 K2;have kz:=hbt lv hb;clear hb;obtain ⟨l6,sw,ww⟩:=aO K2.o rfl rfl rfl;go_wp2_with fail
 with_reducible refine(C11.o _).mono ?_
 rintro e W9 ⟨bn,bq,bu,bv,rfl,u07,u08,hb⟩;clear l6 sw ww;have K1:=hid (K1.o.below hb);have kM:=hbt kz hb;have RQ:=hid u07;have TQ:=hid u08;clear hb u07 u08;obtain ⟨oM,oV,ma⟩:=aO K1.o rfl rfl rfl;obtain ⟨kV,gy,gF⟩:=bZ K1.o;go_wp2;exact bodyPost_ret (v:=.tuple #[.agg #[.bool (ai zz),.slice bn (ae zz) bq,.slice bu (ag dz) bv],.bool false]) (by simp[results,results71,go_sem,oM,oV,ma]) rfl ⟨_,_,_,_,rfl,(bC [.bool (ai zz),.slice bn (ae zz) bq,.slice bu (ag dz) bv] RQ.o K1.o (by simp[bQ]) (by simp[bi])),(bC [.bool (ai zz),.slice bn (ae zz) bq,.slice bu (ag dz) bv] TQ.o K1.o (by simp[bQ]) (by simp[bi])),(ax (l:=[.bool (ai zz),.slice bn (ae zz) bq,.slice bu (ag dz) bv]) (i:=0) (by omega) kM.o)⟩
theorem z0n (a0 x0 y0:ByteArray)(z k zz:Int)(n one dz:Nat)(hk:0<k)  (w:World)(h1:CQ 104 #[.string a0] (.tuple #[.string x0,.string y0,.bool true]))(h2:CQ 105 #[.string x0] (.bool true))(h3:CQ 106 #[.string y0] (.bool true))(h4:∀ W,CZ 107 #[.string x0] W z)(h5:∀ W,CN 108 #[.string y0] W n)(h6:∀ W,CN 76 #[.int .u32 1] W one)(h7:∀ s1 d1 s2 d2 W,RN W (.slice s1 (ag n) d1) n→RN W (.slice s2 (ag one) d2) one→CR 101 #[.slice s1 (ag n) d1,.slice s2 (ag one) d2] W (.int .i64 k))(h8:∀ p1 c1 W,RN W (.slice p1 (ae z) c1) z.natAbs→CR 103 #[.agg #[.bool (ai z),.slice p1 (ae z) c1]] W (.int .i64 0))(h11:∀ W,CF 50 #[.int .i64 0] W zz dz)  :
 Calls Tryz.prog 71 #[.string a0] w fun e w'=>∃ p c s d,e=.returned (.tuple #[.agg #[.bool (ai zz),.slice p (ae zz) c,.slice s (ag dz) d],.bool false])∧RN w' (.slice p (ae zz) c) zz.natAbs∧RN w' (.slice s (ag dz) d) dz∧Below w.heap.size w w':=by
 obtain ⟨C1,C2,C3,C4,C5,C6,C7,C8,C11⟩:=d9 h1 h2 h3 h4 h5 h6 h7 h8 h11;have k0:decide (0<k)=true:=decide_eq_true hk;have k1:0<k:=hk;clear hk h1 h2 h3 h4 h5 h6 h7 h8 h11;go_enter func71,ntmps71
 go_upto_region 1 with fail
 refine ay w [(#[.bool false,.slice none 0 0,.slice none 0 0],54)] rfl ?_;rintro W0 ⟨k1,hb⟩;have rV:=hid (show Below w.heap.size w W0 from hb);have K1:=hid k1;clear k1 hb;go_wp2_with fail
 with_reducible refine(C1.o _).mono ?_
 rintro e W1 ⟨rfl,hb⟩;have K1:=hid (K1.o.below hb);have p8:=hbt rV hb;clear hb;go_wp2_with fail
 with_reducible refine(C2.o _).mono ?_
 rintro e W2 ⟨rfl,hb⟩;have K1:=hid (K1.o.below hb);have pq:=hbt p8 hb;clear hb;go_wp2_with fail
 with_reducible refine(C3.o _).mono ?_
 rintro e W3 ⟨rfl,hb⟩;have K1:=hid (K1.o.below hb);have ol:=hbt pq hb;clear hb;go_wp2_with fail
 with_reducible refine(C4.o _).mono ?_
 rintro e W4 ⟨u6,w9,rfl,wm,hb⟩;have K1:=hid (K1.o.below hb);have mf:=hbt ol hb;have RZ:=hid wm;clear hb wm;go_wp2_with fail
 with_reducible refine(C5.o _).mono ?_
 rintro e W5 ⟨wo,wu,rfl,r9,hb⟩;obtain ⟨K1,RZ⟩:=aU hb K1 RZ;have rM:=hbt mf hb;have RM:=hid r9;clear hb r9;go_upto_region 5 with fail
 refine ay W5 [(#[.bool (ai z),.slice u6 (ae z) w9,.slice wo (ag n) wu],54)] rfl ?_;have L1:=K1.o.lt;have L2:=rM.o.size;rintro W6 ⟨k2,hb⟩;have hb:Below W5.heap.size W5 W6:=hb;obtain ⟨K1,RZ,RM⟩:=bP hb K1 RZ RM;have l5:=hbt rM hb;have K2:=hid k2;clear k2 hb;go_wp2_with fail
 with_reducible refine(C6.o _).mono ?_
 rintro e W7 ⟨p_6,c_6,rfl,mi,hb⟩;obtain ⟨K1,K2,RZ,RM⟩:=bF hb K1 K2 RZ RM;have lv:=hbt l5 hb;have RO:=hid mi;clear hb mi;have ww:=K2.o.cell (i:=2) rfl;go_wp2_with fail
 with_reducible refine(C7.o _ _ _ _ _ RM.o RO.o).mono ?_
 rintro e W8 ⟨rfl,hb⟩;clear ww;obtain ⟨K1,K2,RZ⟩:=bP hb K1 K2 RZ;have kz:=hbt lv hb;clear hb;obtain ⟨l6,sw⟩:=av K2.o rfl rfl;go_wp2_with fail
 with_reducible refine(C8.o _ _ _ RZ.o).mono ?_
 rintro e W9 ⟨rfl,hb⟩;clear l6 sw;obtain ⟨K1,K2⟩:=aU hb K1 K2;have kM:=hbt kz hb;clear hb;have sw:=K2.o.cell (i:=1) rfl;have ww:=K2.o.cell (i:=2) rfl;go_wp2_with fail
 with_reducible refine(C11.o _).mono ?_
 rintro e W10 ⟨fq,fQ,bz,bM,rfl,lg,u09,hb⟩;clear sw ww;have K1:=hid (K1.o.below hb);have ed:=hbt kM hb;have RQ:=hid lg;have TQ:=hid u09;clear hb lg u09;obtain ⟨oM,oV,ma⟩:=aO K1.o rfl rfl rfl;obtain ⟨kV,gy,gF⟩:=bZ K1.o;go_wp2;exact bodyPost_ret (v:=.tuple #[.agg #[.bool (ai zz),.slice fq (ae zz) fQ,.slice bz (ag dz) bM],.bool false]) (by simp[results,results71,go_sem,oM,oV,ma]) rfl ⟨_,_,_,_,rfl,(bC [.bool (ai zz),.slice fq (ae zz) fQ,.slice bz (ag dz) bM] RQ.o K1.o (by simp[bQ]) (by simp[bi])),(bC [.bool (ai zz),.slice fq (ae zz) fQ,.slice bz (ag dz) bM] TQ.o K1.o (by simp[bQ]) (by simp[bi])),(ax (l:=[.bool (ai zz),.slice fq (ae zz) fQ,.slice bz (ag dz) bM]) (i:=0) (by omega) ed.o)⟩
theorem uV (a0 x0 y0:ByteArray)(z k k2 sg zz:Int)(n one g dz:Nat)(hk:0<k)(hsg:sg≠0)(hk2:k2≠0)  (w:World)(h1:CQ 104 #[.string a0] (.tuple #[.string x0,.string y0,.bool true]))(h2:CQ 105 #[.string x0] (.bool true))(h3:CQ 106 #[.string y0] (.bool true))(h4:∀ W,CZ 107 #[.string x0] W z)(h5:∀ W,CN 108 #[.string y0] W n)(h6:∀ W,CN 76 #[.int .u32 1] W one)(h7:∀ s1 d1 s2 d2 W,RN W (.slice s1 (ag n) d1) n→RN W (.slice s2 (ag one) d2) one→CR 101 #[.slice s1 (ag n) d1,.slice s2 (ag one) d2] W (.int .i64 k))(h8:∀ p1 c1 W,RN W (.slice p1 (ae z) c1) z.natAbs→CR 103 #[.agg #[.bool (ai z),.slice p1 (ae z) c1]] W (.int .i64 sg))(h9:∀ p1 c1 s2 d2 W,RN W (.slice p1 (ae z) c1) z.natAbs→RN W (.slice s2 (ag n) d2) n→CN 109 #[.slice p1 (ae z) c1,.slice s2 (ag n) d2] W g)(h10:∀ s1 d1 s2 d2 W,RN W (.slice s1 (ag g) d1) g→RN W (.slice s2 (ag one) d2) one→CR 101 #[.slice s1 (ag g) d1,.slice s2 (ag one) d2] W (.int .i64 k2))(h11:∀ W,CF 50 #[.int .i64 0] W zz dz)  :
 Calls Tryz.prog 71 #[.string a0] w fun e w'=>∃ p c s d,e=.returned (.tuple #[.agg #[.bool (ai zz),.slice p (ae zz) c,.slice s (ag dz) d],.bool false])∧RN w' (.slice p (ae zz) c) zz.natAbs∧RN w' (.slice s (ag dz) d) dz∧Below w.heap.size w w':=by
 obtain ⟨C1,C2,C3,C4,C5,C6,C7,C8,C9⟩:=d9 h1 h2 h3 h4 h5 h6 h7 h8 h9;have C10:=hid h10;have C11:=hid h11;have k0:decide (0<k)=true:=decide_eq_true hk;have k1:0<k:=hk;clear hk;have s0:(sg==0)=false:=by rw[beq_eq_false_iff_ne];exact hsg
 have s1:¬ sg=0:=hsg;have s2:(sg != 0)=true:=by unfold bne;rw[s0];rfl
 have s3:decide (sg=0)=false:=decide_eq_false hsg;clear hsg;have q0:(k2==0)=false:=by rw[beq_eq_false_iff_ne];exact hk2
 have q1:¬ k2=0:=hk2;clear hk2 h1 h2 h3 h4 h5 h6 h7 h8 h9 h10 h11;go_enter func71,ntmps71
 go_upto_region 1 with fail
 refine ay w [(#[.bool false,.slice none 0 0,.slice none 0 0],54)] rfl ?_;rintro W0 ⟨k1,hb⟩;have rV:=hid (show Below w.heap.size w W0 from hb);have K1:=hid k1;clear k1 hb;go_wp2_with fail
 with_reducible refine(C1.o _).mono ?_
 rintro e W1 ⟨rfl,hb⟩;have K1:=hid (K1.o.below hb);have p8:=hbt rV hb;clear hb;go_wp2_with fail
 with_reducible refine(C2.o _).mono ?_
 rintro e W2 ⟨rfl,hb⟩;have K1:=hid (K1.o.below hb);have pq:=hbt p8 hb;clear hb;go_wp2_with fail
 with_reducible refine(C3.o _).mono ?_
 rintro e W3 ⟨rfl,hb⟩;have K1:=hid (K1.o.below hb);have ol:=hbt pq hb;clear hb;go_wp2_with fail
 with_reducible refine(C4.o _).mono ?_
 rintro e W4 ⟨u6,w9,rfl,wm,hb⟩;have K1:=hid (K1.o.below hb);have mf:=hbt ol hb;have RZ:=hid wm;clear hb wm;go_wp2_with fail
 with_reducible refine(C5.o _).mono ?_
 rintro e W5 ⟨wo,wu,rfl,r9,hb⟩;obtain ⟨K1,RZ⟩:=aU hb K1 RZ;have rM:=hbt mf hb;have RM:=hid r9;clear hb r9;go_upto_region 5 with fail
 refine ay W5 [(#[.bool (ai z),.slice u6 (ae z) w9,.slice wo (ag n) wu],54)] rfl ?_;have L1:=K1.o.lt;have L2:=rM.o.size;rintro W6 ⟨k2,hb⟩;have hb:Below W5.heap.size W5 W6:=hb;obtain ⟨K1,RZ,RM⟩:=bP hb K1 RZ RM;have l5:=hbt rM hb;have K2:=hid k2;clear k2 hb;go_wp2_with fail
 with_reducible refine(C6.o _).mono ?_
 rintro e W7 ⟨p_6,c_6,rfl,mi,hb⟩;obtain ⟨K1,K2,RZ,RM⟩:=bF hb K1 K2 RZ RM;have lv:=hbt l5 hb;have RO:=hid mi;clear hb mi;have ww:=K2.o.cell (i:=2) rfl;go_wp2_with fail
 with_reducible refine(C7.o _ _ _ _ _ RM.o RO.o).mono ?_
 rintro e W8 ⟨rfl,hb⟩;clear ww;obtain ⟨K1,K2,RZ,RM,RO⟩:=eH hb K1 K2 RZ RM RO;have kz:=hbt lv hb;clear hb;obtain ⟨l6,sw⟩:=av K2.o rfl rfl;go_wp2_with fail
 with_reducible refine(C8.o _ _ _ RZ.o).mono ?_
 rintro e W9 ⟨rfl,hb⟩;clear l6 sw;obtain ⟨K1,K2,RZ,RM,RO⟩:=eH hb K1 K2 RZ RM RO;have kM:=hbt kz hb;clear hb;have sw:=K2.o.cell (i:=1) rfl;have ww:=K2.o.cell (i:=2) rfl;go_wp2_with fail
 with_reducible refine(C9.o _ _ _ _ _ RZ.o RM.o).mono ?_
 rintro e W10 ⟨fq,fQ,rfl,lg,hb⟩;clear sw ww;obtain ⟨K1,RO⟩:=aU hb K1 RO;have ed:=hbt kM hb;have RG:=hid lg;clear hb lg;go_wp2_with fail
 with_reducible refine(C10.o _ _ _ _ _ RG.o RO.o).mono ?_
 rintro e W11 ⟨rfl,hb⟩;have K1:=hid (K1.o.below hb);have u03:=hbt ed hb;clear hb;go_wp2_with fail
 with_reducible refine(C11.o _).mono ?_
 rintro e W12 ⟨bV,af,au,u00,rfl,u0a,u0b,hb⟩;have K1:=hid (K1.o.below hb);have u0c:=hbt u03 hb;have RQ:=hid u0a;have TQ:=hid u0b;clear hb u0a u0b;obtain ⟨oM,oV,ma⟩:=aO K1.o rfl rfl rfl;obtain ⟨kV,gy,gF⟩:=bZ K1.o;go_wp2;exact bodyPost_ret (v:=.tuple #[.agg #[.bool (ai zz),.slice bV (ae zz) af,.slice au (ag dz) u00],.bool false]) (by simp[results,results71,go_sem,oM,oV,ma]) rfl ⟨_,_,_,_,rfl,(bC [.bool (ai zz),.slice bV (ae zz) af,.slice au (ag dz) u00] RQ.o K1.o (by simp[bQ]) (by simp[bi])),(bC [.bool (ai zz),.slice bV (ae zz) af,.slice au (ag dz) u00] TQ.o K1.o (by simp[bQ]) (by simp[bi])),(ax (l:=[.bool (ai zz),.slice bV (ae zz) af,.slice au (ag dz) u00]) (i:=0) (by omega) u0c.o)⟩
