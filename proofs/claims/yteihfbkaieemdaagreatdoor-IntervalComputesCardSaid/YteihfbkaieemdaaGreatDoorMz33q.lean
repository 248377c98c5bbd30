/- texts -/
import Derived.Test.YteihfbkaieemdaaGreatDoorMz29q
open Go.Proofs.Tryz
set_option maxRecDepth 100000
set_option maxHeartbeats 20000000
open Go.Lib (hid)
namespace Go.Proofs.YteihfbkaieemdaaGreatDoor
open Go.RowKit Go.Gb
theorem z2a (a0 x0 y0:ByteArray)(z:Int)(n:Nat)  (w:World)(h1:CQ 104 #[.string a0] (.tuple #[.string x0,.string y0,.bool false]))(h2:CQ 105 #[.string x0] (.bool true))(h3:CQ 106 #[.string y0] (.bool true))(h4:∀ W,CZ 107 #[.string x0] W z)(h5:∀ W,CN 108 #[.string y0] W n)  :
 Calls Tryz.prog 71 #[.string a0] w fun e w'=>∃ p c s d,e=.returned (.tuple #[.agg #[.bool (ai z),.slice p (ae z) c,.slice s (ag n) d],.bool true])∧RN w' (.slice p (ae z) c) z.natAbs∧RN w' (.slice s (ag n) d) n∧Below w.heap.size w w':=by
 obtain ⟨C1,C2,C3,C4,C5⟩:=bK h1 h2 h3 h4 h5;clear h1 h2 h3 h4 h5;go_enter func71,ntmps71
 go_upto_region 1 with fail
 refine ay w [(#[.bool false,.slice none 0 0,.slice none 0 0],54)] rfl ?_;rintro W0 ⟨k1,hb⟩;have u6:=hid (show Below w.heap.size w W0 from hb);have K1:=hid k1;clear k1 hb;go_wp2_with fail
 with_reducible refine(C1.o _).mono ?_
 rintro e W1 ⟨rfl,hb⟩;have K1:=hid (K1.o.below hb);have wo:=hbt u6 hb;clear hb;go_wp2_with fail
 with_reducible refine(C2.o _).mono ?_
 rintro e W2 ⟨rfl,hb⟩;have K1:=hid (K1.o.below hb);have sw:=hbt wo hb;clear hb;go_wp2_with fail
 with_reducible refine(C3.o _).mono ?_
 rintro e W3 ⟨rfl,hb⟩;have K1:=hid (K1.o.below hb);have oM:=hbt sw hb;clear hb;go_wp2_with fail
 with_reducible refine(C4.o _).mono ?_
 rintro e W4 ⟨w9,wm,rfl,r9,hb⟩;have K1:=hid (K1.o.below hb);have l5:=hbt oM hb;have RZ:=hid r9;clear hb r9;go_wp2_with fail
 with_reducible refine(C5.o _).mono ?_
 rintro e W5 ⟨rM,rV,rfl,mf,hb⟩;obtain ⟨K1,RZ⟩:=aU hb K1 RZ;have mi:=hbt l5 hb;have RM:=hid mf;clear hb mf;go_upto_region 5 with fail
 refine ay W5 [(#[.bool (ai z),.slice w9 (ae z) wm,.slice rM (ag n) rV],54)] rfl ?_;have L1:=K1.o.lt;have L2:=mi.o.size;rintro W6 ⟨k2,hb⟩;have hb:Below W5.heap.size W5 W6:=hb;obtain ⟨K1,RZ,RM⟩:=bL hb K1 RZ RM;have gF:=hbt mi hb;have K2:=hid k2;clear k2 hb;obtain ⟨l6,ww,wu⟩:=aQ K2.o rfl rfl rfl;obtain ⟨p8,pq,ol⟩:=aQ K1.o rfl rfl rfl;obtain ⟨bv,bM,bV⟩:=bZ K1.o;go_wp2;exact bodyPost_ret (v:=.tuple #[.agg #[.bool (ai z),.slice w9 (ae z) wm,.slice rM (ag n) rV],.bool true]) (by simp[results,results71,go_sem,p8,pq,ol]) rfl ⟨_,_,_,_,rfl,(bB [.bool (ai z),.slice w9 (ae z) wm,.slice rM (ag n) rV] RZ.o K1.o (by simp[bQ]) (by simp[bi])),(bB [.bool (ai z),.slice w9 (ae z) wm,.slice rM (ag n) rV] RM.o K1.o (by simp[bQ]) (by simp[bi])),(ax (l:=[.bool (ai z),.slice w9 (ae z) wm,.slice rM (ag n) rV]) (i:=0) (by omega) gF.o)⟩
theorem sZ (a0 x0 y0:ByteArray)(zz:Int)(dz:Nat)(sl:Bool)  (w:World)(h1:CQ 104 #[.string a0] (.tuple #[.string x0,.string y0,.bool sl]))(h2:CQ 105 #[.string x0] (.bool false))(h11:∀ W,CF 50 #[.int .i64 0] W zz dz)  :
 Calls Tryz.prog 71 #[.string a0] w fun e w'=>∃ p c s d,e=.returned (.tuple #[.agg #[.bool (ai zz),.slice p (ae zz) c,.slice s (ag dz) d],.bool false])∧RN w' (.slice p (ae zz) c) zz.natAbs∧RN w' (.slice s (ag dz) d) dz∧Below w.heap.size w w':=by
 obtain ⟨C1,C2,C11⟩:=ak h1 h2 h11;clear h1 h2 h11;go_enter func71,ntmps71
 go_upto_region 1 with fail
 refine ay w [(#[.bool false,.slice none 0 0,.slice none 0 0],54)] rfl ?_;rintro W0 ⟨k1,hb⟩;have u6:=hid (show Below w.heap.size w W0 from hb);have K1:=hid k1;clear k1 hb;go_wp2_with fail
 with_reducible refine(C1.o _).mono ?_
 rintro e W1 ⟨rfl,hb⟩;have K1:=hid (K1.o.below hb);have wo:=hbt u6 hb;clear hb;go_wp2_with fail
 with_reducible refine(C2.o _).mono ?_
 rintro e W2 ⟨rfl,hb⟩;have K1:=hid (K1.o.below hb);have sw:=hbt wo hb;clear hb;go_wp2_with fail
 with_reducible refine(C11.o _).mono ?_
 rintro e W3 ⟨p_3,c_3,s_3,d_3,rfl,u0q,u0r,hb⟩;have K1:=hid (K1.o.below hb);have oM:=hbt sw hb;have RQ:=hid u0q;have TQ:=hid u0r;clear hb u0q u0r;obtain ⟨p8,pq,ol⟩:=aQ K1.o rfl rfl rfl;obtain ⟨bv,bM,bV⟩:=bZ K1.o;go_wp2;exact bodyPost_ret (v:=.tuple #[.agg #[.bool (ai zz),.slice p_3 (ae zz) c_3,.slice s_3 (ag dz) d_3],.bool false]) (by simp[results,results71,go_sem,p8,pq,ol]) rfl ⟨_,_,_,_,rfl,(bB [.bool (ai zz),.slice p_3 (ae zz) c_3,.slice s_3 (ag dz) d_3] RQ.o K1.o (by simp[bQ]) (by simp[bi])),(bB [.bool (ai zz),.slice p_3 (ae zz) c_3,.slice s_3 (ag dz) d_3] TQ.o K1.o (by simp[bQ]) (by simp[bi])),(ax (l:=[.bool (ai zz),.slice p_3 (ae zz) c_3,.slice s_3 (ag dz) d_3]) (i:=0) (by omega) oM.o)⟩
theorem z0n (a0 x0 y0:ByteArray)(zz:Int)(dz:Nat)(sl:Bool)  (w:World)(h1:CQ 104 #[.string a0] (.tuple #[.string x0,.string y0,.bool sl]))(h2:CQ 105 #[.string x0] (.bool true))(h3:CQ 106 #[.string y0] (.bool false))(h11:∀ W,CF 50 #[.int .i64 0] W zz dz)  :
 Calls Tryz.prog 71 #[.string a0] w fun e w'=>∃ p c s d,e=.returned (.tuple #[.agg #[.bool (ai zz),.slice p (ae zz) c,.slice s (ag dz) d],.bool false])∧RN w' (.slice p (ae zz) c) zz.natAbs∧RN w' (.slice s (ag dz) d) dz∧Below w.heap.size w w':=by
 obtain ⟨C1,C2,C3,C11⟩:=aJ h1 h2 h3 h11;clear h1 h2 h3 h11;go_enter func71,ntmps71
 go_upto_region 1 with fail
 refine ay w [(#[.bool false,.slice none 0 0,.slice none 0 0],54)] rfl ?_;rintro W0 ⟨k1,hb⟩;have u6:=hid (show Below w.heap.size w W0 from hb);have K1:=hid k1;clear k1 hb;go_wp2_with fail
 with_reducible refine(C1.o _).mono ?_
 rintro e W1 ⟨rfl,hb⟩;have K1:=hid (K1.o.below hb);have wo:=hbt u6 hb;clear hb;go_wp2_with fail
 with_reducible refine(C2.o _).mono ?_
 rintro e W2 ⟨rfl,hb⟩;have K1:=hid (K1.o.below hb);have sw:=hbt wo hb;clear hb;go_wp2_with fail
 with_reducible refine(C3.o _).mono ?_
 rintro e W3 ⟨rfl,hb⟩;have K1:=hid (K1.o.below hb);have oM:=hbt sw hb;clear hb;go_wp2_with fail
 with_reducible refine(C11.o _).mono ?_
 rintro e W4 ⟨w9,wm,s_4,d_4,rfl,r9,u0s,hb⟩;have K1:=hid (K1.o.below hb);have l5:=hbt oM hb;have RQ:=hid r9;have TQ:=hid u0s;clear hb r9 u0s;obtain ⟨p8,pq,ol⟩:=aQ K1.o rfl rfl rfl;obtain ⟨bv,bM,bV⟩:=bZ K1.o;go_wp2;exact bodyPost_ret (v:=.tuple #[.agg #[.bool (ai zz),.slice w9 (ae zz) wm,.slice s_4 (ag dz) d_4],.bool false]) (by simp[results,results71,go_sem,p8,pq,ol]) rfl ⟨_,_,_,_,rfl,(bB [.bool (ai zz),.slice w9 (ae zz) wm,.slice s_4 (ag dz) d_4] RQ.o K1.o (by simp[bQ]) (by simp[bi])),(bB [.bool (ai zz),.slice w9 (ae zz) wm,.slice s_4 (ag dz) d_4] TQ.o K1.o (by simp[bQ]) (by simp[bi])),(ax (l:=[.bool (ai zz),.slice w9 (ae zz) wm,.slice s_4 (ag dz) d_4]) (i:=0) (by omega) l5.o)⟩
theorem z0m (a0 x0 y0:ByteArray)(z k sg:Int)(n one g:Nat)(hk:0<k)(hsg:sg≠0)  (w:World)(h1:CQ 104 #[.string a0] (.tuple #[.string x0,.string y0,.bool true]))(h2:CQ 105 #[.string x0] (.bool true))(h3:CQ 106 #[.string y0] (.bool true))(h4:∀ W,CZ 107 #[.string x0] W z)(h5:∀ W,CN 108 #[.string y0] W n)(h6:∀ W,CN 76 #[.int .u32 1] W one)(h7:∀ s1 d1 s2 d2 W,RN W (.slice s1 (ag n) d1) n→RN W (.slice s2 (ag one) d2) one→CR 101 #[.slice s1 (ag n) d1,.slice s2 (ag one) d2] W (.int .i64 k))(h8:∀ p1 c1 W,RN W (.slice p1 (ae z) c1) z.natAbs→CR 103 #[.agg #[.bool (ai z),.slice p1 (ae z) c1]] W (.int .i64 sg))(h9:∀ p1 c1 s2 d2 W,RN W (.slice p1 (ae z) c1) z.natAbs→RN W (.slice s2 (ag n) d2) n→CN 109 #[.slice p1 (ae z) c1,.slice s2 (ag n) d2] W g)(h10:∀ s1 d1 s2 d2 W,RN W (.slice s1 (ag g) d1) g→RN W (.slice s2 (ag one) d2) one→CR 101 #[.slice s1 (ag g) d1,.slice s2 (ag one) d2] W (.int .i64 0))  :
 Calls Tryz.prog 71 #[.string a0] w fun e w'=>∃ p c s d,e=.returned (.tuple #[.agg #[.bool (ai z),.slice p (ae z) c,.slice s (ag n) d],.bool true])∧RN w' (.slice p (ae z) c) z.natAbs∧RN w' (.slice s (ag n) d) n∧Below w.heap.size w w':=by
 obtain ⟨C1,C2,C3,C4,C5,C6,C7,C8,C9⟩:=d9 h1 h2 h3 h4 h5 h6 h7 h8 h9;have C10:=hid h10;have k0:decide (0<k)=true:=decide_eq_true hk;have k1:0<k:=hk;clear hk;have s0:(sg==0)=false:=by rw[beq_eq_false_iff_ne];exact hsg
 have s1:¬ sg=0:=hsg;have s2:(sg != 0)=true:=by unfold bne;rw[s0];rfl
 have s3:decide (sg=0)=false:=decide_eq_false hsg;clear hsg h1 h2 h3 h4 h5 h6 h7 h8 h9 h10;go_enter func71,ntmps71
 go_upto_region 1 with fail
 refine ay w [(#[.bool false,.slice none 0 0,.slice none 0 0],54)] rfl ?_;rintro W0 ⟨k1,hb⟩;have u6:=hid (show Below w.heap.size w W0 from hb);have K1:=hid k1;clear k1 hb;go_wp2_with fail
 with_reducible refine(C1.o _).mono ?_
 rintro e W1 ⟨rfl,hb⟩;have K1:=hid (K1.o.below hb);have wo:=hbt u6 hb;clear hb;go_wp2_with fail
 with_reducible refine(C2.o _).mono ?_
 rintro e W2 ⟨rfl,hb⟩;have K1:=hid (K1.o.below hb);have sw:=hbt wo hb;clear hb;go_wp2_with fail
 with_reducible refine(C3.o _).mono ?_
 rintro e W3 ⟨rfl,hb⟩;have K1:=hid (K1.o.below hb);have oM:=hbt sw hb;clear hb;go_wp2_with fail
 with_reducible refine(C4.o _).mono ?_
 rintro e W4 ⟨w9,wm,rfl,r9,hb⟩;have K1:=hid (K1.o.below hb);have l5:=hbt oM hb;have RZ:=hid r9;clear hb r9;go_wp2_with fail
 with_reducible refine(C5.o _).mono ?_
 rintro e W5 ⟨rM,rV,rfl,mf,hb⟩;obtain ⟨K1,RZ⟩:=aU hb K1 RZ;have mi:=hbt l5 hb;have RM:=hid mf;clear hb mf;go_upto_region 5 with fail
 refine ay W5 [(#[.bool (ai z),.slice w9 (ae z) wm,.slice rM (ag n) rV],54)] rfl ?_;have L1:=K1.o.lt;have L2:=mi.o.size;rintro W6 ⟨k2,hb⟩;have hb:Below W5.heap.size W5 W6:=hb;obtain ⟨K1,RZ,RM⟩:=bL hb K1 RZ RM;have gF:=hbt mi hb;have K2:=hid k2;clear k2 hb;go_wp2_with fail
 with_reducible refine(C6.o _).mono ?_
 rintro e W7 ⟨p_6,c_6,rfl,kV,hb⟩;obtain ⟨K1,K2,RZ,RM⟩:=bC hb K1 K2 RZ RM;have cO:=hbt gF hb;have RO:=hid kV;clear hb kV;have wu:=K2.o.cell (i:=2) rfl;go_wp2_with fail
 with_reducible refine(C7.o _ _ _ _ _ RM.o RO.o).mono ?_
 rintro e W8 ⟨rfl,hb⟩;clear wu;obtain ⟨K1,K2,RZ,RM,RO⟩:=eH hb K1 K2 RZ RM RO;have bg:=hbt cO hb;clear hb;obtain ⟨l6,ww⟩:=av K2.o rfl rfl;go_wp2_with fail
 with_reducible refine(C8.o _ _ _ RZ.o).mono ?_
 rintro e W9 ⟨rfl,hb⟩;clear l6 ww;obtain ⟨K1,K2,RZ,RM,RO⟩:=eH hb K1 K2 RZ RM RO;have bn:=hbt bg hb;clear hb;have ww:=K2.o.cell (i:=1) rfl;have wu:=K2.o.cell (i:=2) rfl;go_wp2_with fail
 with_reducible refine(C9.o _ _ _ _ _ RZ.o RM.o).mono ?_
 rintro e W10 ⟨af,au,rfl,ed,hb⟩;clear ww wu;obtain ⟨K1,K2,RZ,RM,RO⟩:=eH hb K1 K2 RZ RM RO;have u00:=hbt bn hb;have RG:=hid ed;clear hb ed;go_wp2_with fail
 with_reducible refine(C10.o _ _ _ _ _ RG.o RO.o).mono ?_
 rintro e W11 ⟨rfl,hb⟩;obtain ⟨K1,K2,RZ,RM⟩:=bC hb K1 K2 RZ RM;have u0m:=hbt u00 hb;clear hb;obtain ⟨l6,ww,wu⟩:=aQ K2.o rfl rfl rfl;obtain ⟨p8,pq,ol⟩:=aQ K1.o rfl rfl rfl;obtain ⟨bv,bM,bV⟩:=bZ K1.o;go_wp2;exact bodyPost_ret (v:=.tuple #[.agg #[.bool (ai z),.slice w9 (ae z) wm,.slice rM (ag n) rV],.bool true]) (by simp[results,results71,go_sem,p8,pq,ol]) rfl ⟨_,_,_,_,rfl,(bB [.bool (ai z),.slice w9 (ae z) wm,.slice rM (ag n) rV] RZ.o K1.o (by simp[bQ]) (by simp[bi])),(bB [.bool (ai z),.slice w9 (ae z) wm,.slice rM (ag n) rV] RM.o K1.o (by simp[bQ]) (by simp[bi])),(ax (l:=[.bool (ai z),.slice w9 (ae z) wm,.slice rM (ag n) rV]) (i:=0) (by omega) u0m.o)⟩
theorem yt (a0 x0 y0:ByteArray)(z k zz:Int)(n one dz:Nat)(hk:k≤0)  (w:World)(h1:CQ 104 #[.string a0] (.tuple #[.string x0,.string y0,.bool true]))(h2:CQ 105 #[.string x0] (.bool true))(h3:CQ 106 #[.string y0] (.bool true))(h4:∀ W,CZ 107 #[.string x0] W z)(h5:∀ W,CN 108 #[.string y0] W n)(h6:∀ W,CN 76 #[.int .u32 1] W one)(h7:∀ s1 d1 s2 d2 W,RN W (.slice s1 (ag n) d1) n→RN W (.slice s2 (ag one) d2) one→CR 101 #[.slice s1 (ag n) d1,.slice s2 (ag one) d2] W (.int .i64 k))(h11:∀ W,CF 50 #[.int .i64 0] W zz dz)  :
 Calls Tryz.prog 71 #[.string a0] w fun e w'=>∃ p c s d,e=.returned (.tuple #[.agg #[.bool (ai zz),.slice p (ae zz) c,.slice s (ag dz) d],.bool false])∧RN w' (.slice p (ae zz) c) zz.natAbs∧RN w' (.slice s (ag dz) d) dz∧Below w.heap.size w w':=by
 obtain ⟨C1,C2,C3,C4,C5,C6,C7,C11⟩:=fF h1 h2 h3 h4 h5 h6 h7 h11;have k0:decide (0<k)=false:=decide_eq_false (by omega);have k1:k≤0:=hk;clear hk h1 h2 h3 h4 h5 h6 h7 h11;go_enter func71,ntmps71
 go_upto_region 1 with fail
 refine ay w [(#[.bool false,.slice none 0 0,.slice none 0 0],54)] rfl ?_;rintro W0 ⟨k1,hb⟩;have u6:=hid (show Below w.heap.size w W0 from hb);have K1:=hid k1;clear k1 hb;go_wp2_with fail
 with_reducible refine(C1.o _).mono ?_
 rintro e W1 ⟨rfl,hb⟩;have K1:=hid (K1.o.below hb);have wo:=hbt u6 hb;clear hb;go_wp2_with fail
 with_reducible refine(C2.o _).mono ?_
 rintro e W2 ⟨rfl,hb⟩;have K1:=hid (K1.o.below hb);have sw:=hbt wo hb;clear hb;go_wp2_with fail
 with_reducible refine(C3.o _).mono ?_
 rintro e W3 ⟨rfl,hb⟩;have K1:=hid (K1.o.below hb);have oM:=hbt sw hb;clear hb;go_wp2_with fail
 with_reducible refine(C4.o _).mono ?_
 rintro e W4 ⟨w9,wm,rfl,r9,hb⟩;have K1:=hid (K1.o.below hb);have l5:=hbt oM hb;have RZ:=hid r9;clear hb r9;go_wp2_with fail
 with_reducible refine(C5.o _).mono ?_
 rintro e W5 ⟨rM,rV,rfl,mf,hb⟩;have K1:=hid (K1.o.below hb);have mi:=hbt l5 hb;have RM:=hid mf;clear hb mf;go_upto_region 5 with fail
 refine ay W5 [(#[.bool (ai z),.slice w9 (ae z) wm,.slice rM (ag n) rV],54)] rfl ?_;have L1:=K1.o.lt;have L2:=mi.o.size;rintro W6 ⟨k2,hb⟩;have hb:Below W5.heap.size W5 W6:=hb;obtain ⟨K1,RM⟩:=aU hb K1 RM;have gF:=hbt mi hb;have K2:=hid k2;clear k2 hb;go_wp2_with fail
 with_reducible refine(C6.o _).mono ?_
 rintro e W7 ⟨p_6,c_6,rfl,kV,hb⟩;obtain ⟨K1,K2,RM⟩:=bL hb K1 K2 RM;have cO:=hbt gF hb;have RO:=hid kV;clear hb kV;have wu:=K2.o.cell (i:=2) rfl;go_wp2_with fail
 with_reducible refine(C7.o _ _ _ _ _ RM.o RO.o).mono ?_
 rintro e W8 ⟨rfl,hb⟩;clear wu;obtain ⟨K1,K2⟩:=aU hb K1 K2;have bg:=hbt cO hb;clear hb;obtain ⟨l6,ww,wu⟩:=aQ K2.o rfl rfl rfl;go_wp2_with fail
 with_reducible refine(C11.o _).mono ?_
 rintro e W9 ⟨p_8,c_8,s_8,d_8,rfl,u0t,u0u,hb⟩;clear l6 ww wu;have K1:=hid (K1.o.below hb);have bn:=hbt bg hb;have RQ:=hid u0t;have TQ:=hid u0u;clear hb u0t u0u;obtain ⟨p8,pq,ol⟩:=aQ K1.o rfl rfl rfl;obtain ⟨bv,bM,bV⟩:=bZ K1.o;go_wp2;exact bodyPost_ret (v:=.tuple #[.agg #[.bool (ai zz),.slice p_8 (ae zz) c_8,.slice s_8 (ag dz) d_8],.bool false]) (by simp[results,results71,go_sem,p8,pq,ol]) rfl ⟨_,_,_,_,rfl,(bB [.bool (ai zz),.slice p_8 (ae zz) c_8,.slice s_8 (ag dz) d_8] RQ.o K1.o (by simp[bQ]) (by simp[bi])),(bB [.bool (ai zz),.slice p_8 (ae zz) c_8,.slice s_8 (ag dz) d_8] TQ.o K1.o (by simp[bQ]) (by simp[bi])),(ax (l:=[.bool (ai zz),.slice p_8 (ae zz) c_8,.slice s_8 (ag dz) d_8]) (i:=0) (by omega) bn.o)⟩
theorem z0l (a0 x0 y0:ByteArray)(z k zz:Int)(n one dz:Nat)(hk:0<k)  (w:World)(h1:CQ 104 #[.string a0] (.tuple #[.string x0,.string y0,.bool true]))(h2:CQ 105 #[.string x0] (.bool true))(h3:CQ 106 #[.string y0] (.bool true))(h4:∀ W,CZ 107 #[.string x0] W z)(h5:∀ W,CN 108 #[.string y0] W n)(h6:∀ W,CN 76 #[.int .u32 1] W one)(h7:∀ s1 d1 s2 d2 W,RN W (.slice s1 (ag n) d1) n→RN W (.slice s2 (ag one) d2) one→CR 101 #[.slice s1 (ag n) d1,.slice s2 (ag one) d2] W (.int .i64 k))(h8:∀ p1 c1 W,RN W (.slice p1 (ae z) c1) z.natAbs→CR 103 #[.agg #[.bool (ai z),.slice p1 (ae z) c1]] W (.int .i64 0))(h11:∀ W,CF 50 #[.int .i64 0] W zz dz)  :
 Calls Tryz.prog 71 #[.string a0] w fun e w'=>∃ p c s d,e=.returned (.tuple #[.agg #[.bool (ai zz),.slice p (ae zz) c,.slice s (ag dz) d],.bool false])∧RN w' (.slice p (ae zz) c) zz.natAbs∧RN w' (.slice s (ag dz) d) dz∧Below w.heap.size w w':=by
 obtain ⟨C1,C2,C3,C4,C5,C6,C7,C8,C11⟩:=d9 h1 h2 h3 h4 h5 h6 h7 h8 h11;have k0:decide (0<k)=true:=decide_eq_true hk;have k1:0<k:=hk;clear hk h1 h2 h3 h4 h5 h6 h7 h8 h11;go_enter func71,ntmps71
 go_upto_region 1 with fail
 refine ay w [(#[.bool false,.slice none 0 0,.slice none 0 0],54)] rfl ?_;rintro W0 ⟨k1,hb⟩;have u6:=hid (show Below w.heap.size w W0 from hb);have K1:=hid k1;clear k1 hb;go_wp2_with fail
 with_reducible refine(C1.o _).mono ?_
 rintro e W1 ⟨rfl,hb⟩;have K1:=hid (K1.o.below hb);have wo:=hbt u6 hb;clear hb;go_wp2_with fail
 with_reducible refine(C2.o _).mono ?_
 rintro e W2 ⟨rfl,hb⟩;have K1:=hid (K1.o.below hb);have sw:=hbt wo hb;clear hb;go_wp2_with fail
 with_reducible refine(C3.o _).mono ?_
 rintro e W3 ⟨rfl,hb⟩;have K1:=hid (K1.o.below hb);have oM:=hbt sw hb;clear hb;go_wp2_with fail
 with_reducible refine(C4.o _).mono ?_
 rintro e W4 ⟨w9,wm,rfl,r9,hb⟩;have K1:=hid (K1.o.below hb);have l5:=hbt oM hb;have RZ:=hid r9;clear hb r9;go_wp2_with fail
 with_reducible refine(C5.o _).mono ?_
 rintro e W5 ⟨rM,rV,rfl,mf,hb⟩;obtain ⟨K1,RZ⟩:=aU hb K1 RZ;have mi:=hbt l5 hb;have RM:=hid mf;clear hb mf;go_upto_region 5 with fail
 refine ay W5 [(#[.bool (ai z),.slice w9 (ae z) wm,.slice rM (ag n) rV],54)] rfl ?_;have L1:=K1.o.lt;have L2:=mi.o.size;rintro W6 ⟨k2,hb⟩;have hb:Below W5.heap.size W5 W6:=hb;obtain ⟨K1,RZ,RM⟩:=bL hb K1 RZ RM;have gF:=hbt mi hb;have K2:=hid k2;clear k2 hb;go_wp2_with fail
 with_reducible refine(C6.o _).mono ?_
 rintro e W7 ⟨p_6,c_6,rfl,kV,hb⟩;obtain ⟨K1,K2,RZ,RM⟩:=bC hb K1 K2 RZ RM;have cO:=hbt gF hb;have RO:=hid kV;clear hb kV;have wu:=K2.o.cell (i:=2) rfl;go_wp2_with fail
 with_reducible refine(C7.o _ _ _ _ _ RM.o RO.o).mono ?_
 rintro e W8 ⟨rfl,hb⟩;clear wu;obtain ⟨K1,K2,RZ⟩:=bL hb K1 K2 RZ;have bg:=hbt cO hb;clear hb;obtain ⟨l6,ww⟩:=av K2.o rfl rfl;go_wp2_with fail
 with_reducible refine(C8.o _ _ _ RZ.o).mono ?_
 rintro e W9 ⟨rfl,hb⟩;clear l6 ww;obtain ⟨K1,K2⟩:=aU hb K1 K2;have bn:=hbt bg hb;clear hb;have ww:=K2.o.cell (i:=1) rfl;have wu:=K2.o.cell (i:=2) rfl;go_wp2_with fail
 with_reducible refine(C11.o _).mono ?_
 rintro e W10 ⟨af,au,s_9,d_9,rfl,ed,u0v,hb⟩;clear ww wu;have K1:=hid (K1.o.below hb);have u00:=hbt bn hb;have RQ:=hid ed;have TQ:=hid u0v;clear hb ed u0v;obtain ⟨p8,pq,ol⟩:=aQ K1.o rfl rfl rfl;obtain ⟨bv,bM,bV⟩:=bZ K1.o;go_wp2;exact bodyPost_ret (v:=.tuple #[.agg #[.bool (ai zz),.slice af (ae zz) au,.slice s_9 (ag dz) d_9],.bool false]) (by simp[results,results71,go_sem,p8,pq,ol]) rfl ⟨_,_,_,_,rfl,(bB [.bool (ai zz),.slice af (ae zz) au,.slice s_9 (ag dz) d_9] RQ.o K1.o (by simp[bQ]) (by simp[bi])),(bB [.bool (ai zz),.slice af (ae zz) au,.slice s_9 (ag dz) d_9] TQ.o K1.o (by simp[bQ]) (by simp[bi])),(ax (l:=[.bool (ai zz),.slice af (ae zz) au,.slice s_9 (ag dz) d_9]) (i:=0) (by omega) u00.o)⟩
theorem uS (a0 x0 y0:ByteArray)(z k k2 sg zz:Int)(n one g dz:Nat)(hk:0<k)(hsg:sg≠0)(hk2:k2≠0)  (w:World)(h1:CQ 104 #[.string a0] (.tuple #[.string x0,.string y0,.bool true]))(h2:CQ 105 #[.string x0] (.bool true))(h3:CQ 106 #[.string y0] (.bool true))(h4:∀ W,CZ 107 #[.string x0] W z)(h5:∀ W,CN 108 #[.string y0] W n)(h6:∀ W,CN 76 #[.int .u32 1] W one)(h7:∀ s1 d1 s2 d2 W,RN W (.slice s1 (ag n) d1) n→RN W (.slice s2 (ag one) d2) one→CR 101 #[.slice s1 (ag n) d1,.slice s2 (ag one) d2] W (.int .i64 k))(h8:∀ p1 c1 W,RN W (.slice p1 (ae z) c1) z.natAbs→CR 103 #[.agg #[.bool (ai z),.slice p1 (ae z) c1]] W (.int .i64 sg))(h9:∀ p1 c1 s2 d2 W,RN W (.slice p1 (ae z) c1) z.natAbs→RN W (.slice s2 (ag n) d2) n→CN 109 #[.slice p1 (ae z) c1,.slice s2 (ag n) d2] W g)(h10:∀ s1 d1 s2 d2 W,RN W (.slice s1 (ag g) d1) g→RN W (.slice s2 (ag one) d2) one→CR 101 #[.slice s1 (ag g) d1,.slice s2 (ag one) d2] W (.int .i64 k2))(h11:∀ W,CF 50 #[.int .i64 0] W zz dz)  :
 Calls Tryz.prog 71 #[.string a0] w fun e w'=>∃ p c s d,e=.returned (.tuple #[.agg #[.bool (ai zz),.slice p (ae zz) c,.slice s (ag dz) d],.bool false])∧RN w' (.slice p (ae zz) c) zz.natAbs∧RN w' (.slice s (ag dz) d) dz∧Below w.heap.size w w':=by
 obtain ⟨C1,C2,C3,C4,C5,C6,C7,C8,C9⟩:=d9 h1 h2 h3 h4 h5 h6 h7 h8 h9;have C10:=hid h10;have C11:=hid h11;have k0:decide (0<k)=true:=decide_eq_true hk;have k1:0<k:=hk;clear hk;have s0:(sg==0)=false:=by rw[beq_eq_false_iff_ne];exact hsg
 have s1:¬ sg=0:=hsg;have s2:(sg != 0)=true:=by unfold bne;rw[s0];rfl
 have s3:decide (sg=0)=false:=decide_eq_false hsg;clear hsg;have q0:(k2==0)=false:=by rw[beq_eq_false_iff_ne];exact hk2
 have q1:¬ k2=0:=hk2;clear hk2 h1 h2 h3 h4 h5 h6 h7 h8 h9 h10 h11;go_enter func71,ntmps71
 go_upto_region 1 with fail
 refine ay w [(#[.bool false,.slice none 0 0,.slice none 0 0],54)] rfl ?_;rintro W0 ⟨k1,hb⟩;have u6:=hid (show Below w.heap.size w W0 from hb);have K1:=hid k1;clear k1 hb;go_wp2_with fail
 with_reducible refine(C1.o _).mono ?_
 rintro e W1 ⟨rfl,hb⟩;have K1:=hid (K1.o.below hb);have wo:=hbt u6 hb;clear hb;go_wp2_with fail
 with_reducible refine(C2.o _).mono ?_
 rintro e W2 ⟨rfl,hb⟩;have K1:=hid (K1.o.below hb);have sw:=hbt wo hb;clear hb;go_wp2_with fail
 with_reducible refine(C3.o _).mono ?_
 rintro e W3 ⟨rfl,hb⟩;have K1:=hid (K1.o.below hb);have oM:=hbt sw hb;clear hb;go_wp2_with fail
 with_reducible refine(C4.o _).mono ?_
 rintro e W4 ⟨w9,wm,rfl,r9,hb⟩;have K1:=hid (K1.o.below hb);have l5:=hbt oM hb;have RZ:=hid r9;clear hb r9;go_wp2_with fail
 with_reducible refine(C5.o _).mono ?_
 rintro e W5 ⟨rM,rV,rfl,mf,hb⟩;obtain ⟨K1,RZ⟩:=aU hb K1 RZ;have mi:=hbt l5 hb;have RM:=hid mf;clear hb mf;go_upto_region 5 with fail
 refine ay W5 [(#[.bool (ai z),.slice w9 (ae z) wm,.slice rM (ag n) rV],54)] rfl ?_;have L1:=K1.o.lt;have L2:=mi.o.size;rintro W6 ⟨k2,hb⟩;have hb:Below W5.heap.size W5 W6:=hb;obtain ⟨K1,RZ,RM⟩:=bL hb K1 RZ RM;have gF:=hbt mi hb;have K2:=hid k2;clear k2 hb;go_wp2_with fail
 with_reducible refine(C6.o _).mono ?_
 rintro e W7 ⟨p_6,c_6,rfl,kV,hb⟩;obtain ⟨K1,K2,RZ,RM⟩:=bC hb K1 K2 RZ RM;have cO:=hbt gF hb;have RO:=hid kV;clear hb kV;have wu:=K2.o.cell (i:=2) rfl;go_wp2_with fail
 with_reducible refine(C7.o _ _ _ _ _ RM.o RO.o).mono ?_
 rintro e W8 ⟨rfl,hb⟩;clear wu;obtain ⟨K1,K2,RZ,RM,RO⟩:=eH hb K1 K2 RZ RM RO;have bg:=hbt cO hb;clear hb;obtain ⟨l6,ww⟩:=av K2.o rfl rfl;go_wp2_with fail
 with_reducible refine(C8.o _ _ _ RZ.o).mono ?_
 rintro e W9 ⟨rfl,hb⟩;clear l6 ww;obtain ⟨K1,K2,RZ,RM,RO⟩:=eH hb K1 K2 RZ RM RO;have bn:=hbt bg hb;clear hb;have ww:=K2.o.cell (i:=1) rfl;have wu:=K2.o.cell (i:=2) rfl;go_wp2_with fail
 with_reducible refine(C9.o _ _ _ _ _ RZ.o RM.o).mono ?_
 rintro e W10 ⟨af,au,rfl,ed,hb⟩;clear ww wu;obtain ⟨K1,RO⟩:=aU hb K1 RO;have u00:=hbt bn hb;have RG:=hid ed;clear hb ed;go_wp2_with fail
 with_reducible refine(C10.o _ _ _ _ _ RG.o RO.o).mono ?_
 rintro e W11 ⟨rfl,hb⟩;have K1:=hid (K1.o.below hb);have u0m:=hbt u00 hb;clear hb;go_wp2_with fail
 with_reducible refine(C11.o _).mono ?_
 rintro e W12 ⟨u0d,u0e,u0f,u0g,rfl,u0w,u0x,hb⟩;have K1:=hid (K1.o.below hb);have u0G:=hbt u0m hb;have RQ:=hid u0w;have TQ:=hid u0x;clear hb u0w u0x;obtain ⟨p8,pq,ol⟩:=aQ K1.o rfl rfl rfl;obtain ⟨bv,bM,bV⟩:=bZ K1.o;go_wp2;exact bodyPost_ret (v:=.tuple #[.agg #[.bool (ai zz),.slice u0d (ae zz) u0e,.slice u0f (ag dz) u0g],.bool false]) (by simp[results,results71,go_sem,p8,pq,ol]) rfl ⟨_,_,_,_,rfl,(bB [.bool (ai zz),.slice u0d (ae zz) u0e,.slice u0f (ag dz) u0g] RQ.o K1.o (by simp[bQ]) (by simp[bi])),(bB [.bool (ai zz),.slice u0d (ae zz) u0e,.slice u0f (ag dz) u0g] TQ.o K1.o (by simp[bQ]) (by simp[bi])),(ax (l:=[.bool (ai zz),.slice u0d (ae zz) u0e,.slice u0f (ag dz) u0g]) (i:=0) (by omega) u0G.o)⟩
open Go.Lib (hid)
theorem z3x (n1 n2 ua ub:Int)(en1 en2:Nat)(hab:ua<ub)(p1:Option Addr)(c1:Nat)(s1:Option Addr)(d1:Nat)(p2:Option Addr)(c2:Nat)(s2:Option Addr)(d2:Nat)(w:World)(h1:∀ p1 c1 s1 d1 W,RN W (.slice p1 (ae n1) c1) n1.natAbs→RN W (.slice s1 (ag en1) d1) en1→CR 69 #[.agg #[.bool (ai n1),.slice p1 (ae n1) c1,.slice s1 (ag en1) d1]] W (.int .i64 ua))(h2:∀ p1 c1 s1 d1 W,RN W (.slice p1 (ae n2) c1) n2.natAbs→RN W (.slice s1 (ag en2) d1) en2→CR 69 #[.agg #[.bool (ai n2),.slice p1 (ae n2) c1,.slice s1 (ag en2) d1]] W (.int .i64 ub))(r1:RN w (.slice p1 (ae n1) c1) n1.natAbs)(t1:RN w (.slice s1 (ag en1) d1) en1)(r2:RN w (.slice p2 (ae n2) c2) n2.natAbs)(t2:RN w (.slice s2 (ag en2) d2) en2) :
 CR 54 #[.agg #[.bool (ai n1),.slice p1 (ae n1) c1,.slice s1 (ag en1) d1],.agg #[.bool (ai n2),.slice p2 (ae n2) c2,.slice s2 (ag en2) d2]] w (.int .i64 (-1)):=by
 obtain ⟨C1,C2,R1,T1,R2,T2⟩:=cK h1 h2 r1 t1 r2 t2;have k0:(ua==ub)=false:=by rw[beq_eq_false_iff_ne];omega
 have k1:¬ ua=ub:=by omega
 have k2:decide (ua<ub)=true:=decide_eq_true hab;clear h1 h2 r1 t1 r2 t2;go_enter func54,ntmps54
 go_upto_region 1 with fail
 refine ay w [(#[.bool (ai n1),.slice p1 (ae n1) c1,.slice s1 (ag en1) d1],54),(#[.bool (ai n2),.slice p2 (ae n2) c2,.slice s2 (ag en2) d2],54)] rfl ?_;rintro W0 ⟨k1,k2,hb⟩;have u6:=hid (show Below w.heap.size w W0 from hb);obtain ⟨R1,T1,R2,T2⟩:=bC u6.o R1 T1 R2 T2;obtain ⟨K1,K2⟩:=aB k1 k2;clear k1 k2 hb;go_wp2_with fail
 refine aG (fun a0 a' V=>a'=⟨putL [(9,.agg #[.bool (ai n1),.slice p1 (ae n1) c1,.slice s1 (ag en1) d1]),(10,.int .i64 ua),(11,.agg #[.bool (ai n2),.slice p2 (ae n2) c2,.slice s2 (ag en2) d2]),(12,.int .i64 ub),(5,.int .i64 ua),(6,.int .i64 ub)] a0.tmps,a0.defers⟩∧Below w.heap.size w V) ?_ ?_
 · refine bN 6 0 [9,10,11,12,5,6] [Rel.val (.agg #[.bool (ai n1),.slice p1 (ae n1) c1,.slice s1 (ag en1) d1]),Rel.val (.int .i64 ua),Rel.val (.agg #[.bool (ai n2),.slice p2 (ae n2) c2,.slice s2 (ag en2) d2]),Rel.val (.int .i64 ub),Rel.val (.int .i64 ua),Rel.val (.int .i64 ub)] ?_ ?_
   · intro fq a W i HI hD Hr him
     obtain⟨y2,y3⟩:=HI.o.s2 2 3;obtain ⟨p8,pq,ol⟩:=aQ (K1.o.below HI.o.world) rfl rfl rfl;obtain ⟨l6,ww,wu⟩:=aQ (K2.o.below HI.o.world) rfl rfl rfl;obtain⟨X0,X2,X1⟩:=HI.o.g3 0 9 2 11 1 10;have X3:=HI.o.rg 3 12 rfl
     match i,him,Hr with
     | 0,_,Hi =>
       refine aI rfl fun K' hK=>?_;go_simp;exact hK.o _ _ (HI.o.pw Hi.o)
     | 1,_,Hi =>
       have x0:=X0.q Hi.o;refine aI rfl fun K' hK=>?_;go_simp;with_reducible refine(C1.o _ _ _ _ _ (R1.o.below HI.o.world) (T1.o.below HI.o.world)).mono ?_
       rintro e W' ⟨rfl,hb⟩;exact hK.o _ _ ⟨HI.o.pc Hi.o hb rfl,trivial⟩
     | 2,_,Hi =>
       refine aI rfl fun K' hK=>?_;go_simp;exact hK.o _ _ (HI.o.pw Hi.o)
     | 3,_,Hi =>
       have x2:=X2.q Hi.o;refine aI rfl fun K' hK=>?_;go_simp;with_reducible refine(C2.o _ _ _ _ _ (R2.o.below HI.o.world) (T2.o.below HI.o.world)).mono ?_
       rintro e W' ⟨rfl,hb⟩;exact hK.o _ _ ⟨HI.o.pc Hi.o hb rfl,trivial⟩
     | 4,_,Hi|5,_,Hi =>
       try have x1:=X1.t Hi.o
       try have x3:=X3.t Hi.o
       refine aI rfl fun K' hK=>?_;go_simp;exact hK.o _ _ (HI.o.pw Hi.o)
     | n+6,h,_=>exact absurd h (by omega)
   · intro fq a W HI hD HA
     have kz:=hid HI.o.world;have fQ:=hid (u6.o.trans (kz.o.mono u6.o.size));refine bH ?_;exact⟨rfl,(HI.o.finx ⟨HI.o.sx HA.o 0,HI.o.sx HA.o 1,HI.o.sx HA.o 2,HI.o.sx HA.o 3,HI.o.sx HA.o 4,HI.o.sx HA.o 5,trivial⟩ rfl),fQ.o⟩
 rintro a' W1 ⟨rfl,z0⟩;have wo:=hid z0;clear z0;simp only[putL,List.setIfInBounds_toArray,List.set_cons_zero,List.set_cons_succ];go_wp2;exact bodyPost_ret (v:=.int .i64 (-1)) (by simp[results,results54,go_sem]) rfl ⟨rfl,wo.o⟩
theorem z3y (n1 n2 ua ub:Int)(en1 en2:Nat)(hab:ub<ua)(p1:Option Addr)(c1:Nat)(s1:Option Addr)(d1:Nat)(p2:Option Addr)(c2:Nat)(s2:Option Addr)(d2:Nat)(w:World)(h1:∀ p1 c1 s1 d1 W,RN W (.slice p1 (ae n1) c1) n1.natAbs→RN W (.slice s1 (ag en1) d1) en1→CR 69 #[.agg #[.bool (ai n1),.slice p1 (ae n1) c1,.slice s1 (ag en1) d1]] W (.int .i64 ua))(h2:∀ p1 c1 s1 d1 W,RN W (.slice p1 (ae n2) c1) n2.natAbs→RN W (.slice s1 (ag en2) d1) en2→CR 69 #[.agg #[.bool (ai n2),.slice p1 (ae n2) c1,.slice s1 (ag en2) d1]] W (.int .i64 ub))(r1:RN w (.slice p1 (ae n1) c1) n1.natAbs)(t1:RN w (.slice s1 (ag en1) d1) en1)(r2:RN w (.slice p2 (ae n2) c2) n2.natAbs)(t2:RN w (.slice s2 (ag en2) d2) en2) :
 CR 54 #[.agg #[.bool (ai n1),.slice p1 (ae n1) c1,.slice s1 (ag en1) d1],.agg #[.bool (ai n2),.slice p2 (ae n2) c2,.slice s2 (ag en2) d2]] w (.int .i64 (1)):=by
 obtain ⟨C1,C2,R1,T1,R2,T2⟩:=cK h1 h2 r1 t1 r2 t2;have k0:(ua==ub)=false:=by rw[beq_eq_false_iff_ne];omega
 have k1:¬ ua=ub:=by omega
 have k2:decide (ua<ub)=false:=decide_eq_false (by omega);have k3:ub≤ua:=by omega
 clear h1 h2 r1 t1 r2 t2;go_enter func54,ntmps54
 go_upto_region 1 with fail
 refine ay w [(#[.bool (ai n1),.slice p1 (ae n1) c1,.slice s1 (ag en1) d1],54),(#[.bool (ai n2),.slice p2 (ae n2) c2,.slice s2 (ag en2) d2],54)] rfl ?_;rintro W0 ⟨k1,k2,hb⟩;have u6:=hid (show Below w.heap.size w W0 from hb);obtain ⟨R1,T1,R2,T2⟩:=bC u6.o R1 T1 R2 T2;obtain ⟨K1,K2⟩:=aB k1 k2;clear k1 k2 hb;go_wp2_with fail
 refine aG (fun a0 a' V=>a'=⟨putL [(9,.agg #[.bool (ai n1),.slice p1 (ae n1) c1,.slice s1 (ag en1) d1]),(10,.int .i64 ua),(11,.agg #[.bool (ai n2),.slice p2 (ae n2) c2,.slice s2 (ag en2) d2]),(12,.int .i64 ub),(5,.int .i64 ua),(6,.int .i64 ub)] a0.tmps,a0.defers⟩∧Below w.heap.size w V) ?_ ?_
 · refine bN 6 0 [9,10,11,12,5,6] [Rel.val (.agg #[.bool (ai n1),.slice p1 (ae n1) c1,.slice s1 (ag en1) d1]),Rel.val (.int .i64 ua),Rel.val (.agg #[.bool (ai n2),.slice p2 (ae n2) c2,.slice s2 (ag en2) d2]),Rel.val (.int .i64 ub),Rel.val (.int .i64 ua),Rel.val (.int .i64 ub)] ?_ ?_
   · intro fq a W i HI hD Hr him
     obtain⟨y2,y3⟩:=HI.o.s2 2 3;obtain ⟨p8,pq,ol⟩:=aQ (K1.o.below HI.o.world) rfl rfl rfl;obtain ⟨l6,ww,wu⟩:=aQ (K2.o.below HI.o.world) rfl rfl rfl;obtain⟨X0,X2,X1⟩:=HI.o.g3 0 9 2 11 1 10;have X3:=HI.o.rg 3 12 rfl
     match i,him,Hr with
     | 0,_,Hi =>
       refine aI rfl fun K' hK=>?_;go_simp;exact hK.o _ _ (HI.o.pw Hi.o)
     | 1,_,Hi =>
       have x0:=X0.q Hi.o;refine aI rfl fun K' hK=>?_;go_simp;with_reducible refine(C1.o _ _ _ _ _ (R1.o.below HI.o.world) (T1.o.below HI.o.world)).mono ?_
       rintro e W' ⟨rfl,hb⟩;exact hK.o _ _ ⟨HI.o.pc Hi.o hb rfl,trivial⟩
     | 2,_,Hi =>
       refine aI rfl fun K' hK=>?_;go_simp;exact hK.o _ _ (HI.o.pw Hi.o)
     | 3,_,Hi =>
       have x2:=X2.q Hi.o;refine aI rfl fun K' hK=>?_;go_simp;with_reducible refine(C2.o _ _ _ _ _ (R2.o.below HI.o.world) (T2.o.below HI.o.world)).mono ?_
       rintro e W' ⟨rfl,hb⟩;exact hK.o _ _ ⟨HI.o.pc Hi.o hb rfl,trivial⟩
     | 4,_,Hi|5,_,Hi =>
       try have x1:=X1.t Hi.o
       try have x3:=X3.t Hi.o
       refine aI rfl fun K' hK=>?_;go_simp;exact hK.o _ _ (HI.o.pw Hi.o)
     | n+6,h,_=>exact absurd h (by omega)
   · intro fq a W HI hD HA
     have kz:=hid HI.o.world;have fQ:=hid (u6.o.trans (kz.o.mono u6.o.size));refine bH ?_;exact⟨rfl,(HI.o.finx ⟨HI.o.sx HA.o 0,HI.o.sx HA.o 1,HI.o.sx HA.o 2,HI.o.sx HA.o 3,HI.o.sx HA.o 4,HI.o.sx HA.o 5,trivial⟩ rfl),fQ.o⟩
 rintro a' W1 ⟨rfl,z0⟩;have wo:=hid z0;clear z0;simp only[putL,List.setIfInBounds_toArray,List.set_cons_zero,List.set_cons_succ];go_wp2;exact bodyPost_ret (v:=.int .i64 1) (by simp[results,results54,go_sem]) rfl ⟨rfl,wo.o⟩
theorem zO (n1 n2 ua x y k:Int)(en1 en2 u v:Nat)(p1:Option Addr)(c1:Nat)(s1:Option Addr)(d1:Nat)(p2:Option Addr)(c2:Nat)(s2:Option Addr)(d2:Nat)(w:World)(h1:∀ p1 c1 s1 d1 W,RN W (.slice p1 (ae n1) c1) n1.natAbs→RN W (.slice s1 (ag en1) d1) en1→CR 69 #[.agg #[.bool (ai n1),.slice p1 (ae n1) c1,.slice s1 (ag en1) d1]] W (.int .i64 ua))(h2:∀ p1 c1 s1 d1 W,RN W (.slice p1 (ae n2) c1) n2.natAbs→RN W (.slice s1 (ag en2) d1) en2→CR 69 #[.agg #[.bool (ai n2),.slice p1 (ae n2) c1,.slice s1 (ag en2) d1]] W (.int .i64 ua))(h3:∀ p1 c1 s2 d2 W,RN W (.slice p1 (ae n1) c1) n1.natAbs→RN W (.slice s2 (ag en2) d2) en2→CN 74 #[.slice p1 (ae n1) c1,.slice s2 (ag en2) d2] W u)(h4:∀ s2 d2 W,RN W (.slice s2 (ag u) d2) u→CZ 77 #[.bool (ai n1),.slice s2 (ag u) d2] W x)(h5:∀ p1 c1 s2 d2 W,RN W (.slice p1 (ae n2) c1) n2.natAbs→RN W (.slice s2 (ag en1) d2) en1→CN 74 #[.slice p1 (ae n2) c1,.slice s2 (ag en1) d2] W v)(h6:∀ s2 d2 W,RN W (.slice s2 (ag v) d2) v→CZ 77 #[.bool (ai n2),.slice s2 (ag v) d2] W y)(h7:∀ p1 c1 p2 c2 W,RN W (.slice p1 (ae x) c1) x.natAbs→RN W (.slice p2 (ae y) c2) y.natAbs→CR 78 #[.agg #[.bool (ai x),.slice p1 (ae x) c1],.agg #[.bool (ai y),.slice p2 (ae y) c2]] W (.int .i64 k))(r1:RN w (.slice p1 (ae n1) c1) n1.natAbs)(t1:RN w (.slice s1 (ag en1) d1) en1)(r2:RN w (.slice p2 (ae n2) c2) n2.natAbs)(t2:RN w (.slice s2 (ag en2) d2) en2) :
 CR 54 #[.agg #[.bool (ai n1),.slice p1 (ae n1) c1,.slice s1 (ag en1) d1],.agg #[.bool (ai n2),.slice p2 (ae n2) c2,.slice s2 (ag en2) d2]] w (.int .i64 k):=by
 obtain ⟨C1,C2,C3,C4,C5,C6,C7,R1,T1⟩:=d9 h1 h2 h3 h4 h5 h6 h7 r1 t1;have R2:=hid r2;have T2:=hid t2;clear h1 h2 h3 h4 h5 h6 h7 r1 t1 r2 t2;go_enter func54,ntmps54
 go_upto_region 1 with fail
 refine ay w [(#[.bool (ai n1),.slice p1 (ae n1) c1,.slice s1 (ag en1) d1],54),(#[.bool (ai n2),.slice p2 (ae n2) c2,.slice s2 (ag en2) d2],54)] rfl ?_;rintro W0 ⟨k1,k2,hb⟩;have u6:=hid (show Below w.heap.size w W0 from hb);obtain ⟨R1,T1,R2,T2⟩:=bC u6.o R1 T1 R2 T2;obtain ⟨K1,K2⟩:=aB k1 k2;clear k1 k2 hb;go_wp2_with fail
 refine aG (fun a0 a' V=>a'=⟨putL [(9,.agg #[.bool (ai n1),.slice p1 (ae n1) c1,.slice s1 (ag en1) d1]),(10,.int .i64 ua),(11,.agg #[.bool (ai n2),.slice p2 (ae n2) c2,.slice s2 (ag en2) d2]),(12,.int .i64 ua),(5,.int .i64 ua),(6,.int .i64 ua)] a0.tmps,a0.defers⟩∧Below w.heap.size w V∧SBk V (w.heap.size) #[.bool (ai n1),.slice p1 (ae n1) c1,.slice s1 (ag en1) d1] 54∧SBk V (w.heap.size+1) #[.bool (ai n2),.slice p2 (ae n2) c2,.slice s2 (ag en2) d2] 54∧RN V (.slice p1 (ae n1) c1) n1.natAbs∧RN V (.slice s1 (ag en1) d1) en1∧RN V (.slice p2 (ae n2) c2) n2.natAbs∧RN V (.slice s2 (ag en2) d2) en2) ?_ ?_
 · refine bN 6 0 [9,10,11,12,5,6] [Rel.val (.agg #[.bool (ai n1),.slice p1 (ae n1) c1,.slice s1 (ag en1) d1]),Rel.val (.int .i64 ua),Rel.val (.agg #[.bool (ai n2),.slice p2 (ae n2) c2,.slice s2 (ag en2) d2]),Rel.val (.int .i64 ua),Rel.val (.int .i64 ua),Rel.val (.int .i64 ua)] ?_ ?_
   · intro fq a W i HI hD Hr him
     obtain⟨y2,y3⟩:=HI.o.s2 2 3;obtain ⟨p8,pq,ol⟩:=aQ (K1.o.below HI.o.world) rfl rfl rfl;obtain ⟨l6,ww,wu⟩:=aQ (K2.o.below HI.o.world) rfl rfl rfl;obtain⟨X0,X2,X1⟩:=HI.o.g3 0 9 2 11 1 10;have X3:=HI.o.rg 3 12 rfl
     match i,him,Hr with
     | 0,_,Hi =>
       refine aI rfl fun K' hK=>?_;go_simp;exact hK.o _ _ (HI.o.pw Hi.o)
     | 1,_,Hi =>
       have x0:=X0.q Hi.o;refine aI rfl fun K' hK=>?_;go_simp;with_reducible refine(C1.o _ _ _ _ _ (R1.o.below HI.o.world) (T1.o.below HI.o.world)).mono ?_
       rintro e W' ⟨rfl,hb⟩;exact hK.o _ _ ⟨HI.o.pc Hi.o hb rfl,trivial⟩
     | 2,_,Hi =>
       refine aI rfl fun K' hK=>?_;go_simp;exact hK.o _ _ (HI.o.pw Hi.o)
     | 3,_,Hi =>
       have x2:=X2.q Hi.o;refine aI rfl fun K' hK=>?_;go_simp;with_reducible refine(C2.o _ _ _ _ _ (R2.o.below HI.o.world) (T2.o.below HI.o.world)).mono ?_
       rintro e W' ⟨rfl,hb⟩;exact hK.o _ _ ⟨HI.o.pc Hi.o hb rfl,trivial⟩
     | 4,_,Hi|5,_,Hi =>
       try have x1:=X1.t Hi.o
       try have x3:=X3.t Hi.o
       refine aI rfl fun K' hK=>?_;go_simp;exact hK.o _ _ (HI.o.pw Hi.o)
     | n+6,h,_=>exact absurd h (by omega)
   · intro fq a W HI hD HA
     have kz:=hid HI.o.world;obtain ⟨K1,K2,R1,T1,R2,T2⟩:=iy kz.o K1 K2 R1 T1 R2 T2;have fQ:=Lib.hid (u6.o.trans (kz.o.mono u6.o.size));refine bH ?_;exact⟨rfl,(HI.o.finx ⟨HI.o.sx HA.o 0,HI.o.sx HA.o 1,HI.o.sx HA.o 2,HI.o.sx HA.o 3,HI.o.sx HA.o 4,HI.o.sx HA.o 5,trivial⟩ rfl),fQ.o,K1.o,K2.o,R1.o,T1.o,R2.o,T2.o⟩
 rintro a' W1 ⟨rfl,z0,z1,z2,z3,z4,z5,z6⟩;obtain ⟨wo,K1,K2,R1,T1,R2,T2⟩:=dC z0 z1 z2 z3 z4 z5 z6;clear z0 z1 z2 z3 z4 z5 z6;simp only[putL,List.setIfInBounds_toArray,List.set_cons_zero,List.set_cons_succ];go_wp2_with fail
 have L1:=K1.o.lt;have L2:=K2.o.lt;have L3:=wo.o.size;refine aG (fun a0 a' V=>∃ dn dx oV ma kM,a'=⟨putL [(19,.pointer (some ⟨w.heap.size,0,none⟩)),(20,.pointer (some ⟨w.heap.size,0,none⟩)),(21,.bool (ai n1)),(22,.pointer (some ⟨w.heap.size,0,none⟩)),(23,.pointer (some ⟨w.heap.size,1,none⟩)),(24,.slice p1 (ae n1) c1),(25,.pointer (some ⟨w.heap.size+1,2,none⟩)),(26,.slice s2 (ag en2) d2),(27,.slice dn (ag u) dx),(28,.agg #[.bool (ai x),.slice oV (ae x) ma]),(7,.pointer (some ⟨kM,0,none⟩))] a0.tmps,a0.defers⟩∧Below w.heap.size w V∧SBk V (w.heap.size) #[.bool (ai n1),.slice p1 (ae n1) c1,.slice s1 (ag en1) d1] 54∧SBk V (w.heap.size+1) #[.bool (ai n2),.slice p2 (ae n2) c2,.slice s2 (ag en2) d2] 54∧SBk V (kM) #[.bool (ai x),.slice oV (ae x) ma] 52∧RN V (.slice s1 (ag en1) d1) en1∧RN V (.slice p2 (ae n2) c2) n2.natAbs∧RN V (.slice oV (ae x) ma) x.natAbs∧W1.heap.size≤kM) ?_ ?_
 · refine bN 11 1 [19,20,21,22,23,24,25,26,27,28,7] [Rel.val (.pointer (some ⟨w.heap.size,0,none⟩)),Rel.val (.pointer (some ⟨w.heap.size,0,none⟩)),Rel.val (.bool (ai n1)),Rel.val (.pointer (some ⟨w.heap.size,0,none⟩)),Rel.val (.pointer (some ⟨w.heap.size,1,none⟩)),Rel.val (.slice p1 (ae n1) c1),Rel.val (.pointer (some ⟨w.heap.size+1,2,none⟩)),Rel.val (.slice s2 (ag en2) d2),Rel.nat u,Rel.int x,Rel.ptr W1.heap.size (.cells #[.bool false,.slice none 0 0] 52)] ?_ ?_
   · intro fq a W i HI hD Hr him
     obtain⟨y2,y3⟩:=HI.o.s2 2 3;obtain ⟨p8,pq⟩:=av (K1.o.below HI.o.world) rfl rfl;have wu:=(K2.o.below HI.o.world).cell (i:=2) rfl;obtain⟨X0,X1,X3,X4,X6,X5⟩:=HI.o.g6 0 19 1 20 3 22 4 23 6 25 5 24;obtain⟨X7,X2⟩:=HI.o.g2 7 26 2 21
     match i,him,Hr with
     | 0,_,Hi|1,_,Hi|2,_,Hi|3,_,Hi|4,_,Hi|5,_,Hi|6,_,Hi|7,_,Hi =>
       try have x0:=X0.t Hi.o
       try have x1:=X1.t Hi.o
       try have x3:=X3.t Hi.o
       try have x4:=X4.t Hi.o
       try have x6:=X6.t Hi.o
       refine aI rfl fun K' hK=>?_;go_simp;exact hK.o _ _ (HI.o.pw Hi.o)
     | 8,_,Hi =>
       have x5:=X5.q Hi.o;have x7:=X7.q Hi.o;refine aI rfl fun K' hK=>?_;go_simp;with_reducible refine(C3.o _ _ _ _ _ (R1.o.below HI.o.world) (T2.o.below HI.o.world)).mono ?_
       rintro e W' ⟨dn,dx,rfl,bq,hb⟩;exact hK.o _ _ ⟨HI.o.pc Hi.o hb ⟨dn,dx,rfl,bq⟩,trivial⟩
     | 9,_,Hi =>
       have x2:=X2.q Hi.o;obtain⟨v',x8,dn,dx,e,bq⟩:=HI.o.at (i:=8) Hi.o (by kernel_rfl) (by decide);obtain rfl:=e;have x8:a.tmps[27]? = some (.slice dn (ag u) dx):=x8;have u0n:=hid bq;clear bq;refine aI rfl fun K' hK=>?_;go_simp;with_reducible refine(C4.o _ _ _ u0n.o).mono ?_
       rintro e W' ⟨oV,ma,rfl,u0h,hb⟩;exact hK.o _ _ ⟨HI.o.pc Hi.o hb ⟨oV,ma,rfl,u0h⟩,trivial⟩
     | 10,_,Hi =>
       refine aI rfl fun K' hK=>?_;go_simp;exact hK.o _ _ ⟨HI.o.pc Hi.o ((Below.refl W.heap.size W).alloc (Nat.le_refl _) (.cells #[.bool false,.slice none 0 0] 52)) ⟨W.heap.size,rfl,HI.o.world.size,SBk.new _ _ _⟩,trivial⟩
     | n+11,h,_=>exact absurd h (by omega)
   · intro fq a W HI hD HA
     obtain⟨v',x8,dn,dx,e,bq⟩:=HI.o.slots 8 (by decide) (HA.o 8 (by decide));obtain rfl:=e;have u0n:=hid bq;clear bq;obtain⟨v',x9,oV,ma,e,u0h⟩:=HI.o.slots 9 (by decide) (HA.o 9 (by decide));obtain rfl:=e;have u0H:=hid u0h;clear u0h;have x9:a.tmps[28]? = some (.agg #[.bool (ai x),.slice oV (ae x) ma]):=x9;obtain⟨v',x10,kM,e,u0y,u0z⟩:=HI.o.slots 10 (by decide) (HA.o 10 (by decide));obtain rfl:=e;have u0i:=hid u0y;clear u0y;have u0I:=hid u0z;clear u0z;have x10:a.tmps[7]? = some (.pointer (some ⟨kM,0,none⟩)):=x10;have kz:=hid HI.o.world;obtain ⟨K1,K2,T1,R2⟩:=bC kz.o K1 K2 T1 R2;have fQ:=Lib.hid (wo.o.trans (kz.o.mono wo.o.size));have RU:=u0n;have RX:=u0H;have K3:Hid (SBk W kM #[.bool false,.slice none 0 0] 52):=u0I;obtain ⟨u0A,u0B⟩:=av K3.o rfl rfl;obtain ⟨u0L,u0M⟩:=bE K3.o;refine aY (t:=0) ?_;refine aI rfl fun K' hK=>?_;go_simp;refine hK.o _ _ ?_;clear hK;refine bH ?_;have s0:∀ {v':Value} {n':Nat},RN W v' n'→RN (storeAll W (kM) 0 [.bool (ai x),.slice oV (ae x) ma]) v' n':=fun h'=>bB _ h' K3.o (by simp[bQ]) (by simp[bi]);have o0:∀ {g':Nat} {cs':Array Value} {T':TypeId},g'≠kM→SBk W g' cs' T'→SBk (storeAll W (kM) 0 [.bool (ai x),.slice oV (ae x) ma]) g' cs' T':=fun hg' h'=>aL hg' _ 0 h';exact⟨rfl,dn,dx,oV,ma,kM,(HI.o.finx ⟨HI.o.sx HA.o 0,HI.o.sx HA.o 1,HI.o.sx HA.o 2,HI.o.sx HA.o 3,HI.o.sx HA.o 4,HI.o.sx HA.o 5,HI.o.sx HA.o 6,HI.o.sx HA.o 7,x8,x9,x10,trivial⟩ rfl),(ax (l:=[.bool (ai x),.slice oV (ae x) ma]) (i:=0) (by have:=u0i.o;omega) fQ.o),(o0 (by have:=u0i.o;omega) K1.o),(o0 (by have:=u0i.o;omega) K2.o),(dm (l:=[.bool (ai x),.slice oV (ae x) ma]) (i:=0) K3.o),(s0 T1.o),(s0 R2.o),(s0 RX.o),u0i.o⟩
 rintro a' W2 ⟨dn,dx,oV,ma,kM,rfl,z0,z1,z2,z3,z4,z5,z6,z7⟩;obtain ⟨sw,K1,K2,K3,T1,R2,RX⟩:=dC z0 z1 z2 z3 z4 z5 z6;have R10xW2:=z7;clear z0 z1 z2 z3 z4 z5 z6 z7;simp only[putL,List.setIfInBounds_toArray,List.set_cons_zero,List.set_cons_succ];go_wp2_with fail
 have L5:=K1.o.lt;have L6:=K2.o.lt;have L7:=K3.o.lt;have L8:=sw.o.size;refine aG (fun a0 a' V=>∃ dX dY lg lv gy,a'=⟨putL [(29,.pointer (some ⟨w.heap.size+1,0,none⟩)),(30,.pointer (some ⟨w.heap.size+1,0,none⟩)),(31,.bool (ai n2)),(32,.pointer (some ⟨w.heap.size+1,0,none⟩)),(33,.pointer (some ⟨w.heap.size+1,1,none⟩)),(34,.slice p2 (ae n2) c2),(35,.pointer (some ⟨w.heap.size,2,none⟩)),(36,.slice s1 (ag en1) d1),(37,.slice dX (ag v) dY),(38,.agg #[.bool (ai y),.slice lg (ae y) lv]),(8,.pointer (some ⟨gy,0,none⟩))] a0.tmps,a0.defers⟩∧Below w.heap.size w V∧SBk V (kM) #[.bool (ai x),.slice oV (ae x) ma] 52∧SBk V (gy) #[.bool (ai y),.slice lg (ae y) lv] 52∧RN V (.slice oV (ae x) ma) x.natAbs∧RN V (.slice lg (ae y) lv) y.natAbs∧W2.heap.size≤gy) ?_ ?_
 · refine bN 11 1 [29,30,31,32,33,34,35,36,37,38,8] [Rel.val (.pointer (some ⟨w.heap.size+1,0,none⟩)),Rel.val (.pointer (some ⟨w.heap.size+1,0,none⟩)),Rel.val (.bool (ai n2)),Rel.val (.pointer (some ⟨w.heap.size+1,0,none⟩)),Rel.val (.pointer (some ⟨w.heap.size+1,1,none⟩)),Rel.val (.slice p2 (ae n2) c2),Rel.val (.pointer (some ⟨w.heap.size,2,none⟩)),Rel.val (.slice s1 (ag en1) d1),Rel.nat v,Rel.int y,Rel.ptr W2.heap.size (.cells #[.bool false,.slice none 0 0] 52)] ?_ ?_
   · intro fq a W i HI hD Hr him
     obtain⟨y3,y2⟩:=HI.o.s2 3 2;obtain ⟨l6,ww⟩:=av (K2.o.below HI.o.world) rfl rfl;have ol:=(K1.o.below HI.o.world).cell (i:=2) rfl;obtain⟨X0,X1,X3,X4,X6,X5⟩:=HI.o.g6 0 29 1 30 3 32 4 33 6 35 5 34;obtain⟨X7,X2⟩:=HI.o.g2 7 36 2 31
     match i,him,Hr with
     | 0,_,Hi|1,_,Hi|2,_,Hi|3,_,Hi|4,_,Hi|5,_,Hi|6,_,Hi|7,_,Hi =>
       try have x0:=X0.t Hi.o
       try have x1:=X1.t Hi.o
       try have x3:=X3.t Hi.o
       try have x4:=X4.t Hi.o
       try have x6:=X6.t Hi.o
       refine aI rfl fun K' hK=>?_;go_simp;exact hK.o _ _ (HI.o.pw Hi.o)
     | 8,_,Hi =>
       have x5:=X5.q Hi.o;have x7:=X7.q Hi.o;refine aI rfl fun K' hK=>?_;go_simp;with_reducible refine(C5.o _ _ _ _ _ (R2.o.below HI.o.world) (T1.o.below HI.o.world)).mono ?_
       rintro e W' ⟨dX,dY,rfl,bu,hb⟩;exact hK.o _ _ ⟨HI.o.pc Hi.o hb ⟨dX,dY,rfl,bu⟩,trivial⟩
     | 9,_,Hi =>
       have x2:=X2.q Hi.o;obtain⟨v',x8,dX,dY,e,bu⟩:=HI.o.at (i:=8) Hi.o (by kernel_rfl) (by decide);obtain rfl:=e;have x8:a.tmps[37]? = some (.slice dX (ag v) dY):=x8;have u0o:=hid bu;clear bu;refine aI rfl fun K' hK=>?_;go_simp;with_reducible refine(C6.o _ _ _ u0o.o).mono ?_
       rintro e W' ⟨lg,lv,rfl,u0j,hb⟩;exact hK.o _ _ ⟨HI.o.pc Hi.o hb ⟨lg,lv,rfl,u0j⟩,trivial⟩
     | 10,_,Hi =>
       refine aI rfl fun K' hK=>?_;go_simp;exact hK.o _ _ ⟨HI.o.pc Hi.o ((Below.refl W.heap.size W).alloc (Nat.le_refl _) (.cells #[.bool false,.slice none 0 0] 52)) ⟨W.heap.size,rfl,HI.o.world.size,SBk.new _ _ _⟩,trivial⟩
     | n+11,h,_=>exact absurd h (by omega)
   · intro fq a W HI hD HA
     obtain⟨v',x8,dX,dY,e,bu⟩:=HI.o.slots 8 (by decide) (HA.o 8 (by decide));obtain rfl:=e;have u0o:=hid bu;clear bu;obtain⟨v',x9,lg,lv,e,u0j⟩:=HI.o.slots 9 (by decide) (HA.o 9 (by decide));obtain rfl:=e;have u0J:=hid u0j;clear u0j;have x9:a.tmps[38]? = some (.agg #[.bool (ai y),.slice lg (ae y) lv]):=x9;obtain⟨v',x10,gy,e,u0C,u0D⟩:=HI.o.slots 10 (by decide) (HA.o 10 (by decide));obtain rfl:=e;have u0p:=hid u0C;clear u0C;have u0K:=hid u0D;clear u0D;have x10:a.tmps[8]? = some (.pointer (some ⟨gy,0,none⟩)):=x10;have kz:=hid HI.o.world;obtain ⟨K3,RX⟩:=aU kz.o K3 RX;have fQ:=Lib.hid (sw.o.trans (kz.o.mono sw.o.size));have RV:=u0o;have RY:=u0J;have K4:Hid (SBk W gy #[.bool false,.slice none 0 0] 52):=u0K;obtain ⟨u0E,u0F⟩:=av K4.o rfl rfl;obtain ⟨u0N,u0O⟩:=bE K4.o;refine aY (t:=0) ?_;refine aI rfl fun K' hK=>?_;go_simp;refine hK.o _ _ ?_;clear hK;refine bH ?_;have s0:∀ {v':Value} {n':Nat},RN W v' n'→RN (storeAll W (gy) 0 [.bool (ai y),.slice lg (ae y) lv]) v' n':=fun h'=>bB _ h' K4.o (by simp[bQ]) (by simp[bi]);have o0:∀ {g':Nat} {cs':Array Value} {T':TypeId},g'≠gy→SBk W g' cs' T'→SBk (storeAll W (gy) 0 [.bool (ai y),.slice lg (ae y) lv]) g' cs' T':=fun hg' h'=>aL hg' _ 0 h';exact⟨rfl,dX,dY,lg,lv,gy,(HI.o.finx ⟨HI.o.sx HA.o 0,HI.o.sx HA.o 1,HI.o.sx HA.o 2,HI.o.sx HA.o 3,HI.o.sx HA.o 4,HI.o.sx HA.o 5,HI.o.sx HA.o 6,HI.o.sx HA.o 7,x8,x9,x10,trivial⟩ rfl),(ax (l:=[.bool (ai y),.slice lg (ae y) lv]) (i:=0) (by have:=u0p.o;omega) fQ.o),(o0 (by have:=u0p.o;omega) K3.o),(dm (l:=[.bool (ai y),.slice lg (ae y) lv]) (i:=0) K4.o),(s0 RX.o),(s0 RY.o),u0p.o⟩
 rintro a' W3 ⟨dX,dY,lg,lv,gy,rfl,z0,z1,z2,z3,z4,z5⟩;obtain ⟨oM,K3,K4,RX,RY⟩:=bK z0 z1 z2 z3 z4;have R10xW3:=z5;clear z0 z1 z2 z3 z4 z5;simp only[putL,List.setIfInBounds_toArray,List.set_cons_zero,List.set_cons_succ];obtain ⟨u0A,u0B⟩:=av K3.o rfl rfl;obtain ⟨u0E,u0F⟩:=av K4.o rfl rfl;go_wp2_with fail
 with_reducible refine(C7.o _ _ _ _ _ RX.o RY.o).mono ?_
 rintro e W4 ⟨rfl,hb⟩;clear u0A u0B u0E u0F;have l5:=hbt oM hb;clear hb;go_wp2;exact bodyPost_ret (v:=.int .i64 k) (by simp[results,results54,go_sem]) rfl ⟨rfl,l5.o⟩
