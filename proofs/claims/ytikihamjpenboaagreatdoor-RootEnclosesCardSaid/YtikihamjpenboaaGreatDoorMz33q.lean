/- texts -/
import Derived.Test.YtikihamjpenboaaGreatDoorMz30q
open Go.Proofs.Tryz
set_option maxRecDepth 100000
set_option maxHeartbeats 20000000
open Go.Lib (hid)
namespace Go.Proofs.YtikihamjpenboaaGreatDoor
open Go.RowKit Go.Gb
theorem z3w (a0 x0 y0:ByteArray)(z:Int)(n:Nat)  (w:World)(h1:CQ 51 #[.string a0] (.tuple #[.string x0,.string y0,.bool false]))(h2:CQ 52 #[.string x0] (.bool true))(h3:CQ 53 #[.string y0] (.bool true))(h4:∀ W,CZ 55 #[.string x0] W z)(h5:∀ W,CN 56 #[.string y0] W n)  :
 Calls Tryz.prog 22 #[.string a0] w fun e w'=>∃ p c s d,e=.returned (.tuple #[.agg #[.bool (ah z),.slice p (aa z) c,.slice s (ag n) d],.bool true])∧RN w' (.slice p (aa z) c) z.natAbs∧RN w' (.slice s (ag n) d) n∧Below w.heap.size w w':=by
 obtain ⟨C1,C2,C3,C4,C5⟩:=bY h1 h2 h3 h4 h5;clear h1 h2 h3 h4 h5;go_enter func22,ntmps22
 go_upto_region 1 with fail
 refine az w [(#[.bool false,.slice none 0 0,.slice none 0 0],51)] rfl ?_;rintro W0 ⟨k1,hb⟩;have sj:=hid (show Below w.heap.size w W0 from hb);have K1:=hid k1;clear k1 hb;go_wp2_with fail
 with_reducible refine(C1.o _).mono ?_
 rintro e W1 ⟨rfl,hb⟩;have K1:=hid (K1.o.below hb);have rV:=hbt sj hb;clear hb;go_wp2_with fail
 with_reducible refine(C2.o _).mono ?_
 rintro e W2 ⟨rfl,hb⟩;have K1:=hid (K1.o.below hb);have mi:=hbt rV hb;clear hb;go_wp2_with fail
 with_reducible refine(C3.o _).mono ?_
 rintro e W3 ⟨rfl,hb⟩;have K1:=hid (K1.o.below hb);have l5:=hbt mi hb;clear hb;go_wp2_with fail
 with_reducible refine(C4.o _).mono ?_
 rintro e W4 ⟨sw,r9,rfl,p8,hb⟩;have K1:=hid (K1.o.below hb);have gF:=hbt l5 hb;have RZ:=hid p8;clear hb p8;go_wp2_with fail
 with_reducible refine(C5.o _).mono ?_
 rintro e W5 ⟨p9,pq,rfl,l6,hb⟩;obtain ⟨K1,RZ⟩:=aH hb K1 RZ;have lg:=hbt gF hb;have RM:=hid l6;clear hb l6;go_upto_region 5 with fail
 refine az W5 [(#[.bool (ah z),.slice sw (aa z) r9,.slice p9 (ag n) pq],51)] rfl ?_;have L1:=K1.o.lt;have L2:=lg.o.size;rintro W6 ⟨k2,hb⟩;have hb:Below W5.heap.size W5 W6:=hb;obtain ⟨K1,RZ,RM⟩:=bG hb K1 RZ RM;have dP:=hbt lg hb;have K2:=hid k2;clear k2 hb;obtain ⟨fo,pu,ol⟩:=aP K2.o rfl rfl rfl;obtain ⟨oM,oV,mf⟩:=aP K1.o rfl rfl rfl;obtain ⟨bu,bv,bM⟩:=bU K1.o;go_wp2;exact bodyPost_ret (v:=.tuple #[.agg #[.bool (ah z),.slice sw (aa z) r9,.slice p9 (ag n) pq],.bool true]) (by simp[results,results22,go_sem,oM,oV,mf]) rfl ⟨_,_,_,_,rfl,(aS [.bool (ah z),.slice sw (aa z) r9,.slice p9 (ag n) pq] RZ.o K1.o (by simp[bF]) (by simp[aY])),(aS [.bool (ah z),.slice sw (aa z) r9,.slice p9 (ag n) pq] RM.o K1.o (by simp[bF]) (by simp[aY])),(ay (l:=[.bool (ah z),.slice sw (aa z) r9,.slice p9 (ag n) pq]) (i:=0) (by omega) dP.o)⟩
theorem uN (a0 x0 y0:ByteArray)(zz:Int)(dz:Nat)(sl:Bool)  (w:World)(h1:CQ 51 #[.string a0] (.tuple #[.string x0,.string y0,.bool sl]))(h2:CQ 52 #[.string x0] (.bool false))(h11:∀ W,CF 54 #[.int .i64 0] W zz dz)  :
 Calls Tryz.prog 22 #[.string a0] w fun e w'=>∃ p c s d,e=.returned (.tuple #[.agg #[.bool (ah zz),.slice p (aa zz) c,.slice s (ag dz) d],.bool false])∧RN w' (.slice p (aa zz) c) zz.natAbs∧RN w' (.slice s (ag dz) d) dz∧Below w.heap.size w w':=by
 obtain ⟨C1,C2,C11⟩:=ak h1 h2 h11;clear h1 h2 h11;go_enter func22,ntmps22
 go_upto_region 1 with fail
 refine az w [(#[.bool false,.slice none 0 0,.slice none 0 0],51)] rfl ?_;rintro W0 ⟨k1,hb⟩;have sj:=hid (show Below w.heap.size w W0 from hb);have K1:=hid k1;clear k1 hb;go_wp2_with fail
 with_reducible refine(C1.o _).mono ?_
 rintro e W1 ⟨rfl,hb⟩;have K1:=hid (K1.o.below hb);have rV:=hbt sj hb;clear hb;go_wp2_with fail
 with_reducible refine(C2.o _).mono ?_
 rintro e W2 ⟨rfl,hb⟩;have K1:=hid (K1.o.below hb);have mi:=hbt rV hb;clear hb;go_wp2_with fail
 with_reducible refine(C11.o _).mono ?_
 rintro e W3 ⟨dX,dY,cu,cO,rfl,u02,u03,hb⟩;have K1:=hid (K1.o.below hb);have l5:=hbt mi hb;have RQ:=hid u02;have TQ:=hid u03;clear hb u02 u03;obtain ⟨oM,oV,mf⟩:=aP K1.o rfl rfl rfl;obtain ⟨bu,bv,bM⟩:=bU K1.o;go_wp2;exact bodyPost_ret (v:=.tuple #[.agg #[.bool (ah zz),.slice dX (aa zz) dY,.slice cu (ag dz) cO],.bool false]) (by simp[results,results22,go_sem,oM,oV,mf]) rfl ⟨_,_,_,_,rfl,(aS [.bool (ah zz),.slice dX (aa zz) dY,.slice cu (ag dz) cO] RQ.o K1.o (by simp[bF]) (by simp[aY])),(aS [.bool (ah zz),.slice dX (aa zz) dY,.slice cu (ag dz) cO] TQ.o K1.o (by simp[bF]) (by simp[aY])),(ay (l:=[.bool (ah zz),.slice dX (aa zz) dY,.slice cu (ag dz) cO]) (i:=0) (by omega) l5.o)⟩
theorem z1D (a0 x0 y0:ByteArray)(zz:Int)(dz:Nat)(sl:Bool)  (w:World)(h1:CQ 51 #[.string a0] (.tuple #[.string x0,.string y0,.bool sl]))(h2:CQ 52 #[.string x0] (.bool true))(h3:CQ 53 #[.string y0] (.bool false))(h11:∀ W,CF 54 #[.int .i64 0] W zz dz)  :
 Calls Tryz.prog 22 #[.string a0] w fun e w'=>∃ p c s d,e=.returned (.tuple #[.agg #[.bool (ah zz),.slice p (aa zz) c,.slice s (ag dz) d],.bool false])∧RN w' (.slice p (aa zz) c) zz.natAbs∧RN w' (.slice s (ag dz) d) dz∧Below w.heap.size w w':=by
 obtain ⟨C1,C2,C3,C11⟩:=aM h1 h2 h3 h11;clear h1 h2 h3 h11;go_enter func22,ntmps22
 go_upto_region 1 with fail
 refine az w [(#[.bool false,.slice none 0 0,.slice none 0 0],51)] rfl ?_;rintro W0 ⟨k1,hb⟩;have sj:=hid (show Below w.heap.size w W0 from hb);have K1:=hid k1;clear k1 hb;go_wp2_with fail
 with_reducible refine(C1.o _).mono ?_
 rintro e W1 ⟨rfl,hb⟩;have K1:=hid (K1.o.below hb);have rV:=hbt sj hb;clear hb;go_wp2_with fail
 with_reducible refine(C2.o _).mono ?_
 rintro e W2 ⟨rfl,hb⟩;have K1:=hid (K1.o.below hb);have mi:=hbt rV hb;clear hb;go_wp2_with fail
 with_reducible refine(C3.o _).mono ?_
 rintro e W3 ⟨rfl,hb⟩;have K1:=hid (K1.o.below hb);have l5:=hbt mi hb;clear hb;go_wp2_with fail
 with_reducible refine(C11.o _).mono ?_
 rintro e W4 ⟨sw,r9,s_4,d_4,rfl,p8,u0z,hb⟩;have K1:=hid (K1.o.below hb);have gF:=hbt l5 hb;have RQ:=hid p8;have TQ:=hid u0z;clear hb p8 u0z;obtain ⟨oM,oV,mf⟩:=aP K1.o rfl rfl rfl;obtain ⟨bu,bv,bM⟩:=bU K1.o;go_wp2;exact bodyPost_ret (v:=.tuple #[.agg #[.bool (ah zz),.slice sw (aa zz) r9,.slice s_4 (ag dz) d_4],.bool false]) (by simp[results,results22,go_sem,oM,oV,mf]) rfl ⟨_,_,_,_,rfl,(aS [.bool (ah zz),.slice sw (aa zz) r9,.slice s_4 (ag dz) d_4] RQ.o K1.o (by simp[bF]) (by simp[aY])),(aS [.bool (ah zz),.slice sw (aa zz) r9,.slice s_4 (ag dz) d_4] TQ.o K1.o (by simp[bF]) (by simp[aY])),(ay (l:=[.bool (ah zz),.slice sw (aa zz) r9,.slice s_4 (ag dz) d_4]) (i:=0) (by omega) gF.o)⟩
theorem z1C (a0 x0 y0:ByteArray)(z k sg:Int)(n one g:Nat)(hk:0<k)(hsg:sg≠0)  (w:World)(h1:CQ 51 #[.string a0] (.tuple #[.string x0,.string y0,.bool true]))(h2:CQ 52 #[.string x0] (.bool true))(h3:CQ 53 #[.string y0] (.bool true))(h4:∀ W,CZ 55 #[.string x0] W z)(h5:∀ W,CN 56 #[.string y0] W n)(h6:∀ W,CN 57 #[.int .u32 1] W one)(h7:∀ s1 d1 s2 d2 W,RN W (.slice s1 (ag n) d1) n→RN W (.slice s2 (ag one) d2) one→CR 58 #[.slice s1 (ag n) d1,.slice s2 (ag one) d2] W (.int .i64 k))(h8:∀ p1 c1 W,RN W (.slice p1 (aa z) c1) z.natAbs→CR 59 #[.agg #[.bool (ah z),.slice p1 (aa z) c1]] W (.int .i64 sg))(h9:∀ p1 c1 s2 d2 W,RN W (.slice p1 (aa z) c1) z.natAbs→RN W (.slice s2 (ag n) d2) n→CN 60 #[.slice p1 (aa z) c1,.slice s2 (ag n) d2] W g)(h10:∀ s1 d1 s2 d2 W,RN W (.slice s1 (ag g) d1) g→RN W (.slice s2 (ag one) d2) one→CR 58 #[.slice s1 (ag g) d1,.slice s2 (ag one) d2] W (.int .i64 0))  :
 Calls Tryz.prog 22 #[.string a0] w fun e w'=>∃ p c s d,e=.returned (.tuple #[.agg #[.bool (ah z),.slice p (aa z) c,.slice s (ag n) d],.bool true])∧RN w' (.slice p (aa z) c) z.natAbs∧RN w' (.slice s (ag n) d) n∧Below w.heap.size w w':=by
 obtain ⟨C1,C2,C3,C4,C5,C6,C7,C8,C9⟩:=bX h1 h2 h3 h4 h5 h6 h7 h8 h9;have C10:=hid h10;have k0:decide (0<k)=true:=decide_eq_true hk;have k1:0<k:=hk;clear hk;have s0:(sg==0)=false:=by rw[beq_eq_false_iff_ne];exact hsg
 have s1:¬ sg=0:=hsg;have s2:(sg != 0)=true:=by unfold bne;rw[s0];rfl
 have s3:decide (sg=0)=false:=decide_eq_false hsg;clear hsg h1 h2 h3 h4 h5 h6 h7 h8 h9 h10;go_enter func22,ntmps22
 go_upto_region 1 with fail
 refine az w [(#[.bool false,.slice none 0 0,.slice none 0 0],51)] rfl ?_;rintro W0 ⟨k1,hb⟩;have sj:=hid (show Below w.heap.size w W0 from hb);have K1:=hid k1;clear k1 hb;go_wp2_with fail
 with_reducible refine(C1.o _).mono ?_
 rintro e W1 ⟨rfl,hb⟩;have K1:=hid (K1.o.below hb);have rV:=hbt sj hb;clear hb;go_wp2_with fail
 with_reducible refine(C2.o _).mono ?_
 rintro e W2 ⟨rfl,hb⟩;have K1:=hid (K1.o.below hb);have mi:=hbt rV hb;clear hb;go_wp2_with fail
 with_reducible refine(C3.o _).mono ?_
 rintro e W3 ⟨rfl,hb⟩;have K1:=hid (K1.o.below hb);have l5:=hbt mi hb;clear hb;go_wp2_with fail
 with_reducible refine(C4.o _).mono ?_
 rintro e W4 ⟨sw,r9,rfl,p8,hb⟩;have K1:=hid (K1.o.below hb);have gF:=hbt l5 hb;have RZ:=hid p8;clear hb p8;go_wp2_with fail
 with_reducible refine(C5.o _).mono ?_
 rintro e W5 ⟨p9,pq,rfl,l6,hb⟩;obtain ⟨K1,RZ⟩:=aH hb K1 RZ;have lg:=hbt gF hb;have RM:=hid l6;clear hb l6;go_upto_region 5 with fail
 refine az W5 [(#[.bool (ah z),.slice sw (aa z) r9,.slice p9 (ag n) pq],51)] rfl ?_;have L1:=K1.o.lt;have L2:=lg.o.size;rintro W6 ⟨k2,hb⟩;have hb:Below W5.heap.size W5 W6:=hb;obtain ⟨K1,RZ,RM⟩:=bG hb K1 RZ RM;have dP:=hbt lg hb;have K2:=hid k2;clear k2 hb;go_wp2_with fail
 with_reducible refine(C6.o _).mono ?_
 rintro e W7 ⟨p_6,c_6,rfl,fq,hb⟩;obtain ⟨K1,K2,RZ,RM⟩:=aW hb K1 K2 RZ RM;have bS:=hbt dP hb;have RO:=hid fq;clear hb fq;have ol:=K2.o.cell (i:=2) rfl;go_wp2_with fail
 with_reducible refine(C7.o _ _ _ _ _ RM.o RO.o).mono ?_
 rintro e W8 ⟨rfl,hb⟩;clear ol;obtain ⟨K1,K2,RZ,RM,RO⟩:=gp hb K1 K2 RZ RM RO;have bV:=hbt bS hb;clear hb;obtain ⟨fo,pu⟩:=au K2.o rfl rfl;go_wp2_with fail
 with_reducible refine(C8.o _ _ _ RZ.o).mono ?_
 rintro e W9 ⟨rfl,hb⟩;clear fo pu;obtain ⟨K1,K2,RZ,RM,RO⟩:=gp hb K1 K2 RZ RM RO;have af:=hbt bV hb;clear hb;have pu:=K2.o.cell (i:=1) rfl;have ol:=K2.o.cell (i:=2) rfl;go_wp2_with fail
 with_reducible refine(C9.o _ _ _ _ _ RZ.o RM.o).mono ?_
 rintro e W10 ⟨p_9,c_9,rfl,bq,hb⟩;clear pu ol;obtain ⟨K1,K2,RZ,RM,RO⟩:=gp hb K1 K2 RZ RM RO;have u04:=hbt af hb;have RG:=hid bq;clear hb bq;go_wp2_with fail
 with_reducible refine(C10.o _ _ _ _ _ RG.o RO.o).mono ?_
 rintro e W11 ⟨rfl,hb⟩;obtain ⟨K1,K2,RZ,RM⟩:=aW hb K1 K2 RZ RM;have u0s:=hbt u04 hb;clear hb;obtain ⟨fo,pu,ol⟩:=aP K2.o rfl rfl rfl;obtain ⟨oM,oV,mf⟩:=aP K1.o rfl rfl rfl;obtain ⟨bu,bv,bM⟩:=bU K1.o;go_wp2;exact bodyPost_ret (v:=.tuple #[.agg #[.bool (ah z),.slice sw (aa z) r9,.slice p9 (ag n) pq],.bool true]) (by simp[results,results22,go_sem,oM,oV,mf]) rfl ⟨_,_,_,_,rfl,(aS [.bool (ah z),.slice sw (aa z) r9,.slice p9 (ag n) pq] RZ.o K1.o (by simp[bF]) (by simp[aY])),(aS [.bool (ah z),.slice sw (aa z) r9,.slice p9 (ag n) pq] RM.o K1.o (by simp[bF]) (by simp[aY])),(ay (l:=[.bool (ah z),.slice sw (aa z) r9,.slice p9 (ag n) pq]) (i:=0) (by omega) u0s.o)⟩
theorem zM (a0 x0 y0:ByteArray)(z k zz:Int)(n one dz:Nat)(hk:k≤0)  (w:World)(h1:CQ 51 #[.string a0] (.tuple #[.string x0,.string y0,.bool true]))(h2:CQ 52 #[.string x0] (.bool true))(h3:CQ 53 #[.string y0] (.bool true))(h4:∀ W,CZ 55 #[.string x0] W z)(h5:∀ W,CN 56 #[.string y0] W n)(h6:∀ W,CN 57 #[.int .u32 1] W one)(h7:∀ s1 d1 s2 d2 W,RN W (.slice s1 (ag n) d1) n→RN W (.slice s2 (ag one) d2) one→CR 58 #[.slice s1 (ag n) d1,.slice s2 (ag one) d2] W (.int .i64 k))(h11:∀ W,CF 54 #[.int .i64 0] W zz dz)  :
 Calls Tryz.prog 22 #[.string a0] w fun e w'=>∃ p c s d,e=.returned (.tuple #[.agg #[.bool (ah zz),.slice p (aa zz) c,.slice s (ag dz) d],.bool false])∧RN w' (.slice p (aa zz) c) zz.natAbs∧RN w' (.slice s (ag dz) d) dz∧Below w.heap.size w w':=by
 obtain ⟨C1,C2,C3,C4,C5,C6,C7,C11⟩:=jY h1 h2 h3 h4 h5 h6 h7 h11;have k0:decide (0<k)=false:=decide_eq_false (by omega);have k1:k≤0:=hk;clear hk h1 h2 h3 h4 h5 h6 h7 h11;go_enter func22,ntmps22
 go_upto_region 1 with fail
 refine az w [(#[.bool false,.slice none 0 0,.slice none 0 0],51)] rfl ?_;rintro W0 ⟨k1,hb⟩;have sj:=hid (show Below w.heap.size w W0 from hb);have K1:=hid k1;clear k1 hb;go_wp2_with fail
 with_reducible refine(C1.o _).mono ?_
 rintro e W1 ⟨rfl,hb⟩;have K1:=hid (K1.o.below hb);have rV:=hbt sj hb;clear hb;go_wp2_with fail
 with_reducible refine(C2.o _).mono ?_
 rintro e W2 ⟨rfl,hb⟩;have K1:=hid (K1.o.below hb);have mi:=hbt rV hb;clear hb;go_wp2_with fail
 with_reducible refine(C3.o _).mono ?_
 rintro e W3 ⟨rfl,hb⟩;have K1:=hid (K1.o.below hb);have l5:=hbt mi hb;clear hb;go_wp2_with fail
 with_reducible refine(C4.o _).mono ?_
 rintro e W4 ⟨sw,r9,rfl,p8,hb⟩;have K1:=hid (K1.o.below hb);have gF:=hbt l5 hb;have RZ:=hid p8;clear hb p8;go_wp2_with fail
 with_reducible refine(C5.o _).mono ?_
 rintro e W5 ⟨p9,pq,rfl,l6,hb⟩;have K1:=hid (K1.o.below hb);have lg:=hbt gF hb;have RM:=hid l6;clear hb l6;go_upto_region 5 with fail
 refine az W5 [(#[.bool (ah z),.slice sw (aa z) r9,.slice p9 (ag n) pq],51)] rfl ?_;have L1:=K1.o.lt;have L2:=lg.o.size;rintro W6 ⟨k2,hb⟩;have hb:Below W5.heap.size W5 W6:=hb;obtain ⟨K1,RM⟩:=aH hb K1 RM;have dP:=hbt lg hb;have K2:=hid k2;clear k2 hb;go_wp2_with fail
 with_reducible refine(C6.o _).mono ?_
 rintro e W7 ⟨p_6,c_6,rfl,fq,hb⟩;obtain ⟨K1,K2,RM⟩:=bG hb K1 K2 RM;have bS:=hbt dP hb;have RO:=hid fq;clear hb fq;have ol:=K2.o.cell (i:=2) rfl;go_wp2_with fail
 with_reducible refine(C7.o _ _ _ _ _ RM.o RO.o).mono ?_
 rintro e W8 ⟨rfl,hb⟩;clear ol;obtain ⟨K1,K2⟩:=aH hb K1 K2;have bV:=hbt bS hb;clear hb;obtain ⟨fo,pu,ol⟩:=aP K2.o rfl rfl rfl;go_wp2_with fail
 with_reducible refine(C11.o _).mono ?_
 rintro e W9 ⟨p_8,c_8,s_8,d_8,rfl,u0A,u0B,hb⟩;clear fo pu ol;have K1:=hid (K1.o.below hb);have af:=hbt bV hb;have RQ:=hid u0A;have TQ:=hid u0B;clear hb u0A u0B;obtain ⟨oM,oV,mf⟩:=aP K1.o rfl rfl rfl;obtain ⟨bu,bv,bM⟩:=bU K1.o;go_wp2;exact bodyPost_ret (v:=.tuple #[.agg #[.bool (ah zz),.slice p_8 (aa zz) c_8,.slice s_8 (ag dz) d_8],.bool false]) (by simp[results,results22,go_sem,oM,oV,mf]) rfl ⟨_,_,_,_,rfl,(aS [.bool (ah zz),.slice p_8 (aa zz) c_8,.slice s_8 (ag dz) d_8] RQ.o K1.o (by simp[bF]) (by simp[aY])),(aS [.bool (ah zz),.slice p_8 (aa zz) c_8,.slice s_8 (ag dz) d_8] TQ.o K1.o (by simp[bF]) (by simp[aY])),(ay (l:=[.bool (ah zz),.slice p_8 (aa zz) c_8,.slice s_8 (ag dz) d_8]) (i:=0) (by omega) af.o)⟩
theorem z1B (a0 x0 y0:ByteArray)(z k zz:Int)(n one dz:Nat)(hk:0<k)  (w:World)(h1:CQ 51 #[.string a0] (.tuple #[.string x0,.string y0,.bool true]))(h2:CQ 52 #[.string x0] (.bool true))(h3:CQ 53 #[.string y0] (.bool true))(h4:∀ W,CZ 55 #[.string x0] W z)(h5:∀ W,CN 56 #[.string y0] W n)(h6:∀ W,CN 57 #[.int .u32 1] W one)(h7:∀ s1 d1 s2 d2 W,RN W (.slice s1 (ag n) d1) n→RN W (.slice s2 (ag one) d2) one→CR 58 #[.slice s1 (ag n) d1,.slice s2 (ag one) d2] W (.int .i64 k))(h8:∀ p1 c1 W,RN W (.slice p1 (aa z) c1) z.natAbs→CR 59 #[.agg #[.bool (ah z),.slice p1 (aa z) c1]] W (.int .i64 0))(h11:∀ W,CF 54 #[.int .i64 0] W zz dz)  :
 Calls Tryz.prog 22 #[.string a0] w fun e w'=>∃ p c s d,e=.returned (.tuple #[.agg #[.bool (ah zz),.slice p (aa zz) c,.slice s (ag dz) d],.bool false])∧RN w' (.slice p (aa zz) c) zz.natAbs∧RN w' (.slice s (ag dz) d) dz∧Below w.heap.size w w':=by
 obtain ⟨C1,C2,C3,C4,C5,C6,C7,C8,C11⟩:=bX h1 h2 h3 h4 h5 h6 h7 h8 h11;have k0:decide (0<k)=true:=decide_eq_true hk;have k1:0<k:=hk;clear hk h1 h2 h3 h4 h5 h6 h7 h8 h11;go_enter func22,ntmps22
 go_upto_region 1 with fail
 refine az w [(#[.bool false,.slice none 0 0,.slice none 0 0],51)] rfl ?_;rintro W0 ⟨k1,hb⟩;have sj:=hid (show Below w.heap.size w W0 from hb);have K1:=hid k1;clear k1 hb;go_wp2_with fail
 with_reducible refine(C1.o _).mono ?_
 rintro e W1 ⟨rfl,hb⟩;have K1:=hid (K1.o.below hb);have rV:=hbt sj hb;clear hb;go_wp2_with fail
 with_reducible refine(C2.o _).mono ?_
 rintro e W2 ⟨rfl,hb⟩;have K1:=hid (K1.o.below hb);have mi:=hbt rV hb;clear hb;go_wp2_with fail
 with_reducible refine(C3.o _).mono ?_
 rintro e W3 ⟨rfl,hb⟩;have K1:=hid (K1.o.below hb);have l5:=hbt mi hb;clear hb;go_wp2_with fail
 with_reducible refine(C4.o _).mono ?_
 rintro e W4 ⟨sw,r9,rfl,p8,hb⟩;have K1:=hid (K1.o.below hb);have gF:=hbt l5 hb;have RZ:=hid p8;clear hb p8;go_wp2_with fail
 with_reducible refine(C5.o _).mono ?_
 rintro e W5 ⟨p9,pq,rfl,l6,hb⟩;obtain ⟨K1,RZ⟩:=aH hb K1 RZ;have lg:=hbt gF hb;have RM:=hid l6;clear hb l6;go_upto_region 5 with fail
 refine az W5 [(#[.bool (ah z),.slice sw (aa z) r9,.slice p9 (ag n) pq],51)] rfl ?_;have L1:=K1.o.lt;have L2:=lg.o.size;rintro W6 ⟨k2,hb⟩;have hb:Below W5.heap.size W5 W6:=hb;obtain ⟨K1,RZ,RM⟩:=bG hb K1 RZ RM;have dP:=hbt lg hb;have K2:=hid k2;clear k2 hb;go_wp2_with fail
 with_reducible refine(C6.o _).mono ?_
 rintro e W7 ⟨p_6,c_6,rfl,fq,hb⟩;obtain ⟨K1,K2,RZ,RM⟩:=aW hb K1 K2 RZ RM;have bS:=hbt dP hb;have RO:=hid fq;clear hb fq;have ol:=K2.o.cell (i:=2) rfl;go_wp2_with fail
 with_reducible refine(C7.o _ _ _ _ _ RM.o RO.o).mono ?_
 rintro e W8 ⟨rfl,hb⟩;clear ol;obtain ⟨K1,K2,RZ⟩:=bG hb K1 K2 RZ;have bV:=hbt bS hb;clear hb;obtain ⟨fo,pu⟩:=au K2.o rfl rfl;go_wp2_with fail
 with_reducible refine(C8.o _ _ _ RZ.o).mono ?_
 rintro e W9 ⟨rfl,hb⟩;clear fo pu;obtain ⟨K1,K2⟩:=aH hb K1 K2;have af:=hbt bV hb;clear hb;have pu:=K2.o.cell (i:=1) rfl;have ol:=K2.o.cell (i:=2) rfl;go_wp2_with fail
 with_reducible refine(C11.o _).mono ?_
 rintro e W10 ⟨p_9,c_9,s_9,d_9,rfl,bq,u0C,hb⟩;clear pu ol;have K1:=hid (K1.o.below hb);have u04:=hbt af hb;have RQ:=hid bq;have TQ:=hid u0C;clear hb bq u0C;obtain ⟨oM,oV,mf⟩:=aP K1.o rfl rfl rfl;obtain ⟨bu,bv,bM⟩:=bU K1.o;go_wp2;exact bodyPost_ret (v:=.tuple #[.agg #[.bool (ah zz),.slice p_9 (aa zz) c_9,.slice s_9 (ag dz) d_9],.bool false]) (by simp[results,results22,go_sem,oM,oV,mf]) rfl ⟨_,_,_,_,rfl,(aS [.bool (ah zz),.slice p_9 (aa zz) c_9,.slice s_9 (ag dz) d_9] RQ.o K1.o (by simp[bF]) (by simp[aY])),(aS [.bool (ah zz),.slice p_9 (aa zz) c_9,.slice s_9 (ag dz) d_9] TQ.o K1.o (by simp[bF]) (by simp[aY])),(ay (l:=[.bool (ah zz),.slice p_9 (aa zz) c_9,.slice s_9 (ag dz) d_9]) (i:=0) (by omega) u04.o)⟩
theorem wJ (a0 x0 y0:ByteArray)(z k k2 sg zz:Int)(n one g dz:Nat)(hk:0<k)(hsg:sg≠0)(hk2:k2≠0)  (w:World)(h1:CQ 51 #[.string a0] (.tuple #[.string x0,.string y0,.bool true]))(h2:CQ 52 #[.string x0] (.bool true))(h3:CQ 53 #[.string y0] (.bool true))(h4:∀ W,CZ 55 #[.string x0] W z)(h5:∀ W,CN 56 #[.string y0] W n)(h6:∀ W,CN 57 #[.int .u32 1] W one)(h7:∀ s1 d1 s2 d2 W,RN W (.slice s1 (ag n) d1) n→RN W (.slice s2 (ag one) d2) one→CR 58 #[.slice s1 (ag n) d1,.slice s2 (ag one) d2] W (.int .i64 k))(h8:∀ p1 c1 W,RN W (.slice p1 (aa z) c1) z.natAbs→CR 59 #[.agg #[.bool (ah z),.slice p1 (aa z) c1]] W (.int .i64 sg))(h9:∀ p1 c1 s2 d2 W,RN W (.slice p1 (aa z) c1) z.natAbs→RN W (.slice s2 (ag n) d2) n→CN 60 #[.slice p1 (aa z) c1,.slice s2 (ag n) d2] W g)(h10:∀ s1 d1 s2 d2 W,RN W (.slice s1 (ag g) d1) g→RN W (.slice s2 (ag one) d2) one→CR 58 #[.slice s1 (ag g) d1,.slice s2 (ag one) d2] W (.int .i64 k2))(h11:∀ W,CF 54 #[.int .i64 0] W zz dz)  :
 Calls Tryz.prog 22 #[.string a0] w fun e w'=>∃ p c s d,e=.returned (.tuple #[.agg #[.bool (ah zz),.slice p (aa zz) c,.slice s (ag dz) d],.bool false])∧RN w' (.slice p (aa zz) c) zz.natAbs∧RN w' (.slice s (ag dz) d) dz∧Below w.heap.size w w':=by
 obtain ⟨C1,C2,C3,C4,C5,C6,C7,C8,C9⟩:=bX h1 h2 h3 h4 h5 h6 h7 h8 h9;have C10:=hid h10;have C11:=hid h11;have k0:decide (0<k)=true:=decide_eq_true hk;have k1:0<k:=hk;clear hk;have s0:(sg==0)=false:=by rw[beq_eq_false_iff_ne];exact hsg
 have s1:¬ sg=0:=hsg;have s2:(sg != 0)=true:=by unfold bne;rw[s0];rfl
 have s3:decide (sg=0)=false:=decide_eq_false hsg;clear hsg;have q0:(k2==0)=false:=by rw[beq_eq_false_iff_ne];exact hk2
 have q1:¬ k2=0:=hk2;clear hk2 h1 h2 h3 h4 h5 h6 h7 h8 h9 h10 h11;go_enter func22,ntmps22
 go_upto_region 1 with fail
 refine az w [(#[.bool false,.slice none 0 0,.slice none 0 0],51)] rfl ?_;rintro W0 ⟨k1,hb⟩;have sj:=hid (show Below w.heap.size w W0 from hb);have K1:=hid k1;clear k1 hb;go_wp2_with fail
 with_reducible refine(C1.o _).mono ?_
 rintro e W1 ⟨rfl,hb⟩;have K1:=hid (K1.o.below hb);have rV:=hbt sj hb;clear hb;go_wp2_with fail
 with_reducible refine(C2.o _).mono ?_
 rintro e W2 ⟨rfl,hb⟩;have K1:=hid (K1.o.below hb);have mi:=hbt rV hb;clear hb;go_wp2_with fail
 with_reducible refine(C3.o _).mono ?_
 rintro e W3 ⟨rfl,hb⟩;have K1:=hid (K1.o.below hb);have l5:=hbt mi hb;clear hb;go_wp2_with fail
 with_reducible refine(C4.o _).mono ?_
 rintro e W4 ⟨sw,r9,rfl,p8,hb⟩;have K1:=hid (K1.o.below hb);have gF:=hbt l5 hb;have RZ:=hid p8;clear hb p8;go_wp2_with fail
 with_reducible refine(C5.o _).mono ?_
 rintro e W5 ⟨p9,pq,rfl,l6,hb⟩;obtain ⟨K1,RZ⟩:=aH hb K1 RZ;have lg:=hbt gF hb;have RM:=hid l6;clear hb l6;go_upto_region 5 with fail
 refine az W5 [(#[.bool (ah z),.slice sw (aa z) r9,.slice p9 (ag n) pq],51)] rfl ?_;have L1:=K1.o.lt;have L2:=lg.o.size;rintro W6 ⟨k2,hb⟩;have hb:Below W5.heap.size W5 W6:=hb;obtain ⟨K1,RZ,RM⟩:=bG hb K1 RZ RM;have dP:=hbt lg hb;have K2:=hid k2;clear k2 hb;go_wp2_with fail
 with_reducible refine(C6.o _).mono ?_
 rintro e W7 ⟨p_6,c_6,rfl,fq,hb⟩;obtain ⟨K1,K2,RZ,RM⟩:=aW hb K1 K2 RZ RM;have bS:=hbt dP hb;have RO:=hid fq;clear hb fq;have ol:=K2.o.cell (i:=2) rfl;go_wp2_with fail
 with_reducible refine(C7.o _ _ _ _ _ RM.o RO.o).mono ?_
 rintro e W8 ⟨rfl,hb⟩;clear ol;obtain ⟨K1,K2,RZ,RM,RO⟩:=gp hb K1 K2 RZ RM RO;have bV:=hbt bS hb;clear hb;obtain ⟨fo,pu⟩:=au K2.o rfl rfl;go_wp2_with fail
 with_reducible refine(C8.o _ _ _ RZ.o).mono ?_
 rintro e W9 ⟨rfl,hb⟩;clear fo pu;obtain ⟨K1,K2,RZ,RM,RO⟩:=gp hb K1 K2 RZ RM RO;have af:=hbt bV hb;clear hb;have pu:=K2.o.cell (i:=1) rfl;have ol:=K2.o.cell (i:=2) rfl;go_wp2_with fail
 with_reducible refine(C9.o _ _ _ _ _ RZ.o RM.o).mono ?_
 rintro e W10 ⟨p_9,c_9,rfl,bq,hb⟩;clear pu ol;obtain ⟨K1,RO⟩:=aH hb K1 RO;have u04:=hbt af hb;have RG:=hid bq;clear hb bq;go_wp2_with fail
 with_reducible refine(C10.o _ _ _ _ _ RG.o RO.o).mono ?_
 rintro e W11 ⟨rfl,hb⟩;have K1:=hid (K1.o.below hb);have u0s:=hbt u04 hb;clear hb;go_wp2_with fail
 with_reducible refine(C11.o _).mono ?_
 rintro e W12 ⟨u0l,u0m,u0n,u0o,rfl,u0D,u0E,hb⟩;have K1:=hid (K1.o.below hb);have u0L:=hbt u0s hb;have RQ:=hid u0D;have TQ:=hid u0E;clear hb u0D u0E;obtain ⟨oM,oV,mf⟩:=aP K1.o rfl rfl rfl;obtain ⟨bu,bv,bM⟩:=bU K1.o;go_wp2;exact bodyPost_ret (v:=.tuple #[.agg #[.bool (ah zz),.slice u0l (aa zz) u0m,.slice u0n (ag dz) u0o],.bool false]) (by simp[results,results22,go_sem,oM,oV,mf]) rfl ⟨_,_,_,_,rfl,(aS [.bool (ah zz),.slice u0l (aa zz) u0m,.slice u0n (ag dz) u0o] RQ.o K1.o (by simp[bF]) (by simp[aY])),(aS [.bool (ah zz),.slice u0l (aa zz) u0m,.slice u0n (ag dz) u0o] TQ.o K1.o (by simp[bF]) (by simp[aY])),(ay (l:=[.bool (ah zz),.slice u0l (aa zz) u0m,.slice u0n (ag dz) u0o]) (i:=0) (by omega) u0L.o)⟩
open Go.Lib (hid)
set_option linter.unusedSimpArgs false
theorem z0d (n m q r:Int)(en:Nat)(p1:Option Addr)(c1:Nat)(s1:Option Addr)(d1:Nat)(w:World)(h1:∀ s2 d2 W,RN W (.slice s2 (ag en) d2) en→CZ 62 #[.bool false,.slice s2 (ag en) d2] W m)(h2:∀ p1 c1 p2 c2 W,RN W (.slice p1 (aa n) c1) n.natAbs→RN W (.slice p2 (aa m) c2) m.natAbs→Calls Tryz.prog 100 #[.agg #[.bool (ah n),.slice p1 (aa n) c1],.agg #[.bool (ah m),.slice p2 (aa m) c2]] W fun e w'=>∃ p c p' c',e=.returned (.tuple #[.agg #[.bool (ah q),.slice p (aa q) c],.agg #[.bool (ah r),.slice p' (aa r) c']])∧RN w' (.slice p (aa q) c) q.natAbs∧RN w' (.slice p' (aa r) c') r.natAbs∧Below W.heap.size W w')(r1:RN w (.slice p1 (aa n) c1) n.natAbs)(t1:RN w (.slice s1 (ag en) d1) en) :
 CZ 76 #[.agg #[.bool (ah n),.slice p1 (aa n) c1,.slice s1 (ag en) d1]] w q:=by
 obtain ⟨C1,C2,R1,T1⟩:=aM h1 h2 r1 t1;clear h1 h2 r1 t1;go_enter func76,ntmps76
 go_upto_region 1 with fail
 refine az w [(#[.bool (ah n),.slice p1 (aa n) c1,.slice s1 (ag en) d1],51),(#[.bool false,.slice none 0 0],49)] rfl ?_;rintro W0 ⟨k1,k2,hb⟩;have sj:=hid (show Below w.heap.size w W0 from hb);obtain ⟨R1,T1⟩:=aH sj.o R1 T1;obtain ⟨K1,K2⟩:=aD k1 k2;clear k1 k2 hb;go_wp2_with fail
 have L1:=K1.o.lt;have L2:=K2.o.lt;have L3:=sj.o.size;refine aF (fun a0 a' V=>∃ fQ ed kM kS kV gy lv kz wu ww u6 w9 bg bn wo si,a'=⟨putL [(6,.pointer (some ⟨w.heap.size,0,none⟩)),(7,.agg #[.bool (ah n),.slice p1 (aa n) c1]),(8,.pointer (some ⟨w.heap.size,2,none⟩)),(9,.slice s1 (ag en) d1),(10,.agg #[.bool (ah m),.slice fQ (aa m) ed]),(11,.tuple #[.agg #[.bool (ah q),.slice kM (aa q) kS],.agg #[.bool (ah r),.slice kV (aa r) gy]]),(5,.tuple #[.agg #[.bool (ah q),.slice lv (aa q) kz],.agg #[.bool (ah r),.slice wu (aa r) ww]]),(12,.agg #[.bool (ah q),.slice u6 (aa q) w9]),(13,.agg #[.bool (ah r),.slice bg (aa r) bn]),(3,.pointer (some ⟨wo,0,none⟩)),(4,.pointer (some ⟨si,0,none⟩))] a0.tmps,a0.defers⟩∧Below w.heap.size w V∧SBk V (w.heap.size+1) #[.bool false,.slice none 0 0] 49∧SBk V (wo) #[.bool (ah q),.slice u6 (aa q) w9] 49∧RN V (.slice u6 (aa q) w9) q.natAbs∧W0.heap.size≤wo∧W0.heap.size≤si∧wo≠si) ?_ ?_
 · refine pF (by kernel_rfl) 11 1 8 (fun i=>[6,7,8,9,10,11,5,12,13,3,4].getD i 0) (RelR [Rel.val (.pointer (some ⟨w.heap.size,0,none⟩)),Rel.val (.agg #[.bool (ah n),.slice p1 (aa n) c1]),Rel.val (.pointer (some ⟨w.heap.size,2,none⟩)),Rel.val (.slice s1 (ag en) d1),Rel.int m,Rel.int2 q r,Rel.int2 q r,Rel.int q,Rel.int r,Rel.ptr W0.heap.size (.cells #[.bool false,.slice none 0 0] 49),Rel.ptr W0.heap.size (.cells #[.bool false,.slice none 0 0] 49)]) (fun W=>Below W0.heap.size W0 W) (Dst 9 10 (fun i=>[6,7,8,9,10,11,5,12,13,3,4].getD i 0)) (by decide) (by decide) (by kernel_rfl) (by kernel_rfl) (by kernel_rfl) (by kernel_rfl) Dst.start (Below.refl _ _).drew ?_ ?_ ?_
   · intro u0F a W i hI hD hrd him
     obtain ⟨HI,HD,Hr⟩:=ak hI hD hrd;clear hI hrd hD;have y1:=HI.o.rst 1 rfl;obtain ⟨oM,oV,mf⟩:=aP (K1.o.below HI.o.world) rfl rfl rfl;obtain⟨X0,X2,X3⟩:=HI.o.g3 0 6 2 8 3 9;have X1:=HI.o.rg 1 7 rfl
     match i,him,Hr with
     | 0,_,Hi =>
       refine aA rfl fun K' hK=>?_;go_simp;exact hK.o _ _ ⟨HI.o.pv Hi.o rfl,HD.o.put (by decide) (by decide) rfl (by decide) (by decide)⟩
     | 1,_,Hi =>
       have x0:=X0.q Hi.o;refine aA rfl fun K' hK=>?_;go_simp;exact hK.o _ _ ⟨HI.o.pv Hi.o rfl,HD.o.put (by decide) (by decide) rfl (by decide) (by decide)⟩
     | 2,_,Hi =>
       refine aA rfl fun K' hK=>?_;go_simp;exact hK.o _ _ ⟨HI.o.pv Hi.o rfl,HD.o.put (by decide) (by decide) rfl (by decide) (by decide)⟩
     | 3,_,Hi =>
       have x2:=X2.q Hi.o;refine aA rfl fun K' hK=>?_;go_simp;exact hK.o _ _ ⟨HI.o.pv Hi.o rfl,HD.o.put (by decide) (by decide) rfl (by decide) (by decide)⟩
     | 4,_,Hi =>
       have x3:=X3.q Hi.o;refine aA rfl fun K' hK=>?_;go_simp;with_reducible refine(C1.o _ _ _ (T1.o.below HI.o.world)).mono ?_
       rintro e W' ⟨fQ,ed,rfl,eX,hb⟩;exact hK.o _ _ ⟨HI.o.pc Hi.o hb ⟨fQ,ed,rfl,eX⟩,HD.o.put (by decide) (by decide) rfl (by decide) (by decide)⟩
     | 5,_,Hi =>
       have x1:=X1.q Hi.o;obtain⟨v',x4,fQ,ed,e,eX⟩:=HI.o.at (i:=4) Hi.o (by kernel_rfl) (by decide);obtain rfl:=e;have x4:a.tmps[10]? = some (.agg #[.bool (ah m),.slice fQ (aa m) ed]):=x4;have u05:=hid eX;clear eX;refine aA rfl fun K' hK=>?_;go_simp;with_reducible refine(C2.o _ _ _ _ _ (R1.o.below HI.o.world) u05.o).mono ?_
       rintro e W' ⟨kM,kS,kV,gy,rfl,d9,dx,hb⟩;exact hK.o _ _ ⟨HI.o.pc Hi.o hb ⟨kM,kS,kV,gy,rfl,d9,dx⟩,HD.o.put (by decide) (by decide) rfl (by decide) (by decide)⟩
     | 6,_,Hi =>
       obtain⟨v',x5,kM,kS,kV,gy,e,d9,dx⟩:=HI.o.at (i:=5) Hi.o (by kernel_rfl) (by decide);obtain rfl:=e;have x5:a.tmps[11]? = some (.tuple #[.agg #[.bool (ah q),.slice kM (aa q) kS],.agg #[.bool (ah r),.slice kV (aa r) gy]]):=x5;have u0t:=hid d9;clear d9;have u0u:=hid dx;clear dx;refine aA rfl fun K' hK=>?_;go_simp;exact hK.o _ _ ⟨HI.o.pv Hi.o ⟨kM,kS,kV,gy,rfl,u0t.o,u0u.o⟩,HD.o.put (by decide) (by decide) rfl (by decide) (by decide)⟩
     | 7,_,Hi =>
       obtain⟨v',x6,lv,kz,wu,ww,e,ek,eH⟩:=HI.o.at (i:=6) Hi.o (by kernel_rfl) (by decide);obtain rfl:=e;have x6:a.tmps[5]? = some (.tuple #[.agg #[.bool (ah q),.slice lv (aa q) kz],.agg #[.bool (ah r),.slice wu (aa r) ww]]):=x6;have u0p:=hid ek;clear ek;have u06:=hid eH;clear eH;refine aA rfl fun K' hK=>?_;go_simp;exact hK.o _ _ ⟨HI.o.pv Hi.o ⟨lv,kz,rfl,u0p.o⟩,HD.o.put (by decide) (by decide) rfl (by decide) (by decide)⟩
     | 8,_,Hi =>
       obtain⟨v',x6,lv,kz,wu,ww,e,ek,eH⟩:=HI.o.at (i:=6) Hi.o (by kernel_rfl) (by decide);obtain rfl:=e;have x6:a.tmps[5]? = some (.tuple #[.agg #[.bool (ah q),.slice lv (aa q) kz],.agg #[.bool (ah r),.slice wu (aa r) ww]]):=x6;have u0p:=hid ek;clear ek;have u06:=hid eH;clear eH;refine aA rfl fun K' hK=>?_;go_simp;exact hK.o _ _ ⟨HI.o.pv Hi.o ⟨wu,ww,rfl,u06.o⟩,HD.o.put (by decide) (by decide) rfl (by decide) (by decide)⟩
     | 9,_,Hi =>
       refine aA rfl fun K' hK=>?_;go_simp;exact hK.o _ _ ⟨HI.o.pc Hi.o ((Below.refl W.heap.size W).alloc (Nat.le_refl _) (.cells #[.bool false,.slice none 0 0] 49)) ⟨W.heap.size,rfl,HI.o.world.size,SBk.new _ _ _⟩,Dst.left (by decide) rfl (by decide) (by rw[HI.o.tsize];simp) (HI.o.fresh (i:=10) (by decide) (fun _ _ h=>h))⟩
     | 10,_,Hi =>
       refine aA rfl fun K' hK=>?_;go_simp;exact hK.o _ _ ⟨HI.o.pc Hi.o ((Below.refl W.heap.size W).alloc (Nat.le_refl _) (.cells #[.bool false,.slice none 0 0] 49)) ⟨W.heap.size,rfl,HI.o.world.size,SBk.new _ _ _⟩,Dst.right (by decide) rfl (by decide) (by rw[HI.o.tsize];simp) (HI.o.fresh (i:=9) (by decide) (fun _ _ h=>h))⟩
     | n+11,h,_=>exact absurd h (by omega)
   · intro u0F a W hI hD rq
     obtain⟨v',x4,fQ,ed,e,eX⟩:=hI.slots 4 (by decide) (rq 4 (by decide));obtain rfl:=e;have u05:=hid eX;clear eX;obtain⟨v',x5,kM,kS,kV,gy,e,d9,dx⟩:=hI.slots 5 (by decide) (rq 5 (by decide));obtain rfl:=e;have u0t:=hid d9;clear d9;have u0u:=hid dx;clear dx;obtain⟨v',x6,lv,kz,wu,ww,e,ek,eH⟩:=hI.slots 6 (by decide) (rq 6 (by decide));obtain rfl:=e;have u0p:=hid ek;clear ek;have u06:=hid eH;clear eH;obtain⟨v',x7,u6,w9,e,u07⟩:=hI.slots 7 (by decide) (rq 7 (by decide));obtain rfl:=e;have u0v:=hid u07;clear u07;have x7:a.tmps[12]? = some (.agg #[.bool (ah q),.slice u6 (aa q) w9]):=x7;obtain⟨v',x8,bg,bn,e,u0G⟩:=hI.slots 8 (by decide) (rq 8 (by decide));obtain rfl:=e;have u0M:=hid u0G;clear u0G;have x8:a.tmps[13]? = some (.agg #[.bool (ah r),.slice bg (aa r) bn]):=x8;obtain⟨v',x9,wo,e,u08,u09⟩:=hI.slots 9 (by decide) (rq 9 (by decide));obtain rfl:=e;have ru:=hid u08;clear u08;have u0w:=hid u09;clear u09;have x9:a.tmps[3]? = some (.pointer (some ⟨wo,0,none⟩)):=x9;obtain⟨v',x10,si,e,u0a,u0b⟩:=hI.slots 10 (by decide) (rq 10 (by decide));obtain rfl:=e;have rM:=hid u0a;clear u0a;have u0x:=hid u0b;clear u0b;have x10:a.tmps[4]? = some (.pointer (some ⟨si,0,none⟩)):=x10;have hD:=hD (rq 9 (by decide)) (rq 10 (by decide))
     have hne:wo≠si:=by
        intro e;apply hD
        show a.tmps[3]? = a.tmps[4]?
        rw[x9,x10,e]
     have HNE:=hid hne;clear hne hD;obtain ⟨HBW,HI,HA⟩:=ak hI.world hI rq;clear hI rq;obtain ⟨HBX,K2⟩:=aD (sj.o.trans (HBW.o.mono sj.o.size)) (K2.o.below HBW.o);have RM:=u05;have RQ:=u0v;have RR:=u0M;have K3:Hid (SBk W wo #[.bool false,.slice none 0 0] 49):=u0w;have K4:Hid (SBk W si #[.bool false,.slice none 0 0] 49):=u0x;obtain ⟨u0H,u0I⟩:=au K3.o rfl rfl;obtain ⟨u0N,u0O⟩:=bJ K3.o;obtain ⟨u0P,u0Q⟩:=au K4.o rfl rfl;obtain ⟨u0R,u0S⟩:=bJ K4.o;have u0T:((W.setCell ⟨wo,0,none⟩ (.bool (ah q))).setCell ⟨wo,1,none⟩ (.slice u6 (aa q) w9)).cell? ⟨si,0,none⟩=some (.bool false):=((bZ (by have:=ru.o;have:=rM.o;have:=HNE.o;omega) (l:=[.bool (ah q),.slice u6 (aa q) w9]) (i:=0) K4.o)).cell (i:=0) rfl;have u0U:((W.setCell ⟨wo,0,none⟩ (.bool (ah q))).setCell ⟨wo,1,none⟩ (.slice u6 (aa q) w9)).cell? ⟨si,1,none⟩=some (.slice none 0 0):=((bZ (by have:=ru.o;have:=rM.o;have:=HNE.o;omega) (l:=[.bool (ah q),.slice u6 (aa q) w9]) (i:=0) K4.o)).cell (i:=1) rfl;refine bz (t:=1) ?_;refine aA rfl fun K' hK=>?_;go_simp;refine hK.o _ _ ?_;clear hK;refine bz (t:=0) ?_;refine aA rfl fun K' hK=>?_;go_simp;refine hK.o _ _ ?_;clear hK;refine bi ?_;have s0:∀ {v':Value} {n':Nat},RN W v' n'→RN (storeAll W (wo) 0 [.bool (ah q),.slice u6 (aa q) w9]) v' n':=fun h'=>aS _ h' K3.o (by simp[bF]) (by simp[aY]);have o0:∀ {g':Nat} {cs':Array Value} {T':TypeId},g'≠wo→SBk W g' cs' T'→SBk (storeAll W (wo) 0 [.bool (ah q),.slice u6 (aa q) w9]) g' cs' T':=fun hg' h'=>bZ hg' _ 0 h';have s1:∀ {v':Value} {n':Nat},RN (storeAll W (wo) 0 [.bool (ah q),.slice u6 (aa q) w9]) v' n'→RN (storeAll (storeAll W (wo) 0 [.bool (ah q),.slice u6 (aa q) w9]) (si) 0 [.bool (ah r),.slice bg (aa r) bn]) v' n':=fun h'=>aS _ h' (o0 (by have:=ru.o;have:=rM.o;have:=HNE.o;omega) K4.o) (by simp[bF]) (by simp[aY]);have o1:∀ {g':Nat} {cs':Array Value} {T':TypeId},g'≠si→SBk (storeAll W (wo) 0 [.bool (ah q),.slice u6 (aa q) w9]) g' cs' T'→SBk (storeAll (storeAll W (wo) 0 [.bool (ah q),.slice u6 (aa q) w9]) (si) 0 [.bool (ah r),.slice bg (aa r) bn]) g' cs' T':=fun hg' h'=>bZ hg' _ 0 h';exact⟨rfl,fQ,ed,kM,kS,kV,gy,lv,kz,wu,ww,u6,w9,bg,bn,wo,si,(HI.o.finx ⟨HI.o.sx HA.o 0,HI.o.sx HA.o 1,HI.o.sx HA.o 2,HI.o.sx HA.o 3,x4,x5,x6,x7,x8,x9,x10,trivial⟩ rfl),(ay (l:=[.bool (ah r),.slice bg (aa r) bn]) (i:=0) (by have:=ru.o;have:=rM.o;have:=HNE.o;omega) (ay (l:=[.bool (ah q),.slice u6 (aa q) w9]) (i:=0) (by have:=ru.o;have:=rM.o;have:=HNE.o;omega) HBX.o)),(o1 (by have:=ru.o;have:=rM.o;have:=HNE.o;omega) (o0 (by have:=ru.o;have:=rM.o;have:=HNE.o;omega) K2.o)),(bZ (by have:=ru.o;have:=rM.o;have:=HNE.o;omega) (l:=[.bool (ah r),.slice bg (aa r) bn]) (i:=0) (cK (l:=[.bool (ah q),.slice u6 (aa q) w9]) (i:=0) K3.o)),(s1 (s0 RQ.o)),ru.o,rM.o,HNE.o⟩
   · intro u0F a W hI hD rq
     obtain⟨v',x4,fQ,ed,e,eX⟩:=hI.slots 4 (by decide) (rq 4 (by decide) (by decide));obtain rfl:=e;have u05:=hid eX;clear eX;obtain⟨v',x5,kM,kS,kV,gy,e,d9,dx⟩:=hI.slots 5 (by decide) (rq 5 (by decide) (by decide));obtain rfl:=e;have u0t:=hid d9;clear d9;have u0u:=hid dx;clear dx;obtain⟨v',x6,lv,kz,wu,ww,e,ek,eH⟩:=hI.slots 6 (by decide) (rq 6 (by decide) (by decide));obtain rfl:=e;have u0p:=hid ek;clear ek;have u06:=hid eH;clear eH;obtain⟨v',x7,u6,w9,e,u07⟩:=hI.slots 7 (by decide) (rq 7 (by decide) (by decide));obtain rfl:=e;have u0v:=hid u07;clear u07;have x7:a.tmps[12]? = some (.agg #[.bool (ah q),.slice u6 (aa q) w9]):=x7;obtain⟨v',x9,wo,e,u08,u09⟩:=hI.slots 9 (by decide) (rq 9 (by decide) (by decide));obtain rfl:=e;have ru:=hid u08;clear u08;have u0w:=hid u09;clear u09;have x9:a.tmps[3]? = some (.pointer (some ⟨wo,0,none⟩)):=x9;obtain⟨v',x10,si,e,u0a,u0b⟩:=hI.slots 10 (by decide) (rq 10 (by decide) (by decide));obtain rfl:=e;have rM:=hid u0a;clear u0a;have u0x:=hid u0b;clear u0b;have x10:a.tmps[4]? = some (.pointer (some ⟨si,0,none⟩)):=x10;have hD:=hD (rq 9 (by decide) (by decide)) (rq 10 (by decide) (by decide))
     have hne:wo≠si:=by
        intro e;apply hD
        show a.tmps[3]? = a.tmps[4]?
        rw[x9,x10,e]
     have HNE:=hid hne;clear hne hD;obtain ⟨HBW,HI,HA⟩:=ak hI.world hI rq;clear hI rq;obtain ⟨HBX,K2⟩:=aD (sj.o.trans (HBW.o.mono sj.o.size)) (K2.o.below HBW.o);have RM:=u05;have RQ:=u0v;have RR:=u06;have K3:Hid (SBk W wo #[.bool false,.slice none 0 0] 49):=u0w;have K4:Hid (SBk W si #[.bool false,.slice none 0 0] 49):=u0x;obtain ⟨u0H,u0I⟩:=au K3.o rfl rfl;obtain ⟨u0N,u0O⟩:=bJ K3.o;obtain ⟨u0P,u0Q⟩:=au K4.o rfl rfl;obtain ⟨u0R,u0S⟩:=bJ K4.o;have u0T:((W.setCell ⟨wo,0,none⟩ (.bool (ah q))).setCell ⟨wo,1,none⟩ (.slice u6 (aa q) w9)).cell? ⟨si,0,none⟩=some (.bool false):=((bZ (by have:=ru.o;have:=rM.o;have:=HNE.o;omega) (l:=[.bool (ah q),.slice u6 (aa q) w9]) (i:=0) K4.o)).cell (i:=0) rfl;have u0U:((W.setCell ⟨wo,0,none⟩ (.bool (ah q))).setCell ⟨wo,1,none⟩ (.slice u6 (aa q) w9)).cell? ⟨si,1,none⟩=some (.slice none 0 0):=((bZ (by have:=ru.o;have:=rM.o;have:=HNE.o;omega) (l:=[.bool (ah q),.slice u6 (aa q) w9]) (i:=0) K4.o)).cell (i:=1) rfl;have x6:a.tmps[5]? = some (.tuple #[.agg #[.bool (ah q),.slice lv (aa q) kz],.agg #[.bool (ah r),.slice wu (aa r) ww]]):=x6;refine aA rfl fun K' hK=>?_;go_simp;refine hK.o _ _ ?_;clear hK;refine aA rfl fun K' hK=>?_;go_simp;refine hK.o (a.put (some 13) (.agg #[.bool (ah r),.slice wu (aa r) ww])) _ ?_;clear hK;have z7:(a.put (some 13) (.agg #[.bool (ah r),.slice wu (aa r) ww])).tmps[12]? = some (.agg #[.bool (ah q),.slice u6 (aa q) w9]):=(dO (by decide)).trans x7;have z9:(a.put (some 13) (.agg #[.bool (ah r),.slice wu (aa r) ww])).tmps[3]? = some (.pointer (some ⟨wo,0,none⟩)):=(dO (by decide)).trans x9;have z10:(a.put (some 13) (.agg #[.bool (ah r),.slice wu (aa r) ww])).tmps[4]? = some (.pointer (some ⟨si,0,none⟩)):=(dO (by decide)).trans x10;have z8:(a.put (some 13) (.agg #[.bool (ah r),.slice wu (aa r) ww])).tmps[13]? = some (.agg #[.bool (ah r),.slice wu (aa r) ww]):=yj (by rw[HI.o.tsize];simp);have EA:=hid (HI.o.finp (sd:=13) (v:=.agg #[.bool (ah r),.slice wu (aa r) ww]) [(6,.pointer (some ⟨w.heap.size,0,none⟩)),(7,.agg #[.bool (ah n),.slice p1 (aa n) c1]),(8,.pointer (some ⟨w.heap.size,2,none⟩)),(9,.slice s1 (ag en) d1),(10,.agg #[.bool (ah m),.slice fQ (aa m) ed]),(11,.tuple #[.agg #[.bool (ah q),.slice kM (aa q) kS],.agg #[.bool (ah r),.slice kV (aa r) gy]]),(5,.tuple #[.agg #[.bool (ah q),.slice lv (aa q) kz],.agg #[.bool (ah r),.slice wu (aa r) ww]]),(12,.agg #[.bool (ah q),.slice u6 (aa q) w9]),(13,.agg #[.bool (ah r),.slice wu (aa r) ww]),(3,.pointer (some ⟨wo,0,none⟩)),(4,.pointer (some ⟨si,0,none⟩))] ⟨(dO (d:=13) (e:=6) (by decide)).trans (HI.o.sy HA.o 0),(dO (d:=13) (e:=7) (by decide)).trans (HI.o.sy HA.o 1),(dO (d:=13) (e:=8) (by decide)).trans (HI.o.sy HA.o 2),(dO (d:=13) (e:=9) (by decide)).trans (HI.o.sy HA.o 3),(dO (d:=13) (e:=10) (by decide)).trans x4,(dO (d:=13) (e:=11) (by decide)).trans x5,(dO (d:=13) (e:=5) (by decide)).trans x6,(dO (d:=13) (e:=12) (by decide)).trans x7,yj (by rw[HI.o.tsize];simp),(dO (d:=13) (e:=3) (by decide)).trans x9,(dO (d:=13) (e:=4) (by decide)).trans x10,trivial⟩ rfl);clear x4 x5 x6 x7 x9 x10;generalize a.put (some 13) (.agg #[.bool (ah r),.slice wu (aa r) ww])=a2 at *;refine bz (t:=0) ?_;refine aA rfl fun K' hK=>?_;go_simp;refine hK.o _ _ ?_;clear hK;refine bi ?_;have s0:∀ {v':Value} {n':Nat},RN W v' n'→RN (storeAll W (wo) 0 [.bool (ah q),.slice u6 (aa q) w9]) v' n':=fun h'=>aS _ h' K3.o (by simp[bF]) (by simp[aY]);have o0:∀ {g':Nat} {cs':Array Value} {T':TypeId},g'≠wo→SBk W g' cs' T'→SBk (storeAll W (wo) 0 [.bool (ah q),.slice u6 (aa q) w9]) g' cs' T':=fun hg' h'=>bZ hg' _ 0 h';have s1:∀ {v':Value} {n':Nat},RN (storeAll W (wo) 0 [.bool (ah q),.slice u6 (aa q) w9]) v' n'→RN (storeAll (storeAll W (wo) 0 [.bool (ah q),.slice u6 (aa q) w9]) (si) 0 [.bool (ah r),.slice wu (aa r) ww]) v' n':=fun h'=>aS _ h' (o0 (by have:=ru.o;have:=rM.o;have:=HNE.o;omega) K4.o) (by simp[bF]) (by simp[aY]);have o1:∀ {g':Nat} {cs':Array Value} {T':TypeId},g'≠si→SBk (storeAll W (wo) 0 [.bool (ah q),.slice u6 (aa q) w9]) g' cs' T'→SBk (storeAll (storeAll W (wo) 0 [.bool (ah q),.slice u6 (aa q) w9]) (si) 0 [.bool (ah r),.slice wu (aa r) ww]) g' cs' T':=fun hg' h'=>bZ hg' _ 0 h';exact⟨rfl,fQ,ed,kM,kS,kV,gy,lv,kz,wu,ww,u6,w9,wu,ww,wo,si,EA.o,(ay (l:=[.bool (ah r),.slice wu (aa r) ww]) (i:=0) (by have:=ru.o;have:=rM.o;have:=HNE.o;omega) (ay (l:=[.bool (ah q),.slice u6 (aa q) w9]) (i:=0) (by have:=ru.o;have:=rM.o;have:=HNE.o;omega) HBX.o)),(o1 (by have:=ru.o;have:=rM.o;have:=HNE.o;omega) (o0 (by have:=ru.o;have:=rM.o;have:=HNE.o;omega) K2.o)),(bZ (by have:=ru.o;have:=rM.o;have:=HNE.o;omega) (l:=[.bool (ah r),.slice wu (aa r) ww]) (i:=0) (cK (l:=[.bool (ah q),.slice u6 (aa q) w9]) (i:=0) K3.o)),(s1 (s0 RQ.o)),ru.o,rM.o,HNE.o⟩
 rintro a' W1 ⟨fQ,ed,kM,kS,kV,gy,lv,kz,wu,ww,u6,w9,bg,bn,wo,si,rfl,z0,z1,z2,z3,z4,z5,z6⟩;obtain ⟨rV,K2,K3,RQ⟩:=aM z0 z1 z2 z3;have R9xW1:=z4;have R10xW1:=z5;have NEW1:=z6;clear z0 z1 z2 z3 z4 z5 z6;simp only[putL,List.setIfInBounds_toArray,List.set_cons_zero,List.set_cons_succ];obtain ⟨u0H,u0I⟩:=au K3.o rfl rfl;obtain ⟨fo,pu⟩:=au K2.o rfl rfl;obtain ⟨u0V,u0W⟩:=bJ K2.o;go_wp2;exact bodyPost_ret (v:=.agg #[.bool (ah q),.slice u6 (aa q) w9]) (by simp[results,results76,go_sem,fo,pu]) rfl ⟨_,_,rfl,(aS [.bool (ah q),.slice u6 (aa q) w9] RQ.o K2.o (by simp[bF]) (by simp[aY])),(ay (l:=[.bool (ah q),.slice u6 (aa q) w9]) (i:=0) (by omega) rV.o)⟩
theorem z3x (k l n n3:Int)(dn dn3:Nat)(hl:IntKind.u32.wrap l=l)  (w:World)(h1:∀ W,CZ 91 #[.int .i64 k] W n)(h2:∀ W,CN 57 #[.int .u32 l] W dn)(h3:∀ p1 c1 s2 d2 W,RN W (.slice p1 (aa n) c1) n.natAbs→RN W (.slice s2 (ag dn) d2) dn→CF 68 #[.agg #[.bool (ah n),.slice p1 (aa n) c1],.slice s2 (ag dn) d2] W n3 dn3)  :
 CF 78 #[.int .i64 k,.int .i64 l] w n3 dn3:=by
 obtain ⟨C1,C2,C3⟩:=ak h1 h2 h3;clear h1 h2 h3;go_enter func78,ntmps78
 go_upto_region 1 with fail
 refine az w [(#[.bool false,.slice none 0 0,.slice none 0 0],51)] rfl ?_;rintro W0 ⟨k1,hb⟩;have sj:=hid (show Below w.heap.size w W0 from hb);have K1:=hid k1;clear k1 hb;go_wp2_with fail
 with_reducible refine(C1.o _).mono ?_
 rintro e W1 ⟨p_1,c_1,rfl,u0J,hb⟩;have K1:=hid (K1.o.below hb);have rV:=hbt sj hb;have RN1:=hid u0J;clear hb u0J;go_wp2_with fail
 with_reducible refine(C2.o _).mono ?_
 rintro e W2 ⟨p_2,c_2,rfl,u0K,hb⟩;obtain ⟨K1,RN1⟩:=aH hb K1 RN1;have mi:=hbt rV hb;have RD1:=hid u0K;clear hb u0K;go_wp2_with fail
 with_reducible refine(C3.o _ _ _ _ _ RN1.o RD1.o).mono ?_
 rintro e W3 ⟨dX,dY,cu,cO,rfl,u02,u03,hb⟩;have K1:=hid (K1.o.below hb);have l5:=hbt mi hb;have RQ:=hid u02;have TQ:=hid u03;clear hb u02 u03;obtain ⟨oM,oV,mf⟩:=aP K1.o rfl rfl rfl;obtain ⟨bu,bv,bM⟩:=bU K1.o;go_wp2;exact bodyPost_ret (v:=.agg #[.bool (ah n3),.slice dX (aa n3) dY,.slice cu (ag dn3) cO]) (by simp[results,results78,go_sem,oM,oV,mf]) rfl ⟨_,_,_,_,rfl,(aS [.bool (ah n3),.slice dX (aa n3) dY,.slice cu (ag dn3) cO] RQ.o K1.o (by simp[bF]) (by simp[aY])),(aS [.bool (ah n3),.slice dX (aa n3) dY,.slice cu (ag dn3) cO] TQ.o K1.o (by simp[bF]) (by simp[aY])),(ay (l:=[.bool (ah n3),.slice dX (aa n3) dY,.slice cu (ag dn3) cO]) (i:=0) (by omega) l5.o)⟩
