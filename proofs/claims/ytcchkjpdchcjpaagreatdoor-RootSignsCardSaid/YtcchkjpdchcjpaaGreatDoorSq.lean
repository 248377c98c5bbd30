/- texts -/
import Derived.Test.YtcchkjpdchcjpaaGreatDoorMz34q
open Go.Proofs.Tryz
set_option maxRecDepth 100000
set_option maxHeartbeats 20000000
open Go.Lib (hid)
namespace Go.Proofs.YtcchkjpdchcjpaaGreatDoor
open Go.RowKit Go.Gb
theorem z2p (a0 x0 y0:ByteArray)(z:Int)(n:Nat)  (w:World)(h1:CQ 41 #[.string a0] (.tuple #[.string x0,.string y0,.bool false]))(h2:CQ 42 #[.string x0] (.bool true))(h3:CQ 43 #[.string y0] (.bool true))(h4:∀ W,CZ 44 #[.string x0] W z)(h5:∀ W,CN 45 #[.string y0] W n)  :
 Calls Tryz.prog 18 #[.string a0] w fun e w'=>∃ p c s d,e=.returned (.tuple #[.agg #[.bool (av z),.slice p (ag z) c,.slice s (ai n) d],.bool true])∧RN w' (.slice p (ag z) c) z.natAbs∧RN w' (.slice s (ai n) d) n∧Below w.heap.size w w':=by
 obtain ⟨C1,C2,C3,C4,C5⟩:=bO h1 h2 h3 h4 h5;clear h1 h2 h3 h4 h5;go_enter func18,ntmps18
 go_upto_region 1 with fail
 refine aA w [(#[.bool false,.slice none 0 0,.slice none 0 0],49)] rfl ?_;rintro W0 ⟨k1,hb⟩;have ol:=hid (show Below w.heap.size w W0 from hb);have K1:=hid k1;clear k1 hb;go_wp2_with fail
 with_reducible refine(C1.o _).mono ?_
 rintro e W1 ⟨rfl,hb⟩;have K1:=hid (K1.o.below hb);have oM:=hbt ol hb;clear hb;go_wp2_with fail
 with_reducible refine(C2.o _).mono ?_
 rintro e W2 ⟨rfl,hb⟩;have K1:=hid (K1.o.below hb);have oV:=hbt oM hb;clear hb;go_wp2_with fail
 with_reducible refine(C3.o _).mono ?_
 rintro e W3 ⟨rfl,hb⟩;have K1:=hid (K1.o.below hb);have nk:=hbt oV hb;clear hb;go_wp2_with fail
 with_reducible refine(C4.o _).mono ?_
 rintro e W4 ⟨u6,w9,rfl,wo,hb⟩;have K1:=hid (K1.o.below hb);have lg:=hbt nk hb;have RZ:=hid wo;clear hb wo;go_wp2_with fail
 with_reducible refine(C5.o _).mono ?_
 rintro e W5 ⟨wu,ww,rfl,rV,hb⟩;obtain ⟨K1,RZ⟩:=ax hb K1 RZ;have pq:=hbt lg hb;have RM:=hid rV;clear hb rV;go_upto_region 5 with fail
 refine aA W5 [(#[.bool (av z),.slice u6 (ag z) w9,.slice wu (ai n) ww],49)] rfl ?_;have L1:=K1.o.lt;have L2:=pq.o.size;rintro W6 ⟨k2,hb⟩;have hb:Below W5.heap.size W5 W6:=hb;obtain ⟨K1,RZ,RM⟩:=aI hb K1 RZ RM;have kw:=hbt pq hb;have K2:=hid k2;clear k2 hb;obtain ⟨kz,rM,sw⟩:=aK K2.o rfl rfl rfl;obtain ⟨mf,mi,l5⟩:=aK K1.o rfl rfl rfl;obtain ⟨fo,fq,fQ⟩:=bJ K1.o;go_wp2;exact bodyPost_ret (v:=.tuple #[.agg #[.bool (av z),.slice u6 (ag z) w9,.slice wu (ai n) ww],.bool true]) (by simp[results,results18,go_sem,mf,mi,l5]) rfl ⟨_,_,_,_,rfl,(bD [.bool (av z),.slice u6 (ag z) w9,.slice wu (ai n) ww] RZ.o K1.o (by simp[cB]) (by simp[bH])),(bD [.bool (av z),.slice u6 (ag z) w9,.slice wu (ai n) ww] RM.o K1.o (by simp[cB]) (by simp[bH])),(aJ (l:=[.bool (av z),.slice u6 (ag z) w9,.slice wu (ai n) ww]) (i:=0) (by omega) kw.o)⟩
theorem tO (a0 x0 y0:ByteArray)(zz:Int)(dz:Nat)(sl:Bool)  (w:World)(h1:CQ 41 #[.string a0] (.tuple #[.string x0,.string y0,.bool sl]))(h2:CQ 42 #[.string x0] (.bool false))(h11:∀ W,CF 23 #[.int .i64 0] W zz dz)  :
 Calls Tryz.prog 18 #[.string a0] w fun e w'=>∃ p c s d,e=.returned (.tuple #[.agg #[.bool (av zz),.slice p (ag zz) c,.slice s (ai dz) d],.bool false])∧RN w' (.slice p (ag zz) c) zz.natAbs∧RN w' (.slice s (ai dz) d) dz∧Below w.heap.size w w':=by
 obtain ⟨C1,C2,C11⟩:=ae h1 h2 h11;clear h1 h2 h11;go_enter func18,ntmps18
 go_upto_region 1 with fail
 refine aA w [(#[.bool false,.slice none 0 0,.slice none 0 0],49)] rfl ?_;rintro W0 ⟨k1,hb⟩;have ol:=hid (show Below w.heap.size w W0 from hb);have K1:=hid k1;clear k1 hb;go_wp2_with fail
 with_reducible refine(C1.o _).mono ?_
 rintro e W1 ⟨rfl,hb⟩;have K1:=hid (K1.o.below hb);have oM:=hbt ol hb;clear hb;go_wp2_with fail
 with_reducible refine(C2.o _).mono ?_
 rintro e W2 ⟨rfl,hb⟩;have K1:=hid (K1.o.below hb);have oV:=hbt oM hb;clear hb;go_wp2_with fail
 with_reducible refine(C11.o _).mono ?_
 rintro e W3 ⟨eX,dn,dx,dX,rfl,u05,u06,hb⟩;have K1:=hid (K1.o.below hb);have nk:=hbt oV hb;have RQ:=hid u05;have TQ:=hid u06;clear hb u05 u06;obtain ⟨mf,mi,l5⟩:=aK K1.o rfl rfl rfl;obtain ⟨fo,fq,fQ⟩:=bJ K1.o;go_wp2;exact bodyPost_ret (v:=.tuple #[.agg #[.bool (av zz),.slice eX (ag zz) dn,.slice dx (ai dz) dX],.bool false]) (by simp[results,results18,go_sem,mf,mi,l5]) rfl ⟨_,_,_,_,rfl,(bD [.bool (av zz),.slice eX (ag zz) dn,.slice dx (ai dz) dX] RQ.o K1.o (by simp[cB]) (by simp[bH])),(bD [.bool (av zz),.slice eX (ag zz) dn,.slice dx (ai dz) dX] TQ.o K1.o (by simp[cB]) (by simp[bH])),(aJ (l:=[.bool (av zz),.slice eX (ag zz) dn,.slice dx (ai dz) dX]) (i:=0) (by omega) nk.o)⟩
theorem z0G (a0 x0 y0:ByteArray)(zz:Int)(dz:Nat)(sl:Bool)  (w:World)(h1:CQ 41 #[.string a0] (.tuple #[.string x0,.string y0,.bool sl]))(h2:CQ 42 #[.string x0] (.bool true))(h3:CQ 43 #[.string y0] (.bool false))(h11:∀ W,CF 23 #[.int .i64 0] W zz dz)  :
 Calls Tryz.prog 18 #[.string a0] w fun e w'=>∃ p c s d,e=.returned (.tuple #[.agg #[.bool (av zz),.slice p (ag zz) c,.slice s (ai dz) d],.bool false])∧RN w' (.slice p (ag zz) c) zz.natAbs∧RN w' (.slice s (ai dz) d) dz∧Below w.heap.size w w':=by
 obtain ⟨C1,C2,C3,C11⟩:=aY h1 h2 h3 h11;clear h1 h2 h3 h11;go_enter func18,ntmps18
 go_upto_region 1 with fail
 refine aA w [(#[.bool false,.slice none 0 0,.slice none 0 0],49)] rfl ?_;rintro W0 ⟨k1,hb⟩;have ol:=hid (show Below w.heap.size w W0 from hb);have K1:=hid k1;clear k1 hb;go_wp2_with fail
 with_reducible refine(C1.o _).mono ?_
 rintro e W1 ⟨rfl,hb⟩;have K1:=hid (K1.o.below hb);have oM:=hbt ol hb;clear hb;go_wp2_with fail
 with_reducible refine(C2.o _).mono ?_
 rintro e W2 ⟨rfl,hb⟩;have K1:=hid (K1.o.below hb);have oV:=hbt oM hb;clear hb;go_wp2_with fail
 with_reducible refine(C3.o _).mono ?_
 rintro e W3 ⟨rfl,hb⟩;have K1:=hid (K1.o.below hb);have nk:=hbt oV hb;clear hb;go_wp2_with fail
 with_reducible refine(C11.o _).mono ?_
 rintro e W4 ⟨u6,w9,dY,cO,rfl,wo,u07,hb⟩;have K1:=hid (K1.o.below hb);have lg:=hbt nk hb;have RQ:=hid wo;have TQ:=hid u07;clear hb wo u07;obtain ⟨mf,mi,l5⟩:=aK K1.o rfl rfl rfl;obtain ⟨fo,fq,fQ⟩:=bJ K1.o;go_wp2;exact bodyPost_ret (v:=.tuple #[.agg #[.bool (av zz),.slice u6 (ag zz) w9,.slice dY (ai dz) cO],.bool false]) (by simp[results,results18,go_sem,mf,mi,l5]) rfl ⟨_,_,_,_,rfl,(bD [.bool (av zz),.slice u6 (ag zz) w9,.slice dY (ai dz) cO] RQ.o K1.o (by simp[cB]) (by simp[bH])),(bD [.bool (av zz),.slice u6 (ag zz) w9,.slice dY (ai dz) cO] TQ.o K1.o (by simp[cB]) (by simp[bH])),(aJ (l:=[.bool (av zz),.slice u6 (ag zz) w9,.slice dY (ai dz) cO]) (i:=0) (by omega) lg.o)⟩
theorem z0F (a0 x0 y0:ByteArray)(z k sg:Int)(n one g:Nat)(hk:0<k)(hsg:sg≠0)  (w:World)(h1:CQ 41 #[.string a0] (.tuple #[.string x0,.string y0,.bool true]))(h2:CQ 42 #[.string x0] (.bool true))(h3:CQ 43 #[.string y0] (.bool true))(h4:∀ W,CZ 44 #[.string x0] W z)(h5:∀ W,CN 45 #[.string y0] W n)(h6:∀ W,CN 46 #[.int .u32 1] W one)(h7:∀ s1 d1 s2 d2 W,RN W (.slice s1 (ai n) d1) n→RN W (.slice s2 (ai one) d2) one→CR 47 #[.slice s1 (ai n) d1,.slice s2 (ai one) d2] W (.int .i64 k))(h8:∀ p1 c1 W,RN W (.slice p1 (ag z) c1) z.natAbs→CR 48 #[.agg #[.bool (av z),.slice p1 (ag z) c1]] W (.int .i64 sg))(h9:∀ p1 c1 s2 d2 W,RN W (.slice p1 (ag z) c1) z.natAbs→RN W (.slice s2 (ai n) d2) n→CN 49 #[.slice p1 (ag z) c1,.slice s2 (ai n) d2] W g)(h10:∀ s1 d1 s2 d2 W,RN W (.slice s1 (ai g) d1) g→RN W (.slice s2 (ai one) d2) one→CR 47 #[.slice s1 (ai g) d1,.slice s2 (ai one) d2] W (.int .i64 0))  :
 Calls Tryz.prog 18 #[.string a0] w fun e w'=>∃ p c s d,e=.returned (.tuple #[.agg #[.bool (av z),.slice p (ag z) c,.slice s (ai n) d],.bool true])∧RN w' (.slice p (ag z) c) z.natAbs∧RN w' (.slice s (ai n) d) n∧Below w.heap.size w w':=by
 obtain ⟨C1,C2,C3,C4,C5,C6,C7,C8,C9⟩:=bZ h1 h2 h3 h4 h5 h6 h7 h8 h9;have C10:=hid h10;have k0:decide (0<k)=true:=decide_eq_true hk;have k1:0<k:=hk;clear hk;have s0:(sg==0)=false:=by rw[beq_eq_false_iff_ne];exact hsg
 have s1:¬ sg=0:=hsg;have s2:(sg != 0)=true:=by unfold bne;rw[s0];rfl
 have s3:decide (sg=0)=false:=decide_eq_false hsg;clear hsg h1 h2 h3 h4 h5 h6 h7 h8 h9 h10;go_enter func18,ntmps18
 go_upto_region 1 with fail
 refine aA w [(#[.bool false,.slice none 0 0,.slice none 0 0],49)] rfl ?_;rintro W0 ⟨k1,hb⟩;have ol:=hid (show Below w.heap.size w W0 from hb);have K1:=hid k1;clear k1 hb;go_wp2_with fail
 with_reducible refine(C1.o _).mono ?_
 rintro e W1 ⟨rfl,hb⟩;have K1:=hid (K1.o.below hb);have oM:=hbt ol hb;clear hb;go_wp2_with fail
 with_reducible refine(C2.o _).mono ?_
 rintro e W2 ⟨rfl,hb⟩;have K1:=hid (K1.o.below hb);have oV:=hbt oM hb;clear hb;go_wp2_with fail
 with_reducible refine(C3.o _).mono ?_
 rintro e W3 ⟨rfl,hb⟩;have K1:=hid (K1.o.below hb);have nk:=hbt oV hb;clear hb;go_wp2_with fail
 with_reducible refine(C4.o _).mono ?_
 rintro e W4 ⟨u6,w9,rfl,wo,hb⟩;have K1:=hid (K1.o.below hb);have lg:=hbt nk hb;have RZ:=hid wo;clear hb wo;go_wp2_with fail
 with_reducible refine(C5.o _).mono ?_
 rintro e W5 ⟨wu,ww,rfl,rV,hb⟩;obtain ⟨K1,RZ⟩:=ax hb K1 RZ;have pq:=hbt lg hb;have RM:=hid rV;clear hb rV;go_upto_region 5 with fail
 refine aA W5 [(#[.bool (av z),.slice u6 (ag z) w9,.slice wu (ai n) ww],49)] rfl ?_;have L1:=K1.o.lt;have L2:=pq.o.size;rintro W6 ⟨k2,hb⟩;have hb:Below W5.heap.size W5 W6:=hb;obtain ⟨K1,RZ,RM⟩:=aI hb K1 RZ RM;have kw:=hbt pq hb;have K2:=hid k2;clear k2 hb;go_wp2_with fail
 with_reducible refine(C6.o _).mono ?_
 rintro e W7 ⟨p_6,c_6,rfl,lv,hb⟩;obtain ⟨K1,K2,RZ,RM⟩:=bI hb K1 K2 RZ RM;have kV:=hbt kw hb;have RO:=hid lv;clear hb lv;have sw:=K2.o.cell (i:=2) rfl;go_wp2_with fail
 with_reducible refine(C7.o _ _ _ _ _ RM.o RO.o).mono ?_
 rintro e W8 ⟨rfl,hb⟩;clear sw;obtain ⟨K1,K2,RZ,RM,RO⟩:=dQ hb K1 K2 RZ RM RO;have ic:=hbt kV hb;clear hb;obtain ⟨kz,rM⟩:=au K2.o rfl rfl;go_wp2_with fail
 with_reducible refine(C8.o _ _ _ RZ.o).mono ?_
 rintro e W9 ⟨rfl,hb⟩;clear kz rM;obtain ⟨K1,K2,RZ,RM,RO⟩:=dQ hb K1 K2 RZ RM RO;have gy:=hbt ic hb;clear hb;have rM:=K2.o.cell (i:=1) rfl;have sw:=K2.o.cell (i:=2) rfl;go_wp2_with fail
 with_reducible refine(C9.o _ _ _ _ _ RZ.o RM.o).mono ?_
 rintro e W10 ⟨ed,ek,rfl,kM,hb⟩;clear rM sw;obtain ⟨K1,K2,RZ,RM,RO⟩:=dQ hb K1 K2 RZ RM RO;have eH:=hbt gy hb;have RG:=hid kM;clear hb kM;go_wp2_with fail
 with_reducible refine(C10.o _ _ _ _ _ RG.o RO.o).mono ?_
 rintro e W11 ⟨rfl,hb⟩;obtain ⟨K1,K2,RZ,RM⟩:=bI hb K1 K2 RZ RM;have u04:=hbt eH hb;clear hb;obtain ⟨kz,rM,sw⟩:=aK K2.o rfl rfl rfl;obtain ⟨mf,mi,l5⟩:=aK K1.o rfl rfl rfl;obtain ⟨fo,fq,fQ⟩:=bJ K1.o;go_wp2;exact bodyPost_ret (v:=.tuple #[.agg #[.bool (av z),.slice u6 (ag z) w9,.slice wu (ai n) ww],.bool true]) (by simp[results,results18,go_sem,mf,mi,l5]) rfl ⟨_,_,_,_,rfl,(bD [.bool (av z),.slice u6 (ag z) w9,.slice wu (ai n) ww] RZ.o K1.o (by simp[cB]) (by simp[bH])),(bD [.bool (av z),.slice u6 (ag z) w9,.slice wu (ai n) ww] RM.o K1.o (by simp[cB]) (by simp[bH])),(aJ (l:=[.bool (av z),.slice u6 (ag z) w9,.slice wu (ai n) ww]) (i:=0) (by omega) u04.o)⟩
theorem yK (a0 x0 y0:ByteArray)(z k zz:Int)(n one dz:Nat)(hk:k≤0)  (w:World)(h1:CQ 41 #[.string a0] (.tuple #[.string x0,.string y0,.bool true]))(h2:CQ 42 #[.string x0] (.bool true))(h3:CQ 43 #[.string y0] (.bool true))(h4:∀ W,CZ 44 #[.string x0] W z)(h5:∀ W,CN 45 #[.string y0] W n)(h6:∀ W,CN 46 #[.int .u32 1] W one)(h7:∀ s1 d1 s2 d2 W,RN W (.slice s1 (ai n) d1) n→RN W (.slice s2 (ai one) d2) one→CR 47 #[.slice s1 (ai n) d1,.slice s2 (ai one) d2] W (.int .i64 k))(h11:∀ W,CF 23 #[.int .i64 0] W zz dz)  :
 Calls Tryz.prog 18 #[.string a0] w fun e w'=>∃ p c s d,e=.returned (.tuple #[.agg #[.bool (av zz),.slice p (ag zz) c,.slice s (ai dz) d],.bool false])∧RN w' (.slice p (ag zz) c) zz.natAbs∧RN w' (.slice s (ai dz) d) dz∧Below w.heap.size w w':=by
 obtain ⟨C1,C2,C3,C4,C5,C6,C7,C11⟩:=eO h1 h2 h3 h4 h5 h6 h7 h11;have k0:decide (0<k)=false:=decide_eq_false (by omega);have k1:k≤0:=hk;clear hk h1 h2 h3 h4 h5 h6 h7 h11;go_enter func18,ntmps18
 go_upto_region 1 with fail
 refine aA w [(#[.bool false,.slice none 0 0,.slice none 0 0],49)] rfl ?_;rintro W0 ⟨k1,hb⟩;have ol:=hid (show Below w.heap.size w W0 from hb);have K1:=hid k1;clear k1 hb;go_wp2_with fail
 with_reducible refine(C1.o _).mono ?_
 rintro e W1 ⟨rfl,hb⟩;have K1:=hid (K1.o.below hb);have oM:=hbt ol hb;clear hb;go_wp2_with fail
 with_reducible refine(C2.o _).mono ?_
 rintro e W2 ⟨rfl,hb⟩;have K1:=hid (K1.o.below hb);have oV:=hbt oM hb;clear hb;go_wp2_with fail
 with_reducible refine(C3.o _).mono ?_
 rintro e W3 ⟨rfl,hb⟩;have K1:=hid (K1.o.below hb);have nk:=hbt oV hb;clear hb;go_wp2_with fail
 with_reducible refine(C4.o _).mono ?_
 rintro e W4 ⟨u6,w9,rfl,wo,hb⟩;have K1:=hid (K1.o.below hb);have lg:=hbt nk hb;have RZ:=hid wo;clear hb wo;go_wp2_with fail
 with_reducible refine(C5.o _).mono ?_
 rintro e W5 ⟨wu,ww,rfl,rV,hb⟩;have K1:=hid (K1.o.below hb);have pq:=hbt lg hb;have RM:=hid rV;clear hb rV;go_upto_region 5 with fail
 refine aA W5 [(#[.bool (av z),.slice u6 (ag z) w9,.slice wu (ai n) ww],49)] rfl ?_;have L1:=K1.o.lt;have L2:=pq.o.size;rintro W6 ⟨k2,hb⟩;have hb:Below W5.heap.size W5 W6:=hb;obtain ⟨K1,RM⟩:=ax hb K1 RM;have kw:=hbt pq hb;have K2:=hid k2;clear k2 hb;go_wp2_with fail
 with_reducible refine(C6.o _).mono ?_
 rintro e W7 ⟨p_6,c_6,rfl,lv,hb⟩;obtain ⟨K1,K2,RM⟩:=aI hb K1 K2 RM;have kV:=hbt kw hb;have RO:=hid lv;clear hb lv;have sw:=K2.o.cell (i:=2) rfl;go_wp2_with fail
 with_reducible refine(C7.o _ _ _ _ _ RM.o RO.o).mono ?_
 rintro e W8 ⟨rfl,hb⟩;clear sw;obtain ⟨K1,K2⟩:=ax hb K1 K2;have ic:=hbt kV hb;clear hb;obtain ⟨kz,rM,sw⟩:=aK K2.o rfl rfl rfl;go_wp2_with fail
 with_reducible refine(C11.o _).mono ?_
 rintro e W9 ⟨bg,bn,bq,bu,rfl,u08,u09,hb⟩;clear kz rM sw;have K1:=hid (K1.o.below hb);have gy:=hbt ic hb;have RQ:=hid u08;have TQ:=hid u09;clear hb u08 u09;obtain ⟨mf,mi,l5⟩:=aK K1.o rfl rfl rfl;obtain ⟨fo,fq,fQ⟩:=bJ K1.o;go_wp2;exact bodyPost_ret (v:=.tuple #[.agg #[.bool (av zz),.slice bg (ag zz) bn,.slice bq (ai dz) bu],.bool false]) (by simp[results,results18,go_sem,mf,mi,l5]) rfl ⟨_,_,_,_,rfl,(bD [.bool (av zz),.slice bg (ag zz) bn,.slice bq (ai dz) bu] RQ.o K1.o (by simp[cB]) (by simp[bH])),(bD [.bool (av zz),.slice bg (ag zz) bn,.slice bq (ai dz) bu] TQ.o K1.o (by simp[cB]) (by simp[bH])),(aJ (l:=[.bool (av zz),.slice bg (ag zz) bn,.slice bq (ai dz) bu]) (i:=0) (by omega) gy.o)⟩
theorem z0E (a0 x0 y0:ByteArray)(z k zz:Int)(n one dz:Nat)(hk:0<k)  (w:World)(h1:CQ 41 #[.string a0] (.tuple #[.string x0,.string y0,.bool true]))(h2:CQ 42 #[.string x0] (.bool true))(h3:CQ 43 #[.string y0] (.bool true))(h4:∀ W,CZ 44 #[.string x0] W z)(h5:∀ W,CN 45 #[.string y0] W n)(h6:∀ W,CN 46 #[.int .u32 1] W one)(h7:∀ s1 d1 s2 d2 W,RN W (.slice s1 (ai n) d1) n→RN W (.slice s2 (ai one) d2) one→CR 47 #[.slice s1 (ai n) d1,.slice s2 (ai one) d2] W (.int .i64 k))(h8:∀ p1 c1 W,RN W (.slice p1 (ag z) c1) z.natAbs→CR 48 #[.agg #[.bool (av z),.slice p1 (ag z) c1]] W (.int .i64 0))(h11:∀ W,CF 23 #[.int .i64 0] W zz dz)  :
 Calls Tryz.prog 18 #[.string a0] w fun e w'=>∃ p c s d,e=.returned (.tuple #[.agg #[.bool (av zz),.slice p (ag zz) c,.slice s (ai dz) d],.bool false])∧RN w' (.slice p (ag zz) c) zz.natAbs∧RN w' (.slice s (ai dz) d) dz∧Below w.heap.size w w':=by
 obtain ⟨C1,C2,C3,C4,C5,C6,C7,C8,C11⟩:=bZ h1 h2 h3 h4 h5 h6 h7 h8 h11;have k0:decide (0<k)=true:=decide_eq_true hk;have k1:0<k:=hk;clear hk h1 h2 h3 h4 h5 h6 h7 h8 h11;go_enter func18,ntmps18
 go_upto_region 1 with fail
 refine aA w [(#[.bool false,.slice none 0 0,.slice none 0 0],49)] rfl ?_;rintro W0 ⟨k1,hb⟩;have ol:=hid (show Below w.heap.size w W0 from hb);have K1:=hid k1;clear k1 hb;go_wp2_with fail
 with_reducible refine(C1.o _).mono ?_
 rintro e W1 ⟨rfl,hb⟩;have K1:=hid (K1.o.below hb);have oM:=hbt ol hb;clear hb;go_wp2_with fail
 with_reducible refine(C2.o _).mono ?_
 rintro e W2 ⟨rfl,hb⟩;have K1:=hid (K1.o.below hb);have oV:=hbt oM hb;clear hb;go_wp2_with fail
 with_reducible refine(C3.o _).mono ?_
 rintro e W3 ⟨rfl,hb⟩;have K1:=hid (K1.o.below hb);have nk:=hbt oV hb;clear hb;go_wp2_with fail
 with_reducible refine(C4.o _).mono ?_
 rintro e W4 ⟨u6,w9,rfl,wo,hb⟩;have K1:=hid (K1.o.below hb);have lg:=hbt nk hb;have RZ:=hid wo;clear hb wo;go_wp2_with fail
 with_reducible refine(C5.o _).mono ?_
 rintro e W5 ⟨wu,ww,rfl,rV,hb⟩;obtain ⟨K1,RZ⟩:=ax hb K1 RZ;have pq:=hbt lg hb;have RM:=hid rV;clear hb rV;go_upto_region 5 with fail
 refine aA W5 [(#[.bool (av z),.slice u6 (ag z) w9,.slice wu (ai n) ww],49)] rfl ?_;have L1:=K1.o.lt;have L2:=pq.o.size;rintro W6 ⟨k2,hb⟩;have hb:Below W5.heap.size W5 W6:=hb;obtain ⟨K1,RZ,RM⟩:=aI hb K1 RZ RM;have kw:=hbt pq hb;have K2:=hid k2;clear k2 hb;go_wp2_with fail
 with_reducible refine(C6.o _).mono ?_
 rintro e W7 ⟨p_6,c_6,rfl,lv,hb⟩;obtain ⟨K1,K2,RZ,RM⟩:=bI hb K1 K2 RZ RM;have kV:=hbt kw hb;have RO:=hid lv;clear hb lv;have sw:=K2.o.cell (i:=2) rfl;go_wp2_with fail
 with_reducible refine(C7.o _ _ _ _ _ RM.o RO.o).mono ?_
 rintro e W8 ⟨rfl,hb⟩;clear sw;obtain ⟨K1,K2,RZ⟩:=aI hb K1 K2 RZ;have ic:=hbt kV hb;clear hb;obtain ⟨kz,rM⟩:=au K2.o rfl rfl;go_wp2_with fail
 with_reducible refine(C8.o _ _ _ RZ.o).mono ?_
 rintro e W9 ⟨rfl,hb⟩;clear kz rM;obtain ⟨K1,K2⟩:=ax hb K1 K2;have gy:=hbt ic hb;clear hb;have rM:=K2.o.cell (i:=1) rfl;have sw:=K2.o.cell (i:=2) rfl;go_wp2_with fail
 with_reducible refine(C11.o _).mono ?_
 rintro e W10 ⟨ed,ek,bv,bM,rfl,kM,u0a,hb⟩;clear rM sw;have K1:=hid (K1.o.below hb);have eH:=hbt gy hb;have RQ:=hid kM;have TQ:=hid u0a;clear hb kM u0a;obtain ⟨mf,mi,l5⟩:=aK K1.o rfl rfl rfl;obtain ⟨fo,fq,fQ⟩:=bJ K1.o;go_wp2;exact bodyPost_ret (v:=.tuple #[.agg #[.bool (av zz),.slice ed (ag zz) ek,.slice bv (ai dz) bM],.bool false]) (by simp[results,results18,go_sem,mf,mi,l5]) rfl ⟨_,_,_,_,rfl,(bD [.bool (av zz),.slice ed (ag zz) ek,.slice bv (ai dz) bM] RQ.o K1.o (by simp[cB]) (by simp[bH])),(bD [.bool (av zz),.slice ed (ag zz) ek,.slice bv (ai dz) bM] TQ.o K1.o (by simp[cB]) (by simp[bH])),(aJ (l:=[.bool (av zz),.slice ed (ag zz) ek,.slice bv (ai dz) bM]) (i:=0) (by omega) eH.o)⟩
theorem vv (a0 x0 y0:ByteArray)(z k k2 sg zz:Int)(n one g dz:Nat)(hk:0<k)(hsg:sg≠0)(hk2:k2≠0)  (w:World)(h1:CQ 41 #[.string a0] (.tuple #[.string x0,.string y0,.bool true]))(h2:CQ 42 #[.string x0] (.bool true))(h3:CQ 43 #[.string y0] (.bool true))(h4:∀ W,CZ 44 #[.string x0] W z)(h5:∀ W,CN 45 #[.string y0] W n)(h6:∀ W,CN 46 #[.int .u32 1] W one)(h7:∀ s1 d1 s2 d2 W,RN W (.slice s1 (ai n) d1) n→RN W (.slice s2 (ai one) d2) one→CR 47 #[.slice s1 (ai n) d1,.slice s2 (ai one) d2] W (.int .i64 k))(h8:∀ p1 c1 W,RN W (.slice p1 (ag z) c1) z.natAbs→CR 48 #[.agg #[.bool (av z),.slice p1 (ag z) c1]] W (.int .i64 sg))(h9:∀ p1 c1 s2 d2 W,RN W (.slice p1 (ag z) c1) z.natAbs→RN W (.slice s2 (ai n) d2) n→CN 49 #[.slice p1 (ag z) c1,.slice s2 (ai n) d2] W g)(h10:∀ s1 d1 s2 d2 W,RN W (.slice s1 (ai g) d1) g→RN W (.slice s2 (ai one) d2) one→CR 47 #[.slice s1 (ai g) d1,.slice s2 (ai one) d2] W (.int .i64 k2))(h11:∀ W,CF 23 #[.int .i64 0] W zz dz)  :
 Calls Tryz.prog 18 #[.string a0] w fun e w'=>∃ p c s d,e=.returned (.tuple #[.agg #[.bool (av zz),.slice p (ag zz) c,.slice s (ai dz) d],.bool false])∧RN w' (.slice p (ag zz) c) zz.natAbs∧RN w' (.slice s (ai dz) d) dz∧Below w.heap.size w w':=by
 obtain ⟨C1,C2,C3,C4,C5,C6,C7,C8,C9⟩:=bZ h1 h2 h3 h4 h5 h6 h7 h8 h9;have C10:=hid h10;have C11:=hid h11;have k0:decide (0<k)=true:=decide_eq_true hk;have k1:0<k:=hk;clear hk;have s0:(sg==0)=false:=by rw[beq_eq_false_iff_ne];exact hsg
 have s1:¬ sg=0:=hsg;have s2:(sg != 0)=true:=by unfold bne;rw[s0];rfl
 have s3:decide (sg=0)=false:=decide_eq_false hsg;clear hsg;have q0:(k2==0)=false:=by rw[beq_eq_false_iff_ne];exact hk2
 have q1:¬ k2=0:=hk2;clear hk2 h1 h2 h3 h4 h5 h6 h7 h8 h9 h10 h11;go_enter func18,ntmps18
 go_upto_region 1 with fail
 refine aA w [(#[.bool false,.slice none 0 0,.slice none 0 0],49)] rfl ?_;rintro W0 ⟨k1,hb⟩;have ol:=hid (show Below w.heap.size w W0 from hb);have K1:=hid k1;clear k1 hb;go_wp2_with fail
 with_reducible refine(C1.o _).mono ?_
 rintro e W1 ⟨rfl,hb⟩;have K1:=hid (K1.o.below hb);have oM:=hbt ol hb;clear hb;go_wp2_with fail
 with_reducible refine(C2.o _).mono ?_
 rintro e W2 ⟨rfl,hb⟩;have K1:=hid (K1.o.below hb);have oV:=hbt oM hb;clear hb;go_wp2_with fail
 with_reducible refine(C3.o _).mono ?_
 rintro e W3 ⟨rfl,hb⟩;have K1:=hid (K1.o.below hb);have nk:=hbt oV hb;clear hb;go_wp2_with fail
 with_reducible refine(C4.o _).mono ?_
 rintro e W4 ⟨u6,w9,rfl,wo,hb⟩;have K1:=hid (K1.o.below hb);have lg:=hbt nk hb;have RZ:=hid wo;clear hb wo;go_wp2_with fail
 with_reducible refine(C5.o _).mono ?_
 rintro e W5 ⟨wu,ww,rfl,rV,hb⟩;obtain ⟨K1,RZ⟩:=ax hb K1 RZ;have pq:=hbt lg hb;have RM:=hid rV;clear hb rV;go_upto_region 5 with fail
 refine aA W5 [(#[.bool (av z),.slice u6 (ag z) w9,.slice wu (ai n) ww],49)] rfl ?_;have L1:=K1.o.lt;have L2:=pq.o.size;rintro W6 ⟨k2,hb⟩;have hb:Below W5.heap.size W5 W6:=hb;obtain ⟨K1,RZ,RM⟩:=aI hb K1 RZ RM;have kw:=hbt pq hb;have K2:=hid k2;clear k2 hb;go_wp2_with fail
 with_reducible refine(C6.o _).mono ?_
 rintro e W7 ⟨p_6,c_6,rfl,lv,hb⟩;obtain ⟨K1,K2,RZ,RM⟩:=bI hb K1 K2 RZ RM;have kV:=hbt kw hb;have RO:=hid lv;clear hb lv;have sw:=K2.o.cell (i:=2) rfl;go_wp2_with fail
 with_reducible refine(C7.o _ _ _ _ _ RM.o RO.o).mono ?_
 rintro e W8 ⟨rfl,hb⟩;clear sw;obtain ⟨K1,K2,RZ,RM,RO⟩:=dQ hb K1 K2 RZ RM RO;have ic:=hbt kV hb;clear hb;obtain ⟨kz,rM⟩:=au K2.o rfl rfl;go_wp2_with fail
 with_reducible refine(C8.o _ _ _ RZ.o).mono ?_
 rintro e W9 ⟨rfl,hb⟩;clear kz rM;obtain ⟨K1,K2,RZ,RM,RO⟩:=dQ hb K1 K2 RZ RM RO;have gy:=hbt ic hb;clear hb;have rM:=K2.o.cell (i:=1) rfl;have sw:=K2.o.cell (i:=2) rfl;go_wp2_with fail
 with_reducible refine(C9.o _ _ _ _ _ RZ.o RM.o).mono ?_
 rintro e W10 ⟨ed,ek,rfl,kM,hb⟩;clear rM sw;obtain ⟨K1,RO⟩:=ax hb K1 RO;have eH:=hbt gy hb;have RG:=hid kM;clear hb kM;go_wp2_with fail
 with_reducible refine(C10.o _ _ _ _ _ RG.o RO.o).mono ?_
 rintro e W11 ⟨rfl,hb⟩;have K1:=hid (K1.o.below hb);have u04:=hbt eH hb;clear hb;go_wp2_with fail
 with_reducible refine(C11.o _).mono ?_
 rintro e W12 ⟨bV,af,u00,u01,rfl,u0b,u0c,hb⟩;have K1:=hid (K1.o.below hb);have u0d:=hbt u04 hb;have RQ:=hid u0b;have TQ:=hid u0c;clear hb u0b u0c;obtain ⟨mf,mi,l5⟩:=aK K1.o rfl rfl rfl;obtain ⟨fo,fq,fQ⟩:=bJ K1.o;go_wp2;exact bodyPost_ret (v:=.tuple #[.agg #[.bool (av zz),.slice bV (ag zz) af,.slice u00 (ai dz) u01],.bool false]) (by simp[results,results18,go_sem,mf,mi,l5]) rfl ⟨_,_,_,_,rfl,(bD [.bool (av zz),.slice bV (ag zz) af,.slice u00 (ai dz) u01] RQ.o K1.o (by simp[cB]) (by simp[bH])),(bD [.bool (av zz),.slice bV (ag zz) af,.slice u00 (ai dz) u01] TQ.o K1.o (by simp[cB]) (by simp[bH])),(aJ (l:=[.bool (av zz),.slice bV (ag zz) af,.slice u00 (ai dz) u01]) (i:=0) (by omega) u0d.o)⟩
