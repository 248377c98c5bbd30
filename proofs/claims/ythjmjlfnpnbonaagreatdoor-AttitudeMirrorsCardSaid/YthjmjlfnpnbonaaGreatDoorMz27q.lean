/- Texts of this proof, one behind the other. -/
import Derived.Test.YthjmjlfnpnbonaaGreatDoorHe
set_option maxRecDepth 100000
set_option maxHeartbeats 20000000
open Go.Lib (hid)
namespace Go.Proofs.YthjmjlfnpnbonaaGreatDoor
open Go.RowKit Go.Gb
theorem ldot_raw (x1 x2 x3 y1 y2 y3 r:ByteArray)(b1 b2:Bool)(xa xb xc ya yb yc q:Rat)  (w:World)  (h1:∀ W,Calls Tryz.prog 24 #[.agg #[.string x1,.string x2,.string x3]] W fun e w'=>∃ pa ca sa da pb cb sb db pc cc sc dc,e=.returned (.tuple #[.agg #[.bool (zneg xa.num),.slice pa (zlen xa.num) ca,.slice sa (nlen xa.den) da,.bool (zneg xb.num),.slice pb (zlen xb.num) cb,.slice sb (nlen xb.den) db,.bool (zneg xc.num),.slice pc (zlen xc.num) cc,.slice sc (nlen xc.den) dc],.bool b1])∧RN w' (.slice pa (zlen xa.num) ca) xa.num.natAbs∧RN w' (.slice sa (nlen xa.den) da) xa.den∧RN w' (.slice pb (zlen xb.num) cb) xb.num.natAbs∧RN w' (.slice sb (nlen xb.den) db) xb.den∧RN w' (.slice pc (zlen xc.num) cc) xc.num.natAbs∧RN w' (.slice sc (nlen xc.den) dc) xc.den∧Below W.heap.size W w')(h2:∀ W,Calls Tryz.prog 24 #[.agg #[.string y1,.string y2,.string y3]] W fun e w'=>∃ pa ca sa da pb cb sb db pc cc sc dc,e=.returned (.tuple #[.agg #[.bool (zneg ya.num),.slice pa (zlen ya.num) ca,.slice sa (nlen ya.den) da,.bool (zneg yb.num),.slice pb (zlen yb.num) cb,.slice sb (nlen yb.den) db,.bool (zneg yc.num),.slice pc (zlen yc.num) cc,.slice sc (nlen yc.den) dc],.bool b2])∧RN w' (.slice pa (zlen ya.num) ca) ya.num.natAbs∧RN w' (.slice sa (nlen ya.den) da) ya.den∧RN w' (.slice pb (zlen yb.num) cb) yb.num.natAbs∧RN w' (.slice sb (nlen yb.den) db) yb.den∧RN w' (.slice pc (zlen yc.num) cc) yc.num.natAbs∧RN w' (.slice sc (nlen yc.den) dc) yc.den∧Below W.heap.size W w')(h3:∀ p1a c1a s1a d1a p1b c1b s1b d1b p1c c1c s1c d1c p2a c2a s2a d2a p2b c2b s2b d2b p2c c2c s2c d2c W,RN W (.slice p1a (zlen xa.num) c1a) xa.num.natAbs→RN W (.slice s1a (nlen xa.den) d1a) xa.den→RN W (.slice p1b (zlen xb.num) c1b) xb.num.natAbs→RN W (.slice s1b (nlen xb.den) d1b) xb.den→RN W (.slice p1c (zlen xc.num) c1c) xc.num.natAbs→RN W (.slice s1c (nlen xc.den) d1c) xc.den→RN W (.slice p2a (zlen ya.num) c2a) ya.num.natAbs→RN W (.slice s2a (nlen ya.den) d2a) ya.den→RN W (.slice p2b (zlen yb.num) c2b) yb.num.natAbs→RN W (.slice s2b (nlen yb.den) d2b) yb.den→RN W (.slice p2c (zlen yc.num) c2c) yc.num.natAbs→RN W (.slice s2c (nlen yc.den) d2c) yc.den→Calls Tryz.prog 41 #[.agg #[.bool (zneg xa.num),.slice p1a (zlen xa.num) c1a,.slice s1a (nlen xa.den) d1a,.bool (zneg xb.num),.slice p1b (zlen xb.num) c1b,.slice s1b (nlen xb.den) d1b,.bool (zneg xc.num),.slice p1c (zlen xc.num) c1c,.slice s1c (nlen xc.den) d1c],.agg #[.bool (zneg ya.num),.slice p2a (zlen ya.num) c2a,.slice s2a (nlen ya.den) d2a,.bool (zneg yb.num),.slice p2b (zlen yb.num) c2b,.slice s2b (nlen yb.den) d2b,.bool (zneg yc.num),.slice p2c (zlen yc.num) c2c,.slice s2c (nlen yc.den) d2c]] W fun e w'=>∃ p c s d,e=.returned (.agg #[.bool (zneg q.num),.slice p (zlen q.num) c,.slice s (nlen q.den) d])∧RN w' (.slice p (zlen q.num) c) q.num.natAbs∧RN w' (.slice s (nlen q.den) d) q.den∧Below W.heap.size W w')(h4:∀ p1 c1 s1 d1 W,RN W (.slice p1 (zlen q.num) c1) q.num.natAbs→RN W (.slice s1 (nlen q.den) d1) q.den→CR 27 #[.agg #[.bool (zneg q.num),.slice p1 (zlen q.num) c1,.slice s1 (nlen q.den) d1]] W (.string r))  :
 CR 25 #[.agg #[.string x1,.string x2,.string x3],.agg #[.string y1,.string y2,.string y3]] w (.string r):=by
 have C1:=hid h1
 have C2:=hid h2
 have C3:=hid h3
 have C4:=hid h4
 clear h1 h2 h3 h4
 go_enter Tryz.func25,Tryz.ntmps25
 go_upto_region 1 with fail
 refine wp_boxes w [(#[.string x1,.string x2,.string x3],29),(#[.string y1,.string y2,.string y3],29)] rfl ?_
 rintro W0 ⟨k1,k2,hb⟩
 have HB0:=hid (show Below w.heap.size w W0 from hb)
 have K1:=hid k1
 have K2:=hid k2
 clear k1 k2 hb
 have dK10:=K1.out.cell (i:=0) rfl
 have dK11:=K1.out.cell (i:=1) rfl
 have dK12:=K1.out.cell (i:=2) rfl
 go_wp2_with fail
 with_reducible refine(C1.out _).mono ?_
 rintro e W1 ⟨paa_1,caa_1,saa_1,daa_1,pba_1,cba_1,sba_1,dba_1,pca_1,cca_1,sca_1,dca_1,rfl,r1_0,r1_1,r1_2,r1_3,r1_4,r1_5,hb⟩
 clear dK10 dK11 dK12
 have K1:=hid (K1.out.below hb)
 have K2:=hid (K2.out.below hb)
 have HB1:=hbt HB0 hb
 have RA:=hid r1_0
 have TA:=hid r1_1
 have RB:=hid r1_2
 have TB:=hid r1_3
 have RC:=hid r1_4
 have TC:=hid r1_5
 clear hb r1_0 r1_1 r1_2 r1_3 r1_4 r1_5
 go_upto_region 2 with fail
 refine wp_boxes W1 [(#[.bool (zneg (xa.num)),.slice paa_1 (zlen (xa.num)) caa_1,.slice saa_1 (nlen (xa.den)) daa_1,.bool (zneg (xb.num)),.slice pba_1 (zlen (xb.num)) cba_1,.slice sba_1 (nlen (xb.den)) dba_1,.bool (zneg (xc.num)),.slice pca_1 (zlen (xc.num)) cca_1,.slice sca_1 (nlen (xc.den)) dca_1],55)] rfl ?_
 have L1:=K1.out.lt
 have L2:=K2.out.lt
 have L3:=HB1.out.size
 rintro W2 ⟨k3,hb⟩
 have hb:Below W1.heap.size W1 W2:=hb
 have K1:=hid (K1.out.below hb)
 have K2:=hid (K2.out.below hb)
 have RA:=hid (RA.out.below hb)
 have TA:=hid (TA.out.below hb)
 have RB:=hid (RB.out.below hb)
 have TB:=hid (TB.out.below hb)
 have RC:=hid (RC.out.below hb)
 have TC:=hid (TC.out.below hb)
 have HB2:=hbt HB1 hb
 have K3:=hid k3
 clear k3 hb
 have dK20:=K2.out.cell (i:=0) rfl
 have dK21:=K2.out.cell (i:=1) rfl
 have dK22:=K2.out.cell (i:=2) rfl
 go_wp2_with fail
 with_reducible refine(C2.out _).mono ?_
 rintro e W3 ⟨paa_2,caa_2,saa_2,daa_2,pba_2,cba_2,sba_2,dba_2,pca_2,cca_2,sca_2,dca_2,rfl,r2_0,r2_1,r2_2,r2_3,r2_4,r2_5,hb⟩
 clear dK20 dK21 dK22
 have K1:=hid (K1.out.below hb)
 have K2:=hid (K2.out.below hb)
 have K3:=hid (K3.out.below hb)
 have RA:=hid (RA.out.below hb)
 have TA:=hid (TA.out.below hb)
 have RB:=hid (RB.out.below hb)
 have TB:=hid (TB.out.below hb)
 have RC:=hid (RC.out.below hb)
 have TC:=hid (TC.out.below hb)
 have HB3:=hbt HB2 hb
 have RD:=hid r2_0
 have TD:=hid r2_1
 have RE:=hid r2_2
 have TE:=hid r2_3
 have RF:=hid r2_4
 have TF:=hid r2_5
 clear hb r2_0 r2_1 r2_2 r2_3 r2_4 r2_5
 go_upto_region 3 with fail
 refine wp_boxes W3 [(#[.bool (zneg (ya.num)),.slice paa_2 (zlen (ya.num)) caa_2,.slice saa_2 (nlen (ya.den)) daa_2,.bool (zneg (yb.num)),.slice pba_2 (zlen (yb.num)) cba_2,.slice sba_2 (nlen (yb.den)) dba_2,.bool (zneg (yc.num)),.slice pca_2 (zlen (yc.num)) cca_2,.slice sca_2 (nlen (yc.den)) dca_2],55)] rfl ?_
 have L4:=K1.out.lt
 have L5:=K2.out.lt
 have L6:=K3.out.lt
 have L7:=HB3.out.size
 rintro W4 ⟨k4,hb⟩
 have hb:Below W3.heap.size W3 W4:=hb
 have K3:=hid (K3.out.below hb)
 have RA:=hid (RA.out.below hb)
 have TA:=hid (TA.out.below hb)
 have RB:=hid (RB.out.below hb)
 have TB:=hid (TB.out.below hb)
 have RC:=hid (RC.out.below hb)
 have TC:=hid (TC.out.below hb)
 have RD:=hid (RD.out.below hb)
 have TD:=hid (TD.out.below hb)
 have RE:=hid (RE.out.below hb)
 have TE:=hid (TE.out.below hb)
 have RF:=hid (RF.out.below hb)
 have TF:=hid (TF.out.below hb)
 have HB4:=hbt HB3 hb
 have K4:=hid k4
 clear k4 hb
 have dK30:=K3.out.cell (i:=0) rfl
 have dK31:=K3.out.cell (i:=1) rfl
 have dK32:=K3.out.cell (i:=2) rfl
 have dK33:=K3.out.cell (i:=3) rfl
 have dK34:=K3.out.cell (i:=4) rfl
 have dK35:=K3.out.cell (i:=5) rfl
 have dK36:=K3.out.cell (i:=6) rfl
 have dK37:=K3.out.cell (i:=7) rfl
 have dK38:=K3.out.cell (i:=8) rfl
 have dK40:=K4.out.cell (i:=0) rfl
 have dK41:=K4.out.cell (i:=1) rfl
 have dK42:=K4.out.cell (i:=2) rfl
 have dK43:=K4.out.cell (i:=3) rfl
 have dK44:=K4.out.cell (i:=4) rfl
 have dK45:=K4.out.cell (i:=5) rfl
 have dK46:=K4.out.cell (i:=6) rfl
 have dK47:=K4.out.cell (i:=7) rfl
 have dK48:=K4.out.cell (i:=8) rfl
 go_wp2_with fail
 with_reducible refine(C3.out _ _ _ _ _ _ _ _ _ _ _ _ _ _ _ _ _ _ _ _ _ _ _ _ _ RA.out TA.out RB.out TB.out RC.out TC.out RD.out TD.out RE.out TE.out RF.out TF.out).mono ?_
 rintro e W5 ⟨p_3,c_3,s_3,d_3,rfl,r3_0,r3_1,hb⟩
 clear dK30 dK31 dK32 dK33 dK34 dK35 dK36 dK37 dK38 dK40 dK41 dK42 dK43 dK44 dK45 dK46 dK47 dK48
 have HB5:=hbt HB4 hb
 have RQ:=hid r3_0
 have TQ:=hid r3_1
 clear hb r3_0 r3_1
 go_wp2_with fail
 with_reducible refine(C4.out _ _ _ _ _ RQ.out TQ.out).mono ?_
 rintro e W6 ⟨rfl,hb⟩
 have HB6:=hbt HB5 hb
 clear hb
 go_wp2
 exact bodyPost_ret (v:=.string r) (by simp[results,Tryz.results25,go_sem]) rfl ⟨rfl,HB6.out⟩
end Go.Proofs.YthjmjlfnpnbonaaGreatDoor
set_option maxRecDepth 100000
set_option maxHeartbeats 20000000
open Go.Lib (hid)
namespace Go.Proofs.YthjmjlfnpnbonaaGreatDoor
open Go.RowKit Go.Gb
abbrev CV (w:World) (f:Nat) (args:Array Value) (v:Value):Prop:=∀ W,Below w.heap.size w W→Calls Tryz.prog f args W fun e w'=>e=.returned v∧Below W.heap.size W w'
theorem CV.mono {w W:World}{f:Nat}{args:Array Value}{v:Value}(h:CV w f args v)(hb:Below w.heap.size w W):CV W f args v:=fun X hX=>h X (hb.trans (hX.mono hb.size))
theorem CV.at {w:World}{f:Nat}{args:Array Value}{v:Value}(h:CV w f args v):Calls Tryz.prog f args w fun e w'=>e=.returned v∧Below w.heap.size w w':=h w (Below.refl _ _)
theorem hRat (x:ByteArray)(n:Int)(w₀:World)   :
 CV w₀ 77 #[.string x,.int .i64 n] (.string x):=by
 intro w hw
 clear hw
 go_enter Tryz.func77,Tryz.ntmps77
 have HB0:=hid (Below.refl w.heap.size w)
 go_wp2
 exact bodyPost_ret (v:=.string x) (by simp[results,Tryz.results77,go_sem]) rfl ⟨rfl,HB0.out⟩
theorem hInt (x n:Int)(w₀:World)   :
 CV w₀ 92 #[.int .i64 x,.int .i64 n] (.int .i64 x):=by
 intro w hw
 clear hw
 go_enter Tryz.func92,Tryz.ntmps92
 have HB0:=hid (Below.refl w.heap.size w)
 go_wp2
 exact bodyPost_ret (v:=.int .i64 x) (by simp[results,Tryz.results92,go_sem]) rfl ⟨rfl,HB0.out⟩
theorem hplus_raw (x y z:ByteArray)(n:Int)(w₀:World)(h1:CV w₀ 85 #[.string x,.string y] (.tuple #[.string z,.int .i64 n]))  :
 CV w₀ 64 #[.string x,.string y] (.string z):=by
 intro w hw
 have C1:=hid (h1.mono hw)
 clear h1 hw
 go_enter Tryz.func64,Tryz.ntmps64
 have HB0:=hid (Below.refl w.heap.size w)
 go_wp2_with fail
 with_reducible refine(C1.out _ HB0.out).mono ?_
 rintro e W1 ⟨rfl,hb⟩
 have HB1:=hbt HB0 hb
 clear hb
 go_wp2_with fail
 with_reducible refine(hRat z n _ _ HB1.out).mono ?_
 rintro e W2 ⟨rfl,hb⟩
 have HB2:=hbt HB1 hb
 clear hb
 go_wp2
 exact bodyPost_ret (v:=.string z) (by simp[results,Tryz.results64,go_sem]) rfl ⟨rfl,HB2.out⟩
theorem hminus_raw (x y z:ByteArray)(n:Int)(w₀:World)(h1:CV w₀ 84 #[.string x,.string y] (.tuple #[.string z,.int .i64 n]))  :
 CV w₀ 62 #[.string x,.string y] (.string z):=by
 intro w hw
 have C1:=hid (h1.mono hw)
 clear h1 hw
 go_enter Tryz.func62,Tryz.ntmps62
 have HB0:=hid (Below.refl w.heap.size w)
 go_wp2_with fail
 with_reducible refine(C1.out _ HB0.out).mono ?_
 rintro e W1 ⟨rfl,hb⟩
 have HB1:=hbt HB0 hb
 clear hb
 go_wp2_with fail
 with_reducible refine(hRat z n _ _ HB1.out).mono ?_
 rintro e W2 ⟨rfl,hb⟩
 have HB2:=hbt HB1 hb
 clear hb
 go_wp2
 exact bodyPost_ret (v:=.string z) (by simp[results,Tryz.results62,go_sem]) rfl ⟨rfl,HB2.out⟩
theorem htimes_raw (x y z:ByteArray)(n:Int)(w₀:World)(h1:CV w₀ 78 #[.string x,.string y] (.tuple #[.string z,.int .i64 n]))  :
 CV w₀ 58 #[.string x,.string y] (.string z):=by
 intro w hw
 have C1:=hid (h1.mono hw)
 clear h1 hw
 go_enter Tryz.func58,Tryz.ntmps58
 have HB0:=hid (Below.refl w.heap.size w)
 go_wp2_with fail
 with_reducible refine(C1.out _ HB0.out).mono ?_
 rintro e W1 ⟨rfl,hb⟩
 have HB1:=hbt HB0 hb
 clear hb
 go_wp2_with fail
 with_reducible refine(hRat z n _ _ HB1.out).mono ?_
 rintro e W2 ⟨rfl,hb⟩
 have HB2:=hbt HB1 hb
 clear hb
 go_wp2
 exact bodyPost_ret (v:=.string z) (by simp[results,Tryz.results58,go_sem]) rfl ⟨rfl,HB2.out⟩
theorem hover_raw (x y z:ByteArray)(n:Int)(w₀:World)(h1:CV w₀ 94 #[.string x,.string y] (.tuple #[.string z,.int .i64 n]))  :
 CV w₀ 76 #[.string x,.string y] (.string z):=by
 intro w hw
 have C1:=hid (h1.mono hw)
 clear h1 hw
 go_enter Tryz.func76,Tryz.ntmps76
 have HB0:=hid (Below.refl w.heap.size w)
 go_wp2_with fail
 with_reducible refine(C1.out _ HB0.out).mono ?_
 rintro e W1 ⟨rfl,hb⟩
 have HB1:=hbt HB0 hb
 clear hb
 go_wp2_with fail
 with_reducible refine(hRat z n _ _ HB1.out).mono ?_
 rintro e W2 ⟨rfl,hb⟩
 have HB2:=hbt HB1 hb
 clear hb
 go_wp2
 exact bodyPost_ret (v:=.string z) (by simp[results,Tryz.results76,go_sem]) rfl ⟨rfl,HB2.out⟩
theorem horder_raw (x y:ByteArray)(c n:Int)(w₀:World)(h1:CV w₀ 93 #[.string x,.string y] (.tuple #[.int .i64 c,.int .i64 n]))  :
 CV w₀ 75 #[.string x,.string y] (.int .i64 c):=by
 intro w hw
 have C1:=hid (h1.mono hw)
 clear h1 hw
 go_enter Tryz.func75,Tryz.ntmps75
 have HB0:=hid (Below.refl w.heap.size w)
 go_wp2_with fail
 with_reducible refine(C1.out _ HB0.out).mono ?_
 rintro e W1 ⟨rfl,hb⟩
 have HB1:=hbt HB0 hb
 clear hb
 go_wp2_with fail
 with_reducible refine(hInt c n _ _ HB1.out).mono ?_
 rintro e W2 ⟨rfl,hb⟩
 have HB2:=hbt HB1 hb
 clear hb
 go_wp2
 exact bodyPost_ret (v:=.int .i64 c) (by simp[results,Tryz.results75,go_sem]) rfl ⟨rfl,HB2.out⟩
theorem hopp_raw (x z:ByteArray)(w₀:World)(h1:CV w₀ 62 #[.string ⟨#[48]⟩,.string x] (.string z))  :
 CV w₀ 34 #[.string x] (.string z):=by
 intro w hw
 have C1:=hid (h1.mono hw)
 clear h1 hw
 go_enter Tryz.func34,Tryz.ntmps34
 have HB0:=hid (Below.refl w.heap.size w)
 go_wp2_with fail
 with_reducible refine(C1.out _ HB0.out).mono ?_
 rintro e W1 ⟨rfl,hb⟩
 have HB1:=hbt HB0 hb
 clear hb
 go_wp2
 exact bodyPost_ret (v:=.string z) (by simp[results,Tryz.results34,go_sem]) rfl ⟨rfl,HB1.out⟩
theorem hread (x y z:ByteArray)(w₀:World)   :
 CV w₀ 37 #[.agg #[.string x,.string y,.string z]] (.agg #[.string x,.string y,.string z]):=by
 intro w hw
 clear hw
 go_enter Tryz.func37,Tryz.ntmps37
 go_upto_region 1 with fail
 refine wp_boxes w [(#[.string x,.string y,.string z],29),(#[.string ⟨#[]⟩,.string ⟨#[]⟩,.string ⟨#[]⟩],65)] rfl ?_
 rintro W0 ⟨k1,k2,hb⟩
 have HB0:=hid (show Below w.heap.size w W0 from hb)
 have K1:=hid k1
 have K2:=hid k2
 clear k1 k2 hb
 have dK10:=K1.out.cell (i:=0) rfl
 have dK11:=K1.out.cell (i:=1) rfl
 have dK12:=K1.out.cell (i:=2) rfl
 have dK20:=K2.out.cell (i:=0) rfl
 have dK21:=K2.out.cell (i:=1) rfl
 have dK22:=K2.out.cell (i:=2) rfl
 have fK20:=K2.out.frozen (i:=0)
 have fK21:=K2.out.frozen (i:=1)
 have fK22:=K2.out.frozen (i:=2)
 go_wp2
 exact bodyPost_ret (v:=.agg #[.string x,.string y,.string z]) (by simp[results,Tryz.results37,go_sem,dK20,dK21,dK22]) rfl ⟨rfl,(store_below (l:=[.string x,.string y,.string z]) (i:=0) (by omega) HB0.out)⟩
theorem hvector (x y z:ByteArray)(w₀:World)   :
 CV w₀ 31 #[.agg #[.string x,.string y,.string z]] (.agg #[.string x,.string y,.string z]):=by
 intro w hw
 clear hw
 go_enter Tryz.func31,Tryz.ntmps31
 go_upto_region 1 with fail
 refine wp_boxes w [(#[.string x,.string y,.string z],65),(#[.string ⟨#[]⟩,.string ⟨#[]⟩,.string ⟨#[]⟩],29)] rfl ?_
 rintro W0 ⟨k1,k2,hb⟩
 have HB0:=hid (show Below w.heap.size w W0 from hb)
 have K1:=hid k1
 have K2:=hid k2
 clear k1 k2 hb
 have dK10:=K1.out.cell (i:=0) rfl
 have dK11:=K1.out.cell (i:=1) rfl
 have dK12:=K1.out.cell (i:=2) rfl
 have dK20:=K2.out.cell (i:=0) rfl
 have dK21:=K2.out.cell (i:=1) rfl
 have dK22:=K2.out.cell (i:=2) rfl
 have fK20:=K2.out.frozen (i:=0)
 have fK21:=K2.out.frozen (i:=1)
 have fK22:=K2.out.frozen (i:=2)
 go_wp2
 exact bodyPost_ret (v:=.agg #[.string x,.string y,.string z]) (by simp[results,Tryz.results31,go_sem,dK20,dK21,dK22]) rfl ⟨rfl,(store_below (l:=[.string x,.string y,.string z]) (i:=0) (by omega) HB0.out)⟩
theorem hcircle_raw (t u wh m c d s:ByteArray)(w₀:World)(h1:CV w₀ 58 #[.string t,.string t] (.string u))(h2:CV w₀ 64 #[.string ⟨#[49]⟩,.string u] (.string wh))(h3:CV w₀ 62 #[.string ⟨#[49]⟩,.string u] (.string m))(h4:CV w₀ 76 #[.string m,.string wh] (.string c))(h5:CV w₀ 58 #[.string ⟨#[50]⟩,.string t] (.string d))(h6:CV w₀ 76 #[.string d,.string wh] (.string s))  :
 CV w₀ 57 #[.string t] (.tuple #[.string c,.string s]):=by
 intro w hw
 have C1:=hid (h1.mono hw)
 have C2:=hid (h2.mono hw)
 have C3:=hid (h3.mono hw)
 have C4:=hid (h4.mono hw)
 have C5:=hid (h5.mono hw)
 have C6:=hid (h6.mono hw)
 clear h1 h2 h3 h4 h5 h6 hw
 go_enter Tryz.func57,Tryz.ntmps57
 have HB0:=hid (Below.refl w.heap.size w)
 go_wp2_with fail
 with_reducible refine(C1.out _ HB0.out).mono ?_
 rintro e W1 ⟨rfl,hb⟩
 have HB1:=hbt HB0 hb
 clear hb
 go_wp2_with fail
 with_reducible refine(C2.out _ HB1.out).mono ?_
 rintro e W2 ⟨rfl,hb⟩
 have HB2:=hbt HB1 hb
 clear hb
 go_wp2_with fail
 with_reducible refine(C3.out _ HB2.out).mono ?_
 rintro e W3 ⟨rfl,hb⟩
 have HB3:=hbt HB2 hb
 clear hb
 go_wp2_with fail
 with_reducible refine(C4.out _ HB3.out).mono ?_
 rintro e W4 ⟨rfl,hb⟩
 have HB4:=hbt HB3 hb
 clear hb
 go_wp2_with fail
 with_reducible refine(C5.out _ HB4.out).mono ?_
 rintro e W5 ⟨rfl,hb⟩
 have HB5:=hbt HB4 hb
 clear hb
 go_wp2_with fail
 with_reducible refine(C6.out _ HB5.out).mono ?_
 rintro e W6 ⟨rfl,hb⟩
 have HB6:=hbt HB5 hb
 clear hb
 go_wp2
 exact bodyPost_ret (v:=.tuple #[.string c,.string s]) (by simp[results,Tryz.results57,go_sem]) rfl ⟨rfl,HB6.out⟩
theorem hframe_raw (p q c s d t st nst ct nt sd nsd cd:ByteArray)(w₀:World)(h1:CV w₀ 57 #[.string p] (.tuple #[.string c,.string s]))(h2:CV w₀ 57 #[.string q] (.tuple #[.string d,.string t]))(h3:CV w₀ 58 #[.string s,.string t] (.string st))(h4:CV w₀ 34 #[.string st] (.string nst))(h5:CV w₀ 58 #[.string c,.string t] (.string ct))(h6:CV w₀ 34 #[.string t] (.string nt))(h7:CV w₀ 58 #[.string s,.string d] (.string sd))(h8:CV w₀ 34 #[.string sd] (.string nsd))(h9:CV w₀ 58 #[.string c,.string d] (.string cd))  :
 CV w₀ 30 #[.agg #[.string p,.string q]] (.agg #[.string d,.string nst,.string ct,.string ⟨#[48]⟩,.string c,.string s,.string nt,.string nsd,.string cd]):=by
 intro w hw
 have C1:=hid (h1.mono hw)
 have C2:=hid (h2.mono hw)
 have C3:=hid (h3.mono hw)
 have C4:=hid (h4.mono hw)
 have C5:=hid (h5.mono hw)
 have C6:=hid (h6.mono hw)
 have C7:=hid (h7.mono hw)
 have C8:=hid (h8.mono hw)
 have C9:=hid (h9.mono hw)
 clear h1 h2 h3 h4 h5 h6 h7 h8 h9 hw
 go_enter Tryz.func30,Tryz.ntmps30
 go_upto_region 1 with fail
 refine wp_boxes w [(#[.string p,.string q],24),(#[.string ⟨#[]⟩,.string ⟨#[]⟩,.string ⟨#[]⟩,.string ⟨#[]⟩,.string ⟨#[]⟩,.string ⟨#[]⟩,.string ⟨#[]⟩,.string ⟨#[]⟩,.string ⟨#[]⟩],67)] rfl ?_
 rintro W0 ⟨k1,k2,hb⟩
 have HB0:=hid (show Below w.heap.size w W0 from hb)
 have K1:=hid k1
 have K2:=hid k2
 clear k1 k2 hb
 have dK10:=K1.out.cell (i:=0) rfl
 go_wp2_with fail
 with_reducible refine(C1.out _ HB0.out).mono ?_
 rintro e W1 ⟨rfl,hb⟩
 clear dK10
 have K1:=hid (K1.out.below hb)
 have K2:=hid (K2.out.below hb)
 have HB1:=hbt HB0 hb
 clear hb
 have dK11:=K1.out.cell (i:=1) rfl
 go_wp2_with fail
 with_reducible refine(C2.out _ HB1.out).mono ?_
 rintro e W2 ⟨rfl,hb⟩
 clear dK11
 have K2:=hid (K2.out.below hb)
 have HB2:=hbt HB1 hb
 clear hb
 go_wp2_with fail
 with_reducible refine(C3.out _ HB2.out).mono ?_
 rintro e W3 ⟨rfl,hb⟩
 have K2:=hid (K2.out.below hb)
 have HB3:=hbt HB2 hb
 clear hb
 go_wp2_with fail
 with_reducible refine(C4.out _ HB3.out).mono ?_
 rintro e W4 ⟨rfl,hb⟩
 have K2:=hid (K2.out.below hb)
 have HB4:=hbt HB3 hb
 clear hb
 go_wp2_with fail
 with_reducible refine(C5.out _ HB4.out).mono ?_
 rintro e W5 ⟨rfl,hb⟩
 have K2:=hid (K2.out.below hb)
 have HB5:=hbt HB4 hb
 clear hb
 go_wp2_with fail
 with_reducible refine(C6.out _ HB5.out).mono ?_
 rintro e W6 ⟨rfl,hb⟩
 have K2:=hid (K2.out.below hb)
 have HB6:=hbt HB5 hb
 clear hb
 go_wp2_with fail
 with_reducible refine(C7.out _ HB6.out).mono ?_
 rintro e W7 ⟨rfl,hb⟩
 have K2:=hid (K2.out.below hb)
 have HB7:=hbt HB6 hb
 clear hb
 go_wp2_with fail
 with_reducible refine(C8.out _ HB7.out).mono ?_
 rintro e W8 ⟨rfl,hb⟩
 have K2:=hid (K2.out.below hb)
 have HB8:=hbt HB7 hb
 clear hb
 go_wp2_with fail
 with_reducible refine(C9.out _ HB8.out).mono ?_
 rintro e W9 ⟨rfl,hb⟩
 have K2:=hid (K2.out.below hb)
 have HB9:=hbt HB8 hb
 clear hb
 have dK20:=K2.out.cell (i:=0) rfl
 have dK21:=K2.out.cell (i:=1) rfl
 have dK22:=K2.out.cell (i:=2) rfl
 have dK23:=K2.out.cell (i:=3) rfl
 have dK24:=K2.out.cell (i:=4) rfl
 have dK25:=K2.out.cell (i:=5) rfl
 have dK26:=K2.out.cell (i:=6) rfl
 have dK27:=K2.out.cell (i:=7) rfl
 have dK28:=K2.out.cell (i:=8) rfl
 have fK20:=K2.out.frozen (i:=0)
 have fK21:=K2.out.frozen (i:=1)
 have fK22:=K2.out.frozen (i:=2)
 have fK23:=K2.out.frozen (i:=3)
 have fK24:=K2.out.frozen (i:=4)
 have fK25:=K2.out.frozen (i:=5)
 have fK26:=K2.out.frozen (i:=6)
 have fK27:=K2.out.frozen (i:=7)
 have fK28:=K2.out.frozen (i:=8)
 go_wp2
 exact bodyPost_ret (v:=.agg #[.string d,.string nst,.string ct,.string ⟨#[48]⟩,.string c,.string s,.string nt,.string nsd,.string cd]) (by simp[results,Tryz.results30,go_sem,dK20,dK21,dK22,dK23,dK24,dK25,dK26,dK27,dK28]) rfl ⟨rfl,(store_below (l:=[.string d,.string nst,.string ct,.string ⟨#[48]⟩,.string c,.string s,.string nt,.string nsd,.string cd]) (i:=0) (by omega) HB9.out)⟩
end Go.Proofs.YthjmjlfnpnbonaaGreatDoor
