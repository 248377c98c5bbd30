/- garboardlaw16.AttitudeUnit returns true: walks. -/
import Derived.Test.YthjmjlfnpnbonaaGreatDoorHh
set_option maxRecDepth 100000
set_option maxHeartbeats 20000000
open Go.Lib (hid)
namespace Go.Proofs.YthjmjlfnpnbonaaGreatDoor
open Go.RowKit Go.Gb
theorem hun_long (p q:ByteArray)(w₀:World)  (hla:La w₀)(fa:decide (p.size≤40∧q.size≤40)=false) :
 CV w₀ 5 #[.agg #[.string p,.string q]] (.bool true):=by
 intro w hw
 have HT:=hid (hla.on hw)
 have FA:=hid fa
 clear hla fa hw
 go_enter Tryz.func5,Tryz.ntmps5
 go_upto_region 1 with fail
 refine wp_boxes w [(#[.string p,.string q],24)] rfl ?_
 rintro W0 ⟨k1,hb⟩
 have HB0:=hid (show Below w.heap.size w W0 from hb)
 have K1:=hid k1
 clear k1 hb
 go_wp2_with fail
 with_reducible refine((att_awake _ (HT.out.on HB0.out)).at).mono ?_
 rintro e W1 ⟨rfl,hb⟩
 have K1:=hid (K1.out.below hb)
 have HB1:=hbt HB0 hb
 clear hb
 have dK10:=K1.out.cell (i:=0) rfl
 have dK11:=K1.out.cell (i:=1) rfl
 go_wp2_with fail
 with_reducible refine((hshA p q false _ FA.out).at).mono ?_
 rintro e W2 ⟨rfl,hb⟩
 clear dK10 dK11
 have HB2:=hbt HB1 hb
 clear hb
 go_wp2
 exact bodyPost_ret (v:=.bool true) (by simp[results,Tryz.results5,go_sem]) rfl ⟨rfl,HB2.out⟩
theorem hun_e1 (p q:ByteArray)(w₀:World)(h1:CV w₀ 11 #[.agg #[.string p,.string q]] (.tuple #[.agg #[.string ⟨#[]⟩,.string ⟨#[]⟩,.string ⟨#[]⟩,.string ⟨#[]⟩,.string ⟨#[]⟩,.string ⟨#[]⟩,.string ⟨#[]⟩,.string ⟨#[]⟩,.string ⟨#[]⟩],.int .i64 1]))(hla:La w₀)(fa:decide (p.size≤40∧q.size≤40)=true) :
 CV w₀ 5 #[.agg #[.string p,.string q]] (.bool true):=by
 intro w hw
 have C1:=hid (h1.mono hw)
 have HT:=hid (hla.on hw)
 have FA:=hid fa
 clear hla fa h1 hw
 go_enter Tryz.func5,Tryz.ntmps5
 go_upto_region 1 with fail
 refine wp_boxes w [(#[.string p,.string q],24)] rfl ?_
 rintro W0 ⟨k1,hb⟩
 have HB0:=hid (show Below w.heap.size w W0 from hb)
 have K1:=hid k1
 clear k1 hb
 go_wp2_with fail
 with_reducible refine((att_awake _ (HT.out.on HB0.out)).at).mono ?_
 rintro e W1 ⟨rfl,hb⟩
 have K1:=hid (K1.out.below hb)
 have HB1:=hbt HB0 hb
 clear hb
 have dK10:=K1.out.cell (i:=0) rfl
 have dK11:=K1.out.cell (i:=1) rfl
 go_wp2_with fail
 with_reducible refine((hshA p q true _ FA.out).at).mono ?_
 rintro e W2 ⟨rfl,hb⟩
 clear dK10 dK11
 have K1:=hid (K1.out.below hb)
 have HB2:=hbt HB1 hb
 clear hb
 have dK10:=K1.out.cell (i:=0) rfl
 have dK11:=K1.out.cell (i:=1) rfl
 go_wp2_with fail
 with_reducible refine(C1.out _ HB2.out).mono ?_
 rintro e W3 ⟨rfl,hb⟩
 clear dK10 dK11
 have K1:=hid (K1.out.below hb)
 have HB3:=hbt HB2 hb
 clear hb
 go_upto_region 6 with fail
 refine wp_boxes W3 [(#[.string ⟨#[]⟩,.string ⟨#[]⟩,.string ⟨#[]⟩,.string ⟨#[]⟩,.string ⟨#[]⟩,.string ⟨#[]⟩,.string ⟨#[]⟩,.string ⟨#[]⟩,.string ⟨#[]⟩],31)] rfl ?_
 have L1:=K1.out.lt
 have L2:=HB3.out.size
 rintro W4 ⟨k2,hb⟩
 have hb:Below W3.heap.size W3 W4:=hb
 have HB4:=hbt HB3 hb
 have K2:=hid k2
 clear k2 hb
 have dK20:=K2.out.cell (i:=0) rfl
 have dK21:=K2.out.cell (i:=1) rfl
 have dK22:=K2.out.cell (i:=2) rfl
 have dK23:=K2.out.cell (i:=3) rfl
 have dK24:=K2.out.cell (i:=4) rfl
 have dK25:=K2.out.cell (i:=5) rfl
 have dK26:=K2.out.cell (i:=6) rfl
 have dK27:=K2.out.cell (i:=7) rfl
 have dK28:=K2.out.cell (i:=8) rfl
 go_wp2
 exact bodyPost_ret (v:=.bool true) (by simp[results,Tryz.results5,go_sem]) rfl ⟨rfl,HB4.out⟩
theorem hun_e2 (p q:ByteArray)(w₀:World)(h1:CV w₀ 11 #[.agg #[.string p,.string q]] (.tuple #[.agg #[.string ⟨#[]⟩,.string ⟨#[]⟩,.string ⟨#[]⟩,.string ⟨#[]⟩,.string ⟨#[]⟩,.string ⟨#[]⟩,.string ⟨#[]⟩,.string ⟨#[]⟩,.string ⟨#[]⟩],.int .i64 2]))(hla:La w₀)(fa:decide (p.size≤40∧q.size≤40)=true) :
 CV w₀ 5 #[.agg #[.string p,.string q]] (.bool true):=by
 intro w hw
 have C1:=hid (h1.mono hw)
 have HT:=hid (hla.on hw)
 have FA:=hid fa
 clear hla fa h1 hw
 go_enter Tryz.func5,Tryz.ntmps5
 go_upto_region 1 with fail
 refine wp_boxes w [(#[.string p,.string q],24)] rfl ?_
 rintro W0 ⟨k1,hb⟩
 have HB0:=hid (show Below w.heap.size w W0 from hb)
 have K1:=hid k1
 clear k1 hb
 go_wp2_with fail
 with_reducible refine((att_awake _ (HT.out.on HB0.out)).at).mono ?_
 rintro e W1 ⟨rfl,hb⟩
 have K1:=hid (K1.out.below hb)
 have HB1:=hbt HB0 hb
 clear hb
 have dK10:=K1.out.cell (i:=0) rfl
 have dK11:=K1.out.cell (i:=1) rfl
 go_wp2_with fail
 with_reducible refine((hshA p q true _ FA.out).at).mono ?_
 rintro e W2 ⟨rfl,hb⟩
 clear dK10 dK11
 have K1:=hid (K1.out.below hb)
 have HB2:=hbt HB1 hb
 clear hb
 have dK10:=K1.out.cell (i:=0) rfl
 have dK11:=K1.out.cell (i:=1) rfl
 go_wp2_with fail
 with_reducible refine(C1.out _ HB2.out).mono ?_
 rintro e W3 ⟨rfl,hb⟩
 clear dK10 dK11
 have K1:=hid (K1.out.below hb)
 have HB3:=hbt HB2 hb
 clear hb
 go_upto_region 6 with fail
 refine wp_boxes W3 [(#[.string ⟨#[]⟩,.string ⟨#[]⟩,.string ⟨#[]⟩,.string ⟨#[]⟩,.string ⟨#[]⟩,.string ⟨#[]⟩,.string ⟨#[]⟩,.string ⟨#[]⟩,.string ⟨#[]⟩],31)] rfl ?_
 have L1:=K1.out.lt
 have L2:=HB3.out.size
 rintro W4 ⟨k2,hb⟩
 have hb:Below W3.heap.size W3 W4:=hb
 have HB4:=hbt HB3 hb
 have K2:=hid k2
 clear k2 hb
 have dK20:=K2.out.cell (i:=0) rfl
 have dK21:=K2.out.cell (i:=1) rfl
 have dK22:=K2.out.cell (i:=2) rfl
 have dK23:=K2.out.cell (i:=3) rfl
 have dK24:=K2.out.cell (i:=4) rfl
 have dK25:=K2.out.cell (i:=5) rfl
 have dK26:=K2.out.cell (i:=6) rfl
 have dK27:=K2.out.cell (i:=7) rfl
 have dK28:=K2.out.cell (i:=8) rfl
 go_wp2
 exact bodyPost_ret (v:=.bool true) (by simp[results,Tryz.results5,go_sem]) rfl ⟨rfl,HB4.out⟩
theorem hun_yes (p q ea eb ec ga gb gc ja jb jc:ByteArray)(mea meb mec mga mgb mgc mja mjb mjc:Rat)(w₀:World)(h1:CV w₀ 11 #[.agg #[.string p,.string q]] (.tuple #[.agg #[.string ea,.string eb,.string ec,.string ga,.string gb,.string gc,.string ja,.string jb,.string jc],.int .i64 0]))(hA:CV w₀ 25 #[.agg #[.string ea,.string eb,.string ec],.agg #[.string ea,.string eb,.string ec]] (.string ⟨#[49]⟩))(hB:CV w₀ 25 #[.agg #[.string ga,.string gb,.string gc],.agg #[.string ga,.string gb,.string gc]] (.string ⟨#[49]⟩))(hC:CV w₀ 25 #[.agg #[.string ja,.string jb,.string jc],.agg #[.string ja,.string jb,.string jc]] (.string ⟨#[49]⟩))(hD:CV w₀ 25 #[.agg #[.string ea,.string eb,.string ec],.agg #[.string ga,.string gb,.string gc]] (.string ⟨#[48]⟩))(hE:CV w₀ 25 #[.agg #[.string ga,.string gb,.string gc],.agg #[.string ja,.string jb,.string jc]] (.string ⟨#[48]⟩))(hF:CV w₀ 25 #[.agg #[.string ja,.string jb,.string jc],.agg #[.string ea,.string eb,.string ec]] (.string ⟨#[48]⟩))(hla:La w₀)(fa:decide (p.size≤40∧q.size≤40)=true)(v0:∀ W,Calls Tryz.prog 24 #[.agg #[.string ea,.string eb,.string ec]] W fun e w'=>∃ pa ca sa da pb cb sb db pc cc sc dc,e=.returned (.tuple #[.agg #[.bool (zneg mea.num),.slice pa (zlen mea.num) ca,.slice sa (nlen mea.den) da,.bool (zneg meb.num),.slice pb (zlen meb.num) cb,.slice sb (nlen meb.den) db,.bool (zneg mec.num),.slice pc (zlen mec.num) cc,.slice sc (nlen mec.den) dc],.bool true])∧RN w' (.slice pa (zlen mea.num) ca) mea.num.natAbs∧RN w' (.slice sa (nlen mea.den) da) mea.den∧RN w' (.slice pb (zlen meb.num) cb) meb.num.natAbs∧RN w' (.slice sb (nlen meb.den) db) meb.den∧RN w' (.slice pc (zlen mec.num) cc) mec.num.natAbs∧RN w' (.slice sc (nlen mec.den) dc) mec.den∧Below W.heap.size W w')(v1:∀ W,Calls Tryz.prog 24 #[.agg #[.string ga,.string gb,.string gc]] W fun e w'=>∃ pa ca sa da pb cb sb db pc cc sc dc,e=.returned (.tuple #[.agg #[.bool (zneg mga.num),.slice pa (zlen mga.num) ca,.slice sa (nlen mga.den) da,.bool (zneg mgb.num),.slice pb (zlen mgb.num) cb,.slice sb (nlen mgb.den) db,.bool (zneg mgc.num),.slice pc (zlen mgc.num) cc,.slice sc (nlen mgc.den) dc],.bool true])∧RN w' (.slice pa (zlen mga.num) ca) mga.num.natAbs∧RN w' (.slice sa (nlen mga.den) da) mga.den∧RN w' (.slice pb (zlen mgb.num) cb) mgb.num.natAbs∧RN w' (.slice sb (nlen mgb.den) db) mgb.den∧RN w' (.slice pc (zlen mgc.num) cc) mgc.num.natAbs∧RN w' (.slice sc (nlen mgc.den) dc) mgc.den∧Below W.heap.size W w')(v2:∀ W,Calls Tryz.prog 24 #[.agg #[.string ja,.string jb,.string jc]] W fun e w'=>∃ pa ca sa da pb cb sb db pc cc sc dc,e=.returned (.tuple #[.agg #[.bool (zneg mja.num),.slice pa (zlen mja.num) ca,.slice sa (nlen mja.den) da,.bool (zneg mjb.num),.slice pb (zlen mjb.num) cb,.slice sb (nlen mjb.den) db,.bool (zneg mjc.num),.slice pc (zlen mjc.num) cc,.slice sc (nlen mjc.den) dc],.bool true])∧RN w' (.slice pa (zlen mja.num) ca) mja.num.natAbs∧RN w' (.slice sa (nlen mja.den) da) mja.den∧RN w' (.slice pb (zlen mjb.num) cb) mjb.num.natAbs∧RN w' (.slice sb (nlen mjb.den) db) mjb.den∧RN w' (.slice pc (zlen mjc.num) cc) mjc.num.natAbs∧RN w' (.slice sc (nlen mjc.den) dc) mjc.den∧Below W.heap.size W w') :
 CV w₀ 5 #[.agg #[.string p,.string q]] (.bool true):=by
 intro w hw
 have C1:=hid (h1.mono hw)
 have CA:=hid (hA.mono hw)
 have CB:=hid (hB.mono hw)
 have CC:=hid (hC.mono hw)
 have CD:=hid (hD.mono hw)
 have CE:=hid (hE.mono hw)
 have CF:=hid (hF.mono hw)
 have HT:=hid (hla.on hw)
 have FA:=hid fa
 clear hla fa
 have V0:=hid v0
 have V1:=hid v1
 have V2:=hid v2
 clear v0 v1 v2 h1 hA hB hC hD hE hF hw
 go_enter Tryz.func5,Tryz.ntmps5
 go_upto_region 1 with fail
 refine wp_boxes w [(#[.string p,.string q],24)] rfl ?_
 rintro W0 ⟨k1,hb⟩
 have HB0:=hid (show Below w.heap.size w W0 from hb)
 have K1:=hid k1
 clear k1 hb
 go_wp2_with fail
 with_reducible refine((att_awake _ (HT.out.on HB0.out)).at).mono ?_
 rintro e W1 ⟨rfl,hb⟩
 have K1:=hid (K1.out.below hb)
 have HB1:=hbt HB0 hb
 clear hb
 have dK10:=K1.out.cell (i:=0) rfl
 have dK11:=K1.out.cell (i:=1) rfl
 go_wp2_with fail
 with_reducible refine((hshA p q true _ FA.out).at).mono ?_
 rintro e W2 ⟨rfl,hb⟩
 clear dK10 dK11
 have K1:=hid (K1.out.below hb)
 have HB2:=hbt HB1 hb
 clear hb
 have dK10:=K1.out.cell (i:=0) rfl
 have dK11:=K1.out.cell (i:=1) rfl
 go_wp2_with fail
 with_reducible refine(C1.out _ HB2.out).mono ?_
 rintro e W3 ⟨rfl,hb⟩
 clear dK10 dK11
 have K1:=hid (K1.out.below hb)
 have HB3:=hbt HB2 hb
 clear hb
 go_upto_region 6 with fail
 refine wp_boxes W3 [(#[.string ea,.string eb,.string ec,.string ga,.string gb,.string gc,.string ja,.string jb,.string jc],31)] rfl ?_
 have L1:=K1.out.lt
 have L2:=HB3.out.size
 rintro W4 ⟨k2,hb⟩
 have hb:Below W3.heap.size W3 W4:=hb
 have K1:=hid (K1.out.below hb)
 have HB4:=hbt HB3 hb
 have K2:=hid k2
 clear k2 hb
 have dK20:=K2.out.cell (i:=0) rfl
 have dK21:=K2.out.cell (i:=1) rfl
 have dK22:=K2.out.cell (i:=2) rfl
 have dK23:=K2.out.cell (i:=3) rfl
 have dK24:=K2.out.cell (i:=4) rfl
 have dK25:=K2.out.cell (i:=5) rfl
 have dK26:=K2.out.cell (i:=6) rfl
 have dK27:=K2.out.cell (i:=7) rfl
 have dK28:=K2.out.cell (i:=8) rfl
 go_wp2
 have hb:=below_new W4 (.cells #[.string ea,.string eb,.string ec,.string ga,.string gb,.string gc,.string ja,.string jb,.string jc] 29)
 have k3:=SBk.new W4 #[.string ea,.string eb,.string ec,.string ga,.string gb,.string gc,.string ja,.string jb,.string jc] 29
 generalize W4.alloc (.cells #[.string ea,.string eb,.string ec,.string ga,.string gb,.string gc,.string ja,.string jb,.string jc] 29)=W5 at *
 have K1:=hid (K1.out.below hb)
 have K2:=hid (K2.out.below hb)
 have HB5:=hbt HB4 hb
 have K3:=hid k3
 clear k3 hb dK20 dK21 dK22 dK23 dK24 dK25 dK26 dK27 dK28
 refine wp_loop_rounds 4 ?_
 rw[rounds_succ]
 have dK30:=K3.out.cell (i:=0) rfl
 have dK31:=K3.out.cell (i:=1) rfl
 have dK32:=K3.out.cell (i:=2) rfl
 go_upto_region 11 with fail
 refine wp_boxes W5 [(#[.string ea,.string eb,.string ec],29)] rfl ?_
 have L3:=K1.out.lt
 have L4:=K2.out.lt
 have L5:=K3.out.lt
 have L6:=HB5.out.size
 rintro W6 ⟨k4,hb⟩
 have hb:Below W5.heap.size W5 W6:=hb
 have K1:=hid (K1.out.below hb)
 have K2:=hid (K2.out.below hb)
 have K3:=hid (K3.out.below hb)
 have HB6:=hbt HB5 hb
 have K4:=hid k4
 clear k4 hb dK30 dK31 dK32
 have dK40:=K4.out.cell (i:=0) rfl
 have dK41:=K4.out.cell (i:=1) rfl
 have dK42:=K4.out.cell (i:=2) rfl
 go_wp2_with fail
 with_reducible refine(V0.out _).mono ?_
 rintro e W7 ⟨paa_4,caa_4,saa_4,daa_4,pba_4,cba_4,sba_4,dba_4,pca_4,cca_4,sca_4,dca_4,rfl,r4_0,r4_1,r4_2,r4_3,r4_4,r4_5,hb⟩
 clear dK40 dK41 dK42
 have K1:=hid (K1.out.below hb)
 have K2:=hid (K2.out.below hb)
 have K3:=hid (K3.out.below hb)
 have K4:=hid (K4.out.below hb)
 have HB7:=hbt HB6 hb
 have RV0a:=hid r4_0
 have TV0a:=hid r4_1
 have RV0b:=hid r4_2
 have TV0b:=hid r4_3
 have RV0c:=hid r4_4
 have TV0c:=hid r4_5
 clear hb r4_0 r4_1 r4_2 r4_3 r4_4 r4_5
 go_upto_region 12 with fail
 refine wp_boxes W7 [(#[.bool (zneg (mea.num)),.slice paa_4 (zlen (mea.num)) caa_4,.slice saa_4 (nlen (mea.den)) daa_4,.bool (zneg (meb.num)),.slice pba_4 (zlen (meb.num)) cba_4,.slice sba_4 (nlen (meb.den)) dba_4,.bool (zneg (mec.num)),.slice pca_4 (zlen (mec.num)) cca_4,.slice sca_4 (nlen (mec.den)) dca_4],55)] rfl ?_
 have L7:=K1.out.lt
 have L8:=K2.out.lt
 have L9:=K3.out.lt
 have L10:=K4.out.lt
 have L11:=HB7.out.size
 rintro W8 ⟨k5,hb⟩
 have hb:Below W7.heap.size W7 W8:=hb
 have K1:=hid (K1.out.below hb)
 have K2:=hid (K2.out.below hb)
 have K3:=hid (K3.out.below hb)
 have K4:=hid (K4.out.below hb)
 have HB8:=hbt HB7 hb
 have K5:=hid k5
 clear k5 hb
 go_wp2
 rw[rounds_succ]
 have dK33:=K3.out.cell (i:=3) rfl
 have dK34:=K3.out.cell (i:=4) rfl
 have dK35:=K3.out.cell (i:=5) rfl
 go_upto_region 11 with fail
 refine wp_boxes W8 [(#[.string ga,.string gb,.string gc],29)] rfl ?_
 have L12:=K1.out.lt
 have L13:=K2.out.lt
 have L14:=K3.out.lt
 have L15:=K4.out.lt
 have L16:=K5.out.lt
 have L17:=HB8.out.size
 rintro W9 ⟨k6,hb⟩
 have hb:Below W8.heap.size W8 W9:=hb
 have K1:=hid (K1.out.below hb)
 have K2:=hid (K2.out.below hb)
 have K3:=hid (K3.out.below hb)
 have K4:=hid (K4.out.below hb)
 have K5:=hid (K5.out.below hb)
 have HB9:=hbt HB8 hb
 have K6:=hid k6
 clear k6 hb dK33 dK34 dK35
 have dK60:=K6.out.cell (i:=0) rfl
 have dK61:=K6.out.cell (i:=1) rfl
 have dK62:=K6.out.cell (i:=2) rfl
 go_wp2_with fail
 with_reducible refine(V1.out _).mono ?_
 rintro e W10 ⟨paa_5,caa_5,saa_5,daa_5,pba_5,cba_5,sba_5,dba_5,pca_5,cca_5,sca_5,dca_5,rfl,r5_0,r5_1,r5_2,r5_3,r5_4,r5_5,hb⟩
 clear dK60 dK61 dK62
 have K1:=hid (K1.out.below hb)
 have K2:=hid (K2.out.below hb)
 have K3:=hid (K3.out.below hb)
 have K4:=hid (K4.out.below hb)
 have K5:=hid (K5.out.below hb)
 have K6:=hid (K6.out.below hb)
 have HB10:=hbt HB9 hb
 have RV1a:=hid r5_0
 have TV1a:=hid r5_1
 have RV1b:=hid r5_2
 have TV1b:=hid r5_3
 have RV1c:=hid r5_4
 have TV1c:=hid r5_5
 clear hb r5_0 r5_1 r5_2 r5_3 r5_4 r5_5
 go_upto_region 12 with fail
 refine wp_boxes W10 [(#[.bool (zneg (mga.num)),.slice paa_5 (zlen (mga.num)) caa_5,.slice saa_5 (nlen (mga.den)) daa_5,.bool (zneg (mgb.num)),.slice pba_5 (zlen (mgb.num)) cba_5,.slice sba_5 (nlen (mgb.den)) dba_5,.bool (zneg (mgc.num)),.slice pca_5 (zlen (mgc.num)) cca_5,.slice sca_5 (nlen (mgc.den)) dca_5],55)] rfl ?_
 have L18:=K1.out.lt
 have L19:=K2.out.lt
 have L20:=K3.out.lt
 have L21:=K4.out.lt
 have L22:=K5.out.lt
 have L23:=K6.out.lt
 have L24:=HB10.out.size
 rintro W11 ⟨k7,hb⟩
 have hb:Below W10.heap.size W10 W11:=hb
 have K1:=hid (K1.out.below hb)
 have K2:=hid (K2.out.below hb)
 have K3:=hid (K3.out.below hb)
 have K4:=hid (K4.out.below hb)
 have K5:=hid (K5.out.below hb)
 have K6:=hid (K6.out.below hb)
 have HB11:=hbt HB10 hb
 have K7:=hid k7
 clear k7 hb
 go_wp2
 rw[rounds_succ]
 have dK36:=K3.out.cell (i:=6) rfl
 have dK37:=K3.out.cell (i:=7) rfl
 have dK38:=K3.out.cell (i:=8) rfl
 go_upto_region 11 with fail
 refine wp_boxes W11 [(#[.string ja,.string jb,.string jc],29)] rfl ?_
 have L25:=K1.out.lt
 have L26:=K2.out.lt
 have L27:=K3.out.lt
 have L28:=K4.out.lt
 have L29:=K5.out.lt
 have L30:=K6.out.lt
 have L31:=K7.out.lt
 have L32:=HB11.out.size
 rintro W12 ⟨k8,hb⟩
 have hb:Below W11.heap.size W11 W12:=hb
 have K1:=hid (K1.out.below hb)
 have K2:=hid (K2.out.below hb)
 have K3:=hid (K3.out.below hb)
 have K4:=hid (K4.out.below hb)
 have K5:=hid (K5.out.below hb)
 have K6:=hid (K6.out.below hb)
 have K7:=hid (K7.out.below hb)
 have HB12:=hbt HB11 hb
 have K8:=hid k8
 clear k8 hb dK36 dK37 dK38
 have dK80:=K8.out.cell (i:=0) rfl
 have dK81:=K8.out.cell (i:=1) rfl
 have dK82:=K8.out.cell (i:=2) rfl
 go_wp2_with fail
 with_reducible refine(V2.out _).mono ?_
 rintro e W13 ⟨paa_6,caa_6,saa_6,daa_6,pba_6,cba_6,sba_6,dba_6,pca_6,cca_6,sca_6,dca_6,rfl,r6_0,r6_1,r6_2,r6_3,r6_4,r6_5,hb⟩
 clear dK80 dK81 dK82
 have K1:=hid (K1.out.below hb)
 have K2:=hid (K2.out.below hb)
 have K3:=hid (K3.out.below hb)
 have K4:=hid (K4.out.below hb)
 have K5:=hid (K5.out.below hb)
 have K6:=hid (K6.out.below hb)
 have K7:=hid (K7.out.below hb)
 have K8:=hid (K8.out.below hb)
 have HB13:=hbt HB12 hb
 have RV2a:=hid r6_0
 have TV2a:=hid r6_1
 have RV2b:=hid r6_2
 have TV2b:=hid r6_3
 have RV2c:=hid r6_4
 have TV2c:=hid r6_5
 clear hb r6_0 r6_1 r6_2 r6_3 r6_4 r6_5
 go_upto_region 12 with fail
 refine wp_boxes W13 [(#[.bool (zneg (mja.num)),.slice paa_6 (zlen (mja.num)) caa_6,.slice saa_6 (nlen (mja.den)) daa_6,.bool (zneg (mjb.num)),.slice pba_6 (zlen (mjb.num)) cba_6,.slice sba_6 (nlen (mjb.den)) dba_6,.bool (zneg (mjc.num)),.slice pca_6 (zlen (mjc.num)) cca_6,.slice sca_6 (nlen (mjc.den)) dca_6],55)] rfl ?_
 have L33:=K1.out.lt
 have L34:=K2.out.lt
 have L35:=K3.out.lt
 have L36:=K4.out.lt
 have L37:=K5.out.lt
 have L38:=K6.out.lt
 have L39:=K7.out.lt
 have L40:=K8.out.lt
 have L41:=HB13.out.size
 rintro W14 ⟨k9,hb⟩
 have hb:Below W13.heap.size W13 W14:=hb
 have K2:=hid (K2.out.below hb)
 have HB14:=hbt HB13 hb
 have K9:=hid k9
 clear k9 hb
 go_wp2
 rw[rounds_succ]
 have dK20:=K2.out.cell (i:=0) rfl
 have dK21:=K2.out.cell (i:=1) rfl
 have dK22:=K2.out.cell (i:=2) rfl
 go_wp2_with fail
 with_reducible refine(CA.out _ HB14.out).mono ?_
 rintro e W15 ⟨rfl,hb⟩
 clear dK20 dK21 dK22
 have K2:=hid (K2.out.below hb)
 have HB15:=hbt HB14 hb
 clear hb
 have dK23:=K2.out.cell (i:=3) rfl
 have dK24:=K2.out.cell (i:=4) rfl
 have dK25:=K2.out.cell (i:=5) rfl
 go_wp2_with fail
 with_reducible refine(CB.out _ HB15.out).mono ?_
 rintro e W16 ⟨rfl,hb⟩
 clear dK23 dK24 dK25
 have K2:=hid (K2.out.below hb)
 have HB16:=hbt HB15 hb
 clear hb
 have dK26:=K2.out.cell (i:=6) rfl
 have dK27:=K2.out.cell (i:=7) rfl
 have dK28:=K2.out.cell (i:=8) rfl
 go_wp2_with fail
 with_reducible refine(CC.out _ HB16.out).mono ?_
 rintro e W17 ⟨rfl,hb⟩
 clear dK26 dK27 dK28
 have K2:=hid (K2.out.below hb)
 have HB17:=hbt HB16 hb
 clear hb
 have dK20:=K2.out.cell (i:=0) rfl
 have dK21:=K2.out.cell (i:=1) rfl
 have dK22:=K2.out.cell (i:=2) rfl
 have dK23:=K2.out.cell (i:=3) rfl
 have dK24:=K2.out.cell (i:=4) rfl
 have dK25:=K2.out.cell (i:=5) rfl
 go_wp2_with fail
 with_reducible refine(CD.out _ HB17.out).mono ?_
 rintro e W18 ⟨rfl,hb⟩
 clear dK20 dK21 dK22 dK23 dK24 dK25
 have K2:=hid (K2.out.below hb)
 have HB18:=hbt HB17 hb
 clear hb
 have dK23:=K2.out.cell (i:=3) rfl
 have dK24:=K2.out.cell (i:=4) rfl
 have dK25:=K2.out.cell (i:=5) rfl
 have dK26:=K2.out.cell (i:=6) rfl
 have dK27:=K2.out.cell (i:=7) rfl
 have dK28:=K2.out.cell (i:=8) rfl
 go_wp2_with fail
 with_reducible refine(CE.out _ HB18.out).mono ?_
 rintro e W19 ⟨rfl,hb⟩
 clear dK23 dK24 dK25 dK26 dK27 dK28
 have K2:=hid (K2.out.below hb)
 have HB19:=hbt HB18 hb
 clear hb
 have dK26:=K2.out.cell (i:=6) rfl
 have dK27:=K2.out.cell (i:=7) rfl
 have dK28:=K2.out.cell (i:=8) rfl
 have dK20:=K2.out.cell (i:=0) rfl
 have dK21:=K2.out.cell (i:=1) rfl
 have dK22:=K2.out.cell (i:=2) rfl
 go_wp2_with fail
 with_reducible refine(CF.out _ HB19.out).mono ?_
 rintro e W20 ⟨rfl,hb⟩
 clear dK26 dK27 dK28 dK20 dK21 dK22
 have HB20:=hbt HB19 hb
 clear hb
 go_wp2
 exact bodyPost_ret (v:=.bool true) (by simp[results,Tryz.results5,go_sem]) rfl ⟨rfl,HB20.out⟩
end Go.Proofs.YthjmjlfnpnbonaaGreatDoor
