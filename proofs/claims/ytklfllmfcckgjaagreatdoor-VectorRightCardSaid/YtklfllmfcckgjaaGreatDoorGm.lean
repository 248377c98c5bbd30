/- garboardlaw11.VectorRight, VectorLinear return true: walks. -/
import Derived.Test.YtklfllmfcckgjaaGreatDoorGk
import Derived.Test.YtklfllmfcckgjaaGreatDoorGl
set_option maxRecDepth 100000
set_option maxHeartbeats 20000000
open Go.Lib (hid)
namespace Go.Proofs.YtklfllmfcckgjaaGreatDoor
open Go.RowKit Go.Gb
theorem tx_three {k:Nat}{x y z:ByteArray}{o1 o2 o3:Option Rat}(h1:Tx k x o1)(h2:Tx k y o2)(h3:Tx k z o3)(h:(o1.isSome&&(o2.isSome&&o3.isSome))=true):(∃ q,x=Sq q∧SmQ k q)∧(∃ q,y=Sq q∧SmQ k q)∧(∃ q,z=Sq q∧SmQ k q):=by
 have e:∀ {s:ByteArray} {o:Option Rat},Tx k s o→o.isSome=true→∃ q,s=Sq q∧SmQ k q:=by
  rintro s o (⟨q,rfl,rfl,hq⟩|⟨rfl,_⟩) h
  · exact⟨q,rfl,hq⟩
  · cases h
 rw[Bool.and_eq_true,Bool.and_eq_true]at h
 exact⟨e h1 h.1,e h2 h.2.1,e h3 h.2.2⟩
theorem few_plain (sl:Value)(b:Bool)(w:World)(h:CV w 28 #[sl] (.bool b)):CV w 8 #[.agg #[.string ⟨#[]⟩,.string ⟨#[]⟩,.string ⟨#[]⟩,.string ⟨#[]⟩],.string ⟨#[]⟩,sl] (.bool b) :=
 lfew _ _ _ _ _ sl b b w h (by rw[show decide ((⟨#[]⟩:ByteArray).size≤20∧(⟨#[]⟩:ByteArray).size≤20∧(⟨#[]⟩:ByteArray).size≤20∧(⟨#[]⟩:ByteArray).size≤20∧(⟨#[]⟩:ByteArray).size≤20)=true from by decide];rfl)
theorem few_num (x:ByteArray)(sl:Value)(b c:Bool)(w:World)(h:CV w 28 #[sl] (.bool b))(hc:(decide (x.size≤20)&&b)=c):CV w 8 #[.agg #[.string ⟨#[]⟩,.string ⟨#[]⟩,.string ⟨#[]⟩,.string ⟨#[]⟩],.string x,sl] (.bool c) :=
 lfew _ _ _ _ _ sl b c w h (by
  rw[← hc]
  by_cases hx:x.size≤20
  · rw[decide_eq_true hx,show decide ((⟨#[]⟩:ByteArray).size≤20∧x.size≤20∧(⟨#[]⟩:ByteArray).size≤20∧(⟨#[]⟩:ByteArray).size≤20∧(⟨#[]⟩:ByteArray).size≤20)=true from decide_eq_true ⟨by decide,hx,by decide,by decide,by decide⟩]
  · rw[decide_eq_false hx,decide_eq_false (fun h=>hx h.2.1)])
theorem vnScale_neg {a1 a2 a3 c1 c2 c3:Rat}(h1:a1*(-1)=c1)(h2:a2*(-1)=c2)(h3:a3*(-1)=c3){k:Nat}(p1:SmQ k a1)(p2:SmQ k a2)(p3:SmQ k a3)(hk:k≤900)(w:World)(hla:La w):CV w 11 #[.agg #[.string (Sq a1),.string (Sq a2),.string (Sq a3)],.string ⟨#[45,49]⟩] (.tuple #[.agg #[.string (Sq c1),.string (Sq c2),.string (Sq c3)],.int .i64 0]):=by
 have h:=vnScale h1 h2 h3 p1 p2 p3 (show SmQ 20 (-1) from sm20 (by decide +kernel) (by decide +kernel)) hk (by decide) w hla
 rwa [gq_n1]at h
theorem vnDot0 {a1 a2 a3 b1 b2 b3:Rat}(h:a1*b1+a2*b2+a3*b3=0){k l:Nat}(p1:SmQ k a1)(p2:SmQ k a2)(p3:SmQ k a3)(q1:SmQ l b1)(q2:SmQ l b2)(q3:SmQ l b3)(hk:k+l≤900)(hf:FitQ (a1*b1+a2*b2))(w:World)(hla:La w):CV w 12 #[.agg #[.string (Sq a1),.string (Sq a2),.string (Sq a3)],.agg #[.string (Sq b1),.string (Sq b2),.string (Sq b3)]] (.tuple #[.string ⟨#[48]⟩,.int .i64 0]):=by
 have h:=vnDot h p1 p2 p3 q1 q2 q3 hk hf w hla
 rwa [gq_0]at h
theorem qAdd0 (x y:Rat)(h:x+y=0)(hx:FitQ x)(hy:FitQ y)(w:World)(hla:La w):CR 18 #[.string (Sq x),.string (Sq y)] w (.tuple #[.string ⟨#[48]⟩,.int .i64 0]):=by
 have h:=qAdd x y 0 h hx hy w hla
 rwa [gq_0]at h
theorem vright_long (x1 x2 x3 y1 y2 y3:ByteArray)(w₀:World)  (hla:La w₀)(fw:decide (x1.size≤20∧x2.size≤20∧x3.size≤20∧y1.size≤20∧y2.size≤20∧y3.size≤20)=false) :
 CV w₀ 3 #[.agg #[.string x1,.string x2,.string x3],.agg #[.string y1,.string y2,.string y3]] (.bool true):=by
 intro w hw
 have HT:=hid (hla.on hw)
 have FW:=hid fw
 clear hla fw hw
 go_enter Tryz.func3,Tryz.ntmps3
 go_upto_region 1 with fail
 refine wp_boxes w [(#[.string x1,.string x2,.string x3],24),(#[.string y1,.string y2,.string y3],24)] rfl ?_
 rintro W0 ⟨k1,k2,hb⟩
 have HB0:=hid (show Below w.heap.size w W0 from hb)
 have K1:=hid k1
 have K2:=hid k2
 clear k1 k2 hb
 go_wp2_with fail
 with_reducible refine((vec_awake _ (HT.out.on HB0.out)).at).mono ?_
 rintro e W1 ⟨rfl,hb⟩
 have K1:=hid (K1.out.below hb)
 have K2:=hid (K2.out.below hb)
 have HB1:=hbt HB0 hb
 clear hb
 have dK10:=K1.out.cell (i:=0) rfl
 have dK11:=K1.out.cell (i:=1) rfl
 have dK12:=K1.out.cell (i:=2) rfl
 have dK20:=K2.out.cell (i:=0) rfl
 have dK21:=K2.out.cell (i:=1) rfl
 have dK22:=K2.out.cell (i:=2) rfl
 go_wp2_with fail
 have hb:=below_new W1 (.cells #[.string x1,.string x2,.string x3,.string y1,.string y2,.string y3] 24)
 have k3:=SBk.new W1 #[.string x1,.string x2,.string x3,.string y1,.string y2,.string y3] 24
 generalize W1.alloc (.cells #[.string x1,.string x2,.string x3,.string y1,.string y2,.string y3] 24)=W2 at *
 have HB2:=hbt HB1 hb
 have K3:=hid k3
 clear k3 hb
 with_reducible refine((few_plain _ _ _ (few_list2 _ x1 x2 x3 y1 y2 y3 false FW.out _ K3.out)).at).mono ?_
 rintro e W3 ⟨rfl,hb⟩
 clear dK10 dK11 dK12 dK20 dK21 dK22
 have HB3:=hbt HB2 hb
 clear hb
 go_wp2_with fail
 with_reducible refine((vec_awake _ (HT.out.on HB3.out)).at).mono ?_
 rintro e W4 ⟨rfl,hb⟩
 have HB4:=hbt HB3 hb
 clear hb
 go_wp2
 exact bodyPost_ret (v:=.bool true) (by simp[results,Tryz.results3,go_sem]) rfl ⟨rfl,HB4.out⟩
theorem vright_no1 (x1 x2 x3 y1 y2 y3:ByteArray)(w₀:World)(h1:CV w₀ 9 #[.agg #[.string x1,.string x2,.string x3]] (.bool false))(hla:La w₀)(fw:decide (x1.size≤20∧x2.size≤20∧x3.size≤20∧y1.size≤20∧y2.size≤20∧y3.size≤20)=true) :
 CV w₀ 3 #[.agg #[.string x1,.string x2,.string x3],.agg #[.string y1,.string y2,.string y3]] (.bool true):=by
 intro w hw
 have C1:=hid (h1.mono hw)
 have HT:=hid (hla.on hw)
 have FW:=hid fw
 clear hla fw h1 hw
 go_enter Tryz.func3,Tryz.ntmps3
 go_upto_region 1 with fail
 refine wp_boxes w [(#[.string x1,.string x2,.string x3],24),(#[.string y1,.string y2,.string y3],24)] rfl ?_
 rintro W0 ⟨k1,k2,hb⟩
 have HB0:=hid (show Below w.heap.size w W0 from hb)
 have K1:=hid k1
 have K2:=hid k2
 clear k1 k2 hb
 go_wp2_with fail
 with_reducible refine((vec_awake _ (HT.out.on HB0.out)).at).mono ?_
 rintro e W1 ⟨rfl,hb⟩
 have K1:=hid (K1.out.below hb)
 have K2:=hid (K2.out.below hb)
 have HB1:=hbt HB0 hb
 clear hb
 have dK10:=K1.out.cell (i:=0) rfl
 have dK11:=K1.out.cell (i:=1) rfl
 have dK12:=K1.out.cell (i:=2) rfl
 have dK20:=K2.out.cell (i:=0) rfl
 have dK21:=K2.out.cell (i:=1) rfl
 have dK22:=K2.out.cell (i:=2) rfl
 go_wp2_with fail
 have hb:=below_new W1 (.cells #[.string x1,.string x2,.string x3,.string y1,.string y2,.string y3] 24)
 have k3:=SBk.new W1 #[.string x1,.string x2,.string x3,.string y1,.string y2,.string y3] 24
 generalize W1.alloc (.cells #[.string x1,.string x2,.string x3,.string y1,.string y2,.string y3] 24)=W2 at *
 have K1:=hid (K1.out.below hb)
 have HB2:=hbt HB1 hb
 have K3:=hid k3
 clear k3 hb
 with_reducible refine((few_plain _ _ _ (few_list2 _ x1 x2 x3 y1 y2 y3 true FW.out _ K3.out)).at).mono ?_
 rintro e W3 ⟨rfl,hb⟩
 clear dK10 dK11 dK12 dK20 dK21 dK22
 have K1:=hid (K1.out.below hb)
 have HB3:=hbt HB2 hb
 clear hb
 have dK10:=K1.out.cell (i:=0) rfl
 have dK11:=K1.out.cell (i:=1) rfl
 have dK12:=K1.out.cell (i:=2) rfl
 go_wp2_with fail
 with_reducible refine(C1.out _ HB3.out).mono ?_
 rintro e W4 ⟨rfl,hb⟩
 clear dK10 dK11 dK12
 have HB4:=hbt HB3 hb
 clear hb
 go_wp2_with fail
 with_reducible refine((vec_awake _ (HT.out.on HB4.out)).at).mono ?_
 rintro e W5 ⟨rfl,hb⟩
 have HB5:=hbt HB4 hb
 clear hb
 go_wp2
 exact bodyPost_ret (v:=.bool true) (by simp[results,Tryz.results3,go_sem]) rfl ⟨rfl,HB5.out⟩
theorem vright_no2 (x1 x2 x3 y1 y2 y3:ByteArray)(w₀:World)(h1:CV w₀ 9 #[.agg #[.string x1,.string x2,.string x3]] (.bool true))(h2:CV w₀ 9 #[.agg #[.string y1,.string y2,.string y3]] (.bool false))(hla:La w₀)(fw:decide (x1.size≤20∧x2.size≤20∧x3.size≤20∧y1.size≤20∧y2.size≤20∧y3.size≤20)=true) :
 CV w₀ 3 #[.agg #[.string x1,.string x2,.string x3],.agg #[.string y1,.string y2,.string y3]] (.bool true):=by
 intro w hw
 have C1:=hid (h1.mono hw)
 have C2:=hid (h2.mono hw)
 have HT:=hid (hla.on hw)
 have FW:=hid fw
 clear hla fw h1 h2 hw
 go_enter Tryz.func3,Tryz.ntmps3
 go_upto_region 1 with fail
 refine wp_boxes w [(#[.string x1,.string x2,.string x3],24),(#[.string y1,.string y2,.string y3],24)] rfl ?_
 rintro W0 ⟨k1,k2,hb⟩
 have HB0:=hid (show Below w.heap.size w W0 from hb)
 have K1:=hid k1
 have K2:=hid k2
 clear k1 k2 hb
 go_wp2_with fail
 with_reducible refine((vec_awake _ (HT.out.on HB0.out)).at).mono ?_
 rintro e W1 ⟨rfl,hb⟩
 have K1:=hid (K1.out.below hb)
 have K2:=hid (K2.out.below hb)
 have HB1:=hbt HB0 hb
 clear hb
 have dK10:=K1.out.cell (i:=0) rfl
 have dK11:=K1.out.cell (i:=1) rfl
 have dK12:=K1.out.cell (i:=2) rfl
 have dK20:=K2.out.cell (i:=0) rfl
 have dK21:=K2.out.cell (i:=1) rfl
 have dK22:=K2.out.cell (i:=2) rfl
 go_wp2_with fail
 have hb:=below_new W1 (.cells #[.string x1,.string x2,.string x3,.string y1,.string y2,.string y3] 24)
 have k3:=SBk.new W1 #[.string x1,.string x2,.string x3,.string y1,.string y2,.string y3] 24
 generalize W1.alloc (.cells #[.string x1,.string x2,.string x3,.string y1,.string y2,.string y3] 24)=W2 at *
 have K1:=hid (K1.out.below hb)
 have K2:=hid (K2.out.below hb)
 have HB2:=hbt HB1 hb
 have K3:=hid k3
 clear k3 hb
 with_reducible refine((few_plain _ _ _ (few_list2 _ x1 x2 x3 y1 y2 y3 true FW.out _ K3.out)).at).mono ?_
 rintro e W3 ⟨rfl,hb⟩
 clear dK10 dK11 dK12 dK20 dK21 dK22
 have K1:=hid (K1.out.below hb)
 have K2:=hid (K2.out.below hb)
 have HB3:=hbt HB2 hb
 clear hb
 have dK10:=K1.out.cell (i:=0) rfl
 have dK11:=K1.out.cell (i:=1) rfl
 have dK12:=K1.out.cell (i:=2) rfl
 go_wp2_with fail
 with_reducible refine(C1.out _ HB3.out).mono ?_
 rintro e W4 ⟨rfl,hb⟩
 clear dK10 dK11 dK12
 have K2:=hid (K2.out.below hb)
 have HB4:=hbt HB3 hb
 clear hb
 have dK20:=K2.out.cell (i:=0) rfl
 have dK21:=K2.out.cell (i:=1) rfl
 have dK22:=K2.out.cell (i:=2) rfl
 go_wp2_with fail
 with_reducible refine(C2.out _ HB4.out).mono ?_
 rintro e W5 ⟨rfl,hb⟩
 clear dK20 dK21 dK22
 have HB5:=hbt HB4 hb
 clear hb
 go_wp2_with fail
 with_reducible refine((vec_awake _ (HT.out.on HB5.out)).at).mono ?_
 rintro e W6 ⟨rfl,hb⟩
 have HB6:=hbt HB5 hb
 clear hb
 go_wp2
 exact bodyPost_ret (v:=.bool true) (by simp[results,Tryz.results3,go_sem]) rfl ⟨rfl,HB6.out⟩
theorem vright_yes (a1 a2 a3 b1 b2 b3:Rat)(pa1:SmQ 20 a1)(pa2:SmQ 20 a2)(pa3:SmQ 20 a3)(pb1:SmQ 20 b1)(pb2:SmQ 20 b2)(pb3:SmQ 20 b3)(w₀:World)  (hla:La w₀)(fw:decide ((Sq a1).size≤20∧(Sq a2).size≤20∧(Sq a3).size≤20∧(Sq b1).size≤20∧(Sq b2).size≤20∧(Sq b3).size≤20)=true) :
 CV w₀ 3 #[.agg #[.string (Sq a1),.string (Sq a2),.string (Sq a3)],.agg #[.string (Sq b1),.string (Sq b2),.string (Sq b3)]] (.bool true):=by
 intro w hw
 have HT:=hid (hla.on hw)
 have FW:=hid fw
 obtain⟨c1,hc1⟩:∃ z,a2*b3-a3*b2=z:=⟨_,rfl⟩
 have pc1:SmQ 81 c1:=hc1▸((pa2.mul pb3).sub (pa3.mul pb2))
 obtain⟨c2,hc2⟩:∃ z,a3*b1-a1*b3=z:=⟨_,rfl⟩
 have pc2:SmQ 81 c2:=hc2▸((pa3.mul pb1).sub (pa1.mul pb3))
 obtain⟨c3,hc3⟩:∃ z,a1*b2-a2*b1=z:=⟨_,rfl⟩
 have pc3:SmQ 81 c3:=hc3▸((pa1.mul pb2).sub (pa2.mul pb1))
 obtain⟨d1,hd1⟩:∃ z,b2*a3-b3*a2=z:=⟨_,rfl⟩
 have pd1:SmQ 81 d1:=hd1▸((pb2.mul pa3).sub (pb3.mul pa2))
 obtain⟨d2,hd2⟩:∃ z,b3*a1-b1*a3=z:=⟨_,rfl⟩
 have pd2:SmQ 81 d2:=hd2▸((pb3.mul pa1).sub (pb1.mul pa3))
 obtain⟨d3,hd3⟩:∃ z,b1*a2-b2*a1=z:=⟨_,rfl⟩
 have pd3:SmQ 81 d3:=hd3▸((pb1.mul pa2).sub (pb2.mul pa1))
 have EM1:=hid (show d1*(-1)=c1 from by rw[← hd1,← hc1];grind)
 have EM2:=hid (show d2*(-1)=c2 from by rw[← hd2,← hc2];grind)
 have EM3:=hid (show d3*(-1)=c3 from by rw[← hd3,← hc3];grind)
 have EX:=hid (show a1*c1+a2*c2+a3*c3=0 from by rw[← hc1,← hc2,← hc3];grind)
 have EY:=hid (show b1*c1+b2*c2+b3*c3=0 from by rw[← hc1,← hc2,← hc3];grind)
 obtain⟨saa,hsaa⟩:∃ z,a1*a1+a2*a2+a3*a3=z:=⟨_,rfl⟩
 have psaa:SmQ 122 saa:=hsaa▸(((pa1.mul pa1).add (pa2.mul pa2)).add (pa3.mul pa3))
 obtain⟨sbb,hsbb⟩:∃ z,b1*b1+b2*b2+b3*b3=z:=⟨_,rfl⟩
 have psbb:SmQ 122 sbb:=hsbb▸(((pb1.mul pb1).add (pb2.mul pb2)).add (pb3.mul pb3))
 obtain⟨sab,hsab⟩:∃ z,a1*b1+a2*b2+a3*b3=z:=⟨_,rfl⟩
 have psab:SmQ 122 sab:=hsab▸(((pa1.mul pb1).add (pa2.mul pb2)).add (pa3.mul pb3))
 obtain⟨scc,hscc⟩:∃ z,c1*c1+c2*c2+c3*c3=z:=⟨_,rfl⟩
 obtain⟨sp,hsp⟩:∃ z,saa*sbb=z:=⟨_,rfl⟩
 have psp:SmQ 244 sp:=hsp▸(psaa.mul psbb)
 obtain⟨ss,hss⟩:∃ z,sab*sab=z:=⟨_,rfl⟩
 have pss:SmQ 244 ss:=hss▸(psab.mul psab)
 have EC:=hid (show sp-ss=scc from by rw[← hsp,← hss,← hscc,← hsaa,← hsbb,← hsab,← hc1,← hc2,← hc3];grind)
 have Pa1':=hid pa1
 have Pa2':=hid pa2
 have Pa3':=hid pa3
 have Pb1':=hid pb1
 have Pb2':=hid pb2
 have Pb3':=hid pb3
 have Hc1':=hid hc1
 have Pc1':=hid pc1
 have Hc2':=hid hc2
 have Pc2':=hid pc2
 have Hc3':=hid hc3
 have Pc3':=hid pc3
 have Hd1':=hid hd1
 have Pd1':=hid pd1
 have Hd2':=hid hd2
 have Pd2':=hid pd2
 have Hd3':=hid hd3
 have Pd3':=hid pd3
 have Hsaa':=hid hsaa
 have Psaa':=hid psaa
 have Hsbb':=hid hsbb
 have Psbb':=hid psbb
 have Hsab':=hid hsab
 have Psab':=hid psab
 have Hscc':=hid hscc
 have Hsp':=hid hsp
 have Psp':=hid psp
 have Hss':=hid hss
 have Pss':=hid pss
 clear pss hss psp hsp hscc psab hsab psbb hsbb psaa hsaa pd3 hd3 pd2 hd2 pd1 hd1 pc3 hc3 pc2 hc2 pc1 hc1 fw pb3 pb2 pb1 pa3 pa2 pa1 hla hw
 go_enter Tryz.func3,Tryz.ntmps3
 go_upto_region 1 with fail
 refine wp_boxes w [(#[.string (Sq a1),.string (Sq a2),.string (Sq a3)],24),(#[.string (Sq b1),.string (Sq b2),.string (Sq b3)],24)] rfl ?_
 rintro W0 ⟨k1,k2,hb⟩
 have HB0:=hid (show Below w.heap.size w W0 from hb)
 have K1:=hid k1
 have K2:=hid k2
 clear k1 k2 hb
 go_wp2_with fail
 with_reducible refine((vec_awake _ (HT.out.on HB0.out)).at).mono ?_
 rintro e W1 ⟨rfl,hb⟩
 have K1:=hid (K1.out.below hb)
 have K2:=hid (K2.out.below hb)
 have HB1:=hbt HB0 hb
 clear hb
 have dK10:=K1.out.cell (i:=0) rfl
 have dK11:=K1.out.cell (i:=1) rfl
 have dK12:=K1.out.cell (i:=2) rfl
 have dK20:=K2.out.cell (i:=0) rfl
 have dK21:=K2.out.cell (i:=1) rfl
 have dK22:=K2.out.cell (i:=2) rfl
 go_wp2_with fail
 have hb:=below_new W1 (.cells #[.string (Sq a1),.string (Sq a2),.string (Sq a3),.string (Sq b1),.string (Sq b2),.string (Sq b3)] 24)
 have k3:=SBk.new W1 #[.string (Sq a1),.string (Sq a2),.string (Sq a3),.string (Sq b1),.string (Sq b2),.string (Sq b3)] 24
 generalize W1.alloc (.cells #[.string (Sq a1),.string (Sq a2),.string (Sq a3),.string (Sq b1),.string (Sq b2),.string (Sq b3)] 24)=W2 at *
 have K1:=hid (K1.out.below hb)
 have K2:=hid (K2.out.below hb)
 have HB2:=hbt HB1 hb
 have K3:=hid k3
 clear k3 hb
 with_reducible refine((few_plain _ _ _ (few_list2 _ (Sq a1) (Sq a2) (Sq a3) (Sq b1) (Sq b2) (Sq b3) true FW.out _ K3.out)).at).mono ?_
 rintro e W3 ⟨rfl,hb⟩
 clear dK10 dK11 dK12 dK20 dK21 dK22
 have K1:=hid (K1.out.below hb)
 have K2:=hid (K2.out.below hb)
 have K3:=hid (K3.out.below hb)
 have HB3:=hbt HB2 hb
 clear hb
 have dK10:=K1.out.cell (i:=0) rfl
 have dK11:=K1.out.cell (i:=1) rfl
 have dK12:=K1.out.cell (i:=2) rfl
 go_wp2_with fail
 with_reducible refine((vnValid (Pa1'.out.fit (by decide)) (Pa2'.out.fit (by decide)) (Pa3'.out.fit (by decide)) _ (HT.out.on HB3.out)).at).mono ?_
 rintro e W4 ⟨rfl,hb⟩
 clear dK10 dK11 dK12
 have K1:=hid (K1.out.below hb)
 have K2:=hid (K2.out.below hb)
 have K3:=hid (K3.out.below hb)
 have HB4:=hbt HB3 hb
 clear hb
 have dK20:=K2.out.cell (i:=0) rfl
 have dK21:=K2.out.cell (i:=1) rfl
 have dK22:=K2.out.cell (i:=2) rfl
 go_wp2_with fail
 with_reducible refine((vnValid (Pb1'.out.fit (by decide)) (Pb2'.out.fit (by decide)) (Pb3'.out.fit (by decide)) _ (HT.out.on HB4.out)).at).mono ?_
 rintro e W5 ⟨rfl,hb⟩
 clear dK20 dK21 dK22
 have K1:=hid (K1.out.below hb)
 have K2:=hid (K2.out.below hb)
 have K3:=hid (K3.out.below hb)
 have HB5:=hbt HB4 hb
 clear hb
 have dK10:=K1.out.cell (i:=0) rfl
 have dK11:=K1.out.cell (i:=1) rfl
 have dK12:=K1.out.cell (i:=2) rfl
 have dK20:=K2.out.cell (i:=0) rfl
 have dK21:=K2.out.cell (i:=1) rfl
 have dK22:=K2.out.cell (i:=2) rfl
 go_wp2_with fail
 with_reducible refine((vnCross Hc1'.out Hc2'.out Hc3'.out Pa1'.out Pa2'.out Pa3'.out Pb1'.out Pb2'.out Pb3'.out (by decide) _ (HT.out.on HB5.out)).at).mono ?_
 rintro e W6 ⟨rfl,hb⟩
 clear dK10 dK11 dK12 dK20 dK21 dK22
 have K1:=hid (K1.out.below hb)
 have K2:=hid (K2.out.below hb)
 have K3:=hid (K3.out.below hb)
 have HB6:=hbt HB5 hb
 clear hb
 go_upto_region 4 with fail
 refine wp_boxes W6 [(#[.string (Sq c1),.string (Sq c2),.string (Sq c3)],24)] rfl ?_
 have L1:=K1.out.lt
 have L2:=K2.out.lt
 have L3:=K3.out.lt
 have L4:=HB6.out.size
 rintro W7 ⟨k4,hb⟩
 have hb:Below W6.heap.size W6 W7:=hb
 have K1:=hid (K1.out.below hb)
 have K2:=hid (K2.out.below hb)
 have K3:=hid (K3.out.below hb)
 have HB7:=hbt HB6 hb
 have K4:=hid k4
 clear k4 hb
 have dK20:=K2.out.cell (i:=0) rfl
 have dK21:=K2.out.cell (i:=1) rfl
 have dK22:=K2.out.cell (i:=2) rfl
 have dK10:=K1.out.cell (i:=0) rfl
 have dK11:=K1.out.cell (i:=1) rfl
 have dK12:=K1.out.cell (i:=2) rfl
 go_wp2_with fail
 with_reducible refine((vnCross Hd1'.out Hd2'.out Hd3'.out Pb1'.out Pb2'.out Pb3'.out Pa1'.out Pa2'.out Pa3'.out (by decide) _ (HT.out.on HB7.out)).at).mono ?_
 rintro e W8 ⟨rfl,hb⟩
 clear dK20 dK21 dK22 dK10 dK11 dK12
 have K1:=hid (K1.out.below hb)
 have K2:=hid (K2.out.below hb)
 have K3:=hid (K3.out.below hb)
 have K4:=hid (K4.out.below hb)
 have HB8:=hbt HB7 hb
 clear hb
 go_upto_region 5 with fail
 refine wp_boxes W8 [(#[.string (Sq d1),.string (Sq d2),.string (Sq d3)],24)] rfl ?_
 have L5:=K1.out.lt
 have L6:=K2.out.lt
 have L7:=K3.out.lt
 have L8:=K4.out.lt
 have L9:=HB8.out.size
 rintro W9 ⟨k5,hb⟩
 have hb:Below W8.heap.size W8 W9:=hb
 have K1:=hid (K1.out.below hb)
 have K2:=hid (K2.out.below hb)
 have K3:=hid (K3.out.below hb)
 have K4:=hid (K4.out.below hb)
 have HB9:=hbt HB8 hb
 have K5:=hid k5
 clear k5 hb
 have dK50:=K5.out.cell (i:=0) rfl
 have dK51:=K5.out.cell (i:=1) rfl
 have dK52:=K5.out.cell (i:=2) rfl
 go_wp2_with fail
 with_reducible refine((vnScale_neg EM1.out EM2.out EM3.out Pd1'.out Pd2'.out Pd3'.out (by decide) _ (HT.out.on HB9.out)).at).mono ?_
 rintro e W10 ⟨rfl,hb⟩
 clear dK50 dK51 dK52
 have K1:=hid (K1.out.below hb)
 have K2:=hid (K2.out.below hb)
 have K3:=hid (K3.out.below hb)
 have K4:=hid (K4.out.below hb)
 have K5:=hid (K5.out.below hb)
 have HB10:=hbt HB9 hb
 clear hb
 go_upto_region 6 with fail
 refine wp_boxes W10 [(#[.string (Sq c1),.string (Sq c2),.string (Sq c3)],24)] rfl ?_
 have L10:=K1.out.lt
 have L11:=K2.out.lt
 have L12:=K3.out.lt
 have L13:=K4.out.lt
 have L14:=K5.out.lt
 have L15:=HB10.out.size
 rintro W11 ⟨k6,hb⟩
 have hb:Below W10.heap.size W10 W11:=hb
 have K1:=hid (K1.out.below hb)
 have K2:=hid (K2.out.below hb)
 have K4:=hid (K4.out.below hb)
 have HB11:=hbt HB10 hb
 have K6:=hid k6
 clear k6 hb
 have dK10:=K1.out.cell (i:=0) rfl
 have dK11:=K1.out.cell (i:=1) rfl
 have dK12:=K1.out.cell (i:=2) rfl
 have dK40:=K4.out.cell (i:=0) rfl
 have dK41:=K4.out.cell (i:=1) rfl
 have dK42:=K4.out.cell (i:=2) rfl
 go_wp2_with fail
 with_reducible refine((vnDot0 EX.out Pa1'.out Pa2'.out Pa3'.out Pc1'.out Pc2'.out Pc3'.out (by decide) (((Pa1'.out.mul Pc1'.out).add (Pa2'.out.mul Pc2'.out)).fit (by decide)) _ (HT.out.on HB11.out)).at).mono ?_
 rintro e W12 ⟨rfl,hb⟩
 clear dK10 dK11 dK12 dK40 dK41 dK42
 have K1:=hid (K1.out.below hb)
 have K2:=hid (K2.out.below hb)
 have K4:=hid (K4.out.below hb)
 have K6:=hid (K6.out.below hb)
 have HB12:=hbt HB11 hb
 clear hb
 have dK20:=K2.out.cell (i:=0) rfl
 have dK21:=K2.out.cell (i:=1) rfl
 have dK22:=K2.out.cell (i:=2) rfl
 have dK40:=K4.out.cell (i:=0) rfl
 have dK41:=K4.out.cell (i:=1) rfl
 have dK42:=K4.out.cell (i:=2) rfl
 go_wp2_with fail
 with_reducible refine((vnDot0 EY.out Pb1'.out Pb2'.out Pb3'.out Pc1'.out Pc2'.out Pc3'.out (by decide) (((Pb1'.out.mul Pc1'.out).add (Pb2'.out.mul Pc2'.out)).fit (by decide)) _ (HT.out.on HB12.out)).at).mono ?_
 rintro e W13 ⟨rfl,hb⟩
 clear dK20 dK21 dK22 dK40 dK41 dK42
 have K1:=hid (K1.out.below hb)
 have K2:=hid (K2.out.below hb)
 have K4:=hid (K4.out.below hb)
 have K6:=hid (K6.out.below hb)
 have HB13:=hbt HB12 hb
 clear hb
 have dK10:=K1.out.cell (i:=0) rfl
 have dK11:=K1.out.cell (i:=1) rfl
 have dK12:=K1.out.cell (i:=2) rfl
 go_wp2_with fail
 with_reducible refine((vnDot Hsaa'.out Pa1'.out Pa2'.out Pa3'.out Pa1'.out Pa2'.out Pa3'.out (by decide) (((Pa1'.out.mul Pa1'.out).add (Pa2'.out.mul Pa2'.out)).fit (by decide)) _ (HT.out.on HB13.out)).at).mono ?_
 rintro e W14 ⟨rfl,hb⟩
 clear dK10 dK11 dK12
 have K1:=hid (K1.out.below hb)
 have K2:=hid (K2.out.below hb)
 have K4:=hid (K4.out.below hb)
 have K6:=hid (K6.out.below hb)
 have HB14:=hbt HB13 hb
 clear hb
 have dK20:=K2.out.cell (i:=0) rfl
 have dK21:=K2.out.cell (i:=1) rfl
 have dK22:=K2.out.cell (i:=2) rfl
 go_wp2_with fail
 with_reducible refine((vnDot Hsbb'.out Pb1'.out Pb2'.out Pb3'.out Pb1'.out Pb2'.out Pb3'.out (by decide) (((Pb1'.out.mul Pb1'.out).add (Pb2'.out.mul Pb2'.out)).fit (by decide)) _ (HT.out.on HB14.out)).at).mono ?_
 rintro e W15 ⟨rfl,hb⟩
 clear dK20 dK21 dK22
 have K1:=hid (K1.out.below hb)
 have K2:=hid (K2.out.below hb)
 have K4:=hid (K4.out.below hb)
 have K6:=hid (K6.out.below hb)
 have HB15:=hbt HB14 hb
 clear hb
 have dK10:=K1.out.cell (i:=0) rfl
 have dK11:=K1.out.cell (i:=1) rfl
 have dK12:=K1.out.cell (i:=2) rfl
 have dK20:=K2.out.cell (i:=0) rfl
 have dK21:=K2.out.cell (i:=1) rfl
 have dK22:=K2.out.cell (i:=2) rfl
 go_wp2_with fail
 with_reducible refine((vnDot Hsab'.out Pa1'.out Pa2'.out Pa3'.out Pb1'.out Pb2'.out Pb3'.out (by decide) (((Pa1'.out.mul Pb1'.out).add (Pa2'.out.mul Pb2'.out)).fit (by decide)) _ (HT.out.on HB15.out)).at).mono ?_
 rintro e W16 ⟨rfl,hb⟩
 clear dK10 dK11 dK12 dK20 dK21 dK22
 have K4:=hid (K4.out.below hb)
 have K6:=hid (K6.out.below hb)
 have HB16:=hbt HB15 hb
 clear hb
 have dK40:=K4.out.cell (i:=0) rfl
 have dK41:=K4.out.cell (i:=1) rfl
 have dK42:=K4.out.cell (i:=2) rfl
 go_wp2_with fail
 with_reducible refine((vnDot Hscc'.out Pc1'.out Pc2'.out Pc3'.out Pc1'.out Pc2'.out Pc3'.out (by decide) (((Pc1'.out.mul Pc1'.out).add (Pc2'.out.mul Pc2'.out)).fit (by decide)) _ (HT.out.on HB16.out)).at).mono ?_
 rintro e W17 ⟨rfl,hb⟩
 clear dK40 dK41 dK42
 have K4:=hid (K4.out.below hb)
 have K6:=hid (K6.out.below hb)
 have HB17:=hbt HB16 hb
 clear hb
 go_wp2_with fail
 with_reducible refine(qMul saa sbb sp Hsp'.out (Psaa'.out.fit (by decide)) (Psbb'.out.fit (by decide)) _ (HT.out.on HB17.out)).mono ?_
 rintro e W18 ⟨rfl,hb⟩
 have K4:=hid (K4.out.below hb)
 have K6:=hid (K6.out.below hb)
 have HB18:=hbt HB17 hb
 clear hb
 go_wp2_with fail
 with_reducible refine(qMul sab sab ss Hss'.out (Psab'.out.fit (by decide)) (Psab'.out.fit (by decide)) _ (HT.out.on HB18.out)).mono ?_
 rintro e W19 ⟨rfl,hb⟩
 have K4:=hid (K4.out.below hb)
 have K6:=hid (K6.out.below hb)
 have HB19:=hbt HB18 hb
 clear hb
 go_wp2_with fail
 with_reducible refine(qSub sp ss scc EC.out (Psp'.out.fit (by decide)) (Pss'.out.fit (by decide)) _ (HT.out.on HB19.out)).mono ?_
 rintro e W20 ⟨rfl,hb⟩
 have K4:=hid (K4.out.below hb)
 have K6:=hid (K6.out.below hb)
 have HB20:=hbt HB19 hb
 clear hb
 have dK60:=K6.out.cell (i:=0) rfl
 have dK61:=K6.out.cell (i:=1) rfl
 have dK62:=K6.out.cell (i:=2) rfl
 have dK40:=K4.out.cell (i:=0) rfl
 have dK41:=K4.out.cell (i:=1) rfl
 have dK42:=K4.out.cell (i:=2) rfl
 go_wp2
 exact bodyPost_ret (v:=.bool true) (by simp[results,Tryz.results3,go_sem]) rfl ⟨rfl,HB20.out⟩
theorem vright_any (x1 x2 x3 y1 y2 y3:ByteArray)(w:World)(hl:La w) :
 CR 3 #[.agg #[.string x1,.string x2,.string x3],.agg #[.string y1,.string y2,.string y3]] w (.bool true):=by
 cases hf:decide (x1.size≤20∧x2.size≤20∧x3.size≤20∧y1.size≤20∧y2.size≤20∧y3.size≤20) with
 | false=>exact(vright_long x1 x2 x3 y1 y2 y3 w hl hf).at
 | true =>
   have hs:=of_decide_eq_true hf
   obtain⟨o1,t1⟩:=tx_form x1 (k:=20) (by decide) (by decide) hs.1
   obtain⟨o2,t2⟩:=tx_form x2 (k:=20) (by decide) (by decide) hs.2.1
   obtain⟨o3,t3⟩:=tx_form x3 (k:=20) (by decide) (by decide) hs.2.2.1
   obtain⟨o4,t4⟩:=tx_form y1 (k:=20) (by decide) (by decide) hs.2.2.2.1
   obtain⟨o5,t5⟩:=tx_form y2 (k:=20) (by decide) (by decide) hs.2.2.2.2.1
   obtain⟨o6,t6⟩:=tx_form y3 (k:=20) (by decide) (by decide) hs.2.2.2.2.2
   have v1:=vtValid t1 t2 t3 (by decide) w hl
   have v2:=vtValid t4 t5 t6 (by decide) w hl
   cases g1:(o1.isSome&&(o2.isSome&&o3.isSome)) with
   | false=>rw[g1]at v1;exact(vright_no1 x1 x2 x3 y1 y2 y3 w v1 hl hf).at
   | true =>
     rw[g1]at v1
     cases g2:(o4.isSome&&(o5.isSome&&o6.isSome)) with
     | false=>rw[g2]at v2;exact(vright_no2 x1 x2 x3 y1 y2 y3 w v1 v2 hl hf).at
     | true =>
       obtain⟨⟨a1,rfl,p1⟩,⟨a2,rfl,p2⟩,⟨a3,rfl,p3⟩⟩:=tx_three t1 t2 t3 g1
       obtain⟨⟨b1,rfl,q1⟩,⟨b2,rfl,q2⟩,⟨b3,rfl,q3⟩⟩:=tx_three t4 t5 t6 g2
       exact(vright_yes a1 a2 a3 b1 b2 b3 p1 p2 p3 q1 q2 q3 w hl hf).at
end Go.Proofs.YtklfllmfcckgjaaGreatDoor
