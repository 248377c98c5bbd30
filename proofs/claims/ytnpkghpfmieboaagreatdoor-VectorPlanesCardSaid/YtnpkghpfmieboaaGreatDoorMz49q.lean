/- texts -/
import Derived.Test.YtnpkghpfmieboaaGreatDoorGk
import Derived.Test.YtnpkghpfmieboaaGreatDoorMz48q
import Derived.Test.YtnpkghpfmieboaaGreatDoorDj
import Derived.Test.YtnpkghpfmieboaaGreatDoorDk
namespace Go.Proofs.YtnpkghpfmieboaaGreatDoor
open Go.RowKit Go.Gb
theorem z1M {k:Nat}{x y z:ByteArray}{o1 o2 o3:Option Rat}(h1:Tx k x o1)(h2:Tx k y o2)(h3:Tx k z o3)(h:(o1.isSome&&(o2.isSome&&o3.isSome))=true):(∃ q,x=Sq q∧SmQ k q)∧(∃ q,y=Sq q∧SmQ k q)∧(∃ q,z=Sq q∧SmQ k q):=by
 have e:∀ {s:ByteArray} {o:Option Rat},Tx k s o→o.isSome=true→∃ q,s=Sq q∧SmQ k q:=by
  rintro s o (⟨q,rfl,rfl,hq⟩|⟨rfl,_⟩) h
  · exact⟨q,rfl,hq⟩
  · cases h
 rw[Bool.and_eq_true,Bool.and_eq_true]at h;exact⟨e h1 h.1,e h2 h.2.1,e h3 h.2.2⟩
set_option maxRecDepth 100000
set_option maxHeartbeats 20000000
open Go.Lib (hid)
theorem z1C (n1 n2 n3 g x1 x2 x3 y1 y2 y3 z1 z2 z3:ByteArray)(b0:Bool)(w₀:World)  (hla:La w₀)(fw:decide (x1.size≤20∧x2.size≤20∧x3.size≤20∧y1.size≤20∧y2.size≤20∧y3.size≤20∧z1.size≤20∧z2.size≤20∧z3.size≤20)=b0)(fx:(decide (g.size≤20∧(⟨#[]⟩:ByteArray).size≤20∧n1.size≤20∧n2.size≤20∧n3.size≤20)&&b0)=false) :
 CV w₀ 3 #[.agg #[.string n1,.string n2,.string n3,.string g],.agg #[.string x1,.string x2,.string x3],.agg #[.string y1,.string y2,.string y3],.agg #[.string z1,.string z2,.string z3]] (.bool true):=by
 intro w hw;obtain ⟨HT,FW,FX⟩:=ax (hla.on hw) fw fx;clear hla fw fx hw;go_enter Tryz.func3,Tryz.ntmps3
 go_upto_region 1 with fail
 refine ak w [(#[.string n1,.string n2,.string n3,.string g],26),(#[.string x1,.string x2,.string x3],24),(#[.string y1,.string y2,.string y3],24),(#[.string z1,.string z2,.string z3],24)] rfl ?_;rintro W0 ⟨k1,k2,k3,k4,hb⟩;have pq:=hid (show Below w.heap.size w W0 from hb);obtain ⟨K1,K2,K3,K4⟩:=aL k1 k2 k3 k4;clear k1 k2 k3 k4 hb;go_wp2_with fail
 with_reducible refine((nV _ (HT.o.on pq.o)).at).mono ?_
 rintro e W1 ⟨rfl,hb⟩;obtain ⟨K1,K2,K3,K4⟩:=aW hb K1 K2 K3 K4;have oV:=hbt pq hb;clear hb;obtain ⟨wu,ww,wy,wz⟩:=bN K1.o rfl rfl rfl rfl;obtain ⟨u6,w9,wo⟩:=ah K2.o rfl rfl rfl;obtain ⟨si,sj,sw⟩:=ah K3.o rfl rfl rfl;obtain ⟨rM,rV,p8⟩:=ah K4.o rfl rfl rfl;go_wp2_with fail
 have hb:=jH W1 (.cells #[.string x1,.string x2,.string x3,.string y1,.string y2,.string y3,.string z1,.string z2,.string z3] 24);have k5:=SBk.new W1 #[.string x1,.string x2,.string x3,.string y1,.string y2,.string y3,.string z1,.string z2,.string z3] 24;generalize W1.alloc (.cells #[.string x1,.string x2,.string x3,.string y1,.string y2,.string y3,.string z1,.string z2,.string z3] 24)=W2 at *;have ma:=hbt oV hb;have K5:=hid k5;clear k5 hb;with_reducible refine((lfew _ _ _ _ _ _ b0 false _ (uD _ x1 x2 x3 y1 y2 y3 z1 z2 z3 b0 FW.o _ K5.o) FX.o).at).mono ?_
 rintro e W3 ⟨rfl,hb⟩;clear wu ww wy wz u6 w9 wo si sj sw rM rV p8;have ol:=hbt ma hb;clear hb;go_wp2_with fail
 with_reducible refine((nV _ (HT.o.on ol.o)).at).mono ?_
 rintro e W4 ⟨rfl,hb⟩;have oM:=hbt ol hb;clear hb;go_wp2;exact bodyPost_ret (v:=.bool true) (by simp[results,Tryz.results3,go_sem]) rfl ⟨rfl,oM.o⟩
theorem z3A (n1 n2 n3 g x1 x2 x3 y1 y2 y3 z1 z2 z3:ByteArray)(ta tb tc td ca cb cc:ByteArray)(ks eao ebo eco:Int)(b0:Bool)(w₀:World)(h1:CV w₀ 6 #[.agg #[.string n1,.string n2,.string n3,.string g],.agg #[.string x1,.string x2,.string x3]] (.tuple #[.int .i64 ks,.int .i64 eao]))(h2:CV w₀ 7 #[.agg #[.string n1,.string n2,.string n3,.string g],.agg #[.string x1,.string x2,.string x3]] (.tuple #[.int .i64 ks,.int .i64 eao]))(h3:CV w₀ 8 #[.agg #[.string x1,.string x2,.string x3],.agg #[.string y1,.string y2,.string y3],.agg #[.string z1,.string z2,.string z3]] (.tuple #[.agg #[.string ta,.string tb,.string tc,.string td],.int .i64 ebo]))(h4:CV w₀ 9 #[.agg #[.string x1,.string x2,.string x3],.agg #[.string y1,.string y2,.string y3],.agg #[.string z1,.string z2,.string z3]] (.tuple #[.agg #[.string ta,.string tb,.string tc,.string td],.int .i64 ebo]))(h5:CV w₀ 10 #[.agg #[.string n1,.string n2,.string n3,.string g],.agg #[.string x1,.string x2,.string x3],.agg #[.string y1,.string y2,.string y3]] (.tuple #[.agg #[.string ca,.string cb,.string cc],.int .i64 eco]))(h6:CV w₀ 11 #[.agg #[.string n1,.string n2,.string n3,.string g],.agg #[.string x1,.string x2,.string x3],.agg #[.string y1,.string y2,.string y3]] (.tuple #[.agg #[.string ca,.string cb,.string cc],.int .i64 eco]))(hla:La w₀)(fw:decide (x1.size≤20∧x2.size≤20∧x3.size≤20∧y1.size≤20∧y2.size≤20∧y3.size≤20∧z1.size≤20∧z2.size≤20∧z3.size≤20)=b0)(fx:(decide (g.size≤20∧(⟨#[]⟩:ByteArray).size≤20∧n1.size≤20∧n2.size≤20∧n3.size≤20)&&b0)=true) :
 CV w₀ 3 #[.agg #[.string n1,.string n2,.string n3,.string g],.agg #[.string x1,.string x2,.string x3],.agg #[.string y1,.string y2,.string y3],.agg #[.string z1,.string z2,.string z3]] (.bool true):=by
 intro w hw;obtain ⟨C1,C2,C3,C4,C5,C6,HT,FW,FX⟩:=bK (h1.mono hw) (h2.mono hw) (h3.mono hw) (h4.mono hw) (h5.mono hw) (h6.mono hw) (hla.on hw) fw fx;clear hla fw fx h1 h2 h3 h4 h5 h6 hw;go_enter Tryz.func3,Tryz.ntmps3
 go_upto_region 1 with fail
 refine ak w [(#[.string n1,.string n2,.string n3,.string g],26),(#[.string x1,.string x2,.string x3],24),(#[.string y1,.string y2,.string y3],24),(#[.string z1,.string z2,.string z3],24)] rfl ?_;rintro W0 ⟨k1,k2,k3,k4,hb⟩;have pq:=hid (show Below w.heap.size w W0 from hb);obtain ⟨K1,K2,K3,K4⟩:=aL k1 k2 k3 k4;clear k1 k2 k3 k4 hb;go_wp2_with fail
 with_reducible refine((nV _ (HT.o.on pq.o)).at).mono ?_
 rintro e W1 ⟨rfl,hb⟩;obtain ⟨K1,K2,K3,K4⟩:=aW hb K1 K2 K3 K4;have oV:=hbt pq hb;clear hb;obtain ⟨wu,ww,wy,wz⟩:=bN K1.o rfl rfl rfl rfl;obtain ⟨u6,w9,wo⟩:=ah K2.o rfl rfl rfl;obtain ⟨si,sj,sw⟩:=ah K3.o rfl rfl rfl;obtain ⟨rM,rV,p8⟩:=ah K4.o rfl rfl rfl;go_wp2_with fail
 have hb:=jH W1 (.cells #[.string x1,.string x2,.string x3,.string y1,.string y2,.string y3,.string z1,.string z2,.string z3] 24);have k5:=SBk.new W1 #[.string x1,.string x2,.string x3,.string y1,.string y2,.string y3,.string z1,.string z2,.string z3] 24;generalize W1.alloc (.cells #[.string x1,.string x2,.string x3,.string y1,.string y2,.string y3,.string z1,.string z2,.string z3] 24)=W2 at *;obtain ⟨K1,K2,K3,K4⟩:=aW hb K1 K2 K3 K4;have ma:=hbt oV hb;have K5:=hid k5;clear k5 hb;with_reducible refine((lfew _ _ _ _ _ _ b0 true _ (uD _ x1 x2 x3 y1 y2 y3 z1 z2 z3 b0 FW.o _ K5.o) FX.o).at).mono ?_
 rintro e W3 ⟨rfl,hb⟩;clear wu ww wy wz u6 w9 wo si sj sw rM rV p8;obtain ⟨K1,K2,K3,K4,K5⟩:=bG hb K1 K2 K3 K4 K5;have ol:=hbt ma hb;clear hb;obtain ⟨wu,ww,wy,wz⟩:=bN K1.o rfl rfl rfl rfl;obtain ⟨u6,w9,wo⟩:=ah K2.o rfl rfl rfl;go_wp2_with fail
 with_reducible refine(C1.o _ ol.o).mono ?_
 rintro e W4 ⟨rfl,hb⟩;clear wu ww wy wz u6 w9 wo;obtain ⟨K1,K2,K3,K4,K5⟩:=bG hb K1 K2 K3 K4 K5;have oM:=hbt ol hb;clear hb;obtain ⟨wu,ww,wy,wz⟩:=bN K1.o rfl rfl rfl rfl;obtain ⟨u6,w9,wo⟩:=ah K2.o rfl rfl rfl;go_wp2_with fail
 with_reducible refine(C2.o _ oM.o).mono ?_
 rintro e W5 ⟨rfl,hb⟩;clear wu ww wy wz u6 w9 wo;obtain ⟨K1,K2,K3,K4,K5⟩:=bG hb K1 K2 K3 K4 K5;have mf:=hbt oM hb;clear hb;obtain ⟨u6,w9,wo⟩:=ah K2.o rfl rfl rfl;obtain ⟨si,sj,sw⟩:=ah K3.o rfl rfl rfl;obtain ⟨rM,rV,p8⟩:=ah K4.o rfl rfl rfl;go_wp2_with fail
 with_reducible refine(C3.o _ mf.o).mono ?_
 rintro e W6 ⟨rfl,hb⟩;clear u6 w9 wo si sj sw rM rV p8;obtain ⟨K1,K2,K3,K4,K5⟩:=bG hb K1 K2 K3 K4 K5;have mi:=hbt mf hb;clear hb;go_upto_region 6 with fail
 refine ak W6 [(#[.string ta,.string tb,.string tc,.string td],26)] rfl ?_;have L1:=K1.o.lt;have L2:=K2.o.lt;have L3:=K3.o.lt;have L4:=K4.o.lt;have L5:=K5.o.lt;have L6:=mi.o.size;rintro W7 ⟨k6,hb⟩;have hb:Below W6.heap.size W6 W7:=hb;obtain ⟨K1,K2,K3,K4,K5⟩:=bG hb K1 K2 K3 K4 K5;have l5:=hbt mi hb;have K6:=hid k6;clear k6 hb;obtain ⟨u6,w9,wo⟩:=ah K2.o rfl rfl rfl;obtain ⟨si,sj,sw⟩:=ah K3.o rfl rfl rfl;obtain ⟨rM,rV,p8⟩:=ah K4.o rfl rfl rfl;go_wp2_with fail
 with_reducible refine(C4.o _ l5.o).mono ?_
 rintro e W8 ⟨rfl,hb⟩;clear u6 w9 wo si sj sw rM rV p8;obtain ⟨K1,K2,K3,K4,K5,K6⟩:=cu hb K1 K2 K3 K4 K5 K6;have l6:=hbt l5 hb;clear hb;go_upto_region 7 with fail
 refine ak W8 [(#[.string ta,.string tb,.string tc,.string td],26)] rfl ?_;have L7:=K1.o.lt;have L8:=K2.o.lt;have L9:=K3.o.lt;have L10:=K4.o.lt;have L11:=K5.o.lt;have L12:=K6.o.lt;have L13:=l6.o.size;rintro W9 ⟨k7,hb⟩;have hb:Below W8.heap.size W8 W9:=hb;obtain ⟨K1,K2,K3,K4,K5,K6⟩:=cu hb K1 K2 K3 K4 K5 K6;have lc:=hbt l6 hb;have K7:=hid k7;clear k7 hb;obtain ⟨wu,ww,wy,wz⟩:=bN K1.o rfl rfl rfl rfl;obtain ⟨u6,w9,wo⟩:=ah K2.o rfl rfl rfl;obtain ⟨si,sj,sw⟩:=ah K3.o rfl rfl rfl;go_wp2_with fail
 with_reducible refine(C5.o _ lc.o).mono ?_
 rintro e W10 ⟨rfl,hb⟩;clear wu ww wy wz u6 w9 wo si sj sw;obtain ⟨K1,K2,K3,K4,K5,K6,K7⟩:=fG hb K1 K2 K3 K4 K5 K6 K7;have lg:=hbt lc hb;clear hb;go_upto_region 8 with fail
 refine ak W10 [(#[.string ca,.string cb,.string cc],24)] rfl ?_;have L14:=K1.o.lt;have L15:=K2.o.lt;have L16:=K3.o.lt;have L17:=K4.o.lt;have L18:=K5.o.lt;have L19:=K6.o.lt;have L20:=K7.o.lt;have L21:=lg.o.size;rintro W11 ⟨k8,hb⟩;have hb:Below W10.heap.size W10 W11:=hb;obtain ⟨K1,K2,K3,K4,K5,K6,K7⟩:=fG hb K1 K2 K3 K4 K5 K6 K7;have lv:=hbt lg hb;have K8:=hid k8;clear k8 hb;obtain ⟨wu,ww,wy,wz⟩:=bN K1.o rfl rfl rfl rfl;obtain ⟨u6,w9,wo⟩:=ah K2.o rfl rfl rfl;obtain ⟨si,sj,sw⟩:=ah K3.o rfl rfl rfl;go_wp2_with fail
 with_reducible refine(C6.o _ lv.o).mono ?_
 rintro e W12 ⟨rfl,hb⟩;clear wu ww wy wz u6 w9 wo si sj sw;obtain ⟨K1,K2,K3,K4,K5,K6,K7,K8⟩:=jf hb K1 K2 K3 K4 K5 K6 K7 K8;have kr:=hbt lv hb;clear hb;go_upto_region 9 with fail
 refine ak W12 [(#[.string ca,.string cb,.string cc],24)] rfl ?_;have L22:=K1.o.lt;have L23:=K2.o.lt;have L24:=K3.o.lt;have L25:=K4.o.lt;have L26:=K5.o.lt;have L27:=K6.o.lt;have L28:=K7.o.lt;have L29:=K8.o.lt;have L30:=kr.o.size;rintro W13 ⟨k9,hb⟩;have hb:Below W12.heap.size W12 W13:=hb;obtain ⟨K6,K7,K8⟩:=bL hb K6 K7 K8;have ky:=hbt kr hb;have K9:=hid k9;clear k9 hb;obtain ⟨kz,kK,kM,kV⟩:=bN K6.o rfl rfl rfl rfl;obtain ⟨gy,fq,fQ,ed⟩:=bN K7.o rfl rfl rfl rfl;obtain ⟨d9,dn,dx⟩:=ah K8.o rfl rfl rfl;obtain ⟨dz,dX,dY⟩:=ah K9.o rfl rfl rfl;go_wp2;exact bodyPost_ret (v:=.bool true) (by simp[results,Tryz.results3,go_sem]) rfl ⟨rfl,ky.o⟩
theorem v3t (x y z:ByteArray)(hx:x.size≤20)(hy:y.size≤20)(hz:z.size≤20):∃ oa ob oc,Tx 20 x oa∧Tx 20 y ob∧Tx 20 z oc:=by
 obtain⟨oa,t1⟩:=nW x (k:=20) (by decide) (by decide) hx;obtain⟨ob,t2⟩:=nW y (k:=20) (by decide) (by decide) hy;obtain⟨oc,t3⟩:=nW z (k:=20) (by decide) (by decide) hz;exact⟨oa,ob,oc,t1,t2,t3⟩
theorem v3 (x y z:ByteArray)(hx:x.size≤20)(hy:y.size≤20)(hz:z.size≤20):(∃ a b c:Rat,x=Sq a∧y=Sq b∧z=Sq c∧SmQ 20 a∧SmQ 20 b∧SmQ 20 c)∨(∃ oa ob oc,Tx 20 x oa∧Tx 20 y ob∧Tx 20 z oc∧(oa=none∨ob=none∨oc=none)∧(vldQ x.data.toList&&vldQ y.data.toList&&vldQ z.data.toList)=false):=by
 obtain⟨oa,ob,oc,t1,t2,t3⟩:=v3t x y z hx hy hz;have e1:=t1.vld;have e2:=t2.vld;have e3:=t3.vld
 cases oa with
 | none=>exact Or.inr ⟨_,_,_,t1,t2,t3,Or.inl rfl,by rw[e1];rfl⟩
 | some a =>
   cases ob with
   | none=>exact Or.inr ⟨_,_,_,t1,t2,t3,Or.inr (Or.inl rfl),by rw[e1,e2];rfl⟩
   | some b =>
     cases oc with
     | none=>exact Or.inr ⟨_,_,_,t1,t2,t3,Or.inr (Or.inr rfl),by rw[e1,e2,e3];rfl⟩
     | some c =>
       obtain⟨⟨a',rfl,pa⟩,⟨b',rfl,pb⟩,⟨c',rfl,pc⟩⟩:=z1M t1 t2 t3 rfl;exact Or.inl ⟨a',b',c',rfl,rfl,rfl,pa,pb,pc⟩
theorem xG (x:Rat):x.num.sign=cmpQ x 0:=by
 have h:=z1e x 0;have h0:(0:Rat).num.sign=0:=rfl;rw[h0]at h;rcases Int.sign_trichotomy x.num with e|e|e
 · rw[e]at h ⊢;exact(h.2 (by decide)).symm
 · have hz:x=0:=Rat.num_eq_zero.1 (Int.sign_eq_zero_iff_zero.1 e)
   subst hz;rcases jU 0 0 with⟨k,_⟩|⟨_,k⟩|⟨k,_⟩
   · exact absurd k (by decide)
   · rw[k];rfl
   · exact absurd k (by decide)
 · rw[e]at h ⊢;exact(h.1 (by decide)).symm
theorem sG (x:Rat):(cmpQ x 0==0)=decide (x=0):=by
 rcases jU x 0 with⟨h,e⟩|⟨h,e⟩|⟨h,e⟩<;>rw[e]
 · exact(decide_eq_false (by grind)).symm
 · exact(decide_eq_true h).symm
 · exact(decide_eq_false (by grind)).symm
theorem sH (x:Rat):decide (0<cmpQ x 0)=decide (0<x):=by
 rcases jU x 0 with⟨h,e⟩|⟨h,e⟩|⟨h,e⟩<;>rw[e]
 · exact(decide_eq_false (by grind)).symm
 · subst h;rfl
 · exact(decide_eq_true h).symm
theorem oJ {x:Rat}{k:Int}(h:cmpQ x 0=k):KP1 26 x (.int .i64 k):=kp1 (z4K x k (by rw[xG,h]))
theorem z0R {xa xb xc:Rat}{b:Bool}(h:decide (xa=0∧xb=0∧xc=0)=b):KOut 38 xa xb xc (.bool b):=by
 have c0:cmpQ 0 0=0:=by rw[← xG];rfl
 intro q1 q2 q3 W r1 r2 r3;by_cases ha:xa=0
 · by_cases hb:xb=0
   · refine z4b xa xb xc (cmpQ xc 0) b q1 q2 q3 W ?_ (oJ (ha▸c0)) (oJ (hb▸c0)) (oJ rfl) r1 r2 r3
     rw[sG,← h];exact decide_eq_decide.2 ⟨fun k=>⟨ha,hb,k⟩,fun k=>k.2.2⟩
   · obtain rfl:b=false:=by rw[← h];exact decide_eq_false (fun k=>hb k.2.1)
     exact z4c xa xb xc (cmpQ xb 0) q1 q2 q3 W (by rw[sG];exact decide_eq_false hb) (oJ (ha▸c0)) (oJ rfl) r1 r2 r3
 · obtain rfl:b=false:=by rw[← h];exact decide_eq_false (fun k=>ha k.1)
   exact z4d xa xb xc (cmpQ xa 0) q1 q2 q3 W (by rw[sG];exact decide_eq_false ha) (oJ rfl) r1 r2 r3
theorem z0S {n1 n2 n3 n4:ByteArray}{pa pb pc pd:Rat}{v1 v2 b:Bool}(h1:KVb 25 (.agg #[.string n1,.string n2,.string n3]) pa pb pc v1)(h2:KSb 51 (.string n4) pd v2)(hb:(v1&&v2 && !decide (pa=0∧pb=0∧pc=0))=b):KPb 24 (.agg #[.string n1,.string n2,.string n3,.string n4]) pa pb pc pd b:=by
 intro W
 cases v1 with
 | false =>
   obtain rfl:b=false:=by rw[← hb];rfl
   exact z4h _ _ _ _ pa pb pc pd _ _ W h1 h2 (z0R rfl)
 | true =>
   cases v2 with
   | false =>
     obtain rfl:b=false:=by rw[← hb];rfl
     exact z4g _ _ _ _ pa pb pc pd _ W h1 h2 (z0R rfl)
   | true =>
     rw[← hb];exact z4f _ _ _ _ pa pb pc pd _ W h1 h2 (z0R rfl)
theorem oK {pa pb pc pd xa xb xc:Rat}(hpa:SmQ 20 pa)(hpb:SmQ 20 pb)(hpc:SmQ 20 pc)(hpd:SmQ 20 pd)(hxa:SmQ 20 xa)(hxb:SmQ 20 xb)(hxc:SmQ 20 xc):KHe 27 pa pb pc pd xa xb xc (pa*xa+pb*xb+pc*xc-pd) :=
 fun q0 q1 q2 q3 q4 q5 q6 W r0 r1 r2 r3 r4 r5 r6=>wJ pa pb pc pd xa xb xc _ _ q0 q1 q2 q3 q4 q5 q6 W (z3r hpa hpb hpc hxa hxb hxc (by decide) (by decide)) (eSub (((hpa.mul hxa).add (hpb.mul hxb)).add (hpc.mul hxc)) hpd (by decide) (by decide)) r0 r1 r2 r3 r4 r5 r6
theorem eDiv {x y:Rat}{k l:Nat}(h0:y≠0)(hx:SmQ k x)(hy:SmQ l y)(hk:k≤9000)(hl:l≤9000):KQ2 66 x y (x / y):=kq2 (z5A x y _ rfl h0 (dlq hx (by omega)) (dlq hy (by omega)))
theorem fCut {pa pb pc pd xa xb xc ya yb yc:Rat}(hpa:SmQ 20 pa)(hpb:SmQ 20 pb)(hpc:SmQ 20 pc)(hpd:SmQ 20 pd)(hxa:SmQ 20 xa)(hxb:SmQ 20 xb)(hxc:SmQ 20 xc)(hya:SmQ 20 ya)(hyb:SmQ 20 yb)(hyc:SmQ 20 yc)(hne:(pa*xa+pb*xb+pc*xc-pd)-(pa*ya+pb*yb+pc*yc-pd)≠0):KCu 46 pa pb pc pd xa xb xc ya yb yc (xa+(ya-xa)*((pa*xa+pb*xb+pc*xc-pd) / ((pa*xa+pb*xb+pc*xc-pd)-(pa*ya+pb*yb+pc*yc-pd)))) (xb+(yb-xb)*((pa*xa+pb*xb+pc*xc-pd) / ((pa*xa+pb*xb+pc*xc-pd)-(pa*ya+pb*yb+pc*yc-pd)))) (xc+(yc-xc)*((pa*xa+pb*xb+pc*xc-pd) / ((pa*xa+pb*xb+pc*xc-pd)-(pa*ya+pb*yb+pc*yc-pd)))):=by
 have s1:SmQ 143 (pa*xa+pb*xb+pc*xc-pd):=(((hpa.mul hxa).add (hpb.mul hxb)).add (hpc.mul hxc)).sub hpd;have s2:SmQ 143 (pa*ya+pb*yb+pc*yc-pd):=(((hpa.mul hya).add (hpb.mul hyb)).add (hpc.mul hyc)).sub hpd;have s3:=s1.div (s1.sub s2) hne;have d1:=hya.sub hxa;have d2:=hyb.sub hxb;have d3:=hyc.sub hxc;exact fun q0 q1 q2 q3 q4 q5 q6 q7 q8 q9 W r0 r1 r2 r3 r4 r5 r6 r7 r8 r9=>z2J pa pb pc pd xa xb xc ya yb yc _ _ _ _ _ _ _ _ _ _ _ _ _ q0 q1 q2 q3 q4 q5 q6 q7 q8 q9 W (oK hpa hpb hpc hpd hxa hxb hxc) (oK hpa hpb hpc hpd hya hyb hyc) (z0T hya hyb hyc hxa hxb hxc (by decide) (by decide)) (eSub s1 s2 (by decide) (by decide)) (eDiv hne s1 (s1.sub s2) (by decide) (by decide)) (z4Z d1 d2 d3 s3 (by decide) (by decide)) (z5O (k:=20) (l:=471) hxa hxb hxc ((d1.mul s3).mono (by decide)) ((d2.mul s3).mono (by decide)) ((d3.mul s3).mono (by decide)) (by decide) (by decide)) r0 r1 r2 r3 r4 r5 r6 r7 r8 r9
theorem z3F {k:Nat}{s:ByteArray}{a:Rat}(h:Tx k s (some a)):s=Sq a∧SmQ k a:=by
 rcases h with⟨p,e,h1,h2⟩|⟨e,_⟩
 · cases e;exact⟨h1,h2⟩
 · cases e
theorem v1t (s:ByteArray)(hs:s.size≤20):(∃ a,s=Sq a∧SmQ 20 a)∨(Tx 20 s none∧vldQ s.data.toList=false):=by
 obtain⟨o,h⟩:=nW s (k:=20) (by decide) (by decide) hs
 cases o with
 | none=>exact Or.inr ⟨h,h.vld⟩
 | some a=>exact Or.inl ⟨a,z3F h⟩
theorem z3R (w:World)(hl:La w):CV w 23 #[.string ⟨#[]⟩,.string ⟨#[48]⟩] (.int .i64 0):=qg _ _ _ 1 w (fun W hW=>vL _ _ (by decide) (by decide) (by decide) W (hl.on hW))
theorem v4 (n1 n2 n3 n4:ByteArray)(hn1:n1.size≤20)(hn2:n2.size≤20)(hn3:n3.size≤20)(hn4:n4.size≤20):(∃ a b c d:Rat,n1=Sq a∧n2=Sq b∧n3=Sq c∧n4=Sq d∧SmQ 20 a∧SmQ 20 b∧SmQ 20 c∧SmQ 20 d∧¬ (a=0∧b=0∧c=0))∨(∃ oa ob oc od,Tx 20 n1 oa∧Tx 20 n2 ob∧Tx 20 n3 oc∧Tx 20 n4 od∧(oa=none∨ob=none∨oc=none∨od=none∨(oa=some 0∧ob=some 0∧oc=some 0))∧∃ pa pb pc pd,KPb 24 (.agg #[.string n1,.string n2,.string n3,.string n4]) pa pb pc pd false):=by
 obtain⟨pd,h4⟩:=lq n4 (by omega);obtain⟨pa,pb,pc,h3⟩:=lm hn1 hn2 hn3;rcases v3 n1 n2 n3 hn1 hn2 hn3 with⟨a,b,c,rfl,rfl,rfl,ha,hb,hc⟩|⟨oa,ob,oc,t1,t2,t3,h,hv⟩
 · have g3:=fVec ha hb hc (by decide)
   rcases v1t n4 hn4 with⟨d,rfl,hd⟩|⟨td,hv⟩
   · have g4:=zn hd (by decide)
     by_cases hz:a=0∧b=0∧c=0
     · refine Or.inr ⟨_,_,_,_,Tx.some ha,Tx.some hb,Tx.some hc,Tx.some hd,?_,_,_,_,_,z0S g3 g4 (by rw[decide_eq_true hz];rfl)⟩
       obtain⟨rfl,rfl,rfl⟩:=hz;exact Or.inr (Or.inr (Or.inr (Or.inr ⟨rfl,rfl,rfl⟩)))
     · exact Or.inl ⟨a,b,c,d,rfl,rfl,rfl,rfl,ha,hb,hc,hd,hz⟩
   · rw[hv]at h4
     exact Or.inr ⟨_,_,_,_,Tx.some ha,Tx.some hb,Tx.some hc,td,Or.inr (Or.inr (Or.inr (Or.inl rfl))),_,_,_,_,z0S g3 h4 rfl⟩
 · obtain⟨od,td⟩:=nW n4 (k:=20) (by decide) (by decide) hn4
   rw[hv]at h3;refine Or.inr ⟨oa,ob,oc,od,t1,t2,t3,td,?_,_,_,_,_,z0S h3 h4 rfl⟩;rcases h with h|h|h
   · exact Or.inl h
   · exact Or.inr (Or.inl h)
   · exact Or.inr (Or.inr (Or.inl h))
theorem z5d {n1 n2 n3 n4 x y z:ByteArray}{oa ob oc od ua ub uc:Option Rat}(ta1:Tx 20 n1 oa)(ta2:Tx 20 n2 ob)(ta3:Tx 20 n3 oc)(td:Tx 20 n4 od)(tb1:Tx 20 x ua)(tb2:Tx 20 y ub)(tb3:Tx 20 z uc)(h:(oa=none∨ob=none∨oc=none∨od=none∨(oa=some 0∧ob=some 0∧oc=some 0))∨(ua=none∨ub=none∨uc=none))(w:World)(hl:La w):CV w 6 #[.agg #[.string n1,.string n2,.string n3,.string n4],.agg #[.string x,.string y,.string z]] (.tuple #[.int .i64 0,.int .i64 1]):=by
 rcases qR ta1 ta2 ta3 td tb1 tb2 tb3 w hl with⟨⟨_,_,_,_,_,_,_,rfl,rfl,rfl,rfl,rfl,rfl,rfl⟩,hz⟩|k
 · simp at h
   exact absurd (by simpa using h) hz
 · exact tu _ _ _ _ _ _ _ _ _ _ w k (z3R w hl)
theorem z5H (n1 n2 n3 n4 x y z:ByteArray)(hn1:n1.size≤20)(hn2:n2.size≤20)(hn3:n3.size≤20)(hn4:n4.size≤20)(hx:x.size≤20)(hy:y.size≤20)(hz:z.size≤20)(w:World)(hl:La w):∃ g er,CV w 6 #[.agg #[.string n1,.string n2,.string n3,.string n4],.agg #[.string x,.string y,.string z]] (.tuple #[.int .i64 g,.int .i64 er])∧CV w 7 #[.agg #[.string n1,.string n2,.string n3,.string n4],.agg #[.string x,.string y,.string z]] (.tuple #[.int .i64 g,.int .i64 er]):=by
 obtain⟨xa,xb,xc,h1⟩:=lm hx hy hz;rcases v4 n1 n2 n3 n4 hn1 hn2 hn3 hn4 with⟨a,b,c,d,rfl,rfl,rfl,rfl,ha,hb,hc,hd,hn⟩|⟨oa,ob,oc,od,ta1,ta2,ta3,td,h,pa,pb,pc,pd,hr⟩
 · have hr:=z0S (fVec ha hb hc (by decide)) (zn hd (by decide)) (b:=true) (by rw[decide_eq_false hn];rfl)
   rcases v3 x y z hx hy hz with⟨ka,kb,kc,rfl,rfl,rfl,g1,g2,g3⟩|⟨ua,ub,uc,tb1,tb2,tb3,h,hv⟩
   · have s1:=((ha.mul g1).add (hb.mul g2)).add (hc.mul g3)
     exact⟨_,_,z4P hn rfl rfl rfl ha hb hc g1 g2 g3 (by decide) (((ha.mul g1).add (hb.mul g2)).fit (by decide)) (s1.fit (by decide)) (hd.fit (by decide)) ((s1.sub hd).fit (by decide)) w hl,fun W _=>z0Z _ _ _ _ _ _ _ a b c d ka kb kc _ _ W hr (fVec g1 g2 g3 (by decide)) (oK ha hb hc hd g1 g2 g3) (oJ rfl)⟩
   · rw[hv]at h1
     exact⟨_,_,z5d (Tx.some ha) (Tx.some hb) (Tx.some hc) (Tx.some hd) tb1 tb2 tb3 (Or.inr h) w hl,fun W _=>z18 _ _ _ _ _ _ _ _ _ _ _ _ _ _ _ _ W hr h1 (Or.inr ⟨rfl,rfl⟩)⟩
 · obtain⟨ua,ub,uc,tb1,tb2,tb3⟩:=v3t x y z hx hy hz
   exact⟨_,_,z5d ta1 ta2 ta3 td tb1 tb2 tb3 (Or.inl h) w hl,fun W _=>z18 _ _ _ _ _ _ _ _ _ _ _ _ _ _ _ _ W hr h1 (Or.inl rfl)⟩
theorem z2o (x y z u v t l m n:ByteArray)(hx:x.size≤20)(hy:y.size≤20)(hz:z.size≤20)(hu:u.size≤20)(hv':v.size≤20)(ht:t.size≤20)(hl0:l.size≤20)(hm:m.size≤20)(hn:n.size≤20)(w:World)(hl:La w):∃ g1 g2 g3 g4 er,CV w 8 #[.agg #[.string x,.string y,.string z],.agg #[.string u,.string v,.string t],.agg #[.string l,.string m,.string n]] (.tuple #[.agg #[.string g1,.string g2,.string g3,.string g4],.int .i64 er])∧CV w 9 #[.agg #[.string x,.string y,.string z],.agg #[.string u,.string v,.string t],.agg #[.string l,.string m,.string n]] (.tuple #[.agg #[.string g1,.string g2,.string g3,.string g4],.int .i64 er]):=by
 obtain⟨za,zb,zc,h3⟩:=lm hl0 hm hn;obtain⟨q1,q2,q3,tc1,tc2,tc3⟩:=v3t l m n hl0 hm hn;rcases v3 x y z hx hy hz with⟨xa,xb,xc,rfl,rfl,rfl,hxa,hxb,hxc⟩|⟨oa,ob,oc,ta1,ta2,ta3,h,hv⟩
 · rcases v3 u v t hu hv' ht with⟨ya,yb,yc,rfl,rfl,rfl,hya,hyb,hyc⟩|⟨ua,ub,uc,tb1,tb2,tb3,h,hw⟩
   · rcases v3 l m n hl0 hm hn with⟨wa,wb,wc,rfl,rfl,rfl,hwa,hwb,hwc⟩|⟨r1,r2,r3,tr1,tr2,tr3,h,hw⟩
     · have l1:=hya.sub hxa
       have l2:=hyb.sub hxb;have l3:=hyc.sub hxc;have m1:=hwa.sub hxa;have m2:=hwb.sub hxb;have m3:=hwc.sub hxc;have c1:=(l2.mul m3).sub (l3.mul m2);have c2:=(l3.mul m1).sub (l1.mul m3);have c3:=(l1.mul m2).sub (l2.mul m1);have hB:=z2B hxa hxb hxc hya hyb hyc;have hV:=fVec hwa hwb hwc (by decide);have f1:=z0T hya hyb hyc hxa hxb hxc (by decide) (by decide);have f2:=z0T hwa hwb hwc hxa hxb hxc (by decide) (by decide);have f3:=z5a l1 l2 l3 m1 m2 m3 (by decide) (by decide);have k1:=fTo c1 c2 c3 (by decide);have k2:=z3r c1 c2 c3 hxa hxb hxc (by decide) (by decide);have k3:=eTo (((c1.mul hxa).add (c2.mul hxb)).add (c3.mul hxc)) (by decide);by_cases hz0:((yb-xb)*(wc-xc)-(yc-xc)*(wb-xb))=0∧((yc-xc)*(wa-xa)-(ya-xa)*(wc-xc))=0∧((ya-xa)*(wb-xb)-(yb-xb)*(wa-xa))=0
       · exact⟨_,_,_,_,_,rO rfl rfl rfl rfl rfl rfl rfl rfl rfl hz0 hxa hxb hxc hya hyb hyc hwa hwb hwc w hl,fun W _=>nk _ _ _ _ _ _ _ _ _ xa xb xc ya yb yc wa wb wc _ _ _ _ _ _ _ _ _ _ _ _ _ _ true W hB hV f1 f2 f3 (z0R (decide_eq_true hz0)) k1 k2 k3⟩
       · exact⟨_,_,_,_,_,xZ rfl rfl rfl rfl rfl rfl rfl rfl rfl hz0 rfl hxa hxb hxc hya hyb hyc hwa hwb hwc w hl,fun W _=>nk _ _ _ _ _ _ _ _ _ xa xb xc ya yb yc wa wb wc _ _ _ _ _ _ _ _ _ _ _ _ _ _ false W hB hV f1 f2 f3 (z0R (decide_eq_false hz0)) k1 k2 k3⟩
     · rw[hw]at h3
       refine⟨_,_,_,_,_,(qU (Tx.some hxa) (Tx.some hxb) (Tx.some hxc) (Tx.some hya) (Tx.some hyb) (Tx.some hyc) tr1 tr2 tr3 w hl).resolve_left ?_,fun W _=>mE _ _ _ _ _ _ _ _ _ xa xb xc ya yb yc za zb zc _ _ W (z2B hxa hxb hxc hya hyb hyc) h3 (Or.inr ⟨rfl,rfl⟩)⟩;rintro⟨_,_,_,_,_,_,_,_,_,_,_,_,_,_,_,rfl,rfl,rfl⟩
       simp at h
   · obtain⟨ra,rb,rd,re,rf,rg,hr⟩:=iX hx hy hz hu hv' ht (Or.inr hw)
     refine⟨_,_,_,_,_,(qU (Tx.some hxa) (Tx.some hxb) (Tx.some hxc) tb1 tb2 tb3 tc1 tc2 tc3 w hl).resolve_left ?_,fun W _=>mE _ _ _ _ _ _ _ _ _ _ _ _ _ _ _ za zb zc _ _ W hr h3 (Or.inl rfl)⟩;rintro⟨_,_,_,_,_,_,_,_,_,_,_,_,rfl,rfl,rfl,_⟩
     simp at h
 · obtain⟨p1,p2,p3,tb1,tb2,tb3⟩:=v3t u v t hu hv' ht
   obtain⟨ra,rb,rd,re,rf,rg,hr⟩:=iX hx hy hz hu hv' ht (Or.inl hv);refine⟨_,_,_,_,_,(qU ta1 ta2 ta3 tb1 tb2 tb3 tc1 tc2 tc3 w hl).resolve_left ?_,fun W _=>mE _ _ _ _ _ _ _ _ _ _ _ _ _ _ _ za zb zc _ _ W hr h3 (Or.inl rfl)⟩;rintro⟨_,_,_,_,_,_,_,_,_,rfl,rfl,rfl,_⟩
   simp at h
theorem uJ {f g:Rat}(h:(decide (0<f)==decide (0<g))=false):f-g≠0:=by
 intro e;obtain rfl:f=g:=by grind
 simp at h
theorem p9 {n1 n2 n3 n4 x y z u v t:ByteArray}{oa ob oc od ua ub uc va vb vc:Option Rat}(ta1:Tx 20 n1 oa)(ta2:Tx 20 n2 ob)(ta3:Tx 20 n3 oc)(td:Tx 20 n4 od)(tb1:Tx 20 x ua)(tb2:Tx 20 y ub)(tb3:Tx 20 z uc)(tc1:Tx 20 u va)(tc2:Tx 20 v vb)(tc3:Tx 20 t vc)(h:(oa=none∨ob=none∨oc=none∨od=none∨(oa=some 0∧ob=some 0∧oc=some 0))∨(ua=none∨ub=none∨uc=none)∨(va=none∨vb=none∨vc=none))(w:World)(hl:La w):CV w 10 #[.agg #[.string n1,.string n2,.string n3,.string n4],.agg #[.string x,.string y,.string z],.agg #[.string u,.string v,.string t]] (.tuple #[.agg #[.string ⟨#[]⟩,.string ⟨#[]⟩,.string ⟨#[]⟩],.int .i64 1]):=by
 rcases zW ta1 ta2 ta3 td tb1 tb2 tb3 tc1 tc2 tc3 w hl with⟨⟨_,_,_,_,_,_,_,_,_,_,rfl,rfl,rfl,rfl,rfl,rfl,rfl,rfl,rfl,rfl⟩,hz⟩|k
 · simp at h
   exact absurd (by simpa using h) hz
 · exact k.1
theorem z0s (n1 n2 n3 n4 x y z u v t:ByteArray)(hn1:n1.size≤20)(hn2:n2.size≤20)(hn3:n3.size≤20)(hn4:n4.size≤20)(hx:x.size≤20)(hy:y.size≤20)(hz:z.size≤20)(hu:u.size≤20)(hv:v.size≤20)(ht:t.size≤20)(w:World)(hl:La w):∃ g1 g2 g3 er,CV w 10 #[.agg #[.string n1,.string n2,.string n3,.string n4],.agg #[.string x,.string y,.string z],.agg #[.string u,.string v,.string t]] (.tuple #[.agg #[.string g1,.string g2,.string g3],.int .i64 er])∧CV w 11 #[.agg #[.string n1,.string n2,.string n3,.string n4],.agg #[.string x,.string y,.string z],.agg #[.string u,.string v,.string t]] (.tuple #[.agg #[.string g1,.string g2,.string g3],.int .i64 er]):=by
 obtain⟨ua,ub,uc,tb1,tb2,tb3⟩:=v3t x y z hx hy hz;obtain⟨va,vb,vc,tc1,tc2,tc3⟩:=v3t u v t hu hv ht
 have bth:∃ xa xb xc ya yb yc er,KVV 35 (.agg #[.string x,.string y,.string z]) (.agg #[.string u,.string v,.string t]) xa xb xc ya yb yc er∧(er=0∨er=1):=by
  rcases v3 x y z hx hy hz with⟨xa,xb,xc,rfl,rfl,rfl,hxa,hxb,hxc⟩|⟨_,_,_,_,_,_,_,hw⟩
  · rcases v3 u v t hu hv ht with⟨ya,yb,yc,rfl,rfl,rfl,hya,hyb,hyc⟩|⟨_,_,_,_,_,_,_,hw⟩
    · exact⟨_,_,_,_,_,_,_,z2B hxa hxb hxc hya hyb hyc,Or.inl rfl⟩
    · obtain⟨ra,rb,rd,re,rf,rg,hr⟩:=iX hx hy hz hu hv ht (Or.inr hw)
      exact⟨_,_,_,_,_,_,_,hr,Or.inr rfl⟩
  · obtain⟨ra,rb,rd,re,rf,rg,hr⟩:=iX hx hy hz hu hv ht (Or.inl hw)
    exact⟨_,_,_,_,_,_,_,hr,Or.inr rfl⟩
 rcases v4 n1 n2 n3 n4 hn1 hn2 hn3 hn4 with⟨a,b,c,d,rfl,rfl,rfl,rfl,ha,hb,hc,hd,hn⟩|⟨oa,ob,oc,od,ta1,ta2,ta3,td,h,pa,pb,pc,pd,hr⟩
 · have hr:=z0S (fVec ha hb hc (by decide)) (zn hd (by decide)) (b:=true) (by rw[decide_eq_false hn];rfl)
   rcases v3 x y z hx hy hz with⟨xa,xb,xc,rfl,rfl,rfl,hxa,hxb,hxc⟩|⟨oa,ob,oc,t1,t2,t3,h,hw⟩
   · rcases v3 u v t hu hv ht with⟨ya,yb,yc,rfl,rfl,rfl,hya,hyb,hyc⟩|⟨oa,ob,oc,t1,t2,t3,h,hw⟩
     · have hB:=z2B hxa hxb hxc hya hyb hyc
       have h1:=oK ha hb hc hd hxa hxb hxc;have h2:=oK ha hb hc hd hya hyb hyc;have s1:SmQ 143 (a*xa+b*xb+c*xc-d):=(((ha.mul hxa).add (hb.mul hxb)).add (hc.mul hxc)).sub hd;have s2:SmQ 143 (a*ya+b*yb+c*yc-d):=(((ha.mul hya).add (hb.mul hyb)).add (hc.mul hyc)).sub hd;have cr:=fun hbe:(decide (0<(a*xa+b*xb+c*xc-d))==decide (0<(a*ya+b*yb+c*yc-d)))=false=>fCut ha hb hc hd hxa hxb hxc hya hyb hyc (uJ hbe);have tk:=fun hbe:(decide (0<(a*xa+b*xb+c*xc-d))==decide (0<(a*ya+b*yb+c*yc-d)))=false=>fTo (k:=600) ((hxa.add ((hya.sub hxa).mul (s1.div (s1.sub s2) (uJ hbe)))).mono (by decide)) ((hxb.add ((hyb.sub hxb).mul (s1.div (s1.sub s2) (uJ hbe)))).mono (by decide)) ((hxc.add ((hyc.sub hxc).mul (s1.div (s1.sub s2) (uJ hbe)))).mono (by decide)) (by decide)
       cases hbe:(decide (0<(a*xa+b*xb+c*xc-d))==decide (0<(a*ya+b*yb+c*yc-d))) with
       | true=>exact⟨_,_,_,_,pM hn rfl rfl (by simpa using hbe) ha hb hc hd hxa hxb hxc hya hyb hyc w hl,fun W _=>lH _ _ _ _ _ _ _ _ _ _ a b c d xa xb xc ya yb yc _ _ _ _ _ _ true _ _ _ _ _ _ W (sH _) (sH _) hbe hr hB h1 (oJ rfl) h2 (oJ rfl) cr tk⟩
       | false=>exact⟨_,_,_,_,uq hn rfl rfl hbe (uJ hbe) rfl rfl rfl rfl ha hb hc hd hxa hxb hxc hya hyb hyc w hl,fun W _=>lH _ _ _ _ _ _ _ _ _ _ a b c d xa xb xc ya yb yc _ _ _ _ _ _ false _ _ _ _ _ _ W (sH _) (sH _) hbe hr hB h1 (oJ rfl) h2 (oJ rfl) cr tk⟩
     · obtain⟨ra,rb,rd,re,rf,rg,hq⟩:=iX hx hy hz hu hv ht (Or.inr hw)
       exact⟨_,_,_,_,p9 (Tx.some ha) (Tx.some hb) (Tx.some hc) (Tx.some hd) (Tx.some hxa) (Tx.some hxb) (Tx.some hxc) t1 t2 t3 (Or.inr (Or.inr h)) w hl,fun W _=>kE _ _ _ _ _ _ _ _ _ _ a b c d _ _ _ _ _ _ _ _ W hr hq (Or.inl rfl)⟩
   · obtain⟨ra,rb,rd,re,rf,rg,hq⟩:=iX hx hy hz hu hv ht (Or.inl hw)
     exact⟨_,_,_,_,p9 (Tx.some ha) (Tx.some hb) (Tx.some hc) (Tx.some hd) t1 t2 t3 tc1 tc2 tc3 (Or.inr (Or.inl h)) w hl,fun W _=>kE _ _ _ _ _ _ _ _ _ _ a b c d _ _ _ _ _ _ _ _ W hr hq (Or.inl rfl)⟩
 · obtain⟨xa,xb,xc,ya,yb,yc,er,hq,he⟩:=bth
   refine⟨_,_,_,_,p9 ta1 ta2 ta3 td tb1 tb2 tb3 tc1 tc2 tc3 (Or.inl h) w hl,fun W _=>kE _ _ _ _ _ _ _ _ _ _ pa pb pc pd xa xb xc ya yb yc er false W hr hq ?_⟩;rcases he with rfl|rfl
   · exact Or.inr ⟨rfl,rfl⟩
   · exact Or.inl rfl
theorem vo (n1 n2 n3 g x1 x2 x3 y1 y2 y3 z1 z2 z3:ByteArray)(w:World)(hl:La w) :
 CR 3 #[.agg #[.string n1,.string n2,.string n3,.string g],.agg #[.string x1,.string x2,.string x3],.agg #[.string y1,.string y2,.string y3],.agg #[.string z1,.string z2,.string z3]] w (.bool true):=by
 cases hf:(decide (g.size≤20∧(⟨#[]⟩:ByteArray).size≤20∧n1.size≤20∧n2.size≤20∧n3.size≤20)&&decide (x1.size≤20∧x2.size≤20∧x3.size≤20∧y1.size≤20∧y2.size≤20∧y3.size≤20∧z1.size≤20∧z2.size≤20∧z3.size≤20)) with
 | false=>exact(z1C n1 n2 n3 g x1 x2 x3 y1 y2 y3 z1 z2 z3 _ w hl rfl hf).at
 | true =>
   have hf2:=hf;rw[Bool.and_eq_true]at hf2;obtain⟨hg,_,h1,h2,h3⟩:=of_decide_eq_true hf2.1;obtain⟨a1,a2,a3,a4,a5,a6,a7,a8,a9⟩:=of_decide_eq_true hf2.2;obtain⟨ks,e1,k1,k2⟩:=z5H n1 n2 n3 g x1 x2 x3 h1 h2 h3 hg a1 a2 a3 w hl;obtain⟨t1,t2,t3,t4,e2,k3,k4⟩:=z2o x1 x2 x3 y1 y2 y3 z1 z2 z3 a1 a2 a3 a4 a5 a6 a7 a8 a9 w hl;obtain⟨c1,c2,c3,e3,k5,k6⟩:=z0s n1 n2 n3 g x1 x2 x3 y1 y2 y3 h1 h2 h3 hg a1 a2 a3 a4 a5 a6 w hl;exact(z3A n1 n2 n3 g x1 x2 x3 y1 y2 y3 z1 z2 z3 t1 t2 t3 t4 c1 c2 c3 ks e1 e2 e3 _ w k1 k2 k3 k4 k5 k6 hl rfl hf).at
