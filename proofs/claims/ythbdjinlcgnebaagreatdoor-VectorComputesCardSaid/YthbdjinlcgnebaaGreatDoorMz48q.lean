/- texts -/
import Derived.Test.YthbdjinlcgnebaaGreatDoorGk
import Derived.Test.YthbdjinlcgnebaaGreatDoorDb
import Derived.Test.YthbdjinlcgnebaaGreatDoorDc
open Go.Proofs.Tryz
set_option maxRecDepth 100000
set_option maxHeartbeats 20000000
open Go.Lib (hid)
namespace Go.Proofs.YthbdjinlcgnebaaGreatDoor
open Go.RowKit Go.Gb
theorem z4m (n1 n2 n3 c x:ByteArray)(sl:Value)(w₀:World)  (kc:decide ((c.size:Int)≤20)=false) :
 CV w₀ 5 #[.agg #[.string n1,.string n2,.string n3,.string c],.string x,sl] (.bool false):=by
 intro w hw;clear hw;go_enter func5,ntmps5
 go_upto_region 1 with fail
 refine ak w [(#[.string n1,.string n2,.string n3,.string c],28)] rfl ?_;rintro W0 ⟨k1,hb⟩;have sw:=hid (show Below w.heap.size w W0 from hb);have K1:=hid k1;clear k1 hb;have oV:=K1.out.cell (i:=3) rfl;go_wp2;exact bodyPost_ret (v:=.bool false) (by simp[results,results5,go_sem]) rfl ⟨rfl,sw.out⟩
theorem z4j (n1 n2 n3 c x:ByteArray)(sl:Value)(w₀:World)  (kc:decide ((c.size:Int)≤20)=true)(kx:decide ((x.size:Int)≤20)=false) :
 CV w₀ 5 #[.agg #[.string n1,.string n2,.string n3,.string c],.string x,sl] (.bool false):=by
 intro w hw;clear hw;go_enter func5,ntmps5
 go_upto_region 1 with fail
 refine ak w [(#[.string n1,.string n2,.string n3,.string c],28)] rfl ?_;rintro W0 ⟨k1,hb⟩;have sw:=hid (show Below w.heap.size w W0 from hb);have K1:=hid k1;clear k1 hb;have oV:=K1.out.cell (i:=3) rfl;go_wp2;exact bodyPost_ret (v:=.bool false) (by simp[results,results5,go_sem]) rfl ⟨rfl,sw.out⟩
theorem z4k (n1 n2 n3 c x:ByteArray)(sl:Value)(w₀:World)  (kc:decide ((c.size:Int)≤20)=true)(kx:decide ((x.size:Int)≤20)=true)(hn:decide (n1.size≤20∧n2.size≤20∧n3.size≤20)=false) :
 CV w₀ 5 #[.agg #[.string n1,.string n2,.string n3,.string c],.string x,sl] (.bool false):=by
 intro w hw;have HN:=hid hn;clear hn hw;go_enter func5,ntmps5
 go_upto_region 1 with fail
 refine ak w [(#[.string n1,.string n2,.string n3,.string c],28)] rfl ?_;rintro W0 ⟨k1,hb⟩;have sw:=hid (show Below w.heap.size w W0 from hb);have K1:=hid k1;clear k1 hb;have oV:=K1.out.cell (i:=3) rfl;obtain ⟨w9,wo,wu⟩:=ag K1.out rfl rfl rfl;go_wp2_with fail
 have hb:=jq W0 (.cells #[.string n1,.string n2,.string n3] 24);have k2:=SBk.new W0 #[.string n1,.string n2,.string n3] 24;generalize W0.alloc (.cells #[.string n1,.string n2,.string n3] 24)=W1 at *;have rM:=hbt sw hb;have K2:=hid k2;clear k2 hb;with_reducible refine((sQ _ n1 n2 n3 false HN.out _ K2.out).at).mono ?_
 rintro e W2 ⟨rfl,hb⟩;clear oV w9 wo wu;have rf:=hbt rM hb;clear hb;go_wp2;exact bodyPost_ret (v:=.bool false) (by simp[results,results5,go_sem]) rfl ⟨rfl,rf.out⟩
theorem z4l (n1 n2 n3 c x:ByteArray)(sl:Value)(b:Bool)(w₀:World)(h1:CV w₀ 25 #[sl] (.bool b))(kc:decide ((c.size:Int)≤20)=true)(kx:decide ((x.size:Int)≤20)=true)(hn:decide (n1.size≤20∧n2.size≤20∧n3.size≤20)=true) :
 CV w₀ 5 #[.agg #[.string n1,.string n2,.string n3,.string c],.string x,sl] (.bool b):=by
 intro w hw;have C1:=hid (h1.mono hw);have HN:=hid hn;clear hn h1 hw;go_enter func5,ntmps5
 go_upto_region 1 with fail
 refine ak w [(#[.string n1,.string n2,.string n3,.string c],28)] rfl ?_;rintro W0 ⟨k1,hb⟩;have sw:=hid (show Below w.heap.size w W0 from hb);have K1:=hid k1;clear k1 hb;have oV:=K1.out.cell (i:=3) rfl;obtain ⟨w9,wo,wu⟩:=ag K1.out rfl rfl rfl;go_wp2_with fail
 have hb:=jq W0 (.cells #[.string n1,.string n2,.string n3] 24);have k2:=SBk.new W0 #[.string n1,.string n2,.string n3] 24;generalize W0.alloc (.cells #[.string n1,.string n2,.string n3] 24)=W1 at *;have rM:=hbt sw hb;have K2:=hid k2;clear k2 hb;with_reducible refine((sQ _ n1 n2 n3 true HN.out _ K2.out).at).mono ?_
 rintro e W2 ⟨rfl,hb⟩;clear oV w9 wo wu;have rf:=hbt rM hb;clear hb;go_wp2_with fail
 with_reducible refine(C1.out _ rf.out).mono ?_
 rintro e W3 ⟨rfl,hb⟩;have rV:=hbt rf hb;clear hb;go_wp2;exact bodyPost_ret (v:=.bool b) (by simp[results,results5,go_sem]) rfl ⟨rfl,rV.out⟩
theorem lfew (n1 n2 n3 c x:ByteArray)(sl:Value)(b2 b:Bool)(w:World)(h:CV w 25 #[sl] (.bool b2))(hb:(decide (c.size≤20∧x.size≤20∧n1.size≤20∧n2.size≤20∧n3.size≤20)&&b2)=b) :
 CV w 5 #[.agg #[.string n1,.string n2,.string n3,.string c],.string x,sl] (.bool b):=by
 by_cases hc:c.size≤20
 · have kc:decide ((c.size:Int)≤20)=true:=decide_eq_true (by omega)
   by_cases hx:x.size≤20
   · have kx:decide ((x.size:Int)≤20)=true:=decide_eq_true (by omega)
     by_cases hn:n1.size≤20∧n2.size≤20∧n3.size≤20
     · have e:decide (c.size≤20∧x.size≤20∧n1.size≤20∧n2.size≤20∧n3.size≤20)=true:=decide_eq_true ⟨hc,hx,hn⟩
       rw[e,Bool.true_and]at hb;subst hb;exact z4l n1 n2 n3 c x sl b2 w h kc kx (decide_eq_true hn)
     · have e:decide (c.size≤20∧x.size≤20∧n1.size≤20∧n2.size≤20∧n3.size≤20)=false:=decide_eq_false (fun h=>hn h.2.2)
       rw[e,Bool.false_and]at hb;subst hb;exact z4k n1 n2 n3 c x sl w kc kx (decide_eq_false hn)
   · have e:decide (c.size≤20∧x.size≤20∧n1.size≤20∧n2.size≤20∧n3.size≤20)=false:=decide_eq_false (fun h=>hx h.2.1)
     rw[e,Bool.false_and]at hb;subst hb;exact z4j n1 n2 n3 c x sl w kc (decide_eq_false (by omega))
 · have e:decide (c.size≤20∧x.size≤20∧n1.size≤20∧n2.size≤20∧n3.size≤20)=false:=decide_eq_false (fun h=>hc h.1)
   rw[e,Bool.false_and]at hb;subst hb;exact z4m n1 n2 n3 c x sl w (decide_eq_false (by omega))
theorem vZ {k:Nat}{x y z:ByteArray}{o1 o2 o3:Option Rat}(h1:Tx k x o1)(h2:Tx k y o2)(h3:Tx k z o3)(h:(o1.isSome&&(o2.isSome&&o3.isSome))=true):(∃ q,x=Sq q∧SmQ k q)∧(∃ q,y=Sq q∧SmQ k q)∧(∃ q,z=Sq q∧SmQ k q):=by
 have e:∀ {s:ByteArray} {o:Option Rat},Tx k s o→o.isSome=true→∃ q,s=Sq q∧SmQ k q:=by
  rintro s o (⟨q,rfl,rfl,hq⟩|⟨rfl,_⟩) h
  · exact⟨q,rfl,hq⟩
  · cases h
 rw[Bool.and_eq_true,Bool.and_eq_true]at h;exact⟨e h1 h.1,e h2 h.2.1,e h3 h.2.2⟩
theorem z0m (x:ByteArray)(sl:Value)(b c:Bool)(w:World)(h:CV w 25 #[sl] (.bool b))(hc:(decide (x.size≤20)&&b)=c):CV w 5 #[.agg #[.string ⟨#[]⟩,.string ⟨#[]⟩,.string ⟨#[]⟩,.string ⟨#[]⟩],.string x,sl] (.bool c) :=
 lfew _ _ _ _ _ sl b c w h (by
  rw[← hc];by_cases hx:x.size≤20
  · rw[decide_eq_true hx,show decide ((⟨#[]⟩:ByteArray).size≤20∧x.size≤20∧(⟨#[]⟩:ByteArray).size≤20∧(⟨#[]⟩:ByteArray).size≤20∧(⟨#[]⟩:ByteArray).size≤20)=true from decide_eq_true ⟨by decide,hx,by decide,by decide,by decide⟩]
  · rw[decide_eq_false hx,decide_eq_false (fun h=>hx h.2.1)])
end Go.Proofs.YthbdjinlcgnebaaGreatDoor
open Go.Lib (hid)
namespace Go.Proofs.YthbdjinlcgnebaaGreatDoor
open Go.RowKit Go.Gb
theorem z14 (x1 x2 x3 y1 y2 y3 z1 z2 z3 v:ByteArray)(b0:Bool)(w₀:World)  (hla:La w₀)(fw:decide (x1.size≤20∧x2.size≤20∧x3.size≤20∧y1.size≤20∧y2.size≤20∧y3.size≤20∧z1.size≤20∧z2.size≤20∧z3.size≤20)=b0)(fx:(decide (v.size≤20)&&b0)=false) :
 CV w₀ 3 #[.agg #[.string x1,.string x2,.string x3],.agg #[.string y1,.string y2,.string y3],.agg #[.string z1,.string z2,.string z3],.string v] (.bool true):=by
 intro w hw;obtain ⟨HT,FW,FX⟩:=ae (hla.on hw) fw fx;clear hla fw fx hw;go_enter func3,ntmps3
 go_upto_region 1 with fail
 refine ak w [(#[.string x1,.string x2,.string x3],24),(#[.string y1,.string y2,.string y3],24),(#[.string z1,.string z2,.string z3],24)] rfl ?_;rintro W0 ⟨k1,k2,k3,hb⟩;have sw:=hid (show Below w.heap.size w W0 from hb);obtain ⟨K1,K2,K3⟩:=ae k1 k2 k3;clear k1 k2 k3 hb;go_wp2_with fail
 with_reducible refine((mZ _ (HT.out.on sw.out)).at).mono ?_
 rintro e W1 ⟨rfl,hb⟩;obtain ⟨K1,K2,K3⟩:=aZ hb K1 K2 K3;have rM:=hbt sw hb;clear hb;obtain ⟨w9,wo,wu⟩:=ag K1.out rfl rfl rfl;obtain ⟨ww,wy,wz⟩:=ag K2.out rfl rfl rfl;obtain ⟨p8,pq,ol⟩:=ag K3.out rfl rfl rfl;go_wp2_with fail
 have hb:=jq W1 (.cells #[.string x1,.string x2,.string x3,.string y1,.string y2,.string y3,.string z1,.string z2,.string z3] 24);have k4:=SBk.new W1 #[.string x1,.string x2,.string x3,.string y1,.string y2,.string y3,.string z1,.string z2,.string z3] 24;generalize W1.alloc (.cells #[.string x1,.string x2,.string x3,.string y1,.string y2,.string y3,.string z1,.string z2,.string z3] 24)=W2 at *;have rf:=hbt rM hb;have K4:=hid k4;clear k4 hb;with_reducible refine((z0m v _ b0 false _ (sP _ x1 x2 x3 y1 y2 y3 z1 z2 z3 b0 FW.out _ K4.out) FX.out).at).mono ?_
 rintro e W3 ⟨rfl,hb⟩;clear w9 wo wu ww wy wz p8 pq ol;have rV:=hbt rf hb;clear hb;go_wp2_with fail
 with_reducible refine((mZ _ (HT.out.on rV.out)).at).mono ?_
 rintro e W4 ⟨rfl,hb⟩;have ma:=hbt rV hb;clear hb;go_wp2;exact bodyPost_ret (v:=.bool true) (by simp[results,results3,go_sem]) rfl ⟨rfl,ma.out⟩
theorem z3b (x1 x2 x3 y1 y2 y3 z1 z2 z3 v:ByteArray)(gga ggb ggc jja jjb jjc kka kkb kkc lla mma mmb mmc nna:ByteArray)(ego ejo eko elo emo eno:Int)(bv b0:Bool)(w₀:World)(h1:CV w₀ 6 #[.agg #[.string x1,.string x2,.string x3],.agg #[.string y1,.string y2,.string y3]] (.tuple #[.agg #[.string gga,.string ggb,.string ggc],.int .i64 ego]))(h2:CV w₀ 7 #[.agg #[.string x1,.string x2,.string x3],.agg #[.string y1,.string y2,.string y3]] (.tuple #[.agg #[.string gga,.string ggb,.string ggc],.int .i64 ego]))(h3:CV w₀ 8 #[.agg #[.string x1,.string x2,.string x3],.agg #[.string y1,.string y2,.string y3]] (.tuple #[.agg #[.string jja,.string jjb,.string jjc],.int .i64 ejo]))(h4:CV w₀ 9 #[.agg #[.string x1,.string x2,.string x3],.agg #[.string y1,.string y2,.string y3]] (.tuple #[.agg #[.string jja,.string jjb,.string jjc],.int .i64 ejo]))(h5:CV w₀ 10 #[.agg #[.string x1,.string x2,.string x3],.string v] (.tuple #[.agg #[.string kka,.string kkb,.string kkc],.int .i64 eko]))(h6:CV w₀ 11 #[.agg #[.string x1,.string x2,.string x3],.string v] (.tuple #[.agg #[.string kka,.string kkb,.string kkc],.int .i64 eko]))(h7:CV w₀ 12 #[.agg #[.string x1,.string x2,.string x3],.agg #[.string y1,.string y2,.string y3]] (.tuple #[.string lla,.int .i64 elo]))(h8:CV w₀ 13 #[.agg #[.string x1,.string x2,.string x3],.agg #[.string y1,.string y2,.string y3]] (.tuple #[.string lla,.int .i64 elo]))(h9:CV w₀ 14 #[.agg #[.string x1,.string x2,.string x3],.agg #[.string y1,.string y2,.string y3]] (.tuple #[.agg #[.string mma,.string mmb,.string mmc],.int .i64 emo]))(h10:CV w₀ 15 #[.agg #[.string x1,.string x2,.string x3],.agg #[.string y1,.string y2,.string y3]] (.tuple #[.agg #[.string mma,.string mmb,.string mmc],.int .i64 emo]))(h11:CV w₀ 16 #[.agg #[.string x1,.string x2,.string x3],.agg #[.string y1,.string y2,.string y3],.agg #[.string z1,.string z2,.string z3]] (.tuple #[.string nna,.int .i64 eno]))(h12:CV w₀ 17 #[.agg #[.string x1,.string x2,.string x3],.agg #[.string y1,.string y2,.string y3],.agg #[.string z1,.string z2,.string z3]] (.tuple #[.string nna,.int .i64 eno]))(h13:CV w₀ 18 #[.agg #[.string x1,.string x2,.string x3]] (.bool bv))(h14:CV w₀ 19 #[.agg #[.string x1,.string x2,.string x3]] (.bool bv))(hla:La w₀)(fw:decide (x1.size≤20∧x2.size≤20∧x3.size≤20∧y1.size≤20∧y2.size≤20∧y3.size≤20∧z1.size≤20∧z2.size≤20∧z3.size≤20)=b0)(fx:(decide (v.size≤20)&&b0)=true) :
 CV w₀ 3 #[.agg #[.string x1,.string x2,.string x3],.agg #[.string y1,.string y2,.string y3],.agg #[.string z1,.string z2,.string z3],.string v] (.bool true):=by
 intro w hw;obtain ⟨C1,C2,C3,C4,C5,C6,C7,C8,C9⟩:=bR (h1.mono hw) (h2.mono hw) (h3.mono hw) (h4.mono hw) (h5.mono hw) (h6.mono hw) (h7.mono hw) (h8.mono hw) (h9.mono hw);obtain ⟨C10,C11,C12,C13,C14,HT,FW,FX⟩:=mJ (h10.mono hw) (h11.mono hw) (h12.mono hw) (h13.mono hw) (h14.mono hw) (hla.on hw) fw fx;clear hla fw fx h1 h2 h3 h4 h5 h6 h7 h8 h9 h10 h11 h12 h13 h14 hw;go_enter func3,ntmps3
 go_upto_region 1 with fail
 refine ak w [(#[.string x1,.string x2,.string x3],24),(#[.string y1,.string y2,.string y3],24),(#[.string z1,.string z2,.string z3],24)] rfl ?_;rintro W0 ⟨k1,k2,k3,hb⟩;have sw:=hid (show Below w.heap.size w W0 from hb);obtain ⟨K1,K2,K3⟩:=ae k1 k2 k3;clear k1 k2 k3 hb;go_wp2_with fail
 with_reducible refine((mZ _ (HT.out.on sw.out)).at).mono ?_
 rintro e W1 ⟨rfl,hb⟩;obtain ⟨K1,K2,K3⟩:=aZ hb K1 K2 K3;have rM:=hbt sw hb;clear hb;obtain ⟨w9,wo,wu⟩:=ag K1.out rfl rfl rfl;obtain ⟨ww,wy,wz⟩:=ag K2.out rfl rfl rfl;obtain ⟨p8,pq,ol⟩:=ag K3.out rfl rfl rfl;go_wp2_with fail
 have hb:=jq W1 (.cells #[.string x1,.string x2,.string x3,.string y1,.string y2,.string y3,.string z1,.string z2,.string z3] 24);have k4:=SBk.new W1 #[.string x1,.string x2,.string x3,.string y1,.string y2,.string y3,.string z1,.string z2,.string z3] 24;generalize W1.alloc (.cells #[.string x1,.string x2,.string x3,.string y1,.string y2,.string y3,.string z1,.string z2,.string z3] 24)=W2 at *;obtain ⟨K1,K2,K3⟩:=aZ hb K1 K2 K3;have rf:=hbt rM hb;have K4:=hid k4;clear k4 hb;with_reducible refine((z0m v _ b0 true _ (sP _ x1 x2 x3 y1 y2 y3 z1 z2 z3 b0 FW.out _ K4.out) FX.out).at).mono ?_
 rintro e W3 ⟨rfl,hb⟩;clear w9 wo wu ww wy wz p8 pq ol;obtain ⟨K1,K2,K3,K4⟩:=bi hb K1 K2 K3 K4;have rV:=hbt rf hb;clear hb;obtain ⟨w9,wo,wu⟩:=ag K1.out rfl rfl rfl;obtain ⟨ww,wy,wz⟩:=ag K2.out rfl rfl rfl;go_wp2_with fail
 with_reducible refine(C1.out _ rV.out).mono ?_
 rintro e W4 ⟨rfl,hb⟩;clear w9 wo wu ww wy wz;obtain ⟨K1,K2,K3,K4⟩:=bi hb K1 K2 K3 K4;have ma:=hbt rV hb;clear hb;go_upto_region 4 with fail
 refine ak W4 [(#[.string gga,.string ggb,.string ggc],24)] rfl ?_;have L1:=K1.out.lt;have L2:=K2.out.lt;have L3:=K3.out.lt;have L4:=K4.out.lt;have L5:=ma.out.size;rintro W5 ⟨k5,hb⟩;have hb:Below W4.heap.size W4 W5:=hb;obtain ⟨K1,K2,K3,K4⟩:=bi hb K1 K2 K3 K4;have mf:=hbt ma hb;have K5:=hid k5;clear k5 hb;obtain ⟨w9,wo,wu⟩:=ag K1.out rfl rfl rfl;obtain ⟨ww,wy,wz⟩:=ag K2.out rfl rfl rfl;go_wp2_with fail
 with_reducible refine(C2.out _ mf.out).mono ?_
 rintro e W6 ⟨rfl,hb⟩;clear w9 wo wu ww wy wz;obtain ⟨K1,K2,K3,K4,K5⟩:=bS hb K1 K2 K3 K4 K5;have mi:=hbt mf hb;clear hb;go_upto_region 5 with fail
 refine ak W6 [(#[.string gga,.string ggb,.string ggc],24)] rfl ?_;have L6:=K1.out.lt;have L7:=K2.out.lt;have L8:=K3.out.lt;have L9:=K4.out.lt;have L10:=K5.out.lt;have L11:=mi.out.size;rintro W7 ⟨k6,hb⟩;have hb:Below W6.heap.size W6 W7:=hb;obtain ⟨K1,K2,K3,K4,K5⟩:=bS hb K1 K2 K3 K4 K5;have l5:=hbt mi hb;have K6:=hid k6;clear k6 hb;obtain ⟨w9,wo,wu⟩:=ag K1.out rfl rfl rfl;obtain ⟨ww,wy,wz⟩:=ag K2.out rfl rfl rfl;go_wp2_with fail
 with_reducible refine(C3.out _ l5.out).mono ?_
 rintro e W8 ⟨rfl,hb⟩;clear w9 wo wu ww wy wz;obtain ⟨K1,K2,K3,K4,K5,K6⟩:=d9 hb K1 K2 K3 K4 K5 K6;have l6:=hbt l5 hb;clear hb;go_upto_region 6 with fail
 refine ak W8 [(#[.string jja,.string jjb,.string jjc],24)] rfl ?_;have L12:=K1.out.lt;have L13:=K2.out.lt;have L14:=K3.out.lt;have L15:=K4.out.lt;have L16:=K5.out.lt;have L17:=K6.out.lt;have L18:=l6.out.size;rintro W9 ⟨k7,hb⟩;have hb:Below W8.heap.size W8 W9:=hb;obtain ⟨K1,K2,K3,K4,K5,K6⟩:=d9 hb K1 K2 K3 K4 K5 K6;have lg:=hbt l6 hb;have K7:=hid k7;clear k7 hb;obtain ⟨w9,wo,wu⟩:=ag K1.out rfl rfl rfl;obtain ⟨ww,wy,wz⟩:=ag K2.out rfl rfl rfl;go_wp2_with fail
 with_reducible refine(C4.out _ lg.out).mono ?_
 rintro e W10 ⟨rfl,hb⟩;clear w9 wo wu ww wy wz;obtain ⟨K1,K2,K3,K4,K5,K6,K7⟩:=eO hb K1 K2 K3 K4 K5 K6 K7;have lv:=hbt lg hb;clear hb;go_upto_region 7 with fail
 refine ak W10 [(#[.string jja,.string jjb,.string jjc],24)] rfl ?_;have L19:=K1.out.lt;have L20:=K2.out.lt;have L21:=K3.out.lt;have L22:=K4.out.lt;have L23:=K5.out.lt;have L24:=K6.out.lt;have L25:=K7.out.lt;have L26:=lv.out.size;rintro W11 ⟨k8,hb⟩;have hb:Below W10.heap.size W10 W11:=hb;obtain ⟨K1,K2,K3,K4,K5,K6,K7⟩:=eO hb K1 K2 K3 K4 K5 K6 K7;have ky:=hbt lv hb;have K8:=hid k8;clear k8 hb;obtain ⟨w9,wo,wu⟩:=ag K1.out rfl rfl rfl;go_wp2_with fail
 with_reducible refine(C5.out _ ky.out).mono ?_
 rintro e W12 ⟨rfl,hb⟩;clear w9 wo wu;obtain ⟨K1,K2,K3,K4,K5,K6,K7,K8⟩:=jF hb K1 K2 K3 K4 K5 K6 K7 K8;have kz:=hbt ky hb;clear hb;go_upto_region 8 with fail
 refine ak W12 [(#[.string kka,.string kkb,.string kkc],24)] rfl ?_;have L27:=K1.out.lt;have L28:=K2.out.lt;have L29:=K3.out.lt;have L30:=K4.out.lt;have L31:=K5.out.lt;have L32:=K6.out.lt;have L33:=K7.out.lt;have L34:=K8.out.lt;have L35:=kz.out.size;rintro W13 ⟨k9,hb⟩;have hb:Below W12.heap.size W12 W13:=hb;obtain ⟨K1,K2,K3,K4,K5,K6,K7,K8⟩:=jF hb K1 K2 K3 K4 K5 K6 K7 K8;have kC:=hbt kz hb;have K9:=hid k9;clear k9 hb;obtain ⟨w9,wo,wu⟩:=ag K1.out rfl rfl rfl;go_wp2_with fail
 with_reducible refine(C6.out _ kC.out).mono ?_
 rintro e W14 ⟨rfl,hb⟩;clear w9 wo wu;obtain ⟨K1,K2,K3,K4,K5,K6,K7,K8,K9⟩:=dm hb K1 K2 K3 K4 K5 K6 K7 K8 K9;have kD:=hbt kC hb;clear hb;go_upto_region 9 with fail
 refine ak W14 [(#[.string kka,.string kkb,.string kkc],24)] rfl ?_;have L36:=K1.out.lt;have L37:=K2.out.lt;have L38:=K3.out.lt;have L39:=K4.out.lt;have L40:=K5.out.lt;have L41:=K6.out.lt;have L42:=K7.out.lt;have L43:=K8.out.lt;have L44:=K9.out.lt;have L45:=kD.out.size;rintro W15 ⟨k10,hb⟩;have hb:Below W14.heap.size W14 W15:=hb;obtain ⟨K1,K2,K3,K4,K5,K6,K7,K8,K9⟩:=dm hb K1 K2 K3 K4 K5 K6 K7 K8 K9;have kE:=hbt kD hb;have K10:=hid k10;clear k10 hb;obtain ⟨w9,wo,wu⟩:=ag K1.out rfl rfl rfl;obtain ⟨ww,wy,wz⟩:=ag K2.out rfl rfl rfl;go_wp2_with fail
 with_reducible refine(C7.out _ kE.out).mono ?_
 rintro e W16 ⟨rfl,hb⟩;clear w9 wo wu ww wy wz;obtain ⟨K1,K2,K3,K4,K5,K6,K7,K8,K9⟩:=dm hb K1 K2 K3 K4 K5 K6 K7 K8 K9;have K10:=hid (K10.out.below hb);have kK:=hbt kE hb;clear hb;obtain ⟨w9,wo,wu⟩:=ag K1.out rfl rfl rfl;obtain ⟨ww,wy,wz⟩:=ag K2.out rfl rfl rfl;go_wp2_with fail
 with_reducible refine(C8.out _ kK.out).mono ?_
 rintro e W17 ⟨rfl,hb⟩;clear w9 wo wu ww wy wz;obtain ⟨K1,K2,K3,K4,K5,K6,K7,K8,K9⟩:=dm hb K1 K2 K3 K4 K5 K6 K7 K8 K9;have K10:=hid (K10.out.below hb);have kM:=hbt kK hb;clear hb;obtain ⟨w9,wo,wu⟩:=ag K1.out rfl rfl rfl;obtain ⟨ww,wy,wz⟩:=ag K2.out rfl rfl rfl;go_wp2_with fail
 with_reducible refine(C9.out _ kM.out).mono ?_
 rintro e W18 ⟨rfl,hb⟩;clear w9 wo wu ww wy wz;obtain ⟨K1,K2,K3,K4,K5,K6,K7,K8,K9⟩:=dm hb K1 K2 K3 K4 K5 K6 K7 K8 K9;have K10:=hid (K10.out.below hb);have kV:=hbt kM hb;clear hb;go_upto_region 12 with fail
 refine ak W18 [(#[.string mma,.string mmb,.string mmc],24)] rfl ?_;have L46:=K1.out.lt;have L47:=K2.out.lt;have L48:=K3.out.lt;have L49:=K4.out.lt;have L50:=K5.out.lt;have L51:=K6.out.lt;have L52:=K7.out.lt;have L53:=K8.out.lt;have L54:=K9.out.lt;have L55:=K10.out.lt;have L56:=kV.out.size;rintro W19 ⟨k11,hb⟩;have hb:Below W18.heap.size W18 W19:=hb;obtain ⟨K1,K2,K3,K4,K5,K6,K7,K8,K9⟩:=dm hb K1 K2 K3 K4 K5 K6 K7 K8 K9;have K10:=hid (K10.out.below hb);have gy:=hbt kV hb;have K11:=hid k11;clear k11 hb;obtain ⟨w9,wo,wu⟩:=ag K1.out rfl rfl rfl;obtain ⟨ww,wy,wz⟩:=ag K2.out rfl rfl rfl;go_wp2_with fail
 with_reducible refine(C10.out _ gy.out).mono ?_
 rintro e W20 ⟨rfl,hb⟩;clear w9 wo wu ww wy wz;obtain ⟨K1,K2,K3,K4,K5,K6,K7,K8,K9⟩:=dm hb K1 K2 K3 K4 K5 K6 K7 K8 K9;obtain ⟨K10,K11⟩:=aO hb K10 K11;have fq:=hbt gy hb;clear hb;go_upto_region 13 with fail
 refine ak W20 [(#[.string mma,.string mmb,.string mmc],24)] rfl ?_;have L57:=K1.out.lt;have L58:=K2.out.lt;have L59:=K3.out.lt;have L60:=K4.out.lt;have L61:=K5.out.lt;have L62:=K6.out.lt;have L63:=K7.out.lt;have L64:=K8.out.lt;have L65:=K9.out.lt;have L66:=K10.out.lt;have L67:=K11.out.lt;have L68:=fq.out.size;rintro W21 ⟨k12,hb⟩;have hb:Below W20.heap.size W20 W21:=hb;obtain ⟨K1,K2,K3,K5,K6,K7,K8,K9,K10⟩:=dm hb K1 K2 K3 K5 K6 K7 K8 K9 K10;have K11:=hid (K11.out.below hb);have fQ:=hbt fq hb;have K12:=hid k12;clear k12 hb;obtain ⟨w9,wo,wu⟩:=ag K1.out rfl rfl rfl;obtain ⟨ww,wy,wz⟩:=ag K2.out rfl rfl rfl;obtain ⟨p8,pq,ol⟩:=ag K3.out rfl rfl rfl;go_wp2_with fail
 with_reducible refine(C11.out _ fQ.out).mono ?_
 rintro e W22 ⟨rfl,hb⟩;clear w9 wo wu ww wy wz p8 pq ol;obtain ⟨K1,K2,K3,K5,K6,K7,K8,K9,K10⟩:=dm hb K1 K2 K3 K5 K6 K7 K8 K9 K10;obtain ⟨K11,K12⟩:=aO hb K11 K12;have ed:=hbt fQ hb;clear hb;obtain ⟨w9,wo,wu⟩:=ag K1.out rfl rfl rfl;obtain ⟨ww,wy,wz⟩:=ag K2.out rfl rfl rfl;obtain ⟨p8,pq,ol⟩:=ag K3.out rfl rfl rfl;go_wp2_with fail
 with_reducible refine(C12.out _ ed.out).mono ?_
 rintro e W23 ⟨rfl,hb⟩;clear w9 wo wu ww wy wz p8 pq ol;obtain ⟨K1,K5,K6,K7,K8,K9,K10,K11,K12⟩:=dm hb K1 K5 K6 K7 K8 K9 K10 K11 K12;have oM:=hbt ed hb;clear hb;go_wp2_with fail
 simp only[List.append];refine aB (fun a0 a' V=>a'=⟨aV [(120,.agg #[.string x1,.string x2,.string x3]),(121,.bool bv),(122,.agg #[.string x1,.string x2,.string x3]),(123,.bool bv),(124,.bool true),(125,.bool true),(126,.agg #[.string gga,.string ggb,.string ggc]),(127,.agg #[.string gga,.string ggb,.string ggc]),(128,.bool true),(129,.bool true),(130,.bool true),(131,.int .i64 ego),(132,.int .i64 ego),(133,.bool true),(134,.bool true),(135,.bool true),(136,.agg #[.string jja,.string jjb,.string jjc]),(137,.agg #[.string jja,.string jjb,.string jjc]),(138,.bool true),(139,.bool true),(140,.bool true),(141,.int .i64 ejo),(142,.int .i64 ejo),(143,.bool true),(144,.bool true),(145,.bool true),(146,.agg #[.string kka,.string kkb,.string kkc]),(147,.agg #[.string kka,.string kkb,.string kkc]),(148,.bool true),(149,.bool true),(150,.bool true),(151,.int .i64 eko),(152,.int .i64 eko),(153,.bool true),(154,.bool true),(155,.bool true),(156,.string lla),(157,.string lla),(158,.bool true),(159,.bool true),(160,.bool true),(161,.int .i64 elo),(162,.int .i64 elo),(163,.bool true),(164,.bool true),(165,.bool true),(166,.agg #[.string mma,.string mmb,.string mmc]),(167,.agg #[.string mma,.string mmb,.string mmc]),(168,.bool true),(169,.bool true),(170,.bool true),(171,.int .i64 emo),(172,.int .i64 emo),(173,.bool true),(174,.bool true),(175,.bool true),(176,.string nna),(177,.string nna),(178,.bool true),(179,.bool true),(180,.bool true),(181,.int .i64 eno),(182,.int .i64 eno),(183,.bool true),(184,.bool true),(8,.bool true)] a0.tmps,a0.defers⟩∧Below w.heap.size w V) ?_ ?_
 · refine ay (by kernel_rfl) 66 0 (fun i=>[120,121,122,123,124,125,126,127,128,129,130,131,132,133,134,135,136,137,138,139,140,141,142,143,144,145,146,147,148,149,150,151,152,153,154,155,156,157,158,159,160,161,162,163,164,165,166,167,168,169,170,171,172,173,174,175,176,177,178,179,180,181,182,183,184,8].getD i 0) (RelR [Rel.val (.agg #[.string x1,.string x2,.string x3]),Rel.val (.bool bv),Rel.val (.agg #[.string x1,.string x2,.string x3]),Rel.val (.bool bv),Rel.val (.bool true),Rel.val (.bool true),Rel.val (.agg #[.string gga,.string ggb,.string ggc]),Rel.val (.agg #[.string gga,.string ggb,.string ggc]),Rel.val (.bool true),Rel.val (.bool true),Rel.val (.bool true),Rel.val (.int .i64 ego),Rel.val (.int .i64 ego),Rel.val (.bool true),Rel.val (.bool true),Rel.val (.bool true),Rel.val (.agg #[.string jja,.string jjb,.string jjc]),Rel.val (.agg #[.string jja,.string jjb,.string jjc]),Rel.val (.bool true),Rel.val (.bool true),Rel.val (.bool true),Rel.val (.int .i64 ejo),Rel.val (.int .i64 ejo),Rel.val (.bool true),Rel.val (.bool true),Rel.val (.bool true),Rel.val (.agg #[.string kka,.string kkb,.string kkc]),Rel.val (.agg #[.string kka,.string kkb,.string kkc]),Rel.val (.bool true),Rel.val (.bool true),Rel.val (.bool true),Rel.val (.int .i64 eko),Rel.val (.int .i64 eko),Rel.val (.bool true),Rel.val (.bool true),Rel.val (.bool true),Rel.val (.string lla),Rel.val (.string lla),Rel.val (.bool true),Rel.val (.bool true),Rel.val (.bool true),Rel.val (.int .i64 elo),Rel.val (.int .i64 elo),Rel.val (.bool true),Rel.val (.bool true),Rel.val (.bool true),Rel.val (.agg #[.string mma,.string mmb,.string mmc]),Rel.val (.agg #[.string mma,.string mmb,.string mmc]),Rel.val (.bool true),Rel.val (.bool true),Rel.val (.bool true),Rel.val (.int .i64 emo),Rel.val (.int .i64 emo),Rel.val (.bool true),Rel.val (.bool true),Rel.val (.bool true),Rel.val (.string nna),Rel.val (.string nna),Rel.val (.bool true),Rel.val (.bool true),Rel.val (.bool true),Rel.val (.int .i64 eno),Rel.val (.int .i64 eno),Rel.val (.bool true),Rel.val (.bool true),Rel.val (.bool true)]) (fun W=>Below W23.heap.size W23 W) (fun _ _=>True) (by kernel_rfl) (by kernel_rfl) (by kernel_rfl) trivial (Below.refl _ _).drew ?_ ?_
   · intro u6 a W i hI hD hrd him
     obtain ⟨HI,HD,Hr⟩:=ae hI hD hrd;clear hI hrd hD;have y4:a.tmps[4]? = some (.pointer (some ⟨w.heap.size,0,none⟩)):=HI.out.rest 4 (by decide);have y9:a.tmps[9]? = some (.pointer (some ⟨W4.heap.size,0,none⟩)):=HI.out.rest 9 (by decide);have y11:a.tmps[11]? = some (.pointer (some ⟨W6.heap.size,0,none⟩)):=HI.out.rest 11 (by decide);have y10:a.tmps[10]? = some (.int .i64 ego):=HI.out.rest 10 (by decide);have y12:a.tmps[12]? = some (.int .i64 ego):=HI.out.rest 12 (by decide);have y13:a.tmps[13]? = some (.pointer (some ⟨W8.heap.size,0,none⟩)):=HI.out.rest 13 (by decide);have y15:a.tmps[15]? = some (.pointer (some ⟨W10.heap.size,0,none⟩)):=HI.out.rest 15 (by decide);have y14:a.tmps[14]? = some (.int .i64 ejo):=HI.out.rest 14 (by decide);have y16:a.tmps[16]? = some (.int .i64 ejo):=HI.out.rest 16 (by decide);have y17:a.tmps[17]? = some (.pointer (some ⟨W12.heap.size,0,none⟩)):=HI.out.rest 17 (by decide);have y19:a.tmps[19]? = some (.pointer (some ⟨W14.heap.size,0,none⟩)):=HI.out.rest 19 (by decide);have y18:a.tmps[18]? = some (.int .i64 eko):=HI.out.rest 18 (by decide);have y20:a.tmps[20]? = some (.int .i64 eko):=HI.out.rest 20 (by decide);have y21:a.tmps[21]? = some (.string lla):=HI.out.rest 21 (by decide);have y23:a.tmps[23]? = some (.string lla):=HI.out.rest 23 (by decide);have y22:a.tmps[22]? = some (.int .i64 elo):=HI.out.rest 22 (by decide);have y24:a.tmps[24]? = some (.int .i64 elo):=HI.out.rest 24 (by decide);have y25:a.tmps[25]? = some (.pointer (some ⟨W18.heap.size,0,none⟩)):=HI.out.rest 25 (by decide);have y27:a.tmps[27]? = some (.pointer (some ⟨W20.heap.size,0,none⟩)):=HI.out.rest 27 (by decide);have y26:a.tmps[26]? = some (.int .i64 emo):=HI.out.rest 26 (by decide);have y28:a.tmps[28]? = some (.int .i64 emo):=HI.out.rest 28 (by decide);have y29:a.tmps[29]? = some (.string nna):=HI.out.rest 29 (by decide);have y31:a.tmps[31]? = some (.string nna):=HI.out.rest 31 (by decide);have y30:a.tmps[30]? = some (.int .i64 eno):=HI.out.rest 30 (by decide);have y32:a.tmps[32]? = some (.int .i64 eno):=HI.out.rest 32 (by decide);obtain ⟨w9,wo,wu⟩:=ag (K1.out.below HI.out.world) rfl rfl rfl;obtain ⟨dY,cO,bg⟩:=ag (K5.out.below HI.out.world) rfl rfl rfl;obtain ⟨bn,bq,bu⟩:=ag (K6.out.below HI.out.world) rfl rfl rfl;obtain ⟨bM,bV,af⟩:=ag (K7.out.below HI.out.world) rfl rfl rfl;obtain ⟨u00,u01,u02⟩:=ag (K8.out.below HI.out.world) rfl rfl rfl;obtain ⟨u03,u04,u05⟩:=ag (K9.out.below HI.out.world) rfl rfl rfl;obtain ⟨u06,u07,u08⟩:=ag (K10.out.below HI.out.world) rfl rfl rfl;obtain ⟨u09,u0a,u0b⟩:=ag (K11.out.below HI.out.world) rfl rfl rfl;obtain ⟨u0c,u0d,u0e⟩:=ag (K12.out.below HI.out.world) rfl rfl rfl;have X0:RV _ u6 a 0 120 (.agg #[.string x1,.string x2,.string x3]):=HI.out.rh;have X2:RV _ u6 a 2 122 (.agg #[.string x1,.string x2,.string x3]):=HI.out.rh;have X1:RV _ u6 a 1 121 (.bool bv):=HI.out.rh;have X3:RV _ u6 a 3 123 (.bool bv):=HI.out.rh;have X4:RV _ u6 a 4 124 (.bool true):=HI.out.rh;have X5:RV _ u6 a 5 125 (.bool true):=HI.out.rh;have X6:RV _ u6 a 6 126 (.agg #[.string gga,.string ggb,.string ggc]):=HI.out.rh;have X7:RV _ u6 a 7 127 (.agg #[.string gga,.string ggb,.string ggc]):=HI.out.rh;have X8:RV _ u6 a 8 128 (.bool true):=HI.out.rh;have X9:RV _ u6 a 9 129 (.bool true):=HI.out.rh;have X10:RV _ u6 a 10 130 (.bool true):=HI.out.rh;have X11:RV _ u6 a 11 131 (.int .i64 ego):=HI.out.rh;have X12:RV _ u6 a 12 132 (.int .i64 ego):=HI.out.rh;have X13:RV _ u6 a 13 133 (.bool true):=HI.out.rh;have X14:RV _ u6 a 14 134 (.bool true):=HI.out.rh;have X15:RV _ u6 a 15 135 (.bool true):=HI.out.rh;have X16:RV _ u6 a 16 136 (.agg #[.string jja,.string jjb,.string jjc]):=HI.out.rh;have X17:RV _ u6 a 17 137 (.agg #[.string jja,.string jjb,.string jjc]):=HI.out.rh;have X18:RV _ u6 a 18 138 (.bool true):=HI.out.rh;have X19:RV _ u6 a 19 139 (.bool true):=HI.out.rh;have X20:RV _ u6 a 20 140 (.bool true):=HI.out.rh;have X21:RV _ u6 a 21 141 (.int .i64 ejo):=HI.out.rh;have X22:RV _ u6 a 22 142 (.int .i64 ejo):=HI.out.rh;have X23:RV _ u6 a 23 143 (.bool true):=HI.out.rh;have X24:RV _ u6 a 24 144 (.bool true):=HI.out.rh;have X25:RV _ u6 a 25 145 (.bool true):=HI.out.rh;have X26:RV _ u6 a 26 146 (.agg #[.string kka,.string kkb,.string kkc]):=HI.out.rh;have X27:RV _ u6 a 27 147 (.agg #[.string kka,.string kkb,.string kkc]):=HI.out.rh;have X28:RV _ u6 a 28 148 (.bool true):=HI.out.rh;have X29:RV _ u6 a 29 149 (.bool true):=HI.out.rh;have X30:RV _ u6 a 30 150 (.bool true):=HI.out.rh;have X31:RV _ u6 a 31 151 (.int .i64 eko):=HI.out.rh;have X32:RV _ u6 a 32 152 (.int .i64 eko):=HI.out.rh;have X33:RV _ u6 a 33 153 (.bool true):=HI.out.rh;have X34:RV _ u6 a 34 154 (.bool true):=HI.out.rh;have X35:RV _ u6 a 35 155 (.bool true):=HI.out.rh;have X36:RV _ u6 a 36 156 (.string lla):=HI.out.rh;have X37:RV _ u6 a 37 157 (.string lla):=HI.out.rh;have X38:RV _ u6 a 38 158 (.bool true):=HI.out.rh;have X39:RV _ u6 a 39 159 (.bool true):=HI.out.rh;have X40:RV _ u6 a 40 160 (.bool true):=HI.out.rh;have X41:RV _ u6 a 41 161 (.int .i64 elo):=HI.out.rh;have X42:RV _ u6 a 42 162 (.int .i64 elo):=HI.out.rh;have X43:RV _ u6 a 43 163 (.bool true):=HI.out.rh;have X44:RV _ u6 a 44 164 (.bool true):=HI.out.rh;have X45:RV _ u6 a 45 165 (.bool true):=HI.out.rh;have X46:RV _ u6 a 46 166 (.agg #[.string mma,.string mmb,.string mmc]):=HI.out.rh;have X47:RV _ u6 a 47 167 (.agg #[.string mma,.string mmb,.string mmc]):=HI.out.rh;have X48:RV _ u6 a 48 168 (.bool true):=HI.out.rh;have X49:RV _ u6 a 49 169 (.bool true):=HI.out.rh;have X50:RV _ u6 a 50 170 (.bool true):=HI.out.rh;have X51:RV _ u6 a 51 171 (.int .i64 emo):=HI.out.rh;have X52:RV _ u6 a 52 172 (.int .i64 emo):=HI.out.rh;have X53:RV _ u6 a 53 173 (.bool true):=HI.out.rh;have X54:RV _ u6 a 54 174 (.bool true):=HI.out.rh;have X55:RV _ u6 a 55 175 (.bool true):=HI.out.rh;have X56:RV _ u6 a 56 176 (.string nna):=HI.out.rh;have X57:RV _ u6 a 57 177 (.string nna):=HI.out.rh;have X58:RV _ u6 a 58 178 (.bool true):=HI.out.rh;have X59:RV _ u6 a 59 179 (.bool true):=HI.out.rh;have X60:RV _ u6 a 60 180 (.bool true):=HI.out.rh;have X61:RV _ u6 a 61 181 (.int .i64 eno):=HI.out.rh;have X62:RV _ u6 a 62 182 (.int .i64 eno):=HI.out.rh;have X63:RV _ u6 a 63 183 (.bool true):=HI.out.rh;have X64:RV _ u6 a 64 184 (.bool true):=HI.out.rh
     match i,him,Hr with
     | 0,_,Hi =>
       refine ax rfl fun K' hK=>?_;go_simp;exact hK.out _ _ ⟨HI.out.pv Hi.out rfl,trivial⟩
     | 1,_,Hi =>
       have x0:=X0.g Hi.out (by kernel_rfl);refine ax rfl fun K' hK=>?_;go_simp;with_reducible refine(C13.out _ (oM.out.trans (HI.out.world.mono oM.out.size))).mono ?_
       rintro e W' ⟨rfl,hb⟩;exact hK.out _ _ ⟨HI.out.pc Hi.out hb rfl,trivial⟩
     | 2,_,Hi =>
       refine ax rfl fun K' hK=>?_;go_simp;exact hK.out _ _ ⟨HI.out.pv Hi.out rfl,trivial⟩
     | 3,_,Hi =>
       have x2:=X2.g Hi.out (by kernel_rfl);refine ax rfl fun K' hK=>?_;go_simp;with_reducible refine(C14.out _ (oM.out.trans (HI.out.world.mono oM.out.size))).mono ?_
       rintro e W' ⟨rfl,hb⟩;exact hK.out _ _ ⟨HI.out.pc Hi.out hb rfl,trivial⟩
     | 4,_,Hi|5,_,Hi|6,_,Hi|7,_,Hi|8,_,Hi|9,_,Hi|10,_,Hi =>
       try have x1:=X1.g Hi.out (by decide +kernel)
       try have x3:=X3.g Hi.out (by decide +kernel)
       try have x4:=X4.g Hi.out (by decide +kernel)
       try have x5:=X5.g Hi.out (by decide +kernel)
       try have x6:=X6.g Hi.out (by decide +kernel)
       try have x7:=X7.g Hi.out (by decide +kernel)
       try have x8:=X8.g Hi.out (by decide +kernel)
       try have x9:=X9.g Hi.out (by decide +kernel)
       refine ax rfl fun K' hK=>?_;go_simp;exact hK.out _ _ ⟨HI.out.pv Hi.out rfl,trivial⟩
     | 11,_,Hi|12,_,Hi|13,_,Hi|14,_,Hi|15,_,Hi|16,_,Hi|17,_,Hi|18,_,Hi =>
       try have x10:=X10.g Hi.out (by decide +kernel)
       try have x11:=X11.g Hi.out (by decide +kernel)
       try have x12:=X12.g Hi.out (by decide +kernel)
       try have x13:=X13.g Hi.out (by decide +kernel)
       try have x14:=X14.g Hi.out (by decide +kernel)
       try have x15:=X15.g Hi.out (by decide +kernel)
       try have x16:=X16.g Hi.out (by decide +kernel)
       try have x17:=X17.g Hi.out (by decide +kernel)
       refine ax rfl fun K' hK=>?_;go_simp;exact hK.out _ _ ⟨HI.out.pv Hi.out rfl,trivial⟩
     | 19,_,Hi|20,_,Hi|21,_,Hi|22,_,Hi|23,_,Hi|24,_,Hi|25,_,Hi =>
       try have x15:=X15.g Hi.out (by decide +kernel)
       try have x18:=X18.g Hi.out (by decide +kernel)
       try have x19:=X19.g Hi.out (by decide +kernel)
       try have x20:=X20.g Hi.out (by decide +kernel)
       try have x21:=X21.g Hi.out (by decide +kernel)
       try have x22:=X22.g Hi.out (by decide +kernel)
       try have x23:=X23.g Hi.out (by decide +kernel)
       try have x24:=X24.g Hi.out (by decide +kernel)
       refine ax rfl fun K' hK=>?_;go_simp;exact hK.out _ _ ⟨HI.out.pv Hi.out rfl,trivial⟩
     | 26,_,Hi|27,_,Hi|28,_,Hi|29,_,Hi|30,_,Hi|31,_,Hi|32,_,Hi|33,_,Hi =>
       try have x25:=X25.g Hi.out (by decide +kernel)
       try have x26:=X26.g Hi.out (by decide +kernel)
       try have x27:=X27.g Hi.out (by decide +kernel)
       try have x28:=X28.g Hi.out (by decide +kernel)
       try have x29:=X29.g Hi.out (by decide +kernel)
       try have x30:=X30.g Hi.out (by decide +kernel)
       try have x31:=X31.g Hi.out (by decide +kernel)
       try have x32:=X32.g Hi.out (by decide +kernel)
       refine ax rfl fun K' hK=>?_;go_simp;exact hK.out _ _ ⟨HI.out.pv Hi.out rfl,trivial⟩
     | 34,_,Hi|35,_,Hi|36,_,Hi|37,_,Hi|38,_,Hi|39,_,Hi|40,_,Hi =>
       try have x30:=X30.g Hi.out (by decide +kernel)
       try have x33:=X33.g Hi.out (by decide +kernel)
       try have x34:=X34.g Hi.out (by decide +kernel)
       try have x35:=X35.g Hi.out (by decide +kernel)
       try have x36:=X36.g Hi.out (by decide +kernel)
       try have x37:=X37.g Hi.out (by decide +kernel)
       try have x38:=X38.g Hi.out (by decide +kernel)
       try have x39:=X39.g Hi.out (by decide +kernel)
       refine ax rfl fun K' hK=>?_;go_simp;exact hK.out _ _ ⟨HI.out.pv Hi.out rfl,trivial⟩
     | 41,_,Hi|42,_,Hi|43,_,Hi|44,_,Hi|45,_,Hi|46,_,Hi|47,_,Hi|48,_,Hi =>
       try have x40:=X40.g Hi.out (by decide +kernel)
       try have x41:=X41.g Hi.out (by decide +kernel)
       try have x42:=X42.g Hi.out (by decide +kernel)
       try have x43:=X43.g Hi.out (by decide +kernel)
       try have x44:=X44.g Hi.out (by decide +kernel)
       try have x45:=X45.g Hi.out (by decide +kernel)
       try have x46:=X46.g Hi.out (by decide +kernel)
       try have x47:=X47.g Hi.out (by decide +kernel)
       refine ax rfl fun K' hK=>?_;go_simp;exact hK.out _ _ ⟨HI.out.pv Hi.out rfl,trivial⟩
     | 49,_,Hi|50,_,Hi|51,_,Hi|52,_,Hi|53,_,Hi|54,_,Hi|55,_,Hi =>
       try have x45:=X45.g Hi.out (by decide +kernel)
       try have x48:=X48.g Hi.out (by decide +kernel)
       try have x49:=X49.g Hi.out (by decide +kernel)
       try have x50:=X50.g Hi.out (by decide +kernel)
       try have x51:=X51.g Hi.out (by decide +kernel)
       try have x52:=X52.g Hi.out (by decide +kernel)
       try have x53:=X53.g Hi.out (by decide +kernel)
       try have x54:=X54.g Hi.out (by decide +kernel)
       refine ax rfl fun K' hK=>?_;go_simp;exact hK.out _ _ ⟨HI.out.pv Hi.out rfl,trivial⟩
     | 56,_,Hi|57,_,Hi|58,_,Hi|59,_,Hi|60,_,Hi|61,_,Hi|62,_,Hi|63,_,Hi =>
       try have x55:=X55.g Hi.out (by decide +kernel)
       try have x56:=X56.g Hi.out (by decide +kernel)
       try have x57:=X57.g Hi.out (by decide +kernel)
       try have x58:=X58.g Hi.out (by decide +kernel)
       try have x59:=X59.g Hi.out (by decide +kernel)
       try have x60:=X60.g Hi.out (by decide +kernel)
       try have x61:=X61.g Hi.out (by decide +kernel)
       try have x62:=X62.g Hi.out (by decide +kernel)
       refine ax rfl fun K' hK=>?_;go_simp;exact hK.out _ _ ⟨HI.out.pv Hi.out rfl,trivial⟩
     | 64,_,Hi|65,_,Hi =>
       try have x60:=X60.g Hi.out (by decide +kernel)
       try have x63:=X63.g Hi.out (by decide +kernel)
       try have x64:=X64.g Hi.out (by decide +kernel)
       refine ax rfl fun K' hK=>?_;go_simp;exact hK.out _ _ ⟨HI.out.pv Hi.out rfl,trivial⟩
     | n+66,h,_=>exact absurd h (by omega)
   · intro u6 a W hI hD dn
     obtain ⟨dx,HI,HA⟩:=ae hI.world hI dn;clear hI dn;have dz:=hid (oM.out.trans (dx.out.mono oM.out.size));refine aR ?_;exact⟨rfl,(HI.out.finx ⟨HI.out.sx HA.out 0,HI.out.sx HA.out 1,HI.out.sx HA.out 2,HI.out.sx HA.out 3,HI.out.sx HA.out 4,HI.out.sx HA.out 5,HI.out.sx HA.out 6,HI.out.sx HA.out 7,HI.out.sx HA.out 8,HI.out.sx HA.out 9,HI.out.sx HA.out 10,HI.out.sx HA.out 11,HI.out.sx HA.out 12,HI.out.sx HA.out 13,HI.out.sx HA.out 14,HI.out.sx HA.out 15,HI.out.sx HA.out 16,HI.out.sx HA.out 17,HI.out.sx HA.out 18,HI.out.sx HA.out 19,HI.out.sx HA.out 20,HI.out.sx HA.out 21,HI.out.sx HA.out 22,HI.out.sx HA.out 23,HI.out.sx HA.out 24,HI.out.sx HA.out 25,HI.out.sx HA.out 26,HI.out.sx HA.out 27,HI.out.sx HA.out 28,HI.out.sx HA.out 29,HI.out.sx HA.out 30,HI.out.sx HA.out 31,HI.out.sx HA.out 32,HI.out.sx HA.out 33,HI.out.sx HA.out 34,HI.out.sx HA.out 35,HI.out.sx HA.out 36,HI.out.sx HA.out 37,HI.out.sx HA.out 38,HI.out.sx HA.out 39,HI.out.sx HA.out 40,HI.out.sx HA.out 41,HI.out.sx HA.out 42,HI.out.sx HA.out 43,HI.out.sx HA.out 44,HI.out.sx HA.out 45,HI.out.sx HA.out 46,HI.out.sx HA.out 47,HI.out.sx HA.out 48,HI.out.sx HA.out 49,HI.out.sx HA.out 50,HI.out.sx HA.out 51,HI.out.sx HA.out 52,HI.out.sx HA.out 53,HI.out.sx HA.out 54,HI.out.sx HA.out 55,HI.out.sx HA.out 56,HI.out.sx HA.out 57,HI.out.sx HA.out 58,HI.out.sx HA.out 59,HI.out.sx HA.out 60,HI.out.sx HA.out 61,HI.out.sx HA.out 62,HI.out.sx HA.out 63,HI.out.sx HA.out 64,HI.out.sx HA.out 65,trivial⟩ rfl),dz.out⟩
 rintro a' W24 ⟨rfl,z0⟩;have dX:=hid z0;clear z0;simp only[aV,List.setIfInBounds_toArray,List.set_cons_zero,List.set_cons_succ];go_wp2;exact bodyPost_ret (v:=.bool true) (by simp[results,results3,go_sem]) rfl ⟨rfl,dX.out⟩
theorem kq2 {f:Nat}{x y z:Rat}(h:∀ p1 c1 s1 d1 p2 c2 s2 d2 W,RN W (.slice p1 (ah x.num) c1) x.num.natAbs→RN W (.slice s1 (ai x.den) d1) x.den→RN W (.slice p2 (ah y.num) c2) y.num.natAbs→RN W (.slice s2 (ai y.den) d2) y.den→Calls Tryz.prog f #[.agg #[.bool (au x.num),.slice p1 (ah x.num) c1,.slice s1 (ai x.den) d1],.agg #[.bool (au y.num),.slice p2 (ah y.num) c2,.slice s2 (ai y.den) d2]] W fun e w'=>∃ p c s d,e=.returned (.agg #[.bool (au z.num),.slice p (ah z.num) c,.slice s (ai z.den) d])∧RN w' (.slice p (ah z.num) c) z.num.natAbs∧RN w' (.slice s (ai z.den) d) z.den∧Below W.heap.size W w'):KQ2 f x y z:=by
 rintro⟨b,a,n,c,e,m,d⟩ ⟨b',a',n',c',e',m',d'⟩ W ⟨h1,h2,h3,h4,h5⟩ ⟨k1,k2,k3,k4,k5⟩
 dsimp only at *;subst h1 h2 h3 k1 k2 k3;exact(h _ _ _ _ _ _ _ _ W h4 h5 k4 k5).mono fun _ _ ⟨p,c,s,d,he,hr,ht,hb⟩=>⟨⟨_,p,_,c,s,_,d⟩,he,⟨rfl,rfl,rfl,hr,ht⟩,hb⟩
theorem kp1 {f:Nat}{x:Rat}{v:Value}(h:∀ p1 c1 s1 d1 W,RN W (.slice p1 (ah x.num) c1) x.num.natAbs→RN W (.slice s1 (ai x.den) d1) x.den→Calls Tryz.prog f #[.agg #[.bool (au x.num),.slice p1 (ah x.num) c1,.slice s1 (ai x.den) d1]] W fun e w'=>e=.returned v∧Below W.heap.size W w'):KP1 f x v:=by
 rintro⟨b,a,n,c,e,m,d⟩ W ⟨h1,h2,h3,h4,h5⟩
 dsimp only at *;subst h1 h2 h3;exact h _ _ _ _ W h4 h5
theorem ks {f:Nat}{v:Value}{z:Rat}(h:∀ W,Calls Tryz.prog f #[v] W fun e w'=>∃ p c s d,e=.returned (.agg #[.bool (au z.num),.slice p (ah z.num) c,.slice s (ai z.den) d])∧RN w' (.slice p (ah z.num) c) z.num.natAbs∧RN w' (.slice s (ai z.den) d) z.den∧Below W.heap.size W w'):KS f v z:=fun W=>(h W).mono fun _ _ ⟨p,c,s,d,he,hr,ht,hb⟩=>⟨⟨_,p,_,c,s,_,d⟩,he,⟨rfl,rfl,rfl,hr,ht⟩,hb⟩
theorem ksb {f:Nat}{v:Value}{z:Rat}{b:Bool}(h:∀ W,Calls Tryz.prog f #[v] W fun e w'=>∃ p c s d,e=.returned (.tuple #[.agg #[.bool (au z.num),.slice p (ah z.num) c,.slice s (ai z.den) d],.bool b])∧RN w' (.slice p (ah z.num) c) z.num.natAbs∧RN w' (.slice s (ai z.den) d) z.den∧Below W.heap.size W w'):KSb f v z b:=fun W=>(h W).mono fun _ _ ⟨p,c,s,d,he,hr,ht,hb⟩=>⟨⟨_,p,_,c,s,_,d⟩,he,⟨rfl,rfl,rfl,hr,ht⟩,hb⟩
theorem dlq {q:Rat}{k:Nat}(h:SmQ k q)(hk:k+1≤10000):LQ q:=z3X (h.mono (Nat.le_succ k)) (Nat.succ_pos k) hk
theorem z1M {x:Rat}{k:Nat}(hx:SmQ k x)(hk:k≤900):KSb 37 (.string (Sq x)) x true:=ksb (fun W=>z2E x (hx.mono hk) (by have:=uj (hx.mono hk) (by decide);omega) W)
theorem kR (a:ByteArray)(ha:a.size≤900):∃ x,KSb 37 (.string a) x (vldQ a.data.toList):=by
 obtain⟨x,hx⟩:=zG a ha;exact⟨x,ksb hx⟩
theorem eTo {x:Rat}{k:Nat}(hx:SmQ k x)(hk:k≤9000):KP1 41 x (.string (Sq x)):=kp1 (sQTo x _ rfl (hx.mono hk))
theorem eMul {x y:Rat}{k l:Nat}(hx:SmQ k x)(hy:SmQ l y)(hk:k≤9000)(hl:l≤9000):KQ2 69 x y (x*y):=kq2 (z4L x y _ rfl (dlq hx (by omega)) (dlq hy (by omega)))
theorem eAdd {x y:Rat}{k l:Nat}(hx:SmQ k x)(hy:SmQ l y)(hk:k≤9000)(hl:l≤9000):KQ2 55 x y (x+y):=kq2 (z4b x y _ rfl (dlq hx (by omega)) (dlq hy (by omega)))
theorem eSub {x y:Rat}{k l:Nat}(hx:SmQ k x)(hy:SmQ l y)(hk:k≤9000)(hl:l≤9000):KQ2 57 x y (x-y):=kq2 (z4J x y _ rfl (dlq hx (by omega)) (dlq hy (by omega)))
theorem fVec {x y z:Rat}{k:Nat}(hx:SmQ k x)(hy:SmQ k y)(hz:SmQ k z)(hk:k≤900):KVb 36 (.agg #[.string (Sq x),.string (Sq y),.string (Sq z)]) x y z true:=fun W=>sW _ _ _ x y z true true true W (z1M hx hk) (z1M hy hk) (z1M hz hk)
theorem kQ {a b c:ByteArray}(ha:a.size≤20)(hb:b.size≤20)(hc:c.size≤20):∃ x y z,KVb 36 (.agg #[.string a,.string b,.string c]) x y z (vldQ a.data.toList&&vldQ b.data.toList&&vldQ c.data.toList):=by
 obtain⟨x,h1⟩:=kR a (by omega);obtain⟨y,h2⟩:=kR b (by omega);obtain⟨z,h3⟩:=kR c (by omega);exact⟨x,y,z,fun W=>sW a b c x y z _ _ _ W h1 h2 h3⟩
theorem z5a {xa xb xc ya yb yc:Rat}{k l:Nat}(hxa:SmQ k xa)(hxb:SmQ k xb)(hxc:SmQ k xc)(hya:SmQ l ya)(hyb:SmQ l yb)(hyc:SmQ l yc)(hk:k≤1000)(hl:l≤1000):KPl 32 xa xb xc ya yb yc (xa+ya) (xb+yb) (xc+yc) :=
 fun q0 q1 q2 q3 q4 q5 W r0 r1 r2 r3 r4 r5=>z0v xa xb xc ya yb yc _ _ _ q0 q1 q2 q3 q4 q5 W (eAdd hxa hya (by omega) (by omega)) (eAdd hxb hyb (by omega) (by omega)) (eAdd hxc hyc (by omega) (by omega)) r0 r1 r2 r3 r4 r5
theorem z4r {xa xb xc ya yb yc:Rat}{k l:Nat}(hxa:SmQ k xa)(hxb:SmQ k xb)(hxc:SmQ k xc)(hya:SmQ l ya)(hyb:SmQ l yb)(hyc:SmQ l yc)(hk:k≤1000)(hl:l≤1000):KPl 34 xa xb xc ya yb yc (xa-ya) (xb-yb) (xc-yc) :=
 fun q0 q1 q2 q3 q4 q5 W r0 r1 r2 r3 r4 r5=>yB xa xb xc ya yb yc _ _ _ q0 q1 q2 q3 q4 q5 W (eSub hxa hya (by omega) (by omega)) (eSub hxb hyb (by omega) (by omega)) (eSub hxc hyc (by omega) (by omega)) r0 r1 r2 r3 r4 r5
theorem z4q {xa xb xc c:Rat}{k l:Nat}(hxa:SmQ k xa)(hxb:SmQ k xb)(hxc:SmQ k xc)(hc:SmQ l c)(hk:k≤1000)(hl:l≤1000):KTj 38 xa xb xc c (xa*c) (xb*c) (xc*c) :=
 fun q0 q1 q2 q3 W r0 r1 r2 r3=>yw xa xb xc c _ _ _ q0 q1 q2 q3 W (eMul hxa hc (by omega) (by omega)) (eMul hxb hc (by omega) (by omega)) (eMul hxc hc (by omega) (by omega)) r0 r1 r2 r3
theorem z2L {xa xb xc ya yb yc:Rat}{k l:Nat}(hxa:SmQ k xa)(hxb:SmQ k xb)(hxc:SmQ k xc)(hya:SmQ l ya)(hyb:SmQ l yb)(hyc:SmQ l yc)(hk:k≤1000)(hl:l≤1000):KDot 42 xa xb xc ya yb yc (xa*ya+xb*yb+xc*yc):=by
 intro q0 q1 q2 q3 q4 q5 W r0 r1 r2 r3 r4 r5;have e:xa*ya+xb*yb+xc*yc=xa*ya+(xb*yb+xc*yc):=by grind
 rw[e];exact yC xa xb xc ya yb yc _ _ _ _ _ q0 q1 q2 q3 q4 q5 W (eMul hxa hya (by omega) (by omega)) (eMul hxb hyb (by omega) (by omega)) (eMul hxc hyc (by omega) (by omega)) (eAdd (hxb.mul hyb) (hxc.mul hyc) (by omega) (by omega)) (eAdd (hxa.mul hya) ((hxb.mul hyb).add (hxc.mul hyc)) (by omega) (by omega)) r0 r1 r2 r3 r4 r5
theorem z2K {xa xb xc ya yb yc:Rat}{k l:Nat}(hxa:SmQ k xa)(hxb:SmQ k xb)(hxc:SmQ k xc)(hya:SmQ l ya)(hyb:SmQ l yb)(hyc:SmQ l yc)(hk:k≤1000)(hl:l≤1000):KPl 44 xa xb xc ya yb yc (xb*yc-xc*yb) (xc*ya-xa*yc) (xa*yb-xb*ya) :=
 fun q0 q1 q2 q3 q4 q5 W r0 r1 r2 r3 r4 r5=>yA xa xb xc ya yb yc _ _ _ _ _ _ _ _ _ q0 q1 q2 q3 q4 q5 W (eMul hxb hyc (by omega) (by omega)) (eMul hxc hyb (by omega) (by omega)) (eSub (hxb.mul hyc) (hxc.mul hyb) (by omega) (by omega)) (eMul hxc hya (by omega) (by omega)) (eMul hxa hyc (by omega) (by omega)) (eSub (hxc.mul hya) (hxa.mul hyc) (by omega) (by omega)) (eMul hxa hyb (by omega) (by omega)) (eMul hxb hya (by omega) (by omega)) (eSub (hxa.mul hyb) (hxb.mul hya) (by omega) (by omega)) r0 r1 r2 r3 r4 r5
theorem z3t {xa xb xc ya yb yc za zb zc:Rat}(hxa:SmQ 20 xa)(hxb:SmQ 20 xb)(hxc:SmQ 20 xc)(hya:SmQ 20 ya)(hyb:SmQ 20 yb)(hyc:SmQ 20 yc)(hza:SmQ 20 za)(hzb:SmQ 20 zb)(hzc:SmQ 20 zc):KTr 45 xa xb xc ya yb yc za zb zc (xa*(yb*zc-yc*zb)+xb*(yc*za-ya*zc)+xc*(ya*zb-yb*za)) :=
 fun q0 q1 q2 q3 q4 q5 q6 q7 q8 W r0 r1 r2 r3 r4 r5 r6 r7 r8=>uW xa xb xc ya yb yc za zb zc _ _ _ _ q0 q1 q2 q3 q4 q5 q6 q7 q8 W (z2K hya hyb hyc hza hzb hzc (by decide) (by decide)) (z2L hxa hxb hxc ((hyb.mul hzc).sub (hyc.mul hzb)) ((hyc.mul hza).sub (hya.mul hzc)) ((hya.mul hzb).sub (hyb.mul hza)) (by decide) (by decide)) r0 r1 r2 r3 r4 r5 r6 r7 r8
theorem fTo {x y z:Rat}{k:Nat}(hx:SmQ k x)(hy:SmQ k y)(hz:SmQ k z)(hk:k≤9000):KOut 31 x y z (.agg #[.string (Sq x),.string (Sq y),.string (Sq z)]) :=
 fun q1 q2 q3 W h1 h2 h3=>z3v x y z _ _ _ q1 q2 q3 W (eTo hx hk) (eTo hy hk) (eTo hz hk) h1 h2 h3
theorem ym {xa xb xc ya yb yc:Rat}(hxa:SmQ 20 xa)(hxb:SmQ 20 xb)(hxc:SmQ 20 xc)(hya:SmQ 20 ya)(hyb:SmQ 20 yb)(hyc:SmQ 20 yc):KVV 30 (.agg #[.string (Sq xa),.string (Sq xb),.string (Sq xc)]) (.agg #[.string (Sq ya),.string (Sq yb),.string (Sq yc)]) xa xb xc ya yb yc 0:=fun W=>z3y _ _ _ _ _ _ xa xb xc ya yb yc W (fVec hxa hxb hxc (by decide)) (fVec hya hyb hyc (by decide))
theorem eG {x y z u v t:ByteArray}(hx:x.size≤20)(hy:y.size≤20)(hz:z.size≤20)(hu:u.size≤20)(hv:v.size≤20)(ht:t.size≤20)(h:(vldQ x.data.toList&&vldQ y.data.toList&&vldQ z.data.toList)=false∨(vldQ u.data.toList&&vldQ v.data.toList&&vldQ t.data.toList)=false):∃ xa xb xc ya yb yc,KVV 30 (.agg #[.string x,.string y,.string z]) (.agg #[.string u,.string v,.string t]) xa xb xc ya yb yc 1:=by
 obtain⟨xa,xb,xc,h1⟩:=kQ hx hy hz;obtain⟨ya,yb,yc,h2⟩:=kQ hu hv ht;refine⟨xa,xb,xc,ya,yb,yc,fun W=>z3x _ _ _ _ _ _ _ _ _ _ _ _ _ _ W h1 h2 ?_⟩;rcases h with h|h
 · exact Or.inl h
 · rw[h]
   cases (vldQ x.data.toList&&vldQ y.data.toList&&vldQ z.data.toList) with
   | false=>exact Or.inl rfl
   | true=>exact Or.inr ⟨rfl,rfl⟩
