/- garboardlaw11.VectorCrosses returns true: walks. -/
import Derived.Test.YtklfllmfcckgjaaGreatDoorMz50q
set_option maxRecDepth 100000
set_option maxHeartbeats 20000000
open Go.Lib (hid)
namespace Go.Proofs.YtklfllmfcckgjaaGreatDoor
open Go.RowKit Go.Gb
theorem tx_three' {k:Nat}{x y z:ByteArray}{u v t:Rat}(h1:Tx k x (some u))(h2:Tx k y (some v))(h3:Tx k z (some t)):(∃ q,(u=q∧x=Sq q)∧SmQ k q)∧(∃ q,(v=q∧y=Sq q)∧SmQ k q)∧(∃ q,(t=q∧z=Sq q)∧SmQ k q):=by
 have e:∀ {s:ByteArray} {o:Rat},Tx k s (some o)→∃ q,(o=q∧s=Sq q)∧SmQ k q:=by
  rintro s o (⟨q,h,rfl,hq⟩|⟨h,_⟩)
  · cases h;exact⟨_,⟨rfl,rfl⟩,hq⟩
  · cases h
 exact⟨e h1,e h2,e h3⟩
theorem div_of {x y z:Rat}(hz:z≠0)(h:x=y*z):x / z=y:=by
 subst h
 grind
theorem cr_ne {x y:Rat}(h:(decide (0<x)==decide (0<y))=false):x-y≠0:=by
 intro e
 have:x=y:=by grind
 subst this
 simp at h
theorem cr_pt {x y t:Rat}(h:(decide (0<x)==decide (0<y))=false)(ht:t*(x-y)=x):0≤t∧t≤1:=by
 have hc:(0<x∧y≤0)∨(x≤0∧0<y):=by
  by_cases h1:0<x
  · by_cases h2:0<y
    · rw[decide_eq_true h1,decide_eq_true h2]at h;cases h
    · exact Or.inl ⟨h1,Rat.not_lt.1 h2⟩
  · by_cases h2:0<y
    · exact Or.inr ⟨Rat.not_lt.1 h1,h2⟩
    · rw[decide_eq_false h1,decide_eq_false h2]at h;cases h
 rcases hc with⟨h1,h2⟩|⟨h1,h2⟩
 · have hd:0<x-y:=by grind
   constructor
   · rcases Rat.le_total (a:=0) (b:=t) with h3|h3
     · exact h3
     · have:=Rat.mul_nonneg (show(0:Rat) ≤ -t by grind) (show 0≤x-y by grind);grind
   · rcases Rat.le_total (a:=t) (b:=1) with h3|h3
     · exact h3
     · have:=Rat.mul_nonneg (show(0:Rat)≤t-1 by grind) (show 0≤x-y by grind)
       have h4:(t-1)*(x-y)=y:=by grind
       have h5:y=0:=by grind
       subst h5
       have h6:(t-1)*x=0:=by grind
       have h7:t=1:=by
        rcases Rat.mul_eq_zero.1 h6 with h|h<;>grind
       grind
 · have hd:0<y-x:=by grind
   constructor
   · rcases Rat.le_total (a:=0) (b:=t) with h3|h3
     · exact h3
     · have:=Rat.mul_nonneg (show(0:Rat) ≤ -t by grind) (show 0≤y-x by grind)
       have h4:(-t)*(y-x)=x:=by grind
       have h5:x=0:=by grind
       subst h5
       have h6:t*y=0:=by grind
       rcases Rat.mul_eq_zero.1 h6 with h|h<;>grind
   · rcases Rat.le_total (a:=t) (b:=1) with h3|h3
     · exact h3
     · have:=Rat.mul_nonneg (show(0:Rat)≤t-1 by grind) (show 0≤y-x by grind)
       have h4:(t-1)*(y-x) = -y:=by grind
       grind
theorem cr_in {a b t k:Rat}(h0:0≤t)(h1:t≤1)(hk:a+(b-a)*t=k):(a≤k∧k≤b)∨(b≤k∧k≤a):=by
 subst hk
 rcases Rat.le_total (a:=a) (b:=b) with h|h
 · have e1:=Rat.mul_nonneg (show 0≤b-a by grind) h0
   have e2:=Rat.mul_nonneg (show 0≤b-a by grind) (show 0≤1-t by grind)
   exact Or.inl ⟨by grind,by grind⟩
 · have e1:=Rat.mul_nonneg (show 0≤a-b by grind) h0
   have e2:=Rat.mul_nonneg (show 0≤a-b by grind) (show 0≤1-t by grind)
   exact Or.inr ⟨by grind,by grind⟩
theorem vcr_long (x1 x2 x3 g y1 y2 y3 z1 z2 z3:ByteArray)(b0:Bool)(w₀:World)  (hla:La w₀)(fw:decide (y1.size≤20∧y2.size≤20∧y3.size≤20∧z1.size≤20∧z2.size≤20∧z3.size≤20)=b0)(fx:(decide (g.size≤20∧(⟨#[]⟩:ByteArray).size≤20∧x1.size≤20∧x2.size≤20∧x3.size≤20)&&b0)=false) :
 CV w₀ 6 #[.agg #[.string x1,.string x2,.string x3,.string g],.agg #[.string y1,.string y2,.string y3],.agg #[.string z1,.string z2,.string z3]] (.bool true):=by
 intro w hw
 have HT:=hid (hla.on hw)
 have FW:=hid fw
 have FX:=hid fx
 clear hla fw fx hw
 go_enter Tryz.func6,Tryz.ntmps6
 go_upto_region 1 with fail
 refine wp_boxes w [(#[.string x1,.string x2,.string x3,.string g],28),(#[.string y1,.string y2,.string y3],24),(#[.string z1,.string z2,.string z3],24)] rfl ?_
 rintro W0 ⟨k1,k2,k3,hb⟩
 have HB0:=hid (show Below w.heap.size w W0 from hb)
 have K1:=hid k1
 have K2:=hid k2
 have K3:=hid k3
 clear k1 k2 k3 hb
 go_wp2_with fail
 with_reducible refine((vec_awake _ (HT.out.on HB0.out)).at).mono ?_
 rintro e W1 ⟨rfl,hb⟩
 have K1:=hid (K1.out.below hb)
 have K2:=hid (K2.out.below hb)
 have K3:=hid (K3.out.below hb)
 have HB1:=hbt HB0 hb
 clear hb
 have dK10:=K1.out.cell (i:=0) rfl
 have dK11:=K1.out.cell (i:=1) rfl
 have dK12:=K1.out.cell (i:=2) rfl
 have dK13:=K1.out.cell (i:=3) rfl
 have dK20:=K2.out.cell (i:=0) rfl
 have dK21:=K2.out.cell (i:=1) rfl
 have dK22:=K2.out.cell (i:=2) rfl
 have dK30:=K3.out.cell (i:=0) rfl
 have dK31:=K3.out.cell (i:=1) rfl
 have dK32:=K3.out.cell (i:=2) rfl
 go_wp2_with fail
 have hb:=below_new W1 (.cells #[.string y1,.string y2,.string y3,.string z1,.string z2,.string z3] 24)
 have k4:=SBk.new W1 #[.string y1,.string y2,.string y3,.string z1,.string z2,.string z3] 24
 generalize W1.alloc (.cells #[.string y1,.string y2,.string y3,.string z1,.string z2,.string z3] 24)=W2 at *
 have HB2:=hbt HB1 hb
 have K4:=hid k4
 clear k4 hb
 with_reducible refine((lfew _ _ _ _ _ _ b0 false _ (few_list2 _ y1 y2 y3 z1 z2 z3 b0 FW.out _ K4.out) FX.out).at).mono ?_
 rintro e W3 ⟨rfl,hb⟩
 clear dK10 dK11 dK12 dK13 dK20 dK21 dK22 dK30 dK31 dK32
 have HB3:=hbt HB2 hb
 clear hb
 go_wp2_with fail
 with_reducible refine((vec_awake _ (HT.out.on HB3.out)).at).mono ?_
 rintro e W4 ⟨rfl,hb⟩
 have HB4:=hbt HB3 hb
 clear hb
 go_wp2
 exact bodyPost_ret (v:=.bool true) (by simp[results,Tryz.results6,go_sem]) rfl ⟨rfl,HB4.out⟩
theorem vcr_e1 (x1 x2 x3 g y1 y2 y3 z1 z2 z3:ByteArray)(b0:Bool)(w₀:World)(h1:CV w₀ 23 #[.agg #[.string x1,.string x2,.string x3,.string g],.agg #[.string y1,.string y2,.string y3],.agg #[.string z1,.string z2,.string z3]] (.tuple #[.agg #[.string ⟨#[]⟩,.string ⟨#[]⟩,.string ⟨#[]⟩],.int .i64 1]))(h2:CV w₀ 23 #[.agg #[.string x1,.string x2,.string x3,.string g],.agg #[.string z1,.string z2,.string z3],.agg #[.string y1,.string y2,.string y3]] (.tuple #[.agg #[.string ⟨#[]⟩,.string ⟨#[]⟩,.string ⟨#[]⟩],.int .i64 1]))(hla:La w₀)(fw:decide (y1.size≤20∧y2.size≤20∧y3.size≤20∧z1.size≤20∧z2.size≤20∧z3.size≤20)=b0)(fx:(decide (g.size≤20∧(⟨#[]⟩:ByteArray).size≤20∧x1.size≤20∧x2.size≤20∧x3.size≤20)&&b0)=true) :
 CV w₀ 6 #[.agg #[.string x1,.string x2,.string x3,.string g],.agg #[.string y1,.string y2,.string y3],.agg #[.string z1,.string z2,.string z3]] (.bool true):=by
 intro w hw
 have C1:=hid (h1.mono hw)
 have C2:=hid (h2.mono hw)
 have HT:=hid (hla.on hw)
 have FW:=hid fw
 have FX:=hid fx
 clear hla fw fx h1 h2 hw
 go_enter Tryz.func6,Tryz.ntmps6
 go_upto_region 1 with fail
 refine wp_boxes w [(#[.string x1,.string x2,.string x3,.string g],28),(#[.string y1,.string y2,.string y3],24),(#[.string z1,.string z2,.string z3],24)] rfl ?_
 rintro W0 ⟨k1,k2,k3,hb⟩
 have HB0:=hid (show Below w.heap.size w W0 from hb)
 have K1:=hid k1
 have K2:=hid k2
 have K3:=hid k3
 clear k1 k2 k3 hb
 go_wp2_with fail
 with_reducible refine((vec_awake _ (HT.out.on HB0.out)).at).mono ?_
 rintro e W1 ⟨rfl,hb⟩
 have K1:=hid (K1.out.below hb)
 have K2:=hid (K2.out.below hb)
 have K3:=hid (K3.out.below hb)
 have HB1:=hbt HB0 hb
 clear hb
 have dK10:=K1.out.cell (i:=0) rfl
 have dK11:=K1.out.cell (i:=1) rfl
 have dK12:=K1.out.cell (i:=2) rfl
 have dK13:=K1.out.cell (i:=3) rfl
 have dK20:=K2.out.cell (i:=0) rfl
 have dK21:=K2.out.cell (i:=1) rfl
 have dK22:=K2.out.cell (i:=2) rfl
 have dK30:=K3.out.cell (i:=0) rfl
 have dK31:=K3.out.cell (i:=1) rfl
 have dK32:=K3.out.cell (i:=2) rfl
 go_wp2_with fail
 have hb:=below_new W1 (.cells #[.string y1,.string y2,.string y3,.string z1,.string z2,.string z3] 24)
 have k4:=SBk.new W1 #[.string y1,.string y2,.string y3,.string z1,.string z2,.string z3] 24
 generalize W1.alloc (.cells #[.string y1,.string y2,.string y3,.string z1,.string z2,.string z3] 24)=W2 at *
 have K1:=hid (K1.out.below hb)
 have K2:=hid (K2.out.below hb)
 have K3:=hid (K3.out.below hb)
 have HB2:=hbt HB1 hb
 have K4:=hid k4
 clear k4 hb
 with_reducible refine((lfew _ _ _ _ _ _ b0 true _ (few_list2 _ y1 y2 y3 z1 z2 z3 b0 FW.out _ K4.out) FX.out).at).mono ?_
 rintro e W3 ⟨rfl,hb⟩
 clear dK10 dK11 dK12 dK13 dK20 dK21 dK22 dK30 dK31 dK32
 have K1:=hid (K1.out.below hb)
 have K2:=hid (K2.out.below hb)
 have K3:=hid (K3.out.below hb)
 have K4:=hid (K4.out.below hb)
 have HB3:=hbt HB2 hb
 clear hb
 have dK10:=K1.out.cell (i:=0) rfl
 have dK11:=K1.out.cell (i:=1) rfl
 have dK12:=K1.out.cell (i:=2) rfl
 have dK13:=K1.out.cell (i:=3) rfl
 have dK20:=K2.out.cell (i:=0) rfl
 have dK21:=K2.out.cell (i:=1) rfl
 have dK22:=K2.out.cell (i:=2) rfl
 have dK30:=K3.out.cell (i:=0) rfl
 have dK31:=K3.out.cell (i:=1) rfl
 have dK32:=K3.out.cell (i:=2) rfl
 go_wp2_with fail
 with_reducible refine(C1.out _ HB3.out).mono ?_
 rintro e W4 ⟨rfl,hb⟩
 clear dK10 dK11 dK12 dK13 dK20 dK21 dK22 dK30 dK31 dK32
 have K1:=hid (K1.out.below hb)
 have K2:=hid (K2.out.below hb)
 have K3:=hid (K3.out.below hb)
 have K4:=hid (K4.out.below hb)
 have HB4:=hbt HB3 hb
 clear hb
 go_upto_region 4 with fail
 refine wp_boxes W4 [(#[.string ⟨#[]⟩,.string ⟨#[]⟩,.string ⟨#[]⟩],24)] rfl ?_
 have L1:=K1.out.lt
 have L2:=K2.out.lt
 have L3:=K3.out.lt
 have L4:=K4.out.lt
 have L5:=HB4.out.size
 rintro W5 ⟨k5,hb⟩
 have hb:Below W4.heap.size W4 W5:=hb
 have K1:=hid (K1.out.below hb)
 have K2:=hid (K2.out.below hb)
 have K3:=hid (K3.out.below hb)
 have K4:=hid (K4.out.below hb)
 have HB5:=hbt HB4 hb
 have K5:=hid k5
 clear k5 hb
 have dK10:=K1.out.cell (i:=0) rfl
 have dK11:=K1.out.cell (i:=1) rfl
 have dK12:=K1.out.cell (i:=2) rfl
 have dK13:=K1.out.cell (i:=3) rfl
 have dK30:=K3.out.cell (i:=0) rfl
 have dK31:=K3.out.cell (i:=1) rfl
 have dK32:=K3.out.cell (i:=2) rfl
 have dK20:=K2.out.cell (i:=0) rfl
 have dK21:=K2.out.cell (i:=1) rfl
 have dK22:=K2.out.cell (i:=2) rfl
 go_wp2_with fail
 with_reducible refine(C2.out _ HB5.out).mono ?_
 rintro e W6 ⟨rfl,hb⟩
 clear dK10 dK11 dK12 dK13 dK30 dK31 dK32 dK20 dK21 dK22
 have K1:=hid (K1.out.below hb)
 have K2:=hid (K2.out.below hb)
 have K3:=hid (K3.out.below hb)
 have K4:=hid (K4.out.below hb)
 have K5:=hid (K5.out.below hb)
 have HB6:=hbt HB5 hb
 clear hb
 go_upto_region 5 with fail
 refine wp_boxes W6 [(#[.string ⟨#[]⟩,.string ⟨#[]⟩,.string ⟨#[]⟩],24)] rfl ?_
 have L6:=K1.out.lt
 have L7:=K2.out.lt
 have L8:=K3.out.lt
 have L9:=K4.out.lt
 have L10:=K5.out.lt
 have L11:=HB6.out.size
 rintro W7 ⟨k6,hb⟩
 have hb:Below W6.heap.size W6 W7:=hb
 have K5:=hid (K5.out.below hb)
 have HB7:=hbt HB6 hb
 have K6:=hid k6
 clear k6 hb
 have dK50:=K5.out.cell (i:=0) rfl
 have dK51:=K5.out.cell (i:=1) rfl
 have dK52:=K5.out.cell (i:=2) rfl
 have dK60:=K6.out.cell (i:=0) rfl
 have dK61:=K6.out.cell (i:=1) rfl
 have dK62:=K6.out.cell (i:=2) rfl
 go_wp2
 exact bodyPost_ret (v:=.bool true) (by simp[results,Tryz.results6,go_sem]) rfl ⟨rfl,HB7.out⟩
theorem vcr_e11 (x1 x2 x3 g y1 y2 y3 z1 z2 z3:ByteArray)(b0:Bool)(w₀:World)(h1:CV w₀ 23 #[.agg #[.string x1,.string x2,.string x3,.string g],.agg #[.string y1,.string y2,.string y3],.agg #[.string z1,.string z2,.string z3]] (.tuple #[.agg #[.string ⟨#[]⟩,.string ⟨#[]⟩,.string ⟨#[]⟩],.int .i64 11]))(h2:CV w₀ 23 #[.agg #[.string x1,.string x2,.string x3,.string g],.agg #[.string z1,.string z2,.string z3],.agg #[.string y1,.string y2,.string y3]] (.tuple #[.agg #[.string ⟨#[]⟩,.string ⟨#[]⟩,.string ⟨#[]⟩],.int .i64 11]))(hla:La w₀)(fw:decide (y1.size≤20∧y2.size≤20∧y3.size≤20∧z1.size≤20∧z2.size≤20∧z3.size≤20)=b0)(fx:(decide (g.size≤20∧(⟨#[]⟩:ByteArray).size≤20∧x1.size≤20∧x2.size≤20∧x3.size≤20)&&b0)=true) :
 CV w₀ 6 #[.agg #[.string x1,.string x2,.string x3,.string g],.agg #[.string y1,.string y2,.string y3],.agg #[.string z1,.string z2,.string z3]] (.bool true):=by
 intro w hw
 have C1:=hid (h1.mono hw)
 have C2:=hid (h2.mono hw)
 have HT:=hid (hla.on hw)
 have FW:=hid fw
 have FX:=hid fx
 clear hla fw fx h1 h2 hw
 go_enter Tryz.func6,Tryz.ntmps6
 go_upto_region 1 with fail
 refine wp_boxes w [(#[.string x1,.string x2,.string x3,.string g],28),(#[.string y1,.string y2,.string y3],24),(#[.string z1,.string z2,.string z3],24)] rfl ?_
 rintro W0 ⟨k1,k2,k3,hb⟩
 have HB0:=hid (show Below w.heap.size w W0 from hb)
 have K1:=hid k1
 have K2:=hid k2
 have K3:=hid k3
 clear k1 k2 k3 hb
 go_wp2_with fail
 with_reducible refine((vec_awake _ (HT.out.on HB0.out)).at).mono ?_
 rintro e W1 ⟨rfl,hb⟩
 have K1:=hid (K1.out.below hb)
 have K2:=hid (K2.out.below hb)
 have K3:=hid (K3.out.below hb)
 have HB1:=hbt HB0 hb
 clear hb
 have dK10:=K1.out.cell (i:=0) rfl
 have dK11:=K1.out.cell (i:=1) rfl
 have dK12:=K1.out.cell (i:=2) rfl
 have dK13:=K1.out.cell (i:=3) rfl
 have dK20:=K2.out.cell (i:=0) rfl
 have dK21:=K2.out.cell (i:=1) rfl
 have dK22:=K2.out.cell (i:=2) rfl
 have dK30:=K3.out.cell (i:=0) rfl
 have dK31:=K3.out.cell (i:=1) rfl
 have dK32:=K3.out.cell (i:=2) rfl
 go_wp2_with fail
 have hb:=below_new W1 (.cells #[.string y1,.string y2,.string y3,.string z1,.string z2,.string z3] 24)
 have k4:=SBk.new W1 #[.string y1,.string y2,.string y3,.string z1,.string z2,.string z3] 24
 generalize W1.alloc (.cells #[.string y1,.string y2,.string y3,.string z1,.string z2,.string z3] 24)=W2 at *
 have K1:=hid (K1.out.below hb)
 have K2:=hid (K2.out.below hb)
 have K3:=hid (K3.out.below hb)
 have HB2:=hbt HB1 hb
 have K4:=hid k4
 clear k4 hb
 with_reducible refine((lfew _ _ _ _ _ _ b0 true _ (few_list2 _ y1 y2 y3 z1 z2 z3 b0 FW.out _ K4.out) FX.out).at).mono ?_
 rintro e W3 ⟨rfl,hb⟩
 clear dK10 dK11 dK12 dK13 dK20 dK21 dK22 dK30 dK31 dK32
 have K1:=hid (K1.out.below hb)
 have K2:=hid (K2.out.below hb)
 have K3:=hid (K3.out.below hb)
 have K4:=hid (K4.out.below hb)
 have HB3:=hbt HB2 hb
 clear hb
 have dK10:=K1.out.cell (i:=0) rfl
 have dK11:=K1.out.cell (i:=1) rfl
 have dK12:=K1.out.cell (i:=2) rfl
 have dK13:=K1.out.cell (i:=3) rfl
 have dK20:=K2.out.cell (i:=0) rfl
 have dK21:=K2.out.cell (i:=1) rfl
 have dK22:=K2.out.cell (i:=2) rfl
 have dK30:=K3.out.cell (i:=0) rfl
 have dK31:=K3.out.cell (i:=1) rfl
 have dK32:=K3.out.cell (i:=2) rfl
 go_wp2_with fail
 with_reducible refine(C1.out _ HB3.out).mono ?_
 rintro e W4 ⟨rfl,hb⟩
 clear dK10 dK11 dK12 dK13 dK20 dK21 dK22 dK30 dK31 dK32
 have K1:=hid (K1.out.below hb)
 have K2:=hid (K2.out.below hb)
 have K3:=hid (K3.out.below hb)
 have K4:=hid (K4.out.below hb)
 have HB4:=hbt HB3 hb
 clear hb
 go_upto_region 4 with fail
 refine wp_boxes W4 [(#[.string ⟨#[]⟩,.string ⟨#[]⟩,.string ⟨#[]⟩],24)] rfl ?_
 have L1:=K1.out.lt
 have L2:=K2.out.lt
 have L3:=K3.out.lt
 have L4:=K4.out.lt
 have L5:=HB4.out.size
 rintro W5 ⟨k5,hb⟩
 have hb:Below W4.heap.size W4 W5:=hb
 have K1:=hid (K1.out.below hb)
 have K2:=hid (K2.out.below hb)
 have K3:=hid (K3.out.below hb)
 have K4:=hid (K4.out.below hb)
 have HB5:=hbt HB4 hb
 have K5:=hid k5
 clear k5 hb
 have dK10:=K1.out.cell (i:=0) rfl
 have dK11:=K1.out.cell (i:=1) rfl
 have dK12:=K1.out.cell (i:=2) rfl
 have dK13:=K1.out.cell (i:=3) rfl
 have dK30:=K3.out.cell (i:=0) rfl
 have dK31:=K3.out.cell (i:=1) rfl
 have dK32:=K3.out.cell (i:=2) rfl
 have dK20:=K2.out.cell (i:=0) rfl
 have dK21:=K2.out.cell (i:=1) rfl
 have dK22:=K2.out.cell (i:=2) rfl
 go_wp2_with fail
 with_reducible refine(C2.out _ HB5.out).mono ?_
 rintro e W6 ⟨rfl,hb⟩
 clear dK10 dK11 dK12 dK13 dK30 dK31 dK32 dK20 dK21 dK22
 have K1:=hid (K1.out.below hb)
 have K2:=hid (K2.out.below hb)
 have K3:=hid (K3.out.below hb)
 have K4:=hid (K4.out.below hb)
 have K5:=hid (K5.out.below hb)
 have HB6:=hbt HB5 hb
 clear hb
 go_upto_region 5 with fail
 refine wp_boxes W6 [(#[.string ⟨#[]⟩,.string ⟨#[]⟩,.string ⟨#[]⟩],24)] rfl ?_
 have L6:=K1.out.lt
 have L7:=K2.out.lt
 have L8:=K3.out.lt
 have L9:=K4.out.lt
 have L10:=K5.out.lt
 have L11:=HB6.out.size
 rintro W7 ⟨k6,hb⟩
 have hb:Below W6.heap.size W6 W7:=hb
 have K5:=hid (K5.out.below hb)
 have HB7:=hbt HB6 hb
 have K6:=hid k6
 clear k6 hb
 have dK50:=K5.out.cell (i:=0) rfl
 have dK51:=K5.out.cell (i:=1) rfl
 have dK52:=K5.out.cell (i:=2) rfl
 have dK60:=K6.out.cell (i:=0) rfl
 have dK61:=K6.out.cell (i:=1) rfl
 have dK62:=K6.out.cell (i:=2) rfl
 go_wp2
 exact bodyPost_ret (v:=.bool true) (by simp[results,Tryz.results6,go_sem]) rfl ⟨rfl,HB7.out⟩
theorem vnCross0 {a1 a2 a3 b1 b2 b3:Rat}(h1:a2*b3-a3*b2=0)(h2:a3*b1-a1*b3=0)(h3:a1*b2-a2*b1=0){k l:Nat}(p1:SmQ k a1)(p2:SmQ k a2)(p3:SmQ k a3)(q1:SmQ l b1)(q2:SmQ l b2)(q3:SmQ l b3)(hk:k+l≤900)(w:World)(hla:La w):CV w 10 #[.agg #[.string (Sq a1),.string (Sq a2),.string (Sq a3)],.agg #[.string (Sq b1),.string (Sq b2),.string (Sq b3)]] (.tuple #[.agg #[.string ⟨#[48]⟩,.string ⟨#[48]⟩,.string ⟨#[48]⟩],.int .i64 0]):=by
 have h:=vnCross h1 h2 h3 p1 p2 p3 q1 q2 q3 hk w hla
 rwa [gq_0]at h
theorem vcr_yes (n1 n2 n3 c a1 a2 a3 b1 b2 b3:Rat)(b0:Bool)(pn1:SmQ 20 n1)(pn2:SmQ 20 n2)(pn3:SmQ 20 n3)(pc:SmQ 20 c)(pa1:SmQ 20 a1)(pa2:SmQ 20 a2)(pa3:SmQ 20 a3)(pb1:SmQ 20 b1)(pb2:SmQ 20 b2)(pb3:SmQ 20 b3)(hz:¬ (n1=0∧n2=0∧n3=0))(hbb:(decide (0<n1*a1+n2*a2+n3*a3-c)==decide (0<n1*b1+n2*b2+n3*b3-c))=false)(w₀:World)  (hla:La w₀)(fw:decide ((Sq a1).size≤20∧(Sq a2).size≤20∧(Sq a3).size≤20∧(Sq b1).size≤20∧(Sq b2).size≤20∧(Sq b3).size≤20)=b0)(fx:(decide ((Sq c).size≤20∧(⟨#[]⟩:ByteArray).size≤20∧(Sq n1).size≤20∧(Sq n2).size≤20∧(Sq n3).size≤20)&&b0)=true) :
 CV w₀ 6 #[.agg #[.string (Sq n1),.string (Sq n2),.string (Sq n3),.string (Sq c)],.agg #[.string (Sq a1),.string (Sq a2),.string (Sq a3)],.agg #[.string (Sq b1),.string (Sq b2),.string (Sq b3)]] (.bool true):=by
 intro w hw
 have HT:=hid (hla.on hw)
 have FW:=hid fw
 have FX:=hid fx
 obtain⟨f1,hf1⟩:∃ z,n1*a1+n2*a2+n3*a3-c=z:=⟨_,rfl⟩
 have pf1:SmQ 143 f1:=hf1▸((((pn1.mul pa1).add (pn2.mul pa2)).add (pn3.mul pa3)).sub pc)
 obtain⟨f2,hf2⟩:∃ z,n1*b1+n2*b2+n3*b3-c=z:=⟨_,rfl⟩
 have pf2:SmQ 143 f2:=hf2▸((((pn1.mul pb1).add (pn2.mul pb2)).add (pn3.mul pb3)).sub pc)
 have hb1:(decide (0<f1)==decide (0<f2))=false:=by rw[← hf1,← hf2];exact hbb
 have hb2:(decide (0<f2)==decide (0<f1))=false:=by cases e1:decide (0<f1)<;>cases e2:decide (0<f2)<;>first|rfl|(rw[e1,e2]at hb1;cases hb1)
 have hne1:f1-f2≠0:=cr_ne hb1
 have hne2:f2-f1≠0:=cr_ne hb2
 obtain⟨pt,hpt⟩:∃ z,f1 / (f1-f2)=z:=⟨_,rfl⟩
 have ppt:SmQ 430 pt:=hpt▸(pf1.div (pf1.sub pf2) hne1)
 have hm:pt*(f1-f2)=f1:=by rw[← hpt];exact Rat.div_mul_cancel hne1
 have ht:=cr_pt hb1 hm
 obtain⟨k1,hk1⟩:∃ z,a1+(b1-a1)*pt=z:=⟨_,rfl⟩
 have pk1:SmQ 492 k1:=hk1▸(pa1.add ((pb1.sub pa1).mul ppt))
 obtain⟨k2,hk2⟩:∃ z,a2+(b2-a2)*pt=z:=⟨_,rfl⟩
 have pk2:SmQ 492 k2:=hk2▸(pa2.add ((pb2.sub pa2).mul ppt))
 obtain⟨k3,hk3⟩:∃ z,a3+(b3-a3)*pt=z:=⟨_,rfl⟩
 have pk3:SmQ 492 k3:=hk3▸(pa3.add ((pb3.sub pa3).mul ppt))
 have EP:=hid (show f2 / (f2-f1)=1-pt from div_of hne2 (by grind))
 have EK1:=hid (show b1+(a1-b1)*(1-pt)=k1 from by rw[← hk1];grind)
 have EK2:=hid (show b2+(a2-b2)*(1-pt)=k2 from by rw[← hk2];grind)
 have EK3:=hid (show b3+(a3-b3)*(1-pt)=k3 from by rw[← hk3];grind)
 have ES:=hid (show n1*k1+n2*k2+n3*k3=c from by rw[← hk1,← hk2,← hk3];grind)
 have EF:=hid (show FitQ (n1*k1+n2*k2) from by
  have e:n1*k1+n2*k2=(f1*(n1*b1+n2*b2)-f2*(n1*a1+n2*a2)) / (f1-f2):=(div_of hne1 (by rw[← hk1,← hk2];grind)).symm
  rw[e]
  exact(((pf1.mul ((pn1.mul pb1).add (pn2.mul pb2))).sub (pf2.mul ((pn1.mul pa1).add (pn2.mul pa2)))).div (pf1.sub pf2) hne1).fit (by decide))
 obtain⟨w1,hw1⟩:∃ z,(b1-a1)*pt=z:=⟨_,rfl⟩
 have pw1:SmQ 471 w1:=hw1▸((pb1.sub pa1).mul ppt)
 obtain⟨w2,hw2⟩:∃ z,(b2-a2)*pt=z:=⟨_,rfl⟩
 have pw2:SmQ 471 w2:=hw2▸((pb2.sub pa2).mul ppt)
 obtain⟨w3,hw3⟩:∃ z,(b3-a3)*pt=z:=⟨_,rfl⟩
 have pw3:SmQ 471 w3:=hw3▸((pb3.sub pa3).mul ppt)
 obtain⟨d1,hd1⟩:∃ z,b1-a1=z:=⟨_,rfl⟩
 have pd1:SmQ 41 d1:=hd1▸(pb1.sub pa1)
 obtain⟨d2,hd2⟩:∃ z,b2-a2=z:=⟨_,rfl⟩
 have pd2:SmQ 41 d2:=hd2▸(pb2.sub pa2)
 obtain⟨d3,hd3⟩:∃ z,b3-a3=z:=⟨_,rfl⟩
 have pd3:SmQ 41 d3:=hd3▸(pb3.sub pa3)
 have EU1:=hid (show k1-a1=w1 from by rw[← hk1,← hw1];grind)
 have EU2:=hid (show k2-a2=w2 from by rw[← hk2,← hw2];grind)
 have EU3:=hid (show k3-a3=w3 from by rw[← hk3,← hw3];grind)
 have EX1:=hid (show w2*d3-w3*d2=0 from by rw[← hw2,← hw3,← hd2,← hd3];grind)
 have EX2:=hid (show w3*d1-w1*d3=0 from by rw[← hw3,← hw1,← hd3,← hd1];grind)
 have EX3:=hid (show w1*d2-w2*d1=0 from by rw[← hw1,← hw2,← hd1,← hd2];grind)
 have EI1:=hid (show(a1≤k1∧k1≤b1)∨(b1≤k1∧k1≤a1) from cr_in ht.1 ht.2 hk1)
 have EI2:=hid (show(a2≤k2∧k2≤b2)∨(b2≤k2∧k2≤a2) from cr_in ht.1 ht.2 hk2)
 have EI3:=hid (show(a3≤k3∧k3≤b3)∨(b3≤k3∧k3≤a3) from cr_in ht.1 ht.2 hk3)
 have Pn1':=hid pn1
 have Pn2':=hid pn2
 have Pn3':=hid pn3
 have Pc':=hid pc
 have Pa1':=hid pa1
 have Pa2':=hid pa2
 have Pa3':=hid pa3
 have Pb1':=hid pb1
 have Pb2':=hid pb2
 have Pb3':=hid pb3
 have Hz':=hid hz
 have Hbb':=hid hbb
 have Hf1':=hid hf1
 have Pf1':=hid pf1
 have Hf2':=hid hf2
 have Pf2':=hid pf2
 have Hb1':=hid hb1
 have Hb2':=hid hb2
 have Hne1':=hid hne1
 have Hne2':=hid hne2
 have Hpt':=hid hpt
 have Ppt':=hid ppt
 have Hk1':=hid hk1
 have Pk1':=hid pk1
 have Hk2':=hid hk2
 have Pk2':=hid pk2
 have Hk3':=hid hk3
 have Pk3':=hid pk3
 have Hw1':=hid hw1
 have Pw1':=hid pw1
 have Hw2':=hid hw2
 have Pw2':=hid pw2
 have Hw3':=hid hw3
 have Pw3':=hid pw3
 have Hd1':=hid hd1
 have Pd1':=hid pd1
 have Hd2':=hid hd2
 have Pd2':=hid pd2
 have Hd3':=hid hd3
 have Pd3':=hid pd3
 clear pd3 hd3 pd2 hd2 pd1 hd1 pw3 hw3 pw2 hw2 pw1 hw1 pk3 hk3 pk2 hk2 pk1 hk1 ht hm ppt hpt hne2 hne1 hb2 hb1 pf2 hf2 pf1 hf1 hbb hz fx fw pb3 pb2 pb1 pa3 pa2 pa1 pc pn3 pn2 pn1 hla hw
 go_enter Tryz.func6,Tryz.ntmps6
 go_upto_region 1 with fail
 refine wp_boxes w [(#[.string (Sq n1),.string (Sq n2),.string (Sq n3),.string (Sq c)],28),(#[.string (Sq a1),.string (Sq a2),.string (Sq a3)],24),(#[.string (Sq b1),.string (Sq b2),.string (Sq b3)],24)] rfl ?_
 rintro W0 ⟨k1,k2,k3,hb⟩
 have HB0:=hid (show Below w.heap.size w W0 from hb)
 have K1:=hid k1
 have K2:=hid k2
 have K3:=hid k3
 clear k1 k2 k3 hb
 go_wp2_with fail
 with_reducible refine((vec_awake _ (HT.out.on HB0.out)).at).mono ?_
 rintro e W1 ⟨rfl,hb⟩
 have K1:=hid (K1.out.below hb)
 have K2:=hid (K2.out.below hb)
 have K3:=hid (K3.out.below hb)
 have HB1:=hbt HB0 hb
 clear hb
 have dK10:=K1.out.cell (i:=0) rfl
 have dK11:=K1.out.cell (i:=1) rfl
 have dK12:=K1.out.cell (i:=2) rfl
 have dK13:=K1.out.cell (i:=3) rfl
 have dK20:=K2.out.cell (i:=0) rfl
 have dK21:=K2.out.cell (i:=1) rfl
 have dK22:=K2.out.cell (i:=2) rfl
 have dK30:=K3.out.cell (i:=0) rfl
 have dK31:=K3.out.cell (i:=1) rfl
 have dK32:=K3.out.cell (i:=2) rfl
 go_wp2_with fail
 have hb:=below_new W1 (.cells #[.string (Sq a1),.string (Sq a2),.string (Sq a3),.string (Sq b1),.string (Sq b2),.string (Sq b3)] 24)
 have k4:=SBk.new W1 #[.string (Sq a1),.string (Sq a2),.string (Sq a3),.string (Sq b1),.string (Sq b2),.string (Sq b3)] 24
 generalize W1.alloc (.cells #[.string (Sq a1),.string (Sq a2),.string (Sq a3),.string (Sq b1),.string (Sq b2),.string (Sq b3)] 24)=W2 at *
 have K1:=hid (K1.out.below hb)
 have K2:=hid (K2.out.below hb)
 have K3:=hid (K3.out.below hb)
 have HB2:=hbt HB1 hb
 have K4:=hid k4
 clear k4 hb
 with_reducible refine((lfew _ _ _ _ _ _ b0 true _ (few_list2 _ (Sq a1) (Sq a2) (Sq a3) (Sq b1) (Sq b2) (Sq b3) b0 FW.out _ K4.out) FX.out).at).mono ?_
 rintro e W3 ⟨rfl,hb⟩
 clear dK10 dK11 dK12 dK13 dK20 dK21 dK22 dK30 dK31 dK32
 have K1:=hid (K1.out.below hb)
 have K2:=hid (K2.out.below hb)
 have K3:=hid (K3.out.below hb)
 have K4:=hid (K4.out.below hb)
 have HB3:=hbt HB2 hb
 clear hb
 have dK10:=K1.out.cell (i:=0) rfl
 have dK11:=K1.out.cell (i:=1) rfl
 have dK12:=K1.out.cell (i:=2) rfl
 have dK13:=K1.out.cell (i:=3) rfl
 have dK20:=K2.out.cell (i:=0) rfl
 have dK21:=K2.out.cell (i:=1) rfl
 have dK22:=K2.out.cell (i:=2) rfl
 have dK30:=K3.out.cell (i:=0) rfl
 have dK31:=K3.out.cell (i:=1) rfl
 have dK32:=K3.out.cell (i:=2) rfl
 go_wp2_with fail
 with_reducible refine((nCrossing Hz'.out Hf1'.out Hf2'.out Hb1'.out Hne1'.out Hpt'.out Hk1'.out Hk2'.out Hk3'.out Pn1'.out Pn2'.out Pn3'.out Pc'.out Pa1'.out Pa2'.out Pa3'.out Pb1'.out Pb2'.out Pb3'.out _ (HT.out.on HB3.out)).at).mono ?_
 rintro e W4 ⟨rfl,hb⟩
 clear dK10 dK11 dK12 dK13 dK20 dK21 dK22 dK30 dK31 dK32
 have K1:=hid (K1.out.below hb)
 have K2:=hid (K2.out.below hb)
 have K3:=hid (K3.out.below hb)
 have K4:=hid (K4.out.below hb)
 have HB4:=hbt HB3 hb
 clear hb
 go_upto_region 4 with fail
 refine wp_boxes W4 [(#[.string (Sq k1),.string (Sq k2),.string (Sq k3)],24)] rfl ?_
 have L1:=K1.out.lt
 have L2:=K2.out.lt
 have L3:=K3.out.lt
 have L4:=K4.out.lt
 have L5:=HB4.out.size
 rintro W5 ⟨k5,hb⟩
 have hb:Below W4.heap.size W4 W5:=hb
 have K1:=hid (K1.out.below hb)
 have K2:=hid (K2.out.below hb)
 have K3:=hid (K3.out.below hb)
 have K4:=hid (K4.out.below hb)
 have HB5:=hbt HB4 hb
 have K5:=hid k5
 clear k5 hb
 have dK10:=K1.out.cell (i:=0) rfl
 have dK11:=K1.out.cell (i:=1) rfl
 have dK12:=K1.out.cell (i:=2) rfl
 have dK13:=K1.out.cell (i:=3) rfl
 have dK30:=K3.out.cell (i:=0) rfl
 have dK31:=K3.out.cell (i:=1) rfl
 have dK32:=K3.out.cell (i:=2) rfl
 have dK20:=K2.out.cell (i:=0) rfl
 have dK21:=K2.out.cell (i:=1) rfl
 have dK22:=K2.out.cell (i:=2) rfl
 go_wp2_with fail
 with_reducible refine((nCrossing Hz'.out Hf2'.out Hf1'.out Hb2'.out Hne2'.out EP.out EK1.out EK2.out EK3.out Pn1'.out Pn2'.out Pn3'.out Pc'.out Pb1'.out Pb2'.out Pb3'.out Pa1'.out Pa2'.out Pa3'.out _ (HT.out.on HB5.out)).at).mono ?_
 rintro e W6 ⟨rfl,hb⟩
 clear dK10 dK11 dK12 dK13 dK30 dK31 dK32 dK20 dK21 dK22
 have K1:=hid (K1.out.below hb)
 have K2:=hid (K2.out.below hb)
 have K3:=hid (K3.out.below hb)
 have K4:=hid (K4.out.below hb)
 have K5:=hid (K5.out.below hb)
 have HB6:=hbt HB5 hb
 clear hb
 go_upto_region 5 with fail
 refine wp_boxes W6 [(#[.string (Sq k1),.string (Sq k2),.string (Sq k3)],24)] rfl ?_
 have L6:=K1.out.lt
 have L7:=K2.out.lt
 have L8:=K3.out.lt
 have L9:=K4.out.lt
 have L10:=K5.out.lt
 have L11:=HB6.out.size
 rintro W7 ⟨k6,hb⟩
 have hb:Below W6.heap.size W6 W7:=hb
 have K1:=hid (K1.out.below hb)
 have K2:=hid (K2.out.below hb)
 have K3:=hid (K3.out.below hb)
 have K4:=hid (K4.out.below hb)
 have K5:=hid (K5.out.below hb)
 have HB7:=hbt HB6 hb
 have K6:=hid k6
 clear k6 hb
 have dK10:=K1.out.cell (i:=0) rfl
 have dK11:=K1.out.cell (i:=1) rfl
 have dK12:=K1.out.cell (i:=2) rfl
 have dK13:=K1.out.cell (i:=3) rfl
 have dK50:=K5.out.cell (i:=0) rfl
 have dK51:=K5.out.cell (i:=1) rfl
 have dK52:=K5.out.cell (i:=2) rfl
 go_wp2_with fail
 with_reducible refine((nSide Hz'.out ES.out (show c-c=0 from by grind) (show cmpQ (0:Rat) 0=0 from cmpQ_eq 0) Pn1'.out Pn2'.out Pn3'.out Pk1'.out Pk2'.out Pk3'.out (by decide) EF.out (Pc'.out.fit (by decide)) (Pc'.out.fit (by decide)) fitq0 _ (HT.out.on HB7.out)).at).mono ?_
 rintro e W8 ⟨rfl,hb⟩
 clear dK10 dK11 dK12 dK13 dK50 dK51 dK52
 have K1:=hid (K1.out.below hb)
 have K2:=hid (K2.out.below hb)
 have K3:=hid (K3.out.below hb)
 have K4:=hid (K4.out.below hb)
 have K5:=hid (K5.out.below hb)
 have K6:=hid (K6.out.below hb)
 have HB8:=hbt HB7 hb
 clear hb
 have dK50:=K5.out.cell (i:=0) rfl
 have dK51:=K5.out.cell (i:=1) rfl
 have dK52:=K5.out.cell (i:=2) rfl
 have dK20:=K2.out.cell (i:=0) rfl
 have dK21:=K2.out.cell (i:=1) rfl
 have dK22:=K2.out.cell (i:=2) rfl
 go_wp2_with fail
 with_reducible refine((vnSub EU1.out EU2.out EU3.out Pk1'.out Pk2'.out Pk3'.out Pa1'.out Pa2'.out Pa3'.out (by decide) (by decide) _ (HT.out.on HB8.out)).at).mono ?_
 rintro e W9 ⟨rfl,hb⟩
 clear dK50 dK51 dK52 dK20 dK21 dK22
 have K1:=hid (K1.out.below hb)
 have K2:=hid (K2.out.below hb)
 have K3:=hid (K3.out.below hb)
 have K4:=hid (K4.out.below hb)
 have K5:=hid (K5.out.below hb)
 have K6:=hid (K6.out.below hb)
 have HB9:=hbt HB8 hb
 clear hb
 go_upto_region 9 with fail
 refine wp_boxes W9 [(#[.string (Sq w1),.string (Sq w2),.string (Sq w3)],24)] rfl ?_
 have L12:=K1.out.lt
 have L13:=K2.out.lt
 have L14:=K3.out.lt
 have L15:=K4.out.lt
 have L16:=K5.out.lt
 have L17:=K6.out.lt
 have L18:=HB9.out.size
 rintro W10 ⟨k7,hb⟩
 have hb:Below W9.heap.size W9 W10:=hb
 have K1:=hid (K1.out.below hb)
 have K2:=hid (K2.out.below hb)
 have K3:=hid (K3.out.below hb)
 have K4:=hid (K4.out.below hb)
 have K5:=hid (K5.out.below hb)
 have K6:=hid (K6.out.below hb)
 have HB10:=hbt HB9 hb
 have K7:=hid k7
 clear k7 hb
 have dK30:=K3.out.cell (i:=0) rfl
 have dK31:=K3.out.cell (i:=1) rfl
 have dK32:=K3.out.cell (i:=2) rfl
 have dK20:=K2.out.cell (i:=0) rfl
 have dK21:=K2.out.cell (i:=1) rfl
 have dK22:=K2.out.cell (i:=2) rfl
 go_wp2_with fail
 with_reducible refine((vnSub Hd1'.out Hd2'.out Hd3'.out Pb1'.out Pb2'.out Pb3'.out Pa1'.out Pa2'.out Pa3'.out (by decide) (by decide) _ (HT.out.on HB10.out)).at).mono ?_
 rintro e W11 ⟨rfl,hb⟩
 clear dK30 dK31 dK32 dK20 dK21 dK22
 have K1:=hid (K1.out.below hb)
 have K2:=hid (K2.out.below hb)
 have K3:=hid (K3.out.below hb)
 have K4:=hid (K4.out.below hb)
 have K5:=hid (K5.out.below hb)
 have K6:=hid (K6.out.below hb)
 have K7:=hid (K7.out.below hb)
 have HB11:=hbt HB10 hb
 clear hb
 go_upto_region 10 with fail
 refine wp_boxes W11 [(#[.string (Sq d1),.string (Sq d2),.string (Sq d3)],24)] rfl ?_
 have L19:=K1.out.lt
 have L20:=K2.out.lt
 have L21:=K3.out.lt
 have L22:=K4.out.lt
 have L23:=K5.out.lt
 have L24:=K6.out.lt
 have L25:=K7.out.lt
 have L26:=HB11.out.size
 rintro W12 ⟨k8,hb⟩
 have hb:Below W11.heap.size W11 W12:=hb
 have K1:=hid (K1.out.below hb)
 have K2:=hid (K2.out.below hb)
 have K3:=hid (K3.out.below hb)
 have K4:=hid (K4.out.below hb)
 have K5:=hid (K5.out.below hb)
 have K6:=hid (K6.out.below hb)
 have K7:=hid (K7.out.below hb)
 have HB12:=hbt HB11 hb
 have K8:=hid k8
 clear k8 hb
 have dK70:=K7.out.cell (i:=0) rfl
 have dK71:=K7.out.cell (i:=1) rfl
 have dK72:=K7.out.cell (i:=2) rfl
 have dK80:=K8.out.cell (i:=0) rfl
 have dK81:=K8.out.cell (i:=1) rfl
 have dK82:=K8.out.cell (i:=2) rfl
 go_wp2_with fail
 with_reducible refine((vnCross0 EX1.out EX2.out EX3.out Pw1'.out Pw2'.out Pw3'.out Pd1'.out Pd2'.out Pd3'.out (by decide) _ (HT.out.on HB12.out)).at).mono ?_
 rintro e W13 ⟨rfl,hb⟩
 clear dK70 dK71 dK72 dK80 dK81 dK82
 have K1:=hid (K1.out.below hb)
 have K2:=hid (K2.out.below hb)
 have K3:=hid (K3.out.below hb)
 have K4:=hid (K4.out.below hb)
 have K5:=hid (K5.out.below hb)
 have K6:=hid (K6.out.below hb)
 have K7:=hid (K7.out.below hb)
 have K8:=hid (K8.out.below hb)
 have HB13:=hbt HB12 hb
 clear hb
 go_upto_region 11 with fail
 refine wp_boxes W13 [(#[.string ⟨#[48]⟩,.string ⟨#[48]⟩,.string ⟨#[48]⟩],24)] rfl ?_
 have L27:=K1.out.lt
 have L28:=K2.out.lt
 have L29:=K3.out.lt
 have L30:=K4.out.lt
 have L31:=K5.out.lt
 have L32:=K6.out.lt
 have L33:=K7.out.lt
 have L34:=K8.out.lt
 have L35:=HB13.out.size
 rintro W14 ⟨k9,hb⟩
 have hb:Below W13.heap.size W13 W14:=hb
 have K2:=hid (K2.out.below hb)
 have K3:=hid (K3.out.below hb)
 have K5:=hid (K5.out.below hb)
 have K6:=hid (K6.out.below hb)
 have HB14:=hbt HB13 hb
 have K9:=hid k9
 clear k9 hb
 go_wp2_with fail
 refine wp_region_post (fun a0 a' V=>a'=⟨putL [(84,.int .i64 0),(85,.bool true),(86,.bool true),(87,.int .i64 0),(88,.bool true),(89,.bool true),(90,.bool true),(91,.int .i64 0),(92,.bool true),(93,.bool true),(94,.bool true),(95,.agg #[.string (Sq k1),.string (Sq k2),.string (Sq k3)]),(96,.agg #[.string (Sq k1),.string (Sq k2),.string (Sq k3)]),(97,.bool true),(98,.bool true),(99,.bool true),(100,.int .i64 0),(101,.bool true),(102,.bool true),(103,.bool true),(104,.agg #[.string ⟨#[48]⟩,.string ⟨#[48]⟩,.string ⟨#[48]⟩]),(105,.agg #[.string ⟨#[48]⟩,.string ⟨#[48]⟩,.string ⟨#[48]⟩]),(106,.bool true),(107,.bool true),(108,.bool true),(109,.func (.func 24) #[] #[]),(110,.pointer (some ⟨w.heap.size+1,0,none⟩)),(111,.string (Sq a1)),(112,.pointer (some ⟨w.heap.size+1+1,0,none⟩)),(113,.string (Sq b1)),(114,.pointer (some ⟨W4.heap.size,0,none⟩)),(115,.string (Sq k1)),(116,.bool true),(117,.bool true),(118,.bool true),(119,.func (.func 24) #[] #[]),(120,.pointer (some ⟨w.heap.size+1,1,none⟩)),(121,.string (Sq a2)),(122,.pointer (some ⟨w.heap.size+1+1,1,none⟩)),(123,.string (Sq b2)),(124,.pointer (some ⟨W4.heap.size,1,none⟩)),(125,.string (Sq k2)),(126,.bool true),(127,.bool true),(128,.bool true),(129,.func (.func 24) #[] #[]),(130,.pointer (some ⟨w.heap.size+1,2,none⟩)),(131,.string (Sq a3)),(132,.pointer (some ⟨w.heap.size+1+1,2,none⟩)),(133,.string (Sq b3)),(134,.pointer (some ⟨W4.heap.size,2,none⟩)),(135,.string (Sq k3)),(136,.bool true),(137,.bool true),(6,.bool true)] a0.tmps,a0.defers⟩∧Below w.heap.size w V) ?_ ?_
 · refine wp_region_tail_d (by kernel_rfl) 55 0 (fun i=>[84,85,86,87,88,89,90,91,92,93,94,95,96,97,98,99,100,101,102,103,104,105,106,107,108,109,110,111,112,113,114,115,116,117,118,119,120,121,122,123,124,125,126,127,128,129,130,131,132,133,134,135,136,137,6].getD i 0) (RelR [Rel.val (.int .i64 0),Rel.val (.bool true),Rel.val (.bool true),Rel.val (.int .i64 0),Rel.val (.bool true),Rel.val (.bool true),Rel.val (.bool true),Rel.val (.int .i64 0),Rel.val (.bool true),Rel.val (.bool true),Rel.val (.bool true),Rel.val (.agg #[.string (Sq k1),.string (Sq k2),.string (Sq k3)]),Rel.val (.agg #[.string (Sq k1),.string (Sq k2),.string (Sq k3)]),Rel.val (.bool true),Rel.val (.bool true),Rel.val (.bool true),Rel.val (.int .i64 0),Rel.val (.bool true),Rel.val (.bool true),Rel.val (.bool true),Rel.val (.agg #[.string ⟨#[48]⟩,.string ⟨#[48]⟩,.string ⟨#[48]⟩]),Rel.val (.agg #[.string ⟨#[48]⟩,.string ⟨#[48]⟩,.string ⟨#[48]⟩]),Rel.val (.bool true),Rel.val (.bool true),Rel.val (.bool true),Rel.val (.func (.func 24) #[] #[]),Rel.val (.pointer (some ⟨w.heap.size+1,0,none⟩)),Rel.val (.string (Sq a1)),Rel.val (.pointer (some ⟨w.heap.size+1+1,0,none⟩)),Rel.val (.string (Sq b1)),Rel.val (.pointer (some ⟨W4.heap.size,0,none⟩)),Rel.val (.string (Sq k1)),Rel.val (.bool true),Rel.val (.bool true),Rel.val (.bool true),Rel.val (.func (.func 24) #[] #[]),Rel.val (.pointer (some ⟨w.heap.size+1,1,none⟩)),Rel.val (.string (Sq a2)),Rel.val (.pointer (some ⟨w.heap.size+1+1,1,none⟩)),Rel.val (.string (Sq b2)),Rel.val (.pointer (some ⟨W4.heap.size,1,none⟩)),Rel.val (.string (Sq k2)),Rel.val (.bool true),Rel.val (.bool true),Rel.val (.bool true),Rel.val (.func (.func 24) #[] #[]),Rel.val (.pointer (some ⟨w.heap.size+1,2,none⟩)),Rel.val (.string (Sq a3)),Rel.val (.pointer (some ⟨w.heap.size+1+1,2,none⟩)),Rel.val (.string (Sq b3)),Rel.val (.pointer (some ⟨W4.heap.size,2,none⟩)),Rel.val (.string (Sq k3)),Rel.val (.bool true),Rel.val (.bool true),Rel.val (.bool true)]) (fun W=>Below W14.heap.size W14 W) (fun _ _=>True) (by kernel_rfl) (by kernel_rfl) (by kernel_rfl) trivial (Below.refl _ _).drew ?_ ?_
   · intro listed a W i hI hD hrd him
     have HI:=hid hI
     have HD:=hid hD
     have Hr:=hid hrd
     clear hI hrd hD
     have y10:a.tmps[10]? = some (.int .i64 0):=HI.out.rest 10 (by decide)
     have y12:a.tmps[12]? = some (.int .i64 0):=HI.out.rest 12 (by decide)
     have y18:a.tmps[18]? = some (.int .i64 0):=HI.out.rest 18 (by decide)
     have y7:a.tmps[7]? = some (.pointer (some ⟨W4.heap.size,0,none⟩)):=HI.out.rest 7 (by decide)
     have y9:a.tmps[9]? = some (.pointer (some ⟨W6.heap.size,0,none⟩)):=HI.out.rest 9 (by decide)
     have y11:a.tmps[11]? = some (.int .i64 0):=HI.out.rest 11 (by decide)
     have y17:a.tmps[17]? = some (.pointer (some ⟨W13.heap.size,0,none⟩)):=HI.out.rest 17 (by decide)
     have y19:a.tmps[19]? = some (.func (.func 24) #[] #[]):=HI.out.rest 19 (by decide)
     have y4:a.tmps[4]? = some (.pointer (some ⟨w.heap.size+1,0,none⟩)):=HI.out.rest 4 (by decide)
     have y5:a.tmps[5]? = some (.pointer (some ⟨w.heap.size+1+1,0,none⟩)):=HI.out.rest 5 (by decide)
     have dK50:=(K5.out.below HI.out.world).cell (i:=0) rfl
     have dK51:=(K5.out.below HI.out.world).cell (i:=1) rfl
     have dK52:=(K5.out.below HI.out.world).cell (i:=2) rfl
     have dK60:=(K6.out.below HI.out.world).cell (i:=0) rfl
     have dK61:=(K6.out.below HI.out.world).cell (i:=1) rfl
     have dK62:=(K6.out.below HI.out.world).cell (i:=2) rfl
     have dK90:=(K9.out.below HI.out.world).cell (i:=0) rfl
     have dK91:=(K9.out.below HI.out.world).cell (i:=1) rfl
     have dK92:=(K9.out.below HI.out.world).cell (i:=2) rfl
     have dK20:=(K2.out.below HI.out.world).cell (i:=0) rfl
     have dK30:=(K3.out.below HI.out.world).cell (i:=0) rfl
     have dK21:=(K2.out.below HI.out.world).cell (i:=1) rfl
     have dK31:=(K3.out.below HI.out.world).cell (i:=1) rfl
     have dK22:=(K2.out.below HI.out.world).cell (i:=2) rfl
     have dK32:=(K3.out.below HI.out.world).cell (i:=2) rfl
     have X0:RV _ listed a 0 84 (.int .i64 0):=HI.out.rh
     have X1:RV _ listed a 1 85 (.bool true):=HI.out.rh
     have X2:RV _ listed a 2 86 (.bool true):=HI.out.rh
     have X3:RV _ listed a 3 87 (.int .i64 0):=HI.out.rh
     have X4:RV _ listed a 4 88 (.bool true):=HI.out.rh
     have X5:RV _ listed a 5 89 (.bool true):=HI.out.rh
     have X6:RV _ listed a 6 90 (.bool true):=HI.out.rh
     have X7:RV _ listed a 7 91 (.int .i64 0):=HI.out.rh
     have X8:RV _ listed a 8 92 (.bool true):=HI.out.rh
     have X9:RV _ listed a 9 93 (.bool true):=HI.out.rh
     have X10:RV _ listed a 10 94 (.bool true):=HI.out.rh
     have X11:RV _ listed a 11 95 (.agg #[.string (Sq k1),.string (Sq k2),.string (Sq k3)]):=HI.out.rh
     have X12:RV _ listed a 12 96 (.agg #[.string (Sq k1),.string (Sq k2),.string (Sq k3)]):=HI.out.rh
     have X13:RV _ listed a 13 97 (.bool true):=HI.out.rh
     have X14:RV _ listed a 14 98 (.bool true):=HI.out.rh
     have X15:RV _ listed a 15 99 (.bool true):=HI.out.rh
     have X16:RV _ listed a 16 100 (.int .i64 0):=HI.out.rh
     have X17:RV _ listed a 17 101 (.bool true):=HI.out.rh
     have X18:RV _ listed a 18 102 (.bool true):=HI.out.rh
     have X19:RV _ listed a 19 103 (.bool true):=HI.out.rh
     have X20:RV _ listed a 20 104 (.agg #[.string ⟨#[48]⟩,.string ⟨#[48]⟩,.string ⟨#[48]⟩]):=HI.out.rh
     have X21:RV _ listed a 21 105 (.agg #[.string ⟨#[48]⟩,.string ⟨#[48]⟩,.string ⟨#[48]⟩]):=HI.out.rh
     have X22:RV _ listed a 22 106 (.bool true):=HI.out.rh
     have X23:RV _ listed a 23 107 (.bool true):=HI.out.rh
     have X24:RV _ listed a 24 108 (.bool true):=HI.out.rh
     have X26:RV _ listed a 26 110 (.pointer (some ⟨w.heap.size+1,0,none⟩)):=HI.out.rh
     have X28:RV _ listed a 28 112 (.pointer (some ⟨w.heap.size+1+1,0,none⟩)):=HI.out.rh
     have X30:RV _ listed a 30 114 (.pointer (some ⟨W4.heap.size,0,none⟩)):=HI.out.rh
     have X25:RV _ listed a 25 109 (.func (.func 24) #[] #[]):=HI.out.rh
     have X27:RV _ listed a 27 111 (.string (Sq a1)):=HI.out.rh
     have X29:RV _ listed a 29 113 (.string (Sq b1)):=HI.out.rh
     have X31:RV _ listed a 31 115 (.string (Sq k1)):=HI.out.rh
     have X32:RV _ listed a 32 116 (.bool true):=HI.out.rh
     have X33:RV _ listed a 33 117 (.bool true):=HI.out.rh
     have X34:RV _ listed a 34 118 (.bool true):=HI.out.rh
     have X36:RV _ listed a 36 120 (.pointer (some ⟨w.heap.size+1,1,none⟩)):=HI.out.rh
     have X38:RV _ listed a 38 122 (.pointer (some ⟨w.heap.size+1+1,1,none⟩)):=HI.out.rh
     have X40:RV _ listed a 40 124 (.pointer (some ⟨W4.heap.size,1,none⟩)):=HI.out.rh
     have X35:RV _ listed a 35 119 (.func (.func 24) #[] #[]):=HI.out.rh
     have X37:RV _ listed a 37 121 (.string (Sq a2)):=HI.out.rh
     have X39:RV _ listed a 39 123 (.string (Sq b2)):=HI.out.rh
     have X41:RV _ listed a 41 125 (.string (Sq k2)):=HI.out.rh
     have X42:RV _ listed a 42 126 (.bool true):=HI.out.rh
     have X43:RV _ listed a 43 127 (.bool true):=HI.out.rh
     have X44:RV _ listed a 44 128 (.bool true):=HI.out.rh
     have X46:RV _ listed a 46 130 (.pointer (some ⟨w.heap.size+1,2,none⟩)):=HI.out.rh
     have X48:RV _ listed a 48 132 (.pointer (some ⟨w.heap.size+1+1,2,none⟩)):=HI.out.rh
     have X50:RV _ listed a 50 134 (.pointer (some ⟨W4.heap.size,2,none⟩)):=HI.out.rh
     have X45:RV _ listed a 45 129 (.func (.func 24) #[] #[]):=HI.out.rh
     have X47:RV _ listed a 47 131 (.string (Sq a3)):=HI.out.rh
     have X49:RV _ listed a 49 133 (.string (Sq b3)):=HI.out.rh
     have X51:RV _ listed a 51 135 (.string (Sq k3)):=HI.out.rh
     have X52:RV _ listed a 52 136 (.bool true):=HI.out.rh
     have X53:RV _ listed a 53 137 (.bool true):=HI.out.rh
     match i,him,Hr with
     | 0,_,Hi =>
       refine stepH rfl fun K' hK=>?_
       go_simp
       exact hK.out _ _ ⟨HI.out.pv Hi.out rfl,trivial⟩
     | 1,_,Hi =>
       have x0:=X0.g Hi.out (by kernel_rfl)
       refine stepH rfl fun K' hK=>?_
       go_simp
       exact hK.out _ _ ⟨HI.out.pv Hi.out rfl,trivial⟩
     | 2,_,Hi =>
       have x1:=X1.g Hi.out (by kernel_rfl)
       refine stepH rfl fun K' hK=>?_
       go_simp
       exact hK.out _ _ ⟨HI.out.pv Hi.out rfl,trivial⟩
     | 3,_,Hi =>
       have x2:=X2.g Hi.out (by kernel_rfl)
       refine stepH rfl fun K' hK=>?_
       go_simp
       exact hK.out _ _ ⟨HI.out.pv Hi.out rfl,trivial⟩
     | 4,_,Hi =>
       have x3:=X3.g Hi.out (by kernel_rfl)
       have x2:=X2.g Hi.out (by kernel_rfl)
       refine stepH rfl fun K' hK=>?_
       go_simp
       exact hK.out _ _ ⟨HI.out.pv Hi.out rfl,trivial⟩
     | 5,_,Hi =>
       have x2:=X2.g Hi.out (by kernel_rfl)
       have x4:=X4.g Hi.out (by kernel_rfl)
       refine stepH rfl fun K' hK=>?_
       go_simp
       exact hK.out _ _ ⟨HI.out.pv Hi.out rfl,trivial⟩
     | 6,_,Hi =>
       have x5:=X5.g Hi.out (by kernel_rfl)
       refine stepH rfl fun K' hK=>?_
       go_simp
       exact hK.out _ _ ⟨HI.out.pv Hi.out rfl,trivial⟩
     | 7,_,Hi =>
       have x6:=X6.g Hi.out (by kernel_rfl)
       refine stepH rfl fun K' hK=>?_
       go_simp
       exact hK.out _ _ ⟨HI.out.pv Hi.out rfl,trivial⟩
     | 8,_,Hi =>
       have x7:=X7.g Hi.out (by kernel_rfl)
       have x6:=X6.g Hi.out (by kernel_rfl)
       refine stepH rfl fun K' hK=>?_
       go_simp
       exact hK.out _ _ ⟨HI.out.pv Hi.out rfl,trivial⟩
     | 9,_,Hi =>
       have x6:=X6.g Hi.out (by kernel_rfl)
       have x8:=X8.g Hi.out (by kernel_rfl)
       refine stepH rfl fun K' hK=>?_
       go_simp
       exact hK.out _ _ ⟨HI.out.pv Hi.out rfl,trivial⟩
     | 10,_,Hi =>
       have x9:=X9.g Hi.out (by kernel_rfl)
       refine stepH rfl fun K' hK=>?_
       go_simp
       exact hK.out _ _ ⟨HI.out.pv Hi.out rfl,trivial⟩
     | 11,_,Hi =>
       have x10:=X10.g Hi.out (by kernel_rfl)
       refine stepH rfl fun K' hK=>?_
       go_simp
       exact hK.out _ _ ⟨HI.out.pv Hi.out rfl,trivial⟩
     | 12,_,Hi =>
       have x10:=X10.g Hi.out (by kernel_rfl)
       refine stepH rfl fun K' hK=>?_
       go_simp
       exact hK.out _ _ ⟨HI.out.pv Hi.out rfl,trivial⟩
     | 13,_,Hi =>
       have x11:=X11.g Hi.out (by kernel_rfl)
       have x12:=X12.g Hi.out (by kernel_rfl)
       have x10:=X10.g Hi.out (by kernel_rfl)
       refine stepH rfl fun K' hK=>?_
       go_simp
       exact hK.out _ _ ⟨HI.out.pv Hi.out rfl,trivial⟩
     | 14,_,Hi =>
       have x10:=X10.g Hi.out (by kernel_rfl)
       have x13:=X13.g Hi.out (by kernel_rfl)
       refine stepH rfl fun K' hK=>?_
       go_simp
       exact hK.out _ _ ⟨HI.out.pv Hi.out rfl,trivial⟩
     | 15,_,Hi =>
       have x14:=X14.g Hi.out (by kernel_rfl)
       refine stepH rfl fun K' hK=>?_
       go_simp
       exact hK.out _ _ ⟨HI.out.pv Hi.out rfl,trivial⟩
     | 16,_,Hi =>
       have x15:=X15.g Hi.out (by kernel_rfl)
       refine stepH rfl fun K' hK=>?_
       go_simp
       exact hK.out _ _ ⟨HI.out.pv Hi.out rfl,trivial⟩
     | 17,_,Hi =>
       have x16:=X16.g Hi.out (by kernel_rfl)
       have x15:=X15.g Hi.out (by kernel_rfl)
       refine stepH rfl fun K' hK=>?_
       go_simp
       exact hK.out _ _ ⟨HI.out.pv Hi.out rfl,trivial⟩
     | 18,_,Hi =>
       have x15:=X15.g Hi.out (by kernel_rfl)
       have x17:=X17.g Hi.out (by kernel_rfl)
       refine stepH rfl fun K' hK=>?_
       go_simp
       exact hK.out _ _ ⟨HI.out.pv Hi.out rfl,trivial⟩
     | 19,_,Hi =>
       have x18:=X18.g Hi.out (by kernel_rfl)
       refine stepH rfl fun K' hK=>?_
       go_simp
       exact hK.out _ _ ⟨HI.out.pv Hi.out rfl,trivial⟩
     | 20,_,Hi =>
       have x19:=X19.g Hi.out (by kernel_rfl)
       refine stepH rfl fun K' hK=>?_
       go_simp
       exact hK.out _ _ ⟨HI.out.pv Hi.out rfl,trivial⟩
     | 21,_,Hi =>
       have x19:=X19.g Hi.out (by kernel_rfl)
       refine stepH rfl fun K' hK=>?_
       go_simp
       with_reducible refine((lvec _ _ _ _).at).mono ?_
       rintro e W' ⟨rfl,hb⟩
       exact hK.out _ _ ⟨HI.out.pc Hi.out hb rfl,trivial⟩
     | 22,_,Hi =>
       have x20:=X20.g Hi.out (by kernel_rfl)
       have x21:=X21.g Hi.out (by kernel_rfl)
       have x19:=X19.g Hi.out (by kernel_rfl)
       refine stepH rfl fun K' hK=>?_
       go_simp
       exact hK.out _ _ ⟨HI.out.pv Hi.out rfl,trivial⟩
     | 23,_,Hi =>
       have x19:=X19.g Hi.out (by kernel_rfl)
       have x22:=X22.g Hi.out (by kernel_rfl)
       refine stepH rfl fun K' hK=>?_
       go_simp
       exact hK.out _ _ ⟨HI.out.pv Hi.out rfl,trivial⟩
     | 24,_,Hi =>
       have x23:=X23.g Hi.out (by kernel_rfl)
       refine stepH rfl fun K' hK=>?_
       go_simp
       exact hK.out _ _ ⟨HI.out.pv Hi.out rfl,trivial⟩
     | 25,_,Hi =>
       have x24:=X24.g Hi.out (by kernel_rfl)
       refine stepH rfl fun K' hK=>?_
       go_simp
       exact hK.out _ _ ⟨HI.out.pv Hi.out rfl,trivial⟩
     | 26,_,Hi =>
       have x24:=X24.g Hi.out (by kernel_rfl)
       refine stepH rfl fun K' hK=>?_
       go_simp
       exact hK.out _ _ ⟨HI.out.pv Hi.out rfl,trivial⟩
     | 27,_,Hi =>
       have x26:=X26.g Hi.out (by kernel_rfl)
       have x24:=X24.g Hi.out (by kernel_rfl)
       refine stepH rfl fun K' hK=>?_
       go_simp
       exact hK.out _ _ ⟨HI.out.pv Hi.out rfl,trivial⟩
     | 28,_,Hi =>
       have x24:=X24.g Hi.out (by kernel_rfl)
       refine stepH rfl fun K' hK=>?_
       go_simp
       exact hK.out _ _ ⟨HI.out.pv Hi.out rfl,trivial⟩
     | 29,_,Hi =>
       have x28:=X28.g Hi.out (by kernel_rfl)
       have x24:=X24.g Hi.out (by kernel_rfl)
       refine stepH rfl fun K' hK=>?_
       go_simp
       exact hK.out _ _ ⟨HI.out.pv Hi.out rfl,trivial⟩
     | 30,_,Hi =>
       have x24:=X24.g Hi.out (by kernel_rfl)
       refine stepH rfl fun K' hK=>?_
       go_simp
       exact hK.out _ _ ⟨HI.out.pv Hi.out rfl,trivial⟩
     | 31,_,Hi =>
       have x30:=X30.g Hi.out (by kernel_rfl)
       have x24:=X24.g Hi.out (by kernel_rfl)
       refine stepH rfl fun K' hK=>?_
       go_simp
       exact hK.out _ _ ⟨HI.out.pv Hi.out rfl,trivial⟩
     | 32,_,Hi =>
       have x25:=X25.g Hi.out (by kernel_rfl)
       have x27:=X27.g Hi.out (by kernel_rfl)
       have x29:=X29.g Hi.out (by kernel_rfl)
       have x31:=X31.g Hi.out (by kernel_rfl)
       have x24:=X24.g Hi.out (by kernel_rfl)
       refine stepH rfl fun K' hK=>?_
       go_simp
       with_reducible refine((nIn EI1.out (Pa1'.out.fit (by decide)) (Pb1'.out.fit (by decide)) (Pk1'.out.fit (by decide)) _ (HT.out.on (HB14.out.trans (HI.out.world.mono HB14.out.size)))).at).mono ?_
       rintro e W' ⟨rfl,hb⟩
       exact hK.out _ _ ⟨HI.out.pc Hi.out hb rfl,trivial⟩
     | 33,_,Hi =>
       have x24:=X24.g Hi.out (by kernel_rfl)
       have x32:=X32.g Hi.out (by kernel_rfl)
       refine stepH rfl fun K' hK=>?_
       go_simp
       exact hK.out _ _ ⟨HI.out.pv Hi.out rfl,trivial⟩
     | 34,_,Hi =>
       have x33:=X33.g Hi.out (by kernel_rfl)
       refine stepH rfl fun K' hK=>?_
       go_simp
       exact hK.out _ _ ⟨HI.out.pv Hi.out rfl,trivial⟩
     | 35,_,Hi =>
       have x34:=X34.g Hi.out (by kernel_rfl)
       refine stepH rfl fun K' hK=>?_
       go_simp
       exact hK.out _ _ ⟨HI.out.pv Hi.out rfl,trivial⟩
     | 36,_,Hi =>
       have x34:=X34.g Hi.out (by kernel_rfl)
       refine stepH rfl fun K' hK=>?_
       go_simp
       exact hK.out _ _ ⟨HI.out.pv Hi.out rfl,trivial⟩
     | 37,_,Hi =>
       have x36:=X36.g Hi.out (by kernel_rfl)
       have x34:=X34.g Hi.out (by kernel_rfl)
       refine stepH rfl fun K' hK=>?_
       go_simp
       exact hK.out _ _ ⟨HI.out.pv Hi.out rfl,trivial⟩
     | 38,_,Hi =>
       have x34:=X34.g Hi.out (by kernel_rfl)
       refine stepH rfl fun K' hK=>?_
       go_simp
       exact hK.out _ _ ⟨HI.out.pv Hi.out rfl,trivial⟩
     | 39,_,Hi =>
       have x38:=X38.g Hi.out (by kernel_rfl)
       have x34:=X34.g Hi.out (by kernel_rfl)
       refine stepH rfl fun K' hK=>?_
       go_simp
       exact hK.out _ _ ⟨HI.out.pv Hi.out rfl,trivial⟩
     | 40,_,Hi =>
       have x34:=X34.g Hi.out (by kernel_rfl)
       refine stepH rfl fun K' hK=>?_
       go_simp
       exact hK.out _ _ ⟨HI.out.pv Hi.out rfl,trivial⟩
     | 41,_,Hi =>
       have x40:=X40.g Hi.out (by kernel_rfl)
       have x34:=X34.g Hi.out (by kernel_rfl)
       refine stepH rfl fun K' hK=>?_
       go_simp
       exact hK.out _ _ ⟨HI.out.pv Hi.out rfl,trivial⟩
     | 42,_,Hi =>
       have x35:=X35.g Hi.out (by kernel_rfl)
       have x37:=X37.g Hi.out (by kernel_rfl)
       have x39:=X39.g Hi.out (by kernel_rfl)
       have x41:=X41.g Hi.out (by kernel_rfl)
       have x34:=X34.g Hi.out (by kernel_rfl)
       refine stepH rfl fun K' hK=>?_
       go_simp
       with_reducible refine((nIn EI2.out (Pa2'.out.fit (by decide)) (Pb2'.out.fit (by decide)) (Pk2'.out.fit (by decide)) _ (HT.out.on (HB14.out.trans (HI.out.world.mono HB14.out.size)))).at).mono ?_
       rintro e W' ⟨rfl,hb⟩
       exact hK.out _ _ ⟨HI.out.pc Hi.out hb rfl,trivial⟩
     | 43,_,Hi =>
       have x34:=X34.g Hi.out (by kernel_rfl)
       have x42:=X42.g Hi.out (by kernel_rfl)
       refine stepH rfl fun K' hK=>?_
       go_simp
       exact hK.out _ _ ⟨HI.out.pv Hi.out rfl,trivial⟩
     | 44,_,Hi =>
       have x43:=X43.g Hi.out (by kernel_rfl)
       refine stepH rfl fun K' hK=>?_
       go_simp
       exact hK.out _ _ ⟨HI.out.pv Hi.out rfl,trivial⟩
     | 45,_,Hi =>
       have x44:=X44.g Hi.out (by kernel_rfl)
       refine stepH rfl fun K' hK=>?_
       go_simp
       exact hK.out _ _ ⟨HI.out.pv Hi.out rfl,trivial⟩
     | 46,_,Hi =>
       have x44:=X44.g Hi.out (by kernel_rfl)
       refine stepH rfl fun K' hK=>?_
       go_simp
       exact hK.out _ _ ⟨HI.out.pv Hi.out rfl,trivial⟩
     | 47,_,Hi =>
       have x46:=X46.g Hi.out (by kernel_rfl)
       have x44:=X44.g Hi.out (by kernel_rfl)
       refine stepH rfl fun K' hK=>?_
       go_simp
       exact hK.out _ _ ⟨HI.out.pv Hi.out rfl,trivial⟩
     | 48,_,Hi =>
       have x44:=X44.g Hi.out (by kernel_rfl)
       refine stepH rfl fun K' hK=>?_
       go_simp
       exact hK.out _ _ ⟨HI.out.pv Hi.out rfl,trivial⟩
     | 49,_,Hi =>
       have x48:=X48.g Hi.out (by kernel_rfl)
       have x44:=X44.g Hi.out (by kernel_rfl)
       refine stepH rfl fun K' hK=>?_
       go_simp
       exact hK.out _ _ ⟨HI.out.pv Hi.out rfl,trivial⟩
     | 50,_,Hi =>
       have x44:=X44.g Hi.out (by kernel_rfl)
       refine stepH rfl fun K' hK=>?_
       go_simp
       exact hK.out _ _ ⟨HI.out.pv Hi.out rfl,trivial⟩
     | 51,_,Hi =>
       have x50:=X50.g Hi.out (by kernel_rfl)
       have x44:=X44.g Hi.out (by kernel_rfl)
       refine stepH rfl fun K' hK=>?_
       go_simp
       exact hK.out _ _ ⟨HI.out.pv Hi.out rfl,trivial⟩
     | 52,_,Hi =>
       have x45:=X45.g Hi.out (by kernel_rfl)
       have x47:=X47.g Hi.out (by kernel_rfl)
       have x49:=X49.g Hi.out (by kernel_rfl)
       have x51:=X51.g Hi.out (by kernel_rfl)
       have x44:=X44.g Hi.out (by kernel_rfl)
       refine stepH rfl fun K' hK=>?_
       go_simp
       with_reducible refine((nIn EI3.out (Pa3'.out.fit (by decide)) (Pb3'.out.fit (by decide)) (Pk3'.out.fit (by decide)) _ (HT.out.on (HB14.out.trans (HI.out.world.mono HB14.out.size)))).at).mono ?_
       rintro e W' ⟨rfl,hb⟩
       exact hK.out _ _ ⟨HI.out.pc Hi.out hb rfl,trivial⟩
     | 53,_,Hi =>
       have x44:=X44.g Hi.out (by kernel_rfl)
       have x52:=X52.g Hi.out (by kernel_rfl)
       refine stepH rfl fun K' hK=>?_
       go_simp
       exact hK.out _ _ ⟨HI.out.pv Hi.out rfl,trivial⟩
     | 54,_,Hi =>
       have x53:=X53.g Hi.out (by kernel_rfl)
       refine stepH rfl fun K' hK=>?_
       go_simp
       exact hK.out _ _ ⟨HI.out.pv Hi.out rfl,trivial⟩
     | n+55,h,_=>exact absurd h (by omega)
   · intro listed a W hI hD hall
     have HBW:=hid hI.world
     have HI:=hid hI
     have HA:=hid hall
     clear hI hall
     have HBX:=hid (HB14.out.trans (HBW.out.mono HB14.out.size))
     refine tail_nil ?_
     exact⟨rfl,(HI.out.finx ⟨HI.out.sx HA.out 0,HI.out.sx HA.out 1,HI.out.sx HA.out 2,HI.out.sx HA.out 3,HI.out.sx HA.out 4,HI.out.sx HA.out 5,HI.out.sx HA.out 6,HI.out.sx HA.out 7,HI.out.sx HA.out 8,HI.out.sx HA.out 9,HI.out.sx HA.out 10,HI.out.sx HA.out 11,HI.out.sx HA.out 12,HI.out.sx HA.out 13,HI.out.sx HA.out 14,HI.out.sx HA.out 15,HI.out.sx HA.out 16,HI.out.sx HA.out 17,HI.out.sx HA.out 18,HI.out.sx HA.out 19,HI.out.sx HA.out 20,HI.out.sx HA.out 21,HI.out.sx HA.out 22,HI.out.sx HA.out 23,HI.out.sx HA.out 24,HI.out.sx HA.out 25,HI.out.sx HA.out 26,HI.out.sx HA.out 27,HI.out.sx HA.out 28,HI.out.sx HA.out 29,HI.out.sx HA.out 30,HI.out.sx HA.out 31,HI.out.sx HA.out 32,HI.out.sx HA.out 33,HI.out.sx HA.out 34,HI.out.sx HA.out 35,HI.out.sx HA.out 36,HI.out.sx HA.out 37,HI.out.sx HA.out 38,HI.out.sx HA.out 39,HI.out.sx HA.out 40,HI.out.sx HA.out 41,HI.out.sx HA.out 42,HI.out.sx HA.out 43,HI.out.sx HA.out 44,HI.out.sx HA.out 45,HI.out.sx HA.out 46,HI.out.sx HA.out 47,HI.out.sx HA.out 48,HI.out.sx HA.out 49,HI.out.sx HA.out 50,HI.out.sx HA.out 51,HI.out.sx HA.out 52,HI.out.sx HA.out 53,HI.out.sx HA.out 54,trivial⟩ rfl),HBX.out⟩
 rintro a' W15 ⟨rfl,z0⟩
 have HB15:=hid z0
 clear z0
 simp only[putL,List.setIfInBounds_toArray,List.set_cons_zero,List.set_cons_succ]
 go_wp2
 exact bodyPost_ret (v:=.bool true) (by simp[results,Tryz.results6,go_sem]) rfl ⟨rfl,HB15.out⟩
theorem vcr_any (x1 x2 x3 g y1 y2 y3 z1 z2 z3:ByteArray)(w:World)(hl:La w) :
 CR 6 #[.agg #[.string x1,.string x2,.string x3,.string g],.agg #[.string y1,.string y2,.string y3],.agg #[.string z1,.string z2,.string z3]] w (.bool true):=by
 cases hf:(decide (g.size≤20∧(⟨#[]⟩:ByteArray).size≤20∧x1.size≤20∧x2.size≤20∧x3.size≤20)&&decide (y1.size≤20∧y2.size≤20∧y3.size≤20∧z1.size≤20∧z2.size≤20∧z3.size≤20)) with
 | false=>exact(vcr_long x1 x2 x3 g y1 y2 y3 z1 z2 z3 _ w hl rfl hf).at
 | true =>
   have hf2:=hf
   rw[Bool.and_eq_true]at hf2
   have hp:=of_decide_eq_true hf2.1
   have hs:=of_decide_eq_true hf2.2
   obtain⟨m1,r1⟩:=tx_form x1 (k:=20) (by decide) (by decide) hp.2.2.1
   obtain⟨m2,r2⟩:=tx_form x2 (k:=20) (by decide) (by decide) hp.2.2.2.1
   obtain⟨m3,r3⟩:=tx_form x3 (k:=20) (by decide) (by decide) hp.2.2.2.2
   obtain⟨mc,rc⟩:=tx_form g (k:=20) (by decide) (by decide) hp.1
   obtain⟨o1,t1⟩:=tx_form y1 (k:=20) (by decide) (by decide) hs.1
   obtain⟨o2,t2⟩:=tx_form y2 (k:=20) (by decide) (by decide) hs.2.1
   obtain⟨o3,t3⟩:=tx_form y3 (k:=20) (by decide) (by decide) hs.2.2.1
   obtain⟨o4,t4⟩:=tx_form z1 (k:=20) (by decide) (by decide) hs.2.2.2.1
   obtain⟨o5,t5⟩:=tx_form z2 (k:=20) (by decide) (by decide) hs.2.2.2.2.1
   obtain⟨o6,t6⟩:=tx_form z3 (k:=20) (by decide) (by decide) hs.2.2.2.2.2
   rcases tCrossing r1 r2 r3 rc t1 t2 t3 t4 t5 t6 w hl with⟨⟨_,_,_,_,_,_,_,_,_,_,rfl,rfl,rfl,rfl,rfl,rfl,rfl,rfl,rfl,rfl⟩,hz⟩|⟨h1,h2⟩
   · obtain⟨⟨n1,en1,pn1⟩,⟨n2,en2,pn2⟩,⟨n3,en3,pn3⟩⟩:=tx_three' r1 r2 r3
     obtain⟨⟨c,rfl,pc⟩,_⟩:=tx_three rc rc rc rfl
     obtain⟨⟨a1,rfl,p1⟩,⟨a2,rfl,p2⟩,⟨a3,rfl,p3⟩⟩:=tx_three t1 t2 t3 rfl
     obtain⟨⟨b1,rfl,q1⟩,⟨b2,rfl,q2⟩,⟨b3,rfl,q3⟩⟩:=tx_three t4 t5 t6 rfl
     obtain⟨g1,rfl⟩:=en1
     obtain⟨g2,rfl⟩:=en2
     obtain⟨g3,rfl⟩:=en3
     have hz':¬ (n1=0∧n2=0∧n3=0):=by
        rintro⟨e1,e2,e3⟩
        exact hz ⟨congrArg some (g1.trans e1),congrArg some (g2.trans e2),congrArg some (g3.trans e3)⟩
     cases hb:(decide (0<n1*a1+n2*a2+n3*a3-c)==decide (0<n1*b1+n2*b2+n3*b3-c)) with
     | false=>exact(vcr_yes n1 n2 n3 c a1 a2 a3 b1 b2 b3 _ pn1 pn2 pn3 pc p1 p2 p3 q1 q2 q3 hz' hb w hl rfl hf).at
     | true =>
       have hb:=eq_of_beq hb
       exact(vcr_e11 _ _ _ _ _ _ _ _ _ _ _ w (nCrossing_same hz' rfl rfl hb pn1 pn2 pn3 pc p1 p2 p3 q1 q2 q3 w hl) (nCrossing_same hz' rfl rfl hb.symm pn1 pn2 pn3 pc q1 q2 q3 p1 p2 p3 w hl) hl rfl hf).at
   · exact(vcr_e1 x1 x2 x3 g y1 y2 y3 z1 z2 z3 _ w h1 h2 hl rfl hf).at
end Go.Proofs.YtklfllmfcckgjaaGreatDoor
