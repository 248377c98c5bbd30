/- garboardlaw06.AngleCircle returns true: walks. -/
import Derived.Test.YtmmhcaeaddkcmaaGreatDoorMz46q
set_option maxRecDepth 100000
set_option maxHeartbeats 20000000
open Go.Lib (hid)
namespace Go.Proofs.YtmmhcaeaddkcmaaGreatDoor
open Go.RowKit Go.Gb
theorem aci_long (t:ByteArray)(w₀:World)  (hla:La w₀)(fl:decide (20<t.size)=true)  :
 CV w₀ 3 #[.string t] (.bool true):=by
 intro w hw
 have HT:=hid (hla.on hw)
 have FL:=hid fl
 clear hla fl hw
 go_enter Tryz.func3,Tryz.ntmps3
 have HB0:=hid (Below.refl w.heap.size w)
 go_wp2_with fail
 with_reducible refine((angle_awake _ (HT.out.on HB0.out)).at).mono ?_
 rintro e W1 ⟨rfl,hb⟩
 have HB1:=hbt HB0 hb
 clear hb
 go_wp2_with fail
 have hb:=below_new W1 (.cells #[.string t] 22)
 have k1:=SBk.new W1 #[.string t] 22
 generalize W1.alloc (.cells #[.string t] 22)=W2 at *
 have HB2:=hbt HB1 hb
 have K1:=hid k1
 clear k1 hb
 with_reducible refine((lgx1 _ t true _ FL.out K1.out)).mono ?_
 rintro e W3 ⟨rfl,hb⟩
 have HB3:=hbt HB2 hb
 clear hb
 go_wp2_with fail
 with_reducible refine((angle_awake _ (HT.out.on HB3.out)).at).mono ?_
 rintro e W4 ⟨rfl,hb⟩
 have HB4:=hbt HB3 hb
 clear hb
 go_wp2
 exact bodyPost_ret (v:=.bool true) (by simp[results,Tryz.results3,go_sem]) rfl ⟨rfl,HB4.out⟩
theorem aci_e1 (t:ByteArray)(w₀:World)(h1:CV w₀ 7 #[.string t] (.tuple #[.string ⟨#[]⟩,.int .i64 1]))(h2:CV w₀ 8 #[.string t] (.tuple #[.string ⟨#[]⟩,.int .i64 1]))(h3:CV w₀ 9 #[.string t] (.bool false))(hla:La w₀)(fl:decide (20<t.size)=false)  :
 CV w₀ 3 #[.string t] (.bool true):=by
 intro w hw
 have C1:=hid (h1.mono hw)
 have C2:=hid (h2.mono hw)
 have C3:=hid (h3.mono hw)
 have HT:=hid (hla.on hw)
 have FL:=hid fl
 clear hla fl h1 h2 h3 hw
 go_enter Tryz.func3,Tryz.ntmps3
 have HB0:=hid (Below.refl w.heap.size w)
 go_wp2_with fail
 with_reducible refine((angle_awake _ (HT.out.on HB0.out)).at).mono ?_
 rintro e W1 ⟨rfl,hb⟩
 have HB1:=hbt HB0 hb
 clear hb
 go_wp2_with fail
 have hb:=below_new W1 (.cells #[.string t] 22)
 have k1:=SBk.new W1 #[.string t] 22
 generalize W1.alloc (.cells #[.string t] 22)=W2 at *
 have HB2:=hbt HB1 hb
 have K1:=hid k1
 clear k1 hb
 with_reducible refine((lgx1 _ t false _ FL.out K1.out)).mono ?_
 rintro e W3 ⟨rfl,hb⟩
 have HB3:=hbt HB2 hb
 clear hb
 go_wp2_with fail
 with_reducible refine(C1.out _ HB3.out).mono ?_
 rintro e W4 ⟨rfl,hb⟩
 have HB4:=hbt HB3 hb
 clear hb
 go_wp2_with fail
 with_reducible refine(C2.out _ HB4.out).mono ?_
 rintro e W5 ⟨rfl,hb⟩
 have HB5:=hbt HB4 hb
 clear hb
 go_wp2_with fail
 with_reducible refine(C3.out _ HB5.out).mono ?_
 rintro e W6 ⟨rfl,hb⟩
 have HB6:=hbt HB5 hb
 clear hb
 go_wp2
 exact bodyPost_ret (v:=.bool true) (by simp[results,Tryz.results3,go_sem]) rfl ⟨rfl,HB6.out⟩
theorem aci_e2 (t:ByteArray)(w₀:World)(h1:CV w₀ 7 #[.string t] (.tuple #[.string ⟨#[]⟩,.int .i64 2]))(h2:CV w₀ 8 #[.string t] (.tuple #[.string ⟨#[]⟩,.int .i64 2]))(h3:CV w₀ 9 #[.string t] (.bool false))(hla:La w₀)(fl:decide (20<t.size)=false)  :
 CV w₀ 3 #[.string t] (.bool true):=by
 intro w hw
 have C1:=hid (h1.mono hw)
 have C2:=hid (h2.mono hw)
 have C3:=hid (h3.mono hw)
 have HT:=hid (hla.on hw)
 have FL:=hid fl
 clear hla fl h1 h2 h3 hw
 go_enter Tryz.func3,Tryz.ntmps3
 have HB0:=hid (Below.refl w.heap.size w)
 go_wp2_with fail
 with_reducible refine((angle_awake _ (HT.out.on HB0.out)).at).mono ?_
 rintro e W1 ⟨rfl,hb⟩
 have HB1:=hbt HB0 hb
 clear hb
 go_wp2_with fail
 have hb:=below_new W1 (.cells #[.string t] 22)
 have k1:=SBk.new W1 #[.string t] 22
 generalize W1.alloc (.cells #[.string t] 22)=W2 at *
 have HB2:=hbt HB1 hb
 have K1:=hid k1
 clear k1 hb
 with_reducible refine((lgx1 _ t false _ FL.out K1.out)).mono ?_
 rintro e W3 ⟨rfl,hb⟩
 have HB3:=hbt HB2 hb
 clear hb
 go_wp2_with fail
 with_reducible refine(C1.out _ HB3.out).mono ?_
 rintro e W4 ⟨rfl,hb⟩
 have HB4:=hbt HB3 hb
 clear hb
 go_wp2_with fail
 with_reducible refine(C2.out _ HB4.out).mono ?_
 rintro e W5 ⟨rfl,hb⟩
 have HB5:=hbt HB4 hb
 clear hb
 go_wp2_with fail
 with_reducible refine(C3.out _ HB5.out).mono ?_
 rintro e W6 ⟨rfl,hb⟩
 have HB6:=hbt HB5 hb
 clear hb
 go_wp2
 exact bodyPost_ret (v:=.bool true) (by simp[results,Tryz.results3,go_sem]) rfl ⟨rfl,HB6.out⟩
theorem aci_yes (t c s u v m y:ByteArray)(n:Int)(w₀:World)(h1:CV w₀ 7 #[.string t] (.tuple #[.string c,.int .i64 0]))(h2:CV w₀ 8 #[.string t] (.tuple #[.string s,.int .i64 0]))(h3:CV w₀ 10 #[.string c,.string c] (.tuple #[.string u,.int .i64 0]))(h4:CV w₀ 10 #[.string s,.string s] (.tuple #[.string v,.int .i64 0]))(h5:CV w₀ 11 #[.string u,.string v] (.tuple #[.string ⟨#[49]⟩,.int .i64 0]))(h6:CV w₀ 10 #[.string t,.string ⟨#[45,49]⟩] (.tuple #[.string m,.int .i64 0]))(h7:CV w₀ 7 #[.string m] (.tuple #[.string c,.int .i64 0]))(h8:CV w₀ 8 #[.string m] (.tuple #[.string y,.int .i64 0]))(h9:CV w₀ 10 #[.string s,.string ⟨#[45,49]⟩] (.tuple #[.string y,.int .i64 0]))(hA:CV w₀ 12 #[.string c,.string ⟨#[48]⟩] (.tuple #[.int .i64 n,.int .i64 0]))(hla:La w₀)(fl:decide (20<t.size)=false)(f1:0≤n) :
 CV w₀ 3 #[.string t] (.bool true):=by
 intro w hw
 have C1:=hid (h1.mono hw)
 have C2:=hid (h2.mono hw)
 have C3:=hid (h3.mono hw)
 have C4:=hid (h4.mono hw)
 have C5:=hid (h5.mono hw)
 have C6:=hid (h6.mono hw)
 have C7:=hid (h7.mono hw)
 have C8:=hid (h8.mono hw)
 have C9:=hid (h9.mono hw)
 have CA:=hid (hA.mono hw)
 have HT:=hid (hla.on hw)
 have FL:=hid fl
 clear hla fl
 have g1:=f1
 clear f1 h1 h2 h3 h4 h5 h6 h7 h8 h9 hA hw
 go_enter Tryz.func3,Tryz.ntmps3
 have HB0:=hid (Below.refl w.heap.size w)
 go_wp2_with fail
 with_reducible refine((angle_awake _ (HT.out.on HB0.out)).at).mono ?_
 rintro e W1 ⟨rfl,hb⟩
 have HB1:=hbt HB0 hb
 clear hb
 go_wp2_with fail
 have hb:=below_new W1 (.cells #[.string t] 22)
 have k1:=SBk.new W1 #[.string t] 22
 generalize W1.alloc (.cells #[.string t] 22)=W2 at *
 have HB2:=hbt HB1 hb
 have K1:=hid k1
 clear k1 hb
 with_reducible refine((lgx1 _ t false _ FL.out K1.out)).mono ?_
 rintro e W3 ⟨rfl,hb⟩
 have HB3:=hbt HB2 hb
 clear hb
 go_wp2_with fail
 with_reducible refine(C1.out _ HB3.out).mono ?_
 rintro e W4 ⟨rfl,hb⟩
 have HB4:=hbt HB3 hb
 clear hb
 go_wp2_with fail
 with_reducible refine(C2.out _ HB4.out).mono ?_
 rintro e W5 ⟨rfl,hb⟩
 have HB5:=hbt HB4 hb
 clear hb
 go_wp2_with fail
 with_reducible refine(C3.out _ HB5.out).mono ?_
 rintro e W6 ⟨rfl,hb⟩
 have HB6:=hbt HB5 hb
 clear hb
 go_wp2_with fail
 with_reducible refine(C4.out _ HB6.out).mono ?_
 rintro e W7 ⟨rfl,hb⟩
 have HB7:=hbt HB6 hb
 clear hb
 go_wp2_with fail
 with_reducible refine(C5.out _ HB7.out).mono ?_
 rintro e W8 ⟨rfl,hb⟩
 have HB8:=hbt HB7 hb
 clear hb
 go_wp2_with fail
 with_reducible refine(C6.out _ HB8.out).mono ?_
 rintro e W9 ⟨rfl,hb⟩
 have HB9:=hbt HB8 hb
 clear hb
 go_wp2_with fail
 with_reducible refine(C7.out _ HB9.out).mono ?_
 rintro e W10 ⟨rfl,hb⟩
 have HB10:=hbt HB9 hb
 clear hb
 go_wp2_with fail
 with_reducible refine(C8.out _ HB10.out).mono ?_
 rintro e W11 ⟨rfl,hb⟩
 have HB11:=hbt HB10 hb
 clear hb
 go_wp2_with fail
 with_reducible refine(C9.out _ HB11.out).mono ?_
 rintro e W12 ⟨rfl,hb⟩
 have HB12:=hbt HB11 hb
 clear hb
 go_wp2_with fail
 with_reducible refine(CA.out _ HB12.out).mono ?_
 rintro e W13 ⟨rfl,hb⟩
 have HB13:=hbt HB12 hb
 clear hb
 go_wp2
 exact bodyPost_ret (v:=.bool true) (by simp[results,Tryz.results3,go_sem]) rfl ⟨rfl,HB13.out⟩
theorem acircle_any (t:ByteArray)(w:World)(hl:La w) :
 CR 3 #[.string t] w (.bool true):=by
 by_cases h20:20<t.size
 · exact(aci_long t w hl (decide_eq_true h20)).at
 · have hf:decide (20<t.size)=false:=decide_eq_false h20
   rcases form20 t (by omega) with hv|⟨q,rfl,hq⟩
   · have k:=ck1_bad hv (by omega) w hl
     exact(aci_e1 t w (acos_e1 t w k) (asin_e1 t w k) (aValid_no hv (by omega) w hl) hl hf).at
   · by_cases hr : -1≤q∧q≤1
     · have hc:=sm_cos hq
       have hs:=sm_sin hq
       have cc:=hc.mul hc
       have ss:=hs.mul hs
       have hm:=sm_ng hq
       have h7:=aCos_n hm (by decide) (neg_in hr) w hl
       rw[cos_neg]at h7
       have h8:=aSin_n hm (by decide) (neg_in hr) w hl
       rw[sin_neg]at h8
       have h5:=uAddC (cs_one q) (cc.fit (by decide)) (ss.fit (by decide)) w hl
       have h6:=uMulC (x:=q) (y := -1) rfl (hq.fit (by decide)) (sun.fit (by decide)) w hl
       have h9:=uMulC (x:=sinQ q) (y := -1) rfl (hs.fit (by decide)) (sun.fit (by decide)) w hl
       rw[uqn]at h6 h9
       rw[uq1]at h5
       have f1:0≤cmpQ (cosQ q) 0:=by
        have:=cos_nonneg hr.1 hr.2
        rcases cmpQ_cases (cosQ q) 0 with⟨h,e⟩|⟨h,e⟩|⟨h,e⟩
        · grind
        · rw[e];decide
        · rw[e];decide
       exact(aci_yes _ _ _ _ _ _ _ _ w (aCos_n hq (by decide) hr w hl) (aSin_n hq (by decide) hr w hl) (uMulC rfl (hc.fit (by decide)) (hc.fit (by decide)) w hl) (uMulC rfl (hs.fit (by decide)) (hs.fit (by decide)) w hl) h5 h6 h7 h8 h9 (uCmp0C rfl (hc.fit (by decide)) w hl) hl hf f1).at
     · have k:=ck1_out hr (hq.fit (by decide)) w hl
       exact(aci_e2 _ w (acos_e2 _ w k) (asin_e2 _ w k) (aValid_n (decide_eq_false hr) (hq.fit (by decide)) w hl) hl hf).at
end Go.Proofs.YtmmhcaeaddkcmaaGreatDoor
