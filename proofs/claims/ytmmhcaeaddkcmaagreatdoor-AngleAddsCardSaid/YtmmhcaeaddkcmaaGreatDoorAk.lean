/- garboardlaw06.AngleAdds returns true: walks. -/
import Derived.Test.YtmmhcaeaddkcmaaGreatDoorMz46q
set_option maxRecDepth 100000
set_option maxHeartbeats 20000000
open Go.Lib (hid)
namespace Go.Proofs.YtmmhcaeaddkcmaaGreatDoor
open Go.RowKit Go.Gb
theorem aad_long (s t:ByteArray)(w₀:World)  (hla:La w₀)(fl:decide (20<s.size∨20<t.size)=true)  :
 CV w₀ 4 #[.string s,.string t] (.bool true):=by
 intro w hw
 have HT:=hid (hla.on hw)
 have FL:=hid fl
 clear hla fl hw
 go_enter Tryz.func4,Tryz.ntmps4
 have HB0:=hid (Below.refl w.heap.size w)
 go_wp2_with fail
 with_reducible refine((angle_awake _ (HT.out.on HB0.out)).at).mono ?_
 rintro e W1 ⟨rfl,hb⟩
 have HB1:=hbt HB0 hb
 clear hb
 go_wp2_with fail
 have hb:=below_new W1 (.cells #[.string s,.string t] 22)
 have k1:=SBk.new W1 #[.string s,.string t] 22
 generalize W1.alloc (.cells #[.string s,.string t] 22)=W2 at *
 have HB2:=hbt HB1 hb
 have K1:=hid k1
 clear k1 hb
 with_reducible refine((lgx2 _ s t true _ FL.out K1.out)).mono ?_
 rintro e W3 ⟨rfl,hb⟩
 have HB3:=hbt HB2 hb
 clear hb
 go_wp2_with fail
 with_reducible refine((angle_awake _ (HT.out.on HB3.out)).at).mono ?_
 rintro e W4 ⟨rfl,hb⟩
 have HB4:=hbt HB3 hb
 clear hb
 go_wp2
 exact bodyPost_ret (v:=.bool true) (by simp[results,Tryz.results4,go_sem]) rfl ⟨rfl,HB4.out⟩
theorem aad_e1 (s t:ByteArray)(w₀:World)(h1:CV w₀ 13 #[.string s,.string t] (.tuple #[.string ⟨#[]⟩,.int .i64 1]))(h2:CV w₀ 13 #[.string t,.string s] (.tuple #[.string ⟨#[]⟩,.int .i64 1]))(hla:La w₀)(fl:decide (20<s.size∨20<t.size)=false)  :
 CV w₀ 4 #[.string s,.string t] (.bool true):=by
 intro w hw
 have C1:=hid (h1.mono hw)
 have C2:=hid (h2.mono hw)
 have HT:=hid (hla.on hw)
 have FL:=hid fl
 clear hla fl h1 h2 hw
 go_enter Tryz.func4,Tryz.ntmps4
 have HB0:=hid (Below.refl w.heap.size w)
 go_wp2_with fail
 with_reducible refine((angle_awake _ (HT.out.on HB0.out)).at).mono ?_
 rintro e W1 ⟨rfl,hb⟩
 have HB1:=hbt HB0 hb
 clear hb
 go_wp2_with fail
 have hb:=below_new W1 (.cells #[.string s,.string t] 22)
 have k1:=SBk.new W1 #[.string s,.string t] 22
 generalize W1.alloc (.cells #[.string s,.string t] 22)=W2 at *
 have HB2:=hbt HB1 hb
 have K1:=hid k1
 clear k1 hb
 with_reducible refine((lgx2 _ s t false _ FL.out K1.out)).mono ?_
 rintro e W3 ⟨rfl,hb⟩
 have HB3:=hbt HB2 hb
 clear hb
 go_wp2_with fail
 with_reducible refine(C1.out _ HB3.out).mono ?_
 rintro e W4 ⟨rfl,hb⟩
 have HB4:=hbt HB3 hb
 clear hb
 go_wp2_with fail
 with_reducible refine(C2.out _ HB4.out).mono ?_
 rintro e W5 ⟨rfl,hb⟩
 have HB5:=hbt HB4 hb
 clear hb
 go_wp2
 exact bodyPost_ret (v:=.bool true) (by simp[results,Tryz.results4,go_sem]) rfl ⟨rfl,HB5.out⟩
theorem aad_e2 (s t:ByteArray)(w₀:World)(h1:CV w₀ 13 #[.string s,.string t] (.tuple #[.string ⟨#[]⟩,.int .i64 2]))(h2:CV w₀ 13 #[.string t,.string s] (.tuple #[.string ⟨#[]⟩,.int .i64 2]))(hla:La w₀)(fl:decide (20<s.size∨20<t.size)=false)  :
 CV w₀ 4 #[.string s,.string t] (.bool true):=by
 intro w hw
 have C1:=hid (h1.mono hw)
 have C2:=hid (h2.mono hw)
 have HT:=hid (hla.on hw)
 have FL:=hid fl
 clear hla fl h1 h2 hw
 go_enter Tryz.func4,Tryz.ntmps4
 have HB0:=hid (Below.refl w.heap.size w)
 go_wp2_with fail
 with_reducible refine((angle_awake _ (HT.out.on HB0.out)).at).mono ?_
 rintro e W1 ⟨rfl,hb⟩
 have HB1:=hbt HB0 hb
 clear hb
 go_wp2_with fail
 have hb:=below_new W1 (.cells #[.string s,.string t] 22)
 have k1:=SBk.new W1 #[.string s,.string t] 22
 generalize W1.alloc (.cells #[.string s,.string t] 22)=W2 at *
 have HB2:=hbt HB1 hb
 have K1:=hid k1
 clear k1 hb
 with_reducible refine((lgx2 _ s t false _ FL.out K1.out)).mono ?_
 rintro e W3 ⟨rfl,hb⟩
 have HB3:=hbt HB2 hb
 clear hb
 go_wp2_with fail
 with_reducible refine(C1.out _ HB3.out).mono ?_
 rintro e W4 ⟨rfl,hb⟩
 have HB4:=hbt HB3 hb
 clear hb
 go_wp2_with fail
 with_reducible refine(C2.out _ HB4.out).mono ?_
 rintro e W5 ⟨rfl,hb⟩
 have HB5:=hbt HB4 hb
 clear hb
 go_wp2
 exact bodyPost_ret (v:=.bool true) (by simp[results,Tryz.results4,go_sem]) rfl ⟨rfl,HB5.out⟩
theorem aad_e15 (s t:ByteArray)(w₀:World)(h1:CV w₀ 13 #[.string s,.string t] (.tuple #[.string ⟨#[]⟩,.int .i64 15]))(h2:CV w₀ 13 #[.string t,.string s] (.tuple #[.string ⟨#[]⟩,.int .i64 15]))(hla:La w₀)(fl:decide (20<s.size∨20<t.size)=false)  :
 CV w₀ 4 #[.string s,.string t] (.bool true):=by
 intro w hw
 have C1:=hid (h1.mono hw)
 have C2:=hid (h2.mono hw)
 have HT:=hid (hla.on hw)
 have FL:=hid fl
 clear hla fl h1 h2 hw
 go_enter Tryz.func4,Tryz.ntmps4
 have HB0:=hid (Below.refl w.heap.size w)
 go_wp2_with fail
 with_reducible refine((angle_awake _ (HT.out.on HB0.out)).at).mono ?_
 rintro e W1 ⟨rfl,hb⟩
 have HB1:=hbt HB0 hb
 clear hb
 go_wp2_with fail
 have hb:=below_new W1 (.cells #[.string s,.string t] 22)
 have k1:=SBk.new W1 #[.string s,.string t] 22
 generalize W1.alloc (.cells #[.string s,.string t] 22)=W2 at *
 have HB2:=hbt HB1 hb
 have K1:=hid k1
 clear k1 hb
 with_reducible refine((lgx2 _ s t false _ FL.out K1.out)).mono ?_
 rintro e W3 ⟨rfl,hb⟩
 have HB3:=hbt HB2 hb
 clear hb
 go_wp2_with fail
 with_reducible refine(C1.out _ HB3.out).mono ?_
 rintro e W4 ⟨rfl,hb⟩
 have HB4:=hbt HB3 hb
 clear hb
 go_wp2_with fail
 with_reducible refine(C2.out _ HB4.out).mono ?_
 rintro e W5 ⟨rfl,hb⟩
 have HB5:=hbt HB4 hb
 clear hb
 go_wp2
 exact bodyPost_ret (v:=.bool true) (by simp[results,Tryz.results4,go_sem]) rfl ⟨rfl,HB5.out⟩
theorem aad_yes (s t u a b c d x y m ac bd ad bc:ByteArray)(w₀:World)(h1:CV w₀ 13 #[.string s,.string t] (.tuple #[.string u,.int .i64 0]))(h2:CV w₀ 13 #[.string t,.string s] (.tuple #[.string u,.int .i64 0]))(h3:CV w₀ 7 #[.string s] (.tuple #[.string a,.int .i64 0]))(h4:CV w₀ 8 #[.string s] (.tuple #[.string b,.int .i64 0]))(h5:CV w₀ 7 #[.string t] (.tuple #[.string c,.int .i64 0]))(h6:CV w₀ 8 #[.string t] (.tuple #[.string d,.int .i64 0]))(h7:CV w₀ 7 #[.string u] (.tuple #[.string x,.int .i64 0]))(h8:CV w₀ 8 #[.string u] (.tuple #[.string y,.int .i64 0]))(h9:CV w₀ 10 #[.string t,.string ⟨#[45,49]⟩] (.tuple #[.string m,.int .i64 0]))(hA:CV w₀ 13 #[.string u,.string m] (.tuple #[.string s,.int .i64 0]))(hB:CV w₀ 13 #[.string s,.string ⟨#[48]⟩] (.tuple #[.string s,.int .i64 0]))(hC:CV w₀ 10 #[.string a,.string c] (.tuple #[.string ac,.int .i64 0]))(hD:CV w₀ 10 #[.string b,.string d] (.tuple #[.string bd,.int .i64 0]))(hE:CV w₀ 10 #[.string a,.string d] (.tuple #[.string ad,.int .i64 0]))(hF:CV w₀ 10 #[.string b,.string c] (.tuple #[.string bc,.int .i64 0]))(hG:CV w₀ 14 #[.string ac,.string bd] (.tuple #[.string x,.int .i64 0]))(hH:CV w₀ 11 #[.string ad,.string bc] (.tuple #[.string y,.int .i64 0]))(hla:La w₀)(fl:decide (20<s.size∨20<t.size)=false)  :
 CV w₀ 4 #[.string s,.string t] (.bool true):=by
 intro w hw
 have C1:=hid (h1.mono hw)
 have C2:=hid (h2.mono hw)
 have C3:=hid (h3.mono hw)
 have C4:=hid (h4.mono hw)
 have C5:=hid (h5.mono hw)
 have C6:=hid (h6.mono hw)
 have C7:=hid (h7.mono hw)
 have C8:=hid (h8.mono hw)
 have C9:=hid (h9.mono hw)
 have CA:=hid (hA.mono hw)
 have CB:=hid (hB.mono hw)
 have CC:=hid (hC.mono hw)
 have CD:=hid (hD.mono hw)
 have CE:=hid (hE.mono hw)
 have CF:=hid (hF.mono hw)
 have CG:=hid (hG.mono hw)
 have CH:=hid (hH.mono hw)
 have HT:=hid (hla.on hw)
 have FL:=hid fl
 clear hla fl h1 h2 h3 h4 h5 h6 h7 h8 h9 hA hB hC hD hE hF hG hH hw
 go_enter Tryz.func4,Tryz.ntmps4
 have HB0:=hid (Below.refl w.heap.size w)
 go_wp2_with fail
 with_reducible refine((angle_awake _ (HT.out.on HB0.out)).at).mono ?_
 rintro e W1 ⟨rfl,hb⟩
 have HB1:=hbt HB0 hb
 clear hb
 go_wp2_with fail
 have hb:=below_new W1 (.cells #[.string s,.string t] 22)
 have k1:=SBk.new W1 #[.string s,.string t] 22
 generalize W1.alloc (.cells #[.string s,.string t] 22)=W2 at *
 have HB2:=hbt HB1 hb
 have K1:=hid k1
 clear k1 hb
 with_reducible refine((lgx2 _ s t false _ FL.out K1.out)).mono ?_
 rintro e W3 ⟨rfl,hb⟩
 have HB3:=hbt HB2 hb
 clear hb
 go_wp2_with fail
 with_reducible refine(C1.out _ HB3.out).mono ?_
 rintro e W4 ⟨rfl,hb⟩
 have HB4:=hbt HB3 hb
 clear hb
 go_wp2_with fail
 with_reducible refine(C2.out _ HB4.out).mono ?_
 rintro e W5 ⟨rfl,hb⟩
 have HB5:=hbt HB4 hb
 clear hb
 go_wp2_with fail
 with_reducible refine(C3.out _ HB5.out).mono ?_
 rintro e W6 ⟨rfl,hb⟩
 have HB6:=hbt HB5 hb
 clear hb
 go_wp2_with fail
 with_reducible refine(C4.out _ HB6.out).mono ?_
 rintro e W7 ⟨rfl,hb⟩
 have HB7:=hbt HB6 hb
 clear hb
 go_wp2_with fail
 with_reducible refine(C5.out _ HB7.out).mono ?_
 rintro e W8 ⟨rfl,hb⟩
 have HB8:=hbt HB7 hb
 clear hb
 go_wp2_with fail
 with_reducible refine(C6.out _ HB8.out).mono ?_
 rintro e W9 ⟨rfl,hb⟩
 have HB9:=hbt HB8 hb
 clear hb
 go_wp2_with fail
 with_reducible refine(C7.out _ HB9.out).mono ?_
 rintro e W10 ⟨rfl,hb⟩
 have HB10:=hbt HB9 hb
 clear hb
 go_wp2_with fail
 with_reducible refine(C8.out _ HB10.out).mono ?_
 rintro e W11 ⟨rfl,hb⟩
 have HB11:=hbt HB10 hb
 clear hb
 go_wp2_with fail
 with_reducible refine(C9.out _ HB11.out).mono ?_
 rintro e W12 ⟨rfl,hb⟩
 have HB12:=hbt HB11 hb
 clear hb
 go_wp2_with fail
 with_reducible refine(CA.out _ HB12.out).mono ?_
 rintro e W13 ⟨rfl,hb⟩
 have HB13:=hbt HB12 hb
 clear hb
 go_wp2_with fail
 with_reducible refine(CB.out _ HB13.out).mono ?_
 rintro e W14 ⟨rfl,hb⟩
 have HB14:=hbt HB13 hb
 clear hb
 go_wp2_with fail
 with_reducible refine(CC.out _ HB14.out).mono ?_
 rintro e W15 ⟨rfl,hb⟩
 have HB15:=hbt HB14 hb
 clear hb
 go_wp2_with fail
 with_reducible refine(CD.out _ HB15.out).mono ?_
 rintro e W16 ⟨rfl,hb⟩
 have HB16:=hbt HB15 hb
 clear hb
 go_wp2_with fail
 with_reducible refine(CE.out _ HB16.out).mono ?_
 rintro e W17 ⟨rfl,hb⟩
 have HB17:=hbt HB16 hb
 clear hb
 go_wp2_with fail
 with_reducible refine(CF.out _ HB17.out).mono ?_
 rintro e W18 ⟨rfl,hb⟩
 have HB18:=hbt HB17 hb
 clear hb
 go_wp2_with fail
 with_reducible refine(CG.out _ HB18.out).mono ?_
 rintro e W19 ⟨rfl,hb⟩
 have HB19:=hbt HB18 hb
 clear hb
 go_wp2_with fail
 with_reducible refine(CH.out _ HB19.out).mono ?_
 rintro e W20 ⟨rfl,hb⟩
 have HB20:=hbt HB19 hb
 clear hb
 go_wp2
 exact bodyPost_ret (v:=.bool true) (by simp[results,Tryz.results4,go_sem]) rfl ⟨rfl,HB20.out⟩
theorem zero_in : -1≤(0:Rat)∧(0:Rat)≤1:=by decide +kernel
theorem aadds_any (s t:ByteArray)(w:World)(hl:La w) :
 CR 4 #[.string s,.string t] w (.bool true):=by
 by_cases h20:20<s.size∨20<t.size
 · exact(aad_long s t w hl (decide_eq_true h20)).at
 · have hf:decide (20<s.size∨20<t.size)=false:=decide_eq_false h20
   have hs20:s.size≤20:=by omega
   have ht20:t.size≤20:=by omega
   rcases form20 s hs20 with hv|⟨p,rfl,hp⟩
   · rcases form20 t ht20 with hu|⟨q,rfl,hq⟩
     · exact(aad_e1 s t w (asum_e1 _ _ w (ck2_bad0 hv (by omega) w hl)) (asum_e1 _ _ w (ck2_bad0 hu (by omega) w hl)) hl hf).at
     · exact(aad_e1 s _ w (asum_e1 _ _ w (ck2_bad0 hv (by omega) w hl)) (asum_e1 _ _ w (ck2_bad1 (hq.fit (by decide)) hv (by omega) w hl)) hl hf).at
   · have fp:=hp.fit (by decide)
     rcases form20 t ht20 with hu|⟨q,rfl,hq⟩
     · exact(aad_e1 _ t w (asum_e1 _ _ w (ck2_bad1 fp hu (by omega) w hl)) (asum_e1 _ _ w (ck2_bad0 hu (by omega) w hl)) hl hf).at
     · have fq:=hq.fit (by decide)
       by_cases h1 : -1≤p∧p≤1
       · by_cases h2 : -1≤q∧q≤1
         · by_cases h3:1-p*q≠0∧(-1≤sumQ p q∧sumQ p q≤1)
           · obtain⟨hn,h3⟩:=h3
             have hn':1-q*p≠0:=by
              rw[show q*p=p*q by grind]
              exact hn
             have k1:=aSum_n hp hq (by decide) h1 h2 hn h3 w hl
             have k2:=aSum_n hq hp (by decide) h2 h1 hn' (sum_comm p q▸h3) w hl
             rw[sum_comm q p]at k2
             have hu:=sm_sum hp hq hn
             have cp:=sm_cos hp
             have sp:=sm_sin hp
             have cq:=sm_cos hq
             have sq:=sm_sin hq
             have hm:=sm_ng hq
             have k9:=uMulC (x:=q) (y := -1) rfl fq (sun.fit (by decide)) w hl
             rw[uqn]at k9
             have eb:=sum_back hn
             have kA:=aSum_n hu hm (by decide) h3 (neg_in h2) (back_ne hn) (by rw[eb];exact h1) w hl
             rw[eb]at kA
             have kB:=aSum_n hp su0 (by decide) h1 zero_in (by grind) (by rw[sum_zero];exact h1) w hl
             rw[sum_zero,uq0]at kB
             exact(aad_yes _ _ _ _ _ _ _ _ _ _ _ _ _ _ w k1 k2 (aCos_n hp (by decide) h1 w hl) (aSin_n hp (by decide) h1 w hl) (aCos_n hq (by decide) h2 w hl) (aSin_n hq (by decide) h2 w hl) (aCos_n hu (by decide) h3 w hl) (aSin_n hu (by decide) h3 w hl) k9 kA kB
              (uMulC rfl (cp.fit (by decide)) (cq.fit (by decide)) w hl) (uMulC rfl (sp.fit (by decide)) (sq.fit (by decide)) w hl) (uMulC rfl (cp.fit (by decide)) (sq.fit (by decide)) w hl) (uMulC rfl (sp.fit (by decide)) (cq.fit (by decide)) w hl)
              (uSubC (cos_sum hn).symm ((cp.mul cq).fit (by decide)) ((sp.mul sq).fit (by decide)) w hl) (uAddC (sin_sum hn).symm ((cp.mul sq).fit (by decide)) ((sp.mul cq).fit (by decide)) w hl) hl hf).at
           · have h4:¬ (1-q*p≠0∧(-1≤sumQ q p∧sumQ q p≤1)):=by
              rw[sum_comm q p,show q*p=p*q by grind]
              exact h3
             exact(aad_e15 _ _ w (aSum_limit hp hq (by decide) h1 h2 h3 w hl) (aSum_limit hq hp (by decide) h2 h1 h4 w hl) hl hf).at
         · exact(aad_e2 _ _ w (asum_e2 _ _ w (ck2_out1 h1 h2 fp fq w hl)) (asum_e2 _ _ w (ck2_out0 h2 fq fp w hl)) hl hf).at
       · by_cases h2 : -1≤q∧q≤1
         · exact(aad_e2 _ _ w (asum_e2 _ _ w (ck2_out0 h1 fp fq w hl)) (asum_e2 _ _ w (ck2_out1 h2 h1 fq fp w hl)) hl hf).at
         · exact(aad_e2 _ _ w (asum_e2 _ _ w (ck2_out0 h1 fp fq w hl)) (asum_e2 _ _ w (ck2_out0 h2 fq fp w hl)) hl hf).at
end Go.Proofs.YtmmhcaeaddkcmaaGreatDoor
