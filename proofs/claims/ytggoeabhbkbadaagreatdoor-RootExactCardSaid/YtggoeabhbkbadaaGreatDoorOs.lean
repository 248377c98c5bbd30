/- garboardlaw05.RootExact returns true: walks. -/
import Derived.Test.YtggoeabhbkbadaaGreatDoorMz46q
set_option maxRecDepth 100000
set_option maxHeartbeats 20000000
open Go.Lib (hid)
namespace Go.Proofs.YtggoeabhbkbadaaGreatDoor
open Go.RowKit Go.Gb
theorem rex_long (x:ByteArray)(w₀:World)  (hla:Lb w₀)(fl:decide (40<x.size)=true)  :
 CV w₀ 4 #[.string x] (.bool true):=by
 intro w hw
 have HT:=hid (lb_on hla hw)
 have FL:=hid fl
 clear hla fl hw
 go_enter Tryz.func4,Tryz.ntmps4
 have HB0:=hid (Below.refl w.heap.size w)
 go_wp2_with fail
 with_reducible refine((root_awake _ (lb_on HT.out HB0.out)).at).mono ?_
 rintro e W1 ⟨rfl,hb⟩
 have HB1:=hbt HB0 hb
 clear hb
 go_wp2_with fail
 have hb:=below_new W1 (.cells #[.string x] 22)
 have k1:=SBk.new W1 #[.string x] 22
 generalize W1.alloc (.cells #[.string x] 22)=W2 at *
 have HB2:=hbt HB1 hb
 have K1:=hid k1
 clear k1 hb
 with_reducible refine((lgx1 _ x true _ FL.out K1.out)).mono ?_
 rintro e W3 ⟨rfl,hb⟩
 have HB3:=hbt HB2 hb
 clear hb
 go_wp2_with fail
 with_reducible refine((root_awake _ (lb_on HT.out HB3.out)).at).mono ?_
 rintro e W4 ⟨rfl,hb⟩
 have HB4:=hbt HB3 hb
 clear hb
 go_wp2
 exact bodyPost_ret (v:=.bool true) (by simp[results,Tryz.results4,go_sem]) rfl ⟨rfl,HB4.out⟩
theorem rex_inv (x:ByteArray)(w₀:World)(h1:CV w₀ 16 #[.string x] (.bool false))(hla:Lb w₀)(fl:decide (40<x.size)=false)  :
 CV w₀ 4 #[.string x] (.bool true):=by
 intro w hw
 have C1:=hid (h1.mono hw)
 have HT:=hid (lb_on hla hw)
 have FL:=hid fl
 clear hla fl h1 hw
 go_enter Tryz.func4,Tryz.ntmps4
 have HB0:=hid (Below.refl w.heap.size w)
 go_wp2_with fail
 with_reducible refine((root_awake _ (lb_on HT.out HB0.out)).at).mono ?_
 rintro e W1 ⟨rfl,hb⟩
 have HB1:=hbt HB0 hb
 clear hb
 go_wp2_with fail
 have hb:=below_new W1 (.cells #[.string x] 22)
 have k1:=SBk.new W1 #[.string x] 22
 generalize W1.alloc (.cells #[.string x] 22)=W2 at *
 have HB2:=hbt HB1 hb
 have K1:=hid k1
 clear k1 hb
 with_reducible refine((lgx1 _ x false _ FL.out K1.out)).mono ?_
 rintro e W3 ⟨rfl,hb⟩
 have HB3:=hbt HB2 hb
 clear hb
 go_wp2_with fail
 with_reducible refine(C1.out _ HB3.out).mono ?_
 rintro e W4 ⟨rfl,hb⟩
 have HB4:=hbt HB3 hb
 clear hb
 go_wp2_with fail
 with_reducible refine((root_awake _ (lb_on HT.out HB4.out)).at).mono ?_
 rintro e W5 ⟨rfl,hb⟩
 have HB5:=hbt HB4 hb
 clear hb
 go_wp2
 exact bodyPost_ret (v:=.bool true) (by simp[results,Tryz.results4,go_sem]) rfl ⟨rfl,HB5.out⟩
theorem rex_neg (x y r:ByteArray)(n:Int)(w₀:World)(h1:CV w₀ 16 #[.string x] (.bool true))(h2:CV w₀ 10 #[.string x,.string x] (.tuple #[.string y,.int .i64 0]))(h3:CV w₀ 17 #[.string y] (.tuple #[.string r,.bool true,.int .i64 0]))(h4:CV w₀ 10 #[.string r,.string r] (.tuple #[.string y,.int .i64 0]))(h5:CV w₀ 11 #[.string r,.string ⟨#[48]⟩] (.tuple #[.int .i64 n,.int .i64 0]))(h6:CV w₀ 17 #[.string x] (.tuple #[.string ⟨#[]⟩,.bool false,.int .i64 2]))(h7:CV w₀ 11 #[.string x,.string ⟨#[48]⟩] (.tuple #[.int .i64 (-1),.int .i64 0]))(h8:CV w₀ 10 #[.string ⟨#[]⟩,.string ⟨#[]⟩] (.tuple #[.string ⟨#[]⟩,.int .i64 1]))(hla:Lb w₀)(fl:decide (40<x.size)=false)(f1:decide (n<0)=false) :
 CV w₀ 4 #[.string x] (.bool true):=by
 intro w hw
 have C1:=hid (h1.mono hw)
 have C2:=hid (h2.mono hw)
 have C3:=hid (h3.mono hw)
 have C4:=hid (h4.mono hw)
 have C5:=hid (h5.mono hw)
 have C6:=hid (h6.mono hw)
 have C7:=hid (h7.mono hw)
 have C8:=hid (h8.mono hw)
 have HT:=hid (lb_on hla hw)
 have FL:=hid fl
 clear hla fl
 have g1:=f1
 clear f1 h1 h2 h3 h4 h5 h6 h7 h8 hw
 go_enter Tryz.func4,Tryz.ntmps4
 have HB0:=hid (Below.refl w.heap.size w)
 go_wp2_with fail
 with_reducible refine((root_awake _ (lb_on HT.out HB0.out)).at).mono ?_
 rintro e W1 ⟨rfl,hb⟩
 have HB1:=hbt HB0 hb
 clear hb
 go_wp2_with fail
 have hb:=below_new W1 (.cells #[.string x] 22)
 have k1:=SBk.new W1 #[.string x] 22
 generalize W1.alloc (.cells #[.string x] 22)=W2 at *
 have HB2:=hbt HB1 hb
 have K1:=hid k1
 clear k1 hb
 with_reducible refine((lgx1 _ x false _ FL.out K1.out)).mono ?_
 rintro e W3 ⟨rfl,hb⟩
 have HB3:=hbt HB2 hb
 clear hb
 go_wp2_with fail
 with_reducible refine(C1.out _ HB3.out).mono ?_
 rintro e W4 ⟨rfl,hb⟩
 have HB4:=hbt HB3 hb
 clear hb
 go_wp2_with fail
 with_reducible refine(C2.out _ HB4.out).mono ?_
 rintro e W5 ⟨rfl,hb⟩
 have HB5:=hbt HB4 hb
 clear hb
 go_wp2_with fail
 with_reducible refine(C3.out _ HB5.out).mono ?_
 rintro e W6 ⟨rfl,hb⟩
 have HB6:=hbt HB5 hb
 clear hb
 go_wp2_with fail
 with_reducible refine(C4.out _ HB6.out).mono ?_
 rintro e W7 ⟨rfl,hb⟩
 have HB7:=hbt HB6 hb
 clear hb
 go_wp2_with fail
 with_reducible refine(C5.out _ HB7.out).mono ?_
 rintro e W8 ⟨rfl,hb⟩
 have HB8:=hbt HB7 hb
 clear hb
 go_wp2_with fail
 with_reducible refine(C6.out _ HB8.out).mono ?_
 rintro e W9 ⟨rfl,hb⟩
 have HB9:=hbt HB8 hb
 clear hb
 go_wp2_with fail
 with_reducible refine(C7.out _ HB9.out).mono ?_
 rintro e W10 ⟨rfl,hb⟩
 have HB10:=hbt HB9 hb
 clear hb
 go_wp2_with fail
 with_reducible refine(C8.out _ HB10.out).mono ?_
 rintro e W11 ⟨rfl,hb⟩
 have HB11:=hbt HB10 hb
 clear hb
 go_wp2
 exact bodyPost_ret (v:=.bool true) (by simp[results,Tryz.results4,go_sem]) rfl ⟨rfl,HB11.out⟩
theorem rex_yes (x y r z:ByteArray)(n m:Int)(w₀:World)(h1:CV w₀ 16 #[.string x] (.bool true))(h2:CV w₀ 10 #[.string x,.string x] (.tuple #[.string y,.int .i64 0]))(h3:CV w₀ 17 #[.string y] (.tuple #[.string r,.bool true,.int .i64 0]))(h4:CV w₀ 10 #[.string r,.string r] (.tuple #[.string y,.int .i64 0]))(h5:CV w₀ 11 #[.string r,.string ⟨#[48]⟩] (.tuple #[.int .i64 n,.int .i64 0]))(h6:CV w₀ 17 #[.string x] (.tuple #[.string z,.bool true,.int .i64 0]))(h7:CV w₀ 11 #[.string x,.string ⟨#[48]⟩] (.tuple #[.int .i64 m,.int .i64 0]))(h8:CV w₀ 10 #[.string z,.string z] (.tuple #[.string x,.int .i64 0]))(hla:Lb w₀)(fl:decide (40<x.size)=false)(f1:decide (n<0)=false)(f2:decide (m<0)=false) :
 CV w₀ 4 #[.string x] (.bool true):=by
 intro w hw
 have C1:=hid (h1.mono hw)
 have C2:=hid (h2.mono hw)
 have C3:=hid (h3.mono hw)
 have C4:=hid (h4.mono hw)
 have C5:=hid (h5.mono hw)
 have C6:=hid (h6.mono hw)
 have C7:=hid (h7.mono hw)
 have C8:=hid (h8.mono hw)
 have HT:=hid (lb_on hla hw)
 have FL:=hid fl
 clear hla fl
 have g1:=f1
 clear f1
 have g2:=f2
 clear f2 h1 h2 h3 h4 h5 h6 h7 h8 hw
 go_enter Tryz.func4,Tryz.ntmps4
 have HB0:=hid (Below.refl w.heap.size w)
 go_wp2_with fail
 with_reducible refine((root_awake _ (lb_on HT.out HB0.out)).at).mono ?_
 rintro e W1 ⟨rfl,hb⟩
 have HB1:=hbt HB0 hb
 clear hb
 go_wp2_with fail
 have hb:=below_new W1 (.cells #[.string x] 22)
 have k1:=SBk.new W1 #[.string x] 22
 generalize W1.alloc (.cells #[.string x] 22)=W2 at *
 have HB2:=hbt HB1 hb
 have K1:=hid k1
 clear k1 hb
 with_reducible refine((lgx1 _ x false _ FL.out K1.out)).mono ?_
 rintro e W3 ⟨rfl,hb⟩
 have HB3:=hbt HB2 hb
 clear hb
 go_wp2_with fail
 with_reducible refine(C1.out _ HB3.out).mono ?_
 rintro e W4 ⟨rfl,hb⟩
 have HB4:=hbt HB3 hb
 clear hb
 go_wp2_with fail
 with_reducible refine(C2.out _ HB4.out).mono ?_
 rintro e W5 ⟨rfl,hb⟩
 have HB5:=hbt HB4 hb
 clear hb
 go_wp2_with fail
 with_reducible refine(C3.out _ HB5.out).mono ?_
 rintro e W6 ⟨rfl,hb⟩
 have HB6:=hbt HB5 hb
 clear hb
 go_wp2_with fail
 with_reducible refine(C4.out _ HB6.out).mono ?_
 rintro e W7 ⟨rfl,hb⟩
 have HB7:=hbt HB6 hb
 clear hb
 go_wp2_with fail
 with_reducible refine(C5.out _ HB7.out).mono ?_
 rintro e W8 ⟨rfl,hb⟩
 have HB8:=hbt HB7 hb
 clear hb
 go_wp2_with fail
 with_reducible refine(C6.out _ HB8.out).mono ?_
 rintro e W9 ⟨rfl,hb⟩
 have HB9:=hbt HB8 hb
 clear hb
 go_wp2_with fail
 with_reducible refine(C7.out _ HB9.out).mono ?_
 rintro e W10 ⟨rfl,hb⟩
 have HB10:=hbt HB9 hb
 clear hb
 go_wp2_with fail
 with_reducible refine(C8.out _ HB10.out).mono ?_
 rintro e W11 ⟨rfl,hb⟩
 have HB11:=hbt HB10 hb
 clear hb
 go_wp2
 exact bodyPost_ret (v:=.bool true) (by simp[results,Tryz.results4,go_sem]) rfl ⟨rfl,HB11.out⟩
theorem rex_not (x y r:ByteArray)(n m:Int)(w₀:World)(h1:CV w₀ 16 #[.string x] (.bool true))(h2:CV w₀ 10 #[.string x,.string x] (.tuple #[.string y,.int .i64 0]))(h3:CV w₀ 17 #[.string y] (.tuple #[.string r,.bool true,.int .i64 0]))(h4:CV w₀ 10 #[.string r,.string r] (.tuple #[.string y,.int .i64 0]))(h5:CV w₀ 11 #[.string r,.string ⟨#[48]⟩] (.tuple #[.int .i64 n,.int .i64 0]))(h6:CV w₀ 17 #[.string x] (.tuple #[.string ⟨#[]⟩,.bool false,.int .i64 0]))(h7:CV w₀ 11 #[.string x,.string ⟨#[48]⟩] (.tuple #[.int .i64 m,.int .i64 0]))(h8:CV w₀ 10 #[.string ⟨#[]⟩,.string ⟨#[]⟩] (.tuple #[.string ⟨#[]⟩,.int .i64 1]))(hla:Lb w₀)(fl:decide (40<x.size)=false)(f1:decide (n<0)=false)(f2:decide (m<0)=false) :
 CV w₀ 4 #[.string x] (.bool true):=by
 intro w hw
 have C1:=hid (h1.mono hw)
 have C2:=hid (h2.mono hw)
 have C3:=hid (h3.mono hw)
 have C4:=hid (h4.mono hw)
 have C5:=hid (h5.mono hw)
 have C6:=hid (h6.mono hw)
 have C7:=hid (h7.mono hw)
 have C8:=hid (h8.mono hw)
 have HT:=hid (lb_on hla hw)
 have FL:=hid fl
 clear hla fl
 have g1:=f1
 clear f1
 have g2:=f2
 clear f2 h1 h2 h3 h4 h5 h6 h7 h8 hw
 go_enter Tryz.func4,Tryz.ntmps4
 have HB0:=hid (Below.refl w.heap.size w)
 go_wp2_with fail
 with_reducible refine((root_awake _ (lb_on HT.out HB0.out)).at).mono ?_
 rintro e W1 ⟨rfl,hb⟩
 have HB1:=hbt HB0 hb
 clear hb
 go_wp2_with fail
 have hb:=below_new W1 (.cells #[.string x] 22)
 have k1:=SBk.new W1 #[.string x] 22
 generalize W1.alloc (.cells #[.string x] 22)=W2 at *
 have HB2:=hbt HB1 hb
 have K1:=hid k1
 clear k1 hb
 with_reducible refine((lgx1 _ x false _ FL.out K1.out)).mono ?_
 rintro e W3 ⟨rfl,hb⟩
 have HB3:=hbt HB2 hb
 clear hb
 go_wp2_with fail
 with_reducible refine(C1.out _ HB3.out).mono ?_
 rintro e W4 ⟨rfl,hb⟩
 have HB4:=hbt HB3 hb
 clear hb
 go_wp2_with fail
 with_reducible refine(C2.out _ HB4.out).mono ?_
 rintro e W5 ⟨rfl,hb⟩
 have HB5:=hbt HB4 hb
 clear hb
 go_wp2_with fail
 with_reducible refine(C3.out _ HB5.out).mono ?_
 rintro e W6 ⟨rfl,hb⟩
 have HB6:=hbt HB5 hb
 clear hb
 go_wp2_with fail
 with_reducible refine(C4.out _ HB6.out).mono ?_
 rintro e W7 ⟨rfl,hb⟩
 have HB7:=hbt HB6 hb
 clear hb
 go_wp2_with fail
 with_reducible refine(C5.out _ HB7.out).mono ?_
 rintro e W8 ⟨rfl,hb⟩
 have HB8:=hbt HB7 hb
 clear hb
 go_wp2_with fail
 with_reducible refine(C6.out _ HB8.out).mono ?_
 rintro e W9 ⟨rfl,hb⟩
 have HB9:=hbt HB8 hb
 clear hb
 go_wp2_with fail
 with_reducible refine(C7.out _ HB9.out).mono ?_
 rintro e W10 ⟨rfl,hb⟩
 have HB10:=hbt HB9 hb
 clear hb
 go_wp2_with fail
 with_reducible refine(C8.out _ HB10.out).mono ?_
 rintro e W11 ⟨rfl,hb⟩
 have HB11:=hbt HB10 hb
 clear hb
 go_wp2
 exact bodyPost_ret (v:=.bool true) (by simp[results,Tryz.results4,go_sem]) rfl ⟨rfl,HB11.out⟩
theorem abs_root (q:Rat):∃ r,0≤r∧r*r=q*q∧rootQ (q*q)=r:=by
 by_cases h:0≤q
 · exact⟨q,h,rfl,rootQ_sq q h⟩
 · refine⟨-q,by grind,by grind,?_⟩
   rw[show q*q=(-q)*(-q) from by grind]
   exact rootQ_sq (-q) (by grind)
theorem rexact_any (x:ByteArray)(w:World)(hl:Lb w) :
 CR 4 #[.string x] w (.bool true):=by
 by_cases h40:40<x.size
 · exact(rex_long x w hl (decide_eq_true h40)).at
 · have hf:decide (40<x.size)=false:=decide_eq_false h40
   rcases form40 x (by omega) with hv|⟨q,rfl,hq⟩
   · exact(rex_inv x w (qvn hv (by omega) w hl.1) hl hf).at
   · obtain⟨r,r0,rr,re⟩:=abs_root q
     have hqq:=hq.mul hq
     have hr:SmQ 160 r:=re▸sm_rootQ hqq (by decide)
     have q0:0≤q*q:=sq_nonneg q
     have h3:=oExact_yes q0 hqq (by decide) (by decide) (by rw[re,rr]) w hl.1
     rw[re]at h3
     have h1:=vcv hq (by decide) w hl.1
     have h2:=qMulC (x:=q) (y:=q) rfl (hq.fit (by decide)) (hq.fit (by decide)) w hl.1
     have h4:=qMulC rr (hr.fit (by decide)) (hr.fit (by decide)) w hl.1
     have h5:=qCmp0C (x:=r) rfl (hr.fit (by decide)) w hl.1
     have f1:=cmp0_nonneg r0
     have h8:=qMul_nil w hl.1
     by_cases hn:q<0
     · have h7:=qCmp0C (cmpQ_lt hn) (hq.fit (by decide)) w hl.1
       exact(rex_neg _ _ _ _ w h1 h2 h3 h4 h5 (oExact_neg hn hq (by decide) w hl.1) h7 h8 hl hf f1).at
     · have hn0:0≤q:=by grind
       have h7:=qCmp0C (x:=q) rfl (hq.fit (by decide)) w hl.1
       have f2:=cmp0_nonneg hn0
       by_cases hs:rootQ q*rootQ q=q
       · have hz:=sm_rootQ hq (by decide)
         have h8':=qMulC hs (hz.fit (by decide)) (hz.fit (by decide)) w hl.1
         exact(rex_yes _ _ _ _ _ _ w h1 h2 h3 h4 h5 (oExact_yes hn0 hq (by decide) (by decide) hs w hl.1) h7 h8' hl hf f1 f2).at
       · exact(rex_not _ _ _ _ _ w h1 h2 h3 h4 h5 (oExact_not hn0 hq (by decide) (by decide) hs w hl.1) h7 h8 hl hf f1 f2).at
end Go.Proofs.YtggoeabhbkbadaaGreatDoor
