/- garboardlaw11.few. -/
import Derived.Test.YtklfllmfcckgjaaGreatDoorGi
set_option maxRecDepth 100000
set_option maxHeartbeats 20000000
open Go.Lib (hid)
namespace Go.Proofs.YtklfllmfcckgjaaGreatDoor
open Go.RowKit Go.Gb
theorem lfew_c (n1 n2 n3 c x:ByteArray)(sl:Value)(w₀:World)  (kc:decide ((c.size:Int)≤20)=false) :
 CV w₀ 8 #[.agg #[.string n1,.string n2,.string n3,.string c],.string x,sl] (.bool false):=by
 intro w hw
 clear hw
 go_enter Tryz.func8,Tryz.ntmps8
 go_upto_region 1 with fail
 refine wp_boxes w [(#[.string n1,.string n2,.string n3,.string c],28)] rfl ?_
 rintro W0 ⟨k1,hb⟩
 have HB0:=hid (show Below w.heap.size w W0 from hb)
 have K1:=hid k1
 clear k1 hb
 have dK13:=K1.out.cell (i:=3) rfl
 go_wp2
 exact bodyPost_ret (v:=.bool false) (by simp[results,Tryz.results8,go_sem]) rfl ⟨rfl,HB0.out⟩
theorem lfew_x (n1 n2 n3 c x:ByteArray)(sl:Value)(w₀:World)  (kc:decide ((c.size:Int)≤20)=true)(kx:decide ((x.size:Int)≤20)=false) :
 CV w₀ 8 #[.agg #[.string n1,.string n2,.string n3,.string c],.string x,sl] (.bool false):=by
 intro w hw
 clear hw
 go_enter Tryz.func8,Tryz.ntmps8
 go_upto_region 1 with fail
 refine wp_boxes w [(#[.string n1,.string n2,.string n3,.string c],28)] rfl ?_
 rintro W0 ⟨k1,hb⟩
 have HB0:=hid (show Below w.heap.size w W0 from hb)
 have K1:=hid k1
 clear k1 hb
 have dK13:=K1.out.cell (i:=3) rfl
 go_wp2
 exact bodyPost_ret (v:=.bool false) (by simp[results,Tryz.results8,go_sem]) rfl ⟨rfl,HB0.out⟩
theorem lfew_n (n1 n2 n3 c x:ByteArray)(sl:Value)(w₀:World)  (kc:decide ((c.size:Int)≤20)=true)(kx:decide ((x.size:Int)≤20)=true)(hn:decide (n1.size≤20∧n2.size≤20∧n3.size≤20)=false) :
 CV w₀ 8 #[.agg #[.string n1,.string n2,.string n3,.string c],.string x,sl] (.bool false):=by
 intro w hw
 have HN:=hid hn
 clear hn hw
 go_enter Tryz.func8,Tryz.ntmps8
 go_upto_region 1 with fail
 refine wp_boxes w [(#[.string n1,.string n2,.string n3,.string c],28)] rfl ?_
 rintro W0 ⟨k1,hb⟩
 have HB0:=hid (show Below w.heap.size w W0 from hb)
 have K1:=hid k1
 clear k1 hb
 have dK13:=K1.out.cell (i:=3) rfl
 have dK10:=K1.out.cell (i:=0) rfl
 have dK11:=K1.out.cell (i:=1) rfl
 have dK12:=K1.out.cell (i:=2) rfl
 go_wp2_with fail
 have hb:=below_new W0 (.cells #[.string n1,.string n2,.string n3] 24)
 have k2:=SBk.new W0 #[.string n1,.string n2,.string n3] 24
 generalize W0.alloc (.cells #[.string n1,.string n2,.string n3] 24)=W1 at *
 have HB1:=hbt HB0 hb
 have K2:=hid k2
 clear k2 hb
 with_reducible refine((few_list1 _ n1 n2 n3 false HN.out _ K2.out).at).mono ?_
 rintro e W2 ⟨rfl,hb⟩
 clear dK13 dK10 dK11 dK12
 have HB2:=hbt HB1 hb
 clear hb
 go_wp2
 exact bodyPost_ret (v:=.bool false) (by simp[results,Tryz.results8,go_sem]) rfl ⟨rfl,HB2.out⟩
theorem lfew_l (n1 n2 n3 c x:ByteArray)(sl:Value)(b:Bool)(w₀:World)(h1:CV w₀ 28 #[sl] (.bool b))(kc:decide ((c.size:Int)≤20)=true)(kx:decide ((x.size:Int)≤20)=true)(hn:decide (n1.size≤20∧n2.size≤20∧n3.size≤20)=true) :
 CV w₀ 8 #[.agg #[.string n1,.string n2,.string n3,.string c],.string x,sl] (.bool b):=by
 intro w hw
 have C1:=hid (h1.mono hw)
 have HN:=hid hn
 clear hn h1 hw
 go_enter Tryz.func8,Tryz.ntmps8
 go_upto_region 1 with fail
 refine wp_boxes w [(#[.string n1,.string n2,.string n3,.string c],28)] rfl ?_
 rintro W0 ⟨k1,hb⟩
 have HB0:=hid (show Below w.heap.size w W0 from hb)
 have K1:=hid k1
 clear k1 hb
 have dK13:=K1.out.cell (i:=3) rfl
 have dK10:=K1.out.cell (i:=0) rfl
 have dK11:=K1.out.cell (i:=1) rfl
 have dK12:=K1.out.cell (i:=2) rfl
 go_wp2_with fail
 have hb:=below_new W0 (.cells #[.string n1,.string n2,.string n3] 24)
 have k2:=SBk.new W0 #[.string n1,.string n2,.string n3] 24
 generalize W0.alloc (.cells #[.string n1,.string n2,.string n3] 24)=W1 at *
 have HB1:=hbt HB0 hb
 have K2:=hid k2
 clear k2 hb
 with_reducible refine((few_list1 _ n1 n2 n3 true HN.out _ K2.out).at).mono ?_
 rintro e W2 ⟨rfl,hb⟩
 clear dK13 dK10 dK11 dK12
 have HB2:=hbt HB1 hb
 clear hb
 go_wp2_with fail
 with_reducible refine(C1.out _ HB2.out).mono ?_
 rintro e W3 ⟨rfl,hb⟩
 have HB3:=hbt HB2 hb
 clear hb
 go_wp2
 exact bodyPost_ret (v:=.bool b) (by simp[results,Tryz.results8,go_sem]) rfl ⟨rfl,HB3.out⟩
theorem lfew (n1 n2 n3 c x:ByteArray)(sl:Value)(b2 b:Bool)(w:World)(h:CV w 28 #[sl] (.bool b2))(hb:(decide (c.size≤20∧x.size≤20∧n1.size≤20∧n2.size≤20∧n3.size≤20)&&b2)=b) :
 CV w 8 #[.agg #[.string n1,.string n2,.string n3,.string c],.string x,sl] (.bool b):=by
 by_cases hc:c.size≤20
 · have kc:decide ((c.size:Int)≤20)=true:=decide_eq_true (by omega)
   by_cases hx:x.size≤20
   · have kx:decide ((x.size:Int)≤20)=true:=decide_eq_true (by omega)
     by_cases hn:n1.size≤20∧n2.size≤20∧n3.size≤20
     · have e:decide (c.size≤20∧x.size≤20∧n1.size≤20∧n2.size≤20∧n3.size≤20)=true:=decide_eq_true ⟨hc,hx,hn⟩
       rw[e,Bool.true_and]at hb
       subst hb
       exact lfew_l n1 n2 n3 c x sl b2 w h kc kx (decide_eq_true hn)
     · have e:decide (c.size≤20∧x.size≤20∧n1.size≤20∧n2.size≤20∧n3.size≤20)=false:=decide_eq_false (fun h=>hn h.2.2)
       rw[e,Bool.false_and]at hb
       subst hb
       exact lfew_n n1 n2 n3 c x sl w kc kx (decide_eq_false hn)
   · have e:decide (c.size≤20∧x.size≤20∧n1.size≤20∧n2.size≤20∧n3.size≤20)=false:=decide_eq_false (fun h=>hx h.2.1)
     rw[e,Bool.false_and]at hb
     subst hb
     exact lfew_x n1 n2 n3 c x sl w kc (decide_eq_false (by omega))
 · have e:decide (c.size≤20∧x.size≤20∧n1.size≤20∧n2.size≤20∧n3.size≤20)=false:=decide_eq_false (fun h=>hc h.1)
   rw[e,Bool.false_and]at hb
   subst hb
   exact lfew_c n1 n2 n3 c x sl w (decide_eq_false (by omega))
end Go.Proofs.YtklfllmfcckgjaaGreatDoor
