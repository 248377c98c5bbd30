/- Texts of this proof, one behind the other. -/
import Derived.Test.YtklfllmfcckgjaaGreatDoorGk
set_option maxRecDepth 100000
set_option maxHeartbeats 20000000
open Go.Lib (hid)
namespace Go.Proofs.YtklfllmfcckgjaaGreatDoor
open Go.RowKit Go.Gb
theorem lfew_c (n1 n2 n3 c x:ByteArray)(sl:Value)(w₀:World)  (kc:decide ((c.size:Int)≤20)=false) :
 CV w₀ 8 #[.agg #[.string n1,.string n2,.string n3,.string c],.string x,sl] (.bool false):=by
 intro w hw
 clear hw
 go_enter Tryz.func8,Tryz.ntmps8
 go_upto_region 1 with fail
 refine wp_boxes w [(#[.string n1,.string n2,.string n3,.string c],28)] rfl ?_
 rintro W0 ⟨k1,hb⟩
 have HB0:=hid (show Below w.heap.size w W0 from hb)
 have K1:=hid k1
 clear k1 hb
 have dK13:=K1.out.cell (i:=3) rfl
 go_wp2
 exact bodyPost_ret (v:=.bool false) (by simp[results,Tryz.results8,go_sem]) rfl ⟨rfl,HB0.out⟩
theorem lfew_x (n1 n2 n3 c x:ByteArray)(sl:Value)(w₀:World)  (kc:decide ((c.size:Int)≤20)=true)(kx:decide ((x.size:Int)≤20)=false) :
 CV w₀ 8 #[.agg #[.string n1,.string n2,.string n3,.string c],.string x,sl] (.bool false):=by
 intro w hw
 clear hw
 go_enter Tryz.func8,Tryz.ntmps8
 go_upto_region 1 with fail
 refine wp_boxes w [(#[.string n1,.string n2,.string n3,.string c],28)] rfl ?_
 rintro W0 ⟨k1,hb⟩
 have HB0:=hid (show Below w.heap.size w W0 from hb)
 have K1:=hid k1
 clear k1 hb
 have dK13:=K1.out.cell (i:=3) rfl
 go_wp2
 exact bodyPost_ret (v:=.bool false) (by simp[results,Tryz.results8,go_sem]) rfl ⟨rfl,HB0.out⟩
theorem lfew_n (n1 n2 n3 c x:ByteArray)(sl:Value)(w₀:World)  (kc:decide ((c.size:Int)≤20)=true)(kx:decide ((x.size:Int)≤20)=true)(hn:decide (n1.size≤20∧n2.size≤20∧n3.size≤20)=false) :
 CV w₀ 8 #[.agg #[.string n1,.string n2,.string n3,.string c],.string x,sl] (.bool false):=by
 intro w hw
 have HN:=hid hn
 clear hn hw
 go_enter Tryz.func8,Tryz.ntmps8
 go_upto_region 1 with fail
 refine wp_boxes w [(#[.string n1,.string n2,.string n3,.string c],28)] rfl ?_
 rintro W0 ⟨k1,hb⟩
 have HB0:=hid (show Below w.heap.size w W0 from hb)
 have K1:=hid k1
 clear k1 hb
 have dK13:=K1.out.cell (i:=3) rfl
 have dK10:=K1.out.cell (i:=0) rfl
 have dK11:=K1.out.cell (i:=1) rfl
 have dK12:=K1.out.cell (i:=2) rfl
 go_wp2_with fail
 have hb:=below_new W0 (.cells #[.string n1,.string n2,.string n3] 24)
 have k2:=SBk.new W0 #[.string n1,.string n2,.string n3] 24
 generalize W0.alloc (.cells #[.string n1,.string n2,.string n3] 24)=W1 at *
 have HB1:=hbt HB0 hb
 have K2:=hid k2
 clear k2 hb
 with_reducible refine((few_list1 _ n1 n2 n3 false HN.out _ K2.out).at).mono ?_
 rintro e W2 ⟨rfl,hb⟩
 clear dK13 dK10 dK11 dK12
 have HB2:=hbt HB1 hb
 clear hb
 go_wp2
 exact bodyPost_ret (v:=.bool false) (by simp[results,Tryz.results8,go_sem]) rfl ⟨rfl,HB2.out⟩
theorem lfew_l (n1 n2 n3 c x:ByteArray)(sl:Value)(b:Bool)(w₀:World)(h1:CV w₀ 28 #[sl] (.bool b))(kc:decide ((c.size:Int)≤20)=true)(kx:decide ((x.size:Int)≤20)=true)(hn:decide (n1.size≤20∧n2.size≤20∧n3.size≤20)=true) :
 CV w₀ 8 #[.agg #[.string n1,.string n2,.string n3,.string c],.string x,sl] (.bool b):=by
 intro w hw
 have C1:=hid (h1.mono hw)
 have HN:=hid hn
 clear hn h1 hw
 go_enter Tryz.func8,Tryz.ntmps8
 go_upto_region 1 with fail
 refine wp_boxes w [(#[.string n1,.string n2,.string n3,.string c],28)] rfl ?_
 rintro W0 ⟨k1,hb⟩
 have HB0:=hid (show Below w.heap.size w W0 from hb)
 have K1:=hid k1
 clear k1 hb
 have dK13:=K1.out.cell (i:=3) rfl
 have dK10:=K1.out.cell (i:=0) rfl
 have dK11:=K1.out.cell (i:=1) rfl
 have dK12:=K1.out.cell (i:=2) rfl
 go_wp2_with fail
 have hb:=below_new W0 (.cells #[.string n1,.string n2,.string n3] 24)
 have k2:=SBk.new W0 #[.string n1,.string n2,.string n3] 24
 generalize W0.alloc (.cells #[.string n1,.string n2,.string n3] 24)=W1 at *
 have HB1:=hbt HB0 hb
 have K2:=hid k2
 clear k2 hb
 with_reducible refine((few_list1 _ n1 n2 n3 true HN.out _ K2.out).at).mono ?_
 rintro e W2 ⟨rfl,hb⟩
 clear dK13 dK10 dK11 dK12
 have HB2:=hbt HB1 hb
 clear hb
 go_wp2_with fail
 with_reducible refine(C1.out _ HB2.out).mono ?_
 rintro e W3 ⟨rfl,hb⟩
 have HB3:=hbt HB2 hb
 clear hb
 go_wp2
 exact bodyPost_ret (v:=.bool b) (by simp[results,Tryz.results8,go_sem]) rfl ⟨rfl,HB3.out⟩
theorem lfew (n1 n2 n3 c x:ByteArray)(sl:Value)(b2 b:Bool)(w:World)(h:CV w 28 #[sl] (.bool b2))(hb:(decide (c.size≤20∧x.size≤20∧n1.size≤20∧n2.size≤20∧n3.size≤20)&&b2)=b) :
 CV w 8 #[.agg #[.string n1,.string n2,.string n3,.string c],.string x,sl] (.bool b):=by
 by_cases hc:c.size≤20
 · have kc:decide ((c.size:Int)≤20)=true:=decide_eq_true (by omega)
   by_cases hx:x.size≤20
   · have kx:decide ((x.size:Int)≤20)=true:=decide_eq_true (by omega)
     by_cases hn:n1.size≤20∧n2.size≤20∧n3.size≤20
     · have e:decide (c.size≤20∧x.size≤20∧n1.size≤20∧n2.size≤20∧n3.size≤20)=true:=decide_eq_true ⟨hc,hx,hn⟩
       rw[e,Bool.true_and]at hb
       subst hb
       exact lfew_l n1 n2 n3 c x sl b2 w h kc kx (decide_eq_true hn)
     · have e:decide (c.size≤20∧x.size≤20∧n1.size≤20∧n2.size≤20∧n3.size≤20)=false:=decide_eq_false (fun h=>hn h.2.2)
       rw[e,Bool.false_and]at hb
       subst hb
       exact lfew_n n1 n2 n3 c x sl w kc kx (decide_eq_false hn)
   · have e:decide (c.size≤20∧x.size≤20∧n1.size≤20∧n2.size≤20∧n3.size≤20)=false:=decide_eq_false (fun h=>hx h.2.1)
     rw[e,Bool.false_and]at hb
     subst hb
     exact lfew_x n1 n2 n3 c x sl w kc (decide_eq_false (by omega))
 · have e:decide (c.size≤20∧x.size≤20∧n1.size≤20∧n2.size≤20∧n3.size≤20)=false:=decide_eq_false (fun h=>hc h.1)
   rw[e,Bool.false_and]at hb
   subst hb
   exact lfew_c n1 n2 n3 c x sl w (decide_eq_false (by omega))
open Go.RowKit Go.Gb
theorem tx_three {k:Nat}{x y z:ByteArray}{o1 o2 o3:Option Rat}(h1:Tx k x o1)(h2:Tx k y o2)(h3:Tx k z o3)(h:(o1.isSome&&(o2.isSome&&o3.isSome))=true):(∃ q,x=Sq q∧SmQ k q)∧(∃ q,y=Sq q∧SmQ k q)∧(∃ q,z=Sq q∧SmQ k q):=by
 have e:∀ {s:ByteArray} {o:Option Rat},Tx k s o→o.isSome=true→∃ q,s=Sq q∧SmQ k q:=by
  rintro s o (⟨q,rfl,rfl,hq⟩|⟨rfl,_⟩) h
  · exact⟨q,rfl,hq⟩
  · cases h
 rw[Bool.and_eq_true,Bool.and_eq_true]at h
 exact⟨e h1 h.1,e h2 h.2.1,e h3 h.2.2⟩
end Go.Proofs.YtklfllmfcckgjaaGreatDoor
set_option maxRecDepth 100000
set_option maxHeartbeats 20000000
open Go.Lib (hid)
namespace Go.Proofs.YtklfllmfcckgjaaGreatDoor
open Go.RowKit Go.Gb
theorem io_raw (x y:ByteArray)(c n:Int)(w₀:World)(h1:CV w₀ 22 #[.string x,.string y] (.tuple #[.int .i64 c,.int .i64 n]))  :
 CV w₀ 72 #[.string x,.string y] (.int .i64 c):=by
 intro w hw
 have C1:=hid (h1.mono hw)
 clear h1 hw
 go_enter Tryz.func72,Tryz.ntmps72
 have HB0:=hid (Below.refl w.heap.size w)
 go_wp2_with fail
 with_reducible refine(C1.out _ HB0.out).mono ?_
 rintro e W1 ⟨rfl,hb⟩
 have HB1:=hbt HB0 hb
 clear hb
 go_wp2
 exact bodyPost_ret (v:=.int .i64 c) (by simp[results,Tryz.results72,go_sem]) rfl ⟨rfl,HB1.out⟩
theorem iv_raw (l u:ByteArray)(c:Int)(b:Bool)(w₀:World)(h1:CV w₀ 22 #[.string l,.string u] (.tuple #[.int .i64 c,.int .i64 0]))(hb:decide (c≤0)=b) :
 CV w₀ 47 #[.agg #[.string l,.string u]] (.bool b):=by
 intro w hw
 have C1:=hid (h1.mono hw)
 clear h1 hw
 go_enter Tryz.func47,Tryz.ntmps47
 go_upto_region 1 with fail
 refine wp_boxes w [(#[.string l,.string u],51)] rfl ?_
 rintro W0 ⟨k1,hb⟩
 have HB0:=hid (show Below w.heap.size w W0 from hb)
 have K1:=hid k1
 clear k1 hb
 have dK10:=K1.out.cell (i:=0) rfl
 have dK11:=K1.out.cell (i:=1) rfl
 go_wp2_with fail
 with_reducible refine(C1.out _ HB0.out).mono ?_
 rintro e W1 ⟨rfl,hb⟩
 clear dK10 dK11
 have HB1:=hbt HB0 hb
 clear hb
 go_wp2
 exact bodyPost_ret (v:=.bool b) (by simp[results,Tryz.results47,go_sem]) rfl ⟨rfl,HB1.out⟩
theorem ih_raw (l u x:ByteArray)(c k:Int)(w₀:World)(h1:CV w₀ 72 #[.string l,.string x] (.int .i64 c))(h2:CV w₀ 72 #[.string x,.string u] (.int .i64 k))(hc:decide (c≤0)=true)(hk:decide (k≤0)=true) :
 CV w₀ 48 #[.agg #[.string l,.string u],.string x] (.bool true):=by
 intro w hw
 have C1:=hid (h1.mono hw)
 have C2:=hid (h2.mono hw)
 clear h1 h2 hw
 go_enter Tryz.func48,Tryz.ntmps48
 go_upto_region 1 with fail
 refine wp_boxes w [(#[.string l,.string u],51)] rfl ?_
 rintro W0 ⟨k1,hb⟩
 have HB0:=hid (show Below w.heap.size w W0 from hb)
 have K1:=hid k1
 clear k1 hb
 have dK10:=K1.out.cell (i:=0) rfl
 go_wp2_with fail
 with_reducible refine(C1.out _ HB0.out).mono ?_
 rintro e W1 ⟨rfl,hb⟩
 clear dK10
 have K1:=hid (K1.out.below hb)
 have HB1:=hbt HB0 hb
 clear hb
 have dK11:=K1.out.cell (i:=1) rfl
 go_wp2_with fail
 with_reducible refine(C2.out _ HB1.out).mono ?_
 rintro e W2 ⟨rfl,hb⟩
 clear dK11
 have HB2:=hbt HB1 hb
 clear hb
 go_wp2
 exact bodyPost_ret (v:=.bool true) (by simp[results,Tryz.results48,go_sem]) rfl ⟨rfl,HB2.out⟩
theorem iHas_yes (l u x:ByteArray)(w₀:World)(h1:CV w₀ 47 #[.agg #[.string l,.string u]] (.bool true))(h2:CV w₀ 15 #[.string x] (.bool true))(h3:CV w₀ 48 #[.agg #[.string l,.string u],.string x] (.bool true))  :
 CV w₀ 25 #[.agg #[.string l,.string u],.string x] (.bool true):=by
 intro w hw
 have C1:=hid (h1.mono hw)
 have C2:=hid (h2.mono hw)
 have C3:=hid (h3.mono hw)
 clear h1 h2 h3 hw
 go_enter Tryz.func25,Tryz.ntmps25
 go_upto_region 1 with fail
 refine wp_boxes w [(#[.string l,.string u],51)] rfl ?_
 rintro W0 ⟨k1,hb⟩
 have HB0:=hid (show Below w.heap.size w W0 from hb)
 have K1:=hid k1
 clear k1 hb
 have dK10:=K1.out.cell (i:=0) rfl
 have dK11:=K1.out.cell (i:=1) rfl
 go_wp2_with fail
 with_reducible refine(C1.out _ HB0.out).mono ?_
 rintro e W1 ⟨rfl,hb⟩
 clear dK10 dK11
 have K1:=hid (K1.out.below hb)
 have HB1:=hbt HB0 hb
 clear hb
 go_wp2_with fail
 with_reducible refine(C2.out _ HB1.out).mono ?_
 rintro e W2 ⟨rfl,hb⟩
 have K1:=hid (K1.out.below hb)
 have HB2:=hbt HB1 hb
 clear hb
 have dK10:=K1.out.cell (i:=0) rfl
 have dK11:=K1.out.cell (i:=1) rfl
 go_wp2_with fail
 with_reducible refine(C3.out _ HB2.out).mono ?_
 rintro e W3 ⟨rfl,hb⟩
 clear dK10 dK11
 have HB3:=hbt HB2 hb
 clear hb
 go_wp2
 exact bodyPost_ret (v:=.bool true) (by simp[results,Tryz.results25,go_sem]) rfl ⟨rfl,HB3.out⟩
theorem iHas_gt (l u x:ByteArray)(w₀:World)(h1:CV w₀ 47 #[.agg #[.string l,.string u]] (.bool false))  :
 CV w₀ 25 #[.agg #[.string l,.string u],.string x] (.bool false):=by
 intro w hw
 have C1:=hid (h1.mono hw)
 clear h1 hw
 go_enter Tryz.func25,Tryz.ntmps25
 go_upto_region 1 with fail
 refine wp_boxes w [(#[.string l,.string u],51)] rfl ?_
 rintro W0 ⟨k1,hb⟩
 have HB0:=hid (show Below w.heap.size w W0 from hb)
 have K1:=hid k1
 clear k1 hb
 have dK10:=K1.out.cell (i:=0) rfl
 have dK11:=K1.out.cell (i:=1) rfl
 go_wp2_with fail
 with_reducible refine(C1.out _ HB0.out).mono ?_
 rintro e W1 ⟨rfl,hb⟩
 clear dK10 dK11
 have HB1:=hbt HB0 hb
 clear hb
 go_wp2
 exact bodyPost_ret (v:=.bool false) (by simp[results,Tryz.results25,go_sem]) rfl ⟨rfl,HB1.out⟩
theorem lin_one (l u x:ByteArray)(w₀:World)(h1:CV w₀ 25 #[.agg #[.string l,.string u],.string x] (.bool true))  :
 CV w₀ 24 #[.string l,.string u,.string x] (.bool true):=by
 intro w hw
 have C1:=hid (h1.mono hw)
 clear h1 hw
 go_enter Tryz.func24,Tryz.ntmps24
 have HB0:=hid (Below.refl w.heap.size w)
 go_wp2_with fail
 with_reducible refine(C1.out _ HB0.out).mono ?_
 rintro e W1 ⟨rfl,hb⟩
 have HB1:=hbt HB0 hb
 clear hb
 go_wp2
 exact bodyPost_ret (v:=.bool true) (by simp[results,Tryz.results24,go_sem]) rfl ⟨rfl,HB1.out⟩
theorem lin_two (l u x:ByteArray)(w₀:World)(h1:CV w₀ 25 #[.agg #[.string l,.string u],.string x] (.bool false))(h2:CV w₀ 25 #[.agg #[.string u,.string l],.string x] (.bool true))  :
 CV w₀ 24 #[.string l,.string u,.string x] (.bool true):=by
 intro w hw
 have C1:=hid (h1.mono hw)
 have C2:=hid (h2.mono hw)
 clear h1 h2 hw
 go_enter Tryz.func24,Tryz.ntmps24
 have HB0:=hid (Below.refl w.heap.size w)
 go_wp2_with fail
 with_reducible refine(C1.out _ HB0.out).mono ?_
 rintro e W1 ⟨rfl,hb⟩
 have HB1:=hbt HB0 hb
 clear hb
 go_wp2_with fail
 with_reducible refine(C2.out _ HB1.out).mono ?_
 rintro e W2 ⟨rfl,hb⟩
 have HB2:=hbt HB1 hb
 clear hb
 go_wp2
 exact bodyPost_ret (v:=.bool true) (by simp[results,Tryz.results24,go_sem]) rfl ⟨rfl,HB2.out⟩
theorem nHas {l u x:Rat}(h1:l≤x)(h2:x≤u)(fl:FitQ l)(fu:FitQ u)(fx:FitQ x)(w:World)(hla:La w):CV w 25 #[.agg #[.string (Sq l),.string (Sq u)],.string (Sq x)] (.bool true):=by
 have hc:∀ {a b:Rat},a≤b→decide (cmpQ a b≤0)=true:=by
  intro a b h
  rcases cmpQ_cases a b with⟨_,e⟩|⟨_,e⟩|⟨h',_⟩
  · rw[e];decide
  · rw[e];decide
  · exact absurd h (Rat.not_le.2 h')
 exact iHas_yes _ _ _ w (iv_raw _ _ _ true w (fun W hW=>qCompare l u _ rfl fl fu W (hla.on hW)) (hc (Rat.le_trans h1 h2))) (fun W hW=>qvalid_yes x fx W (hla.on hW)) (ih_raw _ _ _ _ _ w (io_raw _ _ _ 0 w (fun W hW=>qCompare l x _ rfl fl fx W (hla.on hW))) (io_raw _ _ _ 0 w (fun W hW=>qCompare x u _ rfl fx fu W (hla.on hW))) (hc h1) (hc h2))
theorem nHas_gt {l u x:Rat}(h:u<l)(fl:FitQ l)(fu:FitQ u)(w:World)(hla:La w):CV w 25 #[.agg #[.string (Sq l),.string (Sq u)],.string (Sq x)] (.bool false) :=
 iHas_gt _ _ _ w (iv_raw _ _ _ false w (fun W hW=>qCompare l u _ rfl fl fu W (hla.on hW)) (by rw[cmpQ_gt h];decide))
theorem nIn {l u x:Rat}(h:(l≤x∧x≤u)∨(u≤x∧x≤l))(fl:FitQ l)(fu:FitQ u)(fx:FitQ x)(w:World)(hla:La w):CV w 24 #[.string (Sq l),.string (Sq u),.string (Sq x)] (.bool true):=by
 by_cases h1:l≤x∧x≤u
 · exact lin_one _ _ _ w (nHas h1.1 h1.2 fl fu fx w hla)
 · have h2:u≤x∧x≤l:=by
    rcases h with h|h
    · exact absurd h h1
    · exact h
   have h3:u<l:=by
    rcases Rat.le_total (a:=l) (b:=u) with h4|h4
    · exact absurd ⟨Rat.le_trans h4 h2.1,Rat.le_trans h2.2 h4⟩ h1
    · rcases Rat.le_iff_lt_or_eq.1 h4 with h5|h5
      · exact h5
      · subst h5;exact absurd ⟨h2.1,h2.2⟩ h1
   exact lin_two _ _ _ w (nHas_gt h3 fl fu w hla) (nHas h2.1 h2.2 fu fl fx w hla)
end Go.Proofs.YtklfllmfcckgjaaGreatDoor
