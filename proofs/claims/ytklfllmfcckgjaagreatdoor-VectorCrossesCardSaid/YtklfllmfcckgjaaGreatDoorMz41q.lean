/- Texts of this proof, one behind the other. -/
import Derived.Test.YtklfllmfcckgjaaGreatDoorMz40q
set_option maxRecDepth 100000
set_option maxHeartbeats 20000000
open Go.Lib (hid)
namespace Go.Proofs.YtklfllmfcckgjaaGreatDoor
open Go.RowKit Go.Gb
theorem vrange2 (g:Nat)(x y z u v t o1 o2 o3 s:ByteArray)(w₀:World)(h1:CV w₀ 12 #[.agg #[.string x,.string y,.string z],.agg #[.string o1,.string o2,.string o3]] (.tuple #[.string s,.int .i64 0]))(h2:CV w₀ 12 #[.agg #[.string u,.string v,.string t],.agg #[.string o1,.string o2,.string o3]] (.tuple #[.string s,.int .i64 0]))(h3:CV w₀ 42 #[.string s,.string s] (.int .i64 0))  (kK0:SBk w₀ g #[.string x,.string y,.string z,.string u,.string v,.string t] 24) :
 CV w₀ 27 #[.slice (some ⟨g,0,none⟩) 2 2,.agg #[.string o1,.string o2,.string o3]] (.tuple #[.agg #[.string s,.string s],.int .i64 0]):=by
 intro w hw
 have C1:=hid (h1.mono hw)
 have C2:=hid (h2.mono hw)
 have C3:=hid (h3.mono hw)
 have K0:=hid (kK0.below hw)
 clear h1 h2 h3 kK0 hw
 go_enter Tryz.func27,Tryz.ntmps27
 go_upto_region 1 with fail
 refine wp_boxes w [(#[.string o1,.string o2,.string o3],24),(#[.string ⟨#[]⟩,.string ⟨#[]⟩],51)] rfl ?_
 rintro W0 ⟨k1,k2,hb⟩
 have HB0:=hid (show Below w.heap.size w W0 from hb)
 have K0:=hid (K0.out.below HB0.out)
 have K1:=hid k1
 have K2:=hid k2
 clear k1 k2 hb
 go_upto_region 6 with fail
 refine wp_boxes W0 [(#[.string ⟨#[]⟩,.string ⟨#[]⟩],51)] rfl ?_
 have L1:=K0.out.lt
 have L2:=K1.out.lt
 have L3:=K2.out.lt
 have L4:=HB0.out.size
 rintro W1 ⟨k3,hb⟩
 have hb:Below W0.heap.size W0 W1:=hb
 have K0:=hid (K0.out.below hb)
 have K1:=hid (K1.out.below hb)
 have K2:=hid (K2.out.below hb)
 have HB1:=hbt HB0 hb
 have K3:=hid k3
 clear k3 hb
 go_wp2
 refine wp_loop_rounds 3 ?_
 rw[rounds_succ]
 have dK00:=K0.out.cell (i:=0) rfl
 have dK01:=K0.out.cell (i:=1) rfl
 have dK02:=K0.out.cell (i:=2) rfl
 go_upto_region 9 with fail
 refine wp_boxes W1 [(#[.string x,.string y,.string z],24)] rfl ?_
 have L5:=K0.out.lt
 have L6:=K1.out.lt
 have L7:=K2.out.lt
 have L8:=K3.out.lt
 have L9:=HB1.out.size
 rintro W2 ⟨k4,hb⟩
 have hb:Below W1.heap.size W1 W2:=hb
 have K0:=hid (K0.out.below hb)
 have K1:=hid (K1.out.below hb)
 have K2:=hid (K2.out.below hb)
 have K3:=hid (K3.out.below hb)
 have HB2:=hbt HB1 hb
 have K4:=hid k4
 clear k4 hb dK00 dK01 dK02
 have dK40:=K4.out.cell (i:=0) rfl
 have dK41:=K4.out.cell (i:=1) rfl
 have dK42:=K4.out.cell (i:=2) rfl
 have dK10:=K1.out.cell (i:=0) rfl
 have dK11:=K1.out.cell (i:=1) rfl
 have dK12:=K1.out.cell (i:=2) rfl
 go_wp2_with fail
 with_reducible refine(C1.out _ HB2.out).mono ?_
 rintro e W3 ⟨rfl,hb⟩
 clear dK40 dK41 dK42 dK10 dK11 dK12
 have K0:=hid (K0.out.below hb)
 have K1:=hid (K1.out.below hb)
 have K2:=hid (K2.out.below hb)
 have K3:=hid (K3.out.below hb)
 have K4:=hid (K4.out.below hb)
 have HB3:=hbt HB2 hb
 clear hb
 have dK30:=K3.out.cell (i:=0) rfl
 have fK30:=K3.out.frozen (i:=0)
 go_upto_region 14 with fail
 clear dK30 fK30
 refine wp_world (fun V=>Below w.heap.size w V∧SBk V (g) #[.string x,.string y,.string z,.string u,.string v,.string t] 24∧SBk V (w.heap.size) #[.string o1,.string o2,.string o3] 24∧SBk V (w.heap.size+1) #[.string ⟨#[]⟩,.string ⟨#[]⟩] 51∧SBk V (W0.heap.size) #[.string s,.string ⟨#[]⟩] 51∧SBk V (W1.heap.size) #[.string x,.string y,.string z] 24) (by
  have o0:∀ {g':Nat} {cs':Array Value} {T':TypeId},g'≠W0.heap.size→SBk W3 g' cs' T'→SBk (storeAll W3 (W0.heap.size) 0 [.string s]) g' cs' T':=fun hg' h'=>store_off hg' _ 0 h'
  exact⟨(store_below (l:=[.string s]) (i:=0) (by omega) HB3.out),(o0 (by omega) K0.out),(o0 (by omega) K1.out),(o0 (by omega) K2.out),(store_blk (l:=[.string s]) (i:=0) K3.out),(o0 (by omega) K4.out)⟩) ?_
 rintro W4 ⟨hb,z0,z1,z2,z3,z4⟩
 have HB4:=hid hb
 have K0:=hid z0
 have K1:=hid z1
 have K2:=hid z2
 have K3:=hid z3
 have K4:=hid z4
 clear hb z0 z1 z2 z3 z4
 have dK31:=K3.out.cell (i:=1) rfl
 have fK31:=K3.out.frozen (i:=1)
 go_upto_region 16 with fail
 clear dK31 fK31
 refine wp_world (fun V=>Below w.heap.size w V∧SBk V (g) #[.string x,.string y,.string z,.string u,.string v,.string t] 24∧SBk V (w.heap.size) #[.string o1,.string o2,.string o3] 24∧SBk V (w.heap.size+1) #[.string ⟨#[]⟩,.string ⟨#[]⟩] 51∧SBk V (W0.heap.size) #[.string s,.string s] 51∧SBk V (W1.heap.size) #[.string x,.string y,.string z] 24) (by
  have o0:∀ {g':Nat} {cs':Array Value} {T':TypeId},g'≠W0.heap.size→SBk W4 g' cs' T'→SBk (storeAll W4 (W0.heap.size) 1 [.string s]) g' cs' T':=fun hg' h'=>store_off hg' _ 1 h'
  exact⟨(store_below (l:=[.string s]) (i:=1) (by omega) HB4.out),(o0 (by omega) K0.out),(o0 (by omega) K1.out),(o0 (by omega) K2.out),(store_blk (l:=[.string s]) (i:=1) K3.out),(o0 (by omega) K4.out)⟩) ?_
 rintro W5 ⟨hb,z0,z1,z2,z3,z4⟩
 have HB5:=hid hb
 have K0:=hid z0
 have K1:=hid z1
 have K2:=hid z2
 have K3:=hid z3
 have K4:=hid z4
 clear hb z0 z1 z2 z3 z4
 go_wp2
 rw[rounds_succ]
 have dK03:=K0.out.cell (i:=3) rfl
 have dK04:=K0.out.cell (i:=4) rfl
 have dK05:=K0.out.cell (i:=5) rfl
 go_upto_region 9 with fail
 refine wp_boxes W5 [(#[.string u,.string v,.string t],24)] rfl ?_
 have L10:=K0.out.lt
 have L11:=K1.out.lt
 have L12:=K2.out.lt
 have L13:=K3.out.lt
 have L14:=K4.out.lt
 have L15:=HB5.out.size
 rintro W6 ⟨k5,hb⟩
 have hb:Below W5.heap.size W5 W6:=hb
 have K1:=hid (K1.out.below hb)
 have K2:=hid (K2.out.below hb)
 have K3:=hid (K3.out.below hb)
 have HB6:=hbt HB5 hb
 have K5:=hid k5
 clear k5 hb dK03 dK04 dK05
 have dK50:=K5.out.cell (i:=0) rfl
 have dK51:=K5.out.cell (i:=1) rfl
 have dK52:=K5.out.cell (i:=2) rfl
 have dK10:=K1.out.cell (i:=0) rfl
 have dK11:=K1.out.cell (i:=1) rfl
 have dK12:=K1.out.cell (i:=2) rfl
 go_wp2_with fail
 with_reducible refine(C2.out _ HB6.out).mono ?_
 rintro e W7 ⟨rfl,hb⟩
 clear dK50 dK51 dK52 dK10 dK11 dK12
 have K2:=hid (K2.out.below hb)
 have K3:=hid (K3.out.below hb)
 have HB7:=hbt HB6 hb
 clear hb
 have dK30:=K3.out.cell (i:=0) rfl
 go_wp2_with fail
 with_reducible refine(C3.out _ HB7.out).mono ?_
 rintro e W8 ⟨rfl,hb⟩
 clear dK30
 have K2:=hid (K2.out.below hb)
 have K3:=hid (K3.out.below hb)
 have HB8:=hbt HB7 hb
 clear hb
 have dK31:=K3.out.cell (i:=1) rfl
 go_wp2_with fail
 with_reducible refine(C3.out _ HB8.out).mono ?_
 rintro e W9 ⟨rfl,hb⟩
 clear dK31
 have K2:=hid (K2.out.below hb)
 have K3:=hid (K3.out.below hb)
 have HB9:=hbt HB8 hb
 clear hb
 go_wp2
 rw[rounds_succ]
 have dK30:=K3.out.cell (i:=0) rfl
 have dK31:=K3.out.cell (i:=1) rfl
 have dK20:=K2.out.cell (i:=0) rfl
 have dK21:=K2.out.cell (i:=1) rfl
 have fK20:=K2.out.frozen (i:=0)
 have fK21:=K2.out.frozen (i:=1)
 go_wp2
 exact bodyPost_ret (v:=.tuple #[.agg #[.string s,.string s],.int .i64 0]) (by simp[results,Tryz.results27,go_sem,dK20,dK21]) rfl ⟨rfl,(store_below (l:=[.string s,.string s]) (i:=0) (by omega) HB9.out)⟩
theorem lvec (x y z:ByteArray)(w₀:World)   :
 CV w₀ 26 #[.string x,.string y,.string z] (.agg #[.string x,.string y,.string z]):=by
 intro w hw
 clear hw
 go_enter Tryz.func26,Tryz.ntmps26
 go_upto_region 1 with fail
 refine wp_boxes w [(#[.string ⟨#[]⟩,.string ⟨#[]⟩,.string ⟨#[]⟩],24)] rfl ?_
 rintro W0 ⟨k1,hb⟩
 have HB0:=hid (show Below w.heap.size w W0 from hb)
 have K1:=hid k1
 clear k1 hb
 have dK10:=K1.out.cell (i:=0) rfl
 have dK11:=K1.out.cell (i:=1) rfl
 have dK12:=K1.out.cell (i:=2) rfl
 have fK10:=K1.out.frozen (i:=0)
 have fK11:=K1.out.frozen (i:=1)
 have fK12:=K1.out.frozen (i:=2)
 go_wp2
 exact bodyPost_ret (v:=.agg #[.string x,.string y,.string z]) (by simp[results,Tryz.results26,go_sem,dK10,dK11,dK12]) rfl ⟨rfl,(store_below (l:=[.string x,.string y,.string z]) (i:=0) (by omega) HB0.out)⟩
theorem few_list1 (g:Nat)(c00 c01 c02:ByteArray)(b:Bool)(hb:decide (c00.size≤20∧c01.size≤20∧c02.size≤20)=b)(w₀:World)(kK:SBk w₀ g #[.string c00,.string c01,.string c02] 24) :
 CV w₀ 28 #[.slice (some ⟨g,0,none⟩) 1 1] (.bool b):=by
 intro w hw
 have K:=kK.below hw
 clear kK hw
 have d0:=K.cell (i:=0) rfl
 have d1:=K.cell (i:=1) rfl
 have d2:=K.cell (i:=2) rfl
 clear K
 have hbb:=hid hb
 clear hb
 go_enter Tryz.func28,Tryz.ntmps28
 go_wp2
 refine wp_loop_rounds 2 ?_
 rw[rounds_succ]
 by_cases h00:20<c00.size
 · have k00:(20:Int)<(c00.size:Int):=by omega
   obtain rfl:b=false:=by rw[← hbb.out];exact decide_eq_false (by omega)
   clear hbb
   go_wp2
   go_ret
   exact⟨rfl,Below.refl _ _⟩
 have k00:¬ (20:Int)<(c00.size:Int):=by omega
 by_cases h01:20<c01.size
 · have k01:(20:Int)<(c01.size:Int):=by omega
   obtain rfl:b=false:=by rw[← hbb.out];exact decide_eq_false (by omega)
   clear hbb
   go_wp2
   go_ret
   exact⟨rfl,Below.refl _ _⟩
 have k01:¬ (20:Int)<(c01.size:Int):=by omega
 by_cases h02:20<c02.size
 · have k02:(20:Int)<(c02.size:Int):=by omega
   obtain rfl:b=false:=by rw[← hbb.out];exact decide_eq_false (by omega)
   clear hbb
   go_wp2
   go_ret
   exact⟨rfl,Below.refl _ _⟩
 have k02:¬ (20:Int)<(c02.size:Int):=by omega
 go_wp2
 rw[rounds_succ]
 obtain rfl:b=true:=by rw[← hbb.out];exact decide_eq_true (by omega)
 clear hbb
 go_wp2
 go_ret
 exact⟨rfl,Below.refl _ _⟩
theorem few_list2 (g:Nat)(c00 c01 c02 c10 c11 c12:ByteArray)(b:Bool)(hb:decide (c00.size≤20∧c01.size≤20∧c02.size≤20∧c10.size≤20∧c11.size≤20∧c12.size≤20)=b)(w₀:World)(kK:SBk w₀ g #[.string c00,.string c01,.string c02,.string c10,.string c11,.string c12] 24) :
 CV w₀ 28 #[.slice (some ⟨g,0,none⟩) 2 2] (.bool b):=by
 intro w hw
 have K:=kK.below hw
 clear kK hw
 have d0:=K.cell (i:=0) rfl
 have d1:=K.cell (i:=1) rfl
 have d2:=K.cell (i:=2) rfl
 have d3:=K.cell (i:=3) rfl
 have d4:=K.cell (i:=4) rfl
 have d5:=K.cell (i:=5) rfl
 clear K
 have hbb:=hid hb
 clear hb
 go_enter Tryz.func28,Tryz.ntmps28
 go_wp2
 refine wp_loop_rounds 3 ?_
 rw[rounds_succ]
 by_cases h00:20<c00.size
 · have k00:(20:Int)<(c00.size:Int):=by omega
   obtain rfl:b=false:=by rw[← hbb.out];exact decide_eq_false (by omega)
   clear hbb
   go_wp2
   go_ret
   exact⟨rfl,Below.refl _ _⟩
 have k00:¬ (20:Int)<(c00.size:Int):=by omega
 by_cases h01:20<c01.size
 · have k01:(20:Int)<(c01.size:Int):=by omega
   obtain rfl:b=false:=by rw[← hbb.out];exact decide_eq_false (by omega)
   clear hbb
   go_wp2
   go_ret
   exact⟨rfl,Below.refl _ _⟩
 have k01:¬ (20:Int)<(c01.size:Int):=by omega
 by_cases h02:20<c02.size
 · have k02:(20:Int)<(c02.size:Int):=by omega
   obtain rfl:b=false:=by rw[← hbb.out];exact decide_eq_false (by omega)
   clear hbb
   go_wp2
   go_ret
   exact⟨rfl,Below.refl _ _⟩
 have k02:¬ (20:Int)<(c02.size:Int):=by omega
 go_wp2
 rw[rounds_succ]
 by_cases h10:20<c10.size
 · have k10:(20:Int)<(c10.size:Int):=by omega
   obtain rfl:b=false:=by rw[← hbb.out];exact decide_eq_false (by omega)
   clear hbb
   go_wp2
   go_ret
   exact⟨rfl,Below.refl _ _⟩
 have k10:¬ (20:Int)<(c10.size:Int):=by omega
 by_cases h11:20<c11.size
 · have k11:(20:Int)<(c11.size:Int):=by omega
   obtain rfl:b=false:=by rw[← hbb.out];exact decide_eq_false (by omega)
   clear hbb
   go_wp2
   go_ret
   exact⟨rfl,Below.refl _ _⟩
 have k11:¬ (20:Int)<(c11.size:Int):=by omega
 by_cases h12:20<c12.size
 · have k12:(20:Int)<(c12.size:Int):=by omega
   obtain rfl:b=false:=by rw[← hbb.out];exact decide_eq_false (by omega)
   clear hbb
   go_wp2
   go_ret
   exact⟨rfl,Below.refl _ _⟩
 have k12:¬ (20:Int)<(c12.size:Int):=by omega
 go_wp2
 rw[rounds_succ]
 obtain rfl:b=true:=by rw[← hbb.out];exact decide_eq_true (by omega)
 clear hbb
 go_wp2
 go_ret
 exact⟨rfl,Below.refl _ _⟩
end Go.Proofs.YtklfllmfcckgjaaGreatDoor
set_option maxRecDepth 100000
set_option maxHeartbeats 20000000
open Go.Lib (hid)
namespace Go.Proofs.YtklfllmfcckgjaaGreatDoor
open Go.RowKit Go.Gb
theorem read_some' (a:ByteArray)(ha:a.size≤900)(w:World)(hl:La w) :
 Calls Tryz.prog 36 #[.string a] w fun e w'=>(∃ s b:ByteArray,e=.returned (.tuple #[.agg #[.string s,.string b],.bool (vldQ a.data.toList)]))∧Below w.heap.size w w':=by
 cases h:vldQ a.data.toList with
 | false=>exact fread_no a h ha w hl
 | true =>
   have e:=sq_of h
   obtain⟨q,hq⟩:∃ q,q=qval a.data.toList:=⟨_,rfl⟩
   rw[← hq]at e
   subst e
   refine(fread_yes q ((smq_of ha (by decide)).fit (by decide)) w hl).mono ?_
   rintro e w' ⟨rfl,hb⟩
   exact⟨⟨_,_,rfl⟩,hb⟩
theorem qboth_no (a b:ByteArray)(h:(vldQ a.data.toList&&vldQ b.data.toList)=false)(ha:a.size≤900)(hb:b.size≤900)(w:World)(hl:La w) :
 Calls Tryz.prog 43 #[.string a,.string b] w fun e w'=>∃ s b t c:ByteArray,e=.returned (.tuple #[.agg #[.string s,.string b],.agg #[.string t,.string c],.bool false])∧Below w.heap.size w w':=by
 refine(fboth_no_walk a b _ _ w hl (fun W hW=>read_some' a ha W hW) (fun W hW=>read_some' b hb W hW)).mono ?_
 rintro e w' ⟨⟨s,u,t,c,rfl⟩,hB⟩
 rw[h]
 exact⟨s,u,t,c,rfl,hB⟩
theorem qOperate_no (a b:ByteArray)(k:Int)(h:(vldQ a.data.toList&&vldQ b.data.toList)=false)(ha:a.size≤900)(hb:b.size≤900)(w:World)(hl:La w) :
 CR 35 #[.string a,.int .u8 k,.string b] w (.tuple #[.string ⟨#[]⟩,.int .i64 1]):=by
 have HL:=hid hl
 have C1:=hid (fun W (hW:La W)=>qboth_no a b h ha hb W hW)
 clear hl h ha hb
 go_enter Tryz.func35,Tryz.ntmps35
 have HB0:=hid (Below.refl w.heap.size w)
 go_wp2_with fail
 with_reducible refine(C1.out _ (HL.out.on HB0.out)).mono ?_
 rintro e W1 ⟨s_1,b_1,t_1,c_1,rfl,hb⟩
 have HB1:=hbt HB0 hb
 clear hb
 go_upto_region 2 with fail
 refine wp_boxes W1 [(#[.string s_1,.string b_1],68),(#[.string t_1,.string c_1],68)] rfl ?_
 have L1:=HB1.out.size
 rintro W2 ⟨k1,k2,hb⟩
 have hb:Below W1.heap.size W1 W2:=hb
 have HB2:=hbt HB1 hb
 have K1:=hid k1
 have K2:=hid k2
 clear k1 k2 hb
 go_wp2
 exact bodyPost_ret (v:=.tuple #[.string ⟨#[]⟩,.int .i64 1]) (by simp[results,Tryz.results35,go_sem]) rfl ⟨rfl,HB2.out⟩
theorem qAdd_no (a b:ByteArray)(h:(vldQ a.data.toList&&vldQ b.data.toList)=false)(ha:a.size≤900)(hb:b.size≤900)(w:World)(hl:La w) :
 CR 18 #[.string a,.string b] w (.tuple #[.string ⟨#[]⟩,.int .i64 1]):=by
 have HL:=hid hl
 have C1:=hid (fun W (hW:La W)=>qOperate_no a b 43 h ha hb W hW)
 clear hl h ha hb
 go_enter Tryz.func18,Tryz.ntmps18
 have HB0:=hid (Below.refl w.heap.size w)
 go_wp2_with fail
 with_reducible refine(C1.out _ (HL.out.on HB0.out)).mono ?_
 rintro e W1 ⟨rfl,hb⟩
 have HB1:=hbt HB0 hb
 clear hb
 go_wp2
 exact bodyPost_ret (v:=.tuple #[.string ⟨#[]⟩,.int .i64 1]) (by simp[results,Tryz.results18,go_sem]) rfl ⟨rfl,HB1.out⟩
theorem qSub_no (a b:ByteArray)(h:(vldQ a.data.toList&&vldQ b.data.toList)=false)(ha:a.size≤900)(hb:b.size≤900)(w:World)(hl:La w) :
 CR 14 #[.string a,.string b] w (.tuple #[.string ⟨#[]⟩,.int .i64 1]):=by
 have HL:=hid hl
 have C1:=hid (fun W (hW:La W)=>qOperate_no a b 45 h ha hb W hW)
 clear hl h ha hb
 go_enter Tryz.func14,Tryz.ntmps14
 have HB0:=hid (Below.refl w.heap.size w)
 go_wp2_with fail
 with_reducible refine(C1.out _ (HL.out.on HB0.out)).mono ?_
 rintro e W1 ⟨rfl,hb⟩
 have HB1:=hbt HB0 hb
 clear hb
 go_wp2
 exact bodyPost_ret (v:=.tuple #[.string ⟨#[]⟩,.int .i64 1]) (by simp[results,Tryz.results14,go_sem]) rfl ⟨rfl,HB1.out⟩
theorem qMul_no (a b:ByteArray)(h:(vldQ a.data.toList&&vldQ b.data.toList)=false)(ha:a.size≤900)(hb:b.size≤900)(w:World)(hl:La w) :
 CR 13 #[.string a,.string b] w (.tuple #[.string ⟨#[]⟩,.int .i64 1]):=by
 have HL:=hid hl
 have C1:=hid (fun W (hW:La W)=>qOperate_no a b 42 h ha hb W hW)
 clear hl h ha hb
 go_enter Tryz.func13,Tryz.ntmps13
 have HB0:=hid (Below.refl w.heap.size w)
 go_wp2_with fail
 with_reducible refine(C1.out _ (HL.out.on HB0.out)).mono ?_
 rintro e W1 ⟨rfl,hb⟩
 have HB1:=hbt HB0 hb
 clear hb
 go_wp2
 exact bodyPost_ret (v:=.tuple #[.string ⟨#[]⟩,.int .i64 1]) (by simp[results,Tryz.results13,go_sem]) rfl ⟨rfl,HB1.out⟩
end Go.Proofs.YtklfllmfcckgjaaGreatDoor
