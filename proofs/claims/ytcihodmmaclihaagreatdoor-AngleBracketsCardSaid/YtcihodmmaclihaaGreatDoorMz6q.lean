/- Texts of this proof, one behind the other. -/
import Derived.Test.YtcihodmmaclihaaGreatDoorAdb
import Derived.RangeFuncNested
import Derived.RangeFuncBound
import Derived.Shelf.RegionOpen
import Derived.OwnWalkIn
import Derived.LoopNIn
import Derived.LoopIn
set_option maxRecDepth 100000
set_option maxHeartbeats 20000000
open Go.Lib (hid)
namespace Go.Proofs.YtcihodmmaclihaaGreatDoor
open Go.RowKit Go.Gb
theorem ahalve_up2 (d pl pu s1 m1 xa1 xb1 s2 m2 xa2 xb2:ByteArray)(n c1 c2:Int)(w₀:World)(h1a:CV w₀ 38 #[.string ⟨#[45,49]⟩,.string ⟨#[49]⟩] (.string s1))(h1b:CV w₀ 35 #[.string s1,.string ⟨#[49,47,50]⟩] (.string m1))(h1c:CV w₀ 27 #[.agg #[.int .i64 n,.string pl,.string pu],.string m1] (.agg #[.string xa1,.string xb1]))(h1d:CV w₀ 43 #[.string xb1,.string d] (.int .i64 c1))(h2a:CV w₀ 38 #[.string m1,.string ⟨#[49]⟩] (.string s2))(h2b:CV w₀ 35 #[.string s2,.string ⟨#[49,47,50]⟩] (.string m2))(h2c:CV w₀ 27 #[.agg #[.int .i64 n,.string pl,.string pu],.string m2] (.agg #[.string xa2,.string xb2]))(h2d:CV w₀ 43 #[.string xb2,.string d] (.int .i64 c2))(f1:decide (c1≤0)=true)(f2:decide (c2≤0)=true) :
 CV w₀ 33 #[.string d,.int .i64 2,.func (.func 27) #[.agg #[.int .i64 n,.string pl,.string pu]] #[]] (.agg #[.string m2,.string ⟨#[49]⟩]):=by
 intro w hw
 have C1a:=hid (h1a.mono hw)
 have C1b:=hid (h1b.mono hw)
 have C1c:=hid (h1c.mono hw)
 have C1d:=hid (h1d.mono hw)
 have C2a:=hid (h2a.mono hw)
 have C2b:=hid (h2b.mono hw)
 have C2c:=hid (h2c.mono hw)
 have C2d:=hid (h2d.mono hw)
 have g1:=f1
 have g2:=f2
 clear f1 f2 h1a h1b h1c h1d h2a h2b h2c h2d hw
 go_enter Tryz.func33,Tryz.ntmps33
 go_upto_region 1 with fail
 refine wp_boxes w [(#[.string ⟨#[]⟩,.string ⟨#[]⟩],26)] rfl ?_
 rintro W0 ⟨k1,hb⟩
 have HB0:=hid (show Below w.heap.size w W0 from hb)
 have K1:=hid k1
 clear k1 hb
 go_upto_region 2 with fail
 refine wp_boxes W0 [(#[.string ⟨#[45,49]⟩,.string ⟨#[49]⟩],26)] rfl ?_
 have L1:=K1.out.lt
 have L2:=HB0.out.size
 rintro W1 ⟨k2,hb⟩
 have hb:Below W0.heap.size W0 W1:=hb
 have K1:=hid (K1.out.below hb)
 have HB1:=hbt HB0 hb
 have K2:=hid k2
 clear k2 hb
 go_wp2
 refine wp_loop_rounds 3 ?_
 rw[rounds_succ]
 have dK20:=K2.out.cell (i:=0) rfl
 have dK21:=K2.out.cell (i:=1) rfl
 go_wp2_with fail
 with_reducible refine(C1a.out _ HB1.out).mono ?_
 rintro e W2 ⟨rfl,hb⟩
 clear dK20 dK21
 have K1:=hid (K1.out.below hb)
 have K2:=hid (K2.out.below hb)
 have HB2:=hbt HB1 hb
 clear hb
 go_wp2_with fail
 with_reducible refine(C1b.out _ HB2.out).mono ?_
 rintro e W3 ⟨rfl,hb⟩
 have K1:=hid (K1.out.below hb)
 have K2:=hid (K2.out.below hb)
 have HB3:=hbt HB2 hb
 clear hb
 go_wp2_with fail
 with_reducible refine(C1c.out _ HB3.out).mono ?_
 rintro e W4 ⟨rfl,hb⟩
 have K1:=hid (K1.out.below hb)
 have K2:=hid (K2.out.below hb)
 have HB4:=hbt HB3 hb
 clear hb
 go_upto_region 7 with fail
 refine wp_boxes W4 [(#[.string xa1,.string xb1],26)] rfl ?_
 have L3:=K1.out.lt
 have L4:=K2.out.lt
 have L5:=HB4.out.size
 rintro W5 ⟨k3,hb⟩
 have hb:Below W4.heap.size W4 W5:=hb
 have K1:=hid (K1.out.below hb)
 have K2:=hid (K2.out.below hb)
 have HB5:=hbt HB4 hb
 have K3:=hid k3
 clear k3 hb
 have dK31:=K3.out.cell (i:=1) rfl
 go_wp2_with fail
 with_reducible refine(C1d.out _ HB5.out).mono ?_
 rintro e W6 ⟨rfl,hb⟩
 clear dK31
 have K1:=hid (K1.out.below hb)
 have K2:=hid (K2.out.below hb)
 have K3:=hid (K3.out.below hb)
 have HB6:=hbt HB5 hb
 clear hb
 have dK20:=K2.out.cell (i:=0) rfl
 have fK20:=K2.out.frozen (i:=0)
 go_upto_region 11 with fail
 clear dK20 fK20
 refine wp_world (fun V=>Below w.heap.size w V∧SBk V (w.heap.size) #[.string ⟨#[]⟩,.string ⟨#[]⟩] 26∧SBk V (W0.heap.size) #[.string m1,.string ⟨#[49]⟩] 26∧SBk V (W4.heap.size) #[.string xa1,.string xb1] 26) (by
  have o0:∀ {g':Nat} {cs':Array Value} {T':TypeId},g'≠W0.heap.size→SBk W6 g' cs' T'→SBk (storeAll W6 (W0.heap.size) 0 [.string m1]) g' cs' T':=fun hg' h'=>store_off hg' _ 0 h'
  exact⟨(store_below (l:=[.string m1]) (i:=0) (by omega) HB6.out),(o0 (by omega) K1.out),(store_blk (l:=[.string m1]) (i:=0) K2.out),(o0 (by omega) K3.out)⟩) ?_
 rintro W7 ⟨hb,z0,z1,z2⟩
 have HB7:=hid hb
 have K1:=hid z0
 have K2:=hid z1
 have K3:=hid z2
 clear hb z0 z1 z2
 go_wp2
 rw[rounds_succ]
 have dK20:=K2.out.cell (i:=0) rfl
 have dK21:=K2.out.cell (i:=1) rfl
 go_wp2_with fail
 with_reducible refine(C2a.out _ HB7.out).mono ?_
 rintro e W8 ⟨rfl,hb⟩
 clear dK20 dK21
 have K1:=hid (K1.out.below hb)
 have K2:=hid (K2.out.below hb)
 have K3:=hid (K3.out.below hb)
 have HB8:=hbt HB7 hb
 clear hb
 go_wp2_with fail
 with_reducible refine(C2b.out _ HB8.out).mono ?_
 rintro e W9 ⟨rfl,hb⟩
 have K1:=hid (K1.out.below hb)
 have K2:=hid (K2.out.below hb)
 have K3:=hid (K3.out.below hb)
 have HB9:=hbt HB8 hb
 clear hb
 go_wp2_with fail
 with_reducible refine(C2c.out _ HB9.out).mono ?_
 rintro e W10 ⟨rfl,hb⟩
 have K1:=hid (K1.out.below hb)
 have K2:=hid (K2.out.below hb)
 have K3:=hid (K3.out.below hb)
 have HB10:=hbt HB9 hb
 clear hb
 go_upto_region 7 with fail
 refine wp_boxes W10 [(#[.string xa2,.string xb2],26)] rfl ?_
 have L6:=K1.out.lt
 have L7:=K2.out.lt
 have L8:=K3.out.lt
 have L9:=HB10.out.size
 rintro W11 ⟨k4,hb⟩
 have hb:Below W10.heap.size W10 W11:=hb
 have K1:=hid (K1.out.below hb)
 have K2:=hid (K2.out.below hb)
 have HB11:=hbt HB10 hb
 have K4:=hid k4
 clear k4 hb
 have dK41:=K4.out.cell (i:=1) rfl
 go_wp2_with fail
 with_reducible refine(C2d.out _ HB11.out).mono ?_
 rintro e W12 ⟨rfl,hb⟩
 clear dK41
 have K1:=hid (K1.out.below hb)
 have K2:=hid (K2.out.below hb)
 have HB12:=hbt HB11 hb
 clear hb
 have dK20:=K2.out.cell (i:=0) rfl
 have fK20:=K2.out.frozen (i:=0)
 go_upto_region 11 with fail
 clear dK20 fK20
 refine wp_world (fun V=>Below w.heap.size w V∧SBk V (w.heap.size) #[.string ⟨#[]⟩,.string ⟨#[]⟩] 26∧SBk V (W0.heap.size) #[.string m2,.string ⟨#[49]⟩] 26) (by
  have o0:∀ {g':Nat} {cs':Array Value} {T':TypeId},g'≠W0.heap.size→SBk W12 g' cs' T'→SBk (storeAll W12 (W0.heap.size) 0 [.string m2]) g' cs' T':=fun hg' h'=>store_off hg' _ 0 h'
  exact⟨(store_below (l:=[.string m2]) (i:=0) (by omega) HB12.out),(o0 (by omega) K1.out),(store_blk (l:=[.string m2]) (i:=0) K2.out)⟩) ?_
 rintro W13 ⟨hb,z0,z1⟩
 have HB13:=hid hb
 have K1:=hid z0
 have K2:=hid z1
 clear hb z0 z1
 go_wp2
 rw[rounds_succ]
 have dK20:=K2.out.cell (i:=0) rfl
 have dK21:=K2.out.cell (i:=1) rfl
 have dK10:=K1.out.cell (i:=0) rfl
 have dK11:=K1.out.cell (i:=1) rfl
 have fK10:=K1.out.frozen (i:=0)
 have fK11:=K1.out.frozen (i:=1)
 go_wp2
 exact bodyPost_ret (v:=.agg #[.string m2,.string ⟨#[49]⟩]) (by simp[results,Tryz.results33,go_sem,dK10,dK11]) rfl ⟨rfl,(store_below (l:=[.string m2,.string ⟨#[49]⟩]) (i:=0) (by omega) HB13.out)⟩
theorem afind_raw (d pl pu l u:ByteArray)(n k:Int)(w₀:World)(h1:CV w₀ 31 #[.string d] (.bool true))(h2:CV w₀ 15 #[.agg #[.string ⟨#[45,57,48]⟩,.string ⟨#[57,48]⟩],.string d] (.bool true))(h3:CV w₀ 21 #[.int .i64 n] (.bool true))(h4:CV w₀ 22 #[.int .i64 n] (.agg #[.int .i64 n,.string pl,.string pu]))(h5:CV w₀ 33 #[.string d,.int .i64 k,.func (.func 27) #[.agg #[.int .i64 n,.string pl,.string pu]] #[]] (.agg #[.string l,.string u]))(f1:0≤k)(f2:k≤24) :
 CV w₀ 16 #[.string d,.int .i64 n,.int .i64 k] (.tuple #[.agg #[.string l,.string u],.int .i64 0]):=by
 intro w hw
 have C1:=hid (h1.mono hw)
 have C2:=hid (h2.mono hw)
 have C3:=hid (h3.mono hw)
 have C4:=hid (h4.mono hw)
 have C5:=hid (h5.mono hw)
 have hmf:∀ (fn:Fn) (first cap:Array Value) (w:World),(Instr.makeFunc fn first cap).run Tryz.prog w=.ok (.func fn first cap) w:=fun _ _ _ _=>rfl
 have g1:decide (k<0)=false:=decide_eq_false (by omega)
 have g2:decide (24<k)=false:=decide_eq_false (by omega)
 clear f1 f2 h1 h2 h3 h4 h5 hw
 go_enter Tryz.func16,Tryz.ntmps16
 go_upto_region 1 with fail
 refine wp_boxes w [(#[.string ⟨#[]⟩,.string ⟨#[]⟩],26)] rfl ?_
 rintro W0 ⟨k1,hb⟩
 have HB0:=hid (show Below w.heap.size w W0 from hb)
 have K1:=hid k1
 clear k1 hb
 go_wp2_with fail
 with_reducible refine(C1.out _ HB0.out).mono ?_
 rintro e W1 ⟨rfl,hb⟩
 have K1:=hid (K1.out.below hb)
 have HB1:=hbt HB0 hb
 clear hb
 go_wp2_with fail
 with_reducible refine(C2.out _ HB1.out).mono ?_
 rintro e W2 ⟨rfl,hb⟩
 have K1:=hid (K1.out.below hb)
 have HB2:=hbt HB1 hb
 clear hb
 go_wp2_with fail
 with_reducible refine(C3.out _ HB2.out).mono ?_
 rintro e W3 ⟨rfl,hb⟩
 have K1:=hid (K1.out.below hb)
 have HB3:=hbt HB2 hb
 clear hb
 go_wp2_with fail
 with_reducible refine(C4.out _ HB3.out).mono ?_
 rintro e W4 ⟨rfl,hb⟩
 have K1:=hid (K1.out.below hb)
 have HB4:=hbt HB3 hb
 clear hb
 go_wp2_with fail
 with_reducible refine(C5.out _ HB4.out).mono ?_
 rintro e W5 ⟨rfl,hb⟩
 have K1:=hid (K1.out.below hb)
 have HB5:=hbt HB4 hb
 clear hb
 have dK10:=K1.out.cell (i:=0) rfl
 have dK11:=K1.out.cell (i:=1) rfl
 have fK10:=K1.out.frozen (i:=0)
 have fK11:=K1.out.frozen (i:=1)
 go_wp2
 exact bodyPost_ret (v:=.tuple #[.agg #[.string l,.string u],.int .i64 0]) (by simp[results,Tryz.results16,go_sem,dK10,dK11]) rfl ⟨rfl,(store_below (l:=[.string l,.string u]) (i:=0) (by omega) HB5.out)⟩
end Go.Proofs.YtcihodmmaclihaaGreatDoor
set_option maxRecDepth 100000
set_option maxHeartbeats 20000000
open Go.Lib (hid)
namespace Go.Proofs.YtcihodmmaclihaaGreatDoor
open Go.RowKit Go.Gb Go.Shelf
attribute [local go_sem] Oper.semAt_some
theorem below_grown {W W':World}(h:Below W.heap.size W W'):W.grownBy W' none:=⟨h.os,h.tape,h.output,h.size,fun k hk _=>h.block k hk⟩
theorem terms_stops (x xx st:ByteArray)(pw tm ot:Nat→ByteArray)(cnt bx bc n:Nat)(hc:cnt≤1000)(w₀:World)
 (h1:CV w₀ 35 #[.string x,.string x] (.string xx)) (h2:CV w₀ 37 #[.string ⟨#[48]⟩,.string xx] (.string st)) (hp0:pw 0=x)
 (h3:∀ i,i<cnt→CV w₀ 81 #[.int .i64 (2*(i:Int)+1)] (.string (ot i)))
 (h4:∀ i,i<cnt→CV w₀ 36 #[.string (pw i),.string (ot i)] (.string (tm i)))
 (h5:∀ i,i<cnt→CV w₀ 35 #[.string (pw i),.string st] (.string (pw (i+1))))
 (v:World) (hv:Below w₀.heap.size w₀ v) (kKX:SBk v bx #[.string x] 22) (kKC:SBk v bc #[.int .i64 (cnt:Int)] 3) :
 SeqStopsK Fence.wide n Tryz.prog 80 #[.pointer (some ⟨bx,0,none⟩),.pointer (some ⟨bc,0,none⟩)] (fun i:{i:Nat // i<cnt}=>#[Value.string (tm i.1)]) (Below w₀.heap.size) (fun xs=>xs.map (·.1)=List.range cnt) (fun _=>True) cnt v:=fun l J Jx w hW hJ _ hY h0=>by
 have hB:=hv.trans (hW.mono hv.size)
 have C1:=hid (h1.mono hB)
 have C2:=hid (h2.mono hB)
 have C3:=hid h3
 have C4:=hid h4
 have C5:=hid h5
 have KX:=hid (kKX.below hW)
 have KC:=hid (kKC.below hW)
 have HBB:=hid hB
 have HJ:=hid hJ
 have HY:=hid hY
 have HS:=hid h0
 have HP:=hid hp0
 have HC:=hid hc
 clear h1 h2 h3 h4 h5 kKX kKC hB hJ hY h0 hp0 hv hc
 refine callsIn_of_wp Tryz.func80 rfl trivial ?_ rfl
 simp only[Tryz.ntmps80,List.size_toArray,List.length_cons,List.length_nil,Nat.reduceAdd,Nat.reduceSub,Array.replicate_succ,Array.replicate_zero,List.push_toArray,List.append_toArray,List.nil_append,List.cons_append]
 refine wpIn_wide.2 ?_
 have HB0:=hid (Below.refl w.heap.size w)
 go_wp2_with fail
 refine wp_region_post (fun a0 a' V=>a'=⟨putL [(7,.string x),(8,.string x),(9,.string x),(10,.string xx),(11,.string st),(4,.string x),(5,.string st)] a0.tmps,a0.defers⟩∧Below w.heap.size w V∧SBk V (bc) #[.int .i64 (cnt:Int)] 3) ?_ ?_
 · refine wp_region_tail_d (by kernel_rfl) 7 0 (fun i=>[7,8,9,10,11,4,5].getD i 0) (RelR [Rel.val (.string x),Rel.val (.string x),Rel.val (.string x),Rel.val (.string xx),Rel.val (.string st),Rel.val (.string x),Rel.val (.string st)]) (fun W=>Below w.heap.size w W) (fun _ _=>True) (by kernel_rfl) (by kernel_rfl) (by kernel_rfl) trivial (Below.refl _ _).drew ?_ ?_
   · intro listed a W i hI hD hrd him
     have HI:=hid hI
     have HD:=hid hD
     have Hr:=hid hrd
     clear hI hrd hD
     have y1:a.tmps[1]? = some (.pointer (some ⟨bx,0,none⟩)):=HI.out.rest 1 (by decide)
     have dKX0:=(KX.out.below HI.out.world).cell (i:=0) rfl
     have X1:RV _ listed a 1 8 (.string x):=HI.out.rh
     have X2:RV _ listed a 2 9 (.string x):=HI.out.rh
     have X3:RV _ listed a 3 10 (.string xx):=HI.out.rh
     have X0:RV _ listed a 0 7 (.string x):=HI.out.rh
     have X4:RV _ listed a 4 11 (.string st):=HI.out.rh
     match i,him,Hr with
     | 0,_,Hi =>
       refine stepH rfl fun K' hK=>?_
       go_simp
       exact hK.out _ _ ⟨HI.out.pv Hi.out rfl,trivial⟩
     | 1,_,Hi =>
       refine stepH rfl fun K' hK=>?_
       go_simp
       exact hK.out _ _ ⟨HI.out.pv Hi.out rfl,trivial⟩
     | 2,_,Hi =>
       refine stepH rfl fun K' hK=>?_
       go_simp
       exact hK.out _ _ ⟨HI.out.pv Hi.out rfl,trivial⟩
     | 3,_,Hi =>
       have x1:=X1.g Hi.out (by kernel_rfl)
       have x2:=X2.g Hi.out (by kernel_rfl)
       refine stepH rfl fun K' hK=>?_
       go_simp
       with_reducible refine(C1.out _ (HB0.out.trans (HI.out.world.mono HB0.out.size))).mono ?_
       rintro e W' ⟨rfl,hb⟩
       exact hK.out _ _ ⟨HI.out.pc Hi.out hb rfl,trivial⟩
     | 4,_,Hi =>
       have x3:=X3.g Hi.out (by kernel_rfl)
       refine stepH rfl fun K' hK=>?_
       go_simp
       with_reducible refine(C2.out _ (HB0.out.trans (HI.out.world.mono HB0.out.size))).mono ?_
       rintro e W' ⟨rfl,hb⟩
       exact hK.out _ _ ⟨HI.out.pc Hi.out hb rfl,trivial⟩
     | 5,_,Hi =>
       have x0:=X0.g Hi.out (by kernel_rfl)
       refine stepH rfl fun K' hK=>?_
       go_simp
       exact hK.out _ _ ⟨HI.out.pv Hi.out rfl,trivial⟩
     | 6,_,Hi =>
       have x4:=X4.g Hi.out (by kernel_rfl)
       refine stepH rfl fun K' hK=>?_
       go_simp
       exact hK.out _ _ ⟨HI.out.pv Hi.out rfl,trivial⟩
     | n+7,h,_=>exact absurd h (by omega)
   · intro listed a W hI hD hall
     have HBW:=hid hI.world
     have HI:=hid hI
     have HA:=hid hall
     clear hI hall
     have KC:=hid (KC.out.below HBW.out)
     have HBX:=hid (HB0.out.trans (HBW.out.mono HB0.out.size))
     refine tail_nil ?_
     exact⟨rfl,(HI.out.finx ⟨HI.out.sx HA.out 0,HI.out.sx HA.out 1,HI.out.sx HA.out 2,HI.out.sx HA.out 3,HI.out.sx HA.out 4,HI.out.sx HA.out 5,HI.out.sx HA.out 6,trivial⟩ rfl),HBX.out,KC.out⟩
 rintro a' W1 ⟨rfl,z0,z1⟩
 have HB1:=hid z0
 have KC:=hid z1
 clear z0 z1
 simp only[putL,List.setIfInBounds_toArray,List.set_cons_zero,List.set_cons_succ]
 have dKC0:=KC.out.cell (i:=0) rfl
 go_wp2
 have HJ1:=hid (HJ.out _ _ _ none HS.out (below_grown HB1.out) (fun r e=>by cases e))
 have HB1':=hid (HBB.out.trans (HB1.out.mono HBB.out.size))
 refine(wpIn_wide (n:=n)).1 ?_
 gi_loopw [4,13] (fun p i wr=>∃ (k:Nat) (pre:List {i:Nat // i<cnt}),k≤cnt∧Hid (pre.map (·.1)=List.range k)∧p=.string (pw k)∧i=.int .i64 (k:Int)∧Hid (J pre wr)∧Hid (Below w₀.heap.size w₀ wr)) (fun _ i _=>cnt-(intOf i).toNat)
 case atStart=>exact⟨0,[],Nat.zero_le _,hid rfl,by rw[HP.out],rfl,HJ1,HB1'⟩
 case round =>
  obtain⟨k,pre,hk,hmap,rfl,rfl,hJs,hB⟩:=hrel
  by_cases hlt:k<cnt
  · have hcc:=HC.out
    have e1:IntKind.i64.wrap (2*(k:Int))=2*(k:Int):=by simp[IntKind.wrap,IntKind.bits,IntKind.signed];omega
    have e2:IntKind.i64.wrap (2*(k:Int)+1)=2*(k:Int)+1:=by simp[IntKind.wrap,IntKind.bits,IntKind.signed];omega
    have e3:(k:Int)<(cnt:Int):=by omega
    have D3:=hid (C3.out k hlt)
    have D4:=hid (C4.out k hlt)
    have D5:=hid (C5.out k hlt)
    have HL:=hid hlt
    have HK:=hid hcc
    clear hlt hcc hk
    gi_wp2_with fail
    refine⟨trivial,(fun h=>by cases h),(callsIn_wide.2 (D3.out _ hB.out)).mono ?_⟩
    rintro e W2 ⟨rfl,hb2⟩
    have HB2:=hid (hB.out.trans (hb2.mono hB.out.size))
    have HJ2:=hid (HJ.out _ _ _ none hJs.out (below_grown hb2) (fun r e=>by cases e))
    clear hb2
    gi_wp2_with fail
    refine⟨trivial,(fun h=>by cases h),(callsIn_wide.2 (D4.out _ HB2.out)).mono ?_⟩
    rintro e W3 ⟨rfl,hb3⟩
    have HB3:=hbt HB2 hb3
    have HJ3:=HJ.out _ _ _ none HJ2.out (below_grown hb3) (fun r e=>by cases e)
    clear hb3
    obtain⟨fn,tmps,assign,body,hy,hR⟩:=HY.out _ ⟨k,HL.out⟩ W3 HJ3 (by have:=congrArg List.length hmap.out;simp at this;rw[this];exact HL.out)
    clear HJ3
    gi_wp2
    refine⟨(fun h=>by cases h),hR.mono ?_⟩
    rintro e W4 (⟨rfl,hJ4,hk4⟩|⟨rfl,hJx4⟩)
    · have HB4:=hid (HB3.out.trans hk4)
      have HJ4:=hid hJ4
      clear hk4 hJ4
      gi_wp2_with fail
      refine⟨trivial,(fun h=>by cases h),(callsIn_wide.2 (D5.out _ HB4.out)).mono ?_⟩
      rintro e W5 ⟨rfl,hb5⟩
      have HB5:=hbt HB4 hb5
      have HJ5:=hid (HJ.out _ _ _ none HJ4.out (below_grown hb5) (fun r e=>by cases e))
      clear hb5
      have e4:IntKind.i64.wrap ((k:Int)+1)=(k:Int)+1:=by have:=HL.out;have:=HK.out;simp[IntKind.wrap,IntKind.bits,IntKind.signed];omega
      gi_wp2
      go_roundw
      case rel=>exact⟨k+1,_,HL.out,hid (by rw[List.map_append,hmap.out,List.range_succ];rfl),rfl,by simp,HJ5,HB5⟩
      case measure=>have:=HL.out;simp[intOf];omega
    · gi_wp2
      refine bodyPost_ret (results_none rfl _ _ _) rfl ?_
      exact⟨⟨_,rfl⟩,.inr ⟨_,trivial,hJx4⟩⟩
  · obtain rfl:k=cnt:=by omega
    gi_wp2
    go_end0
    exact⟨⟨_,rfl⟩,.inl ⟨_,hmap.out,hJs.out⟩⟩
end Go.Proofs.YtcihodmmaclihaaGreatDoor
