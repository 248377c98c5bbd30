/- texts -/
import Derived.Test.YtkiklcbhglpooaaGreatDoorMz36q
set_option maxRecDepth 100000
set_option maxHeartbeats 20000000
open Go.Lib (hid)
namespace Go.Proofs.YtkiklcbhglpooaaGreatDoor
open Go.RowKit Go.Gb
theorem z5b (n1 n2 ua ub:Int)(en1 en2:Nat)(hab:ua<ub)(p1:Option Addr)(c1:Nat)(s1:Option Addr)(d1:Nat)(p2:Option Addr)(c2:Nat)(s2:Option Addr)(d2:Nat)(w:World)(h1:∀ p1 c1 s1 d1 W,RN W (.slice p1 (aa n1) c1) n1.natAbs→RN W (.slice s1 (ag en1) d1) en1→CR 134 #[.agg #[.bool (ah n1),.slice p1 (aa n1) c1,.slice s1 (ag en1) d1]] W (.int .i64 ua))(h2:∀ p1 c1 s1 d1 W,RN W (.slice p1 (aa n2) c1) n2.natAbs→RN W (.slice s1 (ag en2) d1) en2→CR 134 #[.agg #[.bool (ah n2),.slice p1 (aa n2) c1,.slice s1 (ag en2) d1]] W (.int .i64 ub))(r1:RN w (.slice p1 (aa n1) c1) n1.natAbs)(t1:RN w (.slice s1 (ag en1) d1) en1)(r2:RN w (.slice p2 (aa n2) c2) n2.natAbs)(t2:RN w (.slice s2 (ag en2) d2) en2) :
 CR 87 #[.agg #[.bool (ah n1),.slice p1 (aa n1) c1,.slice s1 (ag en1) d1],.agg #[.bool (ah n2),.slice p2 (aa n2) c2,.slice s2 (ag en2) d2]] w (.int .i64 (-1)):=by
 obtain ⟨C1,C2,R1,T1,R2,T2⟩:=dh h1 h2 r1 t1 r2 t2;have k0:(ua==ub)=false:=by rw[beq_eq_false_iff_ne];omega
 have k1:¬ ua=ub:=by omega
 have k2:decide (ua<ub)=true:=decide_eq_true hab;clear h1 h2 r1 t1 r2 t2;go_enter Tryz.func87,Tryz.ntmps87
 go_upto_region 1 with fail
 refine ak w [(#[.bool (ah n1),.slice p1 (aa n1) c1,.slice s1 (ag en1) d1],50),(#[.bool (ah n2),.slice p2 (aa n2) c2,.slice s2 (ag en2) d2],50)] rfl ?_;rintro W0 ⟨k1,k2,hb⟩;have si:=hid (show Below w.heap.size w W0 from hb);obtain ⟨R1,T1,R2,T2⟩:=bR si.o R1 T1 R2 T2;obtain ⟨K1,K2⟩:=aD k1 k2;clear k1 k2 hb;go_wp2_with fail
 refine az (fun a0 a' V=>a'=⟨putL [(9,.agg #[.bool (ah n1),.slice p1 (aa n1) c1,.slice s1 (ag en1) d1]),(10,.int .i64 ua),(11,.agg #[.bool (ah n2),.slice p2 (aa n2) c2,.slice s2 (ag en2) d2]),(12,.int .i64 ub),(5,.int .i64 ua),(6,.int .i64 ub)] a0.tmps,a0.defers⟩∧Below w.heap.size w V) ?_ ?_
 · refine aL 6 0 [9,10,11,12,5,6] [Rel.val (.agg #[.bool (ah n1),.slice p1 (aa n1) c1,.slice s1 (ag en1) d1]),Rel.val (.int .i64 ua),Rel.val (.agg #[.bool (ah n2),.slice p2 (aa n2) c2,.slice s2 (ag en2) d2]),Rel.val (.int .i64 ub),Rel.val (.int .i64 ua),Rel.val (.int .i64 ub)] ?_ ?_
   · intro sw a W i HI hD Hr him
     obtain⟨y2,y3⟩:=HI.o.s2 2 3;obtain ⟨l5,l6,lg⟩:=aC (K1.o.below HI.o.world) rfl rfl rfl;obtain ⟨lv,kz,kM⟩:=aC (K2.o.below HI.o.world) rfl rfl rfl;obtain⟨X0,X2,X1⟩:=HI.o.g3 0 9 2 11 1 10;have X3:=HI.o.rg 3 12 rfl
     match i,him,Hr with
     | 0,_,Hi =>
       refine aA rfl fun K' hK=>?_;go_simp;exact hK.o _ _ (HI.o.pw Hi.o)
     | 1,_,Hi =>
       have x0:=X0.q Hi.o;refine aA rfl fun K' hK=>?_;go_simp;with_reducible refine(C1.o _ _ _ _ _ (R1.o.below HI.o.world) (T1.o.below HI.o.world)).mono ?_
       rintro e W' ⟨rfl,hb⟩;exact hK.o _ _ ⟨HI.o.pc Hi.o hb rfl,trivial⟩
     | 2,_,Hi =>
       refine aA rfl fun K' hK=>?_;go_simp;exact hK.o _ _ (HI.o.pw Hi.o)
     | 3,_,Hi =>
       have x2:=X2.q Hi.o;refine aA rfl fun K' hK=>?_;go_simp;with_reducible refine(C2.o _ _ _ _ _ (R2.o.below HI.o.world) (T2.o.below HI.o.world)).mono ?_
       rintro e W' ⟨rfl,hb⟩;exact hK.o _ _ ⟨HI.o.pc Hi.o hb rfl,trivial⟩
     | 4,_,Hi|5,_,Hi =>
       try have x1:=X1.t Hi.o
       try have x3:=X3.t Hi.o
       refine aA rfl fun K' hK=>?_;go_simp;exact hK.o _ _ (HI.o.pw Hi.o)
     | n+6,h,_=>exact absurd h (by omega)
   · intro sw a W HI hD HA
     have wu:=hid HI.o.world;have rM:=hid (si.o.trans (wu.o.mono si.o.size));refine aV ?_;exact⟨rfl,(HI.o.finx ⟨HI.o.sx HA.o 0,HI.o.sx HA.o 1,HI.o.sx HA.o 2,HI.o.sx HA.o 3,HI.o.sx HA.o 4,HI.o.sx HA.o 5,trivial⟩ rfl),rM.o⟩
 rintro a' W1 ⟨rfl,z0⟩;have ol:=hid z0;clear z0;simp only[putL,List.setIfInBounds_toArray,List.set_cons_zero,List.set_cons_succ];go_wp2;exact bodyPost_ret (v:=.int .i64 (-1)) (by simp[results,Tryz.results87,go_sem]) rfl ⟨rfl,ol.o⟩
theorem z5c (n1 n2 ua ub:Int)(en1 en2:Nat)(hab:ub<ua)(p1:Option Addr)(c1:Nat)(s1:Option Addr)(d1:Nat)(p2:Option Addr)(c2:Nat)(s2:Option Addr)(d2:Nat)(w:World)(h1:∀ p1 c1 s1 d1 W,RN W (.slice p1 (aa n1) c1) n1.natAbs→RN W (.slice s1 (ag en1) d1) en1→CR 134 #[.agg #[.bool (ah n1),.slice p1 (aa n1) c1,.slice s1 (ag en1) d1]] W (.int .i64 ua))(h2:∀ p1 c1 s1 d1 W,RN W (.slice p1 (aa n2) c1) n2.natAbs→RN W (.slice s1 (ag en2) d1) en2→CR 134 #[.agg #[.bool (ah n2),.slice p1 (aa n2) c1,.slice s1 (ag en2) d1]] W (.int .i64 ub))(r1:RN w (.slice p1 (aa n1) c1) n1.natAbs)(t1:RN w (.slice s1 (ag en1) d1) en1)(r2:RN w (.slice p2 (aa n2) c2) n2.natAbs)(t2:RN w (.slice s2 (ag en2) d2) en2) :
 CR 87 #[.agg #[.bool (ah n1),.slice p1 (aa n1) c1,.slice s1 (ag en1) d1],.agg #[.bool (ah n2),.slice p2 (aa n2) c2,.slice s2 (ag en2) d2]] w (.int .i64 (1)):=by
 obtain ⟨C1,C2,R1,T1,R2,T2⟩:=dh h1 h2 r1 t1 r2 t2;have k0:(ua==ub)=false:=by rw[beq_eq_false_iff_ne];omega
 have k1:¬ ua=ub:=by omega
 have k2:decide (ua<ub)=false:=decide_eq_false (by omega);have k3:ub≤ua:=by omega
 clear h1 h2 r1 t1 r2 t2;go_enter Tryz.func87,Tryz.ntmps87
 go_upto_region 1 with fail
 refine ak w [(#[.bool (ah n1),.slice p1 (aa n1) c1,.slice s1 (ag en1) d1],50),(#[.bool (ah n2),.slice p2 (aa n2) c2,.slice s2 (ag en2) d2],50)] rfl ?_;rintro W0 ⟨k1,k2,hb⟩;have si:=hid (show Below w.heap.size w W0 from hb);obtain ⟨R1,T1,R2,T2⟩:=bR si.o R1 T1 R2 T2;obtain ⟨K1,K2⟩:=aD k1 k2;clear k1 k2 hb;go_wp2_with fail
 refine az (fun a0 a' V=>a'=⟨putL [(9,.agg #[.bool (ah n1),.slice p1 (aa n1) c1,.slice s1 (ag en1) d1]),(10,.int .i64 ua),(11,.agg #[.bool (ah n2),.slice p2 (aa n2) c2,.slice s2 (ag en2) d2]),(12,.int .i64 ub),(5,.int .i64 ua),(6,.int .i64 ub)] a0.tmps,a0.defers⟩∧Below w.heap.size w V) ?_ ?_
 · refine aL 6 0 [9,10,11,12,5,6] [Rel.val (.agg #[.bool (ah n1),.slice p1 (aa n1) c1,.slice s1 (ag en1) d1]),Rel.val (.int .i64 ua),Rel.val (.agg #[.bool (ah n2),.slice p2 (aa n2) c2,.slice s2 (ag en2) d2]),Rel.val (.int .i64 ub),Rel.val (.int .i64 ua),Rel.val (.int .i64 ub)] ?_ ?_
   · intro sw a W i HI hD Hr him
     obtain⟨y2,y3⟩:=HI.o.s2 2 3;obtain ⟨l5,l6,lg⟩:=aC (K1.o.below HI.o.world) rfl rfl rfl;obtain ⟨lv,kz,kM⟩:=aC (K2.o.below HI.o.world) rfl rfl rfl;obtain⟨X0,X2,X1⟩:=HI.o.g3 0 9 2 11 1 10;have X3:=HI.o.rg 3 12 rfl
     match i,him,Hr with
     | 0,_,Hi =>
       refine aA rfl fun K' hK=>?_;go_simp;exact hK.o _ _ (HI.o.pw Hi.o)
     | 1,_,Hi =>
       have x0:=X0.q Hi.o;refine aA rfl fun K' hK=>?_;go_simp;with_reducible refine(C1.o _ _ _ _ _ (R1.o.below HI.o.world) (T1.o.below HI.o.world)).mono ?_
       rintro e W' ⟨rfl,hb⟩;exact hK.o _ _ ⟨HI.o.pc Hi.o hb rfl,trivial⟩
     | 2,_,Hi =>
       refine aA rfl fun K' hK=>?_;go_simp;exact hK.o _ _ (HI.o.pw Hi.o)
     | 3,_,Hi =>
       have x2:=X2.q Hi.o;refine aA rfl fun K' hK=>?_;go_simp;with_reducible refine(C2.o _ _ _ _ _ (R2.o.below HI.o.world) (T2.o.below HI.o.world)).mono ?_
       rintro e W' ⟨rfl,hb⟩;exact hK.o _ _ ⟨HI.o.pc Hi.o hb rfl,trivial⟩
     | 4,_,Hi|5,_,Hi =>
       try have x1:=X1.t Hi.o
       try have x3:=X3.t Hi.o
       refine aA rfl fun K' hK=>?_;go_simp;exact hK.o _ _ (HI.o.pw Hi.o)
     | n+6,h,_=>exact absurd h (by omega)
   · intro sw a W HI hD HA
     have wu:=hid HI.o.world;have rM:=hid (si.o.trans (wu.o.mono si.o.size));refine aV ?_;exact⟨rfl,(HI.o.finx ⟨HI.o.sx HA.o 0,HI.o.sx HA.o 1,HI.o.sx HA.o 2,HI.o.sx HA.o 3,HI.o.sx HA.o 4,HI.o.sx HA.o 5,trivial⟩ rfl),rM.o⟩
 rintro a' W1 ⟨rfl,z0⟩;have ol:=hid z0;clear z0;simp only[putL,List.setIfInBounds_toArray,List.set_cons_zero,List.set_cons_succ];go_wp2;exact bodyPost_ret (v:=.int .i64 1) (by simp[results,Tryz.results87,go_sem]) rfl ⟨rfl,ol.o⟩
theorem z0X (n1 n2 ua x y k:Int)(en1 en2 u v:Nat)(p1:Option Addr)(c1:Nat)(s1:Option Addr)(d1:Nat)(p2:Option Addr)(c2:Nat)(s2:Option Addr)(d2:Nat)(w:World)(h1:∀ p1 c1 s1 d1 W,RN W (.slice p1 (aa n1) c1) n1.natAbs→RN W (.slice s1 (ag en1) d1) en1→CR 134 #[.agg #[.bool (ah n1),.slice p1 (aa n1) c1,.slice s1 (ag en1) d1]] W (.int .i64 ua))(h2:∀ p1 c1 s1 d1 W,RN W (.slice p1 (aa n2) c1) n2.natAbs→RN W (.slice s1 (ag en2) d1) en2→CR 134 #[.agg #[.bool (ah n2),.slice p1 (aa n2) c1,.slice s1 (ag en2) d1]] W (.int .i64 ua))(h3:∀ p1 c1 s2 d2 W,RN W (.slice p1 (aa n1) c1) n1.natAbs→RN W (.slice s2 (ag en2) d2) en2→CN 79 #[.slice p1 (aa n1) c1,.slice s2 (ag en2) d2] W u)(h4:∀ s2 d2 W,RN W (.slice s2 (ag u) d2) u→CZ 78 #[.bool (ah n1),.slice s2 (ag u) d2] W x)(h5:∀ p1 c1 s2 d2 W,RN W (.slice p1 (aa n2) c1) n2.natAbs→RN W (.slice s2 (ag en1) d2) en1→CN 79 #[.slice p1 (aa n2) c1,.slice s2 (ag en1) d2] W v)(h6:∀ s2 d2 W,RN W (.slice s2 (ag v) d2) v→CZ 78 #[.bool (ah n2),.slice s2 (ag v) d2] W y)(h7:∀ p1 c1 p2 c2 W,RN W (.slice p1 (aa x) c1) x.natAbs→RN W (.slice p2 (aa y) c2) y.natAbs→CR 135 #[.agg #[.bool (ah x),.slice p1 (aa x) c1],.agg #[.bool (ah y),.slice p2 (aa y) c2]] W (.int .i64 k))(r1:RN w (.slice p1 (aa n1) c1) n1.natAbs)(t1:RN w (.slice s1 (ag en1) d1) en1)(r2:RN w (.slice p2 (aa n2) c2) n2.natAbs)(t2:RN w (.slice s2 (ag en2) d2) en2) :
 CR 87 #[.agg #[.bool (ah n1),.slice p1 (aa n1) c1,.slice s1 (ag en1) d1],.agg #[.bool (ah n2),.slice p2 (aa n2) c2,.slice s2 (ag en2) d2]] w (.int .i64 k):=by
 obtain ⟨C1,C2,C3,C4,C5,C6,C7,R1,T1⟩:=bZ h1 h2 h3 h4 h5 h6 h7 r1 t1;have R2:=hid r2;have T2:=hid t2;clear h1 h2 h3 h4 h5 h6 h7 r1 t1 r2 t2;go_enter Tryz.func87,Tryz.ntmps87
 go_upto_region 1 with fail
 refine ak w [(#[.bool (ah n1),.slice p1 (aa n1) c1,.slice s1 (ag en1) d1],50),(#[.bool (ah n2),.slice p2 (aa n2) c2,.slice s2 (ag en2) d2],50)] rfl ?_;rintro W0 ⟨k1,k2,hb⟩;have si:=hid (show Below w.heap.size w W0 from hb);obtain ⟨R1,T1,R2,T2⟩:=bR si.o R1 T1 R2 T2;obtain ⟨K1,K2⟩:=aD k1 k2;clear k1 k2 hb;go_wp2_with fail
 refine az (fun a0 a' V=>a'=⟨putL [(9,.agg #[.bool (ah n1),.slice p1 (aa n1) c1,.slice s1 (ag en1) d1]),(10,.int .i64 ua),(11,.agg #[.bool (ah n2),.slice p2 (aa n2) c2,.slice s2 (ag en2) d2]),(12,.int .i64 ua),(5,.int .i64 ua),(6,.int .i64 ua)] a0.tmps,a0.defers⟩∧Below w.heap.size w V∧SBk V (w.heap.size) #[.bool (ah n1),.slice p1 (aa n1) c1,.slice s1 (ag en1) d1] 50∧SBk V (w.heap.size+1) #[.bool (ah n2),.slice p2 (aa n2) c2,.slice s2 (ag en2) d2] 50∧RN V (.slice p1 (aa n1) c1) n1.natAbs∧RN V (.slice s1 (ag en1) d1) en1∧RN V (.slice p2 (aa n2) c2) n2.natAbs∧RN V (.slice s2 (ag en2) d2) en2) ?_ ?_
 · refine aL 6 0 [9,10,11,12,5,6] [Rel.val (.agg #[.bool (ah n1),.slice p1 (aa n1) c1,.slice s1 (ag en1) d1]),Rel.val (.int .i64 ua),Rel.val (.agg #[.bool (ah n2),.slice p2 (aa n2) c2,.slice s2 (ag en2) d2]),Rel.val (.int .i64 ua),Rel.val (.int .i64 ua),Rel.val (.int .i64 ua)] ?_ ?_
   · intro sw a W i HI hD Hr him
     obtain⟨y2,y3⟩:=HI.o.s2 2 3;obtain ⟨l5,l6,lg⟩:=aC (K1.o.below HI.o.world) rfl rfl rfl;obtain ⟨lv,kz,kM⟩:=aC (K2.o.below HI.o.world) rfl rfl rfl;obtain⟨X0,X2,X1⟩:=HI.o.g3 0 9 2 11 1 10;have X3:=HI.o.rg 3 12 rfl
     match i,him,Hr with
     | 0,_,Hi =>
       refine aA rfl fun K' hK=>?_;go_simp;exact hK.o _ _ (HI.o.pw Hi.o)
     | 1,_,Hi =>
       have x0:=X0.q Hi.o;refine aA rfl fun K' hK=>?_;go_simp;with_reducible refine(C1.o _ _ _ _ _ (R1.o.below HI.o.world) (T1.o.below HI.o.world)).mono ?_
       rintro e W' ⟨rfl,hb⟩;exact hK.o _ _ ⟨HI.o.pc Hi.o hb rfl,trivial⟩
     | 2,_,Hi =>
       refine aA rfl fun K' hK=>?_;go_simp;exact hK.o _ _ (HI.o.pw Hi.o)
     | 3,_,Hi =>
       have x2:=X2.q Hi.o;refine aA rfl fun K' hK=>?_;go_simp;with_reducible refine(C2.o _ _ _ _ _ (R2.o.below HI.o.world) (T2.o.below HI.o.world)).mono ?_
       rintro e W' ⟨rfl,hb⟩;exact hK.o _ _ ⟨HI.o.pc Hi.o hb rfl,trivial⟩
     | 4,_,Hi|5,_,Hi =>
       try have x1:=X1.t Hi.o
       try have x3:=X3.t Hi.o
       refine aA rfl fun K' hK=>?_;go_simp;exact hK.o _ _ (HI.o.pw Hi.o)
     | n+6,h,_=>exact absurd h (by omega)
   · intro sw a W HI hD HA
     have wu:=hid HI.o.world;obtain ⟨K1,K2,R1,T1,R2,T2⟩:=yO wu.o K1 K2 R1 T1 R2 T2;have rM:=Lib.hid (si.o.trans (wu.o.mono si.o.size));refine aV ?_;exact⟨rfl,(HI.o.finx ⟨HI.o.sx HA.o 0,HI.o.sx HA.o 1,HI.o.sx HA.o 2,HI.o.sx HA.o 3,HI.o.sx HA.o 4,HI.o.sx HA.o 5,trivial⟩ rfl),rM.o,K1.o,K2.o,R1.o,T1.o,R2.o,T2.o⟩
 rintro a' W1 ⟨rfl,z0,z1,z2,z3,z4,z5,z6⟩;obtain ⟨ol,K1,K2,R1,T1,R2,T2⟩:=dQ z0 z1 z2 z3 z4 z5 z6;clear z0 z1 z2 z3 z4 z5 z6;simp only[putL,List.setIfInBounds_toArray,List.set_cons_zero,List.set_cons_succ];go_wp2_with fail
 have L1:=K1.o.lt;have L2:=K2.o.lt;have L3:=ol.o.size;refine az (fun a0 a' V=>∃ rV p8 u6 w9 ww,a'=⟨putL [(19,.pointer (some ⟨w.heap.size,0,none⟩)),(20,.pointer (some ⟨w.heap.size,0,none⟩)),(21,.bool (ah n1)),(22,.pointer (some ⟨w.heap.size,0,none⟩)),(23,.pointer (some ⟨w.heap.size,1,none⟩)),(24,.slice p1 (aa n1) c1),(25,.pointer (some ⟨w.heap.size+1,2,none⟩)),(26,.slice s2 (ag en2) d2),(27,.slice rV (ag u) p8),(28,.agg #[.bool (ah x),.slice u6 (aa x) w9]),(7,.pointer (some ⟨ww,0,none⟩))] a0.tmps,a0.defers⟩∧Below w.heap.size w V∧SBk V (w.heap.size) #[.bool (ah n1),.slice p1 (aa n1) c1,.slice s1 (ag en1) d1] 50∧SBk V (w.heap.size+1) #[.bool (ah n2),.slice p2 (aa n2) c2,.slice s2 (ag en2) d2] 50∧SBk V (ww) #[.bool (ah x),.slice u6 (aa x) w9] 48∧RN V (.slice s1 (ag en1) d1) en1∧RN V (.slice p2 (aa n2) c2) n2.natAbs∧RN V (.slice u6 (aa x) w9) x.natAbs∧W1.heap.size≤ww) ?_ ?_
 · refine aL 11 1 [19,20,21,22,23,24,25,26,27,28,7] [Rel.val (.pointer (some ⟨w.heap.size,0,none⟩)),Rel.val (.pointer (some ⟨w.heap.size,0,none⟩)),Rel.val (.bool (ah n1)),Rel.val (.pointer (some ⟨w.heap.size,0,none⟩)),Rel.val (.pointer (some ⟨w.heap.size,1,none⟩)),Rel.val (.slice p1 (aa n1) c1),Rel.val (.pointer (some ⟨w.heap.size+1,2,none⟩)),Rel.val (.slice s2 (ag en2) d2),Rel.nat u,Rel.int x,Rel.ptr W1.heap.size (.cells #[.bool false,.slice none 0 0] 48)] ?_ ?_
   · intro sw a W i HI hD Hr him
     obtain⟨y2,y3⟩:=HI.o.s2 2 3;obtain ⟨l5,l6⟩:=ay (K1.o.below HI.o.world) rfl rfl;have kM:=(K2.o.below HI.o.world).cell (i:=2) rfl;obtain⟨X0,X1,X3,X4,X6,X5⟩:=HI.o.g6 0 19 1 20 3 22 4 23 6 25 5 24;obtain⟨X7,X2⟩:=HI.o.g2 7 26 2 21
     match i,him,Hr with
     | 0,_,Hi|1,_,Hi|2,_,Hi|3,_,Hi|4,_,Hi|5,_,Hi|6,_,Hi|7,_,Hi =>
       try have x0:=X0.t Hi.o
       try have x1:=X1.t Hi.o
       try have x3:=X3.t Hi.o
       try have x4:=X4.t Hi.o
       try have x6:=X6.t Hi.o
       refine aA rfl fun K' hK=>?_;go_simp;exact hK.o _ _ (HI.o.pw Hi.o)
     | 8,_,Hi =>
       have x5:=X5.q Hi.o;have x7:=X7.q Hi.o;refine aA rfl fun K' hK=>?_;go_simp;with_reducible refine(C3.o _ _ _ _ _ (R1.o.below HI.o.world) (T2.o.below HI.o.world)).mono ?_
       rintro e W' ⟨rV,p8,rfl,oM,hb⟩;exact hK.o _ _ ⟨HI.o.pc Hi.o hb ⟨rV,p8,rfl,oM⟩,trivial⟩
     | 9,_,Hi =>
       have x2:=X2.q Hi.o;obtain⟨v',x8,rV,p8,e,oM⟩:=HI.o.at (i:=8) Hi.o (by kernel_rfl) (by decide);obtain rfl:=e;have x8:a.tmps[27]? = some (.slice rV (ag u) p8):=x8;have kV:=hid oM;clear oM;refine aA rfl fun K' hK=>?_;go_simp;with_reducible refine(C4.o _ _ _ kV.o).mono ?_
       rintro e W' ⟨u6,w9,rfl,ma,hb⟩;exact hK.o _ _ ⟨HI.o.pc Hi.o hb ⟨u6,w9,rfl,ma⟩,trivial⟩
     | 10,_,Hi =>
       refine aA rfl fun K' hK=>?_;go_simp;exact hK.o _ _ ⟨HI.o.pc Hi.o ((Below.refl W.heap.size W).alloc (Nat.le_refl _) (.cells #[.bool false,.slice none 0 0] 48)) ⟨W.heap.size,rfl,HI.o.world.size,SBk.new _ _ _⟩,trivial⟩
     | n+11,h,_=>exact absurd h (by omega)
   · intro sw a W HI hD HA
     obtain⟨v',x8,rV,p8,e,oM⟩:=HI.o.slots 8 (by decide) (HA.o 8 (by decide));obtain rfl:=e;have kV:=hid oM;clear oM;obtain⟨v',x9,u6,w9,e,ma⟩:=HI.o.slots 9 (by decide) (HA.o 9 (by decide));obtain rfl:=e;have bg:=hid ma;clear ma;have x9:a.tmps[28]? = some (.agg #[.bool (ah x),.slice u6 (aa x) w9]):=x9;obtain⟨v',x10,ww,e,ed,d9⟩:=HI.o.slots 10 (by decide) (HA.o 10 (by decide));obtain rfl:=e;have mf:=hid ed;clear ed;have bn:=hid d9;clear d9;have x10:a.tmps[7]? = some (.pointer (some ⟨ww,0,none⟩)):=x10;have wu:=hid HI.o.world;obtain ⟨K1,K2,T1,R2⟩:=bR wu.o K1 K2 T1 R2;have rM:=Lib.hid (ol.o.trans (wu.o.mono ol.o.size));have RU:=kV;have RX:=bg;have K3:Hid (SBk W ww #[.bool false,.slice none 0 0] 48):=bn;obtain ⟨dn,dx⟩:=ay K3.o rfl rfl;obtain ⟨bV,af⟩:=aR K3.o;refine aZ (t:=0) ?_;refine aA rfl fun K' hK=>?_;go_simp;refine hK.o _ _ ?_;clear hK;refine aV ?_;have s0:∀ {v':Value} {n':Nat},RN W v' n'→RN (storeAll W (ww) 0 [.bool (ah x),.slice u6 (aa x) w9]) v' n':=fun h'=>bf _ h' K3.o (by simp[bJ]) (by simp[aW]);have o0:∀ {g':Nat} {cs':Array Value} {T':TypeId},g'≠ww→SBk W g' cs' T'→SBk (storeAll W (ww) 0 [.bool (ah x),.slice u6 (aa x) w9]) g' cs' T':=fun hg' h'=>cK hg' _ 0 h';exact⟨rfl,rV,p8,u6,w9,ww,(HI.o.finx ⟨HI.o.sx HA.o 0,HI.o.sx HA.o 1,HI.o.sx HA.o 2,HI.o.sx HA.o 3,HI.o.sx HA.o 4,HI.o.sx HA.o 5,HI.o.sx HA.o 6,HI.o.sx HA.o 7,x8,x9,x10,trivial⟩ rfl),(aj (l:=[.bool (ah x),.slice u6 (aa x) w9]) (i:=0) (by have:=mf.o;omega) rM.o),(o0 (by have:=mf.o;omega) K1.o),(o0 (by have:=mf.o;omega) K2.o),(bX (l:=[.bool (ah x),.slice u6 (aa x) w9]) (i:=0) K3.o),(s0 T1.o),(s0 R2.o),(s0 RX.o),mf.o⟩
 rintro a' W2 ⟨rV,p8,u6,w9,ww,rfl,z0,z1,z2,z3,z4,z5,z6,z7⟩;obtain ⟨gy,K1,K2,K3,T1,R2,RX⟩:=dQ z0 z1 z2 z3 z4 z5 z6;have R10xW2:=z7;clear z0 z1 z2 z3 z4 z5 z6 z7;simp only[putL,List.setIfInBounds_toArray,List.set_cons_zero,List.set_cons_succ];go_wp2_with fail
 have L5:=K1.o.lt;have L6:=K2.o.lt;have L7:=K3.o.lt;have L8:=gy.o.size;refine az (fun a0 a' V=>∃ pq pu wm wo sj,a'=⟨putL [(29,.pointer (some ⟨w.heap.size+1,0,none⟩)),(30,.pointer (some ⟨w.heap.size+1,0,none⟩)),(31,.bool (ah n2)),(32,.pointer (some ⟨w.heap.size+1,0,none⟩)),(33,.pointer (some ⟨w.heap.size+1,1,none⟩)),(34,.slice p2 (aa n2) c2),(35,.pointer (some ⟨w.heap.size,2,none⟩)),(36,.slice s1 (ag en1) d1),(37,.slice pq (ag v) pu),(38,.agg #[.bool (ah y),.slice wm (aa y) wo]),(8,.pointer (some ⟨sj,0,none⟩))] a0.tmps,a0.defers⟩∧Below w.heap.size w V∧SBk V (ww) #[.bool (ah x),.slice u6 (aa x) w9] 48∧SBk V (sj) #[.bool (ah y),.slice wm (aa y) wo] 48∧RN V (.slice u6 (aa x) w9) x.natAbs∧RN V (.slice wm (aa y) wo) y.natAbs∧W2.heap.size≤sj) ?_ ?_
 · refine aL 11 1 [29,30,31,32,33,34,35,36,37,38,8] [Rel.val (.pointer (some ⟨w.heap.size+1,0,none⟩)),Rel.val (.pointer (some ⟨w.heap.size+1,0,none⟩)),Rel.val (.bool (ah n2)),Rel.val (.pointer (some ⟨w.heap.size+1,0,none⟩)),Rel.val (.pointer (some ⟨w.heap.size+1,1,none⟩)),Rel.val (.slice p2 (aa n2) c2),Rel.val (.pointer (some ⟨w.heap.size,2,none⟩)),Rel.val (.slice s1 (ag en1) d1),Rel.nat v,Rel.int y,Rel.ptr W2.heap.size (.cells #[.bool false,.slice none 0 0] 48)] ?_ ?_
   · intro sw a W i HI hD Hr him
     obtain⟨y3,y2⟩:=HI.o.s2 3 2;obtain ⟨lv,kz⟩:=ay (K2.o.below HI.o.world) rfl rfl;have lg:=(K1.o.below HI.o.world).cell (i:=2) rfl;obtain⟨X0,X1,X3,X4,X6,X5⟩:=HI.o.g6 0 29 1 30 3 32 4 33 6 35 5 34;obtain⟨X7,X2⟩:=HI.o.g2 7 36 2 31
     match i,him,Hr with
     | 0,_,Hi|1,_,Hi|2,_,Hi|3,_,Hi|4,_,Hi|5,_,Hi|6,_,Hi|7,_,Hi =>
       try have x0:=X0.t Hi.o
       try have x1:=X1.t Hi.o
       try have x3:=X3.t Hi.o
       try have x4:=X4.t Hi.o
       try have x6:=X6.t Hi.o
       refine aA rfl fun K' hK=>?_;go_simp;exact hK.o _ _ (HI.o.pw Hi.o)
     | 8,_,Hi =>
       have x5:=X5.q Hi.o;have x7:=X7.q Hi.o;refine aA rfl fun K' hK=>?_;go_simp;with_reducible refine(C5.o _ _ _ _ _ (R2.o.below HI.o.world) (T1.o.below HI.o.world)).mono ?_
       rintro e W' ⟨pq,pu,rfl,oV,hb⟩;exact hK.o _ _ ⟨HI.o.pc Hi.o hb ⟨pq,pu,rfl,oV⟩,trivial⟩
     | 9,_,Hi =>
       have x2:=X2.q Hi.o;obtain⟨v',x8,pq,pu,e,oV⟩:=HI.o.at (i:=8) Hi.o (by kernel_rfl) (by decide);obtain rfl:=e;have x8:a.tmps[37]? = some (.slice pq (ag v) pu):=x8;have fq:=hid oV;clear oV;refine aA rfl fun K' hK=>?_;go_simp;with_reducible refine(C6.o _ _ _ fq.o).mono ?_
       rintro e W' ⟨wm,wo,rfl,mi,hb⟩;exact hK.o _ _ ⟨HI.o.pc Hi.o hb ⟨wm,wo,rfl,mi⟩,trivial⟩
     | 10,_,Hi =>
       refine aA rfl fun K' hK=>?_;go_simp;exact hK.o _ _ ⟨HI.o.pc Hi.o ((Below.refl W.heap.size W).alloc (Nat.le_refl _) (.cells #[.bool false,.slice none 0 0] 48)) ⟨W.heap.size,rfl,HI.o.world.size,SBk.new _ _ _⟩,trivial⟩
     | n+11,h,_=>exact absurd h (by omega)
   · intro sw a W HI hD HA
     obtain⟨v',x8,pq,pu,e,oV⟩:=HI.o.slots 8 (by decide) (HA.o 8 (by decide));obtain rfl:=e;have fq:=hid oV;clear oV;obtain⟨v',x9,wm,wo,e,mi⟩:=HI.o.slots 9 (by decide) (HA.o 9 (by decide));obtain rfl:=e;have bq:=hid mi;clear mi;have x9:a.tmps[38]? = some (.agg #[.bool (ah y),.slice wm (aa y) wo]):=x9;obtain⟨v',x10,sj,e,dz,dX⟩:=HI.o.slots 10 (by decide) (HA.o 10 (by decide));obtain rfl:=e;have fQ:=hid dz;clear dz;have bu:=hid dX;clear dX;have x10:a.tmps[8]? = some (.pointer (some ⟨sj,0,none⟩)):=x10;have wu:=hid HI.o.world;obtain ⟨K3,RX⟩:=aO wu.o K3 RX;have rM:=Lib.hid (gy.o.trans (wu.o.mono gy.o.size));have RV:=fq;have RY:=bq;have K4:Hid (SBk W sj #[.bool false,.slice none 0 0] 48):=bu;obtain ⟨dY,cO⟩:=ay K4.o rfl rfl;obtain ⟨u00,u01⟩:=aR K4.o;refine aZ (t:=0) ?_;refine aA rfl fun K' hK=>?_;go_simp;refine hK.o _ _ ?_;clear hK;refine aV ?_;have s0:∀ {v':Value} {n':Nat},RN W v' n'→RN (storeAll W (sj) 0 [.bool (ah y),.slice wm (aa y) wo]) v' n':=fun h'=>bf _ h' K4.o (by simp[bJ]) (by simp[aW]);have o0:∀ {g':Nat} {cs':Array Value} {T':TypeId},g'≠sj→SBk W g' cs' T'→SBk (storeAll W (sj) 0 [.bool (ah y),.slice wm (aa y) wo]) g' cs' T':=fun hg' h'=>cK hg' _ 0 h';exact⟨rfl,pq,pu,wm,wo,sj,(HI.o.finx ⟨HI.o.sx HA.o 0,HI.o.sx HA.o 1,HI.o.sx HA.o 2,HI.o.sx HA.o 3,HI.o.sx HA.o 4,HI.o.sx HA.o 5,HI.o.sx HA.o 6,HI.o.sx HA.o 7,x8,x9,x10,trivial⟩ rfl),(aj (l:=[.bool (ah y),.slice wm (aa y) wo]) (i:=0) (by have:=fQ.o;omega) rM.o),(o0 (by have:=fQ.o;omega) K3.o),(bX (l:=[.bool (ah y),.slice wm (aa y) wo]) (i:=0) K4.o),(s0 RX.o),(s0 RY.o),fQ.o⟩
 rintro a' W3 ⟨pq,pu,wm,wo,sj,rfl,z0,z1,z2,z3,z4,z5⟩;obtain ⟨bv,K3,K4,RX,RY⟩:=bD z0 z1 z2 z3 z4;have R10xW3:=z5;clear z0 z1 z2 z3 z4 z5;simp only[putL,List.setIfInBounds_toArray,List.set_cons_zero,List.set_cons_succ];obtain ⟨dn,dx⟩:=ay K3.o rfl rfl;obtain ⟨dY,cO⟩:=ay K4.o rfl rfl;go_wp2_with fail
 with_reducible refine(C7.o _ _ _ _ _ RX.o RY.o).mono ?_
 rintro e W4 ⟨rfl,hb⟩;clear dn dx dY cO;have bM:=hbt bv hb;clear hb;go_wp2;exact bodyPost_ret (v:=.int .i64 k) (by simp[results,Tryz.results87,go_sem]) rfl ⟨rfl,bM.o⟩
