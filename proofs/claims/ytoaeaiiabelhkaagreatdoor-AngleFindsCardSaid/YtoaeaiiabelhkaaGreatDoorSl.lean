/- texts -/
import Derived.Test.YtoaeaiiabelhkaaGreatDoorMz34q
set_option maxRecDepth 100000
set_option maxHeartbeats 20000000
open Go.Lib (hid)
namespace Go.Proofs.YtoaeaiiabelhkaaGreatDoor
open Go.RowKit Go.Gb
theorem z5c (n1 n2 ua ub:Int)(en1 en2:Nat)(hab:ua<ub)(p1:Option Addr)(c1:Nat)(s1:Option Addr)(d1:Nat)(p2:Option Addr)(c2:Nat)(s2:Option Addr)(d2:Nat)(w:World)(h1:∀ p1 c1 s1 d1 W,RN W (.slice p1 (aa n1) c1) n1.natAbs→RN W (.slice s1 (ag en1) d1) en1→CR 63 #[.agg #[.bool (ah n1),.slice p1 (aa n1) c1,.slice s1 (ag en1) d1]] W (.int .i64 ua))(h2:∀ p1 c1 s1 d1 W,RN W (.slice p1 (aa n2) c1) n2.natAbs→RN W (.slice s1 (ag en2) d1) en2→CR 63 #[.agg #[.bool (ah n2),.slice p1 (aa n2) c1,.slice s1 (ag en2) d1]] W (.int .i64 ub))(r1:RN w (.slice p1 (aa n1) c1) n1.natAbs)(t1:RN w (.slice s1 (ag en1) d1) en1)(r2:RN w (.slice p2 (aa n2) c2) n2.natAbs)(t2:RN w (.slice s2 (ag en2) d2) en2) :
 CR 27 #[.agg #[.bool (ah n1),.slice p1 (aa n1) c1,.slice s1 (ag en1) d1],.agg #[.bool (ah n2),.slice p2 (aa n2) c2,.slice s2 (ag en2) d2]] w (.int .i64 (-1)):=by
 obtain ⟨C1,C2,R1,T1,R2,T2⟩:=di h1 h2 r1 t1 r2 t2;have k0:(ua==ub)=false:=by rw[beq_eq_false_iff_ne];omega
 have k1:¬ ua=ub:=by omega
 have k2:decide (ua<ub)=true:=decide_eq_true hab;clear h1 h2 r1 t1 r2 t2;go_enter Tryz.func27,Tryz.ntmps27
 go_upto_region 1 with fail
 refine av w [(#[.bool (ah n1),.slice p1 (aa n1) c1,.slice s1 (ag en1) d1],49),(#[.bool (ah n2),.slice p2 (aa n2) c2,.slice s2 (ag en2) d2],49)] rfl ?_;rintro W0 ⟨k1,k2,hb⟩;have ww:=hid (show Below w.heap.size w W0 from hb);obtain ⟨R1,T1,R2,T2⟩:=bY ww.o R1 T1 R2 T2;obtain ⟨K1,K2⟩:=aB k1 k2;clear k1 k2 hb;go_wp2_with fail
 refine ay (fun a0 a' V=>a'=⟨putL [(9,.agg #[.bool (ah n1),.slice p1 (aa n1) c1,.slice s1 (ag en1) d1]),(10,.int .i64 ua),(11,.agg #[.bool (ah n2),.slice p2 (aa n2) c2,.slice s2 (ag en2) d2]),(12,.int .i64 ub),(5,.int .i64 ua),(6,.int .i64 ub)] a0.tmps,a0.defers⟩∧Below w.heap.size w V) ?_ ?_
 · refine aH 6 0 [9,10,11,12,5,6] [Rel.val (.agg #[.bool (ah n1),.slice p1 (aa n1) c1,.slice s1 (ag en1) d1]),Rel.val (.int .i64 ua),Rel.val (.agg #[.bool (ah n2),.slice p2 (aa n2) c2,.slice s2 (ag en2) d2]),Rel.val (.int .i64 ub),Rel.val (.int .i64 ua),Rel.val (.int .i64 ub)] ?_ ?_
   · intro sj a W i HI hD Hr him
     obtain⟨y2,y3⟩:=HI.o.s2 2 3;obtain ⟨ma,mf,mi⟩:=aA (K1.o.below HI.o.world) rfl rfl rfl;obtain ⟨l5,l6,lg⟩:=aA (K2.o.below HI.o.world) rfl rfl rfl;obtain⟨X0,X2,X1⟩:=HI.o.g3 0 9 2 11 1 10;have X3:=HI.o.rg 3 12 rfl
     match i,him,Hr with
     | 0,_,Hi =>
       refine stepH rfl fun K' hK=>?_;go_simp;exact hK.o _ _ (HI.o.pw Hi.o)
     | 1,_,Hi =>
       have x0:=X0.q Hi.o;refine stepH rfl fun K' hK=>?_;go_simp;with_reducible refine(C1.o _ _ _ _ _ (R1.o.below HI.o.world) (T1.o.below HI.o.world)).mono ?_
       rintro e W' ⟨rfl,hb⟩;exact hK.o _ _ ⟨HI.o.pc Hi.o hb rfl,trivial⟩
     | 2,_,Hi =>
       refine stepH rfl fun K' hK=>?_;go_simp;exact hK.o _ _ (HI.o.pw Hi.o)
     | 3,_,Hi =>
       have x2:=X2.q Hi.o;refine stepH rfl fun K' hK=>?_;go_simp;with_reducible refine(C2.o _ _ _ _ _ (R2.o.below HI.o.world) (T2.o.below HI.o.world)).mono ?_
       rintro e W' ⟨rfl,hb⟩;exact hK.o _ _ ⟨HI.o.pc Hi.o hb rfl,trivial⟩
     | 4,_,Hi|5,_,Hi =>
       try have x1:=X1.t Hi.o
       try have x3:=X3.t Hi.o
       refine stepH rfl fun K' hK=>?_;go_simp;exact hK.o _ _ (HI.o.pw Hi.o)
     | n+6,h,_=>exact absurd h (by omega)
   · intro sj a W HI hD HA
     have wo:=hid HI.o.world;have su:=hid (ww.o.trans (wo.o.mono ww.o.size));refine aV ?_;exact⟨rfl,(HI.o.finx ⟨HI.o.sx HA.o 0,HI.o.sx HA.o 1,HI.o.sx HA.o 2,HI.o.sx HA.o 3,HI.o.sx HA.o 4,HI.o.sx HA.o 5,trivial⟩ rfl),su.o⟩
 rintro a' W1 ⟨rfl,z0⟩;have pq:=hid z0;clear z0;simp only[putL,List.setIfInBounds_toArray,List.set_cons_zero,List.set_cons_succ];go_wp2;exact bodyPost_ret (v:=.int .i64 (-1)) (by simp[results,Tryz.results27,go_sem]) rfl ⟨rfl,pq.o⟩
theorem z5d (n1 n2 ua ub:Int)(en1 en2:Nat)(hab:ub<ua)(p1:Option Addr)(c1:Nat)(s1:Option Addr)(d1:Nat)(p2:Option Addr)(c2:Nat)(s2:Option Addr)(d2:Nat)(w:World)(h1:∀ p1 c1 s1 d1 W,RN W (.slice p1 (aa n1) c1) n1.natAbs→RN W (.slice s1 (ag en1) d1) en1→CR 63 #[.agg #[.bool (ah n1),.slice p1 (aa n1) c1,.slice s1 (ag en1) d1]] W (.int .i64 ua))(h2:∀ p1 c1 s1 d1 W,RN W (.slice p1 (aa n2) c1) n2.natAbs→RN W (.slice s1 (ag en2) d1) en2→CR 63 #[.agg #[.bool (ah n2),.slice p1 (aa n2) c1,.slice s1 (ag en2) d1]] W (.int .i64 ub))(r1:RN w (.slice p1 (aa n1) c1) n1.natAbs)(t1:RN w (.slice s1 (ag en1) d1) en1)(r2:RN w (.slice p2 (aa n2) c2) n2.natAbs)(t2:RN w (.slice s2 (ag en2) d2) en2) :
 CR 27 #[.agg #[.bool (ah n1),.slice p1 (aa n1) c1,.slice s1 (ag en1) d1],.agg #[.bool (ah n2),.slice p2 (aa n2) c2,.slice s2 (ag en2) d2]] w (.int .i64 (1)):=by
 obtain ⟨C1,C2,R1,T1,R2,T2⟩:=di h1 h2 r1 t1 r2 t2;have k0:(ua==ub)=false:=by rw[beq_eq_false_iff_ne];omega
 have k1:¬ ua=ub:=by omega
 have k2:decide (ua<ub)=false:=decide_eq_false (by omega);have k3:ub≤ua:=by omega
 clear h1 h2 r1 t1 r2 t2;go_enter Tryz.func27,Tryz.ntmps27
 go_upto_region 1 with fail
 refine av w [(#[.bool (ah n1),.slice p1 (aa n1) c1,.slice s1 (ag en1) d1],49),(#[.bool (ah n2),.slice p2 (aa n2) c2,.slice s2 (ag en2) d2],49)] rfl ?_;rintro W0 ⟨k1,k2,hb⟩;have ww:=hid (show Below w.heap.size w W0 from hb);obtain ⟨R1,T1,R2,T2⟩:=bY ww.o R1 T1 R2 T2;obtain ⟨K1,K2⟩:=aB k1 k2;clear k1 k2 hb;go_wp2_with fail
 refine ay (fun a0 a' V=>a'=⟨putL [(9,.agg #[.bool (ah n1),.slice p1 (aa n1) c1,.slice s1 (ag en1) d1]),(10,.int .i64 ua),(11,.agg #[.bool (ah n2),.slice p2 (aa n2) c2,.slice s2 (ag en2) d2]),(12,.int .i64 ub),(5,.int .i64 ua),(6,.int .i64 ub)] a0.tmps,a0.defers⟩∧Below w.heap.size w V) ?_ ?_
 · refine aH 6 0 [9,10,11,12,5,6] [Rel.val (.agg #[.bool (ah n1),.slice p1 (aa n1) c1,.slice s1 (ag en1) d1]),Rel.val (.int .i64 ua),Rel.val (.agg #[.bool (ah n2),.slice p2 (aa n2) c2,.slice s2 (ag en2) d2]),Rel.val (.int .i64 ub),Rel.val (.int .i64 ua),Rel.val (.int .i64 ub)] ?_ ?_
   · intro sj a W i HI hD Hr him
     obtain⟨y2,y3⟩:=HI.o.s2 2 3;obtain ⟨ma,mf,mi⟩:=aA (K1.o.below HI.o.world) rfl rfl rfl;obtain ⟨l5,l6,lg⟩:=aA (K2.o.below HI.o.world) rfl rfl rfl;obtain⟨X0,X2,X1⟩:=HI.o.g3 0 9 2 11 1 10;have X3:=HI.o.rg 3 12 rfl
     match i,him,Hr with
     | 0,_,Hi =>
       refine stepH rfl fun K' hK=>?_;go_simp;exact hK.o _ _ (HI.o.pw Hi.o)
     | 1,_,Hi =>
       have x0:=X0.q Hi.o;refine stepH rfl fun K' hK=>?_;go_simp;with_reducible refine(C1.o _ _ _ _ _ (R1.o.below HI.o.world) (T1.o.below HI.o.world)).mono ?_
       rintro e W' ⟨rfl,hb⟩;exact hK.o _ _ ⟨HI.o.pc Hi.o hb rfl,trivial⟩
     | 2,_,Hi =>
       refine stepH rfl fun K' hK=>?_;go_simp;exact hK.o _ _ (HI.o.pw Hi.o)
     | 3,_,Hi =>
       have x2:=X2.q Hi.o;refine stepH rfl fun K' hK=>?_;go_simp;with_reducible refine(C2.o _ _ _ _ _ (R2.o.below HI.o.world) (T2.o.below HI.o.world)).mono ?_
       rintro e W' ⟨rfl,hb⟩;exact hK.o _ _ ⟨HI.o.pc Hi.o hb rfl,trivial⟩
     | 4,_,Hi|5,_,Hi =>
       try have x1:=X1.t Hi.o
       try have x3:=X3.t Hi.o
       refine stepH rfl fun K' hK=>?_;go_simp;exact hK.o _ _ (HI.o.pw Hi.o)
     | n+6,h,_=>exact absurd h (by omega)
   · intro sj a W HI hD HA
     have wo:=hid HI.o.world;have su:=hid (ww.o.trans (wo.o.mono ww.o.size));refine aV ?_;exact⟨rfl,(HI.o.finx ⟨HI.o.sx HA.o 0,HI.o.sx HA.o 1,HI.o.sx HA.o 2,HI.o.sx HA.o 3,HI.o.sx HA.o 4,HI.o.sx HA.o 5,trivial⟩ rfl),su.o⟩
 rintro a' W1 ⟨rfl,z0⟩;have pq:=hid z0;clear z0;simp only[putL,List.setIfInBounds_toArray,List.set_cons_zero,List.set_cons_succ];go_wp2;exact bodyPost_ret (v:=.int .i64 1) (by simp[results,Tryz.results27,go_sem]) rfl ⟨rfl,pq.o⟩
theorem z0W (n1 n2 ua x y k:Int)(en1 en2 u v:Nat)(p1:Option Addr)(c1:Nat)(s1:Option Addr)(d1:Nat)(p2:Option Addr)(c2:Nat)(s2:Option Addr)(d2:Nat)(w:World)(h1:∀ p1 c1 s1 d1 W,RN W (.slice p1 (aa n1) c1) n1.natAbs→RN W (.slice s1 (ag en1) d1) en1→CR 63 #[.agg #[.bool (ah n1),.slice p1 (aa n1) c1,.slice s1 (ag en1) d1]] W (.int .i64 ua))(h2:∀ p1 c1 s1 d1 W,RN W (.slice p1 (aa n2) c1) n2.natAbs→RN W (.slice s1 (ag en2) d1) en2→CR 63 #[.agg #[.bool (ah n2),.slice p1 (aa n2) c1,.slice s1 (ag en2) d1]] W (.int .i64 ua))(h3:∀ p1 c1 s2 d2 W,RN W (.slice p1 (aa n1) c1) n1.natAbs→RN W (.slice s2 (ag en2) d2) en2→CN 65 #[.slice p1 (aa n1) c1,.slice s2 (ag en2) d2] W u)(h4:∀ s2 d2 W,RN W (.slice s2 (ag u) d2) u→CZ 64 #[.bool (ah n1),.slice s2 (ag u) d2] W x)(h5:∀ p1 c1 s2 d2 W,RN W (.slice p1 (aa n2) c1) n2.natAbs→RN W (.slice s2 (ag en1) d2) en1→CN 65 #[.slice p1 (aa n2) c1,.slice s2 (ag en1) d2] W v)(h6:∀ s2 d2 W,RN W (.slice s2 (ag v) d2) v→CZ 64 #[.bool (ah n2),.slice s2 (ag v) d2] W y)(h7:∀ p1 c1 p2 c2 W,RN W (.slice p1 (aa x) c1) x.natAbs→RN W (.slice p2 (aa y) c2) y.natAbs→CR 66 #[.agg #[.bool (ah x),.slice p1 (aa x) c1],.agg #[.bool (ah y),.slice p2 (aa y) c2]] W (.int .i64 k))(r1:RN w (.slice p1 (aa n1) c1) n1.natAbs)(t1:RN w (.slice s1 (ag en1) d1) en1)(r2:RN w (.slice p2 (aa n2) c2) n2.natAbs)(t2:RN w (.slice s2 (ag en2) d2) en2) :
 CR 27 #[.agg #[.bool (ah n1),.slice p1 (aa n1) c1,.slice s1 (ag en1) d1],.agg #[.bool (ah n2),.slice p2 (aa n2) c2,.slice s2 (ag en2) d2]] w (.int .i64 k):=by
 obtain ⟨C1,C2,C3,C4,C5,C6,C7,R1,T1⟩:=bQ h1 h2 h3 h4 h5 h6 h7 r1 t1;have R2:=hid r2;have T2:=hid t2;clear h1 h2 h3 h4 h5 h6 h7 r1 t1 r2 t2;go_enter Tryz.func27,Tryz.ntmps27
 go_upto_region 1 with fail
 refine av w [(#[.bool (ah n1),.slice p1 (aa n1) c1,.slice s1 (ag en1) d1],49),(#[.bool (ah n2),.slice p2 (aa n2) c2,.slice s2 (ag en2) d2],49)] rfl ?_;rintro W0 ⟨k1,k2,hb⟩;have ww:=hid (show Below w.heap.size w W0 from hb);obtain ⟨R1,T1,R2,T2⟩:=bY ww.o R1 T1 R2 T2;obtain ⟨K1,K2⟩:=aB k1 k2;clear k1 k2 hb;go_wp2_with fail
 refine ay (fun a0 a' V=>a'=⟨putL [(9,.agg #[.bool (ah n1),.slice p1 (aa n1) c1,.slice s1 (ag en1) d1]),(10,.int .i64 ua),(11,.agg #[.bool (ah n2),.slice p2 (aa n2) c2,.slice s2 (ag en2) d2]),(12,.int .i64 ua),(5,.int .i64 ua),(6,.int .i64 ua)] a0.tmps,a0.defers⟩∧Below w.heap.size w V∧SBk V (w.heap.size) #[.bool (ah n1),.slice p1 (aa n1) c1,.slice s1 (ag en1) d1] 49∧SBk V (w.heap.size+1) #[.bool (ah n2),.slice p2 (aa n2) c2,.slice s2 (ag en2) d2] 49∧RN V (.slice p1 (aa n1) c1) n1.natAbs∧RN V (.slice s1 (ag en1) d1) en1∧RN V (.slice p2 (aa n2) c2) n2.natAbs∧RN V (.slice s2 (ag en2) d2) en2) ?_ ?_
 · refine aH 6 0 [9,10,11,12,5,6] [Rel.val (.agg #[.bool (ah n1),.slice p1 (aa n1) c1,.slice s1 (ag en1) d1]),Rel.val (.int .i64 ua),Rel.val (.agg #[.bool (ah n2),.slice p2 (aa n2) c2,.slice s2 (ag en2) d2]),Rel.val (.int .i64 ua),Rel.val (.int .i64 ua),Rel.val (.int .i64 ua)] ?_ ?_
   · intro sj a W i HI hD Hr him
     obtain⟨y2,y3⟩:=HI.o.s2 2 3;obtain ⟨ma,mf,mi⟩:=aA (K1.o.below HI.o.world) rfl rfl rfl;obtain ⟨l5,l6,lg⟩:=aA (K2.o.below HI.o.world) rfl rfl rfl;obtain⟨X0,X2,X1⟩:=HI.o.g3 0 9 2 11 1 10;have X3:=HI.o.rg 3 12 rfl
     match i,him,Hr with
     | 0,_,Hi =>
       refine stepH rfl fun K' hK=>?_;go_simp;exact hK.o _ _ (HI.o.pw Hi.o)
     | 1,_,Hi =>
       have x0:=X0.q Hi.o;refine stepH rfl fun K' hK=>?_;go_simp;with_reducible refine(C1.o _ _ _ _ _ (R1.o.below HI.o.world) (T1.o.below HI.o.world)).mono ?_
       rintro e W' ⟨rfl,hb⟩;exact hK.o _ _ ⟨HI.o.pc Hi.o hb rfl,trivial⟩
     | 2,_,Hi =>
       refine stepH rfl fun K' hK=>?_;go_simp;exact hK.o _ _ (HI.o.pw Hi.o)
     | 3,_,Hi =>
       have x2:=X2.q Hi.o;refine stepH rfl fun K' hK=>?_;go_simp;with_reducible refine(C2.o _ _ _ _ _ (R2.o.below HI.o.world) (T2.o.below HI.o.world)).mono ?_
       rintro e W' ⟨rfl,hb⟩;exact hK.o _ _ ⟨HI.o.pc Hi.o hb rfl,trivial⟩
     | 4,_,Hi|5,_,Hi =>
       try have x1:=X1.t Hi.o
       try have x3:=X3.t Hi.o
       refine stepH rfl fun K' hK=>?_;go_simp;exact hK.o _ _ (HI.o.pw Hi.o)
     | n+6,h,_=>exact absurd h (by omega)
   · intro sj a W HI hD HA
     have wo:=hid HI.o.world;obtain ⟨K1,K2,R1,T1,R2,T2⟩:=kU wo.o K1 K2 R1 T1 R2 T2;have su:=Lib.hid (ww.o.trans (wo.o.mono ww.o.size));refine aV ?_;exact⟨rfl,(HI.o.finx ⟨HI.o.sx HA.o 0,HI.o.sx HA.o 1,HI.o.sx HA.o 2,HI.o.sx HA.o 3,HI.o.sx HA.o 4,HI.o.sx HA.o 5,trivial⟩ rfl),su.o,K1.o,K2.o,R1.o,T1.o,R2.o,T2.o⟩
 rintro a' W1 ⟨rfl,z0,z1,z2,z3,z4,z5,z6⟩;obtain ⟨pq,K1,K2,R1,T1,R2,T2⟩:=eB z0 z1 z2 z3 z4 z5 z6;clear z0 z1 z2 z3 z4 z5 z6;simp only[putL,List.setIfInBounds_toArray,List.set_cons_zero,List.set_cons_succ];go_wp2_with fail
 have L1:=K1.o.lt;have L2:=K2.o.lt;have L3:=pq.o.size;refine ay (fun a0 a' V=>∃ sw rM u6 uu wu,a'=⟨putL [(19,.pointer (some ⟨w.heap.size,0,none⟩)),(20,.pointer (some ⟨w.heap.size,0,none⟩)),(21,.bool (ah n1)),(22,.pointer (some ⟨w.heap.size,0,none⟩)),(23,.pointer (some ⟨w.heap.size,1,none⟩)),(24,.slice p1 (aa n1) c1),(25,.pointer (some ⟨w.heap.size+1,2,none⟩)),(26,.slice s2 (ag en2) d2),(27,.slice sw (ag u) rM),(28,.agg #[.bool (ah x),.slice u6 (aa x) uu]),(7,.pointer (some ⟨wu,0,none⟩))] a0.tmps,a0.defers⟩∧Below w.heap.size w V∧SBk V (w.heap.size) #[.bool (ah n1),.slice p1 (aa n1) c1,.slice s1 (ag en1) d1] 49∧SBk V (w.heap.size+1) #[.bool (ah n2),.slice p2 (aa n2) c2,.slice s2 (ag en2) d2] 49∧SBk V (wu) #[.bool (ah x),.slice u6 (aa x) uu] 47∧RN V (.slice s1 (ag en1) d1) en1∧RN V (.slice p2 (aa n2) c2) n2.natAbs∧RN V (.slice u6 (aa x) uu) x.natAbs∧W1.heap.size≤wu) ?_ ?_
 · refine aH 11 1 [19,20,21,22,23,24,25,26,27,28,7] [Rel.val (.pointer (some ⟨w.heap.size,0,none⟩)),Rel.val (.pointer (some ⟨w.heap.size,0,none⟩)),Rel.val (.bool (ah n1)),Rel.val (.pointer (some ⟨w.heap.size,0,none⟩)),Rel.val (.pointer (some ⟨w.heap.size,1,none⟩)),Rel.val (.slice p1 (aa n1) c1),Rel.val (.pointer (some ⟨w.heap.size+1,2,none⟩)),Rel.val (.slice s2 (ag en2) d2),Rel.nat u,Rel.int x,Rel.ptr W1.heap.size (.cells #[.bool false,.slice none 0 0] 47)] ?_ ?_
   · intro sj a W i HI hD Hr him
     obtain⟨y2,y3⟩:=HI.o.s2 2 3;obtain ⟨ma,mf⟩:=aC (K1.o.below HI.o.world) rfl rfl;have lg:=(K2.o.below HI.o.world).cell (i:=2) rfl;obtain⟨X0,X1,X3,X4,X6,X5⟩:=HI.o.g6 0 19 1 20 3 22 4 23 6 25 5 24;obtain⟨X7,X2⟩:=HI.o.g2 7 26 2 21
     match i,him,Hr with
     | 0,_,Hi|1,_,Hi|2,_,Hi|3,_,Hi|4,_,Hi|5,_,Hi|6,_,Hi|7,_,Hi =>
       try have x0:=X0.t Hi.o
       try have x1:=X1.t Hi.o
       try have x3:=X3.t Hi.o
       try have x4:=X4.t Hi.o
       try have x6:=X6.t Hi.o
       refine stepH rfl fun K' hK=>?_;go_simp;exact hK.o _ _ (HI.o.pw Hi.o)
     | 8,_,Hi =>
       have x5:=X5.q Hi.o;have x7:=X7.q Hi.o;refine stepH rfl fun K' hK=>?_;go_simp;with_reducible refine(C3.o _ _ _ _ _ (R1.o.below HI.o.world) (T2.o.below HI.o.world)).mono ?_
       rintro e W' ⟨sw,rM,rfl,pu,hb⟩;exact hK.o _ _ ⟨HI.o.pc Hi.o hb ⟨sw,rM,rfl,pu⟩,trivial⟩
     | 9,_,Hi =>
       have x2:=X2.q Hi.o;obtain⟨v',x8,sw,rM,e,pu⟩:=HI.o.at (i:=8) Hi.o (by kernel_rfl) (by decide);obtain rfl:=e;have x8:a.tmps[27]? = some (.slice sw (ag u) rM):=x8;have ll:=hid pu;clear pu;refine stepH rfl fun K' hK=>?_;go_simp;with_reducible refine(C4.o _ _ _ ll.o).mono ?_
       rintro e W' ⟨u6,uu,rfl,oM,hb⟩;exact hK.o _ _ ⟨HI.o.pc Hi.o hb ⟨u6,uu,rfl,oM⟩,trivial⟩
     | 10,_,Hi =>
       refine stepH rfl fun K' hK=>?_;go_simp;exact hK.o _ _ ⟨HI.o.pc Hi.o ((Below.refl W.heap.size W).alloc (Nat.le_refl _) (.cells #[.bool false,.slice none 0 0] 47)) ⟨W.heap.size,rfl,HI.o.world.size,SBk.new _ _ _⟩,trivial⟩
     | n+11,h,_=>exact absurd h (by omega)
   · intro sj a W HI hD HA
     obtain⟨v',x8,sw,rM,e,pu⟩:=HI.o.slots 8 (by decide) (HA.o 8 (by decide));obtain rfl:=e;have ll:=hid pu;clear pu;obtain⟨v',x9,u6,uu,e,oM⟩:=HI.o.slots 9 (by decide) (HA.o 9 (by decide));obtain rfl:=e;have dx:=hid oM;clear oM;have x9:a.tmps[28]? = some (.agg #[.bool (ah x),.slice u6 (aa x) uu]):=x9;obtain⟨v',x10,wu,e,kV,gy⟩:=HI.o.slots 10 (by decide) (HA.o 10 (by decide));obtain rfl:=e;have oV:=hid kV;clear kV;have dz:=hid gy;clear gy;have x10:a.tmps[7]? = some (.pointer (some ⟨wu,0,none⟩)):=x10;have wo:=hid HI.o.world;obtain ⟨K1,K2,T1,R2⟩:=bY wo.o K1 K2 T1 R2;have su:=Lib.hid (pq.o.trans (wo.o.mono pq.o.size));have RU:=ll;have RX:=dx;have K3:Hid (SBk W wu #[.bool false,.slice none 0 0] 47):=dz;obtain ⟨fq,fQ⟩:=aC K3.o rfl rfl;obtain ⟨bn,bq⟩:=aS K3.o;refine aZ (t:=0) ?_;refine stepH rfl fun K' hK=>?_;go_simp;refine hK.o _ _ ?_;clear hK;refine aV ?_;have s0:∀ {v':Value} {n':Nat},RN W v' n'→RN (storeAll W (wu) 0 [.bool (ah x),.slice u6 (aa x) uu]) v' n':=fun h'=>aX _ h' K3.o (by simp[bJ]) (by simp[aU]);have o0:∀ {g':Nat} {cs':Array Value} {T':TypeId},g'≠wu→SBk W g' cs' T'→SBk (storeAll W (wu) 0 [.bool (ah x),.slice u6 (aa x) uu]) g' cs' T':=fun hg' h'=>bR hg' _ 0 h';exact⟨rfl,sw,rM,u6,uu,wu,(HI.o.finx ⟨HI.o.sx HA.o 0,HI.o.sx HA.o 1,HI.o.sx HA.o 2,HI.o.sx HA.o 3,HI.o.sx HA.o 4,HI.o.sx HA.o 5,HI.o.sx HA.o 6,HI.o.sx HA.o 7,x8,x9,x10,trivial⟩ rfl),(aj (l:=[.bool (ah x),.slice u6 (aa x) uu]) (i:=0) (by have:=oV.o;omega) su.o),(o0 (by have:=oV.o;omega) K1.o),(o0 (by have:=oV.o;omega) K2.o),(bK (l:=[.bool (ah x),.slice u6 (aa x) uu]) (i:=0) K3.o),(s0 T1.o),(s0 R2.o),(s0 RX.o),oV.o⟩
 rintro a' W2 ⟨sw,rM,u6,uu,wu,rfl,z0,z1,z2,z3,z4,z5,z6,z7⟩;obtain ⟨lv,K1,K2,K3,T1,R2,RX⟩:=eB z0 z1 z2 z3 z4 z5 z6;have R10xW2:=z7;clear z0 z1 z2 z3 z4 z5 z6 z7;simp only[putL,List.setIfInBounds_toArray,List.set_cons_zero,List.set_cons_succ];go_wp2_with fail
 have L5:=K1.o.lt;have L6:=K2.o.lt;have L7:=K3.o.lt;have L8:=lv.o.size;refine ay (fun a0 a' V=>∃ rV p8 w9 wm si,a'=⟨putL [(29,.pointer (some ⟨w.heap.size+1,0,none⟩)),(30,.pointer (some ⟨w.heap.size+1,0,none⟩)),(31,.bool (ah n2)),(32,.pointer (some ⟨w.heap.size+1,0,none⟩)),(33,.pointer (some ⟨w.heap.size+1,1,none⟩)),(34,.slice p2 (aa n2) c2),(35,.pointer (some ⟨w.heap.size,2,none⟩)),(36,.slice s1 (ag en1) d1),(37,.slice rV (ag v) p8),(38,.agg #[.bool (ah y),.slice w9 (aa y) wm]),(8,.pointer (some ⟨si,0,none⟩))] a0.tmps,a0.defers⟩∧Below w.heap.size w V∧SBk V (wu) #[.bool (ah x),.slice u6 (aa x) uu] 47∧SBk V (si) #[.bool (ah y),.slice w9 (aa y) wm] 47∧RN V (.slice u6 (aa x) uu) x.natAbs∧RN V (.slice w9 (aa y) wm) y.natAbs∧W2.heap.size≤si) ?_ ?_
 · refine aH 11 1 [29,30,31,32,33,34,35,36,37,38,8] [Rel.val (.pointer (some ⟨w.heap.size+1,0,none⟩)),Rel.val (.pointer (some ⟨w.heap.size+1,0,none⟩)),Rel.val (.bool (ah n2)),Rel.val (.pointer (some ⟨w.heap.size+1,0,none⟩)),Rel.val (.pointer (some ⟨w.heap.size+1,1,none⟩)),Rel.val (.slice p2 (aa n2) c2),Rel.val (.pointer (some ⟨w.heap.size,2,none⟩)),Rel.val (.slice s1 (ag en1) d1),Rel.nat v,Rel.int y,Rel.ptr W2.heap.size (.cells #[.bool false,.slice none 0 0] 47)] ?_ ?_
   · intro sj a W i HI hD Hr him
     obtain⟨y3,y2⟩:=HI.o.s2 3 2;obtain ⟨l5,l6⟩:=aC (K2.o.below HI.o.world) rfl rfl;have mi:=(K1.o.below HI.o.world).cell (i:=2) rfl;obtain⟨X0,X1,X3,X4,X6,X5⟩:=HI.o.g6 0 29 1 30 3 32 4 33 6 35 5 34;obtain⟨X7,X2⟩:=HI.o.g2 7 36 2 31
     match i,him,Hr with
     | 0,_,Hi|1,_,Hi|2,_,Hi|3,_,Hi|4,_,Hi|5,_,Hi|6,_,Hi|7,_,Hi =>
       try have x0:=X0.t Hi.o
       try have x1:=X1.t Hi.o
       try have x3:=X3.t Hi.o
       try have x4:=X4.t Hi.o
       try have x6:=X6.t Hi.o
       refine stepH rfl fun K' hK=>?_;go_simp;exact hK.o _ _ (HI.o.pw Hi.o)
     | 8,_,Hi =>
       have x5:=X5.q Hi.o;have x7:=X7.q Hi.o;refine stepH rfl fun K' hK=>?_;go_simp;with_reducible refine(C5.o _ _ _ _ _ (R2.o.below HI.o.world) (T1.o.below HI.o.world)).mono ?_
       rintro e W' ⟨rV,p8,rfl,ol,hb⟩;exact hK.o _ _ ⟨HI.o.pc Hi.o hb ⟨rV,p8,rfl,ol⟩,trivial⟩
     | 9,_,Hi =>
       have x2:=X2.q Hi.o;obtain⟨v',x8,rV,p8,e,ol⟩:=HI.o.at (i:=8) Hi.o (by kernel_rfl) (by decide);obtain rfl:=e;have x8:a.tmps[37]? = some (.slice rV (ag v) p8):=x8;have kz:=hid ol;clear ol;refine stepH rfl fun K' hK=>?_;go_simp;with_reducible refine(C6.o _ _ _ kz.o).mono ?_
       rintro e W' ⟨w9,wm,rfl,ny,hb⟩;exact hK.o _ _ ⟨HI.o.pc Hi.o hb ⟨w9,wm,rfl,ny⟩,trivial⟩
     | 10,_,Hi =>
       refine stepH rfl fun K' hK=>?_;go_simp;exact hK.o _ _ ⟨HI.o.pc Hi.o ((Below.refl W.heap.size W).alloc (Nat.le_refl _) (.cells #[.bool false,.slice none 0 0] 47)) ⟨W.heap.size,rfl,HI.o.world.size,SBk.new _ _ _⟩,trivial⟩
     | n+11,h,_=>exact absurd h (by omega)
   · intro sj a W HI hD HA
     obtain⟨v',x8,rV,p8,e,ol⟩:=HI.o.slots 8 (by decide) (HA.o 8 (by decide));obtain rfl:=e;have kz:=hid ol;clear ol;obtain⟨v',x9,w9,wm,e,ny⟩:=HI.o.slots 9 (by decide) (HA.o 9 (by decide));obtain rfl:=e;have dX:=hid ny;clear ny;have x9:a.tmps[38]? = some (.agg #[.bool (ah y),.slice w9 (aa y) wm]):=x9;obtain⟨v',x10,si,e,ed,d9⟩:=HI.o.slots 10 (by decide) (HA.o 10 (by decide));obtain rfl:=e;have kM:=hid ed;clear ed;have dY:=hid d9;clear d9;have x10:a.tmps[8]? = some (.pointer (some ⟨si,0,none⟩)):=x10;have wo:=hid HI.o.world;obtain ⟨K3,RX⟩:=aK wo.o K3 RX;have su:=Lib.hid (lv.o.trans (wo.o.mono lv.o.size));have RV:=kz;have RY:=dX;have K4:Hid (SBk W si #[.bool false,.slice none 0 0] 47):=dY;obtain ⟨dh,dn⟩:=aC K4.o rfl rfl;obtain ⟨bu,bv⟩:=aS K4.o;refine aZ (t:=0) ?_;refine stepH rfl fun K' hK=>?_;go_simp;refine hK.o _ _ ?_;clear hK;refine aV ?_;have s0:∀ {v':Value} {n':Nat},RN W v' n'→RN (storeAll W (si) 0 [.bool (ah y),.slice w9 (aa y) wm]) v' n':=fun h'=>aX _ h' K4.o (by simp[bJ]) (by simp[aU]);have o0:∀ {g':Nat} {cs':Array Value} {T':TypeId},g'≠si→SBk W g' cs' T'→SBk (storeAll W (si) 0 [.bool (ah y),.slice w9 (aa y) wm]) g' cs' T':=fun hg' h'=>bR hg' _ 0 h';exact⟨rfl,rV,p8,w9,wm,si,(HI.o.finx ⟨HI.o.sx HA.o 0,HI.o.sx HA.o 1,HI.o.sx HA.o 2,HI.o.sx HA.o 3,HI.o.sx HA.o 4,HI.o.sx HA.o 5,HI.o.sx HA.o 6,HI.o.sx HA.o 7,x8,x9,x10,trivial⟩ rfl),(aj (l:=[.bool (ah y),.slice w9 (aa y) wm]) (i:=0) (by have:=kM.o;omega) su.o),(o0 (by have:=kM.o;omega) K3.o),(bK (l:=[.bool (ah y),.slice w9 (aa y) wm]) (i:=0) K4.o),(s0 RX.o),(s0 RY.o),kM.o⟩
 rintro a' W3 ⟨rV,p8,w9,wm,si,rfl,z0,z1,z2,z3,z4,z5⟩;obtain ⟨cO,K3,K4,RX,RY⟩:=bz z0 z1 z2 z3 z4;have R10xW3:=z5;clear z0 z1 z2 z3 z4 z5;simp only[putL,List.setIfInBounds_toArray,List.set_cons_zero,List.set_cons_succ];obtain ⟨fq,fQ⟩:=aC K3.o rfl rfl;obtain ⟨dh,dn⟩:=aC K4.o rfl rfl;go_wp2_with fail
 with_reducible refine(C7.o _ _ _ _ _ RX.o RY.o).mono ?_
 rintro e W4 ⟨rfl,hb⟩;clear fq fQ dh dn;have bg:=hbt cO hb;clear hb;go_wp2;exact bodyPost_ret (v:=.int .i64 k) (by simp[results,Tryz.results27,go_sem]) rfl ⟨rfl,bg.o⟩
