/- texts -/
import Derived.Test.YtlgkolkcokaefaaGreatDoorMz28q
set_option maxRecDepth 100000
set_option maxHeartbeats 20000000
open Go.Lib (hid)
namespace Go.Proofs.YtlgkolkcokaefaaGreatDoor
open Go.RowKit Go.Gb
theorem z3p (n1 n2 ua ub:Int)(en1 en2:Nat)(hab:ua<ub)(p1:Option Addr)(c1:Nat)(s1:Option Addr)(d1:Nat)(p2:Option Addr)(c2:Nat)(s2:Option Addr)(d2:Nat)(w:World)(h1:∀ p1 c1 s1 d1 W,RN W (.slice p1 (aa n1) c1) n1.natAbs→RN W (.slice s1 (ag en1) d1) en1→CR 117 #[.agg #[.bool (ai n1),.slice p1 (aa n1) c1,.slice s1 (ag en1) d1]] W (.int .i64 ua))(h2:∀ p1 c1 s1 d1 W,RN W (.slice p1 (aa n2) c1) n2.natAbs→RN W (.slice s1 (ag en2) d1) en2→CR 117 #[.agg #[.bool (ai n2),.slice p1 (aa n2) c1,.slice s1 (ag en2) d1]] W (.int .i64 ub))(r1:RN w (.slice p1 (aa n1) c1) n1.natAbs)(t1:RN w (.slice s1 (ag en1) d1) en1)(r2:RN w (.slice p2 (aa n2) c2) n2.natAbs)(t2:RN w (.slice s2 (ag en2) d2) en2) :
 CR 96 #[.agg #[.bool (ai n1),.slice p1 (aa n1) c1,.slice s1 (ag en1) d1],.agg #[.bool (ai n2),.slice p2 (aa n2) c2,.slice s2 (ag en2) d2]] w (.int .i64 (-1)):=by
 obtain ⟨C1,C2,R1,T1,R2,T2⟩:=bL h1 h2 r1 t1 r2 t2;have k0:(ua==ub)=false:=by rw[beq_eq_false_iff_ne];omega
 have k1:¬ ua=ub:=by omega
 have k2:decide (ua<ub)=true:=decide_eq_true hab;clear h1 h2 r1 t1 r2 t2;go_enter Tryz.func96,Tryz.ntmps96
 go_upto_region 1 with fail
 refine au w [(#[.bool (ai n1),.slice p1 (aa n1) c1,.slice s1 (ag en1) d1],53),(#[.bool (ai n2),.slice p2 (aa n2) c2,.slice s2 (ag en2) d2],53)] rfl ?_;rintro W0 ⟨k1,k2,hb⟩;have HB0:=hid (show Below w.heap.size w W0 from hb);obtain ⟨R1,T1,R2,T2,K1,K2⟩:=bL (R1.out.below HB0.out) (T1.out.below HB0.out) (R2.out.below HB0.out) (T2.out.below HB0.out) k1 k2;clear k1 k2 hb;go_wp2_with fail
 refine aC (fun a0 a' V=>a'=⟨putL [(9,.agg #[.bool (ai n1),.slice p1 (aa n1) c1,.slice s1 (ag en1) d1]),(10,.int .i64 ua),(11,.agg #[.bool (ai n2),.slice p2 (aa n2) c2,.slice s2 (ag en2) d2]),(12,.int .i64 ub),(5,.int .i64 ua),(6,.int .i64 ub)] a0.tmps,a0.defers⟩∧Below w.heap.size w V) ?_ ?_
 · refine ay (by kernel_rfl) 6 0 (fun i=>[9,10,11,12,5,6].getD i 0) (RelR [Rel.val (.agg #[.bool (ai n1),.slice p1 (aa n1) c1,.slice s1 (ag en1) d1]),Rel.val (.int .i64 ua),Rel.val (.agg #[.bool (ai n2),.slice p2 (aa n2) c2,.slice s2 (ag en2) d2]),Rel.val (.int .i64 ub),Rel.val (.int .i64 ua),Rel.val (.int .i64 ub)]) (fun W=>Below W0.heap.size W0 W) (fun _ _=>True) (by kernel_rfl) (by kernel_rfl) (by kernel_rfl) trivial (Below.refl _ _).drew ?_ ?_
   · intro ab a W i hI hD hrd him
     obtain ⟨HI,HD,Hr⟩:=ah hI hD hrd;clear hI hrd hD;have y2:a.tmps[2]? = some (.pointer (some ⟨w.heap.size,0,none⟩)):=HI.out.rest 2 (by decide);have y3:a.tmps[3]? = some (.pointer (some ⟨w.heap.size+1,0,none⟩)):=HI.out.rest 3 (by decide);obtain ⟨dK10,dK11,dK12⟩:=ax (K1.out.below HI.out.world) rfl rfl rfl;obtain ⟨dK20,dK21,dK22⟩:=ax (K2.out.below HI.out.world) rfl rfl rfl;have X0:RV _ ab a 0 9 (.agg #[.bool (ai n1),.slice p1 (aa n1) c1,.slice s1 (ag en1) d1]):=HI.out.rh;have X2:RV _ ab a 2 11 (.agg #[.bool (ai n2),.slice p2 (aa n2) c2,.slice s2 (ag en2) d2]):=HI.out.rh;have X1:RV _ ab a 1 10 (.int .i64 ua):=HI.out.rh;have X3:RV _ ab a 3 12 (.int .i64 ub):=HI.out.rh
     match i,him,Hr with
     | 0,_,Hi =>
       refine ak rfl fun K' hK=>?_;go_simp;exact hK.out _ _ ⟨HI.out.pv Hi.out rfl,trivial⟩
     | 1,_,Hi =>
       have x0:=X0.g Hi.out (by kernel_rfl);refine ak rfl fun K' hK=>?_;go_simp;with_reducible refine(C1.out _ _ _ _ _ (R1.out.below HI.out.world) (T1.out.below HI.out.world)).mono ?_
       rintro e W' ⟨rfl,hb⟩;exact hK.out _ _ ⟨HI.out.pc Hi.out hb rfl,trivial⟩
     | 2,_,Hi =>
       refine ak rfl fun K' hK=>?_;go_simp;exact hK.out _ _ ⟨HI.out.pv Hi.out rfl,trivial⟩
     | 3,_,Hi =>
       have x2:=X2.g Hi.out (by kernel_rfl);refine ak rfl fun K' hK=>?_;go_simp;with_reducible refine(C2.out _ _ _ _ _ (R2.out.below HI.out.world) (T2.out.below HI.out.world)).mono ?_
       rintro e W' ⟨rfl,hb⟩;exact hK.out _ _ ⟨HI.out.pc Hi.out hb rfl,trivial⟩
     | 4,_,Hi =>
       have x1:=X1.g Hi.out (by kernel_rfl);refine ak rfl fun K' hK=>?_;go_simp;exact hK.out _ _ ⟨HI.out.pv Hi.out rfl,trivial⟩
     | 5,_,Hi =>
       have x3:=X3.g Hi.out (by kernel_rfl);refine ak rfl fun K' hK=>?_;go_simp;exact hK.out _ _ ⟨HI.out.pv Hi.out rfl,trivial⟩
     | n+6,h,_=>exact absurd h (by omega)
   · intro ab a W hI hD hall
     obtain ⟨HBW,HI,HA⟩:=ah hI.world hI hall;clear hI hall;have HBX:=hid (HB0.out.trans (HBW.out.mono HB0.out.size));refine aY ?_;exact⟨rfl,(HI.out.finx ⟨HI.out.sx HA.out 0,HI.out.sx HA.out 1,HI.out.sx HA.out 2,HI.out.sx HA.out 3,HI.out.sx HA.out 4,HI.out.sx HA.out 5,trivial⟩ rfl),HBX.out⟩
 rintro a' W1 ⟨rfl,z0⟩;have HB1:=hid z0;clear z0;simp only[putL,List.setIfInBounds_toArray,List.set_cons_zero,List.set_cons_succ];go_wp2;exact bodyPost_ret (v:=.int .i64 (-1)) (by simp[results,Tryz.results96,go_sem]) rfl ⟨rfl,HB1.out⟩
theorem z3q (n1 n2 ua ub:Int)(en1 en2:Nat)(hab:ub<ua)(p1:Option Addr)(c1:Nat)(s1:Option Addr)(d1:Nat)(p2:Option Addr)(c2:Nat)(s2:Option Addr)(d2:Nat)(w:World)(h1:∀ p1 c1 s1 d1 W,RN W (.slice p1 (aa n1) c1) n1.natAbs→RN W (.slice s1 (ag en1) d1) en1→CR 117 #[.agg #[.bool (ai n1),.slice p1 (aa n1) c1,.slice s1 (ag en1) d1]] W (.int .i64 ua))(h2:∀ p1 c1 s1 d1 W,RN W (.slice p1 (aa n2) c1) n2.natAbs→RN W (.slice s1 (ag en2) d1) en2→CR 117 #[.agg #[.bool (ai n2),.slice p1 (aa n2) c1,.slice s1 (ag en2) d1]] W (.int .i64 ub))(r1:RN w (.slice p1 (aa n1) c1) n1.natAbs)(t1:RN w (.slice s1 (ag en1) d1) en1)(r2:RN w (.slice p2 (aa n2) c2) n2.natAbs)(t2:RN w (.slice s2 (ag en2) d2) en2) :
 CR 96 #[.agg #[.bool (ai n1),.slice p1 (aa n1) c1,.slice s1 (ag en1) d1],.agg #[.bool (ai n2),.slice p2 (aa n2) c2,.slice s2 (ag en2) d2]] w (.int .i64 (1)):=by
 obtain ⟨C1,C2,R1,T1,R2,T2⟩:=bL h1 h2 r1 t1 r2 t2;have k0:(ua==ub)=false:=by rw[beq_eq_false_iff_ne];omega
 have k1:¬ ua=ub:=by omega
 have k2:decide (ua<ub)=false:=decide_eq_false (by omega);have k3:ub≤ua:=by omega
 clear h1 h2 r1 t1 r2 t2;go_enter Tryz.func96,Tryz.ntmps96
 go_upto_region 1 with fail
 refine au w [(#[.bool (ai n1),.slice p1 (aa n1) c1,.slice s1 (ag en1) d1],53),(#[.bool (ai n2),.slice p2 (aa n2) c2,.slice s2 (ag en2) d2],53)] rfl ?_;rintro W0 ⟨k1,k2,hb⟩;have HB0:=hid (show Below w.heap.size w W0 from hb);obtain ⟨R1,T1,R2,T2,K1,K2⟩:=bL (R1.out.below HB0.out) (T1.out.below HB0.out) (R2.out.below HB0.out) (T2.out.below HB0.out) k1 k2;clear k1 k2 hb;go_wp2_with fail
 refine aC (fun a0 a' V=>a'=⟨putL [(9,.agg #[.bool (ai n1),.slice p1 (aa n1) c1,.slice s1 (ag en1) d1]),(10,.int .i64 ua),(11,.agg #[.bool (ai n2),.slice p2 (aa n2) c2,.slice s2 (ag en2) d2]),(12,.int .i64 ub),(5,.int .i64 ua),(6,.int .i64 ub)] a0.tmps,a0.defers⟩∧Below w.heap.size w V) ?_ ?_
 · refine ay (by kernel_rfl) 6 0 (fun i=>[9,10,11,12,5,6].getD i 0) (RelR [Rel.val (.agg #[.bool (ai n1),.slice p1 (aa n1) c1,.slice s1 (ag en1) d1]),Rel.val (.int .i64 ua),Rel.val (.agg #[.bool (ai n2),.slice p2 (aa n2) c2,.slice s2 (ag en2) d2]),Rel.val (.int .i64 ub),Rel.val (.int .i64 ua),Rel.val (.int .i64 ub)]) (fun W=>Below W0.heap.size W0 W) (fun _ _=>True) (by kernel_rfl) (by kernel_rfl) (by kernel_rfl) trivial (Below.refl _ _).drew ?_ ?_
   · intro ab a W i hI hD hrd him
     obtain ⟨HI,HD,Hr⟩:=ah hI hD hrd;clear hI hrd hD;have y2:a.tmps[2]? = some (.pointer (some ⟨w.heap.size,0,none⟩)):=HI.out.rest 2 (by decide);have y3:a.tmps[3]? = some (.pointer (some ⟨w.heap.size+1,0,none⟩)):=HI.out.rest 3 (by decide);obtain ⟨dK10,dK11,dK12⟩:=ax (K1.out.below HI.out.world) rfl rfl rfl;obtain ⟨dK20,dK21,dK22⟩:=ax (K2.out.below HI.out.world) rfl rfl rfl;have X0:RV _ ab a 0 9 (.agg #[.bool (ai n1),.slice p1 (aa n1) c1,.slice s1 (ag en1) d1]):=HI.out.rh;have X2:RV _ ab a 2 11 (.agg #[.bool (ai n2),.slice p2 (aa n2) c2,.slice s2 (ag en2) d2]):=HI.out.rh;have X1:RV _ ab a 1 10 (.int .i64 ua):=HI.out.rh;have X3:RV _ ab a 3 12 (.int .i64 ub):=HI.out.rh
     match i,him,Hr with
     | 0,_,Hi =>
       refine ak rfl fun K' hK=>?_;go_simp;exact hK.out _ _ ⟨HI.out.pv Hi.out rfl,trivial⟩
     | 1,_,Hi =>
       have x0:=X0.g Hi.out (by kernel_rfl);refine ak rfl fun K' hK=>?_;go_simp;with_reducible refine(C1.out _ _ _ _ _ (R1.out.below HI.out.world) (T1.out.below HI.out.world)).mono ?_
       rintro e W' ⟨rfl,hb⟩;exact hK.out _ _ ⟨HI.out.pc Hi.out hb rfl,trivial⟩
     | 2,_,Hi =>
       refine ak rfl fun K' hK=>?_;go_simp;exact hK.out _ _ ⟨HI.out.pv Hi.out rfl,trivial⟩
     | 3,_,Hi =>
       have x2:=X2.g Hi.out (by kernel_rfl);refine ak rfl fun K' hK=>?_;go_simp;with_reducible refine(C2.out _ _ _ _ _ (R2.out.below HI.out.world) (T2.out.below HI.out.world)).mono ?_
       rintro e W' ⟨rfl,hb⟩;exact hK.out _ _ ⟨HI.out.pc Hi.out hb rfl,trivial⟩
     | 4,_,Hi =>
       have x1:=X1.g Hi.out (by kernel_rfl);refine ak rfl fun K' hK=>?_;go_simp;exact hK.out _ _ ⟨HI.out.pv Hi.out rfl,trivial⟩
     | 5,_,Hi =>
       have x3:=X3.g Hi.out (by kernel_rfl);refine ak rfl fun K' hK=>?_;go_simp;exact hK.out _ _ ⟨HI.out.pv Hi.out rfl,trivial⟩
     | n+6,h,_=>exact absurd h (by omega)
   · intro ab a W hI hD hall
     obtain ⟨HBW,HI,HA⟩:=ah hI.world hI hall;clear hI hall;have HBX:=hid (HB0.out.trans (HBW.out.mono HB0.out.size));refine aY ?_;exact⟨rfl,(HI.out.finx ⟨HI.out.sx HA.out 0,HI.out.sx HA.out 1,HI.out.sx HA.out 2,HI.out.sx HA.out 3,HI.out.sx HA.out 4,HI.out.sx HA.out 5,trivial⟩ rfl),HBX.out⟩
 rintro a' W1 ⟨rfl,z0⟩;have HB1:=hid z0;clear z0;simp only[putL,List.setIfInBounds_toArray,List.set_cons_zero,List.set_cons_succ];go_wp2;exact bodyPost_ret (v:=.int .i64 1) (by simp[results,Tryz.results96,go_sem]) rfl ⟨rfl,HB1.out⟩
theorem zC (n1 n2 ua x y k:Int)(en1 en2 u v:Nat)(p1:Option Addr)(c1:Nat)(s1:Option Addr)(d1:Nat)(p2:Option Addr)(c2:Nat)(s2:Option Addr)(d2:Nat)(w:World)(h1:∀ p1 c1 s1 d1 W,RN W (.slice p1 (aa n1) c1) n1.natAbs→RN W (.slice s1 (ag en1) d1) en1→CR 117 #[.agg #[.bool (ai n1),.slice p1 (aa n1) c1,.slice s1 (ag en1) d1]] W (.int .i64 ua))(h2:∀ p1 c1 s1 d1 W,RN W (.slice p1 (aa n2) c1) n2.natAbs→RN W (.slice s1 (ag en2) d1) en2→CR 117 #[.agg #[.bool (ai n2),.slice p1 (aa n2) c1,.slice s1 (ag en2) d1]] W (.int .i64 ua))(h3:∀ p1 c1 s2 d2 W,RN W (.slice p1 (aa n1) c1) n1.natAbs→RN W (.slice s2 (ag en2) d2) en2→CN 83 #[.slice p1 (aa n1) c1,.slice s2 (ag en2) d2] W u)(h4:∀ s2 d2 W,RN W (.slice s2 (ag u) d2) u→CZ 87 #[.bool (ai n1),.slice s2 (ag u) d2] W x)(h5:∀ p1 c1 s2 d2 W,RN W (.slice p1 (aa n2) c1) n2.natAbs→RN W (.slice s2 (ag en1) d2) en1→CN 83 #[.slice p1 (aa n2) c1,.slice s2 (ag en1) d2] W v)(h6:∀ s2 d2 W,RN W (.slice s2 (ag v) d2) v→CZ 87 #[.bool (ai n2),.slice s2 (ag v) d2] W y)(h7:∀ p1 c1 p2 c2 W,RN W (.slice p1 (aa x) c1) x.natAbs→RN W (.slice p2 (aa y) c2) y.natAbs→CR 118 #[.agg #[.bool (ai x),.slice p1 (aa x) c1],.agg #[.bool (ai y),.slice p2 (aa y) c2]] W (.int .i64 k))(r1:RN w (.slice p1 (aa n1) c1) n1.natAbs)(t1:RN w (.slice s1 (ag en1) d1) en1)(r2:RN w (.slice p2 (aa n2) c2) n2.natAbs)(t2:RN w (.slice s2 (ag en2) d2) en2) :
 CR 96 #[.agg #[.bool (ai n1),.slice p1 (aa n1) c1,.slice s1 (ag en1) d1],.agg #[.bool (ai n2),.slice p2 (aa n2) c2,.slice s2 (ag en2) d2]] w (.int .i64 k):=by
 obtain ⟨C1,C2,C3,C4,C5,C6,C7,R1,T1,R2,T2⟩:=gH h1 h2 h3 h4 h5 h6 h7 r1 t1 r2 t2;clear h1 h2 h3 h4 h5 h6 h7 r1 t1 r2 t2;go_enter Tryz.func96,Tryz.ntmps96
 go_upto_region 1 with fail
 refine au w [(#[.bool (ai n1),.slice p1 (aa n1) c1,.slice s1 (ag en1) d1],53),(#[.bool (ai n2),.slice p2 (aa n2) c2,.slice s2 (ag en2) d2],53)] rfl ?_;rintro W0 ⟨k1,k2,hb⟩;have HB0:=hid (show Below w.heap.size w W0 from hb);obtain ⟨R1,T1,R2,T2,K1,K2⟩:=bL (R1.out.below HB0.out) (T1.out.below HB0.out) (R2.out.below HB0.out) (T2.out.below HB0.out) k1 k2;clear k1 k2 hb;go_wp2_with fail
 refine aC (fun a0 a' V=>a'=⟨putL [(9,.agg #[.bool (ai n1),.slice p1 (aa n1) c1,.slice s1 (ag en1) d1]),(10,.int .i64 ua),(11,.agg #[.bool (ai n2),.slice p2 (aa n2) c2,.slice s2 (ag en2) d2]),(12,.int .i64 ua),(5,.int .i64 ua),(6,.int .i64 ua)] a0.tmps,a0.defers⟩∧Below w.heap.size w V∧SBk V (w.heap.size) #[.bool (ai n1),.slice p1 (aa n1) c1,.slice s1 (ag en1) d1] 53∧SBk V (w.heap.size+1) #[.bool (ai n2),.slice p2 (aa n2) c2,.slice s2 (ag en2) d2] 53∧RN V (.slice p1 (aa n1) c1) n1.natAbs∧RN V (.slice s1 (ag en1) d1) en1∧RN V (.slice p2 (aa n2) c2) n2.natAbs∧RN V (.slice s2 (ag en2) d2) en2) ?_ ?_
 · refine ay (by kernel_rfl) 6 0 (fun i=>[9,10,11,12,5,6].getD i 0) (RelR [Rel.val (.agg #[.bool (ai n1),.slice p1 (aa n1) c1,.slice s1 (ag en1) d1]),Rel.val (.int .i64 ua),Rel.val (.agg #[.bool (ai n2),.slice p2 (aa n2) c2,.slice s2 (ag en2) d2]),Rel.val (.int .i64 ua),Rel.val (.int .i64 ua),Rel.val (.int .i64 ua)]) (fun W=>Below W0.heap.size W0 W) (fun _ _=>True) (by kernel_rfl) (by kernel_rfl) (by kernel_rfl) trivial (Below.refl _ _).drew ?_ ?_
   · intro ab a W i hI hD hrd him
     obtain ⟨HI,HD,Hr⟩:=ah hI hD hrd;clear hI hrd hD;have y2:a.tmps[2]? = some (.pointer (some ⟨w.heap.size,0,none⟩)):=HI.out.rest 2 (by decide);have y3:a.tmps[3]? = some (.pointer (some ⟨w.heap.size+1,0,none⟩)):=HI.out.rest 3 (by decide);obtain ⟨dK10,dK11,dK12⟩:=ax (K1.out.below HI.out.world) rfl rfl rfl;obtain ⟨dK20,dK21,dK22⟩:=ax (K2.out.below HI.out.world) rfl rfl rfl;have X0:RV _ ab a 0 9 (.agg #[.bool (ai n1),.slice p1 (aa n1) c1,.slice s1 (ag en1) d1]):=HI.out.rh;have X2:RV _ ab a 2 11 (.agg #[.bool (ai n2),.slice p2 (aa n2) c2,.slice s2 (ag en2) d2]):=HI.out.rh;have X1:RV _ ab a 1 10 (.int .i64 ua):=HI.out.rh;have X3:RV _ ab a 3 12 (.int .i64 ua):=HI.out.rh
     match i,him,Hr with
     | 0,_,Hi =>
       refine ak rfl fun K' hK=>?_;go_simp;exact hK.out _ _ ⟨HI.out.pv Hi.out rfl,trivial⟩
     | 1,_,Hi =>
       have x0:=X0.g Hi.out (by kernel_rfl);refine ak rfl fun K' hK=>?_;go_simp;with_reducible refine(C1.out _ _ _ _ _ (R1.out.below HI.out.world) (T1.out.below HI.out.world)).mono ?_
       rintro e W' ⟨rfl,hb⟩;exact hK.out _ _ ⟨HI.out.pc Hi.out hb rfl,trivial⟩
     | 2,_,Hi =>
       refine ak rfl fun K' hK=>?_;go_simp;exact hK.out _ _ ⟨HI.out.pv Hi.out rfl,trivial⟩
     | 3,_,Hi =>
       have x2:=X2.g Hi.out (by kernel_rfl);refine ak rfl fun K' hK=>?_;go_simp;with_reducible refine(C2.out _ _ _ _ _ (R2.out.below HI.out.world) (T2.out.below HI.out.world)).mono ?_
       rintro e W' ⟨rfl,hb⟩;exact hK.out _ _ ⟨HI.out.pc Hi.out hb rfl,trivial⟩
     | 4,_,Hi =>
       have x1:=X1.g Hi.out (by kernel_rfl);refine ak rfl fun K' hK=>?_;go_simp;exact hK.out _ _ ⟨HI.out.pv Hi.out rfl,trivial⟩
     | 5,_,Hi =>
       have x3:=X3.g Hi.out (by kernel_rfl);refine ak rfl fun K' hK=>?_;go_simp;exact hK.out _ _ ⟨HI.out.pv Hi.out rfl,trivial⟩
     | n+6,h,_=>exact absurd h (by omega)
   · intro ab a W hI hD hall
     obtain ⟨HBW,HI,HA⟩:=ah hI.world hI hall;clear hI hall;obtain ⟨K1,K2,R1,T1,R2,T2,HBX⟩:=bK (K1.out.below HBW.out) (K2.out.below HBW.out) (R1.out.below HBW.out) (T1.out.below HBW.out) (R2.out.below HBW.out) (T2.out.below HBW.out) (HB0.out.trans (HBW.out.mono HB0.out.size));refine aY ?_;exact⟨rfl,(HI.out.finx ⟨HI.out.sx HA.out 0,HI.out.sx HA.out 1,HI.out.sx HA.out 2,HI.out.sx HA.out 3,HI.out.sx HA.out 4,HI.out.sx HA.out 5,trivial⟩ rfl),HBX.out,K1.out,K2.out,R1.out,T1.out,R2.out,T2.out⟩
 rintro a' W1 ⟨rfl,z0,z1,z2,z3,z4,z5,z6⟩;obtain ⟨HB1,K1,K2,R1,T1,R2,T2⟩:=bK z0 z1 z2 z3 z4 z5 z6;clear z0 z1 z2 z3 z4 z5 z6;simp only[putL,List.setIfInBounds_toArray,List.set_cons_zero,List.set_cons_succ];go_wp2_with fail
 have L1:=K1.out.lt;have L2:=K2.out.lt;have L3:=HB1.out.size;refine aC (fun a0 a' V=>∃ u06 u07 u00 u01 u04,a'=⟨putL [(19,.pointer (some ⟨w.heap.size,0,none⟩)),(20,.pointer (some ⟨w.heap.size,0,none⟩)),(21,.bool (ai n1)),(22,.pointer (some ⟨w.heap.size,0,none⟩)),(23,.pointer (some ⟨w.heap.size,1,none⟩)),(24,.slice p1 (aa n1) c1),(25,.pointer (some ⟨w.heap.size+1,2,none⟩)),(26,.slice s2 (ag en2) d2),(27,.slice u06 (ag u) u07),(28,.agg #[.bool (ai x),.slice u00 (aa x) u01]),(7,.pointer (some ⟨u04,0,none⟩))] a0.tmps,a0.defers⟩∧Below w.heap.size w V∧SBk V (w.heap.size) #[.bool (ai n1),.slice p1 (aa n1) c1,.slice s1 (ag en1) d1] 53∧SBk V (w.heap.size+1) #[.bool (ai n2),.slice p2 (aa n2) c2,.slice s2 (ag en2) d2] 53∧SBk V (u04) #[.bool (ai x),.slice u00 (aa x) u01] 51∧RN V (.slice s1 (ag en1) d1) en1∧RN V (.slice p2 (aa n2) c2) n2.natAbs∧RN V (.slice u00 (aa x) u01) x.natAbs∧W1.heap.size≤u04) ?_ ?_
 · refine ay (by kernel_rfl) 11 1 (fun i=>[19,20,21,22,23,24,25,26,27,28,7].getD i 0) (RelR [Rel.val (.pointer (some ⟨w.heap.size,0,none⟩)),Rel.val (.pointer (some ⟨w.heap.size,0,none⟩)),Rel.val (.bool (ai n1)),Rel.val (.pointer (some ⟨w.heap.size,0,none⟩)),Rel.val (.pointer (some ⟨w.heap.size,1,none⟩)),Rel.val (.slice p1 (aa n1) c1),Rel.val (.pointer (some ⟨w.heap.size+1,2,none⟩)),Rel.val (.slice s2 (ag en2) d2),Rel.nat u,Rel.int x,Rel.ptr W1.heap.size (.cells #[.bool false,.slice none 0 0] 51)]) (fun W=>Below W1.heap.size W1 W) (fun _ _=>True) (by kernel_rfl) (by kernel_rfl) (by kernel_rfl) trivial (Below.refl _ _).drew ?_ ?_
   · intro ab a W i hI hD hrd him
     obtain ⟨HI,HD,Hr⟩:=ah hI hD hrd;clear hI hrd hD;have y2:a.tmps[2]? = some (.pointer (some ⟨w.heap.size,0,none⟩)):=HI.out.rest 2 (by decide);have y3:a.tmps[3]? = some (.pointer (some ⟨w.heap.size+1,0,none⟩)):=HI.out.rest 3 (by decide);obtain ⟨dK10,dK11⟩:=aI (K1.out.below HI.out.world) rfl rfl;have dK22:=(K2.out.below HI.out.world).cell (i:=2) rfl;have X0:RV _ ab a 0 19 (.pointer (some ⟨w.heap.size,0,none⟩)):=HI.out.rh;have X1:RV _ ab a 1 20 (.pointer (some ⟨w.heap.size,0,none⟩)):=HI.out.rh;have X3:RV _ ab a 3 22 (.pointer (some ⟨w.heap.size,0,none⟩)):=HI.out.rh;have X4:RV _ ab a 4 23 (.pointer (some ⟨w.heap.size,1,none⟩)):=HI.out.rh;have X6:RV _ ab a 6 25 (.pointer (some ⟨w.heap.size+1,2,none⟩)):=HI.out.rh;have X5:RV _ ab a 5 24 (.slice p1 (aa n1) c1):=HI.out.rh;have X7:RV _ ab a 7 26 (.slice s2 (ag en2) d2):=HI.out.rh;have X2:RV _ ab a 2 21 (.bool (ai n1)):=HI.out.rh
     match i,him,Hr with
     | 0,_,Hi =>
       refine ak rfl fun K' hK=>?_;go_simp;exact hK.out _ _ ⟨HI.out.pv Hi.out rfl,trivial⟩
     | 1,_,Hi =>
       have x0:=X0.g Hi.out (by kernel_rfl);refine ak rfl fun K' hK=>?_;go_simp;exact hK.out _ _ ⟨HI.out.pv Hi.out rfl,trivial⟩
     | 2,_,Hi =>
       have x1:=X1.g Hi.out (by kernel_rfl);refine ak rfl fun K' hK=>?_;go_simp;exact hK.out _ _ ⟨HI.out.pv Hi.out rfl,trivial⟩
     | 3,_,Hi =>
       refine ak rfl fun K' hK=>?_;go_simp;exact hK.out _ _ ⟨HI.out.pv Hi.out rfl,trivial⟩
     | 4,_,Hi =>
       have x3:=X3.g Hi.out (by kernel_rfl);refine ak rfl fun K' hK=>?_;go_simp;exact hK.out _ _ ⟨HI.out.pv Hi.out rfl,trivial⟩
     | 5,_,Hi =>
       have x4:=X4.g Hi.out (by kernel_rfl);refine ak rfl fun K' hK=>?_;go_simp;exact hK.out _ _ ⟨HI.out.pv Hi.out rfl,trivial⟩
     | 6,_,Hi =>
       refine ak rfl fun K' hK=>?_;go_simp;exact hK.out _ _ ⟨HI.out.pv Hi.out rfl,trivial⟩
     | 7,_,Hi =>
       have x6:=X6.g Hi.out (by kernel_rfl);refine ak rfl fun K' hK=>?_;go_simp;exact hK.out _ _ ⟨HI.out.pv Hi.out rfl,trivial⟩
     | 8,_,Hi =>
       have x5:=X5.g Hi.out (by kernel_rfl);have x7:=X7.g Hi.out (by kernel_rfl);refine ak rfl fun K' hK=>?_;go_simp;with_reducible refine(C3.out _ _ _ _ _ (R1.out.below HI.out.world) (T2.out.below HI.out.world)).mono ?_
       rintro e W' ⟨u06,u07,rfl,u0a,hb⟩;exact hK.out _ _ ⟨HI.out.pc Hi.out hb ⟨u06,u07,rfl,u0a⟩,trivial⟩
     | 9,_,Hi =>
       have x2:=X2.g Hi.out (by kernel_rfl);obtain⟨v',x8,u06,u07,e,u0a⟩:=HI.out.at (i:=8) Hi.out (by kernel_rfl) (by decide);obtain rfl:=e;have x8:a.tmps[27]? = some (.slice u06 (ag u) u07):=x8;have u0f:=hid u0a;clear u0a;refine ak rfl fun K' hK=>?_;go_simp;with_reducible refine(C4.out _ _ _ u0f.out).mono ?_
       rintro e W' ⟨u00,u01,rfl,u0c,hb⟩;exact hK.out _ _ ⟨HI.out.pc Hi.out hb ⟨u00,u01,rfl,u0c⟩,trivial⟩
     | 10,_,Hi =>
       refine ak rfl fun K' hK=>?_;go_simp;exact hK.out _ _ ⟨HI.out.pc Hi.out ((Below.refl W.heap.size W).alloc (Nat.le_refl _) (.cells #[.bool false,.slice none 0 0] 51)) ⟨W.heap.size,rfl,HI.out.world.size,SBk.new _ _ _⟩,trivial⟩
     | n+11,h,_=>exact absurd h (by omega)
   · intro ab a W hI hD hall
     obtain⟨v',x8,u06,u07,e,u0a⟩:=hI.slots 8 (by decide) (hall 8 (by decide));obtain rfl:=e;have u0f:=hid u0a;clear u0a;obtain⟨v',x9,u00,u01,e,u0c⟩:=hI.slots 9 (by decide) (hall 9 (by decide));obtain rfl:=e;have u0m:=hid u0c;clear u0c;have x9:a.tmps[28]? = some (.agg #[.bool (ai x),.slice u00 (aa x) u01]):=x9;obtain⟨v',x10,u04,e,u0i,u0j⟩:=hI.slots 10 (by decide) (hall 10 (by decide));obtain rfl:=e;have u0d:=hid u0i;clear u0i;have u0n:=hid u0j;clear u0j;have x10:a.tmps[7]? = some (.pointer (some ⟨u04,0,none⟩)):=x10;obtain ⟨HBW,HI,HA⟩:=ah hI.world hI hall;clear hI hall;obtain ⟨K1,K2,T1,R2,HBX⟩:=aO (K1.out.below HBW.out) (K2.out.below HBW.out) (T1.out.below HBW.out) (R2.out.below HBW.out) (HB1.out.trans (HBW.out.mono HB1.out.size));have RU:=u0f;have RX:=u0m;have K3:Hid (SBk W u04 #[.bool false,.slice none 0 0] 51):=u0n;obtain ⟨dK30,dK31⟩:=aI K3.out rfl rfl;obtain ⟨fK30,fK31⟩:=dU K3.out;refine aS (t:=0) ?_;refine ak rfl fun K' hK=>?_;go_simp;refine hK.out _ _ ?_;clear hK;refine aY ?_;have s0:∀ {v':Value} {n':Nat},RN W v' n'→RN (storeAll W (u04) 0 [.bool (ai x),.slice u00 (aa x) u01]) v' n':=fun h'=>aZ _ h' K3.out (by simp[bS]) (by simp[bA]);have o0:∀ {g':Nat} {cs':Array Value} {T':TypeId},g'≠u04→SBk W g' cs' T'→SBk (storeAll W (u04) 0 [.bool (ai x),.slice u00 (aa x) u01]) g' cs' T':=fun hg' h'=>bB hg' _ 0 h';exact⟨rfl,u06,u07,u00,u01,u04,(HI.out.finx ⟨HI.out.sx HA.out 0,HI.out.sx HA.out 1,HI.out.sx HA.out 2,HI.out.sx HA.out 3,HI.out.sx HA.out 4,HI.out.sx HA.out 5,HI.out.sx HA.out 6,HI.out.sx HA.out 7,x8,x9,x10,trivial⟩ rfl),(av (l:=[.bool (ai x),.slice u00 (aa x) u01]) (i:=0) (by have:=u0d.out;omega) HBX.out),(o0 (by have:=u0d.out;omega) K1.out),(o0 (by have:=u0d.out;omega) K2.out),(bz (l:=[.bool (ai x),.slice u00 (aa x) u01]) (i:=0) K3.out),(s0 T1.out),(s0 R2.out),(s0 RX.out),u0d.out⟩
 rintro a' W2 ⟨u06,u07,u00,u01,u04,rfl,z0,z1,z2,z3,z4,z5,z6,z7⟩;obtain ⟨HB2,K1,K2,K3,T1,R2,RX⟩:=bK z0 z1 z2 z3 z4 z5 z6;have R10xW2:=z7;clear z0 z1 z2 z3 z4 z5 z6 z7;simp only[putL,List.setIfInBounds_toArray,List.set_cons_zero,List.set_cons_succ];go_wp2_with fail
 have L5:=K1.out.lt;have L6:=K2.out.lt;have L7:=K3.out.lt;have L8:=HB2.out.size;refine aC (fun a0 a' V=>∃ u08 u09 u02 u03 u05,a'=⟨putL [(29,.pointer (some ⟨w.heap.size+1,0,none⟩)),(30,.pointer (some ⟨w.heap.size+1,0,none⟩)),(31,.bool (ai n2)),(32,.pointer (some ⟨w.heap.size+1,0,none⟩)),(33,.pointer (some ⟨w.heap.size+1,1,none⟩)),(34,.slice p2 (aa n2) c2),(35,.pointer (some ⟨w.heap.size,2,none⟩)),(36,.slice s1 (ag en1) d1),(37,.slice u08 (ag v) u09),(38,.agg #[.bool (ai y),.slice u02 (aa y) u03]),(8,.pointer (some ⟨u05,0,none⟩))] a0.tmps,a0.defers⟩∧Below w.heap.size w V∧SBk V (u04) #[.bool (ai x),.slice u00 (aa x) u01] 51∧SBk V (u05) #[.bool (ai y),.slice u02 (aa y) u03] 51∧RN V (.slice u00 (aa x) u01) x.natAbs∧RN V (.slice u02 (aa y) u03) y.natAbs∧W2.heap.size≤u05) ?_ ?_
 · refine ay (by kernel_rfl) 11 1 (fun i=>[29,30,31,32,33,34,35,36,37,38,8].getD i 0) (RelR [Rel.val (.pointer (some ⟨w.heap.size+1,0,none⟩)),Rel.val (.pointer (some ⟨w.heap.size+1,0,none⟩)),Rel.val (.bool (ai n2)),Rel.val (.pointer (some ⟨w.heap.size+1,0,none⟩)),Rel.val (.pointer (some ⟨w.heap.size+1,1,none⟩)),Rel.val (.slice p2 (aa n2) c2),Rel.val (.pointer (some ⟨w.heap.size,2,none⟩)),Rel.val (.slice s1 (ag en1) d1),Rel.nat v,Rel.int y,Rel.ptr W2.heap.size (.cells #[.bool false,.slice none 0 0] 51)]) (fun W=>Below W2.heap.size W2 W) (fun _ _=>True) (by kernel_rfl) (by kernel_rfl) (by kernel_rfl) trivial (Below.refl _ _).drew ?_ ?_
   · intro ab a W i hI hD hrd him
     obtain ⟨HI,HD,Hr⟩:=ah hI hD hrd;clear hI hrd hD;have y3:a.tmps[3]? = some (.pointer (some ⟨w.heap.size+1,0,none⟩)):=HI.out.rest 3 (by decide);have y2:a.tmps[2]? = some (.pointer (some ⟨w.heap.size,0,none⟩)):=HI.out.rest 2 (by decide);obtain ⟨dK20,dK21⟩:=aI (K2.out.below HI.out.world) rfl rfl;have dK12:=(K1.out.below HI.out.world).cell (i:=2) rfl;have X0:RV _ ab a 0 29 (.pointer (some ⟨w.heap.size+1,0,none⟩)):=HI.out.rh;have X1:RV _ ab a 1 30 (.pointer (some ⟨w.heap.size+1,0,none⟩)):=HI.out.rh;have X3:RV _ ab a 3 32 (.pointer (some ⟨w.heap.size+1,0,none⟩)):=HI.out.rh;have X4:RV _ ab a 4 33 (.pointer (some ⟨w.heap.size+1,1,none⟩)):=HI.out.rh;have X6:RV _ ab a 6 35 (.pointer (some ⟨w.heap.size,2,none⟩)):=HI.out.rh;have X5:RV _ ab a 5 34 (.slice p2 (aa n2) c2):=HI.out.rh;have X7:RV _ ab a 7 36 (.slice s1 (ag en1) d1):=HI.out.rh;have X2:RV _ ab a 2 31 (.bool (ai n2)):=HI.out.rh
     match i,him,Hr with
     | 0,_,Hi =>
       refine ak rfl fun K' hK=>?_;go_simp;exact hK.out _ _ ⟨HI.out.pv Hi.out rfl,trivial⟩
     | 1,_,Hi =>
       have x0:=X0.g Hi.out (by kernel_rfl);refine ak rfl fun K' hK=>?_;go_simp;exact hK.out _ _ ⟨HI.out.pv Hi.out rfl,trivial⟩
     | 2,_,Hi =>
       have x1:=X1.g Hi.out (by kernel_rfl);refine ak rfl fun K' hK=>?_;go_simp;exact hK.out _ _ ⟨HI.out.pv Hi.out rfl,trivial⟩
     | 3,_,Hi =>
       refine ak rfl fun K' hK=>?_;go_simp;exact hK.out _ _ ⟨HI.out.pv Hi.out rfl,trivial⟩
     | 4,_,Hi =>
       have x3:=X3.g Hi.out (by kernel_rfl);refine ak rfl fun K' hK=>?_;go_simp;exact hK.out _ _ ⟨HI.out.pv Hi.out rfl,trivial⟩
     | 5,_,Hi =>
       have x4:=X4.g Hi.out (by kernel_rfl);refine ak rfl fun K' hK=>?_;go_simp;exact hK.out _ _ ⟨HI.out.pv Hi.out rfl,trivial⟩
     | 6,_,Hi =>
       refine ak rfl fun K' hK=>?_;go_simp;exact hK.out _ _ ⟨HI.out.pv Hi.out rfl,trivial⟩
     | 7,_,Hi =>
       have x6:=X6.g Hi.out (by kernel_rfl);refine ak rfl fun K' hK=>?_;go_simp;exact hK.out _ _ ⟨HI.out.pv Hi.out rfl,trivial⟩
     | 8,_,Hi =>
       have x5:=X5.g Hi.out (by kernel_rfl);have x7:=X7.g Hi.out (by kernel_rfl);refine ak rfl fun K' hK=>?_;go_simp;with_reducible refine(C5.out _ _ _ _ _ (R2.out.below HI.out.world) (T1.out.below HI.out.world)).mono ?_
       rintro e W' ⟨u08,u09,rfl,u0b,hb⟩;exact hK.out _ _ ⟨HI.out.pc Hi.out hb ⟨u08,u09,rfl,u0b⟩,trivial⟩
     | 9,_,Hi =>
       have x2:=X2.g Hi.out (by kernel_rfl);obtain⟨v',x8,u08,u09,e,u0b⟩:=HI.out.at (i:=8) Hi.out (by kernel_rfl) (by decide);obtain rfl:=e;have x8:a.tmps[37]? = some (.slice u08 (ag v) u09):=x8;have u0g:=hid u0b;clear u0b;refine ak rfl fun K' hK=>?_;go_simp;with_reducible refine(C6.out _ _ _ u0g.out).mono ?_
       rintro e W' ⟨u02,u03,rfl,u0e,hb⟩;exact hK.out _ _ ⟨HI.out.pc Hi.out hb ⟨u02,u03,rfl,u0e⟩,trivial⟩
     | 10,_,Hi =>
       refine ak rfl fun K' hK=>?_;go_simp;exact hK.out _ _ ⟨HI.out.pc Hi.out ((Below.refl W.heap.size W).alloc (Nat.le_refl _) (.cells #[.bool false,.slice none 0 0] 51)) ⟨W.heap.size,rfl,HI.out.world.size,SBk.new _ _ _⟩,trivial⟩
     | n+11,h,_=>exact absurd h (by omega)
   · intro ab a W hI hD hall
     obtain⟨v',x8,u08,u09,e,u0b⟩:=hI.slots 8 (by decide) (hall 8 (by decide));obtain rfl:=e;have u0g:=hid u0b;clear u0b;obtain⟨v',x9,u02,u03,e,u0e⟩:=hI.slots 9 (by decide) (hall 9 (by decide));obtain rfl:=e;have u0o:=hid u0e;clear u0e;have x9:a.tmps[38]? = some (.agg #[.bool (ai y),.slice u02 (aa y) u03]):=x9;obtain⟨v',x10,u05,e,u0k,u0l⟩:=hI.slots 10 (by decide) (hall 10 (by decide));obtain rfl:=e;have u0h:=hid u0k;clear u0k;have u0p:=hid u0l;clear u0l;have x10:a.tmps[8]? = some (.pointer (some ⟨u05,0,none⟩)):=x10;obtain ⟨HBW,HI,HA⟩:=ah hI.world hI hall;clear hI hall;obtain ⟨K3,RX,HBX⟩:=ah (K3.out.below HBW.out) (RX.out.below HBW.out) (HB2.out.trans (HBW.out.mono HB2.out.size));have RV:=u0g;have RY:=u0o;have K4:Hid (SBk W u05 #[.bool false,.slice none 0 0] 51):=u0p;obtain ⟨dK40,dK41⟩:=aI K4.out rfl rfl;obtain ⟨fK40,fK41⟩:=dU K4.out;refine aS (t:=0) ?_;refine ak rfl fun K' hK=>?_;go_simp;refine hK.out _ _ ?_;clear hK;refine aY ?_;have s0:∀ {v':Value} {n':Nat},RN W v' n'→RN (storeAll W (u05) 0 [.bool (ai y),.slice u02 (aa y) u03]) v' n':=fun h'=>aZ _ h' K4.out (by simp[bS]) (by simp[bA]);have o0:∀ {g':Nat} {cs':Array Value} {T':TypeId},g'≠u05→SBk W g' cs' T'→SBk (storeAll W (u05) 0 [.bool (ai y),.slice u02 (aa y) u03]) g' cs' T':=fun hg' h'=>bB hg' _ 0 h';exact⟨rfl,u08,u09,u02,u03,u05,(HI.out.finx ⟨HI.out.sx HA.out 0,HI.out.sx HA.out 1,HI.out.sx HA.out 2,HI.out.sx HA.out 3,HI.out.sx HA.out 4,HI.out.sx HA.out 5,HI.out.sx HA.out 6,HI.out.sx HA.out 7,x8,x9,x10,trivial⟩ rfl),(av (l:=[.bool (ai y),.slice u02 (aa y) u03]) (i:=0) (by have:=u0h.out;omega) HBX.out),(o0 (by have:=u0h.out;omega) K3.out),(bz (l:=[.bool (ai y),.slice u02 (aa y) u03]) (i:=0) K4.out),(s0 RX.out),(s0 RY.out),u0h.out⟩
 rintro a' W3 ⟨u08,u09,u02,u03,u05,rfl,z0,z1,z2,z3,z4,z5⟩;obtain ⟨HB3,K3,K4,RX,RY⟩:=aO z0 z1 z2 z3 z4;have R10xW3:=z5;clear z0 z1 z2 z3 z4 z5;simp only[putL,List.setIfInBounds_toArray,List.set_cons_zero,List.set_cons_succ];obtain ⟨dK30,dK31⟩:=aI K3.out rfl rfl;obtain ⟨dK40,dK41⟩:=aI K4.out rfl rfl;go_wp2_with fail
 with_reducible refine(C7.out _ _ _ _ _ RX.out RY.out).mono ?_
 rintro e W4 ⟨rfl,hb⟩;clear dK30 dK31 dK40 dK41;have HB4:=hbt HB3 hb;clear hb;go_wp2;exact bodyPost_ret (v:=.int .i64 k) (by simp[results,Tryz.results96,go_sem]) rfl ⟨rfl,HB4.out⟩
