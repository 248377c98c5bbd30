/- texts -/
import Derived.Test.YtcchkjpdchcjpaaGreatDoorMz34q
open Go.Proofs.Tryz
set_option maxRecDepth 100000
set_option maxHeartbeats 20000000
open Go.Lib (hid)
namespace Go.Proofs.YtcchkjpdchcjpaaGreatDoor
open Go.RowKit Go.Gb
set_option linter.unusedVariables false
abbrev K3q (f:Nat) (x y z:Rat) (v:Value):Prop:=∀ (q0 q1 q2:QS) (W:World),FQ W q0 x→FQ W q1 y→FQ W q2 z→Calls Tryz.prog f #[.agg #[.bool q0.b,.slice q0.a q0.n q0.c,.slice q0.e q0.m q0.d],.agg #[.bool q1.b,.slice q1.a q1.n q1.c,.slice q1.e q1.m q1.d],.agg #[.bool q2.b,.slice q2.a q2.n q2.c,.slice q2.e q2.m q2.d]] W (RP W v)
theorem z3R (xa xb xc:Rat)(t:Int)(q1:QS)(q2:QS)(q3:QS)(w:World)  (h1:KP1 19 xa (.int .i64 0))(h2:KP1 19 xb (.int .i64 t))(h3:KP1 19 xc (.int .i64 0))(r1:FQ w q1 xa)(r2:FQ w q2 xb)(r3:FQ w q3 xc) :
 CR 20 #[(QS.v q1),(QS.v q2),(QS.v q3)] w (.int .i64 0):=by
 dsimp only[QS.v];obtain ⟨C1,C2,C3,R1,R2,R3⟩:=bX h1 h2 h3 r1 r2 r3;clear h1 h2 h3 r1 r2 r3;go_enter func20,ntmps20
 go_upto_region 1 with fail
 refine aA w [(#[.bool q1.b,.slice q1.a q1.n q1.c,.slice q1.e q1.m q1.d],49),(#[.bool q2.b,.slice q2.a q2.n q2.c,.slice q2.e q2.m q2.d],49),(#[.bool q3.b,.slice q3.a q3.n q3.c,.slice q3.e q3.m q3.d],49)] rfl ?_;rintro W0 ⟨k1,k2,k3,hb⟩;have rV:=hid (show Below w.heap.size w W0 from hb);obtain ⟨R1,R2,R3⟩:=aI rV.o R1 R2 R3;obtain ⟨K1,K2,K3⟩:=ae k1 k2 k3;clear k1 k2 k3 hb;go_wp2_with fail
 refine az (fun a0 a' V=>a'=⟨putL [(9,q1.v),(10,.int .i64 0),(11,q2.v),(12,.int .i64 t),(7,.int .i64 0),(8,.int .i64 t)] a0.tmps,a0.defers⟩∧Below w.heap.size w V∧SBk V (w.heap.size+1+1) #[.bool q3.b,.slice q3.a q3.n q3.c,.slice q3.e q3.m q3.d] 49∧FQ V q3 xc) ?_ ?_
 · refine aC (by kernel_rfl) 6 0 (fun i=>[9,10,11,12,7,8].getD i 0) (RelR [Rel.val (q1.v),Rel.val (.int .i64 0),Rel.val (q2.v),Rel.val (.int .i64 t),Rel.val (.int .i64 0),Rel.val (.int .i64 t)]) (fun W=>Below W0.heap.size W0 W) (fun _ _=>True) (by kernel_rfl) (by kernel_rfl) (by kernel_rfl) trivial (Below.refl _ _).drew ?_ ?_
   · intro wu a W i hI hD hrd him
     obtain ⟨HI,Hr⟩:=aH hI hrd;clear hI hrd hD;have y3:a.tmps[3]? = some (.pointer (some ⟨w.heap.size,0,none⟩)):=HI.o.rest 3 (by decide);have y4:a.tmps[4]? = some (.pointer (some ⟨w.heap.size+1,0,none⟩)):=HI.o.rest 4 (by decide);obtain⟨ed,ek,eH⟩:=cells3 (K1.o.below HI.o.world);obtain⟨gy,fo,fq⟩:=cells3 (K2.o.below HI.o.world);have X0:RV _ wu a 0 9 (q1.v):=HI.o.rh;have X2:RV _ wu a 2 11 (q2.v):=HI.o.rh;have X1:RV _ wu a 1 10 (.int .i64 0):=HI.o.rh;have X3:RV _ wu a 3 12 (.int .i64 t):=HI.o.rh
     match i,him,Hr with
     | 0,_,Hi|2,_,Hi|4,_,Hi|5,_,Hi =>
       try have x1:=X1.g Hi.o (by decide +kernel)
       try have x3:=X3.g Hi.o (by decide +kernel)
       refine aj rfl fun K' hK=>?_;go_simp;exact hK.o _ _ ⟨HI.o.pv Hi.o rfl,trivial⟩
     | 1,_,Hi =>
       have x0:=X0.g Hi.o (by kernel_rfl);refine aj rfl fun K' hK=>?_;go_simp;with_reducible refine(C1.o _ _ (R1.o.below HI.o.world)).mono ?_
       rintro e W' ⟨rfl,hb⟩;exact hK.o _ _ ⟨HI.o.pc Hi.o hb rfl,trivial⟩
     | 3,_,Hi =>
       have x2:=X2.g Hi.o (by kernel_rfl);refine aj rfl fun K' hK=>?_;go_simp;with_reducible refine(C2.o _ _ (R2.o.below HI.o.world)).mono ?_
       rintro e W' ⟨rfl,hb⟩;exact hK.o _ _ ⟨HI.o.pc Hi.o hb rfl,trivial⟩
     | n+6,h,_=>exact absurd h (by omega)
   · intro wu a W hI hD pq
     obtain ⟨l5,HI,HA⟩:=ae hI.world hI pq;clear hI pq;obtain ⟨K3,R3⟩:=ax l5.o K3 R3;have kM:=Lib.hid (rV.o.trans (l5.o.mono rV.o.size));refine aT ?_;exact⟨rfl,(HI.o.finx ⟨HI.o.sx HA.o 0,HI.o.sx HA.o 1,HI.o.sx HA.o 2,HI.o.sx HA.o 3,HI.o.sx HA.o 4,HI.o.sx HA.o 5,trivial⟩ rfl),kM.o,K3.o,R3.o⟩
 rintro a' W1 ⟨rfl,z0,z1,z2⟩;obtain ⟨ol,K3,R3⟩:=ae z0 z1 z2;clear z0 z1 z2;simp only[putL,List.setIfInBounds_toArray,List.set_cons_zero,List.set_cons_succ];obtain ⟨lg,lv,kz⟩:=aK K3.o rfl rfl rfl;go_wp2_with fail
 with_reducible refine(C3.o _ _ R3.o).mono ?_
 rintro e W2 ⟨rfl,hb⟩;clear lg lv kz;have oM:=hbt ol hb;clear hb;go_wp2;exact bodyPost_ret (v:=.int .i64 0) (by simp[results,results20,go_sem]) rfl ⟨rfl,oM.o⟩
theorem z3Q (xa xb xc:Rat)(s t:Int)(q1:QS)(q2:QS)(q3:QS)(w:World)  (hs:(s==0)=false)(h1:KP1 19 xa (.int .i64 s))(h2:KP1 19 xb (.int .i64 t))(h3:KP1 19 xc (.int .i64 0))(r1:FQ w q1 xa)(r2:FQ w q2 xb)(r3:FQ w q3 xc) :
 CR 20 #[(QS.v q1),(QS.v q2),(QS.v q3)] w (.int .i64 s):=by
 dsimp only[QS.v];obtain ⟨C1,C2,C3,R1,R2,R3⟩:=bX h1 h2 h3 r1 r2 r3;have ks:¬ s=0:=by simpa using hs
 have ksd:decide (s=0)=false:=decide_eq_false ks;have kse:=hs;clear hs h1 h2 h3 r1 r2 r3;go_enter func20,ntmps20
 go_upto_region 1 with fail
 refine aA w [(#[.bool q1.b,.slice q1.a q1.n q1.c,.slice q1.e q1.m q1.d],49),(#[.bool q2.b,.slice q2.a q2.n q2.c,.slice q2.e q2.m q2.d],49),(#[.bool q3.b,.slice q3.a q3.n q3.c,.slice q3.e q3.m q3.d],49)] rfl ?_;rintro W0 ⟨k1,k2,k3,hb⟩;have rV:=hid (show Below w.heap.size w W0 from hb);obtain ⟨R1,R2,R3⟩:=aI rV.o R1 R2 R3;obtain ⟨K1,K2,K3⟩:=ae k1 k2 k3;clear k1 k2 k3 hb;go_wp2_with fail
 refine az (fun a0 a' V=>a'=⟨putL [(9,q1.v),(10,.int .i64 s),(11,q2.v),(12,.int .i64 t),(7,.int .i64 s),(8,.int .i64 t)] a0.tmps,a0.defers⟩∧Below w.heap.size w V∧SBk V (w.heap.size+1+1) #[.bool q3.b,.slice q3.a q3.n q3.c,.slice q3.e q3.m q3.d] 49∧FQ V q3 xc) ?_ ?_
 · refine aC (by kernel_rfl) 6 0 (fun i=>[9,10,11,12,7,8].getD i 0) (RelR [Rel.val (q1.v),Rel.val (.int .i64 s),Rel.val (q2.v),Rel.val (.int .i64 t),Rel.val (.int .i64 s),Rel.val (.int .i64 t)]) (fun W=>Below W0.heap.size W0 W) (fun _ _=>True) (by kernel_rfl) (by kernel_rfl) (by kernel_rfl) trivial (Below.refl _ _).drew ?_ ?_
   · intro wu a W i hI hD hrd him
     obtain ⟨HI,Hr⟩:=aH hI hrd;clear hI hrd hD;have y3:a.tmps[3]? = some (.pointer (some ⟨w.heap.size,0,none⟩)):=HI.o.rest 3 (by decide);have y4:a.tmps[4]? = some (.pointer (some ⟨w.heap.size+1,0,none⟩)):=HI.o.rest 4 (by decide);obtain⟨ed,ek,eH⟩:=cells3 (K1.o.below HI.o.world);obtain⟨gy,fo,fq⟩:=cells3 (K2.o.below HI.o.world);have X0:RV _ wu a 0 9 (q1.v):=HI.o.rh;have X2:RV _ wu a 2 11 (q2.v):=HI.o.rh;have X1:RV _ wu a 1 10 (.int .i64 s):=HI.o.rh;have X3:RV _ wu a 3 12 (.int .i64 t):=HI.o.rh
     match i,him,Hr with
     | 0,_,Hi|2,_,Hi|4,_,Hi|5,_,Hi =>
       try have x1:=X1.g Hi.o (by decide +kernel)
       try have x3:=X3.g Hi.o (by decide +kernel)
       refine aj rfl fun K' hK=>?_;go_simp;exact hK.o _ _ ⟨HI.o.pv Hi.o rfl,trivial⟩
     | 1,_,Hi =>
       have x0:=X0.g Hi.o (by kernel_rfl);refine aj rfl fun K' hK=>?_;go_simp;with_reducible refine(C1.o _ _ (R1.o.below HI.o.world)).mono ?_
       rintro e W' ⟨rfl,hb⟩;exact hK.o _ _ ⟨HI.o.pc Hi.o hb rfl,trivial⟩
     | 3,_,Hi =>
       have x2:=X2.g Hi.o (by kernel_rfl);refine aj rfl fun K' hK=>?_;go_simp;with_reducible refine(C2.o _ _ (R2.o.below HI.o.world)).mono ?_
       rintro e W' ⟨rfl,hb⟩;exact hK.o _ _ ⟨HI.o.pc Hi.o hb rfl,trivial⟩
     | n+6,h,_=>exact absurd h (by omega)
   · intro wu a W hI hD pq
     obtain ⟨l5,HI,HA⟩:=ae hI.world hI pq;clear hI pq;obtain ⟨K3,R3⟩:=ax l5.o K3 R3;have kM:=Lib.hid (rV.o.trans (l5.o.mono rV.o.size));refine aT ?_;exact⟨rfl,(HI.o.finx ⟨HI.o.sx HA.o 0,HI.o.sx HA.o 1,HI.o.sx HA.o 2,HI.o.sx HA.o 3,HI.o.sx HA.o 4,HI.o.sx HA.o 5,trivial⟩ rfl),kM.o,K3.o,R3.o⟩
 rintro a' W1 ⟨rfl,z0,z1,z2⟩;obtain ⟨ol,K3,R3⟩:=ae z0 z1 z2;clear z0 z1 z2;simp only[putL,List.setIfInBounds_toArray,List.set_cons_zero,List.set_cons_succ];obtain ⟨lg,lv,kz⟩:=aK K3.o rfl rfl rfl;go_wp2_with fail
 with_reducible refine(C3.o _ _ R3.o).mono ?_
 rintro e W2 ⟨rfl,hb⟩;clear lg lv kz;have oM:=hbt ol hb;clear hb;go_wp2;exact bodyPost_ret (v:=.int .i64 s) (by simp[results,results20,go_sem]) rfl ⟨rfl,oM.o⟩
theorem z3P (xa xb xc:Rat)(t m:Int)(q1:QS)(q2:QS)(q3:QS)(w:World)  (hm:(m==0)=false)(h1:KP1 19 xa (.int .i64 0))(h2:KP1 19 xb (.int .i64 t))(h3:KP1 19 xc (.int .i64 m))(r1:FQ w q1 xa)(r2:FQ w q2 xb)(r3:FQ w q3 xc) :
 CR 20 #[(QS.v q1),(QS.v q2),(QS.v q3)] w (.int .i64 t):=by
 dsimp only[QS.v];obtain ⟨C1,C2,C3,R1,R2,R3⟩:=bX h1 h2 h3 r1 r2 r3;have km:¬ m=0:=by simpa using hm
 have kmd:decide (m=0)=false:=decide_eq_false km;have kme:=hm;clear hm h1 h2 h3 r1 r2 r3;go_enter func20,ntmps20
 go_upto_region 1 with fail
 refine aA w [(#[.bool q1.b,.slice q1.a q1.n q1.c,.slice q1.e q1.m q1.d],49),(#[.bool q2.b,.slice q2.a q2.n q2.c,.slice q2.e q2.m q2.d],49),(#[.bool q3.b,.slice q3.a q3.n q3.c,.slice q3.e q3.m q3.d],49)] rfl ?_;rintro W0 ⟨k1,k2,k3,hb⟩;have rV:=hid (show Below w.heap.size w W0 from hb);obtain ⟨R1,R2,R3⟩:=aI rV.o R1 R2 R3;obtain ⟨K1,K2,K3⟩:=ae k1 k2 k3;clear k1 k2 k3 hb;go_wp2_with fail
 refine az (fun a0 a' V=>a'=⟨putL [(9,q1.v),(10,.int .i64 0),(11,q2.v),(12,.int .i64 t),(7,.int .i64 0),(8,.int .i64 t)] a0.tmps,a0.defers⟩∧Below w.heap.size w V∧SBk V (w.heap.size+1+1) #[.bool q3.b,.slice q3.a q3.n q3.c,.slice q3.e q3.m q3.d] 49∧FQ V q3 xc) ?_ ?_
 · refine aC (by kernel_rfl) 6 0 (fun i=>[9,10,11,12,7,8].getD i 0) (RelR [Rel.val (q1.v),Rel.val (.int .i64 0),Rel.val (q2.v),Rel.val (.int .i64 t),Rel.val (.int .i64 0),Rel.val (.int .i64 t)]) (fun W=>Below W0.heap.size W0 W) (fun _ _=>True) (by kernel_rfl) (by kernel_rfl) (by kernel_rfl) trivial (Below.refl _ _).drew ?_ ?_
   · intro wu a W i hI hD hrd him
     obtain ⟨HI,Hr⟩:=aH hI hrd;clear hI hrd hD;have y3:a.tmps[3]? = some (.pointer (some ⟨w.heap.size,0,none⟩)):=HI.o.rest 3 (by decide);have y4:a.tmps[4]? = some (.pointer (some ⟨w.heap.size+1,0,none⟩)):=HI.o.rest 4 (by decide);obtain⟨ed,ek,eH⟩:=cells3 (K1.o.below HI.o.world);obtain⟨gy,fo,fq⟩:=cells3 (K2.o.below HI.o.world);have X0:RV _ wu a 0 9 (q1.v):=HI.o.rh;have X2:RV _ wu a 2 11 (q2.v):=HI.o.rh;have X1:RV _ wu a 1 10 (.int .i64 0):=HI.o.rh;have X3:RV _ wu a 3 12 (.int .i64 t):=HI.o.rh
     match i,him,Hr with
     | 0,_,Hi|2,_,Hi|4,_,Hi|5,_,Hi =>
       try have x1:=X1.g Hi.o (by decide +kernel)
       try have x3:=X3.g Hi.o (by decide +kernel)
       refine aj rfl fun K' hK=>?_;go_simp;exact hK.o _ _ ⟨HI.o.pv Hi.o rfl,trivial⟩
     | 1,_,Hi =>
       have x0:=X0.g Hi.o (by kernel_rfl);refine aj rfl fun K' hK=>?_;go_simp;with_reducible refine(C1.o _ _ (R1.o.below HI.o.world)).mono ?_
       rintro e W' ⟨rfl,hb⟩;exact hK.o _ _ ⟨HI.o.pc Hi.o hb rfl,trivial⟩
     | 3,_,Hi =>
       have x2:=X2.g Hi.o (by kernel_rfl);refine aj rfl fun K' hK=>?_;go_simp;with_reducible refine(C2.o _ _ (R2.o.below HI.o.world)).mono ?_
       rintro e W' ⟨rfl,hb⟩;exact hK.o _ _ ⟨HI.o.pc Hi.o hb rfl,trivial⟩
     | n+6,h,_=>exact absurd h (by omega)
   · intro wu a W hI hD pq
     obtain ⟨l5,HI,HA⟩:=ae hI.world hI pq;clear hI pq;obtain ⟨K3,R3⟩:=ax l5.o K3 R3;have kM:=Lib.hid (rV.o.trans (l5.o.mono rV.o.size));refine aT ?_;exact⟨rfl,(HI.o.finx ⟨HI.o.sx HA.o 0,HI.o.sx HA.o 1,HI.o.sx HA.o 2,HI.o.sx HA.o 3,HI.o.sx HA.o 4,HI.o.sx HA.o 5,trivial⟩ rfl),kM.o,K3.o,R3.o⟩
 rintro a' W1 ⟨rfl,z0,z1,z2⟩;obtain ⟨ol,K3,R3⟩:=ae z0 z1 z2;clear z0 z1 z2;simp only[putL,List.setIfInBounds_toArray,List.set_cons_zero,List.set_cons_succ];obtain ⟨lg,lv,kz⟩:=aK K3.o rfl rfl rfl;go_wp2_with fail
 with_reducible refine(C3.o _ _ R3.o).mono ?_
 rintro e W2 ⟨rfl,hb⟩;clear lg lv kz;have oM:=hbt ol hb;clear hb;go_wp2;exact bodyPost_ret (v:=.int .i64 t) (by simp[results,results20,go_sem]) rfl ⟨rfl,oM.o⟩
theorem z3O (xa xb xc:Rat)(s m:Int)(q1:QS)(q2:QS)(q3:QS)(w:World)  (hm:(m==0)=false)(hs:(s==0)=false)(h1:KP1 19 xa (.int .i64 s))(h2:KP1 19 xb (.int .i64 0))(h3:KP1 19 xc (.int .i64 m))(r1:FQ w q1 xa)(r2:FQ w q2 xb)(r3:FQ w q3 xc) :
 CR 20 #[(QS.v q1),(QS.v q2),(QS.v q3)] w (.int .i64 s):=by
 dsimp only[QS.v];obtain ⟨C1,C2,C3,R1,R2,R3⟩:=bX h1 h2 h3 r1 r2 r3;have km:¬ m=0:=by simpa using hm
 have kmd:decide (m=0)=false:=decide_eq_false km;have kme:=hm;clear hm;have ks:¬ s=0:=by simpa using hs
 have ksd:decide (s=0)=false:=decide_eq_false ks;have kse:=hs;clear hs h1 h2 h3 r1 r2 r3;go_enter func20,ntmps20
 go_upto_region 1 with fail
 refine aA w [(#[.bool q1.b,.slice q1.a q1.n q1.c,.slice q1.e q1.m q1.d],49),(#[.bool q2.b,.slice q2.a q2.n q2.c,.slice q2.e q2.m q2.d],49),(#[.bool q3.b,.slice q3.a q3.n q3.c,.slice q3.e q3.m q3.d],49)] rfl ?_;rintro W0 ⟨k1,k2,k3,hb⟩;have rV:=hid (show Below w.heap.size w W0 from hb);obtain ⟨R1,R2,R3⟩:=aI rV.o R1 R2 R3;obtain ⟨K1,K2,K3⟩:=ae k1 k2 k3;clear k1 k2 k3 hb;go_wp2_with fail
 refine az (fun a0 a' V=>a'=⟨putL [(9,q1.v),(10,.int .i64 s),(11,q2.v),(12,.int .i64 0),(7,.int .i64 s),(8,.int .i64 0)] a0.tmps,a0.defers⟩∧Below w.heap.size w V∧SBk V (w.heap.size+1+1) #[.bool q3.b,.slice q3.a q3.n q3.c,.slice q3.e q3.m q3.d] 49∧FQ V q3 xc) ?_ ?_
 · refine aC (by kernel_rfl) 6 0 (fun i=>[9,10,11,12,7,8].getD i 0) (RelR [Rel.val (q1.v),Rel.val (.int .i64 s),Rel.val (q2.v),Rel.val (.int .i64 0),Rel.val (.int .i64 s),Rel.val (.int .i64 0)]) (fun W=>Below W0.heap.size W0 W) (fun _ _=>True) (by kernel_rfl) (by kernel_rfl) (by kernel_rfl) trivial (Below.refl _ _).drew ?_ ?_
   · intro wu a W i hI hD hrd him
     obtain ⟨HI,Hr⟩:=aH hI hrd;clear hI hrd hD;have y3:a.tmps[3]? = some (.pointer (some ⟨w.heap.size,0,none⟩)):=HI.o.rest 3 (by decide);have y4:a.tmps[4]? = some (.pointer (some ⟨w.heap.size+1,0,none⟩)):=HI.o.rest 4 (by decide);obtain⟨ed,ek,eH⟩:=cells3 (K1.o.below HI.o.world);obtain⟨gy,fo,fq⟩:=cells3 (K2.o.below HI.o.world);have X0:RV _ wu a 0 9 (q1.v):=HI.o.rh;have X2:RV _ wu a 2 11 (q2.v):=HI.o.rh;have X1:RV _ wu a 1 10 (.int .i64 s):=HI.o.rh;have X3:RV _ wu a 3 12 (.int .i64 0):=HI.o.rh
     match i,him,Hr with
     | 0,_,Hi|2,_,Hi|4,_,Hi|5,_,Hi =>
       try have x1:=X1.g Hi.o (by decide +kernel)
       try have x3:=X3.g Hi.o (by decide +kernel)
       refine aj rfl fun K' hK=>?_;go_simp;exact hK.o _ _ ⟨HI.o.pv Hi.o rfl,trivial⟩
     | 1,_,Hi =>
       have x0:=X0.g Hi.o (by kernel_rfl);refine aj rfl fun K' hK=>?_;go_simp;with_reducible refine(C1.o _ _ (R1.o.below HI.o.world)).mono ?_
       rintro e W' ⟨rfl,hb⟩;exact hK.o _ _ ⟨HI.o.pc Hi.o hb rfl,trivial⟩
     | 3,_,Hi =>
       have x2:=X2.g Hi.o (by kernel_rfl);refine aj rfl fun K' hK=>?_;go_simp;with_reducible refine(C2.o _ _ (R2.o.below HI.o.world)).mono ?_
       rintro e W' ⟨rfl,hb⟩;exact hK.o _ _ ⟨HI.o.pc Hi.o hb rfl,trivial⟩
     | n+6,h,_=>exact absurd h (by omega)
   · intro wu a W hI hD pq
     obtain ⟨l5,HI,HA⟩:=ae hI.world hI pq;clear hI pq;obtain ⟨K3,R3⟩:=ax l5.o K3 R3;have kM:=Lib.hid (rV.o.trans (l5.o.mono rV.o.size));refine aT ?_;exact⟨rfl,(HI.o.finx ⟨HI.o.sx HA.o 0,HI.o.sx HA.o 1,HI.o.sx HA.o 2,HI.o.sx HA.o 3,HI.o.sx HA.o 4,HI.o.sx HA.o 5,trivial⟩ rfl),kM.o,K3.o,R3.o⟩
 rintro a' W1 ⟨rfl,z0,z1,z2⟩;obtain ⟨ol,K3,R3⟩:=ae z0 z1 z2;clear z0 z1 z2;simp only[putL,List.setIfInBounds_toArray,List.set_cons_zero,List.set_cons_succ];obtain ⟨lg,lv,kz⟩:=aK K3.o rfl rfl rfl;go_wp2_with fail
 with_reducible refine(C3.o _ _ R3.o).mono ?_
 rintro e W2 ⟨rfl,hb⟩;clear lg lv kz;have oM:=hbt ol hb;clear hb;go_wp2;exact bodyPost_ret (v:=.int .i64 s) (by simp[results,results20,go_sem]) rfl ⟨rfl,oM.o⟩
theorem z3N (xa xb xc:Rat)(s m:Int)(q1:QS)(q2:QS)(q3:QS)(w:World)  (hm:(m==0)=false)(hs:(s==0)=false)(h1:KP1 19 xa (.int .i64 s))(h2:KP1 19 xb (.int .i64 s))(h3:KP1 19 xc (.int .i64 m))(r1:FQ w q1 xa)(r2:FQ w q2 xb)(r3:FQ w q3 xc) :
 CR 20 #[(QS.v q1),(QS.v q2),(QS.v q3)] w (.int .i64 s):=by
 dsimp only[QS.v];obtain ⟨C1,C2,C3,R1,R2,R3⟩:=bX h1 h2 h3 r1 r2 r3;have km:¬ m=0:=by simpa using hm
 have kmd:decide (m=0)=false:=decide_eq_false km;have kme:=hm;clear hm;have ks:¬ s=0:=by simpa using hs
 have ksd:decide (s=0)=false:=decide_eq_false ks;have kse:=hs;clear hs h1 h2 h3 r1 r2 r3;go_enter func20,ntmps20
 go_upto_region 1 with fail
 refine aA w [(#[.bool q1.b,.slice q1.a q1.n q1.c,.slice q1.e q1.m q1.d],49),(#[.bool q2.b,.slice q2.a q2.n q2.c,.slice q2.e q2.m q2.d],49),(#[.bool q3.b,.slice q3.a q3.n q3.c,.slice q3.e q3.m q3.d],49)] rfl ?_;rintro W0 ⟨k1,k2,k3,hb⟩;have rV:=hid (show Below w.heap.size w W0 from hb);obtain ⟨R1,R2,R3⟩:=aI rV.o R1 R2 R3;obtain ⟨K1,K2,K3⟩:=ae k1 k2 k3;clear k1 k2 k3 hb;go_wp2_with fail
 refine az (fun a0 a' V=>a'=⟨putL [(9,q1.v),(10,.int .i64 s),(11,q2.v),(12,.int .i64 s),(7,.int .i64 s),(8,.int .i64 s)] a0.tmps,a0.defers⟩∧Below w.heap.size w V∧SBk V (w.heap.size+1+1) #[.bool q3.b,.slice q3.a q3.n q3.c,.slice q3.e q3.m q3.d] 49∧FQ V q3 xc) ?_ ?_
 · refine aC (by kernel_rfl) 6 0 (fun i=>[9,10,11,12,7,8].getD i 0) (RelR [Rel.val (q1.v),Rel.val (.int .i64 s),Rel.val (q2.v),Rel.val (.int .i64 s),Rel.val (.int .i64 s),Rel.val (.int .i64 s)]) (fun W=>Below W0.heap.size W0 W) (fun _ _=>True) (by kernel_rfl) (by kernel_rfl) (by kernel_rfl) trivial (Below.refl _ _).drew ?_ ?_
   · intro wu a W i hI hD hrd him
     obtain ⟨HI,Hr⟩:=aH hI hrd;clear hI hrd hD;have y3:a.tmps[3]? = some (.pointer (some ⟨w.heap.size,0,none⟩)):=HI.o.rest 3 (by decide);have y4:a.tmps[4]? = some (.pointer (some ⟨w.heap.size+1,0,none⟩)):=HI.o.rest 4 (by decide);obtain⟨ed,ek,eH⟩:=cells3 (K1.o.below HI.o.world);obtain⟨gy,fo,fq⟩:=cells3 (K2.o.below HI.o.world);have X0:RV _ wu a 0 9 (q1.v):=HI.o.rh;have X2:RV _ wu a 2 11 (q2.v):=HI.o.rh;have X1:RV _ wu a 1 10 (.int .i64 s):=HI.o.rh;have X3:RV _ wu a 3 12 (.int .i64 s):=HI.o.rh
     match i,him,Hr with
     | 0,_,Hi|2,_,Hi|4,_,Hi|5,_,Hi =>
       try have x1:=X1.g Hi.o (by decide +kernel)
       try have x3:=X3.g Hi.o (by decide +kernel)
       refine aj rfl fun K' hK=>?_;go_simp;exact hK.o _ _ ⟨HI.o.pv Hi.o rfl,trivial⟩
     | 1,_,Hi =>
       have x0:=X0.g Hi.o (by kernel_rfl);refine aj rfl fun K' hK=>?_;go_simp;with_reducible refine(C1.o _ _ (R1.o.below HI.o.world)).mono ?_
       rintro e W' ⟨rfl,hb⟩;exact hK.o _ _ ⟨HI.o.pc Hi.o hb rfl,trivial⟩
     | 3,_,Hi =>
       have x2:=X2.g Hi.o (by kernel_rfl);refine aj rfl fun K' hK=>?_;go_simp;with_reducible refine(C2.o _ _ (R2.o.below HI.o.world)).mono ?_
       rintro e W' ⟨rfl,hb⟩;exact hK.o _ _ ⟨HI.o.pc Hi.o hb rfl,trivial⟩
     | n+6,h,_=>exact absurd h (by omega)
   · intro wu a W hI hD pq
     obtain ⟨l5,HI,HA⟩:=ae hI.world hI pq;clear hI pq;obtain ⟨K3,R3⟩:=ax l5.o K3 R3;have kM:=Lib.hid (rV.o.trans (l5.o.mono rV.o.size));refine aT ?_;exact⟨rfl,(HI.o.finx ⟨HI.o.sx HA.o 0,HI.o.sx HA.o 1,HI.o.sx HA.o 2,HI.o.sx HA.o 3,HI.o.sx HA.o 4,HI.o.sx HA.o 5,trivial⟩ rfl),kM.o,K3.o,R3.o⟩
 rintro a' W1 ⟨rfl,z0,z1,z2⟩;obtain ⟨ol,K3,R3⟩:=ae z0 z1 z2;clear z0 z1 z2;simp only[putL,List.setIfInBounds_toArray,List.set_cons_zero,List.set_cons_succ];obtain ⟨lg,lv,kz⟩:=aK K3.o rfl rfl rfl;go_wp2_with fail
 with_reducible refine(C3.o _ _ R3.o).mono ?_
 rintro e W2 ⟨rfl,hb⟩;clear lg lv kz;have oM:=hbt ol hb;clear hb;go_wp2;exact bodyPost_ret (v:=.int .i64 s) (by simp[results,results20,go_sem]) rfl ⟨rfl,oM.o⟩
theorem z3M (xa xb xc:Rat)(s t m k r:Int)(ya yb yc:Rat)(q1:QS)(q2:QS)(q3:QS)(w:World)  (hm:(m==0)=false)(hs:(s==0)=false)(ht:(t==0)=false)(hst:(s==t)=false)(hw:IntKind.i64.wrap (s*k)=r)(h1:KP1 19 xa (.int .i64 s))(h2:KP1 19 xb (.int .i64 t))(h3:KP1 19 xc (.int .i64 m))(h4:KQ2 22 xa xa ya)(h5:KQ2 22 xb xb yb)(h6:KQ2 22 yb xc yc)(h7:KP2 24 ya yc (.int .i64 k))(r1:FQ w q1 xa)(r2:FQ w q2 xb)(r3:FQ w q3 xc) :
 CR 20 #[(QS.v q1),(QS.v q2),(QS.v q3)] w (.int .i64 r):=by
 dsimp only[QS.v];obtain ⟨C1,C2,C3,C4,C5,C6,C7,R1,R2⟩:=bZ h1 h2 h3 h4 h5 h6 h7 r1 r2;have R3:=hid r3;have km:¬ m=0:=by simpa using hm
 have kmd:decide (m=0)=false:=decide_eq_false km;have kme:=hm;clear hm;have ks:¬ s=0:=by simpa using hs
 have ksd:decide (s=0)=false:=decide_eq_false ks;have kse:=hs;clear hs;have kt:¬ t=0:=by simpa using ht
 have ktd:decide (t=0)=false:=decide_eq_false kt;have kte:=ht;have kst:¬ s=t:=by simpa using hst
 have kstd:decide (s=t)=false:=decide_eq_false kst;have kste:=hst;clear ht hst;have kw:=hw;clear hw h1 h2 h3 h4 h5 h6 h7 r1 r2 r3;go_enter func20,ntmps20
 go_upto_region 1 with fail
 refine aA w [(#[.bool q1.b,.slice q1.a q1.n q1.c,.slice q1.e q1.m q1.d],49),(#[.bool q2.b,.slice q2.a q2.n q2.c,.slice q2.e q2.m q2.d],49),(#[.bool q3.b,.slice q3.a q3.n q3.c,.slice q3.e q3.m q3.d],49)] rfl ?_;rintro W0 ⟨k1,k2,k3,hb⟩;have rV:=hid (show Below w.heap.size w W0 from hb);obtain ⟨R1,R2,R3⟩:=aI rV.o R1 R2 R3;obtain ⟨K1,K2,K3⟩:=ae k1 k2 k3;clear k1 k2 k3 hb;go_wp2_with fail
 refine az (fun a0 a' V=>a'=⟨putL [(9,q1.v),(10,.int .i64 s),(11,q2.v),(12,.int .i64 t),(7,.int .i64 s),(8,.int .i64 t)] a0.tmps,a0.defers⟩∧Below w.heap.size w V∧SBk V (w.heap.size) #[.bool q1.b,.slice q1.a q1.n q1.c,.slice q1.e q1.m q1.d] 49∧SBk V (w.heap.size+1) #[.bool q2.b,.slice q2.a q2.n q2.c,.slice q2.e q2.m q2.d] 49∧SBk V (w.heap.size+1+1) #[.bool q3.b,.slice q3.a q3.n q3.c,.slice q3.e q3.m q3.d] 49∧FQ V q1 xa∧FQ V q2 xb∧FQ V q3 xc) ?_ ?_
 · refine aC (by kernel_rfl) 6 0 (fun i=>[9,10,11,12,7,8].getD i 0) (RelR [Rel.val (q1.v),Rel.val (.int .i64 s),Rel.val (q2.v),Rel.val (.int .i64 t),Rel.val (.int .i64 s),Rel.val (.int .i64 t)]) (fun W=>Below W0.heap.size W0 W) (fun _ _=>True) (by kernel_rfl) (by kernel_rfl) (by kernel_rfl) trivial (Below.refl _ _).drew ?_ ?_
   · intro wu a W i hI hD hrd him
     obtain ⟨HI,Hr⟩:=aH hI hrd;clear hI hrd hD;have y3:a.tmps[3]? = some (.pointer (some ⟨w.heap.size,0,none⟩)):=HI.o.rest 3 (by decide);have y4:a.tmps[4]? = some (.pointer (some ⟨w.heap.size+1,0,none⟩)):=HI.o.rest 4 (by decide);obtain⟨ed,ek,eH⟩:=cells3 (K1.o.below HI.o.world);obtain⟨gy,fo,fq⟩:=cells3 (K2.o.below HI.o.world);have X0:RV _ wu a 0 9 (q1.v):=HI.o.rh;have X2:RV _ wu a 2 11 (q2.v):=HI.o.rh;have X1:RV _ wu a 1 10 (.int .i64 s):=HI.o.rh;have X3:RV _ wu a 3 12 (.int .i64 t):=HI.o.rh
     match i,him,Hr with
     | 0,_,Hi|2,_,Hi|4,_,Hi|5,_,Hi =>
       try have x1:=X1.g Hi.o (by decide +kernel)
       try have x3:=X3.g Hi.o (by decide +kernel)
       refine aj rfl fun K' hK=>?_;go_simp;exact hK.o _ _ ⟨HI.o.pv Hi.o rfl,trivial⟩
     | 1,_,Hi =>
       have x0:=X0.g Hi.o (by kernel_rfl);refine aj rfl fun K' hK=>?_;go_simp;with_reducible refine(C1.o _ _ (R1.o.below HI.o.world)).mono ?_
       rintro e W' ⟨rfl,hb⟩;exact hK.o _ _ ⟨HI.o.pc Hi.o hb rfl,trivial⟩
     | 3,_,Hi =>
       have x2:=X2.g Hi.o (by kernel_rfl);refine aj rfl fun K' hK=>?_;go_simp;with_reducible refine(C2.o _ _ (R2.o.below HI.o.world)).mono ?_
       rintro e W' ⟨rfl,hb⟩;exact hK.o _ _ ⟨HI.o.pc Hi.o hb rfl,trivial⟩
     | n+6,h,_=>exact absurd h (by omega)
   · intro wu a W hI hD pq
     obtain ⟨l5,HI,HA⟩:=ae hI.world hI pq;clear hI pq;obtain ⟨K1,K2,K3,R1,R2,R3⟩:=jL l5.o K1 K2 K3 R1 R2 R3;have kM:=Lib.hid (rV.o.trans (l5.o.mono rV.o.size));refine aT ?_;exact⟨rfl,(HI.o.finx ⟨HI.o.sx HA.o 0,HI.o.sx HA.o 1,HI.o.sx HA.o 2,HI.o.sx HA.o 3,HI.o.sx HA.o 4,HI.o.sx HA.o 5,trivial⟩ rfl),kM.o,K1.o,K2.o,K3.o,R1.o,R2.o,R3.o⟩
 rintro a' W1 ⟨rfl,z0,z1,z2,z3,z4,z5,z6⟩;obtain ⟨ol,K1,K2,K3,R1,R2,R3⟩:=fK z0 z1 z2 z3 z4 z5 z6;clear z0 z1 z2 z3 z4 z5 z6;simp only[putL,List.setIfInBounds_toArray,List.set_cons_zero,List.set_cons_succ];obtain ⟨lg,lv,kz⟩:=aK K3.o rfl rfl rfl;go_wp2_with fail
 with_reducible refine(C3.o _ _ R3.o).mono ?_
 rintro e W2 ⟨rfl,hb⟩;clear lg lv kz;obtain ⟨K1,K2,K3,R1,R2,R3⟩:=jL hb K1 K2 K3 R1 R2 R3;have oM:=hbt ol hb;clear hb;go_wp2_with fail
 refine az (fun a0 a' V=>∃ (dn:QS) (dx:QS) (sw:QS),a'=⟨putL [(31,.int .i64 s),(32,q1.v),(33,q1.v),(34,dn.v),(35,q2.v),(36,q2.v),(37,dx.v),(38,q3.v),(39,sw.v),(40,.int .i64 k),(41,.int .i64 r),(6,.int .i64 r)] a0.tmps,a0.defers⟩∧Below w.heap.size w V) ?_ ?_
 · refine aC (by kernel_rfl) 12 0 (fun i=>[31,32,33,34,35,36,37,38,39,40,41,6].getD i 0) (RelR [Rel.val (.int .i64 s),Rel.val (q1.v),Rel.val (q1.v),Rel.q ya,Rel.val (q2.v),Rel.val (q2.v),Rel.q yb,Rel.val (q3.v),Rel.q yc,Rel.val (.int .i64 k),Rel.val (.int .i64 r),Rel.val (.int .i64 r)]) (fun W=>Below W2.heap.size W2 W) (fun _ _=>True) (by kernel_rfl) (by kernel_rfl) (by kernel_rfl) trivial (Below.refl _ _).drew ?_ ?_
   · intro wu a W i hI hD hrd him
     obtain ⟨HI,Hr⟩:=aH hI hrd;clear hI hrd hD;have y7:a.tmps[7]? = some (.int .i64 s):=HI.o.rest 7 (by decide);have y3:a.tmps[3]? = some (.pointer (some ⟨w.heap.size,0,none⟩)):=HI.o.rest 3 (by decide);have y4:a.tmps[4]? = some (.pointer (some ⟨w.heap.size+1,0,none⟩)):=HI.o.rest 4 (by decide);have y5:a.tmps[5]? = some (.pointer (some ⟨w.heap.size+1+1,0,none⟩)):=HI.o.rest 5 (by decide);obtain⟨ed,ek,eH⟩:=cells3 (K1.o.below HI.o.world);obtain⟨gy,fo,fq⟩:=cells3 (K2.o.below HI.o.world);obtain⟨lg,lv,kz⟩:=cells3 (K3.o.below HI.o.world);have X1:RV _ wu a 1 32 (q1.v):=HI.o.rh;have X2:RV _ wu a 2 33 (q1.v):=HI.o.rh;have X4:RV _ wu a 4 35 (q2.v):=HI.o.rh;have X5:RV _ wu a 5 36 (q2.v):=HI.o.rh;have X7:RV _ wu a 7 38 (q3.v):=HI.o.rh;have X0:RV _ wu a 0 31 (.int .i64 s):=HI.o.rh;have X9:RV _ wu a 9 40 (.int .i64 k):=HI.o.rh;have X10:RV _ wu a 10 41 (.int .i64 r):=HI.o.rh
     match i,him,Hr with
     | 0,_,Hi|1,_,Hi|2,_,Hi|4,_,Hi|5,_,Hi|7,_,Hi|10,_,Hi|11,_,Hi =>
       try have x0:=X0.g Hi.o (by decide +kernel)
       try have x9:=X9.g Hi.o (by decide +kernel)
       try have x10:=X10.g Hi.o (by decide +kernel)
       refine aj rfl fun K' hK=>?_;go_simp;exact hK.o _ _ ⟨HI.o.pv Hi.o rfl,trivial⟩
     | 3,_,Hi =>
       have x1:=X1.g Hi.o (by kernel_rfl);have x2:=X2.g Hi.o (by kernel_rfl);refine aj rfl fun K' hK=>?_;go_simp;with_reducible refine(C4.o _ _ _ (R1.o.below HI.o.world) (R1.o.below HI.o.world)).mono ?_
       rintro e W' ⟨dn,rfl,u0f,hb⟩;exact hK.o _ _ ⟨HI.o.pc Hi.o hb ⟨dn,rfl,u0f⟩,trivial⟩
     | 6,_,Hi =>
       have x4:=X4.g Hi.o (by kernel_rfl);have x5:=X5.g Hi.o (by kernel_rfl);refine aj rfl fun K' hK=>?_;go_simp;with_reducible refine(C5.o _ _ _ (R2.o.below HI.o.world) (R2.o.below HI.o.world)).mono ?_
       rintro e W' ⟨dx,rfl,u0g,hb⟩;exact hK.o _ _ ⟨HI.o.pc Hi.o hb ⟨dx,rfl,u0g⟩,trivial⟩
     | 8,_,Hi =>
       obtain⟨dx,x6,af⟩:=qAt HI.o 6 37 Hi.o (by kernel_rfl);have x7:=X7.g Hi.o (by kernel_rfl);refine aj rfl fun K' hK=>?_;go_simp;with_reducible refine(C6.o _ _ _ af.o (R3.o.below HI.o.world)).mono ?_
       rintro e W' ⟨sw,rfl,u00,hb⟩;exact hK.o _ _ ⟨HI.o.pc Hi.o hb ⟨sw,rfl,u00⟩,trivial⟩
     | 9,_,Hi =>
       obtain⟨dn,x3,u01⟩:=qAt HI.o 3 34 Hi.o (by kernel_rfl);obtain⟨sw,x8,bu⟩:=qAt HI.o 8 39 Hi.o (by kernel_rfl);refine aj rfl fun K' hK=>?_;go_simp;with_reducible refine(C7.o _ _ _ u01.o bu.o).mono ?_
       rintro e W' ⟨rfl,hb⟩;exact hK.o _ _ ⟨HI.o.pc Hi.o hb rfl,trivial⟩
     | n+12,h,_=>exact absurd h (by omega)
   · intro wu a W hI hD pq
     obtain⟨dn,x3,u01⟩:=qEnd hI pq 3 34;obtain⟨dx,x6,af⟩:=qEnd hI pq 6 37;obtain⟨sw,x8,bu⟩:=qEnd hI pq 8 39;obtain ⟨l5,HI,HA⟩:=ae hI.world hI pq;clear hI pq;have kM:=hid (oM.o.trans (l5.o.mono oM.o.size));have RA:=u01;have RB:=af;have RC:=bu;refine aT ?_;exact⟨rfl,dn,dx,sw,(HI.o.finx ⟨HI.o.sx HA.o 0,HI.o.sx HA.o 1,HI.o.sx HA.o 2,x3,HI.o.sx HA.o 4,HI.o.sx HA.o 5,x6,HI.o.sx HA.o 7,x8,HI.o.sx HA.o 9,HI.o.sx HA.o 10,HI.o.sx HA.o 11,trivial⟩ rfl),kM.o⟩
 rintro a' W3 ⟨dn,dx,sw,rfl,z0⟩;have oV:=hid z0;clear z0;simp only[putL,List.setIfInBounds_toArray,List.set_cons_zero,List.set_cons_succ];go_wp2;exact bodyPost_ret (v:=.int .i64 r) (by simp[results,results20,go_sem]) rfl ⟨rfl,oV.o⟩
theorem tu (a b c:ByteArray)(xa xb xc:Rat)(bd:Bool)  (w:World)  (h1:KBo 17 (.string a) (.string b) xa xb (1))(h2:KSb 18 (.string c) xc bd)  :
 CR 7 #[.string a,.string b,.string c] w (.tuple #[.int .i64 0,.int .i64 1]):=by
 have C1:=hid h1;have C2:=hid h2;clear h1 h2;go_enter func7,ntmps7
 have rV:=hid (Below.refl w.heap.size w);go_wp2_with fail
 with_reducible refine(C1.o _).mono ?_
 rintro e W1 ⟨w9,wo,rfl,nk,mf,hb⟩;have ol:=hbt rV hb;have RA:=hid nk;have RB:=hid mf;clear hb nk mf;go_upto_region 2 with fail
 refine aA W1 [(#[.bool w9.b,.slice w9.a w9.n w9.c,.slice w9.e w9.m w9.d],49),(#[.bool wo.b,.slice wo.a wo.n wo.c,.slice wo.e wo.m wo.d],49)] rfl ?_;have L1:=ol.o.size;rintro W2 ⟨k1,k2,hb⟩;have hb:Below W1.heap.size W1 W2:=hb;have oM:=hbt ol hb;have K1:=hid k1;have K2:=hid k2;clear k1 k2 hb;go_wp2_with fail
 with_reducible refine(C2.o _).mono ?_
 rintro e W3 ⟨u6,rfl,mi,hb⟩;obtain ⟨K1,K2⟩:=ax hb K1 K2;have oV:=hbt oM hb;have RC:=hid mi;clear hb mi;go_upto_region 3 with fail
 refine aA W3 [(#[.bool u6.b,.slice u6.a u6.n u6.c,.slice u6.e u6.m u6.d],49)] rfl ?_;have L2:=K1.o.lt;have L3:=K2.o.lt;have L4:=oV.o.size;rintro W4 ⟨k3,hb⟩;have hb:Below W3.heap.size W3 W4:=hb;have kV:=hbt oV hb;have K3:=hid k3;clear k3 hb;go_wp2;exact bodyPost_ret (v:=.tuple #[.int .i64 0,.int .i64 1]) (by simp[results,results7,go_sem]) rfl ⟨rfl,kV.o⟩
theorem z0p (a b c:ByteArray)(xa xb xc:Rat)  (w:World)  (h1:KBo 17 (.string a) (.string b) xa xb (0))(h2:KSb 18 (.string c) xc false)  :
 CR 7 #[.string a,.string b,.string c] w (.tuple #[.int .i64 0,.int .i64 1]):=by
 have C1:=hid h1;have C2:=hid h2;clear h1 h2;go_enter func7,ntmps7
 have rV:=hid (Below.refl w.heap.size w);go_wp2_with fail
 with_reducible refine(C1.o _).mono ?_
 rintro e W1 ⟨w9,wo,rfl,nk,mf,hb⟩;have ol:=hbt rV hb;have RA:=hid nk;have RB:=hid mf;clear hb nk mf;go_upto_region 2 with fail
 refine aA W1 [(#[.bool w9.b,.slice w9.a w9.n w9.c,.slice w9.e w9.m w9.d],49),(#[.bool wo.b,.slice wo.a wo.n wo.c,.slice wo.e wo.m wo.d],49)] rfl ?_;have L1:=ol.o.size;rintro W2 ⟨k1,k2,hb⟩;have hb:Below W1.heap.size W1 W2:=hb;have oM:=hbt ol hb;have K1:=hid k1;have K2:=hid k2;clear k1 k2 hb;go_wp2_with fail
 with_reducible refine(C2.o _).mono ?_
 rintro e W3 ⟨u6,rfl,mi,hb⟩;obtain ⟨K1,K2⟩:=ax hb K1 K2;have oV:=hbt oM hb;have RC:=hid mi;clear hb mi;go_upto_region 3 with fail
 refine aA W3 [(#[.bool u6.b,.slice u6.a u6.n u6.c,.slice u6.e u6.m u6.d],49)] rfl ?_;have L2:=K1.o.lt;have L3:=K2.o.lt;have L4:=oV.o.size;rintro W4 ⟨k3,hb⟩;have hb:Below W3.heap.size W3 W4:=hb;have kV:=hbt oV hb;have K3:=hid k3;clear k3 hb;go_wp2;exact bodyPost_ret (v:=.tuple #[.int .i64 0,.int .i64 1]) (by simp[results,results7,go_sem]) rfl ⟨rfl,kV.o⟩
theorem yB (a b c:ByteArray)(xa xb xc:Rat)(m:Int)  (w:World)(hm:decide (m<0)=true)(h1:KBo 17 (.string a) (.string b) xa xb (0))(h2:KSb 18 (.string c) xc true)(h3:KP1 19 xc (.int .i64 m))  :
 CR 7 #[.string a,.string b,.string c] w (.tuple #[.int .i64 0,.int .i64 2]):=by
 obtain ⟨C1,C2,C3⟩:=ae h1 h2 h3;have km:=hm;clear hm h1 h2 h3;go_enter func7,ntmps7
 have rV:=hid (Below.refl w.heap.size w);go_wp2_with fail
 with_reducible refine(C1.o _).mono ?_
 rintro e W1 ⟨w9,wo,rfl,nk,mf,hb⟩;have ol:=hbt rV hb;have RA:=hid nk;have RB:=hid mf;clear hb nk mf;go_upto_region 2 with fail
 refine aA W1 [(#[.bool w9.b,.slice w9.a w9.n w9.c,.slice w9.e w9.m w9.d],49),(#[.bool wo.b,.slice wo.a wo.n wo.c,.slice wo.e wo.m wo.d],49)] rfl ?_;have L1:=ol.o.size;rintro W2 ⟨k1,k2,hb⟩;have hb:Below W1.heap.size W1 W2:=hb;have oM:=hbt ol hb;have K1:=hid k1;have K2:=hid k2;clear k1 k2 hb;go_wp2_with fail
 with_reducible refine(C2.o _).mono ?_
 rintro e W3 ⟨u6,rfl,mi,hb⟩;obtain ⟨K1,K2⟩:=ax hb K1 K2;have oV:=hbt oM hb;have RC:=hid mi;clear hb mi;go_upto_region 3 with fail
 refine aA W3 [(#[.bool u6.b,.slice u6.a u6.n u6.c,.slice u6.e u6.m u6.d],49)] rfl ?_;have L2:=K1.o.lt;have L3:=K2.o.lt;have L4:=oV.o.size;rintro W4 ⟨k3,hb⟩;have hb:Below W3.heap.size W3 W4:=hb;have RC:=hid (RC.o.below hb);have kV:=hbt oV hb;have K3:=hid k3;clear k3 hb;obtain ⟨lg,lv,kz⟩:=aK K3.o rfl rfl rfl;go_wp2_with fail
 with_reducible refine(C3.o _ _ RC.o).mono ?_
 rintro e W5 ⟨rfl,hb⟩;clear lg lv kz;have eX:=hbt kV hb;clear hb;go_wp2;exact bodyPost_ret (v:=.tuple #[.int .i64 0,.int .i64 2]) (by simp[results,results7,go_sem]) rfl ⟨rfl,eX.o⟩
theorem z0o (a b c:ByteArray)(xa xb xc:Rat)(m r:Int)  (w:World)(hm:decide (m<0)=false)(h1:KBo 17 (.string a) (.string b) xa xb (0))(h2:KSb 18 (.string c) xc true)(h3:KP1 19 xc (.int .i64 m))(h4:K3q 20 xa xb xc (.int .i64 r))  :
 CR 7 #[.string a,.string b,.string c] w (.tuple #[.int .i64 r,.int .i64 0]):=by
 obtain ⟨C1,C2,C3,C4⟩:=aY h1 h2 h3 h4;have km:=hm;clear hm h1 h2 h3 h4;go_enter func7,ntmps7
 have rV:=hid (Below.refl w.heap.size w);go_wp2_with fail
 with_reducible refine(C1.o _).mono ?_
 rintro e W1 ⟨w9,wo,rfl,nk,mf,hb⟩;have ol:=hbt rV hb;have RA:=hid nk;have RB:=hid mf;clear hb nk mf;go_upto_region 2 with fail
 refine aA W1 [(#[.bool w9.b,.slice w9.a w9.n w9.c,.slice w9.e w9.m w9.d],49),(#[.bool wo.b,.slice wo.a wo.n wo.c,.slice wo.e wo.m wo.d],49)] rfl ?_;have L1:=ol.o.size;rintro W2 ⟨k1,k2,hb⟩;have hb:Below W1.heap.size W1 W2:=hb;obtain ⟨RA,RB⟩:=ax hb RA RB;have oM:=hbt ol hb;have K1:=hid k1;have K2:=hid k2;clear k1 k2 hb;go_wp2_with fail
 with_reducible refine(C2.o _).mono ?_
 rintro e W3 ⟨u6,rfl,mi,hb⟩;obtain ⟨K1,K2,RA,RB⟩:=bI hb K1 K2 RA RB;have oV:=hbt oM hb;have RC:=hid mi;clear hb mi;go_upto_region 3 with fail
 refine aA W3 [(#[.bool u6.b,.slice u6.a u6.n u6.c,.slice u6.e u6.m u6.d],49)] rfl ?_;have L2:=K1.o.lt;have L3:=K2.o.lt;have L4:=oV.o.size;rintro W4 ⟨k3,hb⟩;have hb:Below W3.heap.size W3 W4:=hb;obtain ⟨K1,K2,RA,RB,RC⟩:=dQ hb K1 K2 RA RB RC;have kV:=hbt oV hb;have K3:=hid k3;clear k3 hb;obtain ⟨lg,lv,kz⟩:=aK K3.o rfl rfl rfl;go_wp2_with fail
 with_reducible refine(C3.o _ _ RC.o).mono ?_
 rintro e W5 ⟨rfl,hb⟩;clear lg lv kz;obtain ⟨K1,K2,K3,RA,RB,RC⟩:=jL hb K1 K2 K3 RA RB RC;have eX:=hbt kV hb;clear hb;obtain ⟨ed,ek,eH⟩:=aK K1.o rfl rfl rfl;obtain ⟨gy,fo,fq⟩:=aK K2.o rfl rfl rfl;obtain ⟨lg,lv,kz⟩:=aK K3.o rfl rfl rfl;go_wp2_with fail
 with_reducible refine(C4.o _ _ _ _ RA.o RB.o RC.o).mono ?_
 rintro e W6 ⟨rfl,hb⟩;clear ed ek eH gy fo fq lg lv kz;have dz:=hbt eX hb;clear hb;go_wp2;exact bodyPost_ret (v:=.tuple #[.int .i64 r,.int .i64 0]) (by simp[results,results7,go_sem]) rfl ⟨rfl,dz.o⟩
theorem qR (a b c d:ByteArray)(xa xb xc xd:Rat)(er:Int)  (w:World)  (h1:KBo 17 (.string a) (.string b) xa xb (1))(h2:KBo 17 (.string c) (.string d) xc xd er)  :
 CR 9 #[.string a,.string b,.string c,.string d] w (.tuple #[.int .i64 0,.int .i64 1]):=by
 have C1:=hid h1;have C2:=hid h2;clear h1 h2;go_enter func9,ntmps9
 have rV:=hid (Below.refl w.heap.size w);go_wp2_with fail
 with_reducible refine(C1.o _).mono ?_
 rintro e W1 ⟨w9,wo,rfl,nk,mf,hb⟩;have ol:=hbt rV hb;have RA:=hid nk;have RB:=hid mf;clear hb nk mf;go_upto_region 2 with fail
 refine aA W1 [(#[.bool w9.b,.slice w9.a w9.n w9.c,.slice w9.e w9.m w9.d],49),(#[.bool wo.b,.slice wo.a wo.n wo.c,.slice wo.e wo.m wo.d],49)] rfl ?_;have L1:=ol.o.size;rintro W2 ⟨k1,k2,hb⟩;have hb:Below W1.heap.size W1 W2:=hb;have oM:=hbt ol hb;have K1:=hid k1;have K2:=hid k2;clear k1 k2 hb;go_wp2_with fail
 with_reducible refine(C2.o _).mono ?_
 rintro e W3 ⟨u6,ww,rfl,mi,fQ,hb⟩;obtain ⟨K1,K2⟩:=ax hb K1 K2;have oV:=hbt oM hb;have RC:=hid mi;have RD:=hid fQ;clear hb mi fQ;go_upto_region 3 with fail
 refine aA W3 [(#[.bool u6.b,.slice u6.a u6.n u6.c,.slice u6.e u6.m u6.d],49),(#[.bool ww.b,.slice ww.a ww.n ww.c,.slice ww.e ww.m ww.d],49)] rfl ?_;have L2:=K1.o.lt;have L3:=K2.o.lt;have L4:=oV.o.size;rintro W4 ⟨k3,k4,hb⟩;have hb:Below W3.heap.size W3 W4:=hb;have kV:=hbt oV hb;have K3:=hid k3;have K4:=hid k4;clear k3 k4 hb;go_wp2;exact bodyPost_ret (v:=.tuple #[.int .i64 0,.int .i64 1]) (by simp[results,results9,go_sem]) rfl ⟨rfl,kV.o⟩
theorem xh (a b c d:ByteArray)(xa xb xc xd:Rat)  (w:World)  (h1:KBo 17 (.string a) (.string b) xa xb (0))(h2:KBo 17 (.string c) (.string d) xc xd (1))  :
 CR 9 #[.string a,.string b,.string c,.string d] w (.tuple #[.int .i64 0,.int .i64 1]):=by
 have C1:=hid h1;have C2:=hid h2;clear h1 h2;go_enter func9,ntmps9
 have rV:=hid (Below.refl w.heap.size w);go_wp2_with fail
 with_reducible refine(C1.o _).mono ?_
 rintro e W1 ⟨w9,wo,rfl,nk,mf,hb⟩;have ol:=hbt rV hb;have RA:=hid nk;have RB:=hid mf;clear hb nk mf;go_upto_region 2 with fail
 refine aA W1 [(#[.bool w9.b,.slice w9.a w9.n w9.c,.slice w9.e w9.m w9.d],49),(#[.bool wo.b,.slice wo.a wo.n wo.c,.slice wo.e wo.m wo.d],49)] rfl ?_;have L1:=ol.o.size;rintro W2 ⟨k1,k2,hb⟩;have hb:Below W1.heap.size W1 W2:=hb;have oM:=hbt ol hb;have K1:=hid k1;have K2:=hid k2;clear k1 k2 hb;go_wp2_with fail
 with_reducible refine(C2.o _).mono ?_
 rintro e W3 ⟨u6,ww,rfl,mi,fQ,hb⟩;obtain ⟨K1,K2⟩:=ax hb K1 K2;have oV:=hbt oM hb;have RC:=hid mi;have RD:=hid fQ;clear hb mi fQ;go_upto_region 3 with fail
 refine aA W3 [(#[.bool u6.b,.slice u6.a u6.n u6.c,.slice u6.e u6.m u6.d],49),(#[.bool ww.b,.slice ww.a ww.n ww.c,.slice ww.e ww.m ww.d],49)] rfl ?_;have L2:=K1.o.lt;have L3:=K2.o.lt;have L4:=oV.o.size;rintro W4 ⟨k3,k4,hb⟩;have hb:Below W3.heap.size W3 W4:=hb;have kV:=hbt oV hb;have K3:=hid k3;have K4:=hid k4;clear k3 k4 hb;go_wp2;exact bodyPost_ret (v:=.tuple #[.int .i64 0,.int .i64 1]) (by simp[results,results9,go_sem]) rfl ⟨rfl,kV.o⟩
theorem z2d (a b c d:ByteArray)(xa xb xc xd:Rat)(k:Int)  (w:World)(hk:decide (k<0)=true)(h1:KBo 17 (.string a) (.string b) xa xb (0))(h2:KBo 17 (.string c) (.string d) xc xd (0))(h3:KP1 19 xb (.int .i64 k))  :
 CR 9 #[.string a,.string b,.string c,.string d] w (.tuple #[.int .i64 0,.int .i64 2]):=by
 obtain ⟨C1,C2,C3⟩:=ae h1 h2 h3;have kk:=hk;clear hk h1 h2 h3;go_enter func9,ntmps9
 have rV:=hid (Below.refl w.heap.size w);go_wp2_with fail
 with_reducible refine(C1.o _).mono ?_
 rintro e W1 ⟨w9,wo,rfl,nk,mf,hb⟩;have ol:=hbt rV hb;have RA:=hid nk;have RB:=hid mf;clear hb nk mf;go_upto_region 2 with fail
 refine aA W1 [(#[.bool w9.b,.slice w9.a w9.n w9.c,.slice w9.e w9.m w9.d],49),(#[.bool wo.b,.slice wo.a wo.n wo.c,.slice wo.e wo.m wo.d],49)] rfl ?_;have L1:=ol.o.size;rintro W2 ⟨k1,k2,hb⟩;have hb:Below W1.heap.size W1 W2:=hb;have RB:=hid (RB.o.below hb);have oM:=hbt ol hb;have K1:=hid k1;have K2:=hid k2;clear k1 k2 hb;go_wp2_with fail
 with_reducible refine(C2.o _).mono ?_
 rintro e W3 ⟨u6,ww,rfl,mi,fQ,hb⟩;obtain ⟨K1,K2,RB⟩:=aI hb K1 K2 RB;have oV:=hbt oM hb;have RC:=hid mi;have RD:=hid fQ;clear hb mi fQ;go_upto_region 3 with fail
 refine aA W3 [(#[.bool u6.b,.slice u6.a u6.n u6.c,.slice u6.e u6.m u6.d],49),(#[.bool ww.b,.slice ww.a ww.n ww.c,.slice ww.e ww.m ww.d],49)] rfl ?_;have L2:=K1.o.lt;have L3:=K2.o.lt;have L4:=oV.o.size;rintro W4 ⟨k3,k4,hb⟩;have hb:Below W3.heap.size W3 W4:=hb;obtain ⟨K2,RB⟩:=ax hb K2 RB;have kV:=hbt oV hb;have K3:=hid k3;have K4:=hid k4;clear k3 k4 hb;obtain ⟨gy,fo,fq⟩:=aK K2.o rfl rfl rfl;go_wp2_with fail
 with_reducible refine(C3.o _ _ RB.o).mono ?_
 rintro e W5 ⟨rfl,hb⟩;clear gy fo fq;have eX:=hbt kV hb;clear hb;go_wp2;exact bodyPost_ret (v:=.tuple #[.int .i64 0,.int .i64 2]) (by simp[results,results9,go_sem]) rfl ⟨rfl,eX.o⟩
theorem z2c (a b c d:ByteArray)(xa xb xc xd:Rat)(k m:Int)  (w:World)(hk:decide (k<0)=false)(hm:decide (m<0)=true)(h1:KBo 17 (.string a) (.string b) xa xb (0))(h2:KBo 17 (.string c) (.string d) xc xd (0))(h3:KP1 19 xb (.int .i64 k))(h4:KP1 19 xd (.int .i64 m))  :
 CR 9 #[.string a,.string b,.string c,.string d] w (.tuple #[.int .i64 0,.int .i64 2]):=by
 obtain ⟨C1,C2,C3,C4⟩:=aY h1 h2 h3 h4;have kk:=hk;have km:=hm;clear hk hm h1 h2 h3 h4;go_enter func9,ntmps9
 have rV:=hid (Below.refl w.heap.size w);go_wp2_with fail
 with_reducible refine(C1.o _).mono ?_
 rintro e W1 ⟨w9,wo,rfl,nk,mf,hb⟩;have ol:=hbt rV hb;have RA:=hid nk;have RB:=hid mf;clear hb nk mf;go_upto_region 2 with fail
 refine aA W1 [(#[.bool w9.b,.slice w9.a w9.n w9.c,.slice w9.e w9.m w9.d],49),(#[.bool wo.b,.slice wo.a wo.n wo.c,.slice wo.e wo.m wo.d],49)] rfl ?_;have L1:=ol.o.size;rintro W2 ⟨k1,k2,hb⟩;have hb:Below W1.heap.size W1 W2:=hb;have RB:=hid (RB.o.below hb);have oM:=hbt ol hb;have K1:=hid k1;have K2:=hid k2;clear k1 k2 hb;go_wp2_with fail
 with_reducible refine(C2.o _).mono ?_
 rintro e W3 ⟨u6,ww,rfl,mi,fQ,hb⟩;obtain ⟨K1,K2,RB⟩:=aI hb K1 K2 RB;have oV:=hbt oM hb;have RC:=hid mi;have RD:=hid fQ;clear hb mi fQ;go_upto_region 3 with fail
 refine aA W3 [(#[.bool u6.b,.slice u6.a u6.n u6.c,.slice u6.e u6.m u6.d],49),(#[.bool ww.b,.slice ww.a ww.n ww.c,.slice ww.e ww.m ww.d],49)] rfl ?_;have L2:=K1.o.lt;have L3:=K2.o.lt;have L4:=oV.o.size;rintro W4 ⟨k3,k4,hb⟩;have hb:Below W3.heap.size W3 W4:=hb;obtain ⟨K2,RB,RD⟩:=aI hb K2 RB RD;have kV:=hbt oV hb;have K3:=hid k3;have K4:=hid k4;clear k3 k4 hb;obtain ⟨gy,fo,fq⟩:=aK K2.o rfl rfl rfl;go_wp2_with fail
 with_reducible refine(C3.o _ _ RB.o).mono ?_
 rintro e W5 ⟨rfl,hb⟩;clear gy fo fq;obtain ⟨K4,RD⟩:=ax hb K4 RD;have eX:=hbt kV hb;clear hb;obtain ⟨bv,bM,bV⟩:=aK K4.o rfl rfl rfl;go_wp2_with fail
 with_reducible refine(C4.o _ _ RD.o).mono ?_
 rintro e W6 ⟨rfl,hb⟩;clear bv bM bV;have dz:=hbt eX hb;clear hb;go_wp2;exact bodyPost_ret (v:=.tuple #[.int .i64 0,.int .i64 2]) (by simp[results,results9,go_sem]) rfl ⟨rfl,dz.o⟩
theorem z2a (a b c d:ByteArray)(xa xb xc xd:Rat)(k m sa sc r:Int)(pa qa ia va pc qc ic vc:Rat)  (w:World)(hk:decide (k<0)=false)(hm:decide (m<0)=false)(h1:KBo 17 (.string a) (.string b) xa xb (0))(h2:KBo 17 (.string c) (.string d) xc xd (0))(h3:KP1 19 xb (.int .i64 k))(h4:KP1 19 xd (.int .i64 m))(h51:KQ2 22 xa xa pa)(h52:KQ2 22 pa xb qa)(h53:KP1 19 xa (.int .i64 sa))(h54:KS 23 (.int .i64 sa) ia)(h55:KQ2 22 qa ia va)(h61:KQ2 22 xc xc pc)(h62:KQ2 22 pc xd qc)(h63:KP1 19 xc (.int .i64 sc))(h64:KS 23 (.int .i64 sc) ic)(h65:KQ2 22 qc ic vc)(h7:KP2 24 va vc (.int .i64 r))  :
 CR 9 #[.string a,.string b,.string c,.string d] w (.tuple #[.int .i64 r,.int .i64 0]):=by
 obtain ⟨C1,C2,C3,C4,C51,C52,C53,C54,C55⟩:=bZ h1 h2 h3 h4 h51 h52 h53 h54 h55;obtain ⟨C61,C62,C63,C64,C65,C7⟩:=bX h61 h62 h63 h64 h65 h7;have kk:=hk;have km:=hm;clear hk hm h1 h2 h3 h4 h51 h52 h53 h54 h55 h61 h62 h63 h64 h65 h7;go_enter func9,ntmps9
 have rV:=hid (Below.refl w.heap.size w);go_wp2_with fail
 with_reducible refine(C1.o _).mono ?_
 rintro e W1 ⟨w9,wo,rfl,nk,mf,hb⟩;have ol:=hbt rV hb;have RA:=hid nk;have RB:=hid mf;clear hb nk mf;go_upto_region 2 with fail
 refine aA W1 [(#[.bool w9.b,.slice w9.a w9.n w9.c,.slice w9.e w9.m w9.d],49),(#[.bool wo.b,.slice wo.a wo.n wo.c,.slice wo.e wo.m wo.d],49)] rfl ?_;have L1:=ol.o.size;rintro W2 ⟨k1,k2,hb⟩;have hb:Below W1.heap.size W1 W2:=hb;obtain ⟨RA,RB⟩:=ax hb RA RB;have oM:=hbt ol hb;have K1:=hid k1;have K2:=hid k2;clear k1 k2 hb;go_wp2_with fail
 with_reducible refine(C2.o _).mono ?_
 rintro e W3 ⟨u6,ww,rfl,mi,fQ,hb⟩;obtain ⟨K1,K2,RA,RB⟩:=bI hb K1 K2 RA RB;have oV:=hbt oM hb;have RC:=hid mi;have RD:=hid fQ;clear hb mi fQ;go_upto_region 3 with fail
 refine aA W3 [(#[.bool u6.b,.slice u6.a u6.n u6.c,.slice u6.e u6.m u6.d],49),(#[.bool ww.b,.slice ww.a ww.n ww.c,.slice ww.e ww.m ww.d],49)] rfl ?_;have L2:=K1.o.lt;have L3:=K2.o.lt;have L4:=oV.o.size;rintro W4 ⟨k3,k4,hb⟩;have hb:Below W3.heap.size W3 W4:=hb;obtain ⟨K1,K2,RA,RB,RC,RD⟩:=jL hb K1 K2 RA RB RC RD;have kV:=hbt oV hb;have K3:=hid k3;have K4:=hid k4;clear k3 k4 hb;obtain ⟨gy,fo,fq⟩:=aK K2.o rfl rfl rfl;go_wp2_with fail
 with_reducible refine(C3.o _ _ RB.o).mono ?_
 rintro e W5 ⟨rfl,hb⟩;clear gy fo fq;obtain ⟨K1,K2,K3,K4,RA,RB,RC,RD⟩:=xw hb K1 K2 K3 K4 RA RB RC RD;have eX:=hbt kV hb;clear hb;obtain ⟨bv,bM,bV⟩:=aK K4.o rfl rfl rfl;go_wp2_with fail
 with_reducible refine(C4.o _ _ RD.o).mono ?_
 rintro e W6 ⟨rfl,hb⟩;clear bv bM bV;obtain ⟨K1,K2,K3,K4,RA,RB,RC,RD⟩:=xw hb K1 K2 K3 K4 RA RB RC RD;have dz:=hbt eX hb;clear hb;go_wp2_with fail
 have L5:=K1.o.lt;have L6:=K2.o.lt;have L7:=K3.o.lt;have L8:=K4.o.lt;have L9:=dz.o.size;refine az (fun a0 a' V=>∃ (dX:QS) (dY:QS) (cO:QS) (rM:QS) (gn1:Nat),a'=⟨putL [(46,w9.v),(47,w9.v),(48,dX.v),(49,wo.v),(50,dY.v),(51,w9.v),(52,.int .i64 sa),(53,cO.v),(54,rM.v),(16,.pointer (some ⟨gn1,0,none⟩))] a0.tmps,a0.defers⟩∧Below w.heap.size w V∧SBk V (W1.heap.size) #[.bool w9.b,.slice w9.a w9.n w9.c,.slice w9.e w9.m w9.d] 49∧SBk V (W1.heap.size+1) #[.bool wo.b,.slice wo.a wo.n wo.c,.slice wo.e wo.m wo.d] 49∧SBk V (W3.heap.size) #[.bool u6.b,.slice u6.a u6.n u6.c,.slice u6.e u6.m u6.d] 49∧SBk V (W3.heap.size+1) #[.bool ww.b,.slice ww.a ww.n ww.c,.slice ww.e ww.m ww.d] 49∧SBk V (gn1) #[.bool rM.b,.slice rM.a rM.n rM.c,.slice rM.e rM.m rM.d] 49∧FQ V u6 xc∧FQ V ww xd∧FQ V rM va∧W6.heap.size≤gn1) ?_ ?_
 · refine aC (by kernel_rfl) 10 1 (fun i=>[46,47,48,49,50,51,52,53,54,16].getD i 0) (RelR [Rel.val (w9.v),Rel.val (w9.v),Rel.q pa,Rel.val (wo.v),Rel.q qa,Rel.val (w9.v),Rel.val (.int .i64 sa),Rel.q ia,Rel.q va,Rel.ptr W6.heap.size (.cells #[.bool false,.slice none 0 0,.slice none 0 0] 49)]) (fun W=>Below W6.heap.size W6 W) (fun _ _=>True) (by kernel_rfl) (by kernel_rfl) (by kernel_rfl) trivial (Below.refl _ _).drew ?_ ?_
   · intro wu a W i hI hD hrd him
     obtain ⟨HI,Hr⟩:=aH hI hrd;clear hI hrd hD;have y10:a.tmps[10]? = some (.pointer (some ⟨W1.heap.size,0,none⟩)):=HI.o.rest 10 (by decide);have y11:a.tmps[11]? = some (.pointer (some ⟨W1.heap.size+1,0,none⟩)):=HI.o.rest 11 (by decide);obtain⟨ed,ek,eH⟩:=cells3 (K1.o.below HI.o.world);obtain⟨gy,fo,fq⟩:=cells3 (K2.o.below HI.o.world);have X0:RV _ wu a 0 46 (w9.v):=HI.o.rh;have X1:RV _ wu a 1 47 (w9.v):=HI.o.rh;have X3:RV _ wu a 3 49 (wo.v):=HI.o.rh;have X5:RV _ wu a 5 51 (w9.v):=HI.o.rh;have X6:RV _ wu a 6 52 (.int .i64 sa):=HI.o.rh
     match i,him,Hr with
     | 0,_,Hi|1,_,Hi|3,_,Hi|5,_,Hi =>
       refine aj rfl fun K' hK=>?_;go_simp;exact hK.o _ _ ⟨HI.o.pv Hi.o rfl,trivial⟩
     | 2,_,Hi =>
       have x0:=X0.g Hi.o (by kernel_rfl);have x1:=X1.g Hi.o (by kernel_rfl);refine aj rfl fun K' hK=>?_;go_simp;with_reducible refine(C51.o _ _ _ (RA.o.below HI.o.world) (RA.o.below HI.o.world)).mono ?_
       rintro e W' ⟨dX,rfl,u0h,hb⟩;exact hK.o _ _ ⟨HI.o.pc Hi.o hb ⟨dX,rfl,u0h⟩,trivial⟩
     | 4,_,Hi =>
       obtain⟨dX,x2,u02⟩:=qAt HI.o 2 48 Hi.o (by kernel_rfl);have x3:=X3.g Hi.o (by kernel_rfl);refine aj rfl fun K' hK=>?_;go_simp;with_reducible refine(C52.o _ _ _ u02.o (RB.o.below HI.o.world)).mono ?_
       rintro e W' ⟨dY,rfl,u0i,hb⟩;exact hK.o _ _ ⟨HI.o.pc Hi.o hb ⟨dY,rfl,u0i⟩,trivial⟩
     | 6,_,Hi =>
       have x5:=X5.g Hi.o (by kernel_rfl);refine aj rfl fun K' hK=>?_;go_simp;with_reducible refine(C53.o _ _ (RA.o.below HI.o.world)).mono ?_
       rintro e W' ⟨rfl,hb⟩;exact hK.o _ _ ⟨HI.o.pc Hi.o hb rfl,trivial⟩
     | 7,_,Hi =>
       have x6:=X6.g Hi.o (by kernel_rfl);refine aj rfl fun K' hK=>?_;go_simp;with_reducible refine(C54.o _).mono ?_
       rintro e W' ⟨cO,rfl,u0j,hb⟩;exact hK.o _ _ ⟨HI.o.pc Hi.o hb ⟨cO,rfl,u0j⟩,trivial⟩
     | 8,_,Hi =>
       obtain⟨dY,x4,u03⟩:=qAt HI.o 4 50 Hi.o (by kernel_rfl);obtain⟨cO,x7,u04⟩:=qAt HI.o 7 53 Hi.o (by kernel_rfl);refine aj rfl fun K' hK=>?_;go_simp;with_reducible refine(C55.o _ _ _ u03.o u04.o).mono ?_
       rintro e W' ⟨rM,rfl,u0k,hb⟩;exact hK.o _ _ ⟨HI.o.pc Hi.o hb ⟨rM,rfl,u0k⟩,trivial⟩
     | 9,_,Hi =>
       refine aj rfl fun K' hK=>?_;go_simp;exact hK.o _ _ ⟨HI.o.pc Hi.o ((Below.refl W.heap.size W).alloc (Nat.le_refl _) (.cells #[.bool false,.slice none 0 0,.slice none 0 0] 49)) ⟨W.heap.size,rfl,HI.o.world.size,SBk.new _ _ _⟩,trivial⟩
     | n+10,h,_=>exact absurd h (by omega)
   · intro wu a W hI hD pq
     obtain⟨dX,x2,u02⟩:=qEnd hI pq 2 48;obtain⟨dY,x4,u03⟩:=qEnd hI pq 4 50;obtain⟨cO,x7,u04⟩:=qEnd hI pq 7 53;obtain⟨rM,x8,u0l⟩:=qEnd hI pq 8 54;obtain⟨v',x9,gn1,e,hge,hsb⟩:=hI.slots 9 (by decide) (pq 9 (by decide));obtain rfl:=e;have x9:a.tmps[16]? = some (.pointer (some ⟨gn1,0,none⟩)):=x9;obtain ⟨RRG,hsb⟩:=aH hge hsb;clear hge;obtain ⟨l5,HI,HA⟩:=ae hI.world hI pq;clear hI pq;obtain ⟨K1,K2,K3,K4,RC,RD⟩:=jL l5.o K1 K2 K3 K4 RC RD;have K5:Hid (SBk W gn1 #[.bool false,.slice none 0 0,.slice none 0 0] 49):=hsb;have kM:=hid (dz.o.trans (l5.o.mono dz.o.size));have RP5:=u02;have RQ5:=u03;have RI5:=u04;have RV5:=u0l;obtain⟨u09,u0a,u0b⟩:=cells3 K5.o;obtain⟨u0r,u0s,u0t⟩:=frz3 K5.o;dsimp only[QS.v]at x8;refine bG (t:=0) ?_;refine aj rfl fun K' hK=>?_;go_simp;refine hK.o _ _ ?_;clear hK;refine aT ?_;rw[← oN];have s0:∀ {q':QS} {x':Rat},FQ W q' x'→FQ (storeAll W (gn1) 0 [.bool rM.b,.slice rM.a rM.n rM.c,.slice rM.e rM.m rM.d]) q' x':=fun h'=>dP _ 0 h' K5.o (by simp[cB]) (by simp[bH]);have o0:∀ {g':Nat} {cs':Array Value} {T':TypeId},g'≠gn1→SBk W g' cs' T'→SBk (storeAll W (gn1) 0 [.bool rM.b,.slice rM.a rM.n rM.c,.slice rM.e rM.m rM.d]) g' cs' T':=fun hg' h'=>aZ hg' _ 0 h';exact⟨rfl,dX,dY,cO,rM,gn1,(HI.o.finx ⟨HI.o.sx HA.o 0,HI.o.sx HA.o 1,x2,HI.o.sx HA.o 3,x4,HI.o.sx HA.o 5,HI.o.sx HA.o 6,x7,x8,x9,trivial⟩ rfl),(aJ (l:=[.bool rM.b,.slice rM.a rM.n rM.c,.slice rM.e rM.m rM.d]) (i:=0) (by have:=RRG.o;omega) kM.o),(o0 (by have:=RRG.o;omega) K1.o),(o0 (by have:=RRG.o;omega) K2.o),(o0 (by have:=RRG.o;omega) K3.o),(o0 (by have:=RRG.o;omega) K4.o),(bY K5.o),(s0 RC.o),(s0 RD.o),(s0 RV5.o),RRG.o⟩
 rintro a' W7 ⟨dX,dY,cO,rM,gn1,rfl,z0,z1,z2,z3,z4,z5,z6,z7,z8,z9⟩;obtain ⟨HB7,K1,K2,K3,K4,K5,RC,RD,RV5⟩:=bZ z0 z1 z2 z3 z4 z5 z6 z7 z8;have RRW7:=hid z9;clear z0 z1 z2 z3 z4 z5 z6 z7 z8 z9;simp only[putL,List.setIfInBounds_toArray,List.set_cons_zero,List.set_cons_succ];go_wp2_with fail
 have L11:=K1.o.lt;have L12:=K2.o.lt;have L13:=K3.o.lt;have L14:=K4.o.lt;have L15:=K5.o.lt;have L16:=HB7.o.size;refine az (fun a0 a' V=>∃ (bg:QS) (bn:QS) (bq:QS) (sw:QS) (gn2:Nat),a'=⟨putL [(55,u6.v),(56,u6.v),(57,bg.v),(58,ww.v),(59,bn.v),(60,u6.v),(61,.int .i64 sc),(62,bq.v),(63,sw.v),(17,.pointer (some ⟨gn2,0,none⟩))] a0.tmps,a0.defers⟩∧Below w.heap.size w V∧SBk V (gn1) #[.bool rM.b,.slice rM.a rM.n rM.c,.slice rM.e rM.m rM.d] 49∧SBk V (gn2) #[.bool sw.b,.slice sw.a sw.n sw.c,.slice sw.e sw.m sw.d] 49∧FQ V rM va∧FQ V sw vc∧W7.heap.size≤gn2) ?_ ?_
 · refine aC (by kernel_rfl) 10 1 (fun i=>[55,56,57,58,59,60,61,62,63,17].getD i 0) (RelR [Rel.val (u6.v),Rel.val (u6.v),Rel.q pc,Rel.val (ww.v),Rel.q qc,Rel.val (u6.v),Rel.val (.int .i64 sc),Rel.q ic,Rel.q vc,Rel.ptr W7.heap.size (.cells #[.bool false,.slice none 0 0,.slice none 0 0] 49)]) (fun W=>Below W7.heap.size W7 W) (fun _ _=>True) (by kernel_rfl) (by kernel_rfl) (by kernel_rfl) trivial (Below.refl _ _).drew ?_ ?_
   · intro wu a W i hI hD hrd him
     obtain ⟨HI,Hr⟩:=aH hI hrd;clear hI hrd hD;have y13:a.tmps[13]? = some (.pointer (some ⟨W3.heap.size,0,none⟩)):=HI.o.rest 13 (by decide);have y14:a.tmps[14]? = some (.pointer (some ⟨W3.heap.size+1,0,none⟩)):=HI.o.rest 14 (by decide);obtain⟨lg,lv,kz⟩:=cells3 (K3.o.below HI.o.world);obtain⟨bv,bM,bV⟩:=cells3 (K4.o.below HI.o.world);have X0:RV _ wu a 0 55 (u6.v):=HI.o.rh;have X1:RV _ wu a 1 56 (u6.v):=HI.o.rh;have X3:RV _ wu a 3 58 (ww.v):=HI.o.rh;have X5:RV _ wu a 5 60 (u6.v):=HI.o.rh;have X6:RV _ wu a 6 61 (.int .i64 sc):=HI.o.rh
     match i,him,Hr with
     | 0,_,Hi|1,_,Hi|3,_,Hi|5,_,Hi =>
       refine aj rfl fun K' hK=>?_;go_simp;exact hK.o _ _ ⟨HI.o.pv Hi.o rfl,trivial⟩
     | 2,_,Hi =>
       have x0:=X0.g Hi.o (by kernel_rfl);have x1:=X1.g Hi.o (by kernel_rfl);refine aj rfl fun K' hK=>?_;go_simp;with_reducible refine(C61.o _ _ _ (RC.o.below HI.o.world) (RC.o.below HI.o.world)).mono ?_
       rintro e W' ⟨bg,rfl,u0m,hb⟩;exact hK.o _ _ ⟨HI.o.pc Hi.o hb ⟨bg,rfl,u0m⟩,trivial⟩
     | 4,_,Hi =>
       obtain⟨bg,x2,u06⟩:=qAt HI.o 2 57 Hi.o (by kernel_rfl);have x3:=X3.g Hi.o (by kernel_rfl);refine aj rfl fun K' hK=>?_;go_simp;with_reducible refine(C62.o _ _ _ u06.o (RD.o.below HI.o.world)).mono ?_
       rintro e W' ⟨bn,rfl,u0n,hb⟩;exact hK.o _ _ ⟨HI.o.pc Hi.o hb ⟨bn,rfl,u0n⟩,trivial⟩
     | 6,_,Hi =>
       have x5:=X5.g Hi.o (by kernel_rfl);refine aj rfl fun K' hK=>?_;go_simp;with_reducible refine(C63.o _ _ (RC.o.below HI.o.world)).mono ?_
       rintro e W' ⟨rfl,hb⟩;exact hK.o _ _ ⟨HI.o.pc Hi.o hb rfl,trivial⟩
     | 7,_,Hi =>
       have x6:=X6.g Hi.o (by kernel_rfl);refine aj rfl fun K' hK=>?_;go_simp;with_reducible refine(C64.o _).mono ?_
       rintro e W' ⟨bq,rfl,u0o,hb⟩;exact hK.o _ _ ⟨HI.o.pc Hi.o hb ⟨bq,rfl,u0o⟩,trivial⟩
     | 8,_,Hi =>
       obtain⟨bn,x4,u07⟩:=qAt HI.o 4 59 Hi.o (by kernel_rfl);obtain⟨bq,x7,u08⟩:=qAt HI.o 7 62 Hi.o (by kernel_rfl);refine aj rfl fun K' hK=>?_;go_simp;with_reducible refine(C65.o _ _ _ u07.o u08.o).mono ?_
       rintro e W' ⟨sw,rfl,u00,hb⟩;exact hK.o _ _ ⟨HI.o.pc Hi.o hb ⟨sw,rfl,u00⟩,trivial⟩
     | 9,_,Hi =>
       refine aj rfl fun K' hK=>?_;go_simp;exact hK.o _ _ ⟨HI.o.pc Hi.o ((Below.refl W.heap.size W).alloc (Nat.le_refl _) (.cells #[.bool false,.slice none 0 0,.slice none 0 0] 49)) ⟨W.heap.size,rfl,HI.o.world.size,SBk.new _ _ _⟩,trivial⟩
     | n+10,h,_=>exact absurd h (by omega)
   · intro wu a W hI hD pq
     obtain⟨bg,x2,u06⟩:=qEnd hI pq 2 57;obtain⟨bn,x4,u07⟩:=qEnd hI pq 4 59;obtain⟨bq,x7,u08⟩:=qEnd hI pq 7 62;obtain⟨sw,x8,bu⟩:=qEnd hI pq 8 63;obtain⟨v',x9,gn2,e,hge,hsb⟩:=hI.slots 9 (by decide) (pq 9 (by decide));obtain rfl:=e;have x9:a.tmps[17]? = some (.pointer (some ⟨gn2,0,none⟩)):=x9;obtain ⟨RRG,hsb⟩:=aH hge hsb;clear hge;obtain ⟨l5,HI,HA⟩:=ae hI.world hI pq;clear hI pq;obtain ⟨K5,RV5⟩:=ax l5.o K5 RV5;have K6:Hid (SBk W gn2 #[.bool false,.slice none 0 0,.slice none 0 0] 49):=hsb;have kM:=hid (HB7.o.trans (l5.o.mono HB7.o.size));have RP6:=u06;have RQ6:=u07;have RI6:=u08;have RV6:=bu;obtain⟨u0c,u0d,u0e⟩:=cells3 K6.o;obtain⟨u0u,u0v,u0w⟩:=frz3 K6.o;dsimp only[QS.v]at x8;refine bG (t:=0) ?_;refine aj rfl fun K' hK=>?_;go_simp;refine hK.o _ _ ?_;clear hK;refine aT ?_;rw[← oN];have s0:∀ {q':QS} {x':Rat},FQ W q' x'→FQ (storeAll W (gn2) 0 [.bool sw.b,.slice sw.a sw.n sw.c,.slice sw.e sw.m sw.d]) q' x':=fun h'=>dP _ 0 h' K6.o (by simp[cB]) (by simp[bH]);have o0:∀ {g':Nat} {cs':Array Value} {T':TypeId},g'≠gn2→SBk W g' cs' T'→SBk (storeAll W (gn2) 0 [.bool sw.b,.slice sw.a sw.n sw.c,.slice sw.e sw.m sw.d]) g' cs' T':=fun hg' h'=>aZ hg' _ 0 h';exact⟨rfl,bg,bn,bq,sw,gn2,(HI.o.finx ⟨HI.o.sx HA.o 0,HI.o.sx HA.o 1,x2,HI.o.sx HA.o 3,x4,HI.o.sx HA.o 5,HI.o.sx HA.o 6,x7,x8,x9,trivial⟩ rfl),(aJ (l:=[.bool sw.b,.slice sw.a sw.n sw.c,.slice sw.e sw.m sw.d]) (i:=0) (by have:=RRW7.o;have:=RRG.o;omega) kM.o),(o0 (by have:=RRW7.o;have:=RRG.o;omega) K5.o),(bY K6.o),(s0 RV5.o),(s0 RV6.o),RRG.o⟩
 rintro a' W8 ⟨bg,bn,bq,sw,gn2,rfl,z0,z1,z2,z3,z4,z5⟩;obtain ⟨HB8,K5,K6,RV5,RV6,RRW8⟩:=bX z0 z1 z2 z3 z4 z5;clear z0 z1 z2 z3 z4 z5;simp only[putL,List.setIfInBounds_toArray,List.set_cons_zero,List.set_cons_succ];obtain ⟨u09,u0a,u0b⟩:=aK K5.o rfl rfl rfl;obtain ⟨u0c,u0d,u0e⟩:=aK K6.o rfl rfl rfl;go_wp2_with fail
 with_reducible refine(C7.o _ _ _ RV5.o RV6.o).mono ?_
 rintro e W9 ⟨rfl,hb⟩;clear u09 u0a u0b u0c u0d u0e;have HB9:=hbt HB8 hb;clear hb;go_wp2;exact bodyPost_ret (v:=.tuple #[.int .i64 r,.int .i64 0]) (by simp[results,results9,go_sem]) rfl ⟨rfl,HB9.o⟩
