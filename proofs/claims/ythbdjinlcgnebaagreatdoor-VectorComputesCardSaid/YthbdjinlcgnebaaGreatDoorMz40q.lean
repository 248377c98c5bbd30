/- texts -/
import Derived.Test.YthbdjinlcgnebaaGreatDoorMz38q
open Go.Proofs.Tryz
set_option maxRecDepth 100000
set_option maxHeartbeats 20000000
open Go.Lib (hid)
namespace Go.Proofs.YthbdjinlcgnebaaGreatDoor
open Go.RowKit Go.Gb
theorem ou (x y z u v t p0 q0 p1 q1 p2 q2 l m n:ByteArray)(w₀:World)(h1:CV w₀ 58 #[.string y,.string t] (.string p0))(h2:CV w₀ 58 #[.string z,.string v] (.string q0))(h3:CV w₀ 33 #[.string p0,.string q0] (.string l))(h4:CV w₀ 58 #[.string z,.string u] (.string p1))(h5:CV w₀ 58 #[.string x,.string t] (.string q1))(h6:CV w₀ 33 #[.string p1,.string q1] (.string m))(h7:CV w₀ 58 #[.string x,.string v] (.string p2))(h8:CV w₀ 58 #[.string y,.string u] (.string q2))(h9:CV w₀ 33 #[.string p2,.string q2] (.string n))  :
 CV w₀ 43 #[.agg #[.string x,.string y,.string z],.agg #[.string u,.string v,.string t]] (.agg #[.string l,.string m,.string n]):=by
 intro w hw;obtain ⟨C1,C2,C3,C4,C5,C6,C7,C8,C9⟩:=bR (h1.mono hw) (h2.mono hw) (h3.mono hw) (h4.mono hw) (h5.mono hw) (h6.mono hw) (h7.mono hw) (h8.mono hw) (h9.mono hw);clear h1 h2 h3 h4 h5 h6 h7 h8 h9 hw;go_enter func43,ntmps43
 go_upto_region 1 with fail
 refine ak w [(#[.string x,.string y,.string z],51),(#[.string u,.string v,.string t],51),(#[.string ⟨#[]⟩,.string ⟨#[]⟩,.string ⟨#[]⟩],51)] rfl ?_;rintro W0 ⟨k1,k2,k3,hb⟩;have ww:=hid (show Below w.heap.size w W0 from hb);obtain ⟨K1,K2,K3⟩:=ae k1 k2 k3;clear k1 k2 k3 hb;go_upto_region 2 with fail
 refine ak W0 [(#[.string ⟨#[]⟩,.string ⟨#[]⟩,.string ⟨#[]⟩],51)] rfl ?_;have L1:=K1.out.lt;have L2:=K2.out.lt;have L3:=K3.out.lt;have L4:=ww.out.size;rintro W1 ⟨k4,hb⟩;have hb:Below W0.heap.size W0 W1:=hb;obtain ⟨K1,K2,K3⟩:=aZ hb K1 K2 K3;have w9:=hbt ww hb;have K4:=hid k4;clear k4 hb;go_wp2;refine wp_loop_rounds 4 ?_;rw[rounds_succ];go_wp2_with fail
 refine aB (fun a0 a' V=>a'=⟨aV [(18,.int .i64 0),(19,.int .i64 1),(20,.pointer (some ⟨w.heap.size,1,none⟩)),(21,.string y),(22,.int .i64 2),(23,.pointer (some ⟨w.heap.size+1,2,none⟩)),(24,.string t),(25,.string p0),(26,.int .i64 2),(27,.pointer (some ⟨w.heap.size,2,none⟩)),(28,.string z),(29,.int .i64 1),(30,.pointer (some ⟨w.heap.size+1,1,none⟩)),(31,.string v),(32,.string q0),(33,.string l),(34,.pointer (some ⟨W0.heap.size,0,none⟩))] a0.tmps,a0.defers⟩∧Below w.heap.size w V∧SBk V (w.heap.size) #[.string x,.string y,.string z] 51∧SBk V (w.heap.size+1) #[.string u,.string v,.string t] 51∧SBk V (w.heap.size+1+1) #[.string ⟨#[]⟩,.string ⟨#[]⟩,.string ⟨#[]⟩] 51∧SBk V (W0.heap.size) #[.string l,.string ⟨#[]⟩,.string ⟨#[]⟩] 51) ?_ ?_
 · refine ay (by kernel_rfl) 17 1 (fun i=>[18,19,20,21,22,23,24,25,26,27,28,29,30,31,32,33,34].getD i 0) (RelR [Rel.val (.int .i64 0),Rel.val (.int .i64 1),Rel.val (.pointer (some ⟨w.heap.size,1,none⟩)),Rel.val (.string y),Rel.val (.int .i64 2),Rel.val (.pointer (some ⟨w.heap.size+1,2,none⟩)),Rel.val (.string t),Rel.val (.string p0),Rel.val (.int .i64 2),Rel.val (.pointer (some ⟨w.heap.size,2,none⟩)),Rel.val (.string z),Rel.val (.int .i64 1),Rel.val (.pointer (some ⟨w.heap.size+1,1,none⟩)),Rel.val (.string v),Rel.val (.string q0),Rel.val (.string l),Rel.val (.pointer (some ⟨W0.heap.size,0,none⟩))]) (fun W=>Below W1.heap.size W1 W) (fun _ _=>True) (by kernel_rfl) (by kernel_rfl) (by kernel_rfl) trivial (Below.refl _ _).drew ?_ ?_
   · intro u6 a W i hI hD hrd him
     obtain ⟨HI,HD,Hr⟩:=ae hI hD hrd;clear hI hrd hD;have y6:a.tmps[6]? = some (.int .i64 0):=HI.out.rest 6 (by decide);have y7:a.tmps[7]? = some (.int .i64 1):=HI.out.rest 7 (by decide);have y2:a.tmps[2]? = some (.pointer (some ⟨w.heap.size,0,none⟩)):=HI.out.rest 2 (by decide);have y8:a.tmps[8]? = some (.int .i64 2):=HI.out.rest 8 (by decide);have y3:a.tmps[3]? = some (.pointer (some ⟨w.heap.size+1,0,none⟩)):=HI.out.rest 3 (by decide);have y5:a.tmps[5]? = some (.pointer (some ⟨W0.heap.size,0,none⟩)):=HI.out.rest 5 (by decide);have wz:=(K1.out.below HI.out.world).cell (i:=1) rfl;have pq:=(K2.out.below HI.out.world).cell (i:=2) rfl;have sw:=(K1.out.below HI.out.world).cell (i:=2) rfl;have ol:=(K2.out.below HI.out.world).cell (i:=1) rfl;have X1:RV _ u6 a 1 19 (.int .i64 1):=HI.out.rh;have X2:RV _ u6 a 2 20 (.pointer (some ⟨w.heap.size,1,none⟩)):=HI.out.rh;have X4:RV _ u6 a 4 22 (.int .i64 2):=HI.out.rh;have X5:RV _ u6 a 5 23 (.pointer (some ⟨w.heap.size+1,2,none⟩)):=HI.out.rh;have X3:RV _ u6 a 3 21 (.string y):=HI.out.rh;have X6:RV _ u6 a 6 24 (.string t):=HI.out.rh;have X8:RV _ u6 a 8 26 (.int .i64 2):=HI.out.rh;have X9:RV _ u6 a 9 27 (.pointer (some ⟨w.heap.size,2,none⟩)):=HI.out.rh;have X11:RV _ u6 a 11 29 (.int .i64 1):=HI.out.rh;have X12:RV _ u6 a 12 30 (.pointer (some ⟨w.heap.size+1,1,none⟩)):=HI.out.rh;have X10:RV _ u6 a 10 28 (.string z):=HI.out.rh;have X13:RV _ u6 a 13 31 (.string v):=HI.out.rh;have X7:RV _ u6 a 7 25 (.string p0):=HI.out.rh;have X14:RV _ u6 a 14 32 (.string q0):=HI.out.rh;have X0:RV _ u6 a 0 18 (.int .i64 0):=HI.out.rh
     match i,him,Hr with
     | 0,_,Hi|1,_,Hi|2,_,Hi|3,_,Hi|4,_,Hi|5,_,Hi|6,_,Hi =>
       try have x1:=X1.g Hi.out (by decide +kernel)
       try have x2:=X2.g Hi.out (by decide +kernel)
       try have x4:=X4.g Hi.out (by decide +kernel)
       try have x5:=X5.g Hi.out (by decide +kernel)
       refine ax rfl fun K' hK=>?_;go_simp;exact hK.out _ _ ⟨HI.out.pv Hi.out rfl,trivial⟩
     | 7,_,Hi =>
       have x3:=X3.g Hi.out (by kernel_rfl);have x6:=X6.g Hi.out (by kernel_rfl);refine ax rfl fun K' hK=>?_;go_simp;with_reducible refine(C1.out _ (w9.out.trans (HI.out.world.mono w9.out.size))).mono ?_
       rintro e W' ⟨rfl,hb⟩;exact hK.out _ _ ⟨HI.out.pc Hi.out hb rfl,trivial⟩
     | 8,_,Hi|9,_,Hi|10,_,Hi|11,_,Hi|12,_,Hi|13,_,Hi =>
       try have x8:=X8.g Hi.out (by decide +kernel)
       try have x9:=X9.g Hi.out (by decide +kernel)
       try have x11:=X11.g Hi.out (by decide +kernel)
       try have x12:=X12.g Hi.out (by decide +kernel)
       refine ax rfl fun K' hK=>?_;go_simp;exact hK.out _ _ ⟨HI.out.pv Hi.out rfl,trivial⟩
     | 14,_,Hi =>
       have x10:=X10.g Hi.out (by kernel_rfl);have x13:=X13.g Hi.out (by kernel_rfl);refine ax rfl fun K' hK=>?_;go_simp;with_reducible refine(C2.out _ (w9.out.trans (HI.out.world.mono w9.out.size))).mono ?_
       rintro e W' ⟨rfl,hb⟩;exact hK.out _ _ ⟨HI.out.pc Hi.out hb rfl,trivial⟩
     | 15,_,Hi =>
       have x7:=X7.g Hi.out (by kernel_rfl);have x14:=X14.g Hi.out (by kernel_rfl);refine ax rfl fun K' hK=>?_;go_simp;with_reducible refine(C3.out _ (w9.out.trans (HI.out.world.mono w9.out.size))).mono ?_
       rintro e W' ⟨rfl,hb⟩;exact hK.out _ _ ⟨HI.out.pc Hi.out hb rfl,trivial⟩
     | 16,_,Hi =>
       have x0:=X0.g Hi.out (by kernel_rfl);refine ax rfl fun K' hK=>?_;go_simp;exact hK.out _ _ ⟨HI.out.pv Hi.out rfl,trivial⟩
     | n+17,h,_=>exact absurd h (by omega)
   · intro u6 a W hI hD wy
     have x15:a.tmps[33]? = some (.string l):=hI.sx wy 15;have x16:a.tmps[34]? = some (.pointer (some ⟨W0.heap.size,0,none⟩)):=hI.sx wy 16;obtain ⟨rf,HI,HA⟩:=ae hI.world hI wy;clear hI wy;obtain ⟨K1,K2,K3,K4⟩:=bi rf.out K1 K2 K3 K4;have rV:=Lib.hid (w9.out.trans (rf.out.mono w9.out.size));have l5:=K4.out.cell (i:=0) rfl;have lv:=K4.out.frozen (i:=0);refine aL (t:=0) ?_;refine ax rfl fun K' hK=>?_;go_simp;refine hK.out _ _ ?_;clear hK;refine aR ?_;have o0:∀ {g':Nat} {cs':Array Value} {T':TypeId},g'≠W0.heap.size→SBk W g' cs' T'→SBk (storeAll W (W0.heap.size) 0 [.string l]) g' cs' T':=fun hg' h'=>bf hg' _ 0 h';exact⟨rfl,(HI.out.finx ⟨HI.out.sx HA.out 0,HI.out.sx HA.out 1,HI.out.sx HA.out 2,HI.out.sx HA.out 3,HI.out.sx HA.out 4,HI.out.sx HA.out 5,HI.out.sx HA.out 6,HI.out.sx HA.out 7,HI.out.sx HA.out 8,HI.out.sx HA.out 9,HI.out.sx HA.out 10,HI.out.sx HA.out 11,HI.out.sx HA.out 12,HI.out.sx HA.out 13,HI.out.sx HA.out 14,x15,x16,trivial⟩ rfl),(av (l:=[.string l]) (i:=0) (by omega) rV.out),(o0 (by omega) K1.out),(o0 (by omega) K2.out),(o0 (by omega) K3.out),(bO (l:=[.string l]) (i:=0) K4.out)⟩
 rintro a' W2 ⟨rfl,z0,z1,z2,z3,z4⟩;obtain ⟨wo,K1,K2,K3,K4⟩:=bI z0 z1 z2 z3 z4;clear z0 z1 z2 z3 z4;simp only[aV,List.setIfInBounds_toArray,List.set_cons_zero,List.set_cons_succ];go_wp2;rw[rounds_succ];go_wp2_with fail
 refine aB (fun a0 a' V=>a'=⟨aV [(18,.int .i64 1),(19,.int .i64 2),(20,.pointer (some ⟨w.heap.size,2,none⟩)),(21,.string z),(22,.int .i64 0),(23,.pointer (some ⟨w.heap.size+1,0,none⟩)),(24,.string u),(25,.string p1),(26,.int .i64 0),(27,.pointer (some ⟨w.heap.size,0,none⟩)),(28,.string x),(29,.int .i64 2),(30,.pointer (some ⟨w.heap.size+1,2,none⟩)),(31,.string t),(32,.string q1),(33,.string m),(34,.pointer (some ⟨W0.heap.size,1,none⟩))] a0.tmps,a0.defers⟩∧Below w.heap.size w V∧SBk V (w.heap.size) #[.string x,.string y,.string z] 51∧SBk V (w.heap.size+1) #[.string u,.string v,.string t] 51∧SBk V (w.heap.size+1+1) #[.string ⟨#[]⟩,.string ⟨#[]⟩,.string ⟨#[]⟩] 51∧SBk V (W0.heap.size) #[.string l,.string m,.string ⟨#[]⟩] 51) ?_ ?_
 · refine ay (by kernel_rfl) 17 1 (fun i=>[18,19,20,21,22,23,24,25,26,27,28,29,30,31,32,33,34].getD i 0) (RelR [Rel.val (.int .i64 1),Rel.val (.int .i64 2),Rel.val (.pointer (some ⟨w.heap.size,2,none⟩)),Rel.val (.string z),Rel.val (.int .i64 0),Rel.val (.pointer (some ⟨w.heap.size+1,0,none⟩)),Rel.val (.string u),Rel.val (.string p1),Rel.val (.int .i64 0),Rel.val (.pointer (some ⟨w.heap.size,0,none⟩)),Rel.val (.string x),Rel.val (.int .i64 2),Rel.val (.pointer (some ⟨w.heap.size+1,2,none⟩)),Rel.val (.string t),Rel.val (.string q1),Rel.val (.string m),Rel.val (.pointer (some ⟨W0.heap.size,1,none⟩))]) (fun W=>Below W2.heap.size W2 W) (fun _ _=>True) (by kernel_rfl) (by kernel_rfl) (by kernel_rfl) trivial (Below.refl _ _).drew ?_ ?_
   · intro u6 a W i hI hD hrd him
     obtain ⟨HI,HD,Hr⟩:=ae hI hD hrd;clear hI hrd hD;have y6:a.tmps[6]? = some (.int .i64 1):=HI.out.rest 6 (by decide);have y7:a.tmps[7]? = some (.int .i64 2):=HI.out.rest 7 (by decide);have y2:a.tmps[2]? = some (.pointer (some ⟨w.heap.size,0,none⟩)):=HI.out.rest 2 (by decide);have y8:a.tmps[8]? = some (.int .i64 0):=HI.out.rest 8 (by decide);have y3:a.tmps[3]? = some (.pointer (some ⟨w.heap.size+1,0,none⟩)):=HI.out.rest 3 (by decide);have y5:a.tmps[5]? = some (.pointer (some ⟨W0.heap.size,0,none⟩)):=HI.out.rest 5 (by decide);have sw:=(K1.out.below HI.out.world).cell (i:=2) rfl;have oM:=(K2.out.below HI.out.world).cell (i:=0) rfl;have rM:=(K1.out.below HI.out.world).cell (i:=0) rfl;have pq:=(K2.out.below HI.out.world).cell (i:=2) rfl;have X1:RV _ u6 a 1 19 (.int .i64 2):=HI.out.rh;have X2:RV _ u6 a 2 20 (.pointer (some ⟨w.heap.size,2,none⟩)):=HI.out.rh;have X4:RV _ u6 a 4 22 (.int .i64 0):=HI.out.rh;have X5:RV _ u6 a 5 23 (.pointer (some ⟨w.heap.size+1,0,none⟩)):=HI.out.rh;have X3:RV _ u6 a 3 21 (.string z):=HI.out.rh;have X6:RV _ u6 a 6 24 (.string u):=HI.out.rh;have X8:RV _ u6 a 8 26 (.int .i64 0):=HI.out.rh;have X9:RV _ u6 a 9 27 (.pointer (some ⟨w.heap.size,0,none⟩)):=HI.out.rh;have X11:RV _ u6 a 11 29 (.int .i64 2):=HI.out.rh;have X12:RV _ u6 a 12 30 (.pointer (some ⟨w.heap.size+1,2,none⟩)):=HI.out.rh;have X10:RV _ u6 a 10 28 (.string x):=HI.out.rh;have X13:RV _ u6 a 13 31 (.string t):=HI.out.rh;have X7:RV _ u6 a 7 25 (.string p1):=HI.out.rh;have X14:RV _ u6 a 14 32 (.string q1):=HI.out.rh;have X0:RV _ u6 a 0 18 (.int .i64 1):=HI.out.rh
     match i,him,Hr with
     | 0,_,Hi|1,_,Hi|2,_,Hi|3,_,Hi|4,_,Hi|5,_,Hi|6,_,Hi =>
       try have x1:=X1.g Hi.out (by decide +kernel)
       try have x2:=X2.g Hi.out (by decide +kernel)
       try have x4:=X4.g Hi.out (by decide +kernel)
       try have x5:=X5.g Hi.out (by decide +kernel)
       refine ax rfl fun K' hK=>?_;go_simp;exact hK.out _ _ ⟨HI.out.pv Hi.out rfl,trivial⟩
     | 7,_,Hi =>
       have x3:=X3.g Hi.out (by kernel_rfl);have x6:=X6.g Hi.out (by kernel_rfl);refine ax rfl fun K' hK=>?_;go_simp;with_reducible refine(C4.out _ (wo.out.trans (HI.out.world.mono wo.out.size))).mono ?_
       rintro e W' ⟨rfl,hb⟩;exact hK.out _ _ ⟨HI.out.pc Hi.out hb rfl,trivial⟩
     | 8,_,Hi|9,_,Hi|10,_,Hi|11,_,Hi|12,_,Hi|13,_,Hi =>
       try have x8:=X8.g Hi.out (by decide +kernel)
       try have x9:=X9.g Hi.out (by decide +kernel)
       try have x11:=X11.g Hi.out (by decide +kernel)
       try have x12:=X12.g Hi.out (by decide +kernel)
       refine ax rfl fun K' hK=>?_;go_simp;exact hK.out _ _ ⟨HI.out.pv Hi.out rfl,trivial⟩
     | 14,_,Hi =>
       have x10:=X10.g Hi.out (by kernel_rfl);have x13:=X13.g Hi.out (by kernel_rfl);refine ax rfl fun K' hK=>?_;go_simp;with_reducible refine(C5.out _ (wo.out.trans (HI.out.world.mono wo.out.size))).mono ?_
       rintro e W' ⟨rfl,hb⟩;exact hK.out _ _ ⟨HI.out.pc Hi.out hb rfl,trivial⟩
     | 15,_,Hi =>
       have x7:=X7.g Hi.out (by kernel_rfl);have x14:=X14.g Hi.out (by kernel_rfl);refine ax rfl fun K' hK=>?_;go_simp;with_reducible refine(C6.out _ (wo.out.trans (HI.out.world.mono wo.out.size))).mono ?_
       rintro e W' ⟨rfl,hb⟩;exact hK.out _ _ ⟨HI.out.pc Hi.out hb rfl,trivial⟩
     | 16,_,Hi =>
       have x0:=X0.g Hi.out (by kernel_rfl);refine ax rfl fun K' hK=>?_;go_simp;exact hK.out _ _ ⟨HI.out.pv Hi.out rfl,trivial⟩
     | n+17,h,_=>exact absurd h (by omega)
   · intro u6 a W hI hD wy
     have x15:a.tmps[33]? = some (.string m):=hI.sx wy 15;have x16:a.tmps[34]? = some (.pointer (some ⟨W0.heap.size,1,none⟩)):=hI.sx wy 16;obtain ⟨rf,HI,HA⟩:=ae hI.world hI wy;clear hI wy;obtain ⟨K1,K2,K3,K4⟩:=bi rf.out K1 K2 K3 K4;have rV:=Lib.hid (wo.out.trans (rf.out.mono wo.out.size));have l6:=K4.out.cell (i:=1) rfl;have ky:=K4.out.frozen (i:=1);refine aL (t:=0) ?_;refine ax rfl fun K' hK=>?_;go_simp;refine hK.out _ _ ?_;clear hK;refine aR ?_;have o0:∀ {g':Nat} {cs':Array Value} {T':TypeId},g'≠W0.heap.size→SBk W g' cs' T'→SBk (storeAll W (W0.heap.size) 1 [.string m]) g' cs' T':=fun hg' h'=>bf hg' _ 1 h';exact⟨rfl,(HI.out.finx ⟨HI.out.sx HA.out 0,HI.out.sx HA.out 1,HI.out.sx HA.out 2,HI.out.sx HA.out 3,HI.out.sx HA.out 4,HI.out.sx HA.out 5,HI.out.sx HA.out 6,HI.out.sx HA.out 7,HI.out.sx HA.out 8,HI.out.sx HA.out 9,HI.out.sx HA.out 10,HI.out.sx HA.out 11,HI.out.sx HA.out 12,HI.out.sx HA.out 13,HI.out.sx HA.out 14,x15,x16,trivial⟩ rfl),(av (l:=[.string m]) (i:=1) (by omega) rV.out),(o0 (by omega) K1.out),(o0 (by omega) K2.out),(o0 (by omega) K3.out),(bO (l:=[.string m]) (i:=1) K4.out)⟩
 rintro a' W3 ⟨rfl,z0,z1,z2,z3,z4⟩;obtain ⟨wu,K1,K2,K3,K4⟩:=bI z0 z1 z2 z3 z4;clear z0 z1 z2 z3 z4;simp only[aV,List.setIfInBounds_toArray,List.set_cons_zero,List.set_cons_succ];go_wp2;rw[rounds_succ];go_wp2_with fail
 refine aB (fun a0 a' V=>a'=⟨aV [(18,.int .i64 2),(19,.int .i64 0),(20,.pointer (some ⟨w.heap.size,0,none⟩)),(21,.string x),(22,.int .i64 1),(23,.pointer (some ⟨w.heap.size+1,1,none⟩)),(24,.string v),(25,.string p2),(26,.int .i64 1),(27,.pointer (some ⟨w.heap.size,1,none⟩)),(28,.string y),(29,.int .i64 0),(30,.pointer (some ⟨w.heap.size+1,0,none⟩)),(31,.string u),(32,.string q2),(33,.string n),(34,.pointer (some ⟨W0.heap.size,2,none⟩))] a0.tmps,a0.defers⟩∧Below w.heap.size w V∧SBk V (w.heap.size+1+1) #[.string ⟨#[]⟩,.string ⟨#[]⟩,.string ⟨#[]⟩] 51∧SBk V (W0.heap.size) #[.string l,.string m,.string n] 51) ?_ ?_
 · refine ay (by kernel_rfl) 17 1 (fun i=>[18,19,20,21,22,23,24,25,26,27,28,29,30,31,32,33,34].getD i 0) (RelR [Rel.val (.int .i64 2),Rel.val (.int .i64 0),Rel.val (.pointer (some ⟨w.heap.size,0,none⟩)),Rel.val (.string x),Rel.val (.int .i64 1),Rel.val (.pointer (some ⟨w.heap.size+1,1,none⟩)),Rel.val (.string v),Rel.val (.string p2),Rel.val (.int .i64 1),Rel.val (.pointer (some ⟨w.heap.size,1,none⟩)),Rel.val (.string y),Rel.val (.int .i64 0),Rel.val (.pointer (some ⟨w.heap.size+1,0,none⟩)),Rel.val (.string u),Rel.val (.string q2),Rel.val (.string n),Rel.val (.pointer (some ⟨W0.heap.size,2,none⟩))]) (fun W=>Below W3.heap.size W3 W) (fun _ _=>True) (by kernel_rfl) (by kernel_rfl) (by kernel_rfl) trivial (Below.refl _ _).drew ?_ ?_
   · intro u6 a W i hI hD hrd him
     obtain ⟨HI,HD,Hr⟩:=ae hI hD hrd;clear hI hrd hD;have y6:a.tmps[6]? = some (.int .i64 2):=HI.out.rest 6 (by decide);have y7:a.tmps[7]? = some (.int .i64 0):=HI.out.rest 7 (by decide);have y2:a.tmps[2]? = some (.pointer (some ⟨w.heap.size,0,none⟩)):=HI.out.rest 2 (by decide);have y8:a.tmps[8]? = some (.int .i64 1):=HI.out.rest 8 (by decide);have y3:a.tmps[3]? = some (.pointer (some ⟨w.heap.size+1,0,none⟩)):=HI.out.rest 3 (by decide);have y5:a.tmps[5]? = some (.pointer (some ⟨W0.heap.size,0,none⟩)):=HI.out.rest 5 (by decide);have rM:=(K1.out.below HI.out.world).cell (i:=0) rfl;have ol:=(K2.out.below HI.out.world).cell (i:=1) rfl;have wz:=(K1.out.below HI.out.world).cell (i:=1) rfl;have oM:=(K2.out.below HI.out.world).cell (i:=0) rfl;have X1:RV _ u6 a 1 19 (.int .i64 0):=HI.out.rh;have X2:RV _ u6 a 2 20 (.pointer (some ⟨w.heap.size,0,none⟩)):=HI.out.rh;have X4:RV _ u6 a 4 22 (.int .i64 1):=HI.out.rh;have X5:RV _ u6 a 5 23 (.pointer (some ⟨w.heap.size+1,1,none⟩)):=HI.out.rh;have X3:RV _ u6 a 3 21 (.string x):=HI.out.rh;have X6:RV _ u6 a 6 24 (.string v):=HI.out.rh;have X8:RV _ u6 a 8 26 (.int .i64 1):=HI.out.rh;have X9:RV _ u6 a 9 27 (.pointer (some ⟨w.heap.size,1,none⟩)):=HI.out.rh;have X11:RV _ u6 a 11 29 (.int .i64 0):=HI.out.rh;have X12:RV _ u6 a 12 30 (.pointer (some ⟨w.heap.size+1,0,none⟩)):=HI.out.rh;have X10:RV _ u6 a 10 28 (.string y):=HI.out.rh;have X13:RV _ u6 a 13 31 (.string u):=HI.out.rh;have X7:RV _ u6 a 7 25 (.string p2):=HI.out.rh;have X14:RV _ u6 a 14 32 (.string q2):=HI.out.rh;have X0:RV _ u6 a 0 18 (.int .i64 2):=HI.out.rh
     match i,him,Hr with
     | 0,_,Hi|1,_,Hi|2,_,Hi|3,_,Hi|4,_,Hi|5,_,Hi|6,_,Hi =>
       try have x1:=X1.g Hi.out (by decide +kernel)
       try have x2:=X2.g Hi.out (by decide +kernel)
       try have x4:=X4.g Hi.out (by decide +kernel)
       try have x5:=X5.g Hi.out (by decide +kernel)
       refine ax rfl fun K' hK=>?_;go_simp;exact hK.out _ _ ⟨HI.out.pv Hi.out rfl,trivial⟩
     | 7,_,Hi =>
       have x3:=X3.g Hi.out (by kernel_rfl);have x6:=X6.g Hi.out (by kernel_rfl);refine ax rfl fun K' hK=>?_;go_simp;with_reducible refine(C7.out _ (wu.out.trans (HI.out.world.mono wu.out.size))).mono ?_
       rintro e W' ⟨rfl,hb⟩;exact hK.out _ _ ⟨HI.out.pc Hi.out hb rfl,trivial⟩
     | 8,_,Hi|9,_,Hi|10,_,Hi|11,_,Hi|12,_,Hi|13,_,Hi =>
       try have x8:=X8.g Hi.out (by decide +kernel)
       try have x9:=X9.g Hi.out (by decide +kernel)
       try have x11:=X11.g Hi.out (by decide +kernel)
       try have x12:=X12.g Hi.out (by decide +kernel)
       refine ax rfl fun K' hK=>?_;go_simp;exact hK.out _ _ ⟨HI.out.pv Hi.out rfl,trivial⟩
     | 14,_,Hi =>
       have x10:=X10.g Hi.out (by kernel_rfl);have x13:=X13.g Hi.out (by kernel_rfl);refine ax rfl fun K' hK=>?_;go_simp;with_reducible refine(C8.out _ (wu.out.trans (HI.out.world.mono wu.out.size))).mono ?_
       rintro e W' ⟨rfl,hb⟩;exact hK.out _ _ ⟨HI.out.pc Hi.out hb rfl,trivial⟩
     | 15,_,Hi =>
       have x7:=X7.g Hi.out (by kernel_rfl);have x14:=X14.g Hi.out (by kernel_rfl);refine ax rfl fun K' hK=>?_;go_simp;with_reducible refine(C9.out _ (wu.out.trans (HI.out.world.mono wu.out.size))).mono ?_
       rintro e W' ⟨rfl,hb⟩;exact hK.out _ _ ⟨HI.out.pc Hi.out hb rfl,trivial⟩
     | 16,_,Hi =>
       have x0:=X0.g Hi.out (by kernel_rfl);refine ax rfl fun K' hK=>?_;go_simp;exact hK.out _ _ ⟨HI.out.pv Hi.out rfl,trivial⟩
     | n+17,h,_=>exact absurd h (by omega)
   · intro u6 a W hI hD wy
     have x15:a.tmps[33]? = some (.string n):=hI.sx wy 15;have x16:a.tmps[34]? = some (.pointer (some ⟨W0.heap.size,2,none⟩)):=hI.sx wy 16;obtain ⟨rf,HI,HA⟩:=ae hI.world hI wy;clear hI wy;obtain ⟨K3,K4⟩:=aO rf.out K3 K4;have rV:=Lib.hid (wu.out.trans (rf.out.mono wu.out.size));have lg:=K4.out.cell (i:=2) rfl;have kz:=K4.out.frozen (i:=2);refine aL (t:=0) ?_;refine ax rfl fun K' hK=>?_;go_simp;refine hK.out _ _ ?_;clear hK;refine aR ?_;have o0:∀ {g':Nat} {cs':Array Value} {T':TypeId},g'≠W0.heap.size→SBk W g' cs' T'→SBk (storeAll W (W0.heap.size) 2 [.string n]) g' cs' T':=fun hg' h'=>bf hg' _ 2 h';exact⟨rfl,(HI.out.finx ⟨HI.out.sx HA.out 0,HI.out.sx HA.out 1,HI.out.sx HA.out 2,HI.out.sx HA.out 3,HI.out.sx HA.out 4,HI.out.sx HA.out 5,HI.out.sx HA.out 6,HI.out.sx HA.out 7,HI.out.sx HA.out 8,HI.out.sx HA.out 9,HI.out.sx HA.out 10,HI.out.sx HA.out 11,HI.out.sx HA.out 12,HI.out.sx HA.out 13,HI.out.sx HA.out 14,x15,x16,trivial⟩ rfl),(av (l:=[.string n]) (i:=2) (by omega) rV.out),(o0 (by omega) K3.out),(bO (l:=[.string n]) (i:=2) K4.out)⟩
 rintro a' W4 ⟨rfl,z0,z1,z2⟩;obtain ⟨p8,K3,K4⟩:=ae z0 z1 z2;clear z0 z1 z2;simp only[aV,List.setIfInBounds_toArray,List.set_cons_zero,List.set_cons_succ];go_wp2;rw[rounds_succ];obtain ⟨l5,l6,lg⟩:=ag K4.out rfl rfl rfl;obtain ⟨oV,ma,mf⟩:=ag K3.out rfl rfl rfl;obtain ⟨kC,kD,kE⟩:=aN K3.out;go_wp2;exact bodyPost_ret (v:=.agg #[.string l,.string m,.string n]) (by simp[results,results43,go_sem,oV,ma,mf]) rfl ⟨rfl,(av (l:=[.string l,.string m,.string n]) (i:=0) (by omega) p8.out)⟩
open Go.Lib (hid)
theorem oq (x y z:ByteArray)(w₀:World)(h1:CV w₀ 46 #[.string x] (.bool true))(h2:CV w₀ 46 #[.string y] (.bool true))(h3:CV w₀ 46 #[.string z] (.bool true))  :
 CV w₀ 18 #[.agg #[.string x,.string y,.string z]] (.bool true):=by
 intro w hw;obtain ⟨C1,C2,C3⟩:=ae (h1.mono hw) (h2.mono hw) (h3.mono hw);have i0:=cix0 x y z;have i1:=cix1 x y z;have i2:=cix2 x y z;clear h1 h2 h3 hw;go_enter func18,ntmps18
 go_upto_region 1 with fail
 refine ak w [(#[.string x,.string y,.string z],24)] rfl ?_;rintro W0 ⟨k1,hb⟩;have ww:=hid (show Below w.heap.size w W0 from hb);have K1:=hid k1;clear k1 hb;obtain ⟨rM,wz,sw⟩:=ag K1.out rfl rfl rfl;go_wp2_with fail
 with_reducible refine(fE x y z _ _ ww.out).mono ?_
 rintro e W1 ⟨rfl,hb⟩;clear rM wz sw;have w9:=hbt ww hb;clear hb;go_wp2;refine wp_loop_rounds 4 ?_;rw[rounds_succ];go_wp2_with fail
 with_reducible refine(C1.out _ w9.out).mono ?_
 rintro e W2 ⟨rfl,hb⟩;have wo:=hbt w9 hb;clear hb;go_wp2;rw[rounds_succ];go_wp2_with fail
 with_reducible refine(C2.out _ wo.out).mono ?_
 rintro e W3 ⟨rfl,hb⟩;have wu:=hbt wo hb;clear hb;go_wp2;rw[rounds_succ];go_wp2_with fail
 with_reducible refine(C3.out _ wu.out).mono ?_
 rintro e W4 ⟨rfl,hb⟩;have p8:=hbt wu hb;clear hb;go_wp2;rw[rounds_succ];go_wp2;exact bodyPost_ret (v:=.bool true) (by simp[results,results18,go_sem]) rfl ⟨rfl,p8.out⟩
theorem xD (x y z:ByteArray)(w₀:World)(h1:CV w₀ 46 #[.string x] (.bool false))  :
 CV w₀ 18 #[.agg #[.string x,.string y,.string z]] (.bool false):=by
 intro w hw;have C1:=hid (h1.mono hw);have i0:=cix0 x y z;have i1:=cix1 x y z;have i2:=cix2 x y z;clear h1 hw;go_enter func18,ntmps18
 go_upto_region 1 with fail
 refine ak w [(#[.string x,.string y,.string z],24)] rfl ?_;rintro W0 ⟨k1,hb⟩;have ww:=hid (show Below w.heap.size w W0 from hb);have K1:=hid k1;clear k1 hb;obtain ⟨rM,wz,sw⟩:=ag K1.out rfl rfl rfl;go_wp2_with fail
 with_reducible refine(fE x y z _ _ ww.out).mono ?_
 rintro e W1 ⟨rfl,hb⟩;clear rM wz sw;have w9:=hbt ww hb;clear hb;go_wp2;refine wp_loop_rounds 4 ?_;rw[rounds_succ];go_wp2_with fail
 with_reducible refine(C1.out _ w9.out).mono ?_
 rintro e W2 ⟨rfl,hb⟩;have wo:=hbt w9 hb;clear hb;go_wp2;exact bodyPost_ret (v:=.bool false) (by simp[results,results18,go_sem]) rfl ⟨rfl,wo.out⟩
theorem xC (x y z:ByteArray)(w₀:World)(h1:CV w₀ 46 #[.string x] (.bool true))(h2:CV w₀ 46 #[.string y] (.bool false))  :
 CV w₀ 18 #[.agg #[.string x,.string y,.string z]] (.bool false):=by
 intro w hw;have C1:=hid (h1.mono hw);have C2:=hid (h2.mono hw);have i0:=cix0 x y z;have i1:=cix1 x y z;have i2:=cix2 x y z;clear h1 h2 hw;go_enter func18,ntmps18
 go_upto_region 1 with fail
 refine ak w [(#[.string x,.string y,.string z],24)] rfl ?_;rintro W0 ⟨k1,hb⟩;have ww:=hid (show Below w.heap.size w W0 from hb);have K1:=hid k1;clear k1 hb;obtain ⟨rM,wz,sw⟩:=ag K1.out rfl rfl rfl;go_wp2_with fail
 with_reducible refine(fE x y z _ _ ww.out).mono ?_
 rintro e W1 ⟨rfl,hb⟩;clear rM wz sw;have w9:=hbt ww hb;clear hb;go_wp2;refine wp_loop_rounds 4 ?_;rw[rounds_succ];go_wp2_with fail
 with_reducible refine(C1.out _ w9.out).mono ?_
 rintro e W2 ⟨rfl,hb⟩;have wo:=hbt w9 hb;clear hb;go_wp2;rw[rounds_succ];go_wp2_with fail
 with_reducible refine(C2.out _ wo.out).mono ?_
 rintro e W3 ⟨rfl,hb⟩;have wu:=hbt wo hb;clear hb;go_wp2;exact bodyPost_ret (v:=.bool false) (by simp[results,results18,go_sem]) rfl ⟨rfl,wu.out⟩
theorem xB (x y z:ByteArray)(w₀:World)(h1:CV w₀ 46 #[.string x] (.bool true))(h2:CV w₀ 46 #[.string y] (.bool true))(h3:CV w₀ 46 #[.string z] (.bool false))  :
 CV w₀ 18 #[.agg #[.string x,.string y,.string z]] (.bool false):=by
 intro w hw;obtain ⟨C1,C2,C3⟩:=ae (h1.mono hw) (h2.mono hw) (h3.mono hw);have i0:=cix0 x y z;have i1:=cix1 x y z;have i2:=cix2 x y z;clear h1 h2 h3 hw;go_enter func18,ntmps18
 go_upto_region 1 with fail
 refine ak w [(#[.string x,.string y,.string z],24)] rfl ?_;rintro W0 ⟨k1,hb⟩;have ww:=hid (show Below w.heap.size w W0 from hb);have K1:=hid k1;clear k1 hb;obtain ⟨rM,wz,sw⟩:=ag K1.out rfl rfl rfl;go_wp2_with fail
 with_reducible refine(fE x y z _ _ ww.out).mono ?_
 rintro e W1 ⟨rfl,hb⟩;clear rM wz sw;have w9:=hbt ww hb;clear hb;go_wp2;refine wp_loop_rounds 4 ?_;rw[rounds_succ];go_wp2_with fail
 with_reducible refine(C1.out _ w9.out).mono ?_
 rintro e W2 ⟨rfl,hb⟩;have wo:=hbt w9 hb;clear hb;go_wp2;rw[rounds_succ];go_wp2_with fail
 with_reducible refine(C2.out _ wo.out).mono ?_
 rintro e W3 ⟨rfl,hb⟩;have wu:=hbt wo hb;clear hb;go_wp2;rw[rounds_succ];go_wp2_with fail
 with_reducible refine(C3.out _ wu.out).mono ?_
 rintro e W4 ⟨rfl,hb⟩;have p8:=hbt wu hb;clear hb;go_wp2;exact bodyPost_ret (v:=.bool false) (by simp[results,results18,go_sem]) rfl ⟨rfl,p8.out⟩
theorem z2u (c u v t:ByteArray)(w₀:World)   :
 CV w₀ 47 #[.agg #[.string ⟨#[48]⟩,.string ⟨#[48]⟩,.string ⟨#[48]⟩,.string c],.agg #[.string u,.string v,.string t]] (.tuple #[.string ⟨#[]⟩,.int .i64 1]):=by
 intro w hw;have hq:=qJ (show q9 ⟨#[48]⟩ ⟨#[48]⟩ ⟨#[48]⟩ ⟨#[48]⟩ ⟨#[48]⟩ ⟨#[48]⟩=true from by unfold q9;simp);clear hw;go_enter func47,ntmps47
 go_upto_region 1 with fail
 refine ak w [(#[.string ⟨#[48]⟩,.string ⟨#[48]⟩,.string ⟨#[48]⟩,.string c],28),(#[.string u,.string v,.string t],24)] rfl ?_;rintro W0 ⟨k1,k2,hb⟩;have ww:=hid (show Below w.heap.size w W0 from hb);have K1:=hid k1;have K2:=hid k2;clear k1 k2 hb;obtain ⟨rM,wz,sw⟩:=ag K1.out rfl rfl rfl;go_wp2_with fail
 with_reducible refine(fE ⟨#[48]⟩ ⟨#[48]⟩ ⟨#[48]⟩ _ _ ww.out).mono ?_
 rintro e W1 ⟨rfl,hb⟩;clear rM wz sw;obtain ⟨K1,K2⟩:=aO hb K1 K2;have w9:=hbt ww hb;clear hb;go_upto_region 2 with fail
 refine ak W1 [(#[.string ⟨#[48]⟩,.string ⟨#[48]⟩,.string ⟨#[48]⟩],51)] rfl ?_;have L1:=K1.out.lt;have L2:=K2.out.lt;have L3:=w9.out.size;rintro W2 ⟨k3,hb⟩;have hb:Below W1.heap.size W1 W2:=hb;have wo:=hbt w9 hb;have K3:=hid k3;clear k3 hb;go_wp2_with fail
 refine aB (fun a0 a' V=>a'=⟨aV [(10,.agg #[.string ⟨#[48]⟩,.string ⟨#[48]⟩,.string ⟨#[48]⟩]),(11,.agg #[.string ⟨#[48]⟩,.string ⟨#[48]⟩,.string ⟨#[48]⟩]),(12,.bool true)] a0.tmps,a0.defers⟩∧Below w.heap.size w V) ?_ ?_
 · refine ay (by kernel_rfl) 3 0 (fun i=>[10,11,12].getD i 0) (RelR [Rel.val (.agg #[.string ⟨#[48]⟩,.string ⟨#[48]⟩,.string ⟨#[48]⟩]),Rel.val (.agg #[.string ⟨#[48]⟩,.string ⟨#[48]⟩,.string ⟨#[48]⟩]),Rel.val (.bool true)]) (fun W=>Below W2.heap.size W2 W) (fun _ _=>True) (by kernel_rfl) (by kernel_rfl) (by kernel_rfl) trivial (Below.refl _ _).drew ?_ ?_
   · intro u6 a W i hI hD hrd him
     obtain ⟨HI,HD,Hr⟩:=ae hI hD hrd;clear hI hrd hD;have y6:a.tmps[6]? = some (.pointer (some ⟨W1.heap.size,0,none⟩)):=HI.out.rest 6 (by decide);obtain ⟨oV,ma,mf⟩:=ag (K3.out.below HI.out.world) rfl rfl rfl;have X0:RV _ u6 a 0 10 (.agg #[.string ⟨#[48]⟩,.string ⟨#[48]⟩,.string ⟨#[48]⟩]):=HI.out.rh;have X1:RV _ u6 a 1 11 (.agg #[.string ⟨#[48]⟩,.string ⟨#[48]⟩,.string ⟨#[48]⟩]):=HI.out.rh
     match i,him,Hr with
     | 0,_,Hi =>
       refine ax rfl fun K' hK=>?_;go_simp;exact hK.out _ _ ⟨HI.out.pv Hi.out rfl,trivial⟩
     | 1,_,Hi =>
       refine ax rfl fun K' hK=>?_;go_simp;with_reducible refine(z0X _ _ (wo.out.trans (HI.out.world.mono wo.out.size))).mono ?_
       rintro e W' ⟨rfl,hb⟩;exact hK.out _ _ ⟨HI.out.pc Hi.out hb rfl,trivial⟩
     | 2,_,Hi =>
       have x0:=X0.g Hi.out (by kernel_rfl);have x1:=X1.g Hi.out (by kernel_rfl);refine ax rfl fun K' hK=>?_;go_simp;exact hK.out _ _ ⟨HI.out.pv Hi.out rfl,trivial⟩
     | n+3,h,_=>exact absurd h (by omega)
   · intro u6 a W hI hD wy
     obtain ⟨rf,HI,HA⟩:=ae hI.world hI wy;clear hI wy;have rV:=hid (wo.out.trans (rf.out.mono wo.out.size));refine aR ?_;exact⟨rfl,(HI.out.finx ⟨HI.out.sx HA.out 0,HI.out.sx HA.out 1,HI.out.sx HA.out 2,trivial⟩ rfl),rV.out⟩
 rintro a' W3 ⟨rfl,z0⟩;have wu:=hid z0;clear z0;simp only[aV,List.setIfInBounds_toArray,List.set_cons_zero,List.set_cons_succ];go_wp2;exact bodyPost_ret (v:=.tuple #[.string ⟨#[]⟩,.int .i64 1]) (by simp[results,results47,go_sem]) rfl ⟨rfl,wu.out⟩
theorem ug (x y z c u v t s r g:ByteArray)(er:Int)(w₀:World)(h1:CV w₀ 40 #[.agg #[.string x,.string y,.string z],.agg #[.string u,.string v,.string t]] (.string s))(h2:CV w₀ 33 #[.string s,.string c] (.string r))(h3:CV w₀ 39 #[.string r] (.tuple #[.string g,.int .i64 er]))(hz:q9 x y z ⟨#[48]⟩ ⟨#[48]⟩ ⟨#[48]⟩=false) :
 CV w₀ 47 #[.agg #[.string x,.string y,.string z,.string c],.agg #[.string u,.string v,.string t]] (.tuple #[.string g,.int .i64 er]):=by
 intro w hw;obtain ⟨C1,C2,C3⟩:=ae (h1.mono hw) (h2.mono hw) (h3.mono hw);have hq:=qJ hz;clear hz h1 h2 h3 hw;go_enter func47,ntmps47
 go_upto_region 1 with fail
 refine ak w [(#[.string x,.string y,.string z,.string c],28),(#[.string u,.string v,.string t],24)] rfl ?_;rintro W0 ⟨k1,k2,hb⟩;have ww:=hid (show Below w.heap.size w W0 from hb);have K1:=hid k1;have K2:=hid k2;clear k1 k2 hb;obtain ⟨rM,wz,sw⟩:=ag K1.out rfl rfl rfl;go_wp2_with fail
 with_reducible refine(fE x y z _ _ ww.out).mono ?_
 rintro e W1 ⟨rfl,hb⟩;clear rM wz sw;obtain ⟨K1,K2⟩:=aO hb K1 K2;have w9:=hbt ww hb;clear hb;go_upto_region 2 with fail
 refine ak W1 [(#[.string x,.string y,.string z],51)] rfl ?_;have L1:=K1.out.lt;have L2:=K2.out.lt;have L3:=w9.out.size;rintro W2 ⟨k3,hb⟩;have hb:Below W1.heap.size W1 W2:=hb;obtain ⟨K1,K2⟩:=aO hb K1 K2;have wo:=hbt w9 hb;have K3:=hid k3;clear k3 hb;go_wp2_with fail
 refine aB (fun a0 a' V=>a'=⟨aV [(10,.agg #[.string x,.string y,.string z]),(11,.agg #[.string ⟨#[48]⟩,.string ⟨#[48]⟩,.string ⟨#[48]⟩]),(12,.bool false)] a0.tmps,a0.defers⟩∧Below w.heap.size w V∧SBk V (w.heap.size) #[.string x,.string y,.string z,.string c] 28∧SBk V (w.heap.size+1) #[.string u,.string v,.string t] 24∧SBk V (W1.heap.size) #[.string x,.string y,.string z] 51) ?_ ?_
 · refine ay (by kernel_rfl) 3 0 (fun i=>[10,11,12].getD i 0) (RelR [Rel.val (.agg #[.string x,.string y,.string z]),Rel.val (.agg #[.string ⟨#[48]⟩,.string ⟨#[48]⟩,.string ⟨#[48]⟩]),Rel.val (.bool false)]) (fun W=>Below W2.heap.size W2 W) (fun _ _=>True) (by kernel_rfl) (by kernel_rfl) (by kernel_rfl) trivial (Below.refl _ _).drew ?_ ?_
   · intro u6 a W i hI hD hrd him
     obtain ⟨HI,HD,Hr⟩:=ae hI hD hrd;clear hI hrd hD;have y6:a.tmps[6]? = some (.pointer (some ⟨W1.heap.size,0,none⟩)):=HI.out.rest 6 (by decide);obtain ⟨oV,ma,mf⟩:=ag (K3.out.below HI.out.world) rfl rfl rfl;have X0:RV _ u6 a 0 10 (.agg #[.string x,.string y,.string z]):=HI.out.rh;have X1:RV _ u6 a 1 11 (.agg #[.string ⟨#[48]⟩,.string ⟨#[48]⟩,.string ⟨#[48]⟩]):=HI.out.rh
     match i,him,Hr with
     | 0,_,Hi =>
       refine ax rfl fun K' hK=>?_;go_simp;exact hK.out _ _ ⟨HI.out.pv Hi.out rfl,trivial⟩
     | 1,_,Hi =>
       refine ax rfl fun K' hK=>?_;go_simp;with_reducible refine(z0X _ _ (wo.out.trans (HI.out.world.mono wo.out.size))).mono ?_
       rintro e W' ⟨rfl,hb⟩;exact hK.out _ _ ⟨HI.out.pc Hi.out hb rfl,trivial⟩
     | 2,_,Hi =>
       have x0:=X0.g Hi.out (by kernel_rfl);have x1:=X1.g Hi.out (by kernel_rfl);refine ax rfl fun K' hK=>?_;go_simp;exact hK.out _ _ ⟨HI.out.pv Hi.out rfl,trivial⟩
     | n+3,h,_=>exact absurd h (by omega)
   · intro u6 a W hI hD wy
     obtain ⟨rf,HI,HA⟩:=ae hI.world hI wy;clear hI wy;obtain ⟨K1,K2,K3⟩:=aZ rf.out K1 K2 K3;have rV:=Lib.hid (wo.out.trans (rf.out.mono wo.out.size));refine aR ?_;exact⟨rfl,(HI.out.finx ⟨HI.out.sx HA.out 0,HI.out.sx HA.out 1,HI.out.sx HA.out 2,trivial⟩ rfl),rV.out,K1.out,K2.out,K3.out⟩
 rintro a' W3 ⟨rfl,z0,z1,z2,z3⟩;obtain ⟨wu,K1,K2,K3⟩:=aP z0 z1 z2 z3;clear z0 z1 z2 z3;simp only[aV,List.setIfInBounds_toArray,List.set_cons_zero,List.set_cons_succ];go_wp2_with fail
 refine aB (fun a0 a' V=>a'=⟨aV [(13,.agg #[.string x,.string y,.string z]),(14,.agg #[.string u,.string v,.string t]),(15,.agg #[.string u,.string v,.string t]),(16,.string s),(17,.pointer (some ⟨w.heap.size,3,none⟩)),(18,.string c),(19,.string r),(20,.tuple #[.string g,.int .i64 er]),(21,.string g),(22,.int .i64 er),(4,.string g),(5,.int .i64 er)] a0.tmps,a0.defers⟩∧Below w.heap.size w V) ?_ ?_
 · refine ay (by kernel_rfl) 12 0 (fun i=>[13,14,15,16,17,18,19,20,21,22,4,5].getD i 0) (RelR [Rel.val (.agg #[.string x,.string y,.string z]),Rel.val (.agg #[.string u,.string v,.string t]),Rel.val (.agg #[.string u,.string v,.string t]),Rel.val (.string s),Rel.val (.pointer (some ⟨w.heap.size,3,none⟩)),Rel.val (.string c),Rel.val (.string r),Rel.val (.tuple #[.string g,.int .i64 er]),Rel.val (.string g),Rel.val (.int .i64 er),Rel.val (.string g),Rel.val (.int .i64 er)]) (fun W=>Below W3.heap.size W3 W) (fun _ _=>True) (by kernel_rfl) (by kernel_rfl) (by kernel_rfl) trivial (Below.refl _ _).drew ?_ ?_
   · intro u6 a W i hI hD hrd him
     obtain ⟨HI,HD,Hr⟩:=ae hI hD hrd;clear hI hrd hD;have y6:a.tmps[6]? = some (.pointer (some ⟨W1.heap.size,0,none⟩)):=HI.out.rest 6 (by decide);have y3:a.tmps[3]? = some (.pointer (some ⟨w.heap.size+1,0,none⟩)):=HI.out.rest 3 (by decide);have y2:a.tmps[2]? = some (.pointer (some ⟨w.heap.size,0,none⟩)):=HI.out.rest 2 (by decide);obtain ⟨oV,ma,mf⟩:=ag (K3.out.below HI.out.world) rfl rfl rfl;obtain ⟨oM,ol,pq⟩:=ag (K2.out.below HI.out.world) rfl rfl rfl;have mi:=(K1.out.below HI.out.world).cell (i:=3) rfl;have X1:RV _ u6 a 1 14 (.agg #[.string u,.string v,.string t]):=HI.out.rh;have X0:RV _ u6 a 0 13 (.agg #[.string x,.string y,.string z]):=HI.out.rh;have X2:RV _ u6 a 2 15 (.agg #[.string u,.string v,.string t]):=HI.out.rh;have X4:RV _ u6 a 4 17 (.pointer (some ⟨w.heap.size,3,none⟩)):=HI.out.rh;have X3:RV _ u6 a 3 16 (.string s):=HI.out.rh;have X5:RV _ u6 a 5 18 (.string c):=HI.out.rh;have X6:RV _ u6 a 6 19 (.string r):=HI.out.rh;have X7:RV _ u6 a 7 20 (.tuple #[.string g,.int .i64 er]):=HI.out.rh;have X8:RV _ u6 a 8 21 (.string g):=HI.out.rh;have X9:RV _ u6 a 9 22 (.int .i64 er):=HI.out.rh
     match i,him,Hr with
     | 0,_,Hi|1,_,Hi =>
       refine ax rfl fun K' hK=>?_;go_simp;exact hK.out _ _ ⟨HI.out.pv Hi.out rfl,trivial⟩
     | 2,_,Hi =>
       have x1:=X1.g Hi.out (by kernel_rfl);refine ax rfl fun K' hK=>?_;go_simp;with_reducible refine(fE u v t _ _ (wu.out.trans (HI.out.world.mono wu.out.size))).mono ?_
       rintro e W' ⟨rfl,hb⟩;exact hK.out _ _ ⟨HI.out.pc Hi.out hb rfl,trivial⟩
     | 3,_,Hi =>
       have x0:=X0.g Hi.out (by kernel_rfl);have x2:=X2.g Hi.out (by kernel_rfl);refine ax rfl fun K' hK=>?_;go_simp;with_reducible refine(C1.out _ (wu.out.trans (HI.out.world.mono wu.out.size))).mono ?_
       rintro e W' ⟨rfl,hb⟩;exact hK.out _ _ ⟨HI.out.pc Hi.out hb rfl,trivial⟩
     | 4,_,Hi|5,_,Hi =>
       try have x4:=X4.g Hi.out (by decide +kernel)
       refine ax rfl fun K' hK=>?_;go_simp;exact hK.out _ _ ⟨HI.out.pv Hi.out rfl,trivial⟩
     | 6,_,Hi =>
       have x3:=X3.g Hi.out (by kernel_rfl);have x5:=X5.g Hi.out (by kernel_rfl);refine ax rfl fun K' hK=>?_;go_simp;with_reducible refine(C2.out _ (wu.out.trans (HI.out.world.mono wu.out.size))).mono ?_
       rintro e W' ⟨rfl,hb⟩;exact hK.out _ _ ⟨HI.out.pc Hi.out hb rfl,trivial⟩
     | 7,_,Hi =>
       have x6:=X6.g Hi.out (by kernel_rfl);refine ax rfl fun K' hK=>?_;go_simp;with_reducible refine(C3.out _ (wu.out.trans (HI.out.world.mono wu.out.size))).mono ?_
       rintro e W' ⟨rfl,hb⟩;exact hK.out _ _ ⟨HI.out.pc Hi.out hb rfl,trivial⟩
     | 8,_,Hi|9,_,Hi|10,_,Hi|11,_,Hi =>
       try have x7:=X7.g Hi.out (by decide +kernel)
       try have x8:=X8.g Hi.out (by decide +kernel)
       try have x9:=X9.g Hi.out (by decide +kernel)
       refine ax rfl fun K' hK=>?_;go_simp;exact hK.out _ _ ⟨HI.out.pv Hi.out rfl,trivial⟩
     | n+12,h,_=>exact absurd h (by omega)
   · intro u6 a W hI hD wy
     obtain ⟨rf,HI,HA⟩:=ae hI.world hI wy;clear hI wy;have rV:=hid (wu.out.trans (rf.out.mono wu.out.size));refine aR ?_;exact⟨rfl,(HI.out.finx ⟨HI.out.sx HA.out 0,HI.out.sx HA.out 1,HI.out.sx HA.out 2,HI.out.sx HA.out 3,HI.out.sx HA.out 4,HI.out.sx HA.out 5,HI.out.sx HA.out 6,HI.out.sx HA.out 7,HI.out.sx HA.out 8,HI.out.sx HA.out 9,HI.out.sx HA.out 10,HI.out.sx HA.out 11,trivial⟩ rfl),rV.out⟩
 rintro a' W4 ⟨rfl,z0⟩;have p8:=hid z0;clear z0;simp only[aV,List.setIfInBounds_toArray,List.set_cons_zero,List.set_cons_succ];go_wp2;exact bodyPost_ret (v:=.tuple #[.string g,.int .i64 er]) (by simp[results,results47,go_sem]) rfl ⟨rfl,p8.out⟩
theorem yT (x y z c u v t g:ByteArray)(er k:Int)(w₀:World)(h1:CV w₀ 47 #[.agg #[.string x,.string y,.string z,.string c],.agg #[.string u,.string v,.string t]] (.tuple #[.string g,.int .i64 er]))(h2:CV w₀ 51 #[.string g,.string ⟨#[48]⟩] (.int .i64 k))  :
 CV w₀ 23 #[.agg #[.string x,.string y,.string z,.string c],.agg #[.string u,.string v,.string t]] (.tuple #[.int .i64 k,.int .i64 er]):=by
 intro w hw;have C1:=hid (h1.mono hw);have C2:=hid (h2.mono hw);clear h1 h2 hw;go_enter func23,ntmps23
 go_upto_region 1 with fail
 refine ak w [(#[.string x,.string y,.string z,.string c],28),(#[.string u,.string v,.string t],24)] rfl ?_;rintro W0 ⟨k1,k2,hb⟩;have ww:=hid (show Below w.heap.size w W0 from hb);have K1:=hid k1;have K2:=hid k2;clear k1 k2 hb;obtain ⟨rM,wz,sw,mi⟩:=gz K1.out rfl rfl rfl rfl;obtain ⟨oM,ol,pq⟩:=ag K2.out rfl rfl rfl;go_wp2_with fail
 with_reducible refine(C1.out _ ww.out).mono ?_
 rintro e W1 ⟨rfl,hb⟩;clear rM wz sw mi oM ol pq;have w9:=hbt ww hb;clear hb;go_wp2_with fail
 with_reducible refine(C2.out _ w9.out).mono ?_
 rintro e W2 ⟨rfl,hb⟩;have wo:=hbt w9 hb;clear hb;go_wp2;exact bodyPost_ret (v:=.tuple #[.int .i64 k,.int .i64 er]) (by simp[results,results23,go_sem]) rfl ⟨rfl,wo.out⟩
theorem xG (x:ByteArray)(k:Int)(b:Bool)(w₀:World)(h1:CV w₀ 51 #[.string x,.string ⟨#[48]⟩] (.int .i64 k))(hb0:decide (0<k)=b) :
 CV w₀ 48 #[.string x] (.bool b):=by
 intro w hw;have C1:=hid (h1.mono hw);clear h1 hw;go_enter func48,ntmps48
 have ww:=hid (Below.refl w.heap.size w);go_wp2_with fail
 with_reducible refine(C1.out _ ww.out).mono ?_
 rintro e W1 ⟨rfl,hb⟩;have w9:=hbt ww hb;clear hb;go_wp2;exact bodyPost_ret (v:=.bool b) (by simp[results,results48,go_sem]) rfl ⟨rfl,w9.out⟩
