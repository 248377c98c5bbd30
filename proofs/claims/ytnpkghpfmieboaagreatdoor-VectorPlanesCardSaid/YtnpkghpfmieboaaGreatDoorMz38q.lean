/- texts -/
import Derived.Test.YtnpkghpfmieboaaGreatDoorMz36q
open Go.Proofs.Tryz
set_option maxRecDepth 100000
set_option maxHeartbeats 20000000
open Go.Lib (hid)
namespace Go.Proofs.YtnpkghpfmieboaaGreatDoor
open Go.RowKit Go.Gb
theorem qh (x y z u v t p0 q0 p1 q1 p2 q2 l m n:ByteArray)(w₀:World)(h1:CV w₀ 55 #[.string y,.string t] (.string p0))(h2:CV w₀ 55 #[.string z,.string v] (.string q0))(h3:CV w₀ 31 #[.string p0,.string q0] (.string l))(h4:CV w₀ 55 #[.string z,.string u] (.string p1))(h5:CV w₀ 55 #[.string x,.string t] (.string q1))(h6:CV w₀ 31 #[.string p1,.string q1] (.string m))(h7:CV w₀ 55 #[.string x,.string v] (.string p2))(h8:CV w₀ 55 #[.string y,.string u] (.string q2))(h9:CV w₀ 31 #[.string p2,.string q2] (.string n))  :
 CV w₀ 29 #[.agg #[.string x,.string y,.string z],.agg #[.string u,.string v,.string t]] (.agg #[.string l,.string m,.string n]):=by
 intro w hw;obtain ⟨C1,C2,C3,C4,C5,C6,C7,C8,C9⟩:=bK (h1.mono hw) (h2.mono hw) (h3.mono hw) (h4.mono hw) (h5.mono hw) (h6.mono hw) (h7.mono hw) (h8.mono hw) (h9.mono hw);clear h1 h2 h3 h4 h5 h6 h7 h8 h9 hw;go_enter func29,ntmps29
 go_upto_region 1 with fail
 refine ak w [(#[.string x,.string y,.string z],69),(#[.string u,.string v,.string t],69),(#[.string ⟨#[]⟩,.string ⟨#[]⟩,.string ⟨#[]⟩],69)] rfl ?_;rintro W0 ⟨k1,k2,k3,hb⟩;have wu:=hid (show Below w.heap.size w W0 from hb);obtain ⟨K1,K2,K3⟩:=ax k1 k2 k3;clear k1 k2 k3 hb;go_upto_region 2 with fail
 refine ak W0 [(#[.string ⟨#[]⟩,.string ⟨#[]⟩,.string ⟨#[]⟩],69)] rfl ?_;have L1:=K1.out.lt;have L2:=K2.out.lt;have L3:=K3.out.lt;have L4:=wu.out.size;rintro W1 ⟨k4,hb⟩;have hb:Below W0.heap.size W0 W1:=hb;obtain ⟨K1,K2,K3⟩:=bL hb K1 K2 K3;have wo:=hbt wu hb;have K4:=hid k4;clear k4 hb;go_wp2;refine wp_loop_rounds 4 ?_;rw[rounds_succ];go_wp2_with fail
 refine ay (fun a0 a' V=>a'=⟨aR [(18,.int .i64 0),(19,.int .i64 1),(20,.pointer (some ⟨w.heap.size,1,none⟩)),(21,.string y),(22,.int .i64 2),(23,.pointer (some ⟨w.heap.size+1,2,none⟩)),(24,.string t),(25,.string p0),(26,.int .i64 2),(27,.pointer (some ⟨w.heap.size,2,none⟩)),(28,.string z),(29,.int .i64 1),(30,.pointer (some ⟨w.heap.size+1,1,none⟩)),(31,.string v),(32,.string q0),(33,.string l),(34,.pointer (some ⟨W0.heap.size,0,none⟩))] a0.tmps,a0.defers⟩∧Below w.heap.size w V∧SBk V (w.heap.size) #[.string x,.string y,.string z] 69∧SBk V (w.heap.size+1) #[.string u,.string v,.string t] 69∧SBk V (w.heap.size+1+1) #[.string ⟨#[]⟩,.string ⟨#[]⟩,.string ⟨#[]⟩] 69∧SBk V (W0.heap.size) #[.string l,.string ⟨#[]⟩,.string ⟨#[]⟩] 69) ?_ ?_
 · refine aC 17 1 [18,19,20,21,22,23,24,25,26,27,28,29,30,31,32,33,34] [Rel.val (.int .i64 0),Rel.val (.int .i64 1),Rel.val (.pointer (some ⟨w.heap.size,1,none⟩)),Rel.val (.string y),Rel.val (.int .i64 2),Rel.val (.pointer (some ⟨w.heap.size+1,2,none⟩)),Rel.val (.string t),Rel.val (.string p0),Rel.val (.int .i64 2),Rel.val (.pointer (some ⟨w.heap.size,2,none⟩)),Rel.val (.string z),Rel.val (.int .i64 1),Rel.val (.pointer (some ⟨w.heap.size+1,1,none⟩)),Rel.val (.string v),Rel.val (.string q0),Rel.val (.string l),Rel.val (.pointer (some ⟨W0.heap.size,0,none⟩))] ?_ ?_
   · intro wy a W i HI hD Hr him
     have y6:=HI.out.rst 6 rfl;have y7:=HI.out.rst 7 rfl;have y2:=HI.out.rst 2 rfl;have y8:=HI.out.rst 8 rfl;have y3:=HI.out.rst 3 rfl;have y5:=HI.out.rst 5 rfl;have si:=(K1.out.below HI.out.world).cell (i:=1) rfl;have rf:=(K2.out.below HI.out.world).cell (i:=2) rfl;have sj:=(K1.out.below HI.out.world).cell (i:=2) rfl;have rM:=(K2.out.below HI.out.world).cell (i:=1) rfl;have X1:=HI.out.rg 1 19 rfl;have X2:=HI.out.rg 2 20 rfl;have X4:=HI.out.rg 4 22 rfl;have X5:=HI.out.rg 5 23 rfl;have X3:=HI.out.rg 3 21 rfl;have X6:=HI.out.rg 6 24 rfl;have X8:=HI.out.rg 8 26 rfl;have X9:=HI.out.rg 9 27 rfl;have X11:=HI.out.rg 11 29 rfl;have X12:=HI.out.rg 12 30 rfl;have X10:=HI.out.rg 10 28 rfl;have X13:=HI.out.rg 13 31 rfl;have X7:=HI.out.rg 7 25 rfl;have X14:=HI.out.rg 14 32 rfl;have X0:=HI.out.rg 0 18 rfl
     match i,him,Hr with
     | 0,_,Hi|1,_,Hi|2,_,Hi|3,_,Hi|4,_,Hi|5,_,Hi|6,_,Hi =>
       try have x1:=X1.t Hi.out
       try have x2:=X2.t Hi.out
       try have x4:=X4.t Hi.out
       try have x5:=X5.t Hi.out
       refine av rfl fun K' hK=>?_;go_simp;exact hK.out _ _ (HI.out.pw Hi.out)
     | 7,_,Hi =>
       have x3:=X3.q Hi.out;have x6:=X6.q Hi.out;refine av rfl fun K' hK=>?_;go_simp;with_reducible refine(C1.out _ (wo.out.trans (HI.out.world.mono wo.out.size))).mono ?_
       rintro e W' ⟨rfl,hb⟩;exact hK.out _ _ ⟨HI.out.pc Hi.out hb rfl,trivial⟩
     | 8,_,Hi|9,_,Hi|10,_,Hi|11,_,Hi|12,_,Hi|13,_,Hi =>
       try have x8:=X8.t Hi.out
       try have x9:=X9.t Hi.out
       try have x11:=X11.t Hi.out
       try have x12:=X12.t Hi.out
       refine av rfl fun K' hK=>?_;go_simp;exact hK.out _ _ (HI.out.pw Hi.out)
     | 14,_,Hi =>
       have x10:=X10.q Hi.out;have x13:=X13.q Hi.out;refine av rfl fun K' hK=>?_;go_simp;with_reducible refine(C2.out _ (wo.out.trans (HI.out.world.mono wo.out.size))).mono ?_
       rintro e W' ⟨rfl,hb⟩;exact hK.out _ _ ⟨HI.out.pc Hi.out hb rfl,trivial⟩
     | 15,_,Hi =>
       have x7:=X7.q Hi.out;have x14:=X14.q Hi.out;refine av rfl fun K' hK=>?_;go_simp;with_reducible refine(C3.out _ (wo.out.trans (HI.out.world.mono wo.out.size))).mono ?_
       rintro e W' ⟨rfl,hb⟩;exact hK.out _ _ ⟨HI.out.pc Hi.out hb rfl,trivial⟩
     | 16,_,Hi =>
       have x0:=X0.q Hi.out;refine av rfl fun K' hK=>?_;go_simp;exact hK.out _ _ (HI.out.pw Hi.out)
     | n+17,h,_=>exact absurd h (by omega)
   · intro wy a W HI hD HA
     have x15:a.tmps[33]? = some (.string l):=HI.out.sx HA.out 15;have x16:a.tmps[34]? = some (.pointer (some ⟨W0.heap.size,0,none⟩)):=HI.out.sx HA.out 16;have ww:=hid HI.out.world;obtain ⟨K1,K2,K3,K4⟩:=aW ww.out K1 K2 K3 K4;have wz:=Lib.hid (wo.out.trans (ww.out.mono wo.out.size));have oV:=K4.out.cell (i:=0) rfl;have mi:=K4.out.frozen (i:=0);refine aH (t:=0) ?_;refine av rfl fun K' hK=>?_;go_simp;refine hK.out _ _ ?_;clear hK;refine aO ?_;have o0:∀ {g':Nat} {cs':Array Value} {T':TypeId},g'≠W0.heap.size→SBk W g' cs' T'→SBk (storeAll W (W0.heap.size) 0 [.string l]) g' cs' T':=fun hg' h'=>aT hg' _ 0 h';exact⟨rfl,(HI.out.finx ⟨HI.out.sx HA.out 0,HI.out.sx HA.out 1,HI.out.sx HA.out 2,HI.out.sx HA.out 3,HI.out.sx HA.out 4,HI.out.sx HA.out 5,HI.out.sx HA.out 6,HI.out.sx HA.out 7,HI.out.sx HA.out 8,HI.out.sx HA.out 9,HI.out.sx HA.out 10,HI.out.sx HA.out 11,HI.out.sx HA.out 12,HI.out.sx HA.out 13,HI.out.sx HA.out 14,x15,x16,trivial⟩ rfl),(au (l:=[.string l]) (i:=0) (by omega) wz.out),(o0 (by omega) K1.out),(o0 (by omega) K2.out),(o0 (by omega) K3.out),(bO (l:=[.string l]) (i:=0) K4.out)⟩
 rintro a' W2 ⟨rfl,z0,z1,z2,z3,z4⟩;obtain ⟨w9,K1,K2,K3,K4⟩:=bA z0 z1 z2 z3 z4;clear z0 z1 z2 z3 z4;simp only[aR,List.setIfInBounds_toArray,List.set_cons_zero,List.set_cons_succ];go_wp2;rw[rounds_succ];go_wp2_with fail
 refine ay (fun a0 a' V=>a'=⟨aR [(18,.int .i64 1),(19,.int .i64 2),(20,.pointer (some ⟨w.heap.size,2,none⟩)),(21,.string z),(22,.int .i64 0),(23,.pointer (some ⟨w.heap.size+1,0,none⟩)),(24,.string u),(25,.string p1),(26,.int .i64 0),(27,.pointer (some ⟨w.heap.size,0,none⟩)),(28,.string x),(29,.int .i64 2),(30,.pointer (some ⟨w.heap.size+1,2,none⟩)),(31,.string t),(32,.string q1),(33,.string m),(34,.pointer (some ⟨W0.heap.size,1,none⟩))] a0.tmps,a0.defers⟩∧Below w.heap.size w V∧SBk V (w.heap.size) #[.string x,.string y,.string z] 69∧SBk V (w.heap.size+1) #[.string u,.string v,.string t] 69∧SBk V (w.heap.size+1+1) #[.string ⟨#[]⟩,.string ⟨#[]⟩,.string ⟨#[]⟩] 69∧SBk V (W0.heap.size) #[.string l,.string m,.string ⟨#[]⟩] 69) ?_ ?_
 · refine aC 17 1 [18,19,20,21,22,23,24,25,26,27,28,29,30,31,32,33,34] [Rel.val (.int .i64 1),Rel.val (.int .i64 2),Rel.val (.pointer (some ⟨w.heap.size,2,none⟩)),Rel.val (.string z),Rel.val (.int .i64 0),Rel.val (.pointer (some ⟨w.heap.size+1,0,none⟩)),Rel.val (.string u),Rel.val (.string p1),Rel.val (.int .i64 0),Rel.val (.pointer (some ⟨w.heap.size,0,none⟩)),Rel.val (.string x),Rel.val (.int .i64 2),Rel.val (.pointer (some ⟨w.heap.size+1,2,none⟩)),Rel.val (.string t),Rel.val (.string q1),Rel.val (.string m),Rel.val (.pointer (some ⟨W0.heap.size,1,none⟩))] ?_ ?_
   · intro wy a W i HI hD Hr him
     have y6:=HI.out.rst 6 rfl;have y7:=HI.out.rst 7 rfl;have y2:=HI.out.rst 2 rfl;have y8:=HI.out.rst 8 rfl;have y3:=HI.out.rst 3 rfl;have y5:=HI.out.rst 5 rfl;have sj:=(K1.out.below HI.out.world).cell (i:=2) rfl;have rV:=(K2.out.below HI.out.world).cell (i:=0) rfl;have sw:=(K1.out.below HI.out.world).cell (i:=0) rfl;have rf:=(K2.out.below HI.out.world).cell (i:=2) rfl;have X1:=HI.out.rg 1 19 rfl;have X2:=HI.out.rg 2 20 rfl;have X4:=HI.out.rg 4 22 rfl;have X5:=HI.out.rg 5 23 rfl;have X3:=HI.out.rg 3 21 rfl;have X6:=HI.out.rg 6 24 rfl;have X8:=HI.out.rg 8 26 rfl;have X9:=HI.out.rg 9 27 rfl;have X11:=HI.out.rg 11 29 rfl;have X12:=HI.out.rg 12 30 rfl;have X10:=HI.out.rg 10 28 rfl;have X13:=HI.out.rg 13 31 rfl;have X7:=HI.out.rg 7 25 rfl;have X14:=HI.out.rg 14 32 rfl;have X0:=HI.out.rg 0 18 rfl
     match i,him,Hr with
     | 0,_,Hi|1,_,Hi|2,_,Hi|3,_,Hi|4,_,Hi|5,_,Hi|6,_,Hi =>
       try have x1:=X1.t Hi.out
       try have x2:=X2.t Hi.out
       try have x4:=X4.t Hi.out
       try have x5:=X5.t Hi.out
       refine av rfl fun K' hK=>?_;go_simp;exact hK.out _ _ (HI.out.pw Hi.out)
     | 7,_,Hi =>
       have x3:=X3.q Hi.out;have x6:=X6.q Hi.out;refine av rfl fun K' hK=>?_;go_simp;with_reducible refine(C4.out _ (w9.out.trans (HI.out.world.mono w9.out.size))).mono ?_
       rintro e W' ⟨rfl,hb⟩;exact hK.out _ _ ⟨HI.out.pc Hi.out hb rfl,trivial⟩
     | 8,_,Hi|9,_,Hi|10,_,Hi|11,_,Hi|12,_,Hi|13,_,Hi =>
       try have x8:=X8.t Hi.out
       try have x9:=X9.t Hi.out
       try have x11:=X11.t Hi.out
       try have x12:=X12.t Hi.out
       refine av rfl fun K' hK=>?_;go_simp;exact hK.out _ _ (HI.out.pw Hi.out)
     | 14,_,Hi =>
       have x10:=X10.q Hi.out;have x13:=X13.q Hi.out;refine av rfl fun K' hK=>?_;go_simp;with_reducible refine(C5.out _ (w9.out.trans (HI.out.world.mono w9.out.size))).mono ?_
       rintro e W' ⟨rfl,hb⟩;exact hK.out _ _ ⟨HI.out.pc Hi.out hb rfl,trivial⟩
     | 15,_,Hi =>
       have x7:=X7.q Hi.out;have x14:=X14.q Hi.out;refine av rfl fun K' hK=>?_;go_simp;with_reducible refine(C6.out _ (w9.out.trans (HI.out.world.mono w9.out.size))).mono ?_
       rintro e W' ⟨rfl,hb⟩;exact hK.out _ _ ⟨HI.out.pc Hi.out hb rfl,trivial⟩
     | 16,_,Hi =>
       have x0:=X0.q Hi.out;refine av rfl fun K' hK=>?_;go_simp;exact hK.out _ _ (HI.out.pw Hi.out)
     | n+17,h,_=>exact absurd h (by omega)
   · intro wy a W HI hD HA
     have x15:a.tmps[33]? = some (.string m):=HI.out.sx HA.out 15;have x16:a.tmps[34]? = some (.pointer (some ⟨W0.heap.size,1,none⟩)):=HI.out.sx HA.out 16;have ww:=hid HI.out.world;obtain ⟨K1,K2,K3,K4⟩:=aW ww.out K1 K2 K3 K4;have wz:=Lib.hid (w9.out.trans (ww.out.mono w9.out.size));have ma:=K4.out.cell (i:=1) rfl;have l5:=K4.out.frozen (i:=1);refine aH (t:=0) ?_;refine av rfl fun K' hK=>?_;go_simp;refine hK.out _ _ ?_;clear hK;refine aO ?_;have o0:∀ {g':Nat} {cs':Array Value} {T':TypeId},g'≠W0.heap.size→SBk W g' cs' T'→SBk (storeAll W (W0.heap.size) 1 [.string m]) g' cs' T':=fun hg' h'=>aT hg' _ 1 h';exact⟨rfl,(HI.out.finx ⟨HI.out.sx HA.out 0,HI.out.sx HA.out 1,HI.out.sx HA.out 2,HI.out.sx HA.out 3,HI.out.sx HA.out 4,HI.out.sx HA.out 5,HI.out.sx HA.out 6,HI.out.sx HA.out 7,HI.out.sx HA.out 8,HI.out.sx HA.out 9,HI.out.sx HA.out 10,HI.out.sx HA.out 11,HI.out.sx HA.out 12,HI.out.sx HA.out 13,HI.out.sx HA.out 14,x15,x16,trivial⟩ rfl),(au (l:=[.string m]) (i:=1) (by omega) wz.out),(o0 (by omega) K1.out),(o0 (by omega) K2.out),(o0 (by omega) K3.out),(bO (l:=[.string m]) (i:=1) K4.out)⟩
 rintro a' W3 ⟨rfl,z0,z1,z2,z3,z4⟩;obtain ⟨u6,K1,K2,K3,K4⟩:=bA z0 z1 z2 z3 z4;clear z0 z1 z2 z3 z4;simp only[aR,List.setIfInBounds_toArray,List.set_cons_zero,List.set_cons_succ];go_wp2;rw[rounds_succ];go_wp2_with fail
 refine ay (fun a0 a' V=>a'=⟨aR [(18,.int .i64 2),(19,.int .i64 0),(20,.pointer (some ⟨w.heap.size,0,none⟩)),(21,.string x),(22,.int .i64 1),(23,.pointer (some ⟨w.heap.size+1,1,none⟩)),(24,.string v),(25,.string p2),(26,.int .i64 1),(27,.pointer (some ⟨w.heap.size,1,none⟩)),(28,.string y),(29,.int .i64 0),(30,.pointer (some ⟨w.heap.size+1,0,none⟩)),(31,.string u),(32,.string q2),(33,.string n),(34,.pointer (some ⟨W0.heap.size,2,none⟩))] a0.tmps,a0.defers⟩∧Below w.heap.size w V∧SBk V (w.heap.size+1+1) #[.string ⟨#[]⟩,.string ⟨#[]⟩,.string ⟨#[]⟩] 69∧SBk V (W0.heap.size) #[.string l,.string m,.string n] 69) ?_ ?_
 · refine aC 17 1 [18,19,20,21,22,23,24,25,26,27,28,29,30,31,32,33,34] [Rel.val (.int .i64 2),Rel.val (.int .i64 0),Rel.val (.pointer (some ⟨w.heap.size,0,none⟩)),Rel.val (.string x),Rel.val (.int .i64 1),Rel.val (.pointer (some ⟨w.heap.size+1,1,none⟩)),Rel.val (.string v),Rel.val (.string p2),Rel.val (.int .i64 1),Rel.val (.pointer (some ⟨w.heap.size,1,none⟩)),Rel.val (.string y),Rel.val (.int .i64 0),Rel.val (.pointer (some ⟨w.heap.size+1,0,none⟩)),Rel.val (.string u),Rel.val (.string q2),Rel.val (.string n),Rel.val (.pointer (some ⟨W0.heap.size,2,none⟩))] ?_ ?_
   · intro wy a W i HI hD Hr him
     have y6:=HI.out.rst 6 rfl;have y7:=HI.out.rst 7 rfl;have y2:=HI.out.rst 2 rfl;have y8:=HI.out.rst 8 rfl;have y3:=HI.out.rst 3 rfl;have y5:=HI.out.rst 5 rfl;have sw:=(K1.out.below HI.out.world).cell (i:=0) rfl;have rM:=(K2.out.below HI.out.world).cell (i:=1) rfl;have si:=(K1.out.below HI.out.world).cell (i:=1) rfl;have rV:=(K2.out.below HI.out.world).cell (i:=0) rfl;have X1:=HI.out.rg 1 19 rfl;have X2:=HI.out.rg 2 20 rfl;have X4:=HI.out.rg 4 22 rfl;have X5:=HI.out.rg 5 23 rfl;have X3:=HI.out.rg 3 21 rfl;have X6:=HI.out.rg 6 24 rfl;have X8:=HI.out.rg 8 26 rfl;have X9:=HI.out.rg 9 27 rfl;have X11:=HI.out.rg 11 29 rfl;have X12:=HI.out.rg 12 30 rfl;have X10:=HI.out.rg 10 28 rfl;have X13:=HI.out.rg 13 31 rfl;have X7:=HI.out.rg 7 25 rfl;have X14:=HI.out.rg 14 32 rfl;have X0:=HI.out.rg 0 18 rfl
     match i,him,Hr with
     | 0,_,Hi|1,_,Hi|2,_,Hi|3,_,Hi|4,_,Hi|5,_,Hi|6,_,Hi =>
       try have x1:=X1.t Hi.out
       try have x2:=X2.t Hi.out
       try have x4:=X4.t Hi.out
       try have x5:=X5.t Hi.out
       refine av rfl fun K' hK=>?_;go_simp;exact hK.out _ _ (HI.out.pw Hi.out)
     | 7,_,Hi =>
       have x3:=X3.q Hi.out;have x6:=X6.q Hi.out;refine av rfl fun K' hK=>?_;go_simp;with_reducible refine(C7.out _ (u6.out.trans (HI.out.world.mono u6.out.size))).mono ?_
       rintro e W' ⟨rfl,hb⟩;exact hK.out _ _ ⟨HI.out.pc Hi.out hb rfl,trivial⟩
     | 8,_,Hi|9,_,Hi|10,_,Hi|11,_,Hi|12,_,Hi|13,_,Hi =>
       try have x8:=X8.t Hi.out
       try have x9:=X9.t Hi.out
       try have x11:=X11.t Hi.out
       try have x12:=X12.t Hi.out
       refine av rfl fun K' hK=>?_;go_simp;exact hK.out _ _ (HI.out.pw Hi.out)
     | 14,_,Hi =>
       have x10:=X10.q Hi.out;have x13:=X13.q Hi.out;refine av rfl fun K' hK=>?_;go_simp;with_reducible refine(C8.out _ (u6.out.trans (HI.out.world.mono u6.out.size))).mono ?_
       rintro e W' ⟨rfl,hb⟩;exact hK.out _ _ ⟨HI.out.pc Hi.out hb rfl,trivial⟩
     | 15,_,Hi =>
       have x7:=X7.q Hi.out;have x14:=X14.q Hi.out;refine av rfl fun K' hK=>?_;go_simp;with_reducible refine(C9.out _ (u6.out.trans (HI.out.world.mono u6.out.size))).mono ?_
       rintro e W' ⟨rfl,hb⟩;exact hK.out _ _ ⟨HI.out.pc Hi.out hb rfl,trivial⟩
     | 16,_,Hi =>
       have x0:=X0.q Hi.out;refine av rfl fun K' hK=>?_;go_simp;exact hK.out _ _ (HI.out.pw Hi.out)
     | n+17,h,_=>exact absurd h (by omega)
   · intro wy a W HI hD HA
     have x15:a.tmps[33]? = some (.string n):=HI.out.sx HA.out 15;have x16:a.tmps[34]? = some (.pointer (some ⟨W0.heap.size,2,none⟩)):=HI.out.sx HA.out 16;have ww:=hid HI.out.world;obtain ⟨K3,K4⟩:=aQ ww.out K3 K4;have wz:=Lib.hid (u6.out.trans (ww.out.mono u6.out.size));have mf:=K4.out.cell (i:=2) rfl;have l6:=K4.out.frozen (i:=2);refine aH (t:=0) ?_;refine av rfl fun K' hK=>?_;go_simp;refine hK.out _ _ ?_;clear hK;refine aO ?_;have o0:∀ {g':Nat} {cs':Array Value} {T':TypeId},g'≠W0.heap.size→SBk W g' cs' T'→SBk (storeAll W (W0.heap.size) 2 [.string n]) g' cs' T':=fun hg' h'=>aT hg' _ 2 h';exact⟨rfl,(HI.out.finx ⟨HI.out.sx HA.out 0,HI.out.sx HA.out 1,HI.out.sx HA.out 2,HI.out.sx HA.out 3,HI.out.sx HA.out 4,HI.out.sx HA.out 5,HI.out.sx HA.out 6,HI.out.sx HA.out 7,HI.out.sx HA.out 8,HI.out.sx HA.out 9,HI.out.sx HA.out 10,HI.out.sx HA.out 11,HI.out.sx HA.out 12,HI.out.sx HA.out 13,HI.out.sx HA.out 14,x15,x16,trivial⟩ rfl),(au (l:=[.string n]) (i:=2) (by omega) wz.out),(o0 (by omega) K3.out),(bO (l:=[.string n]) (i:=2) K4.out)⟩
 rintro a' W4 ⟨rfl,z0,z1,z2⟩;obtain ⟨r9,K3,K4⟩:=ax z0 z1 z2;clear z0 z1 z2;simp only[aR,List.setIfInBounds_toArray,List.set_cons_zero,List.set_cons_succ];go_wp2;rw[rounds_succ];obtain ⟨oV,ma,mf⟩:=ah K4.out rfl rfl rfl;obtain ⟨p8,pq,ol⟩:=ah K3.out rfl rfl rfl;obtain ⟨lc,lg,lv⟩:=aP K3.out;go_wp2;exact bodyPost_ret (v:=.agg #[.string l,.string m,.string n]) (by simp[results,results29,go_sem,p8,pq,ol]) rfl ⟨rfl,(au (l:=[.string l,.string m,.string n]) (i:=0) (by omega) r9.out)⟩
open Go.Lib (hid)
theorem yI (x y z:ByteArray)(w₀:World)(h1:CV w₀ 48 #[.string x] (.bool true))(h2:CV w₀ 48 #[.string y] (.bool true))(h3:CV w₀ 48 #[.string z] (.bool true))  :
 CV w₀ 20 #[.agg #[.string x,.string y,.string z]] (.bool true):=by
 intro w hw;obtain ⟨C1,C2,C3⟩:=ax (h1.mono hw) (h2.mono hw) (h3.mono hw);have i0:=cix0 x y z;have i1:=cix1 x y z;have i2:=cix2 x y z;clear h1 h2 h3 hw;go_enter func20,ntmps20
 go_upto_region 1 with fail
 refine ak w [(#[.string x,.string y,.string z],24)] rfl ?_;rintro W0 ⟨k1,hb⟩;have wu:=hid (show Below w.heap.size w W0 from hb);have K1:=hid k1;clear k1 hb;obtain ⟨sw,si,sj⟩:=ah K1.out rfl rfl rfl;go_wp2_with fail
 with_reducible refine(gD x y z _ _ wu.out).mono ?_
 rintro e W1 ⟨rfl,hb⟩;clear sw si sj;have wo:=hbt wu hb;clear hb;go_wp2;refine wp_loop_rounds 4 ?_;rw[rounds_succ];go_wp2_with fail
 with_reducible refine(C1.out _ wo.out).mono ?_
 rintro e W2 ⟨rfl,hb⟩;have w9:=hbt wo hb;clear hb;go_wp2;rw[rounds_succ];go_wp2_with fail
 with_reducible refine(C2.out _ w9.out).mono ?_
 rintro e W3 ⟨rfl,hb⟩;have u6:=hbt w9 hb;clear hb;go_wp2;rw[rounds_succ];go_wp2_with fail
 with_reducible refine(C3.out _ u6.out).mono ?_
 rintro e W4 ⟨rfl,hb⟩;have r9:=hbt u6 hb;clear hb;go_wp2;rw[rounds_succ];go_wp2;exact bodyPost_ret (v:=.bool true) (by simp[results,results20,go_sem]) rfl ⟨rfl,r9.out⟩
theorem tC (c u v t:ByteArray)(w₀:World)   :
 CV w₀ 22 #[.agg #[.string ⟨#[48]⟩,.string ⟨#[48]⟩,.string ⟨#[48]⟩,.string c],.agg #[.string u,.string v,.string t]] (.tuple #[.string ⟨#[]⟩,.int .i64 1]):=by
 intro w hw;have hq:=rX (show o7 ⟨#[48]⟩ ⟨#[48]⟩ ⟨#[48]⟩ ⟨#[48]⟩ ⟨#[48]⟩ ⟨#[48]⟩=true from by unfold o7;simp);clear hw;go_enter func22,ntmps22
 go_upto_region 1 with fail
 refine ak w [(#[.string ⟨#[48]⟩,.string ⟨#[48]⟩,.string ⟨#[48]⟩,.string c],26),(#[.string u,.string v,.string t],24)] rfl ?_;rintro W0 ⟨k1,k2,hb⟩;have wu:=hid (show Below w.heap.size w W0 from hb);have K1:=hid k1;have K2:=hid k2;clear k1 k2 hb;obtain ⟨sw,si,sj⟩:=ah K1.out rfl rfl rfl;go_wp2_with fail
 with_reducible refine(gD ⟨#[48]⟩ ⟨#[48]⟩ ⟨#[48]⟩ _ _ wu.out).mono ?_
 rintro e W1 ⟨rfl,hb⟩;clear sw si sj;obtain ⟨K1,K2⟩:=aQ hb K1 K2;have wo:=hbt wu hb;clear hb;go_upto_region 2 with fail
 refine ak W1 [(#[.string ⟨#[48]⟩,.string ⟨#[48]⟩,.string ⟨#[48]⟩],69)] rfl ?_;have L1:=K1.out.lt;have L2:=K2.out.lt;have L3:=wo.out.size;rintro W2 ⟨k3,hb⟩;have hb:Below W1.heap.size W1 W2:=hb;have w9:=hbt wo hb;have K3:=hid k3;clear k3 hb;go_wp2_with fail
 refine ay (fun a0 a' V=>a'=⟨aR [(10,.agg #[.string ⟨#[48]⟩,.string ⟨#[48]⟩,.string ⟨#[48]⟩]),(11,.agg #[.string ⟨#[48]⟩,.string ⟨#[48]⟩,.string ⟨#[48]⟩]),(12,.bool true)] a0.tmps,a0.defers⟩∧Below w.heap.size w V) ?_ ?_
 · refine aC 3 0 [10,11,12] [Rel.val (.agg #[.string ⟨#[48]⟩,.string ⟨#[48]⟩,.string ⟨#[48]⟩]),Rel.val (.agg #[.string ⟨#[48]⟩,.string ⟨#[48]⟩,.string ⟨#[48]⟩]),Rel.val (.bool true)] ?_ ?_
   · intro wy a W i HI hD Hr him
     have y6:=HI.out.rst 6 rfl;obtain ⟨p8,pq,ol⟩:=ah (K3.out.below HI.out.world) rfl rfl rfl;have X0:=HI.out.rg 0 10 rfl;have X1:=HI.out.rg 1 11 rfl
     match i,him,Hr with
     | 0,_,Hi =>
       refine av rfl fun K' hK=>?_;go_simp;exact hK.out _ _ (HI.out.pw Hi.out)
     | 1,_,Hi =>
       refine av rfl fun K' hK=>?_;go_simp;with_reducible refine(z1B _ _ (w9.out.trans (HI.out.world.mono w9.out.size))).mono ?_
       rintro e W' ⟨rfl,hb⟩;exact hK.out _ _ ⟨HI.out.pc Hi.out hb rfl,trivial⟩
     | 2,_,Hi =>
       have x0:=X0.q Hi.out;have x1:=X1.q Hi.out;refine av rfl fun K' hK=>?_;go_simp;exact hK.out _ _ (HI.out.pw Hi.out)
     | n+3,h,_=>exact absurd h (by omega)
   · intro wy a W HI hD HA
     have ww:=hid HI.out.world;have wz:=hid (w9.out.trans (ww.out.mono w9.out.size));refine aO ?_;exact⟨rfl,(HI.out.finx ⟨HI.out.sx HA.out 0,HI.out.sx HA.out 1,HI.out.sx HA.out 2,trivial⟩ rfl),wz.out⟩
 rintro a' W3 ⟨rfl,z0⟩;have u6:=hid z0;clear z0;simp only[aR,List.setIfInBounds_toArray,List.set_cons_zero,List.set_cons_succ];go_wp2;exact bodyPost_ret (v:=.tuple #[.string ⟨#[]⟩,.int .i64 1]) (by simp[results,results22,go_sem]) rfl ⟨rfl,u6.out⟩
theorem nU (x y z c u v t s r g:ByteArray)(er:Int)(w₀:World)(h1:CV w₀ 34 #[.agg #[.string x,.string y,.string z],.agg #[.string u,.string v,.string t]] (.string s))(h2:CV w₀ 31 #[.string s,.string c] (.string r))(h3:CV w₀ 47 #[.string r] (.tuple #[.string g,.int .i64 er]))(hz:o7 x y z ⟨#[48]⟩ ⟨#[48]⟩ ⟨#[48]⟩=false) :
 CV w₀ 22 #[.agg #[.string x,.string y,.string z,.string c],.agg #[.string u,.string v,.string t]] (.tuple #[.string g,.int .i64 er]):=by
 intro w hw;obtain ⟨C1,C2,C3⟩:=ax (h1.mono hw) (h2.mono hw) (h3.mono hw);have hq:=rX hz;clear hz h1 h2 h3 hw;go_enter func22,ntmps22
 go_upto_region 1 with fail
 refine ak w [(#[.string x,.string y,.string z,.string c],26),(#[.string u,.string v,.string t],24)] rfl ?_;rintro W0 ⟨k1,k2,hb⟩;have wu:=hid (show Below w.heap.size w W0 from hb);have K1:=hid k1;have K2:=hid k2;clear k1 k2 hb;obtain ⟨sw,si,sj⟩:=ah K1.out rfl rfl rfl;go_wp2_with fail
 with_reducible refine(gD x y z _ _ wu.out).mono ?_
 rintro e W1 ⟨rfl,hb⟩;clear sw si sj;obtain ⟨K1,K2⟩:=aQ hb K1 K2;have wo:=hbt wu hb;clear hb;go_upto_region 2 with fail
 refine ak W1 [(#[.string x,.string y,.string z],69)] rfl ?_;have L1:=K1.out.lt;have L2:=K2.out.lt;have L3:=wo.out.size;rintro W2 ⟨k3,hb⟩;have hb:Below W1.heap.size W1 W2:=hb;obtain ⟨K1,K2⟩:=aQ hb K1 K2;have w9:=hbt wo hb;have K3:=hid k3;clear k3 hb;go_wp2_with fail
 refine ay (fun a0 a' V=>a'=⟨aR [(10,.agg #[.string x,.string y,.string z]),(11,.agg #[.string ⟨#[48]⟩,.string ⟨#[48]⟩,.string ⟨#[48]⟩]),(12,.bool false)] a0.tmps,a0.defers⟩∧Below w.heap.size w V∧SBk V (w.heap.size) #[.string x,.string y,.string z,.string c] 26∧SBk V (w.heap.size+1) #[.string u,.string v,.string t] 24∧SBk V (W1.heap.size) #[.string x,.string y,.string z] 69) ?_ ?_
 · refine aC 3 0 [10,11,12] [Rel.val (.agg #[.string x,.string y,.string z]),Rel.val (.agg #[.string ⟨#[48]⟩,.string ⟨#[48]⟩,.string ⟨#[48]⟩]),Rel.val (.bool false)] ?_ ?_
   · intro wy a W i HI hD Hr him
     have y6:=HI.out.rst 6 rfl;obtain ⟨p8,pq,ol⟩:=ah (K3.out.below HI.out.world) rfl rfl rfl;have X0:=HI.out.rg 0 10 rfl;have X1:=HI.out.rg 1 11 rfl
     match i,him,Hr with
     | 0,_,Hi =>
       refine av rfl fun K' hK=>?_;go_simp;exact hK.out _ _ (HI.out.pw Hi.out)
     | 1,_,Hi =>
       refine av rfl fun K' hK=>?_;go_simp;with_reducible refine(z1B _ _ (w9.out.trans (HI.out.world.mono w9.out.size))).mono ?_
       rintro e W' ⟨rfl,hb⟩;exact hK.out _ _ ⟨HI.out.pc Hi.out hb rfl,trivial⟩
     | 2,_,Hi =>
       have x0:=X0.q Hi.out;have x1:=X1.q Hi.out;refine av rfl fun K' hK=>?_;go_simp;exact hK.out _ _ (HI.out.pw Hi.out)
     | n+3,h,_=>exact absurd h (by omega)
   · intro wy a W HI hD HA
     have ww:=hid HI.out.world;obtain ⟨K1,K2,K3⟩:=bL ww.out K1 K2 K3;have wz:=Lib.hid (w9.out.trans (ww.out.mono w9.out.size));refine aO ?_;exact⟨rfl,(HI.out.finx ⟨HI.out.sx HA.out 0,HI.out.sx HA.out 1,HI.out.sx HA.out 2,trivial⟩ rfl),wz.out,K1.out,K2.out,K3.out⟩
 rintro a' W3 ⟨rfl,z0,z1,z2,z3⟩;obtain ⟨u6,K1,K2,K3⟩:=aL z0 z1 z2 z3;clear z0 z1 z2 z3;simp only[aR,List.setIfInBounds_toArray,List.set_cons_zero,List.set_cons_succ];go_wp2_with fail
 refine ay (fun a0 a' V=>a'=⟨aR [(13,.agg #[.string x,.string y,.string z]),(14,.agg #[.string u,.string v,.string t]),(15,.agg #[.string u,.string v,.string t]),(16,.string s),(17,.pointer (some ⟨w.heap.size,3,none⟩)),(18,.string c),(19,.string r),(20,.tuple #[.string g,.int .i64 er]),(21,.string g),(22,.int .i64 er),(4,.string g),(5,.int .i64 er)] a0.tmps,a0.defers⟩∧Below w.heap.size w V) ?_ ?_
 · refine aC 12 0 [13,14,15,16,17,18,19,20,21,22,4,5] [Rel.val (.agg #[.string x,.string y,.string z]),Rel.val (.agg #[.string u,.string v,.string t]),Rel.val (.agg #[.string u,.string v,.string t]),Rel.val (.string s),Rel.val (.pointer (some ⟨w.heap.size,3,none⟩)),Rel.val (.string c),Rel.val (.string r),Rel.val (.tuple #[.string g,.int .i64 er]),Rel.val (.string g),Rel.val (.int .i64 er),Rel.val (.string g),Rel.val (.int .i64 er)] ?_ ?_
   · intro wy a W i HI hD Hr him
     have y6:=HI.out.rst 6 rfl;have y3:=HI.out.rst 3 rfl;have y2:=HI.out.rst 2 rfl;obtain ⟨p8,pq,ol⟩:=ah (K3.out.below HI.out.world) rfl rfl rfl;obtain ⟨rV,rM,rf⟩:=ah (K2.out.below HI.out.world) rfl rfl rfl;have oM:=(K1.out.below HI.out.world).cell (i:=3) rfl;have X1:=HI.out.rg 1 14 rfl;have X0:=HI.out.rg 0 13 rfl;have X2:=HI.out.rg 2 15 rfl;have X4:=HI.out.rg 4 17 rfl;have X3:=HI.out.rg 3 16 rfl;have X5:=HI.out.rg 5 18 rfl;have X6:=HI.out.rg 6 19 rfl;have X7:=HI.out.rg 7 20 rfl;have X8:=HI.out.rg 8 21 rfl;have X9:=HI.out.rg 9 22 rfl
     match i,him,Hr with
     | 0,_,Hi|1,_,Hi =>
       refine av rfl fun K' hK=>?_;go_simp;exact hK.out _ _ (HI.out.pw Hi.out)
     | 2,_,Hi =>
       have x1:=X1.q Hi.out;refine av rfl fun K' hK=>?_;go_simp;with_reducible refine(gD u v t _ _ (u6.out.trans (HI.out.world.mono u6.out.size))).mono ?_
       rintro e W' ⟨rfl,hb⟩;exact hK.out _ _ ⟨HI.out.pc Hi.out hb rfl,trivial⟩
     | 3,_,Hi =>
       have x0:=X0.q Hi.out;have x2:=X2.q Hi.out;refine av rfl fun K' hK=>?_;go_simp;with_reducible refine(C1.out _ (u6.out.trans (HI.out.world.mono u6.out.size))).mono ?_
       rintro e W' ⟨rfl,hb⟩;exact hK.out _ _ ⟨HI.out.pc Hi.out hb rfl,trivial⟩
     | 4,_,Hi|5,_,Hi =>
       try have x4:=X4.t Hi.out
       refine av rfl fun K' hK=>?_;go_simp;exact hK.out _ _ (HI.out.pw Hi.out)
     | 6,_,Hi =>
       have x3:=X3.q Hi.out;have x5:=X5.q Hi.out;refine av rfl fun K' hK=>?_;go_simp;with_reducible refine(C2.out _ (u6.out.trans (HI.out.world.mono u6.out.size))).mono ?_
       rintro e W' ⟨rfl,hb⟩;exact hK.out _ _ ⟨HI.out.pc Hi.out hb rfl,trivial⟩
     | 7,_,Hi =>
       have x6:=X6.q Hi.out;refine av rfl fun K' hK=>?_;go_simp;with_reducible refine(C3.out _ (u6.out.trans (HI.out.world.mono u6.out.size))).mono ?_
       rintro e W' ⟨rfl,hb⟩;exact hK.out _ _ ⟨HI.out.pc Hi.out hb rfl,trivial⟩
     | 8,_,Hi|9,_,Hi|10,_,Hi|11,_,Hi =>
       try have x7:=X7.t Hi.out
       try have x8:=X8.t Hi.out
       try have x9:=X9.t Hi.out
       refine av rfl fun K' hK=>?_;go_simp;exact hK.out _ _ (HI.out.pw Hi.out)
     | n+12,h,_=>exact absurd h (by omega)
   · intro wy a W HI hD HA
     have ww:=hid HI.out.world;have wz:=hid (u6.out.trans (ww.out.mono u6.out.size));refine aO ?_;exact⟨rfl,(HI.out.finx ⟨HI.out.sx HA.out 0,HI.out.sx HA.out 1,HI.out.sx HA.out 2,HI.out.sx HA.out 3,HI.out.sx HA.out 4,HI.out.sx HA.out 5,HI.out.sx HA.out 6,HI.out.sx HA.out 7,HI.out.sx HA.out 8,HI.out.sx HA.out 9,HI.out.sx HA.out 10,HI.out.sx HA.out 11,trivial⟩ rfl),wz.out⟩
 rintro a' W4 ⟨rfl,z0⟩;have r9:=hid z0;clear z0;simp only[aR,List.setIfInBounds_toArray,List.set_cons_zero,List.set_cons_succ];go_wp2;exact bodyPost_ret (v:=.tuple #[.string g,.int .i64 er]) (by simp[results,results22,go_sem]) rfl ⟨rfl,r9.out⟩
theorem tu (x y z c u v t g:ByteArray)(er k:Int)(w₀:World)(h1:CV w₀ 22 #[.agg #[.string x,.string y,.string z,.string c],.agg #[.string u,.string v,.string t]] (.tuple #[.string g,.int .i64 er]))(h2:CV w₀ 23 #[.string g,.string ⟨#[48]⟩] (.int .i64 k))  :
 CV w₀ 6 #[.agg #[.string x,.string y,.string z,.string c],.agg #[.string u,.string v,.string t]] (.tuple #[.int .i64 k,.int .i64 er]):=by
 intro w hw;have C1:=hid (h1.mono hw);have C2:=hid (h2.mono hw);clear h1 h2 hw;go_enter func6,ntmps6
 go_upto_region 1 with fail
 refine ak w [(#[.string x,.string y,.string z,.string c],26),(#[.string u,.string v,.string t],24)] rfl ?_;rintro W0 ⟨k1,k2,hb⟩;have wu:=hid (show Below w.heap.size w W0 from hb);have K1:=hid k1;have K2:=hid k2;clear k1 k2 hb;obtain ⟨sw,si,sj,oM⟩:=bN K1.out rfl rfl rfl rfl;obtain ⟨rV,rM,rf⟩:=ah K2.out rfl rfl rfl;go_wp2_with fail
 with_reducible refine(C1.out _ wu.out).mono ?_
 rintro e W1 ⟨rfl,hb⟩;clear sw si sj oM rV rM rf;have wo:=hbt wu hb;clear hb;go_wp2_with fail
 with_reducible refine(C2.out _ wo.out).mono ?_
 rintro e W2 ⟨rfl,hb⟩;have w9:=hbt wo hb;clear hb;go_wp2;exact bodyPost_ret (v:=.tuple #[.int .i64 k,.int .i64 er]) (by simp[results,results6,go_sem]) rfl ⟨rfl,w9.out⟩
theorem yJ (x:ByteArray)(k:Int)(b:Bool)(w₀:World)(h1:CV w₀ 23 #[.string x,.string ⟨#[48]⟩] (.int .i64 k))(hb0:decide (0<k)=b) :
 CV w₀ 42 #[.string x] (.bool b):=by
 intro w hw;have C1:=hid (h1.mono hw);clear h1 hw;go_enter func42,ntmps42
 have wu:=hid (Below.refl w.heap.size w);go_wp2_with fail
 with_reducible refine(C1.out _ wu.out).mono ?_
 rintro e W1 ⟨rfl,hb⟩;have wo:=hbt wu hb;clear hb;go_wp2;exact bodyPost_ret (v:=.bool b) (by simp[results,results42,go_sem]) rfl ⟨rfl,wo.out⟩
