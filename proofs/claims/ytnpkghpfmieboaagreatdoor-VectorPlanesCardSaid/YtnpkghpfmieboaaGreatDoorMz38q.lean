/- texts -/
import Derived.Test.YtnpkghpfmieboaaGreatDoorMz36q
open Go.Proofs.Tryz
set_option maxRecDepth 100000
set_option maxHeartbeats 20000000
open Go.Lib (hid)
namespace Go.Proofs.YtnpkghpfmieboaaGreatDoor
open Go.RowKit Go.Gb
theorem qh (x y z u v t p0 q0 p1 q1 p2 q2 l m n:ByteArray)(w₀:World)(h1:CV w₀ 55 #[.string y,.string t] (.string p0))(h2:CV w₀ 55 #[.string z,.string v] (.string q0))(h3:CV w₀ 31 #[.string p0,.string q0] (.string l))(h4:CV w₀ 55 #[.string z,.string u] (.string p1))(h5:CV w₀ 55 #[.string x,.string t] (.string q1))(h6:CV w₀ 31 #[.string p1,.string q1] (.string m))(h7:CV w₀ 55 #[.string x,.string v] (.string p2))(h8:CV w₀ 55 #[.string y,.string u] (.string q2))(h9:CV w₀ 31 #[.string p2,.string q2] (.string n))  :
 CV w₀ 29 #[.agg #[.string x,.string y,.string z],.agg #[.string u,.string v,.string t]] (.agg #[.string l,.string m,.string n]):=by
 intro w hw;obtain ⟨C1,C2,C3,C4,C5,C6,C7,C8,C9⟩:=bK (h1.mono hw) (h2.mono hw) (h3.mono hw) (h4.mono hw) (h5.mono hw) (h6.mono hw) (h7.mono hw) (h8.mono hw) (h9.mono hw);clear h1 h2 h3 h4 h5 h6 h7 h8 h9 hw;go_enter func29,ntmps29
 go_upto_region 1 with fail
 refine ak w [(#[.string x,.string y,.string z],69),(#[.string u,.string v,.string t],69),(#[.string ⟨#[]⟩,.string ⟨#[]⟩,.string ⟨#[]⟩],69)] rfl ?_;rintro W0 ⟨k1,k2,k3,hb⟩;have wu:=hid (show Below w.heap.size w W0 from hb);obtain ⟨K1,K2,K3⟩:=ax k1 k2 k3;clear k1 k2 k3 hb;go_upto_region 2 with fail
 refine ak W0 [(#[.string ⟨#[]⟩,.string ⟨#[]⟩,.string ⟨#[]⟩],69)] rfl ?_;have L1:=K1.o.lt;have L2:=K2.o.lt;have L3:=K3.o.lt;have L4:=wu.o.size;rintro W1 ⟨k4,hb⟩;have hb:Below W0.heap.size W0 W1:=hb;obtain ⟨K1,K2,K3⟩:=bL hb K1 K2 K3;have wo:=hbt wu hb;have K4:=hid k4;clear k4 hb;go_wp2;refine wp_loop_rounds 4 ?_;rw[rounds_succ];go_wp2_with fail
 refine ay (fun a0 a' V=>a'=⟨aR [(18,.int .i64 0),(19,.int .i64 1),(20,.pointer (some ⟨w.heap.size,1,none⟩)),(21,.string y),(22,.int .i64 2),(23,.pointer (some ⟨w.heap.size+1,2,none⟩)),(24,.string t),(25,.string p0),(26,.int .i64 2),(27,.pointer (some ⟨w.heap.size,2,none⟩)),(28,.string z),(29,.int .i64 1),(30,.pointer (some ⟨w.heap.size+1,1,none⟩)),(31,.string v),(32,.string q0),(33,.string l),(34,.pointer (some ⟨W0.heap.size,0,none⟩))] a0.tmps,a0.defers⟩∧Below w.heap.size w V∧SBk V (w.heap.size) #[.string x,.string y,.string z] 69∧SBk V (w.heap.size+1) #[.string u,.string v,.string t] 69∧SBk V (w.heap.size+1+1) #[.string ⟨#[]⟩,.string ⟨#[]⟩,.string ⟨#[]⟩] 69∧SBk V (W0.heap.size) #[.string l,.string ⟨#[]⟩,.string ⟨#[]⟩] 69) ?_ ?_
 · refine aC 17 1 [18,19,20,21,22,23,24,25,26,27,28,29,30,31,32,33,34] [Rel.val (.int .i64 0),Rel.val (.int .i64 1),Rel.val (.pointer (some ⟨w.heap.size,1,none⟩)),Rel.val (.string y),Rel.val (.int .i64 2),Rel.val (.pointer (some ⟨w.heap.size+1,2,none⟩)),Rel.val (.string t),Rel.val (.string p0),Rel.val (.int .i64 2),Rel.val (.pointer (some ⟨w.heap.size,2,none⟩)),Rel.val (.string z),Rel.val (.int .i64 1),Rel.val (.pointer (some ⟨w.heap.size+1,1,none⟩)),Rel.val (.string v),Rel.val (.string q0),Rel.val (.string l),Rel.val (.pointer (some ⟨W0.heap.size,0,none⟩))] ?_ ?_
   · intro wy a W i HI hD Hr him
     obtain⟨y6,y7,y2,y8,y3,y5⟩:=HI.o.s6 6 7 2 8 3 5;have si:=(K1.o.below HI.o.world).cell (i:=1) rfl;have rf:=(K2.o.below HI.o.world).cell (i:=2) rfl;have sj:=(K1.o.below HI.o.world).cell (i:=2) rfl;have rM:=(K2.o.below HI.o.world).cell (i:=1) rfl;obtain⟨X1,X2,X4,X5,X3,X6⟩:=HI.o.g6 1 19 2 20 4 22 5 23 3 21 6 24;obtain⟨X8,X9,X11,X12,X10,X13⟩:=HI.o.g6 8 26 9 27 11 29 12 30 10 28 13 31;obtain⟨X7,X14,X0⟩:=HI.o.g3 7 25 14 32 0 18
     match i,him,Hr with
     | 0,_,Hi|1,_,Hi|2,_,Hi|3,_,Hi|4,_,Hi|5,_,Hi|6,_,Hi =>
       try have x1:=X1.t Hi.o
       try have x2:=X2.t Hi.o
       try have x4:=X4.t Hi.o
       try have x5:=X5.t Hi.o
       refine av rfl fun K' hK=>?_;go_simp;exact hK.o _ _ (HI.o.pw Hi.o)
     | 7,_,Hi =>
       have x3:=X3.q Hi.o;have x6:=X6.q Hi.o;refine av rfl fun K' hK=>?_;go_simp;with_reducible refine(C1.o _ (wo.o.trans (HI.o.world.mono wo.o.size))).mono ?_
       rintro e W' ⟨rfl,hb⟩;exact hK.o _ _ ⟨HI.o.pc Hi.o hb rfl,trivial⟩
     | 8,_,Hi|9,_,Hi|10,_,Hi|11,_,Hi|12,_,Hi|13,_,Hi =>
       try have x8:=X8.t Hi.o
       try have x9:=X9.t Hi.o
       try have x11:=X11.t Hi.o
       try have x12:=X12.t Hi.o
       refine av rfl fun K' hK=>?_;go_simp;exact hK.o _ _ (HI.o.pw Hi.o)
     | 14,_,Hi =>
       have x10:=X10.q Hi.o;have x13:=X13.q Hi.o;refine av rfl fun K' hK=>?_;go_simp;with_reducible refine(C2.o _ (wo.o.trans (HI.o.world.mono wo.o.size))).mono ?_
       rintro e W' ⟨rfl,hb⟩;exact hK.o _ _ ⟨HI.o.pc Hi.o hb rfl,trivial⟩
     | 15,_,Hi =>
       have x7:=X7.q Hi.o;have x14:=X14.q Hi.o;refine av rfl fun K' hK=>?_;go_simp;with_reducible refine(C3.o _ (wo.o.trans (HI.o.world.mono wo.o.size))).mono ?_
       rintro e W' ⟨rfl,hb⟩;exact hK.o _ _ ⟨HI.o.pc Hi.o hb rfl,trivial⟩
     | 16,_,Hi =>
       have x0:=X0.q Hi.o;refine av rfl fun K' hK=>?_;go_simp;exact hK.o _ _ (HI.o.pw Hi.o)
     | n+17,h,_=>exact absurd h (by omega)
   · intro wy a W HI hD HA
     have x15:a.tmps[33]? = some (.string l):=HI.o.sx HA.o 15;have x16:a.tmps[34]? = some (.pointer (some ⟨W0.heap.size,0,none⟩)):=HI.o.sx HA.o 16;have ww:=hid HI.o.world;obtain ⟨K1,K2,K3,K4⟩:=aW ww.o K1 K2 K3 K4;have wz:=Lib.hid (wo.o.trans (ww.o.mono wo.o.size));have oV:=K4.o.cell (i:=0) rfl;have mi:=K4.o.frozen (i:=0);refine aH (t:=0) ?_;refine av rfl fun K' hK=>?_;go_simp;refine hK.o _ _ ?_;clear hK;refine aO ?_;have o0:∀ {g':Nat} {cs':Array Value} {T':TypeId},g'≠W0.heap.size→SBk W g' cs' T'→SBk (storeAll W (W0.heap.size) 0 [.string l]) g' cs' T':=fun hg' h'=>aT hg' _ 0 h';exact⟨rfl,(HI.o.finx ⟨HI.o.sx HA.o 0,HI.o.sx HA.o 1,HI.o.sx HA.o 2,HI.o.sx HA.o 3,HI.o.sx HA.o 4,HI.o.sx HA.o 5,HI.o.sx HA.o 6,HI.o.sx HA.o 7,HI.o.sx HA.o 8,HI.o.sx HA.o 9,HI.o.sx HA.o 10,HI.o.sx HA.o 11,HI.o.sx HA.o 12,HI.o.sx HA.o 13,HI.o.sx HA.o 14,x15,x16,trivial⟩ rfl),(au (l:=[.string l]) (i:=0) (by omega) wz.o),(o0 (by omega) K1.o),(o0 (by omega) K2.o),(o0 (by omega) K3.o),(bO (l:=[.string l]) (i:=0) K4.o)⟩
 rintro a' W2 ⟨rfl,z0,z1,z2,z3,z4⟩;obtain ⟨w9,K1,K2,K3,K4⟩:=bA z0 z1 z2 z3 z4;clear z0 z1 z2 z3 z4;simp only[aR,List.setIfInBounds_toArray,List.set_cons_zero,List.set_cons_succ];go_wp2;rw[rounds_succ];go_wp2_with fail
 refine ay (fun a0 a' V=>a'=⟨aR [(18,.int .i64 1),(19,.int .i64 2),(20,.pointer (some ⟨w.heap.size,2,none⟩)),(21,.string z),(22,.int .i64 0),(23,.pointer (some ⟨w.heap.size+1,0,none⟩)),(24,.string u),(25,.string p1),(26,.int .i64 0),(27,.pointer (some ⟨w.heap.size,0,none⟩)),(28,.string x),(29,.int .i64 2),(30,.pointer (some ⟨w.heap.size+1,2,none⟩)),(31,.string t),(32,.string q1),(33,.string m),(34,.pointer (some ⟨W0.heap.size,1,none⟩))] a0.tmps,a0.defers⟩∧Below w.heap.size w V∧SBk V (w.heap.size) #[.string x,.string y,.string z] 69∧SBk V (w.heap.size+1) #[.string u,.string v,.string t] 69∧SBk V (w.heap.size+1+1) #[.string ⟨#[]⟩,.string ⟨#[]⟩,.string ⟨#[]⟩] 69∧SBk V (W0.heap.size) #[.string l,.string m,.string ⟨#[]⟩] 69) ?_ ?_
 · refine aC 17 1 [18,19,20,21,22,23,24,25,26,27,28,29,30,31,32,33,34] [Rel.val (.int .i64 1),Rel.val (.int .i64 2),Rel.val (.pointer (some ⟨w.heap.size,2,none⟩)),Rel.val (.string z),Rel.val (.int .i64 0),Rel.val (.pointer (some ⟨w.heap.size+1,0,none⟩)),Rel.val (.string u),Rel.val (.string p1),Rel.val (.int .i64 0),Rel.val (.pointer (some ⟨w.heap.size,0,none⟩)),Rel.val (.string x),Rel.val (.int .i64 2),Rel.val (.pointer (some ⟨w.heap.size+1,2,none⟩)),Rel.val (.string t),Rel.val (.string q1),Rel.val (.string m),Rel.val (.pointer (some ⟨W0.heap.size,1,none⟩))] ?_ ?_
   · intro wy a W i HI hD Hr him
     obtain⟨y6,y7,y2,y8,y3,y5⟩:=HI.o.s6 6 7 2 8 3 5;have sj:=(K1.o.below HI.o.world).cell (i:=2) rfl;have rV:=(K2.o.below HI.o.world).cell (i:=0) rfl;have sw:=(K1.o.below HI.o.world).cell (i:=0) rfl;have rf:=(K2.o.below HI.o.world).cell (i:=2) rfl;obtain⟨X1,X2,X4,X5,X3,X6⟩:=HI.o.g6 1 19 2 20 4 22 5 23 3 21 6 24;obtain⟨X8,X9,X11,X12,X10,X13⟩:=HI.o.g6 8 26 9 27 11 29 12 30 10 28 13 31;obtain⟨X7,X14,X0⟩:=HI.o.g3 7 25 14 32 0 18
     match i,him,Hr with
     | 0,_,Hi|1,_,Hi|2,_,Hi|3,_,Hi|4,_,Hi|5,_,Hi|6,_,Hi =>
       try have x1:=X1.t Hi.o
       try have x2:=X2.t Hi.o
       try have x4:=X4.t Hi.o
       try have x5:=X5.t Hi.o
       refine av rfl fun K' hK=>?_;go_simp;exact hK.o _ _ (HI.o.pw Hi.o)
     | 7,_,Hi =>
       have x3:=X3.q Hi.o;have x6:=X6.q Hi.o;refine av rfl fun K' hK=>?_;go_simp;with_reducible refine(C4.o _ (w9.o.trans (HI.o.world.mono w9.o.size))).mono ?_
       rintro e W' ⟨rfl,hb⟩;exact hK.o _ _ ⟨HI.o.pc Hi.o hb rfl,trivial⟩
     | 8,_,Hi|9,_,Hi|10,_,Hi|11,_,Hi|12,_,Hi|13,_,Hi =>
       try have x8:=X8.t Hi.o
       try have x9:=X9.t Hi.o
       try have x11:=X11.t Hi.o
       try have x12:=X12.t Hi.o
       refine av rfl fun K' hK=>?_;go_simp;exact hK.o _ _ (HI.o.pw Hi.o)
     | 14,_,Hi =>
       have x10:=X10.q Hi.o;have x13:=X13.q Hi.o;refine av rfl fun K' hK=>?_;go_simp;with_reducible refine(C5.o _ (w9.o.trans (HI.o.world.mono w9.o.size))).mono ?_
       rintro e W' ⟨rfl,hb⟩;exact hK.o _ _ ⟨HI.o.pc Hi.o hb rfl,trivial⟩
     | 15,_,Hi =>
       have x7:=X7.q Hi.o;have x14:=X14.q Hi.o;refine av rfl fun K' hK=>?_;go_simp;with_reducible refine(C6.o _ (w9.o.trans (HI.o.world.mono w9.o.size))).mono ?_
       rintro e W' ⟨rfl,hb⟩;exact hK.o _ _ ⟨HI.o.pc Hi.o hb rfl,trivial⟩
     | 16,_,Hi =>
       have x0:=X0.q Hi.o;refine av rfl fun K' hK=>?_;go_simp;exact hK.o _ _ (HI.o.pw Hi.o)
     | n+17,h,_=>exact absurd h (by omega)
   · intro wy a W HI hD HA
     have x15:a.tmps[33]? = some (.string m):=HI.o.sx HA.o 15;have x16:a.tmps[34]? = some (.pointer (some ⟨W0.heap.size,1,none⟩)):=HI.o.sx HA.o 16;have ww:=hid HI.o.world;obtain ⟨K1,K2,K3,K4⟩:=aW ww.o K1 K2 K3 K4;have wz:=Lib.hid (w9.o.trans (ww.o.mono w9.o.size));have ma:=K4.o.cell (i:=1) rfl;have l5:=K4.o.frozen (i:=1);refine aH (t:=0) ?_;refine av rfl fun K' hK=>?_;go_simp;refine hK.o _ _ ?_;clear hK;refine aO ?_;have o0:∀ {g':Nat} {cs':Array Value} {T':TypeId},g'≠W0.heap.size→SBk W g' cs' T'→SBk (storeAll W (W0.heap.size) 1 [.string m]) g' cs' T':=fun hg' h'=>aT hg' _ 1 h';exact⟨rfl,(HI.o.finx ⟨HI.o.sx HA.o 0,HI.o.sx HA.o 1,HI.o.sx HA.o 2,HI.o.sx HA.o 3,HI.o.sx HA.o 4,HI.o.sx HA.o 5,HI.o.sx HA.o 6,HI.o.sx HA.o 7,HI.o.sx HA.o 8,HI.o.sx HA.o 9,HI.o.sx HA.o 10,HI.o.sx HA.o 11,HI.o.sx HA.o 12,HI.o.sx HA.o 13,HI.o.sx HA.o 14,x15,x16,trivial⟩ rfl),(au (l:=[.string m]) (i:=1) (by omega) wz.o),(o0 (by omega) K1.o),(o0 (by omega) K2.o),(o0 (by omega) K3.o),(bO (l:=[.string m]) (i:=1) K4.o)⟩
 rintro a' W3 ⟨rfl,z0,z1,z2,z3,z4⟩;obtain ⟨u6,K1,K2,K3,K4⟩:=bA z0 z1 z2 z3 z4;clear z0 z1 z2 z3 z4;simp only[aR,List.setIfInBounds_toArray,List.set_cons_zero,List.set_cons_succ];go_wp2;rw[rounds_succ];go_wp2_with fail
 refine ay (fun a0 a' V=>a'=⟨aR [(18,.int .i64 2),(19,.int .i64 0),(20,.pointer (some ⟨w.heap.size,0,none⟩)),(21,.string x),(22,.int .i64 1),(23,.pointer (some ⟨w.heap.size+1,1,none⟩)),(24,.string v),(25,.string p2),(26,.int .i64 1),(27,.pointer (some ⟨w.heap.size,1,none⟩)),(28,.string y),(29,.int .i64 0),(30,.pointer (some ⟨w.heap.size+1,0,none⟩)),(31,.string u),(32,.string q2),(33,.string n),(34,.pointer (some ⟨W0.heap.size,2,none⟩))] a0.tmps,a0.defers⟩∧Below w.heap.size w V∧SBk V (w.heap.size+1+1) #[.string ⟨#[]⟩,.string ⟨#[]⟩,.string ⟨#[]⟩] 69∧SBk V (W0.heap.size) #[.string l,.string m,.string n] 69) ?_ ?_
 · refine aC 17 1 [18,19,20,21,22,23,24,25,26,27,28,29,30,31,32,33,34] [Rel.val (.int .i64 2),Rel.val (.int .i64 0),Rel.val (.pointer (some ⟨w.heap.size,0,none⟩)),Rel.val (.string x),Rel.val (.int .i64 1),Rel.val (.pointer (some ⟨w.heap.size+1,1,none⟩)),Rel.val (.string v),Rel.val (.string p2),Rel.val (.int .i64 1),Rel.val (.pointer (some ⟨w.heap.size,1,none⟩)),Rel.val (.string y),Rel.val (.int .i64 0),Rel.val (.pointer (some ⟨w.heap.size+1,0,none⟩)),Rel.val (.string u),Rel.val (.string q2),Rel.val (.string n),Rel.val (.pointer (some ⟨W0.heap.size,2,none⟩))] ?_ ?_
   · intro wy a W i HI hD Hr him
     obtain⟨y6,y7,y2,y8,y3,y5⟩:=HI.o.s6 6 7 2 8 3 5;have sw:=(K1.o.below HI.o.world).cell (i:=0) rfl;have rM:=(K2.o.below HI.o.world).cell (i:=1) rfl;have si:=(K1.o.below HI.o.world).cell (i:=1) rfl;have rV:=(K2.o.below HI.o.world).cell (i:=0) rfl;obtain⟨X1,X2,X4,X5,X3,X6⟩:=HI.o.g6 1 19 2 20 4 22 5 23 3 21 6 24;obtain⟨X8,X9,X11,X12,X10,X13⟩:=HI.o.g6 8 26 9 27 11 29 12 30 10 28 13 31;obtain⟨X7,X14,X0⟩:=HI.o.g3 7 25 14 32 0 18
     match i,him,Hr with
     | 0,_,Hi|1,_,Hi|2,_,Hi|3,_,Hi|4,_,Hi|5,_,Hi|6,_,Hi =>
       try have x1:=X1.t Hi.o
       try have x2:=X2.t Hi.o
       try have x4:=X4.t Hi.o
       try have x5:=X5.t Hi.o
       refine av rfl fun K' hK=>?_;go_simp;exact hK.o _ _ (HI.o.pw Hi.o)
     | 7,_,Hi =>
       have x3:=X3.q Hi.o;have x6:=X6.q Hi.o;refine av rfl fun K' hK=>?_;go_simp;with_reducible refine(C7.o _ (u6.o.trans (HI.o.world.mono u6.o.size))).mono ?_
       rintro e W' ⟨rfl,hb⟩;exact hK.o _ _ ⟨HI.o.pc Hi.o hb rfl,trivial⟩
     | 8,_,Hi|9,_,Hi|10,_,Hi|11,_,Hi|12,_,Hi|13,_,Hi =>
       try have x8:=X8.t Hi.o
       try have x9:=X9.t Hi.o
       try have x11:=X11.t Hi.o
       try have x12:=X12.t Hi.o
       refine av rfl fun K' hK=>?_;go_simp;exact hK.o _ _ (HI.o.pw Hi.o)
     | 14,_,Hi =>
       have x10:=X10.q Hi.o;have x13:=X13.q Hi.o;refine av rfl fun K' hK=>?_;go_simp;with_reducible refine(C8.o _ (u6.o.trans (HI.o.world.mono u6.o.size))).mono ?_
       rintro e W' ⟨rfl,hb⟩;exact hK.o _ _ ⟨HI.o.pc Hi.o hb rfl,trivial⟩
     | 15,_,Hi =>
       have x7:=X7.q Hi.o;have x14:=X14.q Hi.o;refine av rfl fun K' hK=>?_;go_simp;with_reducible refine(C9.o _ (u6.o.trans (HI.o.world.mono u6.o.size))).mono ?_
       rintro e W' ⟨rfl,hb⟩;exact hK.o _ _ ⟨HI.o.pc Hi.o hb rfl,trivial⟩
     | 16,_,Hi =>
       have x0:=X0.q Hi.o;refine av rfl fun K' hK=>?_;go_simp;exact hK.o _ _ (HI.o.pw Hi.o)
     | n+17,h,_=>exact absurd h (by omega)
   · intro wy a W HI hD HA
     have x15:a.tmps[33]? = some (.string n):=HI.o.sx HA.o 15;have x16:a.tmps[34]? = some (.pointer (some ⟨W0.heap.size,2,none⟩)):=HI.o.sx HA.o 16;have ww:=hid HI.o.world;obtain ⟨K3,K4⟩:=aQ ww.o K3 K4;have wz:=Lib.hid (u6.o.trans (ww.o.mono u6.o.size));have mf:=K4.o.cell (i:=2) rfl;have l6:=K4.o.frozen (i:=2);refine aH (t:=0) ?_;refine av rfl fun K' hK=>?_;go_simp;refine hK.o _ _ ?_;clear hK;refine aO ?_;have o0:∀ {g':Nat} {cs':Array Value} {T':TypeId},g'≠W0.heap.size→SBk W g' cs' T'→SBk (storeAll W (W0.heap.size) 2 [.string n]) g' cs' T':=fun hg' h'=>aT hg' _ 2 h';exact⟨rfl,(HI.o.finx ⟨HI.o.sx HA.o 0,HI.o.sx HA.o 1,HI.o.sx HA.o 2,HI.o.sx HA.o 3,HI.o.sx HA.o 4,HI.o.sx HA.o 5,HI.o.sx HA.o 6,HI.o.sx HA.o 7,HI.o.sx HA.o 8,HI.o.sx HA.o 9,HI.o.sx HA.o 10,HI.o.sx HA.o 11,HI.o.sx HA.o 12,HI.o.sx HA.o 13,HI.o.sx HA.o 14,x15,x16,trivial⟩ rfl),(au (l:=[.string n]) (i:=2) (by omega) wz.o),(o0 (by omega) K3.o),(bO (l:=[.string n]) (i:=2) K4.o)⟩
 rintro a' W4 ⟨rfl,z0,z1,z2⟩;obtain ⟨r9,K3,K4⟩:=ax z0 z1 z2;clear z0 z1 z2;simp only[aR,List.setIfInBounds_toArray,List.set_cons_zero,List.set_cons_succ];go_wp2;rw[rounds_succ];obtain ⟨oV,ma,mf⟩:=ah K4.o rfl rfl rfl;obtain ⟨p8,pq,ol⟩:=ah K3.o rfl rfl rfl;obtain ⟨lc,lg,lv⟩:=aP K3.o;go_wp2;exact bodyPost_ret (v:=.agg #[.string l,.string m,.string n]) (by simp[results,results29,go_sem,p8,pq,ol]) rfl ⟨rfl,(au (l:=[.string l,.string m,.string n]) (i:=0) (by omega) r9.o)⟩
open Go.Lib (hid)
theorem yI (x y z:ByteArray)(w₀:World)(h1:CV w₀ 48 #[.string x] (.bool true))(h2:CV w₀ 48 #[.string y] (.bool true))(h3:CV w₀ 48 #[.string z] (.bool true))  :
 CV w₀ 20 #[.agg #[.string x,.string y,.string z]] (.bool true):=by
 intro w hw;obtain ⟨C1,C2,C3⟩:=ax (h1.mono hw) (h2.mono hw) (h3.mono hw);have i0:=cix0 x y z;have i1:=cix1 x y z;have i2:=cix2 x y z;clear h1 h2 h3 hw;go_enter func20,ntmps20
 go_upto_region 1 with fail
 refine ak w [(#[.string x,.string y,.string z],24)] rfl ?_;rintro W0 ⟨k1,hb⟩;have wu:=hid (show Below w.heap.size w W0 from hb);have K1:=hid k1;clear k1 hb;obtain ⟨sw,si,sj⟩:=ah K1.o rfl rfl rfl;go_wp2_with fail
 with_reducible refine(gD x y z _ _ wu.o).mono ?_
 rintro e W1 ⟨rfl,hb⟩;clear sw si sj;have wo:=hbt wu hb;clear hb;go_wp2;refine wp_loop_rounds 4 ?_;rw[rounds_succ];go_wp2_with fail
 with_reducible refine(C1.o _ wo.o).mono ?_
 rintro e W2 ⟨rfl,hb⟩;have w9:=hbt wo hb;clear hb;go_wp2;rw[rounds_succ];go_wp2_with fail
 with_reducible refine(C2.o _ w9.o).mono ?_
 rintro e W3 ⟨rfl,hb⟩;have u6:=hbt w9 hb;clear hb;go_wp2;rw[rounds_succ];go_wp2_with fail
 with_reducible refine(C3.o _ u6.o).mono ?_
 rintro e W4 ⟨rfl,hb⟩;have r9:=hbt u6 hb;clear hb;go_wp2;rw[rounds_succ];go_wp2;exact bodyPost_ret (v:=.bool true) (by simp[results,results20,go_sem]) rfl ⟨rfl,r9.o⟩
theorem tC (c u v t:ByteArray)(w₀:World)   :
 CV w₀ 22 #[.agg #[.string ⟨#[48]⟩,.string ⟨#[48]⟩,.string ⟨#[48]⟩,.string c],.agg #[.string u,.string v,.string t]] (.tuple #[.string ⟨#[]⟩,.int .i64 1]):=by
 intro w hw;have hq:=rX (show o7 ⟨#[48]⟩ ⟨#[48]⟩ ⟨#[48]⟩ ⟨#[48]⟩ ⟨#[48]⟩ ⟨#[48]⟩=true from by unfold o7;simp);clear hw;go_enter func22,ntmps22
 go_upto_region 1 with fail
 refine ak w [(#[.string ⟨#[48]⟩,.string ⟨#[48]⟩,.string ⟨#[48]⟩,.string c],26),(#[.string u,.string v,.string t],24)] rfl ?_;rintro W0 ⟨k1,k2,hb⟩;have wu:=hid (show Below w.heap.size w W0 from hb);have K1:=hid k1;have K2:=hid k2;clear k1 k2 hb;obtain ⟨sw,si,sj⟩:=ah K1.o rfl rfl rfl;go_wp2_with fail
 with_reducible refine(gD ⟨#[48]⟩ ⟨#[48]⟩ ⟨#[48]⟩ _ _ wu.o).mono ?_
 rintro e W1 ⟨rfl,hb⟩;clear sw si sj;obtain ⟨K1,K2⟩:=aQ hb K1 K2;have wo:=hbt wu hb;clear hb;go_upto_region 2 with fail
 refine ak W1 [(#[.string ⟨#[48]⟩,.string ⟨#[48]⟩,.string ⟨#[48]⟩],69)] rfl ?_;have L1:=K1.o.lt;have L2:=K2.o.lt;have L3:=wo.o.size;rintro W2 ⟨k3,hb⟩;have hb:Below W1.heap.size W1 W2:=hb;have w9:=hbt wo hb;have K3:=hid k3;clear k3 hb;go_wp2_with fail
 refine ay (fun a0 a' V=>a'=⟨aR [(10,.agg #[.string ⟨#[48]⟩,.string ⟨#[48]⟩,.string ⟨#[48]⟩]),(11,.agg #[.string ⟨#[48]⟩,.string ⟨#[48]⟩,.string ⟨#[48]⟩]),(12,.bool true)] a0.tmps,a0.defers⟩∧Below w.heap.size w V) ?_ ?_
 · refine aC 3 0 [10,11,12] [Rel.val (.agg #[.string ⟨#[48]⟩,.string ⟨#[48]⟩,.string ⟨#[48]⟩]),Rel.val (.agg #[.string ⟨#[48]⟩,.string ⟨#[48]⟩,.string ⟨#[48]⟩]),Rel.val (.bool true)] ?_ ?_
   · intro wy a W i HI hD Hr him
     have y6:=HI.o.rst 6 rfl;obtain ⟨p8,pq,ol⟩:=ah (K3.o.below HI.o.world) rfl rfl rfl;obtain⟨X0,X1⟩:=HI.o.g2 0 10 1 11
     match i,him,Hr with
     | 0,_,Hi =>
       refine av rfl fun K' hK=>?_;go_simp;exact hK.o _ _ (HI.o.pw Hi.o)
     | 1,_,Hi =>
       refine av rfl fun K' hK=>?_;go_simp;with_reducible refine(z1B _ _ (w9.o.trans (HI.o.world.mono w9.o.size))).mono ?_
       rintro e W' ⟨rfl,hb⟩;exact hK.o _ _ ⟨HI.o.pc Hi.o hb rfl,trivial⟩
     | 2,_,Hi =>
       have x0:=X0.q Hi.o;have x1:=X1.q Hi.o;refine av rfl fun K' hK=>?_;go_simp;exact hK.o _ _ (HI.o.pw Hi.o)
     | n+3,h,_=>exact absurd h (by omega)
   · intro wy a W HI hD HA
     have ww:=hid HI.o.world;have wz:=hid (w9.o.trans (ww.o.mono w9.o.size));refine aO ?_;exact⟨rfl,(HI.o.finx ⟨HI.o.sx HA.o 0,HI.o.sx HA.o 1,HI.o.sx HA.o 2,trivial⟩ rfl),wz.o⟩
 rintro a' W3 ⟨rfl,z0⟩;have u6:=hid z0;clear z0;simp only[aR,List.setIfInBounds_toArray,List.set_cons_zero,List.set_cons_succ];go_wp2;exact bodyPost_ret (v:=.tuple #[.string ⟨#[]⟩,.int .i64 1]) (by simp[results,results22,go_sem]) rfl ⟨rfl,u6.o⟩
theorem nU (x y z c u v t s r g:ByteArray)(er:Int)(w₀:World)(h1:CV w₀ 34 #[.agg #[.string x,.string y,.string z],.agg #[.string u,.string v,.string t]] (.string s))(h2:CV w₀ 31 #[.string s,.string c] (.string r))(h3:CV w₀ 47 #[.string r] (.tuple #[.string g,.int .i64 er]))(hz:o7 x y z ⟨#[48]⟩ ⟨#[48]⟩ ⟨#[48]⟩=false) :
 CV w₀ 22 #[.agg #[.string x,.string y,.string z,.string c],.agg #[.string u,.string v,.string t]] (.tuple #[.string g,.int .i64 er]):=by
 intro w hw;obtain ⟨C1,C2,C3⟩:=ax (h1.mono hw) (h2.mono hw) (h3.mono hw);have hq:=rX hz;clear hz h1 h2 h3 hw;go_enter func22,ntmps22
 go_upto_region 1 with fail
 refine ak w [(#[.string x,.string y,.string z,.string c],26),(#[.string u,.string v,.string t],24)] rfl ?_;rintro W0 ⟨k1,k2,hb⟩;have wu:=hid (show Below w.heap.size w W0 from hb);have K1:=hid k1;have K2:=hid k2;clear k1 k2 hb;obtain ⟨sw,si,sj⟩:=ah K1.o rfl rfl rfl;go_wp2_with fail
 with_reducible refine(gD x y z _ _ wu.o).mono ?_
 rintro e W1 ⟨rfl,hb⟩;clear sw si sj;obtain ⟨K1,K2⟩:=aQ hb K1 K2;have wo:=hbt wu hb;clear hb;go_upto_region 2 with fail
 refine ak W1 [(#[.string x,.string y,.string z],69)] rfl ?_;have L1:=K1.o.lt;have L2:=K2.o.lt;have L3:=wo.o.size;rintro W2 ⟨k3,hb⟩;have hb:Below W1.heap.size W1 W2:=hb;obtain ⟨K1,K2⟩:=aQ hb K1 K2;have w9:=hbt wo hb;have K3:=hid k3;clear k3 hb;go_wp2_with fail
 refine ay (fun a0 a' V=>a'=⟨aR [(10,.agg #[.string x,.string y,.string z]),(11,.agg #[.string ⟨#[48]⟩,.string ⟨#[48]⟩,.string ⟨#[48]⟩]),(12,.bool false)] a0.tmps,a0.defers⟩∧Below w.heap.size w V∧SBk V (w.heap.size) #[.string x,.string y,.string z,.string c] 26∧SBk V (w.heap.size+1) #[.string u,.string v,.string t] 24∧SBk V (W1.heap.size) #[.string x,.string y,.string z] 69) ?_ ?_
 · refine aC 3 0 [10,11,12] [Rel.val (.agg #[.string x,.string y,.string z]),Rel.val (.agg #[.string ⟨#[48]⟩,.string ⟨#[48]⟩,.string ⟨#[48]⟩]),Rel.val (.bool false)] ?_ ?_
   · intro wy a W i HI hD Hr him
     have y6:=HI.o.rst 6 rfl;obtain ⟨p8,pq,ol⟩:=ah (K3.o.below HI.o.world) rfl rfl rfl;obtain⟨X0,X1⟩:=HI.o.g2 0 10 1 11
     match i,him,Hr with
     | 0,_,Hi =>
       refine av rfl fun K' hK=>?_;go_simp;exact hK.o _ _ (HI.o.pw Hi.o)
     | 1,_,Hi =>
       refine av rfl fun K' hK=>?_;go_simp;with_reducible refine(z1B _ _ (w9.o.trans (HI.o.world.mono w9.o.size))).mono ?_
       rintro e W' ⟨rfl,hb⟩;exact hK.o _ _ ⟨HI.o.pc Hi.o hb rfl,trivial⟩
     | 2,_,Hi =>
       have x0:=X0.q Hi.o;have x1:=X1.q Hi.o;refine av rfl fun K' hK=>?_;go_simp;exact hK.o _ _ (HI.o.pw Hi.o)
     | n+3,h,_=>exact absurd h (by omega)
   · intro wy a W HI hD HA
     have ww:=hid HI.o.world;obtain ⟨K1,K2,K3⟩:=bL ww.o K1 K2 K3;have wz:=Lib.hid (w9.o.trans (ww.o.mono w9.o.size));refine aO ?_;exact⟨rfl,(HI.o.finx ⟨HI.o.sx HA.o 0,HI.o.sx HA.o 1,HI.o.sx HA.o 2,trivial⟩ rfl),wz.o,K1.o,K2.o,K3.o⟩
 rintro a' W3 ⟨rfl,z0,z1,z2,z3⟩;obtain ⟨u6,K1,K2,K3⟩:=aL z0 z1 z2 z3;clear z0 z1 z2 z3;simp only[aR,List.setIfInBounds_toArray,List.set_cons_zero,List.set_cons_succ];go_wp2_with fail
 refine ay (fun a0 a' V=>a'=⟨aR [(13,.agg #[.string x,.string y,.string z]),(14,.agg #[.string u,.string v,.string t]),(15,.agg #[.string u,.string v,.string t]),(16,.string s),(17,.pointer (some ⟨w.heap.size,3,none⟩)),(18,.string c),(19,.string r),(20,.tuple #[.string g,.int .i64 er]),(21,.string g),(22,.int .i64 er),(4,.string g),(5,.int .i64 er)] a0.tmps,a0.defers⟩∧Below w.heap.size w V) ?_ ?_
 · refine aC 12 0 [13,14,15,16,17,18,19,20,21,22,4,5] [Rel.val (.agg #[.string x,.string y,.string z]),Rel.val (.agg #[.string u,.string v,.string t]),Rel.val (.agg #[.string u,.string v,.string t]),Rel.val (.string s),Rel.val (.pointer (some ⟨w.heap.size,3,none⟩)),Rel.val (.string c),Rel.val (.string r),Rel.val (.tuple #[.string g,.int .i64 er]),Rel.val (.string g),Rel.val (.int .i64 er),Rel.val (.string g),Rel.val (.int .i64 er)] ?_ ?_
   · intro wy a W i HI hD Hr him
     obtain⟨y6,y3,y2⟩:=HI.o.s3 6 3 2;obtain ⟨p8,pq,ol⟩:=ah (K3.o.below HI.o.world) rfl rfl rfl;obtain ⟨rV,rM,rf⟩:=ah (K2.o.below HI.o.world) rfl rfl rfl;have oM:=(K1.o.below HI.o.world).cell (i:=3) rfl;obtain⟨X1,X0,X2,X4,X3,X5⟩:=HI.o.g6 1 14 0 13 2 15 4 17 3 16 5 18;obtain⟨X6,X7,X8⟩:=HI.o.g3 6 19 7 20 8 21;have X9:=HI.o.rg 9 22 rfl
     match i,him,Hr with
     | 0,_,Hi|1,_,Hi =>
       refine av rfl fun K' hK=>?_;go_simp;exact hK.o _ _ (HI.o.pw Hi.o)
     | 2,_,Hi =>
       have x1:=X1.q Hi.o;refine av rfl fun K' hK=>?_;go_simp;with_reducible refine(gD u v t _ _ (u6.o.trans (HI.o.world.mono u6.o.size))).mono ?_
       rintro e W' ⟨rfl,hb⟩;exact hK.o _ _ ⟨HI.o.pc Hi.o hb rfl,trivial⟩
     | 3,_,Hi =>
       have x0:=X0.q Hi.o;have x2:=X2.q Hi.o;refine av rfl fun K' hK=>?_;go_simp;with_reducible refine(C1.o _ (u6.o.trans (HI.o.world.mono u6.o.size))).mono ?_
       rintro e W' ⟨rfl,hb⟩;exact hK.o _ _ ⟨HI.o.pc Hi.o hb rfl,trivial⟩
     | 4,_,Hi|5,_,Hi =>
       try have x4:=X4.t Hi.o
       refine av rfl fun K' hK=>?_;go_simp;exact hK.o _ _ (HI.o.pw Hi.o)
     | 6,_,Hi =>
       have x3:=X3.q Hi.o;have x5:=X5.q Hi.o;refine av rfl fun K' hK=>?_;go_simp;with_reducible refine(C2.o _ (u6.o.trans (HI.o.world.mono u6.o.size))).mono ?_
       rintro e W' ⟨rfl,hb⟩;exact hK.o _ _ ⟨HI.o.pc Hi.o hb rfl,trivial⟩
     | 7,_,Hi =>
       have x6:=X6.q Hi.o;refine av rfl fun K' hK=>?_;go_simp;with_reducible refine(C3.o _ (u6.o.trans (HI.o.world.mono u6.o.size))).mono ?_
       rintro e W' ⟨rfl,hb⟩;exact hK.o _ _ ⟨HI.o.pc Hi.o hb rfl,trivial⟩
     | 8,_,Hi|9,_,Hi|10,_,Hi|11,_,Hi =>
       try have x7:=X7.t Hi.o
       try have x8:=X8.t Hi.o
       try have x9:=X9.t Hi.o
       refine av rfl fun K' hK=>?_;go_simp;exact hK.o _ _ (HI.o.pw Hi.o)
     | n+12,h,_=>exact absurd h (by omega)
   · intro wy a W HI hD HA
     have ww:=hid HI.o.world;have wz:=hid (u6.o.trans (ww.o.mono u6.o.size));refine aO ?_;exact⟨rfl,(HI.o.finx ⟨HI.o.sx HA.o 0,HI.o.sx HA.o 1,HI.o.sx HA.o 2,HI.o.sx HA.o 3,HI.o.sx HA.o 4,HI.o.sx HA.o 5,HI.o.sx HA.o 6,HI.o.sx HA.o 7,HI.o.sx HA.o 8,HI.o.sx HA.o 9,HI.o.sx HA.o 10,HI.o.sx HA.o 11,trivial⟩ rfl),wz.o⟩
 rintro a' W4 ⟨rfl,z0⟩;have r9:=hid z0;clear z0;simp only[aR,List.setIfInBounds_toArray,List.set_cons_zero,List.set_cons_succ];go_wp2;exact bodyPost_ret (v:=.tuple #[.string g,.int .i64 er]) (by simp[results,results22,go_sem]) rfl ⟨rfl,r9.o⟩
theorem tu (x y z c u v t g:ByteArray)(er k:Int)(w₀:World)(h1:CV w₀ 22 #[.agg #[.string x,.string y,.string z,.string c],.agg #[.string u,.string v,.string t]] (.tuple #[.string g,.int .i64 er]))(h2:CV w₀ 23 #[.string g,.string ⟨#[48]⟩] (.int .i64 k))  :
 CV w₀ 6 #[.agg #[.string x,.string y,.string z,.string c],.agg #[.string u,.string v,.string t]] (.tuple #[.int .i64 k,.int .i64 er]):=by
 intro w hw;have C1:=hid (h1.mono hw);have C2:=hid (h2.mono hw);clear h1 h2 hw;go_enter func6,ntmps6
 go_upto_region 1 with fail
 refine ak w [(#[.string x,.string y,.string z,.string c],26),(#[.string u,.string v,.string t],24)] rfl ?_;rintro W0 ⟨k1,k2,hb⟩;have wu:=hid (show Below w.heap.size w W0 from hb);have K1:=hid k1;have K2:=hid k2;clear k1 k2 hb;obtain ⟨sw,si,sj,oM⟩:=bN K1.o rfl rfl rfl rfl;obtain ⟨rV,rM,rf⟩:=ah K2.o rfl rfl rfl;go_wp2_with fail
 with_reducible refine(C1.o _ wu.o).mono ?_
 rintro e W1 ⟨rfl,hb⟩;clear sw si sj oM rV rM rf;have wo:=hbt wu hb;clear hb;go_wp2_with fail
 with_reducible refine(C2.o _ wo.o).mono ?_
 rintro e W2 ⟨rfl,hb⟩;have w9:=hbt wo hb;clear hb;go_wp2;exact bodyPost_ret (v:=.tuple #[.int .i64 k,.int .i64 er]) (by simp[results,results6,go_sem]) rfl ⟨rfl,w9.o⟩
theorem yJ (x:ByteArray)(k:Int)(b:Bool)(w₀:World)(h1:CV w₀ 23 #[.string x,.string ⟨#[48]⟩] (.int .i64 k))(hb0:decide (0<k)=b) :
 CV w₀ 42 #[.string x] (.bool b):=by
 intro w hw;have C1:=hid (h1.mono hw);clear h1 hw;go_enter func42,ntmps42
 have wu:=hid (Below.refl w.heap.size w);go_wp2_with fail
 with_reducible refine(C1.o _ wu.o).mono ?_
 rintro e W1 ⟨rfl,hb⟩;have wo:=hbt wu hb;clear hb;go_wp2;exact bodyPost_ret (v:=.bool b) (by simp[results,results42,go_sem]) rfl ⟨rfl,wo.o⟩
