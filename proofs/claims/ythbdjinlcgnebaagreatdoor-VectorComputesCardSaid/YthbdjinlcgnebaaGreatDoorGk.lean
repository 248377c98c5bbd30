/- texts -/
import Derived.Test.YthbdjinlcgnebaaGreatDoorMz43q
set_option maxRecDepth 100000
set_option maxHeartbeats 20000000
open Go.Lib (hid)
namespace Go.Proofs.YthbdjinlcgnebaaGreatDoor
open Go.RowKit Go.Gb
theorem gq_0:Sq (0:Rat)=⟨#[48]⟩:=by decide +kernel
theorem gq_1:Sq (1:Rat)=⟨#[49]⟩:=by decide +kernel
theorem gq_2:Sq (2:Rat)=⟨#[50]⟩:=by decide +kernel
theorem gq_3:Sq (3:Rat)=⟨#[51]⟩:=by decide +kernel
theorem gq_4:Sq (4:Rat)=⟨#[52]⟩:=by decide +kernel
theorem gq_5:Sq (5:Rat)=⟨#[53]⟩:=by decide +kernel
theorem gq_6:Sq (6:Rat)=⟨#[54]⟩:=by decide +kernel
theorem gq_7:Sq (7:Rat)=⟨#[55]⟩:=by decide +kernel
theorem gq_9:Sq (9:Rat)=⟨#[57]⟩:=by decide +kernel
theorem z4n:Sq (-1:Rat)=⟨#[45,49]⟩:=by decide +kernel
theorem z3q:Sq (-2:Rat)=⟨#[45,50]⟩:=by decide +kernel
theorem z4X:Sq (-3:Rat)=⟨#[45,51]⟩:=by decide +kernel
theorem z4Y:Sq (32:Rat)=⟨#[51,50]⟩:=by decide +kernel
theorem sm20 {q:Rat}(h1:q.num.natAbs<1000)(h2:q.den<1000):SmQ 20 q:=⟨(show Sm 3 _ by unfold Sm;omega).mono (by decide),(show Sm 3 _ by unfold Sm;omega).mono (by decide)⟩
theorem fq {q:Rat}(h1:q.num.natAbs<1000)(h2:q.den<1000):FitQ q:=(sm20 h1 h2).fit (by decide)
theorem z2i (w:World)(hla:La w):CV w 14 #[.agg #[.string ⟨#[49]⟩,.string ⟨#[48]⟩,.string ⟨#[48]⟩],.agg #[.string ⟨#[48]⟩,.string ⟨#[49]⟩,.string ⟨#[48]⟩]] (.tuple #[.agg #[.string ⟨#[48]⟩,.string ⟨#[48]⟩,.string ⟨#[49]⟩],.int .i64 0]):=by
 have h:=yX (a1:=1) (a2:=0) (a3:=0) (b1:=0) (b2:=1) (b3:=0) (c1:=0) (c2:=0) (c3:=1) (by decide +kernel) (by decide +kernel) (by decide +kernel) (sm20 (by decide +kernel) (by decide +kernel)) (sm20 (by decide +kernel) (by decide +kernel)) (sm20 (by decide +kernel) (by decide +kernel)) (sm20 (by decide +kernel) (by decide +kernel)) (sm20 (by decide +kernel) (by decide +kernel)) (sm20 (by decide +kernel) (by decide +kernel)) (by decide) w hla;rw[gq_1,gq_0]at h;exact h
theorem vg (w:World)(hla:La w):CV w 21 #[.agg #[.string ⟨#[48]⟩,.string ⟨#[48]⟩,.string ⟨#[50]⟩,.string ⟨#[50]⟩],.agg #[.string ⟨#[48]⟩,.string ⟨#[48]⟩,.string ⟨#[48]⟩],.agg #[.string ⟨#[51]⟩,.string ⟨#[48]⟩,.string ⟨#[51]⟩]] (.tuple #[.agg #[.string ⟨#[49]⟩,.string ⟨#[48]⟩,.string ⟨#[49]⟩],.int .i64 0]):=by
 have h:=z04 (n1:=0) (n2:=0) (n3:=2) (c:=2) (a1:=0) (a2:=0) (a3:=0) (b1:=3) (b2:=0) (b3:=3) (f1 := -2) (f2:=4) (pt:=1/3) (k1:=1) (k2:=0) (k3:=1) (by decide +kernel) (by decide +kernel) (by decide +kernel) (by decide +kernel) (by decide +kernel) (by decide +kernel) (by decide +kernel) (by decide +kernel) (by decide +kernel) (sm20 (by decide +kernel) (by decide +kernel)) (sm20 (by decide +kernel) (by decide +kernel)) (sm20 (by decide +kernel) (by decide +kernel)) (sm20 (by decide +kernel) (by decide +kernel)) (sm20 (by decide +kernel) (by decide +kernel)) (sm20 (by decide +kernel) (by decide +kernel)) (sm20 (by decide +kernel) (by decide +kernel)) (sm20 (by decide +kernel) (by decide +kernel)) (sm20 (by decide +kernel) (by decide +kernel)) (sm20 (by decide +kernel) (by decide +kernel)) w hla;rw[gq_0,gq_1,gq_2,gq_3]at h;exact h
theorem yF (w:World)(hla:La w):CV w 22 #[.agg #[.string ⟨#[49]⟩,.string ⟨#[48]⟩,.string ⟨#[48]⟩],.agg #[.string ⟨#[48]⟩,.string ⟨#[49]⟩,.string ⟨#[48]⟩],.agg #[.string ⟨#[48]⟩,.string ⟨#[48]⟩,.string ⟨#[49]⟩]] (.tuple #[.agg #[.string ⟨#[49]⟩,.string ⟨#[49]⟩,.string ⟨#[49]⟩,.string ⟨#[49]⟩],.int .i64 0]):=by
 have h:=z1B (a1:=1) (a2:=0) (a3:=0) (b1:=0) (b2:=1) (b3:=0) (c1:=0) (c2:=0) (c3:=1) (l1 := -1) (l2:=1) (l3:=0) (m1 := -1) (m2:=0) (m3:=1) (n1:=1) (n2:=1) (n3:=1) (s:=1) (by decide +kernel) (by decide +kernel) (by decide +kernel) (by decide +kernel) (by decide +kernel) (by decide +kernel) (by decide +kernel) (by decide +kernel) (by decide +kernel) (by decide +kernel) (by decide +kernel) (sm20 (by decide +kernel) (by decide +kernel)) (sm20 (by decide +kernel) (by decide +kernel)) (sm20 (by decide +kernel) (by decide +kernel)) (sm20 (by decide +kernel) (by decide +kernel)) (sm20 (by decide +kernel) (by decide +kernel)) (sm20 (by decide +kernel) (by decide +kernel)) (sm20 (by decide +kernel) (by decide +kernel)) (sm20 (by decide +kernel) (by decide +kernel)) (sm20 (by decide +kernel) (by decide +kernel)) w hla;rw[gq_1,gq_0]at h;exact h
theorem z3F (w:World)(hla:La w):CV w 23 #[.agg #[.string ⟨#[49]⟩,.string ⟨#[49]⟩,.string ⟨#[49]⟩,.string ⟨#[49]⟩],.agg #[.string ⟨#[48]⟩,.string ⟨#[48]⟩,.string ⟨#[50]⟩]] (.tuple #[.int .i64 1,.int .i64 0]):=by
 have h:=z4V (n1:=1) (n2:=1) (n3:=1) (c:=1) (a1:=0) (a2:=0) (a3:=2) (s:=2) (g:=1) (z:=1) (by decide +kernel) (by decide +kernel) (by decide +kernel) (by decide +kernel) (sm20 (by decide +kernel) (by decide +kernel)) (sm20 (by decide +kernel) (by decide +kernel)) (sm20 (by decide +kernel) (by decide +kernel)) (sm20 (by decide +kernel) (by decide +kernel)) (sm20 (by decide +kernel) (by decide +kernel)) (sm20 (by decide +kernel) (by decide +kernel)) (by decide) (fq (by decide +kernel) (by decide +kernel)) (fq (by decide +kernel) (by decide +kernel)) (fq (by decide +kernel) (by decide +kernel)) (fq (by decide +kernel) (by decide +kernel)) w hla;rw[gq_1,gq_0,gq_2]at h;exact h
theorem z3H (w:World)(hla:La w):CV w 12 #[.agg #[.string ⟨#[49]⟩,.string ⟨#[50]⟩,.string ⟨#[51]⟩],.agg #[.string ⟨#[49]⟩,.string ⟨#[48]⟩,.string ⟨#[45,49]⟩]] (.tuple #[.string ⟨#[45,50]⟩,.int .i64 0]):=by
 have h:=z0Z (a1:=1) (a2:=2) (a3:=3) (b1:=1) (b2:=0) (b3 := -1) (s := -2) (by decide +kernel) (sm20 (by decide +kernel) (by decide +kernel)) (sm20 (by decide +kernel) (by decide +kernel)) (sm20 (by decide +kernel) (by decide +kernel)) (sm20 (by decide +kernel) (by decide +kernel)) (sm20 (by decide +kernel) (by decide +kernel)) (sm20 (by decide +kernel) (by decide +kernel)) (by decide) (fq (by decide +kernel) (by decide +kernel)) w hla;rw[gq_1,gq_2,gq_3,gq_0,z4n,z3q]at h;exact h
theorem z3G (w:World)(hla:La w):CV w 12 #[.agg #[.string ⟨#[52]⟩,.string ⟨#[53]⟩,.string ⟨#[54]⟩],.agg #[.string ⟨#[49]⟩,.string ⟨#[48]⟩,.string ⟨#[45,49]⟩]] (.tuple #[.string ⟨#[45,50]⟩,.int .i64 0]):=by
 have h:=z0Z (a1:=4) (a2:=5) (a3:=6) (b1:=1) (b2:=0) (b3 := -1) (s := -2) (by decide +kernel) (sm20 (by decide +kernel) (by decide +kernel)) (sm20 (by decide +kernel) (by decide +kernel)) (sm20 (by decide +kernel) (by decide +kernel)) (sm20 (by decide +kernel) (by decide +kernel)) (sm20 (by decide +kernel) (by decide +kernel)) (sm20 (by decide +kernel) (by decide +kernel)) (by decide) (fq (by decide +kernel) (by decide +kernel)) w hla;rw[gq_4,gq_5,gq_6,gq_1,gq_0,z4n,z3q]at h;exact h
theorem z4v (w:World)(hla:La w):CV w 12 #[.agg #[.string ⟨#[49]⟩,.string ⟨#[50]⟩,.string ⟨#[51]⟩],.agg #[.string ⟨#[52]⟩,.string ⟨#[53]⟩,.string ⟨#[54]⟩]] (.tuple #[.string ⟨#[51,50]⟩,.int .i64 0]):=by
 have h:=z0Z (a1:=1) (a2:=2) (a3:=3) (b1:=4) (b2:=5) (b3:=6) (s:=32) (by decide +kernel) (sm20 (by decide +kernel) (by decide +kernel)) (sm20 (by decide +kernel) (by decide +kernel)) (sm20 (by decide +kernel) (by decide +kernel)) (sm20 (by decide +kernel) (by decide +kernel)) (sm20 (by decide +kernel) (by decide +kernel)) (sm20 (by decide +kernel) (by decide +kernel)) (by decide) (fq (by decide +kernel) (by decide +kernel)) w hla;rw[gq_1,gq_2,gq_3,gq_4,gq_5,gq_6,z4Y]at h;exact h
theorem z4w (w:World)(hla:La w):CV w 16 #[.agg #[.string ⟨#[49]⟩,.string ⟨#[48]⟩,.string ⟨#[48]⟩],.agg #[.string ⟨#[48]⟩,.string ⟨#[49]⟩,.string ⟨#[48]⟩],.agg #[.string ⟨#[48]⟩,.string ⟨#[48]⟩,.string ⟨#[49]⟩]] (.tuple #[.string ⟨#[49]⟩,.int .i64 0]):=by
 have h:=z3S (u1:=1) (u2:=0) (u3:=0) (a1:=0) (a2:=1) (a3:=0) (b1:=0) (b2:=0) (b3:=1) (c1:=1) (c2:=0) (c3:=0) (s:=1) (by decide +kernel) (by decide +kernel) (by decide +kernel) (by decide +kernel) (sm20 (by decide +kernel) (by decide +kernel)) (sm20 (by decide +kernel) (by decide +kernel)) (sm20 (by decide +kernel) (by decide +kernel)) (sm20 (by decide +kernel) (by decide +kernel)) (sm20 (by decide +kernel) (by decide +kernel)) (sm20 (by decide +kernel) (by decide +kernel)) (sm20 (by decide +kernel) (by decide +kernel)) (sm20 (by decide +kernel) (by decide +kernel)) (sm20 (by decide +kernel) (by decide +kernel)) (sm20 (by decide +kernel) (by decide +kernel)) (sm20 (by decide +kernel) (by decide +kernel)) (sm20 (by decide +kernel) (by decide +kernel)) (by decide) (by decide) (fq (by decide +kernel) (by decide +kernel)) w hla;rw[gq_1,gq_0]at h;exact h
theorem z4x (w:World)(hla:La w):CV w 6 #[.agg #[.string ⟨#[49]⟩,.string ⟨#[50]⟩,.string ⟨#[51]⟩],.agg #[.string ⟨#[52]⟩,.string ⟨#[53]⟩,.string ⟨#[54]⟩]] (.tuple #[.agg #[.string ⟨#[53]⟩,.string ⟨#[55]⟩,.string ⟨#[57]⟩],.int .i64 0]):=by
 have h:=z3T (a1:=1) (a2:=2) (a3:=3) (b1:=4) (b2:=5) (b3:=6) (c1:=5) (c2:=7) (c3:=9) (by decide +kernel) (by decide +kernel) (by decide +kernel) (sm20 (by decide +kernel) (by decide +kernel)) (sm20 (by decide +kernel) (by decide +kernel)) (sm20 (by decide +kernel) (by decide +kernel)) (sm20 (by decide +kernel) (by decide +kernel)) (sm20 (by decide +kernel) (by decide +kernel)) (sm20 (by decide +kernel) (by decide +kernel)) (by decide) (by decide) w hla;rw[gq_1,gq_2,gq_3,gq_4,gq_5,gq_6,gq_7,gq_9]at h;exact h
theorem z4u (w:World)(hla:La w):CV w 8 #[.agg #[.string ⟨#[49]⟩,.string ⟨#[50]⟩,.string ⟨#[51]⟩],.agg #[.string ⟨#[52]⟩,.string ⟨#[53]⟩,.string ⟨#[54]⟩]] (.tuple #[.agg #[.string ⟨#[45,51]⟩,.string ⟨#[45,51]⟩,.string ⟨#[45,51]⟩],.int .i64 0]):=by
 have h:=z3R (a1:=1) (a2:=2) (a3:=3) (b1:=4) (b2:=5) (b3:=6) (c1 := -3) (c2 := -3) (c3 := -3) (by decide +kernel) (by decide +kernel) (by decide +kernel) (sm20 (by decide +kernel) (by decide +kernel)) (sm20 (by decide +kernel) (by decide +kernel)) (sm20 (by decide +kernel) (by decide +kernel)) (sm20 (by decide +kernel) (by decide +kernel)) (sm20 (by decide +kernel) (by decide +kernel)) (sm20 (by decide +kernel) (by decide +kernel)) (by decide) (by decide) w hla;rw[gq_1,gq_2,gq_3,gq_4,gq_5,gq_6,z4X]at h;exact h
theorem z2f (w:World)(hla:La w):CV w 10 #[.agg #[.string ⟨#[49]⟩,.string ⟨#[50]⟩,.string ⟨#[51]⟩],.string ⟨#[50]⟩] (.tuple #[.agg #[.string ⟨#[50]⟩,.string ⟨#[52]⟩,.string ⟨#[54]⟩],.int .i64 0]):=by
 have h:=yV (a1:=1) (a2:=2) (a3:=3) (x:=2) (c1:=2) (c2:=4) (c3:=6) (by decide +kernel) (by decide +kernel) (by decide +kernel) (sm20 (by decide +kernel) (by decide +kernel)) (sm20 (by decide +kernel) (by decide +kernel)) (sm20 (by decide +kernel) (by decide +kernel)) (sm20 (by decide +kernel) (by decide +kernel)) (by decide) (by decide) w hla;rw[gq_1,gq_2,gq_3,gq_4,gq_6]at h;exact h
theorem z2e (w:World)(hla:La w):CV w 18 #[.agg #[.string ⟨#[48]⟩,.string ⟨#[48]⟩,.string ⟨#[49]⟩]] (.bool true):=by
 have h:=z3a (a1:=0) (a2:=0) (a3:=1) (fq (by decide +kernel) (by decide +kernel)) (fq (by decide +kernel) (by decide +kernel)) (fq (by decide +kernel) (by decide +kernel)) w hla;rw[gq_0,gq_1]at h;exact h
theorem z2h (w:World)(hla:La w):CV w 51 #[.string ⟨#[45,50]⟩,.string ⟨#[45,50]⟩] (.int .i64 0):=by
 have h:=z2H (x := -2) (y := -2) (c:=0) (by decide +kernel) (fq (by decide +kernel) (by decide +kernel)) (fq (by decide +kernel) (by decide +kernel)) w hla;rw[z3q]at h;exact h
theorem z2g (g:Nat)(w:World)(hla:La w)(k:SBk w g #[.string ⟨#[49]⟩,.string ⟨#[50]⟩,.string ⟨#[51]⟩,.string ⟨#[52]⟩,.string ⟨#[53]⟩,.string ⟨#[54]⟩] 24):CV w 24 #[.slice (some ⟨g,0,none⟩) 2 2,.agg #[.string ⟨#[49]⟩,.string ⟨#[48]⟩,.string ⟨#[45,49]⟩]] (.tuple #[.agg #[.string ⟨#[45,50]⟩,.string ⟨#[45,50]⟩],.int .i64 0]) :=
 z2Z g _ _ _ _ _ _ _ _ _ _ w (z3H w hla) (z3G w hla) (z2h w hla) k
theorem mZ  (w₀:World)  (hla:La w₀) :
 CV w₀ 4 #[] (.bool true):=by
 intro w hw;have HT:=hid (hla.on hw);clear hla hw;go_enter Tryz.func4,Tryz.ntmps4
 have lv:=hid (Below.refl w.heap.size w);go_wp2_with fail
 with_reducible refine((lvec _ _ _ _).at).mono ?_
 rintro e W1 ⟨rfl,hb⟩;have ky:=hbt lv hb;clear hb;go_wp2_with fail
 with_reducible refine((lvec _ _ _ _).at).mono ?_
 rintro e W2 ⟨rfl,hb⟩;have wz:=hbt ky hb;clear hb;go_wp2_with fail
 with_reducible refine((z2i _ (HT.out.on wz.out)).at).mono ?_
 rintro e W3 ⟨rfl,hb⟩;have sw:=hbt wz hb;clear hb;go_upto_region 2 with fail
 refine ak W3 [(#[.string ⟨#[48]⟩,.string ⟨#[48]⟩,.string ⟨#[49]⟩],24)] rfl ?_;have L1:=sw.out.size;rintro W4 ⟨k1,hb⟩;have hb:Below W3.heap.size W3 W4:=hb;have kz:=hbt sw hb;have K1:=hid k1;clear k1 hb;go_wp2_with fail
 with_reducible refine((lvec _ _ _ _).at).mono ?_
 rintro e W5 ⟨rfl,hb⟩;have K1:=hid (K1.out.below hb);have kC:=hbt kz hb;clear hb;go_wp2_with fail
 with_reducible refine((lvec _ _ _ _).at).mono ?_
 rintro e W6 ⟨rfl,hb⟩;have K1:=hid (K1.out.below hb);have kD:=hbt kC hb;clear hb;go_wp2_with fail
 with_reducible refine((lvec _ _ _ _).at).mono ?_
 rintro e W7 ⟨rfl,hb⟩;have K1:=hid (K1.out.below hb);have rf:=hbt kD hb;clear hb;go_wp2_with fail
 with_reducible refine((vg _ (HT.out.on rf.out)).at).mono ?_
 rintro e W8 ⟨rfl,hb⟩;have K1:=hid (K1.out.below hb);have rM:=hbt rf hb;clear hb;go_upto_region 3 with fail
 refine ak W8 [(#[.string ⟨#[49]⟩,.string ⟨#[48]⟩,.string ⟨#[49]⟩],24)] rfl ?_;have L2:=K1.out.lt;have L3:=rM.out.size;rintro W9 ⟨k2,hb⟩;have hb:Below W8.heap.size W8 W9:=hb;have K1:=hid (K1.out.below hb);have kE:=hbt rM hb;have K2:=hid k2;clear k2 hb;go_wp2_with fail
 with_reducible refine((lvec _ _ _ _).at).mono ?_
 rintro e W10 ⟨rfl,hb⟩;obtain ⟨K1,K2⟩:=aO hb K1 K2;have kK:=hbt kE hb;clear hb;go_wp2_with fail
 with_reducible refine((lvec _ _ _ _).at).mono ?_
 rintro e W11 ⟨rfl,hb⟩;obtain ⟨K1,K2⟩:=aO hb K1 K2;have kM:=hbt kK hb;clear hb;go_wp2_with fail
 with_reducible refine((lvec _ _ _ _).at).mono ?_
 rintro e W12 ⟨rfl,hb⟩;obtain ⟨K1,K2⟩:=aO hb K1 K2;have rV:=hbt kM hb;clear hb;go_wp2_with fail
 with_reducible refine((yF _ (HT.out.on rV.out)).at).mono ?_
 rintro e W13 ⟨rfl,hb⟩;obtain ⟨K1,K2⟩:=aO hb K1 K2;have p8:=hbt rV hb;clear hb;go_upto_region 4 with fail
 refine ak W13 [(#[.string ⟨#[49]⟩,.string ⟨#[49]⟩,.string ⟨#[49]⟩,.string ⟨#[49]⟩],28)] rfl ?_;have L4:=K1.out.lt;have L5:=K2.out.lt;have L6:=p8.out.size;rintro W14 ⟨k3,hb⟩;have hb:Below W13.heap.size W13 W14:=hb;obtain ⟨K1,K2⟩:=aO hb K1 K2;have wo:=hbt p8 hb;have K3:=hid k3;clear k3 hb;go_wp2_with fail
 refine aB (fun a0 a' V=>a'=⟨aV [(43,.agg #[.string ⟨#[49]⟩,.string ⟨#[49]⟩,.string ⟨#[49]⟩,.string ⟨#[49]⟩]),(44,.agg #[.string ⟨#[48]⟩,.string ⟨#[48]⟩,.string ⟨#[50]⟩]),(45,.tuple #[.int .i64 1,.int .i64 0]),(42,.tuple #[.int .i64 1,.int .i64 0]),(46,.int .i64 1),(47,.int .i64 0),(7,.int .i64 1),(8,.int .i64 0)] a0.tmps,a0.defers⟩∧Below w.heap.size w V∧SBk V (W3.heap.size) #[.string ⟨#[48]⟩,.string ⟨#[48]⟩,.string ⟨#[49]⟩] 24∧SBk V (W8.heap.size) #[.string ⟨#[49]⟩,.string ⟨#[48]⟩,.string ⟨#[49]⟩] 24∧SBk V (W13.heap.size) #[.string ⟨#[49]⟩,.string ⟨#[49]⟩,.string ⟨#[49]⟩,.string ⟨#[49]⟩] 28) ?_ ?_
 · refine ay (by kernel_rfl) 8 0 (fun i=>[43,44,45,42,46,47,7,8].getD i 0) (RelR [Rel.val (.agg #[.string ⟨#[49]⟩,.string ⟨#[49]⟩,.string ⟨#[49]⟩,.string ⟨#[49]⟩]),Rel.val (.agg #[.string ⟨#[48]⟩,.string ⟨#[48]⟩,.string ⟨#[50]⟩]),Rel.val (.tuple #[.int .i64 1,.int .i64 0]),Rel.val (.tuple #[.int .i64 1,.int .i64 0]),Rel.val (.int .i64 1),Rel.val (.int .i64 0),Rel.val (.int .i64 1),Rel.val (.int .i64 0)]) (fun W=>Below W14.heap.size W14 W) (fun _ _=>True) (by kernel_rfl) (by kernel_rfl) (by kernel_rfl) trivial (Below.refl _ _).drew ?_ ?_
   · intro u6 a W i hI hD hrd him
     obtain ⟨HI,HD,Hr⟩:=ae hI hD hrd;clear hI hrd hD;have y5:a.tmps[5]? = some (.pointer (some ⟨W13.heap.size,0,none⟩)):=HI.out.rest 5 (by decide);obtain ⟨kV,gy,fw,fQ⟩:=gz (K3.out.below HI.out.world) rfl rfl rfl rfl;have X0:RV _ u6 a 0 43 (.agg #[.string ⟨#[49]⟩,.string ⟨#[49]⟩,.string ⟨#[49]⟩,.string ⟨#[49]⟩]):=HI.out.rh;have X1:RV _ u6 a 1 44 (.agg #[.string ⟨#[48]⟩,.string ⟨#[48]⟩,.string ⟨#[50]⟩]):=HI.out.rh;have X2:RV _ u6 a 2 45 (.tuple #[.int .i64 1,.int .i64 0]):=HI.out.rh;have X3:RV _ u6 a 3 42 (.tuple #[.int .i64 1,.int .i64 0]):=HI.out.rh;have X4:RV _ u6 a 4 46 (.int .i64 1):=HI.out.rh;have X5:RV _ u6 a 5 47 (.int .i64 0):=HI.out.rh
     match i,him,Hr with
     | 0,_,Hi =>
       refine ax rfl fun K' hK=>?_;go_simp;exact hK.out _ _ ⟨HI.out.pv Hi.out rfl,trivial⟩
     | 1,_,Hi =>
       refine ax rfl fun K' hK=>?_;go_simp;with_reducible refine((lvec _ _ _ _).at).mono ?_
       rintro e W' ⟨rfl,hb⟩;exact hK.out _ _ ⟨HI.out.pc Hi.out hb rfl,trivial⟩
     | 2,_,Hi =>
       have x0:=X0.g Hi.out (by kernel_rfl);have x1:=X1.g Hi.out (by kernel_rfl);refine ax rfl fun K' hK=>?_;go_simp;with_reducible refine((z3F _ (HT.out.on (wo.out.trans (HI.out.world.mono wo.out.size)))).at).mono ?_
       rintro e W' ⟨rfl,hb⟩;exact hK.out _ _ ⟨HI.out.pc Hi.out hb rfl,trivial⟩
     | 3,_,Hi|4,_,Hi|5,_,Hi|6,_,Hi|7,_,Hi =>
       try have x2:=X2.g Hi.out (by decide +kernel)
       try have x3:=X3.g Hi.out (by decide +kernel)
       try have x4:=X4.g Hi.out (by decide +kernel)
       try have x5:=X5.g Hi.out (by decide +kernel)
       refine ax rfl fun K' hK=>?_;go_simp;exact hK.out _ _ ⟨HI.out.pv Hi.out rfl,trivial⟩
     | n+8,h,_=>exact absurd h (by omega)
   · intro u6 a W hI hD w9
     obtain ⟨wu,HI,HA⟩:=ae hI.world hI w9;clear hI w9;obtain ⟨K1,K2,K3⟩:=aZ wu.out K1 K2 K3;have wy:=Lib.hid (wo.out.trans (wu.out.mono wo.out.size));refine aR ?_;exact⟨rfl,(HI.out.finx ⟨HI.out.sx HA.out 0,HI.out.sx HA.out 1,HI.out.sx HA.out 2,HI.out.sx HA.out 3,HI.out.sx HA.out 4,HI.out.sx HA.out 5,HI.out.sx HA.out 6,HI.out.sx HA.out 7,trivial⟩ rfl),wy.out,K1.out,K2.out,K3.out⟩
 rintro a' W15 ⟨rfl,z0,z1,z2,z3⟩;obtain ⟨ed,K1,K2,K3⟩:=aP z0 z1 z2 z3;clear z0 z1 z2 z3;simp only[aV,List.setIfInBounds_toArray,List.set_cons_zero,List.set_cons_succ];go_wp2_with fail
 with_reducible refine((lvec _ _ _ _).at).mono ?_
 rintro e W16 ⟨rfl,hb⟩;obtain ⟨K1,K2,K3⟩:=aZ hb K1 K2 K3;have dn:=hbt ed hb;clear hb;go_wp2_with fail
 with_reducible refine((lvec _ _ _ _).at).mono ?_
 rintro e W17 ⟨rfl,hb⟩;obtain ⟨K1,K2,K3⟩:=aZ hb K1 K2 K3;have dx:=hbt dn hb;clear hb;go_wp2_with fail
 have hb:=jq W17 (.cells #[.string ⟨#[49]⟩,.string ⟨#[50]⟩,.string ⟨#[51]⟩,.string ⟨#[52]⟩,.string ⟨#[53]⟩,.string ⟨#[54]⟩] 24);have k4:=SBk.new W17 #[.string ⟨#[49]⟩,.string ⟨#[50]⟩,.string ⟨#[51]⟩,.string ⟨#[52]⟩,.string ⟨#[53]⟩,.string ⟨#[54]⟩] 24;generalize W17.alloc (.cells #[.string ⟨#[49]⟩,.string ⟨#[50]⟩,.string ⟨#[51]⟩,.string ⟨#[52]⟩,.string ⟨#[53]⟩,.string ⟨#[54]⟩] 24)=W18 at *;obtain ⟨K1,K2,K3⟩:=aZ hb K1 K2 K3;have dz:=hbt dx hb;have K4:=hid k4;clear k4 hb;with_reducible refine((lvec _ _ _ _).at).mono ?_
 rintro e W19 ⟨rfl,hb⟩;obtain ⟨K1,K2,K3,K4⟩:=bi hb K1 K2 K3 K4;have pq:=hbt dz hb;clear hb;go_wp2_with fail
 with_reducible refine((z2g _ _ (HT.out.on pq.out) K4.out).at).mono ?_
 rintro e W20 ⟨rfl,hb⟩;obtain ⟨K1,K2,K3,K4⟩:=bi hb K1 K2 K3 K4;have ol:=hbt pq hb;clear hb;go_upto_region 6 with fail
 refine ak W20 [(#[.string ⟨#[45,50]⟩,.string ⟨#[45,50]⟩],45)] rfl ?_;have L7:=K1.out.lt;have L8:=K2.out.lt;have L9:=K3.out.lt;have L10:=K4.out.lt;have L11:=ol.out.size;rintro W21 ⟨k5,hb⟩;have hb:Below W20.heap.size W20 W21:=hb;obtain ⟨K1,K2,K3,K4⟩:=bi hb K1 K2 K3 K4;have dX:=hbt ol hb;have K5:=hid k5;clear k5 hb;go_wp2_with fail
 with_reducible refine((lvec _ _ _ _).at).mono ?_
 rintro e W22 ⟨rfl,hb⟩;obtain ⟨K1,K2,K3,K4,K5⟩:=bS hb K1 K2 K3 K4 K5;have dY:=hbt dX hb;clear hb;go_wp2_with fail
 with_reducible refine((lvec _ _ _ _).at).mono ?_
 rintro e W23 ⟨rfl,hb⟩;obtain ⟨K1,K2,K3,K4,K5⟩:=bS hb K1 K2 K3 K4 K5;have oM:=hbt dY hb;clear hb;go_wp2_with fail
 with_reducible refine((z4v _ (HT.out.on oM.out)).at).mono ?_
 rintro e W24 ⟨rfl,hb⟩;obtain ⟨K1,K2,K3,K4,K5⟩:=bS hb K1 K2 K3 K4 K5;have cO:=hbt oM hb;clear hb;go_wp2_with fail
 with_reducible refine((lvec _ _ _ _).at).mono ?_
 rintro e W25 ⟨rfl,hb⟩;obtain ⟨K1,K2,K3,K4,K5⟩:=bS hb K1 K2 K3 K4 K5;have bg:=hbt cO hb;clear hb;go_wp2_with fail
 with_reducible refine((lvec _ _ _ _).at).mono ?_
 rintro e W26 ⟨rfl,hb⟩;obtain ⟨K1,K2,K3,K4,K5⟩:=bS hb K1 K2 K3 K4 K5;have bn:=hbt bg hb;clear hb;go_wp2_with fail
 with_reducible refine((lvec _ _ _ _).at).mono ?_
 rintro e W27 ⟨rfl,hb⟩;obtain ⟨K1,K2,K3,K4,K5⟩:=bS hb K1 K2 K3 K4 K5;have oV:=hbt bn hb;clear hb;go_wp2_with fail
 with_reducible refine((z4w _ (HT.out.on oV.out)).at).mono ?_
 rintro e W28 ⟨rfl,hb⟩;obtain ⟨K1,K2,K3,K4,K5⟩:=bS hb K1 K2 K3 K4 K5;have bq:=hbt oV hb;clear hb;go_wp2_with fail
 with_reducible refine((lvec _ _ _ _).at).mono ?_
 rintro e W29 ⟨rfl,hb⟩;obtain ⟨K1,K2,K3,K4,K5⟩:=bS hb K1 K2 K3 K4 K5;have bu:=hbt bq hb;clear hb;go_wp2_with fail
 with_reducible refine((lvec _ _ _ _).at).mono ?_
 rintro e W30 ⟨rfl,hb⟩;obtain ⟨K1,K2,K3,K4,K5⟩:=bS hb K1 K2 K3 K4 K5;have ma:=hbt bu hb;clear hb;go_wp2_with fail
 with_reducible refine((z4x _ (HT.out.on ma.out)).at).mono ?_
 rintro e W31 ⟨rfl,hb⟩;obtain ⟨K1,K2,K3,K4,K5⟩:=bS hb K1 K2 K3 K4 K5;have mf:=hbt ma hb;clear hb;go_upto_region 9 with fail
 refine ak W31 [(#[.string ⟨#[53]⟩,.string ⟨#[55]⟩,.string ⟨#[57]⟩],24)] rfl ?_;have L12:=K1.out.lt;have L13:=K2.out.lt;have L14:=K3.out.lt;have L15:=K4.out.lt;have L16:=K5.out.lt;have L17:=mf.out.size;rintro W32 ⟨k6,hb⟩;have hb:Below W31.heap.size W31 W32:=hb;obtain ⟨K1,K2,K3,K4,K5⟩:=bS hb K1 K2 K3 K4 K5;have bv:=hbt mf hb;have K6:=hid k6;clear k6 hb;go_wp2_with fail
 with_reducible refine((lvec _ _ _ _).at).mono ?_
 rintro e W33 ⟨rfl,hb⟩;obtain ⟨K1,K2,K3,K4,K5,K6⟩:=d9 hb K1 K2 K3 K4 K5 K6;have bM:=hbt bv hb;clear hb;go_wp2_with fail
 with_reducible refine((lvec _ _ _ _).at).mono ?_
 rintro e W34 ⟨rfl,hb⟩;obtain ⟨K1,K2,K3,K4,K5,K6⟩:=d9 hb K1 K2 K3 K4 K5 K6;have mi:=hbt bM hb;clear hb;go_wp2_with fail
 with_reducible refine((z4u _ (HT.out.on mi.out)).at).mono ?_
 rintro e W35 ⟨rfl,hb⟩;obtain ⟨K1,K2,K3,K4,K5,K6⟩:=d9 hb K1 K2 K3 K4 K5 K6;have l5:=hbt mi hb;clear hb;go_upto_region 10 with fail
 refine ak W35 [(#[.string ⟨#[45,51]⟩,.string ⟨#[45,51]⟩,.string ⟨#[45,51]⟩],24)] rfl ?_;have L18:=K1.out.lt;have L19:=K2.out.lt;have L20:=K3.out.lt;have L21:=K4.out.lt;have L22:=K5.out.lt;have L23:=K6.out.lt;have L24:=l5.out.size;rintro W36 ⟨k7,hb⟩;have hb:Below W35.heap.size W35 W36:=hb;obtain ⟨K1,K2,K3,K4,K5,K6⟩:=d9 hb K1 K2 K3 K4 K5 K6;have bV:=hbt l5 hb;have K7:=hid k7;clear k7 hb;go_wp2_with fail
 with_reducible refine((lvec _ _ _ _).at).mono ?_
 rintro e W37 ⟨rfl,hb⟩;obtain ⟨K1,K2,K3,K4,K5,K6,K7⟩:=eO hb K1 K2 K3 K4 K5 K6 K7;have l6:=hbt bV hb;clear hb;go_wp2_with fail
 with_reducible refine((z2f _ (HT.out.on l6.out)).at).mono ?_
 rintro e W38 ⟨rfl,hb⟩;obtain ⟨K1,K2,K3,K4,K5,K6,K7⟩:=eO hb K1 K2 K3 K4 K5 K6 K7;have lg:=hbt l6 hb;clear hb;go_upto_region 11 with fail
 refine ak W38 [(#[.string ⟨#[50]⟩,.string ⟨#[52]⟩,.string ⟨#[54]⟩],24)] rfl ?_;have L25:=K1.out.lt;have L26:=K2.out.lt;have L27:=K3.out.lt;have L28:=K4.out.lt;have L29:=K5.out.lt;have L30:=K6.out.lt;have L31:=K7.out.lt;have L32:=lg.out.size;rintro W39 ⟨k8,hb⟩;have hb:Below W38.heap.size W38 W39:=hb;obtain ⟨K1,K2,K3,K5,K6,K7⟩:=d9 hb K1 K2 K3 K5 K6 K7;have ww:=hbt lg hb;have K8:=hid k8;clear k8 hb;go_wp2_with fail
 simp only[List.append];refine aB (fun a0 a' V=>a'=⟨aV [(86,.int .i64 0),(87,.int .i64 0),(88,.int .i64 0),(89,.int .i64 0),(90,.int .i64 0),(91,.int .i64 0),(92,.int .i64 0),(93,.int .i64 0),(94,.int .i64 0),(95,.int .i64 0),(96,.int .i64 0),(97,.int .i64 0),(98,.int .i64 0),(99,.int .i64 0),(100,.int .i64 0),(101,.int .i64 0),(102,.int .i64 0),(103,.int .i64 0),(104,.int .i64 0),(105,.bool true),(106,.bool true),(107,.agg #[.string ⟨#[48]⟩,.string ⟨#[48]⟩,.string ⟨#[49]⟩]),(108,.agg #[.string ⟨#[48]⟩,.string ⟨#[48]⟩,.string ⟨#[49]⟩]),(109,.bool true),(110,.bool true),(111,.bool true),(112,.agg #[.string ⟨#[49]⟩,.string ⟨#[48]⟩,.string ⟨#[49]⟩]),(113,.agg #[.string ⟨#[49]⟩,.string ⟨#[48]⟩,.string ⟨#[49]⟩]),(114,.bool true),(115,.bool true),(116,.bool true),(117,.agg #[.string ⟨#[49]⟩,.string ⟨#[49]⟩,.string ⟨#[49]⟩,.string ⟨#[49]⟩]),(118,.agg #[.string ⟨#[49]⟩,.string ⟨#[49]⟩,.string ⟨#[49]⟩]),(119,.agg #[.string ⟨#[49]⟩,.string ⟨#[49]⟩,.string ⟨#[49]⟩,.string ⟨#[49]⟩]),(120,.bool true),(121,.bool true),(122,.bool true),(123,.int .i64 1),(124,.bool true),(125,.bool true),(126,.bool true),(127,.agg #[.string ⟨#[45,50]⟩,.string ⟨#[45,50]⟩]),(128,.agg #[.string ⟨#[45,50]⟩,.string ⟨#[45,50]⟩]),(129,.bool true),(130,.bool true),(131,.bool true),(132,.string ⟨#[51,50]⟩),(133,.bool true),(134,.bool true),(135,.bool true),(136,.string ⟨#[49]⟩),(137,.bool true),(138,.bool true),(139,.bool true),(140,.agg #[.string ⟨#[53]⟩,.string ⟨#[55]⟩,.string ⟨#[57]⟩]),(141,.agg #[.string ⟨#[53]⟩,.string ⟨#[55]⟩,.string ⟨#[57]⟩]),(142,.bool true),(143,.bool true),(144,.bool true),(145,.agg #[.string ⟨#[45,51]⟩,.string ⟨#[45,51]⟩,.string ⟨#[45,51]⟩]),(146,.agg #[.string ⟨#[45,51]⟩,.string ⟨#[45,51]⟩,.string ⟨#[45,51]⟩]),(147,.bool true),(148,.bool true),(149,.bool true),(150,.agg #[.string ⟨#[50]⟩,.string ⟨#[52]⟩,.string ⟨#[54]⟩]),(151,.agg #[.string ⟨#[50]⟩,.string ⟨#[52]⟩,.string ⟨#[54]⟩]),(152,.bool true),(153,.bool true),(154,.bool true),(155,.agg #[.string ⟨#[48]⟩,.string ⟨#[48]⟩,.string ⟨#[49]⟩]),(156,.bool true),(157,.bool true),(0,.bool true)] a0.tmps,a0.defers⟩∧Below w.heap.size w V) ?_ ?_
 · refine ay (by kernel_rfl) 73 0 (fun i=>[86,87,88,89,90,91,92,93,94,95,96,97,98,99,100,101,102,103,104,105,106,107,108,109,110,111,112,113,114,115,116,117,118,119,120,121,122,123,124,125,126,127,128,129,130,131,132,133,134,135,136,137,138,139,140,141,142,143,144,145,146,147,148,149,150,151,152,153,154,155,156,157,0].getD i 0) (RelR [Rel.val (.int .i64 0),Rel.val (.int .i64 0),Rel.val (.int .i64 0),Rel.val (.int .i64 0),Rel.val (.int .i64 0),Rel.val (.int .i64 0),Rel.val (.int .i64 0),Rel.val (.int .i64 0),Rel.val (.int .i64 0),Rel.val (.int .i64 0),Rel.val (.int .i64 0),Rel.val (.int .i64 0),Rel.val (.int .i64 0),Rel.val (.int .i64 0),Rel.val (.int .i64 0),Rel.val (.int .i64 0),Rel.val (.int .i64 0),Rel.val (.int .i64 0),Rel.val (.int .i64 0),Rel.val (.bool true),Rel.val (.bool true),Rel.val (.agg #[.string ⟨#[48]⟩,.string ⟨#[48]⟩,.string ⟨#[49]⟩]),Rel.val (.agg #[.string ⟨#[48]⟩,.string ⟨#[48]⟩,.string ⟨#[49]⟩]),Rel.val (.bool true),Rel.val (.bool true),Rel.val (.bool true),Rel.val (.agg #[.string ⟨#[49]⟩,.string ⟨#[48]⟩,.string ⟨#[49]⟩]),Rel.val (.agg #[.string ⟨#[49]⟩,.string ⟨#[48]⟩,.string ⟨#[49]⟩]),Rel.val (.bool true),Rel.val (.bool true),Rel.val (.bool true),Rel.val (.agg #[.string ⟨#[49]⟩,.string ⟨#[49]⟩,.string ⟨#[49]⟩,.string ⟨#[49]⟩]),Rel.val (.agg #[.string ⟨#[49]⟩,.string ⟨#[49]⟩,.string ⟨#[49]⟩]),Rel.val (.agg #[.string ⟨#[49]⟩,.string ⟨#[49]⟩,.string ⟨#[49]⟩,.string ⟨#[49]⟩]),Rel.val (.bool true),Rel.val (.bool true),Rel.val (.bool true),Rel.val (.int .i64 1),Rel.val (.bool true),Rel.val (.bool true),Rel.val (.bool true),Rel.val (.agg #[.string ⟨#[45,50]⟩,.string ⟨#[45,50]⟩]),Rel.val (.agg #[.string ⟨#[45,50]⟩,.string ⟨#[45,50]⟩]),Rel.val (.bool true),Rel.val (.bool true),Rel.val (.bool true),Rel.val (.string ⟨#[51,50]⟩),Rel.val (.bool true),Rel.val (.bool true),Rel.val (.bool true),Rel.val (.string ⟨#[49]⟩),Rel.val (.bool true),Rel.val (.bool true),Rel.val (.bool true),Rel.val (.agg #[.string ⟨#[53]⟩,.string ⟨#[55]⟩,.string ⟨#[57]⟩]),Rel.val (.agg #[.string ⟨#[53]⟩,.string ⟨#[55]⟩,.string ⟨#[57]⟩]),Rel.val (.bool true),Rel.val (.bool true),Rel.val (.bool true),Rel.val (.agg #[.string ⟨#[45,51]⟩,.string ⟨#[45,51]⟩,.string ⟨#[45,51]⟩]),Rel.val (.agg #[.string ⟨#[45,51]⟩,.string ⟨#[45,51]⟩,.string ⟨#[45,51]⟩]),Rel.val (.bool true),Rel.val (.bool true),Rel.val (.bool true),Rel.val (.agg #[.string ⟨#[50]⟩,.string ⟨#[52]⟩,.string ⟨#[54]⟩]),Rel.val (.agg #[.string ⟨#[50]⟩,.string ⟨#[52]⟩,.string ⟨#[54]⟩]),Rel.val (.bool true),Rel.val (.bool true),Rel.val (.bool true),Rel.val (.agg #[.string ⟨#[48]⟩,.string ⟨#[48]⟩,.string ⟨#[49]⟩]),Rel.val (.bool true),Rel.val (.bool true),Rel.val (.bool true)]) (fun W=>Below W39.heap.size W39 W) (fun _ _=>True) (by kernel_rfl) (by kernel_rfl) (by kernel_rfl) trivial (Below.refl _ _).drew ?_ ?_
   · intro u6 a W i hI hD hrd him
     obtain ⟨HI,HD,Hr⟩:=ae hI hD hrd;clear hI hrd hD;have y2:a.tmps[2]? = some (.int .i64 0):=HI.out.rest 2 (by decide);have y4:a.tmps[4]? = some (.int .i64 0):=HI.out.rest 4 (by decide);have y6:a.tmps[6]? = some (.int .i64 0):=HI.out.rest 6 (by decide);have y8:a.tmps[8]? = some (.int .i64 0):=HI.out.rest 8 (by decide);have y10:a.tmps[10]? = some (.int .i64 0):=HI.out.rest 10 (by decide);have y12:a.tmps[12]? = some (.int .i64 0):=HI.out.rest 12 (by decide);have y14:a.tmps[14]? = some (.int .i64 0):=HI.out.rest 14 (by decide);have y16:a.tmps[16]? = some (.int .i64 0):=HI.out.rest 16 (by decide);have y18:a.tmps[18]? = some (.int .i64 0):=HI.out.rest 18 (by decide);have y20:a.tmps[20]? = some (.int .i64 0):=HI.out.rest 20 (by decide);have y1:a.tmps[1]? = some (.pointer (some ⟨W3.heap.size,0,none⟩)):=HI.out.rest 1 (by decide);have y3:a.tmps[3]? = some (.pointer (some ⟨W8.heap.size,0,none⟩)):=HI.out.rest 3 (by decide);have y5:a.tmps[5]? = some (.pointer (some ⟨W13.heap.size,0,none⟩)):=HI.out.rest 5 (by decide);have y7:a.tmps[7]? = some (.int .i64 1):=HI.out.rest 7 (by decide);have y9:a.tmps[9]? = some (.pointer (some ⟨W20.heap.size,0,none⟩)):=HI.out.rest 9 (by decide);have y11:a.tmps[11]? = some (.string ⟨#[51,50]⟩):=HI.out.rest 11 (by decide);have y13:a.tmps[13]? = some (.string ⟨#[49]⟩):=HI.out.rest 13 (by decide);have y15:a.tmps[15]? = some (.pointer (some ⟨W31.heap.size,0,none⟩)):=HI.out.rest 15 (by decide);have y17:a.tmps[17]? = some (.pointer (some ⟨W35.heap.size,0,none⟩)):=HI.out.rest 17 (by decide);have y19:a.tmps[19]? = some (.pointer (some ⟨W38.heap.size,0,none⟩)):=HI.out.rest 19 (by decide);obtain ⟨u00,u01,u02⟩:=ag (K1.out.below HI.out.world) rfl rfl rfl;obtain ⟨u03,u04,u05⟩:=ag (K2.out.below HI.out.world) rfl rfl rfl;obtain ⟨kV,gy,fw,fQ⟩:=gz (K3.out.below HI.out.world) rfl rfl rfl rfl;obtain ⟨u06,u07⟩:=bH (K5.out.below HI.out.world) rfl rfl;obtain ⟨u08,u09,u0a⟩:=ag (K6.out.below HI.out.world) rfl rfl rfl;obtain ⟨u0b,u0c,u0d⟩:=ag (K7.out.below HI.out.world) rfl rfl rfl;obtain ⟨u0e,u0f,u0g⟩:=ag (K8.out.below HI.out.world) rfl rfl rfl;have X0:RV _ u6 a 0 86 (.int .i64 0):=HI.out.rh;have X1:RV _ u6 a 1 87 (.int .i64 0):=HI.out.rh;have X2:RV _ u6 a 2 88 (.int .i64 0):=HI.out.rh;have X3:RV _ u6 a 3 89 (.int .i64 0):=HI.out.rh;have X4:RV _ u6 a 4 90 (.int .i64 0):=HI.out.rh;have X5:RV _ u6 a 5 91 (.int .i64 0):=HI.out.rh;have X6:RV _ u6 a 6 92 (.int .i64 0):=HI.out.rh;have X7:RV _ u6 a 7 93 (.int .i64 0):=HI.out.rh;have X8:RV _ u6 a 8 94 (.int .i64 0):=HI.out.rh;have X9:RV _ u6 a 9 95 (.int .i64 0):=HI.out.rh;have X10:RV _ u6 a 10 96 (.int .i64 0):=HI.out.rh;have X11:RV _ u6 a 11 97 (.int .i64 0):=HI.out.rh;have X12:RV _ u6 a 12 98 (.int .i64 0):=HI.out.rh;have X13:RV _ u6 a 13 99 (.int .i64 0):=HI.out.rh;have X14:RV _ u6 a 14 100 (.int .i64 0):=HI.out.rh;have X15:RV _ u6 a 15 101 (.int .i64 0):=HI.out.rh;have X16:RV _ u6 a 16 102 (.int .i64 0):=HI.out.rh;have X17:RV _ u6 a 17 103 (.int .i64 0):=HI.out.rh;have X18:RV _ u6 a 18 104 (.int .i64 0):=HI.out.rh;have X19:RV _ u6 a 19 105 (.bool true):=HI.out.rh;have X20:RV _ u6 a 20 106 (.bool true):=HI.out.rh;have X21:RV _ u6 a 21 107 (.agg #[.string ⟨#[48]⟩,.string ⟨#[48]⟩,.string ⟨#[49]⟩]):=HI.out.rh;have X22:RV _ u6 a 22 108 (.agg #[.string ⟨#[48]⟩,.string ⟨#[48]⟩,.string ⟨#[49]⟩]):=HI.out.rh;have X23:RV _ u6 a 23 109 (.bool true):=HI.out.rh;have X24:RV _ u6 a 24 110 (.bool true):=HI.out.rh;have X25:RV _ u6 a 25 111 (.bool true):=HI.out.rh;have X26:RV _ u6 a 26 112 (.agg #[.string ⟨#[49]⟩,.string ⟨#[48]⟩,.string ⟨#[49]⟩]):=HI.out.rh;have X27:RV _ u6 a 27 113 (.agg #[.string ⟨#[49]⟩,.string ⟨#[48]⟩,.string ⟨#[49]⟩]):=HI.out.rh;have X28:RV _ u6 a 28 114 (.bool true):=HI.out.rh;have X29:RV _ u6 a 29 115 (.bool true):=HI.out.rh;have X30:RV _ u6 a 30 116 (.bool true):=HI.out.rh;have X32:RV _ u6 a 32 118 (.agg #[.string ⟨#[49]⟩,.string ⟨#[49]⟩,.string ⟨#[49]⟩]):=HI.out.rh;have X31:RV _ u6 a 31 117 (.agg #[.string ⟨#[49]⟩,.string ⟨#[49]⟩,.string ⟨#[49]⟩,.string ⟨#[49]⟩]):=HI.out.rh;have X33:RV _ u6 a 33 119 (.agg #[.string ⟨#[49]⟩,.string ⟨#[49]⟩,.string ⟨#[49]⟩,.string ⟨#[49]⟩]):=HI.out.rh;have X34:RV _ u6 a 34 120 (.bool true):=HI.out.rh;have X35:RV _ u6 a 35 121 (.bool true):=HI.out.rh;have X36:RV _ u6 a 36 122 (.bool true):=HI.out.rh;have X37:RV _ u6 a 37 123 (.int .i64 1):=HI.out.rh;have X38:RV _ u6 a 38 124 (.bool true):=HI.out.rh;have X39:RV _ u6 a 39 125 (.bool true):=HI.out.rh;have X40:RV _ u6 a 40 126 (.bool true):=HI.out.rh;have X41:RV _ u6 a 41 127 (.agg #[.string ⟨#[45,50]⟩,.string ⟨#[45,50]⟩]):=HI.out.rh;have X42:RV _ u6 a 42 128 (.agg #[.string ⟨#[45,50]⟩,.string ⟨#[45,50]⟩]):=HI.out.rh;have X43:RV _ u6 a 43 129 (.bool true):=HI.out.rh;have X44:RV _ u6 a 44 130 (.bool true):=HI.out.rh;have X45:RV _ u6 a 45 131 (.bool true):=HI.out.rh;have X46:RV _ u6 a 46 132 (.string ⟨#[51,50]⟩):=HI.out.rh;have X47:RV _ u6 a 47 133 (.bool true):=HI.out.rh;have X48:RV _ u6 a 48 134 (.bool true):=HI.out.rh;have X49:RV _ u6 a 49 135 (.bool true):=HI.out.rh;have X50:RV _ u6 a 50 136 (.string ⟨#[49]⟩):=HI.out.rh;have X51:RV _ u6 a 51 137 (.bool true):=HI.out.rh;have X52:RV _ u6 a 52 138 (.bool true):=HI.out.rh;have X53:RV _ u6 a 53 139 (.bool true):=HI.out.rh;have X54:RV _ u6 a 54 140 (.agg #[.string ⟨#[53]⟩,.string ⟨#[55]⟩,.string ⟨#[57]⟩]):=HI.out.rh;have X55:RV _ u6 a 55 141 (.agg #[.string ⟨#[53]⟩,.string ⟨#[55]⟩,.string ⟨#[57]⟩]):=HI.out.rh;have X56:RV _ u6 a 56 142 (.bool true):=HI.out.rh;have X57:RV _ u6 a 57 143 (.bool true):=HI.out.rh;have X58:RV _ u6 a 58 144 (.bool true):=HI.out.rh;have X59:RV _ u6 a 59 145 (.agg #[.string ⟨#[45,51]⟩,.string ⟨#[45,51]⟩,.string ⟨#[45,51]⟩]):=HI.out.rh;have X60:RV _ u6 a 60 146 (.agg #[.string ⟨#[45,51]⟩,.string ⟨#[45,51]⟩,.string ⟨#[45,51]⟩]):=HI.out.rh;have X61:RV _ u6 a 61 147 (.bool true):=HI.out.rh;have X62:RV _ u6 a 62 148 (.bool true):=HI.out.rh;have X63:RV _ u6 a 63 149 (.bool true):=HI.out.rh;have X64:RV _ u6 a 64 150 (.agg #[.string ⟨#[50]⟩,.string ⟨#[52]⟩,.string ⟨#[54]⟩]):=HI.out.rh;have X65:RV _ u6 a 65 151 (.agg #[.string ⟨#[50]⟩,.string ⟨#[52]⟩,.string ⟨#[54]⟩]):=HI.out.rh;have X66:RV _ u6 a 66 152 (.bool true):=HI.out.rh;have X67:RV _ u6 a 67 153 (.bool true):=HI.out.rh;have X68:RV _ u6 a 68 154 (.bool true):=HI.out.rh;have X69:RV _ u6 a 69 155 (.agg #[.string ⟨#[48]⟩,.string ⟨#[48]⟩,.string ⟨#[49]⟩]):=HI.out.rh;have X70:RV _ u6 a 70 156 (.bool true):=HI.out.rh;have X71:RV _ u6 a 71 157 (.bool true):=HI.out.rh
     match i,him,Hr with
     | 0,_,Hi|1,_,Hi|2,_,Hi|3,_,Hi|4,_,Hi|5,_,Hi|6,_,Hi|7,_,Hi =>
       try have x0:=X0.g Hi.out (by decide +kernel)
       try have x1:=X1.g Hi.out (by decide +kernel)
       try have x2:=X2.g Hi.out (by decide +kernel)
       try have x3:=X3.g Hi.out (by decide +kernel)
       try have x4:=X4.g Hi.out (by decide +kernel)
       try have x5:=X5.g Hi.out (by decide +kernel)
       refine ax rfl fun K' hK=>?_;go_simp;exact hK.out _ _ ⟨HI.out.pv Hi.out rfl,trivial⟩
     | 8,_,Hi|9,_,Hi|10,_,Hi|11,_,Hi|12,_,Hi|13,_,Hi|14,_,Hi|15,_,Hi =>
       try have x6:=X6.g Hi.out (by decide +kernel)
       try have x7:=X7.g Hi.out (by decide +kernel)
       try have x8:=X8.g Hi.out (by decide +kernel)
       try have x9:=X9.g Hi.out (by decide +kernel)
       try have x10:=X10.g Hi.out (by decide +kernel)
       try have x11:=X11.g Hi.out (by decide +kernel)
       try have x12:=X12.g Hi.out (by decide +kernel)
       try have x13:=X13.g Hi.out (by decide +kernel)
       refine ax rfl fun K' hK=>?_;go_simp;exact hK.out _ _ ⟨HI.out.pv Hi.out rfl,trivial⟩
     | 16,_,Hi|17,_,Hi|18,_,Hi|19,_,Hi|20,_,Hi|21,_,Hi =>
       try have x14:=X14.g Hi.out (by decide +kernel)
       try have x15:=X15.g Hi.out (by decide +kernel)
       try have x16:=X16.g Hi.out (by decide +kernel)
       try have x17:=X17.g Hi.out (by decide +kernel)
       try have x18:=X18.g Hi.out (by decide +kernel)
       try have x19:=X19.g Hi.out (by decide +kernel)
       try have x20:=X20.g Hi.out (by decide +kernel)
       refine ax rfl fun K' hK=>?_;go_simp;exact hK.out _ _ ⟨HI.out.pv Hi.out rfl,trivial⟩
     | 22,_,Hi =>
       have x20:=X20.g Hi.out (by kernel_rfl);refine ax rfl fun K' hK=>?_;go_simp;with_reducible refine((lvec _ _ _ _).at).mono ?_
       rintro e W' ⟨rfl,hb⟩;exact hK.out _ _ ⟨HI.out.pc Hi.out hb rfl,trivial⟩
     | 23,_,Hi|24,_,Hi|25,_,Hi|26,_,Hi =>
       try have x21:=X21.g Hi.out (by decide +kernel)
       try have x22:=X22.g Hi.out (by decide +kernel)
       try have x20:=X20.g Hi.out (by decide +kernel)
       try have x23:=X23.g Hi.out (by decide +kernel)
       try have x24:=X24.g Hi.out (by decide +kernel)
       try have x25:=X25.g Hi.out (by decide +kernel)
       refine ax rfl fun K' hK=>?_;go_simp;exact hK.out _ _ ⟨HI.out.pv Hi.out rfl,trivial⟩
     | 27,_,Hi =>
       have x25:=X25.g Hi.out (by kernel_rfl);refine ax rfl fun K' hK=>?_;go_simp;with_reducible refine((lvec _ _ _ _).at).mono ?_
       rintro e W' ⟨rfl,hb⟩;exact hK.out _ _ ⟨HI.out.pc Hi.out hb rfl,trivial⟩
     | 28,_,Hi|29,_,Hi|30,_,Hi|31,_,Hi =>
       try have x26:=X26.g Hi.out (by decide +kernel)
       try have x27:=X27.g Hi.out (by decide +kernel)
       try have x25:=X25.g Hi.out (by decide +kernel)
       try have x28:=X28.g Hi.out (by decide +kernel)
       try have x29:=X29.g Hi.out (by decide +kernel)
       try have x30:=X30.g Hi.out (by decide +kernel)
       refine ax rfl fun K' hK=>?_;go_simp;exact hK.out _ _ ⟨HI.out.pv Hi.out rfl,trivial⟩
     | 32,_,Hi =>
       have x30:=X30.g Hi.out (by kernel_rfl);refine ax rfl fun K' hK=>?_;go_simp;with_reducible refine((lvec _ _ _ _).at).mono ?_
       rintro e W' ⟨rfl,hb⟩;exact hK.out _ _ ⟨HI.out.pc Hi.out hb rfl,trivial⟩
     | 33,_,Hi|34,_,Hi|35,_,Hi|36,_,Hi|37,_,Hi|38,_,Hi =>
       try have x32:=X32.g Hi.out (by decide +kernel)
       try have x30:=X30.g Hi.out (by decide +kernel)
       try have x31:=X31.g Hi.out (by decide +kernel)
       try have x33:=X33.g Hi.out (by decide +kernel)
       try have x34:=X34.g Hi.out (by decide +kernel)
       try have x35:=X35.g Hi.out (by decide +kernel)
       try have x36:=X36.g Hi.out (by decide +kernel)
       try have x37:=X37.g Hi.out (by decide +kernel)
       refine ax rfl fun K' hK=>?_;go_simp;exact hK.out _ _ ⟨HI.out.pv Hi.out rfl,trivial⟩
     | 39,_,Hi|40,_,Hi|41,_,Hi|42,_,Hi|43,_,Hi|44,_,Hi|45,_,Hi =>
       try have x36:=X36.g Hi.out (by decide +kernel)
       try have x38:=X38.g Hi.out (by decide +kernel)
       try have x39:=X39.g Hi.out (by decide +kernel)
       try have x40:=X40.g Hi.out (by decide +kernel)
       try have x41:=X41.g Hi.out (by decide +kernel)
       try have x42:=X42.g Hi.out (by decide +kernel)
       try have x43:=X43.g Hi.out (by decide +kernel)
       try have x44:=X44.g Hi.out (by decide +kernel)
       refine ax rfl fun K' hK=>?_;go_simp;exact hK.out _ _ ⟨HI.out.pv Hi.out rfl,trivial⟩
     | 46,_,Hi|47,_,Hi|48,_,Hi|49,_,Hi|50,_,Hi|51,_,Hi|52,_,Hi|53,_,Hi =>
       try have x45:=X45.g Hi.out (by decide +kernel)
       try have x46:=X46.g Hi.out (by decide +kernel)
       try have x47:=X47.g Hi.out (by decide +kernel)
       try have x48:=X48.g Hi.out (by decide +kernel)
       try have x49:=X49.g Hi.out (by decide +kernel)
       try have x50:=X50.g Hi.out (by decide +kernel)
       try have x51:=X51.g Hi.out (by decide +kernel)
       try have x52:=X52.g Hi.out (by decide +kernel)
       refine ax rfl fun K' hK=>?_;go_simp;exact hK.out _ _ ⟨HI.out.pv Hi.out rfl,trivial⟩
     | 54,_,Hi =>
       have x53:=X53.g Hi.out (by kernel_rfl);refine ax rfl fun K' hK=>?_;go_simp;exact hK.out _ _ ⟨HI.out.pv Hi.out rfl,trivial⟩
     | 55,_,Hi =>
       have x53:=X53.g Hi.out (by kernel_rfl);refine ax rfl fun K' hK=>?_;go_simp;with_reducible refine((lvec _ _ _ _).at).mono ?_
       rintro e W' ⟨rfl,hb⟩;exact hK.out _ _ ⟨HI.out.pc Hi.out hb rfl,trivial⟩
     | 56,_,Hi|57,_,Hi|58,_,Hi|59,_,Hi =>
       try have x54:=X54.g Hi.out (by decide +kernel)
       try have x55:=X55.g Hi.out (by decide +kernel)
       try have x53:=X53.g Hi.out (by decide +kernel)
       try have x56:=X56.g Hi.out (by decide +kernel)
       try have x57:=X57.g Hi.out (by decide +kernel)
       try have x58:=X58.g Hi.out (by decide +kernel)
       refine ax rfl fun K' hK=>?_;go_simp;exact hK.out _ _ ⟨HI.out.pv Hi.out rfl,trivial⟩
     | 60,_,Hi =>
       have x58:=X58.g Hi.out (by kernel_rfl);refine ax rfl fun K' hK=>?_;go_simp;with_reducible refine((lvec _ _ _ _).at).mono ?_
       rintro e W' ⟨rfl,hb⟩;exact hK.out _ _ ⟨HI.out.pc Hi.out hb rfl,trivial⟩
     | 61,_,Hi|62,_,Hi|63,_,Hi|64,_,Hi =>
       try have x59:=X59.g Hi.out (by decide +kernel)
       try have x60:=X60.g Hi.out (by decide +kernel)
       try have x58:=X58.g Hi.out (by decide +kernel)
       try have x61:=X61.g Hi.out (by decide +kernel)
       try have x62:=X62.g Hi.out (by decide +kernel)
       try have x63:=X63.g Hi.out (by decide +kernel)
       refine ax rfl fun K' hK=>?_;go_simp;exact hK.out _ _ ⟨HI.out.pv Hi.out rfl,trivial⟩
     | 65,_,Hi =>
       have x63:=X63.g Hi.out (by kernel_rfl);refine ax rfl fun K' hK=>?_;go_simp;with_reducible refine((lvec _ _ _ _).at).mono ?_
       rintro e W' ⟨rfl,hb⟩;exact hK.out _ _ ⟨HI.out.pc Hi.out hb rfl,trivial⟩
     | 66,_,Hi|67,_,Hi|68,_,Hi|69,_,Hi =>
       try have x64:=X64.g Hi.out (by decide +kernel)
       try have x65:=X65.g Hi.out (by decide +kernel)
       try have x63:=X63.g Hi.out (by decide +kernel)
       try have x66:=X66.g Hi.out (by decide +kernel)
       try have x67:=X67.g Hi.out (by decide +kernel)
       try have x68:=X68.g Hi.out (by decide +kernel)
       refine ax rfl fun K' hK=>?_;go_simp;exact hK.out _ _ ⟨HI.out.pv Hi.out rfl,trivial⟩
     | 70,_,Hi =>
       have x69:=X69.g Hi.out (by kernel_rfl);have x68:=X68.g Hi.out (by kernel_rfl);refine ax rfl fun K' hK=>?_;go_simp;with_reducible refine((z2e _ (HT.out.on (ww.out.trans (HI.out.world.mono ww.out.size)))).at).mono ?_
       rintro e W' ⟨rfl,hb⟩;exact hK.out _ _ ⟨HI.out.pc Hi.out hb rfl,trivial⟩
     | 71,_,Hi|72,_,Hi =>
       try have x68:=X68.g Hi.out (by decide +kernel)
       try have x70:=X70.g Hi.out (by decide +kernel)
       try have x71:=X71.g Hi.out (by decide +kernel)
       refine ax rfl fun K' hK=>?_;go_simp;exact hK.out _ _ ⟨HI.out.pv Hi.out rfl,trivial⟩
     | n+73,h,_=>exact absurd h (by omega)
   · intro u6 a W hI hD w9
     obtain ⟨wu,HI,HA⟩:=ae hI.world hI w9;clear hI w9;have wy:=hid (ww.out.trans (wu.out.mono ww.out.size));refine aR ?_;exact⟨rfl,(HI.out.finx ⟨HI.out.sx HA.out 0,HI.out.sx HA.out 1,HI.out.sx HA.out 2,HI.out.sx HA.out 3,HI.out.sx HA.out 4,HI.out.sx HA.out 5,HI.out.sx HA.out 6,HI.out.sx HA.out 7,HI.out.sx HA.out 8,HI.out.sx HA.out 9,HI.out.sx HA.out 10,HI.out.sx HA.out 11,HI.out.sx HA.out 12,HI.out.sx HA.out 13,HI.out.sx HA.out 14,HI.out.sx HA.out 15,HI.out.sx HA.out 16,HI.out.sx HA.out 17,HI.out.sx HA.out 18,HI.out.sx HA.out 19,HI.out.sx HA.out 20,HI.out.sx HA.out 21,HI.out.sx HA.out 22,HI.out.sx HA.out 23,HI.out.sx HA.out 24,HI.out.sx HA.out 25,HI.out.sx HA.out 26,HI.out.sx HA.out 27,HI.out.sx HA.out 28,HI.out.sx HA.out 29,HI.out.sx HA.out 30,HI.out.sx HA.out 31,HI.out.sx HA.out 32,HI.out.sx HA.out 33,HI.out.sx HA.out 34,HI.out.sx HA.out 35,HI.out.sx HA.out 36,HI.out.sx HA.out 37,HI.out.sx HA.out 38,HI.out.sx HA.out 39,HI.out.sx HA.out 40,HI.out.sx HA.out 41,HI.out.sx HA.out 42,HI.out.sx HA.out 43,HI.out.sx HA.out 44,HI.out.sx HA.out 45,HI.out.sx HA.out 46,HI.out.sx HA.out 47,HI.out.sx HA.out 48,HI.out.sx HA.out 49,HI.out.sx HA.out 50,HI.out.sx HA.out 51,HI.out.sx HA.out 52,HI.out.sx HA.out 53,HI.out.sx HA.out 54,HI.out.sx HA.out 55,HI.out.sx HA.out 56,HI.out.sx HA.out 57,HI.out.sx HA.out 58,HI.out.sx HA.out 59,HI.out.sx HA.out 60,HI.out.sx HA.out 61,HI.out.sx HA.out 62,HI.out.sx HA.out 63,HI.out.sx HA.out 64,HI.out.sx HA.out 65,HI.out.sx HA.out 66,HI.out.sx HA.out 67,HI.out.sx HA.out 68,HI.out.sx HA.out 69,HI.out.sx HA.out 70,HI.out.sx HA.out 71,HI.out.sx HA.out 72,trivial⟩ rfl),wy.out⟩
 rintro a' W40 ⟨rfl,z0⟩;have af:=hid z0;clear z0;simp only[aV,List.setIfInBounds_toArray,List.set_cons_zero,List.set_cons_succ];go_wp2;exact bodyPost_ret (v:=.bool true) (by simp[results,Tryz.results4,go_sem]) rfl ⟨rfl,af.out⟩
