/- texts -/
import Derived.Test.YtnpkghpfmieboaaGreatDoorMz43q
set_option maxRecDepth 100000
set_option maxHeartbeats 20000000
open Go.Lib (hid)
namespace Go.Proofs.YtnpkghpfmieboaaGreatDoor
open Go.RowKit Go.Gb
theorem gq_0:Sq (0:Rat)=⟨#[48]⟩:=by decide +kernel
theorem gq_1:Sq (1:Rat)=⟨#[49]⟩:=by decide +kernel
theorem gq_2:Sq (2:Rat)=⟨#[50]⟩:=by decide +kernel
theorem gq_3:Sq (3:Rat)=⟨#[51]⟩:=by decide +kernel
theorem gq_4:Sq (4:Rat)=⟨#[52]⟩:=by decide +kernel
theorem gq_5:Sq (5:Rat)=⟨#[53]⟩:=by decide +kernel
theorem gq_6:Sq (6:Rat)=⟨#[54]⟩:=by decide +kernel
theorem gq_7:Sq (7:Rat)=⟨#[55]⟩:=by decide +kernel
theorem gq_9:Sq (9:Rat)=⟨#[57]⟩:=by decide +kernel
theorem z4W:Sq (-1:Rat)=⟨#[45,49]⟩:=by decide +kernel
theorem z3X:Sq (-2:Rat)=⟨#[45,50]⟩:=by decide +kernel
theorem z5L:Sq (-3:Rat)=⟨#[45,51]⟩:=by decide +kernel
theorem z5M:Sq (32:Rat)=⟨#[51,50]⟩:=by decide +kernel
theorem sm20 {q:Rat}(h1:q.num.natAbs<1000)(h2:q.den<1000):SmQ 20 q:=⟨(show Sm 3 _ by unfold Sm;omega).mono (by decide),(show Sm 3 _ by unfold Sm;omega).mono (by decide)⟩
theorem fq {q:Rat}(h1:q.num.natAbs<1000)(h2:q.den<1000):FitQ q:=(sm20 h1 h2).fit (by decide)
theorem z2T (w:World)(hla:La w):CV w 12 #[.agg #[.string ⟨#[49]⟩,.string ⟨#[48]⟩,.string ⟨#[48]⟩],.agg #[.string ⟨#[48]⟩,.string ⟨#[49]⟩,.string ⟨#[48]⟩]] (.tuple #[.agg #[.string ⟨#[48]⟩,.string ⟨#[48]⟩,.string ⟨#[49]⟩],.int .i64 0]):=by
 have h:=z3E (a1:=1) (a2:=0) (a3:=0) (b1:=0) (b2:=1) (b3:=0) (c1:=0) (c2:=0) (c3:=1) (by decide +kernel) (by decide +kernel) (by decide +kernel) (sm20 (by decide +kernel) (by decide +kernel)) (sm20 (by decide +kernel) (by decide +kernel)) (sm20 (by decide +kernel) (by decide +kernel)) (sm20 (by decide +kernel) (by decide +kernel)) (sm20 (by decide +kernel) (by decide +kernel)) (sm20 (by decide +kernel) (by decide +kernel)) (by decide) w hla;rw[gq_1,gq_0]at h;exact h
theorem wO (w:World)(hla:La w):CV w 10 #[.agg #[.string ⟨#[48]⟩,.string ⟨#[48]⟩,.string ⟨#[50]⟩,.string ⟨#[50]⟩],.agg #[.string ⟨#[48]⟩,.string ⟨#[48]⟩,.string ⟨#[48]⟩],.agg #[.string ⟨#[51]⟩,.string ⟨#[48]⟩,.string ⟨#[51]⟩]] (.tuple #[.agg #[.string ⟨#[49]⟩,.string ⟨#[48]⟩,.string ⟨#[49]⟩],.int .i64 0]):=by
 have h:=uq (n1:=0) (n2:=0) (n3:=2) (c:=2) (a1:=0) (a2:=0) (a3:=0) (b1:=3) (b2:=0) (b3:=3) (f1 := -2) (f2:=4) (pt:=1/3) (k1:=1) (k2:=0) (k3:=1) (by decide +kernel) (by decide +kernel) (by decide +kernel) (by decide +kernel) (by decide +kernel) (by decide +kernel) (by decide +kernel) (by decide +kernel) (by decide +kernel) (sm20 (by decide +kernel) (by decide +kernel)) (sm20 (by decide +kernel) (by decide +kernel)) (sm20 (by decide +kernel) (by decide +kernel)) (sm20 (by decide +kernel) (by decide +kernel)) (sm20 (by decide +kernel) (by decide +kernel)) (sm20 (by decide +kernel) (by decide +kernel)) (sm20 (by decide +kernel) (by decide +kernel)) (sm20 (by decide +kernel) (by decide +kernel)) (sm20 (by decide +kernel) (by decide +kernel)) (sm20 (by decide +kernel) (by decide +kernel)) w hla;rw[gq_0,gq_1,gq_2,gq_3]at h;exact h
theorem zC (w:World)(hla:La w):CV w 8 #[.agg #[.string ⟨#[49]⟩,.string ⟨#[48]⟩,.string ⟨#[48]⟩],.agg #[.string ⟨#[48]⟩,.string ⟨#[49]⟩,.string ⟨#[48]⟩],.agg #[.string ⟨#[48]⟩,.string ⟨#[48]⟩,.string ⟨#[49]⟩]] (.tuple #[.agg #[.string ⟨#[49]⟩,.string ⟨#[49]⟩,.string ⟨#[49]⟩,.string ⟨#[49]⟩],.int .i64 0]):=by
 have h:=xZ (a1:=1) (a2:=0) (a3:=0) (b1:=0) (b2:=1) (b3:=0) (c1:=0) (c2:=0) (c3:=1) (l1 := -1) (l2:=1) (l3:=0) (m1 := -1) (m2:=0) (m3:=1) (n1:=1) (n2:=1) (n3:=1) (s:=1) (by decide +kernel) (by decide +kernel) (by decide +kernel) (by decide +kernel) (by decide +kernel) (by decide +kernel) (by decide +kernel) (by decide +kernel) (by decide +kernel) (by decide +kernel) (by decide +kernel) (sm20 (by decide +kernel) (by decide +kernel)) (sm20 (by decide +kernel) (by decide +kernel)) (sm20 (by decide +kernel) (by decide +kernel)) (sm20 (by decide +kernel) (by decide +kernel)) (sm20 (by decide +kernel) (by decide +kernel)) (sm20 (by decide +kernel) (by decide +kernel)) (sm20 (by decide +kernel) (by decide +kernel)) (sm20 (by decide +kernel) (by decide +kernel)) (sm20 (by decide +kernel) (by decide +kernel)) w hla;rw[gq_1,gq_0]at h;exact h
theorem z4q (w:World)(hla:La w):CV w 6 #[.agg #[.string ⟨#[49]⟩,.string ⟨#[49]⟩,.string ⟨#[49]⟩,.string ⟨#[49]⟩],.agg #[.string ⟨#[48]⟩,.string ⟨#[48]⟩,.string ⟨#[50]⟩]] (.tuple #[.int .i64 1,.int .i64 0]):=by
 have h:=z4P (n1:=1) (n2:=1) (n3:=1) (c:=1) (a1:=0) (a2:=0) (a3:=2) (s:=2) (g:=1) (z:=1) (by decide +kernel) (by decide +kernel) (by decide +kernel) (by decide +kernel) (sm20 (by decide +kernel) (by decide +kernel)) (sm20 (by decide +kernel) (by decide +kernel)) (sm20 (by decide +kernel) (by decide +kernel)) (sm20 (by decide +kernel) (by decide +kernel)) (sm20 (by decide +kernel) (by decide +kernel)) (sm20 (by decide +kernel) (by decide +kernel)) (by decide) (fq (by decide +kernel) (by decide +kernel)) (fq (by decide +kernel) (by decide +kernel)) (fq (by decide +kernel) (by decide +kernel)) (fq (by decide +kernel) (by decide +kernel)) w hla;rw[gq_1,gq_0,gq_2]at h;exact h
theorem z4s (w:World)(hla:La w):CV w 15 #[.agg #[.string ⟨#[49]⟩,.string ⟨#[50]⟩,.string ⟨#[51]⟩],.agg #[.string ⟨#[49]⟩,.string ⟨#[48]⟩,.string ⟨#[45,49]⟩]] (.tuple #[.string ⟨#[45,50]⟩,.int .i64 0]):=by
 have h:=z3D (a1:=1) (a2:=2) (a3:=3) (b1:=1) (b2:=0) (b3 := -1) (s := -2) (by decide +kernel) (sm20 (by decide +kernel) (by decide +kernel)) (sm20 (by decide +kernel) (by decide +kernel)) (sm20 (by decide +kernel) (by decide +kernel)) (sm20 (by decide +kernel) (by decide +kernel)) (sm20 (by decide +kernel) (by decide +kernel)) (sm20 (by decide +kernel) (by decide +kernel)) (by decide) (fq (by decide +kernel) (by decide +kernel)) w hla;rw[gq_1,gq_2,gq_3,gq_0,z4W,z3X]at h;exact h
theorem z4r (w:World)(hla:La w):CV w 15 #[.agg #[.string ⟨#[52]⟩,.string ⟨#[53]⟩,.string ⟨#[54]⟩],.agg #[.string ⟨#[49]⟩,.string ⟨#[48]⟩,.string ⟨#[45,49]⟩]] (.tuple #[.string ⟨#[45,50]⟩,.int .i64 0]):=by
 have h:=z3D (a1:=4) (a2:=5) (a3:=6) (b1:=1) (b2:=0) (b3 := -1) (s := -2) (by decide +kernel) (sm20 (by decide +kernel) (by decide +kernel)) (sm20 (by decide +kernel) (by decide +kernel)) (sm20 (by decide +kernel) (by decide +kernel)) (sm20 (by decide +kernel) (by decide +kernel)) (sm20 (by decide +kernel) (by decide +kernel)) (sm20 (by decide +kernel) (by decide +kernel)) (by decide) (fq (by decide +kernel) (by decide +kernel)) w hla;rw[gq_4,gq_5,gq_6,gq_1,gq_0,z4W,z3X]at h;exact h
theorem z5f (w:World)(hla:La w):CV w 15 #[.agg #[.string ⟨#[49]⟩,.string ⟨#[50]⟩,.string ⟨#[51]⟩],.agg #[.string ⟨#[52]⟩,.string ⟨#[53]⟩,.string ⟨#[54]⟩]] (.tuple #[.string ⟨#[51,50]⟩,.int .i64 0]):=by
 have h:=z3D (a1:=1) (a2:=2) (a3:=3) (b1:=4) (b2:=5) (b3:=6) (s:=32) (by decide +kernel) (sm20 (by decide +kernel) (by decide +kernel)) (sm20 (by decide +kernel) (by decide +kernel)) (sm20 (by decide +kernel) (by decide +kernel)) (sm20 (by decide +kernel) (by decide +kernel)) (sm20 (by decide +kernel) (by decide +kernel)) (sm20 (by decide +kernel) (by decide +kernel)) (by decide) (fq (by decide +kernel) (by decide +kernel)) w hla;rw[gq_1,gq_2,gq_3,gq_4,gq_5,gq_6,z5M]at h;exact h
theorem z5g (w:World)(hla:La w):CV w 16 #[.agg #[.string ⟨#[49]⟩,.string ⟨#[48]⟩,.string ⟨#[48]⟩],.agg #[.string ⟨#[48]⟩,.string ⟨#[49]⟩,.string ⟨#[48]⟩],.agg #[.string ⟨#[48]⟩,.string ⟨#[48]⟩,.string ⟨#[49]⟩]] (.tuple #[.string ⟨#[49]⟩,.int .i64 0]):=by
 have h:=z5t (u1:=1) (u2:=0) (u3:=0) (a1:=0) (a2:=1) (a3:=0) (b1:=0) (b2:=0) (b3:=1) (c1:=1) (c2:=0) (c3:=0) (s:=1) (by decide +kernel) (by decide +kernel) (by decide +kernel) (by decide +kernel) (sm20 (by decide +kernel) (by decide +kernel)) (sm20 (by decide +kernel) (by decide +kernel)) (sm20 (by decide +kernel) (by decide +kernel)) (sm20 (by decide +kernel) (by decide +kernel)) (sm20 (by decide +kernel) (by decide +kernel)) (sm20 (by decide +kernel) (by decide +kernel)) (sm20 (by decide +kernel) (by decide +kernel)) (sm20 (by decide +kernel) (by decide +kernel)) (sm20 (by decide +kernel) (by decide +kernel)) (sm20 (by decide +kernel) (by decide +kernel)) (sm20 (by decide +kernel) (by decide +kernel)) (sm20 (by decide +kernel) (by decide +kernel)) (by decide) (by decide) (fq (by decide +kernel) (by decide +kernel)) w hla;rw[gq_1,gq_0]at h;exact h
theorem z5h (w:World)(hla:La w):CV w 17 #[.agg #[.string ⟨#[49]⟩,.string ⟨#[50]⟩,.string ⟨#[51]⟩],.agg #[.string ⟨#[52]⟩,.string ⟨#[53]⟩,.string ⟨#[54]⟩]] (.tuple #[.agg #[.string ⟨#[53]⟩,.string ⟨#[55]⟩,.string ⟨#[57]⟩],.int .i64 0]):=by
 have h:=z5u (a1:=1) (a2:=2) (a3:=3) (b1:=4) (b2:=5) (b3:=6) (c1:=5) (c2:=7) (c3:=9) (by decide +kernel) (by decide +kernel) (by decide +kernel) (sm20 (by decide +kernel) (by decide +kernel)) (sm20 (by decide +kernel) (by decide +kernel)) (sm20 (by decide +kernel) (by decide +kernel)) (sm20 (by decide +kernel) (by decide +kernel)) (sm20 (by decide +kernel) (by decide +kernel)) (sm20 (by decide +kernel) (by decide +kernel)) (by decide) (by decide) w hla;rw[gq_1,gq_2,gq_3,gq_4,gq_5,gq_6,gq_7,gq_9]at h;exact h
theorem z5e (w:World)(hla:La w):CV w 18 #[.agg #[.string ⟨#[49]⟩,.string ⟨#[50]⟩,.string ⟨#[51]⟩],.agg #[.string ⟨#[52]⟩,.string ⟨#[53]⟩,.string ⟨#[54]⟩]] (.tuple #[.agg #[.string ⟨#[45,51]⟩,.string ⟨#[45,51]⟩,.string ⟨#[45,51]⟩],.int .i64 0]):=by
 have h:=z5s (a1:=1) (a2:=2) (a3:=3) (b1:=4) (b2:=5) (b3:=6) (c1 := -3) (c2 := -3) (c3 := -3) (by decide +kernel) (by decide +kernel) (by decide +kernel) (sm20 (by decide +kernel) (by decide +kernel)) (sm20 (by decide +kernel) (by decide +kernel)) (sm20 (by decide +kernel) (by decide +kernel)) (sm20 (by decide +kernel) (by decide +kernel)) (sm20 (by decide +kernel) (by decide +kernel)) (sm20 (by decide +kernel) (by decide +kernel)) (by decide) (by decide) w hla;rw[gq_1,gq_2,gq_3,gq_4,gq_5,gq_6,z5L]at h;exact h
theorem z2Q (w:World)(hla:La w):CV w 19 #[.agg #[.string ⟨#[49]⟩,.string ⟨#[50]⟩,.string ⟨#[51]⟩],.string ⟨#[50]⟩] (.tuple #[.agg #[.string ⟨#[50]⟩,.string ⟨#[52]⟩,.string ⟨#[54]⟩],.int .i64 0]):=by
 have h:=z3C (a1:=1) (a2:=2) (a3:=3) (x:=2) (c1:=2) (c2:=4) (c3:=6) (by decide +kernel) (by decide +kernel) (by decide +kernel) (sm20 (by decide +kernel) (by decide +kernel)) (sm20 (by decide +kernel) (by decide +kernel)) (sm20 (by decide +kernel) (by decide +kernel)) (sm20 (by decide +kernel) (by decide +kernel)) (by decide) (by decide) w hla;rw[gq_1,gq_2,gq_3,gq_4,gq_6]at h;exact h
theorem z2P (w:World)(hla:La w):CV w 20 #[.agg #[.string ⟨#[48]⟩,.string ⟨#[48]⟩,.string ⟨#[49]⟩]] (.bool true):=by
 have h:=z3B (a1:=0) (a2:=0) (a3:=1) (fq (by decide +kernel) (by decide +kernel)) (fq (by decide +kernel) (by decide +kernel)) (fq (by decide +kernel) (by decide +kernel)) w hla;rw[gq_0,gq_1]at h;exact h
theorem z2S (w:World)(hla:La w):CV w 23 #[.string ⟨#[45,50]⟩,.string ⟨#[45,50]⟩] (.int .i64 0):=by
 have h:=z3p (x := -2) (y := -2) (c:=0) (by decide +kernel) (fq (by decide +kernel) (by decide +kernel)) (fq (by decide +kernel) (by decide +kernel)) w hla;rw[z3X]at h;exact h
theorem z2R (g:Nat)(w:World)(hla:La w)(k:SBk w g #[.string ⟨#[49]⟩,.string ⟨#[50]⟩,.string ⟨#[51]⟩,.string ⟨#[52]⟩,.string ⟨#[53]⟩,.string ⟨#[54]⟩] 24):CV w 14 #[.slice (some ⟨g,0,none⟩) 2 2,.agg #[.string ⟨#[49]⟩,.string ⟨#[48]⟩,.string ⟨#[45,49]⟩]] (.tuple #[.agg #[.string ⟨#[45,50]⟩,.string ⟨#[45,50]⟩],.int .i64 0]) :=
 z3z g _ _ _ _ _ _ _ _ _ _ w (z4s w hla) (z4r w hla) (z2S w hla) k
theorem nV  (w₀:World)  (hla:La w₀) :
 CV w₀ 4 #[] (.bool true):=by
 intro w hw;have HT:=hid (hla.on hw);clear hla hw;go_enter Tryz.func4,Tryz.ntmps4
 have mi:=hid (Below.refl w.heap.size w);go_wp2_with fail
 with_reducible refine((lvec _ _ _ _).at).mono ?_
 rintro e W1 ⟨rfl,hb⟩;have l5:=hbt mi hb;clear hb;go_wp2_with fail
 with_reducible refine((lvec _ _ _ _).at).mono ?_
 rintro e W2 ⟨rfl,hb⟩;have wy:=hbt l5 hb;clear hb;go_wp2_with fail
 with_reducible refine((z2T _ (HT.o.on wy.o)).at).mono ?_
 rintro e W3 ⟨rfl,hb⟩;have wz:=hbt wy hb;clear hb;go_upto_region 2 with fail
 refine ak W3 [(#[.string ⟨#[48]⟩,.string ⟨#[48]⟩,.string ⟨#[49]⟩],24)] rfl ?_;have L1:=wz.o.size;rintro W4 ⟨k1,hb⟩;have hb:Below W3.heap.size W3 W4:=hb;have l6:=hbt wz hb;have K1:=hid k1;clear k1 hb;go_wp2_with fail
 with_reducible refine((lvec _ _ _ _).at).mono ?_
 rintro e W5 ⟨rfl,hb⟩;have K1:=hid (K1.o.below hb);have lc:=hbt l6 hb;clear hb;go_wp2_with fail
 with_reducible refine((lvec _ _ _ _).at).mono ?_
 rintro e W6 ⟨rfl,hb⟩;have K1:=hid (K1.o.below hb);have lg:=hbt lc hb;clear hb;go_wp2_with fail
 with_reducible refine((lvec _ _ _ _).at).mono ?_
 rintro e W7 ⟨rfl,hb⟩;have K1:=hid (K1.o.below hb);have si:=hbt lg hb;clear hb;go_wp2_with fail
 with_reducible refine((wO _ (HT.o.on si.o)).at).mono ?_
 rintro e W8 ⟨rfl,hb⟩;have K1:=hid (K1.o.below hb);have sj:=hbt si hb;clear hb;go_upto_region 3 with fail
 refine ak W8 [(#[.string ⟨#[49]⟩,.string ⟨#[48]⟩,.string ⟨#[49]⟩],24)] rfl ?_;have L2:=K1.o.lt;have L3:=sj.o.size;rintro W9 ⟨k2,hb⟩;have hb:Below W8.heap.size W8 W9:=hb;have K1:=hid (K1.o.below hb);have lv:=hbt sj hb;have K2:=hid k2;clear k2 hb;go_wp2_with fail
 with_reducible refine((lvec _ _ _ _).at).mono ?_
 rintro e W10 ⟨rfl,hb⟩;obtain ⟨K1,K2⟩:=aQ hb K1 K2;have kr:=hbt lv hb;clear hb;go_wp2_with fail
 with_reducible refine((lvec _ _ _ _).at).mono ?_
 rintro e W11 ⟨rfl,hb⟩;obtain ⟨K1,K2⟩:=aQ hb K1 K2;have ky:=hbt kr hb;clear hb;go_wp2_with fail
 with_reducible refine((lvec _ _ _ _).at).mono ?_
 rintro e W12 ⟨rfl,hb⟩;obtain ⟨K1,K2⟩:=aQ hb K1 K2;have sw:=hbt ky hb;clear hb;go_wp2_with fail
 with_reducible refine((zC _ (HT.o.on sw.o)).at).mono ?_
 rintro e W13 ⟨rfl,hb⟩;obtain ⟨K1,K2⟩:=aQ hb K1 K2;have r9:=hbt sw hb;clear hb;go_upto_region 4 with fail
 refine ak W13 [(#[.string ⟨#[49]⟩,.string ⟨#[49]⟩,.string ⟨#[49]⟩,.string ⟨#[49]⟩],26)] rfl ?_;have L4:=K1.o.lt;have L5:=K2.o.lt;have L6:=r9.o.size;rintro W14 ⟨k3,hb⟩;have hb:Below W13.heap.size W13 W14:=hb;obtain ⟨K1,K2⟩:=aQ hb K1 K2;have u6:=hbt r9 hb;have K3:=hid k3;clear k3 hb;go_wp2_with fail
 refine ay (fun a0 a' V=>a'=⟨aR [(43,.agg #[.string ⟨#[49]⟩,.string ⟨#[49]⟩,.string ⟨#[49]⟩,.string ⟨#[49]⟩]),(44,.agg #[.string ⟨#[48]⟩,.string ⟨#[48]⟩,.string ⟨#[50]⟩]),(45,.tuple #[.int .i64 1,.int .i64 0]),(42,.tuple #[.int .i64 1,.int .i64 0]),(46,.int .i64 1),(47,.int .i64 0),(7,.int .i64 1),(8,.int .i64 0)] a0.tmps,a0.defers⟩∧Below w.heap.size w V∧SBk V (W3.heap.size) #[.string ⟨#[48]⟩,.string ⟨#[48]⟩,.string ⟨#[49]⟩] 24∧SBk V (W8.heap.size) #[.string ⟨#[49]⟩,.string ⟨#[48]⟩,.string ⟨#[49]⟩] 24∧SBk V (W13.heap.size) #[.string ⟨#[49]⟩,.string ⟨#[49]⟩,.string ⟨#[49]⟩,.string ⟨#[49]⟩] 26) ?_ ?_
 · refine aC 8 0 [43,44,45,42,46,47,7,8] [Rel.val (.agg #[.string ⟨#[49]⟩,.string ⟨#[49]⟩,.string ⟨#[49]⟩,.string ⟨#[49]⟩]),Rel.val (.agg #[.string ⟨#[48]⟩,.string ⟨#[48]⟩,.string ⟨#[50]⟩]),Rel.val (.tuple #[.int .i64 1,.int .i64 0]),Rel.val (.tuple #[.int .i64 1,.int .i64 0]),Rel.val (.int .i64 1),Rel.val (.int .i64 0),Rel.val (.int .i64 1),Rel.val (.int .i64 0)] ?_ ?_
   · intro wu a W i HI hD Hr him
     have y5:=HI.o.rst 5 rfl;obtain ⟨kz,kK,kM,kV⟩:=bN (K3.o.below HI.o.world) rfl rfl rfl rfl;obtain⟨X0,X1,X2,X3,X4,X5⟩:=HI.o.g6 0 43 1 44 2 45 3 42 4 46 5 47
     match i,him,Hr with
     | 0,_,Hi =>
       refine av rfl fun K' hK=>?_;go_simp;exact hK.o _ _ (HI.o.pw Hi.o)
     | 1,_,Hi =>
       refine av rfl fun K' hK=>?_;go_simp;with_reducible refine((lvec _ _ _ _).at).mono ?_
       rintro e W' ⟨rfl,hb⟩;exact hK.o _ _ ⟨HI.o.pc Hi.o hb rfl,trivial⟩
     | 2,_,Hi =>
       have x0:=X0.q Hi.o;have x1:=X1.q Hi.o;refine av rfl fun K' hK=>?_;go_simp;with_reducible refine((z4q _ (HT.o.on (u6.o.trans (HI.o.world.mono u6.o.size)))).at).mono ?_
       rintro e W' ⟨rfl,hb⟩;exact hK.o _ _ ⟨HI.o.pc Hi.o hb rfl,trivial⟩
     | 3,_,Hi|4,_,Hi|5,_,Hi|6,_,Hi|7,_,Hi =>
       try have x2:=X2.t Hi.o
       try have x3:=X3.t Hi.o
       try have x4:=X4.t Hi.o
       try have x5:=X5.t Hi.o
       refine av rfl fun K' hK=>?_;go_simp;exact hK.o _ _ (HI.o.pw Hi.o)
     | n+8,h,_=>exact absurd h (by omega)
   · intro wu a W HI hD HA
     have w9:=hid HI.o.world;obtain ⟨K1,K2,K3⟩:=bL w9.o K1 K2 K3;have ww:=Lib.hid (u6.o.trans (w9.o.mono u6.o.size));refine aO ?_;exact⟨rfl,(HI.o.finx ⟨HI.o.sx HA.o 0,HI.o.sx HA.o 1,HI.o.sx HA.o 2,HI.o.sx HA.o 3,HI.o.sx HA.o 4,HI.o.sx HA.o 5,HI.o.sx HA.o 6,HI.o.sx HA.o 7,trivial⟩ rfl),ww.o,K1.o,K2.o,K3.o⟩
 rintro a' W15 ⟨rfl,z0,z1,z2,z3⟩;obtain ⟨gy,K1,K2,K3⟩:=aL z0 z1 z2 z3;clear z0 z1 z2 z3;simp only[aR,List.setIfInBounds_toArray,List.set_cons_zero,List.set_cons_succ];go_wp2_with fail
 with_reducible refine((lvec _ _ _ _).at).mono ?_
 rintro e W16 ⟨rfl,hb⟩;obtain ⟨K1,K2,K3⟩:=bL hb K1 K2 K3;have fw:=hbt gy hb;clear hb;go_wp2_with fail
 with_reducible refine((lvec _ _ _ _).at).mono ?_
 rintro e W17 ⟨rfl,hb⟩;obtain ⟨K1,K2,K3⟩:=bL hb K1 K2 K3;have fQ:=hbt fw hb;clear hb;go_wp2_with fail
 have hb:=jH W17 (.cells #[.string ⟨#[49]⟩,.string ⟨#[50]⟩,.string ⟨#[51]⟩,.string ⟨#[52]⟩,.string ⟨#[53]⟩,.string ⟨#[54]⟩] 24);have k4:=SBk.new W17 #[.string ⟨#[49]⟩,.string ⟨#[50]⟩,.string ⟨#[51]⟩,.string ⟨#[52]⟩,.string ⟨#[53]⟩,.string ⟨#[54]⟩] 24;generalize W17.alloc (.cells #[.string ⟨#[49]⟩,.string ⟨#[50]⟩,.string ⟨#[51]⟩,.string ⟨#[52]⟩,.string ⟨#[53]⟩,.string ⟨#[54]⟩] 24)=W18 at *;obtain ⟨K1,K2,K3⟩:=bL hb K1 K2 K3;have ed:=hbt fQ hb;have K4:=hid k4;clear k4 hb;with_reducible refine((lvec _ _ _ _).at).mono ?_
 rintro e W19 ⟨rfl,hb⟩;obtain ⟨K1,K2,K3,K4⟩:=aW hb K1 K2 K3 K4;have rf:=hbt ed hb;clear hb;go_wp2_with fail
 with_reducible refine((z2R _ _ (HT.o.on rf.o) K4.o).at).mono ?_
 rintro e W20 ⟨rfl,hb⟩;obtain ⟨K1,K2,K3,K4⟩:=aW hb K1 K2 K3 K4;have rM:=hbt rf hb;clear hb;go_upto_region 6 with fail
 refine ak W20 [(#[.string ⟨#[45,50]⟩,.string ⟨#[45,50]⟩],40)] rfl ?_;have L7:=K1.o.lt;have L8:=K2.o.lt;have L9:=K3.o.lt;have L10:=K4.o.lt;have L11:=rM.o.size;rintro W21 ⟨k5,hb⟩;have hb:Below W20.heap.size W20 W21:=hb;obtain ⟨K1,K2,K3,K4⟩:=aW hb K1 K2 K3 K4;have d9:=hbt rM hb;have K5:=hid k5;clear k5 hb;go_wp2_with fail
 with_reducible refine((lvec _ _ _ _).at).mono ?_
 rintro e W22 ⟨rfl,hb⟩;obtain ⟨K1,K2,K3,K4,K5⟩:=bG hb K1 K2 K3 K4 K5;have dn:=hbt d9 hb;clear hb;go_wp2_with fail
 with_reducible refine((lvec _ _ _ _).at).mono ?_
 rintro e W23 ⟨rfl,hb⟩;obtain ⟨K1,K2,K3,K4,K5⟩:=bG hb K1 K2 K3 K4 K5;have rV:=hbt dn hb;clear hb;go_wp2_with fail
 with_reducible refine((z5f _ (HT.o.on rV.o)).at).mono ?_
 rintro e W24 ⟨rfl,hb⟩;obtain ⟨K1,K2,K3,K4,K5⟩:=bG hb K1 K2 K3 K4 K5;have dx:=hbt rV hb;clear hb;go_wp2_with fail
 with_reducible refine((lvec _ _ _ _).at).mono ?_
 rintro e W25 ⟨rfl,hb⟩;obtain ⟨K1,K2,K3,K4,K5⟩:=bG hb K1 K2 K3 K4 K5;have dz:=hbt dx hb;clear hb;go_wp2_with fail
 with_reducible refine((lvec _ _ _ _).at).mono ?_
 rintro e W26 ⟨rfl,hb⟩;obtain ⟨K1,K2,K3,K4,K5⟩:=bG hb K1 K2 K3 K4 K5;have dX:=hbt dz hb;clear hb;go_wp2_with fail
 with_reducible refine((lvec _ _ _ _).at).mono ?_
 rintro e W27 ⟨rfl,hb⟩;obtain ⟨K1,K2,K3,K4,K5⟩:=bG hb K1 K2 K3 K4 K5;have p8:=hbt dX hb;clear hb;go_wp2_with fail
 with_reducible refine((z5g _ (HT.o.on p8.o)).at).mono ?_
 rintro e W28 ⟨rfl,hb⟩;obtain ⟨K1,K2,K3,K4,K5⟩:=bG hb K1 K2 K3 K4 K5;have dY:=hbt p8 hb;clear hb;go_wp2_with fail
 with_reducible refine((lvec _ _ _ _).at).mono ?_
 rintro e W29 ⟨rfl,hb⟩;obtain ⟨K1,K2,K3,K4,K5⟩:=bG hb K1 K2 K3 K4 K5;have cO:=hbt dY hb;clear hb;go_wp2_with fail
 with_reducible refine((lvec _ _ _ _).at).mono ?_
 rintro e W30 ⟨rfl,hb⟩;obtain ⟨K1,K2,K3,K4,K5⟩:=bG hb K1 K2 K3 K4 K5;have pq:=hbt cO hb;clear hb;go_wp2_with fail
 with_reducible refine((z5h _ (HT.o.on pq.o)).at).mono ?_
 rintro e W31 ⟨rfl,hb⟩;obtain ⟨K1,K2,K3,K4,K5⟩:=bG hb K1 K2 K3 K4 K5;have ol:=hbt pq hb;clear hb;go_upto_region 9 with fail
 refine ak W31 [(#[.string ⟨#[53]⟩,.string ⟨#[55]⟩,.string ⟨#[57]⟩],24)] rfl ?_;have L12:=K1.o.lt;have L13:=K2.o.lt;have L14:=K3.o.lt;have L15:=K4.o.lt;have L16:=K5.o.lt;have L17:=ol.o.size;rintro W32 ⟨k6,hb⟩;have hb:Below W31.heap.size W31 W32:=hb;obtain ⟨K1,K2,K3,K4,K5⟩:=bG hb K1 K2 K3 K4 K5;have bg:=hbt ol hb;have K6:=hid k6;clear k6 hb;go_wp2_with fail
 with_reducible refine((lvec _ _ _ _).at).mono ?_
 rintro e W33 ⟨rfl,hb⟩;obtain ⟨K1,K2,K3,K4,K5,K6⟩:=cu hb K1 K2 K3 K4 K5 K6;have bn:=hbt bg hb;clear hb;go_wp2_with fail
 with_reducible refine((lvec _ _ _ _).at).mono ?_
 rintro e W34 ⟨rfl,hb⟩;obtain ⟨K1,K2,K3,K4,K5,K6⟩:=cu hb K1 K2 K3 K4 K5 K6;have oM:=hbt bn hb;clear hb;go_wp2_with fail
 with_reducible refine((z5e _ (HT.o.on oM.o)).at).mono ?_
 rintro e W35 ⟨rfl,hb⟩;obtain ⟨K1,K2,K3,K4,K5,K6⟩:=cu hb K1 K2 K3 K4 K5 K6;have oV:=hbt oM hb;clear hb;go_upto_region 10 with fail
 refine ak W35 [(#[.string ⟨#[45,51]⟩,.string ⟨#[45,51]⟩,.string ⟨#[45,51]⟩],24)] rfl ?_;have L18:=K1.o.lt;have L19:=K2.o.lt;have L20:=K3.o.lt;have L21:=K4.o.lt;have L22:=K5.o.lt;have L23:=K6.o.lt;have L24:=oV.o.size;rintro W36 ⟨k7,hb⟩;have hb:Below W35.heap.size W35 W36:=hb;obtain ⟨K1,K2,K3,K4,K5,K6⟩:=cu hb K1 K2 K3 K4 K5 K6;have bq:=hbt oV hb;have K7:=hid k7;clear k7 hb;go_wp2_with fail
 with_reducible refine((lvec _ _ _ _).at).mono ?_
 rintro e W37 ⟨rfl,hb⟩;obtain ⟨K1,K2,K3,K4,K5,K6,K7⟩:=fG hb K1 K2 K3 K4 K5 K6 K7;have ma:=hbt bq hb;clear hb;go_wp2_with fail
 with_reducible refine((z2Q _ (HT.o.on ma.o)).at).mono ?_
 rintro e W38 ⟨rfl,hb⟩;obtain ⟨K1,K2,K3,K4,K5,K6,K7⟩:=fG hb K1 K2 K3 K4 K5 K6 K7;have mf:=hbt ma hb;clear hb;go_upto_region 11 with fail
 refine ak W38 [(#[.string ⟨#[50]⟩,.string ⟨#[52]⟩,.string ⟨#[54]⟩],24)] rfl ?_;have L25:=K1.o.lt;have L26:=K2.o.lt;have L27:=K3.o.lt;have L28:=K4.o.lt;have L29:=K5.o.lt;have L30:=K6.o.lt;have L31:=K7.o.lt;have L32:=mf.o.size;rintro W39 ⟨k8,hb⟩;have hb:Below W38.heap.size W38 W39:=hb;obtain ⟨K1,K2,K3,K5,K6,K7⟩:=cu hb K1 K2 K3 K5 K6 K7;have wo:=hbt mf hb;have K8:=hid k8;clear k8 hb;go_wp2_with fail
 simp only[List.append];refine ay (fun a0 a' V=>a'=⟨aR [(86,.int .i64 0),(87,.int .i64 0),(88,.int .i64 0),(89,.int .i64 0),(90,.int .i64 0),(91,.int .i64 0),(92,.int .i64 0),(93,.int .i64 0),(94,.int .i64 0),(95,.int .i64 0),(96,.int .i64 0),(97,.int .i64 0),(98,.int .i64 0),(99,.int .i64 0),(100,.int .i64 0),(101,.int .i64 0),(102,.int .i64 0),(103,.int .i64 0),(104,.int .i64 0),(105,.bool true),(106,.bool true),(107,.agg #[.string ⟨#[48]⟩,.string ⟨#[48]⟩,.string ⟨#[49]⟩]),(108,.agg #[.string ⟨#[48]⟩,.string ⟨#[48]⟩,.string ⟨#[49]⟩]),(109,.bool true),(110,.bool true),(111,.bool true),(112,.agg #[.string ⟨#[49]⟩,.string ⟨#[48]⟩,.string ⟨#[49]⟩]),(113,.agg #[.string ⟨#[49]⟩,.string ⟨#[48]⟩,.string ⟨#[49]⟩]),(114,.bool true),(115,.bool true),(116,.bool true),(117,.agg #[.string ⟨#[49]⟩,.string ⟨#[49]⟩,.string ⟨#[49]⟩,.string ⟨#[49]⟩]),(118,.agg #[.string ⟨#[49]⟩,.string ⟨#[49]⟩,.string ⟨#[49]⟩]),(119,.agg #[.string ⟨#[49]⟩,.string ⟨#[49]⟩,.string ⟨#[49]⟩,.string ⟨#[49]⟩]),(120,.bool true),(121,.bool true),(122,.bool true),(123,.int .i64 1),(124,.bool true),(125,.bool true),(126,.bool true),(127,.agg #[.string ⟨#[45,50]⟩,.string ⟨#[45,50]⟩]),(128,.agg #[.string ⟨#[45,50]⟩,.string ⟨#[45,50]⟩]),(129,.bool true),(130,.bool true),(131,.bool true),(132,.string ⟨#[51,50]⟩),(133,.bool true),(134,.bool true),(135,.bool true),(136,.string ⟨#[49]⟩),(137,.bool true),(138,.bool true),(139,.bool true),(140,.agg #[.string ⟨#[53]⟩,.string ⟨#[55]⟩,.string ⟨#[57]⟩]),(141,.agg #[.string ⟨#[53]⟩,.string ⟨#[55]⟩,.string ⟨#[57]⟩]),(142,.bool true),(143,.bool true),(144,.bool true),(145,.agg #[.string ⟨#[45,51]⟩,.string ⟨#[45,51]⟩,.string ⟨#[45,51]⟩]),(146,.agg #[.string ⟨#[45,51]⟩,.string ⟨#[45,51]⟩,.string ⟨#[45,51]⟩]),(147,.bool true),(148,.bool true),(149,.bool true),(150,.agg #[.string ⟨#[50]⟩,.string ⟨#[52]⟩,.string ⟨#[54]⟩]),(151,.agg #[.string ⟨#[50]⟩,.string ⟨#[52]⟩,.string ⟨#[54]⟩]),(152,.bool true),(153,.bool true),(154,.bool true),(155,.agg #[.string ⟨#[48]⟩,.string ⟨#[48]⟩,.string ⟨#[49]⟩]),(156,.bool true),(157,.bool true),(0,.bool true)] a0.tmps,a0.defers⟩∧Below w.heap.size w V) ?_ ?_
 · refine aC 73 0 [86,87,88,89,90,91,92,93,94,95,96,97,98,99,100,101,102,103,104,105,106,107,108,109,110,111,112,113,114,115,116,117,118,119,120,121,122,123,124,125,126,127,128,129,130,131,132,133,134,135,136,137,138,139,140,141,142,143,144,145,146,147,148,149,150,151,152,153,154,155,156,157,0] [Rel.val (.int .i64 0),Rel.val (.int .i64 0),Rel.val (.int .i64 0),Rel.val (.int .i64 0),Rel.val (.int .i64 0),Rel.val (.int .i64 0),Rel.val (.int .i64 0),Rel.val (.int .i64 0),Rel.val (.int .i64 0),Rel.val (.int .i64 0),Rel.val (.int .i64 0),Rel.val (.int .i64 0),Rel.val (.int .i64 0),Rel.val (.int .i64 0),Rel.val (.int .i64 0),Rel.val (.int .i64 0),Rel.val (.int .i64 0),Rel.val (.int .i64 0),Rel.val (.int .i64 0),Rel.val (.bool true),Rel.val (.bool true),Rel.val (.agg #[.string ⟨#[48]⟩,.string ⟨#[48]⟩,.string ⟨#[49]⟩]),Rel.val (.agg #[.string ⟨#[48]⟩,.string ⟨#[48]⟩,.string ⟨#[49]⟩]),Rel.val (.bool true),Rel.val (.bool true),Rel.val (.bool true),Rel.val (.agg #[.string ⟨#[49]⟩,.string ⟨#[48]⟩,.string ⟨#[49]⟩]),Rel.val (.agg #[.string ⟨#[49]⟩,.string ⟨#[48]⟩,.string ⟨#[49]⟩]),Rel.val (.bool true),Rel.val (.bool true),Rel.val (.bool true),Rel.val (.agg #[.string ⟨#[49]⟩,.string ⟨#[49]⟩,.string ⟨#[49]⟩,.string ⟨#[49]⟩]),Rel.val (.agg #[.string ⟨#[49]⟩,.string ⟨#[49]⟩,.string ⟨#[49]⟩]),Rel.val (.agg #[.string ⟨#[49]⟩,.string ⟨#[49]⟩,.string ⟨#[49]⟩,.string ⟨#[49]⟩]),Rel.val (.bool true),Rel.val (.bool true),Rel.val (.bool true),Rel.val (.int .i64 1),Rel.val (.bool true),Rel.val (.bool true),Rel.val (.bool true),Rel.val (.agg #[.string ⟨#[45,50]⟩,.string ⟨#[45,50]⟩]),Rel.val (.agg #[.string ⟨#[45,50]⟩,.string ⟨#[45,50]⟩]),Rel.val (.bool true),Rel.val (.bool true),Rel.val (.bool true),Rel.val (.string ⟨#[51,50]⟩),Rel.val (.bool true),Rel.val (.bool true),Rel.val (.bool true),Rel.val (.string ⟨#[49]⟩),Rel.val (.bool true),Rel.val (.bool true),Rel.val (.bool true),Rel.val (.agg #[.string ⟨#[53]⟩,.string ⟨#[55]⟩,.string ⟨#[57]⟩]),Rel.val (.agg #[.string ⟨#[53]⟩,.string ⟨#[55]⟩,.string ⟨#[57]⟩]),Rel.val (.bool true),Rel.val (.bool true),Rel.val (.bool true),Rel.val (.agg #[.string ⟨#[45,51]⟩,.string ⟨#[45,51]⟩,.string ⟨#[45,51]⟩]),Rel.val (.agg #[.string ⟨#[45,51]⟩,.string ⟨#[45,51]⟩,.string ⟨#[45,51]⟩]),Rel.val (.bool true),Rel.val (.bool true),Rel.val (.bool true),Rel.val (.agg #[.string ⟨#[50]⟩,.string ⟨#[52]⟩,.string ⟨#[54]⟩]),Rel.val (.agg #[.string ⟨#[50]⟩,.string ⟨#[52]⟩,.string ⟨#[54]⟩]),Rel.val (.bool true),Rel.val (.bool true),Rel.val (.bool true),Rel.val (.agg #[.string ⟨#[48]⟩,.string ⟨#[48]⟩,.string ⟨#[49]⟩]),Rel.val (.bool true),Rel.val (.bool true),Rel.val (.bool true)] ?_ ?_
   · intro wu a W i HI hD Hr him
     obtain⟨y2,y4,y6,y8,y10,y12⟩:=HI.o.s6 2 4 6 8 10 12;obtain⟨y14,y16,y18,y20,y1,y3⟩:=HI.o.s6 14 16 18 20 1 3;obtain⟨y5,y7,y9,y11,y13,y15⟩:=HI.o.s6 5 7 9 11 13 15;obtain⟨y17,y19⟩:=HI.o.s2 17 19;obtain ⟨bv,bz,bM⟩:=ah (K1.o.below HI.o.world) rfl rfl rfl;obtain ⟨bV,af,u00⟩:=ah (K2.o.below HI.o.world) rfl rfl rfl;obtain ⟨kz,kK,kM,kV⟩:=bN (K3.o.below HI.o.world) rfl rfl rfl rfl;obtain ⟨u01,u02⟩:=bH (K5.o.below HI.o.world) rfl rfl;obtain ⟨u03,u04,u05⟩:=ah (K6.o.below HI.o.world) rfl rfl rfl;obtain ⟨u06,u07,u08⟩:=ah (K7.o.below HI.o.world) rfl rfl rfl;obtain ⟨u09,u0a,u0b⟩:=ah (K8.o.below HI.o.world) rfl rfl rfl;obtain⟨X0,X1,X2,X3,X4,X5⟩:=HI.o.g6 0 86 1 87 2 88 3 89 4 90 5 91;obtain⟨X6,X7,X8,X9,X10,X11⟩:=HI.o.g6 6 92 7 93 8 94 9 95 10 96 11 97;obtain⟨X12,X13,X14,X15,X16,X17⟩:=HI.o.g6 12 98 13 99 14 100 15 101 16 102 17 103;obtain⟨X18,X19,X20,X21,X22,X23⟩:=HI.o.g6 18 104 19 105 20 106 21 107 22 108 23 109;obtain⟨X24,X25,X26,X27,X28,X29⟩:=HI.o.g6 24 110 25 111 26 112 27 113 28 114 29 115;obtain⟨X30,X32,X31,X33,X34,X35⟩:=HI.o.g6 30 116 32 118 31 117 33 119 34 120 35 121;obtain⟨X36,X37,X38,X39,X40,X41⟩:=HI.o.g6 36 122 37 123 38 124 39 125 40 126 41 127;obtain⟨X42,X43,X44,X45,X46,X47⟩:=HI.o.g6 42 128 43 129 44 130 45 131 46 132 47 133;obtain⟨X48,X49,X50,X51,X52,X53⟩:=HI.o.g6 48 134 49 135 50 136 51 137 52 138 53 139;obtain⟨X54,X55,X56,X57,X58,X59⟩:=HI.o.g6 54 140 55 141 56 142 57 143 58 144 59 145;obtain⟨X60,X61,X62,X63,X64,X65⟩:=HI.o.g6 60 146 61 147 62 148 63 149 64 150 65 151;obtain⟨X66,X67,X68,X69,X70,X71⟩:=HI.o.g6 66 152 67 153 68 154 69 155 70 156 71 157
     match i,him,Hr with
     | 0,_,Hi|1,_,Hi|2,_,Hi|3,_,Hi|4,_,Hi|5,_,Hi|6,_,Hi|7,_,Hi =>
       try have x0:=X0.t Hi.o
       try have x1:=X1.t Hi.o
       try have x2:=X2.t Hi.o
       try have x3:=X3.t Hi.o
       try have x4:=X4.t Hi.o
       try have x5:=X5.t Hi.o
       refine av rfl fun K' hK=>?_;go_simp;exact hK.o _ _ (HI.o.pw Hi.o)
     | 8,_,Hi|9,_,Hi|10,_,Hi|11,_,Hi|12,_,Hi|13,_,Hi|14,_,Hi|15,_,Hi =>
       try have x6:=X6.t Hi.o
       try have x7:=X7.t Hi.o
       try have x8:=X8.t Hi.o
       try have x9:=X9.t Hi.o
       try have x10:=X10.t Hi.o
       try have x11:=X11.t Hi.o
       try have x12:=X12.t Hi.o
       try have x13:=X13.t Hi.o
       refine av rfl fun K' hK=>?_;go_simp;exact hK.o _ _ (HI.o.pw Hi.o)
     | 16,_,Hi|17,_,Hi|18,_,Hi|19,_,Hi|20,_,Hi|21,_,Hi =>
       try have x14:=X14.t Hi.o
       try have x15:=X15.t Hi.o
       try have x16:=X16.t Hi.o
       try have x17:=X17.t Hi.o
       try have x18:=X18.t Hi.o
       try have x19:=X19.t Hi.o
       try have x20:=X20.t Hi.o
       refine av rfl fun K' hK=>?_;go_simp;exact hK.o _ _ (HI.o.pw Hi.o)
     | 22,_,Hi =>
       have x20:=X20.q Hi.o;refine av rfl fun K' hK=>?_;go_simp;with_reducible refine((lvec _ _ _ _).at).mono ?_
       rintro e W' ⟨rfl,hb⟩;exact hK.o _ _ ⟨HI.o.pc Hi.o hb rfl,trivial⟩
     | 23,_,Hi|24,_,Hi|25,_,Hi|26,_,Hi =>
       try have x21:=X21.t Hi.o
       try have x22:=X22.t Hi.o
       try have x20:=X20.t Hi.o
       try have x23:=X23.t Hi.o
       try have x24:=X24.t Hi.o
       try have x25:=X25.t Hi.o
       refine av rfl fun K' hK=>?_;go_simp;exact hK.o _ _ (HI.o.pw Hi.o)
     | 27,_,Hi =>
       have x25:=X25.q Hi.o;refine av rfl fun K' hK=>?_;go_simp;with_reducible refine((lvec _ _ _ _).at).mono ?_
       rintro e W' ⟨rfl,hb⟩;exact hK.o _ _ ⟨HI.o.pc Hi.o hb rfl,trivial⟩
     | 28,_,Hi|29,_,Hi|30,_,Hi|31,_,Hi =>
       try have x26:=X26.t Hi.o
       try have x27:=X27.t Hi.o
       try have x25:=X25.t Hi.o
       try have x28:=X28.t Hi.o
       try have x29:=X29.t Hi.o
       try have x30:=X30.t Hi.o
       refine av rfl fun K' hK=>?_;go_simp;exact hK.o _ _ (HI.o.pw Hi.o)
     | 32,_,Hi =>
       have x30:=X30.q Hi.o;refine av rfl fun K' hK=>?_;go_simp;with_reducible refine((lvec _ _ _ _).at).mono ?_
       rintro e W' ⟨rfl,hb⟩;exact hK.o _ _ ⟨HI.o.pc Hi.o hb rfl,trivial⟩
     | 33,_,Hi|34,_,Hi|35,_,Hi|36,_,Hi|37,_,Hi|38,_,Hi =>
       try have x32:=X32.t Hi.o
       try have x30:=X30.t Hi.o
       try have x31:=X31.t Hi.o
       try have x33:=X33.t Hi.o
       try have x34:=X34.t Hi.o
       try have x35:=X35.t Hi.o
       try have x36:=X36.t Hi.o
       try have x37:=X37.t Hi.o
       refine av rfl fun K' hK=>?_;go_simp;exact hK.o _ _ (HI.o.pw Hi.o)
     | 39,_,Hi|40,_,Hi|41,_,Hi|42,_,Hi|43,_,Hi|44,_,Hi|45,_,Hi =>
       try have x36:=X36.t Hi.o
       try have x38:=X38.t Hi.o
       try have x39:=X39.t Hi.o
       try have x40:=X40.t Hi.o
       try have x41:=X41.t Hi.o
       try have x42:=X42.t Hi.o
       try have x43:=X43.t Hi.o
       try have x44:=X44.t Hi.o
       refine av rfl fun K' hK=>?_;go_simp;exact hK.o _ _ (HI.o.pw Hi.o)
     | 46,_,Hi|47,_,Hi|48,_,Hi|49,_,Hi|50,_,Hi|51,_,Hi|52,_,Hi|53,_,Hi =>
       try have x45:=X45.t Hi.o
       try have x46:=X46.t Hi.o
       try have x47:=X47.t Hi.o
       try have x48:=X48.t Hi.o
       try have x49:=X49.t Hi.o
       try have x50:=X50.t Hi.o
       try have x51:=X51.t Hi.o
       try have x52:=X52.t Hi.o
       refine av rfl fun K' hK=>?_;go_simp;exact hK.o _ _ (HI.o.pw Hi.o)
     | 54,_,Hi =>
       have x53:=X53.q Hi.o;refine av rfl fun K' hK=>?_;go_simp;exact hK.o _ _ (HI.o.pw Hi.o)
     | 55,_,Hi =>
       have x53:=X53.q Hi.o;refine av rfl fun K' hK=>?_;go_simp;with_reducible refine((lvec _ _ _ _).at).mono ?_
       rintro e W' ⟨rfl,hb⟩;exact hK.o _ _ ⟨HI.o.pc Hi.o hb rfl,trivial⟩
     | 56,_,Hi|57,_,Hi|58,_,Hi|59,_,Hi =>
       try have x54:=X54.t Hi.o
       try have x55:=X55.t Hi.o
       try have x53:=X53.t Hi.o
       try have x56:=X56.t Hi.o
       try have x57:=X57.t Hi.o
       try have x58:=X58.t Hi.o
       refine av rfl fun K' hK=>?_;go_simp;exact hK.o _ _ (HI.o.pw Hi.o)
     | 60,_,Hi =>
       have x58:=X58.q Hi.o;refine av rfl fun K' hK=>?_;go_simp;with_reducible refine((lvec _ _ _ _).at).mono ?_
       rintro e W' ⟨rfl,hb⟩;exact hK.o _ _ ⟨HI.o.pc Hi.o hb rfl,trivial⟩
     | 61,_,Hi|62,_,Hi|63,_,Hi|64,_,Hi =>
       try have x59:=X59.t Hi.o
       try have x60:=X60.t Hi.o
       try have x58:=X58.t Hi.o
       try have x61:=X61.t Hi.o
       try have x62:=X62.t Hi.o
       try have x63:=X63.t Hi.o
       refine av rfl fun K' hK=>?_;go_simp;exact hK.o _ _ (HI.o.pw Hi.o)
     | 65,_,Hi =>
       have x63:=X63.q Hi.o;refine av rfl fun K' hK=>?_;go_simp;with_reducible refine((lvec _ _ _ _).at).mono ?_
       rintro e W' ⟨rfl,hb⟩;exact hK.o _ _ ⟨HI.o.pc Hi.o hb rfl,trivial⟩
     | 66,_,Hi|67,_,Hi|68,_,Hi|69,_,Hi =>
       try have x64:=X64.t Hi.o
       try have x65:=X65.t Hi.o
       try have x63:=X63.t Hi.o
       try have x66:=X66.t Hi.o
       try have x67:=X67.t Hi.o
       try have x68:=X68.t Hi.o
       refine av rfl fun K' hK=>?_;go_simp;exact hK.o _ _ (HI.o.pw Hi.o)
     | 70,_,Hi =>
       have x69:=X69.q Hi.o;have x68:=X68.q Hi.o;refine av rfl fun K' hK=>?_;go_simp;with_reducible refine((z2P _ (HT.o.on (wo.o.trans (HI.o.world.mono wo.o.size)))).at).mono ?_
       rintro e W' ⟨rfl,hb⟩;exact hK.o _ _ ⟨HI.o.pc Hi.o hb rfl,trivial⟩
     | 71,_,Hi|72,_,Hi =>
       try have x68:=X68.t Hi.o
       try have x70:=X70.t Hi.o
       try have x71:=X71.t Hi.o
       refine av rfl fun K' hK=>?_;go_simp;exact hK.o _ _ (HI.o.pw Hi.o)
     | n+73,h,_=>exact absurd h (by omega)
   · intro wu a W HI hD HA
     have w9:=hid HI.o.world;have ww:=hid (wo.o.trans (w9.o.mono wo.o.size));refine aO ?_;exact⟨rfl,(HI.o.finx ⟨HI.o.sx HA.o 0,HI.o.sx HA.o 1,HI.o.sx HA.o 2,HI.o.sx HA.o 3,HI.o.sx HA.o 4,HI.o.sx HA.o 5,HI.o.sx HA.o 6,HI.o.sx HA.o 7,HI.o.sx HA.o 8,HI.o.sx HA.o 9,HI.o.sx HA.o 10,HI.o.sx HA.o 11,HI.o.sx HA.o 12,HI.o.sx HA.o 13,HI.o.sx HA.o 14,HI.o.sx HA.o 15,HI.o.sx HA.o 16,HI.o.sx HA.o 17,HI.o.sx HA.o 18,HI.o.sx HA.o 19,HI.o.sx HA.o 20,HI.o.sx HA.o 21,HI.o.sx HA.o 22,HI.o.sx HA.o 23,HI.o.sx HA.o 24,HI.o.sx HA.o 25,HI.o.sx HA.o 26,HI.o.sx HA.o 27,HI.o.sx HA.o 28,HI.o.sx HA.o 29,HI.o.sx HA.o 30,HI.o.sx HA.o 31,HI.o.sx HA.o 32,HI.o.sx HA.o 33,HI.o.sx HA.o 34,HI.o.sx HA.o 35,HI.o.sx HA.o 36,HI.o.sx HA.o 37,HI.o.sx HA.o 38,HI.o.sx HA.o 39,HI.o.sx HA.o 40,HI.o.sx HA.o 41,HI.o.sx HA.o 42,HI.o.sx HA.o 43,HI.o.sx HA.o 44,HI.o.sx HA.o 45,HI.o.sx HA.o 46,HI.o.sx HA.o 47,HI.o.sx HA.o 48,HI.o.sx HA.o 49,HI.o.sx HA.o 50,HI.o.sx HA.o 51,HI.o.sx HA.o 52,HI.o.sx HA.o 53,HI.o.sx HA.o 54,HI.o.sx HA.o 55,HI.o.sx HA.o 56,HI.o.sx HA.o 57,HI.o.sx HA.o 58,HI.o.sx HA.o 59,HI.o.sx HA.o 60,HI.o.sx HA.o 61,HI.o.sx HA.o 62,HI.o.sx HA.o 63,HI.o.sx HA.o 64,HI.o.sx HA.o 65,HI.o.sx HA.o 66,HI.o.sx HA.o 67,HI.o.sx HA.o 68,HI.o.sx HA.o 69,HI.o.sx HA.o 70,HI.o.sx HA.o 71,HI.o.sx HA.o 72,trivial⟩ rfl),ww.o⟩
 rintro a' W40 ⟨rfl,z0⟩;have bu:=hid z0;clear z0;simp only[aR,List.setIfInBounds_toArray,List.set_cons_zero,List.set_cons_succ];go_wp2;exact bodyPost_ret (v:=.bool true) (by simp[results,Tryz.results4,go_sem]) rfl ⟨rfl,bu.o⟩
