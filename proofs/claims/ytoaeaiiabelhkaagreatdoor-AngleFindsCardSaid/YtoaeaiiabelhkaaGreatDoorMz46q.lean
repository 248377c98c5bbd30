/- texts -/
import Derived.Test.YtoaeaiiabelhkaaGreatDoorYfa
open Go.Proofs.Tryz
set_option maxRecDepth 100000
set_option maxHeartbeats 20000000
open Go.Lib (hid)
namespace Go.Proofs.YtoaeaiiabelhkaaGreatDoor
open Go.RowKit Go.Gb
set_option linter.unusedSimpArgs false
set_option linter.unusedVariables false
theorem z4L (x y s h z:Rat)(q1:QS)(q2:QS)(w:World)  (h1:KQ2 57 x y s)(h2:KS2 58 (.int .i64 1) (.int .i64 2) h)(h3:KQ2 56 s h z)(r1:FQ w q1 x)(r2:FQ w q2 y) :
 Calls Tryz.prog 25 #[(QS.v q1),(QS.v q2)] w (RQ w z):=by
 dsimp only[QS.v];obtain ⟨C1,C2,C3,R1,R2⟩:=bz h1 h2 h3 r1 r2;clear h1 h2 h3 r1 r2;go_enter func25,ntmps25
 go_upto_region 1 with fail
 refine av w [(q1.l.toArray,49),(q2.l.toArray,49),(#[.bool false,.slice none 0 0,.slice none 0 0],49)] rfl ?_;rintro W0 ⟨k1,k2,k3,hb⟩;have wo:=hid (show Below w.heap.size w W0 from hb);obtain ⟨R1,R2⟩:=aK wo.o R1 R2;obtain ⟨K1,K2,K3⟩:=ak k1 k2 k3;clear k1 k2 k3 hb;obtain ⟨sw,rM,bg⟩:=aA K1.o rfl rfl rfl;obtain ⟨gy,fq,fQ⟩:=aA K2.o rfl rfl rfl;go_wp2_with fail
 with_reducible refine(C1.o _ _ _ R1.o R2.o).mono ?_
 rintro e W1 ⟨q_1,rfl,ww,hb⟩;clear sw rM bg gy fq fQ;have K3:=hid (K3.o.below hb);have wm:=hbt wo hb;have RS:=hid ww;clear hb ww;go_wp2_with fail
 with_reducible refine(C2.o _).mono ?_
 rintro e W2 ⟨q_2,rfl,u04,hb⟩;obtain ⟨K3,RS⟩:=aK hb K3 RS;have si:=hbt wm hb;have RH:=hid u04;clear hb u04;go_wp2_with fail
 with_reducible refine(C3.o _ _ _ RS.o RH.o).mono ?_
 rintro e W3 ⟨bn,rfl,u05,hb⟩;have K3:=hid (K3.o.below hb);have wu:=hbt si hb;have RZ:=hid u05;clear hb u05;obtain ⟨dn,dx,u0a⟩:=aA K3.o rfl rfl rfl;obtain ⟨u06,u07,u0j⟩:=bC K3.o;go_wp2;exact bodyPost_ret (v:=bn.v) (by simp[Lvv,QS.l,Qvv,QS.v,results,results25,go_sem,dn,dx,u0a]) rfl ⟨_,rfl,(bO bn.l 0 RZ.o K3.o (by simp[bJ,Lvv,QS.l]) (by simp[aU,Lvv,QS.l])),(aj (l:=bn.l) (i:=0) (by omega) wu.o)⟩
abbrev KBn (f:Nat) (x:Rat) (b:Bool):Prop:=∀ (q:QS) (W:World),FQ W q x→Calls Tryz.prog f #[.agg #[.bool q.b,.slice q.a q.n q.c,.slice q.e q.m q.d],.int .i64 (-90),.int .i64 90] W (RP W (.bool b))
theorem vP (x lo:Rat)(q1:QS)(w:World)  (h1:KS 24 (.int .i64 (-90)) lo)(h2:KP2 27 x lo (.int .i64 (-1)))(r1:FQ w q1 x) :
 CR 23 #[(QS.v q1),.int .i64 (-90),.int .i64 90] w (.bool false):=by
 dsimp only[QS.v];obtain ⟨C1,C2,R1⟩:=ak h1 h2 r1;clear h1 h2 r1;go_enter func23,ntmps23
 go_upto_region 1 with fail
 refine av w [(q1.l.toArray,49)] rfl ?_;rintro W0 ⟨k1,hb⟩;have wo:=hid (show Below w.heap.size w W0 from hb);have R1:=hid (R1.o.below wo.o);have K1:=hid k1;clear k1 hb;go_wp2_with fail
 refine ay (fun a0 a' V=>∃ (sj:QS),a'=⟨putL [(7,q1.v),(8,.int .i64 (-90)),(9,sj.v),(10,.int .i64 (-1)),(11,.bool false),(12,.bool false),(13,undef),(14,undef),(15,undef),(16,undef),(17,undef),(18,.bool false),(6,.bool false)] a0.tmps,a0.defers⟩∧Below w.heap.size w V) ?_ ?_
 · refine aH 13 0 [7,8,9,10,11,12,13,14,15,16,17,18,6] [Rel.val (q1.v),Rel.val (.int .i64 (-90)),Rel.q lo,Rel.val (.int .i64 (-1)),Rel.val (.bool false),Rel.val (.bool false),Rel.val (undef),Rel.val (undef),Rel.val (undef),Rel.val (undef),Rel.val (undef),Rel.val (.bool false),Rel.val (.bool false)] ?_ ?_
   · intro bq a W i HI hD Hr him
     obtain⟨y3,y1⟩:=HI.o.s2 3 1;obtain⟨sw,rM,bg⟩:=cells3 (K1.o.below HI.o.world);obtain⟨X1,X0,X3,X4,X5,X10⟩:=HI.o.g6 1 8 0 7 3 10 4 11 5 12 10 17;have X11:=HI.o.rg 11 18 rfl
     match i,him,Hr with
     | 0,_,Hi|1,_,Hi|4,_,Hi|5,_,Hi|6,_,Hi|7,_,Hi|8,_,Hi|9,_,Hi|10,_,Hi|11,_,Hi|12,_,Hi =>
       try have x3:=X3.t Hi.o
       try have x4:=X4.t Hi.o
       try have x5:=X5.t Hi.o
       try have x10:=X10.t Hi.o
       try have x11:=X11.t Hi.o
       refine stepH rfl fun K' hK=>?_;go_simp;exact hK.o _ _ (HI.o.pw Hi.o)
     | 2,_,Hi =>
       have x1:=X1.q Hi.o;refine stepH rfl fun K' hK=>?_;go_simp;with_reducible refine(C1.o _).mono ?_
       rintro e W' ⟨sj,rfl,bu,hb⟩;exact hK.o _ _ ⟨HI.o.pc Hi.o hb ⟨sj,rfl,bu⟩,trivial⟩
     | 3,_,Hi =>
       have x0:=X0.q Hi.o;obtain⟨sj,x2,ed⟩:=qAt HI.o 2 9 Hi.o (by kernel_rfl);refine stepH rfl fun K' hK=>?_;go_simp;with_reducible refine(C2.o _ _ _ (R1.o.below HI.o.world) ed.o).mono ?_
       rintro e W' ⟨rfl,hb⟩;exact hK.o _ _ ⟨HI.o.pc Hi.o hb rfl,trivial⟩
     | n+13,h,_=>exact absurd h (by omega)
   · intro bq a W HI hD HA
     obtain⟨sj,x2,ed⟩:=qEnd HI.o HA.o 2 9;have bv:=hid HI.o.world;have bM:=hid (wo.o.trans (bv.o.mono wo.o.size));have RL:=ed;refine aV ?_;exact⟨rfl,sj,(HI.o.finx ⟨HI.o.sx HA.o 0,HI.o.sx HA.o 1,x2,HI.o.sx HA.o 3,HI.o.sx HA.o 4,HI.o.sx HA.o 5,HI.o.sx HA.o 6,HI.o.sx HA.o 7,HI.o.sx HA.o 8,HI.o.sx HA.o 9,HI.o.sx HA.o 10,HI.o.sx HA.o 11,HI.o.sx HA.o 12,trivial⟩ rfl),bM.o⟩
 rintro a' W1 ⟨sj,rfl,z0⟩;have wm:=hid z0;clear z0;simp only[putL,List.setIfInBounds_toArray,List.set_cons_zero,List.set_cons_succ];go_wp2;exact bodyPost_ret (v:=.bool false) (by simp[results,results23,go_sem]) rfl ⟨rfl,wm.o⟩
theorem vO (x lo hi:Rat)(k1 k2:Int)(b:Bool)(q1:QS)(w:World)(f1:decide (0≤k1)=true)(f2:decide (k2≤0)=b)(h1:KS 24 (.int .i64 (-90)) lo)(h2:KP2 27 x lo (.int .i64 k1))(h3:KS 24 (.int .i64 90) hi)(h4:KP2 27 x hi (.int .i64 k2))(r1:FQ w q1 x) :
 CR 23 #[(QS.v q1),.int .i64 (-90),.int .i64 90] w (.bool b):=by
 dsimp only[QS.v];obtain ⟨C1,C2,C3,C4,R1⟩:=bz h1 h2 h3 h4 r1;have g1:=f1;have g2:=f2;clear f1 f2 h1 h2 h3 h4 r1;go_enter func23,ntmps23
 go_upto_region 1 with fail
 refine av w [(q1.l.toArray,49)] rfl ?_;rintro W0 ⟨k1,hb⟩;have wo:=hid (show Below w.heap.size w W0 from hb);have R1:=hid (R1.o.below wo.o);have K1:=hid k1;clear k1 hb;go_wp2_with fail
 refine ay (fun a0 a' V=>∃ (sj:QS) (d9:QS),a'=⟨putL [(7,q1.v),(8,.int .i64 (-90)),(9,sj.v),(10,.int .i64 k1),(11,.bool true),(12,.bool true),(13,q1.v),(14,.int .i64 90),(15,d9.v),(16,.int .i64 k2),(17,.bool b),(18,.bool b),(6,.bool b)] a0.tmps,a0.defers⟩∧Below w.heap.size w V) ?_ ?_
 · refine aH 13 0 [7,8,9,10,11,12,13,14,15,16,17,18,6] [Rel.val (q1.v),Rel.val (.int .i64 (-90)),Rel.q lo,Rel.val (.int .i64 k1),Rel.val (.bool true),Rel.val (.bool true),Rel.val (q1.v),Rel.val (.int .i64 90),Rel.q hi,Rel.val (.int .i64 k2),Rel.val (.bool b),Rel.val (.bool b),Rel.val (.bool b)] ?_ ?_
   · intro bq a W i HI hD Hr him
     obtain⟨y3,y1,y2⟩:=HI.o.s3 3 1 2;obtain⟨sw,rM,bg⟩:=cells3 (K1.o.below HI.o.world);obtain⟨X1,X0,X3,X4,X5,X7⟩:=HI.o.g6 1 8 0 7 3 10 4 11 5 12 7 14;obtain⟨X6,X9,X10⟩:=HI.o.g3 6 13 9 16 10 17;have X11:=HI.o.rg 11 18 rfl
     match i,him,Hr with
     | 0,_,Hi|1,_,Hi|4,_,Hi|5,_,Hi|6,_,Hi|7,_,Hi|10,_,Hi|11,_,Hi|12,_,Hi =>
       try have x3:=X3.t Hi.o
       try have x4:=X4.t Hi.o
       try have x5:=X5.t Hi.o
       try have x9:=X9.t Hi.o
       try have x10:=X10.t Hi.o
       try have x11:=X11.t Hi.o
       refine stepH rfl fun K' hK=>?_;go_simp;exact hK.o _ _ (HI.o.pw Hi.o)
     | 2,_,Hi =>
       have x1:=X1.q Hi.o;refine stepH rfl fun K' hK=>?_;go_simp;with_reducible refine(C1.o _).mono ?_
       rintro e W' ⟨sj,rfl,bu,hb⟩;exact hK.o _ _ ⟨HI.o.pc Hi.o hb ⟨sj,rfl,bu⟩,trivial⟩
     | 3,_,Hi =>
       have x0:=X0.q Hi.o;obtain⟨sj,x2,ed⟩:=qAt HI.o 2 9 Hi.o (by kernel_rfl);refine stepH rfl fun K' hK=>?_;go_simp;with_reducible refine(C2.o _ _ _ (R1.o.below HI.o.world) ed.o).mono ?_
       rintro e W' ⟨rfl,hb⟩;exact hK.o _ _ ⟨HI.o.pc Hi.o hb rfl,trivial⟩
     | 8,_,Hi =>
       have x7:=X7.q Hi.o;have x5:=X5.q Hi.o;refine stepH rfl fun K' hK=>?_;go_simp;with_reducible refine(C3.o _).mono ?_
       rintro e W' ⟨d9,rfl,u0b,hb⟩;exact hK.o _ _ ⟨HI.o.pc Hi.o hb ⟨d9,rfl,u0b⟩,trivial⟩
     | 9,_,Hi =>
       have x6:=X6.q Hi.o;obtain⟨d9,x8,bV⟩:=qAt HI.o 8 15 Hi.o (by kernel_rfl);have x5:=X5.q Hi.o;refine stepH rfl fun K' hK=>?_;go_simp;with_reducible refine(C4.o _ _ _ (R1.o.below HI.o.world) bV.o).mono ?_
       rintro e W' ⟨rfl,hb⟩;exact hK.o _ _ ⟨HI.o.pc Hi.o hb rfl,trivial⟩
     | n+13,h,_=>exact absurd h (by omega)
   · intro bq a W HI hD HA
     obtain⟨sj,x2,ed⟩:=qEnd HI.o HA.o 2 9;obtain⟨d9,x8,bV⟩:=qEnd HI.o HA.o 8 15;have bv:=hid HI.o.world;have bM:=hid (wo.o.trans (bv.o.mono wo.o.size));have RL:=ed;have RH:=bV;refine aV ?_;exact⟨rfl,sj,d9,(HI.o.finx ⟨HI.o.sx HA.o 0,HI.o.sx HA.o 1,x2,HI.o.sx HA.o 3,HI.o.sx HA.o 4,HI.o.sx HA.o 5,HI.o.sx HA.o 6,HI.o.sx HA.o 7,x8,HI.o.sx HA.o 9,HI.o.sx HA.o 10,HI.o.sx HA.o 11,HI.o.sx HA.o 12,trivial⟩ rfl),bM.o⟩
 rintro a' W1 ⟨sj,d9,rfl,z0⟩;have wm:=hid z0;clear z0;simp only[putL,List.setIfInBounds_toArray,List.set_cons_zero,List.set_cons_succ];go_wp2;exact bodyPost_ret (v:=.bool b) (by simp[results,results23,go_sem]) rfl ⟨rfl,wm.o⟩
theorem z4O (a:ByteArray)(n k:Int)(x:Rat)  (w:World)  (h1:KSb 21 (.string a) x false)  :
 CR 6 #[.string a,.int .i64 n,.int .i64 k] w (.tuple #[.agg #[.string ⟨#[]⟩,.string ⟨#[]⟩],.int .i64 1]):=by
 have C1:=hid h1;clear h1;go_enter func6,ntmps6
 go_upto_region 1 with fail
 refine av w [(#[.string ⟨#[]⟩,.string ⟨#[]⟩],25)] rfl ?_;rintro W0 ⟨k1,hb⟩;have wo:=hid (show Below w.heap.size w W0 from hb);have K1:=hid k1;clear k1 hb;go_wp2_with fail
 with_reducible refine(C1.o _).mono ?_
 rintro e W1 ⟨su,rfl,ww,hb⟩;have K1:=hid (K1.o.below hb);have wm:=hbt wo hb;have RX:=hid ww;clear hb ww;go_upto_region 2 with fail
 refine av W1 [(su.l.toArray,49)] rfl ?_;have L1:=K1.o.lt;have L2:=wm.o.size;rintro W2 ⟨k2,hb⟩;have hb:Below W1.heap.size W1 W2:=hb;have K1:=hid (K1.o.below hb);have si:=hbt wm hb;have K2:=hid k2;clear k2 hb;obtain ⟨sw,rM⟩:=aC K1.o rfl rfl;obtain ⟨af,u00⟩:=aS K1.o;go_wp2;exact bodyPost_ret (v:=.tuple #[.agg #[.string ⟨#[]⟩,.string ⟨#[]⟩],.int .i64 1]) (by simp[results,results6,go_sem,sw,rM]) rfl ⟨rfl,(aj (l:=[.string ⟨#[]⟩,.string ⟨#[]⟩]) (i:=0) (by omega) si.o)⟩
theorem z0g (a:ByteArray)(n k:Int)(x:Rat)  (w:World)  (h1:KSb 21 (.string a) x true)(h2:KPs 22 (.int .i64 n) (.bool false))  :
 CR 6 #[.string a,.int .i64 n,.int .i64 k] w (.tuple #[.agg #[.string ⟨#[]⟩,.string ⟨#[]⟩],.int .i64 2]):=by
 have C1:=hid h1;have C2:=hid h2;clear h1 h2;go_enter func6,ntmps6
 go_upto_region 1 with fail
 refine av w [(#[.string ⟨#[]⟩,.string ⟨#[]⟩],25)] rfl ?_;rintro W0 ⟨k1,hb⟩;have wo:=hid (show Below w.heap.size w W0 from hb);have K1:=hid k1;clear k1 hb;go_wp2_with fail
 with_reducible refine(C1.o _).mono ?_
 rintro e W1 ⟨su,rfl,ww,hb⟩;have K1:=hid (K1.o.below hb);have wm:=hbt wo hb;have RX:=hid ww;clear hb ww;go_upto_region 2 with fail
 refine av W1 [(su.l.toArray,49)] rfl ?_;have L1:=K1.o.lt;have L2:=wm.o.size;rintro W2 ⟨k2,hb⟩;have hb:Below W1.heap.size W1 W2:=hb;have K1:=hid (K1.o.below hb);have si:=hbt wm hb;have K2:=hid k2;clear k2 hb;go_wp2_with fail
 with_reducible refine(C2.o _).mono ?_
 rintro e W3 ⟨rfl,hb⟩;have K1:=hid (K1.o.below hb);have wu:=hbt si hb;clear hb;obtain ⟨sw,rM⟩:=aC K1.o rfl rfl;obtain ⟨af,u00⟩:=aS K1.o;go_wp2;exact bodyPost_ret (v:=.tuple #[.agg #[.string ⟨#[]⟩,.string ⟨#[]⟩],.int .i64 2]) (by simp[results,results6,go_sem,sw,rM]) rfl ⟨rfl,(aj (l:=[.string ⟨#[]⟩,.string ⟨#[]⟩]) (i:=0) (by omega) wu.o)⟩
theorem z4P (a:ByteArray)(n k:Int)(x:Rat)  (w:World)  (h1:KSb 21 (.string a) x true)(h2:KPs 22 (.int .i64 n) (.bool true))(h3:KBn 23 x false)  :
 CR 6 #[.string a,.int .i64 n,.int .i64 k] w (.tuple #[.agg #[.string ⟨#[]⟩,.string ⟨#[]⟩],.int .i64 2]):=by
 obtain ⟨C1,C2,C3⟩:=ak h1 h2 h3;clear h1 h2 h3;go_enter func6,ntmps6
 go_upto_region 1 with fail
 refine av w [(#[.string ⟨#[]⟩,.string ⟨#[]⟩],25)] rfl ?_;rintro W0 ⟨k1,hb⟩;have wo:=hid (show Below w.heap.size w W0 from hb);have K1:=hid k1;clear k1 hb;go_wp2_with fail
 with_reducible refine(C1.o _).mono ?_
 rintro e W1 ⟨su,rfl,ww,hb⟩;have K1:=hid (K1.o.below hb);have wm:=hbt wo hb;have RX:=hid ww;clear hb ww;go_upto_region 2 with fail
 refine av W1 [(su.l.toArray,49)] rfl ?_;have L1:=K1.o.lt;have L2:=wm.o.size;rintro W2 ⟨k2,hb⟩;have hb:Below W1.heap.size W1 W2:=hb;obtain ⟨K1,RX⟩:=aK hb K1 RX;have si:=hbt wm hb;have K2:=hid k2;clear k2 hb;go_wp2_with fail
 with_reducible refine(C2.o _).mono ?_
 rintro e W3 ⟨rfl,hb⟩;obtain ⟨K1,K2,RX⟩:=bA hb K1 K2 RX;have wu:=hbt si hb;clear hb;obtain ⟨gy,fq,fQ⟩:=aA K2.o rfl rfl rfl;go_wp2_with fail
 with_reducible refine(C3.o _ _ RX.o).mono ?_
 rintro e W4 ⟨rfl,hb⟩;clear gy fq fQ;have K1:=hid (K1.o.below hb);have rV:=hbt wu hb;clear hb;obtain ⟨sw,rM⟩:=aC K1.o rfl rfl;obtain ⟨af,u00⟩:=aS K1.o;go_wp2;exact bodyPost_ret (v:=.tuple #[.agg #[.string ⟨#[]⟩,.string ⟨#[]⟩],.int .i64 2]) (by simp[results,results6,go_sem,sw,rM]) rfl ⟨rfl,(aj (l:=[.string ⟨#[]⟩,.string ⟨#[]⟩]) (i:=0) (by omega) rV.o)⟩
theorem z4N (a:ByteArray)(n k:Int)(x:Rat)  (w:World)(h9:k<0∨24<k)(h1:KSb 21 (.string a) x true)(h2:KPs 22 (.int .i64 n) (.bool true))(h3:KBn 23 x true)  :
 CR 6 #[.string a,.int .i64 n,.int .i64 k] w (.tuple #[.agg #[.string ⟨#[]⟩,.string ⟨#[]⟩],.int .i64 2]):=by
 rcases h9 with h9|h9<;>(
  obtain ⟨C1,C2,C3⟩:=ak h1 h2 h3;try have g1:decide (k<0)=true:=decide_eq_true (by omega)
  try have g1:decide (k<0)=false:=decide_eq_false (by omega)
  try have g2:k<0:=by omega
  try have g2:¬ k<0:=by omega
  try have g3:decide (24<k)=true:=decide_eq_true (by omega)
  try have g4:24<k:=by omega
  clear h9 h1 h2 h3;go_enter func6,ntmps6
  go_upto_region 1 with fail
  refine av w [(#[.string ⟨#[]⟩,.string ⟨#[]⟩],25)] rfl ?_;rintro W0 ⟨k1,hb⟩;have wo:=hid (show Below w.heap.size w W0 from hb);have K1:=hid k1;clear k1 hb;go_wp2_with fail
  with_reducible refine(C1.o _).mono ?_
  rintro e W1 ⟨su,rfl,ww,hb⟩;have K1:=hid (K1.o.below hb);have wm:=hbt wo hb;have RX:=hid ww;clear hb ww;go_upto_region 2 with fail
  refine av W1 [(su.l.toArray,49)] rfl ?_;have L1:=K1.o.lt;have L2:=wm.o.size;rintro W2 ⟨k2,hb⟩;have hb:Below W1.heap.size W1 W2:=hb;obtain ⟨K1,RX⟩:=aK hb K1 RX;have si:=hbt wm hb;have K2:=hid k2;clear k2 hb;go_wp2_with fail
  with_reducible refine(C2.o _).mono ?_
  rintro e W3 ⟨rfl,hb⟩;obtain ⟨K1,K2,RX⟩:=bA hb K1 K2 RX;have wu:=hbt si hb;clear hb;obtain ⟨gy,fq,fQ⟩:=aA K2.o rfl rfl rfl;go_wp2_with fail
  with_reducible refine(C3.o _ _ RX.o).mono ?_
  rintro e W4 ⟨rfl,hb⟩;clear gy fq fQ;have K1:=hid (K1.o.below hb);have rV:=hbt wu hb;clear hb;obtain ⟨sw,rM⟩:=aC K1.o rfl rfl;obtain ⟨af,u00⟩:=aS K1.o;go_wp2
  exact bodyPost_ret (v:=.tuple #[.agg #[.string ⟨#[]⟩,.string ⟨#[]⟩],.int .i64 2]) (by simp[results,results6,go_sem,sw,rM]) rfl ⟨rfl,(aj (l:=[.string ⟨#[]⟩,.string ⟨#[]⟩]) (i:=0) (by omega) rV.o)⟩)
open Go.Lib (hid)
theorem z0h (a s t:ByteArray)(n:Int)(x:Rat)(K:Nat)(lo hi mid ea eb:Nat→Rat)(cc ee:Nat→Int)(hK:K≤24)(w:World)
 (h1:KSb 21 (.string a) x true) (h2:KPs 22 (.int .i64 n) (.bool true)) (h3:KBn 23 x true)
 (hl:KS 24 (.int .i64 (-1)) (lo 0)) (hh:KS 24 (.int .i64 1) (hi 0))
 (hm:∀ i,i<K→KQ2 25 (lo i) (hi i) (mid i)) (hi':∀ i,i<K→KEn 26 (mid i) (.int .i64 n) (ea i) (eb i))
 (hu:∀ i,i<K→KP2 27 (eb i) x (.int .i64 (cc i))) (hd:∀ i,i<K→KP2 27 (ea i) x (.int .i64 (ee i)))
 (hs:∀ i,i<K→(decide (cc i≤0)=true→lo (i+1)=mid i∧hi (i+1)=hi i)∧(decide (cc i≤0)=false→decide (0<ee i)=true→lo (i+1)=lo i∧hi (i+1)=mid i)∧(decide (cc i≤0)=false→decide (0<ee i)=false→lo i=lo K∧hi i=hi K))
 (ht:KI2 28 (lo K) (hi K) (.agg #[.string s,.string t])) :
 CR 6 #[.string a,.int .i64 n,.int .i64 (K:Int)] w (.tuple #[.agg #[.string s,.string t],.int .i64 0]):=by
 obtain ⟨C1,C2,C3,CL,CH,HM,HI,HU,HD⟩:=bQ h1 h2 h3 hl hh hm hi' hu hd;have HS:=hid hs;have CT:=hid ht;have k1:decide ((K:Int)<0)=false:=decide_eq_false (by omega);have k2:¬ (K:Int)<0:=by omega
 have k3:decide ((24:Int)<(K:Int))=false:=decide_eq_false (by omega);have k4:¬ (24:Int)<(K:Int):=by omega
 clear h1 h2 h3 hl hh hm hi' hu hd hs ht;go_enter func6,ntmps6
 go_upto_region 1 with fail
 refine av w [(#[.string ⟨#[]⟩,.string ⟨#[]⟩],25)] rfl ?_;rintro W0 ⟨k1,hb⟩;have wo:=hid (show Below w.heap.size w W0 from hb);have K1:=hid k1;clear k1 hb;go_wp2_with fail
 with_reducible refine(C1.o _).mono ?_
 rintro e W1 ⟨su,rfl,ww,hb⟩;have K1:=hid (K1.o.below hb);have wm:=hbt wo hb;have RX:=hid ww;clear hb ww;go_upto_region 2 with fail
 refine av W1 [(su.l.toArray,49)] rfl ?_;have L1:=K1.o.lt;have L2:=wm.o.size;rintro W2 ⟨k2,hb⟩;have hb:Below W1.heap.size W1 W2:=hb;obtain ⟨K1,RX⟩:=aK hb K1 RX;have si:=hbt wm hb;have K2:=hid k2;clear k2 hb;go_wp2_with fail
 with_reducible refine(C2.o _).mono ?_
 rintro e W3 ⟨rfl,hb⟩;obtain ⟨K1,K2,RX⟩:=bA hb K1 K2 RX;have wu:=hbt si hb;clear hb;obtain ⟨gy,fq,fQ⟩:=aA K2.o rfl rfl rfl;go_wp2_with fail
 with_reducible refine(C3.o _ _ RX.o).mono ?_
 rintro e W4 ⟨rfl,hb⟩;clear gy fq fQ;obtain ⟨K1,K2,RX⟩:=bA hb K1 K2 RX;have rV:=hbt wu hb;clear hb;go_wp2_with fail
 with_reducible refine(CL.o _).mono ?_
 rintro e W5 ⟨lg,rfl,u08,hb⟩;obtain ⟨K1,K2,RX⟩:=bA hb K1 K2 RX;have dh:=hbt rV hb;have RL:=hid u08;clear hb u08;go_wp2_with fail
 with_reducible refine(CH.o _).mono ?_
 rintro e W6 ⟨ll,rfl,u09,hb⟩;obtain ⟨K1,K2,RX,RL⟩:=bY hb K1 K2 RX RL;have lv:=hbt dh hb;have RH:=hid u09;clear hb u09;go_upto_region 7 with fail
 refine av W6 [(#[.bool lg.b,.slice lg.a lg.n lg.c,.slice lg.e lg.m lg.d,.bool ll.b,.slice ll.a ll.n ll.c,.slice ll.e ll.m ll.d],55)] rfl ?_;have L3:=K1.o.lt;have L4:=K2.o.lt;have L5:=lv.o.size;rintro W7 ⟨k3,hb⟩;have hb:Below W6.heap.size W6 W7:=hb;obtain ⟨K1,K2,RX,RL,RH⟩:=gm hb K1 K2 RX RL RH;have dz:=hbt lv hb;have K3:=hid k3;clear k3 hb;go_wp2;go_loopw [11] (fun ii wr=>∃ kx:Nat,kx≤K∧ii=.int .i64 (kx:Int)∧Hid (Below w.heap.size w wr)∧Hid (SBk wr (w.heap.size) #[.string ⟨#[]⟩,.string ⟨#[]⟩] 25)∧Hid (SBk wr (W1.heap.size) su.l.toArray 49)∧Hid (FQ wr su x)∧∃ ql qh:QS,Hid (SBk wr (W6.heap.size) #[.bool ql.b,.slice ql.a ql.n ql.c,.slice ql.e ql.m ql.d,.bool qh.b,.slice qh.a qh.n qh.c,.slice qh.e qh.m qh.d] 55)∧Hid (FQ wr ql (lo kx))∧Hid (FQ wr qh (hi kx))) (fun ii _=>K-(intOf ii).toNat)
 case atStart=>exact⟨0,by omega,rfl,dz,K1,K2,RX,lg,ll,K3,RL,RH⟩
 case round =>
  obtain⟨kx,hin,rfl,wo,K3,K5,RX,ql,qh,K7,RL,RH⟩:=hrel;have hi0:(0:Int)≤(kx:Int):=by omega
  have wi:IntKind.i64.wrap ((kx:Int)+1)=(kx:Int)+1:=IntWalk.i64_in _ (by omega);by_cases hlt:kx<K
  · have hlt1:(kx:Int)<(K:Int):=by omega
    obtain ⟨CM,CI,CU,CD⟩:=aN (HM.o kx hlt) (HI.o kx hlt) (HU.o kx hlt) (HD.o kx hlt);have ST:=HS.o kx hlt;generalize hc:cc kx=c1 at *;generalize he:ee kx=e1 at *;clear hc he;generalize mid kx=m0 at *;generalize ea kx=a0 at *;generalize eb kx=b0 at *
    cases hc:decide (c1≤0) with
    | true =>
      obtain⟨e1',e2'⟩:=ST.1 hc;obtain ⟨EL,EH⟩:=aB e1' e2';clear ST e1' e2';generalize lo kx=l0 at *;generalize hi kx=h0 at *;obtain ⟨p8,pq,pu,ol,oM,oV⟩:=bE K7.o rfl rfl rfl rfl rfl rfl;go_wp2_with fail
      with_reducible refine(CM.o _ _ _ RL.o RH.o).mono ?_
      rintro e V1 ⟨w9,rfl,kz,hb⟩;clear p8 pq pu ol oM oV;obtain ⟨K3,K5,K7,RX,RL,RH⟩:=kU hb K3 K5 K7 RX RL RH;have wm:=hbt wo hb;have RM:=hid kz;clear hb kz;go_upto_region 11 with fail
      refine av V1 [(w9.l.toArray,49)] rfl ?_;have L6:=K3.o.lt;have L7:=K5.o.lt;have L8:=K7.o.lt;have L9:=wm.o.size;rintro V2 ⟨k61,hb⟩;have hb:Below V1.heap.size V1 V2:=hb;obtain ⟨K3,K5,K7,RX,RL,RH,RM⟩:=iq hb K3 K5 K7 RX RL RH RM;have si:=hbt wm hb;have K61:=hid k61;clear k61 hb;obtain ⟨ny,ma,mf⟩:=aA K61.o rfl rfl rfl;go_wp2_with fail
      with_reducible refine(CI.o _ _ RM.o).mono ?_
      rintro e V3 ⟨u6,uu,rfl,kM,kV,hb⟩;clear ny ma mf;obtain ⟨K3,K5,K7,K61,RX,RL,RH,RM⟩:=jQ hb K3 K5 K7 K61 RX RL RH RM;have wu:=hbt si hb;obtain ⟨RA,RB⟩:=aB kM kV;clear hb kM kV;go_upto_region 12 with fail
      refine av V3 [(#[.bool u6.b,.slice u6.a u6.n u6.c,.slice u6.e u6.m u6.d,.bool uu.b,.slice uu.a uu.n uu.c,.slice uu.e uu.m uu.d],55)] rfl ?_;have L10:=K3.o.lt;have L11:=K5.o.lt;have L12:=K7.o.lt;have L13:=K61.o.lt;have L14:=wu.o.size;rintro V4 ⟨k62,hb⟩;have hb:Below V3.heap.size V3 V4:=hb;obtain ⟨K3,K5,K7,K61,RX,RL,RH,RM,RA⟩:=jd hb K3 K5 K7 K61 RX RL RH RM RA;have RB:=hid (RB.o.below hb);have rV:=hbt wu hb;have K62:=hid k62;clear k62 hb;have dX:=K62.o.cell (i:=3) rfl;have dY:=K62.o.cell (i:=4) rfl;have cO:=K62.o.cell (i:=5) rfl;obtain ⟨mi,l5,l6⟩:=aA K5.o rfl rfl rfl;go_wp2_with fail
      with_reducible refine(CU.o _ _ _ RB.o RX.o).mono ?_
      rintro e V5 ⟨rfl,hb⟩;clear dX dY cO mi l5 l6;obtain ⟨K3,K5,K7,K61,K62,RX,RL,RH,RM⟩:=jd hb K3 K5 K7 K61 K62 RX RL RH RM;obtain ⟨RA,RB⟩:=aK hb RA RB;have dh:=hbt rV hb;clear hb;obtain ⟨ny,ma,mf⟩:=aA K61.o rfl rfl rfl;obtain ⟨p8,pq,pu⟩:=aA K7.o rfl rfl rfl;obtain ⟨u0c,u0d,u0e⟩:=bC K7.o;go_upto_region 9 with fail
      clear ny ma mf p8 u0c pq u0d pu u0e
      refine ib (fun V=>Below w.heap.size w V∧SBk V (w.heap.size) #[.string ⟨#[]⟩,.string ⟨#[]⟩] 25∧SBk V (W1.heap.size) su.l.toArray 49∧SBk V (W6.heap.size) #[.bool w9.b,.slice w9.a w9.n w9.c,.slice w9.e w9.m w9.d,.bool qh.b,.slice qh.a qh.n qh.c,.slice qh.e qh.m qh.d] 55∧SBk V (V1.heap.size) w9.l.toArray 49∧SBk V (V3.heap.size) #[.bool u6.b,.slice u6.a u6.n u6.c,.slice u6.e u6.m u6.d,.bool uu.b,.slice uu.a uu.n uu.c,.slice uu.e uu.m uu.d] 55∧FQ V su x∧FQ V ql l0∧FQ V qh h0∧FQ V w9 m0∧FQ V u6 a0∧FQ V uu b0) (by
       have s0:∀ {q':QS} {x':Rat},FQ V5 q' x'→FQ (storeAll V5 (W6.heap.size) 0 w9.l) q' x':=fun h'=>bO _ 0 h' K7.o (by simp[bJ,Lvv,QS.l]) (by simp[aU,Lvv,QS.l]);have o0:∀ {g':Nat} {cs':Array Value} {T':TypeId},g'≠W6.heap.size→SBk V5 g' cs' T'→SBk (storeAll V5 (W6.heap.size) 0 w9.l) g' cs' T':=fun hg' h'=>bR hg' _ 0 h'
       exact⟨(aj (l:=w9.l) (i:=0) (by omega) dh.o),(o0 (by omega) K3.o),(o0 (by omega) K5.o),(bK (l:=w9.l) (i:=0) K7.o),(o0 (by omega) K61.o),(o0 (by omega) K62.o),(s0 RX.o),(s0 RL.o),(s0 RH.o),(s0 RM.o),(s0 RA.o),(s0 RB.o)⟩) ?_
      rintro V6 ⟨hb,z0,z1,z2,z3,z4,z5,z6,z7,z8,z9,z10⟩;obtain ⟨lv,K3,K5,K7,K61,K62,RX,RL,RH⟩:=bQ hb z0 z1 z2 z3 z4 z5 z6 z7;obtain ⟨RM,RA,RB⟩:=ak z8 z9 z10;clear hb z0 z1 z2 z3 z4 z5 z6 z7 z8 z9 z10;go_wp2;go_roundw
      case rel=>exact⟨kx+1,by omega,by go_num,lv,K3,K5,RX,w9,qh,K7,by rw[EL.o];exact RM,by rw[EH.o];exact RH⟩
      case measure=>simp[intOf];omega
    | false =>
      cases he:decide (0<e1) with
      | true =>
        obtain⟨e1',e2'⟩:=ST.2.1 hc he;obtain ⟨EL,EH⟩:=aB e1' e2';clear ST e1' e2';generalize lo kx=l0 at *;generalize hi kx=h0 at *;obtain ⟨p8,pq,pu,ol,oM,oV⟩:=bE K7.o rfl rfl rfl rfl rfl rfl;go_wp2_with fail
        with_reducible refine(CM.o _ _ _ RL.o RH.o).mono ?_
        rintro e V1 ⟨w9,rfl,kz,hb⟩;clear p8 pq pu ol oM oV;obtain ⟨K3,K5,K7,RX,RL,RH⟩:=kU hb K3 K5 K7 RX RL RH;have wm:=hbt wo hb;have RM:=hid kz;clear hb kz;go_upto_region 11 with fail
        refine av V1 [(w9.l.toArray,49)] rfl ?_;have L6:=K3.o.lt;have L7:=K5.o.lt;have L8:=K7.o.lt;have L9:=wm.o.size;rintro V2 ⟨k61,hb⟩;have hb:Below V1.heap.size V1 V2:=hb;obtain ⟨K3,K5,K7,RX,RL,RH,RM⟩:=iq hb K3 K5 K7 RX RL RH RM;have si:=hbt wm hb;have K61:=hid k61;clear k61 hb;obtain ⟨ny,ma,mf⟩:=aA K61.o rfl rfl rfl;go_wp2_with fail
        with_reducible refine(CI.o _ _ RM.o).mono ?_
        rintro e V3 ⟨u6,uu,rfl,kM,kV,hb⟩;clear ny ma mf;obtain ⟨K3,K5,K7,K61,RX,RL,RH,RM⟩:=jQ hb K3 K5 K7 K61 RX RL RH RM;have wu:=hbt si hb;obtain ⟨RA,RB⟩:=aB kM kV;clear hb kM kV;go_upto_region 12 with fail
        refine av V3 [(#[.bool u6.b,.slice u6.a u6.n u6.c,.slice u6.e u6.m u6.d,.bool uu.b,.slice uu.a uu.n uu.c,.slice uu.e uu.m uu.d],55)] rfl ?_;have L10:=K3.o.lt;have L11:=K5.o.lt;have L12:=K7.o.lt;have L13:=K61.o.lt;have L14:=wu.o.size;rintro V4 ⟨k62,hb⟩;have hb:Below V3.heap.size V3 V4:=hb;obtain ⟨K3,K5,K7,K61,RX,RL,RH,RM,RA⟩:=jd hb K3 K5 K7 K61 RX RL RH RM RA;have RB:=hid (RB.o.below hb);have rV:=hbt wu hb;have K62:=hid k62;clear k62 hb;have dX:=K62.o.cell (i:=3) rfl;have dY:=K62.o.cell (i:=4) rfl;have cO:=K62.o.cell (i:=5) rfl;obtain ⟨mi,l5,l6⟩:=aA K5.o rfl rfl rfl;go_wp2_with fail
        with_reducible refine(CU.o _ _ _ RB.o RX.o).mono ?_
        rintro e V5 ⟨rfl,hb⟩;clear dX dY cO mi l5 l6;obtain ⟨K3,K5,K7,K61,K62,RX,RL,RH,RM⟩:=jd hb K3 K5 K7 K61 K62 RX RL RH RM;obtain ⟨RA,RB⟩:=aK hb RA RB;have dh:=hbt rV hb;clear hb;obtain ⟨u01,u02,u03⟩:=aA K62.o rfl rfl rfl;obtain ⟨mi,l5,l6⟩:=aA K5.o rfl rfl rfl;go_wp2_with fail
        with_reducible refine(CD.o _ _ _ RA.o RX.o).mono ?_
        rintro e V6 ⟨rfl,hb⟩;clear u01 u02 u03 mi l5 l6;obtain ⟨K3,K5,K7,K61,K62,RX,RL,RH,RM⟩:=jd hb K3 K5 K7 K61 K62 RX RL RH RM;obtain ⟨RA,RB⟩:=aK hb RA RB;have lv:=hbt dh hb;clear hb;obtain ⟨ny,ma,mf⟩:=aA K61.o rfl rfl rfl;have ol:=K7.o.cell (i:=3) rfl;have u0f:=K7.o.frozen (i:=3);have oM:=K7.o.cell (i:=4) rfl;have u0g:=K7.o.frozen (i:=4);have oV:=K7.o.cell (i:=5) rfl;have u0h:=K7.o.frozen (i:=5);go_upto_region 9 with fail
        clear ny ma mf ol u0f oM u0g oV u0h
        refine ib (fun V=>Below w.heap.size w V∧SBk V (w.heap.size) #[.string ⟨#[]⟩,.string ⟨#[]⟩] 25∧SBk V (W1.heap.size) su.l.toArray 49∧SBk V (W6.heap.size) #[.bool ql.b,.slice ql.a ql.n ql.c,.slice ql.e ql.m ql.d,.bool w9.b,.slice w9.a w9.n w9.c,.slice w9.e w9.m w9.d] 55∧SBk V (V1.heap.size) w9.l.toArray 49∧SBk V (V3.heap.size) #[.bool u6.b,.slice u6.a u6.n u6.c,.slice u6.e u6.m u6.d,.bool uu.b,.slice uu.a uu.n uu.c,.slice uu.e uu.m uu.d] 55∧FQ V su x∧FQ V ql l0∧FQ V qh h0∧FQ V w9 m0∧FQ V u6 a0∧FQ V uu b0) (by
         have s0:∀ {q':QS} {x':Rat},FQ V6 q' x'→FQ (storeAll V6 (W6.heap.size) 3 w9.l) q' x':=fun h'=>bO _ 3 h' K7.o (by simp[bJ,Lvv,QS.l]) (by simp[aU,Lvv,QS.l]);have o0:∀ {g':Nat} {cs':Array Value} {T':TypeId},g'≠W6.heap.size→SBk V6 g' cs' T'→SBk (storeAll V6 (W6.heap.size) 3 w9.l) g' cs' T':=fun hg' h'=>bR hg' _ 3 h'
         exact⟨(aj (l:=w9.l) (i:=3) (by omega) lv.o),(o0 (by omega) K3.o),(o0 (by omega) K5.o),(bK (l:=w9.l) (i:=3) K7.o),(o0 (by omega) K61.o),(o0 (by omega) K62.o),(s0 RX.o),(s0 RL.o),(s0 RH.o),(s0 RM.o),(s0 RA.o),(s0 RB.o)⟩) ?_
        rintro V7 ⟨hb,z0,z1,z2,z3,z4,z5,z6,z7,z8,z9,z10⟩;obtain ⟨dz,K3,K5,K7,K61,K62,RX,RL,RH⟩:=bQ hb z0 z1 z2 z3 z4 z5 z6 z7;obtain ⟨RM,RA,RB⟩:=ak z8 z9 z10;clear hb z0 z1 z2 z3 z4 z5 z6 z7 z8 z9 z10;go_wp2;go_roundw
        case rel=>exact⟨kx+1,by omega,by go_num,dz,K3,K5,RX,ql,w9,K7,by rw[EL.o];exact RL,by rw[EH.o];exact RM⟩
        case measure=>simp[intOf];omega
      | false =>
        obtain⟨e1',e2'⟩:=ST.2.2 hc he;rw[e1']at RL CM;rw[e2']at RH CM;clear ST e1' e2';generalize lo K=l0 at *;generalize hi K=h0 at *;obtain ⟨p8,pq,pu,ol,oM,oV⟩:=bE K7.o rfl rfl rfl rfl rfl rfl;go_wp2_with fail
        with_reducible refine(CM.o _ _ _ RL.o RH.o).mono ?_
        rintro e V1 ⟨w9,rfl,kz,hb⟩;clear p8 pq pu ol oM oV;obtain ⟨K3,K5,K7,RX,RL,RH⟩:=kU hb K3 K5 K7 RX RL RH;have wm:=hbt wo hb;have RM:=hid kz;clear hb kz;go_upto_region 11 with fail
        refine av V1 [(w9.l.toArray,49)] rfl ?_;have L6:=K3.o.lt;have L7:=K5.o.lt;have L8:=K7.o.lt;have L9:=wm.o.size;rintro V2 ⟨k61,hb⟩;have hb:Below V1.heap.size V1 V2:=hb;obtain ⟨K3,K5,K7,RX,RL,RH,RM⟩:=iq hb K3 K5 K7 RX RL RH RM;have si:=hbt wm hb;have K61:=hid k61;clear k61 hb;obtain ⟨ny,ma,mf⟩:=aA K61.o rfl rfl rfl;go_wp2_with fail
        with_reducible refine(CI.o _ _ RM.o).mono ?_
        rintro e V3 ⟨u6,uu,rfl,kM,kV,hb⟩;clear ny ma mf;obtain ⟨K3,K5,K7,K61,RX,RL,RH⟩:=iq hb K3 K5 K7 K61 RX RL RH;have wu:=hbt si hb;obtain ⟨RA,RB⟩:=aB kM kV;clear hb kM kV;go_upto_region 12 with fail
        refine av V3 [(#[.bool u6.b,.slice u6.a u6.n u6.c,.slice u6.e u6.m u6.d,.bool uu.b,.slice uu.a uu.n uu.c,.slice uu.e uu.m uu.d],55)] rfl ?_;have L10:=K3.o.lt;have L11:=K5.o.lt;have L12:=K7.o.lt;have L13:=K61.o.lt;have L14:=wu.o.size;rintro V4 ⟨k62,hb⟩;have hb:Below V3.heap.size V3 V4:=hb;obtain ⟨K3,K5,K7,RX,RL,RH,RA,RB⟩:=jQ hb K3 K5 K7 RX RL RH RA RB;have rV:=hbt wu hb;have K62:=hid k62;clear k62 hb;have dX:=K62.o.cell (i:=3) rfl;have dY:=K62.o.cell (i:=4) rfl;have cO:=K62.o.cell (i:=5) rfl;obtain ⟨mi,l5,l6⟩:=aA K5.o rfl rfl rfl;go_wp2_with fail
        with_reducible refine(CU.o _ _ _ RB.o RX.o).mono ?_
        rintro e V5 ⟨rfl,hb⟩;clear dX dY cO mi l5 l6;obtain ⟨K3,K5,K7,K62,RX,RL,RH,RA⟩:=jQ hb K3 K5 K7 K62 RX RL RH RA;have dh:=hbt rV hb;clear hb;obtain ⟨u01,u02,u03⟩:=aA K62.o rfl rfl rfl;obtain ⟨mi,l5,l6⟩:=aA K5.o rfl rfl rfl;go_wp2_with fail
        with_reducible refine(CD.o _ _ _ RA.o RX.o).mono ?_
        rintro e V6 ⟨rfl,hb⟩;clear u01 u02 u03 mi l5 l6;obtain ⟨K3,K7,RL,RH⟩:=bY hb K3 K7 RL RH;have lv:=hbt dh hb;clear hb;obtain ⟨p8,pq,pu,ol,oM,oV⟩:=bE K7.o rfl rfl rfl rfl rfl rfl;go_wp2_with fail
        with_reducible refine(CT.o _ _ _ RL.o RH.o).mono ?_
        rintro e V7 ⟨rfl,hb⟩;clear p8 pq pu ol oM oV;have K3:=hid (K3.o.below hb);have dz:=hbt lv hb;clear hb;obtain ⟨dn,dx⟩:=aC K3.o rfl rfl;obtain ⟨u06,u07⟩:=aS K3.o;go_wp2;exact bodyPost_ret (v:=.tuple #[.agg #[.string s,.string t],.int .i64 0]) (by simp[results,results6,go_sem,dn,dx]) rfl ⟨rfl,(aj (l:=[.string s,.string t]) (i:=0) (by omega) dz.o)⟩
  · have hge:decide ((kx:Int)<(K:Int))=false:=by rw[decide_eq_false_iff_not];omega
    obtain rfl:kx=K:=by omega
    generalize lo kx=l0 at *;generalize hi kx=h0 at *;obtain ⟨p8,pq,pu,ol,oM,oV⟩:=bE K7.o rfl rfl rfl rfl rfl rfl;go_wp2_with fail
    with_reducible refine(CT.o _ _ _ RL.o RH.o).mono ?_
    rintro e V1 ⟨rfl,hb⟩;clear p8 pq pu ol oM oV;have K3:=hid (K3.o.below hb);have wm:=hbt wo hb;clear hb;obtain ⟨dn,dx⟩:=aC K3.o rfl rfl;obtain ⟨u06,u07⟩:=aS K3.o;go_wp2;exact bodyPost_ret (v:=.tuple #[.agg #[.string s,.string t],.int .i64 0]) (by simp[results,results6,go_sem,dn,dx]) rfl ⟨rfl,(aj (l:=[.string s,.string t]) (i:=0) (by omega) wm.o)⟩
