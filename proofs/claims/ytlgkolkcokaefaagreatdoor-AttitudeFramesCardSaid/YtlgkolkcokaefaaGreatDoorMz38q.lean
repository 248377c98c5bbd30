/- texts -/
import Derived.Test.YtlgkolkcokaefaaGreatDoorMz31q
import Derived.Test.YtlgkolkcokaefaaGreatDoorSi
import Derived.Test.YtlgkolkcokaefaaGreatDoorSjb
import Derived.Test.YtlgkolkcokaefaaGreatDoorMz36q
import Derived.Test.YtlgkolkcokaefaaGreatDoorSl
set_option maxRecDepth 100000
set_option maxHeartbeats 20000000
open Go.Lib (hid)
namespace Go.Proofs.YtlgkolkcokaefaaGreatDoor
open Go.RowKit Go.Gb
theorem z3V (k xa xb xc za zb zc:Rat)(q1:QS)(q2a q2b q2c:QS)(w:World)  (h1:KQ2 61 k xa za)(h2:KQ2 61 k xb zb)(h3:KQ2 61 k xc zc)(r1:FQ w q1 k)(r2a:FQ w q2a xa)(r2b:FQ w q2b xb)(r2c:FQ w q2c xc) :
 Calls Tryz.prog 66 #[(QS.v q1),(Qvv q2a q2b q2c)] w (Rv3 w za zb zc):=by
 dsimp only[QS.v,Qvv];obtain ⟨C1,C2,C3,R1,R2a,R2b,R2c⟩:=bP h1 h2 h3 r1 r2a r2b r2c;clear h1 h2 h3 r1 r2a r2b r2c;go_enter Tryz.func66,Tryz.ntmps66
 go_upto_region 1 with fail
 refine au w [(#[.bool q1.b,.slice q1.a q1.n q1.c,.slice q1.e q1.m q1.d],53),(#[.bool q2a.b,.slice q2a.a q2a.n q2a.c,.slice q2a.e q2a.m q2a.d,.bool q2b.b,.slice q2b.a q2b.n q2b.c,.slice q2b.e q2b.m q2b.d,.bool q2c.b,.slice q2c.a q2c.n q2c.c,.slice q2c.e q2c.m q2c.d],55),(#[.bool false,.slice none 0 0,.slice none 0 0,.bool false,.slice none 0 0,.slice none 0 0,.bool false,.slice none 0 0,.slice none 0 0],55)] rfl ?_;rintro W0 ⟨k1,k2,k3,hb⟩;have HB0:=hid (show Below w.heap.size w W0 from hb);obtain ⟨R1,R2a,R2b,R2c,K1,K2,K3⟩:=bP (R1.out.below HB0.out) (R2a.out.below HB0.out) (R2b.out.below HB0.out) (R2c.out.below HB0.out) k1 k2 k3;clear k1 k2 k3 hb;go_wp2_with fail
 refine aC (fun a0 a' V=>∃ u00 u01 u02 n1_12a n1_12b n1_12c:QS,a'=⟨putL [(5,q1.v),(6,.pointer (some ⟨w.heap.size+1,0,none⟩)),(7,q2a.v),(8,u00.v),(9,q1.v),(10,.pointer (some ⟨w.heap.size+1,3,none⟩)),(11,q2b.v),(12,u01.v),(13,q1.v),(14,.pointer (some ⟨w.heap.size+1,6,none⟩)),(15,q2c.v),(16,u02.v),(17,Qvv n1_12a n1_12b n1_12c)] a0.tmps,a0.defers⟩∧Below w.heap.size w V∧SBk V (w.heap.size+1+1) #[.bool n1_12a.b,.slice n1_12a.a n1_12a.n n1_12a.c,.slice n1_12a.e n1_12a.m n1_12a.d,.bool n1_12b.b,.slice n1_12b.a n1_12b.n n1_12b.c,.slice n1_12b.e n1_12b.m n1_12b.d,.bool n1_12c.b,.slice n1_12c.a n1_12c.n n1_12c.c,.slice n1_12c.e n1_12c.m n1_12c.d] 55∧FQ V n1_12a za∧FQ V n1_12b zb∧FQ V n1_12c zc) ?_ ?_
 · refine az (by kernel_rfl) 13 1 (fun i=>[5,6,7,8,9,10,11,12,13,14,15,16,17].getD i 0) (RelR [Rel.val (q1.v),Rel.val (.pointer (some ⟨w.heap.size+1,0,none⟩)),Rel.val (q2a.v),Rel.q za,Rel.val (q1.v),Rel.val (.pointer (some ⟨w.heap.size+1,3,none⟩)),Rel.val (q2b.v),Rel.q zb,Rel.val (q1.v),Rel.val (.pointer (some ⟨w.heap.size+1,6,none⟩)),Rel.val (q2c.v),Rel.q zc,Rel.qv za zb zc]) (fun W=>Below W0.heap.size W0 W) (fun _ _=>True) (by kernel_rfl) (by kernel_rfl) (by kernel_rfl) trivial (Below.refl _ _).drew ?_ ?_
   · intro listed a W i hI hD hrd him
     obtain ⟨HI,Hr⟩:=aF hI hrd;clear hI hrd hD;have y2:a.tmps[2]? = some (.pointer (some ⟨w.heap.size,0,none⟩)):=HI.out.rest 2 (by decide);have y3:a.tmps[3]? = some (.pointer (some ⟨w.heap.size+1,0,none⟩)):=HI.out.rest 3 (by decide);obtain⟨dK10,dK11,dK12⟩:=cells3 (K1.out.below HI.out.world);obtain⟨dK20,dK21,dK22,dK23,dK24,dK25,dK26,dK27,dK28⟩:=wW (K2.out.below HI.out.world);have X1:RV _ listed a 1 6 (.pointer (some ⟨w.heap.size+1,0,none⟩)):=HI.out.rh;have X0:RV _ listed a 0 5 (q1.v):=HI.out.rh;have X2:RV _ listed a 2 7 (q2a.v):=HI.out.rh;have X5:RV _ listed a 5 10 (.pointer (some ⟨w.heap.size+1,3,none⟩)):=HI.out.rh;have X4:RV _ listed a 4 9 (q1.v):=HI.out.rh;have X6:RV _ listed a 6 11 (q2b.v):=HI.out.rh;have X9:RV _ listed a 9 14 (.pointer (some ⟨w.heap.size+1,6,none⟩)):=HI.out.rh;have X8:RV _ listed a 8 13 (q1.v):=HI.out.rh;have X10:RV _ listed a 10 15 (q2c.v):=HI.out.rh
     match i,him,Hr with
     | 0,_,Hi|1,_,Hi|2,_,Hi|4,_,Hi|5,_,Hi|6,_,Hi|8,_,Hi|9,_,Hi|10,_,Hi =>
       try have x1:=X1.g Hi.out (by decide +kernel)
       try have x5:=X5.g Hi.out (by decide +kernel)
       try have x9:=X9.g Hi.out (by decide +kernel)
       refine ak rfl fun K' hK=>?_;go_simp;exact hK.out _ _ ⟨HI.out.pv Hi.out rfl,trivial⟩
     | 3,_,Hi =>
       have x0:=X0.g Hi.out (by kernel_rfl);have x2:=X2.g Hi.out (by kernel_rfl);refine ak rfl fun K' hK=>?_;go_simp;with_reducible refine(C1.out _ _ _ (R1.out.below HI.out.world) (R2a.out.below HI.out.world)).mono ?_
       rintro e W' ⟨u00,rfl,u06,hb⟩;exact hK.out _ _ ⟨HI.out.pc Hi.out hb ⟨u00,rfl,u06⟩,trivial⟩
     | 7,_,Hi =>
       have x4:=X4.g Hi.out (by kernel_rfl);have x6:=X6.g Hi.out (by kernel_rfl);refine ak rfl fun K' hK=>?_;go_simp;with_reducible refine(C2.out _ _ _ (R1.out.below HI.out.world) (R2b.out.below HI.out.world)).mono ?_
       rintro e W' ⟨u01,rfl,u07,hb⟩;exact hK.out _ _ ⟨HI.out.pc Hi.out hb ⟨u01,rfl,u07⟩,trivial⟩
     | 11,_,Hi =>
       have x8:=X8.g Hi.out (by kernel_rfl);have x10:=X10.g Hi.out (by kernel_rfl);refine ak rfl fun K' hK=>?_;go_simp;with_reducible refine(C3.out _ _ _ (R1.out.below HI.out.world) (R2c.out.below HI.out.world)).mono ?_
       rintro e W' ⟨u02,rfl,u08,hb⟩;exact hK.out _ _ ⟨HI.out.pc Hi.out hb ⟨u02,rfl,u08⟩,trivial⟩
     | 12,_,Hi =>
       obtain⟨u00,x3,u03⟩:=qAt HI.out 3 8 Hi.out (by kernel_rfl);dsimp only[QS.v]at x3;obtain⟨u01,x7,u04⟩:=qAt HI.out 7 12 Hi.out (by kernel_rfl);dsimp only[QS.v]at x7;obtain⟨u02,x11,u05⟩:=qAt HI.out 11 16 Hi.out (by kernel_rfl);dsimp only[QS.v]at x11;refine ak rfl fun K' hK=>?_;go_simp;exact hK.out _ _ ⟨HI.out.pv Hi.out ⟨u00,u01,u02,rfl,u03.out,u04.out,u05.out⟩,trivial⟩
     | n+13,h,_=>exact absurd h (by omega)
   · intro listed a W hI hD hall
     obtain⟨u00,x3,u03⟩:=qEnd hI hall 3 8;obtain⟨u01,x7,u04⟩:=qEnd hI hall 7 12;obtain⟨u02,x11,u05⟩:=qEnd hI hall 11 16;obtain⟨n1_12a,n1_12b,n1_12c,x12,Rn1_12a,Rn1_12b,Rn1_12c⟩:=z1I hI hall 12 17;obtain ⟨HBW,HI,HA⟩:=ai hI.world hI hall;clear hI hall;obtain ⟨K3,HBX⟩:=aF (K3.out.below HBW.out) (HB0.out.trans (HBW.out.mono HB0.out.size));have RA:=u03;have RB:=u04;have RC:=u05;have N1_12a:=Rn1_12a;have N1_12b:=Rn1_12b;have N1_12c:=Rn1_12c;obtain⟨dK30,dK31,dK32,dK33,dK34,dK35,dK36,dK37,dK38⟩:=wW K3.out;obtain⟨fK30,fK31,fK32,fK33,fK34,fK35,fK36,fK37,fK38⟩:=frz9 K3.out;have y4:a.tmps[4]? = some (.pointer (some ⟨w.heap.size+1+1,0,none⟩)):=HI.out.rest 4 (by decide);dsimp only[Qvv]at x12;refine aS (t:=0) ?_;refine ak rfl fun K' hK=>?_;go_simp;refine hK.out _ _ ?_;clear hK;refine aY ?_;rw[← kZ];have s0:∀ {q':QS} {x':Rat},FQ W q' x'→FQ (storeAll W (w.heap.size+1+1) 0 [.bool n1_12a.b,.slice n1_12a.a n1_12a.n n1_12a.c,.slice n1_12a.e n1_12a.m n1_12a.d,.bool n1_12b.b,.slice n1_12b.a n1_12b.n n1_12b.c,.slice n1_12b.e n1_12b.m n1_12b.d,.bool n1_12c.b,.slice n1_12c.a n1_12c.n n1_12c.c,.slice n1_12c.e n1_12c.m n1_12c.d]) q' x':=fun h'=>gK _ 0 h' K3.out (by simp[bW]) (by simp[bE]);exact⟨rfl,u00,u01,u02,n1_12a,n1_12b,n1_12c,(HI.out.finx ⟨HI.out.sx HA.out 0,HI.out.sx HA.out 1,HI.out.sx HA.out 2,x3,HI.out.sx HA.out 4,HI.out.sx HA.out 5,HI.out.sx HA.out 6,x7,HI.out.sx HA.out 8,HI.out.sx HA.out 9,HI.out.sx HA.out 10,x11,x12,trivial⟩ rfl),(ax (l:=[.bool n1_12a.b,.slice n1_12a.a n1_12a.n n1_12a.c,.slice n1_12a.e n1_12a.m n1_12a.d,.bool n1_12b.b,.slice n1_12b.a n1_12b.n n1_12b.c,.slice n1_12b.e n1_12b.m n1_12b.d,.bool n1_12c.b,.slice n1_12c.a n1_12c.n n1_12c.c,.slice n1_12c.e n1_12c.m n1_12c.d]) (i:=0) (by omega) HBX.out),(jL K3.out),(s0 N1_12a.out),(s0 N1_12b.out),(s0 N1_12c.out)⟩
 rintro a' W1 ⟨u00,u01,u02,n1_12a,n1_12b,n1_12c,rfl,z0,z1,z2,z3,z4⟩;obtain ⟨HB1,K3,N1_12a,N1_12b,N1_12c⟩:=aT z0 z1 z2 z3 z4;clear z0 z1 z2 z3 z4;simp only[putL,List.setIfInBounds_toArray,List.set_cons_zero,List.set_cons_succ];go_wp2;obtain ⟨dK30,dK31,dK32,dK33,dK34,dK35,dK36,dK37,dK38⟩:=dR K3.out rfl rfl rfl rfl rfl rfl rfl rfl rfl;exact bodyPost_ret (v:=.agg #[.bool n1_12a.b,.slice n1_12a.a n1_12a.n n1_12a.c,.slice n1_12a.e n1_12a.m n1_12a.d,.bool n1_12b.b,.slice n1_12b.a n1_12b.n n1_12b.c,.slice n1_12b.e n1_12b.m n1_12b.d,.bool n1_12c.b,.slice n1_12c.a n1_12c.n n1_12c.c,.slice n1_12c.e n1_12c.m n1_12c.d]) (by simp[results,Tryz.results66,go_sem,dK30,dK31,dK32,dK33,dK34,dK35,dK36,dK37,dK38]) rfl ⟨_,_,_,rfl,N1_12a.out,N1_12b.out,N1_12c.out,HB1.out⟩
theorem yV (xa xb xc:Rat)(sao sbo sco:ByteArray)(q1a q1b q1c:QS)(w:World)  (h1:KP1 27 xa (.string sao))(h2:KP1 27 xb (.string sbo))(h3:KP1 27 xc (.string sco))(r1a:FQ w q1a xa)(r1b:FQ w q1b xb)(r1c:FQ w q1c xc) :
 CR 33 #[(Qvv q1a q1b q1c)] w (.agg #[.string sao,.string sbo,.string sco]):=by
 dsimp only[Qvv];obtain ⟨C1,C2,C3,R1a,R1b,R1c⟩:=bT h1 h2 h3 r1a r1b r1c;clear h1 h2 h3 r1a r1b r1c;go_enter Tryz.func33,Tryz.ntmps33
 go_upto_region 1 with fail
 refine au w [(#[.bool q1a.b,.slice q1a.a q1a.n q1a.c,.slice q1a.e q1a.m q1a.d,.bool q1b.b,.slice q1b.a q1b.n q1b.c,.slice q1b.e q1b.m q1b.d,.bool q1c.b,.slice q1c.a q1c.n q1c.c,.slice q1c.e q1c.m q1c.d],55),(#[.string ⟨#[]⟩,.string ⟨#[]⟩,.string ⟨#[]⟩],29)] rfl ?_;rintro W0 ⟨k1,k2,hb⟩;have HB0:=hid (show Below w.heap.size w W0 from hb);obtain ⟨R1a,R1b,R1c,K1,K2⟩:=aT (R1a.out.below HB0.out) (R1b.out.below HB0.out) (R1c.out.below HB0.out) k1 k2;clear k1 k2 hb;go_wp2_with fail
 refine aC (fun a0 a' V=>a'=⟨putL [(3,.pointer (some ⟨w.heap.size,0,none⟩)),(4,q1a.v),(5,.string sao),(6,.pointer (some ⟨w.heap.size,3,none⟩)),(7,q1b.v),(8,.string sbo),(9,.pointer (some ⟨w.heap.size,6,none⟩)),(10,q1c.v),(11,.string sco),(12,.agg #[.string sao,.string sbo,.string sco])] a0.tmps,a0.defers⟩∧Below w.heap.size w V∧SBk V (w.heap.size+1) #[.string sao,.string sbo,.string sco] 29) ?_ ?_
 · refine az (by kernel_rfl) 10 1 (fun i=>[3,4,5,6,7,8,9,10,11,12].getD i 0) (RelR [Rel.val (.pointer (some ⟨w.heap.size,0,none⟩)),Rel.val (q1a.v),Rel.val (.string sao),Rel.val (.pointer (some ⟨w.heap.size,3,none⟩)),Rel.val (q1b.v),Rel.val (.string sbo),Rel.val (.pointer (some ⟨w.heap.size,6,none⟩)),Rel.val (q1c.v),Rel.val (.string sco),Rel.val (.agg #[.string sao,.string sbo,.string sco])]) (fun W=>Below W0.heap.size W0 W) (fun _ _=>True) (by kernel_rfl) (by kernel_rfl) (by kernel_rfl) trivial (Below.refl _ _).drew ?_ ?_
   · intro listed a W i hI hD hrd him
     obtain ⟨HI,Hr⟩:=aF hI hrd;clear hI hrd hD;have y1:a.tmps[1]? = some (.pointer (some ⟨w.heap.size,0,none⟩)):=HI.out.rest 1 (by decide);obtain⟨dK10,dK11,dK12,dK13,dK14,dK15,dK16,dK17,dK18⟩:=wW (K1.out.below HI.out.world);have X0:RV _ listed a 0 3 (.pointer (some ⟨w.heap.size,0,none⟩)):=HI.out.rh;have X1:RV _ listed a 1 4 (q1a.v):=HI.out.rh;have X3:RV _ listed a 3 6 (.pointer (some ⟨w.heap.size,3,none⟩)):=HI.out.rh;have X4:RV _ listed a 4 7 (q1b.v):=HI.out.rh;have X6:RV _ listed a 6 9 (.pointer (some ⟨w.heap.size,6,none⟩)):=HI.out.rh;have X7:RV _ listed a 7 10 (q1c.v):=HI.out.rh;have X2:RV _ listed a 2 5 (.string sao):=HI.out.rh;have X5:RV _ listed a 5 8 (.string sbo):=HI.out.rh;have X8:RV _ listed a 8 11 (.string sco):=HI.out.rh
     match i,him,Hr with
     | 0,_,Hi|1,_,Hi|3,_,Hi|4,_,Hi|6,_,Hi|7,_,Hi|9,_,Hi =>
       try have x0:=X0.g Hi.out (by decide +kernel)
       try have x3:=X3.g Hi.out (by decide +kernel)
       try have x6:=X6.g Hi.out (by decide +kernel)
       try have x2:=X2.g Hi.out (by decide +kernel)
       try have x5:=X5.g Hi.out (by decide +kernel)
       try have x8:=X8.g Hi.out (by decide +kernel)
       refine ak rfl fun K' hK=>?_;go_simp;exact hK.out _ _ ⟨HI.out.pv Hi.out rfl,trivial⟩
     | 2,_,Hi =>
       have x1:=X1.g Hi.out (by kernel_rfl);refine ak rfl fun K' hK=>?_;go_simp;with_reducible refine(C1.out _ _ (R1a.out.below HI.out.world)).mono ?_
       rintro e W' ⟨rfl,hb⟩;exact hK.out _ _ ⟨HI.out.pc Hi.out hb rfl,trivial⟩
     | 5,_,Hi =>
       have x4:=X4.g Hi.out (by kernel_rfl);refine ak rfl fun K' hK=>?_;go_simp;with_reducible refine(C2.out _ _ (R1b.out.below HI.out.world)).mono ?_
       rintro e W' ⟨rfl,hb⟩;exact hK.out _ _ ⟨HI.out.pc Hi.out hb rfl,trivial⟩
     | 8,_,Hi =>
       have x7:=X7.g Hi.out (by kernel_rfl);refine ak rfl fun K' hK=>?_;go_simp;with_reducible refine(C3.out _ _ (R1c.out.below HI.out.world)).mono ?_
       rintro e W' ⟨rfl,hb⟩;exact hK.out _ _ ⟨HI.out.pc Hi.out hb rfl,trivial⟩
     | n+10,h,_=>exact absurd h (by omega)
   · intro listed a W hI hD hall
     have x9:a.tmps[12]? = some (.agg #[.string sao,.string sbo,.string sco]):=hI.sx hall 9;obtain ⟨HBW,HI,HA⟩:=ai hI.world hI hall;clear hI hall;obtain ⟨K2,HBX⟩:=aF (K2.out.below HBW.out) (HB0.out.trans (HBW.out.mono HB0.out.size));obtain⟨dK20,dK21,dK22⟩:=cells3 K2.out;obtain⟨fK20,fK21,fK22⟩:=frz3 K2.out;have y2:a.tmps[2]? = some (.pointer (some ⟨w.heap.size+1,0,none⟩)):=HI.out.rest 2 (by decide);refine aS (t:=0) ?_;refine ak rfl fun K' hK=>?_;go_simp;refine hK.out _ _ ?_;clear hK;refine aY ?_;rw[← jv];exact⟨rfl,(HI.out.finx ⟨HI.out.sx HA.out 0,HI.out.sx HA.out 1,HI.out.sx HA.out 2,HI.out.sx HA.out 3,HI.out.sx HA.out 4,HI.out.sx HA.out 5,HI.out.sx HA.out 6,HI.out.sx HA.out 7,HI.out.sx HA.out 8,x9,trivial⟩ rfl),(ax (l:=[.string sao,.string sbo,.string sco]) (i:=0) (by omega) HBX.out),(dM K2.out)⟩
 rintro a' W1 ⟨rfl,z0,z1⟩;have HB1:=hid z0;have K2:=hid z1;clear z0 z1;simp only[putL,List.setIfInBounds_toArray,List.set_cons_zero,List.set_cons_succ];go_wp2;obtain ⟨dK20,dK21,dK22⟩:=aJ K2.out rfl rfl rfl;exact bodyPost_ret (v:=.agg #[.string sao,.string sbo,.string sco]) (by simp[results,Tryz.results33,go_sem,dK20,dK21,dK22]) rfl ⟨rfl,HB1.out⟩
def LQ (q:Rat):Prop:=aa q.num≤10000∧ag q.den≤10000
theorem z_abs (z:Int):z=if ah z then -(z.natAbs:Int) else (z.natAbs:Int):=by
 unfold ah
 by_cases h:z<0
 · rw[decide_eq_true h,if_pos rfl];omega
 · rw[decide_eq_false h,if_neg (by simp)];omega
theorem z4Q (z:Int)(g:Nat)(hg:g∣z.natAbs):z / (g:Int)=if ah z then -((z.natAbs / g:Nat):Int) else ((z.natAbs / g:Nat):Int):=by
 have hd:(g:Int)∣(z.natAbs:Int):=Int.natCast_dvd_natCast.2 hg;unfold ah
 by_cases h:z<0
 · rw[decide_eq_true h,if_pos rfl]
   have e:z = -(z.natAbs:Int):=by omega
   conv=>lhs;rw[e]
   rw[Int.neg_ediv_of_dvd hd,Int.natCast_ediv]
 · rw[decide_eq_false h,if_neg (by simp),Int.natCast_ediv]
   congr 1
   omega
theorem z1d (z:Int)(n:Nat):z*(n:Int)=if ah z then -((z.natAbs*n:Nat):Int) else ((z.natAbs*n:Nat):Int):=by
 rw[Int.natCast_mul];unfold ah
 by_cases h:z<0
 · rw[decide_eq_true h,if_pos rfl,← Int.neg_mul];congr 1;omega
 · rw[decide_eq_false h,if_neg (by simp)];congr 1;omega
theorem z2z (x y:Rat)(h:x.den=y.den):x+y=mkRat (x.num+y.num) x.den:=by
 rw[jo,← h,← Int.add_mul,Rat.mkRat_mul_right x.den_nz]
theorem jW (a b:Int):aa (a*b)≤aa a+aa b:=by
 unfold aa ag;rw[Int.natAbs_mul];exact gV _ _
theorem jy (a b:Nat):ag (a*b)≤ag a+ag b:=gV a b
theorem vG {a b:Int}{K:Nat}(ha:aa a≤K)(hb:aa b≤K):aa (a+b)≤K+1 :=
 Nat.le_trans (iY (Int.natAbs_add_le a b)) (gW (a:=a.natAbs) (b:=b.natAbs) ha hb)
theorem vF (n:Nat):aa (n:Int)=ag n:=by unfold aa;rw[Int.natAbs_natCast]
theorem uk (z:Int)(dn:Nat)(q:Rat)(hq:mkRat z dn=q)(hd:dn≠0)(hz:aa z≤50000)(hl:ag dn≤50000)(p1:Option Addr)(c1:Nat)(s2:Option Addr)(d2:Nat)(W:World)(r1:RN W (.slice p1 (aa z) c1) z.natAbs)(t2:RN W (.slice s2 (ag dn) d2) dn) :
 Calls Tryz.prog 81 #[.agg #[.bool (ah z),.slice p1 (aa z) c1],.slice s2 (ag dn) d2] W fun e w'=>∃ p c s d,e=.returned (.agg #[.bool (ah q.num),.slice p (aa q.num) c,.slice s (ag q.den) d])∧RN w' (.slice p (aa q.num) c) q.num.natAbs∧RN w' (.slice s (ag q.den) d) q.den∧Below W.heap.size W w':=by
 obtain⟨hn,he⟩:=mr z dn hd;rw[hq]at hn he;obtain⟨g,hg⟩:∃ g,g=Nat.gcd z.natAbs dn:=⟨_,rfl⟩;rw[← hg]at hn he;by_cases g1:g=1
 · rw[g1]at hn he
   have e1:q.num=z:=by rw[hn];simp
   have e2:q.den=dn:=by rw[he];simp
   rw[e1,e2];exact xU z dn hz hl p1 c1 s2 d2 (by rw[← hg,g1]) W r1 t2
 · have g0:g≠0:=by rw[hg];exact Nat.ne_of_gt (Nat.gcd_pos_of_pos_right _ (by omega))
   have hy:=z4Q z g (by rw[hg];exact Nat.gcd_dvd_left _ _);rw[hn,he];by_cases gl:ag g=1
   · exact uq z dn hz hl p1 c1 s2 d2 g _ _ _ _ _ hg.symm g0 g1 gl rfl rfl rfl rfl hy W r1 t2
   · exact ut z dn hz hl p1 c1 s2 d2 g _ _ _ _ _ hg.symm g0 gl rfl rfl rfl rfl hy W r1 t2
theorem z4X (k:Int)(q:Rat)(n:Nat)(hk:(n:Int)=k)(h1:n≤1000000)(hn:q.num=k)(he:q.den=1)  (W:World)  :
 Calls Tryz.prog 45 #[.int .i64 k] W fun e w'=>∃ p c s d,e=.returned (.agg #[.bool (ah q.num),.slice p (aa q.num) c,.slice s (ag q.den) d])∧RN w' (.slice p (aa q.num) c) q.num.natAbs∧RN w' (.slice s (ag q.den) d) q.den∧Below W.heap.size W w':=by
 refine z1H k q.num q.den W (fun W=>?_) (fun W=>?_)
 · rw[hn];exact z4n k n hk (by omega) (by omega) W
 · rw[he];exact qH 1 1 rfl (by decide) W
theorem z4V (x q:Rat)(hq : -x=q)(hx:LQ x)(p1:Option Addr)(c1:Nat)(s1:Option Addr)(d1:Nat)(W:World)(r1:RN W (.slice p1 (aa x.num) c1) x.num.natAbs)(t1:RN W (.slice s1 (ag x.den) d1) x.den) :
 Calls Tryz.prog 73 #[.agg #[.bool (ah x.num),.slice p1 (aa x.num) c1,.slice s1 (ag x.den) d1]] W fun e w'=>∃ p c s d,e=.returned (.agg #[.bool (ah q.num),.slice p (aa q.num) c,.slice s (ag q.den) d])∧RN w' (.slice p (aa q.num) c) q.num.natAbs∧RN w' (.slice s (ag q.den) d) q.den∧Below W.heap.size W w':=by
 subst hq;exact z1E x.num (-x).num x.den p1 c1 s1 d1 W (fun p c W h=>zG x.num _ rfl (Nat.le_trans hx.1 (by decide)) p c W h) r1 t1
theorem z4W (x q:Rat)(hq:x⁻¹=q)(h0:x≠0)(hx:LQ x)(p1:Option Addr)(c1:Nat)(s1:Option Addr)(d1:Nat)(W:World)(r1:RN W (.slice p1 (aa x.num) c1) x.num.natAbs)(t1:RN W (.slice s1 (ag x.den) d1) x.den) :
 Calls Tryz.prog 97 #[.agg #[.bool (ah x.num),.slice p1 (aa x.num) c1,.slice s1 (ag x.den) d1]] W fun e w'=>∃ p c s d,e=.returned (.agg #[.bool (ah q.num),.slice p (aa q.num) c,.slice s (ag q.den) d])∧RN w' (.slice p (aa q.num) c) q.num.natAbs∧RN w' (.slice s (ag q.den) d) q.den∧Below W.heap.size W w':=by
 have hm:q.num=(if ah x.num then -(x.den:Int) else (x.den:Int))∧q.den=x.num.natAbs:=by
  rw[← hq];have hn0:x.num≠0:=fun e=>h0 (Rat.num_eq_zero.1 e);unfold ah
  rcases Int.lt_trichotomy x.num 0 with h|h|h
  · obtain⟨e1,e2⟩:=kG h
    rw[decide_eq_true h,if_pos rfl];exact⟨e1,by omega⟩
  · exact absurd h hn0
  · obtain⟨e1,e2⟩:=nk h
    rw[decide_eq_false (by omega),if_neg (by simp)];exact⟨e1,by omega⟩
 obtain⟨e1,e2⟩:=hm;rw[e2];exact z1G x.num q.num x.den p1 c1 s1 d1 W (fun s d W h=>ma (ah x.num) _ x.den q.num e1 (Nat.le_trans hx.2 (by decide)) W h) r1 t1
theorem z2P (x:Rat)(s:Int)(hs:x.num.sign=s)(p1:Option Addr)(c1:Nat)(s1:Option Addr)(d1:Nat)(W:World)(r1:RN W (.slice p1 (aa x.num) c1) x.num.natAbs)(t1:RN W (.slice s1 (ag x.den) d1) x.den) :
 CR 117 #[.agg #[.bool (ah x.num),.slice p1 (aa x.num) c1,.slice s1 (ag x.den) d1]] W (.int .i64 s):=by
 exact zQ x.num s x.den p1 c1 s1 d1 W (fun p c W h=>uj x.num s hs p c W h) r1 t1
theorem z4o (x y q:Rat)(hq:x*y=q)(hx:LQ x)(hy:LQ y)(p1:Option Addr)(c1:Nat)(s1:Option Addr)(d1:Nat)(p2:Option Addr)(c2:Nat)(s2:Option Addr)(d2:Nat)(W:World)(r1:RN W (.slice p1 (aa x.num) c1) x.num.natAbs)(t1:RN W (.slice s1 (ag x.den) d1) x.den)(r2:RN W (.slice p2 (aa y.num) c2) y.num.natAbs)(t2:RN W (.slice s2 (ag y.den) d2) y.den) :
 Calls Tryz.prog 61 #[.agg #[.bool (ah x.num),.slice p1 (aa x.num) c1,.slice s1 (ag x.den) d1],.agg #[.bool (ah y.num),.slice p2 (aa y.num) c2,.slice s2 (ag y.den) d2]] W fun e w'=>∃ p c s d,e=.returned (.agg #[.bool (ah q.num),.slice p (aa q.num) c,.slice s (ag q.den) d])∧RN w' (.slice p (aa q.num) c) q.num.natAbs∧RN w' (.slice s (ag q.den) d) q.den∧Below W.heap.size W w':=by
 obtain⟨a1,a2⟩:=hx;obtain⟨b1,b2⟩:=hy;have l1:=jW x.num y.num;have l2:=jy x.den y.den
 exact z1F x.num y.num (x.num*y.num) q.num x.den y.den (x.den*y.den) q.den p1 c1 s1 d1 p2 c2 s2 d2 W (fun p1 c1 p2 c2 W h1 h2=>z4m _ _ _ rfl (by omega) (by omega) p1 c1 p2 c2 W h1 h2)
  (fun s1 d1 s2 d2 W h1 h2=>nK _ _ _ _ (by omega) (by omega) W h1 h2)
  (fun p1 c1 s2 d2 W h1 h2=>uk _ _ q (by rw[← hq,j5]) (Nat.mul_ne_zero x.den_nz y.den_nz) (by omega) (by omega) p1 c1 s2 d2 W h1 h2) r1 t1 r2 t2
theorem z4q (x y q:Rat)(hq:x+y=q)(hx:LQ x)(hy:LQ y)(p1:Option Addr)(c1:Nat)(s1:Option Addr)(d1:Nat)(p2:Option Addr)(c2:Nat)(s2:Option Addr)(d2:Nat)(W:World)(r1:RN W (.slice p1 (aa x.num) c1) x.num.natAbs)(t1:RN W (.slice s1 (ag x.den) d1) x.den)(r2:RN W (.slice p2 (aa y.num) c2) y.num.natAbs)(t2:RN W (.slice s2 (ag y.den) d2) y.den) :
 Calls Tryz.prog 67 #[.agg #[.bool (ah x.num),.slice p1 (aa x.num) c1,.slice s1 (ag x.den) d1],.agg #[.bool (ah y.num),.slice p2 (aa y.num) c2,.slice s2 (ag y.den) d2]] W fun e w'=>∃ p c s d,e=.returned (.agg #[.bool (ah q.num),.slice p (aa q.num) c,.slice s (ag q.den) d])∧RN w' (.slice p (aa q.num) c) q.num.natAbs∧RN w' (.slice s (ag q.den) d) q.den∧Below W.heap.size W w':=by
 obtain⟨a1,a2⟩:=hx;obtain⟨b1,b2⟩:=hy;by_cases he:x.den=y.den
 · have l1:=vG a1 b1
   exact zS x.num y.num (x.num+y.num) q.num x.den y.den q.den p1 c1 s1 d1 p2 c2 s2 d2 W (fun s1 d1 s2 d2 W h1 h2=>by
        have h:=cCmp _ _ x.den y.den (by omega) W h1 h2
        rwa [show cmpN x.den y.den=0 by rw[he];unfold cmpN;simp]at h)
    (fun p1 c1 p2 c2 W h1 h2=>z4r _ _ _ rfl (by omega) (by omega) p1 c1 p2 c2 W h1 h2)
    (fun p1 c1 s2 d2 W h1 h2=>uk _ _ q (by rw[← hq,z2z x y he]) x.den_nz (by omega) (by omega) p1 c1 s2 d2 W h1 h2) r1 t1 r2 t2
 · have l1:=jW x.num (y.den:Int)
   have l2:=jW y.num (x.den:Int);have l3:=jy x.den y.den;have l4:=jy x.num.natAbs y.den;have l5:=jy y.num.natAbs x.den;rw[vF]at l1 l2;have l6:=vG (a:=x.num*(y.den:Int)) (b:=y.num*(x.den:Int)) (K:=20000) (by omega) (by omega);have z1:aa x.num=ag x.num.natAbs:=rfl;have z2:aa y.num=ag y.num.natAbs:=rfl
   exact xO x.num y.num (x.num*(y.den:Int)) (y.num*(x.den:Int)) (x.num*(y.den:Int)+y.num*(x.den:Int)) q.num (cmpN x.den y.den) x.den y.den (x.den*y.den) q.den (x.num.natAbs*y.den) (y.num.natAbs*x.den) (fun e=>he (by unfold cmpN at e;split at e<;>first|(split at e<;>first|omega|simp at e)|simp at e))
    p1 c1 s1 d1 p2 c2 s2 d2 W (fun s1 d1 s2 d2 W h1 h2=>cCmp _ _ x.den y.den (by omega) W h1 h2)
    (fun p1 c1 s2 d2 W h1 h2=>nK _ _ _ _ (by omega) (by omega) W h1 h2) (fun s2 d2 W h=>ma _ _ _ _ (z1d x.num y.den) (by omega) W h)
    (fun p1 c1 s2 d2 W h1 h2=>nK _ _ _ _ (by omega) (by omega) W h1 h2) (fun s2 d2 W h=>ma _ _ _ _ (z1d y.num x.den) (by omega) W h)
    (fun p1 c1 p2 c2 W h1 h2=>z4r _ _ _ rfl (by omega) (by omega) p1 c1 p2 c2 W h1 h2)
    (fun s1 d1 s2 d2 W h1 h2=>nK _ _ _ _ (by omega) (by omega) W h1 h2)
    (fun p1 c1 s2 d2 W h1 h2=>uk _ _ q (by rw[← hq,jo]) (Nat.mul_ne_zero x.den_nz y.den_nz) (by omega) (by omega) p1 c1 s2 d2 W h1 h2) r1 t1 r2 t2
theorem z4U (x y q:Rat)(hq:x-y=q)(hx:LQ x)(hy:LQ y)(p1:Option Addr)(c1:Nat)(s1:Option Addr)(d1:Nat)(p2:Option Addr)(c2:Nat)(s2:Option Addr)(d2:Nat)(W:World)(r1:RN W (.slice p1 (aa x.num) c1) x.num.natAbs)(t1:RN W (.slice s1 (ag x.den) d1) x.den)(r2:RN W (.slice p2 (aa y.num) c2) y.num.natAbs)(t2:RN W (.slice s2 (ag y.den) d2) y.den) :
 Calls Tryz.prog 54 #[.agg #[.bool (ah x.num),.slice p1 (aa x.num) c1,.slice s1 (ag x.den) d1],.agg #[.bool (ah y.num),.slice p2 (aa y.num) c2,.slice s2 (ag y.den) d2]] W fun e w'=>∃ p c s d,e=.returned (.agg #[.bool (ah q.num),.slice p (aa q.num) c,.slice s (ag q.den) d])∧RN w' (.slice p (aa q.num) c) q.num.natAbs∧RN w' (.slice s (ag q.den) d) q.den∧Below W.heap.size W w':=by
 have hny:LQ (-y):=⟨by have:=hy.1;unfold aa at *;rwa [show(-y).num = -y.num from rfl,Int.natAbs_neg],hy.2⟩
 exact z1D x.num y.num (-y).num q.num x.den y.den (-y).den q.den p1 c1 s1 d1 p2 c2 s2 d2 W (fun p1 c1 s1 d1 W h1 h2=>z4V y _ rfl hy p1 c1 s1 d1 W h1 h2)
  (fun p1 c1 s1 d1 p2 c2 s2 d2 W h1 h2 h3 h4=>z4q x (-y) q (by rw[← hq,Rat.sub_eq_add_neg]) hx hny p1 c1 s1 d1 p2 c2 s2 d2 W h1 h2 h3 h4) r1 t1 r2 t2
theorem z4p (x y q:Rat)(hq:x / y=q)(h0:y≠0)(hx:LQ x)(hy:LQ y)(p1:Option Addr)(c1:Nat)(s1:Option Addr)(d1:Nat)(p2:Option Addr)(c2:Nat)(s2:Option Addr)(d2:Nat)(W:World)(r1:RN W (.slice p1 (aa x.num) c1) x.num.natAbs)(t1:RN W (.slice s1 (ag x.den) d1) x.den)(r2:RN W (.slice p2 (aa y.num) c2) y.num.natAbs)(t2:RN W (.slice s2 (ag y.den) d2) y.den) :
 Calls Tryz.prog 80 #[.agg #[.bool (ah x.num),.slice p1 (aa x.num) c1,.slice s1 (ag x.den) d1],.agg #[.bool (ah y.num),.slice p2 (aa y.num) c2,.slice s2 (ag y.den) d2]] W fun e w'=>∃ p c s d,e=.returned (.agg #[.bool (ah q.num),.slice p (aa q.num) c,.slice s (ag q.den) d])∧RN w' (.slice p (aa q.num) c) q.num.natAbs∧RN w' (.slice s (ag q.den) d) q.den∧Below W.heap.size W w':=by
 have hny:LQ y⁻¹:=by
  have hn0:y.num≠0:=fun e=>h0 (Rat.num_eq_zero.1 e);rcases Int.lt_trichotomy y.num 0 with h|h|h
  · obtain⟨e1,e2⟩:=kG h
    exact⟨by unfold aa;rw[e1,Int.natAbs_neg,Int.natAbs_natCast];exact hy.2,by rw[show y⁻¹.den=y.num.natAbs by omega];exact hy.1⟩
  · exact absurd h hn0
  · obtain⟨e1,e2⟩:=nk h
    exact⟨by unfold aa;rw[e1,Int.natAbs_natCast];exact hy.2,by rw[show y⁻¹.den=y.num.natAbs by omega];exact hy.1⟩
 exact z1J x.num y.num y⁻¹.num q.num x.den y.den y⁻¹.den q.den p1 c1 s1 d1 p2 c2 s2 d2 W (fun p1 c1 s1 d1 W h1 h2=>z4W y _ rfl h0 hy p1 c1 s1 d1 W h1 h2)
  (fun p1 c1 s1 d1 p2 c2 s2 d2 W h1 h2 h3 h4=>z4o x y⁻¹ q (by rw[← hq,Rat.div_def]) hx hny p1 c1 s1 d1 p2 c2 s2 d2 W h1 h2 h3 h4) r1 t1 r2 t2
theorem z0P (x y:Rat):(x.num.sign<y.num.sign→cmpQ x y = -1)∧(y.num.sign<x.num.sign→cmpQ x y=1):=by
 have hx:=x.den_pos;have hy:=y.den_pos;rw[iH x y _ _ rfl rfl];have key:∀ (a:Int) (n:Nat),0<n→(a*(n:Int)).sign=a.sign:=fun a n hn=>by rw[Int.sign_mul,Int.sign_natCast_of_ne_zero (by omega),Int.mul_one]
 have k1:=key x.num y.den hy;have k2:=key y.num x.den hx;generalize x.num*(y.den:Int)=a at *;generalize y.num*(x.den:Int)=b at *;rw[← k1,← k2];have ha:=Int.sign_trichotomy a
 have lt:a.sign<b.sign→a<b:=by
  intro h
  rcases Int.lt_trichotomy a 0 with h1|h1|h1<;>rcases Int.lt_trichotomy b 0 with h2|h2|h2 <;>
   first|omega|(rw[Int.sign_eq_neg_one_of_neg h1,Int.sign_eq_neg_one_of_neg h2]at h;omega)|(rw[Int.sign_eq_one_of_pos h1,Int.sign_eq_one_of_pos h2]at h;omega)|(rw[Int.sign_eq_one_of_pos h1,Int.sign_eq_neg_one_of_neg h2]at h;omega)|(subst h1;rw[Int.sign_zero,Int.sign_eq_neg_one_of_neg h2]at h;omega)|(subst h2;rw[Int.sign_zero,Int.sign_eq_one_of_pos h1]at h;omega)|(subst h1;subst h2;omega)
 have gt:b.sign<a.sign→b<a:=by
  intro h
  rcases Int.lt_trichotomy a 0 with h1|h1|h1<;>rcases Int.lt_trichotomy b 0 with h2|h2|h2 <;>
   first|omega|(rw[Int.sign_eq_neg_one_of_neg h1,Int.sign_eq_neg_one_of_neg h2]at h;omega)|(rw[Int.sign_eq_one_of_pos h1,Int.sign_eq_one_of_pos h2]at h;omega)|(rw[Int.sign_eq_neg_one_of_neg h1,Int.sign_eq_one_of_pos h2]at h;omega)|(subst h1;rw[Int.sign_zero,Int.sign_eq_one_of_pos h2]at h;omega)|(subst h2;rw[Int.sign_zero,Int.sign_eq_neg_one_of_neg h1]at h;omega)|(subst h1;subst h2;omega)
 constructor
 · intro h;rw[if_pos (lt h)]
 · intro h
   have:=gt h;rw[if_neg (by omega),if_pos this]
theorem z4Y (x y:Rat)(k:Int)(hk:cmpQ x y=k)(hx:LQ x)(hy:LQ y)(p1:Option Addr)(c1:Nat)(s1:Option Addr)(d1:Nat)(p2:Option Addr)(c2:Nat)(s2:Option Addr)(d2:Nat)(W:World)(r1:RN W (.slice p1 (aa x.num) c1) x.num.natAbs)(t1:RN W (.slice s1 (ag x.den) d1) x.den)(r2:RN W (.slice p2 (aa y.num) c2) y.num.natAbs)(t2:RN W (.slice s2 (ag y.den) d2) y.den) :
 CR 96 #[.agg #[.bool (ah x.num),.slice p1 (aa x.num) c1,.slice s1 (ag x.den) d1],.agg #[.bool (ah y.num),.slice p2 (aa y.num) c2,.slice s2 (ag y.den) d2]] W (.int .i64 k):=by
 obtain⟨a1,a2⟩:=hx;obtain⟨b1,b2⟩:=hy;have hS1:=fun p1 c1 s1 d1 W h1 h2=>z2P x _ rfl p1 c1 s1 d1 W h1 h2;have hS2:=fun p1 c1 s1 d1 W h1 h2=>z2P y _ rfl p1 c1 s1 d1 W h1 h2;obtain⟨hlt,hgt⟩:=z0P x y;rcases Int.lt_trichotomy x.num.sign y.num.sign with h|h|h
 · rw[← hk,hlt h]
   exact z3l x.num y.num _ _ x.den y.den h p1 c1 s1 d1 p2 c2 s2 d2 W hS1 hS2 r1 t1 r2 t2
 · rw[← h]at hS2
   have l1:=jW x.num (y.den:Int);have l2:=jW y.num (x.den:Int);rw[vF]at l1 l2;have l4:=jy x.num.natAbs y.den;have l5:=jy y.num.natAbs x.den;have z1:aa x.num=ag x.num.natAbs:=rfl;have z2:aa y.num=ag y.num.natAbs:=rfl
   refine zR x.num y.num _ (x.num*(y.den:Int)) (y.num*(x.den:Int)) k x.den y.den (x.num.natAbs*y.den) (y.num.natAbs*x.den) p1 c1 s1 d1 p2 c2 s2 d2 W hS1 hS2
    (fun p1 c1 s2 d2 W h1 h2=>nK _ _ _ _ (by omega) (by omega) W h1 h2) (fun s2 d2 W h=>ma _ _ _ _ (z1d x.num y.den) (by omega) W h)
    (fun p1 c1 s2 d2 W h1 h2=>nK _ _ _ _ (by omega) (by omega) W h1 h2) (fun s2 d2 W h=>ma _ _ _ _ (z1d y.num x.den) (by omega) W h) (fun p1 c1 p2 c2 W h1 h2=>?_) r1 t1 r2 t2
   have hc:=zCmp _ _ (x.num*(y.den:Int)) (y.num*(x.den:Int)) (show aa _≤50000 by omega) (show aa _≤50000 by omega) W (Rz.mk h1) (Rz.mk h2);rw[show cmpZ (x.num*(y.den:Int)) (y.num*(x.den:Int))=k by rw[← hk,iH x y _ _ rfl rfl];rfl]at hc;exact hc
 · rw[← hk,hgt h]
   exact z3m x.num y.num _ _ x.den y.den h p1 c1 s1 d1 p2 c2 s2 d2 W hS1 hS2 r1 t1 r2 t2
theorem sQTo (q:Rat)(s:ByteArray)(hs:Sq q=s)(hq:SmQ 9000 q)(p1:Option Addr)(c1:Nat)(s1:Option Addr)(d1:Nat)(W:World)(r1:RN W (.slice p1 (aa q.num) c1) q.num.natAbs)(t1:RN W (.slice s1 (ag q.den) d1) q.den) :
 CR 27 #[.agg #[.bool (ah q.num),.slice p1 (aa q.num) c1,.slice s1 (ag q.den) d1]] W (.string s):=by
 have l1:aa q.num≤9000:=fZ hq.1 (by decide);have l2:ag q.den≤9000:=fZ hq.2 (by decide);have z1:(Sn q.num.natAbs).size≤9000:=gZ hq.1 (by decide);have z2:(Sn q.den).size≤9000:=gZ hq.2 (by decide);have z3:(Sz q.num).size≤9001:=jK hq.1 (by decide);have h1:=fun p c W h=>sTo q.num _ rfl (Nat.le_trans l1 (by decide)) (by omega) p c W h;have h2:=fun(s:Option Addr) (d:Nat) W h=>z0Z (.slice s (ag q.den) d) q.den (Nat.le_trans l2 (by decide)) W h;subst hs;by_cases hd:q.den=1
 · unfold Sq
   rw[if_pos hd]
   exact z3k q.num q.den (Sz q.num) p1 c1 s1 d1 W h1 (fun s d W h=>by
    have:=h2 s d W h
    rwa [hd,show Sn 1=⟨#[49]⟩by decide +kernel,← hd]at this) r1 t1
 · unfold Sq
   rw[if_neg hd];refine z1C q.num q.den (Sz q.num) (Sn q.den) _ ?_ ?_ (by omega) (by omega) p1 c1 s1 d1 W h1 h2 r1 t1
   · rw[beq_eq_false_iff_ne]
     intro e;apply hd
     have e2:Sn q.den=Sn 1:=by
       apply ByteArray.ext;apply Array.ext'
       rw[toList_data]at e;rw[e];decide +kernel
     exact z2N e2
   · apply ByteArray.ext;apply Array.ext'
     simp[Sn]
end Go.Proofs.YtlgkolkcokaefaaGreatDoor
